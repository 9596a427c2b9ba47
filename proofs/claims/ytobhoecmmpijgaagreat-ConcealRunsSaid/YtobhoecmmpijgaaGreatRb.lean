/- Plain facts, and what functions give, for the proofs of this seat: several texts in one, each with its own first remark. -/
import Derived.Test.YtobhoecmmpijgaaGreatRa
import Derived.Test.YtobhoecmmpijgaaGreatRows
import Derived.IntWalk
import Derived.Deep.QuietTactic
import Derived.BigQuiet
import Derived.StillTailTactics
import Derived.BigRegion
import Derived.Deep.MidRow
import Derived.Deep.WholeRow
import Derived.Laws.ResultCell

/- Words of mine for memory: a block of n numbers, told by a function of the place. -/
namespace Go.Proofs.YtobhoecmmpijgaaGreat
open Go.RowKit
set_option linter.unusedVariables false

def tabF (n : Nat) (f : Nat → Int) : List Int := (List.range n).map f
theorem tabF_len (n : Nat) (f : Nat → Int) : (tabF n f).length = n := by simp [tabF]
theorem tabF_getD {n : Nat} (f : Nat → Int) {j : Nat} (h : j < n) : (tabF n f).getD j 0 = f j := by simp [tabF, List.getD, h]
theorem tabF_ext {n : Nat} {f g : Nat → Int} (h : ∀ j, j < n → f j = g j) : tabF n f = tabF n g := by
  unfold tabF
  exact List.map_congr_left fun j hj => h j (List.mem_range.1 hj)
theorem tabF_set {n : Nat} (f : Nat → Int) {j : Nat} (h : j < n) (x : Int) : (tabF n f).set j x = tabF n (fun i => if i = j then x else f i) := by
  apply List.ext_getElem?
  intro i
  unfold tabF
  rw [List.getElem?_set]
  by_cases hij : j = i
  · subst hij; simp [h]
  · rw [if_neg hij]
    by_cases hi : i < n
    · simp [hi, show ¬ i = j from fun e => hij e.symm]
    · simp [hi]
/-- Block g is just the n numbers f 0 .. -/
def IFun (w : World) (g : Nat) (t : TypeId) (k : IntKind) (n : Nat) (f : Nat → Int) : Prop := IRow w g t k (tabF n f)
section
variable {w w' : World} {g : Nat} {t : TypeId} {k : IntKind} {n : Nat} {f f' : Nat → Int}
theorem IFun.lt (h : IFun w g t k n f) : g < w.heap.size := IRow.lt h
theorem IFun.cell (h : IFun w g t k n f) {j : Nat} (hj : j < n) : w.cell? ⟨g, j, none⟩ = some (.int k (f j)) := by
  have := IRow.cell h (j := j) (by rw [tabF_len]; exact hj)
  rwa [tabF_getD f hj] at this
theorem IFun.frozen (h : IFun w g t k n f) (j : Nat) : w.frozen? ⟨g, j, none⟩ = false := IRow.frozen h j
theorem IFun.ext (h : IFun w g t k n f) (he : ∀ j, j < n → f j = f' j) : IFun w g t k n f' := by unfold IFun; rw [← tabF_ext he]; exact h
theorem IFun.set (h : IFun w g t k n f) {j : Nat} (hj : j < n) (x : Int) : IFun (w.setCell ⟨g, j, none⟩ (.int k x)) g t k n (fun i => if i = j then x else f i) := by
  have := IRow.set h j x
  rwa [tabF_set f hj] at this
theorem IFun.drewN (h : IFun w g t k n f) (i : Nat) : IFun (w.drewN i) g t k n f := h
theorem IFun.alloc (h : IFun w g t k n f) (o : Obj) : IFun (w.alloc o) g t k n f := IRow.alloc h o
theorem IFun.far (h : IFun w g t k n f) {p : Addr} (hp : g ≠ p.block) (u : Value) : IFun (w.setCell p u) g t k n f := IRow.far h hp u
theorem IFun.below {B : Nat} (h : IFun w g t k n f) (hb : Below B w w') (hg : g < B) : IFun w' g t k n f := IRow.below h hb hg
theorem IFun.zeros (w : World) (t : TypeId) (k : IntKind) (n : Nat) : IFun (w.alloc (.cells (madeCells #[.int k 0] n) t)) w.heap.size t k n (fun _ => 0) := by
  have := IRow.zeros w t k n
  have e : List.replicate n (0 : Int) = tabF n (fun _ => 0) := by
    apply List.ext_getElem?
    intro i
    unfold tabF
    by_cases hi : i < n
    · simp [hi]
    · simp [hi]
  rw [e] at this
  exact this
end
end Go.Proofs.YtobhoecmmpijgaaGreat

/- Words of mine for memory: what a call leaves as it was, but for some blocks. -/
namespace Go.Proofs.YtobhoecmmpijgaaGreat
open Go.RowKit
set_option linter.unusedVariables false

/-- All old blocks but those of F are as they were. -/
structure Keeps (F : Nat → Prop) (w w' : World) : Prop where
  os : w'.os = w.os
  tape : w'.tape = w.tape
  output : w'.output = w.output
  size : w.heap.size ≤ w'.heap.size
  block : ∀ k, k < w.heap.size → ¬ F k → w'.heap[k]? = w.heap[k]?
section
variable {F G : Nat → Prop} {w w' w2 : World}
theorem Keeps.refl (F : Nat → Prop) (w : World) : Keeps F w w := ⟨rfl, rfl, rfl, Nat.le_refl _, fun _ _ _ => rfl⟩
theorem Keeps.trans (h : Keeps F w w') (k : Keeps F w' w2) : Keeps F w w2 :=
  ⟨k.os.trans h.os, k.tape.trans h.tape, k.output.trans h.output, Nat.le_trans h.size k.size, fun i hi hn => (k.block i (Nat.lt_of_lt_of_le hi h.size) hn).trans (h.block i hi hn)⟩
theorem Keeps.mono (h : Keeps F w w') (hi : ∀ k, F k → G k) : Keeps G w w' := ⟨h.os, h.tape, h.output, h.size, fun k hk hn => h.block k hk fun c => hn (hi k c)⟩
theorem Keeps.of_below (h : Below w.heap.size w w') : Keeps F w w' := ⟨h.os, h.tape, h.output, h.size, fun k hk _ => h.block k hk⟩
theorem Keeps.below {B : Nat} (h : Keeps F w w') (hB : B ≤ w.heap.size) (hi : ∀ k, F k → B ≤ k) : Below B w w' :=
  ⟨h.os, h.tape, h.output, h.size, fun k hk => h.block k (by omega) fun c => by have := hi k c; omega⟩
theorem Keeps.of_grown {row : Option Nat} (h : w.grownBy w' row) (hi : ∀ k, row = some k → F k) : Keeps F w w' :=
  ⟨h.os, h.tape, h.output, h.size, fun k hk hn => h.block k hk fun c => hn (hi k c.symm)⟩
theorem Keeps.grown {r : Nat} (h : Keeps F w w') (hg : w'.grownBy w2 (some r)) (hr : F r ∨ w.heap.size ≤ r) : Keeps F w w2 :=
  ⟨hg.os.trans h.os, hg.tape.trans h.tape, hg.output.trans h.output, Nat.le_trans h.size hg.size, fun k hk hn => (hg.block k (Nat.lt_of_lt_of_le hk h.size) (by intro c; injection c with c; subst c; rcases hr with hr | hr; exact hn hr; omega)).trans (h.block k hk hn)⟩
/-- What a second call writes is of F, or new since the first began. -/
theorem Keeps.then_ (h : Keeps F w w') (k : Keeps G w' w2) (hg : ∀ j, G j → F j ∨ w.heap.size ≤ j) : Keeps F w w2 :=
  ⟨k.os.trans h.os, k.tape.trans h.tape, k.output.trans h.output, Nat.le_trans h.size k.size, fun i hi hn => (k.block i (Nat.lt_of_lt_of_le hi h.size) (fun c => by rcases hg i c with d | d; exact hn d; omega)).trans (h.block i hi hn)⟩
theorem Keeps.alloc (h : Keeps F w w') (o : Obj) : Keeps F w (w'.alloc o) := h.trans (.of_below (Below.alloc_new w' o))
theorem Keeps.setCell (h : Keeps F w w') {p : Addr} (hp : F p.block ∨ w.heap.size ≤ p.block) (u : Value) : Keeps F w (w'.setCell p u) :=
  ⟨h.os, h.tape, h.output, Nat.le_trans h.size (by simp [World.setCell]), fun k hk hn => (Below.heap_setCell w' p u k (by rintro rfl; rcases hp with hp | hp; exact hn hp; omega)).trans (h.block k hk hn)⟩
theorem Keeps.drewN (h : Keeps F w w') (n : Nat) : Keeps F w (w'.drewN n) := ⟨h.os, h.tape, h.output, h.size, h.block⟩
end

/-- Block g is just these cells, none frozen: a struct behind a pointer. -/
def Cel (w : World) (g : Nat) (t : TypeId) (cs : Array Value) : Prop := w.heap[g]? = some (.cells cs t (0, 0))
section
variable {w w' : World} {g : Nat} {t : TypeId} {cs : Array Value}
theorem Cel.lt (h : Cel w g t cs) : g < w.heap.size := by
  rcases Nat.lt_or_ge g w.heap.size with hlt | hge
  · exact hlt
  · unfold Cel at h; rw [Array.getElem?_eq_none hge] at h; cases h
theorem Cel.cell (h : Cel w g t cs) (i : Nat) : w.cell? ⟨g, i, none⟩ = cs[i]? := cell_of_row w g i cs t (0, 0) h
theorem Cel.frozen (h : Cel w g t cs) (i : Nat) : w.frozen? ⟨g, i, none⟩ = false := by
  unfold Cel at h
  simp [World.frozen?, h]
theorem Cel.new (w : World) (t : TypeId) (cs : Array Value) : Cel (w.alloc (.cells cs t)) w.heap.size t cs := heap_alloc_new w _
theorem Cel.keep (h : Cel w g t cs) (hk : w'.heap[g]? = w.heap[g]?) : Cel w' g t cs := hk.trans h
theorem Cel.below (h : Cel w g t cs) (hb : Below w.heap.size w w') : Cel w' g t cs := h.keep (hb.block g h.lt)
theorem Cel.keeps {F : Nat → Prop} (h : Cel w g t cs) (hb : Keeps F w w') (hn : ¬ F g) : Cel w' g t cs := h.keep (hb.block g h.lt hn)
theorem Cel.drewN (h : Cel w g t cs) (n : Nat) : Cel (w.drewN n) g t cs := h
theorem Cel.alloc (h : Cel w g t cs) (o : Obj) : Cel (w.alloc o) g t cs := h.below (Below.alloc_new w o)
theorem Cel.far (h : Cel w g t cs) {p : Addr} (hp : g ≠ p.block) (u : Value) : Cel (w.setCell p u) g t cs := (Below.heap_setCell w p u g hp).trans h
theorem Cel.set_ (h : Cel w g t cs) (i : Nat) (u : Value) : Cel (w.setCell ⟨g, i, none⟩ u) g t (cs.setIfInBounds i u) := by
  unfold Cel at h ⊢
  simp [World.setCell, Array.getElem?_modify, h]
end
/-- A row of the call's own, and a block of another type, are two. -/
theorem own_ne_cel {w : World} {base n g size : Nat} {e t : TypeId} {v : Value} {xs : List Value} {cs : Array Value} (h : w.ownsRow base e size v n xs) (hs : Cel w g t cs) (hne : e ≠ t) (k : Nat) (hk : v.ownBlock = some k) : k ≠ g := by
  rintro rfl
  rcases h.2 with ⟨rfl, _⟩ | ⟨g', cap, cur, rfl, _, hh, _⟩
  · simp [Value.ownBlock] at hk
  · simp [Value.ownBlock] at hk
    subst hk
    unfold Cel at hs
    rw [hs] at hh
    injection hh with hh
    injection hh with _ ht
    exact hne ht.symm
/-- A row that is owned stays so where another block is written. -/
theorem own_far {w : World} {base n size : Nat} {e : TypeId} {v : Value} {xs : List Value} (h : w.ownsRow base e size v n xs) {p : Addr} (hp : ∀ k, v.ownBlock = some k → k ≠ p.block) (u : Value) : (w.setCell p u).ownsRow base e size v n xs := by
  refine ⟨h.1, ?_⟩
  rcases h.2 with h0 | ⟨g, cap, cur, h1, h2, h3, h4⟩
  · exact .inl h0
  · exact .inr ⟨g, cap, cur, h1, h2, (Below.heap_setCell w p u g (hp g (by rw [h1]; rfl))).trans h3, h4⟩
theorem own_keeps {w w' : World} {base n size : Nat} {e : TypeId} {v : Value} {xs : List Value} {F : Nat → Prop} (h : w.ownsRow base e size v n xs) (hk : Keeps F w w') (hn : ∀ k, v.ownBlock = some k → ¬ F k) : w'.ownsRow base e size v n xs := by
  refine ⟨h.1, ?_⟩
  rcases h.2 with h0 | ⟨g, cap, cur, h1, h2, h3, h4⟩
  · exact .inl h0
  · have hl := own_lt h g (by rw [h1]; rfl)
    exact .inr ⟨g, cap, cur, h1, h2, (hk.block g hl (hn g (by rw [h1]; rfl))).trans h3, h4⟩
theorem own_drewN {w : World} {base n size : Nat} {e : TypeId} {v : Value} {xs : List Value} (h : w.ownsRow base e size v n xs) (i : Nat) : (w.drewN i).ownsRow base e size v n xs := h
end Go.Proofs.YtobhoecmmpijgaaGreat

/- When a frame knocks: the walks of package coder. -/
namespace Go.Proofs.YtobhoecmmpijgaaGreat
open Go Go.RowKit
set_option linter.unusedVariables false
set_option linter.unusedSimpArgs false

/-- Four greatest samples. -/
def pkV (p : Nat → Int) : Value := .agg #[.int .i64 (p 0), .int .i64 (p 1), .int .i64 (p 2), .int .i64 (p 3)]
theorem pk_next {w : World} {g k q : Nat} {f : Nat → Int} (h : IFun w g 106 .i64 4 (pkF f k)) (hq : k / 128 = q) (h4 : q < 4) {v : Int} (hv : v = max (pkF f k q) (absI (f k))) :
    IFun (w.setCell ⟨g, q, none⟩ (.int .i64 v)) g 106 .i64 4 (pkF f (k + 1)) := by
  refine IFun.ext (h.set h4 v) fun j _ => ?_
  by_cases e : j = q
  · rw [if_pos e, e, hv, pkF_next f hq]
  · rw [if_neg e, pkF_other f (fun c => e (by omega))]
/-- A result that lies in memory. -/
theorem results_cell1 {fn : Func} {p : Tmp} {ty : TypeId} {tmps : Array Value} {P : Program} {w : World} {g : Nat} {v : Value} (h : fn.results = #[.cell p ty]) (hp : tmps.getD p undef = .pointer (some ⟨g, 0, none⟩))
    (e : (loadVar ty ⟨g, 0, none⟩).run P w = .ok v w) : (results fn tmps).run P w = .ok v w := by
  have hp' : tmps[p]?.getD undef = .pointer (some ⟨g, 0, none⟩) := by simpa using hp
  simp only [results, h]
  simp [Sem.run_bind, hp', asAddr, Result.andThen, e]
theorem results_cell2 {fn : Func} {p u : Tmp} {ty : TypeId} {tmps : Array Value} {P : Program} {w : World} {g : Nat} {v v' : Value} (h : fn.results = #[.cell p ty, .tmp u]) (hp : tmps.getD p undef = .pointer (some ⟨g, 0, none⟩)) (hv : tmps.getD u undef = v')
    (e : (loadVar ty ⟨g, 0, none⟩).run P w = .ok v w) : (results fn tmps).run P w = .ok (.tuple #[v, v']) w := by
  rw [results_cell_tmp h, hp, hv]
  simp [asAddr, Result.andThen, e]
theorem info_4 : (Tryz.prog.info? 106).map (·.size) = some 4 := by kernel_rfl
theorem kn_cases {a p : Int} {b : Bool} (h : knB a p = b) : (1000 < p ∧ 8 * a < p ∧ b = true) ∨ (¬ 1000 < p ∧ b = false) ∨ (1000 < p ∧ ¬ 8 * a < p ∧ b = false) := by
  unfold knB at h
  by_cases c : 1000 < p
  · by_cases d : 8 * a < p
    · exact .inl ⟨c, d, by rw [← h]; simp [c, d]⟩
    · exact .inr (.inr ⟨c, d, by rw [← h]; simp [c, d]⟩)
  · exact .inr (.inl ⟨c, by rw [← h]; simp [c]⟩)
theorem alloc_sizeB (w : World) (o : Obj) : (w.alloc o).heap.size = w.heap.size + 1 := Array.size_push _
set_option maxRecDepth 100000 in
theorem cPeaks_any (x cap : Nat) (f : Nat → Int) (w : World) (h : IFun w x 51 .i16 512 f) (hb : ∀ i, i < 512 → -32768 ≤ f i ∧ f i ≤ 32767) :
    Calls Tryz.prog 42 #[.slice (some ⟨x, 0, none⟩) 512 cap] w fun e w' => e = .returned (pkV (peakQ f)) ∧ Below w.heap.size w w' := by
  have HF := Lib.hid h
  have HFb := Lib.hid hb
  clear h hb
  have HS : RowKit.Hid (IFun ((w.alloc (.cells #[.int .i64 0, .int .i64 0, .int .i64 0, .int .i64 0] 106)).alloc (.cells #[.int .i64 0, .int .i64 0, .int .i64 0, .int .i64 0] 106)) (w.heap.size + 1) 106 .i64 4 (pkF f 0) ∧ Cel ((w.alloc (.cells #[.int .i64 0, .int .i64 0, .int .i64 0, .int .i64 0] 106)).alloc (.cells #[.int .i64 0, .int .i64 0, .int .i64 0, .int .i64 0] 106)) w.heap.size 106 #[.int .i64 0, .int .i64 0, .int .i64 0, .int .i64 0] ∧ Below w.heap.size w ((w.alloc (.cells #[.int .i64 0, .int .i64 0, .int .i64 0, .int .i64 0] 106)).alloc (.cells #[.int .i64 0, .int .i64 0, .int .i64 0, .int .i64 0] 106))) := by
    refine ⟨?_, (Cel.new w _ _).alloc _, chain (Below.alloc_new w _) (Below.alloc_new _ _)⟩
    have e := Cel.new (w.alloc (.cells #[.int .i64 0, .int .i64 0, .int .i64 0, .int .i64 0] 106)) 106 #[.int .i64 0, .int .i64 0, .int .i64 0, .int .i64 0]
    rw [alloc_sizeB] at e
    exact IFun.ext (f := fun _ => 0) e fun j _ => (pkF_zero f j).symm
  go_enter Tryz.func42, Tryz.ntmps42
  go_wp2
  generalize ((w.alloc (.cells #[.int .i64 0, .int .i64 0, .int .i64 0, .int .i64 0] 106)).alloc (.cells #[.int .i64 0, .int .i64 0, .int .i64 0, .int .i64 0] 106)) = w1 at HS ⊢
  obtain ⟨g, hg⟩ : ∃ g, g = w.heap.size + 1 := ⟨_, rfl⟩
  obtain ⟨g0, hg0⟩ : ∃ g, g = w.heap.size := ⟨_, rfl⟩
  rw [← hg] at HS ⊢
  rw [← hg0] at HS ⊢
  have xl : x < g0 := by rw [hg0]; exact HF.out.lt
  have ng : g0 ≠ g := by omega
  have HG0 : RowKit.Hid (w.heap.size = g0) := hg0.symm
  have HGG : RowKit.Hid (g0 ≤ g) := by show g0 ≤ g; omega
  clear hg hg0
  go_loopw [9] (fun i wr => ∃ k : Nat, k ≤ 512 ∧ i = .int .i64 (k : Int) ∧ RowKit.Hid (IFun wr g 106 .i64 4 (pkF f k) ∧ Cel wr g0 106 #[.int .i64 0, .int .i64 0, .int .i64 0, .int .i64 0] ∧ Below g0 w wr)) (fun i _ => 512 - (intOf i).toNat)
  case atStart => exact ⟨0, by omega, rfl, HS.out⟩
  case round =>
    obtain ⟨k, hk, rfl, HI⟩ := hrel
    clear HS
    by_cases hlt : k < 512
    · obtain ⟨q, hq⟩ : ∃ q, k / 128 = q := ⟨_, rfl⟩
      have h4 : q < 4 := by omega
      have hqi : ((k : Int)).tdiv 128 = (q : Int) := by rw [← hq]; rfl
      have hqj : ((k : Int)) / 128 = (q : Int) := by rw [← hq]; rfl
      have k1 := (HI.out.2.2.cell (p := ⟨x, k, none⟩) xl).trans (HF.out.cell hlt)
      have o1 := HI.out.1.cell h4
      have f1 := HI.out.1.frozen q
      have HX : RowKit.Hid (∀ v, v = max (pkF f k q) (absI (f k)) → IFun (wr.setCell ⟨g, q, none⟩ (.int .i64 v)) g 106 .i64 4 (pkF f (k + 1)) ∧ Cel (wr.setCell ⟨g, q, none⟩ (.int .i64 v)) g0 106 #[.int .i64 0, .int .i64 0, .int .i64 0, .int .i64 0] ∧ Below g0 w (wr.setCell ⟨g, q, none⟩ (.int .i64 v))) :=
        fun v hv => ⟨pk_next HI.out.1 hq h4 hv, HI.out.2.1.far (p := ⟨g, q, none⟩) ng _, HI.out.2.2.setCell (p := ⟨g, q, none⟩) HGG.out _⟩
      have HM := Lib.hid (absI_max (f k) (pkF f k q))
      obtain ⟨y0, y1⟩ := HFb.out k hlt
      have HP : RowKit.Hid (0 ≤ pkF f k q ∧ pkF f k q ≤ 32768) := by
        show _ ∧ _
        unfold pkF
        exact peakTo_bd fun i hi => HFb.out _ (by omega)
      obtain ⟨z0, z1⟩ := HP.out
      generalize f k = y at k1 y0 y1 HM HX
      generalize pkF f k q = z at o1 z0 z1 HM HX
      have u1 : IntKind.i64.wrap (-y) = -y := IntWalk.i64_in _ (by omega)
      have u2 : IntKind.i64.wrap y = y := IntWalk.i64_in _ (by omega)
      have l1 : (k : Int) < 512 := by omega
      clear hq HI HP
      go_wp2
      go_roundw
      case rel => exact ⟨k + 1, by omega, by go_num, HX.out _ (by rw [← HM.out]; omega)⟩
      case measure => simp [intOf] <;> omega
    · obtain rfl : k = 512 := by omega
      have c0 := HI.out.1.cell (j := 0) (by decide)
      have c1 := HI.out.1.cell (j := 1) (by decide)
      have c2 := HI.out.1.cell (j := 2) (by decide)
      have c3 := HI.out.1.cell (j := 3) (by decide)
      rw [pkF_all f (by decide)] at c0 c1 c2 c3
      have d0 := HI.out.2.1.cell 0
      have d1 := HI.out.2.1.cell 1
      have d2 := HI.out.2.1.cell 2
      have d3 := HI.out.2.1.cell 3
      have e0 := HI.out.2.1.frozen 0
      have e1 := HI.out.2.1.frozen 1
      have e2 := HI.out.2.1.frozen 2
      have e3 := HI.out.2.1.frozen 3
      go_wp2
      refine bodyPost_ret (results_cell1 rfl rfl (run_loadVar_row _ g0 _ _ _ (0, 0) _ ((((HI.out.2.1.set_ 0 _).set_ 1 _).set_ 2 _).set_ 3 _) Tryz.underlying106 rfl info_4)) rfl ⟨rfl, ?_⟩
      rw [HG0.out]
      exact (((HI.out.2.2.setCell (p := ⟨g0, 0, none⟩) (Nat.le_refl _) _).setCell (p := ⟨g0, 1, none⟩) (Nat.le_refl _) _).setCell (p := ⟨g0, 2, none⟩) (Nat.le_refl _) _).setCell (p := ⟨g0, 3, none⟩) (Nat.le_refl _) _
theorem infoC_int : (Tryz.prog.info? 3).map (fun i => (i.zero, i.size, i.bytes)) = some (some (.int .i64 0), 1, 8) := by kernel_rfl
theorem index_4 (zs : Array Value) (k : Nat) (v : Value) (hk : k < 4) (hz : zs[k]? = some v) (hv : v.oneCell' = true) (w : World) : (Instr.index 106 (.agg zs) (.int .i64 (k : Int))).run Tryz.prog w = .ok v w := by
  have hu := Tryz.underlying106
  have he := Tryz.underlying3
  obtain ⟨i, h3, _, h5, _⟩ := info_parts infoC_int
  have h1 : 0 ≤ (k : Int) ∧ (k : Int) < ((4 : Nat) : Int) := by omega
  simp only [Instr.index, asIntOf, Sem.run_bind, Sem.run_pure, Result.andThen_ok, run_underlying hu]
  rw [if_pos h1]
  simp only [part, isAgg, sizeOf, typeInfo, Sem.run_bind, Sem.run_pure, Result.andThen_ok, run_underlying he]
  simp [h3, h5, hz]
set_option maxRecDepth 100000 in
theorem cBrief_any (A p0 p1 p2 p3 : Int) (w : World) (hA : 0 ≤ A ∧ A ≤ 32768) (h0 : 0 ≤ p0 ∧ p0 ≤ 32768) (h1 : 0 ≤ p1 ∧ p1 ≤ 32768) (h2 : 0 ≤ p2 ∧ p2 ≤ 32768) :
    Calls Tryz.prog 44 #[.int .i64 A, .agg #[.int .i64 p0, .int .i64 p1, .int .i64 p2, .int .i64 p3]] w fun e w' => e = .returned (.bool (briefB A p0 p1 p2 p3)) ∧ Below w.heap.size w w' := by
  have HB := Lib.hid (Below.alloc_new w (.cells #[.int .i64 p0, .int .i64 p1, .int .i64 p2, .int .i64 p3] 106))
  obtain ⟨b0, hb0⟩ : ∃ b, b = knB A p0 := ⟨_, rfl⟩
  obtain ⟨b1, hb1⟩ : ∃ b, b = knB p0 p1 := ⟨_, rfl⟩
  obtain ⟨b2, hb2⟩ : ∃ b, b = knB p1 p2 := ⟨_, rfl⟩
  obtain ⟨b3, hb3⟩ : ∃ b, b = knB p2 p3 := ⟨_, rfl⟩
  have HR : RowKit.Hid (briefB A p0 p1 p2 p3 = (b0 || b1 || b2 || b3)) := by show _ = _; rw [hb0, hb1, hb2, hb3]; rfl
  generalize briefB A p0 p1 p2 p3 = R at HR ⊢
  have HK0 : RowKit.Hid (knB A p0 = b0) := hb0.symm
  have HK1 : RowKit.Hid (knB p0 p1 = b1) := hb1.symm
  have HK2 : RowKit.Hid (knB p1 p2 = b2) := hb2.symm
  have HK3 : RowKit.Hid (knB p2 p3 = b3) := hb3.symm
  clear hb0 hb1 hb2 hb3
  have u0 : IntKind.i64.wrap (8 * A) = 8 * A := IntWalk.i64_in _ (by omega)
  have u1 : IntKind.i64.wrap (8 * p0) = 8 * p0 := IntWalk.i64_in _ (by omega)
  have u2 : IntKind.i64.wrap (8 * p1) = 8 * p1 := IntWalk.i64_in _ (by omega)
  have u3 : IntKind.i64.wrap (8 * p2) = 8 * p2 := IntWalk.i64_in _ (by omega)
  have i0 : ∀ w : World, (Instr.index 106 (.agg #[.int .i64 p0, .int .i64 p1, .int .i64 p2, .int .i64 p3]) (.int .i64 0)).run Tryz.prog w = .ok (.int .i64 p0) w := fun w => index_4 _ 0 _ (by decide) rfl rfl w
  have i1 : ∀ w : World, (Instr.index 106 (.agg #[.int .i64 p0, .int .i64 p1, .int .i64 p2, .int .i64 p3]) (.int .i64 1)).run Tryz.prog w = .ok (.int .i64 p1) w := fun w => index_4 _ 1 _ (by decide) rfl rfl w
  have i2 : ∀ w : World, (Instr.index 106 (.agg #[.int .i64 p0, .int .i64 p1, .int .i64 p2, .int .i64 p3]) (.int .i64 2)).run Tryz.prog w = .ok (.int .i64 p2) w := fun w => index_4 _ 2 _ (by decide) rfl rfl w
  have i3 : ∀ w : World, (Instr.index 106 (.agg #[.int .i64 p0, .int .i64 p1, .int .i64 p2, .int .i64 p3]) (.int .i64 3)).run Tryz.prog w = .ok (.int .i64 p3) w := fun w => index_4 _ 3 _ (by decide) rfl rfl w
  go_enter Tryz.func44, Tryz.ntmps44
  go_wp2
  generalize (w.alloc (.cells #[.int .i64 p0, .int .i64 p1, .int .i64 p2, .int .i64 p3] 106)) = w1 at HB ⊢
  go_loopw [0, 4, 8] (fun v _ i wr => ∃ k : Nat, k ≤ 4 ∧ i = .int .i64 (k : Int) ∧ wr = w1 ∧ ((k = 0 ∧ v = .int .i64 A) ∨ (k = 1 ∧ v = .int .i64 p0 ∧ b0 = false) ∨ (k = 2 ∧ v = .int .i64 p1 ∧ b0 = false ∧ b1 = false) ∨ (k = 3 ∧ v = .int .i64 p2 ∧ b0 = false ∧ b1 = false ∧ b2 = false) ∨ (k = 4 ∧ b0 = false ∧ b1 = false ∧ b2 = false ∧ b3 = false))) (fun _ _ i _ => 4 - (intOf i).toNat)
  case atStart => exact ⟨0, by omega, rfl, rfl, .inl ⟨rfl, rfl⟩⟩
  case round =>
    obtain ⟨k, hk, rfl, rfl, ⟨rfl, rfl⟩ | ⟨rfl, rfl, r0⟩ | ⟨rfl, rfl, r0, r1⟩ | ⟨rfl, rfl, r0, r1, r2⟩ | ⟨rfl, r0, r1, r2, r3⟩⟩ := hrel
    · rcases kn_cases HK0.out with ⟨t1, t2, e⟩ | ⟨t1, e⟩ | ⟨t1, t2, e⟩
      · have HE : RowKit.Hid (R = true) := by show _ = _; rw [HR.out, e]; simp
        clear e HK0 HK1 HK2 HK3
        go_wp2
        go_ret
        exact ⟨by rw [HE.out]; rfl, HB.out⟩
      · go_wp2
        go_roundw
        case rel => exact ⟨1, by decide, by go_num, trivial, .inr (.inl ⟨rfl, rfl, e⟩)⟩
        case measure => simp [intOf] <;> omega
      · go_wp2
        go_roundw
        case rel => exact ⟨1, by decide, by go_num, trivial, .inr (.inl ⟨rfl, rfl, e⟩)⟩
        case measure => simp [intOf] <;> omega
    · rcases kn_cases HK1.out with ⟨t1, t2, e⟩ | ⟨t1, e⟩ | ⟨t1, t2, e⟩
      · have HE : RowKit.Hid (R = true) := by show _ = _; rw [HR.out, e]; simp
        clear e HK0 HK1 HK2 HK3
        go_wp2
        go_ret
        exact ⟨by rw [HE.out]; rfl, HB.out⟩
      · go_wp2
        go_roundw
        case rel => exact ⟨2, by decide, by go_num, trivial, .inr (.inr (.inl ⟨rfl, rfl, r0, e⟩))⟩
        case measure => simp [intOf] <;> omega
      · go_wp2
        go_roundw
        case rel => exact ⟨2, by decide, by go_num, trivial, .inr (.inr (.inl ⟨rfl, rfl, r0, e⟩))⟩
        case measure => simp [intOf] <;> omega
    · rcases kn_cases HK2.out with ⟨t1, t2, e⟩ | ⟨t1, e⟩ | ⟨t1, t2, e⟩
      · have HE : RowKit.Hid (R = true) := by show _ = _; rw [HR.out, e]; simp
        clear e HK0 HK1 HK2 HK3
        go_wp2
        go_ret
        exact ⟨by rw [HE.out]; rfl, HB.out⟩
      · go_wp2
        go_roundw
        case rel => exact ⟨3, by decide, by go_num, trivial, .inr (.inr (.inr (.inl ⟨rfl, rfl, r0, r1, e⟩)))⟩
        case measure => simp [intOf] <;> omega
      · go_wp2
        go_roundw
        case rel => exact ⟨3, by decide, by go_num, trivial, .inr (.inr (.inr (.inl ⟨rfl, rfl, r0, r1, e⟩)))⟩
        case measure => simp [intOf] <;> omega
    · rcases kn_cases HK3.out with ⟨t1, t2, e⟩ | ⟨t1, e⟩ | ⟨t1, t2, e⟩
      · have HE : RowKit.Hid (R = true) := by show _ = _; rw [HR.out, e]; simp
        clear e HK0 HK1 HK2 HK3
        go_wp2
        go_ret
        exact ⟨by rw [HE.out]; rfl, HB.out⟩
      · go_wp2
        go_roundw
        case rel => exact ⟨4, by decide, by go_num, trivial, .inr (.inr (.inr (.inr ⟨rfl, r0, r1, r2, e⟩)))⟩
        case measure => simp [intOf] <;> omega
      · go_wp2
        go_roundw
        case rel => exact ⟨4, by decide, by go_num, trivial, .inr (.inr (.inr (.inr ⟨rfl, r0, r1, r2, e⟩)))⟩
        case measure => simp [intOf] <;> omega
    · have HE : RowKit.Hid (R = false) := by show _ = _; rw [HR.out, r0, r1, r2, r3]; rfl
      go_wp2
      go_ret
      exact ⟨by rw [HE.out]; rfl, HB.out⟩
end Go.Proofs.YtobhoecmmpijgaaGreat
