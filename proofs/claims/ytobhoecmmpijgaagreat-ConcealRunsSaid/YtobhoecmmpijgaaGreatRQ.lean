/- Plain facts, and what functions give, for the proofs of this seat: several texts in one, each with its own first remark. -/
import Derived.Test.YtobhoecmmpijgaaGreatRP
import Derived.Test.YtobhoecmmpijgaaGreatRO

/- A player's state in numbers, and how it lies in memory: the program's and the document's. -/
namespace Go.Proofs.YtobhoecmmpijgaaGreat
open Go Go.RowKit
set_option linter.unusedVariables false
set_option linter.unusedSimpArgs false

structure P14 where
  has : Bool
  ah : Nat → Int
  l : Nat → Int
  br : Bool
  left : Nat → Int
structure P14.Ok (S : P14) : Prop where
  ah : CutOk S.ah
  l : ∀ j, j < 512 → -33554432 ≤ S.l j ∧ S.l j ≤ 33554431
  left : ∀ j, j < 128 → (S.left j).natAbs ≤ 1073741000
def p14Zero : P14 := ⟨false, fun _ => 0, fun _ => 0, false, fun _ => 0⟩
theorem p14Zero_ok : p14Zero.Ok := ⟨CutOk.zero, fun _ _ => by show (-33554432 : Int) ≤ 0 ∧ (0 : Int) ≤ 33554431; decide, fun _ _ => by show (0 : Int).natAbs ≤ 1073741000; decide⟩
/-- Behind a payload that is played. -/
noncomputable def P14.play (S : P14) (b : List Int) (n : Int) : P14 := ⟨true, plL b S.ah, heldF (plOut b S.ah n), plB b == 1, leftF (plB b == 1) (heldF (plOut b S.ah n))⟩
noncomputable def P14.plays (S : P14) (b : List Int) (n : Int) : Nat → Int := samplesF (plB b == 1) (heldF (plOut b S.ah n)) S.left
noncomputable def P14.fade (S : P14) : P14 := ⟨true, S.ah, halfF S.l, S.br, leftF S.br (halfF S.l)⟩
noncomputable def P14.fades (S : P14) : Nat → Int := samplesF S.br (halfF S.l) S.left
def P14.may (S : P14) (b : List Int) : Prop := plOk b S.has S.ah
theorem held_left {f : Nat → Int} (b : Bool) {j : Nat} (hj : j < 128) (h : ∀ j, j < 512 → -33554432 ≤ f j ∧ f j ≤ 33554431) : (leftF b f j).natAbs ≤ 1073741000 :=
  leftF_abs (fun i hi => by have := h i hi; omega) _ hj
theorem P14.Ok.fade {S : P14} (h : S.Ok) : S.fade.Ok := ⟨h.ah, fun j hj => halfF_bd (h.l j hj), fun j hj => held_left _ hj fun i hi => halfF_bd (h.l i hi)⟩
theorem P14.Ok.play {S : P14} {b : List Int} (hm : S.may b) (n : Int) : (S.play b n).Ok := ⟨plL_ok hm.2.1, fun j _ => heldF_bd _ j, fun j hj => held_left _ hj fun i _ => heldF_bd _ i⟩

/-! ### The program's player -/
def plyC (s : Nat) (cv lv : Value) (br : Bool) : Array Value := #[.pointer (some ⟨s, 0, none⟩), cv, lv, .bool br]
theorem plyC_at {w : World} {g s : Nat} {cv lv : Value} {br : Bool} (h : Cel w g 105 (plyC s cv lv br)) :
    w.cell? ⟨g, 0, none⟩ = some (.pointer (some ⟨s, 0, none⟩)) ∧ w.cell? ⟨g, 1, none⟩ = some cv ∧ w.cell? ⟨g, 2, none⟩ = some lv ∧ w.cell? ⟨g, 3, none⟩ = some (.bool br) :=
  ⟨h.cell 0, h.cell 1, h.cell 2, h.cell 3⟩
/-- A frame that is kept, or none. -/
def FrmIn (w : World) (cv lv : Value) (br : Bool) (S : P14) : Prop :=
  (S.has = false ∧ cv = .slice none 0 0 ∧ lv = .slice none 0 0 ∧ br = false) ∨ (S.has = true ∧ br = S.br ∧ ∃ c x, cv = .slice (some ⟨c, 0, none⟩) 21 21 ∧ lv = .slice (some ⟨x, 0, none⟩) 512 512 ∧ CutAt w c S.ah ∧ IFun w x 21 .i32 512 S.l)
theorem FrmIn.keeps {F : Nat → Prop} {w w' : World} {cv lv : Value} {br : Bool} {S : P14} (h : FrmIn w cv lv br S) (hk : Keeps F w w') (hn : ∀ j t cs, F j → Cel w j t cs → t ≠ 3 ∧ t ≠ 21) : FrmIn w' cv lv br S := by
  rcases h with h | ⟨h1, h2, c, x, h3, h4, h5, h6⟩
  · exact .inl h
  · refine .inr ⟨h1, h2, c, x, h3, h4, ?_, ?_⟩
    · obtain ⟨cs, hc⟩ := h5.cel
      exact Cel.keeps h5 hk fun e => (hn _ _ _ e hc).1 rfl
    · obtain ⟨cs, hc⟩ := h6.cel
      exact Cel.keeps h6 hk fun e => (hn _ _ _ e hc).2 rfl
theorem FrmIn.below {w w' : World} {cv lv : Value} {br : Bool} {S : P14} (h : FrmIn w cv lv br S) (hb : Below w.heap.size w w') : FrmIn w' cv lv br S := h.keeps (F := fun _ => False) (.of_below hb) fun _ _ _ c => c.elim
structure PlyIn (w : World) (p s cs ps qs : Nat) (cv lv : Value) (br : Bool) (S : P14) : Prop where
  e : Cel w p 105 (plyC s cv lv br)
  s : OvAt 155 .i32 w s cs ps qs S.left
  f : FrmIn w cv lv br S
def PlyAt (w : World) (p s : Nat) (S : P14) : Prop := ∃ cs ps qs cv lv br, PlyIn w p s cs ps qs cv lv br S
theorem PlyAt.keepsN {w w' : World} {p s : Nat} {S : P14} {F : Nat → Prop} (h : PlyAt w p s S) (hk : Keeps F w w')
    (hF : ∀ j, F j → j ≠ p ∧ j ≠ s ∧ ∃ t, Typ w j t ∧ t ≠ 222 ∧ t ≠ 220 ∧ t ≠ 3 ∧ t ≠ 21) : PlyAt w' p s S := by
  obtain ⟨cs, ps, qs, cv, lv, br, h⟩ := h
  have n : ∀ {g c m : Nat}, TrAt w g c m → ¬ F g ∧ ¬ F c := fun ht => ⟨fun e => by
    obtain ⟨_, _, t', c', h1, h2, _⟩ := hF _ e
    exact (Cel.typ ht.1).ne c' h1.symm rfl, fun e => by
    obtain ⟨_, _, t', c', h1, h2, _⟩ := hF _ e
    obtain ⟨vs, hc⟩ := ht.2.cel
    exact (Cel.typ hc).ne c' h2.symm rfl⟩
  refine ⟨cs, ps, qs, cv, lv, br, h.e.keeps hk (fun e => (hF _ e).1 rfl), ?_, ?_⟩
  · exact ⟨h.s.1.keeps hk (fun e => (hF _ e).2.1 rfl), h.s.2.1.keeps hk (n h.s.2.1).1 (n h.s.2.1).2, h.s.2.2.keeps hk (n h.s.2.2).1 (n h.s.2.2).2⟩
  · exact h.f.keeps hk fun j t cs' hj hc => by
      obtain ⟨_, _, t', c', x⟩ := hF j hj
      have e : t = t' := Classical.byContradiction fun hne => (Cel.typ hc).ne c' hne rfl
      subst e
      exact x.2.2
theorem PlyAt.typs {w : World} {p s : Nat} {S : P14} (h : PlyAt w p s S) : Typ w p 105 ∧ Typ w s 155 := by
  obtain ⟨cs, ps, qs, cv, lv, br, h⟩ := h
  exact ⟨Cel.typ h.e, Cel.typ h.s.1⟩
theorem PlyAt.keeps {w w' : World} {p s : Nat} {S : P14} {F : Nat → Prop} (h : PlyAt w p s S) (hk : Keeps F w w')
    (hF : ∀ j, F j → ∃ t, Typ w j t ∧ t ≠ 222 ∧ t ≠ 220 ∧ t ≠ 105 ∧ t ≠ 155 ∧ t ≠ 3 ∧ t ≠ 21) : PlyAt w' p s S :=
  h.keepsN hk fun j hj => by
    obtain ⟨t, ht, h1, h2, h3, h4, h5⟩ := hF j hj
    exact ⟨ht.ne h.typs.1 h3, ht.ne h.typs.2 h4, t, ht, h1, h2, h5⟩
theorem PlyAt.below {w w' : World} {p s : Nat} {S : P14} (h : PlyAt w p s S) (b : Below w.heap.size w w') : PlyAt w' p s S := h.keeps (F := fun _ => False) (Keeps.of_below b) fun _ c => c.elim
theorem PlyAt.drewN {w : World} {p s : Nat} {S : P14} (h : PlyAt w p s S) (n : Nat) : PlyAt (w.drewN n) p s S := h.below (Below.drewN' (Below.refl _ _) n)

/-! ### The document's player -/
structure RlyIn (w : World) (p C x xo : Nat) (a : Option Addr) (alen acap : Nat) (vt : Value) (br : Bool) (S : P14) : Prop where
  e : Cel w p 74 (plC C (.slice (some ⟨x, xo, none⟩) 128 128) (.slice a alen acap) S.has vt br)
  c : IFun w C 2 .i64 1025 cosN
  x : NumAt w x xo 128 2 .i64 S.left
  h : S.has = true → IntsAt w w.heap.size .i64 a 21 (tabF 21 S.ah) ∧ alen = 21 ∧ br = S.br ∧ ∃ y c8, vt = .slice (some ⟨y, 0, none⟩) 512 c8 ∧ NumAt w y 0 512 2 .i64 S.l
  t : ∃ ta tn tc, vt = .slice ta tn tc
def RlyAt (w : World) (p : Nat) (S : P14) : Prop := ∃ C x xo a alen acap vt br, RlyIn w p C x xo a alen acap vt br S
/-- Cells that are no twenty-one numbers beside each other. -/
def OddC (cs : Array Value) : Prop := cs.size < 21 ∨ ∀ (i : Nat) (x : Int), cs[i]? ≠ some (Value.int IntKind.i64 x)
theorem ints_odd {w : World} {B r off m : Nat} {zs : List Int} {t : TypeId} {cs : Array Value} {a : Option Addr} (h : IntsAt w B .i64 a 21 zs) (k : Cel w m t cs) (hc : OddC cs) (ha : a = some ⟨r, off, none⟩) : r ≠ m := by
  rcases hc with hc | hc
  · exact ints_long h k hc ha
  · rintro rfl
    obtain ⟨b', off', e, _, _, hcell⟩ := h.at_ (j := 0) (by decide)
    rw [ha] at e
    injection e with e
    injection e with e1 e2
    subst e1
    subst e2
    rw [k.cell] at hcell
    exact hc _ _ hcell
theorem oddC_syn {c p q : Nat} {f : Nat → Int} : OddC (ovlL .i32 c p q f).toArray := .inr fun i x h => by
  have hm : (Value.int .i64 x) ∈ ovlL .i32 c p q f := by
    rw [List.getElem?_toArray] at h
    exact List.mem_of_getElem? h
  unfold ovlL at hm
  simp at hm
theorem RlyAt.keeps {w w' : World} {p : Nat} {S : P14} {F : Nat → Prop} (h : RlyAt w p S) (hk : Keeps F w w')
    (hF : ∀ j, F j → ∃ t cs, Cel w j t cs ∧ t ≠ 74 ∧ t ≠ 2 ∧ OddC cs) : RlyAt w' p S := by
  obtain ⟨C, x, xo, a, alen, acap, vt, br, h⟩ := h
  have n1 : ∀ {j : Nat}, Typ w j 74 → ¬ F j := fun hc hf => by obtain ⟨t', cs', c', x⟩ := hF _ hf; exact hc.ne (Cel.typ c') x.1.symm rfl
  have n2 : ∀ {j : Nat}, Typ w j 2 → ¬ F j := fun hc hf => by obtain ⟨t', cs', c', x⟩ := hF _ hf; exact hc.ne (Cel.typ c') x.2.1.symm rfl
  refine ⟨C, x, xo, a, alen, acap, vt, br, h.e.keeps hk (n1 (Cel.typ h.e)), Cel.keeps h.c hk (n2 (Cel.typ h.c)), h.x.keeps hk (n2 h.x.1), fun e => ?_, h.t⟩
  obtain ⟨h1, h2, h3, y, c8, h4, h5⟩ := h.h e
  refine ⟨(h1.keeps hk (Nat.le_refl _) fun r off ea _ _ hf => ?_).grow hk.size, h2, h3, y, c8, h4, h5.keeps hk (n2 h5.1)⟩
  obtain ⟨t', cs', c', x⟩ := hF _ hf
  exact ints_odd h1 c' x.2.2 ea rfl
theorem RlyAt.below {w w' : World} {p : Nat} {S : P14} (h : RlyAt w p S) (b : Below w.heap.size w w') : RlyAt w' p S := h.keeps (F := fun _ => False) (Keeps.of_below b) fun _ c => c.elim
theorem RlyAt.drewN {w : World} {p : Nat} {S : P14} (h : RlyAt w p S) (n : Nat) : RlyAt (w.drewN n) p S := h.below (Below.drewN' (Below.refl _ _) n)
theorem RlyAt.cel {w : World} {p : Nat} {S : P14} (h : RlyAt w p S) : ∃ cs, Cel w p 74 cs ∧ cs.size < 21 := by
  obtain ⟨C, x, xo, a, alen, acap, vt, br, h⟩ := h
  exact ⟨_, h.e, by show 6 < 21; decide⟩
theorem RlyAt.has {w : World} {p : Nat} {S : P14} (h : RlyAt w p S) : w.cell? ⟨p, 3, none⟩ = some (.bool S.has) ∧ w.frozen? ⟨p, 3, none⟩ = false := by
  obtain ⟨C, x, xo, a, alen, acap, vt, br, h⟩ := h
  exact ⟨(plC_at h.e).2.2.2.1, h.e.frozen 3⟩
theorem P14.Ok.tab {S : P14} (h : S.Ok) : (fun j => (tabF 21 S.ah).getD j 0) = S.ah := h.ah.tab
/-! ### What hangs on 512 lines, and 128 samples left -/
theorem backF_ext {n : Nat} {l l' : Nat → Int} (h : ∀ j, j < n → l j = l' j) : backF n l = backF n l' := by
  have e : turnF n l = turnF n l' := funext fun k => turnF_congr h k
  unfold backF
  rw [e]
theorem soundF_ext {l l' : Nat → Int} (h : ∀ j, j < 512 → l j = l' j) (b : Bool) : soundF b l = soundF b l' := by
  have hb : ∀ m, m < 4 → soundB l m = soundB l' m := fun m hm => by
    have e : backF 128 (pickF l m) = backF 128 (pickF l' m) := backF_ext fun j hj => by unfold pickF; exact h _ (by omega)
    funext i
    unfold soundB
    rw [e]
  have e : backF 512 l = backF 512 l' := backF_ext h
  funext i
  unfold soundF
  cases b
  · simp only [Bool.false_eq_true, if_false]
    unfold soundL
    rw [e]
  · simp only [if_true]
    show soundA l 4 i = soundA l' 4 i
    unfold soundA soundA soundA soundA soundA
    rw [hb 0 (by decide), hb 1 (by decide), hb 2 (by decide), hb 3 (by decide)]
theorem leftF_ext {l l' : Nat → Int} (h : ∀ j, j < 512 → l j = l' j) (b : Bool) : leftF b l = leftF b l' := by
  funext q
  unfold leftF
  rw [soundF_ext h]
theorem samplesF_ext {l l' u u' : Nat → Int} (h : ∀ j, j < 512 → l j = l' j) (hu : ∀ j, j < 128 → u j = u' j) (b : Bool) : samplesF b l u = samplesF b l' u' := by
  funext i
  unfold samplesF bothF
  rw [soundF_ext h]
  by_cases c : i < 128
  · rw [if_pos c, if_pos c, hu i c]
  · rw [if_neg c, if_neg c]
end Go.Proofs.YtobhoecmmpijgaaGreat

/- What a payload says of itself: the walks of package player. -/
namespace Go.Proofs.YtobhoecmmpijgaaGreat
open Go Go.RowKit
set_option linter.unusedVariables false
set_option linter.unusedSimpArgs false

def hdN (b : List Int) : Nat → Int
  | 0 => plW b
  | 1 => plB b
  | 2 => plQ b
  | _ => plLo b
def hdT (b : List Int) (k j : Nat) : Int := if j < k then hdN b j else 0
theorem hdT_next (b : List Int) (k j : Nat) : (if j = k then hdN b k else hdT b k j) = hdT b (k + 1) j := by
  unfold hdT
  by_cases e : j = k
  · subst e
    rw [if_pos rfl, if_pos (by omega)]
  · rw [if_neg e]
    by_cases c : j < k
    · rw [if_pos c, if_pos (by omega)]
    · rw [if_neg c, if_neg (by omega)]
def hdD (b : List Int) : Nat → DecS
  | 0 => plD0 b
  | 1 => plD1 b
  | 2 => plD2 b
  | 3 => plD3 b
  | _ + 4 => plD4 b
def headV (b : List Int) : Value := .agg #[.bool (plW b == 1), .bool (plB b == 1), .int .i64 (plQ b), .int .i64 (plLo b)]
def headZ : Value := .agg #[.bool false, .bool false, .int .i64 0, .int .i64 0]
def headR (b : List Int) : Bool := decide (1 ≤ plQ b) && decide (plQ b ≤ 10)
theorem headR_true {b : List Int} (h : headR b = true) : 1 ≤ plQ b ∧ plQ b ≤ 10 := by
  unfold headR at h
  rw [Bool.and_eq_true, decide_eq_true_eq, decide_eq_true_eq] at h
  exact h
theorem headR_ok0 {b : List Int} {has : Bool} (h : headR b = false) : plOk0 b has = false := by
  unfold headR at h
  unfold plOk0
  rw [Bool.and_eq_false_iff, decide_eq_false_iff_not, decide_eq_false_iff_not] at h
  rcases h with h | h
  · rw [show decide (plQ b < 1) = true by simp; omega]
    cases (plW b == 0 && !has) <;> cases (decide (10 < plQ b)) <;> rfl
  · rw [show decide (10 < plQ b) = true by simp; omega]
    cases (plW b == 0 && !has) <;> cases (decide (plQ b < 1)) <;> rfl
theorem headR_ok {b : List Int} {has : Bool} (h : headR b = true) (hw : plWh b = true ∨ has = true) : plOk0 b has = true := by
  obtain ⟨h1, h2⟩ := headR_true h
  unfold plOk0
  rw [decide_eq_false (show ¬ plQ b < 1 by omega), decide_eq_false (show ¬ 10 < plQ b by omega)]
  rcases hw with hw | rfl
  · unfold plWh at hw
    have e : plW b = 1 := by simpa using hw
    rw [e]
    rfl
  · simp
def HeadPost (base g : Nat) (v : Value) (b : List Int) (w : World) (e : Ending) (w' : World) : Prop :=
  DrcAt w' base g v b (plD4 b) ∧ Keeps (fun j => j = g) w w' ∧ ((headR b = true ∧ e = .returned (.tuple #[headV b, .int .i64 0])) ∨ (headR b = false ∧ e = .returned (.tuple #[headZ, .int .i64 3])))
def hdZ : Array Value := #[.bool false, .bool false, .int .i64 0, .int .i64 0]
structure HdL (base g : Nat) (v : Value) (b : List Int) (w : World) (h t k : Nat) (wr : World) : Prop where
  z : Cel wr h 139 hdZ
  t : IFun wr t 106 .i64 4 (hdT b k)
  d : DrcAt wr base g v b (hdD b k)
  k : Keeps (fun j => j = g) w wr
theorem HdL.call {base g h t k : Nat} {v : Value} {b : List Int} {w wr w' : World} (H : HdL base g v b w h t k wr) (d : DrcAt w' base g v b (hdD b (k + 1))) (kk : Keeps (fun j => j = g) wr w') (hk : k < 4) (ht : w.heap.size ≤ t) :
    HdL base g v b w h t (k + 1) (w'.setCell ⟨t, k, none⟩ (.int .i64 (hdN b k))) := by
  have z' := H.z.keeps kk (fun e => H.z.ne H.d.2.1 (by decide) e)
  have t' : IFun w' t 106 .i64 4 (hdT b k) := IFun.keeps H.t kk (fun e => by obtain ⟨cs, hc⟩ := IFun.cel H.t; exact hc.ne H.d.2.1 (by decide) e)
  have K : Keeps (fun j => j = t) w' (w'.setCell ⟨t, k, none⟩ (.int .i64 (hdN b k))) := Keeps.set1 _
  obtain ⟨cs, hc⟩ := IFun.cel t'
  refine ⟨z'.keeps K (fun e => z'.ne hc (by decide) e), IFun.ext (t'.set hk (hdN b k)) fun j _ => hdT_next b k j, d.keeps K (fun e => hc.ne d.2.1 (by decide) e.symm) (fun r hr e => own_ne_cel d.2.2.1 hc (by decide) r hr e), ?_⟩
  exact (H.k.trans kk).then_ K fun j hj => .inr (by omega)
theorem head_end {base g h t : Nat} {v : Value} {b : List Int} {w wr W : World} {x : Value} (H : HdL base g v b w h t 4 wr) (hh : w.heap.size ≤ h) (K : Keeps (· = h) wr W) (hx : (headR b = true ∧ x = .tuple #[headV b, .int .i64 0]) ∨ (headR b = false ∧ x = .tuple #[headZ, .int .i64 3])) : HeadPost base g v b w (.returned x) W := by
  have d : DrcAt wr base g v b (plD4 b) := H.d
  refine ⟨d.keeps K (fun e => H.z.ne d.2.1 (by decide) e.symm) (fun r hr e => own_ne_cel d.2.2.1 H.z (by decide) r hr e), H.k.then_ K fun j hj => .inr (by omega), ?_⟩
  rcases hx with ⟨h1, rfl⟩ | ⟨h1, rfl⟩
  · exact .inl ⟨h1, rfl⟩
  · exact .inr ⟨h1, rfl⟩
theorem infoC_head : (Tryz.prog.info? 139).map (·.size) = some 4 := by kernel_rfl
set_option maxHeartbeats 1000000 in
set_option maxRecDepth 100000 in
theorem pReadHead_any (base g : Nat) (v : Value) (b : List Int) (w : World) (hD : DrcAt w base g v b (plD0 b)) (hb : ∀ j, 0 ≤ byteF b j ∧ byteF b j ≤ 255) (hbl : b.length ≤ 100000) :
    Calls Tryz.prog 83 #[.pointer (some ⟨g, 0, none⟩)] w (HeadPost base g v b w) := by
  have HG := Lib.hid (plG hb)
  have HBy := Lib.hid hb
  have hbl2 : b.length ≤ 1000000 := by omega
  obtain ⟨h, hh⟩ : ∃ h, h = w.heap.size := ⟨_, rfl⟩
  obtain ⟨t, ht⟩ : ∃ t, t = w.heap.size + 1 := ⟨_, rfl⟩
  have HS : RowKit.Hid (HdL base g v b w h t 0 ((w.alloc (.cells #[.bool false, .bool false, .int .i64 0, .int .i64 0] 139)).alloc (.cells #[.int .i64 0, .int .i64 0, .int .i64 0, .int .i64 0] 106))) := by
    have b1 := Below.alloc_new w (.cells #[.bool false, .bool false, .int .i64 0, .int .i64 0] 139)
    have b2 := Below.alloc_new (w.alloc (.cells #[.bool false, .bool false, .int .i64 0, .int .i64 0] 139)) (.cells #[.int .i64 0, .int .i64 0, .int .i64 0, .int .i64 0] 106)
    have e := Cel.new (w.alloc (.cells #[.bool false, .bool false, .int .i64 0, .int .i64 0] 139)) 106 #[.int .i64 0, .int .i64 0, .int .i64 0, .int .i64 0]
    rw [alloc_sizeB] at e
    exact ⟨by rw [hh]; exact (Cel.new w _ _).alloc _, by rw [ht]; exact IFun.ext (f := fun _ => 0) e fun j _ => rfl, hD.below (chain b1 b2), Keeps.of_below (chain b1 b2)⟩
  have i0 : ∀ w : World, (Instr.index 106 (.agg #[.int .i64 1, .int .i64 1, .int .i64 4, .int .i64 5]) (.int .i64 0)).run Tryz.prog w = .ok (.int .i64 1) w := fun w => index_4 _ 0 _ (by decide) rfl rfl w
  have i1 : ∀ w : World, (Instr.index 106 (.agg #[.int .i64 1, .int .i64 1, .int .i64 4, .int .i64 5]) (.int .i64 1)).run Tryz.prog w = .ok (.int .i64 1) w := fun w => index_4 _ 1 _ (by decide) rfl rfl w
  have i2 : ∀ w : World, (Instr.index 106 (.agg #[.int .i64 1, .int .i64 1, .int .i64 4, .int .i64 5]) (.int .i64 2)).run Tryz.prog w = .ok (.int .i64 4) w := fun w => index_4 _ 2 _ (by decide) rfl rfl w
  have i3 : ∀ w : World, (Instr.index 106 (.agg #[.int .i64 1, .int .i64 1, .int .i64 4, .int .i64 5]) (.int .i64 3)).run Tryz.prog w = .ok (.int .i64 5) w := fun w => index_4 _ 3 _ (by decide) rfl rfl w
  have HT : RowKit.Hid (w.heap.size ≤ t ∧ w.heap.size ≤ h) := ⟨by omega, by omega⟩
  have HN : RowKit.Hid ((decBits b (plD0 b) 0 1).1 = plW b ∧ (decBits b (plD1 b) 0 1).1 = plB b ∧ (decBits b (plD2 b) 0 4).1 = plQ b ∧ (decBits b (plD3 b) 0 5).1 = plLo b) := ⟨rfl, rfl, rfl, rfl⟩
  have HU : RowKit.Hid (hdN b 0 = plW b ∧ hdN b 1 = plB b ∧ hdN b 2 = plQ b ∧ hdN b 3 = plLo b) := ⟨rfl, rfl, rfl, rfl⟩
  have HV : RowKit.Hid (headV b = .agg #[.bool (plW b == 1), .bool (plB b == 1), .int .i64 (plQ b), .int .i64 (plLo b)] ∧ headR b = (decide (1 ≤ plQ b) && decide (plQ b ≤ 10))) := ⟨rfl, rfl⟩
  obtain ⟨w0, w1⟩ := HG.out.w
  obtain ⟨r0, r1⟩ := HG.out.r
  obtain ⟨q0, q1⟩ := HG.out.q
  obtain ⟨l0, l1⟩ := HG.out.lo
  generalize plW b = W at HN HU HV w0 w1
  generalize plB b = R at HN HU HV r0 r1
  generalize plQ b = Q at HN HU HV q0 q1
  generalize plLo b = L at HN HU HV l0 l1
  have uW : IntKind.i64.wrap W = W := IntWalk.i64_in _ (by omega)
  have uR : IntKind.i64.wrap R = R := IntWalk.i64_in _ (by omega)
  have uQ : IntKind.i64.wrap Q = Q := IntWalk.i64_in _ (by omega)
  have uL : IntKind.i64.wrap L = L := IntWalk.i64_in _ (by omega)
  clear hb hD
  go_enter Tryz.func83, Tryz.ntmps83
  go_wp2
  generalize ((w.alloc (.cells #[.bool false, .bool false, .int .i64 0, .int .i64 0] 139)).alloc (.cells #[.int .i64 0, .int .i64 0, .int .i64 0, .int .i64 0] 106)) = w9 at HS ⊢
  try rw [← ht]
  try rw [← hh]
  clear hh ht
  go_loopw [5, 6, 7, 8, 11] (fun _ _ _ _ i wr => ∃ k : Nat, k ≤ 4 ∧ i = .int .i64 (k : Int) ∧ RowKit.Hid (HdL base g v b w h t k wr)) (fun _ _ _ _ i _ => 4 - (intOf i).toNat)
  case atStart => exact ⟨0, by omega, rfl, HS.out⟩
  case round =>
    obtain ⟨k, hk, rfl, H⟩ := hrel
    clear HS
    by_cases e4 : k = 4
    · subst e4
      have c0 := H.out.t.cell (j := 0) (by decide)
      have c1 := H.out.t.cell (j := 1) (by decide)
      have c2 := H.out.t.cell (j := 2) (by decide)
      have c3 := H.out.t.cell (j := 3) (by decide)
      rw [show hdT b 4 0 = W from HU.out.1] at c0
      rw [show hdT b 4 1 = R from HU.out.2.1] at c1
      rw [show hdT b 4 2 = Q from HU.out.2.2.1] at c2
      rw [show hdT b 4 3 = L from HU.out.2.2.2] at c3
      have y0 : wr.cell? ⟨h, 0, none⟩ = some (.bool false) := H.out.z.cell 0
      have y1 : wr.cell? ⟨h, 1, none⟩ = some (.bool false) := H.out.z.cell 1
      have y2 : wr.cell? ⟨h, 2, none⟩ = some (.int .i64 0) := H.out.z.cell 2
      have y3 : wr.cell? ⟨h, 3, none⟩ = some (.int .i64 0) := H.out.z.cell 3
      have yl := H.out.z.lt
      have z0 := H.out.z.frozen 0
      have z1 := H.out.z.frozen 1
      have z2 := H.out.z.frozen 2
      have z3 := H.out.z.frozen 3
      by_cases hq1 : Q < 1
      · have HR : RowKit.Hid (headR b = false) := by show _ = _; rw [HV.out.2, decide_eq_false (by omega)]; rfl
        go_wp2
        refine bodyPost_ret (results_cell2 rfl rfl rfl (run_loadVar_row _ h _ _ _ (0, 0) _ (((((H.out.z.set_ 0 _).set_ 1 _).set_ 2 _).set_ 3 _).alloc _) Tryz.underlying139 rfl infoC_head)) rfl ?_
        exact head_end H.out HT.out.2 (((((Keeps.set1 _).trans (Keeps.set1 _)).trans (Keeps.set1 _)).trans (Keeps.set1 _)).alloc _) (.inr ⟨HR.out, rfl⟩)
      · by_cases hq2 : 10 < Q
        · have HR : RowKit.Hid (headR b = false) := by show _ = _; rw [HV.out.2, decide_eq_false (show ¬ Q ≤ 10 by omega), Bool.and_false]
          go_wp2
          refine bodyPost_ret (results_cell2 rfl rfl rfl (run_loadVar_row _ h _ _ _ (0, 0) _ (((((H.out.z.set_ 0 _).set_ 1 _).set_ 2 _).set_ 3 _).alloc _) Tryz.underlying139 rfl infoC_head)) rfl ?_
          exact head_end H.out HT.out.2 (((((Keeps.set1 _).trans (Keeps.set1 _)).trans (Keeps.set1 _)).trans (Keeps.set1 _)).alloc _) (.inr ⟨HR.out, rfl⟩)
        · have HR : RowKit.Hid (headR b = true) := by show _ = _; rw [HV.out.2, decide_eq_true (show 1 ≤ Q by omega), decide_eq_true (show Q ≤ 10 by omega)]; rfl
          go_wp2
          refine bodyPost_ret (results_cell2 rfl rfl rfl (run_loadVar_row _ h _ _ _ (0, 0) _ (((((H.out.z.set_ 0 _).set_ 1 _).set_ 2 _).set_ 3 _).alloc _) Tryz.underlying139 rfl infoC_head)) rfl ?_
          exact head_end H.out HT.out.2 (((((Keeps.set1 _).trans (Keeps.set1 _)).trans (Keeps.set1 _)).trans (Keeps.set1 _)).alloc _) (.inl ⟨HR.out, by rw [HV.out.1]; rfl⟩)
    · have e5 : k = 0 ∨ k = 1 ∨ k = 2 ∨ k = 3 := by omega
      clear e4
      rcases e5 with rfl | rfl | rfl | rfl
      · go_wp2_with (go_at_call 124; go_loud (refine (drcBits_any base g v b (plD0 b) 1 _ H.out.d HBy.out hbl2 (by have := HG.out.i; omega) HG.out.g0 (by decide)).mono ?_); rintro e w3 ⟨rfl, d3, k3⟩; rw [HN.out.1]; have H3 : RowKit.Hid (HdL base g v b w h t 1 (w3.setCell ⟨t, 0, none⟩ (.int .i64 W))) := (by have := H.out.call (k := 0) d3 k3 (by decide) HT.out.1; rw [HU.out.1] at this; exact this); have t3 := IFun.keeps H.out.t k3 (fun e => by obtain ⟨cs, hc⟩ := IFun.cel H.out.t; exact hc.ne H.out.d.2.1 (by decide) e); have o1 := t3.cell (j := 0) (by decide); have f1 := t3.frozen 0; clear t3 d3 k3)
        go_roundw
        case rel => exact ⟨1, by decide, by go_num, H3.out⟩
        case measure => simp [intOf] <;> omega
      · go_wp2_with (go_at_call 124; go_loud (refine (drcBits_any base g v b (plD1 b) 1 _ H.out.d HBy.out hbl2 (by have := HG.out.i; omega) HG.out.g1 (by decide)).mono ?_); rintro e w3 ⟨rfl, d3, k3⟩; rw [HN.out.2.1]; have H3 : RowKit.Hid (HdL base g v b w h t 2 (w3.setCell ⟨t, 1, none⟩ (.int .i64 R))) := (by have := H.out.call (k := 1) d3 k3 (by decide) HT.out.1; rw [HU.out.2.1] at this; exact this); have t3 := IFun.keeps H.out.t k3 (fun e => by obtain ⟨cs, hc⟩ := IFun.cel H.out.t; exact hc.ne H.out.d.2.1 (by decide) e); have o1 := t3.cell (j := 1) (by decide); have f1 := t3.frozen 1; clear t3 d3 k3)
        go_roundw
        case rel => exact ⟨2, by decide, by go_num, H3.out⟩
        case measure => simp [intOf] <;> omega
      · go_wp2_with (go_at_call 124; go_loud (refine (drcBits_any base g v b (plD2 b) 4 _ H.out.d HBy.out hbl2 (by have := HG.out.i; omega) HG.out.g2 (by decide)).mono ?_); rintro e w3 ⟨rfl, d3, k3⟩; rw [HN.out.2.2.1]; have H3 : RowKit.Hid (HdL base g v b w h t 3 (w3.setCell ⟨t, 2, none⟩ (.int .i64 Q))) := (by have := H.out.call (k := 2) d3 k3 (by decide) HT.out.1; rw [HU.out.2.2.1] at this; exact this); have t3 := IFun.keeps H.out.t k3 (fun e => by obtain ⟨cs, hc⟩ := IFun.cel H.out.t; exact hc.ne H.out.d.2.1 (by decide) e); have o1 := t3.cell (j := 2) (by decide); have f1 := t3.frozen 2; clear t3 d3 k3)
        go_roundw
        case rel => exact ⟨3, by decide, by go_num, H3.out⟩
        case measure => simp [intOf] <;> omega
      · go_wp2_with (go_at_call 124; go_loud (refine (drcBits_any base g v b (plD3 b) 5 _ H.out.d HBy.out hbl2 (by have := HG.out.i; omega) HG.out.g3 (by decide)).mono ?_); rintro e w3 ⟨rfl, d3, k3⟩; rw [HN.out.2.2.2]; have H3 : RowKit.Hid (HdL base g v b w h t 4 (w3.setCell ⟨t, 3, none⟩ (.int .i64 L))) := (by have := H.out.call (k := 3) d3 k3 (by decide) HT.out.1; rw [HU.out.2.2.2] at this; exact this); have t3 := IFun.keeps H.out.t k3 (fun e => by obtain ⟨cs, hc⟩ := IFun.cel H.out.t; exact hc.ne H.out.d.2.1 (by decide) e); have o1 := t3.cell (j := 3) (by decide); have f1 := t3.frozen 3; clear t3 d3 k3)
        go_roundw
        case rel => exact ⟨4, by decide, by go_num, H3.out⟩
        case measure => simp [intOf] <;> omega
end Go.Proofs.YtobhoecmmpijgaaGreat
