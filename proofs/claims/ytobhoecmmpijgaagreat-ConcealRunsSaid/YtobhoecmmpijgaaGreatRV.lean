/- Plain facts, and what functions give, for the proofs of this seat: several texts in one, each with its own first remark. -/
import Derived.Test.YtobhoecmmpijgaaGreatRB
import Derived.Test.YtobhoecmmpijgaaGreatRP
import Derived.Test.YtobhoecmmpijgaaGreatRU
import Derived.Test.YtobhoecmmpijgaaGreatRJ
import Derived.Test.YtobhoecmmpijgaaGreatRS
import Derived.Deep.Slices
import Derived.Test.YtobhoecmmpijgaaGreatRa
import Derived.Deep.RegionHeld3
import Derived.Test.YtobhoecmmpijgaaGreatRb

/- Layer 14's laws: whether it lives; no player. -/
namespace Go.Proofs.YtobhoecmmpijgaaGreat
open Go Go.RowKit
set_option linter.unusedVariables false
set_option linter.unusedSimpArgs false
set_option maxRecDepth 100000

/-- Cells of which none is a byte. -/
def Odd8 (cs : Array Value) : Prop := ∀ (i : Nat) (x : Int), cs[i]? ≠ some (Value.int IntKind.u8 x)
theorem ints_odd8 {w : World} {B n r off m : Nat} {zs : List Int} {t : TypeId} {cs : Array Value} {a : Option Addr} (h : IntsAt w B .u8 a n zs) (h0 : 0 < n) (k : Cel w m t cs) (hc : Odd8 cs) (ha : a = some ⟨r, off, none⟩) : r ≠ m := by
  rintro rfl
  obtain ⟨b', off', e, _, _, hcell⟩ := h.at_ h0
  rw [ha] at e
  injection e with e
  injection e with e1 e2
  subst e1
  subst e2
  rw [k.cell] at hcell
  exact hc _ _ hcell
/-- Bytes stay where what is written has none. -/
theorem bytes_far {w w' : World} {F : Nat → Prop} {n : Nat} {zs : List Int} {a : Option Addr} (h : IntsAt w w.heap.size .u8 a n zs) (hk : Keeps F w w') (hF : ∀ j, F j → ∃ t cs, Cel w j t cs ∧ Odd8 cs) : IntsAt w' w'.heap.size .u8 a n zs :=
  (h.keeps hk (Nat.le_refl _) fun r off e h0 _ hf => by
    obtain ⟨t, cs, k, hc⟩ := hF r hf
    exact ints_odd8 h h0 k hc e rfl).grow hk.size
theorem odd8_list {l : List Value} (h : ∀ v ∈ l, ∀ x, v ≠ Value.int IntKind.u8 x) : Odd8 l.toArray := fun i x e => by
  rw [List.getElem?_toArray] at e
  exact h _ (List.mem_of_getElem? e) x rfl
theorem RefAt.odd8 {w : World} {g : Nat} {Q : Int} {B : Nat} {S : S13} (h : RefAt w g Q B S) : ∃ t cs, Cel w g t cs ∧ Odd8 cs := by
  obtain ⟨C, va, vl, vh, o, h⟩ := h
  obtain ⟨ba, ca, rfl, _⟩ := h.a
  obtain ⟨bl, ol, rfl, _⟩ := h.l
  have hv : ∃ a n c, vh = .slice a n c := by
    have hd := h.d
    cases hh : S.hd with
    | none => rw [hh] at hd; exact ⟨_, _, _, hd⟩
    | some H => rw [hh] at hd; obtain ⟨b, cap, e, _⟩ := hd; exact ⟨_, _, _, e⟩
  obtain ⟨ha, hn, hc, rfl⟩ := hv
  refine ⟨_, _, h.e, odd8_list (l := [_, _, _, _, _, _, _, _, _]) fun v hv x e => ?_⟩
  subst e
  simp at hv
theorem PlyAt.odd8 {w : World} {p s : Nat} {T : P14} (h : PlyAt w p s T) (j : Nat) (hj : j = p ∨ j = s) : ∃ t cs, Cel w j t cs ∧ Odd8 cs := by
  obtain ⟨cs, ps, qs, cv, lv, br, h⟩ := h
  rcases hj with rfl | rfl
  · have hv : (∃ a n c, cv = .slice a n c) ∧ ∃ a n c, lv = .slice a n c := by
      rcases h.f with ⟨_, h1, h2, _⟩ | ⟨_, _, c, x, h1, h2, _⟩
      · exact ⟨⟨_, _, _, h1⟩, _, _, _, h2⟩
      · exact ⟨⟨_, _, _, h1⟩, _, _, _, h2⟩
    obtain ⟨⟨a1, n1, c1, rfl⟩, a2, n2, c2, rfl⟩ := hv
    refine ⟨_, _, h.e, odd8_list (l := [_, _, _, _]) fun v hv x e => ?_⟩
    subst e
    simp at hv
  · refine ⟨_, _, h.s.1, odd8_list fun v hv x e => ?_⟩
    subst e
    unfold ovlL at hv
    simp at hv

/-! ### It lives -/
/-! ### No player -/
end Go.Proofs.YtobhoecmmpijgaaGreat

/- From a reading of an argument to what the walks are told of it: slices of structs of plain values and slices of numbers, whatever structs lie in them. -/
namespace Go.Proofs.YtobhoecmmpijgaaGreat
open Go.ChangeShapes Go.WideShapes Go.ChangeAt Go.RowKit Go.Deep
set_option linter.unusedVariables false

/-- A plain cell's kind. -/
inductive PT where
  | int (k : IntKind)
  | bool
  | str
  | ints (k : IntKind)
/-- A slice of numbers that came in. -/
def RowIn (w : World) (k : IntKind) (v : Value) : Prop := ∃ (a : Option Addr) (len cap : Nat) (zs : List Int), v = .slice a len cap ∧ len ≤ cap ∧ cap ≤ 9223372036854775807 ∧ (a = none → len = 0 ∧ cap = 0) ∧ IntsAt w w.heap.size k a len zs ∧ ∀ n ∈ zs, (Lit.int k n).wf = true
def PT.ok (w : World) : PT → Value → Prop
  | .int k, v => ∃ n, v = .int k n ∧ (Lit.int k n).wf = true
  | .bool, v => ∃ b, v = .bool b
  | .str, v => ∃ s : ByteArray, v = .string s ∧ s.size ≤ maxLen
  | .ints k, v => RowIn w k v
/-- Kind by kind, value by value. -/
def OkAllT (w : World) (ks : List PT) (cs : List Value) : Prop := cs.length = ks.length ∧ ∀ (j : Nat) (k : PT), ks[j]? = some k → ∃ v, cs[j]? = some v ∧ PT.ok w k v
theorem OkAllT.nil (w : World) : OkAllT w [] [] := ⟨rfl, fun j k h => by simp at h⟩
theorem OkAllT.append {w : World} {a b : List PT} {c d : List Value} (h : OkAllT w a c) (k : OkAllT w b d) : OkAllT w (a ++ b) (c ++ d) := by
  refine ⟨by simp [h.1, k.1], fun j q hq => ?_⟩
  rw [List.getElem?_append] at hq ⊢
  rw [h.1]
  split at hq
  · rw [if_pos (by assumption)]; exact h.2 j q hq
  · rw [if_neg (by assumption)]; exact k.2 _ q hq
section
variable {H : Type} {enc : TypeId × Value → H} {P : Program} {w : World} {base : Nat} {spare : Nat → Bool} {held : Bool}
end

end Go.Proofs.YtobhoecmmpijgaaGreat

/- PlayerActs: what is held on the way. -/
namespace Go.Proofs.YtobhoecmmpijgaaGreat
open Go Go.RowKit
set_option linter.unusedVariables false
set_option linter.unusedSimpArgs false
set_option maxRecDepth 100000

section
variable {w wr w' : World} {gm p s x g : Nat} {Q : Int} {B : Nat} {S : S13} {T T' T2 : P14}
/-- A decoder of the document's is written. -/
theorem PbSt.dec (h : PbSt w gm p s x Q B S T T' wr) (hd : (∃ cs, Cel wr g 133 cs ∧ cs.size < 21) ∧ w.heap.size ≤ g) (k : Keeps (fun j => j = g) wr w') : PbSt w gm p s x Q B S T T' w' := by
  obtain ⟨⟨c2, k2, hl⟩, hg⟩ := hd
  exact ⟨h.hb.trans (k.below h.hb.size fun j hj => by subst hj; exact hg), h.hr.keeps k (fun j hj => by subst hj; exact ⟨_, Cel.typ k2, by decide, by decide, by decide⟩), h.hp.keeps k (fun j hj => by subst hj; exact ⟨_, Cel.typ k2, by decide, by decide, by decide, by decide, by decide, by decide⟩), h.hx.keeps k (fun j hj => by subst hj; exact ⟨_, _, k2, by decide, by decide, .inl hl⟩), h.ho⟩
end
/-- All that is held behind the bytes. -/
structure FnSt (w : World) (gm p s x : Nat) (Q : Int) (B : Nat) (S : S13) (T T' : P14) (bs : Nat) (v : Value) (b : List Int) (wx : World) : Prop where
  fs : PbSt w gm p s x Q B S T T' wx
  fr : BRow wx bs v b
section
variable {w wx w' : World} {gm p s x g bs : Nat} {Q : Int} {B : Nat} {S : S13} {T T' T2 : P14} {v : Value} {b : List Int}
theorem FnSt.now (h : FnSt w gm p s x Q B S T T' bs v b wx) (k : Below wx.heap.size wx w') : FnSt w gm p s x Q B S T T' bs v b w' := ⟨h.fs.now k, h.fr.below k⟩
theorem FnSt.dec (h : FnSt w gm p s x Q B S T T' bs v b wx) (hd : (∃ cs, Cel wx g 133 cs ∧ cs.size < 21) ∧ w.heap.size ≤ g) (k : Keeps (fun j => j = g) wx w') : FnSt w gm p s x Q B S T T' bs v b w' :=
  ⟨h.fs.dec hd k, h.fr.keeps k fun j hj => by subst hj; obtain ⟨⟨cs, hc, _⟩, _⟩ := hd; exact ⟨_, Cel.typ hc, by decide⟩⟩
theorem FnSt.prog (h : FnSt w gm p s x Q B S T T bs v b wx) (hp : PlyAt w' p s T2) (k : Keeps (fun j => j = p ∨ j = s) wx w') : FnSt w gm p s x Q B S T2 T bs v b w' :=
  ⟨PaSt.prog' h.fs.done hp k, h.fr.keeps k fun j hj => by
    obtain ⟨t1, t2⟩ := h.fs.hp.typs
    rcases hj with rfl | rfl
    · exact ⟨_, t1, by decide⟩
    · exact ⟨_, t2, by decide⟩⟩
theorem FnSt.ints (h : FnSt w gm p s x Q B S T T' bs v b wx) {a : Option Addr} {n cap : Nat} (hv : v = .slice a n cap) (hn : b.length = n) : IntsAt wx wx.heap.size .u8 a n b ∧ (a = none → cap = 0) := by
  obtain ⟨a', cap', e, h2, h3, _⟩ := h.fr
  rw [hv] at e
  injection e with e1 e2 e3
  subst e1
  subst e3
  subst hn
  exact ⟨h3, h2⟩
end
end Go.Proofs.YtobhoecmmpijgaaGreat

/- Package conceal: places. -/
-- import Derived.Test.YtobhoecmmpijgaaGreatCodV
namespace Go.Proofs.YtobhoecmmpijgaaGreat
open Go Go.RowKit
set_option linter.unusedVariables false
set_option linter.unusedSimpArgs false
set_option maxRecDepth 100000

/-- How many are missing between two numbers. -/
def gap32 (nu lo : Int) : Int := (nu - lo - 1) % 4294967296
theorem gap32_bd (nu lo : Int) : 0 ≤ gap32 nu lo ∧ gap32 nu lo ≤ 4294967295 := by unfold gap32; omega
def missF (ever : Bool) (lp ln ep nu : Int) : Nat := if ever = true then (if ep = lp then (if gap32 nu ln < 4 then (gap32 nu ln).toNat else 4) else 4) else 0
theorem missF_le (ever : Bool) (lp ln ep nu : Int) : missF ever lp ln ep nu ≤ 4 := by
  have := gap32_bd nu ln
  unfold missF
  split
  · split
    · split <;> omega
    · omega
  · omega
theorem missF_same {lp ln nu D : Int} (h : gap32 nu ln = D) : ((missF true lp ln lp nu : Nat) : Int) = if 4 < D then 4 else D := by
  have := gap32_bd nu ln
  unfold missF
  rw [if_pos rfl, if_pos rfl, h]
  split <;> split <;> omega
theorem cel_new1 (w : World) (o : Obj) (t : TypeId) (cs : Array Value) : Cel ((w.alloc o).alloc (.cells cs t)) (w.heap.size + 1) t cs := by
  have e := Cel.new (w.alloc o) t cs
  rw [alloc_sizeB] at e
  exact e
theorem infoC_plc : (Tryz.prog.info? 68).map (·.size) = some 2 := by kernel_rfl
theorem ePlace_any (ep nu : Int) (wh : Bool) (a : Option Addr) (len cap : Nat) (w : World) :
    Calls Tryz.prog 37 #[.agg #[.int .u32 ep, .int .u32 nu, .bool wh, .slice a len cap]] w fun e w' => e = .returned (.agg #[.int .u32 ep, .int .u32 nu]) ∧ Below w.heap.size w w' := by
  go_enter Tryz.func37, Tryz.ntmps37
  go_wp2
  refine bodyPost_ret (results_cell1 rfl rfl (run_loadVar_row _ (w.heap.size + 1) _ _ _ (0, 0) _ (cel_new1 _ _ _ _) Tryz.underlying68 rfl infoC_plc)) rfl ⟨rfl, ?_⟩
  exact chain (Below.alloc_new w _) (Below.alloc_new _ _)
theorem eNext_any (ep nu : Int) (w : World) :
    Calls Tryz.prog 99 #[.agg #[.int .u32 ep, .int .u32 nu]] w fun e w' => e = .returned (.agg #[.int .u32 ep, .int .u32 ((nu + 1) % 4294967296)]) ∧ Below w.heap.size w w' := by
  go_enter Tryz.func99, Tryz.ntmps99
  go_wp2
  refine bodyPost_ret (results_cell1 rfl rfl (run_loadVar_row _ (w.heap.size + 1) _ _ _ (0, 0) _ (cel_new1 _ _ _ _) Tryz.underlying68 rfl infoC_plc)) rfl ⟨rfl, ?_⟩
  exact chain (Below.alloc_new w _) (Below.alloc_new _ _)
theorem infoC_u32p : (Tryz.prog.info? 23).map (fun i => (i.zero, i.size, i.bytes)) = some (some (.int .u32 0), 1, 4) := by kernel_rfl
theorem field_plc (x y : Int) (w : World) : (Instr.field 68 (.agg #[.int .u32 x, .int .u32 y]) 1).run Tryz.prog w = .ok (.int .u32 y) w := by
  have hu := Tryz.underlying68
  have he := Tryz.underlying23
  obtain ⟨i, h3, _, h5, _⟩ := info_parts infoC_u32p
  simp only [Instr.field, Sem.run_bind, Sem.run_pure, Result.andThen_ok, run_underlying hu]
  simp [part, isAgg, sizeOf, typeInfo, Sem.run_bind, Sem.run_pure, Result.andThen_ok, run_underlying he, h3, h5, asAgg]
/-- An ear's cells. -/
def earK (pv : Value) (ever : Bool) (lp ln : Int) (run : Bool) : Array Value := #[pv, .bool ever, .int .u32 lp, .int .u32 ln, .bool run]
theorem eFollows_any (e : Nat) (pv : Value) (ever run : Bool) (lp ln ep nu : Int) (w : World) (h : Cel w e 70 (earK pv ever lp ln run)) :
    Calls Tryz.prog 68 #[.pointer (some ⟨e, 0, none⟩), .agg #[.int .u32 ep, .int .u32 nu]] w fun en w' => en = .returned (.bool (run && (ep == lp && nu == (ln + 1) % 4294967296))) ∧ Below w.heap.size w w' := by
  have HE := Lib.hid (h.alloc (.cells #[.int .u32 ep, .int .u32 nu] 68))
  have HP := Lib.hid (Cel.new w 68 #[.int .u32 ep, .int .u32 nu])
  have HB0 := Lib.hid (Below.alloc_new w (.cells #[.int .u32 ep, .int .u32 nu] 68))
  clear h
  go_enter Tryz.func68, Tryz.ntmps68
  go_wp2
  generalize (w.alloc (.cells #[.int .u32 ep, .int .u32 nu] 68)) = w0 at HE HP HB0 ⊢
  obtain ⟨f, hf⟩ : ∃ f, f = w.heap.size := ⟨_, rfl⟩
  have HF : RowKit.Hid (f = w.heap.size) := hf
  rw [← hf] at HP ⊢
  clear hf
  have c2 : w0.cell? ⟨e, 2, none⟩ = some (.int .u32 lp) := HE.out.cell 2
  have c3 : w0.cell? ⟨e, 3, none⟩ = some (.int .u32 ln) := HE.out.cell 3
  have c4 : w0.cell? ⟨e, 4, none⟩ = some (.bool run) := HE.out.cell 4
  have p0 : w0.cell? ⟨f, 0, none⟩ = some (.int .u32 ep) := HP.out.cell 0
  have p1 : w0.cell? ⟨f, 1, none⟩ = some (.int .u32 nu) := HP.out.cell 1
  cases run with
  | false =>
    have HN : RowKit.Hid (∀ q, Below w.heap.size w (w0.drewN q)) := fun q => Below.drewN' HB0.out q
    go_quiet (fail)
    go_wp2
    go_ret
    exact ⟨rfl, HN.out _⟩
  | true =>
    obtain ⟨m, hm⟩ : ∃ m, m = (ln + 1) % 4294967296 := ⟨_, rfl⟩
    have HM := Lib.hid hm
    clear hm
    by_cases hx : ep = lp
    · subst hx
      by_cases hy : nu = m
      · subst hy
        go_region_held3 (fun w' => w'.cell? ⟨f, 0, none⟩ = some (.int .u32 ep) ∧ w'.cell? ⟨f, 1, none⟩ = some (.int .u32 nu) ∧ w'.cell? ⟨e, 2, none⟩ = some (.int .u32 ep) ∧ w'.cell? ⟨e, 3, none⟩ = some (.int .u32 ln) ∧ w'.cell? ⟨e, 4, none⟩ = some (.bool true)) (go_keep) (first
          | (go_at_call 99; go_loud (refine (eNext_any ep ln _).mono ?_); rintro e' w1 ⟨rfl, b1⟩; rw [← HM.out]; have HE1 := Lib.hid (Cel.below (w := w0.drew) HE.out b1); have HP1 := Lib.hid (Cel.below (w := w0.drew) HP.out b1); have HB1 := Lib.hid b1; clear b1; have m0 : w1.cell? ⟨f, 0, none⟩ = some (.int .u32 ep) := HP1.out.cell 0; have m1 : w1.cell? ⟨f, 1, none⟩ = some (.int .u32 nu) := HP1.out.cell 1; have m2 : w1.cell? ⟨e, 2, none⟩ = some (.int .u32 ep) := HE1.out.cell 2; have m3 : w1.cell? ⟨e, 3, none⟩ = some (.int .u32 ln) := HE1.out.cell 3; have m4 : w1.cell? ⟨e, 4, none⟩ = some (.bool true) := HE1.out.cell 4)
          | fail)
        go_wp2
        go_ret
        exact ⟨by rw [← HM.out]; simp, chain (chain HB0.out (Below.drewN' (Below.refl _ w0) 1)) HB1.out⟩
      · have hy1 : (nu == m) = false := by simpa using hy
        go_region_held3 (fun w' => w'.cell? ⟨f, 0, none⟩ = some (.int .u32 ep) ∧ w'.cell? ⟨f, 1, none⟩ = some (.int .u32 nu) ∧ w'.cell? ⟨e, 2, none⟩ = some (.int .u32 ep) ∧ w'.cell? ⟨e, 3, none⟩ = some (.int .u32 ln) ∧ w'.cell? ⟨e, 4, none⟩ = some (.bool true)) (go_keep) (first
          | (go_at_call 99; go_loud (refine (eNext_any ep ln _).mono ?_); rintro e' w1 ⟨rfl, b1⟩; rw [← HM.out]; have HE1 := Lib.hid (Cel.below (w := w0.drew) HE.out b1); have HP1 := Lib.hid (Cel.below (w := w0.drew) HP.out b1); have HB1 := Lib.hid b1; clear b1; have m0 : w1.cell? ⟨f, 0, none⟩ = some (.int .u32 ep) := HP1.out.cell 0; have m1 : w1.cell? ⟨f, 1, none⟩ = some (.int .u32 nu) := HP1.out.cell 1; have m2 : w1.cell? ⟨e, 2, none⟩ = some (.int .u32 ep) := HE1.out.cell 2; have m3 : w1.cell? ⟨e, 3, none⟩ = some (.int .u32 ln) := HE1.out.cell 3; have m4 : w1.cell? ⟨e, 4, none⟩ = some (.bool true) := HE1.out.cell 4)
          | fail)
        go_wp2
        go_ret
        exact ⟨by rw [← HM.out]; simp [hy], chain (chain HB0.out (Below.drewN' (Below.refl _ w0) 1)) HB1.out⟩
    · have hx1 : (ep == lp) = false := by simpa using hx
      by_cases hy : nu = m
      · subst hy
        go_region_held3 (fun w' => w'.cell? ⟨f, 0, none⟩ = some (.int .u32 ep) ∧ w'.cell? ⟨f, 1, none⟩ = some (.int .u32 nu) ∧ w'.cell? ⟨e, 2, none⟩ = some (.int .u32 lp) ∧ w'.cell? ⟨e, 3, none⟩ = some (.int .u32 ln) ∧ w'.cell? ⟨e, 4, none⟩ = some (.bool true)) (go_keep) (first
          | (go_at_call 99; go_loud (refine (eNext_any lp ln _).mono ?_); rintro e' w1 ⟨rfl, b1⟩; rw [← HM.out]; have HE1 := Lib.hid (Cel.below (w := w0.drew) HE.out b1); have HP1 := Lib.hid (Cel.below (w := w0.drew) HP.out b1); have HB1 := Lib.hid b1; clear b1; have m0 : w1.cell? ⟨f, 0, none⟩ = some (.int .u32 ep) := HP1.out.cell 0; have m1 : w1.cell? ⟨f, 1, none⟩ = some (.int .u32 nu) := HP1.out.cell 1; have m2 : w1.cell? ⟨e, 2, none⟩ = some (.int .u32 lp) := HE1.out.cell 2; have m3 : w1.cell? ⟨e, 3, none⟩ = some (.int .u32 ln) := HE1.out.cell 3; have m4 : w1.cell? ⟨e, 4, none⟩ = some (.bool true) := HE1.out.cell 4)
          | fail)
        go_wp2
        go_ret
        exact ⟨by rw [← HM.out]; simp [hx], chain (chain HB0.out (Below.drewN' (Below.refl _ w0) 1)) HB1.out⟩
      · have hy1 : (nu == m) = false := by simpa using hy
        go_region_held3 (fun w' => w'.cell? ⟨f, 0, none⟩ = some (.int .u32 ep) ∧ w'.cell? ⟨f, 1, none⟩ = some (.int .u32 nu) ∧ w'.cell? ⟨e, 2, none⟩ = some (.int .u32 lp) ∧ w'.cell? ⟨e, 3, none⟩ = some (.int .u32 ln) ∧ w'.cell? ⟨e, 4, none⟩ = some (.bool true)) (go_keep) (first
          | (go_at_call 99; go_loud (refine (eNext_any lp ln _).mono ?_); rintro e' w1 ⟨rfl, b1⟩; rw [← HM.out]; have HE1 := Lib.hid (Cel.below (w := w0.drew) HE.out b1); have HP1 := Lib.hid (Cel.below (w := w0.drew) HP.out b1); have HB1 := Lib.hid b1; clear b1; have m0 : w1.cell? ⟨f, 0, none⟩ = some (.int .u32 ep) := HP1.out.cell 0; have m1 : w1.cell? ⟨f, 1, none⟩ = some (.int .u32 nu) := HP1.out.cell 1; have m2 : w1.cell? ⟨e, 2, none⟩ = some (.int .u32 lp) := HE1.out.cell 2; have m3 : w1.cell? ⟨e, 3, none⟩ = some (.int .u32 ln) := HE1.out.cell 3; have m4 : w1.cell? ⟨e, 4, none⟩ = some (.bool true) := HE1.out.cell 4)
          | fail)
        go_wp2
        go_ret
        exact ⟨by rw [← HM.out]; simp [hx, hy], chain (chain HB0.out (Below.drewN' (Below.refl _ w0) 1)) HB1.out⟩

set_option maxHeartbeats 1000000 in
theorem eMissing_any (e : Nat) (pv : Value) (ever run : Bool) (lp ln ep nu : Int) (w : World) (h : Cel w e 70 (earK pv ever lp ln run)) :
    Calls Tryz.prog 69 #[.pointer (some ⟨e, 0, none⟩), .agg #[.int .u32 ep, .int .u32 nu]] w fun en w' => en = .returned (.int .i64 (missF ever lp ln ep nu : Nat)) ∧ Below w.heap.size w w' := by
  have HE := Lib.hid (h.alloc (.cells #[.int .u32 ep, .int .u32 nu] 68))
  have HP := Lib.hid (Cel.new w 68 #[.int .u32 ep, .int .u32 nu])
  have HB0 := Lib.hid (Below.alloc_new w (.cells #[.int .u32 ep, .int .u32 nu] 68))
  have e1 : (w.alloc (.cells #[.int .u32 ep, .int .u32 nu] 68)).cell? ⟨e, 1, none⟩ = some (.bool ever) := HE.out.cell 1
  obtain ⟨w0, hw0⟩ : ∃ w0, w0 = w.alloc (.cells #[.int .u32 ep, .int .u32 nu] 68) := ⟨_, rfl⟩
  obtain ⟨f, hf⟩ : ∃ f, f = w.heap.size := ⟨_, rfl⟩
  have HF : RowKit.Hid (f = w.heap.size) := hf
  rw [← hw0] at HE HP HB0
  rw [← hf] at HP
  have c1 : w0.cell? ⟨e, 1, none⟩ = some (.bool ever) := HE.out.cell 1
  have c2 : w0.cell? ⟨e, 2, none⟩ = some (.int .u32 lp) := HE.out.cell 2
  have c3 : w0.cell? ⟨e, 3, none⟩ = some (.int .u32 ln) := HE.out.cell 3
  have p0 : w0.cell? ⟨f, 0, none⟩ = some (.int .u32 ep) := HP.out.cell 0
  have p1 : w0.cell? ⟨f, 1, none⟩ = some (.int .u32 nu) := HP.out.cell 1
  clear h
  cases ever with
  | false =>
    go_enter Tryz.func69, Tryz.ntmps69
    go_wp2
    go_ret
    exact ⟨rfl, by rw [← hw0]; exact HB0.out⟩
  | true =>
    go_enter Tryz.func69, Tryz.ntmps69
    go_wp2
    rw [← hw0, ← hf]
    clear hw0 hf
    obtain ⟨m, hm⟩ : ∃ m, m = (ln + 1) % 4294967296 := ⟨_, rfl⟩
    have HM := Lib.hid hm
    have hD0 := gap32_bd nu ln
    have hfl : ∀ w : World, (Instr.field 68 (.agg #[.int .u32 ep, .int .u32 m]) 1).run Tryz.prog w = .ok (.int .u32 m) w := fun w => field_plc ep m w
    obtain ⟨D, hD⟩ : ∃ D, IntKind.u32.wrap (nu - m) = D := ⟨_, rfl⟩
    have hDg : gap32 nu ln = D := by rw [← hD, hm, IntKind.wrap_u32]; unfold gap32; omega
    have HDg := Lib.hid hDg
    rw [hDg] at hD0
    clear hm hDg
    have HN : RowKit.Hid (∀ q, Below w.heap.size w (w0.drewN q)) := fun q => Below.drewN' HB0.out q
    have HCs : RowKit.Hid (∀ q, (w0.drewN q).cell? ⟨f, 0, none⟩ = some (.int .u32 ep) ∧ (w0.drewN q).cell? ⟨f, 1, none⟩ = some (.int .u32 nu) ∧ (w0.drewN q).cell? ⟨e, 2, none⟩ = some (.int .u32 lp) ∧ (w0.drewN q).cell? ⟨e, 3, none⟩ = some (.int .u32 ln)) := fun q => ⟨p0, p1, c2, c3⟩
    have wD : IntKind.i64.wrap D = D := IntWalk.i64_in _ (by omega)
    have w4 : IntKind.i64.wrap 4 = 4 := rfl
    by_cases hx : ep = lp
    · subst hx
      go_quiet (fail)
      obtain ⟨w9, hw9⟩ : ∃ w9, w9 = w0.drewN nq := ⟨_, rfl⟩
      have HB9 : RowKit.Hid (Below w.heap.size w w9) := by show Below _ _ _; rw [hw9]; exact HN.out nq
      have HE9 : RowKit.Hid (Cel w9 e 70 (earK pv true ep ln run)) := by show Cel _ _ _ _; rw [hw9]; exact HE.out
      have HP9 : RowKit.Hid (Cel w9 f 68 #[.int .u32 ep, .int .u32 nu]) := by show Cel _ _ _ _; rw [hw9]; exact HP.out
      obtain ⟨y0, y1, y2, y3⟩ := HCs.out nq
      rw [← hw9] at y0 y1 y2 y3 ⊢
      clear hw9
      go_wp2
      go_region_held3 (fun w' => w'.cell? ⟨f, 1, none⟩ = some (.int .u32 nu) ∧ w'.cell? ⟨e, 2, none⟩ = some (.int .u32 ep) ∧ w'.cell? ⟨e, 3, none⟩ = some (.int .u32 ln)) (go_keep) (first
        | (go_at_call 99; go_loud (refine (eNext_any _ ln _).mono ?_); rintro e' w1 ⟨rfl, b1⟩; rw [← HM.out]; have HE1 := Lib.hid (Cel.below (w := w9.drew) HE9.out b1); have HP1 := Lib.hid (Cel.below (w := w9.drew) HP9.out b1); have HB1 := Lib.hid b1; clear b1; have m1 : w1.cell? ⟨f, 1, none⟩ = some (.int .u32 nu) := HP1.out.cell 1; have m2 : w1.cell? ⟨e, 2, none⟩ = some (.int .u32 ep) := HE1.out.cell 2; have m3 : w1.cell? ⟨e, 3, none⟩ = some (.int .u32 ln) := HE1.out.cell 3)
        | fail)
      go_wp2
      · go_ret
        exact ⟨by rw [missF_same HDg.out, if_pos (by assumption)]; rfl, chain (chain HB9.out (Below.drewN' (Below.refl _ w9) 1)) HB1.out⟩
      · go_ret
        exact ⟨by rw [missF_same HDg.out, if_neg (by omega)]; rfl, chain (chain HB9.out (Below.drewN' (Below.refl _ w9) 1)) HB1.out⟩
    · have hx1 : (ep == lp) = false := by simpa using hx
      go_quiet (fail)
      go_wp2
      go_ret
      exact ⟨by simp [missF, hx], HN.out _⟩
end Go.Proofs.YtobhoecmmpijgaaGreat
