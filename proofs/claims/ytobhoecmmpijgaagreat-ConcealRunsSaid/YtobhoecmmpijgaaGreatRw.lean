/- Plain facts, and what functions give, for the proofs of this seat: several texts in one, each with its own first remark. -/
import Derived.Test.YtobhoecmmpijgaaGreatRv
import Derived.Test.YtobhoecmmpijgaaGreatRg

/- What Get of package energy gives. -/
namespace Go.Proofs.YtobhoecmmpijgaaGreat
open Go.RowKit
set_option linter.unusedVariables false

theorem IFun.keeps {w w' : World} {g n : Nat} {t : TypeId} {k : IntKind} {f : Nat → Int} {F : Nat → Prop} (h : IFun w g t k n f) (hk : Keeps F w w') (hn : ¬ F g) : IFun w' g t k n f := (hk.block g h.lt hn).trans h
/-- What is held while ceilings are got: the decoder's state, the row that is filled, what else was written. -/
structure GetSt (w : World) (base g : Nat) (v : Value) (b : List Int) (D : DecS) (r : Nat) (f : Nat → Int) (wr : World) : Prop where
  d : DrcAt wr base g v b D
  i : IFun wr r 3 .i64 21 f
  k : Keeps (fun j => j = g) w wr
  rs : w.heap.size ≤ r
  gs : g < w.heap.size ∧ ∀ j, v.ownBlock = some j → j < w.heap.size
section
variable {w wr w' : World} {base g r : Nat} {v : Value} {b : List Int} {D D' : DecS} {f f' : Nat → Int}
theorem GetSt.dec (h : GetSt w base g v b D r f wr) (hd : DrcAt w' base g v b D') (hk : Keeps (fun j => j = g) wr w') : GetSt w base g v b D' r f w' :=
  ⟨hd, h.i.keeps hk (by have := h.gs.1; have := h.rs; omega), h.k.trans hk, h.rs, h.gs⟩
theorem GetSt.set (h : GetSt w base g v b D r f wr) {j : Nat} (hj : j < 21) (x : Int) : GetSt w base g v b D r (fun i => if i = j then x else f i) (wr.setCell ⟨r, j, none⟩ (.int .i64 x)) :=
  ⟨h.d.keeps (F := fun k => k = r) (Keeps.setCell (F := fun k => k = r) (p := ⟨r, j, none⟩) (Keeps.refl _ wr) (.inl rfl) _) (by have := h.gs.1; have := h.rs; omega) (fun k hk c => by have := h.gs.2 k hk; have := h.rs; omega),
    h.i.set hj x, Keeps.setCell (p := ⟨r, j, none⟩) h.k (.inr h.rs) _, h.rs, h.gs⟩
theorem GetSt.ext (h : GetSt w base g v b D r f wr) (he : ∀ j, j < 21 → f j = f' j) : GetSt w base g v b D r f' wr := ⟨h.d, h.i.ext he, h.k, h.rs, h.gs⟩
theorem GetSt.below (h : GetSt w base g v b D r f wr) (hb : Below wr.heap.size wr w') : GetSt w base g v b D r f w' :=
  ⟨h.d.below hb, h.i.below hb h.i.lt, h.k.trans (.of_below hb), h.rs, h.gs⟩
end
/-- A number of each band got. -/
def GotPost (base g : Nat) (v : Value) (b : List Int) (D : DecS) (V : Nat → Int) (w : World) (e : Ending) (w' : World) : Prop :=
  ∃ r, e = .returned (.tuple #[.slice (some ⟨r, 0, none⟩) 21 21, .int .i64 0]) ∧ GetSt w base g v b D r V w'

set_option maxRecDepth 100000 in
theorem engGetAlone_any (base g : Nat) (v : Value) (b : List Int) (D : DecS) (d : Nat → Int) (w : World) (hD : DrcAt w base g v b D) (hG : GoodD D) (hb : ∀ j, 0 ≤ byteF b j ∧ byteF b j ≤ 255) (hbl : b.length ≤ 1000000) (hi : D.i ≤ 3000000) :
    Calls Tryz.prog 158 #[.pointer (some ⟨g, 0, none⟩)] w (GotPost base g v b (getN true b D d 21) (getV true b D d) w) := by
  have hmk : ∀ w : World, (Instr.makeSlice 72 (.int .i64 21) (.int .i64 21)).run Tryz.prog w = .ok (.slice (some ⟨w.heap.size, 0, none⟩) 21 21) (w.alloc (.cells (madeCells #[.int .i64 0] 21) 3)) :=
    fun w => make_zeros (P := Tryz.prog) Tryz.underlying72 infoE_int 21 (by decide) (by decide) w
  have H0 : RowKit.Hid (GetSt w base g v b (getN true b D d 0) w.heap.size (preF (getV true b D d) 0) (w.alloc (.cells (madeCells #[.int .i64 0] 21) 3))) :=
    ⟨hD.below (Below.alloc_new w _), IFun.ext (IFun.zeros w 3 .i64 21) fun j _ => (preF_zero _ j).symm, .of_below (Below.alloc_new w _), Nat.le_refl _, hD.lt.1, fun j hj => (hD.own j hj).1⟩
  have HG := Lib.hid (fun n => getN_good (q := true) (d := d) hb hG n)
  have HBd := Lib.hid (fun n => getV_bd (q := true) (d := d) hb hG n)
  have HS : RowKit.Hid (∀ n, getN true b D d (n + 1) = (decBits b (getN true b D d n) 0 5).2 ∧ getV true b D d n = (decBits b (getN true b D d n) 0 5).1) := fun n => by rw [getN_succ]; unfold getV; rw [getW_alone]; exact ⟨rfl, rfl⟩
  have HBy := Lib.hid hb
  generalize getN true b D d = N at H0 HG HS ⊢
  generalize getV true b D d = V at H0 HBd HS ⊢
  clear hD hG hb
  go_enter Tryz.func158, Tryz.ntmps158
  go_wp2
  clear hmk
  generalize (w.alloc (.cells (madeCells #[.int .i64 0] 21) 3)) = w1 at H0 ⊢
  generalize hr : w.heap.size = r at H0 ⊢
  clear hr
  go_loopw [5, 6, 7, 11] (fun _ _ _ i wr => ∃ k : Nat, k ≤ 21 ∧ i = .int .i64 (k : Int) ∧ RowKit.Hid (GetSt w base g v b (N k) r (preF V k) wr)) (fun _ _ _ i _ => 21 - (intOf i).toNat)
  case atStart => exact ⟨0, by omega, rfl, H0.out⟩
  case round =>
    obtain ⟨k, hk2, rfl, H⟩ := hrel
    clear H0
    by_cases hlt : k < 21
    · obtain ⟨g1, g2⟩ := HG.out k
      have HG1 := Lib.hid g1
      obtain ⟨n0, n1⟩ := HBd.out k
      obtain ⟨s1, s2⟩ := HS.out k
      have HS1 := Lib.hid s1
      have HS2 := Lib.hid s2
      have HV : RowKit.Hid (∀ w2, GetSt w base g v b (N (k + 1)) r (preF V k) w2 → GetSt w base g v b (N (k + 1)) r (preF V (k + 1)) (w2.setCell ⟨r, k, none⟩ (.int .i64 (V k)))) := fun w2 h => (h.set hlt (V k)).ext fun j _ => preF_next V k j
      clear g1 s1 s2
      generalize V k = x at n0 n1 HS2 HV
      have u1 : IntKind.i64.wrap x = x := IntWalk.i64_in _ (by omega)
      go_wp2_with (go_at_call 124; go_loud (refine (drcBits_any base g v b (N k) 5 _ H.out.d HBy.out hbl (by omega) HG1.out (by decide)).mono ?_); rintro e2 w2 ⟨rfl, k1, k2⟩; rw [← HS2.out]; rw [← HS1.out] at k1; have HT := Lib.hid (H.out.dec k1 k2); have o1 := HT.out.i.cell (j := k) hlt; have f1 := HT.out.i.frozen k; have HT2 := Lib.hid (HV.out _ HT.out); clear k1 k2)
      go_roundw
      case rel => exact ⟨k + 1, by omega, by go_num, HT2.out⟩
      case measure => simp [intOf] <;> omega
    · obtain rfl : k = 21 := by omega
      have Z := Lib.hid (H.out.ext fun j hj => preF_end V hj)
      go_wp2
      go_ret2
      exact ⟨r, rfl, Z.out⟩
set_option maxHeartbeats 400000 in
set_option maxRecDepth 100000 in
theorem engGetDiffs_any (base g : Nat) (v : Value) (b : List Int) (D : DecS) (a2 : Option Addr) (cap2 : Nat) (ds : List Int) (w : World) (hD : DrcAt w base g v b D) (hG : GoodD D) (hb : ∀ j, 0 ≤ byteF b j ∧ byteF b j ≤ 255) (hbl : b.length ≤ 1000000) (hi : D.i ≤ 3000000)
    (hi2 : IntsAt w w.heap.size .i64 a2 21 ds) (hr2 : rightB ds = true) (hne2 : ∀ r off, a2 = some ⟨r, off, none⟩ → r ≠ g) :
    Calls Tryz.prog 159 #[.pointer (some ⟨g, 0, none⟩), .slice a2 21 cap2] w (GotPost base g v b (getN false b D (fun j => ds.getD j 0) 21) (getV false b D (fun j => ds.getD j 0)) w) := by
  have hmk : ∀ w : World, (Instr.makeSlice 72 (.int .i64 21) (.int .i64 21)).run Tryz.prog w = .ok (.slice (some ⟨w.heap.size, 0, none⟩) 21 21) (w.alloc (.cells (madeCells #[.int .i64 0] 21) 3)) :=
    fun w => make_zeros (P := Tryz.prog) Tryz.underlying72 infoE_int 21 (by decide) (by decide) w
  have H00 : RowKit.Hid (∀ w1, Below w.heap.size w w1 → GetSt w base g v b (getN false b D (fun j => ds.getD j 0) 0) w1.heap.size (preF (getV false b D (fun j => ds.getD j 0)) 0) (w1.alloc (.cells (madeCells #[.int .i64 0] 21) 3))) := fun w1 hb1 =>
    ⟨hD.below (hb1.alloc hb1.size _), IFun.ext (IFun.zeros w1 3 .i64 21) fun j _ => (preF_zero _ j).symm, .of_below (hb1.alloc hb1.size _), hb1.size, hD.lt.1, fun j hj => (hD.own j hj).1⟩
  have HG := Lib.hid (fun n => getN_good (q := false) (d := fun j => ds.getD j 0) hb hG n)
  have HBd := Lib.hid (fun n => getV_bd (q := false) (d := fun j => ds.getD j 0) hb hG n)
  have HS : RowKit.Hid (∀ n, getN false b D (fun j => ds.getD j 0) (n + 1) = decSym b (getN false b D (fun j => ds.getD j 0) n) difL ∧ getV false b D (fun j => ds.getD j 0) n = (ds.getD n 0 + decWhich (getN false b D (fun j => ds.getD j 0) n) difL) % 32) := fun n => by rw [getN_succ]; unfold getV; rw [getW_diff]; exact ⟨rfl, rfl⟩
  have HBy := Lib.hid hb
  have HL := Lib.hid difL_good
  have HI2 := Lib.hid hi2
  have HN2 := Lib.hid hne2
  have HR2 := Lib.hid (rightB_true hr2).2
  generalize getN false b D (fun j => ds.getD j 0) = N at H00 HG HS ⊢
  generalize getV false b D (fun j => ds.getD j 0) = V at H00 HBd HS ⊢
  clear hD hG hb hi2 hr2 hne2
  go_enter Tryz.func159, Tryz.ntmps159
  go_wp2_with (go_at_call 172; go_loud (refine (engDiff_any _).mono ?_); rintro e w1 ⟨m, rfl, hm, hM, hb⟩; have H01 := Lib.hid (H00.out w1 hb); have HM1 := Lib.hid (hM.below (Below.alloc_new w1 (.cells (madeCells #[.int .i64 0] 21) 3))); clear hM hb)
  clear hmk H00
  have H0 : RowKit.Hid (GetSt w base g v b (N 0) w1.heap.size (preF V 0) (w1.alloc (.cells (madeCells #[.int .i64 0] 21) 3)) ∧ ModAt (w1.alloc (.cells (madeCells #[.int .i64 0] 21) 3)) m difL true ∧ m ≠ w1.heap.size) := ⟨H01.out, HM1.out, cel_ne HM1.out.2 H01.out.i (by decide)⟩
  clear H01 HM1
  generalize (w1.alloc (.cells (madeCells #[.int .i64 0] 21) 3)) = w2 at H0 ⊢
  generalize w1.heap.size = r at H0 ⊢
  go_loopw [8, 9, 10, 15] (fun _ _ _ i wr => ∃ k : Nat, k ≤ 21 ∧ i = .int .i64 (k : Int) ∧ RowKit.Hid (GetSt w base g v b (N k) r (preF V k) wr ∧ ModAt wr m difL true ∧ m ≠ r)) (fun _ _ _ i _ => 21 - (intOf i).toNat)
  case atStart => exact ⟨0, by omega, rfl, H0.out⟩
  case round =>
    obtain ⟨k, hk2, rfl, H⟩ := hrel
    clear H0
    by_cases hlt : k < 21
    · obtain ⟨g1, g2⟩ := HG.out k
      have HG1 := Lib.hid g1
      obtain ⟨n0, n1⟩ := HBd.out k
      obtain ⟨s1, s2⟩ := HS.out k
      have HS1 := Lib.hid s1
      have HS2 := Lib.hid s2
      obtain ⟨y0, y1⟩ := HR2.out k hlt
      have HJ : RowKit.Hid (IntsAt wr w.heap.size .i64 a2 21 ds) := HI2.out.keeps H.out.1.k (Nat.le_refl _) fun r off e _ _ c => HN2.out r off e c
      obtain ⟨b2, off2, rfl, hb2l, _, hcell0⟩ := HJ.out.at_ hlt
      have hnr : b2 ≠ g := HN2.out _ _ rfl
      have hws := H.out.1.k.size
      have HV : RowKit.Hid (∀ w2, GetSt w base g v b (N (k + 1)) r (preF V k) w2 ∧ ModAt w2 m difL true ∧ m ≠ r → GetSt w base g v b (N (k + 1)) r (preF V (k + 1)) (w2.setCell ⟨r, k, none⟩ (.int .i64 (V k))) ∧ ModAt (w2.setCell ⟨r, k, none⟩ (.int .i64 (V k))) m difL true ∧ m ≠ r) := fun w2 h =>
        ⟨(h.1.set hlt (V k)).ext fun j _ => preF_next V k j, h.2.1.keeps (F := fun k => k = r) (Keeps.setCell (F := fun k => k = r) (p := ⟨r, k, none⟩) (Keeps.refl _ w2) (.inl rfl) _) h.2.2, h.2.2⟩
      obtain ⟨s, hs⟩ : ∃ s, s = decWhich (N k) difL := ⟨_, rfl⟩
      have hs32 : s < 32 := by rw [hs, ← difL_len]; exact (decWhich_is g1 difL_good).1
      rw [← hs] at s2
      have HSs := Lib.hid hs
      have HS3 := Lib.hid s2
      clear g1 s1 s2 hs HS2 hcell0
      have HCl : RowKit.Hid (∀ w2, Keeps (fun j => j = g) wr w2 → w2.cell? ⟨b2, off2 + k, none⟩ = some (.int .i64 (ds.getD k 0))) := fun w2 hk => by
        obtain ⟨b3, off3, e, _, _, h⟩ := HJ.out.at_ hlt
        injection e with e
        injection e with e1 e2
        subst e1; subst e2
        exact (World.cell?_of_block (a := ⟨b2, off2 + k, none⟩) (hk.block b2 (by omega) hnr)).trans h
      generalize ds.getD k 0 = y at y0 y1 HS3 HCl
      generalize V k = x at n0 n1 HS3 HV
      have u1 : IntKind.i64.wrap (y + s) = y + s := IntWalk.i64_in _ (by omega)
      go_wp2_with (first
        | (go_at_call 177; go_loud (refine (drcSymbol_fixed base g v b (N k) m difL _ H.out.1.d H.out.2.1 HBy.out hbl (by omega) HG1.out HL.out).mono ?_); rintro e2 w2 ⟨rfl, k1, km, k2⟩; rw [← HSs.out]; rw [← HS1.out] at k1; have HT : RowKit.Hid (GetSt w base g v b (N (k + 1)) r (preF V k) w2 ∧ ModAt w2 m difL true ∧ m ≠ r) := ⟨H.out.1.dec k1 k2, km, H.out.2.2⟩; have o1 := HT.out.1.i.cell (j := k) hlt; have f1 := HT.out.1.i.frozen k; have c1 := HCl.out w2 k2; have HT2 := Lib.hid (HV.out _ HT.out); clear k1 k2 km)
        | (go_at_call 174; go_loud (refine (engWrap_any (y + s) _).mono ?_); rintro e1 w1' ⟨rfl, rfl⟩; rw [← HS3.out]))
      go_roundw
      case rel => exact ⟨k + 1, by omega, by go_num, HT2.out⟩
      case measure => simp [intOf] <;> omega
    · obtain rfl : k = 21 := by omega
      have Z := Lib.hid (H.out.1.ext fun j hj => preF_end V hj)
      go_wp2
      go_ret2
      exact ⟨r, rfl, Z.out⟩
set_option maxRecDepth 100000 in
theorem engGet0_any (base g : Nat) (v : Value) (b : List Int) (D : DecS) (q : Bool) (a2 : Option Addr) (len2 cap2 : Nat) (ds : List Int) (w : World) (hD : DrcAt w base g v b D) (hG : GoodD D) (hb : ∀ j, 0 ≤ byteF b j ∧ byteF b j ≤ 255) (hbl : b.length ≤ 1000000) (hi : D.i ≤ 3000000)
    (hA : AheadAt w q a2 len2 ds) (hne2 : q = false → ∀ r off, a2 = some ⟨r, off, none⟩ → r ≠ g) :
    Calls Tryz.prog 126 #[.pointer (some ⟨g, 0, none⟩), .slice a2 len2 cap2] w (GotPost base g v b (getN q b D (fun j => ds.getD j 0) 21) (getV q b D (fun j => ds.getD j 0)) w) := by
  have HD := Lib.hid hD
  have HG := Lib.hid hG
  have HB := Lib.hid hb
  have HI2 := Lib.hid hA.1
  rcases hA with ⟨_, hl2, ⟨rfl, hl0⟩ | ⟨rfl, hr2, rfl⟩⟩
  · have q0 : ((len2 : Int) == 0) = true := by simp; omega
    clear hD hG hb hne2 hl0
    go_enter Tryz.func126, Tryz.ntmps126
    go_wp2_with (go_at_call 158; go_loud (refine (engGetAlone_any base g v b D (fun j => ds.getD j 0) _ HD.out HG.out HB.out hbl hi).mono ?_); rintro e1 w1 ⟨r, rfl, hp⟩; have HP := Lib.hid hp; clear hp)
    go_ret2
    exact ⟨r, rfl, HP.out⟩
  · have HR2 := Lib.hid hr2
    have HN2 := Lib.hid (hne2 rfl)
    clear hD hG hb hne2 hr2
    go_enter Tryz.func126, Tryz.ntmps126
    go_wp2_with (go_at_call 159; go_loud (refine (engGetDiffs_any base g v b D a2 cap2 ds _ HD.out HG.out HB.out hbl hi HI2.out HR2.out HN2.out).mono ?_); rintro e1 w1 ⟨r, rfl, hp⟩; have HP := Lib.hid hp; clear hp)
    go_ret2
    exact ⟨r, rfl, HP.out⟩
theorem GetSt.ints {w wr : World} {base g r : Nat} {v : Value} {b : List Int} {D : DecS} {f : Nat → Int} (h : GetSt w base g v b D r f wr) : IntsAt wr wr.heap.size .i64 (some ⟨r, 0, none⟩) 21 (tabF 21 f) :=
  ⟨tabF_len _ _, .inr ⟨r, 0, rfl, h.i.lt, by decide, fun j hj => by rw [Nat.zero_add, h.i.cell hj, tabF_getD _ hj]⟩⟩
/-- What is got: ceilings, or that none are. -/
def GetPost (base g : Nat) (v : Value) (b : List Int) (D : DecS) (V : Nat → Int) (w : World) (e : Ending) (w' : World) : Prop :=
  ∃ r, GetSt w base g v b D r V w' ∧ e = .returned (if rightB (tabF 21 V) then .tuple #[.slice (some ⟨r, 0, none⟩) 21 21, .int .i64 0] else .tuple #[.slice none 0 0, .int .i64 3])
set_option maxRecDepth 100000 in
theorem engGet_any (base g : Nat) (v : Value) (b : List Int) (D : DecS) (q : Bool) (a2 : Option Addr) (len2 cap2 : Nat) (ds : List Int) (w : World) (hD : DrcAt w base g v b D) (hG : GoodD D) (hb : ∀ j, 0 ≤ byteF b j ∧ byteF b j ≤ 255) (hbl : b.length ≤ 1000000) (hi : D.i ≤ 3000000)
    (hA : AheadAt w q a2 len2 ds) (hne2 : q = false → ∀ r off, a2 = some ⟨r, off, none⟩ → r ≠ g) :
    Calls Tryz.prog 85 #[.pointer (some ⟨g, 0, none⟩), .slice a2 len2 cap2] w (GetPost base g v b (getN q b D (fun j => ds.getD j 0) 21) (getV q b D (fun j => ds.getD j 0)) w) := by
  have HM := Lib.hid hA.may
  have HA := Lib.hid hA.1
  have hl2 := hA.2.1
  have HQ := Lib.hid (engGet0_any base g v b D q a2 len2 cap2 ds w hD hG hb hbl hi hA hne2)
  generalize getV q b D (fun j => ds.getD j 0) = V at HQ ⊢
  generalize getN q b D (fun j => ds.getD j 0) 21 = D' at HQ ⊢
  clear hD hG hb hA hne2
  cases hR : rightB (tabF 21 V) with
  | true =>
    have HR := Lib.hid hR
    clear hR
    go_enter Tryz.func85, Tryz.ntmps85
    go_wp2_with (first
      | (go_at_call 125; go_loud (refine (engAhead_any _ _ _ _ _ HA.out hl2).mono ?_); rintro e1 w1 ⟨rfl, rfl⟩; rw [HM.out])
      | (go_at_call 126; go_loud (refine HQ.out.mono ?_); rintro e1 w1 ⟨r, rfl, hp⟩; have HP := Lib.hid hp; clear hp)
      | (go_at_call 107; go_loud (refine (engRight_any _ _ _ _ _ HP.out.ints (by decide)).mono ?_); rintro e1 w1 ⟨rfl, rfl⟩; rw [HR.out]))
    go_ret2
    exact ⟨r, HP.out, by rw [HR.out]; rfl⟩
  | false =>
    have HR := Lib.hid hR
    clear hR
    go_enter Tryz.func85, Tryz.ntmps85
    go_wp2_with (first
      | (go_at_call 125; go_loud (refine (engAhead_any _ _ _ _ _ HA.out hl2).mono ?_); rintro e1 w1 ⟨rfl, rfl⟩; rw [HM.out])
      | (go_at_call 126; go_loud (refine HQ.out.mono ?_); rintro e1 w1 ⟨r, rfl, hp⟩; have HP := Lib.hid hp; clear hp)
      | (go_at_call 107; go_loud (refine (engRight_any _ _ _ _ _ HP.out.ints (by decide)).mono ?_); rintro e1 w1 ⟨rfl, rfl⟩; rw [HR.out]))
    go_ret2
    exact ⟨r, HP.out, by rw [HR.out]; rfl⟩
end Go.Proofs.YtobhoecmmpijgaaGreat

/- What the document's Put of ceilings gives. -/
namespace Go.Proofs.YtobhoecmmpijgaaGreat
open Go.RowKit
set_option linter.unusedVariables false

/-- What is held while the document's encoder puts: its state, what else was written; its row is the first, or one from block B on. -/
def RefSt (w : World) (B base g r : Nat) (E : EncS) (wr : World) : Prop :=
  ∃ r' c', EncMem wr base g r' c' (digL E.n (E.k + 4)) E.s E.k ∧ Keeps (fun j => j = g ∨ j = r) w wr ∧ (r' = r ∨ B ≤ r') ∧ w.heap.size ≤ B ∧ B ≤ wr.heap.size
theorem RefSt.start {w w1 : World} {base g r c : Nat} {E : EncS} (h : EncMem w base g r c (digL E.n (E.k + 4)) E.s E.k) (hb : Below w.heap.size w w1) : RefSt w w1.heap.size base g r E w1 :=
  ⟨r, c, h.below hb, .of_below hb, .inl rfl, hb.size, Nat.le_refl _⟩
theorem RefSt.ints {w wr : World} {B base g r len : Nat} {E : EncS} {a : Option Addr} {zs : List Int} (h : RefSt w B base g r E wr) (hi : IntsAt w w.heap.size .i64 a len zs) (hne : ∀ b off, a = some ⟨b, off, none⟩ → b ≠ g ∧ b ≠ r) : IntsAt wr w.heap.size .i64 a len zs := by
  obtain ⟨r', c', h1, h2, h3⟩ := h
  exact hi.keeps h2 (Nat.le_refl _) fun b off e _ _ c => by
    obtain ⟨n1, n2⟩ := hne b off e
    omega
theorem RefSt.step {w wr w' : World} {B base g r r' r2 c2 : Nat} {E' : EncS} (h2 : Keeps (fun j => j = g ∨ j = r) w wr) (h3 : (r' = r ∨ B ≤ r') ∧ w.heap.size ≤ B ∧ B ≤ wr.heap.size)
    (k1 : EncMem w' base g r2 c2 (digL E'.n (E'.k + 4)) E'.s E'.k) (k2 : Keeps (fun j => j = g ∨ j = r' ∨ w.heap.size ≤ j) wr w') (k3 : r2 = r' ∨ wr.heap.size ≤ r2) : RefSt w B base g r E' w' := by
  have hs := k2.size
  exact ⟨r2, c2, k1, h2.then_ k2 fun j hj => by omega, by omega, h3.2.1, by omega⟩
theorem RefSt.post {w wr : World} {B base g r : Nat} {E : EncS} (h : RefSt w B base g r E wr) : EncPost base g r E w (.returned (.tuple #[])) wr := by
  obtain ⟨r', c', h1, h2, h3, h4, h5⟩ := h
  exact ⟨rfl, r', c', h1, h2, by omega⟩

set_option maxRecDepth 100000 in
theorem ref10Put_alone (base g r c : Nat) (e : EncS) (a a2 : Option Addr) (len cap cap2 : Nat) (zs : List Int) (d : Nat → Int) (w : World) (hE : EncMem w base g r c (digL e.n (e.k + 4)) e.s e.k) (hG : GoodE e) (hk : e.k ≤ 700000)
    (hi : IntsAt w w.heap.size .i64 a len zs) (hl : len = 21) (hr : rightB zs = true) (hne : ∀ b off, a = some ⟨b, off, none⟩ → b ≠ g ∧ b ≠ r) :
    Calls Tryz.prog 28 #[.pointer (some ⟨g, 0, none⟩), .slice a len cap, .slice a2 0 cap2] w (EncPost base g r (putN true e (fun j => zs.getD j 0) d 21) w) := by
  have HE0 := Lib.hid hE
  have HI := Lib.hid hi
  have HN := Lib.hid hne
  have HR := Lib.hid (rightB_true hr).2
  have HG := Lib.hid (fun n => putN_good (q := true) (f := fun j => zs.getD j 0) (d := d) hG n)
  have HS : RowKit.Hid (∀ n, putN true e (fun j => zs.getD j 0) d (n + 1) = encBits (putN true e (fun j => zs.getD j 0) d n) (zs.getD n 0) 5) := fun n => by rw [putN_succ, putW_alone]
  have H00 : RowKit.Hid (∀ w1, Below w.heap.size w w1 → RefSt w w1.heap.size base g r (putN true e (fun j => zs.getD j 0) d 0) w1) := fun w1 hb => RefSt.start hE hb
  generalize putN true e (fun j => zs.getD j 0) d = P at H00 HG HS ⊢
  clear hE hi hr hne hG
  go_enter Tryz.func28, Tryz.ntmps28
  go_wp2_with (go_at_call 57; go_loud (refine (refApart_any _).mono ?_); rintro e w1 ⟨mg, mr, rfl, hM, hb⟩; have HB := Lib.hid hb; have H0 := Lib.hid (H00.out w1 hb); clear hM hb)
  clear H00
  go_loopw [7] (fun i wr => ∃ k : Nat, k ≤ 21 ∧ i = .int .i64 (k : Int) ∧ RowKit.Hid (RefSt w w1.heap.size base g r (P k) wr)) (fun i _ => 21 - (intOf i).toNat)
  case atStart => exact ⟨0, by omega, rfl, H0.out⟩
  case round =>
    obtain ⟨k, hk2, rfl, H⟩ := hrel
    clear H0
    by_cases hlt : k < 21
    · obtain ⟨b, off, rfl, _, _, hcell⟩ := (H.out.ints HI.out HN.out).at_ (j := k) (by omega)
      obtain ⟨x0, x1⟩ := HR.out k hlt
      obtain ⟨r', c', he, hke, hv⟩ := H.out
      have HE := Lib.hid he
      have HK := Lib.hid hke
      have HV := Lib.hid hv
      obtain ⟨g1, g2, _⟩ := HG.out k
      have HG1 := Lib.hid g1
      have HP := Lib.hid (HS.out k)
      clear he hke hv H g1
      generalize zs.getD k 0 = x at hcell x0 x1 HP
      have hkl : k < len := by omega
      go_wp2_with (go_at_call 26; go_loud (refine (refEncBits_any base g r' c' (P k) x 5 _ HE.out HG1.out (by omega) (by decide) x0 (by omega)).mono ?_); rintro e2 w2 ⟨rfl, r2, c2, k1, k2, k3⟩; have HT : RowKit.Hid (RefSt w w1.heap.size base g r (P (k + 1)) w2) := (by rw [HP.out]; exact RefSt.step HK.out HV.out k1 (k2.mono fun j hj => hj.elim .inl fun c => .inr (.inl c)) k3); clear k1 k2 k3)
      go_roundw
      case rel => exact ⟨k + 1, by omega, by go_num, HT.out⟩
      case measure => simp [intOf] <;> omega
    · obtain rfl : k = 21 := by omega
      have Z := Lib.hid (H.out.post)
      go_wp2
      go_end0
      exact Z.out
set_option maxHeartbeats 400000 in
set_option maxRecDepth 100000 in
theorem ref10Put_diffs (base g r c : Nat) (e : EncS) (a a2 : Option Addr) (cap cap2 : Nat) (zs ds : List Int) (w : World) (hE : EncMem w base g r c (digL e.n (e.k + 4)) e.s e.k) (hG : GoodE e) (hk : e.k ≤ 700000)
    (hi : IntsAt w w.heap.size .i64 a 21 zs) (hr : rightB zs = true) (hne : ∀ b off, a = some ⟨b, off, none⟩ → b ≠ g ∧ b ≠ r)
    (hi2 : IntsAt w w.heap.size .i64 a2 21 ds) (hr2 : rightB ds = true) (hne2 : ∀ b off, a2 = some ⟨b, off, none⟩ → b ≠ g ∧ b ≠ r) :
    Calls Tryz.prog 28 #[.pointer (some ⟨g, 0, none⟩), .slice a 21 cap, .slice a2 21 cap2] w (EncPost base g r (putN false e (fun j => zs.getD j 0) (fun j => ds.getD j 0) 21) w) := by
  have HE0 := Lib.hid hE
  have HI := Lib.hid hi
  have HN := Lib.hid hne
  have HR := Lib.hid (rightB_true hr).2
  have HI2 := Lib.hid hi2
  have HN2 := Lib.hid hne2
  have HR2 := Lib.hid (rightB_true hr2).2
  have HL := Lib.hid difL_good
  have HG := Lib.hid (fun n => putN_good (q := false) (f := fun j => zs.getD j 0) (d := fun j => ds.getD j 0) hG n)
  have HS : RowKit.Hid (∀ n, putN false e (fun j => zs.getD j 0) (fun j => ds.getD j 0) (n + 1) = encSym (putN false e (fun j => zs.getD j 0) (fun j => ds.getD j 0) n) difL ((zs.getD n 0 - ds.getD n 0) % 32).toNat) := fun n => by rw [putN_succ, putW_diff]
  have H00 : RowKit.Hid (∀ w1, Below w.heap.size w w1 → RefSt w w1.heap.size base g r (putN false e (fun j => zs.getD j 0) (fun j => ds.getD j 0) 0) w1) := fun w1 hb => RefSt.start hE hb
  have HLt := Lib.hid hE.lt
  generalize putN false e (fun j => zs.getD j 0) (fun j => ds.getD j 0) = P at H00 HG HS ⊢
  clear hE hi hr hne hG hi2 hr2 hne2
  go_enter Tryz.func28, Tryz.ntmps28
  go_wp2_with (go_at_call 57; go_loud (refine (refApart_any _).mono ?_); rintro e w1 ⟨mg, mr, rfl, hM, hb⟩; have HB := Lib.hid hb; have H0 : RowKit.Hid (RefSt w w1.heap.size base g r (P 0) w1 ∧ RefMod w1 w.heap.size mg mr difL true) := ⟨H00.out w1 hb, hM⟩; have HBs := Lib.hid hb.size; have HMl := Lib.hid hM.lt; clear hM hb)
  clear H00
  go_loopw [7] (fun i wr => ∃ k : Nat, k ≤ 21 ∧ i = .int .i64 (k : Int) ∧ RowKit.Hid (RefSt w w1.heap.size base g r (P k) wr ∧ RefMod wr w.heap.size mg mr difL true)) (fun i _ => 21 - (intOf i).toNat)
  case atStart => exact ⟨0, by omega, rfl, H0.out⟩
  case round =>
    obtain ⟨k, hk2, rfl, H⟩ := hrel
    clear H0
    by_cases hlt : k < 21
    · obtain ⟨b, off, rfl, _, _, hcell⟩ := (H.out.1.ints HI.out HN.out).at_ hlt
      obtain ⟨b2, off2, rfl, _, _, hcell2⟩ := (H.out.1.ints HI2.out HN2.out).at_ hlt
      obtain ⟨x0, x1⟩ := HR.out k hlt
      obtain ⟨y0, y1⟩ := HR2.out k hlt
      have HM := Lib.hid (H.out.2.drewN 1)
      obtain ⟨r', c', he, hke, hv⟩ := H.out.1
      have HE := Lib.hid (he.drewN 1)
      have HK := Lib.hid (hke.drewN 1)
      have HV := Lib.hid hv
      have HD : RowKit.Hid (mg ≠ g ∧ mg ≠ r' ∧ mr ≠ g ∧ mr ≠ r') := by
        have := HLt.out; have := HMl.out; have := HV.out
        refine ⟨?_, ?_, ?_, ?_⟩ <;> omega
      obtain ⟨g1, g2, _⟩ := HG.out k
      have HG1 := Lib.hid g1
      have HP := Lib.hid (HS.out k)
      clear he hke hv H g1
      generalize zs.getD k 0 = x at hcell x0 x1 HP
      generalize ds.getD k 0 = y at hcell2 y0 y1 HP
      have u0 : IntKind.i64.wrap (x + 32) = x + 32 := IntWalk.i64_in _ (by omega)
      have u1 : IntKind.i64.wrap (x + 32 - y) = x + 32 - y := IntWalk.i64_in _ (by omega)
      obtain ⟨s, hs⟩ : ∃ s : Nat, (x - y) % 32 = s := ⟨((x - y) % 32).toNat, by omega⟩
      have hs2 : s < difL.length := by rw [difL_len]; omega
      have HSl := Lib.hid hs2
      have HSn : RowKit.Hid (((x - y) % 32).toNat = s) := by show _ = _; omega
      have u2 : (x + 32 - y).tmod 32 = (s : Int) := by rw [Int.tmod_eq_emod_of_nonneg (by omega)]; omega
      rw [HSn.out] at HP
      clear hs hs2
      go_wp2
      go_still_tail 13, (by kernel_rfl)
      repeat still_step
      change wpList _ _ _ _ _ wr.drew
      go_wp2_with (go_at_call 58; go_loud (refine (refEncSymbol_any base w.heap.size g r' c' mg mr (P k) difL true s _ HE.out HM.out HG1.out HL.out HSl.out (by omega) HD.out.1 HD.out.2.1 HD.out.2.2.1 HD.out.2.2.2).mono ?_); rintro e2 w2 ⟨rfl, r2, c2, k1, km, k2, k3⟩; have HT : RowKit.Hid (RefSt w w1.heap.size base g r (P (k + 1)) w2 ∧ RefMod w2 w.heap.size mg mr difL true) := ⟨(by rw [HP.out]; exact RefSt.step HK.out HV.out k1 (k2.mono fun j hj => hj.elim .inl fun c => .inr (c.elim .inl fun c => .inr (by have := HMl.out; omega))) k3), km⟩; clear k1 k2 k3 km)
      go_roundw
      case rel => exact ⟨k + 1, by omega, by go_num, HT.out⟩
      case measure => simp [intOf] <;> omega
    · obtain rfl : k = 21 := by omega
      have Z := Lib.hid (H.out.1.post)
      go_wp2
      go_end0
      exact Z.out
end Go.Proofs.YtobhoecmmpijgaaGreat
