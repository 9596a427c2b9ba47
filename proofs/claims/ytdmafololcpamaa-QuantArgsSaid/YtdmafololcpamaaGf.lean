/- Plain facts, and what functions give, for the proofs of this seat: several texts in one, each with its own first remark. -/
import Derived.Test.YtdmafololcpamaaGe
import Derived.Test.YtdmafololcpamaaGb
import Derived.Test.YtdmafololcpamaaGc
import Derived.Deep.RegionHeld3

/- What plan, fill and same of layer 12's laws give. -/
namespace Go.Proofs.Ytdmafololcpamaa
open Go.RowKit
set_option linter.unusedVariables false

/-! ### Ceilings and steps that may be -/
def stepQ (zs : List Int) (len i : Nat) : Int := if len = 0 then 0 else min (max (max (cutF zs len i - zs.getD ((i + 1) % len) 0 % 14) 0) (cutF zs len i - 12)) 26
theorem stepQ_bd (zs : List Int) (len i : Nat) : 0 ≤ stepQ zs len i ∧ stepQ zs len i ≤ 26 ∧ cutF zs len i - stepQ zs len i ≤ 12 := by
  have hc := cutF_bd zs len i
  unfold stepQ
  split
  · rename_i h
    have : cutF zs len i = 0 := by unfold cutF; rw [if_pos h]
    omega
  · omega
theorem plan_may (zs : List Int) (len : Nat) : mayQ (tabF 21 (cutF zs len)) (tabF 21 (stepQ zs len)) = true :=
  mayQ_of (cutF_right zs len) (rightB_of (tabF_len _ _) fun j hj => by rw [tabF_getD _ hj]; have := stepQ_bd zs len j; omega) fun j hj => by rw [tabF_getD _ hj, tabF_getD _ hj]; exact (stepQ_bd zs len j).2.2
def PlanPost (zs : List Int) (len : Nat) (w : World) (e : Ending) (w' : World) : Prop :=
  ∃ c s, e = .returned (.tuple #[.slice (some ⟨c, 0, none⟩) 21 21, .slice (some ⟨s, 0, none⟩) 21 21]) ∧ IFun w' c 3 .i64 21 (cutF zs len) ∧ IFun w' s 3 .i64 21 (stepQ zs len) ∧ w.heap.size ≤ c ∧ w.heap.size ≤ s ∧ c ≠ s ∧ Below w.heap.size w w'
/-- What is held on the way. -/
def PlanSt (zs : List Int) (len : Nat) (w : World) (c s k : Nat) (wr : World) : Prop :=
  IFun wr c 3 .i64 21 (preF (cutF zs len) k) ∧ IFun wr s 3 .i64 21 (preF (stepQ zs len) k) ∧ Below w.heap.size w wr ∧ w.heap.size ≤ c ∧ w.heap.size ≤ s ∧ c ≠ s
theorem PlanSt.next {zs : List Int} {len : Nat} {w wr : World} {c s k : Nat} (h : PlanSt zs len w c s k wr) (hk : k < 21) (q : Nat) :
    PlanSt zs len w c s (k + 1) (((wr.setCell ⟨c, k, none⟩ (.int .i64 (cutF zs len k))).drewN q).setCell ⟨s, k, none⟩ (.int .i64 (stepQ zs len k))) := by
  obtain ⟨h1, h2, h3, h4, h5, h6⟩ := h
  refine ⟨IFun.ext ((h1.set (j := k) hk (cutF zs len k)).drewN q |>.far (p := ⟨s, k, none⟩) h6 _) fun i _ => preF_next _ k i, IFun.ext (((h2.far (p := ⟨c, k, none⟩) (fun e => h6 e.symm) _).drewN q).set (j := k) hk (stepQ zs len k)) fun i _ => preF_next _ k i,
    (Below.drewN' (h3.setCell (p := ⟨c, k, none⟩) h4 _) q).setCell (p := ⟨s, k, none⟩) h5 _, h4, h5, h6⟩
theorem PlanSt.none {zs : List Int} {len : Nat} {w wr : World} {c s k : Nat} (h : PlanSt zs len w c s k wr) (h0 : len = 0) : PlanSt zs len w c s (k + 1) wr := by
  obtain ⟨h1, h2, h3⟩ := h
  refine ⟨IFun.ext h1 fun i _ => ?_, IFun.ext h2 fun i _ => ?_, h3⟩
  · unfold preF cutF; rw [if_pos h0]; split <;> split <;> rfl
  · unfold preF stepQ; rw [if_pos h0]; split <;> split <;> rfl
set_option maxHeartbeats 1000000 in
set_option maxRecDepth 100000 in
theorem plan12_any (a : Option Addr) (len cap : Nat) (zs : List Int) (w : World) (hl : IntsAt w w.heap.size .u8 a len zs) (hz : ∀ j, 0 ≤ zs.getD j 0 ∧ zs.getD j 0 ≤ 255) (hlen : len ≤ 1000) :
    Calls Try.prog 8 #[.slice a len cap] w (PlanPost zs len w) := by
  have HL := Lib.hid hl
  have HZ := Lib.hid hz
  have hmk : ∀ w : World, (Instr.makeSlice 26 (.int .i64 21) (.int .i64 21)).run Try.prog w = .ok (.slice (some ⟨w.heap.size, 0, none⟩) 21 21) (w.alloc (.cells (madeCells #[.int .i64 0] 21) 3)) :=
    fun w => make_zeros (P := Try.prog) Try.underlying26 infoE_int 21 (by decide) (by decide) w
  have HZ2 := Lib.hid (fun w => IFun.zeros w 3 .i64 21)
  generalize madeCells #[Value.int .i64 0] 21 = mi at hmk HZ2
  clear hl hz
  go_enter Try.func8, Try.ntmps8
  go_wp2
  go_region
  all_goals
    obtain ⟨w5, hw5⟩ : ∃ w5, w5 = ((w.alloc (.cells mi 3)).alloc (.cells mi 3)).drew := ⟨_, rfl⟩
    rw [← hw5]
    obtain ⟨g1, hg1⟩ : ∃ g1, g1 = w.heap.size := ⟨_, rfl⟩
    obtain ⟨g2, hg2⟩ : ∃ g2, g2 = w.heap.size + 1 := ⟨_, rfl⟩
    rw [← hg2, ← hg1]
    have H5 : RowKit.Hid (Below w.heap.size w w5 ∧ IFun w5 g1 3 .i64 21 (fun _ => 0) ∧ IFun w5 g2 3 .i64 21 (fun _ => 0) ∧ w.heap.size ≤ g1 ∧ w.heap.size ≤ g2 ∧ g1 ≠ g2) := (by
      have ha := chain (Below.alloc_new w (.cells mi 3)) (Below.alloc_new _ (.cells mi 3))
      have h3 := IFun.drewN ((HZ2.out w).alloc (.cells mi 3)) 1
      have h4 := IFun.drewN (HZ2.out (w.alloc (.cells mi 3))) 1
      rw [sizeE_alloc, ← hg2] at h4
      rw [← hg1] at h3
      rw [hw5]
      exact ⟨Below.drewN' ha 1, h3, h4, by omega, by omega, by omega⟩)
    clear hw5 hg1 hg2 hmk HZ2
  · have H0 : RowKit.Hid (PlanSt zs len w g1 g2 0 w5) := ⟨IFun.ext H5.out.2.1 fun j _ => (preF_zero _ j).symm, IFun.ext H5.out.2.2.1 fun j _ => (preF_zero _ j).symm, H5.out.1, H5.out.2.2.2.1, H5.out.2.2.2.2.1, H5.out.2.2.2.2.2⟩
    clear H5
    go_wp2
    go_loopw [6, 11] (fun _ i wr => ∃ k : Nat, k ≤ 21 ∧ i = .int .i64 (k : Int) ∧ RowKit.Hid (PlanSt zs len w g1 g2 k wr)) (fun _ i _ => 21 - (intOf i).toNat)
    case atStart => exact ⟨0, by omega, rfl, H0.out⟩
    case round =>
      obtain ⟨k, hk, rfl, H⟩ := hrel
      clear H0
      by_cases hlt : k < 21
      · have l1 : (k : Int) < 21 := by omega
        by_cases hl0 : len = 0
        · have HN := Lib.hid (H.out.none hl0)
          have ll : ¬ 0 < (len : Int) := by omega
          clear H hl0
          go_wp2
          go_roundw
          case rel => exact ⟨k + 1, by omega, by go_num, HN.out⟩
          case measure => simp [intOf] <;> omega
        · have o1 := H.out.1.cell (j := k) hlt
          have f1 := H.out.1.frozen k
          have o2 := H.out.2.1.cell (j := k) hlt
          have f2 := H.out.2.1.frozen k
          have HNe : RowKit.Hid (w.heap.size ≤ g1 ∧ w.heap.size ≤ g2 ∧ g1 ≠ g2) := H.out.2.2.2
          have HS := Lib.hid (H.out.next hlt 1)
          obtain ⟨m, hm⟩ : ∃ m, m = k % len := ⟨_, rfl⟩
          obtain ⟨m2, hm2⟩ : ∃ m2, m2 = (k + 1) % len := ⟨_, rfl⟩
          have hml : m < len := by rw [hm]; exact Nat.mod_lt _ (by omega)
          have hml2 : m2 < len := by rw [hm2]; exact Nat.mod_lt _ (by omega)
          have f4 : (k : Int).tmod (len : Int) = (m : Int) := by rw [Int.tmod_eq_emod_of_nonneg (by omega), hm]; simp
          have f5 : ((k : Int) + 1).tmod (len : Int) = (m2 : Int) := by rw [Int.tmod_eq_emod_of_nonneg (by omega), hm2, Int.natCast_emod, Int.natCast_add]; rfl
          obtain ⟨b, off, rfl, hbl, _, hc⟩ := HL.out.at_ hml
          have hc2 := ints_cell HL.out hml2
          have k1 := (H.out.2.2.1.cell (p := ⟨b, off + m, none⟩) hbl).trans hc
          have k2 := (H.out.2.2.1.cell (p := ⟨b, off + m2, none⟩) hbl).trans hc2
          have HBc : RowKit.Hid (b ≠ g1) := by have := HNe.out.1; show _ ≠ _; omega
          obtain ⟨y0, y1⟩ := HZ.out m
          obtain ⟨v0, v1⟩ := HZ.out m2
          have HE : zs.getD m 0 % 27 = cutF zs len k := by unfold cutF; rw [if_neg hl0, hm]
          have HE2 : min (max (max (cutF zs len k - zs.getD m2 0 % 14) 0) (cutF zs len k - 12)) 26 = stepQ zs len k := by unfold stepQ; rw [if_neg hl0, hm2]
          generalize zs.getD m 0 = y at k1 HE y0 y1
          generalize zs.getD m2 0 = v at k2 HE2 v0 v1
          have gg1 : y.tmod 27 = cutF zs len k := by rw [Int.tmod_eq_emod_of_nonneg y0]; exact HE
          have gg2 : v.tmod 14 = v % 14 := Int.tmod_eq_emod_of_nonneg v0
          have g3 : IntKind.i64.wrap y = y := IntWalk.i64_in _ (by omega)
          have g4 : IntKind.i64.wrap v = v := IntWalk.i64_in _ (by omega)
          have hx := cutF_bd zs len k
          obtain ⟨v14, hv14⟩ : ∃ v14, v14 = v % 14 := ⟨_, rfl⟩
          rw [← hv14] at gg2 HE2
          have hv0 : 0 ≤ v14 := by omega
          have hv1 : v14 ≤ 13 := by omega
          generalize cutF zs len k = x at HS gg1 HE2 hx
          generalize stepQ zs len k = z at HS HE2
          have g5 : IntKind.i64.wrap (x - v14) = x - v14 := IntWalk.i64_in _ (by omega)
          have g6 : IntKind.i64.wrap (x - 12) = x - 12 := IntWalk.i64_in _ (by omega)
          have g7 : IntKind.i64.wrap ((k : Int) + 1) = (k : Int) + 1 := IntWalk.i64_in _ (by omega)
          have HZe := Lib.hid HE2
          clear HE HE2 hv14 hc hc2
          generalize preF (cutF zs len) k k = ox at o1
          generalize preF (stepQ zs len) k k = os at o2
          have l2 : (m : Int) < (len : Int) := by omega
          have l3 : (m2 : Int) < (len : Int) := by omega
          have l4 : ¬ (len : Int) = 0 := by omega
          have l5 : 0 < (len : Int) := by omega
          clear hm hm2 H
          have hne := HNe.out.2.2
          have hbc := HBc.out
          have n1 : (wr.setCell ⟨g1, k, none⟩ (.int .i64 x)).cell? ⟨g1, k, none⟩ = some (.int .i64 x) := World.cell?_setCell_same _ _ _ o1
          have n2 : (wr.setCell ⟨g1, k, none⟩ (.int .i64 x)).cell? ⟨g2, k, none⟩ = some (.int .i64 os) := (World.cell?_setCell_other _ _ _ _ (by first | (simp; done) | (simp; intro e; exact absurd e.symm hne))).trans o2
          have n3 : (wr.setCell ⟨g1, k, none⟩ (.int .i64 x)).frozen? ⟨g2, k, none⟩ = false := (World.frozen?_setCell _ _ _ _).trans f2
          have n4 : (wr.setCell ⟨g1, k, none⟩ (.int .i64 x)).cell? ⟨b, off + m2, none⟩ = some (.int .u8 v) := (World.cell?_setCell_other _ _ _ _ (by first | (simp; done) | (simp; intro e; exact absurd e hbc))).trans k2
          go_upto_block 2 with fail
          generalize wr.setCell ⟨g1, k, none⟩ (.int .i64 x) = wc at HS n1 n2 n3 n4 ⊢
          clear o1 f1 o2 f2 k1 k2
          go_still_tail 25, (by kernel_rfl)
          repeat still_step
          change wpList _ _ _ _ _ wc.drew
          obtain ⟨M, hM⟩ : ∃ M, M = (if (if x - v14 < 0 then 0 else x - v14) < x - 12 then x - 12 else if x - v14 < 0 then 0 else x - v14) := ⟨_, rfl⟩
          have hM2 : M = max (max (x - v14) 0) (x - 12) := by rw [hM]; split <;> split <;> omega
          rw [← hM]
          have hE : (if 26 < M then 26 else M) = z := by rw [← HZe.out, ← hM2]; split <;> omega
          rw [hE]
          have m2' : wc.drew.cell? ⟨g2, k, none⟩ = some (.int .i64 os) := n2
          have m3' : wc.drew.frozen? ⟨g2, k, none⟩ = false := n3
          have HS1 : RowKit.Hid (PlanSt zs len w g1 g2 (k + 1) (wc.drew.setCell ⟨g2, k, none⟩ (.int .i64 z))) := HS.out
          clear HS n1 n2 n3 n4 hM hM2 hE g5 g6 g7 gg2
          generalize wc.drew = wq at HS1 m2' m3' ⊢
          go_wp2
          go_roundw
          case rel => exact ⟨k + 1, by omega, by go_num, HS1.out⟩
          case measure => simp [intOf] <;> omega
      · obtain rfl : k = 21 := by omega
        have Z : RowKit.Hid (IFun wr g1 3 .i64 21 (cutF zs len) ∧ IFun wr g2 3 .i64 21 (stepQ zs len) ∧ Below w.heap.size w wr) := ⟨IFun.ext H.out.1 fun i hi => preF_end _ hi, IFun.ext H.out.2.1 fun i hi => preF_end _ hi, H.out.2.2.1⟩
        have HNe : RowKit.Hid (w.heap.size ≤ g1 ∧ w.heap.size ≤ g2 ∧ g1 ≠ g2) := H.out.2.2.2
        go_wp2
        go_ret2
        exact ⟨g1, g2, rfl, Z.out.1, Z.out.2.1, HNe.out.1, HNe.out.2.1, HNe.out.2.2, Z.out.2.2⟩
  · have H0 : RowKit.Hid (PlanSt zs len w g2 g1 0 w5) := ⟨IFun.ext H5.out.2.2.1 fun j _ => (preF_zero _ j).symm, IFun.ext H5.out.2.1 fun j _ => (preF_zero _ j).symm, H5.out.1, H5.out.2.2.2.2.1, H5.out.2.2.2.1, fun e => H5.out.2.2.2.2.2 e.symm⟩
    clear H5
    go_wp2
    go_loopw [6, 11] (fun _ i wr => ∃ k : Nat, k ≤ 21 ∧ i = .int .i64 (k : Int) ∧ RowKit.Hid (PlanSt zs len w g2 g1 k wr)) (fun _ i _ => 21 - (intOf i).toNat)
    case atStart => exact ⟨0, by omega, rfl, H0.out⟩
    case round =>
      obtain ⟨k, hk, rfl, H⟩ := hrel
      clear H0
      by_cases hlt : k < 21
      · have l1 : (k : Int) < 21 := by omega
        by_cases hl0 : len = 0
        · have HN := Lib.hid (H.out.none hl0)
          have ll : ¬ 0 < (len : Int) := by omega
          clear H hl0
          go_wp2
          go_roundw
          case rel => exact ⟨k + 1, by omega, by go_num, HN.out⟩
          case measure => simp [intOf] <;> omega
        · have o1 := H.out.1.cell (j := k) hlt
          have f1 := H.out.1.frozen k
          have o2 := H.out.2.1.cell (j := k) hlt
          have f2 := H.out.2.1.frozen k
          have HNe : RowKit.Hid (w.heap.size ≤ g2 ∧ w.heap.size ≤ g1 ∧ g2 ≠ g1) := H.out.2.2.2
          have HS := Lib.hid (H.out.next hlt 1)
          obtain ⟨m, hm⟩ : ∃ m, m = k % len := ⟨_, rfl⟩
          obtain ⟨m2, hm2⟩ : ∃ m2, m2 = (k + 1) % len := ⟨_, rfl⟩
          have hml : m < len := by rw [hm]; exact Nat.mod_lt _ (by omega)
          have hml2 : m2 < len := by rw [hm2]; exact Nat.mod_lt _ (by omega)
          have f4 : (k : Int).tmod (len : Int) = (m : Int) := by rw [Int.tmod_eq_emod_of_nonneg (by omega), hm]; simp
          have f5 : ((k : Int) + 1).tmod (len : Int) = (m2 : Int) := by rw [Int.tmod_eq_emod_of_nonneg (by omega), hm2, Int.natCast_emod, Int.natCast_add]; rfl
          obtain ⟨b, off, rfl, hbl, _, hc⟩ := HL.out.at_ hml
          have hc2 := ints_cell HL.out hml2
          have k1 := (H.out.2.2.1.cell (p := ⟨b, off + m, none⟩) hbl).trans hc
          have k2 := (H.out.2.2.1.cell (p := ⟨b, off + m2, none⟩) hbl).trans hc2
          have HBc : RowKit.Hid (b ≠ g2) := by have := HNe.out.1; show _ ≠ _; omega
          obtain ⟨y0, y1⟩ := HZ.out m
          obtain ⟨v0, v1⟩ := HZ.out m2
          have HE : zs.getD m 0 % 27 = cutF zs len k := by unfold cutF; rw [if_neg hl0, hm]
          have HE2 : min (max (max (cutF zs len k - zs.getD m2 0 % 14) 0) (cutF zs len k - 12)) 26 = stepQ zs len k := by unfold stepQ; rw [if_neg hl0, hm2]
          generalize zs.getD m 0 = y at k1 HE y0 y1
          generalize zs.getD m2 0 = v at k2 HE2 v0 v1
          have gg1 : y.tmod 27 = cutF zs len k := by rw [Int.tmod_eq_emod_of_nonneg y0]; exact HE
          have gg2 : v.tmod 14 = v % 14 := Int.tmod_eq_emod_of_nonneg v0
          have g3 : IntKind.i64.wrap y = y := IntWalk.i64_in _ (by omega)
          have g4 : IntKind.i64.wrap v = v := IntWalk.i64_in _ (by omega)
          have hx := cutF_bd zs len k
          obtain ⟨v14, hv14⟩ : ∃ v14, v14 = v % 14 := ⟨_, rfl⟩
          rw [← hv14] at gg2 HE2
          have hv0 : 0 ≤ v14 := by omega
          have hv1 : v14 ≤ 13 := by omega
          generalize cutF zs len k = x at HS gg1 HE2 hx
          generalize stepQ zs len k = z at HS HE2
          have g5 : IntKind.i64.wrap (x - v14) = x - v14 := IntWalk.i64_in _ (by omega)
          have g6 : IntKind.i64.wrap (x - 12) = x - 12 := IntWalk.i64_in _ (by omega)
          have g7 : IntKind.i64.wrap ((k : Int) + 1) = (k : Int) + 1 := IntWalk.i64_in _ (by omega)
          have HZe := Lib.hid HE2
          clear HE HE2 hv14 hc hc2
          generalize preF (cutF zs len) k k = ox at o1
          generalize preF (stepQ zs len) k k = os at o2
          have l2 : (m : Int) < (len : Int) := by omega
          have l3 : (m2 : Int) < (len : Int) := by omega
          have l4 : ¬ (len : Int) = 0 := by omega
          have l5 : 0 < (len : Int) := by omega
          clear hm hm2 H
          have hne := HNe.out.2.2
          have hbc := HBc.out
          have n1 : (wr.setCell ⟨g2, k, none⟩ (.int .i64 x)).cell? ⟨g2, k, none⟩ = some (.int .i64 x) := World.cell?_setCell_same _ _ _ o1
          have n2 : (wr.setCell ⟨g2, k, none⟩ (.int .i64 x)).cell? ⟨g1, k, none⟩ = some (.int .i64 os) := (World.cell?_setCell_other _ _ _ _ (by first | (simp; done) | (simp; intro e; exact absurd e.symm hne))).trans o2
          have n3 : (wr.setCell ⟨g2, k, none⟩ (.int .i64 x)).frozen? ⟨g1, k, none⟩ = false := (World.frozen?_setCell _ _ _ _).trans f2
          have n4 : (wr.setCell ⟨g2, k, none⟩ (.int .i64 x)).cell? ⟨b, off + m2, none⟩ = some (.int .u8 v) := (World.cell?_setCell_other _ _ _ _ (by first | (simp; done) | (simp; intro e; exact absurd e hbc))).trans k2
          go_upto_block 2 with fail
          generalize wr.setCell ⟨g2, k, none⟩ (.int .i64 x) = wc at HS n1 n2 n3 n4 ⊢
          clear o1 f1 o2 f2 k1 k2
          go_still_tail 25, (by kernel_rfl)
          repeat still_step
          change wpList _ _ _ _ _ wc.drew
          obtain ⟨M, hM⟩ : ∃ M, M = (if (if x - v14 < 0 then 0 else x - v14) < x - 12 then x - 12 else if x - v14 < 0 then 0 else x - v14) := ⟨_, rfl⟩
          have hM2 : M = max (max (x - v14) 0) (x - 12) := by rw [hM]; split <;> split <;> omega
          rw [← hM]
          have hE : (if 26 < M then 26 else M) = z := by rw [← HZe.out, ← hM2]; split <;> omega
          rw [hE]
          have m2' : wc.drew.cell? ⟨g1, k, none⟩ = some (.int .i64 os) := n2
          have m3' : wc.drew.frozen? ⟨g1, k, none⟩ = false := n3
          have HS1 : RowKit.Hid (PlanSt zs len w g2 g1 (k + 1) (wc.drew.setCell ⟨g1, k, none⟩ (.int .i64 z))) := HS.out
          clear HS n1 n2 n3 n4 hM hM2 hE g5 g6 g7 gg2
          generalize wc.drew = wq at HS1 m2' m3' ⊢
          go_wp2
          go_roundw
          case rel => exact ⟨k + 1, by omega, by go_num, HS1.out⟩
          case measure => simp [intOf] <;> omega
      · obtain rfl : k = 21 := by omega
        have Z : RowKit.Hid (IFun wr g2 3 .i64 21 (cutF zs len) ∧ IFun wr g1 3 .i64 21 (stepQ zs len) ∧ Below w.heap.size w wr) := ⟨IFun.ext H.out.1 fun i hi => preF_end _ hi, IFun.ext H.out.2.1 fun i hi => preF_end _ hi, H.out.2.2.1⟩
        have HNe : RowKit.Hid (w.heap.size ≤ g2 ∧ w.heap.size ≤ g1 ∧ g2 ≠ g1) := H.out.2.2.2
        go_wp2
        go_ret2
        exact ⟨g2, g1, rfl, Z.out.1, Z.out.2.1, HNe.out.1, HNe.out.2.1, HNe.out.2.2, Z.out.2.2⟩
end Go.Proofs.Ytdmafololcpamaa

/- What fill and same of layer 12's laws give. -/
namespace Go.Proofs.Ytdmafololcpamaa
open Go.RowKit
set_option linter.unusedVariables false

/-! ### Lines of any numbers -/
def rawQ (zs : List Int) (len i : Nat) : Int := if len = 0 then 0 else zs.getD (i % len) 0 / 2 ^ (i / len % 9)
def fillQ (zs : List Int) (len : Nat) (c : Nat → Int) (ov : Bool) (i : Nat) : Int := if ov then rawQ zs len i else (rawQ zs len i).tmod (P2 (c (ofN i)).toNat)
theorem rawQ_bd {zs : List Int} (h : ∀ j, -2147483648 ≤ zs.getD j 0 ∧ zs.getD j 0 ≤ 2147483647) (len i : Nat) : -2147483648 ≤ rawQ zs len i ∧ rawQ zs len i ≤ 2147483647 := by
  unfold rawQ; split
  · decide
  · obtain ⟨h0, h1⟩ := h (i % len)
    have hp : (1 : Int) ≤ 2 ^ (i / len % 9) := Int.le_of_lt_add_one (by have := Int.pow_pos (n := 2) (m := i / len % 9) (by decide); omega)
    generalize (2 : Int) ^ (i / len % 9) = p at hp
    constructor
    · rw [Int.le_ediv_iff_mul_le (by omega)]
      have := Int.mul_le_mul_of_nonneg_left hp (show (0 : Int) ≤ 2147483648 by decide)
      omega
    · have := Int.ediv_le_self (a := zs.getD (i % len) 0) p
      by_cases hz : 0 ≤ zs.getD (i % len) 0
      · have := this hz; omega
      · have : zs.getD (i % len) 0 / p < 0 := Int.ediv_neg_of_neg_of_pos (by omega) (by omega)
        omega
theorem emodQ_le {x p : Int} (h : 0 ≤ x) (hp : 0 < p) : x % p ≤ x := by
  have e := Int.emod_add_mul_ediv x p
  have := Int.mul_nonneg (show 0 ≤ p by omega) (Int.ediv_nonneg h (show 0 ≤ p by omega))
  omega
theorem tmodQ_bd {x p : Int} (hp : 0 < p) : -(p - 1) ≤ x.tmod p ∧ x.tmod p ≤ p - 1 ∧ (-2147483648 ≤ x → -2147483648 ≤ x.tmod p) ∧ (x ≤ 2147483647 → x.tmod p ≤ 2147483647) := by
  by_cases h : 0 ≤ x
  · rw [Int.tmod_eq_emod_of_nonneg h]
    have h1 := Int.emod_nonneg x (show p ≠ 0 by omega)
    have h2 := Int.emod_lt_of_pos x hp
    have h3 := emodQ_le h (show 0 < p from hp)
    omega
  · have e : x.tmod p = -((-x).tmod p) := by rw [Int.neg_tmod, Int.neg_neg]
    rw [e, Int.tmod_eq_emod_of_nonneg (show 0 ≤ -x by omega)]
    have h1 := Int.emod_nonneg (-x) (show p ≠ 0 by omega)
    have h2 := Int.emod_lt_of_pos (-x) hp
    have h3 := emodQ_le (show 0 ≤ -x by omega) hp
    omega
theorem fillQ_bd {zs : List Int} (h : ∀ j, -2147483648 ≤ zs.getD j 0 ∧ zs.getD j 0 ≤ 2147483647) (len : Nat) (c : Nat → Int) (ov : Bool) (i : Nat) : -2147483648 ≤ fillQ zs len c ov i ∧ fillQ zs len c ov i ≤ 2147483647 := by
  have hr := rawQ_bd h len i
  unfold fillQ; split
  · exact hr
  · have := tmodQ_bd (x := rawQ zs len i) (P2_pos (c (ofN i)).toNat)
    omega
theorem fillQ_held (zs : List Int) (len : Nat) (c : Nat → Int) (i : Nat) : -(P2 (c (ofN i)).toNat - 1) ≤ fillQ zs len c false i ∧ fillQ zs len c false i ≤ P2 (c (ofN i)).toNat - 1 := by
  have := tmodQ_bd (x := rawQ zs len i) (P2_pos (c (ofN i)).toNat)
  exact ⟨this.1, this.2.1⟩
def FillPost (F : Nat → Int) (w : World) (e : Ending) (w' : World) : Prop :=
  ∃ l g, e = .returned (.tuple #[.slice (some ⟨l, 0, none⟩) 512 512, .slice (some ⟨g, 0, none⟩) 512 512]) ∧ IFun w' l 21 .i32 512 F ∧ IFun w' g 2 .i64 512 F ∧ w.heap.size ≤ l ∧ w.heap.size ≤ g ∧ Below w.heap.size w w'
/-- What is held on the way. -/
structure FillSt (w : World) (l g er : Nat) (f h : Nat → Int) (wx : World) : Prop where
  f : IFun wx l 21 .i32 512 f
  gg : IFun wx g 2 .i64 512 h
  b : Below w.heap.size w wx
  e : ∀ k, k < 22 → wx.cell? ⟨er, k, none⟩ = some (.int .i64 (edgeK k : Int))
  o : w.heap.size ≤ l ∧ w.heap.size ≤ g ∧ l ≠ g ∧ er ≠ l ∧ er ≠ g
section
variable {w wx : World} {l g er : Nat} {f h : Nat → Int}
theorem FillSt.drewN (H : FillSt w l g er f h wx) (n : Nat) : FillSt w l g er f h (wx.drewN n) := ⟨H.f.drewN n, H.gg.drewN n, Below.drewN' H.b n, H.e, H.o⟩
theorem FillSt.setL (H : FillSt w l g er f h wx) {i : Nat} (hi : i < 512) (y : Int) : FillSt w l g er (fun j => if j = i then y else f j) h (wx.setCell ⟨l, i, none⟩ (.int .i32 y)) :=
  ⟨H.f.set (j := i) hi y, H.gg.far (p := ⟨l, i, none⟩) (fun e => H.o.2.2.1 e.symm) _, H.b.setCell (p := ⟨l, i, none⟩) H.o.1 _, fun k hk => (World.cell?_setCell_other _ _ _ _ (by intro e; injection e with e; exact H.o.2.2.2.1 e.symm)).trans (H.e k hk), H.o⟩
theorem FillSt.setG (H : FillSt w l g er f h wx) {i : Nat} (hi : i < 512) (y : Int) : FillSt w l g er f (fun j => if j = i then y else h j) (wx.setCell ⟨g, i, none⟩ (.int .i64 y)) :=
  ⟨H.f.far (p := ⟨g, i, none⟩) H.o.2.2.1 _, H.gg.set (j := i) hi y, H.b.setCell (p := ⟨g, i, none⟩) H.o.2.1 _, fun k hk => (World.cell?_setCell_other _ _ _ _ (by intro e; injection e with e; exact H.o.2.2.2.2 e.symm)).trans (H.e k hk), H.o⟩
theorem FillSt.ext (H : FillSt w l g er f h wx) {f' h' : Nat → Int} (e1 : ∀ j, f j = f' j) (e2 : ∀ j, h j = h' j) : FillSt w l g er f' h' wx := ⟨H.f.ext fun j _ => e1 j, H.gg.ext fun j _ => e2 j, H.b, H.e, H.o⟩
/-- A line filled: first as it is, then as it is held. -/
theorem FillSt.line {F : Nat → Int} {k : Nat} (H : FillSt w l g er (preF F k) (preF F k) wx) (hk : k < 512) : FillSt w l g er (preF F (k + 1)) (preF F (k + 1)) ((wx.setCell ⟨l, k, none⟩ (.int .i32 (F k))).setCell ⟨g, k, none⟩ (.int .i64 (F k))) :=
  ((H.setL hk (F k)).setG hk (F k)).ext (fun j => preF_next F k j) (fun j => preF_next F k j)
theorem FillSt.line2 {F : Nat → Int} {k : Nat} {y : Int} (H : FillSt w l g er (fun j => if j = k then y else preF F k j) (preF F k) wx) (hk : k < 512) : FillSt w l g er (preF F (k + 1)) (preF F (k + 1)) ((wx.setCell ⟨l, k, none⟩ (.int .i32 (F k))).setCell ⟨g, k, none⟩ (.int .i64 (F k))) :=
  ((H.setL hk (F k)).setG hk (F k)).ext (fun j => by rw [← preF_next F k j]; by_cases e : j = k <;> simp [e]) (fun j => preF_next F k j)
theorem FillSt.line0 {F : Nat → Int} {k : Nat} (H : FillSt w l g er (preF F k) (preF F k) wx) (hk : k < 512) (h0 : F k = 0) : FillSt w l g er (preF F (k + 1)) (preF F (k + 1)) (wx.setCell ⟨g, k, none⟩ (.int .i64 0)) :=
  (H.setG hk 0).ext (fun j => by rw [← preF_next F k j]; by_cases e : j = k <;> simp [e, h0, preF]) (fun j => by rw [← preF_next F k j, h0])
end

set_option maxHeartbeats 2000000 in
set_option maxRecDepth 100000 in
theorem fill12_any (a : Option Addr) (len cap : Nat) (zs : List Int) (cb co ccap : Nat) (cs : List Int) (ov : Bool) (w : World) (hz : IntsAt w w.heap.size .i32 a len zs) (hzb : ∀ j, -2147483648 ≤ zs.getD j 0 ∧ zs.getD j 0 ≤ 2147483647) (hlen : len ≤ 1500)
    (hc : IntsAt w w.heap.size .i64 (some ⟨cb, co, none⟩) 21 cs) (hcb : ∀ j, j < 21 → 0 ≤ cs.getD j 0 ∧ cs.getD j 0 ≤ 26) :
    Calls Try.prog 9 #[.slice a len cap, .slice (some ⟨cb, co, none⟩) 21 ccap, .bool ov] w (FillPost (fillQ zs len (fun j => cs.getD j 0) ov) w) := by
  have HZ := Lib.hid hz
  have HZb := Lib.hid hzb
  have HC := Lib.hid hc
  have HCb := Lib.hid hcb
  obtain ⟨F, hF⟩ : ∃ F, F = fillQ zs len (fun j => cs.getD j 0) ov := ⟨_, rfl⟩
  have HFv : RowKit.Hid (∀ b i, b < 21 → edgeK b ≤ i → i < edgeK (b + 1) → F i = if ov then rawQ zs len i else (rawQ zs len i).tmod (P2 (cs.getD b 0).toNat)) := fun b i hb i0 i1 => by rw [hF]; unfold fillQ; rw [of_band hb i0 i1]
  have HRb := Lib.hid (rawQ_bd hzb len)
  rw [← hF]
  have hmk5 : ∀ w : World, (Instr.makeSlice 22 (.int .i64 512) (.int .i64 512)).run Try.prog w = .ok (.slice (some ⟨w.heap.size, 0, none⟩) 512 512) (w.alloc (.cells (madeCells #[.int .i32 0] 512) 21)) :=
    fun w => make_zeros (P := Try.prog) Try.underlying22 infoE_i32 512 (by decide) (by decide) w
  have hmk6 : ∀ w : World, (Instr.makeSlice 29 (.int .i64 512) (.int .i64 512)).run Try.prog w = .ok (.slice (some ⟨w.heap.size, 0, none⟩) 512 512) (w.alloc (.cells (madeCells #[.int .i64 0] 512) 2)) :=
    fun w => make_zeros (P := Try.prog) Try.underlying29 infoE_i64 512 (by decide) (by decide) w
  have HZ5 := Lib.hid (fun w => IFun.zeros w 21 .i32 512)
  have HZ6 := Lib.hid (fun w => IFun.zeros w 2 .i64 512)
  clear hz hzb hc hcb hF
  generalize madeCells #[Value.int .i32 0] 512 = m5 at HZ5 hmk5
  generalize madeCells #[Value.int .i64 0] 512 = m6 at HZ6 hmk6
  go_enter Try.func9, Try.ntmps9
  go_wp2_with (go_at_call 22; go_loud (refine (ref04Edges_own w).mono ?_); rintro e1 wh ⟨er, ec, rfl, he0, he1, hed, hb⟩; have HEd := Lib.hid hed; have HB := Lib.hid hb; clear hed hb)
  go_region
  all_goals (first
    | (obtain ⟨w5, hw5⟩ : ∃ w5, w5 = ((wh.alloc (.cells m5 21)).alloc (.cells m6 2)).drew := ⟨_, rfl⟩; rw [← hw5]; obtain ⟨gb, hb2⟩ : ∃ b2, b2 = wh.heap.size + 1 := ⟨_, rfl⟩; rw [← hb2]; obtain ⟨lb, hb1⟩ : ∃ b1, b1 = wh.heap.size := ⟨_, rfl⟩; rw [← hb1]
       have H0 : RowKit.Hid (FillSt w lb gb er (preF F 0) (preF F 0) w5) := (by have hs := HB.out.size; have ha := chain (Below.alloc_new wh (.cells m5 21)) (Below.alloc_new _ (.cells m6 2)); have h2 := Below.drewN' (chain HB.out ha) 1; have h3 := IFun.drewN ((HZ5.out wh).alloc (.cells m6 2)) 1; have h4 := IFun.drewN (HZ6.out (wh.alloc (.cells m5 21))) 1; rw [sizeE_alloc, ← hb2] at h4; rw [← hb1] at h3; rw [hw5]; exact ⟨h3.ext fun j _ => (preF_zero F j).symm, h4.ext fun j _ => (preF_zero F j).symm, h2, fun k hk => (ha.cell (p := ⟨er, k, none⟩) (by show er < _; omega)).trans (HEd.out k hk), by omega⟩)
       clear hw5 hb2 hb1)
    | (obtain ⟨w5, hw5⟩ : ∃ w5, w5 = ((wh.alloc (.cells m6 2)).alloc (.cells m5 21)).drew := ⟨_, rfl⟩; rw [← hw5]; obtain ⟨lb, hb2⟩ : ∃ b2, b2 = wh.heap.size + 1 := ⟨_, rfl⟩; rw [← hb2]; obtain ⟨gb, hb1⟩ : ∃ b1, b1 = wh.heap.size := ⟨_, rfl⟩; rw [← hb1]
       have H0 : RowKit.Hid (FillSt w lb gb er (preF F 0) (preF F 0) w5) := (by have hs := HB.out.size; have ha := chain (Below.alloc_new wh (.cells m6 2)) (Below.alloc_new _ (.cells m5 21)); have h2 := Below.drewN' (chain HB.out ha) 1; have h3 := IFun.drewN ((HZ6.out wh).alloc (.cells m5 21)) 1; have h4 := IFun.drewN (HZ5.out (wh.alloc (.cells m6 2))) 1; rw [sizeE_alloc, ← hb2] at h4; rw [← hb1] at h3; rw [hw5]; exact ⟨h4.ext fun j _ => (preF_zero F j).symm, h3.ext fun j _ => (preF_zero F j).symm, h2, fun k hk => (ha.cell (p := ⟨er, k, none⟩) (by show er < _; omega)).trans (HEd.out k hk), by omega⟩)
       clear hw5 hb2 hb1))
  all_goals
    clear hmk5 hmk6 HZ5 HZ6 HB HEd
    rw [← edgeK_zero] at H0
    go_wp2
    go_loopw [11, 18] (fun _ i wx => ∃ k : Nat, k ≤ 21 ∧ i = .int .i64 (k : Int) ∧ RowKit.Hid (FillSt w lb gb er (preF F (edgeK k)) (preF F (edgeK k)) wx)) (fun _ i _ => 21 - (intOf i).toNat)
    case atStart => exact ⟨0, by omega, rfl, H0.out⟩
    case round =>
      obtain ⟨k, hk, rfl, G0⟩ := hrel
      clear H0
      by_cases hlt : k < 21
      · have HCc : RowKit.Hid (∀ wx, Below w.heap.size w wx → wx.cell? ⟨cb, co + k, none⟩ = some (.int .i64 (cs.getD k 0))) := fun wx hb => by
          obtain ⟨b1, o1, e1, hb1, _, c1⟩ := HC.out.at_ hlt
          injection e1 with e1
          injection e1 with e1 e1'
          subst e1; subst e1'
          exact (hb.cell (p := ⟨cb, co + k, none⟩) hb1).trans c1
        obtain ⟨c0, c1⟩ := HCb.out k hlt
        obtain ⟨ed1, ed2⟩ := edgeK_lt k hlt
        have d1 := G0.out.e k (by omega)
        have HFk : RowKit.Hid (∀ i, edgeK k ≤ i → i < edgeK (k + 1) → F i = if ov then rawQ zs len i else (rawQ zs len i).tmod (P2 (cs.getD k 0).toNat)) := fun i => HFv.out k i hlt
        generalize cs.getD k 0 = c at c0 c1 HCc HFk
        obtain ⟨cn, rfl⟩ : ∃ cn : Nat, c = cn := ⟨c.toNat, by omega⟩
        have hcn : cn ≤ 26 := by omega
        obtain ⟨B2, hB⟩ : ∃ B2, B2 = edgeK (k + 1) := ⟨_, rfl⟩
        have HDk : RowKit.Hid (∀ f h wx, FillSt w lb gb er f h wx → wx.cell? ⟨er, k + 1, none⟩ = some (.int .i64 (B2 : Int))) := fun f h wx hx => by rw [hB]; exact hx.e (k + 1) (by omega)
        rw [← hB] at ed1 ed2 HFk
        have HBk := Lib.hid hB
        clear hB
        generalize edgeK k = A at d1 ed1 HFk G0
        have l0 : (k : Int) < 21 := by omega
        obtain ⟨nn, hnn⟩ : ∃ nn, nn = B2 - A := ⟨_, rfl⟩
        have hB2 : B2 = A + nn := by omega
        have HEnd : RowKit.Hid (edgeK (k + 1) = A + nn) := by show _ = _; rw [← HBk.out]; exact hB2
        have HAB : RowKit.Hid (B2 = A + nn ∧ B2 ≤ 512) := ⟨hB2, ed2⟩
        clear hnn HBk hB2 ed2
        go_wp2
        go_loopw [12] (fun i wx => ∃ m : Nat, m ≤ nn ∧ i = .int .i64 ((A + m : Nat) : Int) ∧ RowKit.Hid (FillSt w lb gb er (preF F (A + m)) (preF F (A + m)) wx)) (fun i _ => A + nn - (intOf i).toNat)
        case atStart => exact ⟨0, by omega, rfl, G0.out⟩
        case round =>
          obtain ⟨m, hm, rfl, G⟩ := hrel
          clear G0 d1
          have d2 := HDk.out _ _ _ G.out
          obtain ⟨I, hI⟩ : ∃ I, I = A + m := ⟨_, rfl⟩
          rw [← hI] at G ⊢
          have hAB := HAB.out
          by_cases hmn : m < nn
          · have l1 : (I : Int) < (B2 : Int) := by omega
            have i1 : I < 512 := by omega
            have HI1 : RowKit.Hid (I + 1 = A + (m + 1)) := by show _ = _; omega
            have HIE : RowKit.Hid (I < A + nn) := by show _ < _; omega
            have hFi := HFk.out I (by omega) (by omega)
            simp only [Int.toNat_natCast] at hFi
            have z1 := HCc.out _ G.out.b
            have o1 := G.out.f.cell (j := I) i1
            have o2 := G.out.gg.cell (j := I) i1
            have f1 := G.out.f.frozen I
            have f2 := G.out.gg.frozen I
            have HPz : RowKit.Hid (preF F I I = 0) := if_neg (by omega)
            rw [HPz.out] at o1 o2
            have HNe : RowKit.Hid (w.heap.size ≤ lb ∧ w.heap.size ≤ gb ∧ lb ≠ gb) := ⟨G.out.o.1, G.out.o.2.1, G.out.o.2.2.1⟩
            have hne := HNe.out.2.2
            have hne' : gb ≠ lb := fun e => hne e.symm
            have p0 := P2_pos cn
            have p1 := P2_mono (a := cn) (b := 26) hcn
            rw [show P2 26 = 67108864 by decide] at p1
            have hp : (2 : Int) ^ cn = P2 cn := rfl
            obtain ⟨r0, r1⟩ := HRb.out I
            have l3 : (I : Int) < 512 := by omega
            clear hI hAB
            by_cases hl0 : len = 0
            · have hr0 : rawQ zs len I = 0 := by unfold rawQ; rw [if_pos hl0]
              rw [hr0] at hFi
              have ll : ¬ 0 < (len : Int) := by omega
              clear hl0
              cases ov with
              | true =>
                have hy : F I = 0 := hFi
                have HS := Lib.hid (G.out.line0 i1 hy)
                clear hFi hy hr0 hp r0 r1 p0 p1
                go_wp2
                go_roundw
                case rel => exact ⟨m + 1, by omega, by rw [← HI1.out]; go_num, by rw [← HI1.out]; exact HS.out⟩
                case measure => have := HIE.out; simp [intOf] <;> omega
              | false =>
                have hy : F I = 0 := by rw [hFi, if_neg (by decide)]; exact Int.zero_tmod _
                have HS := Lib.hid ((G.out.drewN 1).line i1)
                rw [hy] at HS
                clear hFi hy hr0 r0 r1
                generalize P2 cn = p at hp p0 p1
                have u1 : IntKind.i32.wrap (2 ^ cn) = p := by rw [hp]; exact IntWalk.i32_in _ (by omega)
                have hp0 : ¬ p = 0 := by omega
                have u2 : (0 : Int).tmod p = 0 := Int.zero_tmod p
                clear hp
                go_wp2
                go_still_tail 11, (by kernel_rfl)
                repeat still_step
                change wpList _ _ _ _ _ wr.drew
                have q1 : wr.drew.cell? ⟨lb, I, none⟩ = some (.int .i32 0) := o1
                have q2 : wr.drew.cell? ⟨gb, I, none⟩ = some (.int .i64 0) := o2
                have q3 : wr.drew.frozen? ⟨lb, I, none⟩ = false := f1
                have q4 : wr.drew.frozen? ⟨gb, I, none⟩ = false := f2
                have HS1 : RowKit.Hid (FillSt w lb gb er (preF F (I + 1)) (preF F (I + 1)) ((wr.drew.setCell ⟨lb, I, none⟩ (.int .i32 0)).setCell ⟨gb, I, none⟩ (.int .i64 0))) := HS.out
                clear HS o1 o2 f1 f2 z1 d2 G
                generalize wr.drew = wq at HS1 q1 q2 q3 q4 ⊢
                go_wp2
                go_roundw
                case rel => exact ⟨m + 1, by omega, by rw [← HI1.out]; go_num, by rw [← HI1.out]; exact HS1.out⟩
                case measure => have := HIE.out; simp [intOf] <;> omega
            · obtain ⟨t, ht⟩ : ∃ t, t = I % len := ⟨_, rfl⟩
              obtain ⟨q, hq⟩ : ∃ q, q = I / len := ⟨_, rfl⟩
              obtain ⟨s, hs⟩ : ∃ s, s = q % 9 := ⟨_, rfl⟩
              have htl : t < len := by rw [ht]; exact Nat.mod_lt _ (by omega)
              have f3 : (I : Int).tmod (len : Int) = (t : Int) := by rw [Int.tmod_eq_emod_of_nonneg (by omega), ht]; simp
              have f4 : (I : Int).tdiv (len : Int) = (q : Int) := by rw [Int.tdiv_eq_ediv_of_nonneg (by omega), hq]; simp
              have f5 : (q : Int).tmod 9 = (s : Int) := by rw [Int.tmod_eq_emod_of_nonneg (by omega), hs]; simp
              have hqk : q ≤ 512 := by rw [hq]; exact Nat.le_trans (Nat.div_le_self I len) (by omega)
              have g1 : IntKind.i64.wrap (q : Int) = (q : Int) := IntWalk.i64_in _ (by omega)
              have hs9 : s < 9 := by rw [hs]; exact Nat.mod_lt _ (by decide)
              obtain ⟨yb, yo, rfl, ybl, _, hcl⟩ := HZ.out.at_ htl
              have k3 := (G.out.b.cell (p := ⟨yb, yo + t, none⟩) ybl).trans hcl
              obtain ⟨z0', z1'⟩ := HZb.out t
              have hvE : zs.getD t 0 / 2 ^ s = rawQ zs len I := by unfold rawQ; rw [if_neg hl0, ht, hs, hq]
              have l4 : (t : Int) < (len : Int) := by omega
              have l5 : ¬ (len : Int) = 0 := by omega
              have l6 : 0 < (len : Int) := by omega
              have HGa := Lib.hid (G.out.drewN 1)
              have d3 := HDk.out _ _ _ G.out
              clear ht hq hs hcl
              generalize rawQ zs len I = v at r0 r1 hvE hFi
              generalize zs.getD t 0 = y at k3 z0' z1' hvE
              cases ov with
              | true =>
                have hy : F I = v := hFi
                have HS := Lib.hid ((G.out.drewN 1).line i1)
                rw [hy] at HS
                clear hFi hy hp p0 p1 G HGa
                go_wp2
                go_still_tail 16, (by kernel_rfl)
                repeat still_step
                change wpList _ _ _ _ _ wr.drew
                have q1 : wr.drew.cell? ⟨lb, I, none⟩ = some (.int .i32 0) := o1
                have q2 : wr.drew.cell? ⟨gb, I, none⟩ = some (.int .i64 0) := o2
                have q3 : wr.drew.frozen? ⟨lb, I, none⟩ = false := f1
                have q4 : wr.drew.frozen? ⟨gb, I, none⟩ = false := f2
                have HS1 : RowKit.Hid (FillSt w lb gb er (preF F (I + 1)) (preF F (I + 1)) ((wr.drew.setCell ⟨lb, I, none⟩ (.int .i32 v)).setCell ⟨gb, I, none⟩ (.int .i64 v))) := HS.out
                clear HS o1 o2 f1 f2 z1 d2 k3 f5 g1
                generalize wr.drew = wq at HS1 q1 q2 q3 q4 ⊢
                have g2 : IntKind.i64.wrap v = v := IntWalk.i64_in _ (by omega)
                go_wp2
                go_roundw
                case rel => exact ⟨m + 1, by omega, by rw [← HI1.out]; go_num, by rw [← HI1.out]; exact HS1.out⟩
                case measure => have := HIE.out; simp [intOf] <;> omega
              | false =>
                generalize P2 cn = p at hp p0 p1 hFi
                have htm := tmodQ_bd (x := v) (p := p) (by omega)
                have hy : v.tmod p = F I := by rw [hFi, if_neg (by decide)]
                have HSa := Lib.hid (fun (wx : World) (h : FillSt w lb gb er (fun j => if j = I then v else preF F I j) (preF F I) wx) => (h.drewN 1).line2 i1)
                have HGb := Lib.hid (HGa.out.setL i1 v)
                have hyb : -2147483648 ≤ v.tmod p ∧ v.tmod p ≤ 2147483647 := ⟨htm.2.2.1 r0, htm.2.2.2 r1⟩
                rw [hy] at hyb
                generalize F I = x at HSa hy hyb
                have u1 : IntKind.i32.wrap (2 ^ cn) = p := by rw [hp]; exact IntWalk.i32_in _ (by omega)
                have hp0 : ¬ p = 0 := by omega
                have hp1 : ¬ p = -1 := by omega
                clear hFi hp htm G HGa
                go_wp2
                go_still_tail 16, (by kernel_rfl)
                repeat still_step
                change wpList _ _ _ _ _ wr.drew
                have q1 : wr.drew.cell? ⟨lb, I, none⟩ = some (.int .i32 0) := o1
                have q3 : wr.drew.frozen? ⟨lb, I, none⟩ = false := f1
                have HGc : RowKit.Hid (FillSt w lb gb er (fun j => if j = I then v else preF F I j) (preF F I) (wr.drew.setCell ⟨lb, I, none⟩ (.int .i32 v))) := HGb.out
                clear HGb o1 o2 f1 f2 z1 d2 d3 k3 f5 g1
                generalize wr.drew = wq at HGc q1 q3 ⊢
                go_wp2
                generalize wq.setCell ⟨lb, I, none⟩ (.int .i32 v) = wb at HGc ⊢
                clear q1 q3
                have z1 := HCc.out _ HGc.out.b
                have o1 := HGc.out.f.cell (j := I) i1
                rw [if_pos rfl] at o1
                have o2 := HGc.out.gg.cell (j := I) i1
                rw [HPz.out] at o2
                have f1 := HGc.out.f.frozen I
                have f2 := HGc.out.gg.frozen I
                have HS := Lib.hid (HSa.out _ HGc.out)
                clear HSa
                go_still_tail 11, (by kernel_rfl)
                repeat still_step
                change wpList _ _ _ _ _ wb.drew
                have q1 : wb.drew.cell? ⟨lb, I, none⟩ = some (.int .i32 v) := o1
                have q2 : wb.drew.cell? ⟨gb, I, none⟩ = some (.int .i64 0) := o2
                have q3 : wb.drew.frozen? ⟨lb, I, none⟩ = false := f1
                have q4 : wb.drew.frozen? ⟨gb, I, none⟩ = false := f2
                have HS1 : RowKit.Hid (FillSt w lb gb er (preF F (I + 1)) (preF F (I + 1)) ((wb.drew.setCell ⟨lb, I, none⟩ (.int .i32 x)).setCell ⟨gb, I, none⟩ (.int .i64 x))) := HS.out
                clear HS o1 o2 f1 f2 z1 HGc u1 hy hp0
                generalize wb.drew = wq2 at HS1 q1 q2 q3 q4 ⊢
                have g2 : IntKind.i64.wrap x = x := IntWalk.i64_in _ (by omega)
                go_wp2
                go_roundw
                case rel => exact ⟨m + 1, by omega, by rw [← HI1.out]; go_num, by rw [← HI1.out]; exact HS1.out⟩
                case measure => have := HIE.out; simp [intOf] <;> omega
          · obtain rfl : m = nn := by omega
            have l1 : ¬ (I : Int) < (B2 : Int) := by omega
            have Z : RowKit.Hid (FillSt w lb gb er (preF F (edgeK (k + 1))) (preF F (edgeK (k + 1))) wr) := by rw [HEnd.out, ← hI]; exact G.out
            clear hI hAB hmn hm
            go_wp2
            go_roundw
            case rel => exact ⟨k + 1, by omega, by go_num, Z.out⟩
            case measure => simp [intOf] <;> omega
      · obtain rfl : k = 21 := by omega
        have Z := Lib.hid G0.out
        rw [edgeK_last] at Z
        go_wp2
        go_ret2
        exact ⟨lb, gb, rfl, Z.out.f.ext fun i hi => preF_end _ hi, Z.out.gg.ext fun i hi => preF_end _ hi, Z.out.o.1, Z.out.o.2.1, Z.out.b⟩
end Go.Proofs.Ytdmafololcpamaa

/- What same of layer 12's laws gives. -/
namespace Go.Proofs.Ytdmafololcpamaa
open Go.RowKit
set_option linter.unusedVariables false

set_option maxRecDepth 100000 in
theorem same12_any (a a2 : Option Addr) (n cap cap2 : Nat) (xs ys : List Int) (w : World) (h : IntsAt w w.heap.size .i32 a n xs) (h2 : IntsAt w w.heap.size .i64 a2 n ys) (he : ∀ j, j < n → ys.getD j 0 = xs.getD j 0) (hb : ∀ j, j < n → -2147483648 ≤ xs.getD j 0 ∧ xs.getD j 0 ≤ 2147483647) (hn : n ≤ 1000000) :
    Calls Try.prog 21 #[.slice a n cap, .slice a2 n cap2] w fun e w' => e = .returned (.bool true) ∧ ∃ i, w' = w.drewN i := by
  have HX := Lib.hid h
  have HY := Lib.hid h2
  have HE := Lib.hid he
  have HB := Lib.hid hb
  have hq : ((n : Int) == (n : Int)) = true := by simp
  clear h h2 he hb
  go_enter Try.func21, Try.ntmps21
  go_wp2
  go_loopw [5, 13] (fun _ i wr => ∃ k q : Nat, k ≤ n ∧ i = .int .i64 (k : Int) ∧ wr = w.drewN q) (fun _ i _ => n - (intOf i).toNat)
  case atStart => exact ⟨0, 0, by omega, rfl, rfl⟩
  case round =>
    obtain ⟨k, q, hk, rfl, hw⟩ := hrel
    have HW := Lib.hid hw
    clear hw
    by_cases hlt : k < n
    · obtain ⟨b, off, rfl, _, _, hcell⟩ := HX.out.at_ hlt
      obtain ⟨b2, off2, rfl, _, _, hcell2⟩ := HY.out.at_ hlt
      rw [HE.out k hlt] at hcell2
      obtain ⟨x0, x1⟩ := HB.out k hlt
      generalize xs.getD k 0 = x at hcell hcell2 x0 x1
      have c1 : wr.cell? ⟨b, off + k, none⟩ = some (.int .i32 x) := by rw [HW.out]; exact hcell
      have c2 : wr.cell? ⟨b2, off2 + k, none⟩ = some (.int .i64 x) := by rw [HW.out]; exact hcell2
      have u1 : IntKind.i64.wrap x = x := IntWalk.i64_in _ (by omega)
      have l1 : (k : Int) < (n : Int) := by omega
      clear hcell hcell2
      go_wp2
      go_quiet (fail)
      have HW2 : RowKit.Hid (wr.drewN nq = w.drewN (q + nq)) := by show _ = _; rw [HW.out, drewE_add]
      go_wp2
      go_roundw
      case rel => exact ⟨k + 1, q + nq, by omega, by go_num, HW2.out⟩
      case measure => simp [intOf] <;> omega
    · obtain rfl : k = n := by omega
      have l1 : ¬ (k : Int) < (k : Int) := by omega
      go_wp2
      go_ret
      exact ⟨rfl, q, HW.out⟩
end Go.Proofs.Ytdmafololcpamaa

/- The walk of QuantGets. -/
namespace Go.Proofs.Ytdmafololcpamaa
open Go.RowKit
set_option linter.unusedVariables false

theorem quantGets_many (a a2 : Option Addr) (len cap len2 cap2 : Nat) (seed : Int) (w : World) (hm : len ≤ 9223372036854775807) (hm2 : len2 ≤ 9223372036854775807) (h : 800 < len ∨ 60 < len2) :
    Calls Try.prog 4 #[.slice a len cap, .slice a2 len2 cap2, .int .u32 seed] w fun e w' => e = .returned (.bool true) ∧ Below w.heap.size w w' := by
  have HB := Lib.hid (Below.refl w.heap.size w)
  by_cases hl : 800 < len
  · have hd : decide ((800 : Int) < (len : Int)) = true := by simp; omega
    clear h
    go_enter Try.func4, Try.ntmps4
    go_wp2_with (go_at_call 7; go_loud (refine (lives12_any _).mono ?_); rintro e w1 ⟨rfl, hb⟩; replace HB := Lib.hid (chain HB.out hb); clear hb)
    go_ret
    exact ⟨rfl, HB.out⟩
  · have hd : decide ((800 : Int) < (len : Int)) = false := by simp; omega
    have hd2 : decide ((60 : Int) < (len2 : Int)) = true := by simp; omega
    clear h
    go_enter Try.func4, Try.ntmps4
    go_wp2_with (go_at_call 7; go_loud (refine (lives12_any _).mono ?_); rintro e w1 ⟨rfl, hb⟩; replace HB := Lib.hid (chain HB.out hb); clear hb)
    go_ret
    exact ⟨rfl, HB.out⟩
/-- What comes of numbers that are held is no great number. -/
theorem outF_bd {c s n : Nat → Int} (seed : Int) (hc : ∀ b, b < 21 → c b ≤ 26) (hs : ∀ b, b < 21 → 0 ≤ s b) (hn : ∀ i, i < 512 → toldT c s i = true → -(P2 (c (ofN i) - s (ofN i)).toNat) ≤ n i ∧ n i ≤ P2 (c (ofN i) - s (ofN i)).toNat) {i : Nat} (hi : i < 512) : -2147483648 ≤ outF c s n seed i ∧ outF c s n seed i ≤ 2147483647 := by
  have hb := of_lt hi
  unfold outF
  split
  · rename_i ht
    have h1 := hn i hi ht
    unfold toldT at ht
    have h2 := scaled_bd (q := n i) (hs _ hb) (of_decide_eq_true ht) (hc _ hb) h1.1 h1.2
    omega
  · have := noiseP_bd (n := c (ofN i)) seed i
    omega
theorem outG_bd {c s : Nat → Int} {b : List Int} {D : DecS} (seed : Int) (hb : ∀ j, 0 ≤ byteF b j ∧ byteF b j ≤ 255) (hG : GoodD D) (hc : ∀ b, b < 21 → c b ≤ 26) (hs : ∀ b, b < 21 → 0 ≤ s b) (hok : ∀ i, i < 512 → okG c s b D i = true) {i : Nat} (hi : i < 512) : -2147483648 ≤ outF c s (getQ (toldT c s) b D) seed i ∧ outF c s (getQ (toldT c s) b D) seed i ≤ 2147483647 := by
  refine outF_bd seed hc hs (fun i hi ht => ?_) hi
  have h1 := hok i hi
  unfold okG at h1
  rw [ht] at h1
  simp only [Bool.not_true, Bool.false_or, decide_eq_true_eq] at h1
  have h2 := getQ_bd (T := toldT c s) hb hG i
  have h3 := P2_mono h1
  omega
theorem outL_bd {c s x : Nat → Int} (seed : Int) (hc : ∀ b, b < 21 → c b ≤ 26) (hs : ∀ b, b < 21 → 0 ≤ s b) {i : Nat} (hi : i < 512) : -2147483648 ≤ outF c s (lineQ x c s) seed i ∧ outF c s (lineQ x c s) seed i ≤ 2147483647 := by
  refine outF_bd seed hc hs (fun i hi ht => ?_) hi
  unfold lineQ
  rw [if_pos hi]
  have h2 := numQ_bd (x i) (s (ofN i)) (c (ofN i))
  omega
set_option maxHeartbeats 1000000 in
set_option maxRecDepth 100000 in
theorem quantGets_law (a a2 : Option Addr) (len cap len2 cap2 : Nat) (bs ns : List Int) (seed : Int) (w : World) (hb : IntsAt w w.heap.size .u8 a len bs) (hbd : IsDig bs) (hnone : a = none → cap = 0)
    (hn : IntsAt w w.heap.size .u8 a2 len2 ns) (hnb : ∀ j, 0 ≤ ns.getD j 0 ∧ ns.getD j 0 ≤ 255) (hl : len ≤ 800) (hl2 : len2 ≤ 60) (sd0 : 0 ≤ seed) (sd1 : seed ≤ 4294967295) :
    Calls Try.prog 4 #[.slice a len cap, .slice a2 len2 cap2, .int .u32 seed] w fun e w' => e = .returned (.bool true) ∧ Below w.heap.size w w' := by
  have HB := Lib.hid (Below.refl w.heap.size w)
  have HX := Lib.hid hb
  have HN := Lib.hid hn
  have HNb := Lib.hid hnb
  have HBd := Lib.hid (byteF_bd hbd)
  have HGd := Lib.hid (goodD_new hbd)
  have HNn := Lib.hid hnone
  have hd : decide ((800 : Int) < (len : Int)) = false := by simp; omega
  have hd2 : decide ((60 : Int) < (len2 : Int)) = false := by simp; omega
  have hbl : bs.length ≤ 1000000 := by have := hb.1; omega
  have hi4 : (decNew (byteF bs)).i ≤ 1000000 := by show 4 ≤ 1000000; decide
  obtain ⟨C, hC⟩ : ∃ C, C = cutF ns len2 := ⟨_, rfl⟩
  obtain ⟨S, hS⟩ : ∃ S, S = stepQ ns len2 := ⟨_, rfl⟩
  have HPl : RowKit.Hid (∀ wx, IntsAt wx wx.heap.size .u8 a2 len2 ns → Calls Try.prog 8 #[.slice a2 len2 cap2] wx fun e w' => ∃ c s, e = .returned (.tuple #[.slice (some ⟨c, 0, none⟩) 21 21, .slice (some ⟨s, 0, none⟩) 21 21]) ∧ IFun w' c 3 .i64 21 C ∧ IFun w' s 3 .i64 21 S ∧ wx.heap.size ≤ c ∧ wx.heap.size ≤ s ∧ c ≠ s ∧ Below wx.heap.size wx w') := fun wx h => by rw [hC, hS]; exact plan12_any a2 len2 cap2 ns wx h HNb.out (by omega)
  have hmay : mayQ (tabF 21 C) (tabF 21 S) = true := by rw [hC, hS]; exact plan_may ns len2
  have hC26 : ∀ b, b < 21 → (tabF 21 C).getD b 0 ≤ 26 := fun b hb => by rw [tabF_getD C hb, hC]; exact (cutF_bd ns len2 b).2
  have hS0 : ∀ b, b < 21 → 0 ≤ (tabF 21 S).getD b 0 := fun b hb => by rw [tabF_getD S hb, hS]; exact (stepQ_bd ns len2 b).1
  have HG1 : RowKit.Hid (∀ (w5 : World) (base g : Nat) (v : Value) (c s : Nat), DrcAt w5 base g v bs (decNew (byteF bs)) → IFun w5 c 3 .i64 21 C → IFun w5 s 3 .i64 21 S → Calls Try.prog 17 #[.pointer (some ⟨g, 0, none⟩), .slice (some ⟨c, 0, none⟩) 21 21, .slice (some ⟨s, 0, none⟩) 21 21, .int .u32 seed] w5 (GotPostF g (fun j => (tabF 21 C).getD j 0) (fun j => (tabF 21 S).getD j 0) bs (decNew (byteF bs)) seed w5)) := fun w5 base g v c s h h1 h2 =>
    qGet_any base g v bs _ _ _ 21 21 _ _ seed w5 h HGd.out HBd.out hbl hi4 (h1.ints (by decide)) (h2.ints (by decide)) hmay sd0 sd1
  have HG2 : RowKit.Hid (∀ (w5 : World) (base g : Nat) (v : Value) (c s : Nat), DecMem w5 base g v bs (decNew (byteF bs)) → IFun w5 c 3 .i64 21 C → IFun w5 s 3 .i64 21 S → c ≠ g → s ≠ g → Calls Try.prog 19 #[.pointer (some ⟨g, 0, none⟩), .slice (some ⟨c, 0, none⟩) 21 21, .slice (some ⟨s, 0, none⟩) 21 21, .int .u32 seed] w5 (GotPostL g (fun j => (tabF 21 C).getD j 0) (fun j => (tabF 21 S).getD j 0) bs (decNew (byteF bs)) seed w5)) := fun w5 base g v c s h h1 h2 n1 n2 =>
    refGetLines_any base g v bs _ _ _ 21 21 _ _ seed w5 h HGd.out HBd.out hbl hi4 (h1.ints (by decide)) (h2.ints (by decide)) hmay sd0 sd1 (fun r off e => by injection e with e; injection e with e; omega) (fun r off e => by injection e with e; injection e with e; omega)
  obtain ⟨ok, hok⟩ : ∃ ok, ok = okG (fun j => (tabF 21 C).getD j 0) (fun j => (tabF 21 S).getD j 0) bs (decNew (byteF bs)) := ⟨_, rfl⟩
  obtain ⟨H, hH⟩ : ∃ H, H = outF (fun j => (tabF 21 C).getD j 0) (fun j => (tabF 21 S).getD j 0) (getQ (toldT (fun j => (tabF 21 C).getD j 0) (fun j => (tabF 21 S).getD j 0)) bs (decNew (byteF bs))) seed := ⟨_, rfl⟩
  unfold GotPostF at HG1
  unfold GotPostL at HG2
  rw [← hok, ← hH] at HG1 HG2
  have HHb : RowKit.Hid ((∀ i, i < 512 → ok i = true) → ∀ i, i < 512 → -2147483648 ≤ H i ∧ H i ≤ 2147483647) := fun ho i hi => by
    rw [hH]; rw [hok] at ho; exact outG_bd seed HBd.out HGd.out hC26 hS0 ho hi
  clear hC hS hok hH hb hn hnb hbd hnone hmay hC26 hS0
  by_cases hall : ∀ i, i < 512 → ok i = true
  · have HHb2 := Lib.hid (HHb.out hall)
    have HAll := Lib.hid hall
    have HG1a : RowKit.Hid (∀ (w5 : World) (base g : Nat) (v : Value) (c s : Nat), DrcAt w5 base g v bs (decNew (byteF bs)) → IFun w5 c 3 .i64 21 C → IFun w5 s 3 .i64 21 S → Calls Try.prog 17 #[.pointer (some ⟨g, 0, none⟩), .slice (some ⟨c, 0, none⟩) 21 21, .slice (some ⟨s, 0, none⟩) 21 21, .int .u32 seed] w5 fun e w' => ∃ r, e = .returned (.tuple #[.slice (some ⟨r, 0, none⟩) 512 512, .int .i64 0]) ∧ IFun w' r 21 .i32 512 H ∧ Keeps (fun j => j = g) w5 w') := fun w5 base g v c s h h1 h2 => (HG1.out w5 base g v c s h h1 h2).mono (by
      rintro e w' ⟨hk, ⟨_, r, rfl, hi, _⟩ | ⟨⟨i, hi, ho⟩, _⟩⟩
      · exact ⟨r, rfl, hi, hk⟩
      · rw [HAll.out i hi] at ho; cases ho)
    have HG2a : RowKit.Hid (∀ (w5 : World) (base g : Nat) (v : Value) (c s : Nat), DecMem w5 base g v bs (decNew (byteF bs)) → IFun w5 c 3 .i64 21 C → IFun w5 s 3 .i64 21 S → c ≠ g → s ≠ g → Calls Try.prog 19 #[.pointer (some ⟨g, 0, none⟩), .slice (some ⟨c, 0, none⟩) 21 21, .slice (some ⟨s, 0, none⟩) 21 21, .int .u32 seed] w5 fun e w' => ∃ a cp, e = .returned (.tuple #[.slice a 512 cp, .bool true]) ∧ IntsAt w' w'.heap.size .i64 a 512 (tabF 512 H) ∧ Keeps (fun j => j = g) w5 w') := fun w5 base g v c s h h1 h2 n1 n2 => (HG2.out w5 base g v c s h h1 h2 n1 n2).mono (by
      rintro e w' ⟨hk, ⟨_, a, cp, rfl, hi⟩ | ⟨⟨i, hi, ho⟩, _⟩⟩
      · exact ⟨a, cp, rfl, hi, hk⟩
      · rw [HAll.out i hi] at ho; cases ho)
    clear HG1 HG2 HHb hall
    go_enter Try.func4, Try.ntmps4
    go_wp2_with (first
      | (go_at_call 7; go_loud (refine (lives12_any _).mono ?_); rintro e wh ⟨rfl, hb⟩; have HB1 := Lib.hid (chain HB.out hb); clear hb HB)
      | (go_at_call 8; go_loud (refine (HPl.out _ (HN.out.now HB1.out (Nat.le_refl _))).mono ?_); rintro e w2 ⟨cb, sb, rfl, hi, hj, h1, h2, hne, hb⟩; have HB2 := Lib.hid (chain HB1.out hb); have HC2 := Lib.hid hi; have HS2 := Lib.hid hj; clear hi hj h1 h2 hne hb)
      | (go_at_call 18; go_loud (refine (drcNew_any a len cap bs w2 (HX.out.now HB2.out (Nat.le_refl _)) HNn.out HBd.out (by omega)).mono ?_); rintro e w3 ⟨g3, v3, rfl, h3, b3⟩; have HD3 := Lib.hid h3; have HB3 := Lib.hid (chain HB2.out b3); have HC3 := Lib.hid (HC2.out.below b3 HC2.out.lt); have HS3 := Lib.hid (HS2.out.below b3 HS2.out.lt); have hg3 := h3.lt.2; have hc2 := HC2.out.lt; have hs2 := HS2.out.lt; clear h3 b3)
      | (go_at_call 17; go_loud (refine (HG1a.out w3 _ g3 v3 cb sb HD3.out HC3.out HS3.out).mono ?_); rintro e w4 ⟨r4, rfl, i4, k4⟩; have hbs := HB2.out.size; have HB4 := Lib.hid (HB3.out.trans (k4.below HB3.out.size (fun j hj => by omega))); have HC4 := Lib.hid (HC3.out.keeps k4 (by omega)); have HS4 := Lib.hid (HS3.out.keeps k4 (by omega)); have HI4 := Lib.hid i4; clear i4 k4)
      | (go_at_call 20; go_loud (refine (refOpen_any a len cap bs w4 (HX.out.now HB4.out (Nat.le_refl _)) HNn.out HBd.out (by omega)).mono ?_); rintro e w5 ⟨g5, v5, rfl, h5, b5⟩; have HD5 := Lib.hid h5; have HB5 := Lib.hid (chain HB4.out b5); have HC5 := Lib.hid (HC4.out.below b5 HC4.out.lt); have HS5 := Lib.hid (HS4.out.below b5 HS4.out.lt); have HI5 := Lib.hid (HI4.out.below b5 HI4.out.lt); have hg5 := h5.2.2; have hc4 := HC4.out.lt; have hs4 := HS4.out.lt; have hi4' := HI4.out.lt; clear h5 b5)
      | (go_at_call 19; go_loud (refine (HG2a.out w5 _ g5 v5 cb sb HD5.out HC5.out HS5.out (by omega) (by omega)).mono ?_); rintro e w6 ⟨a6, c6, rfl, i6, k6⟩; have hbs4 := HB4.out.size; have HB6 := Lib.hid (HB5.out.trans (k6.below HB5.out.size (fun j hj => by omega))); have HI6 := Lib.hid ((HI5.out.keeps k6 (by omega)).ints (by decide)); have HJ6 := Lib.hid i6; clear i6 k6)
      | (go_at_call 21; go_loud (refine (same12_any _ _ 512 512 c6 (tabF 512 H) (tabF 512 H) w6 HI6.out HJ6.out (fun j _ => rfl) (fun j hj => by rw [tabF_getD H hj]; exact HHb2.out j hj) (by decide)).mono ?_); rintro e w7 ⟨rfl, i7, hw7⟩; have HB7 : RowKit.Hid (Below w.heap.size w w7) := (by rw [hw7]; exact Below.drewN' HB6.out i7); clear hw7)
      | fail)
    go_ret
    exact ⟨rfl, HB7.out⟩
  · have HAll : RowKit.Hid (¬ ∀ i, i < 512 → ok i = true) := hall
    have HG1a : RowKit.Hid (∀ (w5 : World) (base g : Nat) (v : Value) (c s : Nat), DrcAt w5 base g v bs (decNew (byteF bs)) → IFun w5 c 3 .i64 21 C → IFun w5 s 3 .i64 21 S → Calls Try.prog 17 #[.pointer (some ⟨g, 0, none⟩), .slice (some ⟨c, 0, none⟩) 21 21, .slice (some ⟨s, 0, none⟩) 21 21, .int .u32 seed] w5 fun e w' => e = .returned (.tuple #[.slice none 0 0, .int .i64 3]) ∧ Keeps (fun j => j = g) w5 w') := fun w5 base g v c s h h1 h2 => (HG1.out w5 base g v c s h h1 h2).mono (by
      rintro e w' ⟨hk, ⟨ho, _⟩ | ⟨_, rfl⟩⟩
      · exact absurd ho HAll.out
      · exact ⟨rfl, hk⟩)
    have HG2a : RowKit.Hid (∀ (w5 : World) (base g : Nat) (v : Value) (c s : Nat), DecMem w5 base g v bs (decNew (byteF bs)) → IFun w5 c 3 .i64 21 C → IFun w5 s 3 .i64 21 S → c ≠ g → s ≠ g → Calls Try.prog 19 #[.pointer (some ⟨g, 0, none⟩), .slice (some ⟨c, 0, none⟩) 21 21, .slice (some ⟨s, 0, none⟩) 21 21, .int .u32 seed] w5 fun e w' => e = .returned (.tuple #[.slice none 0 0, .bool false]) ∧ Keeps (fun j => j = g) w5 w') := fun w5 base g v c s h h1 h2 n1 n2 => (HG2.out w5 base g v c s h h1 h2 n1 n2).mono (by
      rintro e w' ⟨hk, ⟨ho, _⟩ | ⟨_, rfl⟩⟩
      · exact absurd ho HAll.out
      · exact ⟨rfl, hk⟩)
    clear HG1 HG2 HHb hall HAll
    go_enter Try.func4, Try.ntmps4
    go_wp2_with (first
      | (go_at_call 7; go_loud (refine (lives12_any _).mono ?_); rintro e wh ⟨rfl, hb⟩; have HB1 := Lib.hid (chain HB.out hb); clear hb HB)
      | (go_at_call 8; go_loud (refine (HPl.out _ (HN.out.now HB1.out (Nat.le_refl _))).mono ?_); rintro e w2 ⟨cb, sb, rfl, hi, hj, h1, h2, hne, hb⟩; have HB2 := Lib.hid (chain HB1.out hb); have HC2 := Lib.hid hi; have HS2 := Lib.hid hj; clear hi hj h1 h2 hne hb)
      | (go_at_call 18; go_loud (refine (drcNew_any a len cap bs w2 (HX.out.now HB2.out (Nat.le_refl _)) HNn.out HBd.out (by omega)).mono ?_); rintro e w3 ⟨g3, v3, rfl, h3, b3⟩; have HD3 := Lib.hid h3; have HB3 := Lib.hid (chain HB2.out b3); have HC3 := Lib.hid (HC2.out.below b3 HC2.out.lt); have HS3 := Lib.hid (HS2.out.below b3 HS2.out.lt); have hg3 := h3.lt.2; have hc2 := HC2.out.lt; have hs2 := HS2.out.lt; clear h3 b3)
      | (go_at_call 17; go_loud (refine (HG1a.out w3 _ g3 v3 cb sb HD3.out HC3.out HS3.out).mono ?_); rintro e w4 ⟨rfl, k4⟩; have hbs := HB2.out.size; have HB4 := Lib.hid (HB3.out.trans (k4.below HB3.out.size (fun j hj => by omega))); have HC4 := Lib.hid (HC3.out.keeps k4 (by omega)); have HS4 := Lib.hid (HS3.out.keeps k4 (by omega)); clear k4)
      | (go_at_call 20; go_loud (refine (refOpen_any a len cap bs w4 (HX.out.now HB4.out (Nat.le_refl _)) HNn.out HBd.out (by omega)).mono ?_); rintro e w5 ⟨g5, v5, rfl, h5, b5⟩; have HD5 := Lib.hid h5; have HB5 := Lib.hid (chain HB4.out b5); have HC5 := Lib.hid (HC4.out.below b5 HC4.out.lt); have HS5 := Lib.hid (HS4.out.below b5 HS4.out.lt); have hg5 := h5.2.2; have hc4 := HC4.out.lt; have hs4 := HS4.out.lt; clear h5 b5)
      | (go_at_call 19; go_loud (refine (HG2a.out w5 _ g5 v5 cb sb HD5.out HC5.out HS5.out (by omega) (by omega)).mono ?_); rintro e w6 ⟨rfl, k6⟩; have hbs4 := HB4.out.size; have HB6 := Lib.hid (HB5.out.trans (k6.below HB5.out.size (fun j hj => by omega))); clear k6)
      | fail)
    go_ret
    exact ⟨rfl, HB6.out⟩
end Go.Proofs.Ytdmafololcpamaa

/- The bytes of an encoder: they lie in a row, also where there are none. -/
namespace Go.Proofs.Ytdmafololcpamaa
open Go.RowKit
set_option linter.unusedVariables false

/-- Bytes that lie in a row. -/
def BytesPostS (b : List Int) (w : World) (x : Ending) (w' : World) : Prop := ∃ g c, x = .returned (.slice (some ⟨g, 0, none⟩) b.length c) ∧ IntsAt w' w'.heap.size .u8 (some ⟨g, 0, none⟩) b.length b ∧ Below w.heap.size w w'
set_option maxHeartbeats 1000000 in
set_option maxRecDepth 100000 in
theorem rncBytes_some (base g : Nat) (v : Value) (n : Int) (k : Nat) (less : Int) (w : World) (hE : EncR w base g v n k less) (hk : k ≤ 900000) :
    Calls Try.prog 14 #[.pointer (some ⟨g, 0, none⟩)] w (BytesPostS (bytesL (digL n (k + 4))) w) := by
  have HR := Lib.hid hE
  obtain ⟨D, last, h1, h2, h3, h4, h5, h6⟩ := hE
  obtain ⟨c0, c1, c2⟩ := h1.cells
  have ho := h1.2.1
  rw [h3] at ho
  obtain ⟨a, c, rfl⟩ := own_form ho
  have HD4 := Lib.hid (four_dig h2 h3 h4 h5 h6)
  have HI := Lib.hid (own_ints' ho)
  have HN := Lib.hid (own_none ho)
  have H1 := Lib.hid h1
  have hgl := h1.lt
  have hmk := make_empty (P := Try.prog) Try.underlying23 info_u806 ((k : Int) + 4) (k + 4) (by omega) (by omega) (by omega) w
  have hsz : (madeCells #[Value.int .u8 0] (k + 4)).size = (k + 4) * 1 := by rw [size_madeCells]; omega
  have HO0 := Lib.hid (World.ownsRow_made (base := w.heap.size) (e := 5) (size := 1) w (madeCells #[Value.int .u8 0] (k + 4)) (k + 4) (Nat.le_refl _) (by unfold maxLen; omega) hsz)
  have HB0 := Lib.hid (Below.alloc_new w (.cells (madeCells #[Value.int .u8 0] (k + 4)) 5))
  have hk1 : k ≤ 1000000 := by omega
  clear h1 h2 h3 h6 ho c2 hsz
  generalize madeCells #[Value.int .u8 0] (k + 4) = mc at hmk HO0 HB0
  go_enter Try.func14, Try.ntmps14
  go_wp2_with (first | (go_at_call 38; ((with_reducible refine (rncLen_any base g _ n k less _ HR.out hk1).mono ?_)); rintro e w' ⟨rfl, rfl⟩) | (at_builtin; go_loud (refine append_ints rfl _ _ 23 rfl w.heap.size 5 .u8 1 Try.underlying23 info_u806 _ 0 [] rfl HO0.out a k c w.heap.size D rfl (HI.out.below HB0.out) HN.out ?c1 ?c2 ?c3 ?_)))
  case c1 => unfold maxLen; omega
  case c2 => omega
  case c3 => simp
  intro v2 w2 hown hgrow _
  have hb2 := HB0.out.grown hgrow (by simp) (own_base HO0.out)
  obtain ⟨a2, cp2, rfl⟩ := own_form hown
  have c1' : w2.cell? ⟨g, 1, none⟩ = some (.int .u32 last) := (hb2.cell (p := ⟨g, 1, none⟩) hgl).trans c1
  have HO2 := Lib.hid hown
  have HB2 := Lib.hid hb2
  clear hown hgrow hb2 c0 c1 hmk
  obtain ⟨q0, hq0⟩ : ∃ q, q = last / 16777216 % 256 := ⟨_, rfl⟩
  obtain ⟨q1, hq1⟩ : ∃ q, q = last / 65536 % 256 := ⟨_, rfl⟩
  obtain ⟨q2, hq2⟩ : ∃ q, q = last / 256 % 256 := ⟨_, rfl⟩
  obtain ⟨q3, hq3⟩ : ∃ q, q = last % 256 := ⟨_, rfl⟩
  have HF : RowKit.Hid (four last = [q0, q1, q2, q3]) := by show _ = _; unfold four; rw [hq0, hq1, hq2, hq3]
  have e0 : IntKind.u8.wrap (last / 16777216) = q0 := by rw [hq0]; rfl
  have e1 : IntKind.u8.wrap (last / 65536) = q1 := by rw [hq1]; rfl
  have e2 : IntKind.u8.wrap (last / 256) = q2 := by rw [hq2]; rfl
  have e3 : IntKind.u8.wrap last = q3 := by rw [hq3]; rfl
  clear hq0 hq1 hq2 hq3
  have ag : some g ≠ (Value.slice a2 k cp2).ownBlock := fun e => by
    have := own_base HO2.out g e.symm
    omega
  obtain ⟨i0, hi, hzz, hz1, hz2⟩ := info_parts info_u806
  have hsz2 := HB2.out.size
  have HO4 := Lib.hid (World.ownsRow.alloc HO2.out (.cells #[.int .u8 q0, .int .u8 q1, .int .u8 q2, .int .u8 q3] 5))
  have HB4 := Lib.hid (HB2.out.alloc hsz2 (.cells #[.int .u8 q0, .int .u8 q1, .int .u8 q2, .int .u8 q3] 5))
  go_wp2
  go_region_held3 (fun w' => w'.cell? ⟨g, 1, none⟩ = some (.int .u32 last))
    (first | go_keep | (rw [hgrow.cell_far _ (by simp; omega) ag]; assumption))
    ((refine step_append_lies _ (by rfl) _ _ _ (by rfl) w.heap.size 5 i0 (.int .u8 0) 1 1 Try.underlying23 hi hzz hz1 hz2 rfl (by decide) (.slice a2 k cp2) k _ (by rfl) HO4.out.drew ⟨w2.heap.size, 0, none⟩ 4 4 [.int .u8 q0, .int .u8 q1, .int .u8 q2, .int .u8 q3] (by rfl) (by rfl) (World.news_of_block (cs := #[.int .u8 q0, .int .u8 q1, .int .u8 q2, .int .u8 q3]) (t := 5) (fr := (0, 0)) (heap_alloc_new w2 _)) (by simp [Value.oneCell']) (by omega) (by unfold maxLen; omega) (by omega) (by simp; omega) (w2.heap.size + 1) (by simp) ?_; intro gg cp w5 hown hgrow hat hlt2))
  have hown5 : w5.ownsRow w.heap.size 5 1 (.slice (some ⟨gg, 0, none⟩) (k + 4) cp) (k + 4) ((digL n (k + 4)).map (Value.int .u8)) := by
    rw [← HD4.out, HF.out]; simpa using hown
  have HB5 : RowKit.Hid (Below w.heap.size w w5) := (Below.drewN' HB4.out 1).grown hgrow (by simp; omega) (own_base HO4.out)
  have hcp : k + 4 ≤ cp ∧ cp ≤ 9223372036854775807 := by
    rcases hown5.2 with ⟨h, _⟩ | ⟨g', cap, cur, h, _, _, h2, h3, _⟩
    · injection h with h; cases h
    · unfold maxLen at h3; injection h with _ _ h; omega
  obtain ⟨hcp, hcpm⟩ := hcp
  have HO5 := Lib.hid hown5
  obtain ⟨L, hL⟩ : ∃ L, L = digL n (k + 4) := ⟨_, rfl⟩
  have HLd : RowKit.Hid (IsDig L ∧ L.length = k + 4) := by rw [hL]; exact ⟨digL_dig _ _, digL_len _ _⟩
  rw [← hL] at HO5
  have HLq : RowKit.Hid (digL n (k + 4) = L) := hL.symm
  clear hown hgrow hown5 hL HO4 HB4 HO2 HB2 HD4 HF hat hlt2 ag HO0 HB0 HI HN H1 HR
  go_wp2
  go_loopw [4] (fun i wr => ∃ j : Nat, j ≤ k + 4 ∧ i = .int .i64 j ∧ RowKit.Hid (lastK L j = lastK L (k + 4)) ∧ wr = w5) (fun i _ => (intOf i).toNat)
  case atStart => exact ⟨k + 4, by omega, by go_num, rfl, rfl⟩
  case round =>
    obtain ⟨j, hj, rfl, H, rfl⟩ := hrel
    by_cases hz : j = 0
    · have hm : lastK L (k + 4) = -1 := by rw [← H.out, hz]; rfl
      have HE : RowKit.Hid (bytesL L = []) := by
        show _ = _
        unfold bytesL; rw [HLd.out.2, hm]; rfl
      subst hz
      clear H hm
      go_wp2
      go_ret
      rw [HLq.out, HE.out]
      exact ⟨gg, cp, rfl, ⟨rfl, .inl rfl⟩, HB5.out⟩
    · obtain ⟨p, hp⟩ : ∃ p, j = p + 1 := ⟨j - 1, by omega⟩
      subst hp
      have hcell : wr.cell? ⟨gg, p, none⟩ = some (.int .u8 (L.getD p 0)) := by
        rw [HO5.out.cellAt p (by omega), List.getElem?_map, List.getElem?_eq_getElem (by rw [HLd.out.2]; omega)]
        simp [List.getD, show p < L.length by rw [HLd.out.2]; omega]
      have E : RowKit.Hid (lastK L (p + 1) = if L.getD p 0 = 0 then lastK L p else p) := rfl
      generalize L.getD p 0 = x at hcell E
      by_cases hx : x = 0
      · have hq : (x == 0) = true := by simpa using hx
        have E2 : RowKit.Hid (lastK L p = lastK L (k + 4)) := by
          show _ = _
          rw [← H.out, E.out, if_pos hx]
        clear hx
        go_wp2
        go_roundw
        case rel => exact ⟨p, by omega, rfl, E2.out, trivial⟩
        case measure => simp [intOf] <;> omega
      · have hq : (x == 0) = false := by simpa using hx
        have HE : RowKit.Hid (bytesL L = L.take (p + 1)) := by
          have hm : lastK L (k + 4) = p := by rw [← H.out, E.out, if_neg hx]
          show _ = _
          unfold bytesL
          rw [HLd.out.2, hm]
          congr 1
        have HI5 := Lib.hid (own_ints' HO5.out)
        clear hx
        go_wp2
        go_ret
        rw [HLq.out, HE.out]
        have e : (L.take (p + 1)).length = p + 1 := by rw [List.length_take, HLd.out.2]; omega
        refine ⟨gg, cp, by rw [e]; rfl, ?_, HB5.out⟩
        rw [e]
        exact HI5.out.take hj
end Go.Proofs.Ytdmafololcpamaa

/- A word of mine for regions that draw their order: the condition that is held may be made stronger on the way. -/
namespace Go.Proofs.Ytdmafololcpamaa
open Go
set_option linter.unusedVariables false

theorem wpAnyH_strong {P : Program} {ops : Array Oper} {Q : Exit → Act → World → Prop} {md : Region.Mode} {S1 S2 : World → Prop} (hs : ∀ w, S2 w → S1 w) :
    ∀ {fuel : Nat} {listed : Array Bool} {a : Act} {w : World}, wpAnyH P md ops Q S2 fuel listed a w → wpAnyH P md ops Q S1 fuel listed a w := by
  intro fuel
  induction fuel with
  | zero => intro _ _ _ h; exact h
  | succ fuel ih =>
    intro listed a w h
    exact ⟨h.1, fun i hi => wpOp_mono (fun a' w' h' => ⟨hs w' h'.1, ih h'.2⟩) (h.2 i hi)⟩
end Go.Proofs.Ytdmafololcpamaa

/- The walk of QuantPuts. -/
namespace Go.Proofs.Ytdmafololcpamaa
open Go.RowKit
set_option linter.unusedVariables false
set_option linter.unusedSimpArgs false

set_option maxRecDepth 100000 in
theorem quantPuts_many (a a2 : Option Addr) (len cap len2 cap2 : Nat) (seed : Int) (w : World) (hm : len ≤ 9223372036854775807) (hm2 : len2 ≤ 9223372036854775807) (h : 1500 < len ∨ 60 < len2) :
    Calls Try.prog 3 #[.slice a len cap, .slice a2 len2 cap2, .int .u32 seed] w fun e w' => e = .returned (.bool true) ∧ Below w.heap.size w w' := by
  have HB := Lib.hid (Below.refl w.heap.size w)
  by_cases hl : 1500 < len
  · have hd : decide ((1500 : Int) < (len : Int)) = true := by simp; omega
    clear h
    go_enter Try.func3, Try.ntmps3
    go_wp2_with (go_at_call 7; go_loud (refine (lives12_any _).mono ?_); rintro e w1 ⟨rfl, hb⟩; replace HB := Lib.hid (chain HB.out hb); clear hb)
    go_ret
    exact ⟨rfl, HB.out⟩
  · have hd : decide ((1500 : Int) < (len : Int)) = false := by simp; omega
    have hd2 : decide ((60 : Int) < (len2 : Int)) = true := by simp; omega
    clear h
    go_enter Try.func3, Try.ntmps3
    go_wp2_with (go_at_call 7; go_loud (refine (lives12_any _).mono ?_); rintro e w1 ⟨rfl, hb⟩; replace HB := Lib.hid (chain HB.out hb); clear hb)
    go_ret
    exact ⟨rfl, HB.out⟩
/-- What is put is got as it is heard, in numbers. -/
theorem back_law {c s x : Nat → Int} {bb : List Int} {E2 : EncS} (seed : Int) (h12 : ∀ b, b < 21 → c b - s b ≤ 12) (hE : E2 = (putL (toldT c s) (lineQ x c s) encNew 512).1) (hbb : bb = bytesL (digL E2.n (E2.k + 4))) :
    (∀ i, i < 512 → okG c s bb (decNew (byteF bb)) i = true) ∧ ∀ i, i < 512 → outF c s (getQ (toldT c s) bb (decNew (byteF bb))) seed i = outF c s (lineQ x c s) seed i := by
  have hq := lineQ_bd (x := x) (c := c) (s := s) h12
  obtain ⟨g1, _, _, _⟩ := putL_good (T := toldT c s) (q := lineQ x c s) goodE_new hq 512
  rw [← hE] at g1
  have hd : DigOf (byteF bb) E2 := by rw [hbb]; exact digOf_only g1
  have hp := (put_got (T := toldT c s) (q := lineQ x c s) (b := bb) (F := E2) (n := 512) (sync_new (byteF bb)) goodE_new hq (by rw [hE]; exact Inside.refl _) (by have := g1.1; omega) hd 512 (Nat.le_refl _)).2.2
  refine ⟨fun i hi => ?_, fun i hi => ?_⟩
  · unfold okG
    cases ht : toldT c s i with
    | false => rfl
    | true =>
      rw [(hp i hi ht).2]
      have := numQ_bits (x i) (s (ofN i)) (c (ofN i))
      unfold lineQ
      rw [if_pos hi]
      simpa using this
  · unfold outF
    split
    · rename_i ht
      rw [(hp i hi ht).1]
    · rfl

/-! ### Both encoders -/
structure QSt (w : World) (be ge bf gf rf cf cb sb lb ab : Nat) (v : Value) (C S F : Nat → Int) (E E' : EncS) (wr : World) : Prop where
  b : Below w.heap.size w wr
  e : EncAt wr be ge v E
  f : EncMem wr bf gf rf cf (digL E'.n (E'.k + 4)) E'.s E'.k
  c : IFun wr cb 3 .i64 21 C
  s : IFun wr sb 3 .i64 21 S
  l : IFun wr lb 21 .i32 512 F
  a : IFun wr ab 2 .i64 512 F
  n : w.heap.size ≤ ge ∧ ge < gf ∧ ge < rf ∧ cb < ge ∧ sb < ge ∧ lb < ge ∧ ab < ge
  v : ∀ j, v.ownBlock = some j → gf < j ∧ j ≠ rf
section
variable {w wr w' : World} {be ge bf gf rf cf cb sb lb ab : Nat} {v : Value} {C S F : Nat → Int} {E E' E2 : EncS}
theorem QSt.below (h : QSt w be ge bf gf rf cf cb sb lb ab v C S F E E' wr) (hb : Below wr.heap.size wr w') : QSt w be ge bf gf rf cf cb sb lb ab v C S F E E' w' :=
  ⟨chain h.b hb, h.e.below hb, h.f.below hb, h.c.below hb h.c.lt, h.s.below hb h.s.lt, h.l.below hb h.l.lt, h.a.below hb h.a.lt, h.n, h.v⟩
theorem QSt.drewN (h : QSt w be ge bf gf rf cf cb sb lb ab v C S F E E' wr) (i : Nat) : QSt w be ge bf gf rf cf cb sb lb ab v C S F E E' (wr.drewN i) :=
  ⟨Below.drewN' h.b i, h.e.drewN i, h.f.drewN i, h.c.drewN i, h.s.drewN i, h.l.drewN i, h.a.drewN i, h.n, h.v⟩
theorem QSt.putE {x : Ending} {r : Value} (h : QSt w be ge bf gf rf cf cb sb lb ab v C S F E E' wr) (hp : PutPost be ge v E2 r wr x w') : x = .returned r ∧ ∃ v', QSt w be ge bf gf rf cf cb sb lb ab v' C S F E2 E' w' := by
  obtain ⟨e, v', h1, h2, h3⟩ := hp
  have hn := h.n
  have hg := h.e.lt.1
  have hfl := h.f.lt
  have hno : ∀ k, k < ge → ¬ (k = ge ∨ v.ownBlock = some k) := fun k hk c => by
    rcases c with c | c
    · omega
    · have := (h.v k c).1; omega
  refine ⟨e, v', h.b.trans (h2.below h.b.size fun k hk => ?_), h1, h.f.keeps h2 (fun c => ?_) (fun c => ?_), h.c.keeps h2 (hno _ (by omega)), h.s.keeps h2 (hno _ (by omega)), h.l.keeps h2 (hno _ (by omega)), h.a.keeps h2 (hno _ (by omega)), hn, fun j hj => ?_⟩
  · rcases hk with c | c
    · omega
    · have := (h.v k c).1; omega
  · rcases c with c | c
    · omega
    · have := (h.v gf c).1; omega
  · rcases c with c | c
    · omega
    · exact (h.v rf c).2 rfl
  · rcases h3 j hj with c | c
    · exact h.v j c
    · omega
theorem QSt.putF {x : Ending} (h : QSt w be ge bf gf rf cf cb sb lb ab v C S F E E' wr) (hp : EncPost bf gf rf E2 wr x w') : x = .returned (.tuple #[]) ∧ ∃ rf' cf', QSt w be ge bf gf rf' cf' cb sb lb ab v C S F E E2 w' := by
  obtain ⟨e, r', c', h1, h2, h3⟩ := hp
  have hn := h.n
  have hg := h.e.lt.1
  have hs := h.b.size
  refine ⟨e, r', c', h.b.trans (h2.below h.b.size fun k hk => by omega), h.e.keeps h2 (by omega) (fun j hj c => ?_), h1, h.c.keeps h2 (by omega), h.s.keeps h2 (by omega), h.l.keeps h2 (by omega), h.a.keeps h2 (by omega), by omega, fun j hj => ⟨(h.v j hj).1, ?_⟩⟩
  · have := h.v j hj; omega
  · have := h.v j hj; have := (h.e.own j hj).1; omega
end
set_option maxHeartbeats 2000000 in
set_option maxRecDepth 100000 in
theorem quantPuts_law (a a2 : Option Addr) (len cap len2 cap2 : Nat) (zs ns : List Int) (seed : Int) (w : World) (hz : IntsAt w w.heap.size .i32 a len zs) (hzb : ∀ j, -2147483648 ≤ zs.getD j 0 ∧ zs.getD j 0 ≤ 2147483647)
    (hn : IntsAt w w.heap.size .u8 a2 len2 ns) (hnb : ∀ j, 0 ≤ ns.getD j 0 ∧ ns.getD j 0 ≤ 255) (hl : len ≤ 1500) (hl2 : len2 ≤ 60) (sd0 : 0 ≤ seed) (sd1 : seed ≤ 4294967295) :
    Calls Try.prog 3 #[.slice a len cap, .slice a2 len2 cap2, .int .u32 seed] w fun e w' => e = .returned (.bool true) ∧ Below w.heap.size w w' := by
  have HB := Lib.hid (Below.refl w.heap.size w)
  have HZ := Lib.hid hz
  have HZb := Lib.hid hzb
  have HN := Lib.hid hn
  have HNb := Lib.hid hnb
  have hd : decide ((1500 : Int) < (len : Int)) = false := by simp; omega
  have hd2 : decide ((60 : Int) < (len2 : Int)) = false := by simp; omega
  obtain ⟨m2, hm2⟩ : ∃ m2, seed.tmod 2 = m2 := ⟨_, rfl⟩
  obtain ⟨ov, hov⟩ : ∃ ov, (m2 == 0) = ov := ⟨_, rfl⟩
  have um2 : 0 ≤ m2 ∧ m2 ≤ 1 := by rw [← hm2, Int.tmod_eq_emod_of_nonneg sd0]; omega
  have um : IntKind.u32.wrap m2 = m2 := IntWalk.u32_in _ (by omega)
  obtain ⟨C, hC⟩ : ∃ C, C = cutF ns len2 := ⟨_, rfl⟩
  obtain ⟨S, hS⟩ : ∃ S, S = stepQ ns len2 := ⟨_, rfl⟩
  have HPl : RowKit.Hid (∀ wx, IntsAt wx wx.heap.size .u8 a2 len2 ns → Calls Try.prog 8 #[.slice a2 len2 cap2] wx fun e w' => ∃ c s, e = .returned (.tuple #[.slice (some ⟨c, 0, none⟩) 21 21, .slice (some ⟨s, 0, none⟩) 21 21]) ∧ IFun w' c 3 .i64 21 C ∧ IFun w' s 3 .i64 21 S ∧ wx.heap.size ≤ c ∧ wx.heap.size ≤ s ∧ c ≠ s ∧ Below wx.heap.size wx w') := fun wx h => by rw [hC, hS]; exact plan12_any a2 len2 cap2 ns wx h HNb.out (by omega)
  have hmay : mayQ (tabF 21 C) (tabF 21 S) = true := by rw [hC, hS]; exact plan_may ns len2
  have hC26 : ∀ b, b < 21 → (tabF 21 C).getD b 0 ≤ 26 := fun b hb => by rw [tabF_getD C hb, hC]; exact (cutF_bd ns len2 b).2
  have hS0 : ∀ b, b < 21 → 0 ≤ (tabF 21 S).getD b 0 := fun b hb => by rw [tabF_getD S hb, hS]; exact (stepQ_bd ns len2 b).1
  have HCt : RowKit.Hid (∀ j, j < 21 → 0 ≤ (tabF 21 C).getD j 0 ∧ (tabF 21 C).getD j 0 ≤ 26) := fun j hj => by rw [tabF_getD C hj, hC]; exact cutF_bd ns len2 j
  have HFb := Lib.hid (fillQ_bd hzb len (fun j => (tabF 21 C).getD j 0) ov)
  obtain ⟨F, hF⟩ : ∃ F, F = fillQ zs len (fun j => (tabF 21 C).getD j 0) ov := ⟨_, rfl⟩
  rw [← hF] at HFb
  obtain ⟨E2, hE2⟩ : ∃ E2, E2 = (putL (toldT (fun j => (tabF 21 C).getD j 0) (fun j => (tabF 21 S).getD j 0)) (lineQ F (fun j => (tabF 21 C).getD j 0) (fun j => (tabF 21 S).getD j 0)) encNew 512).1 := ⟨_, rfl⟩
  have HG2 : RowKit.Hid (GoodE E2 ∧ E2.k ≤ 5120) := by
    have := putL_good (T := toldT (fun j => (tabF 21 C).getD j 0) (fun j => (tabF 21 S).getD j 0)) (q := lineQ F (fun j => (tabF 21 C).getD j 0) (fun j => (tabF 21 S).getD j 0)) goodE_new (lineQ_bd (mayQ_true hmay).2.2) 512
    rw [← hE2] at this
    exact ⟨this.1, by have h0 : encNew.k = 0 := rfl; omega⟩
  obtain ⟨bb, hbb⟩ : ∃ bb, bb = bytesL (digL E2.n (E2.k + 4)) := ⟨_, rfl⟩
  have hbl : bb.length ≤ 6000 := by rw [hbb]; have := bytesL_le E2; have := HG2.out.2; omega
  have HBy : RowKit.Hid (∀ j, 0 ≤ byteF bb j ∧ byteF bb j ≤ 255) := by rw [hbb]; exact byteF_bd (bytesL_dig E2)
  have HGn : RowKit.Hid (GoodD (decNew (byteF bb))) := by show GoodD _; rw [hbb]; exact goodD_new (bytesL_dig E2)
  obtain ⟨hback1, hback2⟩ := back_law (x := F) seed (mayQ_true hmay).2.2 hE2 hbb
  obtain ⟨H, hH⟩ : ∃ H, H = outF (fun j => (tabF 21 C).getD j 0) (fun j => (tabF 21 S).getD j 0) (lineQ F (fun j => (tabF 21 C).getD j 0) (fun j => (tabF 21 S).getD j 0)) seed := ⟨_, rfl⟩
  rw [← hH] at hback2
  have HHb : RowKit.Hid (∀ i, i < 512 → -2147483648 ≤ H i ∧ H i ≤ 2147483647) := fun i hi => by rw [hH]; exact outL_bd seed hC26 hS0 hi
  have HFill : RowKit.Hid (∀ wx c, IntsAt wx wx.heap.size .i32 a len zs → IFun wx c 3 .i64 21 C → Calls Try.prog 9 #[.slice a len cap, .slice (some ⟨c, 0, none⟩) 21 21, .bool ov] wx (FillPost F wx)) := fun wx c h1 h2 => by rw [hF]; exact fill12_any a len cap zs c 0 21 (tabF 21 C) ov wx h1 HZb.out hl (h2.ints (by decide)) HCt.out
  have HHeard : RowKit.Hid (∀ wx c s l, IFun wx c 3 .i64 21 C → IFun wx s 3 .i64 21 S → IFun wx l 21 .i32 512 F → Calls Try.prog 16 #[.slice (some ⟨l, 0, none⟩) 512 512, .slice (some ⟨c, 0, none⟩) 21 21, .slice (some ⟨s, 0, none⟩) 21 21, .int .u32 seed] wx (HeardPost H wx)) := fun wx c s l h1 h2 h3 => by
    rw [hH]; exact qHeard_any l 0 512 F _ _ 21 21 (tabF 21 C) (tabF 21 S) seed wx h3.lt (fun i hi => by rw [Nat.zero_add]; exact h3.cell hi) (fun i _ => HFb.out i) (h1.ints (by decide)) (h2.ints (by decide)) hmay sd0 sd1
  have HPut : RowKit.Hid (∀ wx be ge bf gf rf cf cb sb lb ab v E', QSt w be ge bf gf rf cf cb sb lb ab v C S F encNew E' wx → Calls Try.prog 12 #[.pointer (some ⟨ge, 0, none⟩), .slice (some ⟨lb, 0, none⟩) 512 512, .slice (some ⟨cb, 0, none⟩) 21 21, .slice (some ⟨sb, 0, none⟩) 21 21] wx (PutPost be ge v E2 (.int .i64 0) wx)) := fun wx be ge bf gf rf cf cb sb lb ab v E' h => by
    rw [hE2]
    have hnn := h.n
    exact qPut_any be ge v encNew lb 0 512 F _ _ 21 21 (tabF 21 C) (tabF 21 S) wx h.e goodE_new (by decide) h.l.lt (fun i hi => by rw [Nat.zero_add]; exact h.l.cell hi) (fun i _ => HFb.out i) (by decide) (by decide) ⟨by omega, fun c => by have := (h.v lb c).1; omega⟩ (h.c.ints (by decide)) (h.s.ints (by decide)) hmay
  have HPutL : RowKit.Hid (∀ wx be ge bf gf rf cf cb sb lb ab v E, QSt w be ge bf gf rf cf cb sb lb ab v C S F E encNew wx → Calls Try.prog 13 #[.pointer (some ⟨gf, 0, none⟩), .slice (some ⟨ab, 0, none⟩) 512 512, .slice (some ⟨cb, 0, none⟩) 21 21, .slice (some ⟨sb, 0, none⟩) 21 21] wx (EncPost bf gf rf E2 wx)) := fun wx be ge bf gf rf cf cb sb lb ab v E h => by
    rw [hE2]
    have hnn := h.n
    exact refPutLines_any bf gf rf cf encNew ab 0 512 F _ _ 21 21 (tabF 21 C) (tabF 21 S) wx h.f goodE_new (by decide) h.a.lt (fun i hi => by rw [Nat.zero_add]; exact h.a.cell hi) (fun i _ => HFb.out i) (by omega) (h.c.ints (by decide)) (h.s.ints (by decide)) hmay (fun b off e => by injection e with e; injection e with e; omega) (fun b off e => by injection e with e; injection e with e; omega)
  have HBp : RowKit.Hid (∀ w' be ge bf gf rf cf cb sb lb ab v, QSt w be ge bf gf rf cf cb sb lb ab v C S F E2 E2 w' → Calls Try.prog 14 #[.pointer (some ⟨ge, 0, none⟩)] w' (BytesPostS bb w')) := fun w' be ge bf gf rf cf cb sb lb ab v h => by
    rw [hbb]; exact rncBytes_some _ _ _ _ _ _ w' h.e (by have := HG2.out.2; omega)
  have HBr : RowKit.Hid (∀ w' be ge bf gf rf cf cb sb lb ab v, QSt w be ge bf gf rf cf cb sb lb ab v C S F E2 E2 w' → Calls Try.prog 15 #[.pointer (some ⟨gf, 0, none⟩)] w' (BytesPost bb w')) := fun w' be ge bf gf rf cf cb sb lb ab v h => by
    rw [hbb]; exact refEncBytes_any _ _ _ _ _ _ _ w' h.f (digL_dig _ _) (by rw [digL_len]; have := HG2.out.2; omega)
  have HGet : RowKit.Hid (∀ (w5 : World) (base g : Nat) (v : Value) (c s : Nat), DrcAt w5 base g v bb (decNew (byteF bb)) → IFun w5 c 3 .i64 21 C → IFun w5 s 3 .i64 21 S → Calls Try.prog 17 #[.pointer (some ⟨g, 0, none⟩), .slice (some ⟨c, 0, none⟩) 21 21, .slice (some ⟨s, 0, none⟩) 21 21, .int .u32 seed] w5 fun e w' => ∃ r, e = .returned (.tuple #[.slice (some ⟨r, 0, none⟩) 512 512, .int .i64 0]) ∧ IFun w' r 21 .i32 512 H ∧ Keeps (fun j => j = g) w5 w') := fun w5 base g v c s h h1 h2 =>
    (qGet_any base g v bb _ _ _ 21 21 _ _ seed w5 h HGn.out HBy.out (by omega) (by show 4 ≤ 1000000; decide) (h1.ints (by decide)) (h2.ints (by decide)) hmay sd0 sd1).mono (by
      rintro e w' ⟨hk, ⟨_, r, rfl, hi, _⟩ | ⟨⟨i, hi, ho⟩, _⟩⟩
      · exact ⟨r, rfl, hi.ext hback2, hk⟩
      · rw [hback1 i hi] at ho; cases ho)
  have HGetL : RowKit.Hid (∀ (w5 : World) (base g : Nat) (v : Value) (c s : Nat), DecMem w5 base g v bb (decNew (byteF bb)) → IFun w5 c 3 .i64 21 C → IFun w5 s 3 .i64 21 S → c ≠ g → s ≠ g → Calls Try.prog 19 #[.pointer (some ⟨g, 0, none⟩), .slice (some ⟨c, 0, none⟩) 21 21, .slice (some ⟨s, 0, none⟩) 21 21, .int .u32 seed] w5 fun e w' => ∃ a cp, e = .returned (.tuple #[.slice a 512 cp, .bool true]) ∧ IntsAt w' w'.heap.size .i64 a 512 (tabF 512 H) ∧ Keeps (fun j => j = g) w5 w') := fun w5 base g v c s h h1 h2 n1 n2 =>
    (refGetLines_any base g v bb _ _ _ 21 21 _ _ seed w5 h HGn.out HBy.out (by omega) (by show 4 ≤ 1000000; decide) (h1.ints (by decide)) (h2.ints (by decide)) hmay sd0 sd1 (fun r off e => by injection e with e; injection e with e; omega) (fun r off e => by injection e with e; injection e with e; omega)).mono (by
      rintro e w' ⟨hk, ⟨_, a, cp, rfl, hi⟩ | ⟨⟨i, hi, ho⟩, _⟩⟩
      · exact ⟨a, cp, rfl, by rw [← tabF_ext hback2]; exact hi, hk⟩
      · rw [hback1 i hi] at ho; cases ho)
  clear hback1 hback2 hC hS hF hE2 hH hbb hmay hC26 hS0 hz hzb hn hnb
  go_enter Try.func3, Try.ntmps3
  go_wp2_with (first
    | (go_at_call 7; go_loud (refine (lives12_any _).mono ?_); rintro e w1 ⟨rfl, hb⟩; have HB1 := Lib.hid (chain HB.out hb); clear hb HB)
    | (go_at_call 8; go_loud (refine (HPl.out _ (HN.out.now HB1.out (Nat.le_refl _))).mono ?_); rintro e w2 ⟨cb, sb, rfl, hi, hj, h1, h2, hne, hb⟩; have HB2 := Lib.hid (chain HB1.out hb); have HC2 := Lib.hid hi; have HS2 := Lib.hid hj; clear hi hj h1 h2 hne hb)
    | (go_at_call 9; go_loud (refine (HFill.out _ _ (HZ.out.now HB2.out (Nat.le_refl _)) HC2.out).mono ?_); rintro e w3 ⟨lb, ab, rfl, hi, hj, _, _, hb⟩; have HB3 := Lib.hid (chain HB2.out hb); have HC3 := Lib.hid (HC2.out.below hb HC2.out.lt); have HS3 := Lib.hid (HS2.out.below hb HS2.out.lt); have HL3 := Lib.hid hi; have HA3 := Lib.hid hj; clear hi hj hb)
    | (go_at_call 10; go_loud (refine (rncNew_any w3).mono ?_); rintro e w4 ⟨rfl, he, hb⟩; have HS4 : RowKit.Hid (Below w.heap.size w w4 ∧ EncAt w4 w3.heap.size w3.heap.size (.slice none 0 0) encNew ∧ IFun w4 cb 3 .i64 21 C ∧ IFun w4 sb 3 .i64 21 S ∧ IFun w4 lb 21 .i32 512 F ∧ IFun w4 ab 2 .i64 512 F) := ⟨chain HB3.out hb, he, HC3.out.below hb HC3.out.lt, HS3.out.below hb HS3.out.lt, HL3.out.below hb HL3.out.lt, HA3.out.below hb HA3.out.lt⟩; clear he hb)
    | (go_at_call 11; go_loud (refine (refEncNew_any w4).mono ?_); rintro e w5 ⟨rfl, hf, hb⟩; have HS5 : RowKit.Hid (QSt w w3.heap.size w3.heap.size w4.heap.size (w4.heap.size + 1) w4.heap.size 4 cb sb lb ab (.slice none 0 0) C S F encNew encNew w5) := ⟨chain HS4.out.1 hb, HS4.out.2.1.below hb, hf, HS4.out.2.2.1.below hb HS4.out.2.2.1.lt, HS4.out.2.2.2.1.below hb HS4.out.2.2.2.1.lt, HS4.out.2.2.2.2.1.below hb HS4.out.2.2.2.2.1.lt, HS4.out.2.2.2.2.2.below hb HS4.out.2.2.2.2.2.lt, (by have := HS4.out.2.1.lt.1; have := HB3.out.size; have := HC3.out.lt; have := HS3.out.lt; have := HL3.out.lt; have := HA3.out.lt; omega), fun j hj => (by simp [Value.ownBlock] at hj)⟩; clear hf hb HS4)
    | (go_at_call 12; have h5 := HS5.out; go_loud (refine (HPut.out _ _ _ _ _ _ _ _ _ _ _ _ _ h5).mono ?_); intro e w6 hp; obtain ⟨rfl, v6, h6⟩ := h5.putE hp; have HS6 := Lib.hid h6; clear h6 hp h5 HS5)
    | (go_at_call 13; have h6 := HS6.out; go_loud (refine (HPutL.out _ _ _ _ _ _ _ _ _ _ _ _ _ h6).mono ?_); intro e w7 hp; obtain ⟨rfl, r7, c7, h7⟩ := h6.putF hp; have HS7 := Lib.hid h7; clear h7 hp h6 HS6)
    | (go_at_call 14; have h7 := HS7.out; go_loud (refine (HBp.out _ _ _ _ _ _ _ _ _ _ _ _ h7).mono ?_); rintro e w8 ⟨g8, c8, rfl, hI, hb⟩; have HS8 := Lib.hid (h7.below hb); have HI8 := Lib.hid hI; clear hI hb h7)
    | fail)
  clear HB1 HB2 HB3 HC2 HC3 HS2 HS3 HL3 HA3 HPl HFill HPut HPutL HBp HS7
  have HS1 : RowKit.Hid ((convert 23 9 (.slice (some ⟨g8, 0, none⟩) bb.length c8)).run Try.prog (w8.drewN 1) = .ok (.string (textOf bb)) (w8.drewN 1) ∧ QSt w w3.heap.size w3.heap.size w4.heap.size (w4.heap.size + 1) r7 c7 cb sb lb ab v6 C S F E2 E2 (w8.drewN 1) ∧ Below w8.heap.size w8 (w8.drewN 1)) := ⟨string_of_ints (P := Try.prog) (src := 23) (dst := 9) (c := c8) Try.underlying23 Try.underlying5 Try.underlying9 (HI8.out.drewN 1), HS8.out.drewN 1, Below.drewN' (Below.refl _ w8) 1⟩
  refine wp_region_held_drew (S := fun w' => (convert 23 9 (.slice (some ⟨g8, 0, none⟩) bb.length c8)).run Try.prog w' = .ok (.string (textOf bb)) w' ∧ QSt w w3.heap.size w3.heap.size w4.heap.size (w4.heap.size + 1) r7 c7 cb sb lb ab v6 C S F E2 E2 w' ∧ Below w8.heap.size w8 w') (by kernel_rfl) HS1.out (fun hHeld => ?_)
  refine wpAnyH_take (i := 0) (v := ?_) rfl (by kernel_rfl) (by kernel_rfl) (by kernel_rfl) (fun _ _ _ h => h) (Or.inl ⟨by rfl, ?_⟩) (by assumption) ?_
  rotate_left 1
  · intro wq hSw
    (try dsimp only at hSw)
    go_simp
    all_goals (with_reducible rfl)
  (try simp only [Act.put, List.setIfInBounds_toArray, List.set_cons_zero, List.set_cons_succ, List.getElem_toArray, List.getElem_cons_zero, List.getElem_cons_succ])
  refine wpAnyH_take (i := 1) (v := ?_) rfl (by kernel_rfl) (by kernel_rfl) (by kernel_rfl) (fun _ _ _ h => h) (Or.inl ⟨by rfl, ?_⟩) (by assumption) ?_
  rotate_left 1
  · intro wq hSw
    (try dsimp only at hSw)
    go_simp
    all_goals (with_reducible rfl)
  (try simp only [Act.put, List.setIfInBounds_toArray, List.set_cons_zero, List.set_cons_succ, List.getElem_toArray, List.getElem_cons_zero, List.getElem_cons_succ])
  refine wpAnyH_take (i := 2) (v := ?_) rfl (by kernel_rfl) (by kernel_rfl) (by kernel_rfl) (fun _ _ _ h => h) (Or.inl ⟨by rfl, ?_⟩) (by assumption) ?_
  rotate_left 1
  · intro wq hSw
    (try dsimp only at hSw)
    go_simp
    all_goals (with_reducible rfl)
  (try simp only [Act.put, List.setIfInBounds_toArray, List.set_cons_zero, List.set_cons_succ, List.getElem_toArray, List.getElem_cons_zero, List.getElem_cons_succ])
  refine wpAnyH_take (i := 3) (v := ?_) rfl (by kernel_rfl) (by kernel_rfl) (by kernel_rfl) (fun _ _ _ h => h) (Or.inl ⟨by rfl, ?_⟩) (by assumption) ?_
  rotate_left 1
  · intro wq hSw
    (try dsimp only at hSw)
    go_simp
    all_goals (with_reducible rfl)
  (try simp only [Act.put, List.setIfInBounds_toArray, List.set_cons_zero, List.set_cons_succ, List.getElem_toArray, List.getElem_cons_zero, List.getElem_cons_succ])
  refine wpAnyH_take (i := 5) (v := ?_) rfl (by kernel_rfl) (by kernel_rfl) (by kernel_rfl) (fun _ _ _ h => h) (Or.inl ⟨by rfl, ?_⟩) (by assumption) ?_
  rotate_left 1
  · intro wq hSw
    (try dsimp only at hSw)
    go_simp
    all_goals (with_reducible rfl)
  (try simp only [Act.put, List.setIfInBounds_toArray, List.set_cons_zero, List.set_cons_succ, List.getElem_toArray, List.getElem_cons_zero, List.getElem_cons_succ])
  refine wpAnyH_take (i := 4) (v := ?_) rfl (by kernel_rfl) (by kernel_rfl) (by kernel_rfl) (fun _ _ _ h => h) (Or.inl ⟨by rfl, ?_⟩) (by assumption) ?_
  rotate_left 1
  · intro wq hSw
    (try dsimp only at hSw)
    go_simp
    all_goals (with_reducible rfl)
  (try simp only [Act.put, List.setIfInBounds_toArray, List.set_cons_zero, List.set_cons_succ, List.getElem_toArray, List.getElem_cons_zero, List.getElem_cons_succ])
  refine wpAnyH_ready (rs := [6]) (by kernel_rfl) (by simp) ?_
  refine AllReadyH.cons rfl (fun K hK => ?_) AllReadyH.nil
  go_simp
  go_at_call 15
  refine (HBr.out _ _ _ _ _ _ _ _ _ _ _ _ hHeld.2.1).mono ?_
  rintro e11 w9 ⟨a9, c9, rfl, hI, hb⟩
  have hbw := hHeld.2.2.trans (hb.mono hHeld.2.2.size)
  have k4 := hHeld.2.1.below hb
  have cv2 := string_of_ints (P := Try.prog) (src := 23) (dst := 9) (c := c9) Try.underlying23 Try.underlying5 Try.underlying9 hI
  have cv3 := string_of_ints (P := Try.prog) (src := 23) (dst := 9) (c := c8) Try.underlying23 Try.underlying5 Try.underlying9 (HI8.out.now hbw (Nat.le_refl _))
  refine hK.out _ _ ⟨cv3, k4, hbw⟩ (fun _ => ?_)
  clear hK K hHeld hI hb
  refine wpAnyH_strong (S2 := fun w' => (convert 23 9 (.slice a9 bb.length c9)).run Try.prog w' = .ok (.string (textOf bb)) w' ∧ (convert 23 9 (.slice (some ⟨g8, 0, none⟩) bb.length c8)).run Try.prog w' = .ok (.string (textOf bb)) w' ∧ QSt w w3.heap.size w3.heap.size w4.heap.size (w4.heap.size + 1) r7 c7 cb sb lb ab v6 C S F E2 E2 w' ∧ Below w8.heap.size w8 w') (fun w h => h.2) ?_
  have hHeld := And.intro cv2 (And.intro cv3 (And.intro k4 hbw))
  clear cv2 cv3 k4 hbw
  (try simp only [Act.put, List.setIfInBounds_toArray, List.set_cons_zero, List.set_cons_succ, List.getElem_toArray, List.getElem_cons_zero, List.getElem_cons_succ])
  refine wpAnyH_take (i := 7) (v := ?_) rfl (by kernel_rfl) (by kernel_rfl) (by kernel_rfl) (fun _ _ _ h => h) (Or.inl ⟨by rfl, ?_⟩) (by assumption) ?_
  rotate_left 1
  · intro wq hSw
    (try dsimp only at hSw)
    go_simp
    all_goals (with_reducible rfl)
  (try simp only [Act.put, List.setIfInBounds_toArray, List.set_cons_zero, List.set_cons_succ, List.getElem_toArray, List.getElem_cons_zero, List.getElem_cons_succ])
  refine wpAnyH_take (i := 8) (v := ?_) rfl (by kernel_rfl) (by kernel_rfl) (by kernel_rfl) (fun _ _ _ h => h) (Or.inl ⟨by rfl, ?_⟩) (by assumption) ?_
  rotate_left 1
  · intro wq hSw
    (try dsimp only at hSw)
    go_simp
    all_goals (with_reducible rfl)
  (try simp only [Act.put, List.setIfInBounds_toArray, List.set_cons_zero, List.set_cons_succ, List.getElem_toArray, List.getElem_cons_zero, List.getElem_cons_succ])
  refine wpAnyH_take (i := 9) (v := ?_) rfl (by kernel_rfl) (by kernel_rfl) (by kernel_rfl) (fun _ _ _ h => h) (Or.inl ⟨by rfl, ?_⟩) (by assumption) ?_
  rotate_left 1
  · intro wq hSw
    (try dsimp only at hSw)
    go_simp
    all_goals (with_reducible rfl)
  (try simp only [Act.put, List.setIfInBounds_toArray, List.set_cons_zero, List.set_cons_succ, List.getElem_toArray, List.getElem_cons_zero, List.getElem_cons_succ])
  refine wpAnyH_done (by kernel_rfl) ?_ _
  have HS9 := Lib.hid hHeld.2.2.1
  have HB9 := Lib.hid hHeld.2.2.2
  clear hHeld HBr HS1
  have hc8 := HS8.out.c.lt
  have hs8 := HS8.out.s.lt
  have hb8 := HS8.out.b.size
  go_wp2_with (first
    | (go_at_call 16; go_loud (refine (HHeard.out w9 cb sb lb HS9.out.c HS9.out.s HS9.out.l).mono ?_); rintro e w10 ⟨r10, rfl, hi, _, hb⟩; have HB10 := Lib.hid (chain HB9.out hb); have HH10 := Lib.hid hi; clear hi hb)
    | (go_at_call 18; go_loud (refine (drcNew_any (some ⟨g8, 0, none⟩) bb.length c8 bb w10 (HI8.out.now HB10.out (Nat.le_refl _)) (fun c => by cases c) HBy.out (by omega)).mono ?_); rintro e w11 ⟨g11, v11, rfl, h11, b11⟩; have HD11 := Lib.hid h11; have HB11 := Lib.hid (chain HB10.out b11); have HH11 := Lib.hid (HH10.out.below b11 HH10.out.lt); have hg11 := h11.lt.2; have hh10 := HH10.out.lt; have hsz10 := HB10.out.size; clear h11 b11)
    | (go_at_call 17; go_loud (refine (HGet.out w11 _ g11 v11 cb sb HD11.out (HS8.out.c.below HB11.out HS8.out.c.lt) (HS8.out.s.below HB11.out HS8.out.s.lt)).mono ?_); rintro e w12 ⟨r12, rfl, hi, hk⟩; have HB12 := Lib.hid (HB11.out.trans (hk.below HB11.out.size (fun j hj => by omega))); have HH12 := Lib.hid (HH11.out.keeps hk (by omega)); have HR12 := Lib.hid hi; clear hi hk)
    | (go_at_call 20; go_loud (refine (refOpen_any (some ⟨g8, 0, none⟩) bb.length c8 bb w12 (HI8.out.now HB12.out (Nat.le_refl _)) (fun c => by cases c) HBy.out (by omega)).mono ?_); rintro e w13 ⟨g13, v13, rfl, h13, b13⟩; have HD13 := Lib.hid h13; have HB13 := Lib.hid (chain HB12.out b13); have HH13 := Lib.hid (HH12.out.below b13 HH12.out.lt); have HR13 := Lib.hid (HR12.out.below b13 HR12.out.lt); have hg13 := h13.2.2; have hh12 := HH12.out.lt; have hr12 := HR12.out.lt; have hsz12 := HB12.out.size; clear h13 b13)
    | (go_at_call 19; go_loud (refine (HGetL.out w13 _ g13 v13 cb sb HD13.out (HS8.out.c.below HB13.out HS8.out.c.lt) (HS8.out.s.below HB13.out HS8.out.s.lt) (by omega) (by omega)).mono ?_); rintro e w14 ⟨a14, c14, rfl, hi, hk⟩; have HB14 := Lib.hid (HB13.out.trans (hk.below HB13.out.size (fun j hj => by omega))); have HH14 := Lib.hid ((HH13.out.keeps hk (by omega)).ints (by decide)); have HR14 := Lib.hid ((HR13.out.keeps hk (by omega)).ints (by decide)); have HW14 := Lib.hid hi; clear hi hk)
    | (go_at_call 21; have hx := HW15.out; go_loud (refine (same12_any _ _ 512 512 c14 (tabF 512 H) (tabF 512 H) w15 HR15.out HW15.out (fun j _ => rfl) (fun j hj => by rw [tabF_getD H hj]; exact HHb.out j hj) (by decide)).mono ?_); rintro e w16 ⟨rfl, i16, hw16⟩; have HB16 : RowKit.Hid (Below w8.heap.size w8 w16) := (by rw [hw16]; exact Below.drewN' HB15.out i16); clear hw16 hx)
    | (go_at_call 21; go_loud (refine (same12_any _ _ 512 512 c14 (tabF 512 H) (tabF 512 H) w14 HH14.out HW14.out (fun j _ => rfl) (fun j hj => by rw [tabF_getD H hj]; exact HHb.out j hj) (by decide)).mono ?_); rintro e w15 ⟨rfl, i15, hw15⟩; have HB15 : RowKit.Hid (Below w8.heap.size w8 w15) := (by rw [hw15]; exact Below.drewN' HB14.out i15); have HR15 : RowKit.Hid (IntsAt w15 w15.heap.size .i32 (some ⟨r12, 0, none⟩) 512 (tabF 512 H)) := (by rw [hw15]; exact HR14.out.drewN i15); have HW15 : RowKit.Hid (IntsAt w15 w15.heap.size .i64 a14 512 (tabF 512 H)) := (by rw [hw15]; exact HW14.out.drewN i15); clear hw15)
    | fail)
  go_ret
  exact ⟨rfl, HS8.out.b.trans (HB16.out.mono hb8)⟩
end Go.Proofs.Ytdmafololcpamaa

/- The walk of QuantNear. -/
namespace Go.Proofs.Ytdmafololcpamaa
open Go.RowKit
set_option linter.unusedVariables false

theorem quantNear_many (a a2 : Option Addr) (len cap len2 cap2 : Nat) (seed : Int) (w : World) (hm : len ≤ 9223372036854775807) (hm2 : len2 ≤ 9223372036854775807) (h : 1500 < len ∨ 60 < len2) :
    Calls Try.prog 5 #[.slice a len cap, .slice a2 len2 cap2, .int .u32 seed] w fun e w' => e = .returned (.bool true) ∧ Below w.heap.size w w' := by
  have HB := Lib.hid (Below.refl w.heap.size w)
  by_cases hl : 1500 < len
  · have hd : decide ((1500 : Int) < (len : Int)) = true := by simp; omega
    clear h
    go_enter Try.func5, Try.ntmps5
    go_wp2_with (go_at_call 7; go_loud (refine (lives12_any _).mono ?_); rintro e w1 ⟨rfl, hb⟩; replace HB := Lib.hid (chain HB.out hb); clear hb)
    go_ret
    exact ⟨rfl, HB.out⟩
  · have hd : decide ((1500 : Int) < (len : Int)) = false := by simp; omega
    have hd2 : decide ((60 : Int) < (len2 : Int)) = true := by simp; omega
    clear h
    go_enter Try.func5, Try.ntmps5
    go_wp2_with (go_at_call 7; go_loud (refine (lives12_any _).mono ?_); rintro e w1 ⟨rfl, hb⟩; replace HB := Lib.hid (chain HB.out hb); clear hb)
    go_ret
    exact ⟨rfl, HB.out⟩
/-- What the law says of one line, in numbers. -/
theorem near_line {zs : List Int} {len : Nat} {C S : Nat → Int} {seed : Int} {k I : Nat} (hk : k < 21) (h0 : edgeK k ≤ I) (h1 : I < edgeK (k + 1)) (c0 : 0 ≤ C k) (c1 : C k ≤ 26) (s0 : 0 ≤ S k) :
    (S k < C k → -(P2 (S k).toNat) ≤ outF (fun j => (tabF 21 C).getD j 0) (fun j => (tabF 21 S).getD j 0) (lineQ (fillQ zs len (fun j => (tabF 21 C).getD j 0) false) (fun j => (tabF 21 C).getD j 0) (fun j => (tabF 21 S).getD j 0)) seed I - fillQ zs len (fun j => (tabF 21 C).getD j 0) false I ∧
      outF (fun j => (tabF 21 C).getD j 0) (fun j => (tabF 21 S).getD j 0) (lineQ (fillQ zs len (fun j => (tabF 21 C).getD j 0) false) (fun j => (tabF 21 C).getD j 0) (fun j => (tabF 21 S).getD j 0)) seed I - fillQ zs len (fun j => (tabF 21 C).getD j 0) false I ≤ P2 (S k).toNat) ∧
    (C k ≤ S k → noiseP seed I (C k) = outF (fun j => (tabF 21 C).getD j 0) (fun j => (tabF 21 S).getD j 0) (lineQ (fillQ zs len (fun j => (tabF 21 C).getD j 0) false) (fun j => (tabF 21 C).getD j 0) (fun j => (tabF 21 S).getD j 0)) seed I ∧
      -(P2 ((C k).toNat + 1)) ≤ outF (fun j => (tabF 21 C).getD j 0) (fun j => (tabF 21 S).getD j 0) (lineQ (fillQ zs len (fun j => (tabF 21 C).getD j 0) false) (fun j => (tabF 21 C).getD j 0) (fun j => (tabF 21 S).getD j 0)) seed I - fillQ zs len (fun j => (tabF 21 C).getD j 0) false I ∧
      outF (fun j => (tabF 21 C).getD j 0) (fun j => (tabF 21 S).getD j 0) (lineQ (fillQ zs len (fun j => (tabF 21 C).getD j 0) false) (fun j => (tabF 21 C).getD j 0) (fun j => (tabF 21 S).getD j 0)) seed I - fillQ zs len (fun j => (tabF 21 C).getD j 0) false I ≤ P2 ((C k).toNat + 1)) := by
  have hh := fillQ_held zs len (fun j => (tabF 21 C).getD j 0) I
  simp only [of_band hk h0 h1] at hh
  rw [tabF_getD C hk] at hh
  constructor
  · intro ht
    rw [outF_told (c := fun j => (tabF 21 C).getD j 0) (s := fun j => (tabF 21 S).getD j 0) hk h0 h1 (by rw [tabF_getD C hk, tabF_getD S hk]; exact ht), lineQ_at (c := fun j => (tabF 21 C).getD j 0) (s := fun j => (tabF 21 S).getD j 0) hk h0 h1]
    simp only [tabF_getD C hk, tabF_getD S hk]
    exact num_near s0 ht (by omega) hh.1 hh.2
  · intro ht
    rw [outF_not (c := fun j => (tabF 21 C).getD j 0) (s := fun j => (tabF 21 S).getD j 0) hk h0 h1 (by rw [tabF_getD C hk, tabF_getD S hk]; omega)]
    simp only [tabF_getD C hk]
    exact ⟨trivial, noise_near seed I c0 c1 hh.1 hh.2⟩
theorem noise_20 (seed : Int) : noiseP seed 3 20 = 262144 ∨ noiseP seed 3 20 = -262144 := by
  rw [noiseP_in _ _ (by decide), noiseR_some _ _ (by decide)]
  have e : P2 ((20 : Int) - 2).toNat = 262144 := by decide
  rw [e]
  split
  · exact .inr rfl
  · exact .inl rfl
set_option maxHeartbeats 1000000 in
set_option maxRecDepth 100000 in
theorem quantNear_law (a a2 : Option Addr) (len cap len2 cap2 : Nat) (zs ns : List Int) (seed : Int) (w : World) (hz : IntsAt w w.heap.size .i32 a len zs) (hzb : ∀ j, -2147483648 ≤ zs.getD j 0 ∧ zs.getD j 0 ≤ 2147483647)
    (hn : IntsAt w w.heap.size .u8 a2 len2 ns) (hnb : ∀ j, 0 ≤ ns.getD j 0 ∧ ns.getD j 0 ≤ 255) (hl : len ≤ 1500) (hl2 : len2 ≤ 60) (sd0 : 0 ≤ seed) (sd1 : seed ≤ 4294967295) :
    Calls Try.prog 5 #[.slice a len cap, .slice a2 len2 cap2, .int .u32 seed] w fun e w' => e = .returned (.bool true) ∧ Below w.heap.size w w' := by
  have HB := Lib.hid (Below.refl w.heap.size w)
  have HZ := Lib.hid hz
  have HZb := Lib.hid hzb
  have HN := Lib.hid hn
  have HNb := Lib.hid hnb
  have hd : decide ((1500 : Int) < (len : Int)) = false := by simp; omega
  have hd2 : decide ((60 : Int) < (len2 : Int)) = false := by simp; omega
  obtain ⟨C, hC⟩ : ∃ C, C = cutF ns len2 := ⟨_, rfl⟩
  obtain ⟨S, hS⟩ : ∃ S, S = stepQ ns len2 := ⟨_, rfl⟩
  have HPl : RowKit.Hid (∀ wx, IntsAt wx wx.heap.size .u8 a2 len2 ns → Calls Try.prog 8 #[.slice a2 len2 cap2] wx fun e w' => ∃ c s, e = .returned (.tuple #[.slice (some ⟨c, 0, none⟩) 21 21, .slice (some ⟨s, 0, none⟩) 21 21]) ∧ IFun w' c 3 .i64 21 C ∧ IFun w' s 3 .i64 21 S ∧ wx.heap.size ≤ c ∧ wx.heap.size ≤ s ∧ c ≠ s ∧ Below wx.heap.size wx w') := fun wx h => by rw [hC, hS]; exact plan12_any a2 len2 cap2 ns wx h HNb.out (by omega)
  have HCb : RowKit.Hid (∀ k, 0 ≤ C k ∧ C k ≤ 26) := fun k => by rw [hC]; exact cutF_bd ns len2 k
  have HSb : RowKit.Hid (∀ k, 0 ≤ S k ∧ S k ≤ 26) := fun k => by rw [hS]; have := stepQ_bd ns len2 k; omega
  have HMay : RowKit.Hid (mayQ (tabF 21 C) (tabF 21 S) = true) := by show _ = _; rw [hC, hS]; exact plan_may ns len2
  have HFb := Lib.hid (fillQ_bd hzb len (fun j => (tabF 21 C).getD j 0) false)
  have HLine : RowKit.Hid (∀ k I : Nat, k < 21 → edgeK k ≤ I → I < edgeK (k + 1) → _) := fun k I hk h0 h1 => near_line (zs := zs) (len := len) (C := C) (S := S) (seed := seed) hk h0 h1 (HCb.out k).1 (HCb.out k).2 (HSb.out k).1
  have HCt : RowKit.Hid (∀ j, j < 21 → 0 ≤ (tabF 21 C).getD j 0 ∧ (tabF 21 C).getD j 0 ≤ 26) := fun j hj => by rw [tabF_getD C hj]; exact HCb.out j
  obtain ⟨F, hF⟩ : ∃ F, F = fillQ zs len (fun j => (tabF 21 C).getD j 0) false := ⟨_, rfl⟩
  rw [← hF] at HFb HLine
  obtain ⟨H, hH⟩ : ∃ H, H = outF (fun j => (tabF 21 C).getD j 0) (fun j => (tabF 21 S).getD j 0) (lineQ F (fun j => (tabF 21 C).getD j 0) (fun j => (tabF 21 S).getD j 0)) seed := ⟨_, rfl⟩
  rw [← hH] at HLine
  have HFill : RowKit.Hid (∀ wx c, IntsAt wx wx.heap.size .i32 a len zs → IFun wx c 3 .i64 21 C → Calls Try.prog 9 #[.slice a len cap, .slice (some ⟨c, 0, none⟩) 21 21, .bool false] wx (FillPost F wx)) := fun wx c h1 h2 => by rw [hF]; exact fill12_any a len cap zs c 0 21 (tabF 21 C) false wx h1 HZb.out hl (h2.ints (by decide)) HCt.out
  have HHeard : RowKit.Hid (∀ wx c s l, IFun wx c 3 .i64 21 C → IFun wx s 3 .i64 21 S → IFun wx l 21 .i32 512 F → Calls Try.prog 16 #[.slice (some ⟨l, 0, none⟩) 512 512, .slice (some ⟨c, 0, none⟩) 21 21, .slice (some ⟨s, 0, none⟩) 21 21, .int .u32 seed] wx (HeardPost H wx)) := fun wx c s l h1 h2 h3 => by
    rw [hH]; exact qHeard_any l 0 512 F _ _ 21 21 (tabF 21 C) (tabF 21 S) seed wx h3.lt (fun i hi => by rw [Nat.zero_add]; exact h3.cell hi) (fun i _ => HFb.out i) (h1.ints (by decide)) (h2.ints (by decide)) HMay.out sd0 sd1
  clear hC hS hF hH hz hzb hn hnb
  go_enter Try.func5, Try.ntmps5
  go_wp2_with (first
    | (go_at_call 7; go_loud (refine (lives12_any _).mono ?_); rintro e wh ⟨rfl, hb⟩; have HB1 := Lib.hid (chain HB.out hb); clear hb HB)
    | (go_at_call 8; go_loud (refine (HPl.out _ (HN.out.now HB1.out (Nat.le_refl _))).mono ?_); rintro e w2 ⟨cb, sb, rfl, hi, hj, h1, h2, hne, hb⟩; have HB2 := Lib.hid (chain HB1.out hb); have HC2 := Lib.hid hi; have HS2 := Lib.hid hj; clear hi hj h1 h2 hne hb)
    | (go_at_call 9; go_loud (refine (HFill.out _ _ (HZ.out.now HB2.out (Nat.le_refl _)) HC2.out).mono ?_); rintro e w3 ⟨lb, gb, rfl, hi, _, _, _, hb⟩; have HB3 := Lib.hid (chain HB2.out hb); have HC3 := Lib.hid (HC2.out.below hb HC2.out.lt); have HS3 := Lib.hid (HS2.out.below hb HS2.out.lt); have HL3 := Lib.hid hi; clear hi hb)
    | (go_at_call 16; go_loud (refine (HHeard.out _ _ _ _ HC3.out HS3.out HL3.out).mono ?_); rintro e w4 ⟨hr, rfl, hi, _, hb⟩; have HB4 := Lib.hid (chain HB3.out hb); have HC4 := Lib.hid (HC3.out.below hb HC3.out.lt); have HS4 := Lib.hid (HS3.out.below hb HS3.out.lt); have HL4 := Lib.hid (HL3.out.below hb HL3.out.lt); have HH4 := Lib.hid hi; clear hi hb)
    | (go_at_call 22; go_loud (refine (ref04Edges_own _).mono ?_); rintro e1 w5 ⟨er, ec, rfl, he0, he1, hed, hb⟩; have HB5 := Lib.hid (chain HB4.out hb); have HC5 := Lib.hid (HC4.out.below hb HC4.out.lt); have HS5 := Lib.hid (HS4.out.below hb HS4.out.lt); have HL5 := Lib.hid (HL4.out.below hb HL4.out.lt); have HH5 := Lib.hid (HH4.out.below hb HH4.out.lt); have HE5 := Lib.hid hed; clear hed hb)
    | fail)
  clear HB1 HB2 HB3 HB4 HC2 HC3 HC4 HS2 HS3 HS4 HL3 HL4 HH4 HPl HFill HHeard he0 he1
  have H5 : RowKit.Hid (∀ q, IFun (w5.drewN q) cb 3 .i64 21 C ∧ IFun (w5.drewN q) sb 3 .i64 21 S ∧ IFun (w5.drewN q) lb 21 .i32 512 F ∧ IFun (w5.drewN q) hr 21 .i32 512 H ∧ ∀ k, k < 22 → (w5.drewN q).cell? ⟨er, k, none⟩ = some (.int .i64 (edgeK k : Int))) := fun q => ⟨HC5.out, HS5.out, HL5.out, HH5.out, HE5.out⟩
  clear HC5 HS5 HL5 HH5 HE5
  go_loopw [14, 61] (fun _ i wr => ∃ k q : Nat, k ≤ 21 ∧ i = .int .i64 (k : Int) ∧ wr = w5.drewN q) (fun _ i _ => 21 - (intOf i).toNat)
  case atStart => exact ⟨0, 0, by omega, rfl, rfl⟩
  case round =>
    obtain ⟨k, q, hk, rfl, hw⟩ := hrel
    have HW := Lib.hid hw
    clear hw
    by_cases hlt : k < 21
    · have HR : RowKit.Hid (∀ v, (∃ q, v = w5.drewN q) → v.cell? ⟨cb, k, none⟩ = some (.int .i64 (C k)) ∧ v.cell? ⟨sb, k, none⟩ = some (.int .i64 (S k)) ∧ v.cell? ⟨er, k, none⟩ = some (.int .i64 (edgeK k : Int)) ∧ v.cell? ⟨er, k + 1, none⟩ = some (.int .i64 (edgeK (k + 1) : Int)) ∧ (∀ I, I < 512 → v.cell? ⟨lb, I, none⟩ = some (.int .i32 (F I)) ∧ v.cell? ⟨hr, I, none⟩ = some (.int .i32 (H I)))) := fun v hv => by
        obtain ⟨q, rfl⟩ := hv
        obtain ⟨h1, h2, h3, h4, h5⟩ := H5.out q
        exact ⟨h1.cell hlt, h2.cell hlt, h5 k (by omega), h5 (k + 1) (by omega), fun I hI => ⟨h3.cell hI, h4.cell hI⟩⟩
      obtain ⟨c0, c1⟩ := HCb.out k
      obtain ⟨s0, s1⟩ := HSb.out k
      obtain ⟨ed1, ed2⟩ := edgeK_lt k hlt
      have HLk : RowKit.Hid (∀ I : Nat, edgeK k ≤ I → I < edgeK (k + 1) → (S k < C k → -(P2 (S k).toNat) ≤ H I - F I ∧ H I - F I ≤ P2 (S k).toNat) ∧ (C k ≤ S k → noiseP seed I (C k) = H I ∧ -(P2 ((C k).toNat + 1)) ≤ H I - F I ∧ H I - F I ≤ P2 ((C k).toNat + 1))) := fun I h0 h1 => HLine.out k I hlt h0 h1
      generalize C k = c at c0 c1 HR HLk
      generalize S k = s at s0 s1 HR HLk
      obtain ⟨cn, rfl⟩ : ∃ cn : Nat, c = cn := ⟨c.toNat, by omega⟩
      obtain ⟨sn, rfl⟩ : ∃ sn : Nat, s = sn := ⟨s.toNat, by omega⟩
      simp only [Int.toNat_natCast] at HLk
      have hcn : cn ≤ 26 := by omega
      have hsn : sn ≤ 26 := by omega
      obtain ⟨B, hB⟩ : ∃ B, B = edgeK (k + 1) := ⟨_, rfl⟩
      rw [← hB] at ed1 ed2 HR HLk
      clear hB
      generalize edgeK k = A at ed1 HR HLk
      obtain ⟨nn, hnn⟩ : ∃ nn, nn = B - A := ⟨_, rfl⟩
      have HAB : RowKit.Hid (B = A + nn ∧ B ≤ 512) := by show _ ∧ _; omega
      have pc0 := P2_pos (cn + 1)
      have pc1 := P2_mono (a := cn + 1) (b := 27) (by omega)
      have ps0 := P2_pos sn
      have ps1 := P2_mono (a := sn) (b := 26) (by omega)
      rw [show P2 27 = 134217728 by decide] at pc1
      rw [show P2 26 = 67108864 by decide] at ps1
      have hpc : 2 * (2 : Int) ^ cn = P2 (cn + 1) := by rw [P2_succ]; unfold P2; omega
      have hps : (2 : Int) ^ sn = P2 sn := rfl
      have l0 : (k : Int) < 21 := by omega
      have uk : IntKind.i64.wrap ((k : Int) + 1) = (k : Int) + 1 := IntWalk.i64_in _ (by omega)
      have d1 := (HR.out wr ⟨q, HW.out⟩).1
      have d2 := (HR.out wr ⟨q, HW.out⟩).2.1
      have d3 := (HR.out wr ⟨q, HW.out⟩).2.2.1
      have d4 := (HR.out wr ⟨q, HW.out⟩).2.2.2.1
      clear hnn ed2
      generalize P2 (cn + 1) = pc at pc0 pc1 hpc HLk
      generalize P2 sn = ps at ps0 ps1 hps HLk
      have u1 : IntKind.i64.wrap (2 * 2 ^ cn) = pc := by rw [hpc]; exact IntWalk.i64_in _ (by omega)
      have u2 : IntKind.i64.wrap (2 ^ sn) = ps := by rw [hps]; exact IntWalk.i64_in _ (by omega)
      clear hpc hps
      go_wp2
      by_cases htd : (sn : Int) < (cn : Int)
      · have htn : ¬ (cn : Int) ≤ (sn : Int) := by omega
        have htn2 : ¬ cn ≤ sn := by omega
        have htn3 : decide (cn ≤ sn) = false := decide_eq_false htn2
        have htn4 : decide ((cn : Int) ≤ (sn : Int)) = false := decide_eq_false htn
        have htn5 : ((cn : Int) ≤ (sn : Int)) = False := eq_false htn
        go_quiet (fail)
        have HWa0 : RowKit.Hid (wr.drewN nq = w5.drewN (q + nq)) := by show _ = _; rw [HW.out, drewE_add]
        clear d1 d2 d3 d4
        generalize wr.drewN nq = wa at HWa0 ⊢
        have HWa : RowKit.Hid (∃ q, wa = w5.drewN q) := ⟨_, HWa0.out⟩
        have d1 := (HR.out wa HWa.out).1
        have d2 := (HR.out wa HWa.out).2.1
        have d3 := (HR.out wa HWa.out).2.2.1
        have d4 := (HR.out wa HWa.out).2.2.2.1
        clear HWa0
        go_wp2
        clear d1 d2 d3 d4
        go_loopw [16] (fun i wx => ∃ m : Nat, m ≤ nn ∧ i = .int .i64 ((A + m : Nat) : Int) ∧ RowKit.Hid (∃ q, wx = w5.drewN q)) (fun i _ => A + nn - (intOf i).toNat)
        case atStart => exact ⟨0, by omega, rfl, HWa.out⟩
        case round =>
          obtain ⟨m, hm, rfl, HV⟩ := hrel
          clear HWa
          obtain ⟨d1, d2, d3, d4, dI⟩ := HR.out wr HV.out
          obtain ⟨I, hI⟩ : ∃ I, I = A + m := ⟨_, rfl⟩
          rw [← hI]
          have hAB := HAB.out
          by_cases hmn : m < nn
          · have l1 : (I : Int) < (B : Int) := by omega
            have i1 : I < 512 := by omega
            obtain ⟨e1, e2⟩ := dI I i1
            have HI1 : RowKit.Hid (I + 1 = A + (m + 1)) := by show _ = _; omega
            have HIE : RowKit.Hid (I < A + nn) := by show _ < _; omega
            obtain ⟨x0, x1⟩ := HFb.out I
            have hnear := HLk.out I (by omega) (by omega)
            have HFI : RowKit.Hid (∀ v, (∃ q, v = w5.drewN q) → v.cell? ⟨hr, I, none⟩ = some (.int .i32 (H I))) := fun v hv => ((HR.out v hv).2.2.2.2 I i1).2
            clear hI hAB dI
            generalize H I = y at e2 HFI hnear
            generalize F I = x at e1 x0 x1 hnear
            obtain ⟨n0, n1⟩ := hnear.1 htd
            have HNZ : RowKit.Hid (y = y) := rfl
            clear hnear
            have v1 : IntKind.i64.wrap y = y := IntWalk.i64_in _ (by omega)
            have v2 : IntKind.i64.wrap x = x := IntWalk.i64_in _ (by omega)
            have v3 : IntKind.i64.wrap (y - x) = y - x := IntWalk.i64_in _ (by omega)
            have v4 : IntKind.i64.wrap (-ps) = -ps := IntWalk.i64_in _ (by omega)
            have v5 : decide (ps < y - x) = false := decide_eq_false (by omega)
            have v6 : decide (y - x < -ps) = false := decide_eq_false (by omega)
            have v7 : ¬ ps < y - x := by omega
            have v8 : ¬ y - x < -ps := by omega
            go_wp2
            go_quiet (fail)
            have HVb : RowKit.Hid (∃ q, wr.drewN nq = w5.drewN q) := by
              obtain ⟨q, e⟩ := HV.out
              exact ⟨q + nq, by rw [e, drewE_add]⟩
            clear d1 d2 d3 d4 e1 e2
            generalize wr.drewN nq = wb at HVb ⊢
            have d1 := (HR.out wb HVb.out).1
            have d2 := (HR.out wb HVb.out).2.1
            have e2 := HFI.out wb HVb.out
            go_wp2
            go_quiet (fail)
            have HVc : RowKit.Hid (∃ q, wb.drewN nq = w5.drewN q) := by
              obtain ⟨q, e⟩ := HVb.out
              exact ⟨q + nq, by rw [e, drewE_add]⟩
            clear d1 d2 e2
            generalize wb.drewN nq = wc at HVc ⊢
            go_wp2
            go_roundw
            case rel => exact ⟨m + 1, by omega, by rw [← HI1.out]; go_num, HVc.out⟩
            case measure => have := HIE.out; simp [intOf] <;> omega
          · obtain rfl : m = nn := by omega
            have l1 : ¬ (I : Int) < (B : Int) := by omega
            have l2 : B ≤ I := by omega
            obtain ⟨qq, hqq⟩ := HV.out
            have HQQ := Lib.hid hqq
            clear hI hAB hmn hm hqq
            go_wp2
            go_roundw
            case rel => exact ⟨k + 1, qq, by omega, by go_num, HQQ.out⟩
            case measure => simp [intOf] <;> omega
      · have htn2 : ¬ sn < cn := by omega
        have htn3 : decide (sn < cn) = false := decide_eq_false htn2
        have htn4 : decide ((sn : Int) < (cn : Int)) = false := decide_eq_false htd
        have htn5 : ((sn : Int) < (cn : Int)) = False := eq_false htd
        replace htd : (cn : Int) ≤ (sn : Int) := by omega
        go_quiet (fail)
        have HWa0 : RowKit.Hid (wr.drewN nq = w5.drewN (q + nq)) := by show _ = _; rw [HW.out, drewE_add]
        clear d1 d2 d3 d4
        generalize wr.drewN nq = wa at HWa0 ⊢
        have HWa : RowKit.Hid (∃ q, wa = w5.drewN q) := ⟨_, HWa0.out⟩
        have d1 := (HR.out wa HWa.out).1
        have d2 := (HR.out wa HWa.out).2.1
        have d3 := (HR.out wa HWa.out).2.2.1
        have d4 := (HR.out wa HWa.out).2.2.2.1
        clear HWa0
        go_wp2
        clear d1 d2 d3 d4
        go_loopw [16] (fun i wx => ∃ m : Nat, m ≤ nn ∧ i = .int .i64 ((A + m : Nat) : Int) ∧ RowKit.Hid (∃ q, wx = w5.drewN q)) (fun i _ => A + nn - (intOf i).toNat)
        case atStart => exact ⟨0, by omega, rfl, HWa.out⟩
        case round =>
          obtain ⟨m, hm, rfl, HV⟩ := hrel
          clear HWa
          obtain ⟨d1, d2, d3, d4, dI⟩ := HR.out wr HV.out
          obtain ⟨I, hI⟩ : ∃ I, I = A + m := ⟨_, rfl⟩
          rw [← hI]
          have hAB := HAB.out
          by_cases hmn : m < nn
          · have l1 : (I : Int) < (B : Int) := by omega
            have i1 : I < 512 := by omega
            obtain ⟨e1, e2⟩ := dI I i1
            have HI1 : RowKit.Hid (I + 1 = A + (m + 1)) := by show _ = _; omega
            have HIE : RowKit.Hid (I < A + nn) := by show _ < _; omega
            obtain ⟨x0, x1⟩ := HFb.out I
            have hnear := HLk.out I (by omega) (by omega)
            have HFI : RowKit.Hid (∀ v, (∃ q, v = w5.drewN q) → v.cell? ⟨hr, I, none⟩ = some (.int .i32 (H I))) := fun v hv => ((HR.out v hv).2.2.2.2 I i1).2
            clear hI hAB dI
            generalize H I = y at e2 HFI hnear
            generalize F I = x at e1 x0 x1 hnear
            obtain ⟨nz, n0, n1⟩ := hnear.2 htd
            have HNZ : RowKit.Hid (∀ wx, Calls Try.prog 23 #[.int .u32 seed, .int .i64 (I : Int), .int .i64 (cn : Int)] wx fun e w' => e = .returned (.int .i32 y) ∧ w' = wx) := fun wx => (qNoise_any seed I cn wx sd0 sd1 (by omega) (by omega)).mono fun _ _ h => ⟨by rw [← nz]; exact h.1, h.2.symm⟩
            clear nz
            clear hnear
            have v1 : IntKind.i64.wrap y = y := IntWalk.i64_in _ (by omega)
            have v2 : IntKind.i64.wrap x = x := IntWalk.i64_in _ (by omega)
            have v3 : IntKind.i64.wrap (y - x) = y - x := IntWalk.i64_in _ (by omega)
            have v4 : IntKind.i64.wrap (-pc) = -pc := IntWalk.i64_in _ (by omega)
            have v5 : decide (pc < y - x) = false := decide_eq_false (by omega)
            have v6 : decide (y - x < -pc) = false := decide_eq_false (by omega)
            have v7 : ¬ pc < y - x := by omega
            have v8 : ¬ y - x < -pc := by omega
            go_wp2
            go_quiet (fail)
            have HVb : RowKit.Hid (∃ q, wr.drewN nq = w5.drewN q) := by
              obtain ⟨q, e⟩ := HV.out
              exact ⟨q + nq, by rw [e, drewE_add]⟩
            clear d1 d2 d3 d4 e1 e2
            generalize wr.drewN nq = wb at HVb ⊢
            have d1 := (HR.out wb HVb.out).1
            have d2 := (HR.out wb HVb.out).2.1
            have e2 := HFI.out wb HVb.out
            go_wp2
            go_quiet ((go_at_call 23; exact Calls.quiet_of_same (HNZ.out _)))
            have HVc : RowKit.Hid (∃ q, wb.drewN nq = w5.drewN q) := by
              obtain ⟨q, e⟩ := HVb.out
              exact ⟨q + nq, by rw [e, drewE_add]⟩
            clear d1 d2 e2
            generalize wb.drewN nq = wc at HVc ⊢
            go_wp2
            go_roundw
            case rel => exact ⟨m + 1, by omega, by rw [← HI1.out]; go_num, HVc.out⟩
            case measure => have := HIE.out; simp [intOf] <;> omega
          · obtain rfl : m = nn := by omega
            have l1 : ¬ (I : Int) < (B : Int) := by omega
            have l2 : B ≤ I := by omega
            obtain ⟨qq, hqq⟩ := HV.out
            have HQQ := Lib.hid hqq
            clear hI hAB hmn hm hqq
            go_wp2
            go_roundw
            case rel => exact ⟨k + 1, qq, by omega, by go_num, HQQ.out⟩
            case measure => simp [intOf] <;> omega
    · obtain rfl : k = 21 := by omega
      have HW2 : RowKit.Hid (wr = w5.drewN q) := HW.out
      have HBn : RowKit.Hid (Below w.heap.size w wr) := by rw [HW.out]; exact Below.drewN' HB5.out q
      clear HW HW2
      have HNo : RowKit.Hid (∀ wx, Calls Try.prog 23 #[.int .u32 seed, .int .i64 3, .int .i64 20] wx fun e w' => e = .returned (.int .i32 (noiseP seed 3 20)) ∧ wx = w') := fun wx => qNoise_any seed 3 20 wx sd0 sd1 (by decide) (by decide)
      rcases noise_20 seed with h20 | h20
      all_goals
        rw [h20] at HNo
        clear h20
        go_wp2_with (go_at_call 23; refine (HNo.out _).mono ?_; rintro e w6 ⟨rfl, rfl⟩)
        go_ret
        exact ⟨rfl, HBn.out⟩
end Go.Proofs.Ytdmafololcpamaa

/- The walk of QuantArgs. -/
namespace Go.Proofs.Ytdmafololcpamaa
open Go.RowKit
set_option linter.unusedVariables false

/-! ### Where no bytes come -/
theorem byteF_nil (j : Nat) : byteF [] j = 0 := by simp [byteF]
theorem zero_sym {D : DecS} {L : List Int} (hG : GoodD D) (hL : GoodL L) (hc : D.c = 0) : decWhich D L = 0 ∧ (decSym [] D L).c = 0 := by
  have hp := okP_sym hL (s := 0) hL.1
  have h1 := hL.2.2.1 0 hL.1
  have ha : decAt D L.sum = 0 := by
    unfold decAt
    rw [hc, Int.zero_ediv, if_neg (by have := hp.1; omega)]
  have hw : decWhich D L = 0 := by
    unfold decWhich
    rw [ha]
    exact findP_eq hL.2.2.1 hL.1 (by rw [sumN_zero]; omega) (by rw [sumN_succ L 0 hL.1, sumN_zero]; omega)
  refine ⟨hw, ?_⟩
  unfold decSym
  rw [hw, sumN_zero]
  rw [sumN_zero] at hp
  obtain ⟨b1, b2, b3, b4⟩ := decPre_bd hG hp (by rw [Int.mul_zero]; omega)
  have e : (decPre D 0 (L.getD 0 0) L.sum).c = 0 := by
    unfold decPre at b1 ⊢
    simp only at b1 ⊢
    rw [Int.mul_zero, hc, if_neg (by omega)]
    rfl
  unfold decTake scaleD
  rw [e]
  split
  · exact e
  · split
    · simp only [byteF_nil]; rfl
    · simp only [byteF_nil]; rfl
theorem isDig_none : IsDig [] := fun j hj => by simp at hj
theorem zero_got (T : Nat → Bool) : ∀ n, (getL T [] (decNew (byteF [])) n).1.c = 0 := by
  have hb : ∀ j, 0 ≤ byteF [] j ∧ byteF [] j ≤ 255 := fun j => by rw [byteF_nil]; decide
  intro n
  induction n with
  | zero => rw [getL_zero]; show valB (byteF []) 4 = 0; simp [valB, byteF]
  | succ n ih =>
    obtain ⟨p1, p2, p3, p4⟩ := getL_good (T := T) hb (goodD_new isDig_none) n
    cases h : T n with
    | true =>
      rw [getL_told _ _ h]
      obtain ⟨z1, z2⟩ := zero_sym p1 p2 ih
      show (getX [] _ _).2.c = 0
      rw [getX_none [] z1]
      exact z2
    | false => rw [getL_not _ _ h]; exact ih
theorem zero_ok (c s : Nat → Int) (i : Nat) : okG c s [] (decNew (byteF [])) i = true := by
  have hb : ∀ j, 0 ≤ byteF [] j ∧ byteF [] j ≤ 255 := fun j => by rw [byteF_nil]; decide
  obtain ⟨p1, p2, p3, p4⟩ := getL_good (T := toldT c s) hb (goodD_new isDig_none) i
  have h := (zero_sym p1 p2 (zero_got (toldT c s) i)).1
  unfold okG getK
  rw [h]
  simp

/-! ### Codes -/
def codeQ (R : Bool) : Int := if R then 0 else 1
theorem qPut_code (g : Nat) (lb lcap : Nat) (a a2 : Option Addr) (len cap len2 cap2 : Nat) (cs ss : List Int) (R : Bool) (w : World) (hE : EncAt w g g (.slice none 0 0) encNew) (hl : IFun w lb 21 .i32 512 (fun _ => 0)) (h : IntsAt w w.heap.size .i64 a len cs) (h2 : IntsAt w w.heap.size .i64 a2 len2 ss) (hm : len ≤ 60) (hm2 : len2 ≤ 60) (hR : mayQ cs ss = R) :
    Calls Try.prog 12 #[.pointer (some ⟨g, 0, none⟩), .slice (some ⟨lb, 0, none⟩) 512 512, .slice a len cap, .slice a2 len2 cap2] w fun e w' => e = .returned (.int .i64 (codeQ R)) ∧ Keeps (fun j => j = g) w w' := by
  cases R with
  | true =>
    obtain ⟨r1, r2, _⟩ := mayQ_true hR
    obtain rfl : len = 21 := by rw [← h.1]; exact rightB_len21 r1
    obtain rfl : len2 = 21 := by rw [← h2.1]; exact rightB_len21 r2
    have hne : lb ≠ g := (hE.ne_cel (m := lb) hl (by decide) (by decide)).1
    refine (qPut_any g g (.slice none 0 0) encNew lb 0 512 (fun _ => 0) a a2 cap cap2 cs ss w hE goodE_new (by decide) hl.lt (fun i hi => by rw [Nat.zero_add]; exact hl.cell hi) (fun _ _ => by decide) (by decide) (by decide) ⟨hne, by simp [Value.ownBlock]⟩ h h2 hR).mono ?_
    rintro e w' ⟨rfl, v', _, hk, _⟩
    exact ⟨rfl, hk.mono fun j hj => hj.elim id fun c => by simp [Value.ownBlock] at c⟩
  | false =>
    refine (qPut_no g _ a a2 512 len cap len2 cap2 cs ss w h (by omega) h2 (by omega) hR).mono ?_
    rintro e w' ⟨rfl, rfl⟩
    exact ⟨rfl, Keeps.refl _ _⟩
theorem qGet_code (base g : Nat) (v : Value) (a a2 : Option Addr) (len cap len2 cap2 : Nat) (cs ss : List Int) (R : Bool) (w : World) (hD : DrcAt w base g v [] (decNew (byteF []))) (h : IntsAt w w.heap.size .i64 a len cs) (h2 : IntsAt w w.heap.size .i64 a2 len2 ss) (hm : len ≤ 60) (hm2 : len2 ≤ 60) (hR : mayQ cs ss = R) :
    Calls Try.prog 17 #[.pointer (some ⟨g, 0, none⟩), .slice a len cap, .slice a2 len2 cap2, .int .u32 1] w fun e w' => ∃ y, e = .returned (.tuple #[y, .int .i64 (codeQ R)]) ∧ Keeps (fun j => j = g) w w' := by
  cases R with
  | true =>
    obtain ⟨r1, r2, _⟩ := mayQ_true hR
    obtain rfl : len = 21 := by rw [← h.1]; exact rightB_len21 r1
    obtain rfl : len2 = 21 := by rw [← h2.1]; exact rightB_len21 r2
    refine (qGet_any base g v [] _ a a2 cap cap2 cs ss 1 w hD (goodD_new isDig_none) (byteF_bd isDig_none) (by decide) (by decide) h h2 hR (by decide) (by decide)).mono ?_
    rintro e w' ⟨hk, ⟨_, r, rfl, _⟩ | ⟨⟨i, _, ho⟩, _⟩⟩
    · exact ⟨_, rfl, hk⟩
    · rw [zero_ok] at ho; cases ho
  | false =>
    refine (qGet_no g a a2 len cap len2 cap2 cs ss 1 w h (by omega) h2 (by omega) hR).mono ?_
    rintro e w' ⟨rfl, hb⟩
    exact ⟨_, rfl, .of_below hb⟩
theorem qHeard_code (lb : Nat) (a a2 : Option Addr) (len cap len2 cap2 : Nat) (cs ss : List Int) (R : Bool) (w : World) (hl : IFun w lb 21 .i32 512 (fun _ => 0)) (h : IntsAt w w.heap.size .i64 a len cs) (h2 : IntsAt w w.heap.size .i64 a2 len2 ss) (hm : len ≤ 60) (hm2 : len2 ≤ 60) (hR : mayQ cs ss = R) :
    Calls Try.prog 16 #[.slice (some ⟨lb, 0, none⟩) 512 512, .slice a len cap, .slice a2 len2 cap2, .int .u32 1] w fun e w' => ∃ y, e = .returned (.tuple #[y, .int .i64 (codeQ R)]) ∧ Below w.heap.size w w' := by
  cases R with
  | true =>
    obtain ⟨r1, r2, _⟩ := mayQ_true hR
    obtain rfl : len = 21 := by rw [← h.1]; exact rightB_len21 r1
    obtain rfl : len2 = 21 := by rw [← h2.1]; exact rightB_len21 r2
    refine (qHeard_any lb 0 512 (fun _ => 0) a a2 cap cap2 cs ss 1 w hl.lt (fun i hi => by rw [Nat.zero_add]; exact hl.cell hi) (fun _ _ => by decide) h h2 hR (by decide) (by decide)).mono ?_
    rintro e w' ⟨r, rfl, _, _, hb⟩
    exact ⟨_, rfl, hb⟩
  | false =>
    refine (qHeard_no _ a a2 512 len cap len2 cap2 cs ss 1 w h (by omega) h2 (by omega) hR).mono ?_
    rintro e w' ⟨rfl, hb⟩
    exact ⟨_, rfl, hb⟩
set_option maxRecDepth 100000 in
theorem quantArgs_many (a a2 : Option Addr) (len cap len2 cap2 : Nat) (line : Int) (w : World) (hm : len ≤ 9223372036854775807) (hm2 : len2 ≤ 9223372036854775807) (h : 60 < len ∨ 60 < len2) :
    Calls Try.prog 6 #[.slice a len cap, .slice a2 len2 cap2, .int .i64 line] w fun e w' => e = .returned (.bool true) ∧ Below w.heap.size w w' := by
  have HB := Lib.hid (Below.refl w.heap.size w)
  by_cases hl : 60 < len
  · have hd : decide ((60 : Int) < (len : Int)) = true := by simp; omega
    clear h
    go_enter Try.func6, Try.ntmps6
    go_wp2_with (go_at_call 7; go_loud (refine (lives12_any _).mono ?_); rintro e w1 ⟨rfl, hb⟩; replace HB := Lib.hid (chain HB.out hb); clear hb)
    go_ret
    exact ⟨rfl, HB.out⟩
  · have hd : decide ((60 : Int) < (len : Int)) = false := by simp; omega
    have hd2 : decide ((60 : Int) < (len2 : Int)) = true := by simp; omega
    clear h
    go_enter Try.func6, Try.ntmps6
    go_wp2_with (go_at_call 7; go_loud (refine (lives12_any _).mono ?_); rintro e w1 ⟨rfl, hb⟩; replace HB := Lib.hid (chain HB.out hb); clear hb)
    go_ret
    exact ⟨rfl, HB.out⟩
end Go.Proofs.Ytdmafololcpamaa
