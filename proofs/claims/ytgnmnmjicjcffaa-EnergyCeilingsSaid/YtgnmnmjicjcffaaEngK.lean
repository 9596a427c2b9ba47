/- The walk of EnergyCeilings. -/
import Derived.Test.YtgnmnmjicjcffaaEngJ
import Derived.Test.YtgnmnmjicjcffaaEngC
import Derived.Test.YtgnmnmjicjcffaaRncI
namespace Go.Proofs.Ytgnmnmjicjcffaa
open Go.RowKit
set_option linter.unusedVariables false

theorem energyCeilings_many (a a2 : Option Addr) (len cap len2 cap2 : Nat) (w : World) (hm : len ≤ 9223372036854775807) (hm2 : len2 ≤ 9223372036854775807) (h : 1500 < len ∨ 60 < len2) :
    Calls Try.prog 3 #[.slice a len cap, .slice a2 len2 cap2] w fun e w' => e = .returned (.bool true) ∧ Below w.heap.size w w' := by
  have HB := Lib.hid (Below.refl w.heap.size w)
  by_cases hl : 1500 < len
  · have hd : decide ((1500 : Int) < (len : Int)) = true := by simp; omega
    clear h
    go_enter Try.func3, Try.ntmps3
    go_wp2_with (go_at_call 7; go_loud (refine (lives10_any _).mono ?_); rintro e w1 ⟨rfl, hb⟩; replace HB := Lib.hid (chain HB.out hb); clear hb)
    go_ret
    exact ⟨rfl, HB.out⟩
  · have hd : decide ((1500 : Int) < (len : Int)) = false := by simp; omega
    have hd2 : decide ((60 : Int) < (len2 : Int)) = true := by simp; omega
    clear h
    go_enter Try.func3, Try.ntmps3
    go_wp2_with (go_at_call 7; go_loud (refine (lives10_any _).mono ?_); rintro e w1 ⟨rfl, hb⟩; replace HB := Lib.hid (chain HB.out hb); clear hb)
    go_ret
    exact ⟨rfl, HB.out⟩
/-- The lines that the law makes. -/
def linE (zs : List Int) (len i : Nat) : Int := if len = 0 then 0 else zs.getD (i % len) 0 / 2 ^ (i / len % 7)
theorem linE_bd {zs : List Int} (h : ∀ j, -2147483648 ≤ zs.getD j 0 ∧ zs.getD j 0 ≤ 2147483647) (len i : Nat) : -2147483648 ≤ linE zs len i ∧ linE zs len i ≤ 2147483647 := by
  unfold linE; split
  · decide
  · obtain ⟨h0, h1⟩ := h (i % len)
    have hp : (1 : Int) ≤ 2 ^ (i / len % 7) := Int.le_of_lt_add_one (by have := Int.pow_pos (n := 2) (m := i / len % 7) (by decide); omega)
    generalize (2 : Int) ^ (i / len % 7) = p at hp
    constructor
    · rw [Int.le_ediv_iff_mul_le (by omega)]
      have := Int.mul_le_mul_of_nonneg_left hp (show (0 : Int) ≤ 2147483648 by decide)
      omega
    · have := Int.ediv_le_self (a := zs.getD (i % len) 0) p
      by_cases hz : 0 ≤ zs.getD (i % len) 0
      · have := this hz; omega
      · have : zs.getD (i % len) 0 / p < 0 := Int.ediv_neg_of_neg_of_pos (by omega) (by omega)
        omega
theorem engCeil_either (a : Option Addr) (len cap : Nat) (zs : List Int) (w : World) (hz : IntsAt w w.heap.size .i32 a len zs) (hzb : ∀ j, -2147483648 ≤ zs.getD j 0 ∧ zs.getD j 0 ≤ 2147483647) (hc : len ≤ cap) (hc' : cap ≤ 9223372036854775807) :
    Calls Try.prog 8 #[.slice a len cap] w fun e w' => ∃ v, e = .returned (.tuple #[v, .int .i64 (if len = 512 then 0 else 1)]) ∧ Below w.heap.size w w' := by
  by_cases h : len = 512
  · subst h
    obtain ⟨b, off, rfl, hb, _, _⟩ := hz.at_ (j := 0) (by decide)
    refine (engCeil_any b off cap (fun j => zs.getD j 0) w hb (fun i hi => ints_cell hz hi) (fun i _ => hzb i) hc hc').mono ?_
    rintro e w' ⟨g, rfl, _, _, hb⟩
    exact ⟨_, rfl, hb⟩
  · refine (engCeil_out a len cap w (by omega) h).mono ?_
    rintro e w' ⟨rfl, rfl⟩
    exact ⟨_, by rw [if_neg h], Below.refl _ _⟩

theorem sizeE_alloc (w : World) (o : Obj) : (w.alloc o).heap.size = w.heap.size + 1 := Array.size_push _
theorem infoE_i64 : (Try.prog.info? 2).map (fun i => (i.zero, i.size, i.bytes)) = some (some (.int .i64 0), 1, 8) := by kernel_rfl
set_option maxHeartbeats 1000000 in
set_option maxRecDepth 100000 in
theorem energyCeilings_law (a a2 : Option Addr) (len cap len2 cap2 : Nat) (zs ns : List Int) (w : World) (hz : IntsAt w w.heap.size .i32 a len zs) (hzb : ∀ j, -2147483648 ≤ zs.getD j 0 ∧ zs.getD j 0 ≤ 2147483647)
    (hn : IntsAt w w.heap.size .i64 a2 len2 ns) (hl : len ≤ 1500) (hl2 : len2 ≤ 60) (hc : len ≤ cap) (hc' : cap ≤ 9223372036854775807) :
    Calls Try.prog 3 #[.slice a len cap, .slice a2 len2 cap2] w fun e w' => e = .returned (.bool true) ∧ Below w.heap.size w w' := by
  have HB := Lib.hid (Below.refl w.heap.size w)
  have HZ := Lib.hid hz
  have HZb := Lib.hid hzb
  have HN := Lib.hid hn
  have HLb := Lib.hid (linE_bd hzb len)
  have hd : decide ((1500 : Int) < (len : Int)) = false := by simp; omega
  have hd2 : decide ((60 : Int) < (len2 : Int)) = false := by simp; omega
  have hmk5 : ∀ w : World, (Instr.makeSlice 22 (.int .i64 512) (.int .i64 512)).run Try.prog w = .ok (.slice (some ⟨w.heap.size, 0, none⟩) 512 512) (w.alloc (.cells (madeCells #[.int .i32 0] 512) 21)) :=
    fun w => make_zeros (P := Try.prog) Try.underlying22 infoE_i32 512 (by decide) (by decide) w
  have hmk6 : ∀ w : World, (Instr.makeSlice 25 (.int .i64 512) (.int .i64 512)).run Try.prog w = .ok (.slice (some ⟨w.heap.size, 0, none⟩) 512 512) (w.alloc (.cells (madeCells #[.int .i64 0] 512) 2)) :=
    fun w => make_zeros (P := Try.prog) Try.underlying25 infoE_i64 512 (by decide) (by decide) w
  have HZ5 := Lib.hid (fun w => IFun.zeros w 21 .i32 512)
  have HZ6 := Lib.hid (fun w => IFun.zeros w 2 .i64 512)
  clear hz hzb hn
  generalize madeCells #[Value.int .i32 0] 512 = m5 at HZ5 hmk5
  generalize madeCells #[Value.int .i64 0] 512 = m6 at HZ6 hmk6
  go_enter Try.func3, Try.ntmps3
  go_wp2_with (go_at_call 7; go_loud (refine (lives10_any _).mono ?_); rintro e wh ⟨rfl, hb⟩; replace HB := Lib.hid (chain HB.out hb); clear hb)
  go_region
  all_goals (first
    | (obtain ⟨w5, hw5⟩ : ∃ w5, w5 = ((wh.alloc (.cells m5 21)).alloc (.cells m6 2)).drew := ⟨_, rfl⟩; rw [← hw5]; obtain ⟨ab, hb2⟩ : ∃ b2, b2 = wh.heap.size + 1 := ⟨_, rfl⟩; rw [← hb2]; obtain ⟨lb, hb1⟩ : ∃ b1, b1 = wh.heap.size := ⟨_, rfl⟩; rw [← hb1]
       have H5 : RowKit.Hid (Below w.heap.size w w5 ∧ IFun w5 lb 21 .i32 512 (fun _ => 0) ∧ IFun w5 ab 2 .i64 512 (fun _ => 0) ∧ w.heap.size ≤ lb ∧ w.heap.size ≤ ab) := (by have hs := HB.out.size; have h2 := Below.drewN' (chain HB.out (chain (Below.alloc_new wh (.cells m5 21)) (Below.alloc_new _ (.cells m6 2)))) 1; have h3 := IFun.drewN ((HZ5.out wh).alloc (.cells m6 2)) 1; have h4 := IFun.drewN (HZ6.out (wh.alloc (.cells m5 21))) 1; rw [sizeE_alloc, ← hb2] at h4; rw [← hb1] at h3; rw [hw5]; exact ⟨h2, h3, h4, by omega, by omega⟩)
       clear hw5 hb2 hb1)
    | (obtain ⟨w5, hw5⟩ : ∃ w5, w5 = ((wh.alloc (.cells m6 2)).alloc (.cells m5 21)).drew := ⟨_, rfl⟩; rw [← hw5]; obtain ⟨lb, hb2⟩ : ∃ b2, b2 = wh.heap.size + 1 := ⟨_, rfl⟩; rw [← hb2]; obtain ⟨ab, hb1⟩ : ∃ b1, b1 = wh.heap.size := ⟨_, rfl⟩; rw [← hb1]
       have H5 : RowKit.Hid (Below w.heap.size w w5 ∧ IFun w5 lb 21 .i32 512 (fun _ => 0) ∧ IFun w5 ab 2 .i64 512 (fun _ => 0) ∧ w.heap.size ≤ lb ∧ w.heap.size ≤ ab) := (by have hs := HB.out.size; have h2 := Below.drewN' (chain HB.out (chain (Below.alloc_new wh (.cells m6 2)) (Below.alloc_new _ (.cells m5 21)))) 1; have h3 := IFun.drewN ((HZ6.out wh).alloc (.cells m5 21)) 1; have h4 := IFun.drewN (HZ5.out (wh.alloc (.cells m6 2))) 1; rw [sizeE_alloc, ← hb2] at h4; rw [← hb1] at h3; rw [hw5]; exact ⟨h2, h4, h3, by omega, by omega⟩)
       clear hw5 hb2 hb1))
  all_goals
    clear hmk5 hmk6 HZ5 HZ6 HB
    have H6 : RowKit.Hid (Below w.heap.size w w5 ∧ IFun w5 lb 21 .i32 512 (preF (linE zs len) 0) ∧ IFun w5 ab 2 .i64 512 (preF (linE zs len) 0)) := ⟨H5.out.1, IFun.ext H5.out.2.1 fun j _ => (preF_zero (linE zs len) j).symm, IFun.ext H5.out.2.2.1 fun j _ => (preF_zero (linE zs len) j).symm⟩
    have HNe : RowKit.Hid (w.heap.size ≤ lb ∧ w.heap.size ≤ ab ∧ lb ≠ ab) := ⟨H5.out.2.2.2.1, H5.out.2.2.2.2, cel_ne H5.out.2.1 H5.out.2.2.1 (by decide)⟩
    clear H5
    go_wp2
    go_loopw [7, 29] (fun _ i wx => ∃ k : Nat, k ≤ 512 ∧ i = .int .i64 (k : Int) ∧ RowKit.Hid (Below w.heap.size w wx ∧ IFun wx lb 21 .i32 512 (preF (linE zs len) k) ∧ IFun wx ab 2 .i64 512 (preF (linE zs len) k))) (fun _ i _ => 512 - (intOf i).toNat)
    case atStart => exact ⟨0, by omega, rfl, H6.out⟩
    case round =>
      obtain ⟨k, hk, rfl, HJ⟩ := hrel
      clear H6
      by_cases hlk : k < 512
      · have o1 := HJ.out.2.1.cell (j := k) hlk
        have o2 := HJ.out.2.2.cell (j := k) hlk
        have f1 := HJ.out.2.1.frozen k
        have f2 := HJ.out.2.2.frozen k
        obtain ⟨na, nb, nc⟩ := HNe.out
        obtain ⟨v0, v1⟩ := HLb.out k
        have l3 : (k : Int) < 512 := by omega
        have nd : ¬ ab = lb := fun e => nc e.symm
        have HPn := Lib.hid (preF_next (linE zs len) k)
        have HPz : RowKit.Hid (preF (linE zs len) k k = 0) := if_neg (by omega)
        rw [HPz.out] at o1 o2
        by_cases hl0 : len = 0
        · have hv0 : linE zs len k = 0 := by unfold linE; rw [if_pos hl0]
          have HS : RowKit.Hid (Below w.heap.size w (wr.setCell ⟨ab, k, none⟩ (.int .i64 0)) ∧ IFun (wr.setCell ⟨ab, k, none⟩ (.int .i64 0)) lb 21 .i32 512 (preF (linE zs len) (k + 1)) ∧ IFun (wr.setCell ⟨ab, k, none⟩ (.int .i64 0)) ab 2 .i64 512 (preF (linE zs len) (k + 1))) := by
            refine ⟨HJ.out.1.setCell nb _, IFun.ext (HJ.out.2.1.far nc _) fun i _ => ?_, IFun.ext (HJ.out.2.2.set (j := k) hlk 0) fun i _ => ?_⟩
            · rw [← HPn.out i]
              by_cases e : i = k
              · rw [if_pos e, e, HPz.out, hv0]
              · rw [if_neg e]
            · rw [← HPn.out i, hv0]
          have ll : ¬ 0 < (len : Int) := by omega
          clear HJ hl0 hv0 v0 v1
          go_wp2
          go_roundw
          case rel => exact ⟨k + 1, by omega, by go_num, HS.out⟩
          case measure => simp [intOf] <;> omega
        · obtain ⟨m, hm⟩ : ∃ m, m = k % len := ⟨_, rfl⟩
          obtain ⟨q, hq⟩ : ∃ q, q = k / len := ⟨_, rfl⟩
          obtain ⟨s, hs⟩ : ∃ s, s = q % 7 := ⟨_, rfl⟩
          have hml : m < len := by rw [hm]; exact Nat.mod_lt _ (by omega)
          have f3 : (k : Int).tmod (len : Int) = (m : Int) := by rw [Int.tmod_eq_emod_of_nonneg (by omega), hm]; simp
          have f4 : (k : Int).tdiv (len : Int) = (q : Int) := by rw [Int.tdiv_eq_ediv_of_nonneg (by omega), hq]; simp
          have f5 : (q : Int).tmod 7 = (s : Int) := by rw [Int.tmod_eq_emod_of_nonneg (by omega), hs]; simp
          have hqk : q ≤ 512 := by rw [hq]; exact Nat.le_trans (Nat.div_le_self k len) (by omega)
          have g1 : IntKind.i64.wrap (q : Int) = (q : Int) := IntWalk.i64_in _ (by omega)
          have hs7 : s < 7 := by rw [hs]; exact Nat.mod_lt _ (by decide)
          obtain ⟨yb, yo, rfl, ybl, _, hcl⟩ := HZ.out.at_ hml
          have k3 := (HJ.out.1.cell (p := ⟨yb, yo + m, none⟩) ybl).trans hcl
          obtain ⟨z0, z1⟩ := HZb.out m
          have hvE : zs.getD m 0 / 2 ^ s = linE zs len k := by unfold linE; rw [if_neg hl0, hm, hs, hq]
          have HS : RowKit.Hid (∀ i, Below w.heap.size w (((wr.drewN i).setCell ⟨lb, k, none⟩ (.int .i32 (linE zs len k))).setCell ⟨ab, k, none⟩ (.int .i64 (linE zs len k))) ∧ IFun (((wr.drewN i).setCell ⟨lb, k, none⟩ (.int .i32 (linE zs len k))).setCell ⟨ab, k, none⟩ (.int .i64 (linE zs len k))) lb 21 .i32 512 (preF (linE zs len) (k + 1)) ∧ IFun (((wr.drewN i).setCell ⟨lb, k, none⟩ (.int .i32 (linE zs len k))).setCell ⟨ab, k, none⟩ (.int .i64 (linE zs len k))) ab 2 .i64 512 (preF (linE zs len) (k + 1))) := fun i =>
            ⟨((Below.drewN' HJ.out.1 i).setCell na _).setCell nb _, IFun.ext (((HJ.out.2.1.drewN i).set (j := k) hlk (linE zs len k)).far nc _) fun i _ => HPn.out i, IFun.ext (((HJ.out.2.2.drewN i).far nd _).set (j := k) hlk (linE zs len k)) fun i _ => HPn.out i⟩
          clear HJ hm hq hs hcl
          generalize linE zs len k = v at v0 v1 hvE HS
          generalize zs.getD m 0 = y at k3 z0 z1 hvE
          have l4 : (m : Int) < (len : Int) := by omega
          have l5 : ¬ (len : Int) = 0 := by omega
          have l6 : 0 < (len : Int) := by omega
          go_wp2
          go_still_tail 16, (by kernel_rfl)
          repeat still_step
          change wpList _ _ _ _ _ wr.drew
          have HS1 : RowKit.Hid (Below w.heap.size w ((wr.drew.setCell ⟨lb, k, none⟩ (.int .i32 v)).setCell ⟨ab, k, none⟩ (.int .i64 v)) ∧ IFun ((wr.drew.setCell ⟨lb, k, none⟩ (.int .i32 v)).setCell ⟨ab, k, none⟩ (.int .i64 v)) lb 21 .i32 512 (preF (linE zs len) (k + 1)) ∧ IFun ((wr.drew.setCell ⟨lb, k, none⟩ (.int .i32 v)).setCell ⟨ab, k, none⟩ (.int .i64 v)) ab 2 .i64 512 (preF (linE zs len) (k + 1))) := HS.out 1
          have o3 : wr.drew.cell? ⟨lb, k, none⟩ = some (.int .i32 0) := o1
          have o4 : wr.drew.cell? ⟨ab, k, none⟩ = some (.int .i64 0) := o2
          have f3 : wr.drew.frozen? ⟨lb, k, none⟩ = false := f1
          have f4 : wr.drew.frozen? ⟨ab, k, none⟩ = false := f2
          clear HS o1 o2 f1 f2 k3
          generalize wr.drew = wq at HS1 o3 o4 f3 f4 ⊢
          have g2 : IntKind.i64.wrap v = v := IntWalk.i64_in _ (by omega)
          clear f5 g1
          go_wp2
          go_roundw
          case rel => exact ⟨k + 1, by omega, by go_num, HS1.out⟩
          case measure => simp [intOf] <;> omega
      · obtain rfl : k = 512 := by omega
        have HW : RowKit.Hid (Below w.heap.size w wr ∧ IFun wr lb 21 .i32 512 (linE zs len) ∧ IFun wr ab 2 .i64 512 (linE zs len)) := ⟨HJ.out.1, IFun.ext HJ.out.2.1 fun i hi => preF_end _ hi, IFun.ext HJ.out.2.2 fun i hi => preF_end _ hi⟩
        have HLi : RowKit.Hid (∀ i, i < 512 → -2147483648 ≤ linE zs len i ∧ linE zs len i ≤ 2147483647) := fun i _ => HLb.out i
        clear HJ
        obtain ⟨RN, hRN⟩ : ∃ RN, rightB ns = RN := ⟨_, rfl⟩
        obtain ⟨RC, hRC⟩ : ∃ RC, rightB (tabF 21 (ceilF (linE zs len))) = RC := ⟨_, rfl⟩
        have HRN := Lib.hid hRN
        have HRC := Lib.hid hRC
        clear hRN hRC
        obtain ⟨E, hE, hEq⟩ : ∃ E : Int, (if len = 512 then (0 : Int) else 1) = E ∧ ((E = 0 ∧ ((len : Int) == 512) = true) ∨ (E = 1 ∧ ((len : Int) == 512) = false)) := ⟨_, rfl, by
          by_cases h : len = 512
          · left; simp [h]
          · right; simp [h]; omega⟩
        have HE := Lib.hid hE
        clear hE
        rcases hEq with ⟨rfl, hq⟩ | ⟨rfl, hq⟩
        all_goals
          go_wp2_with (first
            | (go_at_call 8; have hs7 := HS7.out; go_loud (refine (engCeil_either a len cap zs w7 (HZ.out.now HS7.out.1 (Nat.le_refl _)) HZb.out hc hc').mono ?_); rintro e w8 ⟨c2, rfl, hb⟩; rw [HE.out]; have HS8 : RowKit.Hid (Below w.heap.size w w8 ∧ IFun w8 ab 2 .i64 512 (linE zs len) ∧ IFun w8 g 3 .i64 21 (ceilF (linE zs len))) := ⟨hs7.1.trans (hb.mono hs7.1.size), hs7.2.1.below hb hs7.2.1.lt, hs7.2.2.below hb hs7.2.2.lt⟩; clear hb hs7 HS7)
            | (go_at_call 8; have hw := HW.out; go_loud (refine (engCeil_any lb 0 512 (linE zs len) wr hw.2.1.lt (fun i hi => by rw [Nat.zero_add]; exact hw.2.1.cell hi) HLi.out (by decide) (by decide)).mono ?_); rintro e w7 ⟨g, rfl, hi, hg, hb⟩; have HS7 : RowKit.Hid (Below w.heap.size w w7 ∧ IFun w7 ab 2 .i64 512 (linE zs len) ∧ IFun w7 g 3 .i64 21 (ceilF (linE zs len))) := ⟨hw.1.trans (hb.mono hw.1.size), hw.2.2.below hb hw.2.2.lt, hi⟩; clear hi hg hb hw HW)
            | (go_at_call 10; have hs8 := HS8.out; go_loud (refine (ref10Ceil_any ab 0 512 (linE zs len) w8 hs8.2.1.lt (fun i hi => by rw [Nat.zero_add]; exact hs8.2.1.cell hi) HLi.out).mono ?_); rintro e w9 ⟨g2, rfl, hi, hg, hb⟩; have HS9 : RowKit.Hid (Below w.heap.size w w9 ∧ IntsAt w9 w9.heap.size .i64 (some ⟨g, 0, none⟩) 21 (tabF 21 (ceilF (linE zs len))) ∧ IntsAt w9 w9.heap.size .i64 (some ⟨g2, 0, none⟩) 21 (tabF 21 (ceilF (linE zs len)))) := ⟨hs8.1.trans (hb.mono hs8.1.size), (hs8.2.2.below hb hs8.2.2.lt).ints (by decide), hi.ints (by decide)⟩; clear hi hg hb hs8 HS8)
            | (go_at_call 9; have hs9 := HS9.out; go_loud (refine (equal_same _ _ 21 21 21 _ w9 hs9.2.1 hs9.2.2 (by decide)).mono ?_); rintro e w10 ⟨rfl, i10, hw10⟩; have HB10 : RowKit.Hid (Below w.heap.size w w10) := (by rw [hw10]; exact Below.drewN' hs9.1 i10); have HC10 : RowKit.Hid (IntsAt w10 w10.heap.size .i64 (some ⟨g, 0, none⟩) 21 (tabF 21 (ceilF (linE zs len)))) := (by rw [hw10]; exact hs9.2.1.drewN i10); have HN10 : RowKit.Hid (IntsAt w10 w10.heap.size .i64 a2 len2 ns) := HN.out.now HB10.out (Nat.le_refl _); clear hw10 hs9 HS9)
            | (go_at_call 11; go_loud (refine (engRight_any _ _ _ _ w10 (by first | (with_reducible exact HN10.out) | (with_reducible exact HC10.out)) (by omega)).mono ?_); rintro e w11 ⟨rfl, rfl⟩; first | rw [HRN.out] | rw [HRC.out])
            | (go_at_call 12; go_loud (refine (ref10Right_any _ _ _ _ w10 (by first | (with_reducible exact HN10.out) | (with_reducible exact HC10.out)) (by omega)).mono ?_); rintro e w11 ⟨rfl, rfl⟩; first | rw [HRN.out] | rw [HRC.out])
            | fail)
          go_ret
          exact ⟨ret_bool (by simp), HB10.out⟩
end Go.Proofs.Ytgnmnmjicjcffaa
