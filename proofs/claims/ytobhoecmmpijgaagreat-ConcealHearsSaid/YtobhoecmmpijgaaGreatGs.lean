/- Plain facts, and what functions give, for the proofs of this seat: several texts in one, each with its own first remark. -/
import Derived.Test.YtobhoecmmpijgaaGreatGr
import Derived.Test.YtobhoecmmpijgaaGreatGn
import Derived.Test.YtobhoecmmpijgaaGreatGp
import Derived.Test.YtobhoecmmpijgaaGreatGo
import Derived.Test.YtobhoecmmpijgaaGreatGm
import Derived.BigRegion

/- What the smaller functions of layer 10's laws give. -/
namespace Go.Proofs.YtobhoecmmpijgaaGreat
open Go.RowKit
set_option linter.unusedVariables false

theorem infoE_i32 : (Tryz.prog.info? 21).map (fun i => (i.zero, i.size, i.bytes)) = some (some (.int .i32 0), 1, 4) := by kernel_rfl
/-! ### One line of five -/
theorem IFun.ints {w : World} {g n : Nat} {t : TypeId} {k : IntKind} {f : Nat → Int} (h : IFun w g t k n f) (hn : n ≤ 9223372036854775807) : IntsAt w w.heap.size k (some ⟨g, 0, none⟩) n (tabF n f) :=
  ⟨tabF_len _ _, .inr ⟨g, 0, rfl, h.lt, hn, fun j hj => by rw [Nat.zero_add, h.cell hj, tabF_getD _ hj]⟩⟩
/-! ### Right ceilings of any numbers -/
/-! ### What the frames want -/
end Go.Proofs.YtobhoecmmpijgaaGreat

/- What the functions of package mask give. -/
namespace Go.Proofs.YtobhoecmmpijgaaGreat
open Go.RowKit
set_option linter.unusedVariables false

theorem mskFade_any (j b : Nat) (w : World) (hj : j < 21) (hb : b < 21) :
    Calls Tryz.prog 137 #[.int .i64 (j : Int), .int .i64 (b : Int)] w fun e w' => e = .returned (.int .i64 (fadeF j b)) ∧ w = w' := by
  by_cases h : j < b
  · have HE := Lib.hid (fadeF_below h)
    have l1 : (j : Int) < (b : Int) := by omega
    clear h
    go_enter Tryz.func137, Tryz.ntmps137
    go_wp2
    go_ret
    exact ⟨ret_int (by rw [HE.out]), rfl⟩
  · have HE := Lib.hid (fadeF_above h)
    have l1 : ¬ (j : Int) < (b : Int) := by omega
    clear h
    go_enter Tryz.func137, Tryz.ntmps137
    go_wp2
    go_ret
    exact ⟨ret_int (by rw [HE.out]), rfl⟩
theorem mskThr_any (a : Option Addr) (cap b : Nat) (zs : List Int) (w : World) (h : IntsAt w w.heap.size .i64 a 21 zs) (hr : rightB zs = true) (hb : b < 21) :
    Calls Tryz.prog 108 #[.slice a 21 cap, .int .i64 (b : Int)] w fun e w' => e = .returned (.int .i64 (thrTo (fun j => zs.getD j 0) b 21)) ∧ w = w' := by
  have H0 := Lib.hid h
  have HR := Lib.hid (rightB_true hr).2
  obtain ⟨T, hT⟩ : ∃ T, T = thrTo (fun j => zs.getD j 0) b := ⟨_, rfl⟩
  have HB : RowKit.Hid (∀ n, n ≤ 21 → 0 ≤ T n ∧ T n ≤ 26) := fun n hn => by rw [hT]; exact thrTo_bd hb n hn fun j hj => HR.out j (by omega)
  have HS : RowKit.Hid (∀ n, T (n + 1) = max (T n) (zs.getD n 0 - fadeF n b)) := fun n => by rw [hT]; rfl
  have HZ : RowKit.Hid (T 0 = 0) := by show _ = _; rw [hT]; rfl
  rw [← hT]
  clear h hr hT
  go_enter Tryz.func108, Tryz.ntmps108
  go_wp2
  go_loop [5, 10] (fun m i => ∃ k : Nat, k ≤ 21 ∧ i = .int .i64 (k : Int) ∧ m = .int .i64 (T k)) (fun _ i => 21 - (intOf i).toNat)
  case atStart => exact ⟨0, by omega, rfl, by rw [HZ.out]⟩
  case round =>
    obtain ⟨k, hk, rfl, rfl⟩ := hrel
    by_cases hlt : k < 21
    · obtain ⟨bb, off, rfl, _, _, hcell⟩ := H0.out.at_ hlt
      obtain ⟨x0, x1⟩ := HR.out k hlt
      obtain ⟨f0, f1⟩ := fadeF_bd hlt hb
      obtain ⟨t0, t1⟩ := HB.out k (by omega)
      have HN := Lib.hid (HS.out k)
      have HC := Lib.hid (mskFade_any k b w hlt hb)
      generalize zs.getD k 0 = x at hcell x0 x1 HN
      generalize fadeF k b = f at f0 f1 HN HC
      generalize T k = t at t0 t1 HN
      have l1 : (k : Int) < 21 := by omega
      go_wp2_with (go_at_call 137; refine HC.out.mono ?_; rintro e w' ⟨rfl, rfl⟩)
      all_goals
        go_round
        case rel => exact ⟨k + 1, by omega, by go_num, by rw [HN.out]; go_num⟩
        case measure => simp [intOf] <;> omega
    · obtain rfl : k = 21 := by omega
      go_wp2
      go_ret
      exact ⟨rfl, rfl⟩
end Go.Proofs.YtobhoecmmpijgaaGreat

/- What Steps of package mask gives. -/
namespace Go.Proofs.YtobhoecmmpijgaaGreat
open Go.RowKit
set_option linter.unusedVariables false

/-- What the making of steps leaves. -/
def StepsPost (l : Nat → Int) (q x : Int) (w : World) (e : Ending) (w' : World) : Prop :=
  ∃ g, e = .returned (.tuple #[.slice (some ⟨g, 0, none⟩) 21 21, .int .i64 0]) ∧ IFun w' g 3 .i64 21 (stepF l q x) ∧ w.heap.size ≤ g ∧ Below w.heap.size w w'
/-- Ceilings, a quality and a loss that may be. -/
def mayStep (zs : List Int) (q x : Int) : Prop := rightB zs = true ∧ 1 ≤ q ∧ q ≤ 10 ∧ 0 ≤ x ∧ x ≤ 31
set_option maxRecDepth 100000 in
theorem mskSteps_any (a : Option Addr) (cap : Nat) (zs : List Int) (q x : Int) (w : World) (h : IntsAt w w.heap.size .i64 a 21 zs) (hok : mayStep zs q x) :
    Calls Tryz.prog 76 #[.slice a 21 cap, .int .i64 q, .int .i64 x] w (StepsPost (fun j => zs.getD j 0) q x w) := by
  obtain ⟨hr, q0, q1, x0, x1⟩ := hok
  have H0 := Lib.hid h
  have HR := Lib.hid hr
  have HRb := Lib.hid (rightB_true hr).2
  obtain ⟨F, hF⟩ : ∃ F, F = stepF (fun j => zs.getD j 0) q x := ⟨_, rfl⟩
  have HF := Lib.hid hF
  have HE : RowKit.Hid (∀ k, F k = min (max (max (thrTo (fun j => zs.getD j 0) k 21 - q + x) (zs.getD k 0 - 12)) 0) (zs.getD k 0)) := fun k => by rw [hF]; rfl
  have hmk : ∀ w : World, (Instr.makeSlice 72 (.int .i64 21) (.int .i64 21)).run Tryz.prog w = .ok (.slice (some ⟨w.heap.size, 0, none⟩) 21 21) (w.alloc (.cells (madeCells #[.int .i64 0] 21) 3)) :=
    fun w => make_zeros (P := Tryz.prog) Tryz.underlying72 infoE_int 21 (by decide) (by decide) w
  have HI0 : RowKit.Hid (IFun (w.alloc (.cells (madeCells #[.int .i64 0] 21) 3)) w.heap.size 3 .i64 21 (preF F 0) ∧ Below w.heap.size w (w.alloc (.cells (madeCells #[.int .i64 0] 21) 3))) :=
    ⟨IFun.ext (IFun.zeros w 3 .i64 21) fun j _ => (preF_zero F j).symm, Below.alloc_new w _⟩
  clear h hr hF
  generalize madeCells #[Value.int .i64 0] 21 = mc at HI0 hmk
  go_enter Tryz.func76, Tryz.ntmps76
  go_wp2_with (go_at_call 107; refine (engRight_any _ _ _ _ _ H0.out (by decide)).mono ?_; rintro e w' ⟨rfl, rfl⟩; rw [HR.out])
  clear hmk
  generalize hg : w.heap.size = g at HI0 ⊢
  generalize (w.alloc (.cells mc 3)) = w1 at HI0 ⊢
  go_loopw [34] (fun i wr => ∃ k : Nat, k ≤ 21 ∧ i = .int .i64 (k : Int) ∧ RowKit.Hid (IFun wr g 3 .i64 21 (preF F k) ∧ Below g w wr)) (fun i _ => 21 - (intOf i).toNat)
  case atStart => exact ⟨0, by omega, rfl, HI0.out⟩
  case round =>
    obtain ⟨k, hk, rfl, HI⟩ := hrel
    clear HI0
    by_cases hlt : k < 21
    · have o1 := HI.out.1.cell (j := k) hlt
      have f1 := HI.out.1.frozen k
      have HW : RowKit.Hid (IntsAt wr wr.heap.size .i64 a 21 zs) := H0.out.now (hg ▸ HI.out.2) (Nat.le_refl _)
      have HS : RowKit.Hid (∀ v, v = F k → IFun (wr.setCell ⟨g, k, none⟩ (.int .i64 v)) g 3 .i64 21 (preF F (k + 1)) ∧ Below g w (wr.setCell ⟨g, k, none⟩ (.int .i64 v))) := fun v hv => by
        rw [hv]; exact ⟨IFun.ext (HI.out.1.set (j := k) hlt (F k)) fun j _ => preF_next _ k j, Below.setCell (p := ⟨g, k, none⟩) HI.out.2 (Nat.le_refl _) _⟩
      have HC := Lib.hid (mskThr_any a cap k zs wr HW.out HR.out hlt)
      obtain ⟨bb, off, rfl, _, _, hcell⟩ := HW.out.at_ hlt
      obtain ⟨n0, n1⟩ := HRb.out k hlt
      obtain ⟨t0, t1⟩ := thrTo_bd (l := fun j => zs.getD j 0) (b := k) hlt 21 (Nat.le_refl _) HRb.out
      have HV := Lib.hid (HE.out k)
      generalize preF F k k = old at o1
      generalize thrTo (fun j => zs.getD j 0) k 21 = t at t0 t1 HV HC
      generalize zs.getD k 0 = n at hcell n0 n1 HV
      have l1 : (k : Int) < 21 := by omega
      clear HI HW
      go_wp2_with (go_at_call 108; refine HC.out.mono ?_; rintro e w' ⟨rfl, rfl⟩)
      all_goals
        go_roundw
        case rel => exact ⟨k + 1, by omega, by go_num, HS.out _ (by rw [HV.out]; omega)⟩
        case measure => simp [intOf] <;> omega
    · obtain rfl : k = 21 := by omega
      have Z : RowKit.Hid (IFun wr g 3 .i64 21 (stepF (fun j => zs.getD j 0) q x) ∧ Below g w wr) := ⟨IFun.ext HI.out.1 fun i hi => by rw [preF_end _ hi, HF.out], HI.out.2⟩
      go_wp2
      go_ret2
      exact ⟨g, rfl, Z.out.1, by omega, by rw [hg]; exact Z.out.2⟩
end Go.Proofs.YtobhoecmmpijgaaGreat

/- What Told and Reach of package mask give. -/
namespace Go.Proofs.YtobhoecmmpijgaaGreat
open Go.RowKit
set_option linter.unusedVariables false

theorem mskTold_any (n s : Int) (w : World) :
    Calls Tryz.prog 155 #[.int .i64 n, .int .i64 s] w fun e w' => e = .returned (.bool (decide (s < n))) ∧ w = w' := by
  go_enter Tryz.func155, Tryz.ntmps155
  go_wp2
  go_ret
  exact ⟨rfl, rfl⟩
end Go.Proofs.YtobhoecmmpijgaaGreat

/- What the small functions of package quant give, and the document's own for numbers and noise. -/
namespace Go.Proofs.YtobhoecmmpijgaaGreat
open Go.RowKit
set_option linter.unusedVariables false



theorem part_new (w : World) (a b n s : Int) : Below w.heap.size w (w.alloc (.cells #[.int .i64 a, .int .i64 b, .int .i64 n, .int .i64 s] 202)) := Below.alloc_new w _
theorem qTold_any (a b n s : Int) (w : World) :
    Calls Tryz.prog 144 #[.agg #[.int .i64 a, .int .i64 b, .int .i64 n, .int .i64 s]] w fun e w' => e = .returned (.bool (decide (s < n))) ∧ Below w.heap.size w w' := by
  have HB := Lib.hid (part_new w a b n s)
  go_enter Tryz.func144, Tryz.ntmps144
  go_wp2_with (go_at_call 155; refine (mskTold_any _ _ _).mono ?_; rintro e1 w5 ⟨rfl, rfl⟩)
  go_ret
  exact ⟨rfl, HB.out⟩
theorem qWide_any (a b n s : Int) (k : Nat) (w : World) (hk : n - s = k) (h : k ≤ 1000) :
    Calls Tryz.prog 149 #[.agg #[.int .i64 a, .int .i64 b, .int .i64 n, .int .i64 s]] w fun e w' => e = .returned (.int .i64 (k : Int)) ∧ Below w.heap.size w w' := by
  have HB := Lib.hid (part_new w a b n s)
  have u1 : IntKind.i64.wrap (n - s) = (k : Int) := by rw [hk]; exact IntWalk.i64_in _ (by omega)
  clear hk
  go_enter Tryz.func149, Tryz.ntmps149
  go_wp2
  go_ret
  exact ⟨rfl, HB.out⟩
theorem qLine_any (a b n q y : Int) (s : Nat) (w : World) (hs : s ≤ 26) (hy : q * P2 s = y) (y0 : -2147483648 ≤ y) (y1 : y ≤ 2147483647) :
    Calls Tryz.prog 148 #[.agg #[.int .i64 a, .int .i64 b, .int .i64 n, .int .i64 (s : Int)], .int .i32 q] w fun e w' => e = .returned (.int .i32 y) ∧ Below w.heap.size w w' := by
  have HB := Lib.hid (part_new w a b n s)
  have u1 : IntKind.i32.wrap (q * 2 ^ s) = y := by rw [pow_P2, hy]; exact IntWalk.i32_in _ (by omega)
  clear hy
  go_enter Tryz.func148, Tryz.ntmps148
  go_wp2
  go_ret
  exact ⟨rfl, HB.out⟩
/-! ### Which ceilings and steps may be -/
def mayQ (zs ss : List Int) : Bool := rightB zs && rightB ss && (List.range 21).all fun j => decide (zs.getD j 0 - ss.getD j 0 ≤ 12)
theorem mayQ_true {zs ss : List Int} (h : mayQ zs ss = true) : rightB zs = true ∧ rightB ss = true ∧ ∀ j, j < 21 → zs.getD j 0 - ss.getD j 0 ≤ 12 := by
  unfold mayQ at h
  rw [Bool.and_eq_true, Bool.and_eq_true, List.all_eq_true] at h
  exact ⟨h.1.1, h.1.2, fun j hj => by simpa using h.2 j (List.mem_range.2 hj)⟩
theorem mayQ_of {zs ss : List Int} (h1 : rightB zs = true) (h2 : rightB ss = true) (h3 : ∀ j, j < 21 → zs.getD j 0 - ss.getD j 0 ≤ 12) : mayQ zs ss = true := by
  unfold mayQ
  rw [Bool.and_eq_true, Bool.and_eq_true, List.all_eq_true]
  exact ⟨⟨h1, h2⟩, fun j hj => by simpa using h3 j (List.mem_range.1 hj)⟩
theorem mayQ_no1 {zs ss : List Int} (h : rightB zs = false) : mayQ zs ss = false := by unfold mayQ; simp [h]
theorem mayQ_no2 {zs ss : List Int} (h : rightB ss = false) : mayQ zs ss = false := by unfold mayQ; simp [h]
theorem mayQ_at {zs ss : List Int} {j : Nat} (hj : j < 21) (h : 12 < zs.getD j 0 - ss.getD j 0) : mayQ zs ss = false := by
  cases hm : mayQ zs ss with
  | false => rfl
  | true => have := (mayQ_true hm).2.2 j hj; omega
set_option maxRecDepth 100000 in
theorem qMay_any (a a2 : Option Addr) (len cap len2 cap2 : Nat) (zs ss : List Int) (w : World) (h : IntsAt w w.heap.size .i64 a len zs) (hm : len ≤ 9223372036854775807) (h2 : IntsAt w w.heap.size .i64 a2 len2 ss) (hm2 : len2 ≤ 9223372036854775807) :
    Calls Tryz.prog 114 #[.slice a len cap, .slice a2 len2 cap2] w fun e w' => e = .returned (.bool (mayQ zs ss)) ∧ w = w' := by
  have H1 := Lib.hid h
  have H2 := Lib.hid h2
  have hl1 := h.1
  have hl2 := h2.1
  clear h h2
  cases hr1 : rightB zs with
  | false =>
    have HE := Lib.hid (mayQ_no1 (ss := ss) hr1)
    have HR1 := Lib.hid hr1
    rw [HE.out]
    clear hr1 HE
    go_enter Tryz.func114, Tryz.ntmps114
    go_wp2_with (go_at_call 107; go_loud (refine (engRight_any _ _ _ _ w (by first | (with_reducible exact H1.out) | (with_reducible exact H2.out)) (by omega)).mono ?_); rintro e1 w5 ⟨rfl, rfl⟩; first | rw [HR1.out] | rw [HR2.out])
    go_ret
    exact ⟨rfl, rfl⟩
  | true =>
    cases hr2 : rightB ss with
    | false =>
      have HE := Lib.hid (mayQ_no2 (zs := zs) hr2)
      have HR1 := Lib.hid hr1
      have HR2 := Lib.hid hr2
      rw [HE.out]
      clear hr1 hr2 HE
      go_enter Tryz.func114, Tryz.ntmps114
      go_wp2_with (go_at_call 107; go_loud (refine (engRight_any _ _ _ _ w (by first | (with_reducible exact H1.out) | (with_reducible exact H2.out)) (by omega)).mono ?_); rintro e1 w5 ⟨rfl, rfl⟩; first | rw [HR1.out] | rw [HR2.out])
      go_ret
      exact ⟨rfl, rfl⟩
    | true =>
      have HB1 := Lib.hid (rightB_true hr1).2
      have HB2 := Lib.hid (rightB_true hr2).2
      have e1 := (rightB_true hr1).1
      have e2 := (rightB_true hr2).1
      obtain rfl : len = 21 := by omega
      obtain rfl : len2 = 21 := by omega
      obtain ⟨R, hR⟩ : ∃ R, R = mayQ zs ss := ⟨_, rfl⟩
      have HNo : RowKit.Hid (∀ j, j < 21 → 12 < zs.getD j 0 - ss.getD j 0 → R = false) := fun j hj hx => by rw [hR]; exact mayQ_at hj hx
      have HYes : RowKit.Hid ((∀ j, j < 21 → zs.getD j 0 - ss.getD j 0 ≤ 12) → R = true) := fun hx => by rw [hR]; exact mayQ_of hr1 hr2 hx
      rw [← hR]
      have HR1 := Lib.hid hr1
      have HR2 := Lib.hid hr2
      clear hr1 hr2 hR hl1 hl2 e1 e2
      go_enter Tryz.func114, Tryz.ntmps114
      go_wp2_with (go_at_call 107; go_loud (refine (engRight_any _ _ _ _ w (by first | (with_reducible exact H1.out) | (with_reducible exact H2.out)) (by omega)).mono ?_); rintro e1 w5 ⟨rfl, rfl⟩; first | rw [HR1.out] | rw [HR2.out])
      go_loop [5, 6, 17] (fun _ _ i => ∃ k : Nat, k ≤ 21 ∧ i = .int .i64 (k : Int) ∧ RowKit.Hid (∀ j, j < k → zs.getD j 0 - ss.getD j 0 ≤ 12)) (fun _ _ i => 21 - (intOf i).toNat)
      case atStart => exact ⟨0, by omega, rfl, fun j hj => by omega⟩
      case round =>
        obtain ⟨k, hk, rfl, HP⟩ := hrel
        by_cases hlt : k < 21
        · obtain ⟨b, off, rfl, _, _, hcell⟩ := H1.out.at_ hlt
          obtain ⟨b2, off2, rfl, _, _, hcell2⟩ := H2.out.at_ hlt
          obtain ⟨x0, x1⟩ := HB1.out k hlt
          obtain ⟨y0, y1⟩ := HB2.out k hlt
          have HN := Lib.hid (HNo.out k hlt)
          have HY : RowKit.Hid (zs.getD k 0 - ss.getD k 0 ≤ 12 → ∀ j, j < k + 1 → zs.getD j 0 - ss.getD j 0 ≤ 12) := fun c j hj => by
            by_cases e : j = k
            · rw [e]; exact c
            · exact HP.out j (by omega)
          generalize zs.getD k 0 = x at hcell x0 x1 HN HY
          generalize ss.getD k 0 = y at hcell2 y0 y1 HN HY
          have u1 : IntKind.i64.wrap (x - y) = x - y := IntWalk.i64_in _ (by omega)
          by_cases c : 12 < x - y
          · have HF := Lib.hid (HN.out c)
            go_wp2
            go_ret
            exact ⟨ret_bool HF.out.symm, rfl⟩
          · have HT := Lib.hid (HY.out (by omega))
            go_wp2
            go_round
            case rel => exact ⟨k + 1, by omega, by go_num, HT.out⟩
            case measure => simp [intOf] <;> omega
        · obtain rfl : k = 21 := by omega
          have HF := Lib.hid (HYes.out HP.out)
          go_wp2
          go_ret
          exact ⟨ret_bool HF.out.symm, rfl⟩
theorem qSizes_any (w : World) :
    Calls Tryz.prog 142 #[] w fun e w' => ∃ g, e = .returned (.pointer (some ⟨g, 0, none⟩)) ∧ w.heap.size ≤ g ∧ ModAt w' g (List.replicate 13 1) false ∧ Below w.heap.size w w' := by
  obtain ⟨L, hL⟩ : ∃ L : List Int, L = List.replicate 13 1 := ⟨_, rfl⟩
  have HC : RowKit.Hid (Calls Tryz.prog 175 #[.int .i64 13] w fun e w' => ∃ g, e = .returned (.tuple #[.pointer (some ⟨g, 0, none⟩), .int .i64 0]) ∧ w.heap.size ≤ g ∧ ModAt w' g L false ∧ Below w.heap.size w w') := by rw [hL]; exact modNew_any 13 w (by decide) (by decide)
  rw [← hL]
  clear hL
  go_enter Tryz.func142, Tryz.ntmps142
  go_wp2_with (go_at_call 175; refine HC.out.mono ?_; rintro e1 w1 ⟨g, rfl, hg, hm, hb⟩; have HM := Lib.hid hm; have HB := Lib.hid hb; have HG := Lib.hid hg; clear hm hb hg)
  go_ret
  exact ⟨g, rfl, HG.out, HM.out, HB.out⟩

/-! ### Noise -/
set_option maxRecDepth 100000 in
theorem qNoise_any (seed line n : Int) (w : World) (s0 : 0 ≤ seed) (s1 : seed ≤ 4294967295) (n0 : -9223372036854775808 ≤ n) (n1 : n ≤ 9223372036854775807) :
    Calls Tryz.prog 147 #[.int .u32 seed, .int .i64 line, .int .i64 n] w fun e w' => e = .returned (.int .i32 (noiseP seed line n)) ∧ w = w' := by
  by_cases h1 : n < 3
  · have HE : RowKit.Hid (noiseP seed line n = 0) := by show _ = _; rw [noiseP_in _ _ (by omega)]; exact noiseR_none _ _ h1
    rw [HE.out]
    go_enter Tryz.func147, Tryz.ntmps147
    go_wp2
    go_ret
    exact ⟨rfl, rfl⟩
  · by_cases h2 : 26 < n
    · have HE : RowKit.Hid (noiseP seed line n = 0) := if_pos h2
      rw [HE.out]
      go_enter Tryz.func147, Tryz.ntmps147
      go_wp2
      go_ret
      exact ⟨rfl, rfl⟩
    · obtain ⟨k, hk⟩ : ∃ k : Nat, n - 2 = k := ⟨(n - 2).toNat, by omega⟩
      have hk24 : k ≤ 24 := by omega
      have p0 := P2_pos k
      have p1 := P2_mono (a := k) (b := 24) hk24
      rw [show P2 24 = 16777216 by decide] at p1
      obtain ⟨m0, m1⟩ := mixW_bd seed line
      have HE : RowKit.Hid (noiseP seed line n = if mixW seed line / 2147483648 = 1 then -(P2 k) else P2 k) := by show _ = _; rw [noiseP_in _ _ (by omega), noiseR_some _ _ (by omega)]; rw [show (n - 2).toNat = k by omega]
      have hmix : (seed * 2654435761 + line % 4294967296 * 40503 + 12345) % 4294967296 * 1664525 % 4294967296 = mixW seed line := rfl
      have hp : (2 : Int) ^ k = P2 k := rfl
      generalize mixW seed line = M at HE m0 m1 hmix
      generalize P2 k = p at HE p0 p1 hp
      have u1 : IntKind.i64.wrap (n - 2) = (k : Int) := by rw [hk]; exact IntWalk.i64_in _ (by omega)
      have u2 : IntKind.i32.wrap (2 ^ k) = p := by rw [hp]; exact IntWalk.i32_in _ (by omega)
      have u3 : IntKind.i32.wrap (-p) = -p := IntWalk.i32_in _ (by omega)
      generalize noiseP seed line n = y at HE ⊢
      clear hk hp
      go_enter Tryz.func147, Tryz.ntmps147
      go_wp2
      all_goals
        rename_i hc
        go_ret
        refine ⟨ret_int ?_, rfl⟩
        rw [HE.out]
        simp at hc
        first | rw [if_pos hc] | rw [if_neg hc]
set_option maxRecDepth 100000 in
theorem ref10Noise_any (seed line n : Int) (w : World) (s0 : 0 ≤ seed) (s1 : seed ≤ 4294967295) (n0 : -9223372036854775808 ≤ n) (n1 : n ≤ 40) :
    Calls Tryz.prog 97 #[.int .u32 seed, .int .i64 line, .int .i64 n] w fun e w' => e = .returned (.int .i64 (noiseR seed line n)) ∧ w = w' := by
  by_cases h1 : n < 3
  · have HE : RowKit.Hid (noiseR seed line n = 0) := noiseR_none _ _ h1
    rw [HE.out]
    go_enter Tryz.func97, Tryz.ntmps97
    go_wp2
    go_ret
    exact ⟨rfl, rfl⟩
  · obtain ⟨k, hk⟩ : ∃ k : Nat, n - 2 = k := ⟨(n - 2).toNat, by omega⟩
    have hk24 : k ≤ 38 := by omega
    have p0 := P2_pos k
    have p1 := P2_mono (a := k) (b := 38) hk24
    rw [show P2 38 = 274877906944 by decide] at p1
    obtain ⟨m0, m1⟩ := mixW_bd seed line
    have HE : RowKit.Hid (noiseR seed line n = if mixW seed line / 2147483648 = 1 then -(P2 k) else P2 k) := by show _ = _; rw [noiseR_some _ _ (by omega)]; rw [show (n - 2).toNat = k by omega]
    have hmix : (seed * 2654435761 + line % 4294967296 * 40503 + 12345) % 4294967296 * 1664525 % 4294967296 = mixW seed line := rfl
    have hp : (2 : Int) ^ k = P2 k := rfl
    generalize mixW seed line = M at HE m0 m1 hmix
    generalize P2 k = p at HE p0 p1 hp
    have u1 : IntKind.i64.wrap (n - 2) = (k : Int) := by rw [hk]; exact IntWalk.i64_in _ (by omega)
    have u2 : IntKind.i64.wrap (2 ^ k) = p := by rw [hp]; exact IntWalk.i64_in _ (by omega)
    have u3 : IntKind.i64.wrap (-p) = -p := IntWalk.i64_in _ (by omega)
    generalize noiseR seed line n = y at HE ⊢
    clear hk hp
    go_enter Tryz.func97, Tryz.ntmps97
    go_wp2
    all_goals
      rename_i hc
      go_ret
      refine ⟨ret_int ?_, rfl⟩
      rw [HE.out]
      simp at hc
      first | rw [if_pos hc] | rw [if_neg hc]

/-! ### The document's numbers -/
theorem ref10Power_any (k : Nat) (w : World) (h : k ≤ 60) :
    Calls Tryz.prog 61 #[.int .i64 (k : Int)] w fun e w' => e = .returned (.int .i64 (P2 k)) ∧ w = w' := by
  have p0 := P2_pos k
  have p1 := P2_mono (a := k) (b := 60) h
  rw [show P2 60 = 1152921504606846976 by decide] at p1
  have hp : (2 : Int) ^ k = P2 k := rfl
  generalize P2 k = p at p0 p1 hp
  have u2 : IntKind.i64.wrap (2 ^ k) = p := by rw [hp]; exact IntWalk.i64_in _ (by omega)
  clear hp
  go_enter Tryz.func61, Tryz.ntmps61
  go_wp2
  go_ret
  exact ⟨rfl, rfl⟩
set_option maxRecDepth 100000 in
theorem refNear_any (x s n r : Int) (w : World) (s0 : 0 ≤ s) (s1 : s ≤ 62) (h : s < n) (h2 : n - s ≤ 12) (hr : n - s = r) (x0 : -2147483648 ≤ x) (x1 : x ≤ 2147483647) :
    Calls Tryz.prog 60 #[.int .i64 x, .int .i64 s, .int .i64 r] w fun e w' => e = .returned (.int .i64 (numQ x s n)) ∧ w = w' := by
  obtain ⟨k, hk⟩ : ∃ k : Nat, n - s = k := ⟨(n - s).toNat, by omega⟩
  have hk12 : k ≤ 12 := by omega
  obtain rfl : r = (k : Int) := by omega
  have p0 := P2_pos k
  have p1 := P2_12 (k := k) (by omega)
  have hkn : (n - s).toNat = k := by omega
  obtain ⟨z, hz⟩ : ∃ z, z = rndP x s := ⟨_, rfl⟩
  have HE : RowKit.Hid (numQ x s n = max (-(P2 k - 1)) (min z (P2 k - 1))) := by show _ = _; unfold numQ; rw [hkn, hz]
  have HR := Lib.hid hz
  have hz64 := rndP_bd (n := x) (b := s) (by omega) (by omega)
  rw [← hz] at hz64
  have hp : (2 : Int) ^ k = P2 k := rfl
  generalize P2 k = m at HE p0 p1 hp
  have u1 : IntKind.i64.wrap (2 ^ k) = m := by rw [hp]; exact IntWalk.i64_in _ (by omega)
  have u3 : IntKind.i64.wrap (-(m - 1)) = -(m - 1) := IntWalk.i64_in _ (by omega)
  have u2 : IntKind.i64.wrap (m - 1) = m - 1 := IntWalk.i64_in _ (by omega)
  generalize numQ x s n = v at HE ⊢
  clear hz hkn hk hr hp
  go_enter Tryz.func60, Tryz.ntmps60
  go_wp2_with (go_at_call 88; refine (refRound_any x s w (by omega) (by omega)).mono ?_; rintro e1 w5 ⟨rfl, rfl⟩; rw [← HR.out])
  all_goals
    go_ret
    exact ⟨ret_int (by rw [HE.out]; omega), rfl⟩
end Go.Proofs.YtobhoecmmpijgaaGreat

/- What package quant's parts of a frame give. -/
namespace Go.Proofs.YtobhoecmmpijgaaGreat
open Go.RowKit
set_option linter.unusedVariables false

/-- The parts of a frame, number by number: four to a band. -/
def partF (c s : Nat → Int) (k : Nat) : Int := if k % 4 = 0 then (edgeK (k / 4) : Int) else if k % 4 = 1 then (edgeK (k / 4 + 1) : Int) else if k % 4 = 2 then c (k / 4) else s (k / 4)
theorem partF_0 (c s : Nat → Int) (b : Nat) : partF c s (b * 4) = (edgeK b : Int) := by unfold partF; rw [if_pos (by omega), show b * 4 / 4 = b by omega]
theorem partF_1 (c s : Nat → Int) (b : Nat) : partF c s (b * 4 + 1) = (edgeK (b + 1) : Int) := by unfold partF; rw [if_neg (by omega), if_pos (by omega), show (b * 4 + 1) / 4 = b by omega]
theorem partF_2 (c s : Nat → Int) (b : Nat) : partF c s (b * 4 + 2) = c b := by unfold partF; rw [if_neg (by omega), if_neg (by omega), if_pos (by omega), show (b * 4 + 2) / 4 = b by omega]
theorem partF_3 (c s : Nat → Int) (b : Nat) : partF c s (b * 4 + 3) = s b := by unfold partF; rw [if_neg (by omega), if_neg (by omega), if_neg (by omega), show (b * 4 + 3) / 4 = b by omega]
theorem infoQ_part : (Tryz.prog.info? 202).map (fun i => (i.zero, i.size, i.bytes)) = some (some (.agg #[.int .i64 0, .int .i64 0, .int .i64 0, .int .i64 0]), 4, 32) := by kernel_rfl
theorem made_four (z : Value) (n : Nat) : madeCells #[z, z, z, z] n = madeCells #[z] n := by
  apply Array.ext'
  rw [toList_madeCells_one]
  apply List.ext_getElem?
  intro j
  by_cases hj : j < n
  · rcases (show j % 4 = 0 ∨ j % 4 = 1 ∨ j % 4 = 2 ∨ j % 4 = 3 by omega) with h | h | h | h <;> simp [madeCells, hj, h]
  · simp [madeCells, hj]
theorem make_parts (w : World) : (Instr.makeSlice 236 (.int .i64 21) (.int .i64 21)).run Tryz.prog w = .ok (.slice (some ⟨w.heap.size, 0, none⟩) 21 21) (w.alloc (.cells (madeCells #[.int .i64 0] 84) 202)) := by
  obtain ⟨i, h1, h2, h3, h4⟩ := info_parts infoQ_part
  have hr := run_make (P := Tryz.prog) w 236 202 i _ Tryz.underlying236 h1 h2 .i64 .i64 21 21 (by omega) (Int.le_refl _) (by rw [h4]; decide) (by decide)
  rw [hr, h3]
  simp [Value.cells, made_four]
/-- Four cells set. -/
theorem parts_next {w : World} {g k : Nat} {F : Nat → Int} (h : IFun w g 202 .i64 84 (preF F (k * 4))) (hk : k < 21) :
    IFun ((((w.setCell ⟨g, k * 4, none⟩ (.int .i64 (F (k * 4)))).setCell ⟨g, k * 4 + 1, none⟩ (.int .i64 (F (k * 4 + 1)))).setCell ⟨g, k * 4 + 2, none⟩ (.int .i64 (F (k * 4 + 2)))).setCell ⟨g, k * 4 + 3, none⟩ (.int .i64 (F (k * 4 + 3)))) g 202 .i64 84 (preF F ((k + 1) * 4)) := by
  refine IFun.ext ((((h.set (j := k * 4) (by omega) _).set (j := k * 4 + 1) (by omega) _).set (j := k * 4 + 2) (by omega) _).set (j := k * 4 + 3) (by omega) _) fun i _ => ?_
  rw [show (k + 1) * 4 = k * 4 + 1 + 1 + 1 + 1 by omega, ← preF_next, ← preF_next, ← preF_next, ← preF_next]

set_option maxHeartbeats 400000 in
set_option maxRecDepth 100000 in
theorem qParts_any (a a2 : Option Addr) (cap cap2 : Nat) (zs ss : List Int) (w : World) (h : IntsAt w w.heap.size .i64 a 21 zs) (h2 : IntsAt w w.heap.size .i64 a2 21 ss) :
    Calls Tryz.prog 143 #[.slice a 21 cap, .slice a2 21 cap2] w fun e w' =>
      ∃ g, e = .returned (.slice (some ⟨g, 0, none⟩) 21 21) ∧ IFun w' g 202 .i64 84 (partF (fun j => zs.getD j 0) (fun j => ss.getD j 0)) ∧ w.heap.size ≤ g ∧ Below w.heap.size w w' := by
  have HI := Lib.hid h
  have HI2 := Lib.hid h2
  have hmk := make_parts
  obtain ⟨F, hF⟩ : ∃ F, F = partF (fun j => zs.getD j 0) (fun j => ss.getD j 0) := ⟨_, rfl⟩
  have HF : RowKit.Hid (∀ b, F (b * 4) = (edgeK b : Int) ∧ F (b * 4 + 1) = (edgeK (b + 1) : Int) ∧ F (b * 4 + 2) = zs.getD b 0 ∧ F (b * 4 + 3) = ss.getD b 0) := fun b => by rw [hF]; exact ⟨partF_0 _ _ _, partF_1 _ _ _, partF_2 _ _ _, partF_3 _ _ _⟩
  rw [← hF]
  have HZ : RowKit.Hid (∀ wx : World, IFun (wx.alloc (.cells (madeCells #[.int .i64 0] 84) 202)) wx.heap.size 202 .i64 84 (preF F (0 * 4))) := fun wx => IFun.ext (IFun.zeros wx 202 .i64 84) fun j _ => (preF_zero F j).symm
  generalize madeCells #[.int .i64 0] 84 = mc at HZ hmk
  clear h h2 hF
  go_enter Tryz.func143, Tryz.ntmps143
  go_wp2_with (go_at_call 105; go_loud (refine (bandsEdges_any w).mono ?_); rintro e w1 ⟨ea, ec, rfl, he, hb⟩; have HE := Lib.hid he; have HB := Lib.hid hb; clear he hb)
  clear hmk
  have H0 : RowKit.Hid (IFun (w1.alloc (.cells mc 202)) w1.heap.size 202 .i64 84 (preF F (0 * 4)) ∧ Below w.heap.size w (w1.alloc (.cells mc 202)) ∧ Below w1.heap.size w1 (w1.alloc (.cells mc 202))) := ⟨HZ.out w1, HB.out.alloc HB.out.size _, Below.alloc_new w1 _⟩
  generalize (w1.alloc (.cells mc 202)) = w2 at H0 ⊢
  have HS1 := Lib.hid HB.out.size
  clear HZ HB
  obtain ⟨g, hg⟩ : ∃ g, g = w1.heap.size := ⟨_, rfl⟩
  rw [← hg] at H0 HE HS1 ⊢
  clear hg
  go_loopw [7, 8, 13] (fun _ _ i wr => ∃ k : Nat, k ≤ 21 ∧ i = .int .i64 (k : Int) ∧ RowKit.Hid (IFun wr g 202 .i64 84 (preF F (k * 4)) ∧ Below w.heap.size w wr ∧ Below g w1 wr)) (fun _ _ i _ => 21 - (intOf i).toNat)
  case atStart => exact ⟨0, by omega, rfl, H0.out⟩
  case round =>
    obtain ⟨k, hk, rfl, H⟩ := hrel
    clear H0
    by_cases hlt : k < 21
    · obtain ⟨b, off, rfl, hbl, _, hcell⟩ := HI.out.at_ hlt
      obtain ⟨b2, off2, rfl, hbl2, _, hcell2⟩ := HI2.out.at_ hlt
      have k1 := (H.out.2.1.cell (p := ⟨b, off + k, none⟩) hbl).trans hcell
      have k2 := (H.out.2.1.cell (p := ⟨b2, off2 + k, none⟩) hbl2).trans hcell2
      have HEr := Lib.hid (HE.out.below H.out.2.2)
      obtain ⟨eb, eo, rfl, hebl, _, _⟩ := HEr.out.at_ (j := 0) (by decide)
      have e1 := edges_at HEr.out (k := k) (by omega)
      have e2 := edges_at HEr.out (k := k + 1) (by omega)
      obtain ⟨f0, f1, f2, f3⟩ := HF.out k
      have HS := Lib.hid (parts_next H.out.1 hlt)
      rw [f0, f1, f2, f3] at HS
      have o0 := H.out.1.cell (j := k * 4) (by omega)
      have o1 := H.out.1.cell (j := k * 4 + 1) (by omega)
      have o2 := H.out.1.cell (j := k * 4 + 2) (by omega)
      have o3 := H.out.1.cell (j := k * 4 + 3) (by omega)
      have z0 := H.out.1.frozen (k * 4)
      have z1 := H.out.1.frozen (k * 4 + 1)
      have z2 := H.out.1.frozen (k * 4 + 2)
      have z3 := H.out.1.frozen (k * 4 + 3)
      generalize preF F (k * 4) (k * 4) = y0 at o0
      generalize preF F (k * 4) (k * 4 + 1) = y1 at o1
      generalize preF F (k * 4) (k * 4 + 2) = y2 at o2
      generalize preF F (k * 4) (k * 4 + 3) = y3 at o3
      clear f0 f1 f2 f3 hcell hcell2
      generalize zs.getD k 0 = x at k1 HS
      generalize ss.getD k 0 = y at k2 HS
      obtain ⟨q1, q2⟩ := edgeK_lt k hlt
      generalize edgeK k = p at e1 HS q1
      generalize edgeK (k + 1) = q at e2 HS q1 q2
      have l1 : (k : Int) < 21 := by omega
      go_wp2
      go_region
      clear o0 o1 o2 o3 z0 z1 z2 z3 e1 e2 k1 k2
      have HT : RowKit.Hid (IFun ((((wr.setCell ⟨g, k * 4, none⟩ (.int .i64 (p : Int))).setCell ⟨g, k * 4 + 1, none⟩ (.int .i64 (q : Int))).setCell ⟨g, k * 4 + 2, none⟩ (.int .i64 x)).setCell ⟨g, k * 4 + 3, none⟩ (.int .i64 y)).drew g 202 .i64 84 (preF F ((k + 1) * 4)) ∧ Below w.heap.size w ((((wr.setCell ⟨g, k * 4, none⟩ (.int .i64 (p : Int))).setCell ⟨g, k * 4 + 1, none⟩ (.int .i64 (q : Int))).setCell ⟨g, k * 4 + 2, none⟩ (.int .i64 x)).setCell ⟨g, k * 4 + 3, none⟩ (.int .i64 y)).drew ∧ Below g w1 ((((wr.setCell ⟨g, k * 4, none⟩ (.int .i64 (p : Int))).setCell ⟨g, k * 4 + 1, none⟩ (.int .i64 (q : Int))).setCell ⟨g, k * 4 + 2, none⟩ (.int .i64 x)).setCell ⟨g, k * 4 + 3, none⟩ (.int .i64 y)).drew) :=
        ⟨HS.out.drewN 1, Below.drewN' ((((H.out.2.1.setCell (p := ⟨g, k * 4, none⟩) HS1.out _).setCell (p := ⟨g, k * 4 + 1, none⟩) HS1.out _).setCell (p := ⟨g, k * 4 + 2, none⟩) HS1.out _).setCell (p := ⟨g, k * 4 + 3, none⟩) HS1.out _) 1, Below.drewN' ((((H.out.2.2.setCell (p := ⟨g, k * 4, none⟩) (Nat.le_refl _) _).setCell (p := ⟨g, k * 4 + 1, none⟩) (Nat.le_refl _) _).setCell (p := ⟨g, k * 4 + 2, none⟩) (Nat.le_refl _) _).setCell (p := ⟨g, k * 4 + 3, none⟩) (Nat.le_refl _) _) 1⟩
      clear HS H
      go_wp2
      go_roundw
      case rel => exact ⟨k + 1, by omega, by go_num, HT.out⟩
      case measure => simp [intOf] <;> omega
    · obtain rfl : k = 21 := by omega
      go_wp2
      go_ret
      exact ⟨g, rfl, IFun.ext H.out.1 fun i hi => preF_end _ (by omega), HS1.out, H.out.2.1⟩
end Go.Proofs.YtobhoecmmpijgaaGreat
