/- What the law's own functions of layer 18 give: words, whether a reply may be, its text. -/
import Derived.Test.YtjhihjkhbmbigaaDoorRepC
import Derived.Test.YtjhihjkhbmbigaaDoorWrdE
import Derived.Test.YtjhihjkhbmbigaaDoorWrdI
namespace Go.Proofs.YtjhihjkhbmbigaaDoor
open Go.RowKit Go.PlainAid
set_option linter.unusedVariables false

set_option maxHeartbeats 2000000 in
theorem lawWords_any (c : Int) (w : World) : Calls Tryd.prog 14 #[.int .i64 c] w fun e w' => e = .returned (.string (ba (wordsF c))) ∧ w = w' := by
  obtain ⟨X, hX⟩ : ∃ X, ba (wordsF c) = X := ⟨_, rfl⟩
  have HX := Lib.hid hX
  rw [hX]
  clear hX
  go_enter Tryd.func14, Tryd.ntmps14
  go_wp2
  all_goals
    go_ret
    refine ⟨ret_strE ?_, rfl⟩
    rw [← HX.out]
    unfold wordsF
    simp_all
    try rfl
set_option maxHeartbeats 4000000 in
set_option maxRecDepth 100000 in
theorem lawRight_any (c ev : Int) (s : ByteArray) (w : World) (hs : s.size ≤ 1000) :
    Calls Tryd.prog 9 #[.agg #[.int .i64 c, .string s, .int .i64 ev]] w fun e w' => e = .returned (.bool (rightF ⟨c, s.data.toList, ev⟩)) ∧ Below w.heap.size w w' := by
  obtain ⟨X, hX⟩ : ∃ X, rightF ⟨c, s.data.toList, ev⟩ = X := ⟨_, rfl⟩
  have HX : RowKit.Hid (X = decide (wordsF c ≠ [] ∧ 0 ≤ ev ∧ ev ≤ 65536 ∧ titleF s.data.toList = s.data.toList ∧ (c = 200 ∨ (ev = 0 ∧ s.toList = [])))) := by
    show _ = _
    rw [← hX, Lib.toList_data]
    rfl
  rw [hX]
  clear hX
  obtain ⟨Wd, hWd⟩ : ∃ T, ba (wordsF c) = T := ⟨_, rfl⟩
  have HWd : RowKit.Hid (Wd.toList = [] ↔ wordsF c = []) := by
    show _ ↔ _
    rw [← hWd, Lib.toList_data, list_ba]
  obtain ⟨T, hT⟩ : ∃ T, ba (titleF s.data.toList) = T := ⟨_, rfl⟩
  have HT : RowKit.Hid (T.toList = s.toList ↔ titleF s.data.toList = s.data.toList) := by
    show _ ↔ _
    rw [← hT, Lib.toList_data, Lib.toList_data, list_ba]
  obtain ⟨g, hg⟩ : ∃ g, w.heap.size = g := ⟨_, rfl⟩
  obtain ⟨wb, hwb⟩ : ∃ wb, w.alloc (.cells #[.int .i64 c, .string s, .int .i64 ev] 23) = wb := ⟨_, rfl⟩
  have hcel : Cel wb g 23 #[.int .i64 c, .string s, .int .i64 ev] := by rw [← hwb, ← hg]; exact Cel.new w _ _
  have bb : Below w.heap.size w wb := by rw [← hwb]; exact Below.alloc_new _ _
  have x0 : wb.cell? ⟨g, 0, none⟩ = some (.int .i64 c) := hcel.cell 0
  have x1 : wb.cell? ⟨g, 1, none⟩ = some (.string s) := hcel.cell 1
  have x2 : wb.cell? ⟨g, 2, none⟩ = some (.int .i64 ev) := hcel.cell 2
  have k0 := cell_regrown x0
  have k1 := cell_regrown x1
  have k2 := cell_regrown x2
  have cW : ∀ d os, Calls Tryd.prog 14 #[.int .i64 c] (Go.Sort.grow (redrawn wb d) os) fun e w'' => e = .returned (.string Wd) ∧ ∃ p : Regrown, w'' = Go.Sort.grow (redrawn wb p.d) p.os := by
    intro d os
    rw [← hWd]
    refine (lawWords_any c _).mono ?_
    rintro e w' ⟨he, rfl⟩
    exact ⟨he, ⟨d, os⟩, rfl⟩
  have cT : ∀ d os, Calls Tryd.prog 18 #[.string s] (Go.Sort.grow (redrawn wb d) os) fun e w'' => e = .returned (.string T) ∧ ∃ p : Regrown, w'' = Go.Sort.grow (redrawn wb p.d) p.os := by
    intro d os
    rw [← hT]
    refine (refTitle_any s _ hs).mono ?_
    rintro e w' ⟨he, rfl⟩
    exact ⟨he, ⟨d, os⟩, rfl⟩
  have HB : RowKit.Hid (∀ d os, Below w.heap.size w (Go.Sort.grow (redrawn wb d) os)) := fun d os => bb.trans ((below_regrown wb d os).mono bb.size)
  clear hT hWd
  by_cases a1 : Wd.toList = []
  · have a1' : (Wd.toList == []) = true := by simpa using a1
    go_enter Tryd.func9, Tryd.ntmps9
    go_upto_region 1 with (fail)
    refine wp_region_quiet_below (by first | assumption | kernel_rfl) (by kernel_rfl) ?_
    repeat (quiet_step (first | exact cW _ _ | exact cT _ _))
    refine wpQuiet_nil ?_
    intro _ hw'
    obtain ⟨⟨dq, osq⟩, hw''⟩ := hw'
    subst hw''
    go_wp2
    go_ret
    refine ⟨ret_boolE ?_, by first | exact HB.out dq osq | (rw [← hg]; exact HB.out dq osq)⟩
    rw [HX.out]
    refine (decide_eq_false ?_).symm
    rintro ⟨q1, q2, q3, q4, q5⟩
    exact q1 (HWd.out.1 a1)
  have a1' : (Wd.toList == []) = false := by simpa using a1
  by_cases a2 : ev < 0
  · have a2' : ¬ 0 ≤ ev := by omega
    go_enter Tryd.func9, Tryd.ntmps9
    go_upto_region 1 with (fail)
    refine wp_region_quiet_below (by first | assumption | kernel_rfl) (by kernel_rfl) ?_
    repeat (quiet_step (first | exact cW _ _ | exact cT _ _))
    refine wpQuiet_nil ?_
    intro _ hw'
    obtain ⟨⟨dq, osq⟩, hw''⟩ := hw'
    subst hw''
    go_wp2
    go_ret
    refine ⟨ret_boolE ?_, by first | exact HB.out dq osq | (rw [← hg]; exact HB.out dq osq)⟩
    rw [HX.out]
    refine (decide_eq_false ?_).symm
    rintro ⟨q1, q2, q3, q4, q5⟩
    omega
  have a2' : 0 ≤ ev := by omega
  by_cases a3 : 65536 < ev
  · have a3' : ¬ ev ≤ 65536 := by omega
    go_enter Tryd.func9, Tryd.ntmps9
    go_upto_region 1 with (fail)
    refine wp_region_quiet_below (by first | assumption | kernel_rfl) (by kernel_rfl) ?_
    repeat (quiet_step (first | exact cW _ _ | exact cT _ _))
    refine wpQuiet_nil ?_
    intro _ hw'
    obtain ⟨⟨dq, osq⟩, hw''⟩ := hw'
    subst hw''
    go_wp2
    go_ret
    refine ⟨ret_boolE ?_, by first | exact HB.out dq osq | (rw [← hg]; exact HB.out dq osq)⟩
    rw [HX.out]
    refine (decide_eq_false ?_).symm
    rintro ⟨q1, q2, q3, q4, q5⟩
    omega
  have a3' : ev ≤ 65536 := by omega
  by_cases a4 : T.toList = s.toList
  · have a4' : (T.toList == s.toList) = true := by simpa using a4
    have a4'' : (T.toList != s.toList) = false := by simpa using a4
    by_cases a5 : c = 200
    · subst a5
      go_enter Tryd.func9, Tryd.ntmps9
      go_upto_region 1 with (fail)
      refine wp_region_quiet_below (by first | assumption | kernel_rfl) (by kernel_rfl) ?_
      repeat (quiet_step (first | exact cW _ _ | exact cT _ _))
      refine wpQuiet_nil ?_
      intro _ hw'
      obtain ⟨⟨dq, osq⟩, hw''⟩ := hw'
      subst hw''
      go_wp2
      go_ret
      refine ⟨ret_boolE ?_, by first | exact HB.out dq osq | (rw [← hg]; exact HB.out dq osq)⟩
      rw [HX.out]
      exact (decide_eq_true ⟨fun h => a1 (HWd.out.2 h), a2', a3', HT.out.1 a4, by first | exact .inl rfl | exact .inl trivial⟩).symm
    · have a5' : (c == 200) = false := by simpa using a5
      by_cases a6 : ev = 0
      · subst a6
        by_cases a7 : s.toList = []
        · go_enter Tryd.func9, Tryd.ntmps9
          go_upto_region 1 with (fail)
          refine wp_region_quiet_below (by first | assumption | kernel_rfl) (by kernel_rfl) ?_
          repeat (quiet_step (first | exact cW _ _ | exact cT _ _))
          refine wpQuiet_nil ?_
          intro _ hw'
          obtain ⟨⟨dq, osq⟩, hw''⟩ := hw'
          subst hw''
          go_wp2
          go_ret
          refine ⟨ret_boolE ?_, by first | exact HB.out dq osq | (rw [← hg]; exact HB.out dq osq)⟩
          rw [HX.out]
          exact (decide_eq_true ⟨fun h => a1 (HWd.out.2 h), a2', a3', HT.out.1 a4, by first | exact .inr ⟨rfl, a7⟩ | exact .inr ⟨trivial, a7⟩⟩).symm
        · have a7' : s.toList.isEmpty = false := by simpa using a7
          go_enter Tryd.func9, Tryd.ntmps9
          go_upto_region 1 with (fail)
          refine wp_region_quiet_below (by first | assumption | kernel_rfl) (by kernel_rfl) ?_
          repeat (quiet_step (first | exact cW _ _ | exact cT _ _))
          refine wpQuiet_nil ?_
          intro _ hw'
          obtain ⟨⟨dq, osq⟩, hw''⟩ := hw'
          subst hw''
          go_wp2
          go_ret
          refine ⟨ret_boolE ?_, by first | exact HB.out dq osq | (rw [← hg]; exact HB.out dq osq)⟩
          rw [HX.out]
          refine (decide_eq_false ?_).symm
          rintro ⟨q1, q2, q3, q4, q5⟩
          exact by rcases q5 with q | q; exact a5 q; exact a7 q.2
      · go_enter Tryd.func9, Tryd.ntmps9
        go_upto_region 1 with (fail)
        refine wp_region_quiet_below (by first | assumption | kernel_rfl) (by kernel_rfl) ?_
        repeat (quiet_step (first | exact cW _ _ | exact cT _ _))
        refine wpQuiet_nil ?_
        intro _ hw'
        obtain ⟨⟨dq, osq⟩, hw''⟩ := hw'
        subst hw''
        go_wp2
        go_ret
        refine ⟨ret_boolE ?_, by first | exact HB.out dq osq | (rw [← hg]; exact HB.out dq osq)⟩
        rw [HX.out]
        refine (decide_eq_false ?_).symm
        rintro ⟨q1, q2, q3, q4, q5⟩
        exact by rcases q5 with q | q; exact a5 q; exact a6 q.1
  · have a4' : (T.toList == s.toList) = false := by simpa using a4
    have a4'' : (T.toList != s.toList) = true := by simpa using a4
    go_enter Tryd.func9, Tryd.ntmps9
    go_upto_region 1 with (fail)
    refine wp_region_quiet_below (by first | assumption | kernel_rfl) (by kernel_rfl) ?_
    repeat (quiet_step (first | exact cW _ _ | exact cT _ _))
    refine wpQuiet_nil ?_
    intro _ hw'
    obtain ⟨⟨dq, osq⟩, hw''⟩ := hw'
    subst hw''
    go_wp2
    go_ret
    refine ⟨ret_boolE ?_, by first | exact HB.out dq osq | (rw [← hg]; exact HB.out dq osq)⟩
    rw [HX.out]
    refine (decide_eq_false ?_).symm
    rintro ⟨q1, q2, q3, q4, q5⟩
    exact a4 (HT.out.2 q4)
end Go.Proofs.YtjhihjkhbmbigaaDoor
