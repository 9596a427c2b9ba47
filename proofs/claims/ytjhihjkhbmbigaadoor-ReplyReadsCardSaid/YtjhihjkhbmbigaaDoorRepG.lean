/- What the law's own functions of layer 18 give: a reply's text, the number behind a name. -/
import Derived.Test.YtjhihjkhbmbigaaDoorRepF
import Derived.Test.YtjhihjkhbmbigaaDoorRepE
namespace Go.Proofs.YtjhihjkhbmbigaaDoor
open Go.RowKit Go.PlainAid
set_option linter.unusedVariables false
set_option linter.unusedSimpArgs false

theorem lit_app1 (c ev : Int) (nm : List UInt8) (h : c ≠ 200) :
    ((⟨#[72, 84, 84, 80, 47, 49, 46, 48, 32]⟩ : ByteArray) ++ (((ba (Lib.itoa c) ++ ⟨#[32]⟩) ++ ba (wordsF c)) ++ ⟨#[13, 10]⟩)) ++ ⟨#[67, 111, 110, 116, 101, 110, 116, 45, 76, 101, 110, 103, 116, 104, 58, 32, 48, 13, 10, 13, 10]⟩ = ba (textF ⟨c, nm, ev⟩) := by
  show (ba [72, 84, 84, 80, 47, 49, 46, 48, 32] ++ (((ba (Lib.itoa c) ++ ba [32]) ++ ba (wordsF c)) ++ ba [13, 10])) ++ ba [67, 111, 110, 116, 101, 110, 116, 45, 76, 101, 110, 103, 116, 104, 58, 32, 48, 13, 10, 13, 10] = _
  simp only [ba_append]
  unfold textF linesF
  rw [if_pos h]
  simp [flowF, saidF, http18, cont18, nl18]
theorem lit_app2 (c : Int) (s : ByteArray) (h : c = 200) :
    ((((⟨#[72, 84, 84, 80, 47, 49, 46, 48, 32]⟩ : ByteArray) ++ (((ba (Lib.itoa c) ++ ⟨#[32]⟩) ++ ba (wordsF c)) ++ ⟨#[13, 10]⟩)) ++ ⟨#[105, 99, 121, 45, 110, 97, 109, 101, 58]⟩) ++ s) ++ ⟨#[13, 10, 13, 10]⟩ = ba (textF ⟨c, s.data.toList, 0⟩) := by
  rw [show s = ba s.data.toList from (ba_list s).symm, list_ba]
  show (((ba [72, 84, 84, 80, 47, 49, 46, 48, 32] ++ (((ba (Lib.itoa c) ++ ba [32]) ++ ba (wordsF c)) ++ ba [13, 10])) ++ ba [105, 99, 121, 45, 110, 97, 109, 101, 58]) ++ ba s.data.toList) ++ ba [13, 10, 13, 10] = _
  simp only [ba_append]
  unfold textF linesF
  rw [if_neg (by simpa using h), if_pos rfl]
  simp [flowF, saidF, http18, name18, nl18]
theorem lit_app3 (c ev : Int) (s : ByteArray) (h : c = 200) (he : ¬ ev = 0) :
    ((((((⟨#[73, 67, 89, 32]⟩ : ByteArray) ++ (((ba (Lib.itoa c) ++ ⟨#[32]⟩) ++ ba (wordsF c)) ++ ⟨#[13, 10]⟩)) ++ ⟨#[105, 99, 121, 45, 110, 97, 109, 101, 58]⟩) ++ s) ++ ⟨#[13, 10, 105, 99, 121, 45, 109, 101, 116, 97, 105, 110, 116, 58]⟩) ++ ba (Lib.itoa ev)) ++ ⟨#[13, 10, 13, 10]⟩ = ba (textF ⟨c, s.data.toList, ev⟩) := by
  rw [show s = ba s.data.toList from (ba_list s).symm, list_ba]
  show (((((ba [73, 67, 89, 32] ++ (((ba (Lib.itoa c) ++ ba [32]) ++ ba (wordsF c)) ++ ba [13, 10])) ++ ba [105, 99, 121, 45, 110, 97, 109, 101, 58]) ++ ba s.data.toList) ++ ba [13, 10, 105, 99, 121, 45, 109, 101, 116, 97, 105, 110, 116, 58]) ++ ba (Lib.itoa ev)) ++ ba [13, 10, 13, 10] = _
  simp only [ba_append]
  unfold textF linesF
  rw [if_neg (by simpa using h), if_neg he]
  simp [flowF, saidF, icy18, name18, every18, nl18]
set_option maxHeartbeats 8000000 in
set_option maxRecDepth 100000 in
theorem lawText_any (c ev : Int) (s : ByteArray) (w : World) (hs : s.size ≤ 1000) (hc0 : -9223372036854775808 ≤ c) (hc1 : c ≤ 9223372036854775807) (he0 : -9223372036854775808 ≤ ev) (he1 : ev ≤ 9223372036854775807) (hT : PowT w) :
    Calls Tryd.prog 10 #[.agg #[.int .i64 c, .string s, .int .i64 ev]] w fun e w' => e = .returned (.string (ba (textF ⟨c, s.data.toList, ev⟩))) ∧ Below w.heap.size w w' := by
  have i1 : (ba (Lib.itoa c)).size ≤ 21 := by rw [ba_size]; exact Lib.itoa_length_le c hc0 hc1
  have i2 : (ba (Lib.itoa ev)).size ≤ 21 := by rw [ba_size]; exact Lib.itoa_length_le ev he0 he1
  have i3 : (ba (wordsF c)).size ≤ 15 := by rw [ba_size]; exact words_len c
  have q1 := lit_app1 c ev s.data.toList
  have q2 := lit_app2 c s
  have q3 := lit_app3 c ev s
  obtain ⟨X, hX⟩ : ∃ X, ba (textF ⟨c, s.data.toList, ev⟩) = X := ⟨_, rfl⟩
  rw [hX] at q1 q3 ⊢
  have q2' : c = 200 → ev = 0 → _ := fun h he => by
    have := q2 h
    rw [show ba (textF ⟨c, s.data.toList, 0⟩) = X by rw [← hX, he]] at this
    exact this
  have HQ := Lib.hid (And.intro q1 (And.intro q2' q3))
  obtain ⟨g, hg⟩ : ∃ g, w.heap.size = g := ⟨_, rfl⟩
  obtain ⟨wb, hwb⟩ : ∃ wb, w.alloc (.cells #[.int .i64 c, .string s, .int .i64 ev] 23) = wb := ⟨_, rfl⟩
  have hcel : Cel wb g 23 #[.int .i64 c, .string s, .int .i64 ev] := by rw [← hwb, ← hg]; exact Cel.new w _ _
  have bb : Below w.heap.size w wb := by rw [← hwb]; exact Below.alloc_new _ _
  have cI : ∀ (W : World) (k : Int), (-9223372036854775808 ≤ k ∧ k ≤ 9223372036854775807) → Below w.heap.size w W → ∀ d os, Calls Tryd.prog 19 #[.int .i64 k] (Go.Sort.grow (redrawn W d) os) fun e w'' => e = .returned (.string (ba (Lib.itoa k))) ∧ ∃ p : Regrown, w'' = Go.Sort.grow (redrawn W p.d) p.os := by
    intro W k hk hb d os
    exact Calls.regrown_of (itoa_any18 k _ hk.1 hk.2 (hT.below (hb.trans ((below_regrown W d os).mono hb.size))))
  have cI1 := cI wb c ⟨hc0, hc1⟩ bb
  have cI2 := fun W hb => cI W ev ⟨he0, he1⟩ hb
  have cW : ∀ d os, Calls Tryd.prog 14 #[.int .i64 c] (Go.Sort.grow (redrawn wb d) os) fun e w'' => e = .returned (.string (ba (wordsF c))) ∧ ∃ p : Regrown, w'' = Go.Sort.grow (redrawn wb p.d) p.os := by
    intro d os
    refine (lawWords_any c _).mono ?_
    rintro e w' ⟨he, rfl⟩
    exact ⟨he, ⟨d, os⟩, rfl⟩
  clear q1 q2 q2' q3 hX cI hT
  generalize ba (Lib.itoa c) = I at *
  generalize ba (wordsF c) = Wd at *
  generalize ba (Lib.itoa ev) = J at *
  have x0 : wb.cell? ⟨g, 0, none⟩ = some (.int .i64 c) := hcel.cell 0
  have k0 := cell_regrown x0
  have n1 : ¬ 9223372036854775807 < I.size + 1 := by omega
  have n2 : ¬ 9223372036854775807 < I.size + 1 + Wd.size := by omega
  have n3 : ¬ 9223372036854775807 < I.size + 1 + Wd.size + 2 := by omega
  go_enter Tryd.func10, Tryd.ntmps10
  go_upto_region 1 with (fail)
  refine wp_region_quiet_below (by first | assumption | kernel_rfl) (by kernel_rfl) ?_
  repeat (quiet_step (first | exact cI1 _ _ | exact cW _ _))
  refine wpQuiet_nil ?_
  intro _ hw'
  obtain ⟨⟨dq, osq⟩, hw''⟩ := hw'
  subst hw''
  have H5 : RowKit.Hid (Below w.heap.size w (Go.Sort.grow (redrawn wb dq) osq) ∧ Cel (Go.Sort.grow (redrawn wb dq) osq) g 23 #[.int .i64 c, .string s, .int .i64 ev]) := ⟨bb.trans ((below_regrown wb dq osq).mono bb.size), hcel.below (below_regrown wb dq osq)⟩
  generalize Go.Sort.grow (redrawn wb dq) osq = w5 at *
  have y0 : w5.cell? ⟨g, 0, none⟩ = some (.int .i64 c) := H5.out.2.cell 0
  have y1 : w5.cell? ⟨g, 1, none⟩ = some (.string s) := H5.out.2.cell 1
  have y2 : w5.cell? ⟨g, 2, none⟩ = some (.int .i64 ev) := H5.out.2.cell 2
  clear k0 cI1 cW hwb hcel bb x0
  have n4 : ¬ 9223372036854775807 < 9 + (I.size + 1 + Wd.size + 2) := by omega
  have n5 : ¬ 9223372036854775807 < 9 + (I.size + 1 + Wd.size + 2) + 21 := by omega
  have n6 : ¬ 9223372036854775807 < 9 + (I.size + 1 + Wd.size + 2) + 9 := by omega
  have n7 : ¬ 9223372036854775807 < 9 + (I.size + 1 + Wd.size + 2) + 9 + s.size := by omega
  have n8 : ¬ 9223372036854775807 < 9 + (I.size + 1 + Wd.size + 2) + 9 + s.size + 4 := by omega
  have m4 : ¬ 9223372036854775807 < 4 + (I.size + 1 + Wd.size + 2) := by omega
  have m5 : ¬ 9223372036854775807 < 4 + (I.size + 1 + Wd.size + 2) + 9 := by omega
  have m6 : ¬ 9223372036854775807 < 4 + (I.size + 1 + Wd.size + 2) + 9 + s.size := by omega
  have m7 : ¬ 9223372036854775807 < 4 + (I.size + 1 + Wd.size + 2) + 9 + s.size + 14 := by omega
  have m8 : ¬ 9223372036854775807 < 4 + (I.size + 1 + Wd.size + 2) + 9 + s.size + 14 + J.size := by omega
  have m9 : ¬ 9223372036854775807 < 4 + (I.size + 1 + Wd.size + 2) + 9 + s.size + 14 + J.size + 4 := by omega
  by_cases hc : c = 200
  · by_cases he : ev = 0
    · have hQ := Lib.hid (HQ.out.2.1 hc he)
      subst hc he
      go_wp2
      go_ret
      rw [← hg]
      exact ⟨ret_strE hQ.out, H5.out.1⟩
    · have hQ := Lib.hid (HQ.out.2.2 hc he)
      subst hc
      have he' : (ev == 0) = false := by simpa using he
      have l1 := cell_regrown y1
      have l2 := cell_regrown y2
      have cI3 := cI2 w5 H5.out.1
      go_upto_region 6 with (fail)
      refine wp_region_quiet_below (by first | assumption | kernel_rfl) (by kernel_rfl) ?_
      repeat (quiet_step (exact cI3 _ _))
      refine wpQuiet_nil ?_
      intro _ hw'
      obtain ⟨⟨dq2, osq2⟩, hw''⟩ := hw'
      subst hw''
      go_wp2
      go_ret
      rw [← hg]
      exact ⟨ret_strE hQ.out, H5.out.1.trans ((below_regrown w5 dq2 osq2).mono H5.out.1.size)⟩
  · have hQ := Lib.hid (HQ.out.1 hc)
    have hc' : (c != 200) = true := by simpa using hc
    go_wp2
    go_ret
    exact ⟨ret_strE hQ.out, H5.out.1⟩

/-! ### The number behind a name -/
set_option maxHeartbeats 4000000 in
set_option maxRecDepth 100000 in
theorem lawAfter_any (s : ByteArray) (w : World) (hs : s.size ≤ 1000) :
    Calls Tryd.prog 24 #[.string s] w fun e w' => ∃ v : Int, 0 ≤ v ∧ v ≤ 65536 ∧ e = .returned (.int .i64 v) ∧ Below w.heap.size w w' := by
  have HBe : RowKit.Hid (∀ n, Below w.heap.size w (w.drewN n)) := fun n => Below.drewN' (Below.refl _ _) n
  by_cases h19 : s.size < 19
  · have h19' : (s.size : Int) < 19 := by omega
    go_enter Tryd.func24, Tryd.ntmps24
    go_wp2
    go_ret
    exact ⟨0, by omega, by omega, rfl, HBe.out 0⟩
  have h19' : ¬ (s.size : Int) < 19 := by omega
  have e1 : (0 : Int) ≤ 14 := by decide
  have e2 : (14 : Int) ≤ (s.size : Int) := by omega
  obtain ⟨m, hm⟩ : ∃ m : Nat, s.size = m + 4 := ⟨s.size - 4, by omega⟩
  have e3 : IntKind.i64.wrap ((s.size : Int) - 4) = (m : Int) := by rw [IntKind.wrap_i64]; omega
  have e3' : wrap64 ((s.size : Int) - 4) = (m : Int) := by unfold wrap64; omega
  have e3'' : (s.size : Int) - 4 = (m : Int) := by omega
  have e4 : (14 : Int) ≤ (m : Int) := by omega
  have e5 : (m : Int) ≤ (s.size : Int) := by omega
  obtain ⟨x, hx⟩ : ∃ x, numF (s.extract 14 m).data.toList 65536 = x := ⟨_, rfl⟩
  have hxb := numF_le (s.extract 14 m).data.toList 65536 (by decide) (by decide)
  rw [hx] at hxb
  have CN : ∀ W : World, Calls Tryd.prog 41 #[.string (s.extract 14 m), .int .i64 65536] W fun e w' => e = .returned (.int .i64 x) ∧ W = w' := by
    intro W
    rw [← hx]
    exact refNumber_any (s.extract 14 m) 65536 W (by rw [ByteArray.size_extract]; omega) (by decide) (by decide)
  clear hx
  obtain ⟨hd, hhd⟩ : ∃ hd, s.extract 0 14 = hd := ⟨_, rfl⟩
  go_enter Tryd.func24, Tryd.ntmps24
  go_wp2_with (go_at_call 41; refine (CN _).mono ?_; rintro e w2 ⟨rfl, rfl⟩)
  all_goals
    go_ret
    first
      | exact ⟨max x 0, by omega, by omega, rfl, HBe.out 0⟩
      | exact ⟨0, by omega, by omega, rfl, HBe.out 0⟩
end Go.Proofs.YtjhihjkhbmbigaaDoor
