/- The chapter's example; the code of any error. -/
import Derived.Test.YtjhihjkhbmbigaaDoorRepH
namespace Go.Proofs.YtjhihjkhbmbigaaDoor
open Go Go.RowKit Go.PlainAid
set_option linter.unusedVariables false
set_option linter.unusedSimpArgs false

set_option maxHeartbeats 4000000 in
set_option maxRecDepth 100000 in
theorem lives18 (w : World) (hT : PowT w) : Calls Tryd.prog 6 #[] w fun e w' => e = .returned (.bool true) ∧ Below w.heap.size w w' := by
  have hr : rightF ⟨404, [], 0⟩ = true := right_iff.2 ⟨by decide, by show (0 : Int) ≤ 0; omega, by show (0 : Int) ≤ 65536; omega, rfl, .inr ⟨rfl, rfl⟩⟩
  have hx : ba (textF ⟨404, [], 0⟩) = ⟨#[72, 84, 84, 80, 47, 49, 46, 48, 32, 52, 48, 52, 32, 78, 111, 116, 32, 70, 111, 117, 110, 100, 13, 10, 67, 111, 110, 116, 101, 110, 116, 45, 76, 101, 110, 103, 116, 104, 58, 32, 48, 13, 10, 13, 10]⟩ := by decide +kernel
  have CT : Calls Tryd.prog 7 #[.agg #[.int .i64 404, .string ⟨#[]⟩, .int .i64 0]] w fun e w' => ∃ a n c, e = .returned (.tuple #[.slice a n c, .int .i64 0]) ∧ (convert 24 9 (.slice a n c)).run Tryd.prog w' = .ok (.string (⟨#[72, 84, 84, 80, 47, 49, 46, 48, 32, 52, 48, 52, 32, 78, 111, 116, 32, 70, 111, 117, 110, 100, 13, 10, 67, 111, 110, 116, 101, 110, 116, 45, 76, 101, 110, 103, 116, 104, 58, 32, 48, 13, 10, 13, 10]⟩ : ByteArray)) w' ∧ Below w.heap.size w w' := by
    have := text_any 404 0 ⟨#[]⟩ w (by decide) (by decide) (by decide) (by decide) (by decide) hT
    rw [show (ByteArray.mk #[]).data.toList = [] from rfl, hr, if_pos rfl, if_pos rfl] at this
    refine this.mono ?_
    rintro e w' ⟨v, he, h1, h2, h3⟩
    obtain ⟨a, c, rfl, hb, _⟩ := h1.bytes
    exact ⟨_, _, _, he, by rw [← hx]; exact hb.conv w' (Below.refl _ _), h3⟩
  clear hr hx
  go_enter Tryd.func6, Tryd.ntmps6
  go_wp2_with (go_at_call 7; refine CT.mono ?_; rintro e w2 ⟨a, n, c, rfl, hc, b2⟩)
  go_ret
  exact ⟨ret_boolE (by first | rfl | simp), b2⟩
set_option maxHeartbeats 8000000 in
set_option maxRecDepth 100000 in
theorem replyCodes_law (e : Int) (w : World) (hT : PowT w) : Calls Tryd.prog 5 #[.int .i64 e] w fun e' w' => e' = .returned (.bool true) ∧ Below w.heap.size w w' := by
  have C0 := lives18 w hT
  have CV : ∀ c : Int, wordsF c ≠ [] → ∀ W : World, Calls Tryd.prog 14 #[.int .i64 c] W fun e' w' => ∃ T : ByteArray, e' = .returned (.string T) ∧ ¬ T.toList = [] ∧ W = w' := by
    intro c hc W
    refine (lawWords_any c W).mono ?_
    rintro e' w' ⟨he, h⟩
    exact ⟨_, he, by rw [Lib.toList_data, list_ba]; exact hc, h⟩
  by_cases h0 : e = 0
  · subst h0
    have CC : ∀ W : World, Calls Tryd.prog 13 #[.int .i64 0] W fun e' w' => e' = .returned (.int .i64 200) ∧ W = w' := fun W => by
      have := code_any 0 W
      rw [show codeF 0 = 200 by decide] at this
      exact this
    have CW := CV 200 (by decide)
    clear CV
    go_enter Tryd.func5, Tryd.ntmps5
    go_wp2_with (first
      | (go_at_call 6; refine C0.mono ?_; rintro e' w2 ⟨rfl, b2⟩)
      | (go_at_call 13; refine (CC _).mono ?_; rintro e' w3 ⟨rfl, rfl⟩)
      | (go_at_call 14; refine (CW _).mono ?_; rintro e' w4 ⟨T, rfl, hT0, rfl⟩))
    go_ret
    exact ⟨ret_boolE (by first | rfl | simp [hT0]), b2⟩
  have q0 : (e == 0) = false := by simpa using h0
  by_cases h1 : e = 9
  · subst h1
    have CC : ∀ W : World, Calls Tryd.prog 13 #[.int .i64 9] W fun e' w' => e' = .returned (.int .i64 401) ∧ W = w' := fun W => by
      have := code_any 9 W
      rw [show codeF 9 = 401 by decide] at this
      exact this
    have CW := CV 401 (by decide)
    clear CV
    go_enter Tryd.func5, Tryd.ntmps5
    go_wp2_with (first
      | (go_at_call 6; refine C0.mono ?_; rintro e' w2 ⟨rfl, b2⟩)
      | (go_at_call 13; refine (CC _).mono ?_; rintro e' w3 ⟨rfl, rfl⟩)
      | (go_at_call 14; refine (CW _).mono ?_; rintro e' w4 ⟨T, rfl, hT0, rfl⟩))
    go_ret
    exact ⟨ret_boolE (by first | rfl | simp [hT0]), b2⟩
  have q1 : (e == 9) = false := by simpa using h1
  by_cases h2 : e = 8
  · subst h2
    have CC : ∀ W : World, Calls Tryd.prog 13 #[.int .i64 8] W fun e' w' => e' = .returned (.int .i64 403) ∧ W = w' := fun W => by
      have := code_any 8 W
      rw [show codeF 8 = 403 by decide] at this
      exact this
    have CW := CV 403 (by decide)
    clear CV
    go_enter Tryd.func5, Tryd.ntmps5
    go_wp2_with (first
      | (go_at_call 6; refine C0.mono ?_; rintro e' w2 ⟨rfl, b2⟩)
      | (go_at_call 13; refine (CC _).mono ?_; rintro e' w3 ⟨rfl, rfl⟩)
      | (go_at_call 14; refine (CW _).mono ?_; rintro e' w4 ⟨T, rfl, hT0, rfl⟩))
    go_ret
    exact ⟨ret_boolE (by first | rfl | simp [hT0]), b2⟩
  have q2 : (e == 8) = false := by simpa using h2
  by_cases h3 : e = 6
  · subst h3
    have CC : ∀ W : World, Calls Tryd.prog 13 #[.int .i64 6] W fun e' w' => e' = .returned (.int .i64 404) ∧ W = w' := fun W => by
      have := code_any 6 W
      rw [show codeF 6 = 404 by decide] at this
      exact this
    have CW := CV 404 (by decide)
    clear CV
    go_enter Tryd.func5, Tryd.ntmps5
    go_wp2_with (first
      | (go_at_call 6; refine C0.mono ?_; rintro e' w2 ⟨rfl, b2⟩)
      | (go_at_call 13; refine (CC _).mono ?_; rintro e' w3 ⟨rfl, rfl⟩)
      | (go_at_call 14; refine (CW _).mono ?_; rintro e' w4 ⟨T, rfl, hT0, rfl⟩))
    go_ret
    exact ⟨ret_boolE (by first | rfl | simp [hT0]), b2⟩
  have q3 : (e == 6) = false := by simpa using h3
  by_cases h4 : e = 2
  · subst h4
    have CC : ∀ W : World, Calls Tryd.prog 13 #[.int .i64 2] W fun e' w' => e' = .returned (.int .i64 408) ∧ W = w' := fun W => by
      have := code_any 2 W
      rw [show codeF 2 = 408 by decide] at this
      exact this
    have CW := CV 408 (by decide)
    clear CV
    go_enter Tryd.func5, Tryd.ntmps5
    go_wp2_with (first
      | (go_at_call 6; refine C0.mono ?_; rintro e' w2 ⟨rfl, b2⟩)
      | (go_at_call 13; refine (CC _).mono ?_; rintro e' w3 ⟨rfl, rfl⟩)
      | (go_at_call 14; refine (CW _).mono ?_; rintro e' w4 ⟨T, rfl, hT0, rfl⟩))
    go_ret
    exact ⟨ret_boolE (by first | rfl | simp [hT0]), b2⟩
  have q4 : (e == 2) = false := by simpa using h4
  by_cases h5 : e = 5
  · subst h5
    have CC : ∀ W : World, Calls Tryd.prog 13 #[.int .i64 5] W fun e' w' => e' = .returned (.int .i64 413) ∧ W = w' := fun W => by
      have := code_any 5 W
      rw [show codeF 5 = 413 by decide] at this
      exact this
    have CW := CV 413 (by decide)
    clear CV
    go_enter Tryd.func5, Tryd.ntmps5
    go_wp2_with (first
      | (go_at_call 6; refine C0.mono ?_; rintro e' w2 ⟨rfl, b2⟩)
      | (go_at_call 13; refine (CC _).mono ?_; rintro e' w3 ⟨rfl, rfl⟩)
      | (go_at_call 14; refine (CW _).mono ?_; rintro e' w4 ⟨T, rfl, hT0, rfl⟩))
    go_ret
    exact ⟨ret_boolE (by first | rfl | simp [hT0]), b2⟩
  have q5 : (e == 5) = false := by simpa using h5
  by_cases h6 : e = 7
  · subst h6
    have CC : ∀ W : World, Calls Tryd.prog 13 #[.int .i64 7] W fun e' w' => e' = .returned (.int .i64 503) ∧ W = w' := fun W => by
      have := code_any 7 W
      rw [show codeF 7 = 503 by decide] at this
      exact this
    have CW := CV 503 (by decide)
    clear CV
    go_enter Tryd.func5, Tryd.ntmps5
    go_wp2_with (first
      | (go_at_call 6; refine C0.mono ?_; rintro e' w2 ⟨rfl, b2⟩)
      | (go_at_call 13; refine (CC _).mono ?_; rintro e' w3 ⟨rfl, rfl⟩)
      | (go_at_call 14; refine (CW _).mono ?_; rintro e' w4 ⟨T, rfl, hT0, rfl⟩))
    go_ret
    exact ⟨ret_boolE (by first | rfl | simp [hT0]), b2⟩
  have q6 : (e == 7) = false := by simpa using h6
  have CC : ∀ W : World, Calls Tryd.prog 13 #[.int .i64 e] W fun e' w' => e' = .returned (.int .i64 400) ∧ W = w' := fun W => by
    have := code_any e W
    rw [show codeF e = 400 by unfold codeF; rw [if_neg h0, if_neg h1, if_neg h2, if_neg h3, if_neg h4, if_neg h5, if_neg h6]] at this
    exact this
  have CW := CV 400 (by decide)
  clear CV
  go_enter Tryd.func5, Tryd.ntmps5
  go_wp2_with (first
    | (go_at_call 6; refine C0.mono ?_; rintro e' w2 ⟨rfl, b2⟩)
    | (go_at_call 13; refine (CC _).mono ?_; rintro e' w3 ⟨rfl, rfl⟩)
    | (go_at_call 14; refine (CW _).mono ?_; rintro e' w4 ⟨T, rfl, hT0, rfl⟩))
  go_ret
  exact ⟨ret_boolE (by first | rfl | simp [hT0]), b2⟩
end Go.Proofs.YtjhihjkhbmbigaaDoor
