/- Names and mounts by package word. -/
import Derived.Test.YtkledfalplekeaaDoorWrdC
namespace Go.Proofs.YtkledfalplekeaaDoor
open Go.RowKit Go.PlainAid
set_option linter.unusedVariables false

theorem okTo_congr {p q : Int → Bool} (h : ∀ c : Fin 256, p (c.val : Int) = q (c.val : Int)) (l : List UInt8) : okTo p l = okTo q l := by
  unfold okTo
  congr 1
  funext c
  exact h ⟨c.toNat, c.toNat_lt⟩
theorem name_of (l : List UInt8) : okTo (isP ⟨#[45]⟩) l = okTo nameP l := okTo_congr (by decide +kernel) l
theorem mount_of (l : List UInt8) : okTo (isP ⟨#[46, 45, 95]⟩) l = okTo mountP l := okTo_congr (by decide +kernel) l
theorem empty_of (s : ByteArray) (h : s.size = 0) : s = ⟨#[]⟩ := by
  have : s.data.size = 0 := h
  have := Array.eq_empty_of_size_eq_zero this
  cases s
  simp_all
set_option maxHeartbeats 4000000 in
set_option maxRecDepth 100000 in
theorem name_any (s : ByteArray) (w : World) (hs : s.size ≤ 1000) :
    Calls Tryd.prog 38 #[.string s] w fun e w' => e = .returned (.bool (nameF s.data.toList)) ∧ w = w' := by
  have HL : RowKit.Hid (s.data.toList.length = s.size) := len_list s
  by_cases h0 : s.size = 0
  · have e := empty_of s h0
    subst e
    have : nameF (ByteArray.mk #[]).data.toList = false := by decide
    rw [this]
    go_enter Tryd.func38, Tryd.ntmps38
    go_wp2
    go_ret
    exact ⟨rfl, rfl⟩
  have hne : ¬ s.toList = [] := by
    intro e
    rw [Lib.toList_data] at e
    have := congrArg List.length e
    rw [HL.out] at this
    exact h0 this
  have hem : s.toList.isEmpty = false := by simpa using hne
  by_cases h1 : s.size ≤ 40
  · have C := isPlain_any s ⟨#[45]⟩ w hs
    have HE : RowKit.Hid (okTo (isP ⟨#[45]⟩) s.data.toList = nameF s.data.toList) := by
      show _ = _
      rw [name_of]
      unfold nameF
      rw [HL.out]
      have : 1 ≤ s.size := by omega
      simp [h1, this]
    rw [HE.out] at C
    generalize nameF s.data.toList = X at C ⊢
    clear HE HL
    go_enter Tryd.func38, Tryd.ntmps38
    go_wp2_with (go_at_call 46; refine C.mono ?_; rintro e w' ⟨rfl, rfl⟩)
    go_ret
    exact ⟨ret_boolE (by first | rfl | simp), rfl⟩
  · have HE : RowKit.Hid (nameF s.data.toList = false) := by
      show _ = _
      unfold nameF
      rw [HL.out]
      simp [h1]
    rw [HE.out]
    clear HE HL
    go_enter Tryd.func38, Tryd.ntmps38
    go_wp2
    go_ret
    exact ⟨ret_boolE (by first | rfl | simp), rfl⟩

set_option maxHeartbeats 4000000 in
set_option maxRecDepth 100000 in
theorem mount_any (s : ByteArray) (w : World) (hs : s.size ≤ 1000) :
    Calls Tryd.prog 44 #[.string s] w fun e w' => e = .returned (.bool (mountF s.data.toList)) ∧ w = w' := by
  have hl := len_list s
  have C0 := Tryd.strings_CutPrefix s ⟨#[47]⟩ w
  by_cases h0 : ∃ t, s.data.toList = 47 :: t
  · obtain ⟨t, ht⟩ := h0
    have e1 : Lib.hasPrefix s.data.toList (ByteArray.mk #[47]).data.toList = true := by rw [ht]; simp [Lib.hasPrefix]
    have e2 : Lib.trimPrefix s.data.toList (ByteArray.mk #[47]).data.toList = t := by unfold Lib.trimPrefix; rw [e1, ht]; simp
    rw [e1, e2] at C0
    rw [ht] at hl
    simp only [List.length_cons] at hl
    obtain ⟨R, hR, hRd, hRs⟩ : ∃ R : ByteArray, (⟨t.toArray⟩ : ByteArray) = R ∧ R.data.toList = t ∧ R.size = t.length := ⟨_, rfl, rfl, rfl⟩
    rw [hR] at C0
    have HM : RowKit.Hid (mountF s.data.toList = ((decide (1 ≤ R.size) && decide (s.size ≤ 20)) && okTo mountP t)) := by
      show _ = _
      rw [ht]
      unfold mountF
      have a : (2 ≤ (47 :: t).length) = (1 ≤ R.size) := by rw [hRs]; simp only [List.length_cons]; exact propext ⟨fun h => by omega, fun h => by omega⟩
      have b : ((47 :: t).length ≤ 20) = (s.size ≤ 20) := by rw [← hl]; rfl
      simp only [a, b]
      simp
    have C := isPlain_any R ⟨#[46, 45, 95]⟩ w (by omega)
    rw [mount_of, hRd] at C
    rw [HM.out]
    generalize okTo mountP t = Y at C ⊢
    by_cases k1 : 1 ≤ R.size
    · have hne : ¬ R.toList = [] := by
        intro e
        rw [Lib.toList_data, hRd] at e
        have := congrArg List.length e
        rw [List.length_nil] at this
        omega
      have hem : R.toList.isEmpty = false := by simpa using hne
      clear HM ht hR hRd e1 e2
      by_cases k2 : s.size ≤ 20
      · go_enter Tryd.func44, Tryd.ntmps44
        go_wp2_with (first | (go_at_call 56; refine C0.mono ?_; rintro e w' ⟨rfl, rfl⟩) | (go_at_call 46; refine C.mono ?_; rintro e w' ⟨rfl, rfl⟩))
        go_ret
        exact ⟨ret_boolE (by simp [k1, k2]), rfl⟩
      · go_enter Tryd.func44, Tryd.ntmps44
        go_wp2_with (first | (go_at_call 56; refine C0.mono ?_; rintro e w' ⟨rfl, rfl⟩) | (go_at_call 46; refine C.mono ?_; rintro e w' ⟨rfl, rfl⟩))
        go_ret
        exact ⟨ret_boolE (by simp), rfl⟩
    · have hne : R.toList = [] := by
        rw [Lib.toList_data]
        apply List.eq_nil_of_length_eq_zero
        rw [hRd]
        omega
      have hem : R.toList.isEmpty = true := by simpa using hne
      clear HM ht hR hRd e1 e2
      go_enter Tryd.func44, Tryd.ntmps44
      go_wp2_with (first | (go_at_call 56; refine C0.mono ?_; rintro e w' ⟨rfl, rfl⟩) | (go_at_call 46; refine C.mono ?_; rintro e w' ⟨rfl, rfl⟩))
      go_ret
      exact ⟨ret_boolE (by simp [k1]), rfl⟩
  · have e1 : Lib.hasPrefix s.data.toList (ByteArray.mk #[47]).data.toList = false := by
      cases h : s.data.toList with
      | nil => rfl
      | cons c r =>
        have : ¬ c = 47 := fun e => h0 ⟨r, by rw [h, e]⟩
        simp only [Lib.hasPrefix, List.isPrefixOf, Bool.and_eq_false_iff]
        exact .inl (by simpa using Ne.symm this)
    have e2 : mountF s.data.toList = false := by
      unfold mountF
      cases h : s.data.toList with
      | nil => rfl
      | cons c r =>
        have : ¬ c.toNat = 47 := fun e => h0 ⟨r, by rw [h]; congr 1; exact UInt8.toNat_inj.1 e⟩
        simp [this]
    rw [e1] at C0
    rw [e2]
    generalize Lib.trimPrefix s.data.toList (ByteArray.mk #[47]).data.toList = t at C0
    obtain ⟨R, hR⟩ : ∃ R : ByteArray, (⟨t.toArray⟩ : ByteArray) = R := ⟨_, rfl⟩
    rw [hR] at C0
    clear h0 e1 e2 hR
    go_enter Tryd.func44, Tryd.ntmps44
    go_wp2_with (go_at_call 56; refine C0.mono ?_; rintro e w' ⟨rfl, rfl⟩)
    go_ret
    exact ⟨ret_boolE (by first | rfl | simp), rfl⟩
end Go.Proofs.YtkledfalplekeaaDoor
