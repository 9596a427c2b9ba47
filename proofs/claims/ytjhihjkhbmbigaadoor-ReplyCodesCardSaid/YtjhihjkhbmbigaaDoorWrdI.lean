/- A text's number: by the document's answer, and by package word. -/
import Derived.Test.YtjhihjkhbmbigaaDoorWrdE
import Derived.Test.YtjhihjkhbmbigaaDoorWrdN
import Derived.Test.YtjhihjkhbmbigaaDoorShelf
import Derived.Lib.AppendIntMem
import Derived.WalkSmall
namespace Go.Proofs.YtjhihjkhbmbigaaDoor
open Go.RowKit Go.PlainAid
set_option linter.unusedVariables false

theorem decFrom_none : ∀ (l : List UInt8) (acc i : Nat), i < l.length → Lib.digitVal (l.getD i 0) = none → Lib.decFrom acc l = none
  | [], _, i, h, _ => by simp at h
  | b :: r, acc, 0, _, hd => by
    simp at hd
    simp [Lib.decFrom, hd]
  | b :: r, acc, i + 1, h, hd => by
    simp only [Lib.decFrom]
    cases Lib.digitVal b with
    | none => rfl
    | some d => exact decFrom_none r _ i (by simpa using h) (by simpa using hd)
theorem decFrom_bd : ∀ (l : List UInt8) (acc u : Nat), Lib.decFrom acc l = some u → u < (acc + 1) * 10 ^ l.length
  | [], acc, u, h => by
    simp only [Lib.decFrom, Option.some.injEq] at h
    simp
    omega
  | b :: r, acc, u, h => by
    simp only [Lib.decFrom] at h
    cases hb : Lib.digitVal b with
    | none => rw [hb] at h; cases h
    | some d =>
      rw [hb] at h
      have := decFrom_bd r _ u h
      obtain ⟨d0, _, _⟩ := digit_is hb
      rw [List.length_cons, Nat.pow_succ]
      have h2 : (acc * 10 + d + 1) * 10 ^ r.length ≤ (acc + 1) * 10 * 10 ^ r.length := Nat.mul_le_mul_right _ (by omega)
      rw [Nat.mul_comm (10 ^ r.length) 10, ← Nat.mul_assoc]
      omega
theorem empty_of0 (s : ByteArray) (h : s.size = 0) : s = ⟨#[]⟩ := by
  have : s.data.size = 0 := h
  have := Array.eq_empty_of_size_eq_zero this
  cases s
  simp_all
theorem ret_i64E {a b : Int} (h : a = b) : Ending.returned (.int .i64 a) = .returned (.int .i64 b) := by rw [h]

set_option maxHeartbeats 4000000 in
set_option maxRecDepth 1000000 in
theorem refNumber_any (s : ByteArray) (most : Int) (w : World) (hs : s.size ≤ 1000) (hm0 : -9223372036854775808 ≤ most) (hm1 : most ≤ 9223372036854775807) :
    Calls Tryd.prog 41 #[.string s, .int .i64 most] w fun e w' => e = .returned (.int .i64 (numF s.data.toList most)) ∧ w = w' := by
  have hb := get_bt s
  have HL : RowKit.Hid (s.data.toList.length = s.size) := len_list s
  have HB : RowKit.Hid (∀ k, bt s k = ((s.data.toList.getD k 0).toNat : Int)) := bt_list s
  obtain ⟨X, hX⟩ : ∃ X, numF s.data.toList most = X := ⟨_, rfl⟩
  have HX := Lib.hid hX
  have HBAD : RowKit.Hid ((s.data.toList = [] ∨ (1 < s.data.toList.length ∧ (s.data.toList.getD 0 0).toNat = 48) ∨ 19 < s.data.toList.length ∨ most < 0) → X = -1) := by
    intro h
    rw [← HX.out]
    unfold numF
    rw [if_pos h]
  rw [hX]
  clear hX
  by_cases k0 : s.size = 0
  · have e := empty_of0 s k0
    subst e
    rw [HBAD.out (.inl rfl)]
    go_enter Tryd.func41, Tryd.ntmps41
    go_wp2
    go_ret
    exact ⟨rfl, rfl⟩
  have hne : ¬ s.toList = [] := by
    intro e
    rw [Lib.toList_data] at e
    have := congrArg List.length e
    rw [HL.out] at this
    exact k0 this
  have hem : s.toList.isEmpty = false := by simpa using hne
  obtain ⟨b0, hb0⟩ : ∃ b : Nat, bt s 0 = b := ⟨_, HB.out 0⟩
  by_cases k2 : 1 < s.size ∧ b0 = 48
  · have hb0' : bt s 0 = 48 := by rw [hb0, k2.2]; rfl
    have HR : RowKit.Hid (X = -1) := HBAD.out (.inr (.inl ⟨by rw [HL.out]; exact k2.1, by have := HB.out 0; omega⟩))
    have k1 := k2.1
    clear hb0 k2
    go_enter Tryd.func41, Tryd.ntmps41
    go_wp2
    all_goals first | (exfalso; omega) | (go_ret; exact ⟨ret_i64E HR.out.symm, rfl⟩)
  by_cases k3 : 19 < s.size
  · have HR : RowKit.Hid (X = -1) := HBAD.out (.inr (.inr (.inl (by rw [HL.out]; exact k3))))
    have hq : ¬ b0 = 48 := fun h => k2 ⟨by omega, h⟩
    have hq' : ((b0 : Int) == 48) = false := by have : ¬ (b0 : Int) = 48 := by omega
                                                simpa using this
    clear k2 hq
    go_enter Tryd.func41, Tryd.ntmps41
    go_wp2
    all_goals first | (exfalso; omega) | (go_ret; exact ⟨ret_i64E HR.out.symm, rfl⟩)
  by_cases k4 : most < 0
  · have HR : RowKit.Hid (X = -1) := HBAD.out (.inr (.inr (.inr k4)))
    by_cases k5 : 1 < s.size
    · have hq : ¬ b0 = 48 := fun h => k2 ⟨k5, h⟩
      have hq' : ((b0 : Int) == 48) = false := by have : ¬ (b0 : Int) = 48 := by omega
                                                  simpa using this
      clear k2 hq
      go_enter Tryd.func41, Tryd.ntmps41
      go_wp2
      all_goals first | (exfalso; omega) | (go_ret; exact ⟨ret_i64E HR.out.symm, rfl⟩)
    · clear k2
      go_enter Tryd.func41, Tryd.ntmps41
      go_wp2
      all_goals first | (exfalso; omega) | (go_ret; exact ⟨ret_i64E HR.out.symm, rfl⟩)
  have HOKK : RowKit.Hid (∀ o, Lib.decFrom 0 s.data.toList = o → X = (match o with | none => -1 | some n => if most < (n : Int) then -1 else (n : Int))) := by
    intro o ho
    rw [← HX.out]
    unfold numF
    have hneg : ¬ (s.data.toList = [] ∨ (1 < s.data.toList.length ∧ (s.data.toList.getD 0 0).toNat = 48) ∨ 19 < s.data.toList.length ∨ most < 0) := by
      intro h
      rcases h with h | h | h | h
      · have := congrArg List.length h
        rw [HL.out] at this
        exact k0 this
      · rw [HL.out] at h
        exact k2 ⟨h.1, by have := HB.out 0; omega⟩
      · rw [HL.out] at h
        omega
      · omega
    rw [if_neg hneg, ho]
    cases o <;> rfl
  have k2' : ¬ 1 < s.size ∨ ((b0 : Int) == 48) = false := by
    by_cases k5 : 1 < s.size
    · right
      have : ¬ (b0 : Int) = 48 := fun h => k2 ⟨k5, by omega⟩
      simpa using this
    · exact .inl k5
  have HE : RowKit.Hid (most = most) := rfl
  clear k2 HBAD HX
  rcases k2' with k5 | k5
  all_goals
    go_enter Tryd.func41, Tryd.ntmps41
    go_wp2
    try (exfalso; omega)
  all_goals
    go_loop [5, 6] (fun n v => ∃ (i m : Nat), n = .int .u64 m ∧ v = .int .i64 i ∧ i ≤ s.size ∧ RowKit.Hid (Lib.decFrom 0 (s.data.toList.take i) = some m)) (fun _ v => s.size - (intOf v).toNat)
    case atStart => exact ⟨0, 0, rfl, rfl, by omega, rfl⟩
    case round =>
      obtain ⟨i, m, rfl, rfl, hi, HM⟩ := hrel
      have hmb : 10 * m + 9 < 18446744073709551616 ∨ i = 19 := by
        have := decFrom_bd _ _ _ HM.out
        rw [List.length_take, HL.out] at this
        by_cases c : i = 19
        · exact .inr c
        · left
          have hp : 10 ^ (min i s.size) ≤ 10 ^ 18 := Nat.pow_le_pow_right (by decide) (by omega)
          have e18 : (10 : Nat) ^ 18 = 1000000000000000000 := by decide
          omega
      have hm64 : m < 18446744073709551616 := by
        have := decFrom_bd _ _ _ HM.out
        rw [List.length_take, HL.out] at this
        have hp : 10 ^ (min i s.size) ≤ 10 ^ 19 := Nat.pow_le_pow_right (by decide) (by omega)
        have e19 : (10 : Nat) ^ 19 = 10000000000000000000 := by decide
        omega
      by_cases hlt : i < s.size
      · have hmb' : 10 * m + 9 < 18446744073709551616 := by omega
        clear hmb
        obtain ⟨b, hbi⟩ : ∃ b : Nat, bt s i = b := ⟨_, HB.out i⟩
        have HBI : RowKit.Hid ((s.data.toList.getD i 0).toNat = b) := by have := HB.out i; show _ = _; omega
        by_cases hd : 48 ≤ b ∧ b ≤ 57
        · have HY : RowKit.Hid (Lib.decFrom 0 (s.data.toList.take (i + 1)) = some (m * 10 + (b - 48))) := by
            have hil : i < s.data.toList.length := by rw [HL.out]; exact hlt
            refine Lib.decFrom_take _ i 0 m (s.data.toList.getD i 0) (b - 48) HM.out ?_ ?_
            · rw [List.getD_eq_getElem?_getD, List.getElem?_eq_getElem hil]; rfl
            · unfold Lib.digitVal
              rw [HBI.out, if_pos hd]
          have d1 := hd.1
          have d2 := hd.2
          clear hd
          go_wp2
          go_round
          case rel => exact ⟨i + 1, m * 10 + (b - 48), by go_num, by go_num, by omega, HY⟩
          case measure => simp [intOf]; omega
        · have HN : RowKit.Hid (X = -1) := by
            show _ = _
            have hil : i < s.data.toList.length := by rw [HL.out]; exact hlt
            refine HOKK.out _ (decFrom_none _ _ i hil ?_)
            unfold Lib.digitVal
            rw [HBI.out, if_neg hd]
          go_wp2
          all_goals first | (exfalso; omega) | (go_ret; exact ⟨ret_i64E HN.out.symm, rfl⟩)
      · have HN : RowKit.Hid (X = (if most < (m : Int) then -1 else (m : Int))) := by
          show _ = _
          have e := HM.out
          rw [List.take_of_length_le (by rw [HL.out]; omega)] at e
          exact HOKK.out _ e
        by_cases hmm : most < (m : Int)
        · have HN2 : RowKit.Hid (X = -1) := by show _ = _; rw [HN.out, if_pos hmm]
          clear hmb
          go_wp2
          all_goals first | (exfalso; omega) | (go_ret; exact ⟨ret_i64E HN2.out.symm, rfl⟩)
        · have HN2 : RowKit.Hid (X = (m : Int)) := by show _ = _; rw [HN.out, if_neg hmm]
          clear hmb
          go_wp2
          all_goals first | (exfalso; omega) | (go_ret; exact ⟨ret_i64E HN2.out.symm, rfl⟩)
end Go.Proofs.YtjhihjkhbmbigaaDoor
