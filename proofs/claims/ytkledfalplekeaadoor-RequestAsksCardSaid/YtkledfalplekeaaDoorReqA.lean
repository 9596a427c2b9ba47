/- The document's answers: a text cut at a byte, a text without blanks about. -/
import Derived.Test.YtkledfalplekeaaDoorReqP
import Derived.Test.YtkledfalplekeaaDoorMemK
import Derived.Deep.QuietTactic
import Derived.BigQuiet
namespace Go.Proofs.YtkledfalplekeaaDoor
open Go.RowKit Go.PlainAid
set_option linter.unusedVariables false

theorem ret_cutE {a b a' b' : ByteArray} {y y' : Bool} (h1 : a = a') (h2 : b = b') (h3 : y = y') : Ending.returned (.tuple #[.string a, .string b, .bool y]) = .returned (.tuple #[.string a', .string b', .bool y']) := by rw [h1, h2, h3]
theorem head17 (s : ByteArray) (i : Nat) : s.extract 0 i = ba (s.data.toList.take i) := by
  have := ext_list s 0 i
  simpa using this
theorem rest_list (s : ByteArray) (i : Nat) : s.extract i s.size = ba (s.data.toList.drop i) := ba_of (tail_list s i)
set_option maxHeartbeats 2000000 in
set_option maxRecDepth 100000 in
theorem refCut_any (s : ByteArray) (c : UInt8) (w : World) (hs : s.size ≤ 1000) :
    Calls Tryd.prog 18 #[.string s, .int .u8 (c.toNat : Int)] w fun e w' =>
      e = .returned (.tuple #[.string (ba (cutA s.data.toList c)), .string (ba (cutB s.data.toList c)), .bool (cutY s.data.toList c)]) ∧ Below w.heap.size w w' := by
  have hb := get_bt s
  have HL : RowKit.Hid (s.data.toList.length = s.size) := len_list s
  have HB : RowKit.Hid (∀ k, bt s k = ((s.data.toList.getD k 0).toNat : Int)) := bt_list s
  have HBe : RowKit.Hid (∀ n, Below w.heap.size w (w.drewN n)) := fun n => Below.drewN' (Below.refl _ _) n
  obtain ⟨X, hX⟩ : ∃ X, ba (cutA s.data.toList c) = X := ⟨_, rfl⟩
  obtain ⟨Y, hY⟩ : ∃ X, ba (cutB s.data.toList c) = X := ⟨_, rfl⟩
  obtain ⟨Z, hZ⟩ : ∃ X, cutY s.data.toList c = X := ⟨_, rfl⟩
  have HX : RowKit.Hid (∀ i, i < s.size → s.data.toList.getD i 0 = c → (∀ j, j < i → s.data.toList.getD j 0 ≠ c) → s.extract 0 i = X ∧ s.extract (i + 1) s.size = Y ∧ true = Z) := by
    intro i hi h1 h2
    obtain ⟨e1, e2, e3⟩ := cut_hit c i s.data.toList (by rw [HL.out]; exact hi) h1 h2
    rw [← hX, ← hY, ← hZ, e1, e2, e3, head17, rest_list]
    exact ⟨rfl, rfl, rfl⟩
  have HN : RowKit.Hid ((∀ j, j < s.size → s.data.toList.getD j 0 ≠ c) → s = X ∧ ⟨#[]⟩ = Y ∧ false = Z) := by
    intro h
    obtain ⟨e1, e2, e3⟩ := cut_miss c s.data.toList (by rw [HL.out]; exact h)
    rw [← hX, ← hY, ← hZ, e1, e2, e3, ba_list]
    exact ⟨rfl, rfl, rfl⟩
  rw [hX, hY, hZ]
  clear hX hY hZ
  obtain ⟨k, hk⟩ : ∃ k : Nat, c.toNat = k := ⟨_, rfl⟩
  have HK : RowKit.Hid (∀ x : UInt8, x = c ↔ x.toNat = k) := by
    intro x
    rw [← hk]
    exact ⟨fun h => by rw [h], fun h => UInt8.toNat_inj.1 h⟩
  rw [hk]
  clear hk
  go_enter Tryd.func18, Tryd.ntmps18
  go_wp2
  go_loop [7] (fun v => ∃ i : Nat, v = .int .i64 i ∧ i ≤ s.size ∧ RowKit.Hid (∀ j, j < i → s.data.toList.getD j 0 ≠ c)) (fun v => s.size - (intOf v).toNat)
  case atStart => exact ⟨0, rfl, by omega, fun j hj => absurd hj (by omega)⟩
  case round =>
    obtain ⟨i, rfl, hi, HJ⟩ := hrel
    by_cases hlt : i < s.size
    · obtain ⟨b, hbi⟩ : ∃ b : Nat, bt s i = b := ⟨_, HB.out i⟩
      have HBI : RowKit.Hid ((s.data.toList.getD i 0).toNat = b) := by show _ = _; have := HB.out i; omega
      by_cases he : b = k
      · have HF := Lib.hid (HX.out i hlt ((HK.out _).2 (by rw [HBI.out, he])) HJ.out)
        subst he
        go_wp2
        go_quiet (fail)
        go_wp2
        go_ret3
        exact ⟨ret_cutE HF.out.1 HF.out.2.1 HF.out.2.2, HBe.out _⟩
      · have hq : ((b : Int) == (k : Int)) = false := by
          have : ¬ (b : Int) = (k : Int) := by omega
          simpa using this
        have HJ2 : RowKit.Hid (∀ j, j < i + 1 → s.data.toList.getD j 0 ≠ c) := by
          intro j hj
          by_cases e : j = i
          · subst e
            intro h
            exact he (by rw [← HBI.out]; exact (HK.out _).1 h)
          · exact HJ.out j (by omega)
        clear he
        go_wp2
        go_round
        case rel => exact ⟨i + 1, by go_num, by omega, HJ2⟩
        case measure => simp [intOf]; omega
    · have HF := Lib.hid (HN.out (fun j hj => HJ.out j (by omega)))
      go_wp2
      go_ret3
      exact ⟨ret_cutE HF.out.1 HF.out.2.1 HF.out.2.2, HBe.out 0⟩

theorem isB_of (x : UInt8) (b : Nat) (h : x.toNat = b) : isB x = (((b : Int) == 32) || ((b : Int) == 9)) := by
  unfold isB
  have e1 : (x == 32) = ((b : Int) == 32) := by
    rw [Bool.eq_iff_iff]
    simp only [beq_iff_eq]
    rw [← UInt8.toNat_inj, h]
    show b = 32 ↔ _
    omega
  have e2 : (x == 9) = ((b : Int) == 9) := by
    rw [Bool.eq_iff_iff]
    simp only [beq_iff_eq]
    rw [← UInt8.toNat_inj, h]
    show b = 9 ↔ _
    omega
  rw [e1, e2]
def strLen : Value → Nat
  | .string t => t.size
  | _ => 0
set_option maxHeartbeats 2000000 in
set_option maxRecDepth 100000 in
theorem refTrim_any (s : ByteArray) (w : World) (hs : s.size ≤ 1000) :
    Calls Tryd.prog 21 #[.string s] w fun e w' => e = .returned (.string (ba (trimF s.data.toList))) ∧ w = w' := by
  obtain ⟨X, hX⟩ : ∃ X, trimF s.data.toList = X := ⟨_, rfl⟩
  have HX := Lib.hid hX
  rw [hX]
  clear hX
  go_enter Tryd.func21, Tryd.ntmps21
  go_wp2
  go_loop [0] (fun v => ∃ t : ByteArray, v = .string t ∧ t.size ≤ 1000 ∧ RowKit.Hid (trimF t.data.toList = X)) strLen
  case atStart => exact ⟨s, rfl, hs, HX⟩
  case round =>
    obtain ⟨t, rfl, ht, HT⟩ := hrel
    have hb := get_bt t
    have HL : RowKit.Hid (t.data.toList.length = t.size) := len_list t
    have HB : RowKit.Hid (∀ k, bt t k = ((t.data.toList.getD k 0).toNat : Int)) := bt_list t
    by_cases h0 : t.size = 0
    · have HR : RowKit.Hid (trimR t.data.toList = X) := by
        show _ = _
        rw [← HT.out, List.eq_nil_of_length_eq_zero (show t.data.toList.length = 0 by rw [HL.out]; exact h0)]
        rfl
      go_wp2
      go_loop [0] (fun v => ∃ u : ByteArray, v = .string u ∧ u.size ≤ 1000 ∧ RowKit.Hid (trimR u.data.toList = X)) strLen
      case atStart => exact ⟨t, rfl, ht, HR⟩
      case round =>
        obtain ⟨u, rfl, hu, HU⟩ := hrel
        clear hb HL HB HR HT
        have hb := get_bt u
        have HL : RowKit.Hid (u.data.toList.length = u.size) := len_list u
        have HB : RowKit.Hid (∀ k, bt u k = ((u.data.toList.getD k 0).toNat : Int)) := bt_list u
        by_cases h0 : u.size = 0
        · have HE : RowKit.Hid (X = u.data.toList) := by
            show _ = _
            rw [← HU.out, List.eq_nil_of_length_eq_zero (show u.data.toList.length = 0 by rw [HL.out]; exact h0)]
            rfl
          go_wp2
          go_ret
          exact ⟨ret_strE (by rw [HE.out, ba_list]), rfl⟩
        · obtain ⟨n, hn⟩ : ∃ n, u.size = n + 1 := ⟨u.size - 1, by omega⟩
          obtain ⟨b, hbi⟩ : ∃ b : Nat, bt u n = b := ⟨_, HB.out n⟩
          have HI : RowKit.Hid (isB (u.data.toList.getD n 0) = (((b : Int) == 32) || ((b : Int) == 9))) := isB_of _ _ (by have := HB.out n; omega)
          have HS := Lib.hid (trimR_last u.data.toList n (by rw [HL.out]; exact hn))
          have hl1 : (u.size : Int) - 1 = (n : Int) := by omega
          have hpos : (0 : Int) < (u.size : Int) := by omega
          have HG : RowKit.Hid (((b : Int) == 32) = true ∨ ((b : Int) == 9) = true → (u.extract 0 n).size ≤ 1000 ∧ (u.extract 0 n).size = n ∧ trimR (u.extract 0 n).data.toList = X) := by
            intro h
            have e : isB (u.data.toList.getD n 0) = true := by
              rw [HI.out]
              rcases h with h | h <;> simp [h]
            have := HS.out
            rw [e, if_pos rfl] at this
            refine ⟨by simp; omega, by simp; omega, ?_⟩
            rw [head17, list_ba, ← this]
            exact HU.out
          by_cases e32 : b = 32
          · have HF := Lib.hid (HG.out (.inl (by rw [e32]; rfl)))
            subst e32
            go_wp2
            go_round
            case rel => exact ⟨_, rfl, HF.out.1, HF.out.2.2⟩
            case measure => have := HF.out.2.1; simp only [strLen] at *; omega
          · have q1 : ((b : Int) == 32) = false := by
              have : ¬ (b : Int) = 32 := by omega
              simpa using this
            by_cases e9 : b = 9
            · have HF := Lib.hid (HG.out (.inr (by rw [e9]; rfl)))
              subst e9
              go_wp2
              go_round
              case rel => exact ⟨_, rfl, HF.out.1, HF.out.2.2⟩
              case measure => have := HF.out.2.1; simp only [strLen] at *; omega
            · have q2 : ((b : Int) == 9) = false := by
                have : ¬ (b : Int) = 9 := by omega
                simpa using this
              have HE : RowKit.Hid (X = u.data.toList) := by
                show _ = _
                have e : isB (u.data.toList.getD n 0) = false := by rw [HI.out, q1, q2]; rfl
                have := HS.out
                rw [e, if_neg (by simp)] at this
                rw [← HU.out, this]
              go_wp2
              go_ret
              exact ⟨ret_strE (by rw [HE.out, ba_list]), rfl⟩
    · obtain ⟨b, hbi⟩ : ∃ b : Nat, bt t 0 = b := ⟨_, HB.out 0⟩
      have HI : RowKit.Hid (isB (t.data.toList.getD 0 0) = (((b : Int) == 32) || ((b : Int) == 9))) := isB_of _ _ (by have := HB.out 0; omega)
      have HS := Lib.hid (trimL_head t.data.toList (by rw [HL.out]; omega))
      have hpos : (0 : Int) < (t.size : Int) := by omega
      have HG : RowKit.Hid (((b : Int) == 32) = true ∨ ((b : Int) == 9) = true → (t.extract 1 t.size).size ≤ 1000 ∧ (t.extract 1 t.size).size + 1 = t.size ∧ trimF (t.extract 1 t.size).data.toList = X) := by
        intro h
        have e : isB (t.data.toList.getD 0 0) = true := by
          rw [HI.out]
          rcases h with h | h <;> simp [h]
        have := HS.out
        rw [e, if_pos rfl] at this
        refine ⟨by simp; omega, by simp; omega, ?_⟩
        rw [rest_list, list_ba]
        have h2 := HT.out
        unfold trimF at *
        rw [this] at h2
        exact h2
      by_cases e32 : b = 32
      · have HF := Lib.hid (HG.out (.inl (by rw [e32]; rfl)))
        subst e32
        go_wp2
        go_round
        case rel => exact ⟨_, rfl, HF.out.1, HF.out.2.2⟩
        case measure => have := HF.out.2.1; simp only [strLen] at *; omega
      · have q1 : ((b : Int) == 32) = false := by
          have : ¬ (b : Int) = 32 := by omega
          simpa using this
        by_cases e9 : b = 9
        · have HF := Lib.hid (HG.out (.inr (by rw [e9]; rfl)))
          subst e9
          go_wp2
          go_round
          case rel => exact ⟨_, rfl, HF.out.1, HF.out.2.2⟩
          case measure => have := HF.out.2.1; simp only [strLen] at *; omega
        · have q2 : ((b : Int) == 9) = false := by
            have : ¬ (b : Int) = 9 := by omega
            simpa using this
          have HR : RowKit.Hid (trimR t.data.toList = X) := by
            show _ = _
            have e : isB (t.data.toList.getD 0 0) = false := by rw [HI.out, q1, q2]; rfl
            have := HS.out
            rw [e, if_neg (by simp)] at this
            have h2 := HT.out
            unfold trimF at h2
            rw [this] at h2
            exact h2
          clear HI HS HG e32 e9
          go_wp2
          go_loop [0] (fun v => ∃ u : ByteArray, v = .string u ∧ u.size ≤ 1000 ∧ RowKit.Hid (trimR u.data.toList = X)) strLen
          case atStart => exact ⟨t, rfl, ht, HR⟩
          case round =>
            obtain ⟨u, rfl, hu, HU⟩ := hrel
            clear hb HL HB HR HT
            have hb := get_bt u
            have HL : RowKit.Hid (u.data.toList.length = u.size) := len_list u
            have HB : RowKit.Hid (∀ k, bt u k = ((u.data.toList.getD k 0).toNat : Int)) := bt_list u
            by_cases h0 : u.size = 0
            · have HE : RowKit.Hid (X = u.data.toList) := by
                show _ = _
                rw [← HU.out, List.eq_nil_of_length_eq_zero (show u.data.toList.length = 0 by rw [HL.out]; exact h0)]
                rfl
              go_wp2
              go_ret
              exact ⟨ret_strE (by rw [HE.out, ba_list]), rfl⟩
            · obtain ⟨n, hn⟩ : ∃ n, u.size = n + 1 := ⟨u.size - 1, by omega⟩
              obtain ⟨b, hbi⟩ : ∃ b : Nat, bt u n = b := ⟨_, HB.out n⟩
              have HI : RowKit.Hid (isB (u.data.toList.getD n 0) = (((b : Int) == 32) || ((b : Int) == 9))) := isB_of _ _ (by have := HB.out n; omega)
              have HS := Lib.hid (trimR_last u.data.toList n (by rw [HL.out]; exact hn))
              have hl1 : (u.size : Int) - 1 = (n : Int) := by omega
              have hpos : (0 : Int) < (u.size : Int) := by omega
              have HG : RowKit.Hid (((b : Int) == 32) = true ∨ ((b : Int) == 9) = true → (u.extract 0 n).size ≤ 1000 ∧ (u.extract 0 n).size = n ∧ trimR (u.extract 0 n).data.toList = X) := by
                intro h
                have e : isB (u.data.toList.getD n 0) = true := by
                  rw [HI.out]
                  rcases h with h | h <;> simp [h]
                have := HS.out
                rw [e, if_pos rfl] at this
                refine ⟨by simp; omega, by simp; omega, ?_⟩
                rw [head17, list_ba, ← this]
                exact HU.out
              by_cases e32 : b = 32
              · have HF := Lib.hid (HG.out (.inl (by rw [e32]; rfl)))
                subst e32
                go_wp2
                go_round
                case rel => exact ⟨_, rfl, HF.out.1, HF.out.2.2⟩
                case measure => have := HF.out.2.1; simp only [strLen] at *; omega
              · have q1 : ((b : Int) == 32) = false := by
                  have : ¬ (b : Int) = 32 := by omega
                  simpa using this
                by_cases e9 : b = 9
                · have HF := Lib.hid (HG.out (.inr (by rw [e9]; rfl)))
                  subst e9
                  go_wp2
                  go_round
                  case rel => exact ⟨_, rfl, HF.out.1, HF.out.2.2⟩
                  case measure => have := HF.out.2.1; simp only [strLen] at *; omega
                · have q2 : ((b : Int) == 9) = false := by
                    have : ¬ (b : Int) = 9 := by omega
                    simpa using this
                  have HE : RowKit.Hid (X = u.data.toList) := by
                    show _ = _
                    have e : isB (u.data.toList.getD n 0) = false := by rw [HI.out, q1, q2]; rfl
                    have := HS.out
                    rw [e, if_neg (by simp)] at this
                    rw [← HU.out, this]
                  go_wp2
                  go_ret
                  exact ⟨ret_strE (by rw [HE.out, ba_list]), rfl⟩
end Go.Proofs.YtkledfalplekeaaDoor
