/- What names and mounts are, by the document's answers and by package word, for whatever texts. -/
import Derived.Test.YtkledfalplekeaaDoorWrdB
import Derived.Test.YtkledfalplekeaaDoorShelf
namespace Go.Proofs.YtkledfalplekeaaDoor
open Go.RowKit Go.PlainAid
set_option linter.unusedVariables false

/-! ### Mounts, by the document's answer -/
def mountP (c : Int) : Bool := plainB c || (c == 46 || c == 45 || c == 95)
theorem mountP_yes {b : Nat} (h : plainB b = true) : mountP b = true := by unfold mountP; rw [h]; rfl
theorem mountP_no {b : Nat} (h : plainB b = false) (h1 : ¬ b = 46) (h2 : ¬ b = 45) (h3 : ¬ b = 95) : mountP b = false := by
  unfold mountP
  rw [h]
  have a1 : ¬ (b : Int) = 46 := by omega
  have a2 : ¬ (b : Int) = 45 := by omega
  have a3 : ¬ (b : Int) = 95 := by omega
  simp [a1, a2, a3]
theorem mountP_46 {b : Nat} (h : b = 46) : mountP b = true := by subst h; decide
theorem mountP_45 {b : Nat} (h : b = 45) : mountP b = true := by subst h; decide
theorem mountP_95 {b : Nat} (h : b = 95) : mountP b = true := by subst h; decide
def mountF (l : List UInt8) : Bool := (decide (2 ≤ l.length) && decide (l.length ≤ 20) && decide ((l.getD 0 0).toNat = 47)) && okTo mountP (l.drop 1)
theorem bneN {b k : Nat} (h : ¬ b = k) : ((b : Int) != (k : Nat)) = true := by
  have : ¬ (b : Int) = (k : Nat) := by omega
  simpa using this
theorem drop_getD (l : List UInt8) (k : Nat) : (l.drop 1).getD k 0 = l.getD (k + 1) 0 := by
  rw [List.getD_eq_getElem?_getD, List.getD_eq_getElem?_getD, List.getElem?_drop, Nat.add_comm]
set_option maxHeartbeats 4000000 in
set_option maxRecDepth 100000 in
theorem refMount_any (s : ByteArray) (w : World) (hs : s.size ≤ 1000) :
    Calls Tryd.prog 19 #[.string s] w fun e w' => e = .returned (.bool (mountF s.data.toList)) ∧ w = w' := by
  have hb := get_bt s
  have HL : RowKit.Hid (s.data.toList.length = s.size) := len_list s
  have HB : RowKit.Hid (∀ k, bt s k = ((s.data.toList.getD k 0).toNat : Int)) := bt_list s
  obtain ⟨X, hX⟩ : ∃ X, mountF s.data.toList = X := ⟨_, rfl⟩
  have HX := Lib.hid hX
  rw [hX]
  clear hX
  obtain ⟨b0, hb0⟩ : ∃ b : Nat, bt s 0 = b := ⟨_, HB.out 0⟩
  have HF : RowKit.Hid ((s.size < 2 ∨ 20 < s.size ∨ ¬ b0 = 47) → X = false) := by
    intro h
    rw [← HX.out]
    unfold mountF
    have e : (s.data.toList.getD 0 0).toNat = b0 := by have := HB.out 0; omega
    rw [HL.out, e]
    have : (decide (2 ≤ s.size) && decide (s.size ≤ 20) && decide (b0 = 47)) = false := by
      rcases h with h | h | h
      · have : ¬ 2 ≤ s.size := by omega
        simp [this]
      · have : ¬ s.size ≤ 20 := by omega
        simp [this]
      · simp [h]
    rw [this]
    rfl
  have HT : RowKit.Hid (¬ s.size < 2 → ¬ 20 < s.size → b0 = 47 → X = okTo mountP (s.data.toList.drop 1)) := by
    intro h1 h2 h3
    rw [← HX.out]
    unfold mountF
    have e : (s.data.toList.getD 0 0).toNat = b0 := by have := HB.out 0; omega
    rw [HL.out, e]
    have a1 : 2 ≤ s.size := by omega
    have a2 : s.size ≤ 20 := by omega
    simp [a1, a2, h3]
  by_cases k1 : s.size < 2
  · go_enter Tryd.func19, Tryd.ntmps19
    go_wp2
    go_ret
    exact ⟨ret_boolE (HF.out (.inl k1)).symm, rfl⟩
  by_cases k2 : 20 < s.size
  · go_enter Tryd.func19, Tryd.ntmps19
    go_wp2
    go_ret
    exact ⟨ret_boolE (HF.out (.inr (.inl k2))).symm, rfl⟩
  by_cases k3 : b0 = 47
  · have HT2 : RowKit.Hid (X = okTo mountP (s.data.toList.drop 1)) := HT.out k1 k2 k3
    have hb0' : bt s 0 = 47 := by rw [hb0, k3]; rfl
    clear hb0 k3 HF HT
    go_enter Tryd.func19, Tryd.ntmps19
    go_wp2
    go_loop [3] (fun v => ∃ i : Nat, v = .int .i64 ((i + 1 : Nat) : Int) ∧ i + 1 ≤ s.size ∧ okTo mountP ((s.data.toList.drop 1).take i) = true) (fun v => s.size - (intOf v).toNat)
    case atStart => exact ⟨0, rfl, by omega, rfl⟩
    case round =>
      obtain ⟨i, rfl, hi, hok⟩ := hrel
      have HOK := Lib.hid hok
      clear hok
      by_cases hlt : i + 1 < s.size
      · obtain ⟨b, hbi⟩ : ∃ b : Nat, bt s (i + 1) = b := ⟨_, HB.out (i + 1)⟩
        have HBI : RowKit.Hid (bt s (i + 1) = b) := hbi
        have C := refPlain_any (b : Int) w
        have HY : RowKit.Hid (mountP b = true → okTo mountP ((s.data.toList.drop 1).take (i + 1)) = true) := by
          intro h
          rw [okTo_take _ _ _ (by rw [List.length_drop, HL.out]; omega), HOK.out, drop_getD, ← HB.out (i + 1), HBI.out, h]
          rfl
        have HN : RowKit.Hid (mountP b = false → X = false) := by
          intro h
          rw [HT2.out]
          exact okTo_no mountP _ i (by rw [List.length_drop, HL.out]; omega) (by rw [drop_getD, ← HB.out (i + 1), HBI.out, h])
        by_cases hp : plainB b = true
        · rw [hp] at C
          have HP : RowKit.Hid (mountP b = true) := mountP_yes hp
          clear hp
          go_wp2_with (go_at_call 27; refine C.mono ?_; rintro e w' ⟨rfl, rfl⟩)
          go_round
          case rel => exact ⟨i + 1, by go_num, by omega, HY.out HP.out⟩
          case measure => simp [intOf]; omega
        have hp' : plainB b = false := by simpa using hp
        by_cases q46 : b = 46
        · have HP : RowKit.Hid (mountP b = true) := mountP_46 q46
          have hbk : bt s (i + 1) = 46 := by rw [hbi, q46]; rfl
          have C := refPlain_any 46 w
          rw [show plainB 46 = false by decide] at C
          clear hp hp' hbi HBI q46
          go_wp2_with (go_at_call 27; refine C.mono ?_; rintro e w' ⟨rfl, rfl⟩)
          go_round
          case rel => exact ⟨i + 1, by go_num, by omega, HY.out HP.out⟩
          case measure => simp [intOf]; omega
        by_cases q45 : b = 45
        · have HP : RowKit.Hid (mountP b = true) := mountP_45 q45
          have hbk : bt s (i + 1) = 45 := by rw [hbi, q45]; rfl
          have C := refPlain_any 45 w
          rw [show plainB 45 = false by decide] at C
          clear hp hp' hbi HBI q45
          go_wp2_with (go_at_call 27; refine C.mono ?_; rintro e w' ⟨rfl, rfl⟩)
          go_round
          case rel => exact ⟨i + 1, by go_num, by omega, HY.out HP.out⟩
          case measure => simp [intOf]; omega
        by_cases q95 : b = 95
        · have HP : RowKit.Hid (mountP b = true) := mountP_95 q95
          have hbk : bt s (i + 1) = 95 := by rw [hbi, q95]; rfl
          have C := refPlain_any 95 w
          rw [show plainB 95 = false by decide] at C
          clear hp hp' hbi HBI q95
          go_wp2_with (go_at_call 27; refine C.mono ?_; rintro e w' ⟨rfl, rfl⟩)
          go_round
          case rel => exact ⟨i + 1, by go_num, by omega, HY.out HP.out⟩
          case measure => simp [intOf]; omega
        · rw [hp'] at C
          have HP : RowKit.Hid (mountP b = false) := mountP_no hp' q46 q45 q95
          have n46 : ((b : Int) != 46) = true := bneN (k := 46) q46
          have n45 : ((b : Int) != 45) = true := bneN (k := 45) q45
          have n95 : ((b : Int) != 95) = true := bneN (k := 95) q95
          clear hp hp' q46 q45 q95
          go_wp2_with (go_at_call 27; refine C.mono ?_; rintro e w' ⟨rfl, rfl⟩)
          go_ret
          exact ⟨ret_boolE (HN.out HP.out).symm, rfl⟩
      · have HE : RowKit.Hid (X = true) := by
          show _ = _
          rw [HT2.out, ← okTo_all mountP _ i (by rw [List.length_drop, HL.out]; omega), HOK.out]
        go_wp2
        go_ret
        exact ⟨ret_boolE HE.out.symm, rfl⟩
  · have n47 : ((b0 : Int) != 47) = true := bneN (k := 47) k3
    go_enter Tryd.func19, Tryd.ntmps19
    go_wp2
    go_ret
    exact ⟨ret_boolE (HF.out (.inr (.inr k3))).symm, rfl⟩

/-! ### Letters, figures, and some others -/
def isP (o : ByteArray) (c : Int) : Bool := plainB c || decide (0 ≤ Lib.indexByte o.data.toList c.toNat.toUInt8)
theorem plain_cases (c : Int) (h : plainB c = true) : (97 ≤ c ∧ c ≤ 122) ∨ (65 ≤ c ∧ c ≤ 90) ∨ (48 ≤ c ∧ c ≤ 57) := by
  unfold plainB at h
  exact of_decide_eq_true h
theorem plain_not (c : Int) (h : plainB c = false) : ¬ ((97 ≤ c ∧ c ≤ 122) ∨ (65 ≤ c ∧ c ≤ 90) ∨ (48 ≤ c ∧ c ≤ 57)) := by
  unfold plainB at h
  exact of_decide_eq_false h
set_option maxHeartbeats 4000000 in
set_option maxRecDepth 100000 in
theorem isPlain_any (s o : ByteArray) (w : World) (hs : s.size ≤ 1000) :
    Calls Tryd.prog 46 #[.string s, .string o] w fun e w' => e = .returned (.bool (okTo (isP o) s.data.toList)) ∧ w = w' := by
  have hb := get_bt s
  have HL : RowKit.Hid (s.data.toList.length = s.size) := len_list s
  have HB : RowKit.Hid (∀ k, bt s k = ((s.data.toList.getD k 0).toNat : Int)) := bt_list s
  obtain ⟨X, hX⟩ : ∃ X, okTo (isP o) s.data.toList = X := ⟨_, rfl⟩
  have HX := Lib.hid hX
  rw [hX]
  clear hX
  go_enter Tryd.func46, Tryd.ntmps46
  go_wp2
  go_loop [9] (fun v => ∃ i : Nat, v = .int .i64 i ∧ i ≤ s.size ∧ okTo (isP o) (s.data.toList.take i) = true) (fun v => s.size - (intOf v).toNat)
  case atStart => exact ⟨0, rfl, by omega, rfl⟩
  case round =>
    obtain ⟨i, rfl, hi, hok⟩ := hrel
    have HOK := Lib.hid hok
    clear hok
    by_cases hlt : i < s.size
    · obtain ⟨b, hbi⟩ : ∃ b : Nat, bt s i = b := ⟨_, HB.out i⟩
      have HBI : RowKit.Hid (bt s i = b) := hbi
      have HY : RowKit.Hid (isP o b = true → okTo (isP o) (s.data.toList.take (i + 1)) = true) := by
        intro h
        rw [okTo_take _ _ _ (by rw [HL.out]; exact hlt), HOK.out, ← HB.out i, HBI.out, h]
        rfl
      have HN : RowKit.Hid (isP o b = false → X = false) := by
        intro h
        rw [← HX.out]
        exact okTo_no (isP o) _ i (by rw [HL.out]; exact hlt) (by rw [← HB.out i, HBI.out, h])
      by_cases hp : plainB b = true
      · have HP : RowKit.Hid (isP o b = true) := by show _ = _; unfold isP; rw [hp]; rfl
        have hc := plain_cases _ hp
        clear hp
        rcases hc with c | c | c
        all_goals
          go_wp2
          all_goals
            first
            | (exfalso; omega)
            | (go_round
               case rel => exact ⟨i + 1, by go_num, by omega, HY.out HP.out⟩
               case measure => simp [intOf]; omega)
      · have hp' : plainB b = false := by simpa using hp
        have C := Tryd.strings_IndexByte o (b : Int) w
        obtain ⟨v, hv⟩ : ∃ v, Lib.indexByte o.data.toList ((b : Int)).toNat.toUInt8 = v := ⟨_, rfl⟩
        rw [hv] at C
        have hn := plain_not _ hp'
        by_cases hv0 : v < 0
        · have HP : RowKit.Hid (isP o b = false) := by show _ = _; unfold isP; rw [hp', hv]; simp; omega
          clear hp hp' hv
          go_wp2_with (go_at_call 61; refine C.mono ?_; rintro e w' ⟨rfl, rfl⟩)
          all_goals
            first
            | (exfalso; omega)
            | (go_ret; exact ⟨ret_boolE (HN.out HP.out).symm, rfl⟩)
        · have HP : RowKit.Hid (isP o b = true) := by show _ = _; unfold isP; rw [hp', hv]; simp; omega
          clear hp hp' hv
          go_wp2_with (go_at_call 61; refine C.mono ?_; rintro e w' ⟨rfl, rfl⟩)
          all_goals
            first
            | (exfalso; omega)
            | (go_round
               case rel => exact ⟨i + 1, by go_num, by omega, HY.out HP.out⟩
               case measure => simp [intOf]; omega)
    · have HE : RowKit.Hid (X = true) := by
        show _ = _
        rw [← HX.out, ← okTo_all (isP o) _ i (by rw [HL.out]; omega), HOK.out]
      go_wp2
      go_ret
      exact ⟨ret_boolE HE.out.symm, rfl⟩
end Go.Proofs.YtkledfalplekeaaDoor
