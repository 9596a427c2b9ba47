/- Plain facts, and what functions give, for the proofs of this seat: several texts in one, each with its own first remark. -/
import Derived.Test.YtmgfkdmjgjlkjaaGreatCD

namespace Go.Proofs.YtmgfkdmjgjlkjaaGreat
open Go.RowKit Go.PlainAid
set_option linter.unusedVariables false
def mountP (c : Int) : Bool := plainB c || (c == 46 || c == 45 || c == 95)
theorem mountP_yes {b : Nat} (h : plainB b = true) : mountP b = true := by unfold mountP; rw [h]; rfl
theorem mountP_no {b : Nat} (h : plainB b = false) (h1 : ¬ b = 46) (h2 : ¬ b = 45) (h3 : ¬ b = 95) : mountP b = false := by
  unfold mountP
  rw [h]
  have a1 : ¬ (b : Int) = 46 := by omega
  have a2 : ¬ (b : Int) = 45 := by omega
  have a3 : ¬ (b : Int) = 95 := by omega
  simp [a1, a2, a3]
theorem mountP_46 {b : Nat} (h : b = 46) : mountP b = true := by subst h; decide
theorem mountP_45 {b : Nat} (h : b = 45) : mountP b = true := by subst h; decide
theorem mountP_95 {b : Nat} (h : b = 95) : mountP b = true := by subst h; decide
def mountF (l : List UInt8) : Bool := (decide (2 ≤ l.length) && decide (l.length ≤ 20) && decide ((l.getD 0 0).toNat = 47)) && okTo mountP (l.drop 1)
theorem bneN {b k : Nat} (h : ¬ b = k) : ((b : Int) != (k : Nat)) = true := by
  have : ¬ (b : Int) = (k : Nat) := by omega
  simpa using this
theorem drop_getD (l : List UInt8) (k : Nat) : (l.drop 1).getD k 0 = l.getD (k + 1) 0 := by
  rw [List.getD_eq_getElem?_getD, List.getD_eq_getElem?_getD, List.getElem?_drop, Nat.add_comm]
set_option maxHeartbeats 4000000 in
set_option maxRecDepth 100000 in
theorem refMount_any (s : ByteArray) (w : World) (hs : s.size ≤ 9223372036854775807) :
    Calls Tryz.prog 24 #[.string s] w fun e w' => e = .returned (.bool (mountF s.data.toList)) ∧ w = w' := by
  have hb := get_bt s
  have HL : RowKit.Hid (s.data.toList.length = s.size) := len_list s
  have HB : RowKit.Hid (∀ k, bt s k = ((s.data.toList.getD k 0).toNat : Int)) := bt_list s
  obtain ⟨X, hX⟩ : ∃ X, mountF s.data.toList = X := ⟨_, rfl⟩
  have HX := Lib.hid hX
  rw [hX]
  clear hX
  obtain ⟨b0, hb0⟩ : ∃ b : Nat, bt s 0 = b := ⟨_, HB.out 0⟩
  have HF : RowKit.Hid ((s.size < 2 ∨ 20 < s.size ∨ ¬ b0 = 47) → X = false) := by
    intro h
    rw [← HX.out]
    unfold mountF
    have e : (s.data.toList.getD 0 0).toNat = b0 := by have := HB.out 0; omega
    rw [HL.out, e]
    have : (decide (2 ≤ s.size) && decide (s.size ≤ 20) && decide (b0 = 47)) = false := by
      rcases h with h | h | h
      · have : ¬ 2 ≤ s.size := by omega
        simp [this]
      · have : ¬ s.size ≤ 20 := by omega
        simp [this]
      · simp [h]
    rw [this]
    rfl
  have HT : RowKit.Hid (¬ s.size < 2 → ¬ 20 < s.size → b0 = 47 → X = okTo mountP (s.data.toList.drop 1)) := by
    intro h1 h2 h3
    rw [← HX.out]
    unfold mountF
    have e : (s.data.toList.getD 0 0).toNat = b0 := by have := HB.out 0; omega
    rw [HL.out, e]
    have a1 : 2 ≤ s.size := by omega
    have a2 : s.size ≤ 20 := by omega
    simp [a1, a2, h3]
  by_cases k1 : s.size < 2
  · go_enter Tryz.func24, Tryz.ntmps24
    go_wp2
    go_ret
    exact ⟨ret_boolE (HF.out (.inl k1)).symm, rfl⟩
  by_cases k2 : 20 < s.size
  · go_enter Tryz.func24, Tryz.ntmps24
    go_wp2
    go_ret
    exact ⟨ret_boolE (HF.out (.inr (.inl k2))).symm, rfl⟩
  by_cases k3 : b0 = 47
  · have HT2 : RowKit.Hid (X = okTo mountP (s.data.toList.drop 1)) := HT.out k1 k2 k3
    have hb0' : bt s 0 = 47 := by rw [hb0, k3]; rfl
    clear hb0 k3 HF HT
    go_enter Tryz.func24, Tryz.ntmps24
    go_wp2
    go_loop [3] (fun v => ∃ i : Nat, v = .int .i64 ((i + 1 : Nat) : Int) ∧ i + 1 ≤ s.size ∧ okTo mountP ((s.data.toList.drop 1).take i) = true) (fun v => s.size - (intOf v).toNat)
    case atStart => exact ⟨0, rfl, by omega, rfl⟩
    case round =>
      obtain ⟨i, rfl, hi, hok⟩ := hrel
      have HOK := Lib.hid hok
      clear hok
      by_cases hlt : i + 1 < s.size
      · obtain ⟨b, hbi⟩ : ∃ b : Nat, bt s (i + 1) = b := ⟨_, HB.out (i + 1)⟩
        have HBI : RowKit.Hid (bt s (i + 1) = b) := hbi
        have C := refPlain_any (b : Int) w
        have HY : RowKit.Hid (mountP b = true → okTo mountP ((s.data.toList.drop 1).take (i + 1)) = true) := by
          intro h
          rw [okTo_take _ _ _ (by rw [List.length_drop, HL.out]; omega), HOK.out, drop_getD, ← HB.out (i + 1), HBI.out, h]
          rfl
        have HN : RowKit.Hid (mountP b = false → X = false) := by
          intro h
          rw [HT2.out]
          exact okTo_no mountP _ i (by rw [List.length_drop, HL.out]; omega) (by rw [drop_getD, ← HB.out (i + 1), HBI.out, h])
        by_cases hp : plainB b = true
        · rw [hp] at C
          have HP : RowKit.Hid (mountP b = true) := mountP_yes hp
          clear hp
          go_wp2_with (go_at_call 52; refine C.mono ?_; rintro e w' ⟨rfl, rfl⟩)
          go_round
          case rel => exact ⟨i + 1, by go_num, by omega, HY.out HP.out⟩
          case measure => simp [intOf]; omega
        have hp' : plainB b = false := by simpa using hp
        by_cases q46 : b = 46
        · have HP : RowKit.Hid (mountP b = true) := mountP_46 q46
          have hbk : bt s (i + 1) = 46 := by rw [hbi, q46]; rfl
          have C := refPlain_any 46 w
          rw [show plainB 46 = false by decide] at C
          clear hp hp' hbi HBI q46
          go_wp2_with (go_at_call 52; refine C.mono ?_; rintro e w' ⟨rfl, rfl⟩)
          go_round
          case rel => exact ⟨i + 1, by go_num, by omega, HY.out HP.out⟩
          case measure => simp [intOf]; omega
        by_cases q45 : b = 45
        · have HP : RowKit.Hid (mountP b = true) := mountP_45 q45
          have hbk : bt s (i + 1) = 45 := by rw [hbi, q45]; rfl
          have C := refPlain_any 45 w
          rw [show plainB 45 = false by decide] at C
          clear hp hp' hbi HBI q45
          go_wp2_with (go_at_call 52; refine C.mono ?_; rintro e w' ⟨rfl, rfl⟩)
          go_round
          case rel => exact ⟨i + 1, by go_num, by omega, HY.out HP.out⟩
          case measure => simp [intOf]; omega
        by_cases q95 : b = 95
        · have HP : RowKit.Hid (mountP b = true) := mountP_95 q95
          have hbk : bt s (i + 1) = 95 := by rw [hbi, q95]; rfl
          have C := refPlain_any 95 w
          rw [show plainB 95 = false by decide] at C
          clear hp hp' hbi HBI q95
          go_wp2_with (go_at_call 52; refine C.mono ?_; rintro e w' ⟨rfl, rfl⟩)
          go_round
          case rel => exact ⟨i + 1, by go_num, by omega, HY.out HP.out⟩
          case measure => simp [intOf]; omega
        · rw [hp'] at C
          have HP : RowKit.Hid (mountP b = false) := mountP_no hp' q46 q45 q95
          have n46 : ((b : Int) != 46) = true := bneN (k := 46) q46
          have n45 : ((b : Int) != 45) = true := bneN (k := 45) q45
          have n95 : ((b : Int) != 95) = true := bneN (k := 95) q95
          clear hp hp' q46 q45 q95
          go_wp2_with (go_at_call 52; refine C.mono ?_; rintro e w' ⟨rfl, rfl⟩)
          go_ret
          exact ⟨ret_boolE (HN.out HP.out).symm, rfl⟩
      · have HE : RowKit.Hid (X = true) := by
          show _ = _
          rw [HT2.out, ← okTo_all mountP _ i (by rw [List.length_drop, HL.out]; omega), HOK.out]
        go_wp2
        go_ret
        exact ⟨ret_boolE HE.out.symm, rfl⟩
  · have n47 : ((b0 : Int) != 47) = true := bneN (k := 47) k3
    go_enter Tryz.func24, Tryz.ntmps24
    go_wp2
    go_ret
    exact ⟨ret_boolE (HF.out (.inr (.inr k3))).symm, rfl⟩
def isP (o : ByteArray) (c : Int) : Bool := plainB c || decide (0 ≤ Lib.indexByte o.data.toList c.toNat.toUInt8)
theorem plain_cases (c : Int) (h : plainB c = true) : (97 ≤ c ∧ c ≤ 122) ∨ (65 ≤ c ∧ c ≤ 90) ∨ (48 ≤ c ∧ c ≤ 57) := by
  unfold plainB at h
  exact of_decide_eq_true h
theorem plain_not (c : Int) (h : plainB c = false) : ¬ ((97 ≤ c ∧ c ≤ 122) ∨ (65 ≤ c ∧ c ≤ 90) ∨ (48 ≤ c ∧ c ≤ 57)) := by
  unfold plainB at h
  exact of_decide_eq_false h
set_option maxHeartbeats 4000000 in
set_option maxRecDepth 100000 in
theorem isPlain_any (s o : ByteArray) (w : World) (hs : s.size ≤ 1000) :
    Calls Tryz.prog 121 #[.string s, .string o] w fun e w' => e = .returned (.bool (okTo (isP o) s.data.toList)) ∧ w = w' := by
  have hb := get_bt s
  have HL : RowKit.Hid (s.data.toList.length = s.size) := len_list s
  have HB : RowKit.Hid (∀ k, bt s k = ((s.data.toList.getD k 0).toNat : Int)) := bt_list s
  obtain ⟨X, hX⟩ : ∃ X, okTo (isP o) s.data.toList = X := ⟨_, rfl⟩
  have HX := Lib.hid hX
  rw [hX]
  clear hX
  go_enter Tryz.func121, Tryz.ntmps121
  go_wp2
  go_loop [9] (fun v => ∃ i : Nat, v = .int .i64 i ∧ i ≤ s.size ∧ okTo (isP o) (s.data.toList.take i) = true) (fun v => s.size - (intOf v).toNat)
  case atStart => exact ⟨0, rfl, by omega, rfl⟩
  case round =>
    obtain ⟨i, rfl, hi, hok⟩ := hrel
    have HOK := Lib.hid hok
    clear hok
    by_cases hlt : i < s.size
    · obtain ⟨b, hbi⟩ : ∃ b : Nat, bt s i = b := ⟨_, HB.out i⟩
      have HBI : RowKit.Hid (bt s i = b) := hbi
      have HY : RowKit.Hid (isP o b = true → okTo (isP o) (s.data.toList.take (i + 1)) = true) := by
        intro h
        rw [okTo_take _ _ _ (by rw [HL.out]; exact hlt), HOK.out, ← HB.out i, HBI.out, h]
        rfl
      have HN : RowKit.Hid (isP o b = false → X = false) := by
        intro h
        rw [← HX.out]
        exact okTo_no (isP o) _ i (by rw [HL.out]; exact hlt) (by rw [← HB.out i, HBI.out, h])
      by_cases hp : plainB b = true
      · have HP : RowKit.Hid (isP o b = true) := by show _ = _; unfold isP; rw [hp]; rfl
        have hc := plain_cases _ hp
        clear hp
        rcases hc with c | c | c
        all_goals
          go_wp2
          all_goals
            first
            | (exfalso; omega)
            | (go_round
               case rel => exact ⟨i + 1, by go_num, by omega, HY.out HP.out⟩
               case measure => simp [intOf]; omega)
      · have hp' : plainB b = false := by simpa using hp
        have C := Tryz.strings_IndexByte o (b : Int) w
        obtain ⟨v, hv⟩ : ∃ v, Lib.indexByte o.data.toList ((b : Int)).toNat.toUInt8 = v := ⟨_, rfl⟩
        rw [hv] at C
        have hn := plain_not _ hp'
        by_cases hv0 : v < 0
        · have HP : RowKit.Hid (isP o b = false) := by show _ = _; unfold isP; rw [hp', hv]; simp; omega
          clear hp hp' hv
          go_wp2_with (go_at_call 151; refine C.mono ?_; rintro e w' ⟨rfl, rfl⟩)
          all_goals
            first
            | (exfalso; omega)
            | (go_ret; exact ⟨ret_boolE (HN.out HP.out).symm, rfl⟩)
        · have HP : RowKit.Hid (isP o b = true) := by show _ = _; unfold isP; rw [hp', hv]; simp; omega
          clear hp hp' hv
          go_wp2_with (go_at_call 151; refine C.mono ?_; rintro e w' ⟨rfl, rfl⟩)
          all_goals
            first
            | (exfalso; omega)
            | (go_round
               case rel => exact ⟨i + 1, by go_num, by omega, HY.out HP.out⟩
               case measure => simp [intOf]; omega)
    · have HE : RowKit.Hid (X = true) := by
        show _ = _
        rw [← HX.out, ← okTo_all (isP o) _ i (by rw [HL.out]; omega), HOK.out]
      go_wp2
      go_ret
      exact ⟨ret_boolE HE.out.symm, rfl⟩
end Go.Proofs.YtmgfkdmjgjlkjaaGreat

namespace Go.Proofs.YtmgfkdmjgjlkjaaGreat
open Go.RowKit Go.PlainAid
set_option linter.unusedVariables false
theorem okTo_congr {p q : Int → Bool} (h : ∀ c : Fin 256, p (c.val : Int) = q (c.val : Int)) (l : List UInt8) : okTo p l = okTo q l := by
  unfold okTo
  congr 1
  funext c
  exact h ⟨c.toNat, c.toNat_lt⟩
theorem mount_of (l : List UInt8) : okTo (isP ⟨#[46, 45, 95]⟩) l = okTo mountP l := okTo_congr (by decide +kernel) l
set_option maxHeartbeats 4000000 in
set_option maxRecDepth 100000 in
theorem mount_any (s : ByteArray) (w : World) (hs : s.size ≤ 9223372036854775807) :
    Calls Tryz.prog 92 #[.string s] w fun e w' => e = .returned (.bool (mountF s.data.toList)) ∧ w = w' := by
  have hl := len_list s
  have C0 := Tryz.strings_CutPrefix s ⟨#[47]⟩ w
  by_cases h0 : ∃ t, s.data.toList = 47 :: t
  · obtain ⟨t, ht⟩ := h0
    have e1 : Lib.hasPrefix s.data.toList (ByteArray.mk #[47]).data.toList = true := by rw [ht]; simp [Lib.hasPrefix]
    have e2 : Lib.trimPrefix s.data.toList (ByteArray.mk #[47]).data.toList = t := by unfold Lib.trimPrefix; rw [e1, ht]; simp
    rw [e1, e2] at C0
    rw [ht] at hl
    simp only [List.length_cons] at hl
    obtain ⟨R, hR, hRd, hRs⟩ : ∃ R : ByteArray, (⟨t.toArray⟩ : ByteArray) = R ∧ R.data.toList = t ∧ R.size = t.length := ⟨_, rfl, rfl, rfl⟩
    rw [hR] at C0
    have HM : RowKit.Hid (mountF s.data.toList = ((decide (1 ≤ R.size) && decide (s.size ≤ 20)) && okTo mountP t)) := by
      show _ = _
      rw [ht]
      unfold mountF
      have a : (2 ≤ (47 :: t).length) = (1 ≤ R.size) := by rw [hRs]; simp only [List.length_cons]; exact propext ⟨fun h => by omega, fun h => by omega⟩
      have b : ((47 :: t).length ≤ 20) = (s.size ≤ 20) := by rw [← hl]; rfl
      simp only [a, b]
      simp
    have C : s.size ≤ 20 → Calls Tryz.prog 121 #[.string R, .string ⟨#[46, 45, 95]⟩] w fun e w' => e = .returned (.bool (okTo mountP t)) ∧ w = w' := by
      intro k2
      have := isPlain_any R ⟨#[46, 45, 95]⟩ w (by omega)
      rw [mount_of, hRd] at this
      exact this
    rw [HM.out]
    generalize okTo mountP t = Y at C ⊢
    by_cases k1 : 1 ≤ R.size
    · have hne : ¬ R.toList = [] := by
        intro e
        rw [Lib.toList_data, hRd] at e
        have := congrArg List.length e
        rw [List.length_nil] at this
        omega
      have hem : R.toList.isEmpty = false := by simpa using hne
      clear HM ht hR hRd e1 e2
      by_cases k2 : s.size ≤ 20
      · go_enter Tryz.func92, Tryz.ntmps92
        go_wp2_with (first | (go_at_call 120; refine C0.mono ?_; rintro e w' ⟨rfl, rfl⟩) | (go_at_call 121; refine (C k2).mono ?_; rintro e w' ⟨rfl, rfl⟩))
        go_ret
        exact ⟨ret_boolE (by simp [k1, k2]), rfl⟩
      · go_enter Tryz.func92, Tryz.ntmps92
        go_wp2_with (first | (go_at_call 120; refine C0.mono ?_; rintro e w' ⟨rfl, rfl⟩) | fail)
        go_ret
        exact ⟨ret_boolE (by simp), rfl⟩
    · have hne : R.toList = [] := by
        rw [Lib.toList_data]
        apply List.eq_nil_of_length_eq_zero
        rw [hRd]
        omega
      have hem : R.toList.isEmpty = true := by simpa using hne
      clear HM ht hR hRd e1 e2
      go_enter Tryz.func92, Tryz.ntmps92
      go_wp2_with (first | (go_at_call 120; refine C0.mono ?_; rintro e w' ⟨rfl, rfl⟩) | fail)
      go_ret
      exact ⟨ret_boolE (by simp [k1]), rfl⟩
  · have e1 : Lib.hasPrefix s.data.toList (ByteArray.mk #[47]).data.toList = false := by
      cases h : s.data.toList with
      | nil => rfl
      | cons c r =>
        have : ¬ c = 47 := fun e => h0 ⟨r, by rw [h, e]⟩
        simp only [Lib.hasPrefix, List.isPrefixOf, Bool.and_eq_false_iff]
        exact .inl (by simpa using Ne.symm this)
    have e2 : mountF s.data.toList = false := by
      unfold mountF
      cases h : s.data.toList with
      | nil => rfl
      | cons c r =>
        have : ¬ c.toNat = 47 := fun e => h0 ⟨r, by rw [h]; congr 1; exact UInt8.toNat_inj.1 e⟩
        simp [this]
    rw [e1] at C0
    rw [e2]
    generalize Lib.trimPrefix s.data.toList (ByteArray.mk #[47]).data.toList = t at C0
    obtain ⟨R, hR⟩ : ∃ R : ByteArray, (⟨t.toArray⟩ : ByteArray) = R := ⟨_, rfl⟩
    rw [hR] at C0
    clear h0 e1 e2 hR
    go_enter Tryz.func92, Tryz.ntmps92
    go_wp2_with (go_at_call 120; refine C0.mono ?_; rintro e w' ⟨rfl, rfl⟩)
    go_ret
    exact ⟨ret_boolE (by first | rfl | simp), rfl⟩
end Go.Proofs.YtmgfkdmjgjlkjaaGreat

namespace Go.Proofs.YtmgfkdmjgjlkjaaGreat
open Go.RowKit Go.PlainAid
set_option linter.unusedVariables false
set_option maxHeartbeats 4000000 in
set_option maxRecDepth 100000 in
theorem refRune_any (s : ByteArray) (w : World) (h0 : 0 < s.size) (hs : s.size ≤ 9223372036854775807) :
    Calls Tryz.prog 47 #[.string s] w fun e w' => e = .returned (.tuple #[.int .i64 (runeR s.data.toList : Nat), .int .i64 (runeN s.data.toList : Nat)]) ∧ w = w' := by
  have hb := get_bt s
  obtain ⟨b0, e0⟩ : ∃ b : Nat, (s.data.toList.getD 0 0).toNat = b := ⟨_, rfl⟩
  obtain ⟨b1, e1⟩ : ∃ b : Nat, (s.data.toList.getD 1 0).toNat = b := ⟨_, rfl⟩
  obtain ⟨b2, e2⟩ : ∃ b : Nat, (s.data.toList.getD 2 0).toNat = b := ⟨_, rfl⟩
  obtain ⟨b3, e3⟩ : ∃ b : Nat, (s.data.toList.getD 3 0).toNat = b := ⟨_, rfl⟩
  have k0 : b0 < 256 := by rw [← e0]; exact UInt8.toNat_lt _
  have k1 : b1 < 256 := by rw [← e1]; exact UInt8.toNat_lt _
  have k2 : b2 < 256 := by rw [← e2]; exact UInt8.toNat_lt _
  have k3 : b3 < 256 := by rw [← e3]; exact UInt8.toNat_lt _
  have t0 : bt s 0 = (b0 : Nat) := by rw [bt_list, e0]
  have t1 : bt s 1 = (b1 : Nat) := by rw [bt_list, e1]
  have t2 : bt s 2 = (b2 : Nat) := by rw [bt_list, e2]
  have t3 : bt s 3 = (b3 : Nat) := by rw [bt_list, e3]
  have HB : RowKit.Hid (∀ r n : Int, Lib.decodeN s.size b0 b1 b2 b3 = (65533, 1) → r = 0 → n = 0 → Ending.returned (.tuple #[.int .i64 r, .int .i64 n]) = .returned (.tuple #[.int .i64 (runeR s.data.toList : Nat), .int .i64 (runeN s.data.toList : Nat)])) := by
    intro r n h; rw [← e0, ← e1, ← e2, ← e3, ← len_list] at h; exact rune_bad h
  have HG : RowKit.Hid (∀ (r n : Int) (q k : Nat), Lib.decodeN s.size b0 b1 b2 b3 = (q, k) → ¬ (q = 65533 ∧ k = 1) → r = q → n = k → Ending.returned (.tuple #[.int .i64 r, .int .i64 n]) = .returned (.tuple #[.int .i64 (runeR s.data.toList : Nat), .int .i64 (runeN s.data.toList : Nat)])) := by
    intro r n q k h; rw [← e0, ← e1, ← e2, ← e3, ← len_list] at h; exact rune_good h
  generalize runeR s.data.toList = RR at HB HG ⊢
  generalize runeN s.data.toList = RN at HB HG ⊢
  clear e0 e1 e2 e3
  by_cases c0 : b0 < 128
  · go_enter Tryz.func47, Tryz.ntmps47
    go_wp2
    go_ret2
    exact ⟨HG.out _ _ b0 1 (Lib.decodeN_ascii _ _ _ _ _ c0) (by omega) rfl rfl, rfl⟩
  by_cases c1 : b0 < 194
  · skip
    go_enter Tryz.func47, Tryz.ntmps47
    go_wp2
    all_goals first
      | (go_ret2; exact ⟨HB.out _ _ (decN_bad _ _ _ _ _ (by omega) (by omega) (by omega)) rfl rfl, rfl⟩)
  by_cases c2 : b0 < 224
  · skip
    by_cases n1 : s.size < 2
    · skip
      go_enter Tryz.func47, Tryz.ntmps47
      go_wp2
      all_goals first
        | (go_ret2; exact ⟨HB.out _ _ (decN_bad _ _ _ _ _ (by omega) (by omega) (by omega)) rfl rfl, rfl⟩)
    by_cases x1l : b1 < 128
    · skip
      go_enter Tryz.func47, Tryz.ntmps47
      go_wp2
      go_rounds 2
      all_goals first
        | (go_ret2; exact ⟨HB.out _ _ (decN_bad _ _ _ _ _ (by omega) (by omega) (by omega)) rfl rfl, rfl⟩)
    by_cases x1h : 191 < b1
    · skip
      go_enter Tryz.func47, Tryz.ntmps47
      go_wp2
      go_rounds 2
      all_goals first
        | (go_ret2; exact ⟨HB.out _ _ (decN_bad _ _ _ _ _ (by omega) (by omega) (by omega)) rfl rfl, rfl⟩)
    go_enter Tryz.func47, Tryz.ntmps47
    go_wp2
    go_rounds 2
    all_goals first
      | (go_ret2; exact ⟨HB.out _ _ (decN_bad _ _ _ _ _ (by omega) (by omega) (by omega)) rfl rfl, rfl⟩)
      | (go_ret2; exact ⟨HG.out _ _ _ 2 (decN_2 _ _ _ _ _ (by omega) (by omega) (by omega) (by omega) (by omega)) (by omega) (by omega) rfl, rfl⟩)
  by_cases c3 : b0 < 240
  · skip
    by_cases n1 : s.size < 3
    · skip
      go_enter Tryz.func47, Tryz.ntmps47
      go_wp2
      all_goals first
        | (go_ret2; exact ⟨HB.out _ _ (decN_bad _ _ _ _ _ (by omega) (by omega) (by omega)) rfl rfl, rfl⟩)
    by_cases x1l : b1 < 128
    · skip
      go_enter Tryz.func47, Tryz.ntmps47
      go_wp2
      go_rounds 3
      all_goals first
        | (go_ret2; exact ⟨HB.out _ _ (decN_bad _ _ _ _ _ (by omega) (by omega) (by omega)) rfl rfl, rfl⟩)
    by_cases x1h : 191 < b1
    · skip
      go_enter Tryz.func47, Tryz.ntmps47
      go_wp2
      go_rounds 3
      all_goals first
        | (go_ret2; exact ⟨HB.out _ _ (decN_bad _ _ _ _ _ (by omega) (by omega) (by omega)) rfl rfl, rfl⟩)
    by_cases x2l : b2 < 128
    · skip
      go_enter Tryz.func47, Tryz.ntmps47
      go_wp2
      go_rounds 3
      all_goals first
        | (go_ret2; exact ⟨HB.out _ _ (decN_bad _ _ _ _ _ (by omega) (by omega) (by omega)) rfl rfl, rfl⟩)
    by_cases x2h : 191 < b2
    · skip
      go_enter Tryz.func47, Tryz.ntmps47
      go_wp2
      go_rounds 3
      all_goals first
        | (go_ret2; exact ⟨HB.out _ _ (decN_bad _ _ _ _ _ (by omega) (by omega) (by omega)) rfl rfl, rfl⟩)
    go_enter Tryz.func47, Tryz.ntmps47
    go_wp2
    go_rounds 3
    all_goals first
      | (go_ret2; exact ⟨HB.out _ _ (decN_bad _ _ _ _ _ (by omega) (by omega) (by omega)) rfl rfl, rfl⟩)
      | (go_ret2; exact ⟨HG.out _ _ _ 3 (decN_3 _ _ _ _ _ (by omega) (by omega) (by omega) (by omega) (by omega) (by omega) (by omega) (by omega) (by omega)) (by omega) (by omega) rfl, rfl⟩)
  by_cases c4 : b0 < 245
  · skip
    by_cases n1 : s.size < 4
    · skip
      go_enter Tryz.func47, Tryz.ntmps47
      go_wp2
      all_goals first
        | (go_ret2; exact ⟨HB.out _ _ (decN_bad _ _ _ _ _ (by omega) (by omega) (by omega)) rfl rfl, rfl⟩)
    by_cases x1l : b1 < 128
    · skip
      go_enter Tryz.func47, Tryz.ntmps47
      go_wp2
      go_rounds 4
      all_goals first
        | (go_ret2; exact ⟨HB.out _ _ (decN_bad _ _ _ _ _ (by omega) (by omega) (by omega)) rfl rfl, rfl⟩)
    by_cases x1h : 191 < b1
    · skip
      go_enter Tryz.func47, Tryz.ntmps47
      go_wp2
      go_rounds 4
      all_goals first
        | (go_ret2; exact ⟨HB.out _ _ (decN_bad _ _ _ _ _ (by omega) (by omega) (by omega)) rfl rfl, rfl⟩)
    by_cases x2l : b2 < 128
    · skip
      go_enter Tryz.func47, Tryz.ntmps47
      go_wp2
      go_rounds 4
      all_goals first
        | (go_ret2; exact ⟨HB.out _ _ (decN_bad _ _ _ _ _ (by omega) (by omega) (by omega)) rfl rfl, rfl⟩)
    by_cases x2h : 191 < b2
    · skip
      go_enter Tryz.func47, Tryz.ntmps47
      go_wp2
      go_rounds 4
      all_goals first
        | (go_ret2; exact ⟨HB.out _ _ (decN_bad _ _ _ _ _ (by omega) (by omega) (by omega)) rfl rfl, rfl⟩)
    by_cases x3l : b3 < 128
    · skip
      go_enter Tryz.func47, Tryz.ntmps47
      go_wp2
      go_rounds 4
      all_goals first
        | (go_ret2; exact ⟨HB.out _ _ (decN_bad _ _ _ _ _ (by omega) (by omega) (by omega)) rfl rfl, rfl⟩)
    by_cases x3h : 191 < b3
    · skip
      go_enter Tryz.func47, Tryz.ntmps47
      go_wp2
      go_rounds 4
      all_goals first
        | (go_ret2; exact ⟨HB.out _ _ (decN_bad _ _ _ _ _ (by omega) (by omega) (by omega)) rfl rfl, rfl⟩)
    go_enter Tryz.func47, Tryz.ntmps47
    go_wp2
    go_rounds 4
    all_goals first
      | (go_ret2; exact ⟨HB.out _ _ (decN_bad _ _ _ _ _ (by omega) (by omega) (by omega)) rfl rfl, rfl⟩)
      | (go_ret2; exact ⟨HG.out _ _ _ 4 (decN_4 _ _ _ _ _ (by omega) (by omega) (by omega) (by omega) (by omega) (by omega) (by omega) (by omega) (by omega) (by omega) (by omega)) (by omega) (by omega) rfl, rfl⟩)
  · skip
    go_enter Tryz.func47, Tryz.ntmps47
    go_wp2
    all_goals first
      | (go_ret2; exact ⟨HB.out _ _ (decN_bad _ _ _ _ _ (by omega) (by omega) (by omega)) rfl rfl, rfl⟩)
end Go.Proofs.YtmgfkdmjgjlkjaaGreat
