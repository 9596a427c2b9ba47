/- What the document's answers for names and mounts give, for whatever texts. -/
import Derived.Test.YtkledfalplekeaaDoorRows
import Derived.Test.YtkledfalplekeaaDoorWrdW
import Derived.WalkKit
import Derived.WalkLawsBesides
import Derived.WalkSpells
import Derived.Handy
namespace Go.Proofs.YtkledfalplekeaaDoor
open Go.RowKit Go.PlainAid
set_option linter.unusedVariables false

theorem ret_boolE {a b : Bool} (h : a = b) : Ending.returned (.bool a) = .returned (.bool b) := by rw [h]
def plainB (c : Int) : Bool := decide ((97 ≤ c ∧ c ≤ 122) ∨ (65 ≤ c ∧ c ≤ 90) ∨ (48 ≤ c ∧ c ≤ 57))
def okTo (p : Int → Bool) (l : List UInt8) : Bool := l.all fun c => p c.toNat
theorem okTo_take (p : Int → Bool) (l : List UInt8) (i : Nat) (h : i < l.length) : okTo p (l.take (i + 1)) = (okTo p (l.take i) && p (l.getD i 0).toNat) := by
  unfold okTo
  rw [List.take_succ_eq_append_getElem h, List.all_append]
  simp [List.getD_eq_getElem?_getD, List.getElem?_eq_getElem h]
theorem okTo_no (p : Int → Bool) (l : List UInt8) (i : Nat) (h : i < l.length) (hp : p (l.getD i 0).toNat = false) : okTo p l = false := by
  unfold okTo
  rw [List.all_eq_false]
  refine ⟨l[i], List.getElem_mem h, ?_⟩
  rw [List.getD_eq_getElem?_getD, List.getElem?_eq_getElem h] at hp
  simpa using hp
theorem okTo_all (p : Int → Bool) (l : List UInt8) (i : Nat) (h : l.length ≤ i) : okTo p (l.take i) = okTo p l := by rw [List.take_of_length_le h]
theorem okTo_nil (p : Int → Bool) : okTo p [] = true := rfl

theorem refPlain_any (c : Int) (w : World) : Calls Tryd.prog 27 #[.int .u8 c] w fun e w' => e = .returned (.bool (plainB c)) ∧ w = w' := by
  by_cases c1 : 97 ≤ c ∧ c ≤ 122
  · have e : plainB c = true := by unfold plainB; simp only [c1]; simp
    rw [e]
    go_enter Tryd.func27, Tryd.ntmps27
    go_wp2
    all_goals first | (go_ret; exact ⟨rfl, rfl⟩) | (exfalso; omega)
  by_cases c2 : 65 ≤ c ∧ c ≤ 90
  · have e : plainB c = true := by unfold plainB; simp only [c2]; simp
    rw [e]
    go_enter Tryd.func27, Tryd.ntmps27
    go_wp2
    all_goals first | (go_ret; exact ⟨rfl, rfl⟩) | (exfalso; omega)
  by_cases c3 : 48 ≤ c ∧ c ≤ 57
  · have e : plainB c = true := by unfold plainB; simp only [c3]; simp
    rw [e]
    go_enter Tryd.func27, Tryd.ntmps27
    go_wp2
    all_goals first | (go_ret; exact ⟨rfl, rfl⟩) | (exfalso; omega)
  · have e : plainB c = false := by unfold plainB; simp only [c1, c2, c3]; simp
    rw [e]
    go_enter Tryd.func27, Tryd.ntmps27
    go_wp2
    all_goals first | (go_ret; exact ⟨rfl, rfl⟩) | (go_ret; exact ⟨ret_boolE (by simp; omega), rfl⟩) | (exfalso; omega)

/-! ### Names -/
def nameP (c : Int) : Bool := plainB c || c == 45
theorem nameP_yes {b : Nat} (h : plainB b = true) : nameP b = true := by unfold nameP; rw [h]; rfl
theorem nameP_45 {b : Nat} (h : b = 45) : nameP b = true := by subst h; decide
theorem nameP_no {b : Nat} (h : plainB b = false) (h2 : ¬ b = 45) : nameP b = false := by
  unfold nameP
  rw [h]
  have : ¬ (b : Int) = 45 := by omega
  simpa using this
theorem n45 {b : Nat} (h : ¬ b = 45) : ((b : Int) != 45) = true := by
  have : ¬ (b : Int) = 45 := by omega
  simpa using this
def nameF (l : List UInt8) : Bool := okTo nameP l && (decide (1 ≤ l.length) && decide (l.length ≤ 40))
set_option maxHeartbeats 2000000 in
set_option maxRecDepth 100000 in
theorem refName_any (s : ByteArray) (w : World) (hs : s.size ≤ 1000) :
    Calls Tryd.prog 20 #[.string s] w fun e w' => e = .returned (.bool (nameF s.data.toList)) ∧ w = w' := by
  have hb := get_bt s
  have HL : RowKit.Hid (s.data.toList.length = s.size) := len_list s
  have HB : RowKit.Hid (∀ k, bt s k = ((s.data.toList.getD k 0).toNat : Int)) := bt_list s
  obtain ⟨X, hX⟩ : ∃ X, nameF s.data.toList = X := ⟨_, rfl⟩
  have HX := Lib.hid hX
  rw [hX]
  clear hX
  go_enter Tryd.func20, Tryd.ntmps20
  go_wp2
  go_loop [3] (fun v => ∃ i : Nat, v = .int .i64 i ∧ i ≤ s.size ∧ okTo nameP (s.data.toList.take i) = true) (fun v => s.size - (intOf v).toNat)
  case atStart => exact ⟨0, rfl, by omega, rfl⟩
  case round =>
    obtain ⟨i, rfl, hi, hok⟩ := hrel
    have HOK := Lib.hid hok
    clear hok
    by_cases hlt : i < s.size
    · obtain ⟨b, hbi⟩ : ∃ b : Nat, bt s i = b := ⟨_, HB.out i⟩
      have HBI : RowKit.Hid (bt s i = b) := hbi
      have C := refPlain_any (b : Int) w
      have HY : RowKit.Hid (nameP b = true → okTo nameP (s.data.toList.take (i + 1)) = true) := by
        intro h
        rw [okTo_take _ _ _ (by rw [HL.out]; exact hlt), HOK.out, ← HB.out i, HBI.out, h]
        rfl
      have HN : RowKit.Hid (nameP b = false → X = false) := by
        intro h
        rw [← HX.out]
        unfold nameF
        rw [okTo_no nameP _ i (by rw [HL.out]; exact hlt) (by rw [← HB.out i, HBI.out, h])]
        rfl
      by_cases hp : plainB b = true
      · rw [hp] at C
        have HP : RowKit.Hid (nameP b = true) := nameP_yes hp
        clear hp
        go_wp2_with (go_at_call 27; refine C.mono ?_; rintro e w' ⟨rfl, rfl⟩)
        go_round
        case rel => exact ⟨i + 1, by go_num, by omega, HY.out HP.out⟩
        case measure => simp [intOf]; omega
      · have hp' : plainB b = false := by simpa using hp
        rw [hp'] at C
        by_cases h45 : b = 45
        · have HP : RowKit.Hid (nameP b = true) := nameP_45 h45
          have hb45 : bt s i = 45 := by rw [hbi, h45]; rfl
          have C := refPlain_any 45 w
          rw [show plainB 45 = false by decide] at C
          clear hp hp' hbi HBI h45
          go_wp2_with (go_at_call 27; refine C.mono ?_; rintro e w' ⟨rfl, rfl⟩)
          go_round
          case rel => exact ⟨i + 1, by go_num, by omega, HY.out HP.out⟩
          case measure => simp [intOf]; omega
        · have HP : RowKit.Hid (nameP b = false) := by
            show (plainB b || _) = false; rw [hp']
            simp only [Bool.false_or, beq_eq_false_iff_ne, ne_eq]; omega
          have hq : ((b : Int) != 45) = true := n45 h45
          clear hp hp' h45
          go_wp2_with (go_at_call 27; refine C.mono ?_; rintro e w' ⟨rfl, rfl⟩)
          go_ret
          exact ⟨ret_boolE (HN.out HP.out).symm, rfl⟩
    · have HE : RowKit.Hid (X = (decide (1 ≤ s.size) && decide (s.size ≤ 40))) := by
        show _ = _
        rw [← HX.out]
        unfold nameF
        rw [← okTo_all nameP _ i (by rw [HL.out]; omega), HOK.out, HL.out]
        rfl
      by_cases h1 : 1 ≤ s.size
      · by_cases h2 : s.size ≤ 40
        · go_wp2
          go_ret
          exact ⟨ret_boolE (by rw [HE.out]; first | (simp [h1, h2]; done) | (simp [h1, h2]; omega)), rfl⟩
        · go_wp2
          go_ret
          exact ⟨ret_boolE (by rw [HE.out]; first | (simp [h1, h2]; done) | (simp [h1, h2]; omega)), rfl⟩
      · go_wp2
        go_ret
        exact ⟨ret_boolE (by rw [HE.out]; first | (simp [h1]; done) | (simp [h1]; omega)), rfl⟩
end Go.Proofs.YtkledfalplekeaaDoor
