/- What the document's answers for titles and folded texts give, for whatever texts. -/
import Derived.Test.YtebfjmjdcbeekaaDoorWrdA
namespace Go.Proofs.YtebfjmjdcbeekaaDoor
open Go.RowKit Go.PlainAid
set_option linter.unusedVariables false

theorem ret_strE {a b : ByteArray} (h : a = b) : Ending.returned (.string a) = .returned (.string b) := by rw [h]
/-- A text of these bytes. -/
def ba (l : List UInt8) : ByteArray := ⟨l.toArray⟩
theorem ba_list (s : ByteArray) : ba s.data.toList = s := Lib.mk_data s
theorem list_ba (l : List UInt8) : (ba l).data.toList = l := rfl
theorem ba_size (l : List UInt8) : (ba l).size = l.length := by simp [ba, ByteArray.size]
theorem ba_append (a b : List UInt8) : ba a ++ ba b = ba (a ++ b) := by
  rw [← ba_list (ba a ++ ba b)]
  congr 1
theorem ba_of {s : ByteArray} {l : List UInt8} (h : s.data.toList = l) : s = ba l := by rw [← h, ba_list]
theorem ext_list (s : ByteArray) (i n : Nat) : s.extract i (i + n) = ba ((s.data.toList.drop i).take n) := by
  apply ba_of
  rw [Lib.extract_data]
  congr 1
  omega
theorem drop_step (l : List UInt8) (i n : Nat) : (l.drop i).drop n = l.drop (i + n) := by rw [List.drop_drop]

/-- What is known of the rune at a place. -/
theorem rune_at (s : ByteArray) (i : Nat) (h : i < s.size) :
    s.data.toList.drop i ≠ [] ∧ (runeN (s.data.toList.drop i) = 0 ∧ headI (s.data.toList.drop i) = none ∧ (Lib.decodeL (s.data.toList.drop i)).2 = 1 ∨
      ∃ r, headI (s.data.toList.drop i) = some r ∧ runeR (s.data.toList.drop i) = r ∧ runeN (s.data.toList.drop i) = (Lib.decodeL (s.data.toList.drop i)).2 ∧ 1 ≤ (Lib.decodeL (s.data.toList.drop i)).2 ∧ i + (Lib.decodeL (s.data.toList.drop i)).2 ≤ s.size ∧
        (Lib.decodeL (s.data.toList.drop i)).2 ≤ 4 ∧ Lib.encodeRune (r : Int) = (s.data.toList.drop i).take (Lib.decodeL (s.data.toList.drop i)).2 ∧ r ≤ 1114111) := by
  have hne : s.data.toList.drop i ≠ [] := by
    intro c
    have := congrArg List.length c
    rw [List.length_drop, len_list] at this
    simp at this
    omega
  refine ⟨hne, ?_⟩
  cases hh : headI (s.data.toList.drop i) with
  | none =>
    left
    have := headI_none hh
    exact ⟨by unfold runeN; rw [hh], rfl, this.2⟩
  | some r =>
    right
    obtain ⟨ok, h1, h2, h3, h4⟩ := headI_some hne hh
    have w := Lib.decodeL_width (s.data.toList.drop i)
    have e := enc_len (r : Int)
    rw [List.length_drop, len_list] at h3
    rw [h2, List.length_take, List.length_drop, len_list] at e
    refine ⟨r, rfl, by unfold runeR; rw [hh], by unfold runeN; rw [hh], w, by omega, by omega, h2, ?_⟩
    unfold okR at ok
    omega
theorem tail_items (l : List UInt8) (i : Nat) (h : l.drop i ≠ []) : items (l.drop i) = headI (l.drop i) :: items (l.drop (i + (Lib.decodeL (l.drop i)).2)) := by
  rw [items_step _ h, drop_step]

set_option maxHeartbeats 4000000 in
set_option maxRecDepth 100000 in
theorem refTitle_any (s : ByteArray) (w : World) (hs : s.size ≤ 5000) :
    Calls Tryd.prog 32 #[.string s] w fun e w' => e = .returned (.string (ba (titleF s.data.toList))) ∧ w = w' := by
  obtain ⟨X, hX⟩ : ∃ X, titleF s.data.toList = X := ⟨_, rfl⟩
  have HX := Lib.hid hX
  rw [hX]
  clear hX
  go_enter Tryd.func32, Tryd.ntmps32
  go_wp2
  go_loop [3, 4] (fun o v => ∃ (i : Nat) (acc : List UInt8) (q : ByteArray), o = .string q ∧ v = .int .i64 i ∧ i ≤ s.size ∧ q.size = acc.length ∧ acc.length ≤ 60 ∧ RowKit.Hid (q = ba acc ∧ acc ++ enc (titleN acc.length (items (s.data.toList.drop i))) = X)) (fun _ v => s.size - (intOf v).toNat)
  case atStart => exact ⟨0, [], ⟨#[]⟩, rfl, rfl, by omega, rfl, by simp, rfl, by rw [← HX.out]; rfl⟩
  case round =>
    obtain ⟨i, acc, q, rfl, rfl, hi, hq, hq60, HQ⟩ := hrel
    by_cases hlt : i < s.size
    · have hR := rune_at s i hlt
      have C := refRune_any (s.extract i s.size) w (by rw [tail_size s i hi]; omega) (by rw [tail_size s i hi]; omega)
      rw [tail_list] at C
      obtain ⟨hne, hR⟩ := hR
      have hstep := tail_items s.data.toList i hne
      have HST : RowKit.Hid (∀ (x : Option Nat) (p : List UInt8) (m : Nat), headI (s.data.toList.drop i) = x → Lib.encodeRune (shownR x : Int) = p → (Lib.decodeL (s.data.toList.drop i)).2 = m →
          (¬ acc.length + p.length ≤ 60 → X = acc) ∧ (acc.length + p.length ≤ 60 → (acc ++ p) ++ enc (titleN (acc ++ p).length (items (s.data.toList.drop (i + m)))) = X)) := by
        intro x p m h1 h2 h3
        have e := HQ.out.2
        rw [hstep, h1, h3] at e
        constructor
        · intro h
          simp only [titleN, h2] at e
          rw [if_pos (by omega)] at e
          rw [← e]
          simp [enc_nil]
        · intro h
          simp only [titleN, h2] at e
          rw [if_neg (by omega), enc_cons, h2] at e
          rw [List.length_append, List.append_assoc]
          exact e
      clear hstep hne
      rcases hR with ⟨g1, g2, g3⟩ | ⟨r, g1, g2, g3, g4, g5, g6, g7, g8⟩
      · have HY := Lib.hid (HST.out none [32] 1 g2 (by decide) g3)
        rw [g1] at C
        have e0 : runeR (s.data.toList.drop i) = 0 := by unfold runeR; rw [g2]
        rw [e0] at C
        clear g1 g2 g3 HST e0
        by_cases h60 : acc.length + 1 ≤ 60
        · skip
          have HZ : RowKit.Hid ((q ++ ⟨#[32]⟩).size = (acc ++ [32]).length ∧ (acc ++ [32]).length ≤ 60 ∧ RowKit.Hid (q ++ ⟨#[32]⟩ = ba (acc ++ [32]) ∧ (acc ++ [32]) ++ enc (titleN (acc ++ [32]).length (items (s.data.toList.drop (i + 1)))) = X)) := by
            have e : q ++ ⟨#[32]⟩ = ba (acc ++ [32]) := by rw [HQ.out.1, ← ba_append]; rfl
            have el : (acc ++ [32]).length = acc.length + 1 := by rw [List.length_append]; rfl
            refine ⟨by rw [e, ba_size], by omega, e, HY.out.2 (h60)⟩
          clear HY
          go_wp2_with (go_at_call 46; refine C.mono ?_; rintro e w' ⟨rfl, rfl⟩)
          go_round
          case rel => exact ⟨i + 1, acc ++ [32], _, rfl, by go_num, by omega, HZ.out.1, HZ.out.2.1, HZ.out.2.2⟩
          case measure => simp [intOf]; omega
        · have HN : RowKit.Hid (X = acc) := HY.out.1 h60
          clear HY
          go_wp2_with (go_at_call 46; refine C.mono ?_; rintro e w' ⟨rfl, rfl⟩)
          go_ret
          exact ⟨ret_strE (by rw [HQ.out.1, HN.out]), rfl⟩
      · rw [g2, g3] at C
        obtain ⟨n, hn⟩ : ∃ n, (Lib.decodeL (s.data.toList.drop i)).2 = n := ⟨_, rfl⟩
        rw [hn] at C g4 g5 g6 g7 HST
        by_cases b1 : r < 32 ∨ r = 127 ∨ r = 59
        · have HY := Lib.hid (HST.out (some r) [32] n g1 (by simp only [shownR, if_pos b1]; decide) rfl)
          clear g1 g2 g3 g7 HST hn
          obtain ⟨ri, hri⟩ : ∃ ri : Int, (r : Int) = ri := ⟨_, rfl⟩
          have b1' : ri < 32 ∨ ri = 127 ∨ ri = 59 := by omega
          rw [hri] at C
          have ri0 : 0 ≤ ri := by omega
          clear hri b1 g8
          rcases b1' with k | k | k
          · skip
            by_cases h60 : acc.length + 1 ≤ 60
            · skip
              have HZ : RowKit.Hid ((q ++ ⟨#[32]⟩).size = (acc ++ [32]).length ∧ (acc ++ [32]).length ≤ 60 ∧ RowKit.Hid (q ++ ⟨#[32]⟩ = ba (acc ++ [32]) ∧ (acc ++ [32]) ++ enc (titleN (acc ++ [32]).length (items (s.data.toList.drop (i + n)))) = X)) := by
                have e : q ++ ⟨#[32]⟩ = ba (acc ++ [32]) := by rw [HQ.out.1, ← ba_append]; rfl
                have el : (acc ++ [32]).length = acc.length + 1 := by rw [List.length_append]; rfl
                refine ⟨by rw [e, ba_size], by omega, e, HY.out.2 (h60)⟩
              clear HY
              go_wp2_with (go_at_call 46; refine C.mono ?_; rintro e w' ⟨rfl, rfl⟩)
              go_round
              case rel => exact ⟨i + n, acc ++ [32], _, rfl, by go_num, by omega, HZ.out.1, HZ.out.2.1, HZ.out.2.2⟩
              case measure => simp [intOf]; omega
            · have HN : RowKit.Hid (X = acc) := HY.out.1 h60
              clear HY
              go_wp2_with (go_at_call 46; refine C.mono ?_; rintro e w' ⟨rfl, rfl⟩)
              go_ret
              exact ⟨ret_strE (by rw [HQ.out.1, HN.out]), rfl⟩
          · subst k
            by_cases h60 : acc.length + 1 ≤ 60
            · skip
              have HZ : RowKit.Hid ((q ++ ⟨#[32]⟩).size = (acc ++ [32]).length ∧ (acc ++ [32]).length ≤ 60 ∧ RowKit.Hid (q ++ ⟨#[32]⟩ = ba (acc ++ [32]) ∧ (acc ++ [32]) ++ enc (titleN (acc ++ [32]).length (items (s.data.toList.drop (i + n)))) = X)) := by
                have e : q ++ ⟨#[32]⟩ = ba (acc ++ [32]) := by rw [HQ.out.1, ← ba_append]; rfl
                have el : (acc ++ [32]).length = acc.length + 1 := by rw [List.length_append]; rfl
                refine ⟨by rw [e, ba_size], by omega, e, HY.out.2 (h60)⟩
              clear HY
              go_wp2_with (go_at_call 46; refine C.mono ?_; rintro e w' ⟨rfl, rfl⟩)
              go_round
              case rel => exact ⟨i + n, acc ++ [32], _, rfl, by go_num, by omega, HZ.out.1, HZ.out.2.1, HZ.out.2.2⟩
              case measure => simp [intOf]; omega
            · have HN : RowKit.Hid (X = acc) := HY.out.1 h60
              clear HY
              go_wp2_with (go_at_call 46; refine C.mono ?_; rintro e w' ⟨rfl, rfl⟩)
              go_ret
              exact ⟨ret_strE (by rw [HQ.out.1, HN.out]), rfl⟩
          · subst k
            by_cases h60 : acc.length + 1 ≤ 60
            · skip
              have HZ : RowKit.Hid ((q ++ ⟨#[32]⟩).size = (acc ++ [32]).length ∧ (acc ++ [32]).length ≤ 60 ∧ RowKit.Hid (q ++ ⟨#[32]⟩ = ba (acc ++ [32]) ∧ (acc ++ [32]) ++ enc (titleN (acc ++ [32]).length (items (s.data.toList.drop (i + n)))) = X)) := by
                have e : q ++ ⟨#[32]⟩ = ba (acc ++ [32]) := by rw [HQ.out.1, ← ba_append]; rfl
                have el : (acc ++ [32]).length = acc.length + 1 := by rw [List.length_append]; rfl
                refine ⟨by rw [e, ba_size], by omega, e, HY.out.2 (h60)⟩
              clear HY
              go_wp2_with (go_at_call 46; refine C.mono ?_; rintro e w' ⟨rfl, rfl⟩)
              go_round
              case rel => exact ⟨i + n, acc ++ [32], _, rfl, by go_num, by omega, HZ.out.1, HZ.out.2.1, HZ.out.2.2⟩
              case measure => simp [intOf]; omega
            · have HN : RowKit.Hid (X = acc) := HY.out.1 h60
              clear HY
              go_wp2_with (go_at_call 46; refine C.mono ?_; rintro e w' ⟨rfl, rfl⟩)
              go_ret
              exact ⟨ret_strE (by rw [HQ.out.1, HN.out]), rfl⟩
        by_cases b2 : r = 39
        · have HY := Lib.hid (HST.out (some r) [226, 128, 153] n g1 (by subst b2; decide) rfl)
          subst b2
          have e39 : (((39 : Nat) : Int)) = 39 := rfl
          rw [e39] at C
          clear g1 g2 g3 g7 HST hn e39
          by_cases h60 : acc.length + 3 ≤ 60
          · skip
            have HZ : RowKit.Hid ((q ++ ⟨#[226, 128, 153]⟩).size = (acc ++ [226, 128, 153]).length ∧ (acc ++ [226, 128, 153]).length ≤ 60 ∧ RowKit.Hid (q ++ ⟨#[226, 128, 153]⟩ = ba (acc ++ [226, 128, 153]) ∧ (acc ++ [226, 128, 153]) ++ enc (titleN (acc ++ [226, 128, 153]).length (items (s.data.toList.drop (i + n)))) = X)) := by
              have e : q ++ ⟨#[226, 128, 153]⟩ = ba (acc ++ [226, 128, 153]) := by rw [HQ.out.1, ← ba_append]; rfl
              have el : (acc ++ [226, 128, 153]).length = acc.length + 3 := by rw [List.length_append]; rfl
              refine ⟨by rw [e, ba_size], by omega, e, HY.out.2 (h60)⟩
            clear HY
            go_wp2_with (go_at_call 46; refine C.mono ?_; rintro e w' ⟨rfl, rfl⟩)
            go_round
            case rel => exact ⟨i + n, acc ++ [226, 128, 153], _, rfl, by go_num, by omega, HZ.out.1, HZ.out.2.1, HZ.out.2.2⟩
            case measure => simp [intOf]; omega
          · have HN : RowKit.Hid (X = acc) := HY.out.1 h60
            clear HY
            go_wp2_with (go_at_call 46; refine C.mono ?_; rintro e w' ⟨rfl, rfl⟩)
            go_ret
            exact ⟨ret_strE (by rw [HQ.out.1, HN.out]), rfl⟩
        · have eP : Lib.encodeRune (shownR (some r) : Int) = Lib.encodeRune (r : Int) := by
            simp only [shownR, if_neg b1, if_neg b2]
          obtain ⟨P, hP⟩ : ∃ P, Lib.encodeRune (r : Int) = P := ⟨_, rfl⟩
          have HY := Lib.hid (HST.out (some r) P n g1 (by rw [eP, hP]) rfl)
          rw [hP] at g7
          have lP : P.length = n := by rw [g7, List.length_take, List.length_drop, len_list]; omega
          have eX : s.extract i (i + n) = ba P := by rw [ext_list, g7]
          obtain ⟨B, hB⟩ : ∃ B, ba P = B := ⟨_, rfl⟩
          rw [hB] at eX
          have hBs : B.size = n := by rw [← hB, ba_size, lP]
          have HBP : RowKit.Hid (ba P = B) := hB
          have HLP : RowKit.Hid (P.length = n) := lP
          obtain ⟨ri, hri⟩ : ∃ ri : Int, (r : Int) = ri := ⟨_, rfl⟩
          have c1 : ¬ ri < 32 := by omega
          have c2 : ¬ ri = 127 := by omega
          have c3 : ¬ ri = 59 := by omega
          have c4 : ¬ ri = 39 := by omega
          have c2' : (ri != 127) = true := by simpa using c2
          have c3' : (ri != 59) = true := by simpa using c3
          have c4' : (ri == 39) = false := by simpa using c4
          rw [hri] at C
          clear g1 g2 g3 g7 HST hn b1 b2 eP hP lP hB hri g8
          by_cases h60 : acc.length + n ≤ 60
          · skip
            have HZ : RowKit.Hid ((q ++ B).size = (acc ++ P).length ∧ (acc ++ P).length ≤ 60 ∧ RowKit.Hid (q ++ B = ba (acc ++ P) ∧ (acc ++ P) ++ enc (titleN (acc ++ P).length (items (s.data.toList.drop (i + n)))) = X)) := by
              have e : q ++ B = ba (acc ++ P) := by rw [HQ.out.1, ← ba_append]; rw [HBP.out]
              have el : (acc ++ P).length = acc.length + n := by rw [List.length_append]; rw [HLP.out]
              refine ⟨by rw [e, ba_size], by omega, e, HY.out.2 (by rw [HLP.out]; exact h60)⟩
            clear HY
            go_wp2_with (go_at_call 46; refine C.mono ?_; rintro e w' ⟨rfl, rfl⟩)
            go_round
            case rel => exact ⟨i + n, acc ++ P, _, rfl, by go_num, by omega, HZ.out.1, HZ.out.2.1, HZ.out.2.2⟩
            case measure => simp [intOf]; omega
          · have HN : RowKit.Hid (X = acc) := HY.out.1 (by rw [HLP.out]; exact h60)
            clear HY
            go_wp2_with (go_at_call 46; refine C.mono ?_; rintro e w' ⟨rfl, rfl⟩)
            go_ret
            exact ⟨ret_strE (by rw [HQ.out.1, HN.out]), rfl⟩
    · have HN : RowKit.Hid (X = acc) := by
        show _ = _
        have e := HQ.out.2
        rw [List.drop_of_length_le (by rw [len_list]; omega)] at e
        rw [← e]
        simp [items_nil, titleN, enc_nil]
      go_wp2
      go_ret
      exact ⟨ret_strE (by rw [HQ.out.1, HN.out]), rfl⟩
end Go.Proofs.YtebfjmjdcbeekaaDoor
