/- What the document's answer for a folded text gives, for whatever text. -/
import Derived.Test.YtkledfalplekeaaDoorWrdE
namespace Go.Proofs.YtkledfalplekeaaDoor
open Go.RowKit Go.PlainAid
set_option linter.unusedVariables false

def abc : ByteArray := ⟨#[97, 98, 99, 100, 101, 102, 103, 104, 105, 106, 107, 108, 109, 110, 111, 112, 113, 114, 115, 116, 117, 118, 119, 120, 121, 122]⟩
theorem abc_fin : ∀ k : Fin 26, (abc.extract k.val (k.val + 1)).data.toList = [(k.val + 97).toUInt8] := by decide +kernel
theorem abc_at (r : Nat) (ri : Int) (h : (r : Int) = ri) (h1 : 65 ≤ r) (h2 : r ≤ 90) : abc.extract (ri - 65).toNat (ri - 64).toNat = ba [(r + 32).toUInt8] := by
  apply ba_of
  have := abc_fin ⟨r - 65, by omega⟩
  simp only at this
  rw [show (ri - 65).toNat = r - 65 by omega, show (ri - 64).toNat = r - 65 + 1 by omega, this, show r - 65 + 97 = r + 32 by omega]
set_option maxHeartbeats 4000000 in
set_option maxRecDepth 100000 in
theorem refFold_any (s : ByteArray) (w : World) (hs : s.size ≤ 1000) :
    Calls Tryd.prog 22 #[.string s] w fun e w' => e = .returned (.string (ba (foldF s.data.toList))) ∧ w = w' := by
  obtain ⟨X, hX⟩ : ∃ X, foldF s.data.toList = X := ⟨_, rfl⟩
  have HX := Lib.hid hX
  rw [hX]
  clear hX
  go_enter Tryd.func22, Tryd.ntmps22
  go_wp2
  go_loop [3, 4, 5] (fun o b v => ∃ (i : Nat) (acc : List UInt8) (q : ByteArray) (st : Bool), o = .string q ∧ b = .bool st ∧ v = .int .i64 i ∧ i ≤ s.size ∧ q.size = acc.length ∧ acc.length ≤ i ∧ RowKit.Hid (q = ba acc ∧ acc ++ enc (foldN st (items (s.data.toList.drop i))) = X)) (fun _ _ v => s.size - (intOf v).toNat)
  case atStart => exact ⟨0, [], ⟨#[]⟩, false, rfl, rfl, rfl, by omega, rfl, by simp, rfl, by rw [← HX.out]; rfl⟩
  case round =>
    obtain ⟨i, acc, q, st, rfl, rfl, rfl, hi, hq, hqi, HQ⟩ := hrel
    by_cases hlt : i < s.size
    · have hR := rune_at s i hlt
      have C := refRune_any (s.extract i s.size) w (by rw [tail_size s i hi]; omega) (by rw [tail_size s i hi]; omega)
      rw [tail_list] at C
      obtain ⟨hne, hR⟩ := hR
      have hstep := tail_items s.data.toList i hne
      have HST : RowKit.Hid (∀ (x : Option Nat) (m : Nat), headI (s.data.toList.drop i) = x → (Lib.decodeL (s.data.toList.drop i)).2 = m → acc ++ enc (foldN st (x :: items (s.data.toList.drop (i + m)))) = X) := by
        intro x m h1 h3
        have e := HQ.out.2
        rw [hstep, h1, h3] at e
        exact e
      clear hstep hne
      rcases hR with ⟨g1, g2, g3⟩ | ⟨r, g1, g2, g3, g4, g5, g6, g7, g8⟩
      · have HY := Lib.hid (HST.out none 1 g2 g3)
        rw [g1] at C
        have e0 : runeR (s.data.toList.drop i) = 0 := by unfold runeR; rw [g2]
        rw [e0] at C
        clear g1 g2 g3 HST e0
        cases st with
        | true =>
          have HZ : RowKit.Hid (q = ba acc ∧ acc ++ enc (foldN true (items (s.data.toList.drop (i + 1)))) = X) := ⟨HQ.out.1, by have := HY.out; simpa [foldN] using this⟩
          clear HY
          go_wp2_with (go_at_call 28; refine C.mono ?_; rintro e w' ⟨rfl, rfl⟩)
          go_round
          case rel => exact ⟨i + 1, acc, q, true, rfl, rfl, by go_num, by omega, hq, by omega, HZ⟩
          case measure => simp [intOf]; omega
        | false =>
          have HZ : RowKit.Hid ((q ++ ⟨#[63]⟩).size = (acc ++ [63]).length ∧ RowKit.Hid (q ++ ⟨#[63]⟩ = ba (acc ++ [63]) ∧ (acc ++ [63]) ++ enc (foldN true (items (s.data.toList.drop (i + 1)))) = X)) := by
            have e : q ++ ⟨#[63]⟩ = ba (acc ++ [63]) := by rw [HQ.out.1, ← ba_append]; rfl
            refine ⟨by rw [e, ba_size], e, ?_⟩
            have := HY.out
            simp only [foldN, Bool.false_eq_true, if_false, enc_append] at this
            rw [List.append_assoc]
            exact this
          clear HY
          go_wp2_with (go_at_call 28; refine C.mono ?_; rintro e w' ⟨rfl, rfl⟩)
          go_round
          case rel => exact ⟨i + 1, acc ++ [63], _, true, rfl, rfl, by go_num, by omega, HZ.out.1, by rw [List.length_append]; simp; omega, HZ.out.2⟩
          case measure => simp [intOf]; omega
      · rw [g2, g3] at C
        obtain ⟨n, hn⟩ : ∃ n, (Lib.decodeL (s.data.toList.drop i)).2 = n := ⟨_, rfl⟩
        rw [hn] at C g4 g5 g6 g7 HST
        have HY : RowKit.Hid (acc ++ (Lib.encodeRune (lowR r : Int) ++ enc (foldN false (items (s.data.toList.drop (i + n))))) = X) := by
          show _ = _
          have := HST.out (some r) n g1 rfl
          simp only [foldN, enc_cons] at this
          exact this
        by_cases b1 : 65 ≤ r ∧ r ≤ 90
        · have e1 : Lib.encodeRune (r : Int) = [r.toUInt8] := by
            unfold Lib.encodeRune; rw [Lib.encodeRuneZ_one (by omega) (by omega)]; rfl
          have e2 : Lib.encodeRune (lowR r : Int) = [(r + 32).toUInt8] := by
            unfold lowR; rw [if_pos b1]
            unfold Lib.encodeRune; rw [Lib.encodeRuneZ_one (by omega) (by omega)]; rfl
          have n1 : n = 1 := by
            have := congrArg List.length (g7.symm.trans e1)
            rw [List.length_take, List.length_drop, len_list] at this
            simp at this
            omega
          rw [e2] at HY
          subst n1
          obtain ⟨ri, hri⟩ : ∃ ri : Int, (r : Int) = ri := ⟨_, rfl⟩
          rw [hri] at C
          have c1 : 65 ≤ ri := by omega
          have c2 : ri ≤ 90 := by omega
          have HZ : RowKit.Hid ((q ++ abc.extract (ri - 65).toNat (ri - 64).toNat).size = (acc ++ [(r + 32).toUInt8]).length ∧ RowKit.Hid (q ++ abc.extract (ri - 65).toNat (ri - 64).toNat = ba (acc ++ [(r + 32).toUInt8]) ∧ (acc ++ [(r + 32).toUInt8]) ++ enc (foldN false (items (s.data.toList.drop (i + 1)))) = X)) := by
            have e : q ++ abc.extract (ri - 65).toNat (ri - 64).toNat = ba (acc ++ [(r + 32).toUInt8]) := by rw [abc_at r ri hri b1.1 b1.2, HQ.out.1, ba_append]
            refine ⟨by rw [e, ba_size], e, ?_⟩
            rw [List.append_assoc]
            exact HY.out
          clear g1 g2 g3 g4 g6 g7 g8 HST hn e1 e2 HY hri b1
          go_wp2_with (go_at_call 28; refine C.mono ?_; rintro e w' ⟨rfl, rfl⟩)
          go_round
          case rel => exact ⟨i + 1, acc ++ [(r + 32).toUInt8], _, false, rfl, rfl, by go_num, by omega, HZ.out.1, by rw [List.length_append]; simp; omega, HZ.out.2⟩
          case measure => simp [intOf]; omega
        · have e1 : lowR r = r := by unfold lowR; rw [if_neg b1]
          rw [e1] at HY
          obtain ⟨P, hP⟩ : ∃ P, Lib.encodeRune (r : Int) = P := ⟨_, rfl⟩
          rw [hP] at g7 HY
          have lP : P.length = n := by rw [g7, List.length_take, List.length_drop, len_list]; omega
          have eX : s.extract i (i + n) = ba P := by rw [ext_list, g7]
          obtain ⟨B, hB⟩ : ∃ B, ba P = B := ⟨_, rfl⟩
          rw [hB] at eX
          have hBs : B.size = n := by rw [← hB, ba_size, lP]
          have HZ : RowKit.Hid ((q ++ B).size = (acc ++ P).length ∧ (acc ++ P).length ≤ i + n ∧ RowKit.Hid (q ++ B = ba (acc ++ P) ∧ (acc ++ P) ++ enc (foldN false (items (s.data.toList.drop (i + n)))) = X)) := by
            have e : q ++ B = ba (acc ++ P) := by rw [HQ.out.1, ← ba_append, hB]
            refine ⟨by rw [e, ba_size], by rw [List.length_append]; omega, e, ?_⟩
            rw [List.append_assoc]
            exact HY.out
          obtain ⟨ri, hri⟩ : ∃ ri : Int, (r : Int) = ri := ⟨_, rfl⟩
          have c1 : ¬ (65 ≤ ri ∧ ri ≤ 90) := by omega
          have c0 : 0 ≤ ri := by omega
          rw [hri] at C
          have hn0 : ¬ (n : Int) = 0 := by omega
          clear g1 g2 g3 g7 HST hn b1 e1 hP lP hB hri g8 HY
          go_wp2_with (go_at_call 28; refine C.mono ?_; rintro e w' ⟨rfl, rfl⟩)
          all_goals
            first
            | (exfalso; omega)
            | (go_round
               case rel => exact ⟨i + n, acc ++ P, _, false, rfl, rfl, by go_num, by omega, HZ.out.1, HZ.out.2.1, HZ.out.2.2⟩
               case measure => simp [intOf]; omega)
    · have HN : RowKit.Hid (X = acc) := by
        show _ = _
        have e := HQ.out.2
        rw [List.drop_of_length_le (by rw [len_list]; omega)] at e
        rw [← e]
        simp [items_nil, foldN, enc_nil]
      go_wp2
      go_ret
      exact ⟨ret_strE (by rw [HQ.out.1, HN.out]), rfl⟩
end Go.Proofs.YtkledfalplekeaaDoor
