/- Plain facts, and what functions give, for the proofs of this seat: several texts in one, each with its own first remark. -/
import Derived.Test.YtmgfkdmjgjlkjaaGreatCE
import Derived.BigCall

namespace Go.Proofs.YtmgfkdmjgjlkjaaGreat
open Go.RowKit Go.PlainAid
set_option linter.unusedVariables false
theorem ret_strE {a b : ByteArray} (h : a = b) : Ending.returned (.string a) = .returned (.string b) := by rw [h]
def ba (l : List UInt8) : ByteArray := ⟨l.toArray⟩
theorem ba_list (s : ByteArray) : ba s.data.toList = s := Lib.mk_data s
theorem ba_size (l : List UInt8) : (ba l).size = l.length := by simp [ba, ByteArray.size]
theorem ba_append (a b : List UInt8) : ba a ++ ba b = ba (a ++ b) := by
  rw [← ba_list (ba a ++ ba b)]
  congr 1
theorem ba_of {s : ByteArray} {l : List UInt8} (h : s.data.toList = l) : s = ba l := by rw [← h, ba_list]
theorem ext_list (s : ByteArray) (i n : Nat) : s.extract i (i + n) = ba ((s.data.toList.drop i).take n) := by
  apply ba_of
  rw [Lib.extract_data]
  congr 1
  omega
theorem drop_step (l : List UInt8) (i n : Nat) : (l.drop i).drop n = l.drop (i + n) := by rw [List.drop_drop]
theorem rune_at (s : ByteArray) (i : Nat) (h : i < s.size) :
    s.data.toList.drop i ≠ [] ∧ (runeN (s.data.toList.drop i) = 0 ∧ headI (s.data.toList.drop i) = none ∧ (Lib.decodeL (s.data.toList.drop i)).2 = 1 ∨
      ∃ r, headI (s.data.toList.drop i) = some r ∧ runeR (s.data.toList.drop i) = r ∧ runeN (s.data.toList.drop i) = (Lib.decodeL (s.data.toList.drop i)).2 ∧ 1 ≤ (Lib.decodeL (s.data.toList.drop i)).2 ∧ i + (Lib.decodeL (s.data.toList.drop i)).2 ≤ s.size ∧
        (Lib.decodeL (s.data.toList.drop i)).2 ≤ 4 ∧ Lib.encodeRune (r : Int) = (s.data.toList.drop i).take (Lib.decodeL (s.data.toList.drop i)).2 ∧ r ≤ 1114111) := by
  have hne : s.data.toList.drop i ≠ [] := by
    intro c
    have := congrArg List.length c
    rw [List.length_drop, len_list] at this
    simp at this
    omega
  refine ⟨hne, ?_⟩
  cases hh : headI (s.data.toList.drop i) with
  | none =>
    left
    have := headI_none hh
    exact ⟨by unfold runeN; rw [hh], rfl, this.2⟩
  | some r =>
    right
    obtain ⟨ok, h1, h2, h3, h4⟩ := headI_some hne hh
    have w := Lib.decodeL_width (s.data.toList.drop i)
    have e := enc_len (r : Int)
    rw [List.length_drop, len_list] at h3
    rw [h2, List.length_take, List.length_drop, len_list] at e
    refine ⟨r, rfl, by unfold runeR; rw [hh], by unfold runeN; rw [hh], w, by omega, by omega, h2, ?_⟩
    unfold okR at ok
    omega
theorem tail_items (l : List UInt8) (i : Nat) (h : l.drop i ≠ []) : items (l.drop i) = headI (l.drop i) :: items (l.drop (i + (Lib.decodeL (l.drop i)).2)) := by
  rw [items_step _ h, drop_step]
set_option maxHeartbeats 4000000 in
set_option maxRecDepth 100000 in
theorem refTitle_any (s : ByteArray) (w : World) (hs : s.size ≤ 9223372036854775807) :
    Calls Tryz.prog 16 #[.string s] w fun e w' => e = .returned (.string (ba (titleF s.data.toList))) ∧ w = w' := by
  obtain ⟨X, hX⟩ : ∃ X, titleF s.data.toList = X := ⟨_, rfl⟩
  have HX := Lib.hid hX
  rw [hX]
  clear hX
  go_enter Tryz.func16, Tryz.ntmps16
  go_wp2
  go_loop [3, 4] (fun o v => ∃ (i : Nat) (acc : List UInt8) (q : ByteArray), o = .string q ∧ v = .int .i64 i ∧ i ≤ s.size ∧ q.size = acc.length ∧ acc.length ≤ 60 ∧ RowKit.Hid (q = ba acc ∧ acc ++ enc (titleN acc.length (items (s.data.toList.drop i))) = X)) (fun _ v => s.size - (intOf v).toNat)
  case atStart => exact ⟨0, [], ⟨#[]⟩, rfl, rfl, by omega, rfl, by simp, rfl, by rw [← HX.out]; rfl⟩
  case round =>
    obtain ⟨i, acc, q, rfl, rfl, hi, hq, hq60, HQ⟩ := hrel
    by_cases hlt : i < s.size
    · have hR := rune_at s i hlt
      have C := refRune_any (s.extract i s.size) w (by rw [tail_size s i hi]; omega) (by rw [tail_size s i hi]; omega)
      rw [tail_list] at C
      obtain ⟨hne, hR⟩ := hR
      have hstep := tail_items s.data.toList i hne
      have HST : RowKit.Hid (∀ (x : Option Nat) (p : List UInt8) (m : Nat), headI (s.data.toList.drop i) = x → Lib.encodeRune (shownR x : Int) = p → (Lib.decodeL (s.data.toList.drop i)).2 = m →
          (¬ acc.length + p.length ≤ 60 → X = acc) ∧ (acc.length + p.length ≤ 60 → (acc ++ p) ++ enc (titleN (acc ++ p).length (items (s.data.toList.drop (i + m)))) = X)) := by
        intro x p m h1 h2 h3
        have e := HQ.out.2
        rw [hstep, h1, h3] at e
        constructor
        · intro h
          simp only [titleN, h2] at e
          rw [if_pos (by omega)] at e
          rw [← e]
          simp [enc_nil]
        · intro h
          simp only [titleN, h2] at e
          rw [if_neg (by omega), enc_cons, h2] at e
          rw [List.length_append, List.append_assoc]
          exact e
      clear hstep hne
      rcases hR with ⟨g1, g2, g3⟩ | ⟨r, g1, g2, g3, g4, g5, g6, g7, g8⟩
      · have HY := Lib.hid (HST.out none [32] 1 g2 (by decide) g3)
        rw [g1] at C
        have e0 : runeR (s.data.toList.drop i) = 0 := by unfold runeR; rw [g2]
        rw [e0] at C
        clear g1 g2 g3 HST e0
        by_cases h60 : acc.length + 1 ≤ 60
        · skip
          have HZ : RowKit.Hid ((q ++ ⟨#[32]⟩).size = (acc ++ [32]).length ∧ (acc ++ [32]).length ≤ 60 ∧ RowKit.Hid (q ++ ⟨#[32]⟩ = ba (acc ++ [32]) ∧ (acc ++ [32]) ++ enc (titleN (acc ++ [32]).length (items (s.data.toList.drop (i + 1)))) = X)) := by
            have e : q ++ ⟨#[32]⟩ = ba (acc ++ [32]) := by rw [HQ.out.1, ← ba_append]; rfl
            have el : (acc ++ [32]).length = acc.length + 1 := by rw [List.length_append]; rfl
            refine ⟨by rw [e, ba_size], by omega, e, HY.out.2 (h60)⟩
          clear HY
          go_wp2_with (go_at_call 47; refine C.mono ?_; rintro e w' ⟨rfl, rfl⟩)
          go_round
          case rel => exact ⟨i + 1, acc ++ [32], _, rfl, by go_num, by omega, HZ.out.1, HZ.out.2.1, HZ.out.2.2⟩
          case measure => simp [intOf]; omega
        · have HN : RowKit.Hid (X = acc) := HY.out.1 h60
          clear HY
          go_wp2_with (go_at_call 47; refine C.mono ?_; rintro e w' ⟨rfl, rfl⟩)
          go_ret
          exact ⟨ret_strE (by rw [HQ.out.1, HN.out]), rfl⟩
      · rw [g2, g3] at C
        obtain ⟨n, hn⟩ : ∃ n, (Lib.decodeL (s.data.toList.drop i)).2 = n := ⟨_, rfl⟩
        rw [hn] at C g4 g5 g6 g7 HST
        by_cases b1 : r < 32 ∨ r = 127 ∨ r = 59
        · have HY := Lib.hid (HST.out (some r) [32] n g1 (by simp only [shownR, if_pos b1]; decide) rfl)
          clear g1 g2 g3 g7 HST hn
          obtain ⟨ri, hri⟩ : ∃ ri : Int, (r : Int) = ri := ⟨_, rfl⟩
          have b1' : ri < 32 ∨ ri = 127 ∨ ri = 59 := by omega
          rw [hri] at C
          have ri0 : 0 ≤ ri := by omega
          clear hri b1 g8
          rcases b1' with k | k | k
          · skip
            by_cases h60 : acc.length + 1 ≤ 60
            · skip
              have HZ : RowKit.Hid ((q ++ ⟨#[32]⟩).size = (acc ++ [32]).length ∧ (acc ++ [32]).length ≤ 60 ∧ RowKit.Hid (q ++ ⟨#[32]⟩ = ba (acc ++ [32]) ∧ (acc ++ [32]) ++ enc (titleN (acc ++ [32]).length (items (s.data.toList.drop (i + n)))) = X)) := by
                have e : q ++ ⟨#[32]⟩ = ba (acc ++ [32]) := by rw [HQ.out.1, ← ba_append]; rfl
                have el : (acc ++ [32]).length = acc.length + 1 := by rw [List.length_append]; rfl
                refine ⟨by rw [e, ba_size], by omega, e, HY.out.2 (h60)⟩
              clear HY
              go_wp2_with (go_at_call 47; refine C.mono ?_; rintro e w' ⟨rfl, rfl⟩)
              go_round
              case rel => exact ⟨i + n, acc ++ [32], _, rfl, by go_num, by omega, HZ.out.1, HZ.out.2.1, HZ.out.2.2⟩
              case measure => simp [intOf]; omega
            · have HN : RowKit.Hid (X = acc) := HY.out.1 h60
              clear HY
              go_wp2_with (go_at_call 47; refine C.mono ?_; rintro e w' ⟨rfl, rfl⟩)
              go_ret
              exact ⟨ret_strE (by rw [HQ.out.1, HN.out]), rfl⟩
          · subst k
            by_cases h60 : acc.length + 1 ≤ 60
            · skip
              have HZ : RowKit.Hid ((q ++ ⟨#[32]⟩).size = (acc ++ [32]).length ∧ (acc ++ [32]).length ≤ 60 ∧ RowKit.Hid (q ++ ⟨#[32]⟩ = ba (acc ++ [32]) ∧ (acc ++ [32]) ++ enc (titleN (acc ++ [32]).length (items (s.data.toList.drop (i + n)))) = X)) := by
                have e : q ++ ⟨#[32]⟩ = ba (acc ++ [32]) := by rw [HQ.out.1, ← ba_append]; rfl
                have el : (acc ++ [32]).length = acc.length + 1 := by rw [List.length_append]; rfl
                refine ⟨by rw [e, ba_size], by omega, e, HY.out.2 (h60)⟩
              clear HY
              go_wp2_with (go_at_call 47; refine C.mono ?_; rintro e w' ⟨rfl, rfl⟩)
              go_round
              case rel => exact ⟨i + n, acc ++ [32], _, rfl, by go_num, by omega, HZ.out.1, HZ.out.2.1, HZ.out.2.2⟩
              case measure => simp [intOf]; omega
            · have HN : RowKit.Hid (X = acc) := HY.out.1 h60
              clear HY
              go_wp2_with (go_at_call 47; refine C.mono ?_; rintro e w' ⟨rfl, rfl⟩)
              go_ret
              exact ⟨ret_strE (by rw [HQ.out.1, HN.out]), rfl⟩
          · subst k
            by_cases h60 : acc.length + 1 ≤ 60
            · skip
              have HZ : RowKit.Hid ((q ++ ⟨#[32]⟩).size = (acc ++ [32]).length ∧ (acc ++ [32]).length ≤ 60 ∧ RowKit.Hid (q ++ ⟨#[32]⟩ = ba (acc ++ [32]) ∧ (acc ++ [32]) ++ enc (titleN (acc ++ [32]).length (items (s.data.toList.drop (i + n)))) = X)) := by
                have e : q ++ ⟨#[32]⟩ = ba (acc ++ [32]) := by rw [HQ.out.1, ← ba_append]; rfl
                have el : (acc ++ [32]).length = acc.length + 1 := by rw [List.length_append]; rfl
                refine ⟨by rw [e, ba_size], by omega, e, HY.out.2 (h60)⟩
              clear HY
              go_wp2_with (go_at_call 47; refine C.mono ?_; rintro e w' ⟨rfl, rfl⟩)
              go_round
              case rel => exact ⟨i + n, acc ++ [32], _, rfl, by go_num, by omega, HZ.out.1, HZ.out.2.1, HZ.out.2.2⟩
              case measure => simp [intOf]; omega
            · have HN : RowKit.Hid (X = acc) := HY.out.1 h60
              clear HY
              go_wp2_with (go_at_call 47; refine C.mono ?_; rintro e w' ⟨rfl, rfl⟩)
              go_ret
              exact ⟨ret_strE (by rw [HQ.out.1, HN.out]), rfl⟩
        by_cases b2 : r = 39
        · have HY := Lib.hid (HST.out (some r) [226, 128, 153] n g1 (by subst b2; decide) rfl)
          subst b2
          have e39 : (((39 : Nat) : Int)) = 39 := rfl
          rw [e39] at C
          clear g1 g2 g3 g7 HST hn e39
          by_cases h60 : acc.length + 3 ≤ 60
          · skip
            have HZ : RowKit.Hid ((q ++ ⟨#[226, 128, 153]⟩).size = (acc ++ [226, 128, 153]).length ∧ (acc ++ [226, 128, 153]).length ≤ 60 ∧ RowKit.Hid (q ++ ⟨#[226, 128, 153]⟩ = ba (acc ++ [226, 128, 153]) ∧ (acc ++ [226, 128, 153]) ++ enc (titleN (acc ++ [226, 128, 153]).length (items (s.data.toList.drop (i + n)))) = X)) := by
              have e : q ++ ⟨#[226, 128, 153]⟩ = ba (acc ++ [226, 128, 153]) := by rw [HQ.out.1, ← ba_append]; rfl
              have el : (acc ++ [226, 128, 153]).length = acc.length + 3 := by rw [List.length_append]; rfl
              refine ⟨by rw [e, ba_size], by omega, e, HY.out.2 (h60)⟩
            clear HY
            go_wp2_with (go_at_call 47; refine C.mono ?_; rintro e w' ⟨rfl, rfl⟩)
            go_round
            case rel => exact ⟨i + n, acc ++ [226, 128, 153], _, rfl, by go_num, by omega, HZ.out.1, HZ.out.2.1, HZ.out.2.2⟩
            case measure => simp [intOf]; omega
          · have HN : RowKit.Hid (X = acc) := HY.out.1 h60
            clear HY
            go_wp2_with (go_at_call 47; refine C.mono ?_; rintro e w' ⟨rfl, rfl⟩)
            go_ret
            exact ⟨ret_strE (by rw [HQ.out.1, HN.out]), rfl⟩
        · have eP : Lib.encodeRune (shownR (some r) : Int) = Lib.encodeRune (r : Int) := by
            simp only [shownR, if_neg b1, if_neg b2]
          obtain ⟨P, hP⟩ : ∃ P, Lib.encodeRune (r : Int) = P := ⟨_, rfl⟩
          have HY := Lib.hid (HST.out (some r) P n g1 (by rw [eP, hP]) rfl)
          rw [hP] at g7
          have lP : P.length = n := by rw [g7, List.length_take, List.length_drop, len_list]; omega
          have eX : s.extract i (i + n) = ba P := by rw [ext_list, g7]
          obtain ⟨B, hB⟩ : ∃ B, ba P = B := ⟨_, rfl⟩
          rw [hB] at eX
          have hBs : B.size = n := by rw [← hB, ba_size, lP]
          have HBP : RowKit.Hid (ba P = B) := hB
          have HLP : RowKit.Hid (P.length = n) := lP
          obtain ⟨ri, hri⟩ : ∃ ri : Int, (r : Int) = ri := ⟨_, rfl⟩
          have c1 : ¬ ri < 32 := by omega
          have c2 : ¬ ri = 127 := by omega
          have c3 : ¬ ri = 59 := by omega
          have c4 : ¬ ri = 39 := by omega
          have c2' : (ri != 127) = true := by simpa using c2
          have c3' : (ri != 59) = true := by simpa using c3
          have c4' : (ri == 39) = false := by simpa using c4
          rw [hri] at C
          clear g1 g2 g3 g7 HST hn b1 b2 eP hP lP hB hri g8
          by_cases h60 : acc.length + n ≤ 60
          · skip
            have HZ : RowKit.Hid ((q ++ B).size = (acc ++ P).length ∧ (acc ++ P).length ≤ 60 ∧ RowKit.Hid (q ++ B = ba (acc ++ P) ∧ (acc ++ P) ++ enc (titleN (acc ++ P).length (items (s.data.toList.drop (i + n)))) = X)) := by
              have e : q ++ B = ba (acc ++ P) := by rw [HQ.out.1, ← ba_append]; rw [HBP.out]
              have el : (acc ++ P).length = acc.length + n := by rw [List.length_append]; rw [HLP.out]
              refine ⟨by rw [e, ba_size], by omega, e, HY.out.2 (by rw [HLP.out]; exact h60)⟩
            clear HY
            go_wp2_with (go_at_call 47; refine C.mono ?_; rintro e w' ⟨rfl, rfl⟩)
            go_round
            case rel => exact ⟨i + n, acc ++ P, _, rfl, by go_num, by omega, HZ.out.1, HZ.out.2.1, HZ.out.2.2⟩
            case measure => simp [intOf]; omega
          · have HN : RowKit.Hid (X = acc) := HY.out.1 (by rw [HLP.out]; exact h60)
            clear HY
            go_wp2_with (go_at_call 47; refine C.mono ?_; rintro e w' ⟨rfl, rfl⟩)
            go_ret
            exact ⟨ret_strE (by rw [HQ.out.1, HN.out]), rfl⟩
    · have HN : RowKit.Hid (X = acc) := by
        show _ = _
        have e := HQ.out.2
        rw [List.drop_of_length_le (by rw [len_list]; omega)] at e
        rw [← e]
        simp [items_nil, titleN, enc_nil]
      go_wp2
      go_ret
      exact ⟨ret_strE (by rw [HQ.out.1, HN.out]), rfl⟩
end Go.Proofs.YtmgfkdmjgjlkjaaGreat

namespace Go.Proofs.YtmgfkdmjgjlkjaaGreat
open Go.RowKit
set_option linter.unusedVariables false
set_option linter.unusedSimpArgs false
def nameOk (s : ByteArray) : Bool := decide (ba (titleF s.data.toList) = s)
def fallOk (s : ByteArray) : Bool := decide (s = ⟨#[]⟩) || mountF s.data.toList
def Cfg.texts (c : Cfg) : Bool := mountF c.path.data.toList && nameOk c.name && fallOk c.fall
def Cfg.right (c : Cfg) : Bool := c.texts && c.nums
theorem Cfg.right_ok {c : Cfg} (h : c.right = true) : c.Ok := by
  simp only [Cfg.right, Bool.and_eq_true] at h
  exact nums_ok h.2
end Go.Proofs.YtmgfkdmjgjlkjaaGreat

namespace Go.Proofs.YtmgfkdmjgjlkjaaGreat
open Go.RowKit Go.PlainAid
set_option linter.unusedVariables false
theorem ret_boolE' {a b : Bool} (h : a = b) : Ending.returned (.bool a) = .returned (.bool b) := by rw [h]
def strayB (r : Int) (l : List UInt8) : Bool := r == 65533 && !(Lib.hasPrefix l [239, 191, 189])
theorem enc65533 : Lib.encodeRune ((65533 : Nat) : Int) = [239, 191, 189] := by decide +kernel
theorem prefix_take (l p : List UInt8) : Lib.hasPrefix l p = true ↔ ∃ t, l = p ++ t := by
  unfold Lib.hasPrefix
  rw [List.isPrefixOf_iff_prefix]
  constructor
  · rintro ⟨t, h⟩
    exact ⟨t, h.symm⟩
  · rintro ⟨t, h⟩
    exact ⟨t, h.symm⟩
theorem strayB_of (l : List UInt8) (hne : l ≠ []) : strayB ((Lib.decodeL l).1 : Int) l = (headI l).isNone := by
  cases hh : headI l with
  | none =>
    obtain ⟨h1, h2⟩ := headI_none hh
    unfold strayB
    rw [h1]
    have : Lib.hasPrefix l [239, 191, 189] = false := by
      cases hp : Lib.hasPrefix l [239, 191, 189] with
      | false => rfl
      | true =>
        obtain ⟨t, ht⟩ := (prefix_take _ _).1 hp
        have e := dec_enc 65533 (.inr ⟨by decide, by decide⟩) t
        rw [enc65533, ← ht] at e
        rw [e] at h2
        simp at h2
    rw [this]
    rfl
  | some r =>
    obtain ⟨ok, h1, h2, h3, h4⟩ := headI_some hne hh
    unfold strayB
    rw [h1]
    by_cases hr : r = 65533
    · have : Lib.hasPrefix l [239, 191, 189] = true := by
        rw [prefix_take]
        refine ⟨l.drop (Lib.decodeL l).2, ?_⟩
        rw [← enc65533, ← hr, h2, List.take_append_drop]
      rw [this]
      simp
    · have : ((r : Int) == 65533) = false := by
        have : ¬ (r : Int) = 65533 := by omega
        simpa using this
      rw [this]
      rfl
theorem runeLen_enc (r : Nat) (h : okR r) : Lib.runeLen (r : Int) = ((Lib.encodeRune (r : Int)).length : Int) := by
  unfold okR at h
  unfold Lib.runeLen Lib.encodeRune
  rw [List.length_map]
  rcases Nat.lt_or_ge r 128 with c | c
  · rw [Lib.encodeRuneZ_one (by omega) (by omega)]
    rw [if_neg (by omega), if_pos (by omega)]
    rfl
  rcases Nat.lt_or_ge r 2048 with c2 | c2
  · rw [Lib.encodeRuneZ_two (by omega) (by omega)]
    rw [if_neg (by omega), if_neg (by omega), if_pos (by omega)]
    rfl
  rcases Nat.lt_or_ge r 65536 with c3 | c3
  · rw [Lib.encodeRuneZ_three (by omega)]
    rw [if_neg (by omega), if_neg (by omega), if_neg (by omega), if_neg (by omega), if_pos (by omega)]
    rfl
  · rw [Lib.encodeRuneZ_four (by omega) (by omega)]
    rw [if_neg (by omega), if_neg (by omega), if_neg (by omega), if_neg (by omega), if_neg (by omega), if_pos (by omega)]
    rfl
theorem isStray_any (r : Int) (s : ByteArray) (w : World) : Calls Tryz.prog 84 #[.int .i32 r, .string s] w fun e w' => e = .returned (.bool (strayB r s.data.toList)) ∧ w = w' := by
  have C := Tryz.strings_HasPrefix s ⟨#[239, 191, 189]⟩ w
  have e : (ByteArray.mk #[239, 191, 189]).data.toList = [239, 191, 189] := rfl
  rw [e] at C
  unfold strayB
  generalize Lib.hasPrefix s.data.toList [239, 191, 189] = X at C ⊢
  by_cases h : r = 65533
  · subst h
    go_enter Tryz.func84, Tryz.ntmps84
    go_wp2_with (go_at_call 117; refine C.mono ?_; rintro e w' ⟨rfl, rfl⟩)
    go_ret
    exact ⟨ret_boolE' (by simp), rfl⟩
  · have h' : (r == 65533) = false := by simpa using h
    rw [h']
    go_enter Tryz.func84, Tryz.ntmps84
    go_wp2
    go_ret
    exact ⟨ret_boolE' (by simp), rfl⟩
theorem shown_any (r : Nat) (w : World) : Calls Tryz.prog 85 #[.int .i32 (r : Int)] w fun e w' => e = .returned (.int .i32 (shownR (some r) : Nat)) ∧ w = w' := by
  obtain ⟨ri, hri⟩ : ∃ ri : Int, (r : Int) = ri := ⟨_, rfl⟩
  by_cases b1 : r < 32 ∨ r = 127 ∨ r = 59
  · have e : shownR (some r) = 32 := by simp only [shownR, if_pos b1]
    rw [e, hri]
    have b1' : ri < 32 ∨ ri = 127 ∨ ri = 59 := by omega
    have ri0 : 0 ≤ ri := by omega
    clear hri b1 e
    rcases b1' with k | k | k
    · go_enter Tryz.func85, Tryz.ntmps85
      go_wp2
      all_goals first | (go_ret; exact ⟨rfl, rfl⟩) | (exfalso; omega)
    · subst k
      go_enter Tryz.func85, Tryz.ntmps85
      go_wp2
      go_ret
      exact ⟨rfl, rfl⟩
    · subst k
      go_enter Tryz.func85, Tryz.ntmps85
      go_wp2
      go_ret
      exact ⟨rfl, rfl⟩
  by_cases b2 : r = 39
  · subst b2
    go_enter Tryz.func85, Tryz.ntmps85
    go_wp2
    go_ret
    exact ⟨rfl, rfl⟩
  · have e : shownR (some r) = r := by simp only [shownR, if_neg b1, if_neg b2]
    rw [e, hri]
    have c1 : ¬ ri < 32 := by omega
    have c2 : (ri == 127) = false := by have : ¬ ri = 127 := by omega
                                        simpa using this
    have c3 : (ri == 59) = false := by have : ¬ ri = 59 := by omega
                                       simpa using this
    have c4 : (ri == 39) = false := by have : ¬ ri = 39 := by omega
                                       simpa using this
    clear hri b1 b2 e
    go_enter Tryz.func85, Tryz.ntmps85
    go_wp2
    go_ret
    exact ⟨rfl, rfl⟩
end Go.Proofs.YtmgfkdmjgjlkjaaGreat

namespace Go.Proofs.YtmgfkdmjgjlkjaaGreat
open Go.RowKit Go.PlainAid
set_option linter.unusedVariables false
set_option maxHeartbeats 4000000 in
set_option maxRecDepth 1000000 in
theorem title_any (s : ByteArray) (w : World) (hs : s.size ≤ 9223372036854775807) :
    Calls Tryz.prog 45 #[.string s] w fun e w' => e = .returned (.string (ba (titleF s.data.toList))) ∧ Below w.heap.size w w' := by
  obtain ⟨X, hX⟩ : ∃ X, titleF s.data.toList = X := ⟨_, rfl⟩
  have HX := Lib.hid hX
  rw [hX]
  clear hX
  go_enter Tryz.func45, Tryz.ntmps45
  go_wp2
  go_loopw [] (fun wr => ∃ (pos : Nat) (acc : List UInt8), Lib.IsBuilderF 153 5 w.heap.size w.heap.size (Lib.byteCells acc) wr ∧ wr.heap[w.heap.size + 1]? = some (.stringIter s pos) ∧ Below w.heap.size w wr ∧ acc.length ≤ 60 ∧ RowKit.Hid (acc ++ enc (titleN acc.length (items (s.data.toList.drop pos))) = X)) (fun wr => s.size - wr.iterPos (w.heap.size + 1))
  case atStart =>
    refine ⟨0, [], (Lib.IsBuilderF.of (Lib.fresh_isBuilder 153 5 w)).alloc _, ?_, ((Below.refl _ w).alloc (Nat.le_refl _) _).alloc (by simp) _, by simp, by rw [← HX.out]; rfl⟩
    have := World.iter_heap (w.alloc (.cells #[.pointer none, .slice none 0 0] 153)) s 0
    simpa using this
  case round =>
    obtain ⟨pos, acc, hI, hit, hbw, hac, HQ⟩ := hrel
    have hsz : w.heap.size + 1 < wr.heap.size := (Array.getElem?_eq_some_iff.1 hit).1
    by_cases hp : pos < s.size
    · obtain ⟨⟨r, n⟩, hd⟩ : ∃ d, Utf8.decode s pos = d := ⟨_, rfl⟩
      have hdl : Lib.decodeL (s.data.toList.drop pos) = (r, n) := by rw [Lib.decodeL_drop, hd]
      have hnx : ∀ ty, (Instr.next (.pointer (some ⟨w.heap.size + 1, 0, none⟩)) true ty).run Tryz.prog wr = .ok (.tuple #[.bool true, .int .i64 pos, .int .i32 r]) (wr.iterAt (w.heap.size + 1) s (pos + n)) := by
        intro ty
        rw [Lib.run_next_any_at wr (w.heap.size + 1) s pos ty hit hp, hd]
      have hne : s.data.toList.drop pos ≠ [] := (rune_at s pos hp).1
      have hn1 : 1 ≤ n := by have := Lib.decodeL_width (s.data.toList.drop pos); rw [hdl] at this; exact this
      have hI2 := hI.iterAt hit (pos + n)
      have hit2 := Lib.iterAt_heap wr (w.heap.size + 1) s pos (pos + n) hit
      have hbw2 := Lib.below_iterAt hbw (k := w.heap.size + 1) (by omega) s (pos + n)
      have hsz2 : w.heap.size ≤ (wr.iterAt (w.heap.size + 1) s (pos + n)).heap.size := by rw [Lib.iterAt_size]; omega
      have hr31 : r ≤ 2147483647 := by have := decode_le s pos; rw [hd] at this; exact this
      have C1 : ∀ W, Calls Tryz.prog 84 #[.int .i32 (r : Int), .string (s.extract pos s.size)] W fun e w' => e = .returned (.bool (headI (s.data.toList.drop pos)).isNone) ∧ W = w' := by
        intro W
        have := isStray_any (r : Int) (s.extract pos s.size) W
        rw [tail_list] at this
        have e := strayB_of _ hne
        rw [hdl] at e
        rw [e] at this
        exact this
      have HST : RowKit.Hid (∀ (x : Option Nat) (p : List UInt8), headI (s.data.toList.drop pos) = x → Lib.encodeRune (shownR x : Int) = p →
          (¬ acc.length + p.length ≤ 60 → X = acc) ∧ (acc.length + p.length ≤ 60 → (acc ++ p) ++ enc (titleN (acc ++ p).length (items (s.data.toList.drop (pos + n)))) = X)) := by
        intro x p h1 h2
        have e := HQ.out
        rw [tail_items _ _ hne, h1, hdl] at e
        simp only at e
        constructor
        · intro h
          simp only [titleN, h2] at e
          rw [if_pos (by omega)] at e
          rw [← e]
          simp [enc_nil]
        · intro h
          simp only [titleN, h2] at e
          rw [if_neg (by omega), enc_cons, h2] at e
          rw [List.length_append, List.append_assoc]
          exact e
      have CL := Tryz.Builder_Len_f w.heap.size w.heap.size (Lib.byteCells acc) _ hI2
      rw [Lib.byteCells_length] at CL
      have hok : ∀ x, headI (s.data.toList.drop pos) = some x → okR x := fun x hx => (headI_some hne hx).1
      cases hh : headI (s.data.toList.drop pos) with
      | none =>
        rw [hh] at C1
        obtain ⟨q, hq⟩ : ∃ q, shownR none = q := ⟨_, rfl⟩
        have hqok : okR q := by rw [← hq]; exact shownR_ok (fun y hy => hok y (by rw [hh, hy]))
        have C2 : ∀ W, Calls Tryz.prog 85 #[.int .i32 ((32 : Nat) : Int)] W fun e w' => e = .returned (.int .i32 (q : Nat)) ∧ W = w' := by
          intro W
          have := shown_any 32 W
          rw [show shownR (some 32) = q by rw [← hq]; rfl] at this
          exact this
        obtain ⟨p, hpE⟩ : ∃ p, Lib.encodeRune (q : Int) = p := ⟨_, rfl⟩
        have HS := Lib.hid (HST.out none p hh (by rw [hq, hpE]))
        have C3 : ∀ W, Calls Tryz.prog 87 #[.int .i32 (q : Int)] W fun e w' => e = .returned (.int .i64 p.length) ∧ w' = W := by
          intro W
          have := Tryz.utf8_RuneLen (q : Int) W
          rw [runeLen_enc q hqok, hpE] at this
          exact this
        have CW := Tryz.Builder_WriteRune_k w.heap.size w.heap.size (Lib.byteCells acc) (q : Int) (by omega) (by unfold okR at hqok; omega) _ hI2 (by rw [Lib.byteCells_length]; omega) hsz2
        rw [← Lib.byteCells_encodeRune, hpE, ← Lib.byteCells_append] at CW
        have HI := Lib.hid hI2
        have hpl : p.length ≤ 4 := by have := enc_len (q : Int); rw [hpE] at this; exact this.2
        have HN : RowKit.Hid (¬ acc.length + p.length ≤ 60 → X = acc) := HS.out.1
        have HY : RowKit.Hid (acc.length + p.length ≤ 60 → (acc ++ p) ++ enc (titleN (acc ++ p).length (items (s.data.toList.drop (pos + n)))) = X) := HS.out.2
        clear hd hdl hne hok hh HST HS hq hqok hpE HQ
        generalize hW2 : wr.iterAt (w.heap.size + 1) s (pos + n) = W2 at *
        have HW2 : RowKit.Hid (wr.iterPos (w.heap.size + 1) = pos) := by show _ = _; simp only [World.iterPos, hit]
        clear hI hit hbw hW2
        by_cases h60 : acc.length + p.length ≤ 60
        · go_wp2_with (first | (go_at_call 84; refine (C1 _).mono ?_; rintro e w' ⟨rfl, rfl⟩) | (go_at_call 85; refine (C2 _).mono ?_; rintro e w' ⟨rfl, rfl⟩) | (go_at_call 86; refine CL.mono ?_; rintro e w' ⟨rfl, rfl⟩) | (go_at_call 87; refine (C3 _).mono ?_; rintro e w' ⟨rfl, rfl⟩) | (go_at_call 88; refine CW.mono ?_; rintro e w' ⟨rfl, h1, b1, k1⟩))
          go_roundw
          case rel => exact ⟨pos + n, acc ++ p, Or.inr h1, k1.iter hit2 (by omega), hbw2.trans b1, by rw [List.length_append]; omega, HY.out h60⟩
          case measure => rw [HW2.out]; simp only [World.iterPos, k1.iter hit2 (by omega)]; omega
        · go_wp2_with (first | (go_at_call 84; refine (C1 _).mono ?_; rintro e w' ⟨rfl, rfl⟩) | (go_at_call 85; refine (C2 _).mono ?_; rintro e w' ⟨rfl, rfl⟩) | (go_at_call 86; refine CL.mono ?_; rintro e w' ⟨rfl, rfl⟩) | (go_at_call 87; refine (C3 _).mono ?_; rintro e w' ⟨rfl, rfl⟩) | (go_at_call 89; refine (Tryz.Builder_String_any_k w.heap.size w.heap.size acc _ HI.out (by omega)).mono ?_; rintro e w' ⟨rfl, _, b1, _⟩))
          go_ret
          exact ⟨ret_strE (by rw [HN.out h60]; rfl), hbw2.trans b1⟩
      | some r' =>
        have er : r' = r := by have := (headI_some hne hh).2.1; rw [hdl] at this; exact this.symm
        subst er
        rw [hh] at C1
        obtain ⟨q, hq⟩ : ∃ q, shownR (some r') = q := ⟨_, rfl⟩
        have hqok : okR q := by rw [← hq]; exact shownR_ok (fun y hy => hok y (by rw [hh, hy]))
        have C2 : ∀ W, Calls Tryz.prog 85 #[.int .i32 ((r' : Nat) : Int)] W fun e w' => e = .returned (.int .i32 (q : Nat)) ∧ W = w' := by
          intro W
          have := shown_any r' W
          rw [show shownR (some r') = q by rw [← hq]] at this
          exact this
        obtain ⟨p, hpE⟩ : ∃ p, Lib.encodeRune (q : Int) = p := ⟨_, rfl⟩
        have HS := Lib.hid (HST.out (some r') p hh (by rw [hq, hpE]))
        have C3 : ∀ W, Calls Tryz.prog 87 #[.int .i32 (q : Int)] W fun e w' => e = .returned (.int .i64 p.length) ∧ w' = W := by
          intro W
          have := Tryz.utf8_RuneLen (q : Int) W
          rw [runeLen_enc q hqok, hpE] at this
          exact this
        have CW := Tryz.Builder_WriteRune_k w.heap.size w.heap.size (Lib.byteCells acc) (q : Int) (by omega) (by unfold okR at hqok; omega) _ hI2 (by rw [Lib.byteCells_length]; omega) hsz2
        rw [← Lib.byteCells_encodeRune, hpE, ← Lib.byteCells_append] at CW
        have HI := Lib.hid hI2
        have hpl : p.length ≤ 4 := by have := enc_len (q : Int); rw [hpE] at this; exact this.2
        have HN : RowKit.Hid (¬ acc.length + p.length ≤ 60 → X = acc) := HS.out.1
        have HY : RowKit.Hid (acc.length + p.length ≤ 60 → (acc ++ p) ++ enc (titleN (acc ++ p).length (items (s.data.toList.drop (pos + n)))) = X) := HS.out.2
        clear hd hdl hne hok hh HST HS hq hqok hpE HQ
        generalize hW2 : wr.iterAt (w.heap.size + 1) s (pos + n) = W2 at *
        have HW2 : RowKit.Hid (wr.iterPos (w.heap.size + 1) = pos) := by show _ = _; simp only [World.iterPos, hit]
        clear hI hit hbw hW2
        by_cases h60 : acc.length + p.length ≤ 60
        · go_wp2_with (first | (go_at_call 84; refine (C1 _).mono ?_; rintro e w' ⟨rfl, rfl⟩) | (go_at_call 85; refine (C2 _).mono ?_; rintro e w' ⟨rfl, rfl⟩) | (go_at_call 86; refine CL.mono ?_; rintro e w' ⟨rfl, rfl⟩) | (go_at_call 87; refine (C3 _).mono ?_; rintro e w' ⟨rfl, rfl⟩) | (go_at_call 88; refine CW.mono ?_; rintro e w' ⟨rfl, h1, b1, k1⟩))
          go_roundw
          case rel => exact ⟨pos + n, acc ++ p, Or.inr h1, k1.iter hit2 (by omega), hbw2.trans b1, by rw [List.length_append]; omega, HY.out h60⟩
          case measure => rw [HW2.out]; simp only [World.iterPos, k1.iter hit2 (by omega)]; omega
        · go_wp2_with (first | (go_at_call 84; refine (C1 _).mono ?_; rintro e w' ⟨rfl, rfl⟩) | (go_at_call 85; refine (C2 _).mono ?_; rintro e w' ⟨rfl, rfl⟩) | (go_at_call 86; refine CL.mono ?_; rintro e w' ⟨rfl, rfl⟩) | (go_at_call 87; refine (C3 _).mono ?_; rintro e w' ⟨rfl, rfl⟩) | (go_at_call 89; refine (Tryz.Builder_String_any_k w.heap.size w.heap.size acc _ HI.out (by omega)).mono ?_; rintro e w' ⟨rfl, _, b1, _⟩))
          go_ret
          exact ⟨ret_strE (by rw [HN.out h60]; rfl), hbw2.trans b1⟩
    · have HN : RowKit.Hid (X = acc) := by
        show _ = _
        have e := HQ.out
        rw [List.drop_of_length_le (by rw [len_list]; omega)] at e
        rw [← e]
        simp [items_nil, titleN, enc_nil]
      have hnx : ∀ ty, (Instr.next (.pointer (some ⟨w.heap.size + 1, 0, none⟩)) true ty).run Tryz.prog wr = _ := fun ty => Lib.run_next_end_at wr (w.heap.size + 1) s pos ty hit hp
      go_wp2_with (go_at_call 89; refine (Tryz.Builder_String_any_k w.heap.size w.heap.size acc _ hI (by omega)).mono ?_)
      rintro e W1 ⟨rfl, _, b1, _⟩
      go_wp2
      go_ret
      exact ⟨ret_strE (by rw [HN.out]; rfl), hbw.trans b1⟩
end Go.Proofs.YtmgfkdmjgjlkjaaGreat
