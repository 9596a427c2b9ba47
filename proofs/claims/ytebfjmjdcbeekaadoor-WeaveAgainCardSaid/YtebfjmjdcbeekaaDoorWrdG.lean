/- What package word's small functions of runes give, and a text's title. -/
import Derived.Test.YtebfjmjdcbeekaaDoorWrdE
import Derived.Test.YtebfjmjdcbeekaaDoorShelf
import Derived.BigCall
namespace Go.Proofs.YtebfjmjdcbeekaaDoor
open Go.RowKit Go.PlainAid
set_option linter.unusedVariables false

theorem ret_boolE' {a b : Bool} (h : a = b) : Ending.returned (.bool a) = .returned (.bool b) := by rw [h]
def strayB (r : Int) (l : List UInt8) : Bool := r == 65533 && !(Lib.hasPrefix l [239, 191, 189])
theorem enc65533 : Lib.encodeRune ((65533 : Nat) : Int) = [239, 191, 189] := by decide +kernel
theorem prefix_take (l p : List UInt8) : Lib.hasPrefix l p = true ↔ ∃ t, l = p ++ t := by
  unfold Lib.hasPrefix
  rw [List.isPrefixOf_iff_prefix]
  constructor
  · rintro ⟨t, h⟩
    exact ⟨t, h.symm⟩
  · rintro ⟨t, h⟩
    exact ⟨t, h.symm⟩
/-- A rune stands for a stray byte just where the text doesn't begin with that rune itself. -/
theorem strayB_of (l : List UInt8) (hne : l ≠ []) : strayB ((Lib.decodeL l).1 : Int) l = (headI l).isNone := by
  cases hh : headI l with
  | none =>
    obtain ⟨h1, h2⟩ := headI_none hh
    unfold strayB
    rw [h1]
    have : Lib.hasPrefix l [239, 191, 189] = false := by
      cases hp : Lib.hasPrefix l [239, 191, 189] with
      | false => rfl
      | true =>
        obtain ⟨t, ht⟩ := (prefix_take _ _).1 hp
        have e := dec_enc 65533 (.inr ⟨by decide, by decide⟩) t
        rw [enc65533, ← ht] at e
        rw [e] at h2
        simp at h2
    rw [this]
    rfl
  | some r =>
    obtain ⟨ok, h1, h2, h3, h4⟩ := headI_some hne hh
    unfold strayB
    rw [h1]
    by_cases hr : r = 65533
    · have : Lib.hasPrefix l [239, 191, 189] = true := by
        rw [prefix_take]
        refine ⟨l.drop (Lib.decodeL l).2, ?_⟩
        rw [← enc65533, ← hr, h2, List.take_append_drop]
      rw [this]
      simp
    · have : ((r : Int) == 65533) = false := by
        have : ¬ (r : Int) = 65533 := by omega
        simpa using this
      rw [this]
      rfl
theorem runeLen_enc (r : Nat) (h : okR r) : Lib.runeLen (r : Int) = ((Lib.encodeRune (r : Int)).length : Int) := by
  unfold okR at h
  unfold Lib.runeLen Lib.encodeRune
  rw [List.length_map]
  rcases Nat.lt_or_ge r 128 with c | c
  · rw [Lib.encodeRuneZ_one (by omega) (by omega)]
    rw [if_neg (by omega), if_pos (by omega)]
    rfl
  rcases Nat.lt_or_ge r 2048 with c2 | c2
  · rw [Lib.encodeRuneZ_two (by omega) (by omega)]
    rw [if_neg (by omega), if_neg (by omega), if_pos (by omega)]
    rfl
  rcases Nat.lt_or_ge r 65536 with c3 | c3
  · rw [Lib.encodeRuneZ_three (by omega)]
    rw [if_neg (by omega), if_neg (by omega), if_neg (by omega), if_neg (by omega), if_pos (by omega)]
    rfl
  · rw [Lib.encodeRuneZ_four (by omega) (by omega)]
    rw [if_neg (by omega), if_neg (by omega), if_neg (by omega), if_neg (by omega), if_neg (by omega), if_pos (by omega)]
    rfl

theorem isStray_any (r : Int) (s : ByteArray) (w : World) : Calls Tryd.prog 34 #[.int .i32 r, .string s] w fun e w' => e = .returned (.bool (strayB r s.data.toList)) ∧ w = w' := by
  have C := Tryd.strings_HasPrefix s ⟨#[239, 191, 189]⟩ w
  have e : (ByteArray.mk #[239, 191, 189]).data.toList = [239, 191, 189] := rfl
  rw [e] at C
  unfold strayB
  generalize Lib.hasPrefix s.data.toList [239, 191, 189] = X at C ⊢
  by_cases h : r = 65533
  · subst h
    go_enter Tryd.func34, Tryd.ntmps34
    go_wp2_with (go_at_call 47; refine C.mono ?_; rintro e w' ⟨rfl, rfl⟩)
    go_ret
    exact ⟨ret_boolE' (by simp), rfl⟩
  · have h' : (r == 65533) = false := by simpa using h
    rw [h']
    go_enter Tryd.func34, Tryd.ntmps34
    go_wp2
    go_ret
    exact ⟨ret_boolE' (by simp), rfl⟩
theorem ret_i32E {a b : Int} (h : a = b) : Ending.returned (.int .i32 a) = .returned (.int .i32 b) := by rw [h]
theorem shown_any (r : Nat) (w : World) : Calls Tryd.prog 35 #[.int .i32 (r : Int)] w fun e w' => e = .returned (.int .i32 (shownR (some r) : Nat)) ∧ w = w' := by
  obtain ⟨ri, hri⟩ : ∃ ri : Int, (r : Int) = ri := ⟨_, rfl⟩
  by_cases b1 : r < 32 ∨ r = 127 ∨ r = 59
  · have e : shownR (some r) = 32 := by simp only [shownR, if_pos b1]
    rw [e, hri]
    have b1' : ri < 32 ∨ ri = 127 ∨ ri = 59 := by omega
    have ri0 : 0 ≤ ri := by omega
    clear hri b1 e
    rcases b1' with k | k | k
    · go_enter Tryd.func35, Tryd.ntmps35
      go_wp2
      all_goals first | (go_ret; exact ⟨rfl, rfl⟩) | (exfalso; omega)
    · subst k
      go_enter Tryd.func35, Tryd.ntmps35
      go_wp2
      go_ret
      exact ⟨rfl, rfl⟩
    · subst k
      go_enter Tryd.func35, Tryd.ntmps35
      go_wp2
      go_ret
      exact ⟨rfl, rfl⟩
  by_cases b2 : r = 39
  · subst b2
    go_enter Tryd.func35, Tryd.ntmps35
    go_wp2
    go_ret
    exact ⟨rfl, rfl⟩
  · have e : shownR (some r) = r := by simp only [shownR, if_neg b1, if_neg b2]
    rw [e, hri]
    have c1 : ¬ ri < 32 := by omega
    have c2 : (ri == 127) = false := by have : ¬ ri = 127 := by omega
                                        simpa using this
    have c3 : (ri == 59) = false := by have : ¬ ri = 59 := by omega
                                       simpa using this
    have c4 : (ri == 39) = false := by have : ¬ ri = 39 := by omega
                                       simpa using this
    clear hri b1 b2 e
    go_enter Tryd.func35, Tryd.ntmps35
    go_wp2
    go_ret
    exact ⟨rfl, rfl⟩
end Go.Proofs.YtebfjmjdcbeekaaDoor
