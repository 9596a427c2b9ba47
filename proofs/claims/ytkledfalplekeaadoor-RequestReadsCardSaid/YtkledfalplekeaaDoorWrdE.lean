/- What the document's answers for titles and folded texts give, for whatever texts. -/
import Derived.Test.YtkledfalplekeaaDoorWrdA
namespace Go.Proofs.YtkledfalplekeaaDoor
open Go.RowKit Go.PlainAid
set_option linter.unusedVariables false

theorem ret_strE {a b : ByteArray} (h : a = b) : Ending.returned (.string a) = .returned (.string b) := by rw [h]
/-- A text of these bytes. -/
def ba (l : List UInt8) : ByteArray := ⟨l.toArray⟩
theorem ba_list (s : ByteArray) : ba s.data.toList = s := Lib.mk_data s
theorem list_ba (l : List UInt8) : (ba l).data.toList = l := rfl
theorem ba_size (l : List UInt8) : (ba l).size = l.length := by simp [ba, ByteArray.size]
theorem ba_append (a b : List UInt8) : ba a ++ ba b = ba (a ++ b) := by
  rw [← ba_list (ba a ++ ba b)]
  congr 1
theorem ba_of {s : ByteArray} {l : List UInt8} (h : s.data.toList = l) : s = ba l := by rw [← h, ba_list]
theorem ext_list (s : ByteArray) (i n : Nat) : s.extract i (i + n) = ba ((s.data.toList.drop i).take n) := by
  apply ba_of
  rw [Lib.extract_data]
  congr 1
  omega
theorem drop_step (l : List UInt8) (i n : Nat) : (l.drop i).drop n = l.drop (i + n) := by rw [List.drop_drop]

/-- What is known of the rune at a place. -/
theorem rune_at (s : ByteArray) (i : Nat) (h : i < s.size) :
    s.data.toList.drop i ≠ [] ∧ (runeN (s.data.toList.drop i) = 0 ∧ headI (s.data.toList.drop i) = none ∧ (Lib.decodeL (s.data.toList.drop i)).2 = 1 ∨
      ∃ r, headI (s.data.toList.drop i) = some r ∧ runeR (s.data.toList.drop i) = r ∧ runeN (s.data.toList.drop i) = (Lib.decodeL (s.data.toList.drop i)).2 ∧ 1 ≤ (Lib.decodeL (s.data.toList.drop i)).2 ∧ i + (Lib.decodeL (s.data.toList.drop i)).2 ≤ s.size ∧
        (Lib.decodeL (s.data.toList.drop i)).2 ≤ 4 ∧ Lib.encodeRune (r : Int) = (s.data.toList.drop i).take (Lib.decodeL (s.data.toList.drop i)).2 ∧ r ≤ 1114111) := by
  have hne : s.data.toList.drop i ≠ [] := by
    intro c
    have := congrArg List.length c
    rw [List.length_drop, len_list] at this
    simp at this
    omega
  refine ⟨hne, ?_⟩
  cases hh : headI (s.data.toList.drop i) with
  | none =>
    left
    have := headI_none hh
    exact ⟨by unfold runeN; rw [hh], rfl, this.2⟩
  | some r =>
    right
    obtain ⟨ok, h1, h2, h3, h4⟩ := headI_some hne hh
    have w := Lib.decodeL_width (s.data.toList.drop i)
    have e := enc_len (r : Int)
    rw [List.length_drop, len_list] at h3
    rw [h2, List.length_take, List.length_drop, len_list] at e
    refine ⟨r, rfl, by unfold runeR; rw [hh], by unfold runeN; rw [hh], w, by omega, by omega, h2, ?_⟩
    unfold okR at ok
    omega
theorem tail_items (l : List UInt8) (i : Nat) (h : l.drop i ≠ []) : items (l.drop i) = headI (l.drop i) :: items (l.drop (i + (Lib.decodeL (l.drop i)).2)) := by
  rw [items_step _ h, drop_step]

end Go.Proofs.YtkledfalplekeaaDoor
