/- Texts as rows of bytes, for the walks of layer 16; what the document's answer says of the rune that a text begins with. -/
import Derived.Test.YtebfjmjdcbeekaaDoorWrdP
import Derived.PlainAid
import Derived.Lib.Strings
import Derived.Lib.Hide
namespace Go.Proofs.YtebfjmjdcbeekaaDoor
open Go Go.PlainAid
set_option linter.unusedVariables false

theorem bt_list (s : ByteArray) (k : Nat) : bt s k = ((s.data.toList.getD k 0).toNat : Int) := by
  unfold bt
  by_cases h : k < s.size
  · rw [dif_pos h]
    have h' : k < s.data.toList.length := by simpa using h
    rw [List.getD_eq_getElem?_getD, List.getElem?_eq_getElem h']
    rfl
  · rw [dif_neg h]
    have h' : s.data.toList.length ≤ k := by simpa using h
    rw [List.getD_eq_getElem?_getD, List.getElem?_eq_none h']
    rfl
theorem len_list (s : ByteArray) : s.data.toList.length = s.size := by simp
theorem tail_list (s : ByteArray) (i : Nat) : (s.extract i s.size).data.toList = s.data.toList.drop i := by
  rw [Lib.extract_data, List.take_of_length_le (by simp)]
theorem tail_size (s : ByteArray) (i : Nat) (h : i ≤ s.size) : (s.extract i s.size).size = s.size - i := by
  rw [← len_list, tail_list, List.length_drop, len_list]
/-- The rune that the document's answer tells, and how many bytes it has. -/
def runeR (l : List UInt8) : Nat := match headI l with
  | none => 0
  | some r => r
def runeN (l : List UInt8) : Nat := match headI l with
  | none => 0
  | some _ => (Lib.decodeL l).2
theorem rune_bad {l : List UInt8} {r n : Int} (h : Lib.decodeN l.length (l.getD 0 0).toNat (l.getD 1 0).toNat (l.getD 2 0).toNat (l.getD 3 0).toNat = (65533, 1)) (hr : r = 0) (hn : n = 0) :
    Ending.returned (.tuple #[.int .i64 r, .int .i64 n]) = .returned (.tuple #[.int .i64 (runeR l : Nat), .int .i64 (runeN l : Nat)]) := by
  have e : headI l = none := by
    unfold headI
    rw [Lib.decodeL_N, h]
    simp
  unfold runeR runeN
  rw [e, hr, hn]
  rfl
theorem rune_good {l : List UInt8} {r n : Int} {q k : Nat} (h : Lib.decodeN l.length (l.getD 0 0).toNat (l.getD 1 0).toNat (l.getD 2 0).toNat (l.getD 3 0).toNat = (q, k)) (hk : ¬ (q = 65533 ∧ k = 1)) (hr : r = q) (hn : n = k) :
    Ending.returned (.tuple #[.int .i64 r, .int .i64 n]) = .returned (.tuple #[.int .i64 (runeR l : Nat), .int .i64 (runeN l : Nat)]) := by
  have e : headI l = some q := by
    unfold headI
    rw [Lib.decodeL_N, h, if_neg hk]
  unfold runeR runeN
  rw [e, hr, hn]
  simp only []
  rw [Lib.decodeL_N, h]
theorem decN_bad (n b0 b1 b2 b3 : Nat) (h0 : 128 ≤ b0) (hb : b0 < 256) (h : b0 < 194 ∨ 245 ≤ b0 ∨ n < 2 ∨ (b1 < 128 ∨ 191 < b1) ∨ (224 ≤ b0 ∧ (n < 3 ∨ (b2 < 128 ∨ 191 < b2))) ∨ (240 ≤ b0 ∧ (n < 4 ∨ (b3 < 128 ∨ 191 < b3)))
    ∨ (224 ≤ b0 ∧ b0 < 240 ∧ 128 ≤ b1 ∧ b1 ≤ 191 ∧ 128 ≤ b2 ∧ b2 ≤ 191 ∧ ((b0 - 224) * 4096 + (b1 - 128) * 64 + (b2 - 128) < 2048 ∨ (55296 ≤ (b0 - 224) * 4096 + (b1 - 128) * 64 + (b2 - 128) ∧ (b0 - 224) * 4096 + (b1 - 128) * 64 + (b2 - 128) < 57344)))
    ∨ (240 ≤ b0 ∧ 128 ≤ b1 ∧ b1 ≤ 191 ∧ 128 ≤ b2 ∧ b2 ≤ 191 ∧ 128 ≤ b3 ∧ b3 ≤ 191 ∧ ((b0 - 240) * 262144 + (b1 - 128) * 4096 + (b2 - 128) * 64 + (b3 - 128) < 65536 ∨ 1114111 < (b0 - 240) * 262144 + (b1 - 128) * 4096 + (b2 - 128) * 64 + (b3 - 128)))) :
    Lib.decodeN n b0 b1 b2 b3 = (65533, 1) := by
  unfold Lib.decodeN
  repeat' split
  all_goals first | rfl | (exfalso; omega)
theorem decN_2 (n b0 b1 b2 b3 : Nat) (h0 : 194 ≤ b0) (h1 : b0 < 224) (hn : 2 ≤ n) (hb1 : 128 ≤ b1) (hb1' : b1 ≤ 191) : Lib.decodeN n b0 b1 b2 b3 = ((b0 - 192) * 64 + (b1 - 128), 2) := by
  unfold Lib.decodeN
  repeat' split
  all_goals first | (exfalso; omega) | (apply Prod.ext <;> simp only <;> omega)
theorem decN_3 (n b0 b1 b2 b3 : Nat) (h0 : 224 ≤ b0) (h1 : b0 < 240) (hn : 3 ≤ n) (hb1 : 128 ≤ b1) (hb1' : b1 ≤ 191) (hb2 : 128 ≤ b2) (hb2' : b2 ≤ 191) (hr : 2048 ≤ (b0 - 224) * 4096 + (b1 - 128) * 64 + (b2 - 128))
    (ho : (b0 - 224) * 4096 + (b1 - 128) * 64 + (b2 - 128) < 55296 ∨ 57344 ≤ (b0 - 224) * 4096 + (b1 - 128) * 64 + (b2 - 128)) : Lib.decodeN n b0 b1 b2 b3 = ((b0 - 224) * 4096 + (b1 - 128) * 64 + (b2 - 128), 3) := by
  unfold Lib.decodeN
  repeat' split
  all_goals first | (exfalso; omega) | (apply Prod.ext <;> simp only <;> omega)
theorem decN_4 (n b0 b1 b2 b3 : Nat) (h0 : 240 ≤ b0) (h1 : b0 < 245) (hn : 4 ≤ n) (hb1 : 128 ≤ b1) (hb1' : b1 ≤ 191) (hb2 : 128 ≤ b2) (hb2' : b2 ≤ 191) (hb3 : 128 ≤ b3) (hb3' : b3 ≤ 191) (hr : 65536 ≤ (b0 - 240) * 262144 + (b1 - 128) * 4096 + (b2 - 128) * 64 + (b3 - 128))
    (ho : (b0 - 240) * 262144 + (b1 - 128) * 4096 + (b2 - 128) * 64 + (b3 - 128) ≤ 1114111) : Lib.decodeN n b0 b1 b2 b3 = ((b0 - 240) * 262144 + (b1 - 128) * 4096 + (b2 - 128) * 64 + (b3 - 128), 4) := by
  unfold Lib.decodeN
  repeat' split
  all_goals first | (exfalso; omega) | (apply Prod.ext <;> simp only <;> omega)
end Go.Proofs.YtebfjmjdcbeekaaDoor
