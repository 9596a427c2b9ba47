/- The document's answers: a text cut at a byte, a text without blanks about. -/
import Derived.Test.YtjhihjkhbmbigaaDoorReqP
import Derived.Test.YtjhihjkhbmbigaaDoorMemK
import Derived.Deep.QuietTactic
import Derived.BigQuiet
namespace Go.Proofs.YtjhihjkhbmbigaaDoor
open Go.RowKit Go.PlainAid
set_option linter.unusedVariables false

theorem ret_cutE {a b a' b' : ByteArray} {y y' : Bool} (h1 : a = a') (h2 : b = b') (h3 : y = y') : Ending.returned (.tuple #[.string a, .string b, .bool y]) = .returned (.tuple #[.string a', .string b', .bool y']) := by rw [h1, h2, h3]
theorem head17 (s : ByteArray) (i : Nat) : s.extract 0 i = ba (s.data.toList.take i) := by
  have := ext_list s 0 i
  simpa using this
theorem rest_list (s : ByteArray) (i : Nat) : s.extract i s.size = ba (s.data.toList.drop i) := ba_of (tail_list s i)
theorem isB_of (x : UInt8) (b : Nat) (h : x.toNat = b) : isB x = (((b : Int) == 32) || ((b : Int) == 9)) := by
  unfold isB
  have e1 : (x == 32) = ((b : Int) == 32) := by
    rw [Bool.eq_iff_iff]
    simp only [beq_iff_eq]
    rw [← UInt8.toNat_inj, h]
    show b = 32 ↔ _
    omega
  have e2 : (x == 9) = ((b : Int) == 9) := by
    rw [Bool.eq_iff_iff]
    simp only [beq_iff_eq]
    rw [← UInt8.toNat_inj, h]
    show b = 9 ↔ _
    omega
  rw [e1, e2]
def strLen : Value → Nat
  | .string t => t.size
  | _ => 0
end Go.Proofs.YtjhihjkhbmbigaaDoor
