/- The walks of the statements of layer 7: the example, no decoder. -/
import Derived.Test.YtgnmnmjicjcffaaRdcE
import Derived.Test.YtgnmnmjicjcffaaRncK
import Derived.Test.YtgnmnmjicjcffaaRngH
import Derived.Test.YtgnmnmjicjcffaaRngA
import Derived.OwnWalk
namespace Go.Proofs.Ytgnmnmjicjcffaa
open Go.RowKit
set_option linter.unusedVariables false

theorem isDig_of {b : List Int} (h : ∀ x ∈ b, 0 ≤ x ∧ x ≤ 255) : IsDig b := by
  intro j hj
  simp only [List.getD, List.getElem?_eq_getElem hj, Option.getD_some]
  exact h _ (List.getElem_mem hj)
theorem byteF_bd {b : List Int} (h : IsDig b) (j : Nat) : 0 ≤ byteF b j ∧ byteF b j ≤ 255 := by
  unfold byteF
  by_cases hj : j < b.length
  · exact h j hj
  · rw [List.getD, List.getElem?_eq_none (by omega)]; decide
theorem some_of_ints {w : World} {B len : Nat} {k : IntKind} {a : Option Addr} {zs : List Int} {cap : Nat} (h : IntsAt w B k a len zs) (h0 : 0 < len) : a = none → cap = 0 := by
  intro e
  rcases h.2 with h2 | ⟨_, _, h2, _⟩
  · omega
  · rw [e] at h2; cases h2
theorem goodD_new {b : List Int} (h : IsDig b) : GoodD (decNew (byteF b)) := by
  have a := valB_nonneg (fun j => (byteF_bd h j).1) 4
  have b0 := byteF_bd h 0
  have b1 := byteF_bd h 1
  have b2 := byteF_bd h 2
  have b3 := byteF_bd h 3
  refine ⟨by show (16777216 : Int) ≤ 4294967295; decide, by show (4294967295 : Int) ≤ 4294967295; decide, a, ?_⟩
  show (((0 * 256 + byteF b 0) * 256 + byteF b 1) * 256 + byteF b 2) * 256 + byteF b 3 ≤ 4294967295
  omega
theorem drcBits_at (base g : Nat) (v : Value) (b : List Int) (d f : DecS) (n : Int) (wide : Nat) (i : Int) (w : World) (hi' : i = wide) (hf : decBits b d 0 wide = (n, f)) (hD : DrcAt w base g v b d) (hb : ∀ j, 0 ≤ byteF b j ∧ byteF b j ≤ 255) (hbl : b.length ≤ 1000000) (hi : d.i ≤ 4000000) (hG : GoodD d) (hw : wide ≤ 24) :
    Calls Try.prog 60 #[.pointer (some ⟨g, 0, none⟩), .int .i64 i] w (DrcBitsPost base g v b n f w) := by
  subst hi'
  have := drcBits_any base g v b d wide w hD hb hbl hi hG hw
  rw [hf] at this; exact this

/-- The example. -/
def exL : List Int := [18, 253, 14, 208, 47]
def exE : EncS := ⟨20878084550400, 268435200, 2⟩
def exD : DecS := ⟨0, 268435200, 6⟩
def exS : DecS := decNew (byteF exL)
theorem exE_eq : encBits encNew 77777 20 = exE := by kernel_rfl
theorem exE_bytes : bytesL (digL exE.n (exE.k + 4)) = exL := by decide
theorem exD_eq : decBits exL exS 0 20 = (77777, exD) := by kernel_rfl
theorem exL_dig : IsDig exL := isDig_of (by decide)

def ex0S : DecS := decNew (byteF [])
def ex0D : DecS := ⟨0, 2147483392, 5⟩
theorem ex0_eq : decBits [] ex0S 0 9 = (0, ex0D) := by kernel_rfl
theorem dig_nil : IsDig [] := isDig_of (by decide)
theorem ints_nil (w : World) : IntsAt w w.heap.size .u8 none 0 [] := ⟨rfl, .inl rfl⟩
theorem drcNew_nil (w : World) : Calls Try.prog 20 #[.slice none 0 0] w (DrcNewPost [] w) :=
  drcNew_any none 0 0 [] w (ints_nil w) (fun _ => rfl) (byteF_bd dig_nil) (by decide)
end Go.Proofs.Ytgnmnmjicjcffaa
