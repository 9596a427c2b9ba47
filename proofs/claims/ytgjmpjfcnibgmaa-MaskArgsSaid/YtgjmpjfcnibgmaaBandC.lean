/- What the functions of package bands give, for whatever arguments. -/
import Derived.Test.YtgjmpjfcnibgmaaBandS
import Derived.Test.YtgjmpjfcnibgmaaAriW
import Derived.StillTailTactics
namespace Go.Proofs.Ytgjmpjfcnibgmaa
open Go.RowKit
set_option linter.unusedVariables false

theorem ints_some {w : World} {B len : Nat} {k : IntKind} {a : Option Addr} {zs : List Int} (h : IntsAt w B k a len zs) (h0 : 0 < len) : ∃ b off, a = some ⟨b, off, none⟩ := by
  obtain ⟨b, off, e, _⟩ := h.2.resolve_left (by omega)
  exact ⟨b, off, e⟩
theorem ints_cell {w : World} {B len b off : Nat} {k : IntKind} {zs : List Int} (h : IntsAt w B k (some ⟨b, off, none⟩) len zs) {j : Nat} (hj : j < len) : w.cell? ⟨b, off + j, none⟩ = some (.int k (zs.getD j 0)) := by
  obtain ⟨b', off', e, _, _, hc⟩ := h.at_ hj
  obtain ⟨rfl, rfl⟩ : b = b' ∧ off = off' := by injection e with e; injection e with e1 e2; exact ⟨e1, e2⟩
  exact hc

/-! ### Dividing to the nearest -/
theorem i64_and4095 (n : Int) : bits .and .i64 n 4095 = n % 4096 := by
  have h1 : (BitVec.ofInt 64 4095).toNat = 2 ^ 12 - 1 := by decide
  have key : (BitVec.ofInt 64 n &&& BitVec.ofInt 64 4095).toNat = (n % ((2 ^ 64 : Nat) : Int)).toNat % 2 ^ 12 := by
    rw [BitVec.toNat_and, BitVec.toNat_ofInt, h1, Nat.and_two_pow_sub_one_eq_mod]
  show IntKind.i64.wrap ((BitVec.ofInt 64 n &&& BitVec.ofInt 64 4095).toNat : Nat) = n % 4096
  rw [key, IntKind.wrap_i64]
  omega
theorem near_eq {n z : Int} (hn : 0 ≤ n) (hz : 0 < z) : (n + z / 2) / z = if 2 * (n % z) ≥ z then n / z + 1 else n / z := by
  have h := Int.emod_add_mul_ediv n z
  have t0 := Int.emod_nonneg n (b := z) (by omega)
  have t1 := Int.emod_lt_of_pos n hz
  have e : n + z / 2 = (n % z + z / 2) + z * (n / z) := by omega
  rw [e, Int.add_mul_ediv_left _ _ (by omega)]
  split
  · rename_i c
    have : (n % z + z / 2) / z = 1 := by
      rw [show n % z + z / 2 = (n % z + z / 2 - z) + z * 1 by omega, Int.add_mul_ediv_left _ _ (by omega), Int.ediv_eq_zero_of_lt (by omega) (by omega)]
      rfl
    omega
  · have : (n % z + z / 2) / z = 0 := Int.ediv_eq_zero_of_lt (by omega) (by omega)
    omega
/-! ### Making the table -/
theorem made_rep (k : IntKind) (n : Nat) : madeCells #[.int k 0] n = Array.replicate n (.int k 0) := by
  apply Array.ext_getElem?
  intro i
  by_cases h : i < n
  · simp [madeCells, Nat.mod_one, h]
  · simp [madeCells, h]
/-! ### Bands -/
theorem bandsEdges_any (w : World) : Calls Try.prog 18 #[] w fun e w' => ∃ a c, e = .returned (.slice a 22 c) ∧ IntsAt w' w'.heap.size .i64 a 22 edgesL ∧ Below w.heap.size w w' := by
  go_enter Try.func18, Try.ntmps18
  go_wp2
  go_ret
  exact ⟨_, _, rfl, lit_ints w 3 .i64 edgesL _ (0, 0) rfl (by decide), Below.alloc_new w _⟩
theorem edge_all : (List.range 22).all (fun k => (List.range (k + 1)).all fun j => decide (edgeN j ≤ edgeN k)) = true := by decide +kernel
theorem edge_mono {j k : Nat} (h : j ≤ k) (hk : k < 22) : edgeN j ≤ edgeN k := by
  have := List.all_eq_true.1 (List.all_eq_true.1 edge_all k (List.mem_range.2 hk)) j (List.mem_range.2 (by omega))
  simpa using this
end Go.Proofs.Ytgjmpjfcnibgmaa
