/- The walks of ModelLearns and ModelFixed, by the contracts of the functions that they call. -/
import Derived.Test.YthoabpfcpkmhfaaModL
import Derived.OpenShut
import Derived.Laws.AppendOwnNone
namespace Go.Proofs.Ythoabpfcpkmhfaa
open Go.RowKit
set_option linter.unusedVariables false

/-! ### ModelLearns -/
theorem refNew_at (n : Nat) (i : Int) (w : World) (hi : i = n) (h0 : 1 ≤ n) (h1 : n ≤ 64) :
    Calls Try.prog 7 #[.int .i64 i] w fun e w' => ∃ g r, e = .returned (.tuple #[.pointer (some ⟨g, 0, none⟩), .bool true]) ∧ RefMod w' w.heap.size g r (List.replicate n 1) false ∧ Below w.heap.size w w' := by
  subst hi; exact refNew_any n w h0 h1

/-! ### ModelFixed -/
theorem fixOk_dec (zs : List Int) (len : Nat) : FixOk zs len ∨ ¬ FixOk zs len := Classical.em _
theorem modFixed_ok (a : Option Addr) (len cap : Nat) (zs : List Int) (w : World) (h : IntsAt w w.heap.size .u32 a len zs) (hb : ∀ j, j < len → 0 ≤ zs.getD j 0 ∧ zs.getD j 0 ≤ 4294967295) (h0 : 1 ≤ len) (h1 : len ≤ 64) (hf : FixOk zs len) :
    Calls Try.prog 8 #[.slice a len cap] w fun e w' => ∃ g, e = .returned (.tuple #[.pointer (some ⟨g, 0, none⟩), .int .i64 0]) ∧ w.heap.size ≤ g ∧ ModAt w' g zs true ∧ Below w.heap.size w w' :=
  (modFixed_any a len cap zs w h hb h0 h1).mono fun e w' k => by
    obtain ⟨k1, ⟨k2, _⟩ | ⟨_, g, k3, k4, k5⟩⟩ := k
    · exact absurd hf k2
    · exact ⟨g, k3, k4, k5, k1⟩
theorem modFixed_no (a : Option Addr) (len cap : Nat) (zs : List Int) (w : World) (h : IntsAt w w.heap.size .u32 a len zs) (hb : ∀ j, j < len → 0 ≤ zs.getD j 0 ∧ zs.getD j 0 ≤ 4294967295) (h0 : 1 ≤ len) (h1 : len ≤ 64) (hf : ¬ FixOk zs len) :
    Calls Try.prog 8 #[.slice a len cap] w fun e w' => e = .returned (.tuple #[.pointer none, .int .i64 1]) ∧ Below w.heap.size w w' :=
  (modFixed_any a len cap zs w h hb h0 h1).mono fun e w' k => by
    obtain ⟨k1, ⟨_, k3⟩ | ⟨k2, _⟩⟩ := k
    · exact ⟨k3, k1⟩
    · exact absurd k2 hf
theorem refFixed_ok (a : Option Addr) (len cap : Nat) (zs : List Int) (w : World) (h : IntsAt w w.heap.size .u32 a len zs) (hb : ∀ j, j < len → 0 ≤ zs.getD j 0 ∧ zs.getD j 0 ≤ 4294967295) (h0 : 1 ≤ len) (h1 : len ≤ 64) (hf : FixOk zs len) :
    Calls Try.prog 9 #[.slice a len cap] w fun e w' => ∃ g r, e = .returned (.tuple #[.pointer (some ⟨g, 0, none⟩), .bool true]) ∧ RefMod w' w.heap.size g r zs true ∧ Below w.heap.size w w' :=
  (refFixed_any a len cap zs w h hb h0 h1).mono fun e w' k => by
    obtain ⟨k1, ⟨⟨j, hj, hz⟩, _⟩ | ⟨_, g, r, k3, k4⟩⟩ := k
    · have := hf.1 j hj; omega
    · refine ⟨g, r, ?_, k4, k1⟩
      rw [k3]
      simp [hf.2]
theorem refFixed_no (a : Option Addr) (len cap : Nat) (zs : List Int) (w : World) (h : IntsAt w w.heap.size .u32 a len zs) (hb : ∀ j, j < len → 0 ≤ zs.getD j 0 ∧ zs.getD j 0 ≤ 4294967295) (h0 : 1 ≤ len) (h1 : len ≤ 64) (hf : ¬ FixOk zs len) :
    Calls Try.prog 9 #[.slice a len cap] w fun e w' => ∃ p, e = .returned (.tuple #[.pointer p, .bool false]) ∧ Below w.heap.size w w' :=
  (refFixed_any a len cap zs w h hb h0 h1).mono fun e w' k => by
    obtain ⟨k1, ⟨_, k3⟩ | ⟨k2, g, r, k3, k4⟩⟩ := k
    · exact ⟨none, k3, k1⟩
    · refine ⟨some ⟨g, 0, none⟩, ?_, k1⟩
      rw [k3]
      have : ¬ sumN zs len ≤ 8192 := fun c => hf ⟨k2, c⟩
      simp [this]

theorem info_u32 : (Try.prog.info? 32).map (fun i => (i.zero, i.size, i.bytes)) = some (some (.int .u32 0), 1, 4) := by kernel_rfl

end Go.Proofs.Ythoabpfcpkmhfaa
