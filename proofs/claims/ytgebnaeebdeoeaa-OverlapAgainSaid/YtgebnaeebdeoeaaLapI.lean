/- What the statements' own helpers for layer 8 give: numbers of a list, again and again; whether two are the same; how many lines; that it lives. -/
import Derived.Test.YtgebnaeebdeoeaaLapH
import Derived.Lib.AppendZerosOnto
namespace Go.Proofs.Ytgebnaeebdeoeaa
open Go.RowKit
set_option linter.unusedVariables false

theorem tabF_snoc (f : Nat → Int) (n : Nat) : tabF (n + 1) f = tabF n f ++ [f n] := by simp [tabF, List.range_succ]
/-- A row of the call's own of one type isn't one of another. -/
theorem own_ne_own {w : World} {base base' n n' size size' : Nat} {e t : TypeId} {v v' : Value} {xs xs' : List Value} (h : w.ownsRow base e size v n xs) (h' : w.ownsRow base' t size' v' n' xs') (hne : e ≠ t) (k : Nat) (hk : v.ownBlock = some k) : v'.ownBlock ≠ some k := by
  rcases h.2 with ⟨rfl, _⟩ | ⟨g, cap, cur, rfl, _, hh, _⟩
  · simp [Value.ownBlock] at hk
  · simp [Value.ownBlock] at hk
    subst hk
    rcases h'.2 with ⟨rfl, _⟩ | ⟨g', cap', cur', rfl, _, hh', _⟩
    · simp [Value.ownBlock]
    · simp only [Value.ownBlock]
      intro c
      injection c with c
      subst c
      rw [hh] at hh'
      injection hh' with hh'
      injection hh' with _ ht
      exact hne ht
/-- Number i of a list, again and again, each time turned, held to fewer than M. -/
def fillV (zs : List Int) (len : Nat) (M : Int) (i : Nat) : Int := if len = 0 then 0 else (zs.getD (i % len) 0 * (1 + ((i / len % 5 : Nat) : Int))).tmod M
theorem fillV_bd (zs : List Int) (len : Nat) {M : Int} (hM : 1 ≤ M) (i : Nat) : -M < fillV zs len M i ∧ fillV zs len M i < M := by
  unfold fillV
  split
  · omega
  · exact tmod_bd hM
def FillPost (n : Nat) (F : Nat → Int) (w : World) (x : Ending) (w' : World) : Prop :=
  ∃ v1 v2, x = .returned (.tuple #[v1, v2]) ∧ w'.ownsRow w.heap.size 21 1 v1 n ((tabF n F).map (Value.int .i32)) ∧ w'.ownsRow w.heap.size 2 1 v2 n ((tabF n F).map (Value.int .i64)) ∧ Below w.heap.size w w'
theorem info_i32b : (Try.prog.info? 21).map (fun i => (i.zero, i.size, i.bytes)) = some (some (.int .i32 0), 1, 4) := by kernel_rfl
/-- What fill gives, as the walks want it. -/
theorem fill_fn {w : World} {base e n : Nat} {v : Value} {k : IntKind} {F : Nat → Int} (h : w.ownsRow base e 1 v n ((tabF n F).map (Value.int k))) (hn : 0 < n) : ∃ a c, v = .slice a n c ∧ FnAt w w.heap.size k a n F ∧ (a = none → c = 0) := by
  obtain ⟨a, c, rfl, hi⟩ := own_ints h
  refine ⟨a, c, rfl, (FnAt.of_ints hi hn).ext fun j hj => tabF_getD F hj, ?_⟩
  rintro rfl
  obtain ⟨b, off, e1, _⟩ := hi.at_ hn
  cases e1

/-! ### Whether two are the same -/
end Go.Proofs.Ytgebnaeebdeoeaa
