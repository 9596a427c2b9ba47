/- Words of mine for memory: blocks of a type, own rows of integers. -/
import Derived.Test.YtnjnfocpjmmibaaMemK
namespace Go.Proofs.Ytnjnfocpjmmibaa
open Go.RowKit
set_option linter.unusedVariables false
set_option linter.unusedSimpArgs false

theorem own_cast {w : World} {base : Nat} {v : Value} {xs ys : List Int} (h : w.ownsRow base 5 1 v xs.length (xs.map (Value.int .u8))) (e : xs = ys) : w.ownsRow base 5 1 v ys.length (ys.map (Value.int .u8)) := e ▸ h
theorem own_app {w : World} {base e : Nat} {v : Value} {xs ys : List Int} (h : w.ownsRow base e 1 v (xs.length + ys.length) ((xs ++ ys).map (Value.int .u8))) : w.ownsRow base e 1 v (xs ++ ys).length ((xs ++ ys).map (Value.int .u8)) := by
  rw [List.length_append]; exact h
theorem own_form_m {w : World} {base e n : Nat} {v : Value} {k : IntKind} {zs : List Int} (h : w.ownsRow base e 1 v n (zs.map (Value.int k))) : ∃ a m c, v = .slice a m c ∧ m = zs.length := by
  obtain ⟨a, c, e1, h2⟩ := own_ints h
  exact ⟨a, n, c, e1, h2.1.symm⟩
theorem own_ints_m {w : World} {base e n m c : Nat} {a : Option Addr} {k : IntKind} {zs : List Int} (h : w.ownsRow base e 1 (.slice a m c) n (zs.map (Value.int k))) : IntsAt w w.heap.size k a m zs := by
  obtain ⟨a', c', e1, h2⟩ := own_ints h
  injection e1 with e1 e2 e3
  subst e1
  subst e2
  exact h2
theorem own_lower {w : World} {b1 b2 e size n : Nat} {v : Value} {xs : List Value} (h : w.ownsRow b1 e size v n xs) (hb : b2 ≤ b1) : w.ownsRow b2 e size v n xs := by
  refine ⟨h.1, ?_⟩
  rcases h.2 with h | ⟨g, cap, cur, e1, e2, e3⟩
  · exact .inl h
  · exact .inr ⟨g, cap, cur, e1, Nat.le_trans hb e2, e3⟩
theorem cel4 {w : World} {g : Nat} {t : TypeId} {a b c d : Value} (h : Cel w g t #[a, b, c, d]) : w.cell? ⟨g, 0, none⟩ = some a ∧ w.cell? ⟨g, 1, none⟩ = some b ∧ w.cell? ⟨g, 2, none⟩ = some c ∧ w.cell? ⟨g, 3, none⟩ = some d :=
  ⟨h.cell 0, h.cell 1, h.cell 2, h.cell 3⟩
/-- A block of a type. -/
def Typ19 (w : World) (b : Nat) (t : TypeId) : Prop := ∃ cs fr, w.heap[b]? = some (.cells cs t fr)
theorem Typ19.lt {w : World} {b : Nat} {t : TypeId} (h : Typ19 w b t) : b < w.heap.size := by
  obtain ⟨cs, fr, h⟩ := h
  exact (Array.getElem?_eq_some_iff.1 h).1
theorem Typ19.ne {w : World} {b b' : Nat} {t t' : TypeId} (h : Typ19 w b t) (h' : Typ19 w b' t') (hne : t ≠ t') : b ≠ b' := by
  rintro rfl
  obtain ⟨cs, fr, h⟩ := h
  obtain ⟨cs', fr', h'⟩ := h'
  rw [h] at h'
  injection h' with h'
  injection h' with _ e
  exact hne e
theorem Cel.typ19 {w : World} {b : Nat} {t : TypeId} {cs : Array Value} (h : Cel w b t cs) : Typ19 w b t := ⟨cs, (0, 0), h⟩
theorem Typ19.keep {w w' : World} {b : Nat} {t : TypeId} (h : Typ19 w b t) (hk : w'.heap[b]? = w.heap[b]?) : Typ19 w' b t := by
  obtain ⟨cs, fr, h⟩ := h
  exact ⟨cs, fr, hk.trans h⟩
theorem own_typ19 {w : World} {base e size n g : Nat} {v : Value} {xs : List Value} (h : w.ownsRow base e size v n xs) (hg : v.ownBlock = some g) : Typ19 w g e ∧ base ≤ g := by
  rcases h.2 with ⟨rfl, hn⟩ | ⟨g', cap, cur, rfl, hb, hh, _⟩
  · simp [Value.ownBlock] at hg
  · simp [Value.ownBlock] at hg
    subst hg
    exact ⟨⟨_, _, hh⟩, hb⟩
theorem IntsAt.keeps19 {F : Nat → Prop} {w w' : World} {B len : Nat} {k : IntKind} {a : Option Addr} {zs : List Int} (h : IntsAt w B k a len zs) (hk : Keeps F w w') (hB : B ≤ w.heap.size) (hF : ∀ r off, a = some ⟨r, off, none⟩ → 0 < len → r < B → ¬ F r) : IntsAt w' B k a len zs := by
  obtain ⟨h1, h2⟩ := h
  refine ⟨h1, ?_⟩
  rcases h2 with h2 | ⟨b, off, e, h3, h4, h5⟩
  · exact .inl h2
  · by_cases h0 : len = 0
    · exact .inl h0
    · exact .inr ⟨b, off, e, h3, h4, fun j hj => (World.cell?_of_block (a := ⟨b, off + j, none⟩) (hk.block b (by omega) (hF b off e (by omega) h3))).trans (h5 j hj)⟩

theorem own_zero {w : World} {base e size n m cap : Nat} {a : Option Addr} {xs : List Value} (h : w.ownsRow base e size (.slice a m cap) n xs) : w.ownsRow base e size (.slice a 0 cap) 0 [] := by
  refine ⟨by simp, ?_⟩
  rcases h.2 with ⟨e, hn⟩ | ⟨g, c, cur, e, h2, h3, h4, h5, h6, _⟩
  · injection e with e1 e2 e3
    subst e1
    subst e3
    exact .inl ⟨rfl, rfl⟩
  · injection e with e1 e2 e3
    subst e1
    subst e3
    exact .inr ⟨g, cap, cur, rfl, h2, h3, by omega, h5, h6, by simp⟩
theorem Typ19.back {w w' : World} {j : Nat} {t : TypeId} (h : Typ19 w' j t) (hb : Below w.heap.size w w') (hj : j < w.heap.size) : Typ19 w j t := h.keep (hb.block j hj).symm
end Go.Proofs.Ytnjnfocpjmmibaa
