/- The law's model of a queue: flush, offer. -/
import Derived.Test.YtnjnfocpjmmibaaQueL
import Derived.ArgAppend
namespace Go.Proofs.Ytnjnfocpjmmibaa
open Go.RowKit
set_option linter.unusedVariables false
set_option linter.unusedSimpArgs false

/-! ### A window of a row of slices -/
structure Win (w : World) (ro : Option Nat) (a : Option Addr) (n c : Nat) (xs : List Value) : Prop where
  len : xs.length = n
  le : n ≤ c
  max : c ≤ maxLen
  at_ : (a = none ∧ c = 0) ∨ ∃ r off cur, a = some ⟨r, off, none⟩ ∧ ro = some r ∧ Cel w r 31 cur ∧ off + c ≤ cur.size ∧ ∀ j, j < n → cur[off + j]? = xs[j]?
section
variable {w w' : World} {ro : Option Nat} {a : Option Addr} {n c : Nat} {xs : List Value} {F : Nat → Prop}
theorem Win.keeps (h : Win w ro a n c xs) (hk : Keeps F w w') (hF : ∀ r, ro = some r → ¬ F r) : Win w' ro a n c xs := by
  refine ⟨h.len, h.le, h.max, ?_⟩
  rcases h.at_ with h1 | ⟨r, off, cur, h1, h2, h3, h4⟩
  · exact .inl h1
  · exact .inr ⟨r, off, cur, h1, h2, h3.keeps hk (hF r h2), h4⟩
theorem Win.nil (w : World) (ro : Option Nat) : Win w ro none 0 0 [] := ⟨rfl, Nat.le_refl _, by decide, .inl ⟨rfl, rfl⟩⟩
theorem Win.cell {r off j : Nat} (h : Win w ro (some ⟨r, off, none⟩) n c xs) (hj : j < n) : w.cell? ⟨r, off + j, none⟩ = xs[j]? := by
  rcases h.at_ with ⟨h1, _⟩ | ⟨r', off', cur, h1, h2, h3, h4, h5⟩
  · cases h1
  · injection h1 with h1
    injection h1 with h1 h6
    subst h1
    subst h6
    rw [h3.cell]
    exact h5 j hj
theorem Win.form (h : Win w ro a n c xs) (hn : 0 < n) : ∃ r off, a = some ⟨r, off, none⟩ ∧ ro = some r := by
  have := h.le
  rcases h.at_ with ⟨_, h1⟩ | ⟨r, off, cur, h1, h2, _⟩
  · omega
  · exact ⟨r, off, h1, h2⟩
/-- All but the first. -/
theorem Win.next {r off : Nat} {x : Value} (h : Win w ro (some ⟨r, off, none⟩) n c (x :: xs)) {a' : Option Addr} (ha : a' = some ⟨r, off + 1, none⟩ ∨ c = 1 ∧ a' = some ⟨r, off, none⟩) : Win w ro a' (n - 1) (c - 1) xs := by
  have hl := h.len
  have hle := h.le
  have hm := h.max
  simp at hl
  rcases h.at_ with ⟨h1, _⟩ | ⟨r', off', cur, h1, h2, h3, h4, h5⟩
  · cases h1
  · injection h1 with h1
    injection h1 with h1 h6
    subst h1
    subst h6
    refine ⟨by omega, by omega, by omega, .inr ?_⟩
    rcases ha with rfl | ⟨hc, rfl⟩
    · refine ⟨r, off + 1, cur, rfl, h2, h3, by omega, fun j hj => ?_⟩
      have := h5 (j + 1) (by omega)
      rw [Nat.add_assoc, Nat.add_comm 1 j, this]
      simp
    · exact ⟨r, off, cur, rfl, h2, h3, by omega, fun j hj => by omega⟩
end
theorem info22_sl : (Try.prog.info? 31).map (fun i => (i.zero, i.size, i.bytes)) = some (some (.slice none 0 0), 1, 24) := by kernel_rfl
/-- append(s, x), s a window. -/
theorem append_win {P : Program} {w : World} {ops : Array Oper} {rest : List Oper} {o : Oper} {a : Act} {Q : Exit → Act → World → Prop} (hgd : o.guard = none) (s x : Operand) (t : TypeId)
    (ho : o.op = .call { callee := .builtin .append, args := #[s, x], argTypes := #[t, t] }) (ht : P.underlying t = some (.slice 31)) (hi : (P.info? 31).map (fun i => (i.zero, i.size, i.bytes)) = some (some (.slice none 0 0), 1, 24))
    (ro : Option Nat) (A : Option Addr) (n c : Nat) (xs : List Value) (hs : a.eval s = .slice A n c) (hw : Win w ro A n c xs) (g : Nat) (u : Value) (hu : u.oneCell' = true) (hx : a.eval x = .slice (some ⟨g, 0, none⟩) 1 1) (hg : w.cell? ⟨g, 0, none⟩ = some u) (hn : n ≤ 1000000)
    (h : ∀ ro' A' n' c' w', n' = n + 1 → Win w' ro' A' n' c' (xs ++ [u]) → Keeps (fun j => ro = some j) w w' → (ro' = ro ∨ ∃ r, ro' = some r ∧ w.heap.size ≤ r) → (∀ r, ro' = some r → Typ19 w' r 31) → wpList P ops Q rest (a.put o.dst (.slice A' n' c')) w') :
    wpList P ops Q (o :: rest) a w := by
  obtain ⟨i, h1, h2, h3, h4⟩ := info_parts hi
  have hl := hw.len
  have hcells : ∀ j v, ([u] : List Value)[j]? = some v → w.cell? ((⟨g, 0, none⟩ : Addr).add j) = some v := by
    intro j v hj
    match j, hj with
    | 0, hj => injection hj with hj; subst hj; exact hg
    | j + 1, hj => simp at hj
  have grow : ∀ v' w', w'.ownsRow w.heap.size 31 1 v' (n + 1) (xs ++ [u]) → w.grownBy w' none → wpList P ops Q rest (a.put o.dst v') w' := by
    intro v' w' r1 r2
    have hlt := fun k hk => own_lt r1 k hk
    rcases r1.2 with ⟨_, h0⟩ | ⟨g', cap, cur, e1, e2, e3, e4, e5, e6, e7⟩
    · omega
    · subst e1
      refine h (some g') _ _ _ w' rfl ⟨by simp [hl], e4, e5, .inr ⟨g', 0, cur, rfl, rfl, e3, by omega, fun j hj => ?_⟩⟩ (Keeps.of_grown r2 fun k hk => by cases hk) (.inr ⟨g', rfl, e2⟩) fun r hr => by injection hr with hr; subst hr; exact ⟨cur, (0, 0), e3⟩
      rw [Nat.zero_add, ← e7, List.getElem?_take, if_pos (by omega), Array.getElem?_toList]
  rcases hw.at_ with ⟨rfl, rfl⟩ | ⟨r, off, cur, rfl, hro, hc, hoc, hcur⟩
  · have hn0 : n = 0 := by have := hw.le; omega
    subst hn0
    have hx0 : xs = [] := List.eq_nil_of_length_eq_zero hl
    subst hx0
    refine wpList_append_grows w hgd s x t ho 31 i (.slice none 0 0) 1 24 ht h1 h2 h3 h4 rfl (by decide) none 0 0 [] hs (fun _ => ⟨rfl, rfl⟩) rfl (fun b e => by cases e) ⟨g, 0, none⟩ 1 1 [u] hx rfl hcells (by simpa using hu) (by omega) (by decide) (by decide) grow
  · refine wpList_append_arg w hgd s x t ho 31 i (.slice none 0 0) 1 24 ht h1 h2 h3 h4 rfl (by decide) r off n c xs hs (by simpa using hl) (fun j v hj => ?_) ⟨g, 0, none⟩ 1 1 [u] hx rfl hcells (by simpa using hu) (fun hr j hj => ?_) (by unfold maxLen; omega) (by omega) (fun hr => ?_) (fun _ => grow)
    · rw [hc.cell, hcur j (by have := (List.getElem?_eq_some_iff.1 hj).1; omega)]
      exact hj
    · simp at hj
      subst hj
      refine ⟨?_, hc.frozen _⟩
      rw [hc.cell, Array.getElem?_eq_getElem (by omega)]
      rfl
    · have hk : Keeps (fun j => ro = some j) w (w.setCells r (off + n * 1) [u]) := Keeps.setCell (F := fun j => ro = some j) (Keeps.refl _ w) (p := ⟨r, off + n * 1, none⟩) (.inl hro) u
      refine h ro _ _ _ _ rfl ⟨by simp [hl], hr, hw.max, .inr ⟨r, off, cur.setIfInBounds (off + n * 1) u, rfl, hro, hc.set_ _ u, by simpa using hoc, fun j hj => ?_⟩⟩ hk (.inl rfl) fun r' h5 => by rw [hro] at h5; injection h5 with h5; subst h5; exact (hc.set_ (off + n * 1) u).typ19
      by_cases hjn : j = n
      · subst hjn
        rw [Nat.mul_one, Array.getElem?_setIfInBounds_self_of_lt (by omega), List.getElem?_append_right (by omega), hl, Nat.sub_self]
        rfl
      · rw [Nat.mul_one, Array.getElem?_setIfInBounds_ne (by omega), hcur j (by omega), List.getElem?_append_left (by omega)]
end Go.Proofs.Ytnjnfocpjmmibaa
