/- A ring in memory, and which of its packets one may join at. -/
import Derived.Test.YtfnmdaoehnafcaaPktK
namespace Go.Proofs.Ytfnmdaoehnafcaa
open Go.RowKit
set_option linter.unusedVariables false
set_option linter.unusedSimpArgs false

/-! ### The last whole one of those from f on, below k -/
def lastW (ps : List Pk) (f : Nat) : Nat → Int
  | 0 => -1
  | k + 1 => if f ≤ k ∧ (ps[k]?.map (·.wh)) = some true then (k : Int) else lastW ps f k
theorem lastW_none {ps : List Pk} {f k : Nat} (h : k ≤ f) : lastW ps f k = -1 := by
  induction k with
  | zero => rfl
  | succ k ih =>
    unfold lastW
    rw [if_neg (by omega)]
    exact ih (by omega)
theorem lastW_yes {ps : List Pk} {f k : Nat} {p : Pk} (h : f ≤ k) (hp : ps[k]? = some p) (hw : p.wh = true) : lastW ps f (k + 1) = (k : Int) := by
  unfold lastW
  rw [if_pos ⟨h, by rw [hp]; simp [hw]⟩]
theorem lastW_no {ps : List Pk} {f k : Nat} {p : Pk} (hp : ps[k]? = some p) (hw : p.wh = false) : lastW ps f (k + 1) = lastW ps f k := by
  conv => lhs; unfold lastW
  rw [if_neg (by rw [hp]; simp [hw])]
theorem lastW_ge (ps : List Pk) (f k : Nat) : -1 ≤ lastW ps f k ∧ lastW ps f k < (k : Int) := by
  induction k with
  | zero => exact ⟨by simp [lastW], by simp [lastW]⟩
  | succ k ih =>
    unfold lastW
    split
    · omega
    · omega
theorem lastW_app (ps qs : List Pk) (f : Nat) {k : Nat} (h : k ≤ ps.length) : lastW (ps ++ qs) f k = lastW ps f k := by
  induction k with
  | zero => rfl
  | succ k ih =>
    unfold lastW
    rw [List.getElem?_append_left (by omega), ih (by omega)]
/-- The place of the first that is kept. -/
def firstP (n m : Nat) : Nat := m - n

/-! ### In memory -/
/-- Where a packet's payload lies: bytes in blocks of D. -/
structure PlAt (w : World) (D : Nat → Prop) (a : Option Addr) (m c : Nat) (zs : List Int) : Prop where
  i : IntsAt w w.heap.size .u8 a m zs
  n : a = none → c = 0
  d : ∀ r off, a = some ⟨r, off, none⟩ → 0 < m → D r
section
variable {w w' : World} {D E F : Nat → Prop} {a : Option Addr} {m c : Nat} {zs : List Int}
theorem PlAt.keeps (h : PlAt w D a m c zs) (hk : Keeps F w w') (hF : ∀ j, F j → ¬ D j) : PlAt w' D a m c zs :=
  ⟨(h.i.keeps19 hk (Nat.le_refl _) fun r off e h0 _ hf => hF r hf (h.d r off e h0)).grow hk.size, h.n, h.d⟩
theorem PlAt.below (h : PlAt w D a m c zs) (hb : Below w.heap.size w w') : PlAt w' D a m c zs := h.keeps (F := fun _ => False) (.of_below hb) fun _ c => c.elim
theorem PlAt.weaken (h : PlAt w D a m c zs) (hD : ∀ j, D j → j < w.heap.size → E j) : PlAt w E a m c zs := by
  refine ⟨h.i, h.n, fun r off e h0 => ?_⟩
  refine hD r (h.d r off e h0) ?_
  rcases h.i.2 with h1 | ⟨b, off', e', h2, _⟩
  · omega
  · rw [e] at e'
    injection e' with e'
    injection e' with e'
    omega
theorem PlAt.own {base : Nat} (h : w.ownsRow base 5 1 (.slice a m c) m (zs.map (Value.int .u8))) : PlAt w (fun j => base ≤ j) a m c zs := by
  refine ⟨own_ints_m h, fun e => ?_, fun r off e h0 => ?_⟩
  · rcases h.2 with ⟨e2, hn⟩ | ⟨g, cap, cur, e2, _⟩
    · injection e2
    · injection e2 with e2
      rw [e] at e2
      cases e2
  · subst e
    exact (own_typ19 h rfl).2
end
/-- A packet's cells. -/
def pkC (p : Pk) (a : Option Addr) (m c : Nat) : Array Value := #[.int .u32 p.ep, .int .u32 p.nu, .bool p.wh, .slice a m c]
/-- What a ring's cells say: room for n, these packets pushed; the last n of them are kept. -/
structure RgC (w : World) (D : Nat → Prop) (n : Nat) (ps : List Pk) (cs : Array Value) : Prop where
  size : cs.size = 1026
  room : cs[0]? = some (.int .i64 n)
  next : cs[1]? = some (.int .i64 ps.length)
  kept : ∀ i p, ps[i]? = some p → ps.length ≤ i + n → ∃ q a c, cs[2 + i % n]? = some (.pointer (some ⟨q, 0, none⟩)) ∧ D q ∧ Cel w q 32 (pkC p a p.pl.length c) ∧ PlAt w D a p.pl.length c p.pl
/-- A ring. -/
structure RgAt (w : World) (g n : Nat) (ps : List Pk) (D : Nat → Prop) : Prop where
  n1 : 1 ≤ n
  n2 : n ≤ 1024
  dg : ¬ D g
  c : ∃ cs, Cel w g 46 cs ∧ RgC w D n ps cs
section
variable {w w' : World} {D E F : Nat → Prop} {g n : Nat} {ps : List Pk} {cs : Array Value}
theorem RgC.keeps (h : RgC w D n ps cs) (hk : Keeps F w w') (hF : ∀ j, F j → ¬ D j) : RgC w' D n ps cs := by
  refine ⟨h.size, h.room, h.next, fun i p hp hi => ?_⟩
  obtain ⟨q, a, c, h1, h2, h3, h4⟩ := h.kept i p hp hi
  exact ⟨q, a, c, h1, h2, h3.keeps hk fun hf => hF q hf h2, h4.keeps hk hF⟩
theorem RgC.weaken (h : RgC w D n ps cs) (hD : ∀ j, D j → j < w.heap.size → E j) : RgC w E n ps cs := by
  refine ⟨h.size, h.room, h.next, fun i p hp hi => ?_⟩
  obtain ⟨q, a, c, h1, h2, h3, h4⟩ := h.kept i p hp hi
  exact ⟨q, a, c, h1, hD q h2 h3.lt, h3, h4.weaken hD⟩
theorem RgAt.keeps (h : RgAt w g n ps D) (hk : Keeps F w w') (hF : ∀ j, F j → ¬ D j ∧ j ≠ g) : RgAt w' g n ps D := by
  obtain ⟨cs, h1, h2⟩ := h.c
  exact ⟨h.n1, h.n2, h.dg, cs, h1.keeps hk fun hf => (hF g hf).2 rfl, h2.keeps hk fun j hj => (hF j hj).1⟩
theorem RgAt.below (h : RgAt w g n ps D) (hb : Below w.heap.size w w') : RgAt w' g n ps D := h.keeps (F := fun _ => False) (.of_below hb) fun _ c => c.elim
theorem RgAt.weaken (h : RgAt w g n ps D) (hD : ∀ j, D j → j < w.heap.size → E j) (hg : ¬ E g) : RgAt w g n ps E := by
  obtain ⟨cs, h1, h2⟩ := h.c
  exact ⟨h.n1, h.n2, hg, cs, h1, h2.weaken hD⟩
theorem RgAt.lt (h : RgAt w g n ps D) : g < w.heap.size := by
  obtain ⟨cs, h1, _⟩ := h.c
  exact h1.lt
/-- All but the ring itself, below a bound. -/
def Dn (g B : Nat) (j : Nat) : Prop := j ≠ g ∧ j < B
theorem RgAt.all (h : RgAt w g n ps D) : RgAt w g n ps (Dn g w.heap.size) := h.weaken (fun j hj hl => ⟨fun e => h.dg (e ▸ hj), hl⟩) fun e => e.1 rfl
theorem RgAt.head (h : RgAt w g n ps D) : w.cell? ⟨g, 0, none⟩ = some (.int .i64 n) ∧ w.cell? ⟨g, 1, none⟩ = some (.int .i64 ps.length) := by
  obtain ⟨cs, h1, h2⟩ := h.c
  exact ⟨by rw [h1.cell]; exact h2.room, by rw [h1.cell]; exact h2.next⟩
/-- One that is kept. -/
theorem RgAt.at_ (h : RgAt w g n ps D) {i : Nat} {p : Pk} (hp : ps[i]? = some p) (hi : ps.length ≤ i + n) : ∃ q a c, w.cell? ⟨g, 2 + i % n, none⟩ = some (.pointer (some ⟨q, 0, none⟩)) ∧ D q ∧ Cel w q 32 (pkC p a p.pl.length c) ∧ PlAt w D a p.pl.length c p.pl := by
  obtain ⟨cs, h1, h2⟩ := h.c
  obtain ⟨q, a, c, k1, k2⟩ := h2.kept i p hp hi
  exact ⟨q, a, c, by rw [h1.cell]; exact k1, k2⟩
/-- One more. -/
theorem RgC.more {p : Pk} {q c : Nat} {a : Option Addr} (h : RgC w D n ps cs) (hn : 1 ≤ n) (hn2 : n ≤ 1024) (hg : ¬ D g) (hk : Keeps (fun j => j = g) w w') (hq : w.heap.size ≤ q) (hc : Cel w' q 32 (pkC p a p.pl.length c)) (hp : PlAt w' (fun j => w.heap.size ≤ j) a p.pl.length c p.pl) :
    RgC w' (fun j => D j ∨ w.heap.size ≤ j) n (ps ++ [p]) ((cs.setIfInBounds 1 (.int .i64 ((ps.length : Int) + 1))).setIfInBounds (2 + ps.length % n) (.pointer (some ⟨q, 0, none⟩))) := by
  have hs := h.size
  have hm : ps.length % n < n := Nat.mod_lt _ hn
  refine ⟨by simp [hs], ?_, ?_, fun i p' hp' hi => ?_⟩
  · rw [Array.getElem?_setIfInBounds_ne (by omega), Array.getElem?_setIfInBounds_ne (by omega)]; exact h.room
  · rw [Array.getElem?_setIfInBounds_ne (by omega), Array.getElem?_setIfInBounds_self_of_lt (by omega)]
    simp
  · rw [List.length_append, List.length_singleton] at hi
    by_cases hlt : i < ps.length
    · rw [List.getElem?_append_left hlt] at hp'
      obtain ⟨q', a', c', k1, k2, k3, k4⟩ := h.kept i p' hp' (by omega)
      have hne : i % n ≠ ps.length % n := by
        intro e
        have e1 := Nat.div_add_mod i n
        have e2 := Nat.div_add_mod ps.length n
        rw [e] at e1
        have e3 : n * (ps.length / n) - n * (i / n) = ps.length - i := by omega
        rw [← Nat.mul_sub] at e3
        generalize ps.length / n - i / n = t at e3
        cases t with
        | zero => rw [Nat.mul_zero] at e3; omega
        | succ t => rw [Nat.mul_succ] at e3; generalize n * t = u at e3; omega
      refine ⟨q', a', c', ?_, .inl k2, k3.keeps hk fun e => ?_, (k4.keeps hk fun j e hd => ?_).weaken fun j hj _ => .inl hj⟩
      · rw [Array.getElem?_setIfInBounds_ne (by omega), Array.getElem?_setIfInBounds_ne (by omega)]; exact k1
      · subst e; exact hg k2
      · subst e; exact hg hd
    · have hie : i = ps.length := by
        have := (List.getElem?_eq_some_iff.1 hp').1
        rw [List.length_append, List.length_singleton] at this
        omega
      subst hie
      rw [List.getElem?_append_right (Nat.le_refl _), Nat.sub_self] at hp'
      injection hp' with hp'
      subst hp'
      exact ⟨q, a, c, by rw [Array.getElem?_setIfInBounds_self_of_lt (by simp [hs]; omega)], .inr hq, hc, hp.weaken fun j hj _ => .inr hj⟩
end
end Go.Proofs.Ytfnmdaoehnafcaa
