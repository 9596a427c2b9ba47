/- What waits, in numbers; bytes and what is said in memory. -/
import Derived.Test.YtnjnfocpjmmibaaMemT
namespace Go.Proofs.Ytnjnfocpjmmibaa
open Go.RowKit
set_option linter.unusedVariables false
set_option linter.unusedSimpArgs false

/-! ### In numbers -/
/-- k bytes of those ahead and of packets: they, what must go then, the packets that are left. -/
def takeQ : List (List Int) → Nat → List Int → List Int × List Int × List (List Int)
  | [], k, h => (h.take k, h.drop k, [])
  | p :: l, k, h => if k ≤ h.length then (h.take k, h.drop k, p :: l) else (h ++ (takeQ l (k - h.length) p).1, (takeQ l (k - h.length) p).2)
theorem takeQ_le {l : List (List Int)} {k : Nat} {h : List Int} (hk : k ≤ h.length) : takeQ l k h = (h.take k, h.drop k, l) := by
  cases l with
  | nil => rfl
  | cons p l => unfold takeQ; rw [if_pos hk]
theorem takeQ_part {l : List (List Int)} {k : Nat} {t r : List Int} (hk : t.length ≤ k) : takeQ l k (t ++ r) = (t ++ (takeQ l (k - t.length) r).1, (takeQ l (k - t.length) r).2) := by
  cases l with
  | nil =>
    unfold takeQ
    rw [List.take_append, List.drop_append, List.take_of_length_le hk, List.drop_eq_nil_of_le hk, List.nil_append]
  | cons p l =>
    unfold takeQ
    rw [List.length_append]
    by_cases h1 : k ≤ t.length + r.length
    · rw [if_pos h1, if_pos (by omega), List.take_append, List.drop_append, List.take_of_length_le hk, List.drop_eq_nil_of_le hk, List.nil_append]
    · rw [if_neg h1, if_neg (by omega), List.append_assoc, Nat.sub_add_eq]
theorem takeQ_next {l : List (List Int)} {k : Nat} {p : List Int} (hk : 0 < k) : takeQ (p :: l) k [] = takeQ l k p := by
  conv => lhs; unfold takeQ
  rw [if_neg (by simp; omega)]
  simp
theorem takeQ_none (k : Nat) : takeQ [] k [] = ([], [], []) := by unfold takeQ; simp
theorem takeQ_len (l : List (List Int)) : ∀ (k : Nat) (h : List Int), (takeQ l k h).1.length ≤ k := by
  induction l with
  | nil => intro k h; simp [takeQ]; omega
  | cons p l ih =>
    intro k h
    unfold takeQ
    split
    · simp; omega
    · have := ih (k - h.length) p
      simp
      omega
theorem takeQ_sum (l : List (List Int)) : ∀ (k : Nat) (h : List Int), (takeQ l k h).1 ++ ((takeQ l k h).2.1 ++ (takeQ l k h).2.2.flatten) = h ++ l.flatten := by
  induction l with
  | nil => intro k h; simp [takeQ]
  | cons p l ih =>
    intro k h
    unfold takeQ
    split
    · simp [← List.append_assoc]
    · simp [List.append_assoc, ih]
theorem takeQ_rest (l : List (List Int)) : ∀ (k : Nat) (h : List Int), (takeQ l k h).2.2 <:+ l := by
  induction l with
  | nil => intro k h; simp [takeQ]
  | cons p l ih =>
    intro k h
    unfold takeQ
    split
    · simp
    · exact (ih _ _).trans (List.suffix_cons _ _)
theorem takeQ_all (l : List (List Int)) : ∀ (k : Nat) (h : List Int), (h ++ l.flatten).length < k → takeQ l k h = (h ++ l.flatten, [], []) := by
  induction l with
  | nil =>
    intro k h hk
    simp at hk
    unfold takeQ
    rw [List.take_of_length_le (by omega), List.drop_eq_nil_of_le (by omega)]
    simp
  | cons p l ih =>
    intro k h hk
    simp at hk
    unfold takeQ
    rw [if_neg (by omega), ih _ _ (by simp; omega)]
    simp
/-- A queue's state. -/
structure Q22 where
  head : List Int
  l : List (List Int)
  drops : Bool
  lost : Nat
namespace Q22
def flush (q : Q22) : Q22 := ⟨q.head, [], true, q.lost + q.l.length⟩
def roomed (q : Q22) (n : Nat) : Q22 := if n ≤ q.l.length then q.flush else q
def may (q : Q22) (n : Nat) (whole : Bool) : Bool := !((q.roomed n).drops && !whole)
def offer (q : Q22) (n : Nat) (b : List Int) (whole : Bool) : Q22 := if q.may n whole then ⟨q.head, (q.roomed n).l ++ [b], false, (q.roomed n).lost⟩ else ⟨q.head, (q.roomed n).l, (q.roomed n).drops, (q.roomed n).lost + 1⟩
def say (q : Q22) (b : List Int) : Q22 := ⟨q.head ++ b, q.l, q.drops, q.lost⟩
def out (q : Q22) (k : Nat) : List Int := (takeQ q.l k q.head).1
def take (q : Q22) (k : Nat) : Q22 := ⟨(takeQ q.l k q.head).2.1, (takeQ q.l k q.head).2.2, q.drops, q.lost⟩
def size (q : Q22) : Nat := (q.head ++ q.l.flatten).length
theorem roomed_head (q : Q22) (n : Nat) : (q.roomed n).head = q.head := by unfold roomed; split <;> rfl
theorem roomed_len (q : Q22) {n : Nat} (hn : 1 ≤ n) (h : q.l.length ≤ n) : (q.roomed n).l.length + 1 ≤ n := by
  unfold roomed
  split
  · simp [flush]; omega
  · omega
theorem roomed_lost (q : Q22) {n : Nat} (h : q.l.length ≤ n) : (q.roomed n).lost ≤ q.lost + n := by
  unfold roomed
  split
  · simp [flush]; omega
  · omega
theorem offer_len (q : Q22) {n : Nat} (hn : 1 ≤ n) (h : q.l.length ≤ n) (b : List Int) (wh : Bool) : (q.offer n b wh).l.length ≤ n := by
  have := q.roomed_len hn h
  unfold offer
  split <;> simp <;> omega
theorem offer_lost (q : Q22) {n : Nat} (h : q.l.length ≤ n) (b : List Int) (wh : Bool) : (q.offer n b wh).lost ≤ q.lost + n + 1 := by
  have := q.roomed_lost h
  unfold offer
  split <;> simp <;> omega
theorem roomed_size (q : Q22) (n : Nat) : (q.roomed n).size ≤ q.size := by
  unfold roomed
  split
  · simp [flush, size]
  · exact Nat.le_refl _
theorem offer_size (q : Q22) (n : Nat) (b : List Int) (wh : Bool) : (q.offer n b wh).size ≤ q.size + b.length := by
  have h := q.roomed_size n
  have e := q.roomed_head n
  unfold size at h ⊢
  rw [e] at h
  unfold offer
  split
  · simp at h ⊢; omega
  · simp at h ⊢; omega
theorem say_size (q : Q22) (b : List Int) : (q.say b).size = q.size + b.length := by unfold say size; simp; omega
theorem take_size (q : Q22) (k : Nat) : (q.take k).size ≤ q.size := by
  unfold take size
  have := congrArg List.length (takeQ_sum q.l k q.head)
  simp at this ⊢
  omega
theorem take_len (q : Q22) (k : Nat) : (q.take k).l.length ≤ q.l.length := (takeQ_rest q.l k q.head).length_le
theorem flush_size (q : Q22) : q.flush.size ≤ q.size := by simp [flush, size]
end Q22
/-! ### Bytes in blocks of D -/
structure By22 (w : World) (D : Nat → Prop) (a : Option Addr) (m c : Nat) (zs : List Int) : Prop where
  hi : IntsAt w w.heap.size .u8 a m zs
  hn : a = none → c = 0
  hc : m ≤ c
  hx : c ≤ 9223372036854775807
  hd : ∀ r off, a = some ⟨r, off, none⟩ → 0 < m → D r
section
variable {w w' : World} {D E F : Nat → Prop} {a : Option Addr} {m c : Nat} {zs : List Int}
theorem By22.len (h : By22 w D a m c zs) : zs.length = m := h.hi.1
theorem By22.keeps (h : By22 w D a m c zs) (hk : Keeps F w w') (hF : ∀ j, F j → ¬ D j) : By22 w' D a m c zs :=
  ⟨(h.hi.keeps19 hk (Nat.le_refl _) fun r off e h0 _ hf => hF r hf (h.hd r off e h0)).grow hk.size, h.hn, h.hc, h.hx, h.hd⟩
theorem By22.below (h : By22 w D a m c zs) (hb : Below w.heap.size w w') : By22 w' D a m c zs := h.keeps (F := fun _ => False) (.of_below hb) fun _ c => c.elim
theorem By22.weaken (h : By22 w D a m c zs) (hD : ∀ j, D j → j < w.heap.size → E j) : By22 w E a m c zs := by
  refine ⟨h.hi, h.hn, h.hc, h.hx, fun r off e h0 => ?_⟩
  refine hD r (h.hd r off e h0) ?_
  rcases h.hi.2 with h1 | ⟨b, off', e', h2, _⟩
  · omega
  · rw [e] at e'
    injection e' with e'
    injection e' with e'
    omega
theorem By22.own {base : Nat} (h : w.ownsRow base 5 1 (.slice a m c) m (zs.map (Value.int .u8))) : By22 w (fun j => base ≤ j) a m c zs := by
  have hi := own_ints_m h
  rcases h.2 with ⟨e2, hn⟩ | ⟨g, cap, cur, e2, e3, e4, e5, e6, _⟩
  · injection e2 with e2 e3 e4
    subst e2
    subst e4
    exact ⟨hi, fun _ => rfl, by omega, by decide, fun r off e => by cases e⟩
  · injection e2 with e2 e7 e8
    subst e2
    subst e8
    refine ⟨hi, (fun e => by cases e), e5, Nat.le_trans e6 (by decide), fun r off e h0 => ?_⟩
    injection e with e
    injection e with e
    subst e
    exact e3
theorem By22.nil (w : World) (D : Nat → Prop) : By22 w D none 0 0 [] := ⟨⟨rfl, .inl rfl⟩, fun _ => rfl, Nat.le_refl _, by decide, fun r off e => by cases e⟩
theorem By22.cell {r off j : Nat} (h : By22 w D (some ⟨r, off, none⟩) m c zs) (hj : j < m) : w.cell? ⟨r, off + j, none⟩ = some (.int .u8 (zs.getD j 0)) := by
  obtain ⟨r', off', e, _, _, hc⟩ := h.hi.at_ hj
  injection e with e
  injection e with e1 e2
  subst e1
  subst e2
  exact hc
theorem By22.none_ (h : By22 w D none m c zs) : m = 0 ∧ c = 0 ∧ zs = [] := by
  have h1 := h.hn rfl
  have h2 := h.hc
  have h3 := h.len
  exact ⟨by omega, h1, List.eq_nil_of_length_eq_zero (by omega)⟩
/-- Some of them. -/
theorem By22.sub {r off : Nat} (h : By22 w D (some ⟨r, off, none⟩) m c zs) (lo k : Nat) (hm : lo + k ≤ m) : By22 w D (some ⟨r, off + lo, none⟩) k (c - lo) ((zs.drop lo).take k) := by
  have hl := h.len
  have hc := h.hc
  refine ⟨⟨by simp; omega, ?_⟩, (fun e => by cases e), by omega, by have := h.hx; omega, fun r' off' e h0 => ?_⟩
  · by_cases h0 : k = 0
    · exact .inl h0
    · obtain ⟨r', off', e, hr, hx, _⟩ := h.hi.at_ (j := 0) (by omega)
      injection e with e
      injection e with e1 e2
      subst e1
      refine .inr ⟨_, _, rfl, hr, by omega, fun j hj => ?_⟩
      rw [Nat.add_assoc, h.cell (j := lo + j) (by omega)]
      simp [List.getD, hj]
  · injection e with e
    injection e with e
    exact h.hd r' off (by rw [e]) (by omega)
end
/-! ### What is said -/
/-- All of it, the first ones first. -/
def allS : List (List Int) → List Int
  | [] => []
  | z :: zs => allS zs ++ z
/-- In memory: blocks of D, one behind the other. -/
def SaidAt (w : World) (D : Nat → Prop) : List (List Int) → Option Addr → Prop
  | [], p => p = none
  | z :: zs, p => ∃ q p' a c, p = some ⟨q, 0, none⟩ ∧ D q ∧ Cel w q 59 #[.pointer p', .slice a z.length c] ∧ By22 w D a z.length c z ∧ SaidAt w D zs p'
section
variable {w w' : World} {D E F : Nat → Prop}
theorem SaidAt.keeps {ls : List (List Int)} : ∀ {p : Option Addr}, SaidAt w D ls p → Keeps F w w' → (∀ j, F j → ¬ D j) → SaidAt w' D ls p := by
  induction ls with
  | nil => intro p h _ _; exact h
  | cons z zs ih =>
    intro p h hk hF
    obtain ⟨q, p', a, c, h1, h2, h3, h4, h5⟩ := h
    exact ⟨q, p', a, c, h1, h2, h3.keeps hk fun hf => hF q hf h2, h4.keeps hk hF, ih h5 hk hF⟩
theorem SaidAt.below {ls : List (List Int)} {p : Option Addr} (h : SaidAt w D ls p) (hb : Below w.heap.size w w') : SaidAt w' D ls p := h.keeps (F := fun _ => False) (.of_below hb) fun _ c => c.elim
theorem SaidAt.weaken {ls : List (List Int)} : ∀ {p : Option Addr}, SaidAt w D ls p → (∀ j, D j → j < w.heap.size → E j) → SaidAt w E ls p := by
  induction ls with
  | nil => intro p h _; exact h
  | cons z zs ih =>
    intro p h hD
    obtain ⟨q, p', a, c, h1, h2, h3, h4, h5⟩ := h
    exact ⟨q, p', a, c, h1, hD q h2 h3.lt, h3, h4.weaken hD, ih h5 hD⟩
end
end Go.Proofs.Ytnjnfocpjmmibaa
