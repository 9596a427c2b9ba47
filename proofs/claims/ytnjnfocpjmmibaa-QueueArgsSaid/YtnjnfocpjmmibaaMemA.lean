/- Words of mine for memory: rows that the call owns, what is appended onto them, bytes as a text, slices of slices. -/
import Derived.Test.YtnjnfocpjmmibaaMem
import Derived.OwnWalk
import Derived.Laws.OwnMore
import Derived.Laws.AppendOwnNone
import Derived.Laws.BytesString
import Derived.Maps.AppendAt
import Derived.Deep.AppendLies
namespace Go.Proofs.Ytnjnfocpjmmibaa
open Go.RowKit
set_option linter.unusedVariables false

theorem IntsAt.grow {w : World} {B B' len : Nat} {k : IntKind} {a : Option Addr} {zs : List Int} (h : IntsAt w B k a len zs) (hB : B ≤ B') : IntsAt w B' k a len zs := by
  obtain ⟨h1, h2⟩ := h
  refine ⟨h1, ?_⟩
  rcases h2 with h2 | ⟨b, off, e, h3, h4, h5⟩
  · exact .inl h2
  · exact .inr ⟨b, off, e, by omega, h4, h5⟩
theorem IntsAt.now {w w' : World} {B len : Nat} {k : IntKind} {a : Option Addr} {zs : List Int} (h : IntsAt w B k a len zs) (hb : Below B w w') (hB : B ≤ w.heap.size) : IntsAt w' w'.heap.size k a len zs :=
  (h.below hb).grow (Nat.le_trans hB hb.size)
theorem own_ints' {w : World} {base e n c : Nat} {a : Option Addr} {k : IntKind} {zs : List Int} (h : w.ownsRow base e 1 (.slice a n c) n (zs.map (Value.int k))) : IntsAt w w.heap.size k a n zs := by
  obtain ⟨a', c', e1, h2⟩ := own_ints h
  obtain rfl : a = a' := by injection e1
  exact h2
/-- The cells that an append looks for at its source. -/
theorem IntsAt.src {w w' : World} {B len : Nat} {k : IntKind} {ad : Addr} {zs : List Int} (h : IntsAt w B k (some ad) len zs) (hb : Below B w w') :
    ∀ j u, (zs.map (Value.int k))[j]? = some u → w'.cell? (ad.add j) = some u := by
  intro j u hj
  have hl := h.1
  rw [List.getElem?_map] at hj
  obtain ⟨x, hx, rfl⟩ := Option.map_eq_some_iff.1 hj
  have hjl : j < len := by
    have := (List.getElem?_eq_some_iff.1 hx).1
    omega
  obtain ⟨b', off', e, hbB, _, hc⟩ := h.2.resolve_left (by omega)
  obtain rfl : ad = ⟨b', off', none⟩ := by injection e
  have e2 : (⟨b', off', none⟩ : Addr).add j = ⟨b', off' + j, none⟩ := by unfold Addr.add; split <;> simp_all
  rw [e2, hb.cell (p := ⟨b', off' + j, none⟩) hbB, hc j hjl]
  simp [List.getD, hx]
/-- What a value looks like that owns a row: a slice of that length. -/
theorem own_form {w : World} {base e n : Nat} {v : Value} {k : IntKind} {zs : List Int} (h : w.ownsRow base e 1 v n (zs.map (Value.int k))) : ∃ a c, v = .slice a n c := by
  obtain ⟨a, c, e1, _⟩ := own_ints h
  exact ⟨a, c, e1⟩
theorem own_lt {w : World} {base e size n : Nat} {v : Value} {xs : List Value} (h : w.ownsRow base e size v n xs) (g : Nat) (hg : v.ownBlock = some g) : g < w.heap.size := by
  rcases h.2 with ⟨rfl, _⟩ | ⟨g', cap, cur, rfl, hb, hh, _⟩
  · simp [Value.ownBlock] at hg
  · simp [Value.ownBlock] at hg
    subst hg
    rcases Nat.lt_or_ge g' w.heap.size with hlt | hge
    · exact hlt
    · rw [Array.getElem?_eq_none hge] at hh; cases hh
/-- What is owned stays owned where another row alone was written. -/
theorem own_grown {w w' : World} {base e size n : Nat} {v : Value} {xs : List Value} {row : Option Nat} (h : w.ownsRow base e size v n xs) (hg : w.grownBy w' row) (hne : ∀ g, v.ownBlock = some g → some g ≠ row) : w'.ownsRow base e size v n xs := by
  refine ⟨h.1, ?_⟩
  rcases h.2 with h0 | ⟨g, cap, cur, h1, h2, h3, h4⟩
  · exact .inl h0
  · have hl := own_lt h g (by rw [h1]; rfl)
    exact .inr ⟨g, cap, cur, h1, h2, (hg.block g hl (hne g (by rw [h1]; rfl))).trans h3, h4⟩

/-- append(s, x...) where s is a row of the call's own, and x any slice of numbers, nil too. -/
theorem append_ints {P : Program} {w : World} {ops : Array Oper} {rest : List Oper} {o : Oper} {a : Act} {Q : Exit → Act → World → Prop} (hgd : o.guard = none) (s x : Operand) (t : TypeId)
    (ho : o.op = .call { callee := .builtin .append, args := #[s, x], argTypes := #[t, t] })
    (base : Nat) (e : TypeId) (k : IntKind) (by' : Nat) (ht : P.underlying t = some (.slice e)) (hi : (P.info? e).map (fun i => (i.zero, i.size, i.bytes)) = some (some (.int k 0), 1, by'))
    (v : Value) (n : Nat) (zs : List Int) (hs : a.eval s = v) (hown : w.ownsRow base e 1 v n (zs.map (Value.int k)))
    (A : Option Addr) (m c B : Nat) (ys : List Int) (hx : a.eval x = .slice A m c) (hsrc : IntsAt w B k A m ys) (hnone : A = none → c = 0)
    (h63 : n + m ≤ maxLen) (hbytes : (n + m) * by' ≤ 140737488355328) (hbase : base ≤ w.heap.size)
    (h : ∀ v' w', w'.ownsRow base e 1 v' (n + m) ((zs ++ ys).map (Value.int k)) → w.grownBy w' v.ownBlock → (v'.ownBlock = v.ownBlock ∨ v'.ownBlock = some w.heap.size) → wpList P ops Q rest (a.put o.dst v') w') :
    wpList P ops Q (o :: rest) a w := by
  obtain ⟨i, h1, h2, h3, h4⟩ := info_parts hi
  cases A with
  | none =>
    have hm : m = 0 := by
      rcases hsrc.2 with h0 | ⟨b, off, e', _⟩
      · exact h0
      · cases e'
    subst hm
    have hy : ys = [] := List.eq_nil_of_length_eq_zero hsrc.1
    subst hy
    obtain rfl := hnone rfl
    refine wpList_append_own_none hgd s x t ho base e i 1 ht h1 v n _ hs hown hx (h v w ?_ (World.grownBy.refl w _) (.inl rfl))
    simpa using hown
  | some ad =>
    refine wpList_append_own_at w hgd s x t ho base e i (.int k 0) 1 by' ht h1 h2 h3 h4 rfl (by decide) v n _ hs hown ad m c (ys.map (Value.int k)) hx (by simp [hsrc.1]) (hsrc.src (Below.refl _ _)) (ints_oneCell _ _) h63 hbytes hbase ?_
    intro v' w' g1 g2 _ g4
    exact h v' w' (by simpa using g1) g2 g4

/-- Bytes as a text. -/
def textOf (ys : List Int) : ByteArray := ys.foldl (fun r n => r.push (UInt8.ofNat n.toNat)) ByteArray.empty
theorem string_of_ints {P : Program} {w : World} {src dst e : TypeId} {A : Option Addr} {m c B : Nat} {ys : List Int} (hs : P.underlying src = some (.slice e)) (he : P.underlying e = some (.int .u8)) (hd : P.underlying dst = some .string)
    (h : IntsAt w B .u8 A m ys) : (convert src dst (.slice A m c)).run P w = .ok (.string (textOf ys)) w := by
  rw [run_convert_bytes_string w src dst e A m c hs he hd]
  cases A with
  | none =>
    have hm : m = 0 := by
      rcases h.2 with h0 | ⟨b, off, e', _⟩
      · exact h0
      · cases e'
    subst hm
    have hy : ys = [] := List.eq_nil_of_length_eq_zero h.1
    subst hy
    rfl
  | some ad =>
    refine run_bytesToString w ad m c ys ?_
    have := run_loadCells_list (P := P) w ad (ys.map (Value.int .u8)) (h.src (Below.refl _ _))
    rw [List.length_map, h.1] at this
    exact this

/-- A new row of numbers, whatever mark it bears. -/
theorem lit_ints (w : World) (t : TypeId) (k : IntKind) (zs : List Int) (cs : Array Value) (fr : Nat × Nat) (h : cs = (zs.map (Value.int k)).toArray) (hm : zs.length ≤ 9223372036854775807) :
    IntsAt (w.alloc (.cells cs t fr)) (w.alloc (.cells cs t fr)).heap.size k (some ⟨w.heap.size, 0, none⟩) zs.length zs := by
  refine ⟨rfl, .inr ⟨_, 0, rfl, by simp, hm, fun j hj => ?_⟩⟩
  rw [Nat.zero_add, cell_of_row _ _ j cs t fr (heap_alloc_new w _)]
  subst h
  simp [List.getD, hj]

/-- What is known of a slice of slices of numbers that came in. -/
def RowsIn (w : World) (k : IntKind) (a : Option Addr) (len : Nat) (A : Nat → Option Addr) (L C : Nat → Nat) (Z : Nat → List Int) : Prop :=
  len ≤ 9223372036854775807 ∧ (len = 0 ∨ ∃ b off, a = some ⟨b, off, none⟩ ∧ b < w.heap.size ∧
    ∀ r, r < len → w.cell? ⟨b, off + r, none⟩ = some (.slice (A r) (L r) (C r)) ∧ L r ≤ 9223372036854775807 ∧ (A r = none → C r = 0) ∧ IntsAt w w.heap.size k (A r) (L r) (Z r) ∧ ∀ n ∈ Z r, (Lit.int k n).wf = true)
end Go.Proofs.Ytnjnfocpjmmibaa
