/- Words of mine for memory: a block that is known whole, as a row of numbers. -/
import Derived.WalkKit
import Derived.WalkLawsBesides
import Derived.Handy
import Derived.Lib.Hide
import Derived.OpenShut
namespace Go.Proofs.Ytnjnfocpjmmibaa
open Go.RowKit
set_option linter.unusedVariables false

theorem ret_int {k : IntKind} {a b : Int} (h : a = b) : Ending.returned (.int k a) = .returned (.int k b) := by rw [h]
theorem ret_bool {a b : Bool} (h : a = b) : Ending.returned (.bool a) = .returned (.bool b) := by rw [h]

/-- Block g is just the numbers zs, of kind k and element type t; none is frozen. -/
def IRow (w : World) (g : Nat) (t : TypeId) (k : IntKind) (zs : List Int) : Prop := w.heap[g]? = some (.cells (zs.map (Value.int k)).toArray t (0, 0))
section
variable {w w' : World} {g : Nat} {t : TypeId} {k : IntKind} {zs : List Int}
theorem IRow.lt (h : IRow w g t k zs) : g < w.heap.size := by
  rcases Nat.lt_or_ge g w.heap.size with hlt | hge
  · exact hlt
  · unfold IRow at h; rw [Array.getElem?_eq_none hge] at h; cases h
theorem IRow.cell (h : IRow w g t k zs) {j : Nat} (hj : j < zs.length) : w.cell? ⟨g, j, none⟩ = some (.int k (zs.getD j 0)) := by
  rw [cell_of_row w g j _ t (0, 0) h]
  simp [List.getD, hj]
theorem IRow.frozen (h : IRow w g t k zs) (j : Nat) : w.frozen? ⟨g, j, none⟩ = false := by
  unfold IRow at h
  simp [World.frozen?, h]
theorem IRow.alloc (h : IRow w g t k zs) (o : Obj) : IRow (w.alloc o) g t k zs := (Below.heap_alloc w o g h.lt).trans h
theorem IRow.far (h : IRow w g t k zs) {p : Addr} (hp : g ≠ p.block) (u : Value) : IRow (w.setCell p u) g t k zs := (Below.heap_setCell w p u g hp).trans h
theorem IRow.below {B : Nat} (h : IRow w g t k zs) (hb : Below B w w') (hg : g < B) : IRow w' g t k zs := (hb.block g hg).trans h
theorem IRow.drew (h : IRow w g t k zs) : IRow w.drew g t k zs := h
theorem IRow.set (h : IRow w g t k zs) (j : Nat) (x : Int) : IRow (w.setCell ⟨g, j, none⟩ (.int k x)) g t k (zs.set j x) := by
  unfold IRow at h ⊢
  simp only [World.setCell, Array.getElem?_modify, if_true]
  rw [h]
  simp [List.map_set]
/-- A new block of n noughts. -/
theorem IRow.zeros (w : World) (t : TypeId) (k : IntKind) (n : Nat) : IRow (w.alloc (.cells (madeCells #[.int k 0] n) t)) w.heap.size t k (List.replicate n 0) := by
  unfold IRow
  rw [heap_alloc_new]
  have e : madeCells #[Value.int k 0] n = (List.map (Value.int k) (List.replicate n 0)).toArray := by
    apply Array.ext'
    rw [toList_madeCells_one]
    simp
  rw [e]
theorem IRow.lit (w : World) (t : TypeId) (k : IntKind) (zs : List Int) (cs : Array Value) (h : cs = (zs.map (Value.int k)).toArray) : IRow (w.alloc (.cells cs t)) w.heap.size t k zs := by
  subst h; exact heap_alloc_new w _
end
/-- 'make' of n noughts. -/
theorem make_zeros {P : Program} {t e : TypeId} {k : IntKind} {b : Nat} (ht : P.underlying t = some (.slice e)) (hi : (P.info? e).map (fun i => (i.zero, i.size, i.bytes)) = some (some (.int k 0), 1, b))
    (n : Nat) (hb : b * n ≤ 281474976710656) (hn : n ≤ 9223372036854775807) (w : World) :
    (Instr.makeSlice t (.int .i64 (n : Int)) (.int .i64 (n : Int))).run P w = .ok (.slice (some ⟨w.heap.size, 0, none⟩) n n) (w.alloc (.cells (madeCells #[.int k 0] n) e)) := by
  obtain ⟨i, h1, h2, h3, h4⟩ := info_parts hi
  have hb' : (i.bytes : Int) * (n : Int) ≤ 281474976710656 := by
    have h : ((i.bytes * n : Nat) : Int) ≤ 281474976710656 := by rw [h4]; omega
    rwa [Int.natCast_mul] at h
  have hr := run_make (P := P) w t e i (.int k 0) ht h1 h2 .i64 .i64 n n (by omega) (Int.le_refl _) hb' (by omega)
  rw [hr, h3]
  simp [Value.cells]
theorem chain {a b c : World} (h : Below a.heap.size a b) (k : Below b.heap.size b c) : Below a.heap.size a c := h.trans (k.mono h.size)
theorem Below.alloc_new (w : World) (o : Obj) : Below w.heap.size w (w.alloc o) := (Below.refl _ _).alloc (Nat.le_refl _) o
/-- What is known of a slice of numbers that came in, or that the call made: it is empty, or it leads to its numbers, which lie below block B. -/
def IntsAt (w : World) (B : Nat) (k : IntKind) (a : Option Addr) (len : Nat) (zs : List Int) : Prop :=
  zs.length = len ∧ (len = 0 ∨ ∃ b off, a = some ⟨b, off, none⟩ ∧ b < B ∧ len ≤ 9223372036854775807 ∧ ∀ j, j < len → w.cell? ⟨b, off + j, none⟩ = some (.int k (zs.getD j 0)))
theorem IntsAt.below {w w' : World} {B len : Nat} {k : IntKind} {a : Option Addr} {zs : List Int} (h : IntsAt w B k a len zs) (hb : Below B w w') : IntsAt w' B k a len zs := by
  obtain ⟨h1, h2⟩ := h
  refine ⟨h1, ?_⟩
  rcases h2 with h2 | ⟨b, off, e, h3, h4, h5⟩
  · exact .inl h2
  · exact .inr ⟨b, off, e, h3, h4, fun j hj => (hb.cell (p := ⟨b, off + j, none⟩) h3).trans (h5 j hj)⟩
theorem Below.drewN' {B : Nat} {a w : World} (h : Below B a w) (n : Nat) : Below B a (w.drewN n) := ⟨h.os, h.tape, h.output, h.size, h.block⟩
theorem IRow.drewN {w : World} {g : Nat} {t : TypeId} {k : IntKind} {zs : List Int} (h : IRow w g t k zs) (n : Nat) : IRow (w.drewN n) g t k zs := h
theorem cell_block {w : World} {p : Addr} {v : Value} (h : w.cell? p = some v) : p.block < w.heap.size := by
  rcases Nat.lt_or_ge p.block w.heap.size with hlt | hge
  · exact hlt
  · unfold World.cell? at h
    rw [Array.getElem?_eq_none hge] at h
    simp at h
/-- From what the frame of a statement says of a slice of numbers that came in. -/
theorem ints_in {w : World} {k : IntKind} {a : Option Addr} {len cap : Nat} {zs : List Int}
    (h : (a = none ∧ len = 0 ∧ cap = 0 ∧ zs = []) ∨ ∃ x, a = some x ∧ len ≤ cap ∧ cap ≤ maxLen ∧ zs.length = cap ∧ (∀ i, i < zs.length → w.cell? (x.add i) = some (.int k (zs.getD i 0))) ∧ ∀ n ∈ zs, (Lit.int k n).wf = true) :
    IntsAt w w.heap.size k a len (zs.take len) ∧ (∀ n ∈ zs.take len, (Lit.int k n).wf = true) ∧ len ≤ 9223372036854775807 := by
  rcases h with ⟨rfl, rfl, rfl, rfl⟩ | ⟨x, rfl, hl, hm, hz, hc, hw⟩
  · exact ⟨⟨rfl, .inl rfl⟩, by simp, by omega⟩
  · unfold maxLen at hm
    refine ⟨⟨by simp; omega, ?_⟩, fun n hn => hw n (List.mem_of_mem_take hn), by omega⟩
    by_cases h0 : len = 0
    · exact .inl h0
    · obtain ⟨b, off, rfl, hc'⟩ := ints_at hc (by omega)
      refine .inr ⟨b, off, rfl, ?_, by omega, fun j hj => ?_⟩
      · exact cell_block (hc' 0 (by omega))
      · rw [hc' j (by omega)]; simp [List.getD, hj]
theorem IntsAt.at_ {w : World} {B len : Nat} {k : IntKind} {a : Option Addr} {zs : List Int} (h : IntsAt w B k a len zs) {j : Nat} (hj : j < len) :
    ∃ b off, a = some ⟨b, off, none⟩ ∧ b < B ∧ len ≤ 9223372036854775807 ∧ w.cell? ⟨b, off + j, none⟩ = some (.int k (zs.getD j 0)) := by
  rcases h.2 with h | ⟨b, off, e, h1, h2, h3⟩
  · omega
  · exact ⟨b, off, e, h1, h2, h3 j hj⟩
theorem own_base {w : World} {base e size n : Nat} {v : Value} {xs : List Value} (h : w.ownsRow base e size v n xs) (g : Nat) (hg : v.ownBlock = some g) : base ≤ g := by
  rcases h.2 with ⟨rfl, _⟩ | ⟨g', cap, cur, rfl, hb, _⟩
  · simp [Value.ownBlock] at hg
  · simp [Value.ownBlock] at hg; omega
theorem own_below {w w' : World} {base e size n : Nat} {v : Value} {xs : List Value} (h : w.ownsRow base e size v n xs) (hb : Below w.heap.size w w') : w'.ownsRow base e size v n xs := by
  refine ⟨h.1, ?_⟩
  rcases h.2 with h0 | ⟨g, cap, cur, h1, h2, h3, h4⟩
  · exact .inl h0
  · have hg : g < w.heap.size := by
      rcases Nat.lt_or_ge g w.heap.size with hlt | hge
      · exact hlt
      · rw [Array.getElem?_eq_none hge] at h3; cases h3
    exact .inr ⟨g, cap, cur, h1, h2, (hb.block g hg).trans h3, h4⟩
theorem own_ints {w : World} {base e n : Nat} {v : Value} {k : IntKind} {zs : List Int} (h : w.ownsRow base e 1 v n (zs.map (Value.int k))) : ∃ a c, v = .slice a n c ∧ IntsAt w w.heap.size k a n zs := by
  have hl : zs.length = n := by have := h.1; simpa using this
  rcases h.2 with ⟨rfl, rfl⟩ | ⟨g, cap, cur, rfl, hb, hh, hn, hc, hs, ht⟩
  · exact ⟨none, 0, rfl, hl, .inl rfl⟩
  · have hg : g < w.heap.size := by
      rcases Nat.lt_or_ge g w.heap.size with hlt | hge
      · exact hlt
      · rw [Array.getElem?_eq_none hge] at hh; cases hh
    refine ⟨_, cap, rfl, hl, .inr ⟨g, 0, rfl, hg, by unfold maxLen at hc; omega, fun j hj => ?_⟩⟩
    rw [Nat.zero_add, h.cellAt j (by omega)]
    simp [List.getD, hl, hj]
/-- The first k of n places filled by f, the rest noughts. -/
def fillTo (f : Nat → Int) (n k : Nat) : List Int := (List.range k).map f ++ List.replicate (n - k) 0
theorem fillTo_zero (f : Nat → Int) (n : Nat) : fillTo f n 0 = List.replicate n 0 := by simp [fillTo]
theorem fillTo_all (f : Nat → Int) (n : Nat) : fillTo f n n = (List.range n).map f := by simp [fillTo]
theorem fillTo_len (f : Nat → Int) {n k : Nat} (h : k ≤ n) : (fillTo f n k).length = n := by simp [fillTo]; omega
theorem fillTo_getD (f : Nat → Int) {n k j : Nat} (h : j < k) (hk : k ≤ n) : (fillTo f n k).getD j 0 = f j := by
  unfold fillTo
  simp [List.getD, List.getElem?_append, h]
theorem fillTo_set (f : Nat → Int) {n k : Nat} (h : k < n) : (fillTo f n k).set k (f k) = fillTo f n (k + 1) := by
  apply List.ext_getElem?
  intro j
  unfold fillTo
  rw [List.getElem?_set]
  rcases Nat.lt_trichotomy j k with a | a | a
  · simp [List.getElem?_append, show ¬ k = j by omega, a, show j < k + 1 by omega]
  · subst a
    simp [List.getElem?_append, show j + (n - j) = n by omega, h]
  · simp only [List.getElem?_append, List.length_map, List.length_range, List.getElem?_replicate]
    repeat' split
    all_goals first | rfl | (exfalso; omega)
end Go.Proofs.Ytnjnfocpjmmibaa
