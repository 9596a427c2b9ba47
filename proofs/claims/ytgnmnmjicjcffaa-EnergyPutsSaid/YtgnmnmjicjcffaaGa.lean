/- Plain facts, and what functions give, for the proofs of this seat: several texts in one, each with its own first remark. -/
import Derived.WalkKit
import Derived.WalkLawsBesides
import Derived.Handy
import Derived.Lib.Hide
import Derived.OpenShut
import Derived.OwnWalk
import Derived.Laws.OwnMore
import Derived.Laws.AppendOwnNone
import Derived.Laws.BytesString
import Derived.Maps.AppendAt
import Derived.Deep.AppendLies
import Derived.ProofKit
import Derived.ShutString
import Derived.ChangeOld
import Derived.Below
import Derived.Deep.Matrix
import Derived.IntWalk
import Derived.Laws.BitsAllLaws
import Derived.Test.YtgnmnmjicjcffaaRows
import Derived.Deep.QuietTactic
import Derived.BigQuiet
import Derived.BigRegion
import Derived.StillTailTactics

/- Words of mine for memory: a block that is known whole, as a row of numbers. -/
namespace Go.Proofs.Ytgnmnmjicjcffaa
open Go.RowKit
set_option linter.unusedVariables false

theorem ret_int {k : IntKind} {a b : Int} (h : a = b) : Ending.returned (.int k a) = .returned (.int k b) := by rw [h]
theorem ret_bool {a b : Bool} (h : a = b) : Ending.returned (.bool a) = .returned (.bool b) := by rw [h]

/-- Block g is just the numbers zs, of kind k and element type t; none is frozen. -/
def IRow (w : World) (g : Nat) (t : TypeId) (k : IntKind) (zs : List Int) : Prop := w.heap[g]? = some (.cells (zs.map (Value.int k)).toArray t (0, 0))
section
variable {w w' : World} {g : Nat} {t : TypeId} {k : IntKind} {zs : List Int}
theorem IRow.lt (h : IRow w g t k zs) : g < w.heap.size := by
  rcases Nat.lt_or_ge g w.heap.size with hlt | hge
  · exact hlt
  · unfold IRow at h; rw [Array.getElem?_eq_none hge] at h; cases h
theorem IRow.cell (h : IRow w g t k zs) {j : Nat} (hj : j < zs.length) : w.cell? ⟨g, j, none⟩ = some (.int k (zs.getD j 0)) := by
  rw [cell_of_row w g j _ t (0, 0) h]
  simp [List.getD, hj]
theorem IRow.frozen (h : IRow w g t k zs) (j : Nat) : w.frozen? ⟨g, j, none⟩ = false := by
  unfold IRow at h
  simp [World.frozen?, h]
theorem IRow.alloc (h : IRow w g t k zs) (o : Obj) : IRow (w.alloc o) g t k zs := (Below.heap_alloc w o g h.lt).trans h
theorem IRow.far (h : IRow w g t k zs) {p : Addr} (hp : g ≠ p.block) (u : Value) : IRow (w.setCell p u) g t k zs := (Below.heap_setCell w p u g hp).trans h
theorem IRow.below {B : Nat} (h : IRow w g t k zs) (hb : Below B w w') (hg : g < B) : IRow w' g t k zs := (hb.block g hg).trans h
theorem IRow.drew (h : IRow w g t k zs) : IRow w.drew g t k zs := h
theorem IRow.set (h : IRow w g t k zs) (j : Nat) (x : Int) : IRow (w.setCell ⟨g, j, none⟩ (.int k x)) g t k (zs.set j x) := by
  unfold IRow at h ⊢
  simp only [World.setCell, Array.getElem?_modify, if_true]
  rw [h]
  simp [List.map_set]
/-- A new block of n noughts. -/
theorem IRow.zeros (w : World) (t : TypeId) (k : IntKind) (n : Nat) : IRow (w.alloc (.cells (madeCells #[.int k 0] n) t)) w.heap.size t k (List.replicate n 0) := by
  unfold IRow
  rw [heap_alloc_new]
  have e : madeCells #[Value.int k 0] n = (List.map (Value.int k) (List.replicate n 0)).toArray := by
    apply Array.ext'
    rw [toList_madeCells_one]
    simp
  rw [e]
theorem IRow.lit (w : World) (t : TypeId) (k : IntKind) (zs : List Int) (cs : Array Value) (h : cs = (zs.map (Value.int k)).toArray) : IRow (w.alloc (.cells cs t)) w.heap.size t k zs := by
  subst h; exact heap_alloc_new w _
end
/-- 'make' of n noughts. -/
theorem make_zeros {P : Program} {t e : TypeId} {k : IntKind} {b : Nat} (ht : P.underlying t = some (.slice e)) (hi : (P.info? e).map (fun i => (i.zero, i.size, i.bytes)) = some (some (.int k 0), 1, b))
    (n : Nat) (hb : b * n ≤ 281474976710656) (hn : n ≤ 9223372036854775807) (w : World) :
    (Instr.makeSlice t (.int .i64 (n : Int)) (.int .i64 (n : Int))).run P w = .ok (.slice (some ⟨w.heap.size, 0, none⟩) n n) (w.alloc (.cells (madeCells #[.int k 0] n) e)) := by
  obtain ⟨i, h1, h2, h3, h4⟩ := info_parts hi
  have hb' : (i.bytes : Int) * (n : Int) ≤ 281474976710656 := by
    have h : ((i.bytes * n : Nat) : Int) ≤ 281474976710656 := by rw [h4]; omega
    rwa [Int.natCast_mul] at h
  have hr := run_make (P := P) w t e i (.int k 0) ht h1 h2 .i64 .i64 n n (by omega) (Int.le_refl _) hb' (by omega)
  rw [hr, h3]
  simp [Value.cells]
theorem chain {a b c : World} (h : Below a.heap.size a b) (k : Below b.heap.size b c) : Below a.heap.size a c := h.trans (k.mono h.size)
theorem Below.alloc_new (w : World) (o : Obj) : Below w.heap.size w (w.alloc o) := (Below.refl _ _).alloc (Nat.le_refl _) o
/-- What is known of a slice of numbers that came in, or that the call made: it is empty, or it leads to its numbers, which lie below block B. -/
def IntsAt (w : World) (B : Nat) (k : IntKind) (a : Option Addr) (len : Nat) (zs : List Int) : Prop :=
  zs.length = len ∧ (len = 0 ∨ ∃ b off, a = some ⟨b, off, none⟩ ∧ b < B ∧ len ≤ 9223372036854775807 ∧ ∀ j, j < len → w.cell? ⟨b, off + j, none⟩ = some (.int k (zs.getD j 0)))
theorem IntsAt.below {w w' : World} {B len : Nat} {k : IntKind} {a : Option Addr} {zs : List Int} (h : IntsAt w B k a len zs) (hb : Below B w w') : IntsAt w' B k a len zs := by
  obtain ⟨h1, h2⟩ := h
  refine ⟨h1, ?_⟩
  rcases h2 with h2 | ⟨b, off, e, h3, h4, h5⟩
  · exact .inl h2
  · exact .inr ⟨b, off, e, h3, h4, fun j hj => (hb.cell (p := ⟨b, off + j, none⟩) h3).trans (h5 j hj)⟩
theorem Below.drewN' {B : Nat} {a w : World} (h : Below B a w) (n : Nat) : Below B a (w.drewN n) := ⟨h.os, h.tape, h.output, h.size, h.block⟩
theorem IRow.drewN {w : World} {g : Nat} {t : TypeId} {k : IntKind} {zs : List Int} (h : IRow w g t k zs) (n : Nat) : IRow (w.drewN n) g t k zs := h
theorem cell_block {w : World} {p : Addr} {v : Value} (h : w.cell? p = some v) : p.block < w.heap.size := by
  rcases Nat.lt_or_ge p.block w.heap.size with hlt | hge
  · exact hlt
  · unfold World.cell? at h
    rw [Array.getElem?_eq_none hge] at h
    simp at h
/-- From what the frame of a statement says of a slice of numbers that came in. -/
theorem ints_in {w : World} {k : IntKind} {a : Option Addr} {len cap : Nat} {zs : List Int}
    (h : (a = none ∧ len = 0 ∧ cap = 0 ∧ zs = []) ∨ ∃ x, a = some x ∧ len ≤ cap ∧ cap ≤ maxLen ∧ zs.length = cap ∧ (∀ i, i < zs.length → w.cell? (x.add i) = some (.int k (zs.getD i 0))) ∧ ∀ n ∈ zs, (Lit.int k n).wf = true) :
    IntsAt w w.heap.size k a len (zs.take len) ∧ (∀ n ∈ zs.take len, (Lit.int k n).wf = true) ∧ len ≤ 9223372036854775807 := by
  rcases h with ⟨rfl, rfl, rfl, rfl⟩ | ⟨x, rfl, hl, hm, hz, hc, hw⟩
  · exact ⟨⟨rfl, .inl rfl⟩, by simp, by omega⟩
  · unfold maxLen at hm
    refine ⟨⟨by simp; omega, ?_⟩, fun n hn => hw n (List.mem_of_mem_take hn), by omega⟩
    by_cases h0 : len = 0
    · exact .inl h0
    · obtain ⟨b, off, rfl, hc'⟩ := ints_at hc (by omega)
      refine .inr ⟨b, off, rfl, ?_, by omega, fun j hj => ?_⟩
      · exact cell_block (hc' 0 (by omega))
      · rw [hc' j (by omega)]; simp [List.getD, hj]
theorem IntsAt.at_ {w : World} {B len : Nat} {k : IntKind} {a : Option Addr} {zs : List Int} (h : IntsAt w B k a len zs) {j : Nat} (hj : j < len) :
    ∃ b off, a = some ⟨b, off, none⟩ ∧ b < B ∧ len ≤ 9223372036854775807 ∧ w.cell? ⟨b, off + j, none⟩ = some (.int k (zs.getD j 0)) := by
  rcases h.2 with h | ⟨b, off, e, h1, h2, h3⟩
  · omega
  · exact ⟨b, off, e, h1, h2, h3 j hj⟩
theorem own_base {w : World} {base e size n : Nat} {v : Value} {xs : List Value} (h : w.ownsRow base e size v n xs) (g : Nat) (hg : v.ownBlock = some g) : base ≤ g := by
  rcases h.2 with ⟨rfl, _⟩ | ⟨g', cap, cur, rfl, hb, _⟩
  · simp [Value.ownBlock] at hg
  · simp [Value.ownBlock] at hg; omega
theorem own_below {w w' : World} {base e size n : Nat} {v : Value} {xs : List Value} (h : w.ownsRow base e size v n xs) (hb : Below w.heap.size w w') : w'.ownsRow base e size v n xs := by
  refine ⟨h.1, ?_⟩
  rcases h.2 with h0 | ⟨g, cap, cur, h1, h2, h3, h4⟩
  · exact .inl h0
  · have hg : g < w.heap.size := by
      rcases Nat.lt_or_ge g w.heap.size with hlt | hge
      · exact hlt
      · rw [Array.getElem?_eq_none hge] at h3; cases h3
    exact .inr ⟨g, cap, cur, h1, h2, (hb.block g hg).trans h3, h4⟩
theorem own_ints {w : World} {base e n : Nat} {v : Value} {k : IntKind} {zs : List Int} (h : w.ownsRow base e 1 v n (zs.map (Value.int k))) : ∃ a c, v = .slice a n c ∧ IntsAt w w.heap.size k a n zs := by
  have hl : zs.length = n := by have := h.1; simpa using this
  rcases h.2 with ⟨rfl, rfl⟩ | ⟨g, cap, cur, rfl, hb, hh, hn, hc, hs, ht⟩
  · exact ⟨none, 0, rfl, hl, .inl rfl⟩
  · have hg : g < w.heap.size := by
      rcases Nat.lt_or_ge g w.heap.size with hlt | hge
      · exact hlt
      · rw [Array.getElem?_eq_none hge] at hh; cases hh
    refine ⟨_, cap, rfl, hl, .inr ⟨g, 0, rfl, hg, by unfold maxLen at hc; omega, fun j hj => ?_⟩⟩
    rw [Nat.zero_add, h.cellAt j (by omega)]
    simp [List.getD, hl, hj]
/-- The first k of n places filled by f, the rest noughts. -/
def fillTo (f : Nat → Int) (n k : Nat) : List Int := (List.range k).map f ++ List.replicate (n - k) 0
theorem fillTo_zero (f : Nat → Int) (n : Nat) : fillTo f n 0 = List.replicate n 0 := by simp [fillTo]
theorem fillTo_all (f : Nat → Int) (n : Nat) : fillTo f n n = (List.range n).map f := by simp [fillTo]
theorem fillTo_len (f : Nat → Int) {n k : Nat} (h : k ≤ n) : (fillTo f n k).length = n := by simp [fillTo]; omega
theorem fillTo_getD (f : Nat → Int) {n k j : Nat} (h : j < k) (hk : k ≤ n) : (fillTo f n k).getD j 0 = f j := by
  unfold fillTo
  simp [List.getD, List.getElem?_append, h]
theorem fillTo_set (f : Nat → Int) {n k : Nat} (h : k < n) : (fillTo f n k).set k (f k) = fillTo f n (k + 1) := by
  apply List.ext_getElem?
  intro j
  unfold fillTo
  rw [List.getElem?_set]
  rcases Nat.lt_trichotomy j k with a | a | a
  · simp [List.getElem?_append, show ¬ k = j by omega, a, show j < k + 1 by omega]
  · subst a
    simp [List.getElem?_append, show j + (n - j) = n by omega, h]
  · simp only [List.getElem?_append, List.length_map, List.length_range, List.getElem?_replicate]
    repeat' split
    all_goals first | rfl | (exfalso; omega)
end Go.Proofs.Ytgnmnmjicjcffaa

/- Words of mine for memory: rows that the call owns, what is appended onto them, bytes as a text, slices of slices. -/
namespace Go.Proofs.Ytgnmnmjicjcffaa
open Go.RowKit
set_option linter.unusedVariables false

theorem IntsAt.grow {w : World} {B B' len : Nat} {k : IntKind} {a : Option Addr} {zs : List Int} (h : IntsAt w B k a len zs) (hB : B ≤ B') : IntsAt w B' k a len zs := by
  obtain ⟨h1, h2⟩ := h
  refine ⟨h1, ?_⟩
  rcases h2 with h2 | ⟨b, off, e, h3, h4, h5⟩
  · exact .inl h2
  · exact .inr ⟨b, off, e, by omega, h4, h5⟩
theorem IntsAt.now {w w' : World} {B len : Nat} {k : IntKind} {a : Option Addr} {zs : List Int} (h : IntsAt w B k a len zs) (hb : Below B w w') (hB : B ≤ w.heap.size) : IntsAt w' w'.heap.size k a len zs :=
  (h.below hb).grow (Nat.le_trans hB hb.size)
theorem own_ints' {w : World} {base e n c : Nat} {a : Option Addr} {k : IntKind} {zs : List Int} (h : w.ownsRow base e 1 (.slice a n c) n (zs.map (Value.int k))) : IntsAt w w.heap.size k a n zs := by
  obtain ⟨a', c', e1, h2⟩ := own_ints h
  obtain rfl : a = a' := by injection e1
  exact h2
/-- The cells that an append looks for at its source. -/
theorem IntsAt.src {w w' : World} {B len : Nat} {k : IntKind} {ad : Addr} {zs : List Int} (h : IntsAt w B k (some ad) len zs) (hb : Below B w w') :
    ∀ j u, (zs.map (Value.int k))[j]? = some u → w'.cell? (ad.add j) = some u := by
  intro j u hj
  have hl := h.1
  rw [List.getElem?_map] at hj
  obtain ⟨x, hx, rfl⟩ := Option.map_eq_some_iff.1 hj
  have hjl : j < len := by
    have := (List.getElem?_eq_some_iff.1 hx).1
    omega
  obtain ⟨b', off', e, hbB, _, hc⟩ := h.2.resolve_left (by omega)
  obtain rfl : ad = ⟨b', off', none⟩ := by injection e
  have e2 : (⟨b', off', none⟩ : Addr).add j = ⟨b', off' + j, none⟩ := by unfold Addr.add; split <;> simp_all
  rw [e2, hb.cell (p := ⟨b', off' + j, none⟩) hbB, hc j hjl]
  simp [List.getD, hx]
/-- What a value looks like that owns a row: a slice of that length. -/
theorem own_form {w : World} {base e n : Nat} {v : Value} {k : IntKind} {zs : List Int} (h : w.ownsRow base e 1 v n (zs.map (Value.int k))) : ∃ a c, v = .slice a n c := by
  obtain ⟨a, c, e1, _⟩ := own_ints h
  exact ⟨a, c, e1⟩
theorem own_lt {w : World} {base e size n : Nat} {v : Value} {xs : List Value} (h : w.ownsRow base e size v n xs) (g : Nat) (hg : v.ownBlock = some g) : g < w.heap.size := by
  rcases h.2 with ⟨rfl, _⟩ | ⟨g', cap, cur, rfl, hb, hh, _⟩
  · simp [Value.ownBlock] at hg
  · simp [Value.ownBlock] at hg
    subst hg
    rcases Nat.lt_or_ge g' w.heap.size with hlt | hge
    · exact hlt
    · rw [Array.getElem?_eq_none hge] at hh; cases hh
/-- What is owned stays owned where another row alone was written. -/
theorem own_grown {w w' : World} {base e size n : Nat} {v : Value} {xs : List Value} {row : Option Nat} (h : w.ownsRow base e size v n xs) (hg : w.grownBy w' row) (hne : ∀ g, v.ownBlock = some g → some g ≠ row) : w'.ownsRow base e size v n xs := by
  refine ⟨h.1, ?_⟩
  rcases h.2 with h0 | ⟨g, cap, cur, h1, h2, h3, h4⟩
  · exact .inl h0
  · have hl := own_lt h g (by rw [h1]; rfl)
    exact .inr ⟨g, cap, cur, h1, h2, (hg.block g hl (hne g (by rw [h1]; rfl))).trans h3, h4⟩

/-- append(s, x...) where s is a row of the call's own, and x any slice of numbers, nil too. -/
theorem append_ints {P : Program} {w : World} {ops : Array Oper} {rest : List Oper} {o : Oper} {a : Act} {Q : Exit → Act → World → Prop} (hgd : o.guard = none) (s x : Operand) (t : TypeId)
    (ho : o.op = .call { callee := .builtin .append, args := #[s, x], argTypes := #[t, t] })
    (base : Nat) (e : TypeId) (k : IntKind) (by' : Nat) (ht : P.underlying t = some (.slice e)) (hi : (P.info? e).map (fun i => (i.zero, i.size, i.bytes)) = some (some (.int k 0), 1, by'))
    (v : Value) (n : Nat) (zs : List Int) (hs : a.eval s = v) (hown : w.ownsRow base e 1 v n (zs.map (Value.int k)))
    (A : Option Addr) (m c B : Nat) (ys : List Int) (hx : a.eval x = .slice A m c) (hsrc : IntsAt w B k A m ys) (hnone : A = none → c = 0)
    (h63 : n + m ≤ maxLen) (hbytes : (n + m) * by' ≤ 140737488355328) (hbase : base ≤ w.heap.size)
    (h : ∀ v' w', w'.ownsRow base e 1 v' (n + m) ((zs ++ ys).map (Value.int k)) → w.grownBy w' v.ownBlock → (v'.ownBlock = v.ownBlock ∨ v'.ownBlock = some w.heap.size) → wpList P ops Q rest (a.put o.dst v') w') :
    wpList P ops Q (o :: rest) a w := by
  obtain ⟨i, h1, h2, h3, h4⟩ := info_parts hi
  cases A with
  | none =>
    have hm : m = 0 := by
      rcases hsrc.2 with h0 | ⟨b, off, e', _⟩
      · exact h0
      · cases e'
    subst hm
    have hy : ys = [] := List.eq_nil_of_length_eq_zero hsrc.1
    subst hy
    obtain rfl := hnone rfl
    refine wpList_append_own_none hgd s x t ho base e i 1 ht h1 v n _ hs hown hx (h v w ?_ (World.grownBy.refl w _) (.inl rfl))
    simpa using hown
  | some ad =>
    refine wpList_append_own_at w hgd s x t ho base e i (.int k 0) 1 by' ht h1 h2 h3 h4 rfl (by decide) v n _ hs hown ad m c (ys.map (Value.int k)) hx (by simp [hsrc.1]) (hsrc.src (Below.refl _ _)) (ints_oneCell _ _) h63 hbytes hbase ?_
    intro v' w' g1 g2 _ g4
    exact h v' w' (by simpa using g1) g2 g4

/-- Bytes as a text. -/
def textOf (ys : List Int) : ByteArray := ys.foldl (fun r n => r.push (UInt8.ofNat n.toNat)) ByteArray.empty
theorem string_of_ints {P : Program} {w : World} {src dst e : TypeId} {A : Option Addr} {m c B : Nat} {ys : List Int} (hs : P.underlying src = some (.slice e)) (he : P.underlying e = some (.int .u8)) (hd : P.underlying dst = some .string)
    (h : IntsAt w B .u8 A m ys) : (convert src dst (.slice A m c)).run P w = .ok (.string (textOf ys)) w := by
  rw [run_convert_bytes_string w src dst e A m c hs he hd]
  cases A with
  | none =>
    have hm : m = 0 := by
      rcases h.2 with h0 | ⟨b, off, e', _⟩
      · exact h0
      · cases e'
    subst hm
    have hy : ys = [] := List.eq_nil_of_length_eq_zero h.1
    subst hy
    rfl
  | some ad =>
    refine run_bytesToString w ad m c ys ?_
    have := run_loadCells_list (P := P) w ad (ys.map (Value.int .u8)) (h.src (Below.refl _ _))
    rw [List.length_map, h.1] at this
    exact this

/-- A new row of numbers, whatever mark it bears. -/
theorem lit_ints (w : World) (t : TypeId) (k : IntKind) (zs : List Int) (cs : Array Value) (fr : Nat × Nat) (h : cs = (zs.map (Value.int k)).toArray) (hm : zs.length ≤ 9223372036854775807) :
    IntsAt (w.alloc (.cells cs t fr)) (w.alloc (.cells cs t fr)).heap.size k (some ⟨w.heap.size, 0, none⟩) zs.length zs := by
  refine ⟨rfl, .inr ⟨_, 0, rfl, by simp, hm, fun j hj => ?_⟩⟩
  rw [Nat.zero_add, cell_of_row _ _ j cs t fr (heap_alloc_new w _)]
  subst h
  simp [List.getD, hj]

/-- What is known of a slice of slices of numbers that came in. -/
def RowsIn (w : World) (k : IntKind) (a : Option Addr) (len : Nat) (A : Nat → Option Addr) (L C : Nat → Nat) (Z : Nat → List Int) : Prop :=
  len ≤ 9223372036854775807 ∧ (len = 0 ∨ ∃ b off, a = some ⟨b, off, none⟩ ∧ b < w.heap.size ∧
    ∀ r, r < len → w.cell? ⟨b, off + r, none⟩ = some (.slice (A r) (L r) (C r)) ∧ L r ≤ 9223372036854775807 ∧ (A r = none → C r = 0) ∧ IntsAt w w.heap.size k (A r) (L r) (Z r) ∧ ∀ n ∈ Z r, (Lit.int k n).wf = true)
end Go.Proofs.Ytgnmnmjicjcffaa

/- From a reading of an argument to what the walks are told of it: slices of slices of numbers. -/
namespace Go.Proofs.Ytgnmnmjicjcffaa
open Go.ChangeShapes Go.WideShapes Go.ChangeAt Go.RowKit Go.Deep
set_option linter.unusedVariables false

theorem addr_plain {w : World} {a : Addr} {v : Value} (h : w.cell? (a.add 0) = some v) : ∃ b off, a = ⟨b, off, none⟩ := by
  obtain ⟨b, off, spot⟩ := a
  have hs : spot = none := by simpa [Addr.add] using World.cell?_spot h
  subst hs
  exact ⟨b, off, rfl⟩

theorem rows_in {P : Program} {H : Type} {enc : TypeId × Value → H} {w : World} {base : Nat} {held : Bool} {t e q : TypeId} {k : IntKind} {fuel : Nat} {a : Option Addr} {len cap : Nat} {x : DataW H × List MemPlace}
    (ht : P.underlying t = some (.slice e)) (he : P.underlying e = some (.slice q)) (hq : P.underlying q = some (.int k)) (ce : P.cellsOf e = 1) (cq : P.cellsOf q = 1)
    (h : DataW.trod enc P w base (fun _ => true) held fuel t (Value.slice a len cap).cells.toList = some x) : ∃ A L C Z, RowsIn w k a len A L C Z := by
  rcases open_int_rows ht he hq ce cq h with ⟨hcs, _⟩ | ⟨a', len', cap', A, L, C, Z, hcs, _, hl, hm, _, hr⟩
  · simp [Value.cells] at hcs
    obtain ⟨rfl, rfl, rfl⟩ := hcs
    exact ⟨fun _ => none, fun _ => 0, fun _ => 0, fun _ => [], by omega, .inl rfl⟩
  · simp [Value.cells] at hcs
    obtain ⟨rfl, rfl, rfl⟩ := hcs
    unfold maxLen at hm
    refine ⟨A, L, C, fun r => (Z r).take (L r), by omega, ?_⟩
    by_cases h0 : len = 0
    · exact .inl h0
    · obtain ⟨b, off, rfl⟩ := addr_plain (hr 0 (by omega)).1
      refine .inr ⟨b, off, rfl, ?_, fun r hrl => ?_⟩
      · have := (hr 0 (by omega)).1
        rw [Go.WideShapes.add_plain] at this
        exact cell_block this
      · obtain ⟨g1, g2, g3, g4, g5, g6, g7⟩ := hr r (by omega)
        unfold maxLen at g3
        rw [Go.WideShapes.add_plain] at g1
        refine ⟨g1, by omega, g6, ⟨by simp; omega, ?_⟩, fun n hn => g5 n (List.mem_of_mem_take hn)⟩
        by_cases hL : L r = 0
        · exact .inl hL
        · cases hA : A r with
          | none => have := g6 hA; omega
          | some a' =>
            obtain ⟨_, hc⟩ := g7 a' hA
            obtain ⟨b', off', rfl⟩ := addr_plain (hc 0 (by omega))
            refine .inr ⟨b', off', rfl, ?_, by omega, fun j hj => ?_⟩
            · have := hc 0 (by omega)
              rw [Go.WideShapes.add_plain] at this
              exact cell_block this
            · have := hc j (by omega)
              rw [Go.WideShapes.add_plain] at this
              rw [this]
              simp [List.getD, hj]
end Go.Proofs.Ytgnmnmjicjcffaa

/- Plain facts of numbers, for the statements of layer 1: what is held, what is rounded, what a root is. Nothing here speaks of the program. -/
namespace Go.Proofs.Ytgnmnmjicjcffaa
open Go

/-- A number that is not reckoned by unfolding. -/
noncomputable def hideI (x : Int) : Int := @Classical.epsilon Int ⟨0⟩ (fun y => y = x)
theorem hideI_eq (x : Int) : hideI x = x := Classical.epsilon_spec (p := fun y => y = x) ⟨x, rfl⟩

/-- 2 to the k. -/
def P2 (k : Nat) : Int := 2 ^ k
theorem P2_zero : P2 0 = 1 := rfl
theorem P2_succ (k : Nat) : P2 (k + 1) = P2 k * 2 := by unfold P2; rw [Int.pow_succ]
theorem P2_pos (k : Nat) : 1 ≤ P2 k := by
  induction k with
  | zero => decide
  | succ k ih => rw [P2_succ]; omega
theorem P2_mono {a b : Nat} (h : a ≤ b) : P2 a ≤ P2 b := by
  induction b with
  | zero => obtain rfl : a = 0 := by omega
            exact Int.le_refl _
  | succ b ih =>
    rcases Nat.lt_or_ge a (b + 1) with h' | h'
    · have := ih (by omega); have := P2_pos b; rw [P2_succ]; omega
    · obtain rfl : a = b + 1 := by omega
      exact Int.le_refl _
theorem P2_62 : P2 62 = 4611686018427387904 := by decide
theorem P2_63 : P2 63 = 9223372036854775808 := by decide
theorem P2_le61 {k : Nat} (h : k ≤ 61) : P2 k ≤ 2305843009213693952 := by have := P2_mono h; rw [show P2 61 = 2305843009213693952 by decide] at this; exact this
theorem P2_le62 {k : Nat} (h : k ≤ 62) : P2 k ≤ 4611686018427387904 := by have := P2_mono h; rw [P2_62] at this; exact this
theorem P2_le63 {k : Nat} (h : k ≤ 63) : P2 k ≤ 9223372036854775808 := by have := P2_mono h; rw [P2_63] at this; exact this

/-! ### held -/
/-- n, held to b bits. -/
def satP (n b : Int) : Int := if b < 1 ∨ 64 < b then 0 else if n < -(P2 (b.toNat - 1)) then -(P2 (b.toNat - 1)) else if P2 (b.toNat - 1) - 1 < n then P2 (b.toNat - 1) - 1 else n
theorem satP_out {n b : Int} (h : b < 1 ∨ 64 < b) : satP n b = 0 := if_pos h
theorem greatest_all : ∀ k : Nat, k < 64 → (9223372036854775807 : Nat) / 2 ^ (63 - k) = 2 ^ k - 1 := by decide
theorem greatest_eq {b : Int} (h1 : 1 ≤ b) (h2 : b ≤ 64) : (9223372036854775807 : Int) / 2 ^ (64 - b).toNat = P2 (b.toNat - 1) - 1 := by
  have h := greatest_all (b.toNat - 1) (by omega)
  have e : (64 - b).toNat = 63 - (b.toNat - 1) := by omega
  have p := P2_pos (b.toNat - 1)
  have c : ((2 ^ (b.toNat - 1) : Nat) : Int) = P2 (b.toNat - 1) := by simp [P2]
  have q : (1 : Nat) ≤ 2 ^ (b.toNat - 1) := Nat.one_le_two_pow
  rw [e]
  have h' : ((9223372036854775807 / 2 ^ (63 - (b.toNat - 1)) : Nat) : Int) = ((2 ^ (b.toNat - 1) - 1 : Nat) : Int) := by rw [h]
  rw [Int.natCast_ediv, Int.ofNat_sub q, c] at h'
  simpa using h'
theorem satP_in {n b : Int} (h1 : 1 ≤ b) (h2 : b ≤ 64) : satP n b = if n < -(P2 (b.toNat - 1)) then -(P2 (b.toNat - 1)) else if P2 (b.toNat - 1) - 1 < n then P2 (b.toNat - 1) - 1 else n := by
  unfold satP; rw [if_neg (by omega)]
theorem satP_bd (n b : Int) : -9223372036854775808 ≤ satP n b ∧ satP n b ≤ 9223372036854775807 := by
  unfold satP
  split
  · omega
  · rename_i h
    have p := P2_pos (b.toNat - 1)
    have q := P2_le63 (k := b.toNat - 1) (by omega)
    split
    · omega
    · split <;> omega
theorem satP_bd32 (n : Int) : -2147483648 ≤ satP n 32 ∧ satP n 32 ≤ 2147483647 := by
  have e : P2 ((32 : Int).toNat - 1) = 2147483648 := by decide
  rw [satP_in (by decide) (by decide), e]
  split
  · omega
  · split <;> omega
theorem satP_self {n b : Int} (h1 : 1 ≤ b) (h2 : b ≤ 64) (h3 : -(P2 (b.toNat - 1)) ≤ n) (h4 : n ≤ P2 (b.toNat - 1) - 1) : satP n b = n := by
  rw [satP_in h1 h2, if_neg (by omega), if_neg (by omega)]

/-! ### sums, each held -/
def addH (a b : Int) : Int := if 9223372036854775807 < a + b then 9223372036854775807 else if a + b < -9223372036854775808 then -9223372036854775808 else a + b
theorem addH_bd (a b : Int) : -9223372036854775808 ≤ addH a b ∧ addH a b ≤ 9223372036854775807 := by unfold addH; split; · omega
                                                                                                     split <;> omega
def addP (l : List Int) : Int := l.foldl addH 0
theorem addP_nil : addP [] = 0 := rfl
theorem addP_snoc (l : List Int) (x : Int) : addP (l ++ [x]) = addH (addP l) x := by simp [addP, List.foldl_append]
theorem addP_bd (l : List Int) : -9223372036854775808 ≤ addP l ∧ addP l ≤ 9223372036854775807 := by
  rcases List.eq_nil_or_concat l with h | ⟨l', x, h⟩
  · subst h; decide
  · subst h; rw [List.concat_eq_append, addP_snoc]; exact addH_bd _ _
theorem take_snocI (zs : List Int) (k : Nat) (h : k < zs.length) : zs.take (k + 1) = zs.take k ++ [zs.getD k 0] := by
  rw [List.take_succ_eq_append_getElem h]; simp [List.getD, h]
theorem addP_take (zs : List Int) (k : Nat) (h : k < zs.length) : addP (zs.take (k + 1)) = addH (addP (zs.take k)) (zs.getD k 0) := by
  rw [take_snocI zs k h, addP_snoc]

/-! ### rounded -/
/-- n divided by 2 to the b, to the nearest, halves upwards. -/
def rndP (n b : Int) : Int := if b < 0 ∨ 62 < b then 0 else (n + P2 b.toNat / 2) / P2 b.toNat
theorem rndP_out {n b : Int} (h : b < 0 ∨ 62 < b) : rndP n b = 0 := if_pos h
theorem rndP_zero (n : Int) : rndP n 0 = n := by unfold rndP; simp [P2]
theorem rndP_in {n b : Int} (h1 : 0 ≤ b) (h2 : b ≤ 62) : rndP n b = (n + P2 b.toNat / 2) / P2 b.toNat := by unfold rndP; rw [if_neg (by omega)]
/-- The floor, and the highest bit that is lost. -/
theorem rndP_bits {n b : Int} (h1 : 1 ≤ b) (h2 : b ≤ 62) : rndP n b = n / 2 ^ b.toNat + n / 2 ^ (b.toNat - 1) % 2 := by
  obtain ⟨k, hk⟩ : ∃ k : Nat, b.toNat = k + 1 := ⟨b.toNat - 1, by omega⟩
  rw [rndP_in (by omega) h2, hk, P2_succ]
  have e : (2 : Int) ^ (k + 1) = P2 k * 2 := P2_succ k
  have e' : (2 : Int) ^ (k + 1 - 1) = P2 k := rfl
  have p := P2_pos k
  rw [e, e', Int.mul_ediv_cancel _ (by decide), ← Int.ediv_ediv_of_nonneg (by omega), ← Int.ediv_ediv_of_nonneg (by omega)]
  have a : (n + P2 k) / P2 k = n / P2 k + 1 := by rw [Int.add_ediv_of_dvd_right ⟨1, by omega⟩, Int.ediv_self (by omega)]
  rw [a]; omega
theorem half_bits {n : Int} {k : Nat} (h : -9223372036854775808 ≤ n) (h' : n ≤ 9223372036854775807) : -9223372036854775808 ≤ n / 2 ^ k ∧ n / 2 ^ k ≤ 9223372036854775807 := by
  have e : (2 : Int) ^ k = P2 k := rfl
  have p := P2_pos k
  rw [e]
  refine ⟨Int.le_ediv_of_mul_le (by omega) ?_, ?_⟩
  · have : -9223372036854775808 * P2 k ≤ -9223372036854775808 * 1 := Int.mul_le_mul_of_nonpos_left (by decide) p
    omega
  · by_cases h0 : n < 0
    · have := Int.ediv_neg_of_neg_of_pos h0 (show 0 < P2 k by omega); omega
    · have := Int.ediv_le_self (P2 k) (show 0 ≤ n by omega); omega
theorem rndP_bd {n b : Int} (h : -9223372036854775808 ≤ n) (h' : n ≤ 9223372036854775807) : -9223372036854775808 ≤ rndP n b ∧ rndP n b ≤ 9223372036854775807 := by
  by_cases h0 : b < 0 ∨ 62 < b
  · rw [rndP_out h0]; omega
  · by_cases h1 : b = 0
    · subst h1; rw [rndP_zero]; omega
    · have hk : 1 ≤ b.toNat := by omega
      obtain ⟨k, hk⟩ : ∃ k : Nat, b.toNat = k + 1 := ⟨b.toNat - 1, by omega⟩
      rw [rndP_bits (by omega) (by omega)]
      have := half_bits (k := b.toNat - 1) h h'
      have e : n / 2 ^ b.toNat = n / 2 ^ (b.toNat - 1) / 2 := by
        have e1 : (2 : Int) ^ (b.toNat) = 2 ^ (b.toNat - 1) * 2 := by rw [hk, Int.pow_succ]; rfl
        have p := P2_pos (b.toNat - 1)
        unfold P2 at p
        rw [e1, Int.ediv_ediv_of_nonneg (by omega)]
      rw [e]; omega
theorem i64_and1 (n : Int) : bits .and .i64 n 1 = n % 2 := by
  have h1 : (BitVec.ofInt 64 1).toNat = 2 ^ 1 - 1 := by decide
  have key : (BitVec.ofInt 64 n &&& BitVec.ofInt 64 1).toNat = (n % ((2 ^ 64 : Nat) : Int)).toNat % 2 ^ 1 := by
    rw [BitVec.toNat_and, BitVec.toNat_ofInt, h1, Nat.and_two_pow_sub_one_eq_mod]
  show IntKind.i64.wrap ((BitVec.ofInt 64 n &&& BitVec.ofInt 64 1).toNat : Nat) = n % 2
  rw [key, IntKind.wrap_i64]
  omega
/-- By quotient and remainder towards nought, as the document's answer reckons. -/
theorem rnd_quo {n d q r : Int} (hd : 1 ≤ d) (hq : q = n.tdiv d) (hr : r = n.tmod d) :
    n / d = (if r < 0 then q - 1 else q) ∧ n % d = (if r < 0 then r + d else r) := by
  have hs := Int.mul_tdiv_add_tmod n d
  rw [← hq, ← hr] at hs
  have hlt : r < d := by rw [hr]; exact Int.tmod_lt_of_pos _ (by omega)
  have hgt : -d < r := by
    rw [hr]
    have := Int.tmod_lt_of_pos (-n) (show 0 < d by omega)
    rw [Int.neg_tmod] at this; omega
  split
  · rename_i h0
    have e : n = (r + d) + d * (q - 1) := by rw [Int.mul_sub, Int.mul_one]; omega
    have := (Int.ediv_emod_unique (a := n) (b := d) (r := r + d) (q := q - 1) (by omega)).mpr ⟨e.symm, by omega, by omega⟩
    exact this
  · have := (Int.ediv_emod_unique (a := n) (b := d) (r := r) (q := q) (by omega)).mpr ⟨by omega, by omega, by omega⟩
    exact this
theorem rnd_floor {n d : Int} (hd : 1 ≤ d) (he : d % 2 = 0) : (n + d / 2) / d = n / d + if d ≤ 2 * (n % d) then 1 else 0 := by
  have hs := Int.mul_ediv_add_emod n d
  have h0 := Int.emod_nonneg n (show d ≠ 0 by omega)
  have h1 := Int.emod_lt_of_pos n (show 0 < d by omega)
  split
  · rename_i h2
    refine ((Int.ediv_emod_unique (a := n + d / 2) (b := d) (r := n % d + d / 2 - d) (q := n / d + 1) (by omega)).mpr ⟨?_, by omega, by omega⟩).1
    rw [Int.mul_add, Int.mul_one]; omega
  · rename_i h2
    refine ((Int.ediv_emod_unique (a := n + d / 2) (b := d) (r := n % d + d / 2) (q := n / d + 0) (by omega)).mpr ⟨?_, by omega, by omega⟩).1
    rw [Int.add_zero]; omega
theorem rndP_even {b : Int} (h : 1 ≤ b) : P2 b.toNat % 2 = 0 := by
  obtain ⟨k, hk⟩ : ∃ k : Nat, b.toNat = k + 1 := ⟨b.toNat - 1, by omega⟩
  rw [hk, P2_succ]; omega
theorem P2_two {b : Int} (h : 1 ≤ b) : 2 ≤ P2 b.toNat := by
  obtain ⟨k, hk⟩ : ∃ k : Nat, b.toNat = k + 1 := ⟨b.toNat - 1, by omega⟩
  rw [hk, P2_succ]; have := P2_pos k; omega

theorem tmod_bd {n d : Int} (hd : 1 ≤ d) : -d < n.tmod d ∧ n.tmod d < d := by
  refine ⟨?_, Int.tmod_lt_of_pos _ (by omega)⟩
  have := Int.tmod_lt_of_pos (-n) (show 0 < d by omega)
  rw [Int.neg_tmod] at this; omega
theorem tdiv_bd2 {n d : Int} (hd : 2 ≤ d) (h : -9223372036854775808 ≤ n) (h' : n ≤ 9223372036854775807) : -4611686018427387904 ≤ n.tdiv d ∧ n.tdiv d ≤ 4611686018427387904 := by
  have e : (n.tdiv d).natAbs = n.natAbs / d.natAbs := Int.natAbs_tdiv n d
  have a : n.natAbs / d.natAbs ≤ n.natAbs / 2 := Nat.div_le_div_left (by omega) (by decide)
  omega
theorem rnd_close {n b : Int} {k : Nat} (h1 : 1 ≤ k) (h2 : k ≤ 62) (hk : (k : Int) = b) :
    rndP n b = (if n.tmod (P2 k) < 0 then n.tdiv (P2 k) - 1 else n.tdiv (P2 k)) + if P2 k ≤ 2 * (if n.tmod (P2 k) < 0 then n.tmod (P2 k) + P2 k else n.tmod (P2 k)) then 1 else 0 := by
  subst hk
  have p := P2_pos k
  rw [rndP_in (by omega) (by omega), Int.toNat_natCast]
  have e := rndP_even (b := (k : Int)) (by omega)
  rw [Int.toNat_natCast] at e
  rw [rnd_floor p e, (rnd_quo p rfl rfl).1, (rnd_quo p rfl rfl).2]

/-- A product, rounded, held to thirty-two bits. -/
def mulP (a b by' : Int) : Int := satP (rndP (a * b) by') 32
theorem mulP_bd (a b c : Int) : -2147483648 ≤ mulP a b c ∧ mulP a b c ≤ 2147483647 := satP_bd32 _
theorem prod_bd {a b : Int} (ha : -2147483648 ≤ a) (ha' : a ≤ 2147483647) (hb : -2147483648 ≤ b) (hb' : b ≤ 2147483647) : -4611686018427387904 ≤ a * b ∧ a * b ≤ 4611686018427387904 := by
  have h : (a * b).natAbs ≤ 2147483648 * 2147483648 := by
    rw [Int.natAbs_mul]; exact Nat.mul_le_mul (by omega) (by omega)
  omega

/-! ### roots -/
/-- x is the greatest number of thirty-two bits whose square isn't above n. -/
def IsRoot (n x : Int) : Prop := 0 ≤ x ∧ x ≤ 4294967295 ∧ x * x ≤ n ∧ n < (x + 1) * (x + 1)
theorem sq_mono {a b : Int} (ha : 0 ≤ a) (h : a ≤ b) : a * a ≤ b * b := Int.mul_le_mul h h ha (by omega)
theorem isRoot_unique {n x y : Int} (hx : IsRoot n x) (hy : IsRoot n y) : x = y := by
  obtain ⟨x0, _, x1, x2⟩ := hx
  obtain ⟨y0, _, y1, y2⟩ := hy
  rcases Int.lt_trichotomy x y with h | h | h
  · have := sq_mono (a := x + 1) (b := y) (by omega) (by omega); omega
  · exact h
  · have := sq_mono (a := y + 1) (b := x) (by omega) (by omega); omega
noncomputable def rootP (n : Int) : Int := @Classical.epsilon Int ⟨0⟩ (IsRoot n)
theorem rootP_eq {n x : Int} (h : IsRoot n x) : x = rootP n := isRoot_unique h (Classical.epsilon_spec ⟨x, h⟩)
theorem rootP_is_of {n x : Int} (h : IsRoot n x) : IsRoot n (rootP n) := by rw [← rootP_eq h]; exact h
/-- There is one, by trying the bits one by one. -/
theorem isRoot_some {n : Int} (h : 0 ≤ n) (h' : n ≤ 18446744073709551615) : ∃ x, IsRoot n x := by
  have base : ∀ m : Nat, (m : Int) ≤ 4294967295 → n < ((m : Int) + 1) * ((m : Int) + 1) → ∃ x, IsRoot n x := by
    intro m
    induction m with
    | zero => intro _ hlt; exact ⟨0, by decide, by decide, by omega, by simpa using hlt⟩
    | succ m ih =>
      intro hm hlt
      by_cases hq : ((m : Int) + 1) * ((m : Int) + 1) ≤ n
      · exact ⟨(m : Int) + 1, by omega, by omega, hq, by simpa using hlt⟩
      · exact ih (by omega) (by omega)
  exact base 4294967295 (by decide) (by
    have e : (((4294967295 : Nat) : Int) + 1) * (((4294967295 : Nat) : Int) + 1) = 18446744073709551616 := by decide
    rw [e]; omega)
theorem rootP_is {n : Int} (h : 0 ≤ n) (h' : n ≤ 18446744073709551615) : IsRoot n (rootP n) := by
  obtain ⟨x, hx⟩ := isRoot_some h h'; exact rootP_is_of hx
theorem or_join {r : Int} {j : Nat} (h0 : 0 ≤ r) (h1 : r + P2 (j + 1) ≤ 4294967296) (h2 : r % P2 (j + 1) = 0) : bits .or .u64 r (P2 j) = r + P2 j := by
  have p := P2_pos j
  rw [P2_succ] at h1
  rw [u64_or r (P2 j) h0 (by omega) (by omega) (by omega)]
  have c : ((2 ^ (j + 1) : Nat) : Int) = P2 (j + 1) := by simp [P2]
  have c' : (P2 j).toNat = 2 ^ j := by
    have : ((2 ^ j : Nat) : Int) = P2 j := by simp [P2]
    omega
  have hm : r.toNat % 2 ^ (j + 1) = 0 := by
    have e : ((r.toNat % 2 ^ (j + 1) : Nat) : Int) = r % P2 (j + 1) := by rw [Int.natCast_emod, c, Int.toNat_of_nonneg h0]
    omega
  rw [nat_join (j + 1) _ _ hm (by rw [c', Nat.pow_succ]; have := Nat.one_le_two_pow (n := j); omega)]
  omega
theorem sq_lt32 {x : Int} (h0 : 0 ≤ x) (h : x ≤ 4294967295) : 0 ≤ x * x ∧ x * x ≤ 18446744073709551615 := by
  have a := sq_mono h0 h
  have b := sq_mono (a := 0) (b := x) (by decide) h0
  omega
theorem P2_32 : P2 32 = 4294967296 := by decide
/-- What holds of the root's highest bits: r, a multiple of 2 to the k, is the greatest such one whose square isn't above n. -/
def RootUpTo (n r : Int) (k : Nat) : Prop := 0 ≤ r ∧ r + P2 k ≤ 4294967296 ∧ r % P2 k = 0 ∧ r * r ≤ n ∧ n < (r + P2 k) * (r + P2 k)
theorem rootUpTo_32 {n : Int} (h : 0 ≤ n) (h' : n ≤ 18446744073709551615) : RootUpTo n 0 32 := by
  refine ⟨by decide, by decide, by decide, by omega, ?_⟩
  rw [P2_32]; omega
theorem mod_half {r : Int} {j : Nat} (h : r % P2 (j + 1) = 0) : r % P2 j = 0 := by
  have d : P2 (j + 1) ∣ r := Int.dvd_of_emod_eq_zero h
  exact Int.emod_eq_zero_of_dvd (Int.dvd_trans ⟨2, P2_succ j⟩ d)
theorem rootUpTo_low {n r : Int} {j : Nat} (h : RootUpTo n r (j + 1)) (hn : n < (r + P2 j) * (r + P2 j)) : RootUpTo n r j := by
  obtain ⟨a, b, c, d, _⟩ := h
  have p := P2_pos j
  rw [P2_succ] at b
  exact ⟨a, by omega, mod_half c, d, hn⟩
theorem rootUpTo_high {n r : Int} {j : Nat} (h : RootUpTo n r (j + 1)) (hn : (r + P2 j) * (r + P2 j) ≤ n) : RootUpTo n (r + P2 j) j := by
  obtain ⟨a, b, c, _, e⟩ := h
  have p := P2_pos j
  rw [P2_succ] at b
  refine ⟨by omega, by omega, ?_, hn, ?_⟩
  · rw [Int.add_emod_right]; exact mod_half c
  · have s : r + P2 j + P2 j = r + P2 (j + 1) := by rw [P2_succ]; omega
    rw [s]; exact e
theorem rootUpTo_end {n r : Int} (h : RootUpTo n r 0) : r = rootP n := by
  obtain ⟨a, b, _, d, e⟩ := h
  have z : P2 0 = 1 := rfl
  rw [z] at b e
  exact rootP_eq ⟨a, by omega, d, e⟩
theorem rootUpTo_bd {n r : Int} {k : Nat} (h : RootUpTo n r k) : 0 ≤ r ∧ r ≤ 4294967295 := by
  have p := P2_pos k; obtain ⟨a, b, _⟩ := h; omega
theorem rootUpTo_or {n r : Int} {j : Nat} (h : RootUpTo n r (j + 1)) : bits .or .u64 r (P2 j) = r + P2 j ∧ 0 ≤ r + P2 j ∧ r + P2 j ≤ 4294967295 := by
  obtain ⟨a, b, c, _, _⟩ := h
  have p := P2_pos j
  refine ⟨or_join a b c, by omega, ?_⟩
  rw [P2_succ] at b; omega
theorem P2_half (j : Nat) : P2 (j + 1) / 2 = P2 j := by rw [P2_succ]; omega
end Go.Proofs.Ytgnmnmjicjcffaa

/- Plain facts of models, for the statements of layers 5 to 7: parts, which symbol a number finds, what is learnt. Nothing here speaks of the program. -/
namespace Go.Proofs.Ytgnmnmjicjcffaa
open Go
set_option linter.unusedVariables false

/-- How often the first n symbols come. -/
def sumN (l : List Int) (n : Nat) : Int := (l.take n).sum
theorem sumN_zero (l : List Int) : sumN l 0 = 0 := by simp [sumN]
theorem sumN_succ (l : List Int) (n : Nat) (h : n < l.length) : sumN l (n + 1) = sumN l n + l.getD n 0 := by
  unfold sumN; rw [take_snocI l n h]; simp
theorem sumN_all (l : List Int) : sumN l l.length = l.sum := by simp [sumN]
theorem sumN_over (l : List Int) {n : Nat} (h : l.length ≤ n) : sumN l n = l.sum := by unfold sumN; rw [List.take_of_length_le h]
/-- Bounds of parts, where each number lies between a and b. -/
theorem sumN_bd {l : List Int} {a b : Int} (h : ∀ j, j < l.length → a ≤ l.getD j 0 ∧ l.getD j 0 ≤ b) : ∀ n, n ≤ l.length → a * n ≤ sumN l n ∧ sumN l n ≤ b * n := by
  intro n
  induction n with
  | zero => intro _; rw [sumN_zero]; simp
  | succ n ih =>
    intro hn
    obtain ⟨h1, h2⟩ := ih (by omega)
    obtain ⟨h3, h4⟩ := h n (by omega)
    rw [sumN_succ l n (by omega)]
    have e1 : a * ((n + 1 : Nat) : Int) = a * n + a := by rw [Int.natCast_add, Int.mul_add]; simp
    have e2 : b * ((n + 1 : Nat) : Int) = b * n + b := by rw [Int.natCast_add, Int.mul_add]; simp
    omega
theorem sumN_rise {l : List Int} (h : ∀ j, j < l.length → 0 ≤ l.getD j 0) {m n : Nat} (hmn : m ≤ n) (hn : n ≤ l.length) : sumN l m ≤ sumN l n := by
  induction n with
  | zero => obtain rfl : m = 0 := by omega
            exact Int.le_refl _
  | succ n ih =>
    rcases Nat.lt_or_ge m (n + 1) with h1 | h1
    · have := ih (by omega) (by omega)
      have := h n (by omega)
      rw [sumN_succ l n (by omega)]; omega
    · obtain rfl : m = n + 1 := by omega
      exact Int.le_refl _
theorem sumN_strict {l : List Int} (h : ∀ j, j < l.length → 1 ≤ l.getD j 0) {m n : Nat} (hmn : m < n) (hn : n ≤ l.length) : sumN l m < sumN l n := by
  have a := sumN_succ l m (by omega)
  have b := h m (by omega)
  have c := sumN_rise (l := l) (fun j hj => by have := h j hj; omega) (m := m + 1) (n := n) (by omega) hn
  omega

/-- The symbol in whose part a number is: from the i-th one on, n of them. -/
def findGo (l : List Int) (at' : Int) : Nat → Nat → Nat
  | _, 0 => l.length - 1
  | i, n + 1 => if at' < sumN l (i + 1) then i else findGo l at' (i + 1) n
def findP (l : List Int) (at' : Int) : Nat := findGo l at' 0 l.length
theorem findGo_lt {l : List Int} (at' : Int) : ∀ n i, i + n = l.length → 0 < l.length → findGo l at' i n < l.length := by
  intro n
  induction n with
  | zero => intro i _ h0; unfold findGo; omega
  | succ n ih =>
    intro i hi h0
    unfold findGo
    split
    · omega
    · exact ih (i + 1) (by omega) h0
theorem findP_lt {l : List Int} (at' : Int) (h : 0 < l.length) : findP l at' < l.length := findGo_lt at' _ 0 (by omega) h
/-- Who is below the i-th symbol's upper end, and not below the ones ahead, finds it. -/
theorem findGo_eq {l : List Int} {at' : Int} {i : Nat} (hi : i < l.length) (h1 : at' < sumN l (i + 1)) : ∀ n j, j + n = l.length → j ≤ i → (∀ k, j ≤ k → k < i → sumN l (k + 1) ≤ at') → findGo l at' j n = i := by
  intro n
  induction n with
  | zero => intro j hj hji _; omega
  | succ n ih =>
    intro j hj hji h
    unfold findGo
    by_cases e : j = i
    · subst e; rw [if_pos h1]
    · rw [if_neg (by have := h j (Nat.le_refl _) (by omega); omega)]
      exact ih (j + 1) (by omega) (by omega) fun k hk hki => h k (by omega) hki
theorem findP_eq {l : List Int} (hp : ∀ j, j < l.length → 1 ≤ l.getD j 0) {at' : Int} {i : Nat} (hi : i < l.length) (h0 : sumN l i ≤ at') (h1 : at' < sumN l (i + 1)) : findP l at' = i := by
  refine findGo_eq hi h1 _ 0 (by omega) (by omega) fun k _ hk => ?_
  have := sumN_rise (l := l) (fun j hj => by have := hp j hj; omega) (m := k + 1) (n := i) (by omega) (by omega)
  omega
/-- What is found is where the number lies, if it is below all. -/
theorem findP_is {l : List Int} {at' : Int} (h0 : 0 ≤ at') (h1 : at' < sumN l l.length) : findP l at' < l.length ∧ sumN l (findP l at') ≤ at' ∧ at' < sumN l (findP l at' + 1) := by
  have go : ∀ n i, i + n = l.length → sumN l i ≤ at' → findGo l at' i n < l.length ∧ sumN l (findGo l at' i n) ≤ at' ∧ at' < sumN l (findGo l at' i n + 1) := by
    intro n
    induction n with
    | zero =>
      intro i hi hs
      rw [show i = l.length by omega] at hs
      omega
    | succ n ih =>
      intro i hi hs
      unfold findGo
      by_cases h : at' < sumN l (i + 1)
      · rw [if_pos h]; exact ⟨by omega, hs, h⟩
      · rw [if_neg h]; exact ih (i + 1) (by omega) (by omega)
  exact go l.length 0 (by omega) (by rw [sumN_zero]; exact h0)

/-- A model's list: 1 to 64 symbols, each comes, together at most 8192 times. -/
def GoodL (l : List Int) : Prop := 1 ≤ l.length ∧ l.length ≤ 64 ∧ (∀ j, j < l.length → 1 ≤ l.getD j 0) ∧ l.sum ≤ 8192
theorem GoodL.sum_le {l : List Int} (h : GoodL l) {n : Nat} (hn : n ≤ l.length) : 0 ≤ sumN l n ∧ sumN l n ≤ 8192 := by
  have a := sumN_rise (l := l) (fun j hj => by have := h.2.2.1 j hj; omega) (m := 0) (n := n) (by omega) hn
  have b := sumN_rise (l := l) (fun j hj => by have := h.2.2.1 j hj; omega) (m := n) (n := l.length) hn (Nat.le_refl _)
  rw [sumN_zero] at a
  rw [sumN_all] at b
  have := h.2.2.2
  omega
theorem GoodL.own {l : List Int} (h : GoodL l) {j : Nat} (hj : j < l.length) : 1 ≤ l.getD j 0 ∧ l.getD j 0 ≤ 8192 := by
  have a := h.sum_le (n := j) (by omega)
  have b := h.sum_le (n := j + 1) (by omega)
  rw [sumN_succ l j hj] at b
  have := h.2.2.1 j hj
  omega
theorem goodL_ones {n : Nat} (h0 : 1 ≤ n) (h1 : n ≤ 64) : GoodL (List.replicate n 1) := by
  refine ⟨by simp; omega, by simp; omega, fun j hj => ?_, ?_⟩
  · simp at hj; simp [List.getD, hj]
  · have : ∀ n : Nat, (List.replicate n (1 : Int)).sum = n := by
      intro n
      induction n with
      | zero => rfl
      | succ n ih => rw [List.replicate_succ, List.sum_cons, ih]; omega
    rw [this]; omega
/-- s comes 32 times more often. -/
def riseL (l : List Int) (s : Nat) : List Int := l.set s (l.getD s 0 + 32)
/-- Each comes half as often, rounded upwards: the first k of them. -/
def halfK (l : List Int) (k : Nat) : List Int := (l.take k).map (fun x => (x + 1) / 2) ++ l.drop k
def halfL (l : List Int) : List Int := l.map fun x => (x + 1) / 2
/-- What is learnt. -/
def learnP (l : List Int) (s : Nat) : List Int := if 8192 < (riseL l s).sum then halfL (riseL l s) else riseL l s
theorem riseL_len (l : List Int) (s : Nat) : (riseL l s).length = l.length := by simp [riseL]
theorem halfL_len (l : List Int) : (halfL l).length = l.length := by simp [halfL]
theorem learnP_len (l : List Int) (s : Nat) : (learnP l s).length = l.length := by unfold learnP; split <;> simp [halfL_len, riseL_len]
theorem getD_set' (l : List Int) (j k : Nat) (x : Int) (h : j < l.length) : (l.set j x).getD k 0 = if k = j then x else l.getD k 0 := by
  simp only [List.getD, List.getElem?_set]
  by_cases e : j = k
  · subst e; simp [h]
  · rw [if_neg e, if_neg (fun c => e c.symm)]
theorem sum_set (l : List Int) (s : Nat) (x : Int) (h : s < l.length) : (l.set s x).sum = l.sum - l.getD s 0 + x := by
  induction l generalizing s with
  | nil => simp at h
  | cons a l ih =>
    cases s with
    | zero => simp [List.getD]; omega
    | succ s =>
      have := ih s (by simpa using h)
      simp only [List.set_cons_succ, List.sum_cons, List.getD_cons_succ] at this ⊢
      omega
theorem riseL_sum {l : List Int} {s : Nat} (h : s < l.length) : (riseL l s).sum = l.sum + 32 := by
  unfold riseL; rw [sum_set l s _ h]; omega
theorem halfL_sum {l : List Int} : (halfL l).sum * 2 ≤ l.sum + l.length := by
  induction l with
  | nil => simp [halfL]
  | cons a l ih =>
    unfold halfL at *
    simp only [List.map_cons, List.sum_cons, List.length_cons]
    omega
theorem halfL_getD {l : List Int} {j : Nat} (h : j < l.length) : (halfL l).getD j 0 = (l.getD j 0 + 1) / 2 := by simp [halfL, List.getD, h]
theorem riseL_own {l : List Int} (h : GoodL l) {s j : Nat} (hs : s < l.length) (hj : j < l.length) : 1 ≤ (riseL l s).getD j 0 ∧ (riseL l s).getD j 0 ≤ 8224 := by
  unfold riseL
  rw [getD_set' l s j _ hs]
  have a := h.own hs
  have b := h.own hj
  split <;> omega
theorem learnP_good {l : List Int} (h : GoodL l) {s : Nat} (hs : s < l.length) : GoodL (learnP l s) := by
  have hsum := riseL_sum hs
  have h3 := h.2.2.2
  unfold learnP
  split
  · refine ⟨by rw [halfL_len, riseL_len]; exact h.1, by rw [halfL_len, riseL_len]; exact h.2.1, fun j hj => ?_, ?_⟩
    · rw [halfL_len, riseL_len] at hj
      rw [halfL_getD (by rw [riseL_len]; exact hj)]
      have := riseL_own h hs hj
      omega
    · have := halfL_sum (l := riseL l s)
      rw [riseL_len] at this
      have := h.2.1
      omega
  · refine ⟨by rw [riseL_len]; exact h.1, by rw [riseL_len]; exact h.2.1, fun j hj => ?_, by omega⟩
    rw [riseL_len] at hj
    exact (riseL_own h hs hj).1
theorem halfK_zero (l : List Int) : halfK l 0 = l := by simp [halfK]
theorem halfK_all (l : List Int) : halfK l l.length = halfL l := by simp [halfK, halfL]
theorem halfK_len (l : List Int) {k : Nat} (h : k ≤ l.length) : (halfK l k).length = l.length := by simp [halfK]; omega
theorem halfK_at (l : List Int) {k : Nat} (h : k < l.length) : (halfK l k).getD k 0 = l.getD k 0 := by
  unfold halfK
  simp only [List.getD, List.getElem?_append]
  rw [if_neg (by simp; omega)]
  simp only [List.length_map, List.length_take, Nat.min_eq_left (Nat.le_of_lt h), Nat.sub_self, List.getElem?_drop, Nat.add_zero]
theorem halfK_next (l : List Int) {k : Nat} (h : k < l.length) : (halfK l k).set k ((l.getD k 0 + 1) / 2) = halfK l (k + 1) := by
  unfold halfK
  rw [take_snocI l k h, List.map_append, List.append_assoc, List.set_append_right _ _ (by simp; omega)]
  congr 1
  simp only [List.length_map, List.length_take, Nat.min_eq_left (Nat.le_of_lt h), Nat.sub_self]
  rw [List.drop_eq_getElem_cons h, List.set_cons_zero]
  simp [List.getD, h]
end Go.Proofs.Ytgnmnmjicjcffaa

/- Plain facts of the range coder, for the statements of layers 6 and 7: what an encoder's number is, what a decoder takes of it, and that what was put comes back. Nothing here speaks of the program. -/
namespace Go.Proofs.Ytgnmnmjicjcffaa
open Go
set_option linter.unusedVariables false

/-- An encoder: the number (L times 256 to the scale), the size, the scale. -/
structure EncS where
  n : Int
  s : Int
  k : Nat
def P256 (k : Nat) : Int := 256 ^ k
theorem P256_succ (k : Nat) : P256 (k + 1) = P256 k * 256 := by unfold P256; rw [Int.pow_succ]
theorem P256_add (a b : Nat) : P256 (a + b) = P256 a * P256 b := by unfold P256; rw [Int.pow_add]
theorem P256_pos (k : Nat) : 1 ≤ P256 k := by
  induction k with
  | zero => decide
  | succ k ih => rw [P256_succ]; omega
def scaleE (e : EncS) : EncS := if 16777216 ≤ e.s then e else if 16777216 ≤ e.s * 256 then ⟨e.n * 256, e.s * 256, e.k + 1⟩ else ⟨e.n * 65536, e.s * 65536, e.k + 2⟩
def encNew : EncS := ⟨0, 4294967295, 0⟩
/-- Ahead of the scaling. -/
def encPre (e : EncS) (low own all : Int) : EncS := ⟨e.n + e.s / all * low, e.s / all * own, e.k⟩
def encPut (e : EncS) (low own all : Int) : EncS := scaleE (encPre e low own all)
/-- A part may be. -/
def OkP (low own all : Int) : Prop := 1 ≤ all ∧ all ≤ 8192 ∧ 1 ≤ own ∧ 0 ≤ low ∧ low + own ≤ all
def GoodE (e : EncS) : Prop := 16777216 ≤ e.s ∧ e.s ≤ 4294967295 ∧ 0 ≤ e.n ∧ e.n + e.s ≤ 4294967296 * P256 e.k
theorem goodE_new : GoodE encNew := by unfold GoodE encNew P256; decide
/-- What each part is. -/
theorem each_bd {s all : Int} (h0 : 16777216 ≤ s) (h1 : s ≤ 4294967295) (a0 : 1 ≤ all) (a1 : all ≤ 8192) : 2048 ≤ s / all ∧ s / all ≤ 4294967295 ∧ s / all * all ≤ s := by
  refine ⟨?_, ?_, Int.ediv_mul_le s (by omega)⟩
  · rw [Int.le_ediv_iff_mul_le (by omega)]; omega
  · have := Int.ediv_le_self all (show 0 ≤ s by omega); omega
theorem encPre_bd {e : EncS} {low own all : Int} (h : GoodE e) (p : OkP low own all) :
    2048 ≤ (encPre e low own all).s ∧ (encPre e low own all).s ≤ 4294967295 ∧ 0 ≤ (encPre e low own all).n ∧ e.n ≤ (encPre e low own all).n ∧ (encPre e low own all).n + (encPre e low own all).s ≤ e.n + e.s := by
  obtain ⟨h1, h2, h3, h4⟩ := h
  obtain ⟨p1, p2, p3, p4, p5⟩ := p
  obtain ⟨e1, e2, e3⟩ := each_bd h1 h2 p1 p2
  unfold encPre
  simp only
  generalize e.s / all = E at e1 e2 e3
  have a1 : E * 1 ≤ E * own := Int.mul_le_mul_of_nonneg_left p3 (by omega)
  have a2 : 0 ≤ E * low := Int.mul_nonneg (by omega) p4
  have a3 : E * (low + own) ≤ E * all := Int.mul_le_mul_of_nonneg_left p5 (by omega)
  rw [Int.mul_add] at a3
  omega
theorem scaleE_step {e : EncS} (h : 256 ≤ e.s) (hs : e.s < 16777216) : scaleE e = scaleE ⟨e.n * 256, e.s * 256, e.k + 1⟩ := by
  unfold scaleE
  simp only
  rw [if_neg (by omega)]
  by_cases h1 : 16777216 ≤ e.s * 256
  · rw [if_pos h1, if_pos h1]
  · rw [if_neg h1, if_neg h1, if_pos (by omega)]
    congr 1 <;> omega
theorem scaleE_end {e : EncS} (h : 16777216 ≤ e.s) : scaleE e = e := by unfold scaleE; rw [if_pos h]
/-- One encoder's interval lies inside another's. -/
def Inside (e f : EncS) : Prop := e.k ≤ f.k ∧ e.n * P256 (f.k - e.k) ≤ f.n ∧ f.n + f.s ≤ (e.n + e.s) * P256 (f.k - e.k)
theorem Inside.refl (e : EncS) : Inside e e := by
  unfold Inside
  rw [Nat.sub_self]
  show _ ∧ e.n * 1 ≤ _ ∧ _ ≤ (e.n + e.s) * 1
  omega
theorem Inside.trans {a b c : EncS} (h : Inside a b) (g : Inside b c) : Inside a c := by
  obtain ⟨h1, h2, h3⟩ := h
  obtain ⟨g1, g2, g3⟩ := g
  have e : c.k - a.k = (b.k - a.k) + (c.k - b.k) := by omega
  have p := P256_pos (c.k - b.k)
  refine ⟨by omega, ?_, ?_⟩
  · rw [e, P256_add, ← Int.mul_assoc]
    exact Int.le_trans (Int.mul_le_mul_of_nonneg_right h2 (by omega)) g2
  · rw [e, P256_add, ← Int.mul_assoc]
    exact Int.le_trans g3 (Int.mul_le_mul_of_nonneg_right h3 (by omega))
theorem scaleE_inside (e : EncS) : Inside e (scaleE e) ∧ (scaleE e).n = e.n * P256 ((scaleE e).k - e.k) ∧ (scaleE e).s = e.s * P256 ((scaleE e).k - e.k) := by
  have p1 : P256 1 = 256 := by decide
  have p2 : P256 2 = 65536 := by decide
  have p0 : P256 0 = 1 := by decide
  by_cases h1 : 16777216 ≤ e.s
  · rw [scaleE_end h1]
    refine ⟨Inside.refl e, ?_, ?_⟩
    · rw [Nat.sub_self, p0]; omega
    · rw [Nat.sub_self, p0]; omega
  · by_cases h2 : 16777216 ≤ e.s * 256
    · have hx : scaleE e = ⟨e.n * 256, e.s * 256, e.k + 1⟩ := by unfold scaleE; rw [if_neg h1, if_pos h2]
      have k1 : e.k + 1 - e.k = 1 := by omega
      rw [hx]
      unfold Inside
      simp only [k1, p1]
      refine ⟨⟨by omega, ?_, ?_⟩, trivial, trivial⟩
      · exact Int.le_refl _
      · omega
    · have hx : scaleE e = ⟨e.n * 65536, e.s * 65536, e.k + 2⟩ := by unfold scaleE; rw [if_neg h1, if_neg h2]
      have k2 : e.k + 2 - e.k = 2 := by omega
      rw [hx]
      unfold Inside
      simp only [k2, p2]
      refine ⟨⟨by omega, ?_, ?_⟩, trivial, trivial⟩
      · exact Int.le_refl _
      · omega
theorem encPre_inside {e : EncS} {low own all : Int} (h : GoodE e) (p : OkP low own all) : Inside e (encPre e low own all) := by
  obtain ⟨a, b, c, d, f⟩ := encPre_bd h p
  have k : (encPre e low own all).k - e.k = 0 := Nat.sub_self _
  refine ⟨Nat.le_refl _, ?_, ?_⟩ <;> rw [k] <;> show _ ≤ _
  · show e.n * 1 ≤ _; omega
  · show _ ≤ (e.n + e.s) * 1; omega
theorem encPut_inside {e : EncS} {low own all : Int} (h : GoodE e) (p : OkP low own all) : Inside e (encPut e low own all) := (encPre_inside h p).trans (scaleE_inside _).1
theorem scaleE_good {e : EncS} (h0 : 2048 ≤ e.s) (h1 : e.s ≤ 4294967295) (h2 : 0 ≤ e.n) (h3 : e.n + e.s ≤ 4294967296 * P256 e.k) : GoodE (scaleE e) := by
  have p := P256_pos e.k
  unfold scaleE GoodE
  split
  · exact ⟨by assumption, h1, h2, h3⟩
  · split
    · simp only [P256_succ]; omega
    · simp only [show e.k + 2 = e.k + 1 + 1 by omega, P256_succ]; omega
theorem encPut_good {e : EncS} {low own all : Int} (h : GoodE e) (p : OkP low own all) : GoodE (encPut e low own all) := by
  obtain ⟨a, b, c, d, f⟩ := encPre_bd h p
  exact scaleE_good a b c (Int.le_trans f h.2.2.2)

theorem encPut_k (e : EncS) (low own all : Int) : (encPut e low own all).k ≤ e.k + 2 := by
  unfold encPut scaleE
  have h : (encPre e low own all).k = e.k := rfl
  split
  · omega
  · split <;> simp only <;> omega

/-! ### Digits -/
/-- The number that the first i digits make. -/
def valB (b : Nat → Int) : Nat → Int
  | 0 => 0
  | i + 1 => valB b i * 256 + b i
/-- The i digits that a number has. -/
def digB (n : Int) (len j : Nat) : Int := n / P256 (len - 1 - j) % 256
theorem valB_dig {n : Int} {len : Nat} {b : Nat → Int} (hn : 0 ≤ n) (hl : n < P256 len) (hb : ∀ j, j < len → b j = digB n len j) : ∀ i, i ≤ len → valB b i = n / P256 (len - i) := by
  intro i
  induction i with
  | zero =>
    intro _
    show (0 : Int) = _
    rw [Nat.sub_zero, Int.ediv_eq_zero_of_lt hn hl]
  | succ i ih =>
    intro hi
    show valB b i * 256 + b i = _
    rw [ih (by omega), hb i (by omega)]
    unfold digB
    have e : len - i = (len - (i + 1)) + 1 := by omega
    have e2 : len - 1 - i = len - (i + 1) := by omega
    rw [e, e2, P256_succ, ← Int.ediv_ediv_of_nonneg (by have := P256_pos (len - (i + 1)); omega)]
    omega
theorem valB_nonneg {b : Nat → Int} (hb : ∀ j, 0 ≤ b j) : ∀ i, 0 ≤ valB b i := by
  intro i
  induction i with
  | zero => exact Int.le_refl _
  | succ i ih => show 0 ≤ valB b i * 256 + b i; have := hb i; omega
theorem valB_same {b c : Nat → Int} : ∀ i, (∀ j, j < i → b j = c j) → valB b i = valB c i := by
  intro i
  induction i with
  | zero => intro _; rfl
  | succ i ih => intro h; show valB b i * 256 + b i = valB c i * 256 + c i; rw [ih (fun j hj => h j (by omega)), h i (by omega)]

/-! ### A decoder -/
structure DecS where
  c : Int
  s : Int
  i : Nat
def scaleD (b : Nat → Int) (d : DecS) : DecS :=
  if 16777216 ≤ d.s then d else if 16777216 ≤ d.s * 256 then ⟨d.c * 256 + b d.i, d.s * 256, d.i + 1⟩ else ⟨(d.c * 256 + b d.i) * 256 + b (d.i + 1), d.s * 65536, d.i + 2⟩
def decNew (b : Nat → Int) : DecS := ⟨valB b 4, 4294967295, 4⟩
def decAt (d : DecS) (all : Int) : Int := if all ≤ d.c / (d.s / all) then all - 1 else d.c / (d.s / all)
def decPre (d : DecS) (low own all : Int) : DecS := ⟨if d.s / all * own ≤ d.c - d.s / all * low then d.s / all * own - 1 else d.c - d.s / all * low, d.s / all * own, d.i⟩
def decTake (b : Nat → Int) (d : DecS) (low own all : Int) : DecS := scaleD b (decPre d low own all)
def GoodD (d : DecS) : Prop := 16777216 ≤ d.s ∧ d.s ≤ 4294967295 ∧ 0 ≤ d.c ∧ d.c ≤ 4294967295
theorem scaleD_step (b : Nat → Int) {d : DecS} (h : 256 ≤ d.s) (hs : d.s < 16777216) : scaleD b d = scaleD b ⟨d.c * 256 + b d.i, d.s * 256, d.i + 1⟩ := by
  unfold scaleD
  simp only
  rw [if_neg (by omega)]
  by_cases h1 : 16777216 ≤ d.s * 256
  · rw [if_pos h1, if_pos h1]
  · rw [if_neg h1, if_neg h1, if_pos (by omega)]
    congr 1
    omega
theorem scaleD_end (b : Nat → Int) {d : DecS} (h : 16777216 ≤ d.s) : scaleD b d = d := by unfold scaleD; rw [if_pos h]
theorem decAt_bd {d : DecS} {all : Int} (h : GoodD d) (a0 : 1 ≤ all) (a1 : all ≤ 8192) : 0 ≤ decAt d all ∧ decAt d all < all ∧ d.s / all * decAt d all ≤ d.c := by
  obtain ⟨h1, h2, h3, h4⟩ := h
  obtain ⟨e1, e2, e3⟩ := each_bd h1 h2 a0 a1
  unfold decAt
  generalize d.s / all = E at e1 e2 e3
  have q0 : 0 ≤ d.c / E := Int.ediv_nonneg h3 (by omega)
  have q1 : d.c / E * E ≤ d.c := Int.ediv_mul_le d.c (by omega)
  split
  · have : E * (all - 1) ≤ E * (d.c / E) := Int.mul_le_mul_of_nonneg_left (by omega) (by omega)
    rw [Int.mul_comm E (d.c / E)] at this
    exact ⟨by omega, by omega, by omega⟩
  · rw [Int.mul_comm] at q1
    exact ⟨q0, by omega, q1⟩
/-- Behind a taken part, ahead of the scaling. -/
theorem decPre_bd {d : DecS} {low own all : Int} (h : GoodD d) (p : OkP low own all) (hl : d.s / all * low ≤ d.c) :
    2048 ≤ (decPre d low own all).s ∧ (decPre d low own all).s ≤ 4294967295 ∧ 0 ≤ (decPre d low own all).c ∧ (decPre d low own all).c < (decPre d low own all).s := by
  obtain ⟨h1, h2, h3, h4⟩ := h
  obtain ⟨p1, p2, p3, p4, p5⟩ := p
  obtain ⟨e1, e2, e3⟩ := each_bd h1 h2 p1 p2
  unfold decPre
  simp only
  generalize d.s / all = E at e1 e2 e3 hl
  have a1 : E * 1 ≤ E * own := Int.mul_le_mul_of_nonneg_left p3 (by omega)
  have a2 : 0 ≤ E * low := Int.mul_nonneg (by omega) p4
  have a3 : E * (low + own) ≤ E * all := Int.mul_le_mul_of_nonneg_left p5 (by omega)
  rw [Int.mul_add] at a3
  refine ⟨by omega, by omega, ?_, ?_⟩
  · split <;> omega
  · split <;> omega
theorem scaleD_good {b : Nat → Int} {d : DecS} (hb : ∀ j, 0 ≤ b j ∧ b j ≤ 255) (h0 : 2048 ≤ d.s) (h1 : d.s ≤ 4294967295) (h2 : 0 ≤ d.c) (h3 : d.c < d.s) : GoodD (scaleD b d) ∧ (scaleD b d).c < (scaleD b d).s := by
  have b0 := hb d.i
  have b1 := hb (d.i + 1)
  unfold scaleD GoodD
  split
  · omega
  · split
    · simp only; omega
    · simp only; omega
theorem decTake_good {b : Nat → Int} {d : DecS} {low own all : Int} (hb : ∀ j, 0 ≤ b j ∧ b j ≤ 255) (h : GoodD d) (p : OkP low own all) (hl : d.s / all * low ≤ d.c) : GoodD (decTake b d low own all) ∧ (decTake b d low own all).c < (decTake b d low own all).s := by
  obtain ⟨a1, a2, a3, a4⟩ := decPre_bd h p hl
  exact scaleD_good hb a1 a2 a3 a4

/-! ### What was put comes back -/
/-- The decoder is where the encoder was. -/
def Sync (b : Nat → Int) (e : EncS) (d : DecS) : Prop := d.s = e.s ∧ d.i = e.k + 4 ∧ d.c = valB b (e.k + 4) - e.n
theorem sync_new (b : Nat → Int) : Sync b encNew (decNew b) := by unfold Sync encNew decNew; simp
/-- The digits are those of the last number. -/
def DigOf (b : Nat → Int) (f : EncS) : Prop := ∀ i, i ≤ f.k + 4 → valB b i = f.n / P256 (f.k + 4 - i)
theorem sync_scale {b : Nat → Int} {e : EncS} {d : DecS} (h : Sync b e d) : Sync b (scaleE e) (scaleD b d) := by
  obtain ⟨h1, h2, h3⟩ := h
  unfold scaleE scaleD
  rw [h1]
  split
  · exact ⟨h1, h2, h3⟩
  · split
    · refine ⟨rfl, by simp only; omega, ?_⟩
      simp only
      rw [h3, h2, show e.k + 1 + 4 = e.k + 4 + 1 by omega]
      show _ = valB b (e.k + 4) * 256 + b (e.k + 4) - _
      omega
    · refine ⟨rfl, by simp only; omega, ?_⟩
      simp only
      rw [h3, h2, show e.k + 2 + 4 = e.k + 4 + 1 + 1 by omega]
      show _ = (valB b (e.k + 4) * 256 + b (e.k + 4)) * 256 + b (e.k + 4 + 1) - _
      omega
theorem comes_back {b : Nat → Int} {e f : EncS} {d : DecS} {low own all : Int} (hs : Sync b e d) (hg : GoodE e) (p : OkP low own all) (hi : Inside (encPut e low own all) f) (hf : 1 ≤ f.s) (hd : DigOf b f) :
    low ≤ decAt d all ∧ decAt d all < low + own ∧ Sync b (encPut e low own all) (decTake b d low own all) := by
  have hin : Inside (encPre e low own all) f := (scaleE_inside _).1.trans hi
  obtain ⟨i1, i2, i3⟩ := hin
  obtain ⟨s1, s2, s3⟩ := hs
  obtain ⟨h1, h2, h3, h4⟩ := hg
  obtain ⟨p1, p2, p3, p4, p5⟩ := p
  obtain ⟨e1, e2, e3⟩ := each_bd h1 h2 p1 p2
  have hk : (encPre e low own all).k = e.k := rfl
  have hn : (encPre e low own all).n = e.n + e.s / all * low := rfl
  have hss : (encPre e low own all).s = e.s / all * own := rfl
  rw [hk] at i1 i2 i3
  rw [hn] at i2 i3
  rw [hss] at i3
  have hv := hd (e.k + 4) (by omega)
  rw [show f.k + 4 - (e.k + 4) = f.k - e.k by omega] at hv
  have pp := P256_pos (f.k - e.k)
  generalize P256 (f.k - e.k) = P at i2 i3 hv pp
  have lo : e.n + e.s / all * low ≤ valB b (e.k + 4) := by rw [hv, Int.le_ediv_iff_mul_le (by omega)]; exact i2
  have hi' : valB b (e.k + 4) < e.n + e.s / all * low + e.s / all * own := by
    rw [hv, Int.ediv_lt_iff_lt_mul (by omega)]; omega
  have hc0 : e.s / all * low ≤ d.c := by omega
  have hc1 : d.c < e.s / all * low + e.s / all * own := by omega
  have q0 : low ≤ d.c / (e.s / all) := by rw [Int.le_ediv_iff_mul_le (by omega), Int.mul_comm]; exact hc0
  have q1 : d.c / (e.s / all) < low + own := by
    rw [Int.ediv_lt_iff_lt_mul (by omega), Int.mul_comm, Int.mul_add]; exact hc1
  have hat : decAt d all = d.c / (e.s / all) := by
    unfold decAt; rw [s1, if_neg (by omega)]
  refine ⟨by omega, by omega, ?_⟩
  refine sync_scale (e := encPre e low own all) ⟨?_, ?_, ?_⟩
  · show d.s / all * own = _; rw [s1]; rfl
  · exact s2
  · show (if d.s / all * own ≤ d.c - d.s / all * low then _ else d.c - d.s / all * low) = valB b (e.k + 4) - (e.n + e.s / all * low)
    rw [s1, if_neg (by omega), s3]; omega
end Go.Proofs.Ytgnmnmjicjcffaa

/- Plain facts of digits to the base 256: a list of them, what is added to it, how it is carried over, its bytes. Nothing here speaks of the program. -/
namespace Go.Proofs.Ytgnmnmjicjcffaa
open Go
set_option linter.unusedVariables false

/-- The number that a list of digits makes. -/
def valL (D : List Int) : Int := valB (fun j => D.getD j 0) D.length
theorem valB_bump {b c : Nat → Int} {j : Nat} {x : Int} (h : ∀ i, i ≠ j → c i = b i) (hj : c j = b j + x) : ∀ i, (i ≤ j → valB c i = valB b i) ∧ (j < i → valB c i = valB b i + x * P256 (i - 1 - j)) := by
  intro i
  induction i with
  | zero => exact ⟨fun _ => rfl, fun h => by omega⟩
  | succ i ih =>
    constructor
    · intro hi
      show valB c i * 256 + c i = valB b i * 256 + b i
      rw [ih.1 (by omega), h i (by omega)]
    · intro hi
      show valB c i * 256 + c i = valB b i * 256 + b i + _
      by_cases e : i = j
      · subst e
        rw [ih.1 (Nat.le_refl _), hj, show i + 1 - 1 - i = 0 by omega]
        show _ = _ + x * 1
        omega
      · rw [ih.2 (by omega), h i e, show i + 1 - 1 - j = (i - 1 - j) + 1 by omega, P256_succ, Int.add_mul, ← Int.mul_assoc]
        omega
theorem valL_set (D : List Int) {j : Nat} (hj : j < D.length) (x : Int) : valL (D.set j x) = valL D + (x - D.getD j 0) * P256 (D.length - 1 - j) := by
  unfold valL
  rw [List.length_set]
  have := (valB_bump (b := fun i => D.getD i 0) (c := fun i => (D.set j x).getD i 0) (j := j) (x := x - D.getD j 0)
    (fun i hi => by rw [getD_set' D j i x hj, if_neg hi]) (by rw [getD_set' D j j x hj, if_pos rfl]; omega) D.length).2 hj
  exact this
theorem valL_snoc (D : List Int) (x : Int) : valL (D ++ [x]) = valL D * 256 + x := by
  unfold valL
  rw [List.length_append]
  show valB _ D.length * 256 + _ = _
  have e : valB (fun j => (D ++ [x]).getD j 0) D.length = valB (fun j => D.getD j 0) D.length := by
    refine valB_same _ fun j hj => ?_
    simp [List.getD, List.getElem?_append, hj]
  rw [e]
  simp [List.getD]
/-- Digits indeed. -/
def IsDig (D : List Int) : Prop := ∀ j, j < D.length → 0 ≤ D.getD j 0 ∧ D.getD j 0 ≤ 255
theorem valL_take {D : List Int} (h : IsDig D) : ∀ i, i ≤ D.length → valB (fun j => D.getD j 0) (D.length - i) = valL D / P256 i := by
  intro i
  induction i with
  | zero => intro _; show _ = valL D / 1; rw [Int.ediv_one]; rfl
  | succ i ih =>
    intro hi
    have ih' := ih (by omega)
    have hd := h (D.length - (i + 1)) (by omega)
    have e : D.length - i = (D.length - (i + 1)) + 1 := by omega
    rw [e] at ih'
    have e2 : valB (fun j => D.getD j 0) (D.length - (i + 1) + 1) = valB (fun j => D.getD j 0) (D.length - (i + 1)) * 256 + D.getD (D.length - (i + 1)) 0 := rfl
    rw [e2] at ih'
    rw [P256_succ, ← Int.ediv_ediv_of_nonneg (by have := P256_pos i; omega), ← ih']
    omega
theorem dig_at {D : List Int} (h : IsDig D) {j : Nat} (hj : j < D.length) : D.getD j 0 = digB (valL D) D.length j := by
  have a := valL_take h (D.length - 1 - j) (by omega)
  have e : D.length - (D.length - 1 - j) = j + 1 := by omega
  rw [e] at a
  unfold digB
  rw [← a]
  have hd := h j hj
  have e2 : valB (fun i => D.getD i 0) (j + 1) = valB (fun i => D.getD i 0) j * 256 + D.getD j 0 := rfl
  rw [e2]
  omega
/-- The len digits of a number. -/
def digL (n : Int) (len : Nat) : List Int := (List.range len).map (digB n len)
theorem digL_len (n : Int) (len : Nat) : (digL n len).length = len := by simp [digL]
theorem digL_getD (n : Int) {len j : Nat} (h : j < len) : (digL n len).getD j 0 = digB n len j := by simp [digL, List.getD, h]
theorem digB_bd (n : Int) (len j : Nat) : 0 ≤ digB n len j ∧ digB n len j ≤ 255 := by unfold digB; omega
theorem digL_dig (n : Int) (len : Nat) : IsDig (digL n len) := by
  intro j hj
  rw [digL_len] at hj
  rw [digL_getD n hj]; exact digB_bd n len j
theorem dig_unique {D : List Int} (h : IsDig D) : D = digL (valL D) D.length := by
  apply List.ext_getElem?
  intro i
  by_cases hi : i < D.length
  · have := dig_at h hi
    rw [← digL_getD (valL D) hi] at this
    have h2 : i < (digL (valL D) D.length).length := by rw [digL_len]; exact hi
    rw [List.getElem?_eq_getElem hi, List.getElem?_eq_getElem h2]
    simpa [List.getD, List.getElem?_eq_getElem hi, List.getElem?_eq_getElem h2] using this
  · rw [List.getElem?_eq_none (by omega), List.getElem?_eq_none (by rw [digL_len]; omega)]
theorem digL_val {n : Int} {len : Nat} (h0 : 0 ≤ n) (h1 : n < P256 len) : valL (digL n len) = n := by
  have := valB_dig (b := fun j => (digL n len).getD j 0) h0 h1 (fun j hj => digL_getD n hj) len (Nat.le_refl _)
  rw [Nat.sub_self] at this
  unfold valL
  rw [digL_len, this]
  exact Int.ediv_one n
/-- A nought more behind. -/
theorem digL_more {n : Int} {len : Nat} (h0 : 0 ≤ n) (h1 : n < P256 len) : digL n len ++ [0] = digL (n * 256) (len + 1) := by
  have hd : IsDig (digL n len ++ [0]) := by
    intro j hj
    rw [List.length_append, digL_len] at hj
    by_cases e : j < len
    · have : (digL n len ++ [0]).getD j 0 = digB n len j := by
        rw [← digL_getD n e]; simp [List.getD, List.getElem?_append, digL_len, e]
      rw [this]; exact digB_bd n len j
    · have : (digL n len ++ [0]).getD j 0 = 0 := by
        simp only [List.getD, List.getElem?_append, digL_len, if_neg e]
        cases hh : j - len <;> simp
      rw [this]; omega
  have := dig_unique hd
  rw [valL_snoc, digL_val h0 h1, List.length_append, digL_len, Int.add_zero] at this
  exact this
theorem valL_lt {D : List Int} (h : IsDig D) : 0 ≤ valL D ∧ valL D < P256 D.length := by
  have a := valL_take h D.length (Nat.le_refl _)
  rw [Nat.sub_self] at a
  have z : valB (fun j => D.getD j 0) 0 = 0 := rfl
  rw [z] at a
  have p := P256_pos D.length
  have n0 : 0 ≤ valL D := by
    unfold valL
    have : ∀ i, i ≤ D.length → 0 ≤ valB (fun j => D.getD j 0) i := by
      intro i
      induction i with
      | zero => intro _; exact Int.le_refl _
      | succ i ih =>
        intro hi
        have := ih (by omega)
        have := (h i (by omega)).1
        show 0 ≤ valB _ i * 256 + D.getD i 0
        omega
    exact this _ (Nat.le_refl _)
  refine ⟨n0, ?_⟩
  rcases Int.lt_or_le (valL D) (P256 D.length) with h1 | h1
  · exact h1
  · have : 1 ≤ valL D / P256 D.length := by rw [Int.le_ediv_iff_mul_le (by omega)]; omega
    omega

/-! ### What is added -/
/-- The lowest j digits of add, laid onto the last four. -/
def addL (D : List Int) (K : Nat) (add : Int) : Nat → List Int
  | 0 => D
  | j + 1 => (addL D K add j).set (K + 3 - j) ((addL D K add j).getD (K + 3 - j) 0 + add / P256 j % 256)
theorem addL_len (D : List Int) (K : Nat) (add : Int) (j : Nat) : (addL D K add j).length = D.length := by
  induction j with
  | zero => rfl
  | succ j ih => unfold addL; rw [List.length_set]; exact ih
theorem addL_getD {D : List Int} {K : Nat} (add : Int) (hl : D.length = K + 4) : ∀ j, j ≤ 4 → ∀ i, (i + j ≤ K + 3 → (addL D K add j).getD i 0 = D.getD i 0) ∧ (K + 3 < i + j → i < K + 4 → (addL D K add j).getD i 0 = D.getD i 0 + add / P256 (K + 3 - i) % 256) := by
  intro j
  induction j with
  | zero => intro _ i; exact ⟨fun _ => rfl, fun h h' => by omega⟩
  | succ j ih =>
    intro hj i
    have ihi := ih (by omega) i
    have ihj := ih (by omega) (K + 3 - j)
    unfold addL
    rw [getD_set' _ _ _ _ (by rw [addL_len]; omega)]
    constructor
    · intro hi; rw [if_neg (by omega)]; exact ihi.1 (by omega)
    · intro hi hi'
      by_cases e : i = K + 3 - j
      · rw [if_pos e, e, ihj.1 (by omega), show K + 3 - (K + 3 - j) = j by omega]
      · rw [if_neg e]; exact ihi.2 (by omega) hi'
theorem addL_val {D : List Int} {K : Nat} {add : Int} (hl : D.length = K + 4) (h0 : 0 ≤ add) (h1 : add ≤ 4294967295) : valL (addL D K add 4) = valL D + add := by
  have s : ∀ j, j ≤ 3 → valL (addL D K add (j + 1)) = valL (addL D K add j) + add / P256 j % 256 * P256 j := by
    intro j hj
    conv => lhs; unfold addL
    rw [valL_set _ (by rw [addL_len]; omega), addL_len, hl, show K + 4 - 1 - (K + 3 - j) = j by omega]
    congr 2; omega
  rw [s 3 (by omega), s 2 (by omega), s 1 (by omega), s 0 (by omega)]
  show valL D + _ + _ + _ + _ = _
  have p0 : P256 0 = 1 := by decide
  have p1 : P256 1 = 256 := by decide
  have p2 : P256 2 = 65536 := by decide
  have p3 : P256 3 = 16777216 := by decide
  rw [p0, p1, p2, p3]
  omega

/-! ### Carrying over -/
/-- On the way: behind i all are digits; ahead of i, below K, too; the rest may be beyond by one carry. -/
def Carry (D : List Int) (K i : Nat) : Prop :=
  D.length = K + 4 ∧ i < K + 4 ∧ (∀ j, i < j → j < K + 4 → 0 ≤ D.getD j 0 ∧ D.getD j 0 ≤ 255) ∧ (∀ j, j < i → 0 ≤ D.getD j 0 ∧ D.getD j 0 ≤ 510 ∧ (j < K → D.getD j 0 ≤ 255)) ∧ 0 ≤ D.getD i 0 ∧ D.getD i 0 ≤ 511 ∧ (i < K → D.getD i 0 ≤ 256)
theorem carry_start {D : List Int} {K : Nat} {add : Int} (hl : D.length = K + 4) (hd : IsDig D) : Carry (addL D K add 4) K (K + 3) := by
  have key := addL_getD (D := D) (K := K) add hl 4 (Nat.le_refl _)
  refine ⟨by rw [addL_len]; exact hl, by omega, fun j h1 h2 => by omega, fun j hj => ?_, ?_, ?_, fun h => by omega⟩
  · have dj := hd j (by omega)
    by_cases h : j < K
    · rw [(key j).1 (by omega)]; omega
    · rw [(key j).2 (by omega) (by omega)]
      have := Int.emod_nonneg (add / P256 (K + 3 - j)) (b := 256) (by decide)
      have := Int.emod_lt_of_pos (add / P256 (K + 3 - j)) (b := 256) (by decide)
      omega
  · have dj := hd (K + 3) (by omega)
    rw [(key (K + 3)).2 (by omega) (by omega)]
    have := Int.emod_nonneg (add / P256 (K + 3 - (K + 3))) (b := 256) (by decide)
    omega
  · have dj := hd (K + 3) (by omega)
    rw [(key (K + 3)).2 (by omega) (by omega)]
    have := Int.emod_lt_of_pos (add / P256 (K + 3 - (K + 3))) (b := 256) (by decide)
    omega
/-- One carry. -/
def carry1 (D : List Int) (i : Nat) : List Int := (D.set i (D.getD i 0 - 256)).set (i - 1) ((D.set i (D.getD i 0 - 256)).getD (i - 1) 0 + 1)
theorem carry1_val {D : List Int} {i : Nat} (h0 : 0 < i) (hi : i < D.length) : valL (carry1 D i) = valL D := by
  unfold carry1
  rw [valL_set _ (by rw [List.length_set]; omega), List.length_set, valL_set _ hi, show D.length - 1 - (i - 1) = (D.length - 1 - i) + 1 by omega, P256_succ]
  have e1 : D.getD i 0 - 256 - D.getD i 0 = -256 := by omega
  have e2 : (D.set i (D.getD i 0 - 256)).getD (i - 1) 0 + 1 - (D.set i (D.getD i 0 - 256)).getD (i - 1) 0 = 1 := by omega
  rw [e1, e2]
  omega
theorem carry1_getD {D : List Int} {i : Nat} (h0 : 0 < i) (hi : i < D.length) (j : Nat) : (carry1 D i).getD j 0 = if j = i then D.getD i 0 - 256 else if j = i - 1 then D.getD (i - 1) 0 + 1 else D.getD j 0 := by
  unfold carry1
  rw [getD_set' _ _ _ _ (by rw [List.length_set]; omega), getD_set' _ _ _ _ hi, getD_set' _ _ _ _ hi]
  by_cases e : j = i
  · rw [if_neg (by omega), if_pos e, if_pos e]
  · by_cases e2 : j = i - 1
    · rw [if_pos e2, if_neg (show ¬ i - 1 = i by omega), if_neg e, if_pos e2]
    · rw [if_neg e2, if_neg e, if_neg e, if_neg e2]
theorem carry_yes {D : List Int} {K i : Nat} (h : Carry D K i) (h0 : 0 < i) (hb : 255 < D.getD i 0) : Carry (carry1 D i) K (i - 1) := by
  obtain ⟨a, b, c, d, e, f, g⟩ := h
  have key := carry1_getD (D := D) h0 (by omega)
  have dm := d (i - 1) (by omega)
  refine ⟨by unfold carry1; rw [List.length_set, List.length_set]; exact a, by omega, fun j h1 h2 => ?_, fun j hj => ?_, ?_, ?_, fun hk => ?_⟩
  · rw [key j]
    by_cases e1 : j = i
    · rw [if_pos e1]; omega
    · rw [if_neg e1, if_neg (by omega)]; exact c j (by omega) h2
  · rw [key j, if_neg (by omega), if_neg (by omega)]; exact d j (by omega)
  · rw [key (i - 1), if_neg (by omega), if_pos rfl]; omega
  · rw [key (i - 1), if_neg (by omega), if_pos rfl]; omega
  · rw [key (i - 1), if_neg (by omega), if_pos rfl]; have := dm.2.2 hk; omega
theorem carry_no {D : List Int} {K i : Nat} (h : Carry D K i) (h0 : 0 < i) (hb : D.getD i 0 ≤ 255) : Carry D K (i - 1) := by
  obtain ⟨a, b, c, d, e, f, g⟩ := h
  have dm := d (i - 1) (by omega)
  refine ⟨a, by omega, fun j h1 h2 => ?_, fun j hj => d j (by omega), dm.1, by omega, fun hk => by have := dm.2.2 hk; omega⟩
  by_cases e1 : j = i
  · subst e1; exact ⟨e, hb⟩
  · exact c j (by omega) h2
/-- Where the carrying stops all are digits. -/
theorem carry_stop {D : List Int} {K i : Nat} (h : Carry D K i) (hk : i < K) (hb : D.getD i 0 ≤ 255) : IsDig D := by
  obtain ⟨a, b, c, d, e, f, g⟩ := h
  intro j hj
  rcases Nat.lt_trichotomy j i with h1 | h1 | h1
  · have := d j h1; exact ⟨this.1, this.2.2 (by omega)⟩
  · subst h1; exact ⟨e, hb⟩
  · exact c j h1 (by omega)
theorem carry_head {D : List Int} {K : Nat} (h : Carry D K 0) (hv : valL D < P256 (K + 4)) : IsDig D := by
  obtain ⟨a, b, c, d, e, f, g⟩ := h
  have hb : D.getD 0 0 ≤ 255 := by
    rcases Int.lt_or_le 255 (D.getD 0 0) with h1 | h1
    · exfalso
      have s := valL_set D (j := 0) (by omega) 0
      have hd : IsDig (D.set 0 0) := by
        intro j hj
        rw [List.length_set] at hj
        rw [getD_set' D 0 j 0 (by omega)]
        by_cases e1 : j = 0
        · rw [if_pos e1]; omega
        · rw [if_neg e1]; exact c j (by omega) (by omega)
      have n0 := (valL_lt hd).1
      rw [s, a, show K + 4 - 1 - 0 = K + 3 by omega] at n0
      rw [P256_succ] at hv
      have p := P256_pos (K + 3)
      have : 256 * P256 (K + 3) ≤ D.getD 0 0 * P256 (K + 3) := Int.mul_le_mul_of_nonneg_right (by omega) (by omega)
      have e3 : (0 - D.getD 0 0) * P256 (K + 3) = -(D.getD 0 0 * P256 (K + 3)) := by rw [Int.zero_sub, Int.neg_mul]
      rw [e3] at n0
      omega
    · exact h1
  intro j hj
  by_cases e1 : j = 0
  · subst e1; exact ⟨e, hb⟩
  · exact c j (by omega) (by omega)
end Go.Proofs.Ytgnmnmjicjcffaa

/- Words of mine for memory: what a call leaves as it was, but for some blocks. -/
namespace Go.Proofs.Ytgnmnmjicjcffaa
open Go.RowKit
set_option linter.unusedVariables false

/-- All old blocks but those of F are as they were. -/
structure Keeps (F : Nat → Prop) (w w' : World) : Prop where
  os : w'.os = w.os
  tape : w'.tape = w.tape
  output : w'.output = w.output
  size : w.heap.size ≤ w'.heap.size
  block : ∀ k, k < w.heap.size → ¬ F k → w'.heap[k]? = w.heap[k]?
section
variable {F G : Nat → Prop} {w w' w2 : World}
theorem Keeps.refl (F : Nat → Prop) (w : World) : Keeps F w w := ⟨rfl, rfl, rfl, Nat.le_refl _, fun _ _ _ => rfl⟩
theorem Keeps.trans (h : Keeps F w w') (k : Keeps F w' w2) : Keeps F w w2 :=
  ⟨k.os.trans h.os, k.tape.trans h.tape, k.output.trans h.output, Nat.le_trans h.size k.size, fun i hi hn => (k.block i (Nat.lt_of_lt_of_le hi h.size) hn).trans (h.block i hi hn)⟩
theorem Keeps.mono (h : Keeps F w w') (hi : ∀ k, F k → G k) : Keeps G w w' := ⟨h.os, h.tape, h.output, h.size, fun k hk hn => h.block k hk fun c => hn (hi k c)⟩
theorem Keeps.of_below (h : Below w.heap.size w w') : Keeps F w w' := ⟨h.os, h.tape, h.output, h.size, fun k hk _ => h.block k hk⟩
theorem Keeps.below {B : Nat} (h : Keeps F w w') (hB : B ≤ w.heap.size) (hi : ∀ k, F k → B ≤ k) : Below B w w' :=
  ⟨h.os, h.tape, h.output, h.size, fun k hk => h.block k (by omega) fun c => by have := hi k c; omega⟩
theorem Keeps.of_grown {row : Option Nat} (h : w.grownBy w' row) (hi : ∀ k, row = some k → F k) : Keeps F w w' :=
  ⟨h.os, h.tape, h.output, h.size, fun k hk hn => h.block k hk fun c => hn (hi k c.symm)⟩
theorem Keeps.grown {r : Nat} (h : Keeps F w w') (hg : w'.grownBy w2 (some r)) (hr : F r ∨ w.heap.size ≤ r) : Keeps F w w2 :=
  ⟨hg.os.trans h.os, hg.tape.trans h.tape, hg.output.trans h.output, Nat.le_trans h.size hg.size, fun k hk hn => (hg.block k (Nat.lt_of_lt_of_le hk h.size) (by intro c; injection c with c; subst c; rcases hr with hr | hr; exact hn hr; omega)).trans (h.block k hk hn)⟩
/-- What a second call writes is of F, or new since the first began. -/
theorem Keeps.then_ (h : Keeps F w w') (k : Keeps G w' w2) (hg : ∀ j, G j → F j ∨ w.heap.size ≤ j) : Keeps F w w2 :=
  ⟨k.os.trans h.os, k.tape.trans h.tape, k.output.trans h.output, Nat.le_trans h.size k.size, fun i hi hn => (k.block i (Nat.lt_of_lt_of_le hi h.size) (fun c => by rcases hg i c with d | d; exact hn d; omega)).trans (h.block i hi hn)⟩
theorem Keeps.alloc (h : Keeps F w w') (o : Obj) : Keeps F w (w'.alloc o) := h.trans (.of_below (Below.alloc_new w' o))
theorem Keeps.setCell (h : Keeps F w w') {p : Addr} (hp : F p.block ∨ w.heap.size ≤ p.block) (u : Value) : Keeps F w (w'.setCell p u) :=
  ⟨h.os, h.tape, h.output, Nat.le_trans h.size (by simp [World.setCell]), fun k hk hn => (Below.heap_setCell w' p u k (by rintro rfl; rcases hp with hp | hp; exact hn hp; omega)).trans (h.block k hk hn)⟩
theorem Keeps.drewN (h : Keeps F w w') (n : Nat) : Keeps F w (w'.drewN n) := ⟨h.os, h.tape, h.output, h.size, h.block⟩
end

/-- Block g is just these cells, none frozen: a struct behind a pointer. -/
def Cel (w : World) (g : Nat) (t : TypeId) (cs : Array Value) : Prop := w.heap[g]? = some (.cells cs t (0, 0))
section
variable {w w' : World} {g : Nat} {t : TypeId} {cs : Array Value}
theorem Cel.lt (h : Cel w g t cs) : g < w.heap.size := by
  rcases Nat.lt_or_ge g w.heap.size with hlt | hge
  · exact hlt
  · unfold Cel at h; rw [Array.getElem?_eq_none hge] at h; cases h
theorem Cel.cell (h : Cel w g t cs) (i : Nat) : w.cell? ⟨g, i, none⟩ = cs[i]? := cell_of_row w g i cs t (0, 0) h
theorem Cel.frozen (h : Cel w g t cs) (i : Nat) : w.frozen? ⟨g, i, none⟩ = false := by
  unfold Cel at h
  simp [World.frozen?, h]
theorem Cel.new (w : World) (t : TypeId) (cs : Array Value) : Cel (w.alloc (.cells cs t)) w.heap.size t cs := heap_alloc_new w _
theorem Cel.keep (h : Cel w g t cs) (hk : w'.heap[g]? = w.heap[g]?) : Cel w' g t cs := hk.trans h
theorem Cel.below (h : Cel w g t cs) (hb : Below w.heap.size w w') : Cel w' g t cs := h.keep (hb.block g h.lt)
theorem Cel.keeps {F : Nat → Prop} (h : Cel w g t cs) (hb : Keeps F w w') (hn : ¬ F g) : Cel w' g t cs := h.keep (hb.block g h.lt hn)
theorem Cel.drewN (h : Cel w g t cs) (n : Nat) : Cel (w.drewN n) g t cs := h
theorem Cel.alloc (h : Cel w g t cs) (o : Obj) : Cel (w.alloc o) g t cs := h.below (Below.alloc_new w o)
theorem Cel.far (h : Cel w g t cs) {p : Addr} (hp : g ≠ p.block) (u : Value) : Cel (w.setCell p u) g t cs := (Below.heap_setCell w p u g hp).trans h
theorem Cel.set_ (h : Cel w g t cs) (i : Nat) (u : Value) : Cel (w.setCell ⟨g, i, none⟩ u) g t (cs.setIfInBounds i u) := by
  unfold Cel at h ⊢
  simp [World.setCell, Array.getElem?_modify, h]
end
/-- A row of the call's own, and a block of another type, are two. -/
theorem own_ne_cel {w : World} {base n g size : Nat} {e t : TypeId} {v : Value} {xs : List Value} {cs : Array Value} (h : w.ownsRow base e size v n xs) (hs : Cel w g t cs) (hne : e ≠ t) (k : Nat) (hk : v.ownBlock = some k) : k ≠ g := by
  rintro rfl
  rcases h.2 with ⟨rfl, _⟩ | ⟨g', cap, cur, rfl, _, hh, _⟩
  · simp [Value.ownBlock] at hk
  · simp [Value.ownBlock] at hk
    subst hk
    unfold Cel at hs
    rw [hs] at hh
    injection hh with hh
    injection hh with _ ht
    exact hne ht.symm
/-- A row that is owned stays so where another block is written. -/
theorem own_far {w : World} {base n size : Nat} {e : TypeId} {v : Value} {xs : List Value} (h : w.ownsRow base e size v n xs) {p : Addr} (hp : ∀ k, v.ownBlock = some k → k ≠ p.block) (u : Value) : (w.setCell p u).ownsRow base e size v n xs := by
  refine ⟨h.1, ?_⟩
  rcases h.2 with h0 | ⟨g, cap, cur, h1, h2, h3, h4⟩
  · exact .inl h0
  · exact .inr ⟨g, cap, cur, h1, h2, (Below.heap_setCell w p u g (hp g (by rw [h1]; rfl))).trans h3, h4⟩
theorem own_keeps {w w' : World} {base n size : Nat} {e : TypeId} {v : Value} {xs : List Value} {F : Nat → Prop} (h : w.ownsRow base e size v n xs) (hk : Keeps F w w') (hn : ∀ k, v.ownBlock = some k → ¬ F k) : w'.ownsRow base e size v n xs := by
  refine ⟨h.1, ?_⟩
  rcases h.2 with h0 | ⟨g, cap, cur, h1, h2, h3, h4⟩
  · exact .inl h0
  · have hl := own_lt h g (by rw [h1]; rfl)
    exact .inr ⟨g, cap, cur, h1, h2, (hk.block g hl (hn g (by rw [h1]; rfl))).trans h3, h4⟩
theorem own_drewN {w : World} {base n size : Nat} {e : TypeId} {v : Value} {xs : List Value} (h : w.ownsRow base e size v n xs) (i : Nat) : (w.drewN i).ownsRow base e size v n xs := h
end Go.Proofs.Ytgnmnmjicjcffaa

/- What the document's encoder of layer 6 gives. -/
namespace Go.Proofs.Ytgnmnmjicjcffaa
open Go.RowKit
set_option linter.unusedVariables false

theorem info_int06 : (Try.prog.info? 3).map (fun i => (i.zero, i.size, i.bytes)) = some (some (.int .i64 0), 1, 8) := by kernel_rfl

/-- Block g is the document's encoder with the digits D (in block r), the size s, the scale k. -/
def EncMem (w : World) (base g r c : Nat) (D : List Int) (s : Int) (k : Nat) : Prop :=
  Cel w g 58 #[.slice (some ⟨r, 0, none⟩) D.length c, .int .i64 s, .int .i64 k] ∧ w.ownsRow base 3 1 (.slice (some ⟨r, 0, none⟩) D.length c) D.length (D.map (Value.int .i64)) ∧ base ≤ g
section
variable {w w' : World} {base g r c : Nat} {D : List Int} {s : Int} {k : Nat}
theorem EncMem.lt (h : EncMem w base g r c D s k) : g < w.heap.size ∧ r < w.heap.size ∧ base ≤ g ∧ base ≤ r ∧ r ≠ g :=
  ⟨h.1.lt, own_lt h.2.1 r rfl, h.2.2, own_base h.2.1 r rfl, own_ne_cel h.2.1 h.1 (by decide) r rfl⟩
theorem EncMem.cells (h : EncMem w base g r c D s k) : w.cell? ⟨g, 0, none⟩ = some (.slice (some ⟨r, 0, none⟩) D.length c) ∧ w.cell? ⟨g, 1, none⟩ = some (.int .i64 s) ∧ w.cell? ⟨g, 2, none⟩ = some (.int .i64 k) := ⟨h.1.cell 0, h.1.cell 1, h.1.cell 2⟩
theorem EncMem.fz (h : EncMem w base g r c D s k) : w.frozen? ⟨g, 0, none⟩ = false ∧ w.frozen? ⟨g, 1, none⟩ = false ∧ w.frozen? ⟨g, 2, none⟩ = false := ⟨h.1.frozen 0, h.1.frozen 1, h.1.frozen 2⟩
theorem EncMem.at_ (h : EncMem w base g r c D s k) {j : Nat} (hj : j < D.length) : w.cell? ⟨r, j, none⟩ = some (.int .i64 (D.getD j 0)) := by
  rw [h.2.1.cellAt j (by omega), List.getElem?_map, List.getElem?_eq_getElem hj]
  simp [List.getD, hj]
theorem EncMem.frozen (h : EncMem w base g r c D s k) (j : Nat) : w.frozen? ⟨r, j, none⟩ = false := h.2.1.frozenAt j
theorem EncMem.drewN (h : EncMem w base g r c D s k) (n : Nat) : EncMem (w.drewN n) base g r c D s k := h
theorem EncMem.keeps {F : Nat → Prop} (h : EncMem w base g r c D s k) (hk : Keeps F w w') (h1 : ¬ F g) (h2 : ¬ F r) : EncMem w' base g r c D s k :=
  ⟨h.1.keeps hk h1, own_keeps h.2.1 hk (by intro j hj; simp [Value.ownBlock] at hj; subst hj; exact h2), h.2.2⟩
theorem EncMem.below (h : EncMem w base g r c D s k) (hk : Below w.heap.size w w') : EncMem w' base g r c D s k := h.keeps (F := fun _ => False) (.of_below hk) (fun c => c) (fun c => c)
theorem EncMem.setD (h : EncMem w base g r c D s k) (j : Nat) (x : Int) : EncMem (w.setCell ⟨r, j, none⟩ (.int .i64 x)) base g r c (D.set j x) s k := by
  have hl := h.lt
  refine ⟨?_, ?_, h.2.2⟩
  · rw [List.length_set]; exact h.1.far (p := ⟨r, j, none⟩) (fun e => hl.2.2.2.2 e.symm) _
  · rw [List.length_set, List.map_set]; exact (h.2.1.stored j (.int .i64 x)).1
theorem EncMem.setS (h : EncMem w base g r c D s k) (x : Int) : EncMem (w.setCell ⟨g, 1, none⟩ (.int .i64 x)) base g r c D x k := by
  have hl := h.lt
  exact ⟨by simpa using h.1.set_ 1 (.int .i64 x), own_far h.2.1 (by intro j hj; simp [Value.ownBlock] at hj; subst hj; exact hl.2.2.2.2) _, h.2.2⟩
theorem EncMem.setK (h : EncMem w base g r c D s k) (x : Nat) : EncMem (w.setCell ⟨g, 2, none⟩ (.int .i64 x)) base g r c D s x := by
  have hl := h.lt
  exact ⟨by simpa using h.1.set_ 2 (.int .i64 x), own_far h.2.1 (by intro j hj; simp [Value.ownBlock] at hj; subst hj; exact hl.2.2.2.2) _, h.2.2⟩
theorem EncMem.ofD {D' : List Int} (h : EncMem w base g r c D s k) (e : D = D') : EncMem w base g r c D' s k := e ▸ h
end
/-- How far the size is from where the scaling ends. -/
def leftOf (w : World) (g : Nat) : Nat := match w.cell? ⟨g, 1, none⟩ with | some (.int _ s) => (16777216 - s).toNat | _ => 0
theorem leftOf_eq {w : World} {g : Nat} {k : IntKind} {s : Int} (h : w.cell? ⟨g, 1, none⟩ = some (.int k s)) : leftOf w g = (16777216 - s).toNat := by unfold leftOf; rw [h]
/-- What an encoder's calls write. -/
def EncF (g r : Nat) (B : Nat) (k : Nat) : Prop := k = g ∨ k = r ∨ B ≤ k

/-- What putting leaves. -/
def EncPost (base g r : Nat) (f : EncS) (w : World) (x : Ending) (w' : World) : Prop :=
  x = .returned (.tuple #[]) ∧ ∃ r' c', EncMem w' base g r' c' (digL f.n (f.k + 4)) f.s f.k ∧ Keeps (fun j => j = g ∨ j = r) w w' ∧ (r' = r ∨ w.heap.size ≤ r')

set_option maxHeartbeats 4000000 in
set_option maxRecDepth 100000 in
theorem refEncPut_any (base g r c : Nat) (e : EncS) (low own all : Int) (w : World) (hE : EncMem w base g r c (digL e.n (e.k + 4)) e.s e.k) (hG : GoodE e) (hP : OkP low own all) (hk : e.k ≤ 1000000) :
    Calls Try.prog 47 #[.pointer (some ⟨g, 0, none⟩), .int .i64 low, .int .i64 own, .int .i64 all] w (EncPost base g r (encPut e low own all) w) := by
  obtain ⟨s0, s1, n0, n1⟩ := hG
  obtain ⟨p1, p2, p3, p4, p5⟩ := hP
  obtain ⟨E0, E1, E2⟩ := each_bd s0 s1 p1 p2
  have HP : RowKit.Hid (OkP low own all) := ⟨p1, p2, p3, p4, p5⟩
  have HG : RowKit.Hid (GoodE e) := ⟨s0, s1, n0, n1⟩
  obtain ⟨c0, c1, c2⟩ := hE.cells
  rw [digL_len] at c0
  have HE := Lib.hid hE
  have HL := Lib.hid hE.lt
  clear hE
  have HPre := Lib.hid (encPre_bd HG.out HP.out)
  have hq : e.s.tdiv all = e.s / all := Int.tdiv_eq_ediv_of_nonneg (by omega)
  have a2 : 0 ≤ e.s / all * low := Int.mul_nonneg (by omega) p4
  have a3 : e.s / all * (low + own) ≤ e.s / all * all := Int.mul_le_mul_of_nonneg_left p5 (by omega)
  have a4 : e.s / all * 1 ≤ e.s / all * own := Int.mul_le_mul_of_nonneg_left p3 (by omega)
  rw [Int.mul_add] at a3
  have hall : ¬ all = 0 := by omega
  have hput : encPut e low own all = scaleE (encPre e low own all) := rfl
  rw [hput]
  clear hput
  have HN : RowKit.Hid ((encPre e low own all).n = e.n + e.s / all * low ∧ (encPre e low own all).s = e.s / all * own ∧ (encPre e low own all).k = e.k) := ⟨rfl, rfl, rfl⟩
  generalize encPre e low own all = pre at HN HPre ⊢
  obtain ⟨E, hE⟩ : ∃ E, e.s / all = E := ⟨_, rfl⟩
  rw [hE] at hq a2 a3 a4 E0 E1 E2 HN
  obtain ⟨A, hA⟩ : ∃ A, E * low = A := ⟨_, rfl⟩
  obtain ⟨O, hO⟩ : ∃ O, E * own = O := ⟨_, rfl⟩
  rw [hA] at a2 a3 HN
  rw [hO] at a3 a4 HN
  have hDl := Lib.hid (digL_len e.n (e.k + 4))
  have hDd := Lib.hid (digL_dig e.n (e.k + 4))
  have hnl : RowKit.Hid (e.n < P256 (e.k + 4)) := by
    show _ < _
    rw [show e.k + 4 = e.k + 1 + 1 + 1 + 1 by omega, P256_succ, P256_succ, P256_succ, P256_succ]
    omega
  have hDv := Lib.hid (digL_val n0 hnl.out)
  generalize hD : digL e.n (e.k + 4) = D at HE hDl hDd hDv
  clear hD
  go_enter Try.func47, Try.ntmps47
  go_wp2
  go_loopw [9, 10] (fun a i wr => ∃ j : Nat, j ≤ 4 ∧ i = .int .i64 (3 - (j : Int)) ∧ a = .int .i64 (A / P256 j) ∧ RowKit.Hid (EncMem wr base g r c (addL D e.k A j) e.s e.k ∧ Keeps (fun j => j = g ∨ j = r) w wr)) (fun _ i _ => (intOf i + 1).toNat)
  case atStart => exact ⟨0, by omega, rfl, by rw [show P256 0 = 1 by decide, Int.ediv_one], HE.out, Keeps.refl _ _⟩
  case round =>
    obtain ⟨j, hj, rfl, rfl, H⟩ := hrel
    clear c0 c1 c2
    obtain ⟨c0, c1, c2⟩ := H.out.1.cells
    rw [addL_len, hDl.out] at c0
    by_cases hlt : j < 4
    · obtain ⟨q, hq1⟩ : ∃ q : Nat, q + j = e.k + 3 := ⟨e.k + 3 - j, by omega⟩
      have hqi : (e.k : Int) + (3 - (j : Int)) = (q : Int) := by omega
      have i1 := H.out.1.at_ (j := q) (by rw [addL_len, hDl.out]; omega)
      have f1 := H.out.1.frozen q
      have hold : (addL D e.k A j).getD q 0 = D.getD q 0 := (addL_getD A hDl.out j (by omega) q).1 (by omega)
      have hb := hDd.out q (by rw [hDl.out]; omega)
      rw [← hold] at hb
      have HS : RowKit.Hid (addL D e.k A (j + 1) = (addL D e.k A j).set q ((addL D e.k A j).getD q 0 + A / P256 j % 256)) := by
        show addL D e.k A (j + 1) = _
        conv => lhs; unfold addL
        rw [show e.k + 3 - j = q by omega]
      obtain ⟨x, hx⟩ : ∃ x, x = (addL D e.k A j).getD q 0 := ⟨_, rfl⟩
      rw [← hx] at i1 hb HS
      have p0 := P256_pos j
      have y0 : 0 ≤ A / P256 j := Int.ediv_nonneg a2 (by omega)
      have y1 : A / P256 j ≤ A := Int.ediv_le_self _ a2
      have HV : RowKit.Hid (A / P256 j / 256 = A / P256 (j + 1)) := by
        show _ = _
        rw [P256_succ, Int.ediv_ediv_of_nonneg (by omega)]
      clear hold hx
      generalize A / P256 j = y at y0 y1 HS HV ⊢
      have z0 := Int.emod_nonneg y (b := 256) (by decide)
      have z1 := Int.emod_lt_of_pos y (b := 256) (by decide)
      have HE2 : RowKit.Hid (EncMem (wr.setCell ⟨r, q, none⟩ (.int .i64 (x + y % 256))) base g r c (addL D e.k A (j + 1)) e.s e.k ∧ Keeps (fun j => j = g ∨ j = r) w (wr.setCell ⟨r, q, none⟩ (.int .i64 (x + y % 256)))) := by
        refine ⟨?_, H.out.2.setCell (p := ⟨r, q, none⟩) (.inl (.inr rfl)) _⟩
        rw [HS.out]; exact H.out.1.setD q _
      go_wp2
      have g1 : IntKind.i64.wrap ((e.k : Int) + (3 - (j : Int))) = (q : Int) := by rw [hqi]; exact IntWalk.i64_in _ (by omega)
      have g2 : (q : Int) < (e.k + 4 : Nat) := by omega
      have g3 : y.tmod 256 = y % 256 := Int.tmod_eq_emod_of_nonneg y0
      have g4 : IntKind.i64.wrap (x + y % 256) = x + y % 256 := IntWalk.i64_in _ (by omega)
      have g5 : IntKind.i64.wrap (y % 256) = y % 256 := IntWalk.i64_in _ (by omega)
      go_region
      clear g1 g2 g3 g4 g5
      go_wp2
      go_roundw
      case rel => exact ⟨j + 1, by omega, by go_num, by rw [HV.out], HE2.out.1.drewN 1, HE2.out.2.drewN 1⟩
      case measure => simp [intOf] <;> omega
    · have hj4 : j = 4 := by omega
      have HC : RowKit.Hid (Carry (addL D e.k A 4) e.k (e.k + 3) ∧ valL (addL D e.k A 4) = pre.n ∧ EncMem wr base g r c (addL D e.k A 4) e.s e.k ∧ Keeps (fun j => j = g ∨ j = r) w wr) := by
        have H' := H.out
        rw [hj4] at H'
        refine ⟨carry_start hDl.out hDd.out, ?_, H'.1, H'.2⟩
        rw [addL_val hDl.out a2 (by omega), hDv.out, HN.out.1]
      clear hj4
      have a40 : 0 ≤ A / P256 j := Int.ediv_nonneg a2 (by have := P256_pos j; omega)
      have a41 : A / P256 j ≤ A := Int.ediv_le_self _ a2
      generalize A / P256 j = A4 at a40 a41 ⊢
      go_wp2
      generalize addL D e.k A 4 = D0 at HC
      clear H c0 c1 c2
      go_loopw [11] (fun i wr => ∃ (D2 : List Int) (i2 : Nat), i = .int .i64 i2 ∧ i2 ≤ e.k + 3 ∧ RowKit.Hid (Carry D2 e.k i2 ∧ valL D2 = pre.n ∧ EncMem wr base g r c D2 e.s e.k ∧ Keeps (fun j => j = g ∨ j = r) w wr)) (fun i _ => (intOf i).toNat)
      case atStart => exact ⟨D0, e.k + 3, by go_num, by omega, HC.out⟩
      case round =>
        obtain ⟨D2, i2, rfl, hi2, H⟩ := hrel
        clear HC
        have hlen : D2.length = e.k + 4 := H.out.1.1
        obtain ⟨c0, c1, c2⟩ := H.out.2.2.1.cells
        rw [hlen] at c0
        have HLn := Lib.hid hlen
        have i1 := H.out.2.2.1.at_ (j := i2) (by omega)
        have f1 := H.out.2.2.1.frozen i2
        obtain ⟨x, hx⟩ : ∃ x, x = D2.getD i2 0 := ⟨_, rfl⟩
        have x0 : 0 ≤ x := by rw [hx]; exact H.out.1.2.2.2.2.1
        have x1 : x ≤ 511 := by rw [hx]; exact H.out.1.2.2.2.2.2.1
        rw [← hx] at i1
        have HX := Lib.hid hx
        clear hlen hx
        have hlt2 : (i2 : Int) < (e.k + 4 : Nat) := by omega
        by_cases hstop : i2 = 0 ∨ (i2 < e.k ∧ x ≤ 255)
        · have ZZ : IsDig D2 := by
            rcases hstop with hz | ⟨hk2, hx2⟩
            · refine carry_head (K := e.k) (by have := H.out.1; rw [hz] at this; exact this) ?_
              rw [H.out.2.1]
              have := HPre.out
              have e4 : P256 (e.k + 4) = P256 e.k * 256 * 256 * 256 * 256 := by rw [show e.k + 4 = e.k + 1 + 1 + 1 + 1 by omega, P256_succ, P256_succ, P256_succ, P256_succ]
              rw [e4]; omega
            · exact carry_stop H.out.1 hk2 (by rw [← HX.out]; exact hx2)
          have HV : RowKit.Hid (0 ≤ pre.n ∧ pre.n < P256 (e.k + 4)) := by
            have := valL_lt ZZ
            rw [H.out.2.1, HLn.out] at this
            exact this
          have HD2 : RowKit.Hid (D2 = digL pre.n (e.k + 4)) := by
            have := dig_unique ZZ
            rw [H.out.2.1, HLn.out] at this
            exact this
          clear ZZ
          have f0 := H.out.2.2.1.fz.2.1
          have H3 : RowKit.Hid (EncMem (wr.setCell ⟨g, 1, none⟩ (.int .i64 O)) base g r c (digL pre.n (e.k + 4)) O e.k ∧ Keeps (fun j => j = g ∨ j = r) w (wr.setCell ⟨g, 1, none⟩ (.int .i64 O))) := by
            refine ⟨?_, H.out.2.2.2.setCell (.inl (.inl rfl)) _⟩
            rw [← HD2.out]; exact H.out.2.2.1.setS O
          have st1 : RowKit.Hid (pre.k = e.k ∧ pre.s = O) := ⟨HN.out.2.2, HN.out.2.1⟩
          have O0 : 2048 ≤ O := by omega
          have O1 : O ≤ 4294967295 := by omega
          by_cases hz : i2 = 0
          · have d0 : decide ((0 : Int) < (i2 : Int)) = false := by simp; omega
            have d0' : decide (0 < i2) = false := by simp; omega
            clear hstop hz
            go_wp2
            clear H c0 c1 c2 f0 i1 f1
            generalize wr.setCell ⟨g, 1, none⟩ (.int .i64 O) = w4 at H3 ⊢
            go_loopw [124] (fun _ wr => ∃ (st : EncS) (r2 c2 : Nat), 2048 ≤ st.s ∧ st.s ≤ 4294967295 ∧ st.k ≤ e.k + 2 ∧ (e.k + 1 ≤ st.k → 524288 ≤ st.s) ∧ (e.k + 2 ≤ st.k → 16777216 ≤ st.s) ∧ RowKit.Hid (scaleE st = scaleE pre ∧ 0 ≤ st.n ∧ st.n < P256 (st.k + 4) ∧ EncMem wr base g r2 c2 (digL st.n (st.k + 4)) st.s st.k ∧ Keeps (fun j => j = g ∨ j = r) w wr ∧ (r2 = r ∨ w.heap.size ≤ r2))) (fun _ wr => leftOf wr g)
            case atStart => exact ⟨pre, r, c, by have := st1.out; omega, by have := st1.out; omega, by have := st1.out; omega, by have := st1.out; omega, by have := st1.out; omega, rfl, HV.out.1, by rw [st1.out.1]; exact HV.out.2, by rw [st1.out.1, st1.out.2]; exact H3.out.1, H3.out.2, .inl rfl⟩
            case round =>
              obtain ⟨st, r2, c2, b0, b1, b2, b3, b4, H⟩ := hrel
              clear H3
              obtain ⟨m0, m1, m2⟩ := H.out.2.2.2.1.cells
              obtain ⟨z0, z1, z2⟩ := H.out.2.2.2.1.fz
              rw [digL_len] at m0
              by_cases hlt : st.s < 16777216
              · have S1 := Lib.hid (scaleE_step (e := st) (by omega) hlt)
                have hk1 : st.k ≤ e.k + 1 := by omega
                have T1 := Lib.hid (H.out.2.2.2.1.setS (st.s * 256))
                have K1 := Lib.hid (H.out.2.2.2.2.1.setCell (p := ⟨g, 1, none⟩) (.inl (.inl rfl)) (.int .i64 (st.s * 256)))
                have T2 : RowKit.Hid (EncMem ((wr.setCell ⟨g, 1, none⟩ (.int .i64 (st.s * 256))).setCell ⟨g, 2, none⟩ (.int .i64 ((st.k : Int) + 1))) base g r2 c2 (digL st.n (st.k + 4)) (st.s * 256) (st.k + 1)) := T1.out.setK (st.k + 1)
                have K2 := Lib.hid (K1.out.setCell (p := ⟨g, 2, none⟩) (.inl (.inl rfl)) (.int .i64 ((st.k : Int) + 1)))
                have hsz := K2.out.size
                have hbw := HL.out.2.2.1
                have hgw := HL.out.1
                have hrw := HL.out.2.1
                have e5 : ((wr.setCell ⟨g, 1, none⟩ (.int .i64 (st.s * 256))).setCell ⟨g, 2, none⟩ (.int .i64 ((st.k : Int) + 1))).heap.size = wr.heap.size := by simp [World.setCell]
                have hown0 := Lib.hid (World.ownsRow.alloc T2.out.2.1 (.cells #[.int .i64 0] 3))
                have hsrc := lit_ints ((wr.setCell ⟨g, 1, none⟩ (.int .i64 (st.s * 256))).setCell ⟨g, 2, none⟩ (.int .i64 ((st.k : Int) + 1))) 3 .i64 [0] #[.int .i64 0] (0, 0) rfl (by simp)
                rw [e5] at hsrc
                have HSrc := Lib.hid hsrc
                have TA := Lib.hid (T2.out.1.alloc (.cells #[.int .i64 0] 3))
                have KA := Lib.hid (K2.out.alloc (.cells #[.int .i64 0] 3))
                rw [digL_len] at hown0
                have hh := Lib.hid (H.out.2.2.2.2.2)
                clear hsrc
                go_wp2_with (at_builtin; go_loud (refine append_ints rfl _ _ 23 rfl base 3 .i64 8 Try.underlying23 info_int06 _ (st.k + 4) (digL st.n (st.k + 4)) rfl hown0.out (some ⟨wr.heap.size, 0, none⟩) 1 1 _ [0] rfl HSrc.out (by simp) ?c1 ?c2 ?c3 ?_))
                case c1 => unfold maxLen; omega
                case c2 => omega
                case c3 => simp [World.setCell]; omega
                intro v2 w2 hown hgrow hat
                have hrg := T2.out.lt.2.2.2.2
                have TC2 : Cel w2 g 58 #[.slice (some ⟨r2, 0, none⟩) (digL st.n (st.k + 4)).length c2, .int .i64 (st.s * 256), .int .i64 ((st.k + 1 : Nat) : Int)] := TA.out.keep (hgrow.block g TA.out.lt (by simp [Value.ownBlock]; exact fun c => hrg c.symm))
                have hown' : w2.ownsRow base 3 1 v2 (st.k + 4 + 1) ((digL (st.n * 256) (st.k + 1 + 4)).map (Value.int .i64)) := by
                  rw [show st.k + 1 + 4 = st.k + 4 + 1 by omega, ← digL_more H.out.2.1 H.out.2.2.1]
                  simpa using hown
                obtain ⟨r3, c3, rfl, _, _⟩ := World.ownsRow.form hown' (by omega)
                have n0 := TC2.cell 0
                simp only [List.getElem?_toArray, List.getElem?_cons_zero] at n0
                have nz := TC2.frozen 0
                have HN2 : RowKit.Hid (EncMem (w2.setCell ⟨g, 0, none⟩ (.slice (some ⟨r3, 0, none⟩) (st.k + 4 + 1) c3)) base g r3 c3 (digL (st.n * 256) (st.k + 1 + 4)) (st.s * 256) (st.k + 1) ∧ Keeps (fun j => j = g ∨ j = r) w (w2.setCell ⟨g, 0, none⟩ (.slice (some ⟨r3, 0, none⟩) (st.k + 4 + 1) c3)) ∧ (r3 = r ∨ w.heap.size ≤ r3)) := by
                  refine ⟨⟨?_, ?_, hbw⟩, ?_, ?_⟩
                  · rw [digL_len, show st.k + 1 + 4 = st.k + 4 + 1 by omega]
                    simpa using TC2.set_ 0 (.slice (some ⟨r3, 0, none⟩) (st.k + 4 + 1) c3)
                  · rw [digL_len, show st.k + 1 + 4 = st.k + 4 + 1 by omega]
                    rw [show st.k + 1 + 4 = st.k + 4 + 1 by omega] at hown'
                    exact own_far hown' (fun j hj => own_ne_cel hown' TC2 (by decide) j hj) _
                  · refine (KA.out.grown (r := r2) (by simpa [Value.ownBlock] using hgrow) ?_).setCell (.inl (.inl rfl)) _
                    rcases hh.out with h | h
                    · exact .inl (.inr h)
                    · exact .inr h
                  · rcases hat with h | h
                    · have : r3 = r2 := by simpa [Value.ownBlock] using h
                      rw [this]; exact hh.out
                    · right
                      have : r3 = ((wr.setCell ⟨g, 1, none⟩ (.int .i64 (st.s * 256))).setCell ⟨g, 2, none⟩ (.int .i64 ((st.k : Int) + 1))).heap.size + 1 := by simpa [Value.ownBlock] using h
                      omega
                have hmz := HN2.out.1.cells.2.1
                have HS2 : RowKit.Hid (0 ≤ st.n * 256 ∧ st.n * 256 < P256 (st.k + 1 + 4)) := by
                  have h1 := H.out.2.1
                  have h2 := H.out.2.2.1
                  refine ⟨by omega, ?_⟩
                  rw [show st.k + 1 + 4 = st.k + 4 + 1 by omega, P256_succ]
                  omega
                have HS1 : RowKit.Hid (scaleE ⟨st.n * 256, st.s * 256, st.k + 1⟩ = scaleE pre) := S1.out.symm.trans H.out.1
                clear TC2 hown' hown hgrow hat T1 K1 T2 K2 TA KA hown0 HSrc
                go_wp2
                go_roundw
                case rel => exact ⟨⟨st.n * 256, st.s * 256, st.k + 1⟩, r3, c3, by simp only; omega, by simp only; omega, by simp only; omega, by simp only; omega, by simp only; omega, HS1.out, HS2.out.1, HS2.out.2, HN2.out.1, HN2.out.2.1, HN2.out.2.2⟩
                case measure => rw [leftOf_eq hmz, leftOf_eq m1]; omega
              · have Z : RowKit.Hid (scaleE pre = st) := by rw [← H.out.1]; exact scaleE_end (by omega)
                go_wp2
                go_end0
                exact ⟨rfl, r2, c2, by rw [Z.out]; exact H.out.2.2.2.1, H.out.2.2.2.2.1, H.out.2.2.2.2.2⟩
          · have d0 : decide ((0 : Int) < (i2 : Int)) = true := by simp; omega
            have hk2 : i2 < e.k := by omega
            have hx2 : x ≤ 255 := by omega
            have d1 : decide ((e.k : Int) ≤ (i2 : Int)) = false := by simp; omega
            have d2 : decide ((255 : Int) < x) = false := by simp; omega
            have d1' : decide (e.k ≤ i2) = false := by simp; omega
            have hi0 : 0 < i2 := by omega
            have d0' : decide (0 < i2) = true := by simp; omega
            clear hstop hz
            go_wp2
            clear H c0 c1 c2 f0 i1 f1
            generalize wr.setCell ⟨g, 1, none⟩ (.int .i64 O) = w4 at H3 ⊢
            go_loopw [124] (fun _ wr => ∃ (st : EncS) (r2 c2 : Nat), 2048 ≤ st.s ∧ st.s ≤ 4294967295 ∧ st.k ≤ e.k + 2 ∧ (e.k + 1 ≤ st.k → 524288 ≤ st.s) ∧ (e.k + 2 ≤ st.k → 16777216 ≤ st.s) ∧ RowKit.Hid (scaleE st = scaleE pre ∧ 0 ≤ st.n ∧ st.n < P256 (st.k + 4) ∧ EncMem wr base g r2 c2 (digL st.n (st.k + 4)) st.s st.k ∧ Keeps (fun j => j = g ∨ j = r) w wr ∧ (r2 = r ∨ w.heap.size ≤ r2))) (fun _ wr => leftOf wr g)
            case atStart => exact ⟨pre, r, c, by have := st1.out; omega, by have := st1.out; omega, by have := st1.out; omega, by have := st1.out; omega, by have := st1.out; omega, rfl, HV.out.1, by rw [st1.out.1]; exact HV.out.2, by rw [st1.out.1, st1.out.2]; exact H3.out.1, H3.out.2, .inl rfl⟩
            case round =>
              obtain ⟨st, r2, c2, b0, b1, b2, b3, b4, H⟩ := hrel
              clear H3
              obtain ⟨m0, m1, m2⟩ := H.out.2.2.2.1.cells
              obtain ⟨z0, z1, z2⟩ := H.out.2.2.2.1.fz
              rw [digL_len] at m0
              by_cases hlt : st.s < 16777216
              · have S1 := Lib.hid (scaleE_step (e := st) (by omega) hlt)
                have hk1 : st.k ≤ e.k + 1 := by omega
                have T1 := Lib.hid (H.out.2.2.2.1.setS (st.s * 256))
                have K1 := Lib.hid (H.out.2.2.2.2.1.setCell (p := ⟨g, 1, none⟩) (.inl (.inl rfl)) (.int .i64 (st.s * 256)))
                have T2 : RowKit.Hid (EncMem ((wr.setCell ⟨g, 1, none⟩ (.int .i64 (st.s * 256))).setCell ⟨g, 2, none⟩ (.int .i64 ((st.k : Int) + 1))) base g r2 c2 (digL st.n (st.k + 4)) (st.s * 256) (st.k + 1)) := T1.out.setK (st.k + 1)
                have K2 := Lib.hid (K1.out.setCell (p := ⟨g, 2, none⟩) (.inl (.inl rfl)) (.int .i64 ((st.k : Int) + 1)))
                have hsz := K2.out.size
                have hbw := HL.out.2.2.1
                have hgw := HL.out.1
                have hrw := HL.out.2.1
                have e5 : ((wr.setCell ⟨g, 1, none⟩ (.int .i64 (st.s * 256))).setCell ⟨g, 2, none⟩ (.int .i64 ((st.k : Int) + 1))).heap.size = wr.heap.size := by simp [World.setCell]
                have hown0 := Lib.hid (World.ownsRow.alloc T2.out.2.1 (.cells #[.int .i64 0] 3))
                have hsrc := lit_ints ((wr.setCell ⟨g, 1, none⟩ (.int .i64 (st.s * 256))).setCell ⟨g, 2, none⟩ (.int .i64 ((st.k : Int) + 1))) 3 .i64 [0] #[.int .i64 0] (0, 0) rfl (by simp)
                rw [e5] at hsrc
                have HSrc := Lib.hid hsrc
                have TA := Lib.hid (T2.out.1.alloc (.cells #[.int .i64 0] 3))
                have KA := Lib.hid (K2.out.alloc (.cells #[.int .i64 0] 3))
                rw [digL_len] at hown0
                have hh := Lib.hid (H.out.2.2.2.2.2)
                clear hsrc
                go_wp2_with (at_builtin; go_loud (refine append_ints rfl _ _ 23 rfl base 3 .i64 8 Try.underlying23 info_int06 _ (st.k + 4) (digL st.n (st.k + 4)) rfl hown0.out (some ⟨wr.heap.size, 0, none⟩) 1 1 _ [0] rfl HSrc.out (by simp) ?c1 ?c2 ?c3 ?_))
                case c1 => unfold maxLen; omega
                case c2 => omega
                case c3 => simp [World.setCell]; omega
                intro v2 w2 hown hgrow hat
                have hrg := T2.out.lt.2.2.2.2
                have TC2 : Cel w2 g 58 #[.slice (some ⟨r2, 0, none⟩) (digL st.n (st.k + 4)).length c2, .int .i64 (st.s * 256), .int .i64 ((st.k + 1 : Nat) : Int)] := TA.out.keep (hgrow.block g TA.out.lt (by simp [Value.ownBlock]; exact fun c => hrg c.symm))
                have hown' : w2.ownsRow base 3 1 v2 (st.k + 4 + 1) ((digL (st.n * 256) (st.k + 1 + 4)).map (Value.int .i64)) := by
                  rw [show st.k + 1 + 4 = st.k + 4 + 1 by omega, ← digL_more H.out.2.1 H.out.2.2.1]
                  simpa using hown
                obtain ⟨r3, c3, rfl, _, _⟩ := World.ownsRow.form hown' (by omega)
                have n0 := TC2.cell 0
                simp only [List.getElem?_toArray, List.getElem?_cons_zero] at n0
                have nz := TC2.frozen 0
                have HN2 : RowKit.Hid (EncMem (w2.setCell ⟨g, 0, none⟩ (.slice (some ⟨r3, 0, none⟩) (st.k + 4 + 1) c3)) base g r3 c3 (digL (st.n * 256) (st.k + 1 + 4)) (st.s * 256) (st.k + 1) ∧ Keeps (fun j => j = g ∨ j = r) w (w2.setCell ⟨g, 0, none⟩ (.slice (some ⟨r3, 0, none⟩) (st.k + 4 + 1) c3)) ∧ (r3 = r ∨ w.heap.size ≤ r3)) := by
                  refine ⟨⟨?_, ?_, hbw⟩, ?_, ?_⟩
                  · rw [digL_len, show st.k + 1 + 4 = st.k + 4 + 1 by omega]
                    simpa using TC2.set_ 0 (.slice (some ⟨r3, 0, none⟩) (st.k + 4 + 1) c3)
                  · rw [digL_len, show st.k + 1 + 4 = st.k + 4 + 1 by omega]
                    rw [show st.k + 1 + 4 = st.k + 4 + 1 by omega] at hown'
                    exact own_far hown' (fun j hj => own_ne_cel hown' TC2 (by decide) j hj) _
                  · refine (KA.out.grown (r := r2) (by simpa [Value.ownBlock] using hgrow) ?_).setCell (.inl (.inl rfl)) _
                    rcases hh.out with h | h
                    · exact .inl (.inr h)
                    · exact .inr h
                  · rcases hat with h | h
                    · have : r3 = r2 := by simpa [Value.ownBlock] using h
                      rw [this]; exact hh.out
                    · right
                      have : r3 = ((wr.setCell ⟨g, 1, none⟩ (.int .i64 (st.s * 256))).setCell ⟨g, 2, none⟩ (.int .i64 ((st.k : Int) + 1))).heap.size + 1 := by simpa [Value.ownBlock] using h
                      omega
                have hmz := HN2.out.1.cells.2.1
                have HS2 : RowKit.Hid (0 ≤ st.n * 256 ∧ st.n * 256 < P256 (st.k + 1 + 4)) := by
                  have h1 := H.out.2.1
                  have h2 := H.out.2.2.1
                  refine ⟨by omega, ?_⟩
                  rw [show st.k + 1 + 4 = st.k + 4 + 1 by omega, P256_succ]
                  omega
                have HS1 : RowKit.Hid (scaleE ⟨st.n * 256, st.s * 256, st.k + 1⟩ = scaleE pre) := S1.out.symm.trans H.out.1
                clear TC2 hown' hown hgrow hat T1 K1 T2 K2 TA KA hown0 HSrc
                go_wp2
                go_roundw
                case rel => exact ⟨⟨st.n * 256, st.s * 256, st.k + 1⟩, r3, c3, by simp only; omega, by simp only; omega, by simp only; omega, by simp only; omega, by simp only; omega, HS1.out, HS2.out.1, HS2.out.2, HN2.out.1, HN2.out.2.1, HN2.out.2.2⟩
                case measure => rw [leftOf_eq hmz, leftOf_eq m1]; omega
              · have Z : RowKit.Hid (scaleE pre = st) := by rw [← H.out.1]; exact scaleE_end (by omega)
                go_wp2
                go_end0
                exact ⟨rfl, r2, c2, by rw [Z.out]; exact H.out.2.2.2.1, H.out.2.2.2.2.1, H.out.2.2.2.2.2⟩
        · have hz : 0 < i2 := by omega
          have d0 : decide ((0 : Int) < (i2 : Int)) = true := by simp; omega
          by_cases hbig : 255 < x
          · have HC2 := Lib.hid (carry_yes H.out.1 hz (by rw [← HX.out]; exact hbig))
            have HV2 := Lib.hid (carry1_val (D := D2) hz (by rw [HLn.out]; omega))
            obtain ⟨m, hm⟩ : ∃ m, m + 1 = i2 := ⟨i2 - 1, by omega⟩
            have hm0 : (i2 : Int) - 1 = (m : Int) := by omega
            have im := H.out.2.2.1.at_ (j := m) (by rw [HLn.out]; omega)
            have fm := H.out.2.2.1.frozen m
            have ym0 : 0 ≤ D2.getD m 0 ∧ D2.getD m 0 ≤ 510 := by have := H.out.1.2.2.2.1 m (by omega); exact ⟨this.1, this.2.1⟩
            have E1 := Lib.hid (H.out.2.2.1.setD i2 (x - 256))
            have E2 : RowKit.Hid (EncMem ((wr.setCell ⟨r, i2, none⟩ (.int .i64 (x - 256))).setCell ⟨r, m, none⟩ (.int .i64 (D2.getD m 0 + 1))) base g r c (carry1 D2 i2) e.s e.k) := by
              have h1 := E1.out.setD m (D2.getD m 0 + 1)
              have h2 : carry1 D2 i2 = (D2.set i2 (x - 256)).set m (D2.getD m 0 + 1) := by
                unfold carry1
                rw [show i2 - 1 = m by omega, ← HX.out, getD_set' D2 i2 m _ (by rw [HLn.out]; omega), if_neg (by omega)]
              show EncMem _ _ _ _ _ _ _ _
              rw [h2]; exact h1
            have K2 := Lib.hid ((H.out.2.2.2.setCell (p := ⟨r, i2, none⟩) (.inl (.inr rfl)) (.int .i64 (x - 256))).setCell (p := ⟨r, m, none⟩) (.inl (.inr rfl)) (.int .i64 (D2.getD m 0 + 1)))
            have hmi : m ≠ i2 := by omega
            generalize D2.getD m 0 = y at im ym0 E2 K2
            have hbd : decide ((255 : Int) < x) = true := by simp; omega
            have g1 : IntKind.i64.wrap (x - 256) = x - 256 := IntWalk.i64_in _ (by omega)
            have g2 : IntKind.i64.wrap ((i2 : Int) - 1) = (m : Int) := by rw [hm0]; exact IntWalk.i64_in _ (by omega)
            have g3 : IntKind.i64.wrap (y + 1) = y + 1 := IntWalk.i64_in _ (by omega)
            have g4 : (m : Int) < (e.k + 4 : Nat) := by omega
            clear hm hstop
            have d0' : decide (0 < i2) = true := by simp; omega
            by_cases hK : e.k ≤ i2
            · have d1 : decide ((e.k : Int) ≤ (i2 : Int)) = true := by simp; omega
              have d1' : decide (e.k ≤ i2) = true := by simp; omega
              go_wp2
              go_region
              go_wp2
              go_region
              go_wp2
              go_roundw
              case rel => exact ⟨carry1 D2 i2, m, rfl, by omega, by have := HC2.out; rw [show i2 - 1 = m by omega] at this; exact this, by rw [HV2.out]; exact H.out.2.1, (E2.out.drewN 1).drewN 1, (K2.out.drewN 1).drewN 1⟩
              case measure => simp [intOf] <;> omega
            · have d1 : decide ((e.k : Int) ≤ (i2 : Int)) = false := by simp; omega
              have d1' : decide (e.k ≤ i2) = false := by simp; omega
              go_wp2
              go_region
              go_wp2
              go_region
              go_wp2
              go_roundw
              case rel => exact ⟨carry1 D2 i2, m, rfl, by omega, by have := HC2.out; rw [show i2 - 1 = m by omega] at this; exact this, by rw [HV2.out]; exact H.out.2.1, (E2.out.drewN 1).drewN 1, (K2.out.drewN 1).drewN 1⟩
              case measure => simp [intOf] <;> omega
          · have hK : e.k ≤ i2 := by omega
            have d1 : decide ((e.k : Int) ≤ (i2 : Int)) = true := by simp; omega
            have d1' : decide (e.k ≤ i2) = true := by simp; omega
            have HC2 := Lib.hid (carry_no H.out.1 hz (by rw [← HX.out]; omega))
            clear hstop
            go_wp2
            go_roundw
            case rel => exact ⟨D2, i2 - 1, by go_num, by omega, HC2.out, H.out.2.1, H.out.2.2.1, H.out.2.2.2⟩
            case measure => simp [intOf] <;> omega
end Go.Proofs.Ytgnmnmjicjcffaa

/- What the document's encoder of layer 6 gives: bits. -/
namespace Go.Proofs.Ytgnmnmjicjcffaa
open Go.RowKit
set_option linter.unusedVariables false

theorem refPower_any (k : Nat) (w : World) (hk : k ≤ 60) :
    Calls Try.prog 48 #[.int .i64 k] w fun x w' => x = .returned (.int .i64 (P2 k)) ∧ w = w' := by
  go_enter Try.func48, Try.ntmps48
  go_wp2
  go_loop [3, 4] (fun n i => ∃ j : Nat, j ≤ k ∧ i = .int .i64 j ∧ n = .int .i64 (P2 j)) (fun _ i => k - (intOf i).toNat)
  case atStart => exact ⟨0, by omega, rfl, rfl⟩
  case round =>
    obtain ⟨j, hj, rfl, rfl⟩ := hrel
    have p := P2_pos j
    by_cases hlt : j < k
    · have q := P2_le61 (k := j) (by omega)
      go_wp2
      go_round
      case rel => exact ⟨j + 1, by omega, by go_num, by rw [P2_succ]⟩
      case measure => simp [intOf] <;> omega
    · obtain rfl : j = k := by omega
      go_wp2
      go_ret
      exact ⟨rfl, rfl⟩
theorem refPower_at (k : Nat) (i : Int) (w : World) (hi : i = k) (hk : k ≤ 60) :
    Calls Try.prog 48 #[.int .i64 i] w fun x w' => x = .returned (.int .i64 (P2 k)) ∧ w = w' := by
  subst hi; exact refPower_any k w hk

/-- A number of so many bits, the highest twelve first. -/
def encBits (e : EncS) (n : Int) (wide : Nat) : EncS :=
  if wide = 0 then e else if wide ≤ 12 then encPut e (n % P2 wide) 1 (P2 wide) else
    let f := encPut e (n / P2 (wide - 12) % 4096) 1 4096
    if wide ≤ 24 then encPut f (n % P2 (wide - 12)) 1 (P2 (wide - 12)) else f
theorem encBits_zero (e : EncS) (n : Int) : encBits e n 0 = e := rfl
theorem encBits_low (e : EncS) (n : Int) {wide : Nat} (h0 : 0 < wide) (h1 : wide ≤ 12) : encBits e n wide = encPut e (n % P2 wide) 1 (P2 wide) := by
  unfold encBits; rw [if_neg (by omega), if_pos h1]
theorem encBits_high (e : EncS) (n : Int) {wide : Nat} (h0 : 12 < wide) (h1 : wide ≤ 24) : encBits e n wide = encBits (encPut e (n / P2 (wide - 12) % 4096) 1 4096) n (wide - 12) := by
  rw [encBits_low _ _ (show 0 < wide - 12 by omega) (by omega)]
  unfold encBits; rw [if_neg (by omega), if_neg (by omega), if_pos h1]
theorem okP_bit {x : Int} {k : Nat} (h : k ≤ 12) (h0 : 0 ≤ x) (h1 : x < P2 k) : OkP x 1 (P2 k) := by
  have p := P2_pos k
  have q := P2_mono (a := k) (b := 12) h
  rw [show P2 12 = 4096 by decide] at q
  exact ⟨p, by omega, by omega, h0, by omega⟩
theorem bit_part (n : Int) {k : Nat} : 0 ≤ n % P2 k ∧ n % P2 k < P2 k := by
  have p := P2_pos k
  exact ⟨Int.emod_nonneg _ (by omega), Int.emod_lt_of_pos _ (by omega)⟩

set_option maxRecDepth 100000 in
theorem refEncBits_any (base g r c : Nat) (e : EncS) (n : Int) (wide : Nat) (w : World) (hE : EncMem w base g r c (digL e.n (e.k + 4)) e.s e.k) (hG : GoodE e) (hk : e.k ≤ 900000) (hw : wide ≤ 24) (n0 : 0 ≤ n) (n1 : n ≤ 4294967295) :
    Calls Try.prog 32 #[.pointer (some ⟨g, 0, none⟩), .int .i64 n, .int .i64 wide] w (EncPost base g r (encBits e n wide) w) := by
  have H0 : RowKit.Hid (EncMem w base g r c (digL e.n (e.k + 4)) e.s e.k ∧ GoodE e) := ⟨hE, hG⟩
  clear hE hG
  go_enter Try.func32, Try.ntmps32
  go_wp2
  go_loopw [2, 6] (fun d _ wr => ∃ (q : Nat) (f : EncS), q ≤ wide ∧ d = .int .i64 q ∧ f.k ≤ e.k + 3 * (wide - q) ∧ RowKit.Hid (encBits f n q = encBits e n wide ∧ GoodE f ∧ ∃ r2 c2, EncMem wr base g r2 c2 (digL f.n (f.k + 4)) f.s f.k ∧ Keeps (fun j => j = g ∨ j = r) w wr ∧ (r2 = r ∨ w.heap.size ≤ r2))) (fun d _ _ => (intOf d).toNat)
  case atStart => exact ⟨wide, e, by omega, rfl, by omega, rfl, H0.out.2, r, c, H0.out.1, Keeps.refl _ _, .inl rfl⟩
  case round =>
    obtain ⟨q, f, hq, rfl, hf, H⟩ := hrel
    clear H0
    by_cases hlt : 0 < q
    · by_cases hq12 : 12 < q
      · obtain ⟨s1, s2, r2, c2, s3, s4, s5⟩ := H.out
        have HM : RowKit.Hid (EncMem wr.drew base g r2 c2 (digL f.n (f.k + 4)) f.s f.k) := s3
        have HGf := Lib.hid s2
        obtain ⟨lo, hlo⟩ : ∃ lo, lo + 12 = q := ⟨q - 12, by omega⟩
        have pl := P2_pos lo
        have ql := P2_le61 (k := lo) (by omega)
        have x0 : 0 ≤ n / P2 lo := Int.ediv_nonneg n0 (by omega)
        have x1 : n / P2 lo ≤ n := Int.ediv_le_self _ n0
        have y0 := Int.emod_nonneg (n / P2 lo) (b := 4096) (by decide)
        have y1 := Int.emod_lt_of_pos (n / P2 lo) (b := 4096) (by decide)
        have d1 : n.tdiv (P2 lo) = n / P2 lo := Int.tdiv_eq_ediv_of_nonneg n0
        have d2 : ¬ P2 lo = 0 := by omega
        have d3 : P2 12 = 4096 := by decide
        have d4 : (n / P2 lo).tmod 4096 = n / P2 lo % 4096 := Int.tmod_eq_emod_of_nonneg x0
        have d5 : IntKind.i64.wrap (n / P2 lo) = n / P2 lo := IntWalk.i64_in _ (by omega)
        have d6 : IntKind.i64.wrap (n / P2 lo % 4096) = n / P2 lo % 4096 := IntWalk.i64_in _ (by omega)
        have HOk : RowKit.Hid (OkP (n / P2 lo % 4096) 1 4096) := ⟨by decide, by decide, by decide, y0, by omega⟩
        go_wp2
        go_still_tail 10, (by kernel_rfl)
        still_call ((refPower_at lo _ _ (by omega) (by omega)).mono fun _ _ h => ⟨h.1, h.2.symm⟩)
        repeat still_step
        still_call ((refPower_at 12 _ _ (by omega) (by omega)).mono fun _ _ h => ⟨h.1, h.2.symm⟩)
        repeat still_step
        still_call ((refPower_at 12 _ _ (by omega) (by omega)).mono fun _ _ h => ⟨h.1, h.2.symm⟩)
        refine wpStill_nil ?_
        change wpList _ _ _ _ _ wr.drew
        clear d1 d2 d3 d4 d5 d6
        go_wp2_with (go_at_call 47; go_loud (refine (refEncPut_any base g r2 c2 f (n / P2 lo % 4096) 1 4096 _ HM.out HGf.out HOk.out (by omega)).mono ?_); rintro e5 w5 ⟨rfl, hpost⟩; have HP5 := Lib.hid hpost; clear hpost)
        go_roundw
        case rel =>
          obtain ⟨r3, c3, u1, u2, u3⟩ := HP5.out
          have hk2 := encPut_k f (n / P2 lo % 4096) 1 4096
          refine ⟨lo, encPut f (n / P2 lo % 4096) 1 4096, by omega, by go_num, by omega, by rw [← s1, encBits_high f n hq12 (by omega), show q - 12 = lo by omega], encPut_good HGf.out HOk.out, r3, c3, u1, ?_, ?_⟩
          · refine (s4.drewN 1).then_ u2 ?_
            rintro j (hj | hj)
            · exact .inl (.inl hj)
            · rcases s5 with h | h
              · exact .inl (.inr (by omega))
              · exact .inr (by omega)
          · have := s4.size
            have h5 : r3 = r2 ∨ wr.heap.size ≤ r3 := u3
            rcases h5 with h | h
            · rcases s5 with h' | h'
              · exact .inl (by omega)
              · exact .inr (by omega)
            · exact .inr (by omega)
        case measure => simp [intOf] <;> omega
      · obtain ⟨s1, s2, r2, c2, s3, s4, s5⟩ := H.out
        have HM : RowKit.Hid (EncMem wr.drew base g r2 c2 (digL f.n (f.k + 4)) f.s f.k) := s3
        have HGf := Lib.hid s2
        have pl := P2_pos q
        have ql := P2_mono (a := q) (b := 12) (by omega)
        rw [show P2 12 = 4096 by decide] at ql
        have y := bit_part n (k := q)
        obtain ⟨y0, y1⟩ := y
        have d1 : n.tdiv 1 = n := Int.tdiv_one n
        have d2 : ¬ P2 q = 0 := by omega
        have d3 : P2 0 = 1 := by decide
        have d4 : n.tmod (P2 q) = n % P2 q := Int.tmod_eq_emod_of_nonneg n0
        have d5 : IntKind.i64.wrap n = n := IntWalk.i64_in _ (by omega)
        have d6 : IntKind.i64.wrap (n % P2 q) = n % P2 q := IntWalk.i64_in _ (by omega)
        have HOk : RowKit.Hid (OkP (n % P2 q) 1 (P2 q)) := okP_bit (by omega) y0 y1
        go_wp2
        go_still_tail 10, (by kernel_rfl)
        still_call ((refPower_at 0 _ _ (by omega) (by omega)).mono fun _ _ h => ⟨h.1, h.2.symm⟩)
        repeat still_step
        still_call ((refPower_at q _ _ (by omega) (by omega)).mono fun _ _ h => ⟨h.1, h.2.symm⟩)
        repeat still_step
        still_call ((refPower_at q _ _ (by omega) (by omega)).mono fun _ _ h => ⟨h.1, h.2.symm⟩)
        refine wpStill_nil ?_
        change wpList _ _ _ _ _ wr.drew
        clear d1 d2 d3 d4 d5 d6
        go_wp2_with (go_at_call 47; go_loud (refine (refEncPut_any base g r2 c2 f (n % P2 q) 1 (P2 q) _ HM.out HGf.out HOk.out (by omega)).mono ?_); rintro e5 w5 ⟨rfl, hpost⟩; have HP5 := Lib.hid hpost; clear hpost)
        go_roundw
        case rel =>
          obtain ⟨r3, c3, u1, u2, u3⟩ := HP5.out
          have hk2 := encPut_k f (n % P2 q) 1 (P2 q)
          refine ⟨0, encPut f (n % P2 q) 1 (P2 q), by omega, by go_num, by omega, by rw [← s1, encBits_low f n hlt (by omega), encBits_zero], encPut_good HGf.out HOk.out, r3, c3, u1, ?_, ?_⟩
          · refine (s4.drewN 1).then_ u2 ?_
            rintro j (hj | hj)
            · exact .inl (.inl hj)
            · rcases s5 with h | h
              · exact .inl (.inr (by omega))
              · exact .inr (by omega)
          · have := s4.size
            have h5 : r3 = r2 ∨ wr.heap.size ≤ r3 := u3
            rcases h5 with h | h
            · rcases s5 with h' | h'
              · exact .inl (by omega)
              · exact .inr (by omega)
            · exact .inr (by omega)
        case measure => simp [intOf] <;> omega
    · obtain rfl : q = 0 := by omega
      go_wp2
      go_end0
      obtain ⟨h1, h2, r2, c2, h3, h4, h5⟩ := H.out
      rw [encBits_zero] at h1
      subst h1
      exact ⟨rfl, r2, c2, h3, h4, h5⟩
theorem okP_12 (n : Int) : OkP (n % 4096) 1 4096 := ⟨by decide, by decide, by decide, by omega, by omega⟩
theorem encBits_good {e : EncS} {n : Int} {wide : Nat} (hg : GoodE e) (hw : wide ≤ 24) : GoodE (encBits e n wide) := by
  by_cases h0 : wide = 0
  · subst h0; exact hg
  · by_cases h1 : wide ≤ 12
    · rw [encBits_low e n (by omega) h1]
      exact encPut_good hg (okP_bit h1 (bit_part n).1 (bit_part n).2)
    · rw [encBits_high e n (by omega) hw, encBits_low _ n (by omega) (by omega)]
      exact encPut_good (encPut_good hg (okP_12 _)) (okP_bit (by omega) (bit_part n).1 (bit_part n).2)
theorem encBits_inside {e : EncS} {n : Int} {wide : Nat} (hg : GoodE e) (hw : wide ≤ 24) : Inside e (encBits e n wide) := by
  by_cases h0 : wide = 0
  · subst h0; exact Inside.refl e
  · by_cases h1 : wide ≤ 12
    · rw [encBits_low e n (by omega) h1]
      exact encPut_inside hg (okP_bit h1 (bit_part n).1 (bit_part n).2)
    · rw [encBits_high e n (by omega) hw, encBits_low _ n (by omega) (by omega)]
      exact (encPut_inside hg (okP_12 _)).trans (encPut_inside (encPut_good hg (okP_12 _)) (okP_bit (by omega) (bit_part n).1 (bit_part n).2))
theorem encBits_k (e : EncS) (n : Int) {wide : Nat} (hw : wide ≤ 24) : (encBits e n wide).k ≤ e.k + 4 := by
  by_cases h0 : wide = 0
  · subst h0; rw [encBits_zero]; omega
  · by_cases h1 : wide ≤ 12
    · rw [encBits_low e n (by omega) h1]
      have := encPut_k e (n % P2 wide) 1 (P2 wide)
      omega
    · rw [encBits_high e n (by omega) hw, encBits_low _ n (by omega) (by omega)]
      have a := encPut_k e (n / P2 (wide - 12) % 4096) 1 4096
      have b := encPut_k (encPut e (n / P2 (wide - 12) % 4096) 1 4096) (n % P2 (wide - 12)) 1 (P2 (wide - 12))
      omega
end Go.Proofs.Ytgnmnmjicjcffaa

/- What the document's answers for layer 5 give: a model on a list. -/
namespace Go.Proofs.Ytgnmnmjicjcffaa
open Go.RowKit
set_option linter.unusedVariables false

theorem info_int05 : (Try.prog.info? 3).map (fun i => (i.zero, i.size, i.bytes)) = some (some (.int .i64 0), 1, 8) := by kernel_rfl

/-- Block g is the document's model of the list l; its row lies in block r. -/
def RefMod (w : World) (base g r : Nat) (l : List Int) (fx : Bool) : Prop :=
  ∃ c, Cel w g 86 #[.slice (some ⟨r, 0, none⟩) l.length c, .bool fx] ∧ w.ownsRow base 3 1 (.slice (some ⟨r, 0, none⟩) l.length c) l.length (l.map (Value.int .i64)) ∧ base ≤ g
section
variable {w w' : World} {base g r : Nat} {l : List Int} {fx : Bool}
theorem RefMod.lt (h : RefMod w base g r l fx) : g < w.heap.size ∧ r < w.heap.size ∧ base ≤ g ∧ base ≤ r := by
  obtain ⟨c, h1, h2, h3⟩ := h
  exact ⟨h1.lt, own_lt h2 r rfl, h3, own_base h2 r rfl⟩
theorem RefMod.keeps {F : Nat → Prop} (h : RefMod w base g r l fx) (hk : Keeps F w w') (h1 : ¬ F g) (h2 : ¬ F r) : RefMod w' base g r l fx := by
  obtain ⟨c, g1, g2, g3⟩ := h
  exact ⟨c, g1.keeps hk h1, own_keeps g2 hk (by intro k hk'; simp [Value.ownBlock] at hk'; subst hk'; exact h2), g3⟩
theorem RefMod.below (h : RefMod w base g r l fx) (hk : Below w.heap.size w w') : RefMod w' base g r l fx := h.keeps (F := fun _ => False) (.of_below hk) (fun c => c) (fun c => c)
theorem RefMod.at_ (h : RefMod w base g r l fx) {j : Nat} (hj : j < l.length) : w.cell? ⟨r, j, none⟩ = some (.int .i64 (l.getD j 0)) := by
  obtain ⟨c, g1, g2, g3⟩ := h
  rw [g2.cellAt j (by omega), List.getElem?_map, List.getElem?_eq_getElem hj]
  simp [List.getD, hj]
end

set_option maxRecDepth 100000 in
theorem refSum_any (base g r : Nat) (l : List Int) (fx : Bool) (n : Nat) (w : World) (hR : RefMod w base g r l fx) (hn : n ≤ l.length) (hl : l.length ≤ 64) (hb : ∀ j, j < l.length → 0 ≤ l.getD j 0 ∧ l.getD j 0 ≤ 4294967295) :
    Calls Try.prog 49 #[.pointer (some ⟨g, 0, none⟩), .int .i64 n] w fun e w' => e = .returned (.int .i64 (sumN l n)) ∧ w = w' := by
  obtain ⟨c, h1, h2, h3⟩ := hR
  have HR := Lib.hid (show RefMod w base g r l fx from ⟨c, h1, h2, h3⟩)
  have HB := Lib.hid hb
  have c0 := h1.cell 0
  simp only [List.getElem?_toArray, List.getElem?_cons_zero] at c0
  clear h1 h2 h3 hb
  go_enter Try.func49, Try.ntmps49
  go_wp2
  go_loop [5, 6] (fun s i => ∃ k : Nat, k ≤ n ∧ i = .int .i64 k ∧ s = .int .i64 (sumN l k)) (fun _ i => (n : Int).toNat - (intOf i).toNat)
  case atStart => exact ⟨0, by omega, rfl, by rw [sumN_zero]⟩
  case round =>
    obtain ⟨k, hk, rfl, rfl⟩ := hrel
    obtain ⟨s0, s1⟩ := sumN_bd HB.out k (by omega)
    by_cases hlt : k < n
    · have hcell := HR.out.at_ (j := k) (by omega)
      obtain ⟨x0, x1⟩ := HB.out k (by omega)
      have E := Lib.hid (sumN_succ l k (by omega))
      generalize l.getD k 0 = x at hcell x0 x1 E
      have hkl : (k : Int) < (l.length : Int) := by omega
      go_wp2
      go_round
      case rel => exact ⟨k + 1, by omega, by go_num, by rw [E.out]⟩
      case measure => simp [intOf]; omega
    · obtain rfl : k = n := by omega
      go_wp2
      go_ret
      exact ⟨rfl, rfl⟩

theorem refSum_at (base g r : Nat) (l : List Int) (fx : Bool) (n : Nat) (i : Int) (w : World) (hi : i = n) (hR : RefMod w base g r l fx) (hn : n ≤ l.length) (hl : l.length ≤ 64) (hb : ∀ j, j < l.length → 0 ≤ l.getD j 0 ∧ l.getD j 0 ≤ 4294967295) :
    Calls Try.prog 49 #[.pointer (some ⟨g, 0, none⟩), .int .i64 i] w fun e w' => e = .returned (.int .i64 (sumN l n)) ∧ w = w' := by
  subst hi
  exact refSum_any base g r l fx n w hR hn hl hb

set_option maxRecDepth 100000 in
theorem refFind_any (base g r : Nat) (l : List Int) (fx : Bool) (at' : Int) (w : World) (hR : RefMod w base g r l fx) (hl0 : 1 ≤ l.length) (hl : l.length ≤ 64) (hb : ∀ j, j < l.length → 0 ≤ l.getD j 0 ∧ l.getD j 0 ≤ 4294967295) :
    Calls Try.prog 55 #[.pointer (some ⟨g, 0, none⟩), .int .i64 at'] w fun e w' => e = .returned (.int .i64 (findP l at')) ∧ w = w' := by
  obtain ⟨c, h1, h2, h3⟩ := hR
  have HR := Lib.hid (show RefMod w base g r l fx from ⟨c, h1, h2, h3⟩)
  have HB := Lib.hid hb
  have c0 := h1.cell 0
  simp only [List.getElem?_toArray, List.getElem?_cons_zero] at c0
  clear h1 h2 h3 hb
  go_enter Try.func55, Try.ntmps55
  go_wp2
  go_loop [5] (fun i => ∃ k : Nat, k ≤ l.length ∧ i = .int .i64 k ∧ RowKit.Hid (findGo l at' k (l.length - k) = findP l at')) (fun i => l.length - (intOf i).toNat)
  case atStart => exact ⟨0, by omega, rfl, rfl⟩
  case round =>
    obtain ⟨k, hk, rfl, H⟩ := hrel
    by_cases hlt : k < l.length
    · have hkl : (k : Int) < (l.length : Int) := by omega
      have S : RowKit.Hid (findGo l at' k (l.length - k) = if at' < sumN l (k + 1) then k else findGo l at' (k + 1) (l.length - (k + 1))) := by
        rw [show l.length - k = (l.length - (k + 1)) + 1 by omega]; exact rfl
      by_cases hs : at' < sumN l (k + 1)
      · have Z : RowKit.Hid (((k : Nat) : Int) = ((findP l at' : Nat) : Int)) := by
          have := S.out
          rw [if_pos hs, H.out] at this
          show (k : Int) = (findP l at' : Int)
          rw [this]
        go_wp2_with (go_at_call 49; ((with_reducible refine (refSum_at base g r l fx (k + 1) _ _ (by omega) HR.out (by omega) hl HB.out).mono ?_)); rintro e w' ⟨rfl, rfl⟩)
        go_ret
        exact ⟨ret_int Z.out, rfl⟩
      · have Z : RowKit.Hid (findGo l at' (k + 1) (l.length - (k + 1)) = findP l at') := by
          have := S.out
          rw [if_neg hs, H.out] at this
          exact this.symm
        go_wp2_with (go_at_call 49; ((with_reducible refine (refSum_at base g r l fx (k + 1) _ _ (by omega) HR.out (by omega) hl HB.out).mono ?_)); rintro e w' ⟨rfl, rfl⟩)
        go_round
        case rel => exact ⟨k + 1, by omega, by go_num, Z.out⟩
        case measure => simp [intOf]; omega
    · have Z : RowKit.Hid ((l.length : Int) - 1 = ((findP l at' : Nat) : Int)) := by
        have := H.out
        rw [show l.length - k = 0 by omega] at this
        show (l.length : Int) - 1 = (findP l at' : Int)
        rw [← this]
        show (l.length : Int) - 1 = ((l.length - 1 : Nat) : Int)
        omega
      go_wp2
      go_ret
      exact ⟨ret_int Z.out, rfl⟩

/-- The model's row, written at one place. -/
theorem RefMod.stored {w : World} {base g r : Nat} {l : List Int} {fx : Bool} (h : RefMod w base g r l fx) (j : Nat) (x : Int) : RefMod (w.setCell ⟨r, j, none⟩ (.int .i64 x)) base g r (l.set j x) fx := by
  obtain ⟨c, h1, h2, h3⟩ := h
  have hne : r ≠ g := own_ne_cel h2 h1 (by decide) r rfl
  refine ⟨c, ?_, ?_, h3⟩
  · rw [List.length_set]; exact h1.far (p := ⟨r, j, none⟩) (fun e => hne e.symm) _
  · rw [List.length_set, List.map_set]; exact (h2.stored j (.int .i64 x)).1
theorem RefMod.drewN {w : World} {base g r : Nat} {l : List Int} {fx : Bool} (h : RefMod w base g r l fx) (n : Nat) : RefMod (w.drewN n) base g r l fx := h
theorem RefMod.frozen {w : World} {base g r : Nat} {l : List Int} {fx : Bool} (h : RefMod w base g r l fx) (j : Nat) : w.frozen? ⟨r, j, none⟩ = false := by
  obtain ⟨c, h1, h2, h3⟩ := h
  exact h2.frozenAt j

theorem refLearn_fixed (base g r : Nat) (l : List Int) (s : Int) (w : World) (hR : RefMod w base g r l true) :
    Calls Try.prog 50 #[.pointer (some ⟨g, 0, none⟩), .int .i64 s] w fun e w' => e = .returned (.tuple #[]) ∧ w = w' := by
  obtain ⟨c, h1, h2, h3⟩ := hR
  have c1 := h1.cell 1
  simp only [List.getElem?_toArray, List.getElem?_cons_zero, List.getElem?_cons_succ] at c1
  clear h1 h2 h3
  go_enter Try.func50, Try.ntmps50
  go_wp2
  exact bodyPost_ret (v := .tuple #[]) (by simp [results, Try.results50]) rfl ⟨rfl, rfl⟩

set_option maxRecDepth 100000 in
theorem refLearn_any (base g r : Nat) (l : List Int) (s : Nat) (w : World) (hR : RefMod w base g r l false) (hG : GoodL l) (hs : s < l.length) :
    Calls Try.prog 50 #[.pointer (some ⟨g, 0, none⟩), .int .i64 s] w fun e w' => e = .returned (.tuple #[]) ∧ RefMod w' base g r (learnP l s) false ∧ Keeps (fun k => k = r) w w' := by
  obtain ⟨c, h1, h2, h3⟩ := hR
  have HR := Lib.hid (show RefMod w base g r l false from ⟨c, h1, h2, h3⟩)
  have hne : g ≠ r := fun e => own_ne_cel h2 h1 (by decide) r rfl e.symm
  have c0 := h1.cell 0
  have c1 := h1.cell 1
  simp only [List.getElem?_toArray, List.getElem?_cons_zero, List.getElem?_cons_succ] at c0 c1
  have hcell := HR.out.at_ hs
  have hfz := HR.out.frozen s
  obtain ⟨x0, x1⟩ := hG.own hs
  have hl := hG.2.1
  have HG := Lib.hid hG
  have E : RowKit.Hid (riseL l s = l.set s (l.getD s 0 + 32)) := rfl
  clear h1 h2 h3 hG
  generalize l.getD s 0 = x at hcell x0 x1 E
  have HS : RowKit.Hid (RefMod (w.setCell ⟨r, s, none⟩ (.int .i64 (x + 32))) base g r (riseL l s) false) := by
    show RefMod _ _ _ _ _ _
    rw [E.out]; exact HR.out.stored s (x + 32)
  have HK := Lib.hid ((Keeps.refl (fun k => k = r) w).setCell (p := ⟨r, s, none⟩) (.inl rfl) (.int .i64 (x + 32)))
  go_enter Try.func50, Try.ntmps50
  go_wp2
  have g1 : IntKind.i64.wrap (x + 32) = x + 32 := IntWalk.i64_in _ (by omega)
  have g2 : (s : Int) < (l.length : Int) := by omega
  go_region
  clear g1 hcell hfz
  obtain ⟨w1, hw1⟩ : ∃ w1, w1 = (w.setCell ⟨r, s, none⟩ (.int .i64 (x + 32))).drew := ⟨_, rfl⟩
  rw [← hw1]
  have HS1 : RowKit.Hid (RefMod w1 base g r (riseL l s) false ∧ Keeps (fun k => k = r) w w1) := by
    rw [hw1]; exact ⟨HS.out.drewN 1, HK.out.drewN 1⟩
  clear hw1 HS HK HR c0 c1
  have hlen := Lib.hid (riseL_len l s)
  have hsum := Lib.hid (sumN_all (riseL l s))
  have hb : ∀ j, j < (riseL l s).length → 0 ≤ (riseL l s).getD j 0 ∧ (riseL l s).getD j 0 ≤ 4294967295 := by
    intro j hj
    rw [hlen.out] at hj
    have := riseL_own HG.out hs hj
    omega
  have HB := Lib.hid hb
  clear hb
  obtain ⟨c', h1, h2, h3⟩ := HS1.out.1
  have c0 := h1.cell 0
  simp only [List.getElem?_toArray, List.getElem?_cons_zero] at c0
  rw [hlen.out] at c0
  clear h1 h2 h3
  by_cases hbig : 8192 < sumN (riseL l s) l.length
  · have hln : RowKit.Hid (learnP l s = halfL (riseL l s)) := by
      unfold learnP
      rw [← sumN_all, hlen.out, if_pos hbig]; exact rfl
    go_wp2_with (go_at_call 49; go_loud (refine (refSum_at base g r (riseL l s) false l.length _ _ (by omega) HS1.out.1 (by rw [hlen.out]; exact Nat.le_refl _) (by rw [hlen.out]; omega) HB.out).mono ?_); rintro e w' ⟨rfl, rfl⟩)
    clear c0
    go_loopw [4] (fun i wr => ∃ k : Nat, k ≤ l.length ∧ i = .int .i64 k ∧ RowKit.Hid (RefMod wr base g r (halfK (riseL l s) k) false ∧ Keeps (fun k => k = r) w wr)) (fun i _ => l.length - (intOf i).toNat)
    case atStart => exact ⟨0, by omega, rfl, by rw [halfK_zero]; exact HS1.out.1, HS1.out.2⟩
    case round =>
      obtain ⟨k, hk, rfl, H⟩ := hrel
      have hlk : (halfK (riseL l s) k).length = l.length := by rw [halfK_len _ (by rw [hlen.out]; exact hk), hlen.out]
      obtain ⟨c', h1, h2, h3⟩ := H.out.1
      have c0 := h1.cell 0
      simp only [List.getElem?_toArray, List.getElem?_cons_zero] at c0
      rw [hlk] at c0
      clear h1 h2 h3
      by_cases hlt : k < l.length
      · have i1 := H.out.1.at_ (j := k) (by rw [hlk]; exact hlt)
        have f1 := H.out.1.frozen k
        rw [halfK_at _ (by rw [hlen.out]; exact hlt)] at i1
        obtain ⟨y0, y1⟩ := riseL_own HG.out hs hlt
        have HN := Lib.hid (halfK_next (riseL l s) (k := k) (by rw [hlen.out]; exact hlt))
        generalize (riseL l s).getD k 0 = y at i1 y0 y1 HN
        have HS2 : RowKit.Hid (RefMod (wr.setCell ⟨r, k, none⟩ (.int .i64 ((y + 1) / 2))) base g r (halfK (riseL l s) (k + 1)) false ∧ Keeps (fun k => k = r) w (wr.setCell ⟨r, k, none⟩ (.int .i64 ((y + 1) / 2)))) :=
          ⟨by rw [← HN.out]; exact H.out.1.stored k _, H.out.2.setCell (.inl rfl) _⟩
        have g1 : IntKind.i64.wrap (y + 1) = y + 1 := IntWalk.i64_in _ (by omega)
        have g2 : (k : Int) < (l.length : Int) := by omega
        have g3 : (y + 1).tdiv 2 = (y + 1) / 2 := Int.tdiv_eq_ediv_of_nonneg (by omega)
        have HL := Lib.hid hlk
        clear hlk
        go_wp2
        go_region
        clear g1 g3
        go_wp2
        go_roundw
        case rel => exact ⟨k + 1, by omega, by go_num, HS2.out.1.drewN 1, HS2.out.2.drewN 1⟩
        case measure => simp [intOf] <;> omega
      · obtain rfl : k = l.length := by omega
        have Z : RowKit.Hid (RefMod wr base g r (learnP l s) false) := by
          have := H.out.1
          rw [← hlen.out, halfK_all, ← hln.out] at this
          exact this
        have HL := Lib.hid hlk
        clear hlk
        go_wp2
        go_end0
        exact ⟨rfl, Z.out, H.out.2⟩
  · have hln : RowKit.Hid (learnP l s = riseL l s) := by
      unfold learnP
      rw [← sumN_all, hlen.out, if_neg hbig]; exact rfl
    go_wp2_with (go_at_call 49; go_loud (refine (refSum_at base g r (riseL l s) false l.length _ _ (by omega) HS1.out.1 (by rw [hlen.out]; exact Nat.le_refl _) (by rw [hlen.out]; omega) HB.out).mono ?_); rintro e w' ⟨rfl, rfl⟩)
    go_end0
    exact ⟨rfl, by rw [hln.out]; exact HS1.out.1, HS1.out.2⟩

theorem ones_snoc (k : Nat) : List.replicate (k + 1) (1 : Int) = List.replicate k 1 ++ [1] := List.replicate_succ'

end Go.Proofs.Ytgnmnmjicjcffaa

/- What the document's encoder of layer 6 gives: a model's symbol; its bytes. -/
namespace Go.Proofs.Ytgnmnmjicjcffaa
open Go.RowKit
set_option linter.unusedVariables false

/-- What an encoder makes of a model's symbol. -/
def encSym (e : EncS) (l : List Int) (s : Nat) : EncS := encPut e (sumN l s) (l.getD s 0) l.sum
theorem okP_sym {l : List Int} (h : GoodL l) {s : Nat} (hs : s < l.length) : OkP (sumN l s) (l.getD s 0) l.sum := by
  have a := h.own hs
  have b := h.sum_le (n := s) (by omega)
  have c := sumN_succ l s hs
  have d := sumN_rise (l := l) (fun j hj => by have := h.2.2.1 j hj; omega) (m := s + 1) (n := l.length) (by omega) (Nat.le_refl _)
  rw [sumN_all] at d
  exact ⟨by omega, h.2.2.2, a.1, b.1, by omega⟩
/-- What a model has learnt then. -/
def nextL (l : List Int) (fx : Bool) (s : Nat) : List Int := if fx then l else learnP l s
/-- What a symbol's putting leaves: the encoder and the model. -/
def SymPost (base b2 g r mg mr : Nat) (f : EncS) (l : List Int) (fx : Bool) (w : World) (x : Ending) (w' : World) : Prop :=
  x = .returned (.tuple #[]) ∧ ∃ r' c', EncMem w' base g r' c' (digL f.n (f.k + 4)) f.s f.k ∧ RefMod w' b2 mg mr l fx ∧ Keeps (fun j => j = g ∨ j = r ∨ j = mr) w w' ∧ (r' = r ∨ w.heap.size ≤ r')

set_option maxRecDepth 100000 in
theorem refEncSymbol_any (base b2 g r c mg mr : Nat) (e : EncS) (l : List Int) (fx : Bool) (s : Nat) (w : World) (hE : EncMem w base g r c (digL e.n (e.k + 4)) e.s e.k) (hR : RefMod w b2 mg mr l fx) (hG : GoodE e) (hL : GoodL l) (hs : s < l.length) (hk : e.k ≤ 900000) (d1 : mg ≠ g) (d2 : mg ≠ r) (d3 : mr ≠ g) (d4 : mr ≠ r) :
    Calls Try.prog 33 #[.pointer (some ⟨g, 0, none⟩), .pointer (some ⟨mg, 0, none⟩), .int .i64 s] w (SymPost base b2 g r mg mr (encSym e l s) (nextL l fx s) fx w) := by
  obtain ⟨cm, h1, h2, h3⟩ := hR
  have HR := Lib.hid (show RefMod w b2 mg mr l fx from ⟨cm, h1, h2, h3⟩)
  have HE := Lib.hid hE
  have HG := Lib.hid hG
  have HL := Lib.hid hL
  have hl := hL.2.1
  have c0 := h1.cell 0
  simp only [List.getElem?_toArray, List.getElem?_cons_zero] at c0
  have hcell := HR.out.at_ hs
  have hb : ∀ j, j < l.length → 0 ≤ l.getD j 0 ∧ l.getD j 0 ≤ 4294967295 := fun j hj => by have := HL.out.own hj; omega
  have HB := Lib.hid hb
  have HOk := Lib.hid (okP_sym hL hs)
  have HS : RowKit.Hid (encSym e l s = encPut e (sumN l s) (l.getD s 0) l.sum) := rfl
  have HT := Lib.hid (sumN_all l)
  have hsl : (s : Int) < (l.length : Int) := by omega
  have HRd : RowKit.Hid (RefMod w.drew b2 mg mr l fx) := HR.out
  have HEd : RowKit.Hid (EncMem w.drew base g r c (digL e.n (e.k + 4)) e.s e.k) := HE.out
  clear h1 h2 h3 hE hG hL hb
  rw [HS.out]
  clear HS
  generalize l.getD s 0 = X2 at hcell HOk ⊢
  go_enter Try.func33, Try.ntmps33
  go_wp2
  go_still_tail 18, (by kernel_rfl)
  still_call ((refSum_at b2 mg mr l fx s _ _ (by omega) HRd.out (by omega) hl HB.out).mono fun _ _ h => ⟨h.1, h.2.symm⟩)
  repeat still_step
  still_call ((refSum_at b2 mg mr l fx l.length _ _ (by omega) HRd.out (by omega) hl HB.out).mono fun _ _ h => ⟨h.1, h.2.symm⟩)
  refine wpStill_nil ?_
  change wpList _ _ _ _ _ w.drew
  rw [HT.out]
  clear c0 hcell
  have hF : ∀ k : Nat, (k = g ∨ k = r) → (k = g ∨ k = r ∨ k = mr) := fun k h => by omega
  cases fx with
  | true =>
    go_wp2_with (first | (go_at_call 47; go_loud (refine (refEncPut_any base g r c e _ _ _ _ HEd.out HG.out HOk.out (by omega)).mono ?_); rintro e5 w5 ⟨rfl, hpost⟩; have HP5 := Lib.hid hpost; obtain ⟨r3, c3, u1, u2, u3⟩ := hpost; have HR5 := Lib.hid (HRd.out.keeps u2 (by omega) (by omega)); clear u1 u2 u3) | (go_at_call 50; go_loud (refine (refLearn_fixed b2 mg mr l _ _ HR5.out).mono ?_); rintro e6 w6 ⟨rfl, rfl⟩))
    go_end0
    obtain ⟨r3, c3, u1, u2, u3⟩ := HP5.out
    exact ⟨rfl, r3, c3, u1, HR5.out, ((Keeps.refl _ w).drewN 1).trans (u2.mono hF), u3⟩
  | false =>
    go_wp2_with (first | (go_at_call 47; go_loud (refine (refEncPut_any base g r c e _ _ _ _ HEd.out HG.out HOk.out (by omega)).mono ?_); rintro e5 w5 ⟨rfl, hpost⟩; have HP5 := Lib.hid hpost; obtain ⟨r3, c3, u1, u2, u3⟩ := hpost; have HR5 := Lib.hid (HRd.out.keeps u2 (by omega) (by omega)); clear u1 u2 u3) | (go_at_call 50; go_loud (refine (refLearn_any b2 mg mr l s _ HR5.out HL.out hs).mono ?_); rintro e6 w6 ⟨rfl, hm, hk6⟩; have HM6 := Lib.hid hm; have HK6 := Lib.hid hk6; clear hm hk6))
    go_end0
    obtain ⟨r3, c3, u1, u2, u3⟩ := HP5.out
    have hr3 := u1.lt
    refine ⟨rfl, r3, c3, u1.keeps HK6.out (by omega) ?_, HM6.out, (((Keeps.refl _ w).drewN 1).trans (u2.mono hF)).trans (HK6.out.mono fun k h => by omega), u3⟩
    intro hc
    have hsz : mr < w.heap.size := HR.out.lt.2.1
    rcases u3 with h | h
    · omega
    · have : w.heap.size ≤ r3 := h
      omega
theorem encSym_good {e : EncS} {l : List Int} {s : Nat} (hg : GoodE e) (hl : GoodL l) (hs : s < l.length) : GoodE (encSym e l s) := encPut_good hg (okP_sym hl hs)
theorem encSym_inside {e : EncS} {l : List Int} {s : Nat} (hg : GoodE e) (hl : GoodL l) (hs : s < l.length) : Inside e (encSym e l s) := encPut_inside hg (okP_sym hl hs)
theorem encSym_k (e : EncS) (l : List Int) (s : Nat) : (encSym e l s).k ≤ e.k + 2 := encPut_k e _ _ _
theorem nextL_good {l : List Int} (h : GoodL l) (fx : Bool) {s : Nat} (hs : s < l.length) : GoodL (nextL l fx s) ∧ (nextL l fx s).length = l.length := by
  cases fx with
  | true => exact ⟨h, rfl⟩
  | false => exact ⟨learnP_good h hs, learnP_len l s⟩
end Go.Proofs.Ytgnmnmjicjcffaa
