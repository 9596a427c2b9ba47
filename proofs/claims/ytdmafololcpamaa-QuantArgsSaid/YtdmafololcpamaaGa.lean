/- Plain facts, and what functions give, for the proofs of this seat: several texts in one, each with its own first remark. -/
import Derived.WalkKit
import Derived.WalkLawsBesides
import Derived.Handy
import Derived.Lib.Hide
import Derived.OpenShut
import Derived.OwnWalk
import Derived.Laws.OwnMore
import Derived.Laws.AppendOwnNone
import Derived.Laws.BytesString
import Derived.Maps.AppendAt
import Derived.Deep.AppendLies
import Derived.ProofKit
import Derived.ShutString
import Derived.ChangeOld
import Derived.Below
import Derived.Deep.Matrix
import Derived.IntWalk
import Derived.Laws.BitsAllLaws
import Derived.Test.YtdmafololcpamaaRows
import Derived.Deep.QuietTactic
import Derived.BigQuiet
import Derived.Laws.MathBits

/- Words of mine for memory: a block that is known whole, as a row of numbers. -/
namespace Go.Proofs.Ytdmafololcpamaa
open Go.RowKit
set_option linter.unusedVariables false

theorem ret_int {k : IntKind} {a b : Int} (h : a = b) : Ending.returned (.int k a) = .returned (.int k b) := by rw [h]
theorem ret_bool {a b : Bool} (h : a = b) : Ending.returned (.bool a) = .returned (.bool b) := by rw [h]

/-- Block g is just the numbers zs, of kind k and element type t; none is frozen. -/
def IRow (w : World) (g : Nat) (t : TypeId) (k : IntKind) (zs : List Int) : Prop := w.heap[g]? = some (.cells (zs.map (Value.int k)).toArray t (0, 0))
section
variable {w w' : World} {g : Nat} {t : TypeId} {k : IntKind} {zs : List Int}
theorem IRow.lt (h : IRow w g t k zs) : g < w.heap.size := by
  rcases Nat.lt_or_ge g w.heap.size with hlt | hge
  · exact hlt
  · unfold IRow at h; rw [Array.getElem?_eq_none hge] at h; cases h
theorem IRow.cell (h : IRow w g t k zs) {j : Nat} (hj : j < zs.length) : w.cell? ⟨g, j, none⟩ = some (.int k (zs.getD j 0)) := by
  rw [cell_of_row w g j _ t (0, 0) h]
  simp [List.getD, hj]
theorem IRow.frozen (h : IRow w g t k zs) (j : Nat) : w.frozen? ⟨g, j, none⟩ = false := by
  unfold IRow at h
  simp [World.frozen?, h]
theorem IRow.alloc (h : IRow w g t k zs) (o : Obj) : IRow (w.alloc o) g t k zs := (Below.heap_alloc w o g h.lt).trans h
theorem IRow.far (h : IRow w g t k zs) {p : Addr} (hp : g ≠ p.block) (u : Value) : IRow (w.setCell p u) g t k zs := (Below.heap_setCell w p u g hp).trans h
theorem IRow.below {B : Nat} (h : IRow w g t k zs) (hb : Below B w w') (hg : g < B) : IRow w' g t k zs := (hb.block g hg).trans h
theorem IRow.drew (h : IRow w g t k zs) : IRow w.drew g t k zs := h
theorem IRow.set (h : IRow w g t k zs) (j : Nat) (x : Int) : IRow (w.setCell ⟨g, j, none⟩ (.int k x)) g t k (zs.set j x) := by
  unfold IRow at h ⊢
  simp only [World.setCell, Array.getElem?_modify, if_true]
  rw [h]
  simp [List.map_set]
/-- A new block of n noughts. -/
theorem IRow.zeros (w : World) (t : TypeId) (k : IntKind) (n : Nat) : IRow (w.alloc (.cells (madeCells #[.int k 0] n) t)) w.heap.size t k (List.replicate n 0) := by
  unfold IRow
  rw [heap_alloc_new]
  have e : madeCells #[Value.int k 0] n = (List.map (Value.int k) (List.replicate n 0)).toArray := by
    apply Array.ext'
    rw [toList_madeCells_one]
    simp
  rw [e]
theorem IRow.lit (w : World) (t : TypeId) (k : IntKind) (zs : List Int) (cs : Array Value) (h : cs = (zs.map (Value.int k)).toArray) : IRow (w.alloc (.cells cs t)) w.heap.size t k zs := by
  subst h; exact heap_alloc_new w _
end
/-- 'make' of n noughts. -/
theorem make_zeros {P : Program} {t e : TypeId} {k : IntKind} {b : Nat} (ht : P.underlying t = some (.slice e)) (hi : (P.info? e).map (fun i => (i.zero, i.size, i.bytes)) = some (some (.int k 0), 1, b))
    (n : Nat) (hb : b * n ≤ 281474976710656) (hn : n ≤ 9223372036854775807) (w : World) :
    (Instr.makeSlice t (.int .i64 (n : Int)) (.int .i64 (n : Int))).run P w = .ok (.slice (some ⟨w.heap.size, 0, none⟩) n n) (w.alloc (.cells (madeCells #[.int k 0] n) e)) := by
  obtain ⟨i, h1, h2, h3, h4⟩ := info_parts hi
  have hb' : (i.bytes : Int) * (n : Int) ≤ 281474976710656 := by
    have h : ((i.bytes * n : Nat) : Int) ≤ 281474976710656 := by rw [h4]; omega
    rwa [Int.natCast_mul] at h
  have hr := run_make (P := P) w t e i (.int k 0) ht h1 h2 .i64 .i64 n n (by omega) (Int.le_refl _) hb' (by omega)
  rw [hr, h3]
  simp [Value.cells]
theorem chain {a b c : World} (h : Below a.heap.size a b) (k : Below b.heap.size b c) : Below a.heap.size a c := h.trans (k.mono h.size)
theorem Below.alloc_new (w : World) (o : Obj) : Below w.heap.size w (w.alloc o) := (Below.refl _ _).alloc (Nat.le_refl _) o
/-- What is known of a slice of numbers that came in, or that the call made: it is empty, or it leads to its numbers, which lie below block B. -/
def IntsAt (w : World) (B : Nat) (k : IntKind) (a : Option Addr) (len : Nat) (zs : List Int) : Prop :=
  zs.length = len ∧ (len = 0 ∨ ∃ b off, a = some ⟨b, off, none⟩ ∧ b < B ∧ len ≤ 9223372036854775807 ∧ ∀ j, j < len → w.cell? ⟨b, off + j, none⟩ = some (.int k (zs.getD j 0)))
theorem IntsAt.below {w w' : World} {B len : Nat} {k : IntKind} {a : Option Addr} {zs : List Int} (h : IntsAt w B k a len zs) (hb : Below B w w') : IntsAt w' B k a len zs := by
  obtain ⟨h1, h2⟩ := h
  refine ⟨h1, ?_⟩
  rcases h2 with h2 | ⟨b, off, e, h3, h4, h5⟩
  · exact .inl h2
  · exact .inr ⟨b, off, e, h3, h4, fun j hj => (hb.cell (p := ⟨b, off + j, none⟩) h3).trans (h5 j hj)⟩
theorem Below.drewN' {B : Nat} {a w : World} (h : Below B a w) (n : Nat) : Below B a (w.drewN n) := ⟨h.os, h.tape, h.output, h.size, h.block⟩
theorem IRow.drewN {w : World} {g : Nat} {t : TypeId} {k : IntKind} {zs : List Int} (h : IRow w g t k zs) (n : Nat) : IRow (w.drewN n) g t k zs := h
theorem cell_block {w : World} {p : Addr} {v : Value} (h : w.cell? p = some v) : p.block < w.heap.size := by
  rcases Nat.lt_or_ge p.block w.heap.size with hlt | hge
  · exact hlt
  · unfold World.cell? at h
    rw [Array.getElem?_eq_none hge] at h
    simp at h
/-- From what the frame of a statement says of a slice of numbers that came in. -/
theorem ints_in {w : World} {k : IntKind} {a : Option Addr} {len cap : Nat} {zs : List Int}
    (h : (a = none ∧ len = 0 ∧ cap = 0 ∧ zs = []) ∨ ∃ x, a = some x ∧ len ≤ cap ∧ cap ≤ maxLen ∧ zs.length = cap ∧ (∀ i, i < zs.length → w.cell? (x.add i) = some (.int k (zs.getD i 0))) ∧ ∀ n ∈ zs, (Lit.int k n).wf = true) :
    IntsAt w w.heap.size k a len (zs.take len) ∧ (∀ n ∈ zs.take len, (Lit.int k n).wf = true) ∧ len ≤ 9223372036854775807 := by
  rcases h with ⟨rfl, rfl, rfl, rfl⟩ | ⟨x, rfl, hl, hm, hz, hc, hw⟩
  · exact ⟨⟨rfl, .inl rfl⟩, by simp, by omega⟩
  · unfold maxLen at hm
    refine ⟨⟨by simp; omega, ?_⟩, fun n hn => hw n (List.mem_of_mem_take hn), by omega⟩
    by_cases h0 : len = 0
    · exact .inl h0
    · obtain ⟨b, off, rfl, hc'⟩ := ints_at hc (by omega)
      refine .inr ⟨b, off, rfl, ?_, by omega, fun j hj => ?_⟩
      · exact cell_block (hc' 0 (by omega))
      · rw [hc' j (by omega)]; simp [List.getD, hj]
theorem IntsAt.at_ {w : World} {B len : Nat} {k : IntKind} {a : Option Addr} {zs : List Int} (h : IntsAt w B k a len zs) {j : Nat} (hj : j < len) :
    ∃ b off, a = some ⟨b, off, none⟩ ∧ b < B ∧ len ≤ 9223372036854775807 ∧ w.cell? ⟨b, off + j, none⟩ = some (.int k (zs.getD j 0)) := by
  rcases h.2 with h | ⟨b, off, e, h1, h2, h3⟩
  · omega
  · exact ⟨b, off, e, h1, h2, h3 j hj⟩
theorem own_base {w : World} {base e size n : Nat} {v : Value} {xs : List Value} (h : w.ownsRow base e size v n xs) (g : Nat) (hg : v.ownBlock = some g) : base ≤ g := by
  rcases h.2 with ⟨rfl, _⟩ | ⟨g', cap, cur, rfl, hb, _⟩
  · simp [Value.ownBlock] at hg
  · simp [Value.ownBlock] at hg; omega
theorem own_below {w w' : World} {base e size n : Nat} {v : Value} {xs : List Value} (h : w.ownsRow base e size v n xs) (hb : Below w.heap.size w w') : w'.ownsRow base e size v n xs := by
  refine ⟨h.1, ?_⟩
  rcases h.2 with h0 | ⟨g, cap, cur, h1, h2, h3, h4⟩
  · exact .inl h0
  · have hg : g < w.heap.size := by
      rcases Nat.lt_or_ge g w.heap.size with hlt | hge
      · exact hlt
      · rw [Array.getElem?_eq_none hge] at h3; cases h3
    exact .inr ⟨g, cap, cur, h1, h2, (hb.block g hg).trans h3, h4⟩
theorem own_ints {w : World} {base e n : Nat} {v : Value} {k : IntKind} {zs : List Int} (h : w.ownsRow base e 1 v n (zs.map (Value.int k))) : ∃ a c, v = .slice a n c ∧ IntsAt w w.heap.size k a n zs := by
  have hl : zs.length = n := by have := h.1; simpa using this
  rcases h.2 with ⟨rfl, rfl⟩ | ⟨g, cap, cur, rfl, hb, hh, hn, hc, hs, ht⟩
  · exact ⟨none, 0, rfl, hl, .inl rfl⟩
  · have hg : g < w.heap.size := by
      rcases Nat.lt_or_ge g w.heap.size with hlt | hge
      · exact hlt
      · rw [Array.getElem?_eq_none hge] at hh; cases hh
    refine ⟨_, cap, rfl, hl, .inr ⟨g, 0, rfl, hg, by unfold maxLen at hc; omega, fun j hj => ?_⟩⟩
    rw [Nat.zero_add, h.cellAt j (by omega)]
    simp [List.getD, hl, hj]
/-- The first k of n places filled by f, the rest noughts. -/
def fillTo (f : Nat → Int) (n k : Nat) : List Int := (List.range k).map f ++ List.replicate (n - k) 0
theorem fillTo_zero (f : Nat → Int) (n : Nat) : fillTo f n 0 = List.replicate n 0 := by simp [fillTo]
theorem fillTo_all (f : Nat → Int) (n : Nat) : fillTo f n n = (List.range n).map f := by simp [fillTo]
theorem fillTo_len (f : Nat → Int) {n k : Nat} (h : k ≤ n) : (fillTo f n k).length = n := by simp [fillTo]; omega
theorem fillTo_getD (f : Nat → Int) {n k j : Nat} (h : j < k) (hk : k ≤ n) : (fillTo f n k).getD j 0 = f j := by
  unfold fillTo
  simp [List.getD, List.getElem?_append, h]
theorem fillTo_set (f : Nat → Int) {n k : Nat} (h : k < n) : (fillTo f n k).set k (f k) = fillTo f n (k + 1) := by
  apply List.ext_getElem?
  intro j
  unfold fillTo
  rw [List.getElem?_set]
  rcases Nat.lt_trichotomy j k with a | a | a
  · simp [List.getElem?_append, show ¬ k = j by omega, a, show j < k + 1 by omega]
  · subst a
    simp [List.getElem?_append, show j + (n - j) = n by omega, h]
  · simp only [List.getElem?_append, List.length_map, List.length_range, List.getElem?_replicate]
    repeat' split
    all_goals first | rfl | (exfalso; omega)
end Go.Proofs.Ytdmafololcpamaa

/- Words of mine for memory: rows that the call owns, what is appended onto them, bytes as a text, slices of slices. -/
namespace Go.Proofs.Ytdmafololcpamaa
open Go.RowKit
set_option linter.unusedVariables false

theorem IntsAt.grow {w : World} {B B' len : Nat} {k : IntKind} {a : Option Addr} {zs : List Int} (h : IntsAt w B k a len zs) (hB : B ≤ B') : IntsAt w B' k a len zs := by
  obtain ⟨h1, h2⟩ := h
  refine ⟨h1, ?_⟩
  rcases h2 with h2 | ⟨b, off, e, h3, h4, h5⟩
  · exact .inl h2
  · exact .inr ⟨b, off, e, by omega, h4, h5⟩
theorem IntsAt.now {w w' : World} {B len : Nat} {k : IntKind} {a : Option Addr} {zs : List Int} (h : IntsAt w B k a len zs) (hb : Below B w w') (hB : B ≤ w.heap.size) : IntsAt w' w'.heap.size k a len zs :=
  (h.below hb).grow (Nat.le_trans hB hb.size)
theorem own_ints' {w : World} {base e n c : Nat} {a : Option Addr} {k : IntKind} {zs : List Int} (h : w.ownsRow base e 1 (.slice a n c) n (zs.map (Value.int k))) : IntsAt w w.heap.size k a n zs := by
  obtain ⟨a', c', e1, h2⟩ := own_ints h
  obtain rfl : a = a' := by injection e1
  exact h2
/-- The cells that an append looks for at its source. -/
theorem IntsAt.src {w w' : World} {B len : Nat} {k : IntKind} {ad : Addr} {zs : List Int} (h : IntsAt w B k (some ad) len zs) (hb : Below B w w') :
    ∀ j u, (zs.map (Value.int k))[j]? = some u → w'.cell? (ad.add j) = some u := by
  intro j u hj
  have hl := h.1
  rw [List.getElem?_map] at hj
  obtain ⟨x, hx, rfl⟩ := Option.map_eq_some_iff.1 hj
  have hjl : j < len := by
    have := (List.getElem?_eq_some_iff.1 hx).1
    omega
  obtain ⟨b', off', e, hbB, _, hc⟩ := h.2.resolve_left (by omega)
  obtain rfl : ad = ⟨b', off', none⟩ := by injection e
  have e2 : (⟨b', off', none⟩ : Addr).add j = ⟨b', off' + j, none⟩ := by unfold Addr.add; split <;> simp_all
  rw [e2, hb.cell (p := ⟨b', off' + j, none⟩) hbB, hc j hjl]
  simp [List.getD, hx]
/-- What a value looks like that owns a row: a slice of that length. -/
theorem own_form {w : World} {base e n : Nat} {v : Value} {k : IntKind} {zs : List Int} (h : w.ownsRow base e 1 v n (zs.map (Value.int k))) : ∃ a c, v = .slice a n c := by
  obtain ⟨a, c, e1, _⟩ := own_ints h
  exact ⟨a, c, e1⟩
theorem own_lt {w : World} {base e size n : Nat} {v : Value} {xs : List Value} (h : w.ownsRow base e size v n xs) (g : Nat) (hg : v.ownBlock = some g) : g < w.heap.size := by
  rcases h.2 with ⟨rfl, _⟩ | ⟨g', cap, cur, rfl, hb, hh, _⟩
  · simp [Value.ownBlock] at hg
  · simp [Value.ownBlock] at hg
    subst hg
    rcases Nat.lt_or_ge g' w.heap.size with hlt | hge
    · exact hlt
    · rw [Array.getElem?_eq_none hge] at hh; cases hh
/-- What is owned stays owned where another row alone was written. -/
theorem own_grown {w w' : World} {base e size n : Nat} {v : Value} {xs : List Value} {row : Option Nat} (h : w.ownsRow base e size v n xs) (hg : w.grownBy w' row) (hne : ∀ g, v.ownBlock = some g → some g ≠ row) : w'.ownsRow base e size v n xs := by
  refine ⟨h.1, ?_⟩
  rcases h.2 with h0 | ⟨g, cap, cur, h1, h2, h3, h4⟩
  · exact .inl h0
  · have hl := own_lt h g (by rw [h1]; rfl)
    exact .inr ⟨g, cap, cur, h1, h2, (hg.block g hl (hne g (by rw [h1]; rfl))).trans h3, h4⟩

/-- append(s, x...) where s is a row of the call's own, and x any slice of numbers, nil too. -/
theorem append_ints {P : Program} {w : World} {ops : Array Oper} {rest : List Oper} {o : Oper} {a : Act} {Q : Exit → Act → World → Prop} (hgd : o.guard = none) (s x : Operand) (t : TypeId)
    (ho : o.op = .call { callee := .builtin .append, args := #[s, x], argTypes := #[t, t] })
    (base : Nat) (e : TypeId) (k : IntKind) (by' : Nat) (ht : P.underlying t = some (.slice e)) (hi : (P.info? e).map (fun i => (i.zero, i.size, i.bytes)) = some (some (.int k 0), 1, by'))
    (v : Value) (n : Nat) (zs : List Int) (hs : a.eval s = v) (hown : w.ownsRow base e 1 v n (zs.map (Value.int k)))
    (A : Option Addr) (m c B : Nat) (ys : List Int) (hx : a.eval x = .slice A m c) (hsrc : IntsAt w B k A m ys) (hnone : A = none → c = 0)
    (h63 : n + m ≤ maxLen) (hbytes : (n + m) * by' ≤ 140737488355328) (hbase : base ≤ w.heap.size)
    (h : ∀ v' w', w'.ownsRow base e 1 v' (n + m) ((zs ++ ys).map (Value.int k)) → w.grownBy w' v.ownBlock → (v'.ownBlock = v.ownBlock ∨ v'.ownBlock = some w.heap.size) → wpList P ops Q rest (a.put o.dst v') w') :
    wpList P ops Q (o :: rest) a w := by
  obtain ⟨i, h1, h2, h3, h4⟩ := info_parts hi
  cases A with
  | none =>
    have hm : m = 0 := by
      rcases hsrc.2 with h0 | ⟨b, off, e', _⟩
      · exact h0
      · cases e'
    subst hm
    have hy : ys = [] := List.eq_nil_of_length_eq_zero hsrc.1
    subst hy
    obtain rfl := hnone rfl
    refine wpList_append_own_none hgd s x t ho base e i 1 ht h1 v n _ hs hown hx (h v w ?_ (World.grownBy.refl w _) (.inl rfl))
    simpa using hown
  | some ad =>
    refine wpList_append_own_at w hgd s x t ho base e i (.int k 0) 1 by' ht h1 h2 h3 h4 rfl (by decide) v n _ hs hown ad m c (ys.map (Value.int k)) hx (by simp [hsrc.1]) (hsrc.src (Below.refl _ _)) (ints_oneCell _ _) h63 hbytes hbase ?_
    intro v' w' g1 g2 _ g4
    exact h v' w' (by simpa using g1) g2 g4

/-- Bytes as a text. -/
def textOf (ys : List Int) : ByteArray := ys.foldl (fun r n => r.push (UInt8.ofNat n.toNat)) ByteArray.empty
theorem string_of_ints {P : Program} {w : World} {src dst e : TypeId} {A : Option Addr} {m c B : Nat} {ys : List Int} (hs : P.underlying src = some (.slice e)) (he : P.underlying e = some (.int .u8)) (hd : P.underlying dst = some .string)
    (h : IntsAt w B .u8 A m ys) : (convert src dst (.slice A m c)).run P w = .ok (.string (textOf ys)) w := by
  rw [run_convert_bytes_string w src dst e A m c hs he hd]
  cases A with
  | none =>
    have hm : m = 0 := by
      rcases h.2 with h0 | ⟨b, off, e', _⟩
      · exact h0
      · cases e'
    subst hm
    have hy : ys = [] := List.eq_nil_of_length_eq_zero h.1
    subst hy
    rfl
  | some ad =>
    refine run_bytesToString w ad m c ys ?_
    have := run_loadCells_list (P := P) w ad (ys.map (Value.int .u8)) (h.src (Below.refl _ _))
    rw [List.length_map, h.1] at this
    exact this

/-- A new row of numbers, whatever mark it bears. -/
theorem lit_ints (w : World) (t : TypeId) (k : IntKind) (zs : List Int) (cs : Array Value) (fr : Nat × Nat) (h : cs = (zs.map (Value.int k)).toArray) (hm : zs.length ≤ 9223372036854775807) :
    IntsAt (w.alloc (.cells cs t fr)) (w.alloc (.cells cs t fr)).heap.size k (some ⟨w.heap.size, 0, none⟩) zs.length zs := by
  refine ⟨rfl, .inr ⟨_, 0, rfl, by simp, hm, fun j hj => ?_⟩⟩
  rw [Nat.zero_add, cell_of_row _ _ j cs t fr (heap_alloc_new w _)]
  subst h
  simp [List.getD, hj]

/-- What is known of a slice of slices of numbers that came in. -/
def RowsIn (w : World) (k : IntKind) (a : Option Addr) (len : Nat) (A : Nat → Option Addr) (L C : Nat → Nat) (Z : Nat → List Int) : Prop :=
  len ≤ 9223372036854775807 ∧ (len = 0 ∨ ∃ b off, a = some ⟨b, off, none⟩ ∧ b < w.heap.size ∧
    ∀ r, r < len → w.cell? ⟨b, off + r, none⟩ = some (.slice (A r) (L r) (C r)) ∧ L r ≤ 9223372036854775807 ∧ (A r = none → C r = 0) ∧ IntsAt w w.heap.size k (A r) (L r) (Z r) ∧ ∀ n ∈ Z r, (Lit.int k n).wf = true)
end Go.Proofs.Ytdmafololcpamaa

/- From a reading of an argument to what the walks are told of it: slices of slices of numbers. -/
namespace Go.Proofs.Ytdmafololcpamaa
open Go.ChangeShapes Go.WideShapes Go.ChangeAt Go.RowKit Go.Deep
set_option linter.unusedVariables false

theorem addr_plain {w : World} {a : Addr} {v : Value} (h : w.cell? (a.add 0) = some v) : ∃ b off, a = ⟨b, off, none⟩ := by
  obtain ⟨b, off, spot⟩ := a
  have hs : spot = none := by simpa [Addr.add] using World.cell?_spot h
  subst hs
  exact ⟨b, off, rfl⟩

theorem rows_in {P : Program} {H : Type} {enc : TypeId × Value → H} {w : World} {base : Nat} {held : Bool} {t e q : TypeId} {k : IntKind} {fuel : Nat} {a : Option Addr} {len cap : Nat} {x : DataW H × List MemPlace}
    (ht : P.underlying t = some (.slice e)) (he : P.underlying e = some (.slice q)) (hq : P.underlying q = some (.int k)) (ce : P.cellsOf e = 1) (cq : P.cellsOf q = 1)
    (h : DataW.trod enc P w base (fun _ => true) held fuel t (Value.slice a len cap).cells.toList = some x) : ∃ A L C Z, RowsIn w k a len A L C Z := by
  rcases open_int_rows ht he hq ce cq h with ⟨hcs, _⟩ | ⟨a', len', cap', A, L, C, Z, hcs, _, hl, hm, _, hr⟩
  · simp [Value.cells] at hcs
    obtain ⟨rfl, rfl, rfl⟩ := hcs
    exact ⟨fun _ => none, fun _ => 0, fun _ => 0, fun _ => [], by omega, .inl rfl⟩
  · simp [Value.cells] at hcs
    obtain ⟨rfl, rfl, rfl⟩ := hcs
    unfold maxLen at hm
    refine ⟨A, L, C, fun r => (Z r).take (L r), by omega, ?_⟩
    by_cases h0 : len = 0
    · exact .inl h0
    · obtain ⟨b, off, rfl⟩ := addr_plain (hr 0 (by omega)).1
      refine .inr ⟨b, off, rfl, ?_, fun r hrl => ?_⟩
      · have := (hr 0 (by omega)).1
        rw [Go.WideShapes.add_plain] at this
        exact cell_block this
      · obtain ⟨g1, g2, g3, g4, g5, g6, g7⟩ := hr r (by omega)
        unfold maxLen at g3
        rw [Go.WideShapes.add_plain] at g1
        refine ⟨g1, by omega, g6, ⟨by simp; omega, ?_⟩, fun n hn => g5 n (List.mem_of_mem_take hn)⟩
        by_cases hL : L r = 0
        · exact .inl hL
        · cases hA : A r with
          | none => have := g6 hA; omega
          | some a' =>
            obtain ⟨_, hc⟩ := g7 a' hA
            obtain ⟨b', off', rfl⟩ := addr_plain (hc 0 (by omega))
            refine .inr ⟨b', off', rfl, ?_, by omega, fun j hj => ?_⟩
            · have := hc 0 (by omega)
              rw [Go.WideShapes.add_plain] at this
              exact cell_block this
            · have := hc j (by omega)
              rw [Go.WideShapes.add_plain] at this
              rw [this]
              simp [List.getD, hj]
end Go.Proofs.Ytdmafololcpamaa

/- Plain facts of numbers, for the statements of layer 1: what is held, what is rounded, what a root is. Nothing here speaks of the program. -/
namespace Go.Proofs.Ytdmafololcpamaa
open Go

/-- A number that is not reckoned by unfolding. -/
noncomputable def hideI (x : Int) : Int := @Classical.epsilon Int ⟨0⟩ (fun y => y = x)
theorem hideI_eq (x : Int) : hideI x = x := Classical.epsilon_spec (p := fun y => y = x) ⟨x, rfl⟩

/-- 2 to the k. -/
def P2 (k : Nat) : Int := 2 ^ k
theorem P2_zero : P2 0 = 1 := rfl
theorem P2_succ (k : Nat) : P2 (k + 1) = P2 k * 2 := by unfold P2; rw [Int.pow_succ]
theorem P2_pos (k : Nat) : 1 ≤ P2 k := by
  induction k with
  | zero => decide
  | succ k ih => rw [P2_succ]; omega
theorem P2_mono {a b : Nat} (h : a ≤ b) : P2 a ≤ P2 b := by
  induction b with
  | zero => obtain rfl : a = 0 := by omega
            exact Int.le_refl _
  | succ b ih =>
    rcases Nat.lt_or_ge a (b + 1) with h' | h'
    · have := ih (by omega); have := P2_pos b; rw [P2_succ]; omega
    · obtain rfl : a = b + 1 := by omega
      exact Int.le_refl _
theorem P2_62 : P2 62 = 4611686018427387904 := by decide
theorem P2_63 : P2 63 = 9223372036854775808 := by decide
theorem P2_le61 {k : Nat} (h : k ≤ 61) : P2 k ≤ 2305843009213693952 := by have := P2_mono h; rw [show P2 61 = 2305843009213693952 by decide] at this; exact this
theorem P2_le62 {k : Nat} (h : k ≤ 62) : P2 k ≤ 4611686018427387904 := by have := P2_mono h; rw [P2_62] at this; exact this
theorem P2_le63 {k : Nat} (h : k ≤ 63) : P2 k ≤ 9223372036854775808 := by have := P2_mono h; rw [P2_63] at this; exact this

/-! ### held -/
/-- n, held to b bits. -/
def satP (n b : Int) : Int := if b < 1 ∨ 64 < b then 0 else if n < -(P2 (b.toNat - 1)) then -(P2 (b.toNat - 1)) else if P2 (b.toNat - 1) - 1 < n then P2 (b.toNat - 1) - 1 else n
theorem satP_out {n b : Int} (h : b < 1 ∨ 64 < b) : satP n b = 0 := if_pos h
theorem greatest_all : ∀ k : Nat, k < 64 → (9223372036854775807 : Nat) / 2 ^ (63 - k) = 2 ^ k - 1 := by decide
theorem greatest_eq {b : Int} (h1 : 1 ≤ b) (h2 : b ≤ 64) : (9223372036854775807 : Int) / 2 ^ (64 - b).toNat = P2 (b.toNat - 1) - 1 := by
  have h := greatest_all (b.toNat - 1) (by omega)
  have e : (64 - b).toNat = 63 - (b.toNat - 1) := by omega
  have p := P2_pos (b.toNat - 1)
  have c : ((2 ^ (b.toNat - 1) : Nat) : Int) = P2 (b.toNat - 1) := by simp [P2]
  have q : (1 : Nat) ≤ 2 ^ (b.toNat - 1) := Nat.one_le_two_pow
  rw [e]
  have h' : ((9223372036854775807 / 2 ^ (63 - (b.toNat - 1)) : Nat) : Int) = ((2 ^ (b.toNat - 1) - 1 : Nat) : Int) := by rw [h]
  rw [Int.natCast_ediv, Int.ofNat_sub q, c] at h'
  simpa using h'
theorem satP_in {n b : Int} (h1 : 1 ≤ b) (h2 : b ≤ 64) : satP n b = if n < -(P2 (b.toNat - 1)) then -(P2 (b.toNat - 1)) else if P2 (b.toNat - 1) - 1 < n then P2 (b.toNat - 1) - 1 else n := by
  unfold satP; rw [if_neg (by omega)]
theorem satP_bd (n b : Int) : -9223372036854775808 ≤ satP n b ∧ satP n b ≤ 9223372036854775807 := by
  unfold satP
  split
  · omega
  · rename_i h
    have p := P2_pos (b.toNat - 1)
    have q := P2_le63 (k := b.toNat - 1) (by omega)
    split
    · omega
    · split <;> omega
theorem satP_bd32 (n : Int) : -2147483648 ≤ satP n 32 ∧ satP n 32 ≤ 2147483647 := by
  have e : P2 ((32 : Int).toNat - 1) = 2147483648 := by decide
  rw [satP_in (by decide) (by decide), e]
  split
  · omega
  · split <;> omega
theorem satP_self {n b : Int} (h1 : 1 ≤ b) (h2 : b ≤ 64) (h3 : -(P2 (b.toNat - 1)) ≤ n) (h4 : n ≤ P2 (b.toNat - 1) - 1) : satP n b = n := by
  rw [satP_in h1 h2, if_neg (by omega), if_neg (by omega)]

/-! ### sums, each held -/
def addH (a b : Int) : Int := if 9223372036854775807 < a + b then 9223372036854775807 else if a + b < -9223372036854775808 then -9223372036854775808 else a + b
theorem addH_bd (a b : Int) : -9223372036854775808 ≤ addH a b ∧ addH a b ≤ 9223372036854775807 := by unfold addH; split; · omega
                                                                                                     split <;> omega
def addP (l : List Int) : Int := l.foldl addH 0
theorem addP_nil : addP [] = 0 := rfl
theorem addP_snoc (l : List Int) (x : Int) : addP (l ++ [x]) = addH (addP l) x := by simp [addP, List.foldl_append]
theorem addP_bd (l : List Int) : -9223372036854775808 ≤ addP l ∧ addP l ≤ 9223372036854775807 := by
  rcases List.eq_nil_or_concat l with h | ⟨l', x, h⟩
  · subst h; decide
  · subst h; rw [List.concat_eq_append, addP_snoc]; exact addH_bd _ _
theorem take_snocI (zs : List Int) (k : Nat) (h : k < zs.length) : zs.take (k + 1) = zs.take k ++ [zs.getD k 0] := by
  rw [List.take_succ_eq_append_getElem h]; simp [List.getD, h]
theorem addP_take (zs : List Int) (k : Nat) (h : k < zs.length) : addP (zs.take (k + 1)) = addH (addP (zs.take k)) (zs.getD k 0) := by
  rw [take_snocI zs k h, addP_snoc]

/-! ### rounded -/
/-- n divided by 2 to the b, to the nearest, halves upwards. -/
def rndP (n b : Int) : Int := if b < 0 ∨ 62 < b then 0 else (n + P2 b.toNat / 2) / P2 b.toNat
theorem rndP_out {n b : Int} (h : b < 0 ∨ 62 < b) : rndP n b = 0 := if_pos h
theorem rndP_zero (n : Int) : rndP n 0 = n := by unfold rndP; simp [P2]
theorem rndP_in {n b : Int} (h1 : 0 ≤ b) (h2 : b ≤ 62) : rndP n b = (n + P2 b.toNat / 2) / P2 b.toNat := by unfold rndP; rw [if_neg (by omega)]
/-- The floor, and the highest bit that is lost. -/
theorem rndP_bits {n b : Int} (h1 : 1 ≤ b) (h2 : b ≤ 62) : rndP n b = n / 2 ^ b.toNat + n / 2 ^ (b.toNat - 1) % 2 := by
  obtain ⟨k, hk⟩ : ∃ k : Nat, b.toNat = k + 1 := ⟨b.toNat - 1, by omega⟩
  rw [rndP_in (by omega) h2, hk, P2_succ]
  have e : (2 : Int) ^ (k + 1) = P2 k * 2 := P2_succ k
  have e' : (2 : Int) ^ (k + 1 - 1) = P2 k := rfl
  have p := P2_pos k
  rw [e, e', Int.mul_ediv_cancel _ (by decide), ← Int.ediv_ediv_of_nonneg (by omega), ← Int.ediv_ediv_of_nonneg (by omega)]
  have a : (n + P2 k) / P2 k = n / P2 k + 1 := by rw [Int.add_ediv_of_dvd_right ⟨1, by omega⟩, Int.ediv_self (by omega)]
  rw [a]; omega
theorem half_bits {n : Int} {k : Nat} (h : -9223372036854775808 ≤ n) (h' : n ≤ 9223372036854775807) : -9223372036854775808 ≤ n / 2 ^ k ∧ n / 2 ^ k ≤ 9223372036854775807 := by
  have e : (2 : Int) ^ k = P2 k := rfl
  have p := P2_pos k
  rw [e]
  refine ⟨Int.le_ediv_of_mul_le (by omega) ?_, ?_⟩
  · have : -9223372036854775808 * P2 k ≤ -9223372036854775808 * 1 := Int.mul_le_mul_of_nonpos_left (by decide) p
    omega
  · by_cases h0 : n < 0
    · have := Int.ediv_neg_of_neg_of_pos h0 (show 0 < P2 k by omega); omega
    · have := Int.ediv_le_self (P2 k) (show 0 ≤ n by omega); omega
theorem rndP_bd {n b : Int} (h : -9223372036854775808 ≤ n) (h' : n ≤ 9223372036854775807) : -9223372036854775808 ≤ rndP n b ∧ rndP n b ≤ 9223372036854775807 := by
  by_cases h0 : b < 0 ∨ 62 < b
  · rw [rndP_out h0]; omega
  · by_cases h1 : b = 0
    · subst h1; rw [rndP_zero]; omega
    · have hk : 1 ≤ b.toNat := by omega
      obtain ⟨k, hk⟩ : ∃ k : Nat, b.toNat = k + 1 := ⟨b.toNat - 1, by omega⟩
      rw [rndP_bits (by omega) (by omega)]
      have := half_bits (k := b.toNat - 1) h h'
      have e : n / 2 ^ b.toNat = n / 2 ^ (b.toNat - 1) / 2 := by
        have e1 : (2 : Int) ^ (b.toNat) = 2 ^ (b.toNat - 1) * 2 := by rw [hk, Int.pow_succ]; rfl
        have p := P2_pos (b.toNat - 1)
        unfold P2 at p
        rw [e1, Int.ediv_ediv_of_nonneg (by omega)]
      rw [e]; omega
theorem i64_and1 (n : Int) : bits .and .i64 n 1 = n % 2 := by
  have h1 : (BitVec.ofInt 64 1).toNat = 2 ^ 1 - 1 := by decide
  have key : (BitVec.ofInt 64 n &&& BitVec.ofInt 64 1).toNat = (n % ((2 ^ 64 : Nat) : Int)).toNat % 2 ^ 1 := by
    rw [BitVec.toNat_and, BitVec.toNat_ofInt, h1, Nat.and_two_pow_sub_one_eq_mod]
  show IntKind.i64.wrap ((BitVec.ofInt 64 n &&& BitVec.ofInt 64 1).toNat : Nat) = n % 2
  rw [key, IntKind.wrap_i64]
  omega
/-- By quotient and remainder towards nought, as the document's answer reckons. -/
theorem rnd_quo {n d q r : Int} (hd : 1 ≤ d) (hq : q = n.tdiv d) (hr : r = n.tmod d) :
    n / d = (if r < 0 then q - 1 else q) ∧ n % d = (if r < 0 then r + d else r) := by
  have hs := Int.mul_tdiv_add_tmod n d
  rw [← hq, ← hr] at hs
  have hlt : r < d := by rw [hr]; exact Int.tmod_lt_of_pos _ (by omega)
  have hgt : -d < r := by
    rw [hr]
    have := Int.tmod_lt_of_pos (-n) (show 0 < d by omega)
    rw [Int.neg_tmod] at this; omega
  split
  · rename_i h0
    have e : n = (r + d) + d * (q - 1) := by rw [Int.mul_sub, Int.mul_one]; omega
    have := (Int.ediv_emod_unique (a := n) (b := d) (r := r + d) (q := q - 1) (by omega)).mpr ⟨e.symm, by omega, by omega⟩
    exact this
  · have := (Int.ediv_emod_unique (a := n) (b := d) (r := r) (q := q) (by omega)).mpr ⟨by omega, by omega, by omega⟩
    exact this
theorem rnd_floor {n d : Int} (hd : 1 ≤ d) (he : d % 2 = 0) : (n + d / 2) / d = n / d + if d ≤ 2 * (n % d) then 1 else 0 := by
  have hs := Int.mul_ediv_add_emod n d
  have h0 := Int.emod_nonneg n (show d ≠ 0 by omega)
  have h1 := Int.emod_lt_of_pos n (show 0 < d by omega)
  split
  · rename_i h2
    refine ((Int.ediv_emod_unique (a := n + d / 2) (b := d) (r := n % d + d / 2 - d) (q := n / d + 1) (by omega)).mpr ⟨?_, by omega, by omega⟩).1
    rw [Int.mul_add, Int.mul_one]; omega
  · rename_i h2
    refine ((Int.ediv_emod_unique (a := n + d / 2) (b := d) (r := n % d + d / 2) (q := n / d + 0) (by omega)).mpr ⟨?_, by omega, by omega⟩).1
    rw [Int.add_zero]; omega
theorem rndP_even {b : Int} (h : 1 ≤ b) : P2 b.toNat % 2 = 0 := by
  obtain ⟨k, hk⟩ : ∃ k : Nat, b.toNat = k + 1 := ⟨b.toNat - 1, by omega⟩
  rw [hk, P2_succ]; omega
theorem P2_two {b : Int} (h : 1 ≤ b) : 2 ≤ P2 b.toNat := by
  obtain ⟨k, hk⟩ : ∃ k : Nat, b.toNat = k + 1 := ⟨b.toNat - 1, by omega⟩
  rw [hk, P2_succ]; have := P2_pos k; omega

theorem tmod_bd {n d : Int} (hd : 1 ≤ d) : -d < n.tmod d ∧ n.tmod d < d := by
  refine ⟨?_, Int.tmod_lt_of_pos _ (by omega)⟩
  have := Int.tmod_lt_of_pos (-n) (show 0 < d by omega)
  rw [Int.neg_tmod] at this; omega
theorem tdiv_bd2 {n d : Int} (hd : 2 ≤ d) (h : -9223372036854775808 ≤ n) (h' : n ≤ 9223372036854775807) : -4611686018427387904 ≤ n.tdiv d ∧ n.tdiv d ≤ 4611686018427387904 := by
  have e : (n.tdiv d).natAbs = n.natAbs / d.natAbs := Int.natAbs_tdiv n d
  have a : n.natAbs / d.natAbs ≤ n.natAbs / 2 := Nat.div_le_div_left (by omega) (by decide)
  omega
theorem rnd_close {n b : Int} {k : Nat} (h1 : 1 ≤ k) (h2 : k ≤ 62) (hk : (k : Int) = b) :
    rndP n b = (if n.tmod (P2 k) < 0 then n.tdiv (P2 k) - 1 else n.tdiv (P2 k)) + if P2 k ≤ 2 * (if n.tmod (P2 k) < 0 then n.tmod (P2 k) + P2 k else n.tmod (P2 k)) then 1 else 0 := by
  subst hk
  have p := P2_pos k
  rw [rndP_in (by omega) (by omega), Int.toNat_natCast]
  have e := rndP_even (b := (k : Int)) (by omega)
  rw [Int.toNat_natCast] at e
  rw [rnd_floor p e, (rnd_quo p rfl rfl).1, (rnd_quo p rfl rfl).2]

/-- A product, rounded, held to thirty-two bits. -/
def mulP (a b by' : Int) : Int := satP (rndP (a * b) by') 32
theorem mulP_bd (a b c : Int) : -2147483648 ≤ mulP a b c ∧ mulP a b c ≤ 2147483647 := satP_bd32 _
theorem prod_bd {a b : Int} (ha : -2147483648 ≤ a) (ha' : a ≤ 2147483647) (hb : -2147483648 ≤ b) (hb' : b ≤ 2147483647) : -4611686018427387904 ≤ a * b ∧ a * b ≤ 4611686018427387904 := by
  have h : (a * b).natAbs ≤ 2147483648 * 2147483648 := by
    rw [Int.natAbs_mul]; exact Nat.mul_le_mul (by omega) (by omega)
  omega

/-! ### roots -/
/-- x is the greatest number of thirty-two bits whose square isn't above n. -/
def IsRoot (n x : Int) : Prop := 0 ≤ x ∧ x ≤ 4294967295 ∧ x * x ≤ n ∧ n < (x + 1) * (x + 1)
theorem sq_mono {a b : Int} (ha : 0 ≤ a) (h : a ≤ b) : a * a ≤ b * b := Int.mul_le_mul h h ha (by omega)
theorem isRoot_unique {n x y : Int} (hx : IsRoot n x) (hy : IsRoot n y) : x = y := by
  obtain ⟨x0, _, x1, x2⟩ := hx
  obtain ⟨y0, _, y1, y2⟩ := hy
  rcases Int.lt_trichotomy x y with h | h | h
  · have := sq_mono (a := x + 1) (b := y) (by omega) (by omega); omega
  · exact h
  · have := sq_mono (a := y + 1) (b := x) (by omega) (by omega); omega
noncomputable def rootP (n : Int) : Int := @Classical.epsilon Int ⟨0⟩ (IsRoot n)
theorem rootP_eq {n x : Int} (h : IsRoot n x) : x = rootP n := isRoot_unique h (Classical.epsilon_spec ⟨x, h⟩)
theorem rootP_is_of {n x : Int} (h : IsRoot n x) : IsRoot n (rootP n) := by rw [← rootP_eq h]; exact h
/-- There is one, by trying the bits one by one. -/
theorem isRoot_some {n : Int} (h : 0 ≤ n) (h' : n ≤ 18446744073709551615) : ∃ x, IsRoot n x := by
  have base : ∀ m : Nat, (m : Int) ≤ 4294967295 → n < ((m : Int) + 1) * ((m : Int) + 1) → ∃ x, IsRoot n x := by
    intro m
    induction m with
    | zero => intro _ hlt; exact ⟨0, by decide, by decide, by omega, by simpa using hlt⟩
    | succ m ih =>
      intro hm hlt
      by_cases hq : ((m : Int) + 1) * ((m : Int) + 1) ≤ n
      · exact ⟨(m : Int) + 1, by omega, by omega, hq, by simpa using hlt⟩
      · exact ih (by omega) (by omega)
  exact base 4294967295 (by decide) (by
    have e : (((4294967295 : Nat) : Int) + 1) * (((4294967295 : Nat) : Int) + 1) = 18446744073709551616 := by decide
    rw [e]; omega)
theorem rootP_is {n : Int} (h : 0 ≤ n) (h' : n ≤ 18446744073709551615) : IsRoot n (rootP n) := by
  obtain ⟨x, hx⟩ := isRoot_some h h'; exact rootP_is_of hx
theorem or_join {r : Int} {j : Nat} (h0 : 0 ≤ r) (h1 : r + P2 (j + 1) ≤ 4294967296) (h2 : r % P2 (j + 1) = 0) : bits .or .u64 r (P2 j) = r + P2 j := by
  have p := P2_pos j
  rw [P2_succ] at h1
  rw [u64_or r (P2 j) h0 (by omega) (by omega) (by omega)]
  have c : ((2 ^ (j + 1) : Nat) : Int) = P2 (j + 1) := by simp [P2]
  have c' : (P2 j).toNat = 2 ^ j := by
    have : ((2 ^ j : Nat) : Int) = P2 j := by simp [P2]
    omega
  have hm : r.toNat % 2 ^ (j + 1) = 0 := by
    have e : ((r.toNat % 2 ^ (j + 1) : Nat) : Int) = r % P2 (j + 1) := by rw [Int.natCast_emod, c, Int.toNat_of_nonneg h0]
    omega
  rw [nat_join (j + 1) _ _ hm (by rw [c', Nat.pow_succ]; have := Nat.one_le_two_pow (n := j); omega)]
  omega
theorem sq_lt32 {x : Int} (h0 : 0 ≤ x) (h : x ≤ 4294967295) : 0 ≤ x * x ∧ x * x ≤ 18446744073709551615 := by
  have a := sq_mono h0 h
  have b := sq_mono (a := 0) (b := x) (by decide) h0
  omega
theorem P2_32 : P2 32 = 4294967296 := by decide
/-- What holds of the root's highest bits: r, a multiple of 2 to the k, is the greatest such one whose square isn't above n. -/
def RootUpTo (n r : Int) (k : Nat) : Prop := 0 ≤ r ∧ r + P2 k ≤ 4294967296 ∧ r % P2 k = 0 ∧ r * r ≤ n ∧ n < (r + P2 k) * (r + P2 k)
theorem rootUpTo_32 {n : Int} (h : 0 ≤ n) (h' : n ≤ 18446744073709551615) : RootUpTo n 0 32 := by
  refine ⟨by decide, by decide, by decide, by omega, ?_⟩
  rw [P2_32]; omega
theorem mod_half {r : Int} {j : Nat} (h : r % P2 (j + 1) = 0) : r % P2 j = 0 := by
  have d : P2 (j + 1) ∣ r := Int.dvd_of_emod_eq_zero h
  exact Int.emod_eq_zero_of_dvd (Int.dvd_trans ⟨2, P2_succ j⟩ d)
theorem rootUpTo_low {n r : Int} {j : Nat} (h : RootUpTo n r (j + 1)) (hn : n < (r + P2 j) * (r + P2 j)) : RootUpTo n r j := by
  obtain ⟨a, b, c, d, _⟩ := h
  have p := P2_pos j
  rw [P2_succ] at b
  exact ⟨a, by omega, mod_half c, d, hn⟩
theorem rootUpTo_high {n r : Int} {j : Nat} (h : RootUpTo n r (j + 1)) (hn : (r + P2 j) * (r + P2 j) ≤ n) : RootUpTo n (r + P2 j) j := by
  obtain ⟨a, b, c, _, e⟩ := h
  have p := P2_pos j
  rw [P2_succ] at b
  refine ⟨by omega, by omega, ?_, hn, ?_⟩
  · rw [Int.add_emod_right]; exact mod_half c
  · have s : r + P2 j + P2 j = r + P2 (j + 1) := by rw [P2_succ]; omega
    rw [s]; exact e
theorem rootUpTo_end {n r : Int} (h : RootUpTo n r 0) : r = rootP n := by
  obtain ⟨a, b, _, d, e⟩ := h
  have z : P2 0 = 1 := rfl
  rw [z] at b e
  exact rootP_eq ⟨a, by omega, d, e⟩
theorem rootUpTo_bd {n r : Int} {k : Nat} (h : RootUpTo n r k) : 0 ≤ r ∧ r ≤ 4294967295 := by
  have p := P2_pos k; obtain ⟨a, b, _⟩ := h; omega
theorem rootUpTo_or {n r : Int} {j : Nat} (h : RootUpTo n r (j + 1)) : bits .or .u64 r (P2 j) = r + P2 j ∧ 0 ≤ r + P2 j ∧ r + P2 j ≤ 4294967295 := by
  obtain ⟨a, b, c, _, _⟩ := h
  have p := P2_pos j
  refine ⟨or_join a b c, by omega, ?_⟩
  rw [P2_succ] at b; omega
theorem P2_half (j : Nat) : P2 (j + 1) / 2 = P2 j := by rw [P2_succ]; omega
end Go.Proofs.Ytdmafololcpamaa

/- Plain facts of the circle's table, for the statements of layer 4. Nothing here speaks of the program. -/
namespace Go.Proofs.Ytdmafololcpamaa
open Go
set_option linter.unusedVariables false

/-- The cosines of 0 to 1024 units. -/
def cosL : List Int := [
  16777216, 16777195, 16777136, 16777038, 16776899, 16776723, 16776505, 16776249, 16775952, 16775618, 16775243, 16774829,
  16774374, 16773882, 16773348, 16772776, 16772162, 16771512, 16770821, 16770092, 16769321, 16768513, 16767664, 16766776,
  16765847, 16764882, 16763875, 16762830, 16761743, 16760619, 16759454, 16758251, 16757006, 16755725, 16754403, 16753043,
  16751641, 16750202, 16748722, 16747203, 16745643, 16744047, 16742409, 16740733, 16739016, 16737262, 16735466, 16733632,
  16731757, 16729846, 16727893, 16725902, 16723870, 16721801, 16719691, 16717542, 16715352, 16713126, 16710859, 16708553,
  16706206, 16703822, 16701397, 16698933, 16696428, 16693888, 16691306, 16688686, 16686025, 16683327, 16680588, 16677811,
  16674992, 16672138, 16669242, 16666308, 16663333, 16660321, 16657268, 16654177, 16651044, 16647876, 16644667, 16641420,
  16638131, 16634806, 16631439, 16628035, 16624589, 16621108, 16617585, 16614024, 16610422, 16606784, 16603104, 16599387,
  16595628, 16591834, 16587999, 16584126, 16580212, 16576262, 16572270, 16568241, 16564170, 16560064, 16555917, 16551732,
  16547506, 16543244, 16538940, 16534599, 16530217, 16525800, 16521341, 16516845, 16512307, 16507734, 16503119, 16498467,
  16493774, 16489046, 16484276, 16479469, 16474621, 16469737, 16464812, 16459850, 16454846, 16449808, 16444729, 16439613,
  16434455, 16429262, 16424027, 16418756, 16413443, 16408096, 16402707, 16397282, 16391815, 16386313, 16380769, 16375188,
  16369567, 16363911, 16358214, 16352480, 16346705, 16340894, 16335043, 16329155, 16323226, 16317262, 16311257, 16305215,
  16299133, 16293015, 16286857, 16280661, 16274425, 16268155, 16261844, 16255496, 16249107, 16242683, 16236218, 16229717,
  16223175, 16216599, 16209982, 16203328, 16196634, 16189905, 16183135, 16176328, 16169481, 16162600, 16155678, 16148720,
  16141721, 16134687, 16127613, 16120503, 16113352, 16106167, 16098941, 16091679, 16084377, 16077040, 16069663, 16062249,
  16054795, 16047308, 16039780, 16032216, 16024612, 16016973, 16009294, 16001579, 15993823, 15986034, 15978205, 15970339,
  15962434, 15954494, 15946514, 15938497, 15930441, 15922351, 15914222, 15906056, 15897851, 15889611, 15881331, 15873015,
  15864660, 15856271, 15847843, 15839378, 15830874, 15822335, 15813757, 15805143, 15796489, 15787802, 15779076, 15770314,
  15761513, 15752677, 15743802, 15734891, 15725941, 15716957, 15707934, 15698876, 15689778, 15680646, 15671475, 15662269,
  15653023, 15643745, 15634427, 15625074, 15615681, 15606255, 15596789, 15587288, 15577748, 15568175, 15558564, 15548917,
  15539231, 15529511, 15519753, 15509959, 15500126, 15490261, 15480358, 15470419, 15460442, 15450431, 15440381, 15430296,
  15420173, 15410017, 15399822, 15389593, 15379325, 15369024, 15358684, 15348309, 15337896, 15327451, 15316967, 15306449,
  15295892, 15285302, 15274674, 15264011, 15253310, 15242577, 15231805, 15220999, 15210155, 15199278, 15188362, 15177412,
  15166425, 15155405, 15144348, 15133256, 15122127, 15110965, 15099765, 15088530, 15077258, 15065954, 15054612, 15043236,
  15031823, 15020377, 15008893, 14997375, 14985819, 14974232, 14962607, 14950949, 14939253, 14927525, 14915759, 14903960,
  14892123, 14880255, 14868349, 14856410, 14844434, 14832426, 14820380, 14808301, 14796184, 14784037, 14771852, 14759634,
  14747380, 14735093, 14722770, 14710413, 14698019, 14685594, 14673132, 14660637, 14648106, 14635542, 14622942, 14610309,
  14597639, 14584938, 14572201, 14559431, 14546625, 14533787, 14520912, 14508005, 14495061, 14482087, 14469076, 14456033,
  14442953, 14429842, 14416695, 14403515, 14390299, 14377053, 14363771, 14350456, 14337106, 14323724, 14310307, 14296857,
  14283372, 14269856, 14256304, 14242720, 14229101, 14215450, 14201764, 14188046, 14174292, 14160508, 14146689, 14132838,
  14118952, 14105035, 14091082, 14077098, 14063078, 14049029, 14034944, 14020828, 14006676, 13992494, 13978277, 13964028,
  13949745, 13935432, 13921085, 13906706, 13892292, 13877848, 13863369, 13848859, 13834314, 13819740, 13805131, 13790491,
  13775816, 13761112, 13746373, 13731603, 13716798, 13701965, 13687097, 13672199, 13657266, 13642303, 13627306, 13612279,
  13597217, 13582127, 13567002, 13551847, 13536658, 13521439, 13506187, 13490904, 13475587, 13460242, 13444863, 13429454,
  13414011, 13398539, 13383034, 13367498, 13351929, 13336332, 13320701, 13305040, 13289346, 13273623, 13257866, 13242080,
  13226260, 13210413, 13194532, 13178621, 13162678, 13146706, 13130701, 13114666, 13098599, 13082504, 13066376, 13050218,
  13034028, 13017809, 13001558, 12985277, 12968964, 12952624, 12936251, 12919849, 12903415, 12886953, 12870458, 12853934,
  12837378, 12820795, 12804180, 12787536, 12770859, 12754155, 12737419, 12720654, 12703858, 12687034, 12670179, 12653295,
  12636380, 12619437, 12602463, 12585460, 12568425, 12551364, 12534271, 12517150, 12499998, 12482818, 12465607, 12448368,
  12431098, 12413802, 12396475, 12379119, 12361733, 12344320, 12326876, 12309404, 12291901, 12274372, 12256812, 12239225,
  12221607, 12203962, 12186287, 12168584, 12150851, 12133092, 12115303, 12097487, 12079640, 12061767, 12043863, 12025933,
  12007972, 11989986, 11971970, 11953926, 11935853, 11917754, 11899625, 11881469, 11863283, 11845072, 11826832, 11808565,
  11790269, 11771947, 11753596, 11735218, 11716810, 11698378, 11679916, 11661428, 11642911, 11624369, 11605797, 11587199,
  11568572, 11549920, 11531240, 11512534, 11493799, 11475039, 11456250, 11437435, 11418592, 11399724, 11380828, 11361906,
  11342956, 11323981, 11304977, 11285948, 11266891, 11247810, 11228701, 11209567, 11190404, 11171217, 11152003, 11132763,
  11113495, 11094203, 11074884, 11055540, 11036168, 11016772, 10997348, 10977900, 10958424, 10938925, 10919399, 10899848,
  10880269, 10860667, 10841038, 10821384, 10801703, 10781999, 10762268, 10742513, 10722731, 10702925, 10683093, 10663237,
  10643354, 10623449, 10603517, 10583561, 10563579, 10543574, 10523542, 10503486, 10483404, 10463300, 10443170, 10423016,
  10402836, 10382633, 10362405, 10342153, 10321875, 10301575, 10281250, 10260901, 10240526, 10220129, 10199707, 10179262,
  10158791, 10138299, 10117781, 10097240, 10076674, 10056086, 10035473, 10014838, 9994177, 9973495, 9952788, 9932059,
  9911305, 9890529, 9869729, 9848906, 9828059, 9807191, 9786298, 9765383, 9744444, 9723483, 9702498, 9681491,
  9660460, 9639409, 9618333, 9597236, 9576114, 9554971, 9533805, 9512617, 9491406, 9470174, 9448919, 9427642,
  9406342, 9385021, 9363677, 9342311, 9320922, 9299514, 9278082, 9256629, 9235153, 9213657, 9192138, 9170598,
  9149036, 9127454, 9105849, 9084223, 9062575, 9040907, 9019217, 8997506, 8975772, 8954020, 8932245, 8910450,
  8888632, 8866795, 8844936, 8823057, 8801156, 8779236, 8757295, 8735333, 8713350, 8691347, 8669323, 8647279,
  8625214, 8603130, 8581025, 8558901, 8536755, 8514591, 8492405, 8470200, 8447974, 8425730, 8403465, 8381180,
  8358875, 8336552, 8314208, 8291845, 8269461, 8247060, 8224638, 8202198, 8179737, 8157258, 8134759, 8112241,
  8089703, 8067148, 8044573, 8021980, 7999366, 7976735, 7954084, 7931415, 7908726, 7886020, 7863295, 7840552,
  7817790, 7795011, 7772212, 7749395, 7726559, 7703707, 7680835, 7657946, 7635038, 7612113, 7589169, 7566208,
  7543228, 7520232, 7497217, 7474185, 7451135, 7428068, 7404983, 7381881, 7358761, 7335625, 7312470, 7289299,
  7266110, 7242905, 7219682, 7196443, 7173185, 7149912, 7126622, 7103315, 7079991, 7056651, 7033294, 7009921,
  6986530, 6963124, 6939701, 6916262, 6892806, 6869335, 6845847, 6822343, 6798822, 6775287, 6751735, 6728167,
  6704583, 6680984, 6657369, 6633738, 6610091, 6586430, 6562752, 6539059, 6515350, 6491627, 6467887, 6444133,
  6420363, 6396580, 6372780, 6348966, 6325136, 6301292, 6277433, 6253559, 6229670, 6205767, 6181849, 6157917,
  6133970, 6110009, 6086033, 6062043, 6038038, 6014021, 5989988, 5965941, 5941880, 5917806, 5893717, 5869614,
  5845497, 5821368, 5797224, 5773067, 5748895, 5724711, 5700512, 5676301, 5652075, 5627838, 5603586, 5579322,
  5555044, 5530754, 5506450, 5482133, 5457803, 5433461, 5409106, 5384738, 5360357, 5335964, 5311558, 5287140,
  5262708, 5238266, 5213810, 5189342, 5164862, 5140370, 5115866, 5091350, 5066821, 5042281, 5017729, 4993165,
  4968589, 4944002, 4919403, 4894793, 4870170, 4845537, 4820892, 4796237, 4771569, 4746891, 4722201, 4697500,
  4672787, 4648064, 4623330, 4598585, 4573829, 4549063, 4524286, 4499498, 4474699, 4449891, 4425071, 4400242,
  4375401, 4350551, 4325690, 4300819, 4275938, 4251047, 4226146, 4201235, 4176314, 4151384, 4126443, 4101493,
  4076532, 4051563, 4026584, 4001596, 3976598, 3951591, 3926574, 3901548, 3876513, 3851469, 3826416, 3801354,
  3776283, 3751203, 3726114, 3701017, 3675910, 3650796, 3625672, 3600540, 3575399, 3550250, 3525093, 3499927,
  3474753, 3449571, 3424381, 3399183, 3373977, 3348763, 3323541, 3298311, 3273073, 3247828, 3222575, 3197315,
  3172046, 3146771, 3121488, 3096198, 3070900, 3045596, 3020284, 2994965, 2969639, 2944306, 2918966, 2893619,
  2868265, 2842905, 2817538, 2792164, 2766784, 2741397, 2716004, 2690604, 2665198, 2639786, 2614367, 2588943,
  2563512, 2538075, 2512632, 2487184, 2461729, 2436269, 2410803, 2385331, 2359854, 2334371, 2308883, 2283389,
  2257890, 2232386, 2206876, 2181361, 2155841, 2130316, 2104786, 2079251, 2053711, 2028167, 2002617, 1977062,
  1951503, 1925940, 1900372, 1874799, 1849222, 1823641, 1798056, 1772466, 1746872, 1721274, 1695672, 1670066,
  1644455, 1618842, 1593224, 1567602, 1541977, 1516348, 1490716, 1465080, 1439440, 1413798, 1388152, 1362503,
  1336850, 1311195, 1285536, 1259874, 1234209, 1208542, 1182871, 1157198, 1131522, 1105843, 1080162, 1054478,
  1028792, 1003103, 977412, 951719, 926023, 900325, 874625, 848923, 823219, 797513, 771806, 746096,
  720385, 694672, 668957, 643241, 617523, 591804, 566083, 540361, 514638, 488914, 463188, 437462,
  411734, 386005, 360276, 334545, 308814, 283082, 257350, 231617, 205883, 180149, 154414, 128679,
  102943, 77208, 51472, 25736, 0]
theorem cosL_len : cosL.length = 1025 := by decide +kernel
def cosN (i : Nat) : Int := cosL.getD i 0
/-- What is asked of the middle one of a step h, from a on. -/
def midOK (h a : Nat) : Bool :=
  let n := (cosN a + cosN (a + h)) * 8388608
  let d := cosN (h / 2)
  let q := n / d
  cosN (a + h / 2) == if 2 * (n % d) ≥ d then q + 1 else q
def rootOK (h : Nat) : Bool :=
  let n := (16777216 + cosN h) * 8388608
  let x := cosN (h / 2)
  decide (0 ≤ x) && decide (x * x ≤ n) && decide (n < (x + 1) * (x + 1))
def levelOK (h : Nat) : Bool := rootOK h && (List.range (1024 / h)).all fun k => k == 0 || midOK h (k * h)
theorem levels : [1024, 512, 256, 128, 64, 32, 16, 8, 4, 2].all levelOK = true := by decide +kernel
theorem cos_falls : (cosL.zip (cosL.drop 1)).all (fun p => decide (p.2 < p.1)) = true := by decide +kernel
theorem cos_legs : (cosL.zip cosL.reverse).all (fun p => decide (p.1 * p.1 + p.2 * p.2 - 281474976710656 < 4294967296) && decide (-4294967296 < p.1 * p.1 + p.2 * p.2 - 281474976710656)) = true := by decide +kernel
theorem cos_bds : cosL.all (fun x => decide (0 ≤ x) && decide (x ≤ 16777216)) = true := by decide +kernel
end Go.Proofs.Ytdmafololcpamaa

/- Plain facts of the circle, for the statements of layer 4, out of its table. Nothing here speaks of the program. -/
namespace Go.Proofs.Ytdmafololcpamaa
open Go
set_option linter.unusedVariables false

theorem cosN_get {i : Nat} (h : i ≤ 1024) : cosL[i]? = some (cosN i) := by
  have hl : i < cosL.length := by rw [cosL_len]; omega
  unfold cosN
  simp [List.getD, List.getElem?_eq_getElem hl]
theorem cosN_bd {i : Nat} (h : i ≤ 1024) : 0 ≤ cosN i ∧ cosN i ≤ 16777216 := by
  have hm : cosN i ∈ cosL := List.mem_of_getElem? (cosN_get h)
  have := List.all_eq_true.1 cos_bds _ hm
  simpa using this
theorem cosN_falls {i : Nat} (h : i < 1024) : cosN (i + 1) < cosN i := by
  have hm : (cosN i, cosN (i + 1)) ∈ cosL.zip (cosL.drop 1) := by
    refine List.mem_of_getElem? (i := i) ?_
    rw [List.getElem?_zip_eq_some]
    refine ⟨cosN_get (by omega), ?_⟩
    rw [List.getElem?_drop, Nat.add_comm]
    exact cosN_get (by omega)
  have := List.all_eq_true.1 cos_falls _ hm
  simpa using this
theorem cosN_legs {i : Nat} (h : i ≤ 1024) : cosN i * cosN i + cosN (1024 - i) * cosN (1024 - i) - 281474976710656 < 4294967296 ∧ -4294967296 < cosN i * cosN i + cosN (1024 - i) * cosN (1024 - i) - 281474976710656 := by
  have hm : (cosN i, cosN (1024 - i)) ∈ cosL.zip cosL.reverse := by
    refine List.mem_of_getElem? (i := i) ?_
    rw [List.getElem?_zip_eq_some]
    refine ⟨cosN_get (by omega), ?_⟩
    rw [List.getElem?_reverse (by rw [cosL_len]; omega), cosL_len]
    exact cosN_get (by omega)
  have := List.all_eq_true.1 cos_legs _ hm
  simpa using this
theorem level_at {k : Nat} (h : k < 10) : levelOK (2 ^ (k + 1)) = true := by
  have := List.all_eq_true.1 levels (2 ^ (k + 1)) (by
    have : k = 0 ∨ k = 1 ∨ k = 2 ∨ k = 3 ∨ k = 4 ∨ k = 5 ∨ k = 6 ∨ k = 7 ∨ k = 8 ∨ k = 9 := by omega
    rcases this with rfl | rfl | rfl | rfl | rfl | rfl | rfl | rfl | rfl | rfl <;> decide)
  exact this
theorem half_pow (k : Nat) : 2 ^ (k + 1) / 2 = 2 ^ k := by rw [Nat.pow_succ]; omega
/-- The root of step 2 to the k + 1. -/
theorem cos_root {k : Nat} (h : k < 10) : IsRoot ((16777216 + cosN (2 ^ (k + 1))) * 8388608) (cosN (2 ^ k)) := by
  have := level_at h
  unfold levelOK at this
  rw [Bool.and_eq_true] at this
  have hr := this.1
  unfold rootOK at hr
  rw [half_pow] at hr
  simp only [Bool.and_eq_true, decide_eq_true_eq] at hr
  have hb := cosN_bd (i := 2 ^ k) (by have := Nat.pow_le_pow_right (n := 2) (by decide) (show k ≤ 10 by omega); omega)
  exact ⟨hr.1.1, by omega, hr.1.2, hr.2⟩
/-- The middle one of step 2 to the k + 1 from a on. -/
theorem cos_mid {k a : Nat} (h : k < 10) (ha0 : 0 < a) (ha : a % 2 ^ (k + 1) = 0) (hl : a < 1024) :
    cosN (a + 2 ^ k) = if 2 * (((cosN a + cosN (a + 2 ^ (k + 1))) * 8388608) % cosN (2 ^ k)) ≥ cosN (2 ^ k) then ((cosN a + cosN (a + 2 ^ (k + 1))) * 8388608) / cosN (2 ^ k) + 1 else ((cosN a + cosN (a + 2 ^ (k + 1))) * 8388608) / cosN (2 ^ k) := by
  have := level_at h
  unfold levelOK at this
  rw [Bool.and_eq_true] at this
  have hq : a / 2 ^ (k + 1) * 2 ^ (k + 1) = a := Nat.div_mul_cancel (Nat.dvd_of_mod_eq_zero ha)
  have hp : 0 < 2 ^ (k + 1) := Nat.two_pow_pos _
  have h1024 : 1024 % 2 ^ (k + 1) = 0 := by
    have : k = 0 ∨ k = 1 ∨ k = 2 ∨ k = 3 ∨ k = 4 ∨ k = 5 ∨ k = 6 ∨ k = 7 ∨ k = 8 ∨ k = 9 := by omega
    rcases this with rfl | rfl | rfl | rfl | rfl | rfl | rfl | rfl | rfl | rfl <;> decide
  have hm := List.all_eq_true.1 this.2 (a / 2 ^ (k + 1)) (List.mem_range.2 (by
    have e : 1024 / 2 ^ (k + 1) * 2 ^ (k + 1) = 1024 := Nat.div_mul_cancel (Nat.dvd_of_mod_eq_zero h1024)
    refine Nat.lt_of_mul_lt_mul_right (a := 2 ^ (k + 1)) ?_
    rw [hq, e]; exact hl))
  rw [Bool.or_eq_true] at hm
  rcases hm with hm | hm
  · have : a / 2 ^ (k + 1) = 0 := by simpa using hm
    rw [this] at hq; omega
  · rw [hq] at hm
    unfold midOK at hm
    rw [half_pow] at hm
    simpa using hm

/-! ### The whole circle -/
def cosQ (i : Int) : Int :=
  let m := i % 4096
  let m' := if 2048 < m then 4096 - m else m
  if 1024 < m' then -(cosN (2048 - m').toNat) else cosN m'.toNat
noncomputable def cosP (i : Int) : Int := hideI (cosQ i)
theorem cosP_q (i : Int) : cosP i = cosQ i := hideI_eq _
theorem cosQ_in {i : Int} {n : Nat} (h : i % 4096 = n) (hn : n ≤ 1024) : cosQ i = cosN n := by
  unfold cosQ
  simp only [h]
  rw [if_neg (by omega), if_neg (by omega)]
  simp
theorem cosQ_2 {i : Int} {n : Nat} (h : i % 4096 = 2048 - n) (hn : n < 1024) : cosQ i = -(cosN n) := by
  unfold cosQ
  simp only [h]
  rw [if_neg (show ¬ (2048 : Int) < 2048 - n by omega), if_pos (by omega)]
  congr 2; omega
theorem cosQ_3 {i : Int} {n : Nat} (h : i % 4096 = 2048 + n) (hn0 : 0 < n) (hn : n < 1024) : cosQ i = -(cosN n) := by
  unfold cosQ
  simp only [h]
  rw [if_pos (show (2048 : Int) < 2048 + n by omega), if_pos (by omega)]
  congr 2; omega
theorem cosQ_4 {i : Int} {n : Nat} (h : i % 4096 = 4096 - n) (hn0 : 0 < n) (hn : n ≤ 1024) : cosQ i = cosN n := by
  unfold cosQ
  simp only [h]
  rw [if_pos (show (2048 : Int) < 4096 - n by omega), if_neg (by omega)]
  congr 1; omega
/-- Each place of the circle is one of four. -/
theorem circle_at (i : Int) : (∃ n : Nat, i % 4096 = n ∧ n ≤ 1024) ∨ (∃ n : Nat, i % 4096 = 2048 - n ∧ n < 1024) ∨ (∃ n : Nat, i % 4096 = 2048 + n ∧ 0 < n ∧ n < 1024) ∨ (∃ n : Nat, i % 4096 = 4096 - n ∧ 0 < n ∧ n ≤ 1024) := by
  have h0 := Int.emod_nonneg i (b := 4096) (by decide)
  have h1 := Int.emod_lt_of_pos i (b := 4096) (by decide)
  by_cases a : i % 4096 ≤ 1024
  · exact .inl ⟨(i % 4096).toNat, by omega, by omega⟩
  · by_cases b : i % 4096 ≤ 2048
    · exact .inr (.inl ⟨(2048 - i % 4096).toNat, by omega, by omega⟩)
    · by_cases c : i % 4096 < 3072
      · exact .inr (.inr (.inl ⟨(i % 4096 - 2048).toNat, by omega, by omega, by omega⟩))
      · exact .inr (.inr (.inr ⟨(4096 - i % 4096).toNat, by omega, by omega, by omega⟩))
theorem cosP_bd (i : Int) : -16777216 ≤ cosP i ∧ cosP i ≤ 16777216 := by
  rw [cosP_q]
  rcases circle_at i with ⟨n, h, l⟩ | ⟨n, h, l⟩ | ⟨n, h, l0, l⟩ | ⟨n, h, l0, l⟩
  · rw [cosQ_in h l]; have := cosN_bd l; omega
  · rw [cosQ_2 h l]; have := cosN_bd (i := n) (by omega); omega
  · rw [cosQ_3 h l0 l]; have := cosN_bd (i := n) (by omega); omega
  · rw [cosQ_4 h l0 l]; have := cosN_bd l; omega
theorem cosP_neg (i : Int) : cosP (-i) = cosP i := by
  rw [cosP_q, cosP_q]
  rcases circle_at i with ⟨n, h, l⟩ | ⟨n, h, l⟩ | ⟨n, h, l0, l⟩ | ⟨n, h, l0, l⟩
  · by_cases n0 : n = 0
    · subst n0; rw [cosQ_in h l, cosQ_in (n := 0) (by omega) (by omega)]
    · rw [cosQ_in h l, cosQ_4 (n := n) (by omega) (by omega) (by omega)]
  · by_cases n0 : n = 0
    · subst n0; rw [cosQ_2 h l, cosQ_2 (n := 0) (by omega) (by omega)]
    · rw [cosQ_2 h l, cosQ_3 (n := n) (by omega) (by omega) (by omega)]
  · rw [cosQ_3 h l0 l, cosQ_2 (n := n) (by omega) (by omega)]
  · rw [cosQ_4 h l0 l, cosQ_in (n := n) (by omega) (by omega)]
theorem cosN_last : cosN 1024 = 0 := by decide +kernel
theorem cosN_first : cosN 0 = 16777216 := by decide +kernel
theorem cosP_half (i : Int) : cosP (i + 2048) = -(cosP i) := by
  rw [cosP_q, cosP_q]
  rcases circle_at i with ⟨n, h, l⟩ | ⟨n, h, l⟩ | ⟨n, h, l0, l⟩ | ⟨n, h, l0, l⟩
  · rw [cosQ_in h l]
    by_cases n0 : n = 0
    · subst n0; rw [cosQ_2 (n := 0) (by omega) (by omega)]
    · by_cases n1 : n = 1024
      · subst n1; rw [cosQ_4 (n := 1024) (by omega) (by omega) (by omega), cosN_last]; rfl
      · rw [cosQ_3 (n := n) (by omega) (by omega) (by omega)]
  · rw [cosQ_2 h l]
    by_cases n0 : n = 0
    · subst n0; rw [cosQ_in (n := 0) (by omega) (by omega)]; omega
    · rw [cosQ_4 (n := n) (by omega) (by omega) (by omega)]; omega
  · rw [cosQ_3 h l0 l, cosQ_in (n := n) (by omega) (by omega)]; omega
  · rw [cosQ_4 h l0 l]
    by_cases n1 : n = 1024
    · subst n1; rw [cosQ_in (n := 1024) (by omega) (by omega), cosN_last]; rfl
    · rw [cosQ_2 (n := n) (by omega) (by omega)]
theorem cosP_whole (i : Int) : cosP (i + 4096) = cosP i := by
  have := cosP_half (i + 2048)
  rw [cosP_half i] at this
  rw [show i + 4096 = i + 2048 + 2048 by omega, this]; omega
theorem sq_neg (x : Int) : -x * -x = x * x := by rw [Int.neg_mul_neg]
/-- Both legs' squares come together to one, but for a little. -/
theorem cosP_legs (i : Int) : cosP i * cosP i + cosP (i - 1024) * cosP (i - 1024) - 281474976710656 < 4294967296 ∧ -4294967296 < cosP i * cosP i + cosP (i - 1024) * cosP (i - 1024) - 281474976710656 := by
  rw [cosP_q, cosP_q]
  rcases circle_at i with ⟨n, h, l⟩ | ⟨n, h, l⟩ | ⟨n, h, l0, l⟩ | ⟨n, h, l0, l⟩
  · rw [cosQ_in h l]
    by_cases n1 : n = 1024
    · subst n1; rw [cosQ_in (n := 0) (by omega) (by omega)]; exact cosN_legs (i := 1024) (by omega)
    · rw [cosQ_4 (n := 1024 - n) (by omega) (by omega) (by omega)]; exact cosN_legs (i := n) (by omega)
  · rw [cosQ_2 h l, cosQ_in (n := 1024 - n) (by omega) (by omega), sq_neg]; exact cosN_legs (i := n) (by omega)
  · rw [cosQ_3 h l0 l, cosQ_2 (n := 1024 - n) (by omega) (by omega), sq_neg, sq_neg]; exact cosN_legs (i := n) (by omega)
  · rw [cosQ_4 h l0 l]
    by_cases n1 : n = 1024
    · subst n1; rw [cosQ_2 (n := 0) (by omega) (by omega), sq_neg]; exact cosN_legs (i := 1024) (by omega)
    · rw [cosQ_3 (n := 1024 - n) (by omega) (by omega) (by omega), sq_neg]; exact cosN_legs (i := n) (by omega)
theorem cosP_falls {q : Int} (h0 : 0 ≤ q) (h1 : q < 1024) : cosP (q + 1) < cosP q := by
  have e1 : cosQ (q + 1) = cosN (q.toNat + 1) := cosQ_in (by omega) (by omega)
  have e2 : cosQ q = cosN q.toNat := cosQ_in (by omega) (by omega)
  rw [cosP_q, cosP_q, e1, e2]
  exact cosN_falls (by omega)
theorem cosP_512 : cosP 512 = 11863283 := by rw [cosP_q]; decide +kernel
/-- A place of a slope. -/
noncomputable def riseP (i : Int) : Int := if i < 0 then 0 else if 128 ≤ i then 16777216 else cosP (1024 - 4 * (2 * i + 1))
theorem riseP_neg {i : Int} (h : i < 0) : riseP i = 0 := if_pos h
theorem riseP_big {i : Int} (h : 128 ≤ i) : riseP i = 16777216 := by unfold riseP; rw [if_neg (by omega), if_pos h]
theorem riseP_in {i : Int} (h : 0 ≤ i) (h' : i < 128) : riseP i = cosP (1024 - 4 * (2 * i + 1)) := by unfold riseP; rw [if_neg (by omega), if_neg (by omega)]
theorem riseP_legs {q : Int} (h : 0 ≤ q) (h' : q < 128) : riseP q * riseP q + riseP (127 - q) * riseP (127 - q) - 281474976710656 < 4294967296 ∧ -4294967296 < riseP q * riseP q + riseP (127 - q) * riseP (127 - q) - 281474976710656 := by
  rw [riseP_in h h', riseP_in (by omega) (by omega)]
  have e : cosP (1024 - 4 * (2 * (127 - q) + 1)) = cosP (1024 - 4 * (2 * q + 1) - 1024) := by
    rw [← cosP_neg]; congr 1; omega
  rw [e]
  exact cosP_legs _
end Go.Proofs.Ytdmafololcpamaa

/- Words of mine for memory: a block of n numbers, told by a function of the place. -/
namespace Go.Proofs.Ytdmafololcpamaa
open Go.RowKit
set_option linter.unusedVariables false

def tabF (n : Nat) (f : Nat → Int) : List Int := (List.range n).map f
theorem tabF_len (n : Nat) (f : Nat → Int) : (tabF n f).length = n := by simp [tabF]
theorem tabF_getD {n : Nat} (f : Nat → Int) {j : Nat} (h : j < n) : (tabF n f).getD j 0 = f j := by simp [tabF, List.getD, h]
theorem tabF_ext {n : Nat} {f g : Nat → Int} (h : ∀ j, j < n → f j = g j) : tabF n f = tabF n g := by
  unfold tabF
  exact List.map_congr_left fun j hj => h j (List.mem_range.1 hj)
theorem tabF_set {n : Nat} (f : Nat → Int) {j : Nat} (h : j < n) (x : Int) : (tabF n f).set j x = tabF n (fun i => if i = j then x else f i) := by
  apply List.ext_getElem?
  intro i
  unfold tabF
  rw [List.getElem?_set]
  by_cases hij : j = i
  · subst hij; simp [h]
  · rw [if_neg hij]
    by_cases hi : i < n
    · simp [hi, show ¬ i = j from fun e => hij e.symm]
    · simp [hi]
theorem tabF_of (l : List Int) : tabF l.length (fun j => l.getD j 0) = l := by
  apply List.ext_getElem?
  intro i
  unfold tabF
  by_cases hi : i < l.length
  · simp [List.getD, hi]
  · simp [hi]
/-- Block g is just the n numbers f 0 .. -/
def IFun (w : World) (g : Nat) (t : TypeId) (k : IntKind) (n : Nat) (f : Nat → Int) : Prop := IRow w g t k (tabF n f)
section
variable {w w' : World} {g : Nat} {t : TypeId} {k : IntKind} {n : Nat} {f f' : Nat → Int}
theorem IFun.lt (h : IFun w g t k n f) : g < w.heap.size := IRow.lt h
theorem IFun.cell (h : IFun w g t k n f) {j : Nat} (hj : j < n) : w.cell? ⟨g, j, none⟩ = some (.int k (f j)) := by
  have := IRow.cell h (j := j) (by rw [tabF_len]; exact hj)
  rwa [tabF_getD f hj] at this
theorem IFun.frozen (h : IFun w g t k n f) (j : Nat) : w.frozen? ⟨g, j, none⟩ = false := IRow.frozen h j
theorem IFun.ext (h : IFun w g t k n f) (he : ∀ j, j < n → f j = f' j) : IFun w g t k n f' := by unfold IFun; rw [← tabF_ext he]; exact h
theorem IFun.set (h : IFun w g t k n f) {j : Nat} (hj : j < n) (x : Int) : IFun (w.setCell ⟨g, j, none⟩ (.int k x)) g t k n (fun i => if i = j then x else f i) := by
  have := IRow.set h j x
  rwa [tabF_set f hj] at this
theorem IFun.drewN (h : IFun w g t k n f) (i : Nat) : IFun (w.drewN i) g t k n f := h
theorem IFun.alloc (h : IFun w g t k n f) (o : Obj) : IFun (w.alloc o) g t k n f := IRow.alloc h o
theorem IFun.far (h : IFun w g t k n f) {p : Addr} (hp : g ≠ p.block) (u : Value) : IFun (w.setCell p u) g t k n f := IRow.far h hp u
theorem IFun.below {B : Nat} (h : IFun w g t k n f) (hb : Below B w w') (hg : g < B) : IFun w' g t k n f := IRow.below h hb hg
theorem IFun.zeros (w : World) (t : TypeId) (k : IntKind) (n : Nat) : IFun (w.alloc (.cells (madeCells #[.int k 0] n) t)) w.heap.size t k n (fun _ => 0) := by
  have := IRow.zeros w t k n
  have e : List.replicate n (0 : Int) = tabF n (fun _ => 0) := by
    apply List.ext_getElem?
    intro i
    unfold tabF
    by_cases hi : i < n
    · simp [hi]
    · simp [hi]
  rw [e] at this
  exact this
end
end Go.Proofs.Ytdmafololcpamaa

/- What the document's answers for layer 4 give: the circle's table, a cosine, a place of a slope, the bands' edges. -/
namespace Go.Proofs.Ytdmafololcpamaa
open Go.RowKit
set_option linter.unusedVariables false

theorem info_i64 : (Try.prog.info? 2).map (fun i => (i.zero, i.size, i.bytes)) = some (some (.int .i64 0), 1, 8) := by kernel_rfl

/-! ### The table, step by step -/
theorem k_ten {k : Nat} (h : k < 10) : k = 0 ∨ k = 1 ∨ k = 2 ∨ k = 3 ∨ k = 4 ∨ k = 5 ∨ k = 6 ∨ k = 7 ∨ k = 8 ∨ k = 9 := by omega
theorem half_mod {k j : Nat} (h : k < 10) : j % 2 ^ k = 0 ↔ (j % 2 ^ (k + 1) = 0 ∨ j % 2 ^ (k + 1) = 2 ^ k) := by
  rcases k_ten h with rfl | rfl | rfl | rfl | rfl | rfl | rfl | rfl | rfl | rfl <;> simp <;> omega
theorem step_last {k a : Nat} (h : k < 10) (ha : a % 2 ^ (k + 1) = 0) (h1 : a ≤ 1024) (h2 : 1024 < a + 2 ^ (k + 1)) : a = 1024 := by
  rcases k_ten h with rfl | rfl | rfl | rfl | rfl | rfl | rfl | rfl | rfl | rfl <;> simp at * <;> omega
theorem step_next {k a : Nat} (ha : a % 2 ^ (k + 1) = 0) : (a + 2 ^ (k + 1)) % 2 ^ (k + 1) = 0 ∧ (a + 2 ^ k) % 2 ^ (k + 1) = 2 ^ k := by
  have hp : 2 ^ k < 2 ^ (k + 1) := Nat.pow_lt_pow_right (by decide) (by omega)
  constructor
  · rw [Nat.add_mod_right]; exact ha
  · rw [Nat.add_mod, ha, Nat.zero_add, Nat.mod_mod, Nat.mod_eq_of_lt hp]
/-- The places that are filled when steps of 2 to the k are done. -/
def lev (k : Nat) (j : Nat) : Int := if j % 2 ^ k = 0 then cosN j else 0
/-- .. and on the way to these, up to a. -/
def levA (k a : Nat) (j : Nat) : Int := if j % 2 ^ (k + 1) = 0 ∨ (j % 2 ^ (k + 1) = 2 ^ k ∧ j < a) then cosN j else 0
theorem levA_old {k a j : Nat} (h : j % 2 ^ (k + 1) = 0) : levA k a j = cosN j := if_pos (.inl h)
theorem levA_mid {k a : Nat} (h : 2 ^ k < a) : levA k a (2 ^ k) = cosN (2 ^ k) := by
  have hp : 2 ^ k < 2 ^ (k + 1) := Nat.pow_lt_pow_right (by decide) (by omega)
  exact if_pos (.inr ⟨Nat.mod_eq_of_lt hp, h⟩)
theorem levA_start {k : Nat} : ∀ j, (if j = 2 ^ k then cosN (2 ^ k) else lev (k + 1) j) = levA k (2 ^ (k + 1)) j := by
  intro j
  have hp : 2 ^ k < 2 ^ (k + 1) := Nat.pow_lt_pow_right (by decide) (by omega)
  by_cases e : j = 2 ^ k
  · subst e; rw [if_pos rfl, levA_mid hp]
  · rw [if_neg e]
    unfold lev levA
    by_cases h0 : j % 2 ^ (k + 1) = 0
    · rw [if_pos h0, if_pos (.inl h0)]
    · rw [if_neg h0, if_neg]
      rintro (h | ⟨h, hl⟩)
      · exact h0 h
      · rw [Nat.mod_eq_of_lt hl] at h; exact e h
theorem levA_next {k a : Nat} (ha : a % 2 ^ (k + 1) = 0) : ∀ j, (if j = a + 2 ^ k then cosN (a + 2 ^ k) else levA k a j) = levA k (a + 2 ^ (k + 1)) j := by
  intro j
  have hp : 2 ^ k < 2 ^ (k + 1) := Nat.pow_lt_pow_right (by decide) (by omega)
  obtain ⟨n1, n2⟩ := step_next ha
  by_cases e : j = a + 2 ^ k
  · subst e
    rw [if_pos rfl]
    exact (if_pos (.inr ⟨n2, by omega⟩)).symm
  · rw [if_neg e]
    unfold levA
    by_cases h0 : j % 2 ^ (k + 1) = 0
    · rw [if_pos (.inl h0), if_pos (.inl h0)]
    · by_cases h1 : j % 2 ^ (k + 1) = 2 ^ k
      · by_cases h2 : j < a
        · rw [if_pos (.inr ⟨h1, h2⟩), if_pos (.inr ⟨h1, by omega⟩)]
        · rw [if_neg (by rintro (h | ⟨_, h⟩) <;> omega), if_neg]
          rintro (h | ⟨_, h⟩)
          · exact h0 h
          · apply e
            have hja : (j - a) % 2 ^ (k + 1) = 2 ^ k := by
              have e1 : j = a + (j - a) := by omega
              rw [e1, Nat.add_mod, ha, Nat.zero_add, Nat.mod_mod] at h1
              exact h1
            rw [Nat.mod_eq_of_lt (by omega)] at hja
            omega
      · rw [if_neg (by rintro (h | ⟨h, _⟩) <;> contradiction), if_neg (by rintro (h | ⟨h, _⟩) <;> contradiction)]
theorem levA_end {k : Nat} (hk : k < 10) : ∀ j, j < 1025 → levA k 1024 j = lev k j := by
  intro j hj
  unfold lev levA
  have := half_mod (j := j) hk
  by_cases h0 : j % 2 ^ k = 0
  · rw [if_pos h0, if_pos]
    rcases this.1 h0 with h | h
    · exact .inl h
    · by_cases hj2 : j < 1024
      · exact .inr ⟨h, hj2⟩
      · obtain rfl : j = 1024 := by omega
        refine .inl ?_
        rcases k_ten hk with rfl | rfl | rfl | rfl | rfl | rfl | rfl | rfl | rfl | rfl <;> decide
  · rw [if_neg h0, if_neg]
    rintro (h | ⟨h, _⟩)
    · exact h0 (this.2 (.inl h))
    · exact h0 (this.2 (.inr h))

end Go.Proofs.Ytdmafololcpamaa

/- What the document's answers for layer 4 give, by the table: a cosine, a place of a slope. -/
namespace Go.Proofs.Ytdmafololcpamaa
open Go.RowKit
set_option linter.unusedVariables false

theorem tmod_circle (i : Int) : (0 ≤ i.tmod 4096 ∧ i.tmod 4096 = i % 4096) ∨ (i.tmod 4096 < 0 ∧ i.tmod 4096 = i % 4096 - 4096) := by
  rcases Int.lt_or_le i 0 with h | h
  · have e : i.tmod 4096 = -((-i) % 4096) := by
      have : i = -(-i) := by omega
      rw [this, Int.neg_tmod, Int.neg_neg, Int.tmod_eq_emod_of_nonneg (by omega)]
    rw [e]
    by_cases h0 : (-i) % 4096 = 0
    · exact .inl ⟨by omega, by omega⟩
    · exact .inr ⟨by omega, by omega⟩
  · have e : i.tmod 4096 = i % 4096 := Int.tmod_eq_emod_of_nonneg h
    rw [e]
    exact .inl ⟨by omega, rfl⟩

/-- A place of the circle, and where its cosine stands in the table. -/
theorem circle_in (i : Int) : ∃ P n : Nat, i % 4096 = P ∧ P < 4096 ∧ n ≤ 1024 ∧
    ((P ≤ 1024 ∧ P = n ∧ cosQ i = cosN n) ∨ (1024 < P ∧ P ≤ 2048 ∧ 2048 - P = n ∧ cosQ i = -(cosN n)) ∨ (2048 < P ∧ P < 3072 ∧ 2048 - (4096 - P) = n ∧ cosQ i = -(cosN n)) ∨ (3072 ≤ P ∧ 4096 - P = n ∧ cosQ i = cosN n)) := by
  rcases circle_at i with ⟨n, h, l⟩ | ⟨n, h, l⟩ | ⟨n, h, l0, l⟩ | ⟨n, h, l0, l⟩
  · exact ⟨n, n, h, by omega, l, .inl ⟨l, rfl, cosQ_in h l⟩⟩
  · exact ⟨2048 - n, n, by omega, by omega, by omega, .inr (.inl ⟨by omega, by omega, by omega, cosQ_2 h l⟩)⟩
  · exact ⟨2048 + n, n, by omega, by omega, by omega, .inr (.inr (.inl ⟨by omega, by omega, by omega, cosQ_3 h l0 l⟩))⟩
  · exact ⟨4096 - n, n, by omega, by omega, by omega, .inr (.inr (.inr ⟨by omega, by omega, cosQ_4 h l0 l⟩))⟩

/-! ### Edges -/
def edgesL : List Int := [0, 4, 8, 12, 16, 20, 24, 28, 32, 40, 48, 56, 64, 80, 96, 112, 128, 160, 192, 256, 352, 512]
def edgeN (k : Nat) : Int := edgesL.getD k 0
theorem edge_bd : ∀ k : Nat, k < 22 → 0 ≤ edgeN k ∧ edgeN k ≤ 512 := by decide
theorem edge_take : ∀ k : Nat, k < 21 → edgesL.take (k + 1 + 1) = edgesL.take (k + 1) ++ [edgeN (k + 1)] := by decide
theorem edge_4 : ∀ k : Nat, k < 8 → edgeN (k + 1) = edgeN k + 4 := by decide
theorem edge_8 : ∀ k : Nat, 8 ≤ k → k < 12 → edgeN (k + 1) = edgeN k + 8 := by
  intro k h0 h1
  have : k = 8 ∨ k = 9 ∨ k = 10 ∨ k = 11 := by omega
  rcases this with rfl | rfl | rfl | rfl <;> decide
theorem edge_16 : ∀ k : Nat, 12 ≤ k → k < 16 → edgeN (k + 1) = edgeN k + 16 := by
  intro k h0 h1
  have : k = 12 ∨ k = 13 ∨ k = 14 ∨ k = 15 := by omega
  rcases this with rfl | rfl | rfl | rfl <;> decide
theorem edge_32 : ∀ k : Nat, 16 ≤ k → k < 18 → edgeN (k + 1) = edgeN k + 32 := by
  intro k h0 h1
  have : k = 16 ∨ k = 17 := by omega
  rcases this with rfl | rfl <;> decide
theorem edge_last : edgeN 19 = edgeN 18 + 64 ∧ edgeN 20 = edgeN 19 + 96 ∧ edgeN 21 = edgeN 20 + 160 := by decide

/-- The band of a line. -/
noncomputable def ofP (line : Int) : Int := hideI (if line < 0 ∨ 512 ≤ line then -1 else ((edgesL.filter fun e => decide (e ≤ line)).length : Int) - 1)
def ofN (n : Nat) : Nat := (edgesL.filter fun e => decide (e ≤ (n : Int))).length - 1
theorem ofN_all : ∀ n : Nat, n < 512 → 1 ≤ (edgesL.filter fun e => decide (e ≤ (n : Int))).length ∧ ofN n < 21 ∧ edgeN (ofN n) ≤ n ∧ (n : Int) < edgeN (ofN n + 1) := by decide +kernel
theorem of_in {x : Int} (h0 : 0 ≤ x) (h1 : x < 512) : ∃ b : Nat, b < 21 ∧ ofP x = b ∧ edgeN b ≤ x ∧ x < edgeN (b + 1) := by
  obtain ⟨n, rfl⟩ : ∃ n : Nat, x = n := ⟨x.toNat, by omega⟩
  obtain ⟨a, b, c, d⟩ := ofN_all n (by omega)
  refine ⟨ofN n, b, ?_, c, d⟩
  unfold ofP
  rw [hideI_eq, if_neg (by omega)]
  unfold ofN
  omega
theorem of_out {x : Int} (h : x < 0 ∨ 512 ≤ x) : ofP x = -1 := by unfold ofP; rw [hideI_eq, if_pos h]
theorem info_int04 : (Try.prog.info? 3).map (fun i => (i.zero, i.size, i.bytes)) = some (some (.int .i64 0), 1, 8) := by kernel_rfl

set_option maxRecDepth 100000 in
theorem ref04Edges_any (w : World) :
    Calls Try.prog 22 #[] w fun e w' => ∃ a c, e = .returned (.slice a 22 c) ∧ IntsAt w' w'.heap.size .i64 a 22 edgesL ∧ Below w.heap.size w w' := by
  have hO := Lib.hid (World.ownsRow_lit (base := w.heap.size) (e := 3) (size := 1) w #[.int .i64 0] 1 (Nat.le_refl _) (by decide) rfl)
  have hB := Lib.hid (Below.alloc_new w (.cells #[.int .i64 0] 3))
  go_enter Try.func22, Try.ntmps22
  go_wp2
  go_loopw [1, 2, 3, 4] (fun v a i _ wr => ∃ k : Nat, k ≤ 21 ∧ i = .int .i64 k ∧ a = .int .i64 (edgeN k) ∧ RowKit.Hid (wr.ownsRow w.heap.size 3 1 v (k + 1) ((edgesL.take (k + 1)).map (Value.int .i64)) ∧ Below w.heap.size w wr))
    (fun _ _ i _ _ => (21 - intOf i).toNat)
  case atStart => exact ⟨0, by omega, rfl, rfl, hO.out, hB.out⟩
  case round =>
    obtain ⟨k, hk, rfl, rfl, H⟩ := hrel
    clear hO hB
    by_cases hlt : k < 21
    · obtain ⟨e0, e1⟩ := edge_bd k (by omega)
      have HT := Lib.hid (edge_take k hlt)
      have hsz := H.out.2.size
      have cls : ∃ d : Int, 0 ≤ d ∧ d ≤ 160 ∧ edgeN (k + 1) = edgeN k + d ∧ ((k < 8 ∧ d = 4) ∨ (8 ≤ k ∧ k < 12 ∧ d = 8) ∨ (12 ≤ k ∧ k < 16 ∧ d = 16) ∨ (16 ≤ k ∧ k < 18 ∧ d = 32) ∨ (18 ≤ k ∧ k ≤ 18 ∧ d = 64) ∨ (19 ≤ k ∧ k ≤ 19 ∧ d = 96) ∨ (20 ≤ k ∧ k ≤ 20 ∧ d = 160)) := by
        by_cases h1 : k < 8
        · exact ⟨4, by omega, by omega, edge_4 k h1, .inl ⟨h1, rfl⟩⟩
        · by_cases h2 : k < 12
          · exact ⟨8, by omega, by omega, edge_8 k (by omega) h2, .inr (.inl ⟨by omega, h2, rfl⟩)⟩
          · by_cases h3 : k < 16
            · exact ⟨16, by omega, by omega, edge_16 k (by omega) h3, .inr (.inr (.inl ⟨by omega, h3, rfl⟩))⟩
            · by_cases h4 : k < 18
              · exact ⟨32, by omega, by omega, edge_32 k (by omega) h4, .inr (.inr (.inr (.inl ⟨by omega, h4, rfl⟩)))⟩
              · have : k = 18 ∨ k = 19 ∨ k = 20 := by omega
                rcases this with rfl | rfl | rfl
                · exact ⟨64, by omega, by omega, edge_last.1, by omega⟩
                · exact ⟨96, by omega, by omega, edge_last.2.1, by omega⟩
                · exact ⟨160, by omega, by omega, edge_last.2.2, by omega⟩
      obtain ⟨d, d0, d1, hd, cls⟩ := cls
      have HD := Lib.hid hd
      clear hd
      generalize edgeN k = x at e0 e1 HD
      have hrow := Lib.hid H.out.1
      have hbel := Lib.hid (H.out.2.alloc hsz (.cells #[.int .i64 (x + d)] 3))
      have hsrc := Lib.hid (lit_ints wr 3 .i64 [x + d] #[.int .i64 (x + d)] (0, 0) rfl (by simp))
      have hown0 := Lib.hid (World.ownsRow.alloc H.out.1 (.cells #[.int .i64 (x + d)] 3))
      have hob := Lib.hid (own_base H.out.1)
      rcases cls with ⟨k0, rfl⟩ | ⟨k0, k1, rfl⟩ | ⟨k0, k1, rfl⟩ | ⟨k0, k1, rfl⟩ | ⟨k0, k1, rfl⟩ | ⟨k0, k1, rfl⟩ | ⟨k0, k1, rfl⟩
      all_goals
        go_wp2_with (at_builtin; go_loud (refine append_ints rfl _ _ 26 rfl w.heap.size 3 .i64 8 Try.underlying26 info_int04 _ (k + 1) (edgesL.take (k + 1)) rfl hown0.out (some ⟨wr.heap.size, 0, none⟩) 1 1 _ [_] rfl hsrc.out (by simp) ?c1 ?c2 ?c3 ?_))
        case c1 => unfold maxLen; omega
        case c2 => omega
        case c3 => first | omega | (simp; omega)
        intro v2 w2 hown hgrow _
        have H2 : RowKit.Hid (w2.ownsRow w.heap.size 3 1 v2 (k + 1 + 1) ((edgesL.take (k + 1 + 1)).map (Value.int .i64)) ∧ Below w.heap.size w w2) := by
          refine ⟨?_, hbel.out.grown hgrow (by simp; omega) hob.out⟩
          rw [HT.out, HD.out]; simpa [List.map_take] using hown
        clear hown hgrow
        go_wp2
        go_roundw
        case rel => exact ⟨k + 1, by omega, by go_num, by rw [HD.out], H2.out⟩
        case measure => simp [intOf] <;> omega
    · obtain rfl : k = 21 := by omega
      have HI := Lib.hid (own_ints H.out.1)
      have HB := Lib.hid H.out.2
      clear H
      go_wp2
      go_ret
      obtain ⟨a, c, rfl, hi⟩ := HI.out
      exact ⟨a, c, rfl, hi, HB.out⟩
end Go.Proofs.Ytdmafololcpamaa

/- Plain facts of layer 10 that want no range coder: how many bits a number has, the ceilings of lines, which ceilings are right, lists that are filled. Nothing here speaks of the program. -/
namespace Go.Proofs.Ytdmafololcpamaa
open Go Go.RowKit
set_option linter.unusedVariables false

/-! ### Bits -/
/-- How many bits a number has, without its sign. -/
def bitsI (x : Int) : Nat := bitLen x.natAbs
theorem bitLen_zero : bitLen 0 = 0 := rfl
theorem bitLen_half {n : Nat} (h : n ≠ 0) : bitLen n = bitLen (n / 2) + 1 := by
  by_cases h1 : n / 2 = 0
  · obtain rfl : n = 1 := by omega
    decide
  · have := bitLen_shift n 1 (by simpa using h1)
    rw [this]; simp only [Nat.pow_one]; omega
theorem bitLen_le {n k : Nat} (h : n < 2 ^ k) : bitLen n ≤ k := by
  by_cases h0 : n = 0
  · subst h0; rw [bitLen_zero]; omega
  · have h1 := (bitLen_spec n).2 h0
    have h2 : 2 ^ (bitLen n - 1) < 2 ^ k := by omega
    have h3 := (Nat.pow_lt_pow_iff_right (by decide : 1 < 2)).1 h2
    omega
theorem bitsI_le {x : Int} (h0 : -2147483648 ≤ x) (h1 : x ≤ 2147483648) : bitsI x ≤ 32 := bitLen_le (by omega)
theorem bitsI_zero : bitsI 0 = 0 := rfl

/-! ### Ceilings -/
/-- The greatest of n numbers from a on, and of nought. -/
def maxTo (f : Nat → Int) (a : Nat) : Nat → Int
  | 0 => 0
  | n + 1 => max (maxTo f a n) (f (a + n))
theorem maxTo_zero (f : Nat → Int) (a : Nat) : maxTo f a 0 = 0 := rfl
theorem maxTo_succ (f : Nat → Int) (a n : Nat) : maxTo f a (n + 1) = max (maxTo f a n) (f (a + n)) := rfl
theorem maxTo_bd {f : Nat → Int} {a : Nat} {m : Int} (h : 0 ≤ m) : ∀ n, (∀ i, i < n → f (a + i) ≤ m) → 0 ≤ maxTo f a n ∧ maxTo f a n ≤ m := by
  intro n
  induction n with
  | zero => intro _; exact ⟨Int.le_refl _, h⟩
  | succ n ih =>
    intro hf
    have := ih fun i hi => hf i (by omega)
    have := hf n (by omega)
    rw [maxTo_succ]; omega
theorem maxTo_ext {f g : Nat → Int} {a : Nat} : ∀ n, (∀ i, i < n → f (a + i) = g (a + i)) → maxTo f a n = maxTo g a n := by
  intro n
  induction n with
  | zero => intro _; rfl
  | succ n ih => intro h; rw [maxTo_succ, maxTo_succ, ih fun i hi => h i (by omega), h n (by omega)]
/-- The edges as counts. -/
def edgeK (k : Nat) : Nat := (edgeN k).toNat
theorem edgeK_eq {k : Nat} (h : k < 22) : edgeN k = (edgeK k : Int) := by have := edge_bd k h; unfold edgeK; omega
theorem edgeK_lt : ∀ k : Nat, k < 21 → edgeK k < edgeK (k + 1) ∧ edgeK (k + 1) ≤ 512 := by decide
/-- The bits of each of some numbers. -/
def bitF (x : Nat → Int) (i : Nat) : Int := bitsI (x i)
/-- The ceilings of lines. -/
def ceilF (x : Nat → Int) (b : Nat) : Int := maxTo (bitF x) (edgeK b) (edgeK (b + 1) - edgeK b)
theorem bitF_bd {x : Nat → Int} (h : ∀ i, i < 512 → -2147483648 ≤ x i ∧ x i ≤ 2147483647) {i : Nat} (hi : i < 512) : 0 ≤ bitF x i ∧ bitF x i ≤ 32 := by
  have := bitsI_le (x := x i) (by have := h i hi; omega) (by have := h i hi; omega)
  unfold bitF; omega
theorem ceilF_bd {x : Nat → Int} (h : ∀ i, i < 512 → -2147483648 ≤ x i ∧ x i ≤ 2147483647) {b : Nat} (hb : b < 21) : 0 ≤ ceilF x b ∧ ceilF x b ≤ 32 := by
  have := edgeK_lt b hb
  exact maxTo_bd (by decide) _ fun i hi => (bitF_bd h (by omega)).2
theorem ceilF_ext {x y : Nat → Int} (h : ∀ i, i < 512 → x i = y i) {b : Nat} (hb : b < 21) : ceilF x b = ceilF y b := by
  have := edgeK_lt b hb
  exact maxTo_ext _ fun i hi => by unfold bitF; rw [h _ (by omega)]

/-! ### Which are right -/
def rightB (zs : List Int) : Bool := decide (zs.length = 21) && zs.all fun z => decide (0 ≤ z) && decide (z ≤ 26)
theorem rightB_true {zs : List Int} (h : rightB zs = true) : zs.length = 21 ∧ ∀ j, j < 21 → 0 ≤ zs.getD j 0 ∧ zs.getD j 0 ≤ 26 := by
  unfold rightB at h
  rw [Bool.and_eq_true, decide_eq_true_eq, List.all_eq_true] at h
  refine ⟨h.1, fun j hj => ?_⟩
  have hj' : j < zs.length := by omega
  have := h.2 (zs.getD j 0) (by simp [List.getD, hj'])
  simpa using this
theorem rightB_of {zs : List Int} (hl : zs.length = 21) (h : ∀ j, j < 21 → 0 ≤ zs.getD j 0 ∧ zs.getD j 0 ≤ 26) : rightB zs = true := by
  unfold rightB
  rw [Bool.and_eq_true, decide_eq_true_eq, List.all_eq_true]
  refine ⟨hl, fun z hz => ?_⟩
  obtain ⟨j, hj, rfl⟩ := List.getElem_of_mem hz
  have := h j (by omega)
  simpa [List.getD, hj] using this
theorem rightB_len {zs : List Int} (h : zs.length ≠ 21) : rightB zs = false := by unfold rightB; simp [h]
theorem rightB_at {zs : List Int} {j : Nat} (hj : j < zs.length) (h : zs.getD j 0 < 0 ∨ 26 < zs.getD j 0) : rightB zs = false := by
  cases hr : rightB zs with
  | false => rfl
  | true =>
    have h1 := rightB_true hr
    have := h1.2 j (by omega)
    omega

/-! ### Lists that are filled -/
/-- The first k of some numbers, noughts behind. -/
def preF (F : Nat → Int) (k i : Nat) : Int := if i < k then F i else 0
theorem preF_zero (F : Nat → Int) (i : Nat) : preF F 0 i = 0 := if_neg (by omega)
theorem preF_next (F : Nat → Int) (k i : Nat) : (if i = k then F k else preF F k i) = preF F (k + 1) i := by
  unfold preF
  by_cases h : i = k
  · subst h; rw [if_pos rfl, if_pos (by omega)]
  · rw [if_neg h]; split
    · rw [if_pos (by omega)]
    · rw [if_neg (by omega)]
theorem preF_end (F : Nat → Int) {k i : Nat} (h : i < k) : preF F k i = F i := if_pos h
/-- The ceilings of the first k bands, the greatest of m lines of the next, noughts behind. -/
def accF (x : Nat → Int) (k m i : Nat) : Int := if i < k then ceilF x i else if i = k then maxTo (bitF x) (edgeK k) m else 0
theorem accF_zero (x : Nat → Int) (k i : Nat) : accF x k 0 i = preF (ceilF x) k i := by
  unfold accF preF
  split
  · rfl
  · split <;> rfl
theorem accF_here (x : Nat → Int) (k m : Nat) : accF x k m k = maxTo (bitF x) (edgeK k) m := by unfold accF; rw [if_neg (by omega), if_pos rfl]
theorem accF_next (x : Nat → Int) (k m i : Nat) {y : Int} (h : y = maxTo (bitF x) (edgeK k) (m + 1)) : (if i = k then y else accF x k m i) = accF x k (m + 1) i := by
  subst h
  unfold accF
  by_cases h : i = k
  · subst h; rw [if_pos rfl, if_neg (by omega), if_pos rfl]
  · rw [if_neg h]; split
    · rfl
    · rfl
theorem accF_end (x : Nat → Int) {k n : Nat} (i : Nat) (h : n = edgeK (k + 1) - edgeK k) : accF x k n i = preF (ceilF x) (k + 1) i := by
  subst h
  unfold accF preF
  by_cases h : i = k
  · subst h; rw [if_neg (by omega), if_pos rfl, if_pos (by omega)]; rfl
  · split
    · rw [if_pos (by omega)]
    · rw [if_neg (by omega)]
end Go.Proofs.Ytdmafololcpamaa

/- Plain facts of models, for the statements of layers 5 to 7: parts, which symbol a number finds, what is learnt. Nothing here speaks of the program. -/
namespace Go.Proofs.Ytdmafololcpamaa
open Go
set_option linter.unusedVariables false

/-- How often the first n symbols come. -/
def sumN (l : List Int) (n : Nat) : Int := (l.take n).sum
theorem sumN_zero (l : List Int) : sumN l 0 = 0 := by simp [sumN]
theorem sumN_succ (l : List Int) (n : Nat) (h : n < l.length) : sumN l (n + 1) = sumN l n + l.getD n 0 := by
  unfold sumN; rw [take_snocI l n h]; simp
theorem sumN_all (l : List Int) : sumN l l.length = l.sum := by simp [sumN]
theorem sumN_over (l : List Int) {n : Nat} (h : l.length ≤ n) : sumN l n = l.sum := by unfold sumN; rw [List.take_of_length_le h]
/-- Bounds of parts, where each number lies between a and b. -/
theorem sumN_bd {l : List Int} {a b : Int} (h : ∀ j, j < l.length → a ≤ l.getD j 0 ∧ l.getD j 0 ≤ b) : ∀ n, n ≤ l.length → a * n ≤ sumN l n ∧ sumN l n ≤ b * n := by
  intro n
  induction n with
  | zero => intro _; rw [sumN_zero]; simp
  | succ n ih =>
    intro hn
    obtain ⟨h1, h2⟩ := ih (by omega)
    obtain ⟨h3, h4⟩ := h n (by omega)
    rw [sumN_succ l n (by omega)]
    have e1 : a * ((n + 1 : Nat) : Int) = a * n + a := by rw [Int.natCast_add, Int.mul_add]; simp
    have e2 : b * ((n + 1 : Nat) : Int) = b * n + b := by rw [Int.natCast_add, Int.mul_add]; simp
    omega
theorem sumN_rise {l : List Int} (h : ∀ j, j < l.length → 0 ≤ l.getD j 0) {m n : Nat} (hmn : m ≤ n) (hn : n ≤ l.length) : sumN l m ≤ sumN l n := by
  induction n with
  | zero => obtain rfl : m = 0 := by omega
            exact Int.le_refl _
  | succ n ih =>
    rcases Nat.lt_or_ge m (n + 1) with h1 | h1
    · have := ih (by omega) (by omega)
      have := h n (by omega)
      rw [sumN_succ l n (by omega)]; omega
    · obtain rfl : m = n + 1 := by omega
      exact Int.le_refl _
theorem sumN_strict {l : List Int} (h : ∀ j, j < l.length → 1 ≤ l.getD j 0) {m n : Nat} (hmn : m < n) (hn : n ≤ l.length) : sumN l m < sumN l n := by
  have a := sumN_succ l m (by omega)
  have b := h m (by omega)
  have c := sumN_rise (l := l) (fun j hj => by have := h j hj; omega) (m := m + 1) (n := n) (by omega) hn
  omega

/-- The symbol in whose part a number is: from the i-th one on, n of them. -/
def findGo (l : List Int) (at' : Int) : Nat → Nat → Nat
  | _, 0 => l.length - 1
  | i, n + 1 => if at' < sumN l (i + 1) then i else findGo l at' (i + 1) n
def findP (l : List Int) (at' : Int) : Nat := findGo l at' 0 l.length
theorem findGo_lt {l : List Int} (at' : Int) : ∀ n i, i + n = l.length → 0 < l.length → findGo l at' i n < l.length := by
  intro n
  induction n with
  | zero => intro i _ h0; unfold findGo; omega
  | succ n ih =>
    intro i hi h0
    unfold findGo
    split
    · omega
    · exact ih (i + 1) (by omega) h0
theorem findP_lt {l : List Int} (at' : Int) (h : 0 < l.length) : findP l at' < l.length := findGo_lt at' _ 0 (by omega) h
/-- Who is below the i-th symbol's upper end, and not below the ones ahead, finds it. -/
theorem findGo_eq {l : List Int} {at' : Int} {i : Nat} (hi : i < l.length) (h1 : at' < sumN l (i + 1)) : ∀ n j, j + n = l.length → j ≤ i → (∀ k, j ≤ k → k < i → sumN l (k + 1) ≤ at') → findGo l at' j n = i := by
  intro n
  induction n with
  | zero => intro j hj hji _; omega
  | succ n ih =>
    intro j hj hji h
    unfold findGo
    by_cases e : j = i
    · subst e; rw [if_pos h1]
    · rw [if_neg (by have := h j (Nat.le_refl _) (by omega); omega)]
      exact ih (j + 1) (by omega) (by omega) fun k hk hki => h k (by omega) hki
theorem findP_eq {l : List Int} (hp : ∀ j, j < l.length → 1 ≤ l.getD j 0) {at' : Int} {i : Nat} (hi : i < l.length) (h0 : sumN l i ≤ at') (h1 : at' < sumN l (i + 1)) : findP l at' = i := by
  refine findGo_eq hi h1 _ 0 (by omega) (by omega) fun k _ hk => ?_
  have := sumN_rise (l := l) (fun j hj => by have := hp j hj; omega) (m := k + 1) (n := i) (by omega) (by omega)
  omega
/-- What is found is where the number lies, if it is below all. -/
theorem findP_is {l : List Int} {at' : Int} (h0 : 0 ≤ at') (h1 : at' < sumN l l.length) : findP l at' < l.length ∧ sumN l (findP l at') ≤ at' ∧ at' < sumN l (findP l at' + 1) := by
  have go : ∀ n i, i + n = l.length → sumN l i ≤ at' → findGo l at' i n < l.length ∧ sumN l (findGo l at' i n) ≤ at' ∧ at' < sumN l (findGo l at' i n + 1) := by
    intro n
    induction n with
    | zero =>
      intro i hi hs
      rw [show i = l.length by omega] at hs
      omega
    | succ n ih =>
      intro i hi hs
      unfold findGo
      by_cases h : at' < sumN l (i + 1)
      · rw [if_pos h]; exact ⟨by omega, hs, h⟩
      · rw [if_neg h]; exact ih (i + 1) (by omega) (by omega)
  exact go l.length 0 (by omega) (by rw [sumN_zero]; exact h0)

/-- A model's list: 1 to 64 symbols, each comes, together at most 8192 times. -/
def GoodL (l : List Int) : Prop := 1 ≤ l.length ∧ l.length ≤ 64 ∧ (∀ j, j < l.length → 1 ≤ l.getD j 0) ∧ l.sum ≤ 8192
theorem GoodL.sum_le {l : List Int} (h : GoodL l) {n : Nat} (hn : n ≤ l.length) : 0 ≤ sumN l n ∧ sumN l n ≤ 8192 := by
  have a := sumN_rise (l := l) (fun j hj => by have := h.2.2.1 j hj; omega) (m := 0) (n := n) (by omega) hn
  have b := sumN_rise (l := l) (fun j hj => by have := h.2.2.1 j hj; omega) (m := n) (n := l.length) hn (Nat.le_refl _)
  rw [sumN_zero] at a
  rw [sumN_all] at b
  have := h.2.2.2
  omega
theorem GoodL.own {l : List Int} (h : GoodL l) {j : Nat} (hj : j < l.length) : 1 ≤ l.getD j 0 ∧ l.getD j 0 ≤ 8192 := by
  have a := h.sum_le (n := j) (by omega)
  have b := h.sum_le (n := j + 1) (by omega)
  rw [sumN_succ l j hj] at b
  have := h.2.2.1 j hj
  omega
theorem goodL_ones {n : Nat} (h0 : 1 ≤ n) (h1 : n ≤ 64) : GoodL (List.replicate n 1) := by
  refine ⟨by simp; omega, by simp; omega, fun j hj => ?_, ?_⟩
  · simp at hj; simp [List.getD, hj]
  · have : ∀ n : Nat, (List.replicate n (1 : Int)).sum = n := by
      intro n
      induction n with
      | zero => rfl
      | succ n ih => rw [List.replicate_succ, List.sum_cons, ih]; omega
    rw [this]; omega
/-- s comes 32 times more often. -/
def riseL (l : List Int) (s : Nat) : List Int := l.set s (l.getD s 0 + 32)
/-- Each comes half as often, rounded upwards: the first k of them. -/
def halfK (l : List Int) (k : Nat) : List Int := (l.take k).map (fun x => (x + 1) / 2) ++ l.drop k
def halfL (l : List Int) : List Int := l.map fun x => (x + 1) / 2
/-- What is learnt. -/
def learnP (l : List Int) (s : Nat) : List Int := if 8192 < (riseL l s).sum then halfL (riseL l s) else riseL l s
theorem riseL_len (l : List Int) (s : Nat) : (riseL l s).length = l.length := by simp [riseL]
theorem halfL_len (l : List Int) : (halfL l).length = l.length := by simp [halfL]
theorem learnP_len (l : List Int) (s : Nat) : (learnP l s).length = l.length := by unfold learnP; split <;> simp [halfL_len, riseL_len]
theorem getD_set' (l : List Int) (j k : Nat) (x : Int) (h : j < l.length) : (l.set j x).getD k 0 = if k = j then x else l.getD k 0 := by
  simp only [List.getD, List.getElem?_set]
  by_cases e : j = k
  · subst e; simp [h]
  · rw [if_neg e, if_neg (fun c => e c.symm)]
theorem sum_set (l : List Int) (s : Nat) (x : Int) (h : s < l.length) : (l.set s x).sum = l.sum - l.getD s 0 + x := by
  induction l generalizing s with
  | nil => simp at h
  | cons a l ih =>
    cases s with
    | zero => simp [List.getD]; omega
    | succ s =>
      have := ih s (by simpa using h)
      simp only [List.set_cons_succ, List.sum_cons, List.getD_cons_succ] at this ⊢
      omega
theorem riseL_sum {l : List Int} {s : Nat} (h : s < l.length) : (riseL l s).sum = l.sum + 32 := by
  unfold riseL; rw [sum_set l s _ h]; omega
theorem halfL_sum {l : List Int} : (halfL l).sum * 2 ≤ l.sum + l.length := by
  induction l with
  | nil => simp [halfL]
  | cons a l ih =>
    unfold halfL at *
    simp only [List.map_cons, List.sum_cons, List.length_cons]
    omega
theorem halfL_getD {l : List Int} {j : Nat} (h : j < l.length) : (halfL l).getD j 0 = (l.getD j 0 + 1) / 2 := by simp [halfL, List.getD, h]
theorem riseL_own {l : List Int} (h : GoodL l) {s j : Nat} (hs : s < l.length) (hj : j < l.length) : 1 ≤ (riseL l s).getD j 0 ∧ (riseL l s).getD j 0 ≤ 8224 := by
  unfold riseL
  rw [getD_set' l s j _ hs]
  have a := h.own hs
  have b := h.own hj
  split <;> omega
theorem learnP_good {l : List Int} (h : GoodL l) {s : Nat} (hs : s < l.length) : GoodL (learnP l s) := by
  have hsum := riseL_sum hs
  have h3 := h.2.2.2
  unfold learnP
  split
  · refine ⟨by rw [halfL_len, riseL_len]; exact h.1, by rw [halfL_len, riseL_len]; exact h.2.1, fun j hj => ?_, ?_⟩
    · rw [halfL_len, riseL_len] at hj
      rw [halfL_getD (by rw [riseL_len]; exact hj)]
      have := riseL_own h hs hj
      omega
    · have := halfL_sum (l := riseL l s)
      rw [riseL_len] at this
      have := h.2.1
      omega
  · refine ⟨by rw [riseL_len]; exact h.1, by rw [riseL_len]; exact h.2.1, fun j hj => ?_, by omega⟩
    rw [riseL_len] at hj
    exact (riseL_own h hs hj).1
theorem halfK_zero (l : List Int) : halfK l 0 = l := by simp [halfK]
theorem halfK_all (l : List Int) : halfK l l.length = halfL l := by simp [halfK, halfL]
theorem halfK_len (l : List Int) {k : Nat} (h : k ≤ l.length) : (halfK l k).length = l.length := by simp [halfK]; omega
theorem halfK_at (l : List Int) {k : Nat} (h : k < l.length) : (halfK l k).getD k 0 = l.getD k 0 := by
  unfold halfK
  simp only [List.getD, List.getElem?_append]
  rw [if_neg (by simp; omega)]
  simp only [List.length_map, List.length_take, Nat.min_eq_left (Nat.le_of_lt h), Nat.sub_self, List.getElem?_drop, Nat.add_zero]
theorem halfK_next (l : List Int) {k : Nat} (h : k < l.length) : (halfK l k).set k ((l.getD k 0 + 1) / 2) = halfK l (k + 1) := by
  unfold halfK
  rw [take_snocI l k h, List.map_append, List.append_assoc, List.set_append_right _ _ (by simp; omega)]
  congr 1
  simp only [List.length_map, List.length_take, Nat.min_eq_left (Nat.le_of_lt h), Nat.sub_self]
  rw [List.drop_eq_getElem_cons h, List.set_cons_zero]
  simp [List.getD, h]
end Go.Proofs.Ytdmafololcpamaa

/- Plain facts of the range coder, for the statements of layers 6 and 7: what an encoder's number is, what a decoder takes of it, and that what was put comes back. Nothing here speaks of the program. -/
namespace Go.Proofs.Ytdmafololcpamaa
open Go
set_option linter.unusedVariables false

/-- An encoder: the number (L times 256 to the scale), the size, the scale. -/
structure EncS where
  n : Int
  s : Int
  k : Nat
def P256 (k : Nat) : Int := 256 ^ k
theorem P256_succ (k : Nat) : P256 (k + 1) = P256 k * 256 := by unfold P256; rw [Int.pow_succ]
theorem P256_add (a b : Nat) : P256 (a + b) = P256 a * P256 b := by unfold P256; rw [Int.pow_add]
theorem P256_pos (k : Nat) : 1 ≤ P256 k := by
  induction k with
  | zero => decide
  | succ k ih => rw [P256_succ]; omega
def scaleE (e : EncS) : EncS := if 16777216 ≤ e.s then e else if 16777216 ≤ e.s * 256 then ⟨e.n * 256, e.s * 256, e.k + 1⟩ else ⟨e.n * 65536, e.s * 65536, e.k + 2⟩
def encNew : EncS := ⟨0, 4294967295, 0⟩
/-- Ahead of the scaling. -/
def encPre (e : EncS) (low own all : Int) : EncS := ⟨e.n + e.s / all * low, e.s / all * own, e.k⟩
def encPut (e : EncS) (low own all : Int) : EncS := scaleE (encPre e low own all)
/-- A part may be. -/
def OkP (low own all : Int) : Prop := 1 ≤ all ∧ all ≤ 8192 ∧ 1 ≤ own ∧ 0 ≤ low ∧ low + own ≤ all
def GoodE (e : EncS) : Prop := 16777216 ≤ e.s ∧ e.s ≤ 4294967295 ∧ 0 ≤ e.n ∧ e.n + e.s ≤ 4294967296 * P256 e.k
theorem goodE_new : GoodE encNew := by unfold GoodE encNew P256; decide
/-- What each part is. -/
theorem each_bd {s all : Int} (h0 : 16777216 ≤ s) (h1 : s ≤ 4294967295) (a0 : 1 ≤ all) (a1 : all ≤ 8192) : 2048 ≤ s / all ∧ s / all ≤ 4294967295 ∧ s / all * all ≤ s := by
  refine ⟨?_, ?_, Int.ediv_mul_le s (by omega)⟩
  · rw [Int.le_ediv_iff_mul_le (by omega)]; omega
  · have := Int.ediv_le_self all (show 0 ≤ s by omega); omega
theorem encPre_bd {e : EncS} {low own all : Int} (h : GoodE e) (p : OkP low own all) :
    2048 ≤ (encPre e low own all).s ∧ (encPre e low own all).s ≤ 4294967295 ∧ 0 ≤ (encPre e low own all).n ∧ e.n ≤ (encPre e low own all).n ∧ (encPre e low own all).n + (encPre e low own all).s ≤ e.n + e.s := by
  obtain ⟨h1, h2, h3, h4⟩ := h
  obtain ⟨p1, p2, p3, p4, p5⟩ := p
  obtain ⟨e1, e2, e3⟩ := each_bd h1 h2 p1 p2
  unfold encPre
  simp only
  generalize e.s / all = E at e1 e2 e3
  have a1 : E * 1 ≤ E * own := Int.mul_le_mul_of_nonneg_left p3 (by omega)
  have a2 : 0 ≤ E * low := Int.mul_nonneg (by omega) p4
  have a3 : E * (low + own) ≤ E * all := Int.mul_le_mul_of_nonneg_left p5 (by omega)
  rw [Int.mul_add] at a3
  omega
theorem scaleE_step {e : EncS} (h : 256 ≤ e.s) (hs : e.s < 16777216) : scaleE e = scaleE ⟨e.n * 256, e.s * 256, e.k + 1⟩ := by
  unfold scaleE
  simp only
  rw [if_neg (by omega)]
  by_cases h1 : 16777216 ≤ e.s * 256
  · rw [if_pos h1, if_pos h1]
  · rw [if_neg h1, if_neg h1, if_pos (by omega)]
    congr 1 <;> omega
theorem scaleE_end {e : EncS} (h : 16777216 ≤ e.s) : scaleE e = e := by unfold scaleE; rw [if_pos h]
/-- One encoder's interval lies inside another's. -/
def Inside (e f : EncS) : Prop := e.k ≤ f.k ∧ e.n * P256 (f.k - e.k) ≤ f.n ∧ f.n + f.s ≤ (e.n + e.s) * P256 (f.k - e.k)
theorem Inside.refl (e : EncS) : Inside e e := by
  unfold Inside
  rw [Nat.sub_self]
  show _ ∧ e.n * 1 ≤ _ ∧ _ ≤ (e.n + e.s) * 1
  omega
theorem Inside.trans {a b c : EncS} (h : Inside a b) (g : Inside b c) : Inside a c := by
  obtain ⟨h1, h2, h3⟩ := h
  obtain ⟨g1, g2, g3⟩ := g
  have e : c.k - a.k = (b.k - a.k) + (c.k - b.k) := by omega
  have p := P256_pos (c.k - b.k)
  refine ⟨by omega, ?_, ?_⟩
  · rw [e, P256_add, ← Int.mul_assoc]
    exact Int.le_trans (Int.mul_le_mul_of_nonneg_right h2 (by omega)) g2
  · rw [e, P256_add, ← Int.mul_assoc]
    exact Int.le_trans g3 (Int.mul_le_mul_of_nonneg_right h3 (by omega))
theorem scaleE_inside (e : EncS) : Inside e (scaleE e) ∧ (scaleE e).n = e.n * P256 ((scaleE e).k - e.k) ∧ (scaleE e).s = e.s * P256 ((scaleE e).k - e.k) := by
  have p1 : P256 1 = 256 := by decide
  have p2 : P256 2 = 65536 := by decide
  have p0 : P256 0 = 1 := by decide
  by_cases h1 : 16777216 ≤ e.s
  · rw [scaleE_end h1]
    refine ⟨Inside.refl e, ?_, ?_⟩
    · rw [Nat.sub_self, p0]; omega
    · rw [Nat.sub_self, p0]; omega
  · by_cases h2 : 16777216 ≤ e.s * 256
    · have hx : scaleE e = ⟨e.n * 256, e.s * 256, e.k + 1⟩ := by unfold scaleE; rw [if_neg h1, if_pos h2]
      have k1 : e.k + 1 - e.k = 1 := by omega
      rw [hx]
      unfold Inside
      simp only [k1, p1]
      refine ⟨⟨by omega, ?_, ?_⟩, trivial, trivial⟩
      · exact Int.le_refl _
      · omega
    · have hx : scaleE e = ⟨e.n * 65536, e.s * 65536, e.k + 2⟩ := by unfold scaleE; rw [if_neg h1, if_neg h2]
      have k2 : e.k + 2 - e.k = 2 := by omega
      rw [hx]
      unfold Inside
      simp only [k2, p2]
      refine ⟨⟨by omega, ?_, ?_⟩, trivial, trivial⟩
      · exact Int.le_refl _
      · omega
theorem encPre_inside {e : EncS} {low own all : Int} (h : GoodE e) (p : OkP low own all) : Inside e (encPre e low own all) := by
  obtain ⟨a, b, c, d, f⟩ := encPre_bd h p
  have k : (encPre e low own all).k - e.k = 0 := Nat.sub_self _
  refine ⟨Nat.le_refl _, ?_, ?_⟩ <;> rw [k] <;> show _ ≤ _
  · show e.n * 1 ≤ _; omega
  · show _ ≤ (e.n + e.s) * 1; omega
theorem encPut_inside {e : EncS} {low own all : Int} (h : GoodE e) (p : OkP low own all) : Inside e (encPut e low own all) := (encPre_inside h p).trans (scaleE_inside _).1
theorem scaleE_good {e : EncS} (h0 : 2048 ≤ e.s) (h1 : e.s ≤ 4294967295) (h2 : 0 ≤ e.n) (h3 : e.n + e.s ≤ 4294967296 * P256 e.k) : GoodE (scaleE e) := by
  have p := P256_pos e.k
  unfold scaleE GoodE
  split
  · exact ⟨by assumption, h1, h2, h3⟩
  · split
    · simp only [P256_succ]; omega
    · simp only [show e.k + 2 = e.k + 1 + 1 by omega, P256_succ]; omega
theorem encPut_good {e : EncS} {low own all : Int} (h : GoodE e) (p : OkP low own all) : GoodE (encPut e low own all) := by
  obtain ⟨a, b, c, d, f⟩ := encPre_bd h p
  exact scaleE_good a b c (Int.le_trans f h.2.2.2)

theorem encPut_k (e : EncS) (low own all : Int) : (encPut e low own all).k ≤ e.k + 2 := by
  unfold encPut scaleE
  have h : (encPre e low own all).k = e.k := rfl
  split
  · omega
  · split <;> simp only <;> omega

/-! ### Digits -/
/-- The number that the first i digits make. -/
def valB (b : Nat → Int) : Nat → Int
  | 0 => 0
  | i + 1 => valB b i * 256 + b i
/-- The i digits that a number has. -/
def digB (n : Int) (len j : Nat) : Int := n / P256 (len - 1 - j) % 256
theorem valB_dig {n : Int} {len : Nat} {b : Nat → Int} (hn : 0 ≤ n) (hl : n < P256 len) (hb : ∀ j, j < len → b j = digB n len j) : ∀ i, i ≤ len → valB b i = n / P256 (len - i) := by
  intro i
  induction i with
  | zero =>
    intro _
    show (0 : Int) = _
    rw [Nat.sub_zero, Int.ediv_eq_zero_of_lt hn hl]
  | succ i ih =>
    intro hi
    show valB b i * 256 + b i = _
    rw [ih (by omega), hb i (by omega)]
    unfold digB
    have e : len - i = (len - (i + 1)) + 1 := by omega
    have e2 : len - 1 - i = len - (i + 1) := by omega
    rw [e, e2, P256_succ, ← Int.ediv_ediv_of_nonneg (by have := P256_pos (len - (i + 1)); omega)]
    omega
theorem valB_nonneg {b : Nat → Int} (hb : ∀ j, 0 ≤ b j) : ∀ i, 0 ≤ valB b i := by
  intro i
  induction i with
  | zero => exact Int.le_refl _
  | succ i ih => show 0 ≤ valB b i * 256 + b i; have := hb i; omega
theorem valB_same {b c : Nat → Int} : ∀ i, (∀ j, j < i → b j = c j) → valB b i = valB c i := by
  intro i
  induction i with
  | zero => intro _; rfl
  | succ i ih => intro h; show valB b i * 256 + b i = valB c i * 256 + c i; rw [ih (fun j hj => h j (by omega)), h i (by omega)]

/-! ### A decoder -/
structure DecS where
  c : Int
  s : Int
  i : Nat
def scaleD (b : Nat → Int) (d : DecS) : DecS :=
  if 16777216 ≤ d.s then d else if 16777216 ≤ d.s * 256 then ⟨d.c * 256 + b d.i, d.s * 256, d.i + 1⟩ else ⟨(d.c * 256 + b d.i) * 256 + b (d.i + 1), d.s * 65536, d.i + 2⟩
def decNew (b : Nat → Int) : DecS := ⟨valB b 4, 4294967295, 4⟩
def decAt (d : DecS) (all : Int) : Int := if all ≤ d.c / (d.s / all) then all - 1 else d.c / (d.s / all)
def decPre (d : DecS) (low own all : Int) : DecS := ⟨if d.s / all * own ≤ d.c - d.s / all * low then d.s / all * own - 1 else d.c - d.s / all * low, d.s / all * own, d.i⟩
def decTake (b : Nat → Int) (d : DecS) (low own all : Int) : DecS := scaleD b (decPre d low own all)
def GoodD (d : DecS) : Prop := 16777216 ≤ d.s ∧ d.s ≤ 4294967295 ∧ 0 ≤ d.c ∧ d.c ≤ 4294967295
theorem scaleD_step (b : Nat → Int) {d : DecS} (h : 256 ≤ d.s) (hs : d.s < 16777216) : scaleD b d = scaleD b ⟨d.c * 256 + b d.i, d.s * 256, d.i + 1⟩ := by
  unfold scaleD
  simp only
  rw [if_neg (by omega)]
  by_cases h1 : 16777216 ≤ d.s * 256
  · rw [if_pos h1, if_pos h1]
  · rw [if_neg h1, if_neg h1, if_pos (by omega)]
    congr 1
    omega
theorem scaleD_end (b : Nat → Int) {d : DecS} (h : 16777216 ≤ d.s) : scaleD b d = d := by unfold scaleD; rw [if_pos h]
theorem decAt_bd {d : DecS} {all : Int} (h : GoodD d) (a0 : 1 ≤ all) (a1 : all ≤ 8192) : 0 ≤ decAt d all ∧ decAt d all < all ∧ d.s / all * decAt d all ≤ d.c := by
  obtain ⟨h1, h2, h3, h4⟩ := h
  obtain ⟨e1, e2, e3⟩ := each_bd h1 h2 a0 a1
  unfold decAt
  generalize d.s / all = E at e1 e2 e3
  have q0 : 0 ≤ d.c / E := Int.ediv_nonneg h3 (by omega)
  have q1 : d.c / E * E ≤ d.c := Int.ediv_mul_le d.c (by omega)
  split
  · have : E * (all - 1) ≤ E * (d.c / E) := Int.mul_le_mul_of_nonneg_left (by omega) (by omega)
    rw [Int.mul_comm E (d.c / E)] at this
    exact ⟨by omega, by omega, by omega⟩
  · rw [Int.mul_comm] at q1
    exact ⟨q0, by omega, q1⟩
/-- Behind a taken part, ahead of the scaling. -/
theorem decPre_bd {d : DecS} {low own all : Int} (h : GoodD d) (p : OkP low own all) (hl : d.s / all * low ≤ d.c) :
    2048 ≤ (decPre d low own all).s ∧ (decPre d low own all).s ≤ 4294967295 ∧ 0 ≤ (decPre d low own all).c ∧ (decPre d low own all).c < (decPre d low own all).s := by
  obtain ⟨h1, h2, h3, h4⟩ := h
  obtain ⟨p1, p2, p3, p4, p5⟩ := p
  obtain ⟨e1, e2, e3⟩ := each_bd h1 h2 p1 p2
  unfold decPre
  simp only
  generalize d.s / all = E at e1 e2 e3 hl
  have a1 : E * 1 ≤ E * own := Int.mul_le_mul_of_nonneg_left p3 (by omega)
  have a2 : 0 ≤ E * low := Int.mul_nonneg (by omega) p4
  have a3 : E * (low + own) ≤ E * all := Int.mul_le_mul_of_nonneg_left p5 (by omega)
  rw [Int.mul_add] at a3
  refine ⟨by omega, by omega, ?_, ?_⟩
  · split <;> omega
  · split <;> omega
theorem scaleD_good {b : Nat → Int} {d : DecS} (hb : ∀ j, 0 ≤ b j ∧ b j ≤ 255) (h0 : 2048 ≤ d.s) (h1 : d.s ≤ 4294967295) (h2 : 0 ≤ d.c) (h3 : d.c < d.s) : GoodD (scaleD b d) ∧ (scaleD b d).c < (scaleD b d).s := by
  have b0 := hb d.i
  have b1 := hb (d.i + 1)
  unfold scaleD GoodD
  split
  · omega
  · split
    · simp only; omega
    · simp only; omega
theorem decTake_good {b : Nat → Int} {d : DecS} {low own all : Int} (hb : ∀ j, 0 ≤ b j ∧ b j ≤ 255) (h : GoodD d) (p : OkP low own all) (hl : d.s / all * low ≤ d.c) : GoodD (decTake b d low own all) ∧ (decTake b d low own all).c < (decTake b d low own all).s := by
  obtain ⟨a1, a2, a3, a4⟩ := decPre_bd h p hl
  exact scaleD_good hb a1 a2 a3 a4

/-! ### What was put comes back -/
/-- The decoder is where the encoder was. -/
def Sync (b : Nat → Int) (e : EncS) (d : DecS) : Prop := d.s = e.s ∧ d.i = e.k + 4 ∧ d.c = valB b (e.k + 4) - e.n
theorem sync_new (b : Nat → Int) : Sync b encNew (decNew b) := by unfold Sync encNew decNew; simp
/-- The digits are those of the last number. -/
def DigOf (b : Nat → Int) (f : EncS) : Prop := ∀ i, i ≤ f.k + 4 → valB b i = f.n / P256 (f.k + 4 - i)
theorem sync_scale {b : Nat → Int} {e : EncS} {d : DecS} (h : Sync b e d) : Sync b (scaleE e) (scaleD b d) := by
  obtain ⟨h1, h2, h3⟩ := h
  unfold scaleE scaleD
  rw [h1]
  split
  · exact ⟨h1, h2, h3⟩
  · split
    · refine ⟨rfl, by simp only; omega, ?_⟩
      simp only
      rw [h3, h2, show e.k + 1 + 4 = e.k + 4 + 1 by omega]
      show _ = valB b (e.k + 4) * 256 + b (e.k + 4) - _
      omega
    · refine ⟨rfl, by simp only; omega, ?_⟩
      simp only
      rw [h3, h2, show e.k + 2 + 4 = e.k + 4 + 1 + 1 by omega]
      show _ = (valB b (e.k + 4) * 256 + b (e.k + 4)) * 256 + b (e.k + 4 + 1) - _
      omega
theorem comes_back {b : Nat → Int} {e f : EncS} {d : DecS} {low own all : Int} (hs : Sync b e d) (hg : GoodE e) (p : OkP low own all) (hi : Inside (encPut e low own all) f) (hf : 1 ≤ f.s) (hd : DigOf b f) :
    low ≤ decAt d all ∧ decAt d all < low + own ∧ Sync b (encPut e low own all) (decTake b d low own all) := by
  have hin : Inside (encPre e low own all) f := (scaleE_inside _).1.trans hi
  obtain ⟨i1, i2, i3⟩ := hin
  obtain ⟨s1, s2, s3⟩ := hs
  obtain ⟨h1, h2, h3, h4⟩ := hg
  obtain ⟨p1, p2, p3, p4, p5⟩ := p
  obtain ⟨e1, e2, e3⟩ := each_bd h1 h2 p1 p2
  have hk : (encPre e low own all).k = e.k := rfl
  have hn : (encPre e low own all).n = e.n + e.s / all * low := rfl
  have hss : (encPre e low own all).s = e.s / all * own := rfl
  rw [hk] at i1 i2 i3
  rw [hn] at i2 i3
  rw [hss] at i3
  have hv := hd (e.k + 4) (by omega)
  rw [show f.k + 4 - (e.k + 4) = f.k - e.k by omega] at hv
  have pp := P256_pos (f.k - e.k)
  generalize P256 (f.k - e.k) = P at i2 i3 hv pp
  have lo : e.n + e.s / all * low ≤ valB b (e.k + 4) := by rw [hv, Int.le_ediv_iff_mul_le (by omega)]; exact i2
  have hi' : valB b (e.k + 4) < e.n + e.s / all * low + e.s / all * own := by
    rw [hv, Int.ediv_lt_iff_lt_mul (by omega)]; omega
  have hc0 : e.s / all * low ≤ d.c := by omega
  have hc1 : d.c < e.s / all * low + e.s / all * own := by omega
  have q0 : low ≤ d.c / (e.s / all) := by rw [Int.le_ediv_iff_mul_le (by omega), Int.mul_comm]; exact hc0
  have q1 : d.c / (e.s / all) < low + own := by
    rw [Int.ediv_lt_iff_lt_mul (by omega), Int.mul_comm, Int.mul_add]; exact hc1
  have hat : decAt d all = d.c / (e.s / all) := by
    unfold decAt; rw [s1, if_neg (by omega)]
  refine ⟨by omega, by omega, ?_⟩
  refine sync_scale (e := encPre e low own all) ⟨?_, ?_, ?_⟩
  · show d.s / all * own = _; rw [s1]; rfl
  · exact s2
  · show (if d.s / all * own ≤ d.c - d.s / all * low then _ else d.c - d.s / all * low) = valB b (e.k + 4) - (e.n + e.s / all * low)
    rw [s1, if_neg (by omega), s3]; omega
end Go.Proofs.Ytdmafololcpamaa

/- Plain facts of digits to the base 256: a list of them, what is added to it, how it is carried over, its bytes. Nothing here speaks of the program. -/
namespace Go.Proofs.Ytdmafololcpamaa
open Go
set_option linter.unusedVariables false

/-- The number that a list of digits makes. -/
def valL (D : List Int) : Int := valB (fun j => D.getD j 0) D.length
theorem valB_bump {b c : Nat → Int} {j : Nat} {x : Int} (h : ∀ i, i ≠ j → c i = b i) (hj : c j = b j + x) : ∀ i, (i ≤ j → valB c i = valB b i) ∧ (j < i → valB c i = valB b i + x * P256 (i - 1 - j)) := by
  intro i
  induction i with
  | zero => exact ⟨fun _ => rfl, fun h => by omega⟩
  | succ i ih =>
    constructor
    · intro hi
      show valB c i * 256 + c i = valB b i * 256 + b i
      rw [ih.1 (by omega), h i (by omega)]
    · intro hi
      show valB c i * 256 + c i = valB b i * 256 + b i + _
      by_cases e : i = j
      · subst e
        rw [ih.1 (Nat.le_refl _), hj, show i + 1 - 1 - i = 0 by omega]
        show _ = _ + x * 1
        omega
      · rw [ih.2 (by omega), h i e, show i + 1 - 1 - j = (i - 1 - j) + 1 by omega, P256_succ, Int.add_mul, ← Int.mul_assoc]
        omega
theorem valL_set (D : List Int) {j : Nat} (hj : j < D.length) (x : Int) : valL (D.set j x) = valL D + (x - D.getD j 0) * P256 (D.length - 1 - j) := by
  unfold valL
  rw [List.length_set]
  have := (valB_bump (b := fun i => D.getD i 0) (c := fun i => (D.set j x).getD i 0) (j := j) (x := x - D.getD j 0)
    (fun i hi => by rw [getD_set' D j i x hj, if_neg hi]) (by rw [getD_set' D j j x hj, if_pos rfl]; omega) D.length).2 hj
  exact this
theorem valL_snoc (D : List Int) (x : Int) : valL (D ++ [x]) = valL D * 256 + x := by
  unfold valL
  rw [List.length_append]
  show valB _ D.length * 256 + _ = _
  have e : valB (fun j => (D ++ [x]).getD j 0) D.length = valB (fun j => D.getD j 0) D.length := by
    refine valB_same _ fun j hj => ?_
    simp [List.getD, List.getElem?_append, hj]
  rw [e]
  simp [List.getD]
/-- Digits indeed. -/
def IsDig (D : List Int) : Prop := ∀ j, j < D.length → 0 ≤ D.getD j 0 ∧ D.getD j 0 ≤ 255
theorem valL_take {D : List Int} (h : IsDig D) : ∀ i, i ≤ D.length → valB (fun j => D.getD j 0) (D.length - i) = valL D / P256 i := by
  intro i
  induction i with
  | zero => intro _; show _ = valL D / 1; rw [Int.ediv_one]; rfl
  | succ i ih =>
    intro hi
    have ih' := ih (by omega)
    have hd := h (D.length - (i + 1)) (by omega)
    have e : D.length - i = (D.length - (i + 1)) + 1 := by omega
    rw [e] at ih'
    have e2 : valB (fun j => D.getD j 0) (D.length - (i + 1) + 1) = valB (fun j => D.getD j 0) (D.length - (i + 1)) * 256 + D.getD (D.length - (i + 1)) 0 := rfl
    rw [e2] at ih'
    rw [P256_succ, ← Int.ediv_ediv_of_nonneg (by have := P256_pos i; omega), ← ih']
    omega
theorem dig_at {D : List Int} (h : IsDig D) {j : Nat} (hj : j < D.length) : D.getD j 0 = digB (valL D) D.length j := by
  have a := valL_take h (D.length - 1 - j) (by omega)
  have e : D.length - (D.length - 1 - j) = j + 1 := by omega
  rw [e] at a
  unfold digB
  rw [← a]
  have hd := h j hj
  have e2 : valB (fun i => D.getD i 0) (j + 1) = valB (fun i => D.getD i 0) j * 256 + D.getD j 0 := rfl
  rw [e2]
  omega
/-- The len digits of a number. -/
def digL (n : Int) (len : Nat) : List Int := (List.range len).map (digB n len)
theorem digL_len (n : Int) (len : Nat) : (digL n len).length = len := by simp [digL]
theorem digL_getD (n : Int) {len j : Nat} (h : j < len) : (digL n len).getD j 0 = digB n len j := by simp [digL, List.getD, h]
theorem digB_bd (n : Int) (len j : Nat) : 0 ≤ digB n len j ∧ digB n len j ≤ 255 := by unfold digB; omega
theorem digL_dig (n : Int) (len : Nat) : IsDig (digL n len) := by
  intro j hj
  rw [digL_len] at hj
  rw [digL_getD n hj]; exact digB_bd n len j
theorem dig_unique {D : List Int} (h : IsDig D) : D = digL (valL D) D.length := by
  apply List.ext_getElem?
  intro i
  by_cases hi : i < D.length
  · have := dig_at h hi
    rw [← digL_getD (valL D) hi] at this
    have h2 : i < (digL (valL D) D.length).length := by rw [digL_len]; exact hi
    rw [List.getElem?_eq_getElem hi, List.getElem?_eq_getElem h2]
    simpa [List.getD, List.getElem?_eq_getElem hi, List.getElem?_eq_getElem h2] using this
  · rw [List.getElem?_eq_none (by omega), List.getElem?_eq_none (by rw [digL_len]; omega)]
theorem digL_val {n : Int} {len : Nat} (h0 : 0 ≤ n) (h1 : n < P256 len) : valL (digL n len) = n := by
  have := valB_dig (b := fun j => (digL n len).getD j 0) h0 h1 (fun j hj => digL_getD n hj) len (Nat.le_refl _)
  rw [Nat.sub_self] at this
  unfold valL
  rw [digL_len, this]
  exact Int.ediv_one n
/-- A nought more behind. -/
theorem digL_more {n : Int} {len : Nat} (h0 : 0 ≤ n) (h1 : n < P256 len) : digL n len ++ [0] = digL (n * 256) (len + 1) := by
  have hd : IsDig (digL n len ++ [0]) := by
    intro j hj
    rw [List.length_append, digL_len] at hj
    by_cases e : j < len
    · have : (digL n len ++ [0]).getD j 0 = digB n len j := by
        rw [← digL_getD n e]; simp [List.getD, List.getElem?_append, digL_len, e]
      rw [this]; exact digB_bd n len j
    · have : (digL n len ++ [0]).getD j 0 = 0 := by
        simp only [List.getD, List.getElem?_append, digL_len, if_neg e]
        cases hh : j - len <;> simp
      rw [this]; omega
  have := dig_unique hd
  rw [valL_snoc, digL_val h0 h1, List.length_append, digL_len, Int.add_zero] at this
  exact this
theorem valL_lt {D : List Int} (h : IsDig D) : 0 ≤ valL D ∧ valL D < P256 D.length := by
  have a := valL_take h D.length (Nat.le_refl _)
  rw [Nat.sub_self] at a
  have z : valB (fun j => D.getD j 0) 0 = 0 := rfl
  rw [z] at a
  have p := P256_pos D.length
  have n0 : 0 ≤ valL D := by
    unfold valL
    have : ∀ i, i ≤ D.length → 0 ≤ valB (fun j => D.getD j 0) i := by
      intro i
      induction i with
      | zero => intro _; exact Int.le_refl _
      | succ i ih =>
        intro hi
        have := ih (by omega)
        have := (h i (by omega)).1
        show 0 ≤ valB _ i * 256 + D.getD i 0
        omega
    exact this _ (Nat.le_refl _)
  refine ⟨n0, ?_⟩
  rcases Int.lt_or_le (valL D) (P256 D.length) with h1 | h1
  · exact h1
  · have : 1 ≤ valL D / P256 D.length := by rw [Int.le_ediv_iff_mul_le (by omega)]; omega
    omega

/-! ### What is added -/
/-- The lowest j digits of add, laid onto the last four. -/
def addL (D : List Int) (K : Nat) (add : Int) : Nat → List Int
  | 0 => D
  | j + 1 => (addL D K add j).set (K + 3 - j) ((addL D K add j).getD (K + 3 - j) 0 + add / P256 j % 256)
theorem addL_len (D : List Int) (K : Nat) (add : Int) (j : Nat) : (addL D K add j).length = D.length := by
  induction j with
  | zero => rfl
  | succ j ih => unfold addL; rw [List.length_set]; exact ih
theorem addL_getD {D : List Int} {K : Nat} (add : Int) (hl : D.length = K + 4) : ∀ j, j ≤ 4 → ∀ i, (i + j ≤ K + 3 → (addL D K add j).getD i 0 = D.getD i 0) ∧ (K + 3 < i + j → i < K + 4 → (addL D K add j).getD i 0 = D.getD i 0 + add / P256 (K + 3 - i) % 256) := by
  intro j
  induction j with
  | zero => intro _ i; exact ⟨fun _ => rfl, fun h h' => by omega⟩
  | succ j ih =>
    intro hj i
    have ihi := ih (by omega) i
    have ihj := ih (by omega) (K + 3 - j)
    unfold addL
    rw [getD_set' _ _ _ _ (by rw [addL_len]; omega)]
    constructor
    · intro hi; rw [if_neg (by omega)]; exact ihi.1 (by omega)
    · intro hi hi'
      by_cases e : i = K + 3 - j
      · rw [if_pos e, e, ihj.1 (by omega), show K + 3 - (K + 3 - j) = j by omega]
      · rw [if_neg e]; exact ihi.2 (by omega) hi'
theorem addL_val {D : List Int} {K : Nat} {add : Int} (hl : D.length = K + 4) (h0 : 0 ≤ add) (h1 : add ≤ 4294967295) : valL (addL D K add 4) = valL D + add := by
  have s : ∀ j, j ≤ 3 → valL (addL D K add (j + 1)) = valL (addL D K add j) + add / P256 j % 256 * P256 j := by
    intro j hj
    conv => lhs; unfold addL
    rw [valL_set _ (by rw [addL_len]; omega), addL_len, hl, show K + 4 - 1 - (K + 3 - j) = j by omega]
    congr 2; omega
  rw [s 3 (by omega), s 2 (by omega), s 1 (by omega), s 0 (by omega)]
  show valL D + _ + _ + _ + _ = _
  have p0 : P256 0 = 1 := by decide
  have p1 : P256 1 = 256 := by decide
  have p2 : P256 2 = 65536 := by decide
  have p3 : P256 3 = 16777216 := by decide
  rw [p0, p1, p2, p3]
  omega

/-! ### Carrying over -/
/-- On the way: behind i all are digits; ahead of i, below K, too; the rest may be beyond by one carry. -/
def Carry (D : List Int) (K i : Nat) : Prop :=
  D.length = K + 4 ∧ i < K + 4 ∧ (∀ j, i < j → j < K + 4 → 0 ≤ D.getD j 0 ∧ D.getD j 0 ≤ 255) ∧ (∀ j, j < i → 0 ≤ D.getD j 0 ∧ D.getD j 0 ≤ 510 ∧ (j < K → D.getD j 0 ≤ 255)) ∧ 0 ≤ D.getD i 0 ∧ D.getD i 0 ≤ 511 ∧ (i < K → D.getD i 0 ≤ 256)
theorem carry_start {D : List Int} {K : Nat} {add : Int} (hl : D.length = K + 4) (hd : IsDig D) : Carry (addL D K add 4) K (K + 3) := by
  have key := addL_getD (D := D) (K := K) add hl 4 (Nat.le_refl _)
  refine ⟨by rw [addL_len]; exact hl, by omega, fun j h1 h2 => by omega, fun j hj => ?_, ?_, ?_, fun h => by omega⟩
  · have dj := hd j (by omega)
    by_cases h : j < K
    · rw [(key j).1 (by omega)]; omega
    · rw [(key j).2 (by omega) (by omega)]
      have := Int.emod_nonneg (add / P256 (K + 3 - j)) (b := 256) (by decide)
      have := Int.emod_lt_of_pos (add / P256 (K + 3 - j)) (b := 256) (by decide)
      omega
  · have dj := hd (K + 3) (by omega)
    rw [(key (K + 3)).2 (by omega) (by omega)]
    have := Int.emod_nonneg (add / P256 (K + 3 - (K + 3))) (b := 256) (by decide)
    omega
  · have dj := hd (K + 3) (by omega)
    rw [(key (K + 3)).2 (by omega) (by omega)]
    have := Int.emod_lt_of_pos (add / P256 (K + 3 - (K + 3))) (b := 256) (by decide)
    omega
/-- One carry. -/
def carry1 (D : List Int) (i : Nat) : List Int := (D.set i (D.getD i 0 - 256)).set (i - 1) ((D.set i (D.getD i 0 - 256)).getD (i - 1) 0 + 1)
theorem carry1_val {D : List Int} {i : Nat} (h0 : 0 < i) (hi : i < D.length) : valL (carry1 D i) = valL D := by
  unfold carry1
  rw [valL_set _ (by rw [List.length_set]; omega), List.length_set, valL_set _ hi, show D.length - 1 - (i - 1) = (D.length - 1 - i) + 1 by omega, P256_succ]
  have e1 : D.getD i 0 - 256 - D.getD i 0 = -256 := by omega
  have e2 : (D.set i (D.getD i 0 - 256)).getD (i - 1) 0 + 1 - (D.set i (D.getD i 0 - 256)).getD (i - 1) 0 = 1 := by omega
  rw [e1, e2]
  omega
theorem carry1_getD {D : List Int} {i : Nat} (h0 : 0 < i) (hi : i < D.length) (j : Nat) : (carry1 D i).getD j 0 = if j = i then D.getD i 0 - 256 else if j = i - 1 then D.getD (i - 1) 0 + 1 else D.getD j 0 := by
  unfold carry1
  rw [getD_set' _ _ _ _ (by rw [List.length_set]; omega), getD_set' _ _ _ _ hi, getD_set' _ _ _ _ hi]
  by_cases e : j = i
  · rw [if_neg (by omega), if_pos e, if_pos e]
  · by_cases e2 : j = i - 1
    · rw [if_pos e2, if_neg (show ¬ i - 1 = i by omega), if_neg e, if_pos e2]
    · rw [if_neg e2, if_neg e, if_neg e, if_neg e2]
theorem carry_yes {D : List Int} {K i : Nat} (h : Carry D K i) (h0 : 0 < i) (hb : 255 < D.getD i 0) : Carry (carry1 D i) K (i - 1) := by
  obtain ⟨a, b, c, d, e, f, g⟩ := h
  have key := carry1_getD (D := D) h0 (by omega)
  have dm := d (i - 1) (by omega)
  refine ⟨by unfold carry1; rw [List.length_set, List.length_set]; exact a, by omega, fun j h1 h2 => ?_, fun j hj => ?_, ?_, ?_, fun hk => ?_⟩
  · rw [key j]
    by_cases e1 : j = i
    · rw [if_pos e1]; omega
    · rw [if_neg e1, if_neg (by omega)]; exact c j (by omega) h2
  · rw [key j, if_neg (by omega), if_neg (by omega)]; exact d j (by omega)
  · rw [key (i - 1), if_neg (by omega), if_pos rfl]; omega
  · rw [key (i - 1), if_neg (by omega), if_pos rfl]; omega
  · rw [key (i - 1), if_neg (by omega), if_pos rfl]; have := dm.2.2 hk; omega
theorem carry_no {D : List Int} {K i : Nat} (h : Carry D K i) (h0 : 0 < i) (hb : D.getD i 0 ≤ 255) : Carry D K (i - 1) := by
  obtain ⟨a, b, c, d, e, f, g⟩ := h
  have dm := d (i - 1) (by omega)
  refine ⟨a, by omega, fun j h1 h2 => ?_, fun j hj => d j (by omega), dm.1, by omega, fun hk => by have := dm.2.2 hk; omega⟩
  by_cases e1 : j = i
  · subst e1; exact ⟨e, hb⟩
  · exact c j (by omega) h2
/-- Where the carrying stops all are digits. -/
theorem carry_stop {D : List Int} {K i : Nat} (h : Carry D K i) (hk : i < K) (hb : D.getD i 0 ≤ 255) : IsDig D := by
  obtain ⟨a, b, c, d, e, f, g⟩ := h
  intro j hj
  rcases Nat.lt_trichotomy j i with h1 | h1 | h1
  · have := d j h1; exact ⟨this.1, this.2.2 (by omega)⟩
  · subst h1; exact ⟨e, hb⟩
  · exact c j h1 (by omega)
theorem carry_head {D : List Int} {K : Nat} (h : Carry D K 0) (hv : valL D < P256 (K + 4)) : IsDig D := by
  obtain ⟨a, b, c, d, e, f, g⟩ := h
  have hb : D.getD 0 0 ≤ 255 := by
    rcases Int.lt_or_le 255 (D.getD 0 0) with h1 | h1
    · exfalso
      have s := valL_set D (j := 0) (by omega) 0
      have hd : IsDig (D.set 0 0) := by
        intro j hj
        rw [List.length_set] at hj
        rw [getD_set' D 0 j 0 (by omega)]
        by_cases e1 : j = 0
        · rw [if_pos e1]; omega
        · rw [if_neg e1]; exact c j (by omega) (by omega)
      have n0 := (valL_lt hd).1
      rw [s, a, show K + 4 - 1 - 0 = K + 3 by omega] at n0
      rw [P256_succ] at hv
      have p := P256_pos (K + 3)
      have : 256 * P256 (K + 3) ≤ D.getD 0 0 * P256 (K + 3) := Int.mul_le_mul_of_nonneg_right (by omega) (by omega)
      have e3 : (0 - D.getD 0 0) * P256 (K + 3) = -(D.getD 0 0 * P256 (K + 3)) := by rw [Int.zero_sub, Int.neg_mul]
      rw [e3] at n0
      omega
    · exact h1
  intro j hj
  by_cases e1 : j = 0
  · subst e1; exact ⟨e, hb⟩
  · exact c j (by omega) (by omega)
end Go.Proofs.Ytdmafololcpamaa

/- Words of mine for memory: what a call leaves as it was, but for some blocks. -/
namespace Go.Proofs.Ytdmafololcpamaa
open Go.RowKit
set_option linter.unusedVariables false

/-- All old blocks but those of F are as they were. -/
structure Keeps (F : Nat → Prop) (w w' : World) : Prop where
  os : w'.os = w.os
  tape : w'.tape = w.tape
  output : w'.output = w.output
  size : w.heap.size ≤ w'.heap.size
  block : ∀ k, k < w.heap.size → ¬ F k → w'.heap[k]? = w.heap[k]?
section
variable {F G : Nat → Prop} {w w' w2 : World}
theorem Keeps.refl (F : Nat → Prop) (w : World) : Keeps F w w := ⟨rfl, rfl, rfl, Nat.le_refl _, fun _ _ _ => rfl⟩
theorem Keeps.trans (h : Keeps F w w') (k : Keeps F w' w2) : Keeps F w w2 :=
  ⟨k.os.trans h.os, k.tape.trans h.tape, k.output.trans h.output, Nat.le_trans h.size k.size, fun i hi hn => (k.block i (Nat.lt_of_lt_of_le hi h.size) hn).trans (h.block i hi hn)⟩
theorem Keeps.mono (h : Keeps F w w') (hi : ∀ k, F k → G k) : Keeps G w w' := ⟨h.os, h.tape, h.output, h.size, fun k hk hn => h.block k hk fun c => hn (hi k c)⟩
theorem Keeps.of_below (h : Below w.heap.size w w') : Keeps F w w' := ⟨h.os, h.tape, h.output, h.size, fun k hk _ => h.block k hk⟩
theorem Keeps.below {B : Nat} (h : Keeps F w w') (hB : B ≤ w.heap.size) (hi : ∀ k, F k → B ≤ k) : Below B w w' :=
  ⟨h.os, h.tape, h.output, h.size, fun k hk => h.block k (by omega) fun c => by have := hi k c; omega⟩
theorem Keeps.of_grown {row : Option Nat} (h : w.grownBy w' row) (hi : ∀ k, row = some k → F k) : Keeps F w w' :=
  ⟨h.os, h.tape, h.output, h.size, fun k hk hn => h.block k hk fun c => hn (hi k c.symm)⟩
theorem Keeps.grown {r : Nat} (h : Keeps F w w') (hg : w'.grownBy w2 (some r)) (hr : F r ∨ w.heap.size ≤ r) : Keeps F w w2 :=
  ⟨hg.os.trans h.os, hg.tape.trans h.tape, hg.output.trans h.output, Nat.le_trans h.size hg.size, fun k hk hn => (hg.block k (Nat.lt_of_lt_of_le hk h.size) (by intro c; injection c with c; subst c; rcases hr with hr | hr; exact hn hr; omega)).trans (h.block k hk hn)⟩
/-- What a second call writes is of F, or new since the first began. -/
theorem Keeps.then_ (h : Keeps F w w') (k : Keeps G w' w2) (hg : ∀ j, G j → F j ∨ w.heap.size ≤ j) : Keeps F w w2 :=
  ⟨k.os.trans h.os, k.tape.trans h.tape, k.output.trans h.output, Nat.le_trans h.size k.size, fun i hi hn => (k.block i (Nat.lt_of_lt_of_le hi h.size) (fun c => by rcases hg i c with d | d; exact hn d; omega)).trans (h.block i hi hn)⟩
theorem Keeps.alloc (h : Keeps F w w') (o : Obj) : Keeps F w (w'.alloc o) := h.trans (.of_below (Below.alloc_new w' o))
theorem Keeps.setCell (h : Keeps F w w') {p : Addr} (hp : F p.block ∨ w.heap.size ≤ p.block) (u : Value) : Keeps F w (w'.setCell p u) :=
  ⟨h.os, h.tape, h.output, Nat.le_trans h.size (by simp [World.setCell]), fun k hk hn => (Below.heap_setCell w' p u k (by rintro rfl; rcases hp with hp | hp; exact hn hp; omega)).trans (h.block k hk hn)⟩
theorem Keeps.drewN (h : Keeps F w w') (n : Nat) : Keeps F w (w'.drewN n) := ⟨h.os, h.tape, h.output, h.size, h.block⟩
end

/-- Block g is just these cells, none frozen: a struct behind a pointer. -/
def Cel (w : World) (g : Nat) (t : TypeId) (cs : Array Value) : Prop := w.heap[g]? = some (.cells cs t (0, 0))
section
variable {w w' : World} {g : Nat} {t : TypeId} {cs : Array Value}
theorem Cel.lt (h : Cel w g t cs) : g < w.heap.size := by
  rcases Nat.lt_or_ge g w.heap.size with hlt | hge
  · exact hlt
  · unfold Cel at h; rw [Array.getElem?_eq_none hge] at h; cases h
theorem Cel.cell (h : Cel w g t cs) (i : Nat) : w.cell? ⟨g, i, none⟩ = cs[i]? := cell_of_row w g i cs t (0, 0) h
theorem Cel.frozen (h : Cel w g t cs) (i : Nat) : w.frozen? ⟨g, i, none⟩ = false := by
  unfold Cel at h
  simp [World.frozen?, h]
theorem Cel.new (w : World) (t : TypeId) (cs : Array Value) : Cel (w.alloc (.cells cs t)) w.heap.size t cs := heap_alloc_new w _
theorem Cel.keep (h : Cel w g t cs) (hk : w'.heap[g]? = w.heap[g]?) : Cel w' g t cs := hk.trans h
theorem Cel.below (h : Cel w g t cs) (hb : Below w.heap.size w w') : Cel w' g t cs := h.keep (hb.block g h.lt)
theorem Cel.keeps {F : Nat → Prop} (h : Cel w g t cs) (hb : Keeps F w w') (hn : ¬ F g) : Cel w' g t cs := h.keep (hb.block g h.lt hn)
theorem Cel.drewN (h : Cel w g t cs) (n : Nat) : Cel (w.drewN n) g t cs := h
theorem Cel.alloc (h : Cel w g t cs) (o : Obj) : Cel (w.alloc o) g t cs := h.below (Below.alloc_new w o)
theorem Cel.far (h : Cel w g t cs) {p : Addr} (hp : g ≠ p.block) (u : Value) : Cel (w.setCell p u) g t cs := (Below.heap_setCell w p u g hp).trans h
theorem Cel.set_ (h : Cel w g t cs) (i : Nat) (u : Value) : Cel (w.setCell ⟨g, i, none⟩ u) g t (cs.setIfInBounds i u) := by
  unfold Cel at h ⊢
  simp [World.setCell, Array.getElem?_modify, h]
end
/-- A row of the call's own, and a block of another type, are two. -/
theorem own_ne_cel {w : World} {base n g size : Nat} {e t : TypeId} {v : Value} {xs : List Value} {cs : Array Value} (h : w.ownsRow base e size v n xs) (hs : Cel w g t cs) (hne : e ≠ t) (k : Nat) (hk : v.ownBlock = some k) : k ≠ g := by
  rintro rfl
  rcases h.2 with ⟨rfl, _⟩ | ⟨g', cap, cur, rfl, _, hh, _⟩
  · simp [Value.ownBlock] at hk
  · simp [Value.ownBlock] at hk
    subst hk
    unfold Cel at hs
    rw [hs] at hh
    injection hh with hh
    injection hh with _ ht
    exact hne ht.symm
/-- A row that is owned stays so where another block is written. -/
theorem own_far {w : World} {base n size : Nat} {e : TypeId} {v : Value} {xs : List Value} (h : w.ownsRow base e size v n xs) {p : Addr} (hp : ∀ k, v.ownBlock = some k → k ≠ p.block) (u : Value) : (w.setCell p u).ownsRow base e size v n xs := by
  refine ⟨h.1, ?_⟩
  rcases h.2 with h0 | ⟨g, cap, cur, h1, h2, h3, h4⟩
  · exact .inl h0
  · exact .inr ⟨g, cap, cur, h1, h2, (Below.heap_setCell w p u g (hp g (by rw [h1]; rfl))).trans h3, h4⟩
theorem own_keeps {w w' : World} {base n size : Nat} {e : TypeId} {v : Value} {xs : List Value} {F : Nat → Prop} (h : w.ownsRow base e size v n xs) (hk : Keeps F w w') (hn : ∀ k, v.ownBlock = some k → ¬ F k) : w'.ownsRow base e size v n xs := by
  refine ⟨h.1, ?_⟩
  rcases h.2 with h0 | ⟨g, cap, cur, h1, h2, h3, h4⟩
  · exact .inl h0
  · have hl := own_lt h g (by rw [h1]; rfl)
    exact .inr ⟨g, cap, cur, h1, h2, (hk.block g hl (hn g (by rw [h1]; rfl))).trans h3, h4⟩
theorem own_drewN {w : World} {base n size : Nat} {e : TypeId} {v : Value} {xs : List Value} (h : w.ownsRow base e size v n xs) (i : Nat) : (w.drewN i).ownsRow base e size v n xs := h
end Go.Proofs.Ytdmafololcpamaa
