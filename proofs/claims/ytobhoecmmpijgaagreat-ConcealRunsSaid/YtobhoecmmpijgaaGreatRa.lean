/- Plain facts, and what functions give, for the proofs of this seat: several texts in one, each with its own first remark. -/
import Derived.WalkKit
import Derived.WalkLawsBesides
import Derived.Handy
import Derived.Lib.Hide
import Derived.OpenShut
import Derived.OwnWalk
import Derived.Laws.OwnMore
import Derived.Laws.AppendOwnNone
import Derived.Laws.BytesString
import Derived.Maps.AppendAt
import Derived.Deep.AppendLies
import Derived.ProofKit
import Derived.ShutString
import Derived.ChangeOld
import Derived.Below
import Derived.Deep.Matrix
import Derived.Deep.Grids
import Derived.IntWalk
import Derived.Laws.BitsAllLaws

/- Words of mine for memory: a block that is known whole, as a row of numbers. -/
namespace Go.Proofs.YtobhoecmmpijgaaGreat
open Go.RowKit
set_option linter.unusedVariables false

theorem ret_int {k : IntKind} {a b : Int} (h : a = b) : Ending.returned (.int k a) = .returned (.int k b) := by rw [h]
theorem ret_bool {a b : Bool} (h : a = b) : Ending.returned (.bool a) = .returned (.bool b) := by rw [h]

/-- Block g is just the numbers zs, of kind k and element type t; none is frozen. -/
def IRow (w : World) (g : Nat) (t : TypeId) (k : IntKind) (zs : List Int) : Prop := w.heap[g]? = some (.cells (zs.map (Value.int k)).toArray t (0, 0))
section
variable {w w' : World} {g : Nat} {t : TypeId} {k : IntKind} {zs : List Int}
theorem IRow.lt (h : IRow w g t k zs) : g < w.heap.size := by
  rcases Nat.lt_or_ge g w.heap.size with hlt | hge
  · exact hlt
  · unfold IRow at h; rw [Array.getElem?_eq_none hge] at h; cases h
theorem IRow.cell (h : IRow w g t k zs) {j : Nat} (hj : j < zs.length) : w.cell? ⟨g, j, none⟩ = some (.int k (zs.getD j 0)) := by
  rw [cell_of_row w g j _ t (0, 0) h]
  simp [List.getD, hj]
theorem IRow.frozen (h : IRow w g t k zs) (j : Nat) : w.frozen? ⟨g, j, none⟩ = false := by
  unfold IRow at h
  simp [World.frozen?, h]
theorem IRow.alloc (h : IRow w g t k zs) (o : Obj) : IRow (w.alloc o) g t k zs := (Below.heap_alloc w o g h.lt).trans h
theorem IRow.far (h : IRow w g t k zs) {p : Addr} (hp : g ≠ p.block) (u : Value) : IRow (w.setCell p u) g t k zs := (Below.heap_setCell w p u g hp).trans h
theorem IRow.below {B : Nat} (h : IRow w g t k zs) (hb : Below B w w') (hg : g < B) : IRow w' g t k zs := (hb.block g hg).trans h
theorem IRow.drew (h : IRow w g t k zs) : IRow w.drew g t k zs := h
theorem IRow.set (h : IRow w g t k zs) (j : Nat) (x : Int) : IRow (w.setCell ⟨g, j, none⟩ (.int k x)) g t k (zs.set j x) := by
  unfold IRow at h ⊢
  simp only [World.setCell, Array.getElem?_modify, if_true]
  rw [h]
  simp [List.map_set]
/-- A new block of n noughts. -/
theorem IRow.zeros (w : World) (t : TypeId) (k : IntKind) (n : Nat) : IRow (w.alloc (.cells (madeCells #[.int k 0] n) t)) w.heap.size t k (List.replicate n 0) := by
  unfold IRow
  rw [heap_alloc_new]
  have e : madeCells #[Value.int k 0] n = (List.map (Value.int k) (List.replicate n 0)).toArray := by
    apply Array.ext'
    rw [toList_madeCells_one]
    simp
  rw [e]
end
/-- 'make' of n noughts. -/
theorem make_zeros {P : Program} {t e : TypeId} {k : IntKind} {b : Nat} (ht : P.underlying t = some (.slice e)) (hi : (P.info? e).map (fun i => (i.zero, i.size, i.bytes)) = some (some (.int k 0), 1, b))
    (n : Nat) (hb : b * n ≤ 281474976710656) (hn : n ≤ 9223372036854775807) (w : World) :
    (Instr.makeSlice t (.int .i64 (n : Int)) (.int .i64 (n : Int))).run P w = .ok (.slice (some ⟨w.heap.size, 0, none⟩) n n) (w.alloc (.cells (madeCells #[.int k 0] n) e)) := by
  obtain ⟨i, h1, h2, h3, h4⟩ := info_parts hi
  have hb' : (i.bytes : Int) * (n : Int) ≤ 281474976710656 := by
    have h : ((i.bytes * n : Nat) : Int) ≤ 281474976710656 := by rw [h4]; omega
    rwa [Int.natCast_mul] at h
  have hr := run_make (P := P) w t e i (.int k 0) ht h1 h2 .i64 .i64 n n (by omega) (Int.le_refl _) hb' (by omega)
  rw [hr, h3]
  simp [Value.cells]
theorem chain {a b c : World} (h : Below a.heap.size a b) (k : Below b.heap.size b c) : Below a.heap.size a c := h.trans (k.mono h.size)
theorem Below.alloc_new (w : World) (o : Obj) : Below w.heap.size w (w.alloc o) := (Below.refl _ _).alloc (Nat.le_refl _) o
/-- What is known of a slice of numbers that came in, or that the call made: it is empty, or it leads to its numbers, which lie below block B. -/
def IntsAt (w : World) (B : Nat) (k : IntKind) (a : Option Addr) (len : Nat) (zs : List Int) : Prop :=
  zs.length = len ∧ (len = 0 ∨ ∃ b off, a = some ⟨b, off, none⟩ ∧ b < B ∧ len ≤ 9223372036854775807 ∧ ∀ j, j < len → w.cell? ⟨b, off + j, none⟩ = some (.int k (zs.getD j 0)))
theorem IntsAt.below {w w' : World} {B len : Nat} {k : IntKind} {a : Option Addr} {zs : List Int} (h : IntsAt w B k a len zs) (hb : Below B w w') : IntsAt w' B k a len zs := by
  obtain ⟨h1, h2⟩ := h
  refine ⟨h1, ?_⟩
  rcases h2 with h2 | ⟨b, off, e, h3, h4, h5⟩
  · exact .inl h2
  · exact .inr ⟨b, off, e, h3, h4, fun j hj => (hb.cell (p := ⟨b, off + j, none⟩) h3).trans (h5 j hj)⟩
theorem Below.drewN' {B : Nat} {a w : World} (h : Below B a w) (n : Nat) : Below B a (w.drewN n) := ⟨h.os, h.tape, h.output, h.size, h.block⟩
theorem IRow.drewN {w : World} {g : Nat} {t : TypeId} {k : IntKind} {zs : List Int} (h : IRow w g t k zs) (n : Nat) : IRow (w.drewN n) g t k zs := h
theorem cell_block {w : World} {p : Addr} {v : Value} (h : w.cell? p = some v) : p.block < w.heap.size := by
  rcases Nat.lt_or_ge p.block w.heap.size with hlt | hge
  · exact hlt
  · unfold World.cell? at h
    rw [Array.getElem?_eq_none hge] at h
    simp at h
/-- From what the frame of a statement says of a slice of numbers that came in. -/
theorem ints_in {w : World} {k : IntKind} {a : Option Addr} {len cap : Nat} {zs : List Int}
    (h : (a = none ∧ len = 0 ∧ cap = 0 ∧ zs = []) ∨ ∃ x, a = some x ∧ len ≤ cap ∧ cap ≤ maxLen ∧ zs.length = cap ∧ (∀ i, i < zs.length → w.cell? (x.add i) = some (.int k (zs.getD i 0))) ∧ ∀ n ∈ zs, (Lit.int k n).wf = true) :
    IntsAt w w.heap.size k a len (zs.take len) ∧ (∀ n ∈ zs.take len, (Lit.int k n).wf = true) ∧ len ≤ 9223372036854775807 := by
  rcases h with ⟨rfl, rfl, rfl, rfl⟩ | ⟨x, rfl, hl, hm, hz, hc, hw⟩
  · exact ⟨⟨rfl, .inl rfl⟩, by simp, by omega⟩
  · unfold maxLen at hm
    refine ⟨⟨by simp; omega, ?_⟩, fun n hn => hw n (List.mem_of_mem_take hn), by omega⟩
    by_cases h0 : len = 0
    · exact .inl h0
    · obtain ⟨b, off, rfl, hc'⟩ := ints_at hc (by omega)
      refine .inr ⟨b, off, rfl, ?_, by omega, fun j hj => ?_⟩
      · exact cell_block (hc' 0 (by omega))
      · rw [hc' j (by omega)]; simp [List.getD, hj]
theorem IntsAt.at_ {w : World} {B len : Nat} {k : IntKind} {a : Option Addr} {zs : List Int} (h : IntsAt w B k a len zs) {j : Nat} (hj : j < len) :
    ∃ b off, a = some ⟨b, off, none⟩ ∧ b < B ∧ len ≤ 9223372036854775807 ∧ w.cell? ⟨b, off + j, none⟩ = some (.int k (zs.getD j 0)) := by
  rcases h.2 with h | ⟨b, off, e, h1, h2, h3⟩
  · omega
  · exact ⟨b, off, e, h1, h2, h3 j hj⟩
theorem own_base {w : World} {base e size n : Nat} {v : Value} {xs : List Value} (h : w.ownsRow base e size v n xs) (g : Nat) (hg : v.ownBlock = some g) : base ≤ g := by
  rcases h.2 with ⟨rfl, _⟩ | ⟨g', cap, cur, rfl, hb, _⟩
  · simp [Value.ownBlock] at hg
  · simp [Value.ownBlock] at hg; omega
theorem own_ints {w : World} {base e n : Nat} {v : Value} {k : IntKind} {zs : List Int} (h : w.ownsRow base e 1 v n (zs.map (Value.int k))) : ∃ a c, v = .slice a n c ∧ IntsAt w w.heap.size k a n zs := by
  have hl : zs.length = n := by have := h.1; simpa using this
  rcases h.2 with ⟨rfl, rfl⟩ | ⟨g, cap, cur, rfl, hb, hh, hn, hc, hs, ht⟩
  · exact ⟨none, 0, rfl, hl, .inl rfl⟩
  · have hg : g < w.heap.size := by
      rcases Nat.lt_or_ge g w.heap.size with hlt | hge
      · exact hlt
      · rw [Array.getElem?_eq_none hge] at hh; cases hh
    refine ⟨_, cap, rfl, hl, .inr ⟨g, 0, rfl, hg, by unfold maxLen at hc; omega, fun j hj => ?_⟩⟩
    rw [Nat.zero_add, h.cellAt j (by omega)]
    simp [List.getD, hl, hj]
end Go.Proofs.YtobhoecmmpijgaaGreat

/- Words of mine for memory: rows that the call owns, what is appended onto them, bytes as a text, slices of slices. -/
namespace Go.Proofs.YtobhoecmmpijgaaGreat
open Go.RowKit
set_option linter.unusedVariables false

theorem IntsAt.grow {w : World} {B B' len : Nat} {k : IntKind} {a : Option Addr} {zs : List Int} (h : IntsAt w B k a len zs) (hB : B ≤ B') : IntsAt w B' k a len zs := by
  obtain ⟨h1, h2⟩ := h
  refine ⟨h1, ?_⟩
  rcases h2 with h2 | ⟨b, off, e, h3, h4, h5⟩
  · exact .inl h2
  · exact .inr ⟨b, off, e, by omega, h4, h5⟩
theorem IntsAt.now {w w' : World} {B len : Nat} {k : IntKind} {a : Option Addr} {zs : List Int} (h : IntsAt w B k a len zs) (hb : Below B w w') (hB : B ≤ w.heap.size) : IntsAt w' w'.heap.size k a len zs :=
  (h.below hb).grow (Nat.le_trans hB hb.size)
theorem own_ints' {w : World} {base e n c : Nat} {a : Option Addr} {k : IntKind} {zs : List Int} (h : w.ownsRow base e 1 (.slice a n c) n (zs.map (Value.int k))) : IntsAt w w.heap.size k a n zs := by
  obtain ⟨a', c', e1, h2⟩ := own_ints h
  obtain rfl : a = a' := by injection e1
  exact h2
/-- The cells that an append looks for at its source. -/
theorem IntsAt.src {w w' : World} {B len : Nat} {k : IntKind} {ad : Addr} {zs : List Int} (h : IntsAt w B k (some ad) len zs) (hb : Below B w w') :
    ∀ j u, (zs.map (Value.int k))[j]? = some u → w'.cell? (ad.add j) = some u := by
  intro j u hj
  have hl := h.1
  rw [List.getElem?_map] at hj
  obtain ⟨x, hx, rfl⟩ := Option.map_eq_some_iff.1 hj
  have hjl : j < len := by
    have := (List.getElem?_eq_some_iff.1 hx).1
    omega
  obtain ⟨b', off', e, hbB, _, hc⟩ := h.2.resolve_left (by omega)
  obtain rfl : ad = ⟨b', off', none⟩ := by injection e
  have e2 : (⟨b', off', none⟩ : Addr).add j = ⟨b', off' + j, none⟩ := by unfold Addr.add; split <;> simp_all
  rw [e2, hb.cell (p := ⟨b', off' + j, none⟩) hbB, hc j hjl]
  simp [List.getD, hx]
/-- What a value looks like that owns a row: a slice of that length. -/
theorem own_form {w : World} {base e n : Nat} {v : Value} {k : IntKind} {zs : List Int} (h : w.ownsRow base e 1 v n (zs.map (Value.int k))) : ∃ a c, v = .slice a n c := by
  obtain ⟨a, c, e1, _⟩ := own_ints h
  exact ⟨a, c, e1⟩
theorem own_lt {w : World} {base e size n : Nat} {v : Value} {xs : List Value} (h : w.ownsRow base e size v n xs) (g : Nat) (hg : v.ownBlock = some g) : g < w.heap.size := by
  rcases h.2 with ⟨rfl, _⟩ | ⟨g', cap, cur, rfl, hb, hh, _⟩
  · simp [Value.ownBlock] at hg
  · simp [Value.ownBlock] at hg
    subst hg
    rcases Nat.lt_or_ge g' w.heap.size with hlt | hge
    · exact hlt
    · rw [Array.getElem?_eq_none hge] at hh; cases hh
/-- append(s, x...) where s is a row of the call's own, and x any slice of numbers, nil too. -/
theorem append_ints {P : Program} {w : World} {ops : Array Oper} {rest : List Oper} {o : Oper} {a : Act} {Q : Exit → Act → World → Prop} (hgd : o.guard = none) (s x : Operand) (t : TypeId)
    (ho : o.op = .call { callee := .builtin .append, args := #[s, x], argTypes := #[t, t] })
    (base : Nat) (e : TypeId) (k : IntKind) (by' : Nat) (ht : P.underlying t = some (.slice e)) (hi : (P.info? e).map (fun i => (i.zero, i.size, i.bytes)) = some (some (.int k 0), 1, by'))
    (v : Value) (n : Nat) (zs : List Int) (hs : a.eval s = v) (hown : w.ownsRow base e 1 v n (zs.map (Value.int k)))
    (A : Option Addr) (m c B : Nat) (ys : List Int) (hx : a.eval x = .slice A m c) (hsrc : IntsAt w B k A m ys) (hnone : A = none → c = 0)
    (h63 : n + m ≤ maxLen) (hbytes : (n + m) * by' ≤ 140737488355328) (hbase : base ≤ w.heap.size)
    (h : ∀ v' w', w'.ownsRow base e 1 v' (n + m) ((zs ++ ys).map (Value.int k)) → w.grownBy w' v.ownBlock → (v'.ownBlock = v.ownBlock ∨ v'.ownBlock = some w.heap.size) → wpList P ops Q rest (a.put o.dst v') w') :
    wpList P ops Q (o :: rest) a w := by
  obtain ⟨i, h1, h2, h3, h4⟩ := info_parts hi
  cases A with
  | none =>
    have hm : m = 0 := by
      rcases hsrc.2 with h0 | ⟨b, off, e', _⟩
      · exact h0
      · cases e'
    subst hm
    have hy : ys = [] := List.eq_nil_of_length_eq_zero hsrc.1
    subst hy
    obtain rfl := hnone rfl
    refine wpList_append_own_none hgd s x t ho base e i 1 ht h1 v n _ hs hown hx (h v w ?_ (World.grownBy.refl w _) (.inl rfl))
    simpa using hown
  | some ad =>
    refine wpList_append_own_at w hgd s x t ho base e i (.int k 0) 1 by' ht h1 h2 h3 h4 rfl (by decide) v n _ hs hown ad m c (ys.map (Value.int k)) hx (by simp [hsrc.1]) (hsrc.src (Below.refl _ _)) (ints_oneCell _ _) h63 hbytes hbase ?_
    intro v' w' g1 g2 _ g4
    exact h v' w' (by simpa using g1) g2 g4

/-- A new row of numbers, whatever mark it bears. -/
theorem lit_ints (w : World) (t : TypeId) (k : IntKind) (zs : List Int) (cs : Array Value) (fr : Nat × Nat) (h : cs = (zs.map (Value.int k)).toArray) (hm : zs.length ≤ 9223372036854775807) :
    IntsAt (w.alloc (.cells cs t fr)) (w.alloc (.cells cs t fr)).heap.size k (some ⟨w.heap.size, 0, none⟩) zs.length zs := by
  refine ⟨rfl, .inr ⟨_, 0, rfl, by simp, hm, fun j hj => ?_⟩⟩
  rw [Nat.zero_add, cell_of_row _ _ j cs t fr (heap_alloc_new w _)]
  subst h
  simp [List.getD, hj]

end Go.Proofs.YtobhoecmmpijgaaGreat

/- From a reading of an argument to what the walks are told of it: slices of slices of numbers. -/
namespace Go.Proofs.YtobhoecmmpijgaaGreat
open Go.ChangeShapes Go.WideShapes Go.ChangeAt Go.RowKit Go.Deep
set_option linter.unusedVariables false

theorem addr_plain {w : World} {a : Addr} {v : Value} (h : w.cell? (a.add 0) = some v) : ∃ b off, a = ⟨b, off, none⟩ := by
  obtain ⟨b, off, spot⟩ := a
  have hs : spot = none := by simpa [Addr.add] using World.cell?_spot h
  subst hs
  exact ⟨b, off, rfl⟩

end Go.Proofs.YtobhoecmmpijgaaGreat

/- Words of mine for memory: a slice of bools that came in. -/
namespace Go.Proofs.YtobhoecmmpijgaaGreat
open Go.RowKit
set_option linter.unusedVariables false

/-- What is known of a slice of bools: it is empty, or it leads to its bools, which lie below block B. -/
def BoolsAt (w : World) (B : Nat) (a : Option Addr) (len : Nat) (bs : Nat → Bool) : Prop :=
  len ≤ 9223372036854775807 ∧ (len = 0 ∨ ∃ b off, a = some ⟨b, off, none⟩ ∧ b < B ∧ ∀ j, j < len → w.cell? ⟨b, off + j, none⟩ = some (.bool (bs j)))
theorem BoolsAt.below {w w' : World} {B len : Nat} {a : Option Addr} {bs : Nat → Bool} (h : BoolsAt w B a len bs) (hb : Below B w w') : BoolsAt w' B a len bs := by
  obtain ⟨h1, h2⟩ := h
  refine ⟨h1, ?_⟩
  rcases h2 with h2 | ⟨b, off, e, h3, h5⟩
  · exact .inl h2
  · exact .inr ⟨b, off, e, h3, fun j hj => (hb.cell (p := ⟨b, off + j, none⟩) h3).trans (h5 j hj)⟩
theorem BoolsAt.at_ {w : World} {B len : Nat} {a : Option Addr} {bs : Nat → Bool} (h : BoolsAt w B a len bs) {j : Nat} (hj : j < len) :
    ∃ b off, a = some ⟨b, off, none⟩ ∧ b < B ∧ ∀ j, j < len → w.cell? ⟨b, off + j, none⟩ = some (.bool (bs j)) := by
  rcases h.2 with h | h
  · omega
  · exact h
end Go.Proofs.YtobhoecmmpijgaaGreat

/- From a reading of an argument to what the walks are told of it: a slice of bools. -/
namespace Go.Proofs.YtobhoecmmpijgaaGreat
open Go.ChangeShapes Go.WideShapes Go.ChangeAt Go.RowKit Go.Deep
set_option linter.unusedVariables false

theorem bools_in {P : Program} {H : Type} {enc : TypeId × Value → H} {w : World} {base : Nat} {held : Bool} {t e : TypeId} {fuel : Nat} {a : Option Addr} {len cap : Nat} {x : DataW H × List MemPlace}
    (ht : P.underlying t = some (.slice e)) (he : P.underlying e = some .bool) (ce : P.cellsOf e = 1)
    (h : DataW.trod enc P w base (fun _ => true) held fuel t (Value.slice a len cap).cells.toList = some x) : ∃ bs, BoolsAt w w.heap.size a len bs := by
  rcases open_bools ht he ce h with ⟨hcs, _⟩ | ⟨a', len', cap', bs, hcs, _, hl, hm, _, hr⟩
  · simp [Value.cells] at hcs
    obtain ⟨rfl, rfl, rfl⟩ := hcs
    exact ⟨fun _ => false, by omega, .inl rfl⟩
  · simp [Value.cells] at hcs
    obtain ⟨rfl, rfl, rfl⟩ := hcs
    unfold maxLen at hm
    refine ⟨bs, by omega, ?_⟩
    by_cases h0 : len = 0
    · exact .inl h0
    · obtain ⟨b, off, rfl⟩ := addr_plain (hr 0 (by omega))
      refine .inr ⟨b, off, rfl, ?_, fun r hrl => ?_⟩
      · have := hr 0 (by omega)
        rw [Go.WideShapes.add_plain] at this
        exact cell_block this
      · have := hr r (by omega)
        rw [Go.WideShapes.add_plain] at this
        exact this
theorem wf9_i16 {zs : List Int} (h : ∀ n ∈ zs, (Lit.int .i16 n).wf = true) (j : Nat) : -32768 ≤ zs.getD j 0 ∧ zs.getD j 0 ≤ 32767 := by
  by_cases hj : j < zs.length
  · have := bounds_i16 (h (zs[j]) (List.getElem_mem hj))
    simpa [List.getD, hj] using this
  · simp [List.getD, hj]
end Go.Proofs.YtobhoecmmpijgaaGreat

/- Plain facts of numbers, for the statements of layer 1: what is held, what is rounded, what a root is. Nothing here speaks of the program. -/
namespace Go.Proofs.YtobhoecmmpijgaaGreat
open Go

/-- A number that is not reckoned by unfolding. -/
noncomputable def hideI (x : Int) : Int := @Classical.epsilon Int ⟨0⟩ (fun y => y = x)
theorem hideI_eq (x : Int) : hideI x = x := Classical.epsilon_spec (p := fun y => y = x) ⟨x, rfl⟩

/-- 2 to the k. -/
def P2 (k : Nat) : Int := 2 ^ k
theorem P2_succ (k : Nat) : P2 (k + 1) = P2 k * 2 := by unfold P2; rw [Int.pow_succ]
theorem P2_pos (k : Nat) : 1 ≤ P2 k := by
  induction k with
  | zero => decide
  | succ k ih => rw [P2_succ]; omega
theorem P2_mono {a b : Nat} (h : a ≤ b) : P2 a ≤ P2 b := by
  induction b with
  | zero => obtain rfl : a = 0 := by omega
            exact Int.le_refl _
  | succ b ih =>
    rcases Nat.lt_or_ge a (b + 1) with h' | h'
    · have := ih (by omega); have := P2_pos b; rw [P2_succ]; omega
    · obtain rfl : a = b + 1 := by omega
      exact Int.le_refl _
theorem P2_62 : P2 62 = 4611686018427387904 := by decide
theorem P2_63 : P2 63 = 9223372036854775808 := by decide
theorem P2_le61 {k : Nat} (h : k ≤ 61) : P2 k ≤ 2305843009213693952 := by have := P2_mono h; rw [show P2 61 = 2305843009213693952 by decide] at this; exact this
theorem P2_le62 {k : Nat} (h : k ≤ 62) : P2 k ≤ 4611686018427387904 := by have := P2_mono h; rw [P2_62] at this; exact this
theorem P2_le63 {k : Nat} (h : k ≤ 63) : P2 k ≤ 9223372036854775808 := by have := P2_mono h; rw [P2_63] at this; exact this

/-! ### held -/
/-- n, held to b bits. -/
def satP (n b : Int) : Int := if b < 1 ∨ 64 < b then 0 else if n < -(P2 (b.toNat - 1)) then -(P2 (b.toNat - 1)) else if P2 (b.toNat - 1) - 1 < n then P2 (b.toNat - 1) - 1 else n
theorem satP_out {n b : Int} (h : b < 1 ∨ 64 < b) : satP n b = 0 := if_pos h
theorem greatest_all : ∀ k : Nat, k < 64 → (9223372036854775807 : Nat) / 2 ^ (63 - k) = 2 ^ k - 1 := by decide
theorem greatest_eq {b : Int} (h1 : 1 ≤ b) (h2 : b ≤ 64) : (9223372036854775807 : Int) / 2 ^ (64 - b).toNat = P2 (b.toNat - 1) - 1 := by
  have h := greatest_all (b.toNat - 1) (by omega)
  have e : (64 - b).toNat = 63 - (b.toNat - 1) := by omega
  have p := P2_pos (b.toNat - 1)
  have c : ((2 ^ (b.toNat - 1) : Nat) : Int) = P2 (b.toNat - 1) := by simp [P2]
  have q : (1 : Nat) ≤ 2 ^ (b.toNat - 1) := Nat.one_le_two_pow
  rw [e]
  have h' : ((9223372036854775807 / 2 ^ (63 - (b.toNat - 1)) : Nat) : Int) = ((2 ^ (b.toNat - 1) - 1 : Nat) : Int) := by rw [h]
  rw [Int.natCast_ediv, Int.ofNat_sub q, c] at h'
  simpa using h'
theorem satP_in {n b : Int} (h1 : 1 ≤ b) (h2 : b ≤ 64) : satP n b = if n < -(P2 (b.toNat - 1)) then -(P2 (b.toNat - 1)) else if P2 (b.toNat - 1) - 1 < n then P2 (b.toNat - 1) - 1 else n := by
  unfold satP; rw [if_neg (by omega)]
theorem satP_bd (n b : Int) : -9223372036854775808 ≤ satP n b ∧ satP n b ≤ 9223372036854775807 := by
  unfold satP
  split
  · omega
  · rename_i h
    have p := P2_pos (b.toNat - 1)
    have q := P2_le63 (k := b.toNat - 1) (by omega)
    split
    · omega
    · split <;> omega
theorem satP_bd32 (n : Int) : -2147483648 ≤ satP n 32 ∧ satP n 32 ≤ 2147483647 := by
  have e : P2 ((32 : Int).toNat - 1) = 2147483648 := by decide
  rw [satP_in (by decide) (by decide), e]
  split
  · omega
  · split <;> omega
theorem satP_self {n b : Int} (h1 : 1 ≤ b) (h2 : b ≤ 64) (h3 : -(P2 (b.toNat - 1)) ≤ n) (h4 : n ≤ P2 (b.toNat - 1) - 1) : satP n b = n := by
  rw [satP_in h1 h2, if_neg (by omega), if_neg (by omega)]

/-! ### sums, each held -/
theorem take_snocI (zs : List Int) (k : Nat) (h : k < zs.length) : zs.take (k + 1) = zs.take k ++ [zs.getD k 0] := by
  rw [List.take_succ_eq_append_getElem h]; simp [List.getD, h]
/-! ### rounded -/
/-- n divided by 2 to the b, to the nearest, halves upwards. -/
def rndP (n b : Int) : Int := if b < 0 ∨ 62 < b then 0 else (n + P2 b.toNat / 2) / P2 b.toNat
theorem rndP_out {n b : Int} (h : b < 0 ∨ 62 < b) : rndP n b = 0 := if_pos h
theorem rndP_zero (n : Int) : rndP n 0 = n := by unfold rndP; simp [P2]
theorem rndP_in {n b : Int} (h1 : 0 ≤ b) (h2 : b ≤ 62) : rndP n b = (n + P2 b.toNat / 2) / P2 b.toNat := by unfold rndP; rw [if_neg (by omega)]
/-- The floor, and the highest bit that is lost. -/
theorem rndP_bits {n b : Int} (h1 : 1 ≤ b) (h2 : b ≤ 62) : rndP n b = n / 2 ^ b.toNat + n / 2 ^ (b.toNat - 1) % 2 := by
  obtain ⟨k, hk⟩ : ∃ k : Nat, b.toNat = k + 1 := ⟨b.toNat - 1, by omega⟩
  rw [rndP_in (by omega) h2, hk, P2_succ]
  have e : (2 : Int) ^ (k + 1) = P2 k * 2 := P2_succ k
  have e' : (2 : Int) ^ (k + 1 - 1) = P2 k := rfl
  have p := P2_pos k
  rw [e, e', Int.mul_ediv_cancel _ (by decide), ← Int.ediv_ediv_of_nonneg (by omega), ← Int.ediv_ediv_of_nonneg (by omega)]
  have a : (n + P2 k) / P2 k = n / P2 k + 1 := by rw [Int.add_ediv_of_dvd_right ⟨1, by omega⟩, Int.ediv_self (by omega)]
  rw [a]; omega
theorem half_bits {n : Int} {k : Nat} (h : -9223372036854775808 ≤ n) (h' : n ≤ 9223372036854775807) : -9223372036854775808 ≤ n / 2 ^ k ∧ n / 2 ^ k ≤ 9223372036854775807 := by
  have e : (2 : Int) ^ k = P2 k := rfl
  have p := P2_pos k
  rw [e]
  refine ⟨Int.le_ediv_of_mul_le (by omega) ?_, ?_⟩
  · have : -9223372036854775808 * P2 k ≤ -9223372036854775808 * 1 := Int.mul_le_mul_of_nonpos_left (by decide) p
    omega
  · by_cases h0 : n < 0
    · have := Int.ediv_neg_of_neg_of_pos h0 (show 0 < P2 k by omega); omega
    · have := Int.ediv_le_self (P2 k) (show 0 ≤ n by omega); omega
theorem rndP_bd {n b : Int} (h : -9223372036854775808 ≤ n) (h' : n ≤ 9223372036854775807) : -9223372036854775808 ≤ rndP n b ∧ rndP n b ≤ 9223372036854775807 := by
  by_cases h0 : b < 0 ∨ 62 < b
  · rw [rndP_out h0]; omega
  · by_cases h1 : b = 0
    · subst h1; rw [rndP_zero]; omega
    · have hk : 1 ≤ b.toNat := by omega
      obtain ⟨k, hk⟩ : ∃ k : Nat, b.toNat = k + 1 := ⟨b.toNat - 1, by omega⟩
      rw [rndP_bits (by omega) (by omega)]
      have := half_bits (k := b.toNat - 1) h h'
      have e : n / 2 ^ b.toNat = n / 2 ^ (b.toNat - 1) / 2 := by
        have e1 : (2 : Int) ^ (b.toNat) = 2 ^ (b.toNat - 1) * 2 := by rw [hk, Int.pow_succ]; rfl
        have p := P2_pos (b.toNat - 1)
        unfold P2 at p
        rw [e1, Int.ediv_ediv_of_nonneg (by omega)]
      rw [e]; omega
theorem i64_and1 (n : Int) : bits .and .i64 n 1 = n % 2 := by
  have h1 : (BitVec.ofInt 64 1).toNat = 2 ^ 1 - 1 := by decide
  have key : (BitVec.ofInt 64 n &&& BitVec.ofInt 64 1).toNat = (n % ((2 ^ 64 : Nat) : Int)).toNat % 2 ^ 1 := by
    rw [BitVec.toNat_and, BitVec.toNat_ofInt, h1, Nat.and_two_pow_sub_one_eq_mod]
  show IntKind.i64.wrap ((BitVec.ofInt 64 n &&& BitVec.ofInt 64 1).toNat : Nat) = n % 2
  rw [key, IntKind.wrap_i64]
  omega
/-- By quotient and remainder towards nought, as the document's answer reckons. -/
theorem rnd_quo {n d q r : Int} (hd : 1 ≤ d) (hq : q = n.tdiv d) (hr : r = n.tmod d) :
    n / d = (if r < 0 then q - 1 else q) ∧ n % d = (if r < 0 then r + d else r) := by
  have hs := Int.mul_tdiv_add_tmod n d
  rw [← hq, ← hr] at hs
  have hlt : r < d := by rw [hr]; exact Int.tmod_lt_of_pos _ (by omega)
  have hgt : -d < r := by
    rw [hr]
    have := Int.tmod_lt_of_pos (-n) (show 0 < d by omega)
    rw [Int.neg_tmod] at this; omega
  split
  · rename_i h0
    have e : n = (r + d) + d * (q - 1) := by rw [Int.mul_sub, Int.mul_one]; omega
    have := (Int.ediv_emod_unique (a := n) (b := d) (r := r + d) (q := q - 1) (by omega)).mpr ⟨e.symm, by omega, by omega⟩
    exact this
  · have := (Int.ediv_emod_unique (a := n) (b := d) (r := r) (q := q) (by omega)).mpr ⟨by omega, by omega, by omega⟩
    exact this
theorem rnd_floor {n d : Int} (hd : 1 ≤ d) (he : d % 2 = 0) : (n + d / 2) / d = n / d + if d ≤ 2 * (n % d) then 1 else 0 := by
  have hs := Int.mul_ediv_add_emod n d
  have h0 := Int.emod_nonneg n (show d ≠ 0 by omega)
  have h1 := Int.emod_lt_of_pos n (show 0 < d by omega)
  split
  · rename_i h2
    refine ((Int.ediv_emod_unique (a := n + d / 2) (b := d) (r := n % d + d / 2 - d) (q := n / d + 1) (by omega)).mpr ⟨?_, by omega, by omega⟩).1
    rw [Int.mul_add, Int.mul_one]; omega
  · rename_i h2
    refine ((Int.ediv_emod_unique (a := n + d / 2) (b := d) (r := n % d + d / 2) (q := n / d + 0) (by omega)).mpr ⟨?_, by omega, by omega⟩).1
    rw [Int.add_zero]; omega
theorem rndP_even {b : Int} (h : 1 ≤ b) : P2 b.toNat % 2 = 0 := by
  obtain ⟨k, hk⟩ : ∃ k : Nat, b.toNat = k + 1 := ⟨b.toNat - 1, by omega⟩
  rw [hk, P2_succ]; omega
theorem P2_two {b : Int} (h : 1 ≤ b) : 2 ≤ P2 b.toNat := by
  obtain ⟨k, hk⟩ : ∃ k : Nat, b.toNat = k + 1 := ⟨b.toNat - 1, by omega⟩
  rw [hk, P2_succ]; have := P2_pos k; omega

theorem tmod_bd {n d : Int} (hd : 1 ≤ d) : -d < n.tmod d ∧ n.tmod d < d := by
  refine ⟨?_, Int.tmod_lt_of_pos _ (by omega)⟩
  have := Int.tmod_lt_of_pos (-n) (show 0 < d by omega)
  rw [Int.neg_tmod] at this; omega
theorem tdiv_bd2 {n d : Int} (hd : 2 ≤ d) (h : -9223372036854775808 ≤ n) (h' : n ≤ 9223372036854775807) : -4611686018427387904 ≤ n.tdiv d ∧ n.tdiv d ≤ 4611686018427387904 := by
  have e : (n.tdiv d).natAbs = n.natAbs / d.natAbs := Int.natAbs_tdiv n d
  have a : n.natAbs / d.natAbs ≤ n.natAbs / 2 := Nat.div_le_div_left (by omega) (by decide)
  omega
theorem rnd_close {n b : Int} {k : Nat} (h1 : 1 ≤ k) (h2 : k ≤ 62) (hk : (k : Int) = b) :
    rndP n b = (if n.tmod (P2 k) < 0 then n.tdiv (P2 k) - 1 else n.tdiv (P2 k)) + if P2 k ≤ 2 * (if n.tmod (P2 k) < 0 then n.tmod (P2 k) + P2 k else n.tmod (P2 k)) then 1 else 0 := by
  subst hk
  have p := P2_pos k
  rw [rndP_in (by omega) (by omega), Int.toNat_natCast]
  have e := rndP_even (b := (k : Int)) (by omega)
  rw [Int.toNat_natCast] at e
  rw [rnd_floor p e, (rnd_quo p rfl rfl).1, (rnd_quo p rfl rfl).2]

/-- A product, rounded, held to thirty-two bits. -/
def mulP (a b by' : Int) : Int := satP (rndP (a * b) by') 32
theorem prod_bd {a b : Int} (ha : -2147483648 ≤ a) (ha' : a ≤ 2147483647) (hb : -2147483648 ≤ b) (hb' : b ≤ 2147483647) : -4611686018427387904 ≤ a * b ∧ a * b ≤ 4611686018427387904 := by
  have h : (a * b).natAbs ≤ 2147483648 * 2147483648 := by
    rw [Int.natAbs_mul]; exact Nat.mul_le_mul (by omega) (by omega)
  omega

/-! ### roots -/
/-- x is the greatest number of thirty-two bits whose square isn't above n. -/
def IsRoot (n x : Int) : Prop := 0 ≤ x ∧ x ≤ 4294967295 ∧ x * x ≤ n ∧ n < (x + 1) * (x + 1)
theorem sq_mono {a b : Int} (ha : 0 ≤ a) (h : a ≤ b) : a * a ≤ b * b := Int.mul_le_mul h h ha (by omega)
theorem isRoot_unique {n x y : Int} (hx : IsRoot n x) (hy : IsRoot n y) : x = y := by
  obtain ⟨x0, _, x1, x2⟩ := hx
  obtain ⟨y0, _, y1, y2⟩ := hy
  rcases Int.lt_trichotomy x y with h | h | h
  · have := sq_mono (a := x + 1) (b := y) (by omega) (by omega); omega
  · exact h
  · have := sq_mono (a := y + 1) (b := x) (by omega) (by omega); omega
noncomputable def rootP (n : Int) : Int := @Classical.epsilon Int ⟨0⟩ (IsRoot n)
theorem rootP_eq {n x : Int} (h : IsRoot n x) : x = rootP n := isRoot_unique h (Classical.epsilon_spec ⟨x, h⟩)
theorem or_join {r : Int} {j : Nat} (h0 : 0 ≤ r) (h1 : r + P2 (j + 1) ≤ 4294967296) (h2 : r % P2 (j + 1) = 0) : bits .or .u64 r (P2 j) = r + P2 j := by
  have p := P2_pos j
  rw [P2_succ] at h1
  rw [u64_or r (P2 j) h0 (by omega) (by omega) (by omega)]
  have c : ((2 ^ (j + 1) : Nat) : Int) = P2 (j + 1) := by simp [P2]
  have c' : (P2 j).toNat = 2 ^ j := by
    have : ((2 ^ j : Nat) : Int) = P2 j := by simp [P2]
    omega
  have hm : r.toNat % 2 ^ (j + 1) = 0 := by
    have e : ((r.toNat % 2 ^ (j + 1) : Nat) : Int) = r % P2 (j + 1) := by rw [Int.natCast_emod, c, Int.toNat_of_nonneg h0]
    omega
  rw [nat_join (j + 1) _ _ hm (by rw [c', Nat.pow_succ]; have := Nat.one_le_two_pow (n := j); omega)]
  omega
theorem sq_lt32 {x : Int} (h0 : 0 ≤ x) (h : x ≤ 4294967295) : 0 ≤ x * x ∧ x * x ≤ 18446744073709551615 := by
  have a := sq_mono h0 h
  have b := sq_mono (a := 0) (b := x) (by decide) h0
  omega
theorem P2_32 : P2 32 = 4294967296 := by decide
/-- What holds of the root's highest bits: r, a multiple of 2 to the k, is the greatest such one whose square isn't above n. -/
def RootUpTo (n r : Int) (k : Nat) : Prop := 0 ≤ r ∧ r + P2 k ≤ 4294967296 ∧ r % P2 k = 0 ∧ r * r ≤ n ∧ n < (r + P2 k) * (r + P2 k)
theorem rootUpTo_32 {n : Int} (h : 0 ≤ n) (h' : n ≤ 18446744073709551615) : RootUpTo n 0 32 := by
  refine ⟨by decide, by decide, by decide, by omega, ?_⟩
  rw [P2_32]; omega
theorem mod_half {r : Int} {j : Nat} (h : r % P2 (j + 1) = 0) : r % P2 j = 0 := by
  have d : P2 (j + 1) ∣ r := Int.dvd_of_emod_eq_zero h
  exact Int.emod_eq_zero_of_dvd (Int.dvd_trans ⟨2, P2_succ j⟩ d)
theorem rootUpTo_low {n r : Int} {j : Nat} (h : RootUpTo n r (j + 1)) (hn : n < (r + P2 j) * (r + P2 j)) : RootUpTo n r j := by
  obtain ⟨a, b, c, d, _⟩ := h
  have p := P2_pos j
  rw [P2_succ] at b
  exact ⟨a, by omega, mod_half c, d, hn⟩
theorem rootUpTo_high {n r : Int} {j : Nat} (h : RootUpTo n r (j + 1)) (hn : (r + P2 j) * (r + P2 j) ≤ n) : RootUpTo n (r + P2 j) j := by
  obtain ⟨a, b, c, _, e⟩ := h
  have p := P2_pos j
  rw [P2_succ] at b
  refine ⟨by omega, by omega, ?_, hn, ?_⟩
  · rw [Int.add_emod_right]; exact mod_half c
  · have s : r + P2 j + P2 j = r + P2 (j + 1) := by rw [P2_succ]; omega
    rw [s]; exact e
theorem rootUpTo_end {n r : Int} (h : RootUpTo n r 0) : r = rootP n := by
  obtain ⟨a, b, _, d, e⟩ := h
  have z : P2 0 = 1 := rfl
  rw [z] at b e
  exact rootP_eq ⟨a, by omega, d, e⟩
theorem rootUpTo_bd {n r : Int} {k : Nat} (h : RootUpTo n r k) : 0 ≤ r ∧ r ≤ 4294967295 := by
  have p := P2_pos k; obtain ⟨a, b, _⟩ := h; omega
theorem rootUpTo_or {n r : Int} {j : Nat} (h : RootUpTo n r (j + 1)) : bits .or .u64 r (P2 j) = r + P2 j ∧ 0 ≤ r + P2 j ∧ r + P2 j ≤ 4294967295 := by
  obtain ⟨a, b, c, _, _⟩ := h
  have p := P2_pos j
  refine ⟨or_join a b c, by omega, ?_⟩
  rw [P2_succ] at b; omega
theorem P2_half (j : Nat) : P2 (j + 1) / 2 = P2 j := by rw [P2_succ]; omega
end Go.Proofs.YtobhoecmmpijgaaGreat

/- Plain facts of layer 13: when a frame knocks. Nothing here speaks of the program. -/
namespace Go.Proofs.YtobhoecmmpijgaaGreat
open Go
set_option linter.unusedVariables false
set_option linter.unusedSimpArgs false

def absI (x : Int) : Int := if x < 0 then -x else x
theorem absI_max (x : Int) (a : Int) : max (max a x) (-x) = max a (absI x) := by unfold absI; split <;> omega
/-- The greatest of some numbers, whichever sign. -/
def peakTo (f : Nat → Int) (a : Nat) : Nat → Int
  | 0 => 0
  | n + 1 => max (peakTo f a n) (absI (f (a + n)))
theorem peakTo_succ (f : Nat → Int) (a n : Nat) : peakTo f a (n + 1) = max (peakTo f a n) (absI (f (a + n))) := rfl
theorem peakTo_bd {f : Nat → Int} {a : Nat} : ∀ {n : Nat}, (∀ i, i < n → -32768 ≤ f (a + i) ∧ f (a + i) ≤ 32767) → 0 ≤ peakTo f a n ∧ peakTo f a n ≤ 32768
  | 0, _ => ⟨Int.le_refl _, by show (0 : Int) ≤ _; omega⟩
  | n + 1, h => by
    have h1 := peakTo_bd (n := n) fun i hi => h i (by omega)
    have h2 := h n (by omega)
    rw [peakTo_succ]
    unfold absI
    split <;> omega
/-- .. of the quarters, at k numbers. -/
def pkF (f : Nat → Int) (k q : Nat) : Int := peakTo f (128 * q) (min (k - 128 * q) 128)
theorem pkF_zero (f : Nat → Int) (q : Nat) : pkF f 0 q = 0 := by
  unfold pkF
  rw [show min (0 - 128 * q) 128 = 0 by omega]; rfl
theorem pkF_next (f : Nat → Int) {k q : Nat} (hq : k / 128 = q) : pkF f (k + 1) q = max (pkF f k q) (absI (f k)) := by
  unfold pkF
  rw [show min (k + 1 - 128 * q) 128 = min (k - 128 * q) 128 + 1 by omega, peakTo_succ, show 128 * q + min (k - 128 * q) 128 = k by omega]
theorem pkF_other (f : Nat → Int) {k q : Nat} (hq : k / 128 ≠ q) : pkF f (k + 1) q = pkF f k q := by
  unfold pkF
  rw [show min (k + 1 - 128 * q) 128 = min (k - 128 * q) 128 by omega]
theorem pkF_all (f : Nat → Int) {q : Nat} (h : q < 4) : pkF f 512 q = peakTo f (128 * q) 128 := by
  unfold pkF
  rw [show min (512 - 128 * q) 128 = 128 by omega]
/-- The greatest of a quarter. -/
def peakQ (f : Nat → Int) (q : Nat) : Int := peakTo f (128 * q) 128
theorem peakQ_bd {f : Nat → Int} (h : ∀ i, i < 512 → -32768 ≤ f i ∧ f i ≤ 32767) {q : Nat} (hq : q < 4) : 0 ≤ peakQ f q ∧ peakQ f q ≤ 32768 := peakTo_bd fun i hi => h _ (by omega)
/-- Sudden. -/
def knB (a p : Int) : Bool := decide (1000 < p) && decide (8 * a < p)
/-- A frame knocks. -/
def briefB (A p0 p1 p2 p3 : Int) : Bool := knB A p0 || knB p0 p1 || knB p1 p2 || knB p2 p3
def briefF (A : Int) (f : Nat → Int) : Bool := briefB A (peakQ f 0) (peakQ f 1) (peakQ f 2) (peakQ f 3)
end Go.Proofs.YtobhoecmmpijgaaGreat
