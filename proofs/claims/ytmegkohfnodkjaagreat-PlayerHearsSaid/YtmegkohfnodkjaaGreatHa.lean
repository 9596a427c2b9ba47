/- Plain facts, and what functions give, for the proofs of this seat: several texts in one, each with its own first remark. -/
import Derived.WalkKit
import Derived.WalkLawsBesides
import Derived.Handy
import Derived.Lib.Hide
import Derived.OpenShut
import Derived.OwnWalk
import Derived.Laws.OwnMore
import Derived.Laws.AppendOwnNone
import Derived.Laws.BytesString
import Derived.Maps.AppendAt
import Derived.Deep.AppendLies
import Derived.ProofKit
import Derived.ShutString
import Derived.ChangeOld
import Derived.Below
import Derived.Deep.Matrix
import Derived.Deep.Grids

/- Words of mine for memory: a block that is known whole, as a row of numbers. -/
namespace Go.Proofs.YtmegkohfnodkjaaGreat
open Go.RowKit
set_option linter.unusedVariables false

theorem ret_int {k : IntKind} {a b : Int} (h : a = b) : Ending.returned (.int k a) = .returned (.int k b) := by rw [h]
theorem ret_bool {a b : Bool} (h : a = b) : Ending.returned (.bool a) = .returned (.bool b) := by rw [h]

/-- Block g is just the numbers zs, of kind k and element type t; none is frozen. -/
def IRow (w : World) (g : Nat) (t : TypeId) (k : IntKind) (zs : List Int) : Prop := w.heap[g]? = some (.cells (zs.map (Value.int k)).toArray t (0, 0))
section
variable {w w' : World} {g : Nat} {t : TypeId} {k : IntKind} {zs : List Int}
theorem IRow.lt (h : IRow w g t k zs) : g < w.heap.size := by
  rcases Nat.lt_or_ge g w.heap.size with hlt | hge
  · exact hlt
  · unfold IRow at h; rw [Array.getElem?_eq_none hge] at h; cases h
theorem IRow.cell (h : IRow w g t k zs) {j : Nat} (hj : j < zs.length) : w.cell? ⟨g, j, none⟩ = some (.int k (zs.getD j 0)) := by
  rw [cell_of_row w g j _ t (0, 0) h]
  simp [List.getD, hj]
theorem IRow.frozen (h : IRow w g t k zs) (j : Nat) : w.frozen? ⟨g, j, none⟩ = false := by
  unfold IRow at h
  simp [World.frozen?, h]
theorem IRow.alloc (h : IRow w g t k zs) (o : Obj) : IRow (w.alloc o) g t k zs := (Below.heap_alloc w o g h.lt).trans h
theorem IRow.far (h : IRow w g t k zs) {p : Addr} (hp : g ≠ p.block) (u : Value) : IRow (w.setCell p u) g t k zs := (Below.heap_setCell w p u g hp).trans h
theorem IRow.below {B : Nat} (h : IRow w g t k zs) (hb : Below B w w') (hg : g < B) : IRow w' g t k zs := (hb.block g hg).trans h
theorem IRow.drew (h : IRow w g t k zs) : IRow w.drew g t k zs := h
theorem IRow.set (h : IRow w g t k zs) (j : Nat) (x : Int) : IRow (w.setCell ⟨g, j, none⟩ (.int k x)) g t k (zs.set j x) := by
  unfold IRow at h ⊢
  simp only [World.setCell, Array.getElem?_modify, if_true]
  rw [h]
  simp [List.map_set]
/-- A new block of n noughts. -/
theorem IRow.zeros (w : World) (t : TypeId) (k : IntKind) (n : Nat) : IRow (w.alloc (.cells (madeCells #[.int k 0] n) t)) w.heap.size t k (List.replicate n 0) := by
  unfold IRow
  rw [heap_alloc_new]
  have e : madeCells #[Value.int k 0] n = (List.map (Value.int k) (List.replicate n 0)).toArray := by
    apply Array.ext'
    rw [toList_madeCells_one]
    simp
  rw [e]
end
/-- 'make' of n noughts. -/
theorem make_zeros {P : Program} {t e : TypeId} {k : IntKind} {b : Nat} (ht : P.underlying t = some (.slice e)) (hi : (P.info? e).map (fun i => (i.zero, i.size, i.bytes)) = some (some (.int k 0), 1, b))
    (n : Nat) (hb : b * n ≤ 281474976710656) (hn : n ≤ 9223372036854775807) (w : World) :
    (Instr.makeSlice t (.int .i64 (n : Int)) (.int .i64 (n : Int))).run P w = .ok (.slice (some ⟨w.heap.size, 0, none⟩) n n) (w.alloc (.cells (madeCells #[.int k 0] n) e)) := by
  obtain ⟨i, h1, h2, h3, h4⟩ := info_parts hi
  have hb' : (i.bytes : Int) * (n : Int) ≤ 281474976710656 := by
    have h : ((i.bytes * n : Nat) : Int) ≤ 281474976710656 := by rw [h4]; omega
    rwa [Int.natCast_mul] at h
  have hr := run_make (P := P) w t e i (.int k 0) ht h1 h2 .i64 .i64 n n (by omega) (Int.le_refl _) hb' (by omega)
  rw [hr, h3]
  simp [Value.cells]
theorem chain {a b c : World} (h : Below a.heap.size a b) (k : Below b.heap.size b c) : Below a.heap.size a c := h.trans (k.mono h.size)
theorem Below.alloc_new (w : World) (o : Obj) : Below w.heap.size w (w.alloc o) := (Below.refl _ _).alloc (Nat.le_refl _) o
/-- What is known of a slice of numbers that came in, or that the call made: it is empty, or it leads to its numbers, which lie below block B. -/
def IntsAt (w : World) (B : Nat) (k : IntKind) (a : Option Addr) (len : Nat) (zs : List Int) : Prop :=
  zs.length = len ∧ (len = 0 ∨ ∃ b off, a = some ⟨b, off, none⟩ ∧ b < B ∧ len ≤ 9223372036854775807 ∧ ∀ j, j < len → w.cell? ⟨b, off + j, none⟩ = some (.int k (zs.getD j 0)))
theorem IntsAt.below {w w' : World} {B len : Nat} {k : IntKind} {a : Option Addr} {zs : List Int} (h : IntsAt w B k a len zs) (hb : Below B w w') : IntsAt w' B k a len zs := by
  obtain ⟨h1, h2⟩ := h
  refine ⟨h1, ?_⟩
  rcases h2 with h2 | ⟨b, off, e, h3, h4, h5⟩
  · exact .inl h2
  · exact .inr ⟨b, off, e, h3, h4, fun j hj => (hb.cell (p := ⟨b, off + j, none⟩) h3).trans (h5 j hj)⟩
theorem Below.drewN' {B : Nat} {a w : World} (h : Below B a w) (n : Nat) : Below B a (w.drewN n) := ⟨h.os, h.tape, h.output, h.size, h.block⟩
theorem IRow.drewN {w : World} {g : Nat} {t : TypeId} {k : IntKind} {zs : List Int} (h : IRow w g t k zs) (n : Nat) : IRow (w.drewN n) g t k zs := h
theorem cell_block {w : World} {p : Addr} {v : Value} (h : w.cell? p = some v) : p.block < w.heap.size := by
  rcases Nat.lt_or_ge p.block w.heap.size with hlt | hge
  · exact hlt
  · unfold World.cell? at h
    rw [Array.getElem?_eq_none hge] at h
    simp at h
/-- From what the frame of a statement says of a slice of numbers that came in. -/
theorem ints_in {w : World} {k : IntKind} {a : Option Addr} {len cap : Nat} {zs : List Int}
    (h : (a = none ∧ len = 0 ∧ cap = 0 ∧ zs = []) ∨ ∃ x, a = some x ∧ len ≤ cap ∧ cap ≤ maxLen ∧ zs.length = cap ∧ (∀ i, i < zs.length → w.cell? (x.add i) = some (.int k (zs.getD i 0))) ∧ ∀ n ∈ zs, (Lit.int k n).wf = true) :
    IntsAt w w.heap.size k a len (zs.take len) ∧ (∀ n ∈ zs.take len, (Lit.int k n).wf = true) ∧ len ≤ 9223372036854775807 := by
  rcases h with ⟨rfl, rfl, rfl, rfl⟩ | ⟨x, rfl, hl, hm, hz, hc, hw⟩
  · exact ⟨⟨rfl, .inl rfl⟩, by simp, by omega⟩
  · unfold maxLen at hm
    refine ⟨⟨by simp; omega, ?_⟩, fun n hn => hw n (List.mem_of_mem_take hn), by omega⟩
    by_cases h0 : len = 0
    · exact .inl h0
    · obtain ⟨b, off, rfl, hc'⟩ := ints_at hc (by omega)
      refine .inr ⟨b, off, rfl, ?_, by omega, fun j hj => ?_⟩
      · exact cell_block (hc' 0 (by omega))
      · rw [hc' j (by omega)]; simp [List.getD, hj]
theorem IntsAt.at_ {w : World} {B len : Nat} {k : IntKind} {a : Option Addr} {zs : List Int} (h : IntsAt w B k a len zs) {j : Nat} (hj : j < len) :
    ∃ b off, a = some ⟨b, off, none⟩ ∧ b < B ∧ len ≤ 9223372036854775807 ∧ w.cell? ⟨b, off + j, none⟩ = some (.int k (zs.getD j 0)) := by
  rcases h.2 with h | ⟨b, off, e, h1, h2, h3⟩
  · omega
  · exact ⟨b, off, e, h1, h2, h3 j hj⟩
theorem own_base {w : World} {base e size n : Nat} {v : Value} {xs : List Value} (h : w.ownsRow base e size v n xs) (g : Nat) (hg : v.ownBlock = some g) : base ≤ g := by
  rcases h.2 with ⟨rfl, _⟩ | ⟨g', cap, cur, rfl, hb, _⟩
  · simp [Value.ownBlock] at hg
  · simp [Value.ownBlock] at hg; omega
theorem own_ints {w : World} {base e n : Nat} {v : Value} {k : IntKind} {zs : List Int} (h : w.ownsRow base e 1 v n (zs.map (Value.int k))) : ∃ a c, v = .slice a n c ∧ IntsAt w w.heap.size k a n zs := by
  have hl : zs.length = n := by have := h.1; simpa using this
  rcases h.2 with ⟨rfl, rfl⟩ | ⟨g, cap, cur, rfl, hb, hh, hn, hc, hs, ht⟩
  · exact ⟨none, 0, rfl, hl, .inl rfl⟩
  · have hg : g < w.heap.size := by
      rcases Nat.lt_or_ge g w.heap.size with hlt | hge
      · exact hlt
      · rw [Array.getElem?_eq_none hge] at hh; cases hh
    refine ⟨_, cap, rfl, hl, .inr ⟨g, 0, rfl, hg, by unfold maxLen at hc; omega, fun j hj => ?_⟩⟩
    rw [Nat.zero_add, h.cellAt j (by omega)]
    simp [List.getD, hl, hj]
end Go.Proofs.YtmegkohfnodkjaaGreat

/- Words of mine for memory: rows that the call owns, what is appended onto them, bytes as a text, slices of slices. -/
namespace Go.Proofs.YtmegkohfnodkjaaGreat
open Go.RowKit
set_option linter.unusedVariables false

theorem IntsAt.grow {w : World} {B B' len : Nat} {k : IntKind} {a : Option Addr} {zs : List Int} (h : IntsAt w B k a len zs) (hB : B ≤ B') : IntsAt w B' k a len zs := by
  obtain ⟨h1, h2⟩ := h
  refine ⟨h1, ?_⟩
  rcases h2 with h2 | ⟨b, off, e, h3, h4, h5⟩
  · exact .inl h2
  · exact .inr ⟨b, off, e, by omega, h4, h5⟩
theorem IntsAt.now {w w' : World} {B len : Nat} {k : IntKind} {a : Option Addr} {zs : List Int} (h : IntsAt w B k a len zs) (hb : Below B w w') (hB : B ≤ w.heap.size) : IntsAt w' w'.heap.size k a len zs :=
  (h.below hb).grow (Nat.le_trans hB hb.size)
theorem own_ints' {w : World} {base e n c : Nat} {a : Option Addr} {k : IntKind} {zs : List Int} (h : w.ownsRow base e 1 (.slice a n c) n (zs.map (Value.int k))) : IntsAt w w.heap.size k a n zs := by
  obtain ⟨a', c', e1, h2⟩ := own_ints h
  obtain rfl : a = a' := by injection e1
  exact h2
/-- The cells that an append looks for at its source. -/
theorem IntsAt.src {w w' : World} {B len : Nat} {k : IntKind} {ad : Addr} {zs : List Int} (h : IntsAt w B k (some ad) len zs) (hb : Below B w w') :
    ∀ j u, (zs.map (Value.int k))[j]? = some u → w'.cell? (ad.add j) = some u := by
  intro j u hj
  have hl := h.1
  rw [List.getElem?_map] at hj
  obtain ⟨x, hx, rfl⟩ := Option.map_eq_some_iff.1 hj
  have hjl : j < len := by
    have := (List.getElem?_eq_some_iff.1 hx).1
    omega
  obtain ⟨b', off', e, hbB, _, hc⟩ := h.2.resolve_left (by omega)
  obtain rfl : ad = ⟨b', off', none⟩ := by injection e
  have e2 : (⟨b', off', none⟩ : Addr).add j = ⟨b', off' + j, none⟩ := by unfold Addr.add; split <;> simp_all
  rw [e2, hb.cell (p := ⟨b', off' + j, none⟩) hbB, hc j hjl]
  simp [List.getD, hx]
/-- What a value looks like that owns a row: a slice of that length. -/
theorem own_form {w : World} {base e n : Nat} {v : Value} {k : IntKind} {zs : List Int} (h : w.ownsRow base e 1 v n (zs.map (Value.int k))) : ∃ a c, v = .slice a n c := by
  obtain ⟨a, c, e1, _⟩ := own_ints h
  exact ⟨a, c, e1⟩
theorem own_lt {w : World} {base e size n : Nat} {v : Value} {xs : List Value} (h : w.ownsRow base e size v n xs) (g : Nat) (hg : v.ownBlock = some g) : g < w.heap.size := by
  rcases h.2 with ⟨rfl, _⟩ | ⟨g', cap, cur, rfl, hb, hh, _⟩
  · simp [Value.ownBlock] at hg
  · simp [Value.ownBlock] at hg
    subst hg
    rcases Nat.lt_or_ge g' w.heap.size with hlt | hge
    · exact hlt
    · rw [Array.getElem?_eq_none hge] at hh; cases hh
/-- append(s, x...) where s is a row of the call's own, and x any slice of numbers, nil too. -/
theorem append_ints {P : Program} {w : World} {ops : Array Oper} {rest : List Oper} {o : Oper} {a : Act} {Q : Exit → Act → World → Prop} (hgd : o.guard = none) (s x : Operand) (t : TypeId)
    (ho : o.op = .call { callee := .builtin .append, args := #[s, x], argTypes := #[t, t] })
    (base : Nat) (e : TypeId) (k : IntKind) (by' : Nat) (ht : P.underlying t = some (.slice e)) (hi : (P.info? e).map (fun i => (i.zero, i.size, i.bytes)) = some (some (.int k 0), 1, by'))
    (v : Value) (n : Nat) (zs : List Int) (hs : a.eval s = v) (hown : w.ownsRow base e 1 v n (zs.map (Value.int k)))
    (A : Option Addr) (m c B : Nat) (ys : List Int) (hx : a.eval x = .slice A m c) (hsrc : IntsAt w B k A m ys) (hnone : A = none → c = 0)
    (h63 : n + m ≤ maxLen) (hbytes : (n + m) * by' ≤ 140737488355328) (hbase : base ≤ w.heap.size)
    (h : ∀ v' w', w'.ownsRow base e 1 v' (n + m) ((zs ++ ys).map (Value.int k)) → w.grownBy w' v.ownBlock → (v'.ownBlock = v.ownBlock ∨ v'.ownBlock = some w.heap.size) → wpList P ops Q rest (a.put o.dst v') w') :
    wpList P ops Q (o :: rest) a w := by
  obtain ⟨i, h1, h2, h3, h4⟩ := info_parts hi
  cases A with
  | none =>
    have hm : m = 0 := by
      rcases hsrc.2 with h0 | ⟨b, off, e', _⟩
      · exact h0
      · cases e'
    subst hm
    have hy : ys = [] := List.eq_nil_of_length_eq_zero hsrc.1
    subst hy
    obtain rfl := hnone rfl
    refine wpList_append_own_none hgd s x t ho base e i 1 ht h1 v n _ hs hown hx (h v w ?_ (World.grownBy.refl w _) (.inl rfl))
    simpa using hown
  | some ad =>
    refine wpList_append_own_at w hgd s x t ho base e i (.int k 0) 1 by' ht h1 h2 h3 h4 rfl (by decide) v n _ hs hown ad m c (ys.map (Value.int k)) hx (by simp [hsrc.1]) (hsrc.src (Below.refl _ _)) (ints_oneCell _ _) h63 hbytes hbase ?_
    intro v' w' g1 g2 _ g4
    exact h v' w' (by simpa using g1) g2 g4

/-- A new row of numbers, whatever mark it bears. -/
theorem lit_ints (w : World) (t : TypeId) (k : IntKind) (zs : List Int) (cs : Array Value) (fr : Nat × Nat) (h : cs = (zs.map (Value.int k)).toArray) (hm : zs.length ≤ 9223372036854775807) :
    IntsAt (w.alloc (.cells cs t fr)) (w.alloc (.cells cs t fr)).heap.size k (some ⟨w.heap.size, 0, none⟩) zs.length zs := by
  refine ⟨rfl, .inr ⟨_, 0, rfl, by simp, hm, fun j hj => ?_⟩⟩
  rw [Nat.zero_add, cell_of_row _ _ j cs t fr (heap_alloc_new w _)]
  subst h
  simp [List.getD, hj]

end Go.Proofs.YtmegkohfnodkjaaGreat

/- From a reading of an argument to what the walks are told of it: slices of slices of numbers. -/
namespace Go.Proofs.YtmegkohfnodkjaaGreat
open Go.ChangeShapes Go.WideShapes Go.ChangeAt Go.RowKit Go.Deep
set_option linter.unusedVariables false

theorem addr_plain {w : World} {a : Addr} {v : Value} (h : w.cell? (a.add 0) = some v) : ∃ b off, a = ⟨b, off, none⟩ := by
  obtain ⟨b, off, spot⟩ := a
  have hs : spot = none := by simpa [Addr.add] using World.cell?_spot h
  subst hs
  exact ⟨b, off, rfl⟩

end Go.Proofs.YtmegkohfnodkjaaGreat

/- From a reading of an argument to what the walks are told of it: an array of integers, by value. -/
namespace Go.Proofs.YtmegkohfnodkjaaGreat
open Go.ChangeShapes Go.WideShapes Go.ChangeAt Go.RowKit Go.Deep
set_option linter.unusedVariables false

theorem array_in {P : Program} {H : Type} {enc : TypeId × Value → H} {w : World} {base b0 n : Nat} {held : Bool} {r : Reach} {t e : TypeId} {k : IntKind} {v : Value} {d : DataW H} {ps : List MemPlace}
    (ht : P.underlying t = some (.array n e)) (he : P.underlying e = some (.int k)) (ce : P.cellsOf e = 1) (ct : P.cellsOf t = n)
    (hval : Value.okWide P w r b0 t v) (hd : DataW.Trod enc P w base (fun _ => true) held t v d ps) :
    ∃ xs : List Int, v = .agg (xs.map (Value.int k)).toArray ∧ xs.length = n ∧ ∀ x ∈ xs, (Lit.int k x).wf = true := by
  simp only [Value.okWide, ht] at hval
  obtain ⟨cs, rfl, hs, _⟩ := hval
  obtain ⟨fuel, hf⟩ := hd
  obtain ⟨ys, m, _, _, hl, _, hi⟩ := DataW.trod_array ht hf
  simp only [Value.cells] at hl hi
  rw [ct] at hl hs
  have hcs : ∀ i : Nat, ∃ x : Int, i < n → cs[i]? = some (Value.int k x) ∧ (Lit.int k x).wf = true := by
    intro i
    by_cases h : i < n
    · have h1 := hi i h
      rw [ce, Nat.mul_one] at h1
      have hc : (cs.toList.drop i).take 1 = [cs[i]'(by omega)] := by
        apply List.ext_getElem?
        intro j
        cases j with
        | zero => simp [List.getElem?_drop, show i < cs.size by omega]
        | succ j => simp [List.getElem?_take]
      rw [hc] at h1
      cases hy : ys[i]? with
      | none =>
        rename_i hlen _
        have := List.getElem?_eq_none_iff.1 hy
        omega
      | some y =>
        rw [hy] at h1
        obtain ⟨x, hx, _, hw⟩ := DataW.trod_int he h1
        refine ⟨x, fun _ => ⟨?_, hw⟩⟩
        simp only [List.cons.injEq, and_true] at hx
        rw [Array.getElem?_eq_getElem (by omega), hx]
    · exact ⟨0, fun c => absurd c h⟩
  refine ⟨(List.range n).map fun i => Classical.choose (hcs i), ?_, by simp, ?_⟩
  · congr 1
    apply Array.ext_getElem?
    intro i
    by_cases h : i < n
    · rw [(Classical.choose_spec (hcs i) h).1]
      simp [h]
    · rw [Array.getElem?_eq_none (by omega)]
      simp [h]
  · intro x hx
    obtain ⟨i, hi2, rfl⟩ := List.mem_map.1 hx
    exact (Classical.choose_spec (hcs i) (by simpa using hi2)).2
end Go.Proofs.YtmegkohfnodkjaaGreat

/- Words of mine for memory: a slice of bools that came in. -/
namespace Go.Proofs.YtmegkohfnodkjaaGreat
open Go.RowKit
set_option linter.unusedVariables false

/-- What is known of a slice of bools: it is empty, or it leads to its bools, which lie below block B. -/
def BoolsAt (w : World) (B : Nat) (a : Option Addr) (len : Nat) (bs : Nat → Bool) : Prop :=
  len ≤ 9223372036854775807 ∧ (len = 0 ∨ ∃ b off, a = some ⟨b, off, none⟩ ∧ b < B ∧ ∀ j, j < len → w.cell? ⟨b, off + j, none⟩ = some (.bool (bs j)))
theorem BoolsAt.below {w w' : World} {B len : Nat} {a : Option Addr} {bs : Nat → Bool} (h : BoolsAt w B a len bs) (hb : Below B w w') : BoolsAt w' B a len bs := by
  obtain ⟨h1, h2⟩ := h
  refine ⟨h1, ?_⟩
  rcases h2 with h2 | ⟨b, off, e, h3, h5⟩
  · exact .inl h2
  · exact .inr ⟨b, off, e, h3, fun j hj => (hb.cell (p := ⟨b, off + j, none⟩) h3).trans (h5 j hj)⟩
theorem BoolsAt.at_ {w : World} {B len : Nat} {a : Option Addr} {bs : Nat → Bool} (h : BoolsAt w B a len bs) {j : Nat} (hj : j < len) :
    ∃ b off, a = some ⟨b, off, none⟩ ∧ b < B ∧ ∀ j, j < len → w.cell? ⟨b, off + j, none⟩ = some (.bool (bs j)) := by
  rcases h.2 with h | h
  · omega
  · exact h
end Go.Proofs.YtmegkohfnodkjaaGreat

/- From a reading of an argument to what the walks are told of it: a slice of bools. -/
namespace Go.Proofs.YtmegkohfnodkjaaGreat
open Go.ChangeShapes Go.WideShapes Go.ChangeAt Go.RowKit Go.Deep
set_option linter.unusedVariables false

theorem bools_in {P : Program} {H : Type} {enc : TypeId × Value → H} {w : World} {base : Nat} {held : Bool} {t e : TypeId} {fuel : Nat} {a : Option Addr} {len cap : Nat} {x : DataW H × List MemPlace}
    (ht : P.underlying t = some (.slice e)) (he : P.underlying e = some .bool) (ce : P.cellsOf e = 1)
    (h : DataW.trod enc P w base (fun _ => true) held fuel t (Value.slice a len cap).cells.toList = some x) : ∃ bs, BoolsAt w w.heap.size a len bs := by
  rcases open_bools ht he ce h with ⟨hcs, _⟩ | ⟨a', len', cap', bs, hcs, _, hl, hm, _, hr⟩
  · simp [Value.cells] at hcs
    obtain ⟨rfl, rfl, rfl⟩ := hcs
    exact ⟨fun _ => false, by omega, .inl rfl⟩
  · simp [Value.cells] at hcs
    obtain ⟨rfl, rfl, rfl⟩ := hcs
    unfold maxLen at hm
    refine ⟨bs, by omega, ?_⟩
    by_cases h0 : len = 0
    · exact .inl h0
    · obtain ⟨b, off, rfl⟩ := addr_plain (hr 0 (by omega))
      refine .inr ⟨b, off, rfl, ?_, fun r hrl => ?_⟩
      · have := hr 0 (by omega)
        rw [Go.WideShapes.add_plain] at this
        exact cell_block this
      · have := hr r (by omega)
        rw [Go.WideShapes.add_plain] at this
        exact this
theorem wf9_i16 {zs : List Int} (h : ∀ n ∈ zs, (Lit.int .i16 n).wf = true) (j : Nat) : -32768 ≤ zs.getD j 0 ∧ zs.getD j 0 ≤ 32767 := by
  by_cases hj : j < zs.length
  · have := bounds_i16 (h (zs[j]) (List.getElem_mem hj))
    simpa [List.getD, hj] using this
  · simp [List.getD, hj]
end Go.Proofs.YtmegkohfnodkjaaGreat
