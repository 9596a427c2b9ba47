/- Plain facts, and what functions give, for the proofs of this seat: several texts in one, each with its own first remark. -/
import Derived.WalkKit
import Derived.WalkLawsBesides
import Derived.Handy
import Derived.Lib.Hide
import Derived.OpenShut
import Derived.OwnWalk
import Derived.Laws.OwnMore
import Derived.Laws.AppendOwnNone
import Derived.Laws.BytesString
import Derived.Maps.AppendAt
import Derived.Deep.AppendLies
import Derived.ProofKit
import Derived.ShutString
import Derived.ChangeOld
import Derived.Below
import Derived.Deep.Matrix
import Derived.Deep.Slices
import Derived.RangeFuncNested
import Derived.RangeFuncBound
import Derived.RangeFuncCalls
import Derived.RangeFuncLeaves
import Derived.RangeFuncBox

namespace Go.Proofs.YtmgfkdmjgjlkjaaGreat
open Go.RowKit
set_option linter.unusedVariables false
theorem ret_int {k : IntKind} {a b : Int} (h : a = b) : Ending.returned (.int k a) = .returned (.int k b) := by rw [h]
theorem ret_bool {a b : Bool} (h : a = b) : Ending.returned (.bool a) = .returned (.bool b) := by rw [h]
def IRow (w : World) (g : Nat) (t : TypeId) (k : IntKind) (zs : List Int) : Prop := w.heap[g]? = some (.cells (zs.map (Value.int k)).toArray t (0, 0))
section
variable {w w' : World} {g : Nat} {t : TypeId} {k : IntKind} {zs : List Int}
theorem IRow.lt (h : IRow w g t k zs) : g < w.heap.size := by
  rcases Nat.lt_or_ge g w.heap.size with hlt | hge
  · exact hlt
  · unfold IRow at h; rw [Array.getElem?_eq_none hge] at h; cases h
theorem IRow.cell (h : IRow w g t k zs) {j : Nat} (hj : j < zs.length) : w.cell? ⟨g, j, none⟩ = some (.int k (zs.getD j 0)) := by
  rw [cell_of_row w g j _ t (0, 0) h]
  simp [List.getD, hj]
theorem IRow.frozen (h : IRow w g t k zs) (j : Nat) : w.frozen? ⟨g, j, none⟩ = false := by
  unfold IRow at h
  simp [World.frozen?, h]
theorem IRow.alloc (h : IRow w g t k zs) (o : Obj) : IRow (w.alloc o) g t k zs := (Below.heap_alloc w o g h.lt).trans h
theorem IRow.far (h : IRow w g t k zs) {p : Addr} (hp : g ≠ p.block) (u : Value) : IRow (w.setCell p u) g t k zs := (Below.heap_setCell w p u g hp).trans h
theorem IRow.below {B : Nat} (h : IRow w g t k zs) (hb : Below B w w') (hg : g < B) : IRow w' g t k zs := (hb.block g hg).trans h
theorem IRow.drew (h : IRow w g t k zs) : IRow w.drew g t k zs := h
theorem IRow.set (h : IRow w g t k zs) (j : Nat) (x : Int) : IRow (w.setCell ⟨g, j, none⟩ (.int k x)) g t k (zs.set j x) := by
  unfold IRow at h ⊢
  simp only [World.setCell, Array.getElem?_modify, if_true]
  rw [h]
  simp [List.map_set]
theorem IRow.zeros (w : World) (t : TypeId) (k : IntKind) (n : Nat) : IRow (w.alloc (.cells (madeCells #[.int k 0] n) t)) w.heap.size t k (List.replicate n 0) := by
  unfold IRow
  rw [heap_alloc_new]
  have e : madeCells #[Value.int k 0] n = (List.map (Value.int k) (List.replicate n 0)).toArray := by
    apply Array.ext'
    rw [toList_madeCells_one]
    simp
  rw [e]
end
theorem make_zeros {P : Program} {t e : TypeId} {k : IntKind} {b : Nat} (ht : P.underlying t = some (.slice e)) (hi : (P.info? e).map (fun i => (i.zero, i.size, i.bytes)) = some (some (.int k 0), 1, b))
    (n : Nat) (hb : b * n ≤ 281474976710656) (hn : n ≤ 9223372036854775807) (w : World) :
    (Instr.makeSlice t (.int .i64 (n : Int)) (.int .i64 (n : Int))).run P w = .ok (.slice (some ⟨w.heap.size, 0, none⟩) n n) (w.alloc (.cells (madeCells #[.int k 0] n) e)) := by
  obtain ⟨i, h1, h2, h3, h4⟩ := info_parts hi
  have hb' : (i.bytes : Int) * (n : Int) ≤ 281474976710656 := by
    have h : ((i.bytes * n : Nat) : Int) ≤ 281474976710656 := by rw [h4]; omega
    rwa [Int.natCast_mul] at h
  have hr := run_make (P := P) w t e i (.int k 0) ht h1 h2 .i64 .i64 n n (by omega) (Int.le_refl _) hb' (by omega)
  rw [hr, h3]
  simp [Value.cells]
theorem chain {a b c : World} (h : Below a.heap.size a b) (k : Below b.heap.size b c) : Below a.heap.size a c := h.trans (k.mono h.size)
theorem Below.alloc_new (w : World) (o : Obj) : Below w.heap.size w (w.alloc o) := (Below.refl _ _).alloc (Nat.le_refl _) o
def IntsAt (w : World) (B : Nat) (k : IntKind) (a : Option Addr) (len : Nat) (zs : List Int) : Prop :=
  zs.length = len ∧ (len = 0 ∨ ∃ b off, a = some ⟨b, off, none⟩ ∧ b < B ∧ len ≤ 9223372036854775807 ∧ ∀ j, j < len → w.cell? ⟨b, off + j, none⟩ = some (.int k (zs.getD j 0)))
theorem IntsAt.below {w w' : World} {B len : Nat} {k : IntKind} {a : Option Addr} {zs : List Int} (h : IntsAt w B k a len zs) (hb : Below B w w') : IntsAt w' B k a len zs := by
  obtain ⟨h1, h2⟩ := h
  refine ⟨h1, ?_⟩
  rcases h2 with h2 | ⟨b, off, e, h3, h4, h5⟩
  · exact .inl h2
  · exact .inr ⟨b, off, e, h3, h4, fun j hj => (hb.cell (p := ⟨b, off + j, none⟩) h3).trans (h5 j hj)⟩
theorem Below.drewN' {B : Nat} {a w : World} (h : Below B a w) (n : Nat) : Below B a (w.drewN n) := ⟨h.os, h.tape, h.output, h.size, h.block⟩
theorem IRow.drewN {w : World} {g : Nat} {t : TypeId} {k : IntKind} {zs : List Int} (h : IRow w g t k zs) (n : Nat) : IRow (w.drewN n) g t k zs := h
theorem cell_block {w : World} {p : Addr} {v : Value} (h : w.cell? p = some v) : p.block < w.heap.size := by
  rcases Nat.lt_or_ge p.block w.heap.size with hlt | hge
  · exact hlt
  · unfold World.cell? at h
    rw [Array.getElem?_eq_none hge] at h
    simp at h
theorem IntsAt.at_ {w : World} {B len : Nat} {k : IntKind} {a : Option Addr} {zs : List Int} (h : IntsAt w B k a len zs) {j : Nat} (hj : j < len) :
    ∃ b off, a = some ⟨b, off, none⟩ ∧ b < B ∧ len ≤ 9223372036854775807 ∧ w.cell? ⟨b, off + j, none⟩ = some (.int k (zs.getD j 0)) := by
  rcases h.2 with h | ⟨b, off, e, h1, h2, h3⟩
  · omega
  · exact ⟨b, off, e, h1, h2, h3 j hj⟩
theorem own_base {w : World} {base e size n : Nat} {v : Value} {xs : List Value} (h : w.ownsRow base e size v n xs) (g : Nat) (hg : v.ownBlock = some g) : base ≤ g := by
  rcases h.2 with ⟨rfl, _⟩ | ⟨g', cap, cur, rfl, hb, _⟩
  · simp [Value.ownBlock] at hg
  · simp [Value.ownBlock] at hg; omega
theorem own_ints {w : World} {base e n : Nat} {v : Value} {k : IntKind} {zs : List Int} (h : w.ownsRow base e 1 v n (zs.map (Value.int k))) : ∃ a c, v = .slice a n c ∧ IntsAt w w.heap.size k a n zs := by
  have hl : zs.length = n := by have := h.1; simpa using this
  rcases h.2 with ⟨rfl, rfl⟩ | ⟨g, cap, cur, rfl, hb, hh, hn, hc, hs, ht⟩
  · exact ⟨none, 0, rfl, hl, .inl rfl⟩
  · have hg : g < w.heap.size := by
      rcases Nat.lt_or_ge g w.heap.size with hlt | hge
      · exact hlt
      · rw [Array.getElem?_eq_none hge] at hh; cases hh
    refine ⟨_, cap, rfl, hl, .inr ⟨g, 0, rfl, hg, by unfold maxLen at hc; omega, fun j hj => ?_⟩⟩
    rw [Nat.zero_add, h.cellAt j (by omega)]
    simp [List.getD, hl, hj]
end Go.Proofs.YtmgfkdmjgjlkjaaGreat

namespace Go.Proofs.YtmgfkdmjgjlkjaaGreat
open Go.RowKit
set_option linter.unusedVariables false
theorem IntsAt.grow {w : World} {B B' len : Nat} {k : IntKind} {a : Option Addr} {zs : List Int} (h : IntsAt w B k a len zs) (hB : B ≤ B') : IntsAt w B' k a len zs := by
  obtain ⟨h1, h2⟩ := h
  refine ⟨h1, ?_⟩
  rcases h2 with h2 | ⟨b, off, e, h3, h4, h5⟩
  · exact .inl h2
  · exact .inr ⟨b, off, e, by omega, h4, h5⟩
theorem IntsAt.now {w w' : World} {B len : Nat} {k : IntKind} {a : Option Addr} {zs : List Int} (h : IntsAt w B k a len zs) (hb : Below B w w') (hB : B ≤ w.heap.size) : IntsAt w' w'.heap.size k a len zs :=
  (h.below hb).grow (Nat.le_trans hB hb.size)
theorem own_ints' {w : World} {base e n c : Nat} {a : Option Addr} {k : IntKind} {zs : List Int} (h : w.ownsRow base e 1 (.slice a n c) n (zs.map (Value.int k))) : IntsAt w w.heap.size k a n zs := by
  obtain ⟨a', c', e1, h2⟩ := own_ints h
  obtain rfl : a = a' := by injection e1
  exact h2
theorem IntsAt.src {w w' : World} {B len : Nat} {k : IntKind} {ad : Addr} {zs : List Int} (h : IntsAt w B k (some ad) len zs) (hb : Below B w w') :
    ∀ j u, (zs.map (Value.int k))[j]? = some u → w'.cell? (ad.add j) = some u := by
  intro j u hj
  have hl := h.1
  rw [List.getElem?_map] at hj
  obtain ⟨x, hx, rfl⟩ := Option.map_eq_some_iff.1 hj
  have hjl : j < len := by
    have := (List.getElem?_eq_some_iff.1 hx).1
    omega
  obtain ⟨b', off', e, hbB, _, hc⟩ := h.2.resolve_left (by omega)
  obtain rfl : ad = ⟨b', off', none⟩ := by injection e
  have e2 : (⟨b', off', none⟩ : Addr).add j = ⟨b', off' + j, none⟩ := by unfold Addr.add; split <;> simp_all
  rw [e2, hb.cell (p := ⟨b', off' + j, none⟩) hbB, hc j hjl]
  simp [List.getD, hx]
theorem own_form {w : World} {base e n : Nat} {v : Value} {k : IntKind} {zs : List Int} (h : w.ownsRow base e 1 v n (zs.map (Value.int k))) : ∃ a c, v = .slice a n c := by
  obtain ⟨a, c, e1, _⟩ := own_ints h
  exact ⟨a, c, e1⟩
theorem own_lt {w : World} {base e size n : Nat} {v : Value} {xs : List Value} (h : w.ownsRow base e size v n xs) (g : Nat) (hg : v.ownBlock = some g) : g < w.heap.size := by
  rcases h.2 with ⟨rfl, _⟩ | ⟨g', cap, cur, rfl, hb, hh, _⟩
  · simp [Value.ownBlock] at hg
  · simp [Value.ownBlock] at hg
    subst hg
    rcases Nat.lt_or_ge g' w.heap.size with hlt | hge
    · exact hlt
    · rw [Array.getElem?_eq_none hge] at hh; cases hh
theorem append_ints {P : Program} {w : World} {ops : Array Oper} {rest : List Oper} {o : Oper} {a : Act} {Q : Exit → Act → World → Prop} (hgd : o.guard = none) (s x : Operand) (t : TypeId)
    (ho : o.op = .call { callee := .builtin .append, args := #[s, x], argTypes := #[t, t] })
    (base : Nat) (e : TypeId) (k : IntKind) (by' : Nat) (ht : P.underlying t = some (.slice e)) (hi : (P.info? e).map (fun i => (i.zero, i.size, i.bytes)) = some (some (.int k 0), 1, by'))
    (v : Value) (n : Nat) (zs : List Int) (hs : a.eval s = v) (hown : w.ownsRow base e 1 v n (zs.map (Value.int k)))
    (A : Option Addr) (m c B : Nat) (ys : List Int) (hx : a.eval x = .slice A m c) (hsrc : IntsAt w B k A m ys) (hnone : A = none → c = 0)
    (h63 : n + m ≤ maxLen) (hbytes : (n + m) * by' ≤ 140737488355328) (hbase : base ≤ w.heap.size)
    (h : ∀ v' w', w'.ownsRow base e 1 v' (n + m) ((zs ++ ys).map (Value.int k)) → w.grownBy w' v.ownBlock → (v'.ownBlock = v.ownBlock ∨ v'.ownBlock = some w.heap.size) → wpList P ops Q rest (a.put o.dst v') w') :
    wpList P ops Q (o :: rest) a w := by
  obtain ⟨i, h1, h2, h3, h4⟩ := info_parts hi
  cases A with
  | none =>
    have hm : m = 0 := by
      rcases hsrc.2 with h0 | ⟨b, off, e', _⟩
      · exact h0
      · cases e'
    subst hm
    have hy : ys = [] := List.eq_nil_of_length_eq_zero hsrc.1
    subst hy
    obtain rfl := hnone rfl
    refine wpList_append_own_none hgd s x t ho base e i 1 ht h1 v n _ hs hown hx (h v w ?_ (World.grownBy.refl w _) (.inl rfl))
    simpa using hown
  | some ad =>
    refine wpList_append_own_at w hgd s x t ho base e i (.int k 0) 1 by' ht h1 h2 h3 h4 rfl (by decide) v n _ hs hown ad m c (ys.map (Value.int k)) hx (by simp [hsrc.1]) (hsrc.src (Below.refl _ _)) (ints_oneCell _ _) h63 hbytes hbase ?_
    intro v' w' g1 g2 _ g4
    exact h v' w' (by simpa using g1) g2 g4
theorem lit_ints (w : World) (t : TypeId) (k : IntKind) (zs : List Int) (cs : Array Value) (fr : Nat × Nat) (h : cs = (zs.map (Value.int k)).toArray) (hm : zs.length ≤ 9223372036854775807) :
    IntsAt (w.alloc (.cells cs t fr)) (w.alloc (.cells cs t fr)).heap.size k (some ⟨w.heap.size, 0, none⟩) zs.length zs := by
  refine ⟨rfl, .inr ⟨_, 0, rfl, by simp, hm, fun j hj => ?_⟩⟩
  rw [Nat.zero_add, cell_of_row _ _ j cs t fr (heap_alloc_new w _)]
  subst h
  simp [List.getD, hj]
end Go.Proofs.YtmgfkdmjgjlkjaaGreat

namespace Go.Proofs.YtmgfkdmjgjlkjaaGreat
open Go.ChangeShapes Go.WideShapes Go.ChangeAt Go.RowKit Go.Deep
set_option linter.unusedVariables false
theorem addr_plain {w : World} {a : Addr} {v : Value} (h : w.cell? (a.add 0) = some v) : ∃ b off, a = ⟨b, off, none⟩ := by
  obtain ⟨b, off, spot⟩ := a
  have hs : spot = none := by simpa [Addr.add] using World.cell?_spot h
  subst hs
  exact ⟨b, off, rfl⟩
end Go.Proofs.YtmgfkdmjgjlkjaaGreat

namespace Go.Proofs.YtmgfkdmjgjlkjaaGreat
open Go.ChangeShapes Go.WideShapes Go.ChangeAt Go.RowKit Go.Deep
set_option linter.unusedVariables false
inductive PT where
  | int (k : IntKind)
  | bool
  | str
  | ints (k : IntKind)
def RowIn (w : World) (k : IntKind) (v : Value) : Prop := ∃ (a : Option Addr) (len cap : Nat) (zs : List Int), v = .slice a len cap ∧ len ≤ cap ∧ cap ≤ 9223372036854775807 ∧ (a = none → len = 0 ∧ cap = 0) ∧ IntsAt w w.heap.size k a len zs ∧ ∀ n ∈ zs, (Lit.int k n).wf = true
def PT.ok (w : World) : PT → Value → Prop
  | .int k, v => ∃ n, v = .int k n ∧ (Lit.int k n).wf = true
  | .bool, v => ∃ b, v = .bool b
  | .str, v => ∃ s : ByteArray, v = .string s ∧ s.size ≤ maxLen
  | .ints k, v => RowIn w k v
def OkAllT (w : World) (ks : List PT) (cs : List Value) : Prop := cs.length = ks.length ∧ ∀ (j : Nat) (k : PT), ks[j]? = some k → ∃ v, cs[j]? = some v ∧ PT.ok w k v
theorem OkAllT.nil (w : World) : OkAllT w [] [] := ⟨rfl, fun j k h => by simp at h⟩
theorem OkAllT.append {w : World} {a b : List PT} {c d : List Value} (h : OkAllT w a c) (k : OkAllT w b d) : OkAllT w (a ++ b) (c ++ d) := by
  refine ⟨by simp [h.1, k.1], fun j q hq => ?_⟩
  rw [List.getElem?_append] at hq ⊢
  rw [h.1]
  split at hq
  · rw [if_pos (by assumption)]; exact h.2 j q hq
  · rw [if_neg (by assumption)]; exact k.2 _ q hq
mutual
def flatKT (P : Program) : Nat → TypeId → Option (List PT)
  | 0, _ => none
  | n + 1, t => match P.underlying t with
    | some (.int k) => some [.int k]
    | some .bool => some [.bool]
    | some .string => some [.str]
    | some (.slice q) => match P.underlying q with
      | some (.int k) => if P.cellsOf q = 1 then some [.ints k] else none
      | _ => none
    | some (.struct fs) => (flatFT P n 0 fs.toList).bind fun ks => if ks.length = P.cellsOf t then some ks else none
    | _ => none
def flatFT (P : Program) : Nat → Nat → List Field → Option (List PT)
  | _, _, [] => some []
  | 0, _, _ :: _ => none
  | n + 1, off, f :: fs => if f.offset = off then
      (flatKT P n f.type).bind fun a => if a.length = P.cellsOf f.type then (flatFT P n (off + a.length) fs).map fun b => a ++ b else none
    else none
end
section
variable {H : Type} {enc : TypeId × Value → H} {P : Program} {w : World} {base : Nat} {spare : Nat → Bool} {held : Bool}
theorem ints_part {t q : TypeId} {k : IntKind} {fuel : Nat} {cs : List Value} {x : DataW H × List MemPlace} (ht : P.underlying t = some (.slice q)) (hq : P.underlying q = some (.int k)) (cq : P.cellsOf q = 1)
    (h : DataW.trod enc P w base spare held fuel t cs = some x) : ∃ v, cs = [v] ∧ RowIn w k v := by
  rcases open_slice1 ht cq h with ⟨rfl, _⟩ | ⟨a, len, cap, m, n, V, D, Pl, rfl, _, hl, hm, hmm, _, hi⟩
  · exact ⟨_, rfl, none, 0, 0, [], rfl, by omega, by omega, fun _ => ⟨rfl, rfl⟩, ⟨rfl, .inl rfl⟩, fun n hn => by cases hn⟩
  · unfold maxLen at hm
    have hlm : len ≤ m := by rw [hmm]; split <;> omega
    have hz : ∀ i : Nat, ∃ z : Int, i < len → w.cell? (a.add i) = some (.int k z) ∧ (Lit.int k z).wf = true := by
      intro i
      by_cases h1 : i < len
      · obtain ⟨h2, h3⟩ := hi i (by omega)
        obtain ⟨z, hz, _, hw⟩ := DataW.trod_int hq h3
        simp only [List.cons.injEq, and_true] at hz
        exact ⟨z, fun _ => ⟨by rw [h2, hz], hw⟩⟩
      · exact ⟨0, fun c => absurd c h1⟩
    obtain ⟨Z, hZ⟩ : ∃ Z : Nat → Int, ∀ i, i < len → w.cell? (a.add i) = some (.int k (Z i)) ∧ (Lit.int k (Z i)).wf = true := ⟨fun i => Classical.choose (hz i), fun i => Classical.choose_spec (hz i)⟩
    refine ⟨_, rfl, some a, len, cap, (List.range len).map Z, rfl, hl, hm, fun e => (by cases e), ⟨by simp, ?_⟩, fun n hn => ?_⟩
    · by_cases h0 : len = 0
      · exact .inl h0
      · obtain ⟨b, off, rfl⟩ := addr_plain (hZ 0 (by omega)).1
        refine .inr ⟨b, off, rfl, ?_, by omega, fun j hj => ?_⟩
        · have := (hZ 0 (by omega)).1
          rw [Go.WideShapes.add_plain] at this
          exact cell_block this
        · have := (hZ j hj).1
          rw [Go.WideShapes.add_plain] at this
          rw [this]
          simp [List.getD, hj]
    · obtain ⟨i, hi2, rfl⟩ := List.mem_map.1 hn
      exact (hZ i (by simpa using hi2)).2
theorem flatT_both (n : Nat) : (∀ t ks fuel cs x, flatKT P n t = some ks → DataW.trod enc P w base spare held fuel t cs = some x → OkAllT w ks cs) ∧
    (∀ off fs ks m (cs : List Value) (xs : List (DataW H × List MemPlace)), flatFT P n off fs = some ks → off + ks.length ≤ cs.length → xs.length = fs.length →
      (∀ (i : Nat) (f : Field), fs[i]? = some f → DataW.trod enc P w base spare held m f.type ((cs.drop f.offset).take (P.cellsOf f.type)) = xs[i]?) → OkAllT w ks ((cs.drop off).take ks.length)) := by
  induction n with
  | zero =>
    refine ⟨fun t ks fuel cs x h => by simp [flatKT] at h, fun off fs ks m cs xs h hl hx hf => ?_⟩
    cases fs with
    | nil => simp [flatFT] at h; subst h; simpa using OkAllT.nil _
    | cons f fs => simp [flatFT] at h
  | succ n ih =>
    constructor
    · intro t ks fuel cs x h ht
      unfold flatKT at h
      split at h
      · next k hu =>
        obtain ⟨v, hc, _, hw⟩ := DataW.trod_int hu ht
        injection h with h; subst h; subst hc
        refine ⟨rfl, fun j q hq => ?_⟩
        match j, hq with
        | 0, hq => simp at hq; subst hq; exact ⟨_, rfl, v, rfl, hw⟩
        | j + 1, hq => simp at hq
      · next hu =>
        obtain ⟨v, hc, _⟩ := DataW.trod_bool hu ht
        injection h with h; subst h; subst hc
        refine ⟨rfl, fun j q hq => ?_⟩
        match j, hq with
        | 0, hq => simp at hq; subst hq; exact ⟨_, rfl, v, rfl⟩
        | j + 1, hq => simp at hq
      · next hu =>
        obtain ⟨v, hc, _, hw⟩ := DataW.trod_string hu ht
        injection h with h; subst h; subst hc
        refine ⟨rfl, fun j q hq => ?_⟩
        match j, hq with
        | 0, hq => simp at hq; subst hq; exact ⟨_, rfl, v, rfl, hw⟩
        | j + 1, hq => simp at hq
      · next q hu =>
        split at h
        · next k hq =>
          split at h
          · next hcq =>
            injection h with h; subst h
            obtain ⟨v, rfl, hv⟩ := ints_part hu hq hcq ht
            refine ⟨rfl, fun j q hq => ?_⟩
            match j, hq with
            | 0, hq => simp at hq; subst hq; exact ⟨_, rfl, hv⟩
            | j + 1, hq => simp at hq
          · cases h
        · cases h
      · next fs hu =>
        obtain ⟨ks', hk, h⟩ := Option.bind_eq_some_iff.1 h
        split at h
        · next hl =>
          injection h with h; subst h
          obtain ⟨xs, m, _, _, hcl, hxl, hf⟩ := DataW.trod_struct hu ht
          have := ih.2 0 fs.toList ks' m cs xs hk (by omega) (by simpa using hxl) (fun i f hi => hf i f (by simpa using hi))
          rw [List.drop_zero, List.take_of_length_le (by omega)] at this
          exact this
        · cases h
      · cases h
    · intro off fs ks m cs xs h hl hx hf
      cases fs with
      | nil => simp [flatFT] at h; subst h; simpa using OkAllT.nil _
      | cons f fs =>
        unfold flatFT at h
        split at h
        · next ho =>
          obtain ⟨a, ha, h⟩ := Option.bind_eq_some_iff.1 h
          split at h
          · next hal =>
            obtain ⟨b, hb, rfl⟩ := Option.map_eq_some_iff.1 h
            rw [List.length_append] at hl
            cases xs with
            | nil => simp at hx
            | cons x xs =>
              have h0 := hf 0 f rfl
              rw [ho, ← hal] at h0
              have g0 := ih.1 f.type a m _ x ha (by simpa using h0)
              have g1 := ih.2 (off + a.length) fs b m cs xs hb (by omega) (by simpa using hx) (fun i q hi => by simpa using hf (i + 1) q (by simpa using hi))
              have e : (cs.drop off).take (a ++ b).length = (cs.drop off).take a.length ++ (cs.drop (off + a.length)).take b.length := by
                rw [List.length_append, List.take_add, List.drop_drop]
              rw [e]
              exact g0.append g1
          · cases h
        · cases h
theorem flatT_ok {n : Nat} {t : TypeId} {ks : List PT} {fuel : Nat} {cs : List Value} {x : DataW H × List MemPlace} (h : flatKT P n t = some ks) (ht : DataW.trod enc P w base spare held fuel t cs = some x) : OkAllT w ks cs := (flatT_both n).1 t ks fuel cs x h ht
end
end Go.Proofs.YtmgfkdmjgjlkjaaGreat

namespace Go.Proofs.YtmgfkdmjgjlkjaaGreat
open Go.RowKit
set_option linter.unusedVariables false
def BoolsAt (w : World) (B : Nat) (a : Option Addr) (len : Nat) (bs : Nat → Bool) : Prop :=
  len ≤ 9223372036854775807 ∧ (len = 0 ∨ ∃ b off, a = some ⟨b, off, none⟩ ∧ b < B ∧ ∀ j, j < len → w.cell? ⟨b, off + j, none⟩ = some (.bool (bs j)))
theorem BoolsAt.below {w w' : World} {B len : Nat} {a : Option Addr} {bs : Nat → Bool} (h : BoolsAt w B a len bs) (hb : Below B w w') : BoolsAt w' B a len bs := by
  obtain ⟨h1, h2⟩ := h
  refine ⟨h1, ?_⟩
  rcases h2 with h2 | ⟨b, off, e, h3, h5⟩
  · exact .inl h2
  · exact .inr ⟨b, off, e, h3, fun j hj => (hb.cell (p := ⟨b, off + j, none⟩) h3).trans (h5 j hj)⟩
theorem BoolsAt.at_ {w : World} {B len : Nat} {a : Option Addr} {bs : Nat → Bool} (h : BoolsAt w B a len bs) {j : Nat} (hj : j < len) :
    ∃ b off, a = some ⟨b, off, none⟩ ∧ b < B ∧ ∀ j, j < len → w.cell? ⟨b, off + j, none⟩ = some (.bool (bs j)) := by
  rcases h.2 with h | h
  · omega
  · exact h
end Go.Proofs.YtmgfkdmjgjlkjaaGreat

namespace Go.Proofs.YtmgfkdmjgjlkjaaGreat
open Go.RowKit
set_option linter.unusedVariables false
structure Keeps (F : Nat → Prop) (w w' : World) : Prop where
  os : w'.os = w.os
  tape : w'.tape = w.tape
  output : w'.output = w.output
  size : w.heap.size ≤ w'.heap.size
  block : ∀ k, k < w.heap.size → ¬ F k → w'.heap[k]? = w.heap[k]?
section
variable {F G : Nat → Prop} {w w' w2 : World}
theorem Keeps.refl (F : Nat → Prop) (w : World) : Keeps F w w := ⟨rfl, rfl, rfl, Nat.le_refl _, fun _ _ _ => rfl⟩
theorem Keeps.trans (h : Keeps F w w') (k : Keeps F w' w2) : Keeps F w w2 :=
  ⟨k.os.trans h.os, k.tape.trans h.tape, k.output.trans h.output, Nat.le_trans h.size k.size, fun i hi hn => (k.block i (Nat.lt_of_lt_of_le hi h.size) hn).trans (h.block i hi hn)⟩
theorem Keeps.mono (h : Keeps F w w') (hi : ∀ k, F k → G k) : Keeps G w w' := ⟨h.os, h.tape, h.output, h.size, fun k hk hn => h.block k hk fun c => hn (hi k c)⟩
theorem Keeps.of_below (h : Below w.heap.size w w') : Keeps F w w' := ⟨h.os, h.tape, h.output, h.size, fun k hk _ => h.block k hk⟩
theorem Keeps.below {B : Nat} (h : Keeps F w w') (hB : B ≤ w.heap.size) (hi : ∀ k, F k → B ≤ k) : Below B w w' :=
  ⟨h.os, h.tape, h.output, h.size, fun k hk => h.block k (by omega) fun c => by have := hi k c; omega⟩
theorem Keeps.of_grown {row : Option Nat} (h : w.grownBy w' row) (hi : ∀ k, row = some k → F k) : Keeps F w w' :=
  ⟨h.os, h.tape, h.output, h.size, fun k hk hn => h.block k hk fun c => hn (hi k c.symm)⟩
theorem Keeps.grown {r : Nat} (h : Keeps F w w') (hg : w'.grownBy w2 (some r)) (hr : F r ∨ w.heap.size ≤ r) : Keeps F w w2 :=
  ⟨hg.os.trans h.os, hg.tape.trans h.tape, hg.output.trans h.output, Nat.le_trans h.size hg.size, fun k hk hn => (hg.block k (Nat.lt_of_lt_of_le hk h.size) (by intro c; injection c with c; subst c; rcases hr with hr | hr; exact hn hr; omega)).trans (h.block k hk hn)⟩
theorem Keeps.then_ (h : Keeps F w w') (k : Keeps G w' w2) (hg : ∀ j, G j → F j ∨ w.heap.size ≤ j) : Keeps F w w2 :=
  ⟨k.os.trans h.os, k.tape.trans h.tape, k.output.trans h.output, Nat.le_trans h.size k.size, fun i hi hn => (k.block i (Nat.lt_of_lt_of_le hi h.size) (fun c => by rcases hg i c with d | d; exact hn d; omega)).trans (h.block i hi hn)⟩
theorem Keeps.alloc (h : Keeps F w w') (o : Obj) : Keeps F w (w'.alloc o) := h.trans (.of_below (Below.alloc_new w' o))
theorem Keeps.setCell (h : Keeps F w w') {p : Addr} (hp : F p.block ∨ w.heap.size ≤ p.block) (u : Value) : Keeps F w (w'.setCell p u) :=
  ⟨h.os, h.tape, h.output, Nat.le_trans h.size (by simp [World.setCell]), fun k hk hn => (Below.heap_setCell w' p u k (by rintro rfl; rcases hp with hp | hp; exact hn hp; omega)).trans (h.block k hk hn)⟩
theorem Keeps.drewN (h : Keeps F w w') (n : Nat) : Keeps F w (w'.drewN n) := ⟨h.os, h.tape, h.output, h.size, h.block⟩
end
def Cel (w : World) (g : Nat) (t : TypeId) (cs : Array Value) : Prop := w.heap[g]? = some (.cells cs t (0, 0))
section
variable {w w' : World} {g : Nat} {t : TypeId} {cs : Array Value}
theorem Cel.lt (h : Cel w g t cs) : g < w.heap.size := by
  rcases Nat.lt_or_ge g w.heap.size with hlt | hge
  · exact hlt
  · unfold Cel at h; rw [Array.getElem?_eq_none hge] at h; cases h
theorem Cel.cell (h : Cel w g t cs) (i : Nat) : w.cell? ⟨g, i, none⟩ = cs[i]? := cell_of_row w g i cs t (0, 0) h
theorem Cel.frozen (h : Cel w g t cs) (i : Nat) : w.frozen? ⟨g, i, none⟩ = false := by
  unfold Cel at h
  simp [World.frozen?, h]
theorem Cel.new (w : World) (t : TypeId) (cs : Array Value) : Cel (w.alloc (.cells cs t)) w.heap.size t cs := heap_alloc_new w _
theorem Cel.keep (h : Cel w g t cs) (hk : w'.heap[g]? = w.heap[g]?) : Cel w' g t cs := hk.trans h
theorem Cel.below (h : Cel w g t cs) (hb : Below w.heap.size w w') : Cel w' g t cs := h.keep (hb.block g h.lt)
theorem Cel.keeps {F : Nat → Prop} (h : Cel w g t cs) (hb : Keeps F w w') (hn : ¬ F g) : Cel w' g t cs := h.keep (hb.block g h.lt hn)
theorem Cel.drewN (h : Cel w g t cs) (n : Nat) : Cel (w.drewN n) g t cs := h
theorem Cel.alloc (h : Cel w g t cs) (o : Obj) : Cel (w.alloc o) g t cs := h.below (Below.alloc_new w o)
theorem Cel.far (h : Cel w g t cs) {p : Addr} (hp : g ≠ p.block) (u : Value) : Cel (w.setCell p u) g t cs := (Below.heap_setCell w p u g hp).trans h
theorem Cel.set_ (h : Cel w g t cs) (i : Nat) (u : Value) : Cel (w.setCell ⟨g, i, none⟩ u) g t (cs.setIfInBounds i u) := by
  unfold Cel at h ⊢
  simp [World.setCell, Array.getElem?_modify, h]
end
theorem own_ne_cel {w : World} {base n g size : Nat} {e t : TypeId} {v : Value} {xs : List Value} {cs : Array Value} (h : w.ownsRow base e size v n xs) (hs : Cel w g t cs) (hne : e ≠ t) (k : Nat) (hk : v.ownBlock = some k) : k ≠ g := by
  rintro rfl
  rcases h.2 with ⟨rfl, _⟩ | ⟨g', cap, cur, rfl, _, hh, _⟩
  · simp [Value.ownBlock] at hk
  · simp [Value.ownBlock] at hk
    subst hk
    unfold Cel at hs
    rw [hs] at hh
    injection hh with hh
    injection hh with _ ht
    exact hne ht.symm
theorem own_far {w : World} {base n size : Nat} {e : TypeId} {v : Value} {xs : List Value} (h : w.ownsRow base e size v n xs) {p : Addr} (hp : ∀ k, v.ownBlock = some k → k ≠ p.block) (u : Value) : (w.setCell p u).ownsRow base e size v n xs := by
  refine ⟨h.1, ?_⟩
  rcases h.2 with h0 | ⟨g, cap, cur, h1, h2, h3, h4⟩
  · exact .inl h0
  · exact .inr ⟨g, cap, cur, h1, h2, (Below.heap_setCell w p u g (hp g (by rw [h1]; rfl))).trans h3, h4⟩
theorem own_keeps {w w' : World} {base n size : Nat} {e : TypeId} {v : Value} {xs : List Value} {F : Nat → Prop} (h : w.ownsRow base e size v n xs) (hk : Keeps F w w') (hn : ∀ k, v.ownBlock = some k → ¬ F k) : w'.ownsRow base e size v n xs := by
  refine ⟨h.1, ?_⟩
  rcases h.2 with h0 | ⟨g, cap, cur, h1, h2, h3, h4⟩
  · exact .inl h0
  · have hl := own_lt h g (by rw [h1]; rfl)
    exact .inr ⟨g, cap, cur, h1, h2, (hk.block g hl (hn g (by rw [h1]; rfl))).trans h3, h4⟩
theorem own_drewN {w : World} {base n size : Nat} {e : TypeId} {v : Value} {xs : List Value} (h : w.ownsRow base e size v n xs) (i : Nat) : (w.drewN i).ownsRow base e size v n xs := h
end Go.Proofs.YtmgfkdmjgjlkjaaGreat

namespace Go.Proofs.YtmgfkdmjgjlkjaaGreat
open Go.RowKit
set_option linter.unusedVariables false
set_option linter.unusedSimpArgs false
theorem own_form_m {w : World} {base e n : Nat} {v : Value} {k : IntKind} {zs : List Int} (h : w.ownsRow base e 1 v n (zs.map (Value.int k))) : ∃ a m c, v = .slice a m c ∧ m = zs.length := by
  obtain ⟨a, c, e1, h2⟩ := own_ints h
  exact ⟨a, n, c, e1, h2.1.symm⟩
theorem own_ints_m {w : World} {base e n m c : Nat} {a : Option Addr} {k : IntKind} {zs : List Int} (h : w.ownsRow base e 1 (.slice a m c) n (zs.map (Value.int k))) : IntsAt w w.heap.size k a m zs := by
  obtain ⟨a', c', e1, h2⟩ := own_ints h
  injection e1 with e1 e2 e3
  subst e1
  subst e2
  exact h2
theorem own_lower {w : World} {b1 b2 e size n : Nat} {v : Value} {xs : List Value} (h : w.ownsRow b1 e size v n xs) (hb : b2 ≤ b1) : w.ownsRow b2 e size v n xs := by
  refine ⟨h.1, ?_⟩
  rcases h.2 with h | ⟨g, cap, cur, e1, e2, e3⟩
  · exact .inl h
  · exact .inr ⟨g, cap, cur, e1, Nat.le_trans hb e2, e3⟩
theorem cel4 {w : World} {g : Nat} {t : TypeId} {a b c d : Value} (h : Cel w g t #[a, b, c, d]) : w.cell? ⟨g, 0, none⟩ = some a ∧ w.cell? ⟨g, 1, none⟩ = some b ∧ w.cell? ⟨g, 2, none⟩ = some c ∧ w.cell? ⟨g, 3, none⟩ = some d :=
  ⟨h.cell 0, h.cell 1, h.cell 2, h.cell 3⟩
def Typ19 (w : World) (b : Nat) (t : TypeId) : Prop := ∃ cs fr, w.heap[b]? = some (.cells cs t fr)
theorem Typ19.lt {w : World} {b : Nat} {t : TypeId} (h : Typ19 w b t) : b < w.heap.size := by
  obtain ⟨cs, fr, h⟩ := h
  exact (Array.getElem?_eq_some_iff.1 h).1
theorem Typ19.ne {w : World} {b b' : Nat} {t t' : TypeId} (h : Typ19 w b t) (h' : Typ19 w b' t') (hne : t ≠ t') : b ≠ b' := by
  rintro rfl
  obtain ⟨cs, fr, h⟩ := h
  obtain ⟨cs', fr', h'⟩ := h'
  rw [h] at h'
  injection h' with h'
  injection h' with _ e
  exact hne e
theorem Cel.typ19 {w : World} {b : Nat} {t : TypeId} {cs : Array Value} (h : Cel w b t cs) : Typ19 w b t := ⟨cs, (0, 0), h⟩
theorem Typ19.keep {w w' : World} {b : Nat} {t : TypeId} (h : Typ19 w b t) (hk : w'.heap[b]? = w.heap[b]?) : Typ19 w' b t := by
  obtain ⟨cs, fr, h⟩ := h
  exact ⟨cs, fr, hk.trans h⟩
theorem own_typ19 {w : World} {base e size n g : Nat} {v : Value} {xs : List Value} (h : w.ownsRow base e size v n xs) (hg : v.ownBlock = some g) : Typ19 w g e ∧ base ≤ g := by
  rcases h.2 with ⟨rfl, hn⟩ | ⟨g', cap, cur, rfl, hb, hh, _⟩
  · simp [Value.ownBlock] at hg
  · simp [Value.ownBlock] at hg
    subst hg
    exact ⟨⟨_, _, hh⟩, hb⟩
theorem IntsAt.keeps19 {F : Nat → Prop} {w w' : World} {B len : Nat} {k : IntKind} {a : Option Addr} {zs : List Int} (h : IntsAt w B k a len zs) (hk : Keeps F w w') (hB : B ≤ w.heap.size) (hF : ∀ r off, a = some ⟨r, off, none⟩ → 0 < len → r < B → ¬ F r) : IntsAt w' B k a len zs := by
  obtain ⟨h1, h2⟩ := h
  refine ⟨h1, ?_⟩
  rcases h2 with h2 | ⟨b, off, e, h3, h4, h5⟩
  · exact .inl h2
  · by_cases h0 : len = 0
    · exact .inl h0
    · exact .inr ⟨b, off, e, h3, h4, fun j hj => (World.cell?_of_block (a := ⟨b, off + j, none⟩) (hk.block b (by omega) (hF b off e (by omega) h3))).trans (h5 j hj)⟩
end Go.Proofs.YtmgfkdmjgjlkjaaGreat

namespace Go.Proofs.YtmgfkdmjgjlkjaaGreat
open Go.RowKit
set_option linter.unusedVariables false
section
variable {α : Type} {F : Fence} {n : Nat} {P : Program}
end
def KpTwo (B c d : Nat) (A Z : World) : Prop := Below B A Z ∧ Z.heap[c]? = A.heap[c]? ∧ Z.heap[d]? = A.heap[d]?
theorem KpTwo.trans {B c d : Nat} {X Y Z : World} (h : KpTwo B c d X Y) (k : KpTwo B c d Y Z) : KpTwo B c d X Z := ⟨h.1.trans k.1, k.2.1.trans h.2.1, k.2.2.trans h.2.2⟩
theorem KpTwo.put {B c d m : Nat} (hB : B ≤ m) (hc : c < m) (hd : d < m) (W : World) (l : Nat) (o o' : Obj) (hl : m ≤ l) (h : W.heap[l]? = some o) : KpTwo B c d W (W.putObj l o') :=
  ⟨(Below.refl B W).grown (grownBy_putObj' W l o') (by have := (Array.getElem?_eq_some_iff.1 h).1; omega) (fun k e => by cases e; omega), World.putObj_heap_other (by omega), World.putObj_heap_other (by omega)⟩
end Go.Proofs.YtmgfkdmjgjlkjaaGreat
