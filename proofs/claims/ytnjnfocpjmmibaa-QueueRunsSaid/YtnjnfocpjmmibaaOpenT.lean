/- From a reading of an argument to what the walks are told of it: slices of structs of plain values and slices of numbers, whatever structs lie in them. -/
import Derived.Test.YtnjnfocpjmmibaaOpen
import Derived.Deep.Slices
namespace Go.Proofs.Ytnjnfocpjmmibaa
open Go.ChangeShapes Go.WideShapes Go.ChangeAt Go.RowKit Go.Deep
set_option linter.unusedVariables false

/-- A plain cell's kind. -/
inductive PT where
  | int (k : IntKind)
  | bool
  | str
  | ints (k : IntKind)
/-- A slice of numbers that came in. -/
def RowIn (w : World) (k : IntKind) (v : Value) : Prop := ∃ (a : Option Addr) (len cap : Nat) (zs : List Int), v = .slice a len cap ∧ len ≤ cap ∧ cap ≤ 9223372036854775807 ∧ (a = none → len = 0 ∧ cap = 0) ∧ IntsAt w w.heap.size k a len zs ∧ ∀ n ∈ zs, (Lit.int k n).wf = true
def PT.ok (w : World) : PT → Value → Prop
  | .int k, v => ∃ n, v = .int k n ∧ (Lit.int k n).wf = true
  | .bool, v => ∃ b, v = .bool b
  | .str, v => ∃ s : ByteArray, v = .string s ∧ s.size ≤ maxLen
  | .ints k, v => RowIn w k v
/-- Kind by kind, value by value. -/
def OkAllT (w : World) (ks : List PT) (cs : List Value) : Prop := cs.length = ks.length ∧ ∀ (j : Nat) (k : PT), ks[j]? = some k → ∃ v, cs[j]? = some v ∧ PT.ok w k v
theorem OkAllT.nil (w : World) : OkAllT w [] [] := ⟨rfl, fun j k h => by simp at h⟩
theorem OkAllT.append {w : World} {a b : List PT} {c d : List Value} (h : OkAllT w a c) (k : OkAllT w b d) : OkAllT w (a ++ b) (c ++ d) := by
  refine ⟨by simp [h.1, k.1], fun j q hq => ?_⟩
  rw [List.getElem?_append] at hq ⊢
  rw [h.1]
  split at hq
  · rw [if_pos (by assumption)]; exact h.2 j q hq
  · rw [if_neg (by assumption)]; exact k.2 _ q hq
mutual
/-- The kinds of a type's cells, if it is plain. -/
def flatKT (P : Program) : Nat → TypeId → Option (List PT)
  | 0, _ => none
  | n + 1, t => match P.underlying t with
    | some (.int k) => some [.int k]
    | some .bool => some [.bool]
    | some .string => some [.str]
    | some (.slice q) => match P.underlying q with
      | some (.int k) => if P.cellsOf q = 1 then some [.ints k] else none
      | _ => none
    | some (.struct fs) => (flatFT P n 0 fs.toList).bind fun ks => if ks.length = P.cellsOf t then some ks else none
    | _ => none
/-- The kinds of fields one behind the other, from an offset on. -/
def flatFT (P : Program) : Nat → Nat → List Field → Option (List PT)
  | _, _, [] => some []
  | 0, _, _ :: _ => none
  | n + 1, off, f :: fs => if f.offset = off then
      (flatKT P n f.type).bind fun a => if a.length = P.cellsOf f.type then (flatFT P n (off + a.length) fs).map fun b => a ++ b else none
    else none
end
section
variable {H : Type} {enc : TypeId × Value → H} {P : Program} {w : World} {base : Nat} {spare : Nat → Bool} {held : Bool}
theorem ints_part {t q : TypeId} {k : IntKind} {fuel : Nat} {cs : List Value} {x : DataW H × List MemPlace} (ht : P.underlying t = some (.slice q)) (hq : P.underlying q = some (.int k)) (cq : P.cellsOf q = 1)
    (h : DataW.trod enc P w base spare held fuel t cs = some x) : ∃ v, cs = [v] ∧ RowIn w k v := by
  rcases open_slice1 ht cq h with ⟨rfl, _⟩ | ⟨a, len, cap, m, n, V, D, Pl, rfl, _, hl, hm, hmm, _, hi⟩
  · exact ⟨_, rfl, none, 0, 0, [], rfl, by omega, by omega, fun _ => ⟨rfl, rfl⟩, ⟨rfl, .inl rfl⟩, fun n hn => by cases hn⟩
  · unfold maxLen at hm
    have hlm : len ≤ m := by rw [hmm]; split <;> omega
    have hz : ∀ i : Nat, ∃ z : Int, i < len → w.cell? (a.add i) = some (.int k z) ∧ (Lit.int k z).wf = true := by
      intro i
      by_cases h1 : i < len
      · obtain ⟨h2, h3⟩ := hi i (by omega)
        obtain ⟨z, hz, _, hw⟩ := DataW.trod_int hq h3
        simp only [List.cons.injEq, and_true] at hz
        exact ⟨z, fun _ => ⟨by rw [h2, hz], hw⟩⟩
      · exact ⟨0, fun c => absurd c h1⟩
    obtain ⟨Z, hZ⟩ : ∃ Z : Nat → Int, ∀ i, i < len → w.cell? (a.add i) = some (.int k (Z i)) ∧ (Lit.int k (Z i)).wf = true := ⟨fun i => Classical.choose (hz i), fun i => Classical.choose_spec (hz i)⟩
    refine ⟨_, rfl, some a, len, cap, (List.range len).map Z, rfl, hl, hm, fun e => (by cases e), ⟨by simp, ?_⟩, fun n hn => ?_⟩
    · by_cases h0 : len = 0
      · exact .inl h0
      · obtain ⟨b, off, rfl⟩ := addr_plain (hZ 0 (by omega)).1
        refine .inr ⟨b, off, rfl, ?_, by omega, fun j hj => ?_⟩
        · have := (hZ 0 (by omega)).1
          rw [Go.WideShapes.add_plain] at this
          exact cell_block this
        · have := (hZ j hj).1
          rw [Go.WideShapes.add_plain] at this
          rw [this]
          simp [List.getD, hj]
    · obtain ⟨i, hi2, rfl⟩ := List.mem_map.1 hn
      exact (hZ i (by simpa using hi2)).2
theorem flatT_both (n : Nat) : (∀ t ks fuel cs x, flatKT P n t = some ks → DataW.trod enc P w base spare held fuel t cs = some x → OkAllT w ks cs) ∧
    (∀ off fs ks m (cs : List Value) (xs : List (DataW H × List MemPlace)), flatFT P n off fs = some ks → off + ks.length ≤ cs.length → xs.length = fs.length →
      (∀ (i : Nat) (f : Field), fs[i]? = some f → DataW.trod enc P w base spare held m f.type ((cs.drop f.offset).take (P.cellsOf f.type)) = xs[i]?) → OkAllT w ks ((cs.drop off).take ks.length)) := by
  induction n with
  | zero =>
    refine ⟨fun t ks fuel cs x h => by simp [flatKT] at h, fun off fs ks m cs xs h hl hx hf => ?_⟩
    cases fs with
    | nil => simp [flatFT] at h; subst h; simpa using OkAllT.nil _
    | cons f fs => simp [flatFT] at h
  | succ n ih =>
    constructor
    · intro t ks fuel cs x h ht
      unfold flatKT at h
      split at h
      · next k hu =>
        obtain ⟨v, hc, _, hw⟩ := DataW.trod_int hu ht
        injection h with h; subst h; subst hc
        refine ⟨rfl, fun j q hq => ?_⟩
        match j, hq with
        | 0, hq => simp at hq; subst hq; exact ⟨_, rfl, v, rfl, hw⟩
        | j + 1, hq => simp at hq
      · next hu =>
        obtain ⟨v, hc, _⟩ := DataW.trod_bool hu ht
        injection h with h; subst h; subst hc
        refine ⟨rfl, fun j q hq => ?_⟩
        match j, hq with
        | 0, hq => simp at hq; subst hq; exact ⟨_, rfl, v, rfl⟩
        | j + 1, hq => simp at hq
      · next hu =>
        obtain ⟨v, hc, _, hw⟩ := DataW.trod_string hu ht
        injection h with h; subst h; subst hc
        refine ⟨rfl, fun j q hq => ?_⟩
        match j, hq with
        | 0, hq => simp at hq; subst hq; exact ⟨_, rfl, v, rfl, hw⟩
        | j + 1, hq => simp at hq
      · next q hu =>
        split at h
        · next k hq =>
          split at h
          · next hcq =>
            injection h with h; subst h
            obtain ⟨v, rfl, hv⟩ := ints_part hu hq hcq ht
            refine ⟨rfl, fun j q hq => ?_⟩
            match j, hq with
            | 0, hq => simp at hq; subst hq; exact ⟨_, rfl, hv⟩
            | j + 1, hq => simp at hq
          · cases h
        · cases h
      · next fs hu =>
        obtain ⟨ks', hk, h⟩ := Option.bind_eq_some_iff.1 h
        split at h
        · next hl =>
          injection h with h; subst h
          obtain ⟨xs, m, _, _, hcl, hxl, hf⟩ := DataW.trod_struct hu ht
          have := ih.2 0 fs.toList ks' m cs xs hk (by omega) (by simpa using hxl) (fun i f hi => hf i f (by simpa using hi))
          rw [List.drop_zero, List.take_of_length_le (by omega)] at this
          exact this
        · cases h
      · cases h
    · intro off fs ks m cs xs h hl hx hf
      cases fs with
      | nil => simp [flatFT] at h; subst h; simpa using OkAllT.nil _
      | cons f fs =>
        unfold flatFT at h
        split at h
        · next ho =>
          obtain ⟨a, ha, h⟩ := Option.bind_eq_some_iff.1 h
          split at h
          · next hal =>
            obtain ⟨b, hb, rfl⟩ := Option.map_eq_some_iff.1 h
            rw [List.length_append] at hl
            cases xs with
            | nil => simp at hx
            | cons x xs =>
              have h0 := hf 0 f rfl
              rw [ho, ← hal] at h0
              have g0 := ih.1 f.type a m _ x ha (by simpa using h0)
              have g1 := ih.2 (off + a.length) fs b m cs xs hb (by omega) (by simpa using hx) (fun i q hi => by simpa using hf (i + 1) q (by simpa using hi))
              have e : (cs.drop off).take (a ++ b).length = (cs.drop off).take a.length ++ (cs.drop (off + a.length)).take b.length := by
                rw [List.length_append, List.take_add, List.drop_drop]
              rw [e]
              exact g0.append g1
          · cases h
        · cases h
theorem flatT_ok {n : Nat} {t : TypeId} {ks : List PT} {fuel : Nat} {cs : List Value} {x : DataW H × List MemPlace} (h : flatKT P n t = some ks) (ht : DataW.trod enc P w base spare held fuel t cs = some x) : OkAllT w ks cs := (flatT_both n).1 t ks fuel cs x h ht
end

/-- What is known of a slice of plain structs that came in: row i's cells. -/
def StructsT (w : World) (ks : List PT) (a : Option Addr) (len : Nat) (Z : Nat → List Value) : Prop :=
  len ≤ 9223372036854775807 ∧ (∀ i, i < len → OkAllT w ks (Z i)) ∧ (len = 0 ∨ ∃ b off, a = some ⟨b, off, none⟩ ∧ b < w.heap.size ∧
    ∀ i, i < len → ∀ j v, (Z i)[j]? = some v → w.cell? ⟨b, off + (i * ks.length + j), none⟩ = some v)
theorem structs_inT {P : Program} {H : Type} {enc : TypeId × Value → H} {w : World} {base : Nat} {held : Bool} {t e : TypeId} {fuel n : Nat} {a : Option Addr} {len cap : Nat} {x : DataW H × List MemPlace} {ks : List PT}
    (ht : P.underlying t = some (.slice e)) (hk : flatKT P n e = some ks) (hc : P.cellsOf e = ks.length) (hpos : 0 < ks.length)
    (h : DataW.trod enc P w base (fun _ => true) held fuel t (Value.slice a len cap).cells.toList = some x) : ∃ Z, StructsT w ks a len Z := by
  rcases open_slice ht h with ⟨hcs, _⟩ | ⟨a', len', cap', m, q, D, Pl, hcs, _, hl, hm, hmm, _, hi⟩
  · simp [Value.cells] at hcs
    obtain ⟨rfl, rfl, rfl⟩ := hcs
    exact ⟨fun _ => [], by omega, fun i hi => by omega, .inl rfl⟩
  · simp [Value.cells] at hcs
    obtain ⟨rfl, rfl, rfl⟩ := hcs
    unfold maxLen at hm
    simp only [if_true] at hmm
    subst hmm
    rw [hc] at hi
    have hz : ∀ i, ∃ cs : List Value, i < m → w.cells? base (a'.add (i * ks.length)) ks.length = some cs ∧ OkAllT w ks cs := by
      intro i
      by_cases h1 : i < m
      · obtain ⟨cs, h2, h3⟩ := hi i h1
        exact ⟨cs, fun _ => ⟨h2, flatT_ok hk h3⟩⟩
      · exact ⟨[], fun h => absurd h h1⟩
    obtain ⟨Z, hZ⟩ : ∃ Z : Nat → List Value, ∀ i, i < m → w.cells? base (a'.add (i * ks.length)) ks.length = some (Z i) ∧ OkAllT w ks (Z i) := ⟨fun i => Classical.choose (hz i), fun i => Classical.choose_spec (hz i)⟩
    refine ⟨Z, by omega, fun i hil => (hZ i (by omega)).2, ?_⟩
    by_cases h0 : len = 0
    · exact .inl h0
    · obtain ⟨_, hlen, hat⟩ := World.cells?_some (hZ 0 (by omega)).1
      obtain ⟨v0, hv0⟩ : ∃ v, (Z 0)[0]? = some v := ⟨_, List.getElem?_eq_getElem (by omega)⟩
      have hat0 := hat 0 hpos
      rw [hv0, Nat.zero_mul] at hat0
      have hs0 : ∃ b off, a' = ⟨b, off, none⟩ := by
        obtain ⟨b, off, spot⟩ := a'
        have hs : spot = none := by simpa [Addr.add] using World.cell?_spot hat0
        subst hs
        exact ⟨b, off, rfl⟩
      obtain ⟨b, off, rfl⟩ := hs0
      refine .inr ⟨b, off, rfl, ?_, fun i hil j v hv => ?_⟩
      · have := hat0
        rw [Go.WideShapes.add_plain, Go.WideShapes.add_plain] at this
        exact cell_block this
      · obtain ⟨_, hlen', hat'⟩ := World.cells?_some (hZ i (by omega)).1
        have hj : j < ks.length := by
          have := (List.getElem?_eq_some_iff.1 hv).1
          omega
        have := hat' j hj
        rw [Go.WideShapes.add_plain, Go.WideShapes.add_plain, hv] at this
        rw [← this, Nat.add_assoc]
end Go.Proofs.Ytnjnfocpjmmibaa
