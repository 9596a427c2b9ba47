/- From a reading of an argument to what the walks are told of it: titles with bytes behind. -/
import Derived.Test.YtebfjmjdcbeekaaDoorOpenT
import Derived.Test.YtebfjmjdcbeekaaDoorWeaH
namespace Go.Proofs.YtebfjmjdcbeekaaDoor
open Go.ChangeShapes Go.WideShapes Go.ChangeAt Go.RowKit Go.Deep
set_option linter.unusedVariables false

/-- Slices of bytes. -/
def BssIn (w : World) (a : Option Addr) (len : Nat) (A : Nat → Option Addr) (L C : Nat → Nat) (D : Nat → List UInt8) : Prop := len ≤ 9223372036854775807 ∧ (len = 0 ∨ ∃ b off, a = some ⟨b, off, none⟩ ∧ b < w.heap.size ∧ ∀ r, r < len → w.cell? ⟨b, off + r, none⟩ = some (.slice (A r) (L r) (C r)) ∧ L r ≤ 9223372036854775807 ∧ BytA w (A r) (L r) (C r) (D r))
def ks20 : List PT := [.bool, .str, .ints .u8]
theorem bounds20_u8 {z : Int} (h : (Lit.int .u8 z).wf = true) : 0 ≤ z ∧ z ≤ 255 := by
  have e1 : IntKind.u8.min = 0 := rfl
  have e2 : IntKind.u8.max = 255 := rfl
  simp [Lit.wf, e1, e2] at h
  exact h
/-- Bytes as they came in. -/
theorem nz_back {zs : List Int} (h : ∀ z ∈ zs, (Lit.int .u8 z).wf = true) : nz (zs.map fun z => UInt8.ofNat z.toNat) = zs := by
  unfold nz
  rw [List.map_map]
  conv => rhs; rw [← List.map_id zs]
  apply List.map_congr_left
  intro z hz
  have := bounds20_u8 (h z hz)
  simp
  omega
theorem bytA_in {w : World} {a : Option Addr} {len cap : Nat} {zs : List Int} (hl : len ≤ cap) (ha : a = none → cap = 0) (hi : IntsAt w w.heap.size .u8 a len zs) (hw : ∀ z ∈ zs, (Lit.int .u8 z).wf = true) : BytA w a len cap (zs.map fun z => UInt8.ofNat z.toNat) := by
  refine ⟨by rw [nz_back hw]; exact hi, ?_, hl, ha⟩
  rw [List.length_map]
  exact hi.1
theorem acs_in {w : World} {a : Option Addr} {len : Nat} {Z : Nat → List Value} (h : StructsT w ks20 a len Z) : ∃ A, AcsIn w a len A := by
  obtain ⟨h1, h2, h3⟩ := h
  rcases h3 with h0 | ⟨b, off, e, hb, hc⟩
  · exact ⟨fun _ => ⟨false, ⟨#[]⟩, none, 0, 0, []⟩, h1, .inl h0⟩
  · have key : ∀ i, ∃ x : Ac, i < len → AcAt w b (off + i * 3) x ∧ x.n ≤ 9223372036854775807 ∧ x.s.size ≤ 9223372036854775807 := by
      intro i
      by_cases hi : i < len
      · obtain ⟨hl, hv⟩ := h2 i hi
        obtain ⟨v0, e0, t, rfl⟩ := hv 0 _ rfl
        obtain ⟨v1, e1, s, rfl, hs⟩ := hv 1 _ rfl
        obtain ⟨v2, e2, a2, n2, c2, zs, rfl, k1, k2, k3, k4, k5⟩ := hv 2 _ rfl
        refine ⟨⟨t, s, a2, n2, c2, zs.map fun z => UInt8.ofNat z.toNat⟩, fun _ => ⟨⟨hc i hi 0 _ e0, ?_, ?_, bytA_in k1 (fun e => (k3 e).2) k4 k5, hb⟩, by simp only; omega, hs⟩⟩
        · have := hc i hi 1 _ e1
          rw [← Nat.add_assoc] at this
          exact this
        · have := hc i hi 2 _ e2
          rw [← Nat.add_assoc] at this
          exact this
      · exact ⟨⟨false, ⟨#[]⟩, none, 0, 0, []⟩, fun c => absurd c hi⟩
    exact ⟨fun i => Classical.choose (key i), h1, .inr ⟨b, off, e, fun i hi => Classical.choose_spec (key i) hi⟩⟩
/-- Slices of bytes that came in, with their room. -/
def RowsIn20 (w : World) (k : IntKind) (a : Option Addr) (len : Nat) (A : Nat → Option Addr) (L C : Nat → Nat) (Z : Nat → List Int) : Prop := RowsIn w k a len A L C Z ∧ ∀ r, r < len → L r ≤ C r
theorem rows_in20 {P : Program} {H : Type} {enc : TypeId × Value → H} {w : World} {base : Nat} {held : Bool} {t e q : TypeId} {k : IntKind} {fuel : Nat} {a : Option Addr} {len cap : Nat} {x : DataW H × List MemPlace}
    (ht : P.underlying t = some (.slice e)) (he : P.underlying e = some (.slice q)) (hq : P.underlying q = some (.int k)) (ce : P.cellsOf e = 1) (cq : P.cellsOf q = 1)
    (h : DataW.trod enc P w base (fun _ => true) held fuel t (Value.slice a len cap).cells.toList = some x) : ∃ A L C Z, RowsIn20 w k a len A L C Z := by
  rcases open_int_rows ht he hq ce cq h with ⟨hcs, _⟩ | ⟨a', len', cap', A, L, C, Z, hcs, _, hl, hm, _, hr⟩
  · simp [Value.cells] at hcs
    obtain ⟨rfl, rfl, rfl⟩ := hcs
    exact ⟨fun _ => none, fun _ => 0, fun _ => 0, fun _ => [], ⟨by omega, .inl rfl⟩, fun r hr => by omega⟩
  · simp [Value.cells] at hcs
    obtain ⟨rfl, rfl, rfl⟩ := hcs
    unfold maxLen at hm
    refine ⟨A, L, C, fun r => (Z r).take (L r), ⟨by omega, ?_⟩, fun r hrl => (hr r (by omega)).2.1⟩
    by_cases h0 : len = 0
    · exact .inl h0
    · obtain ⟨b, off, rfl⟩ := addr_plain (hr 0 (by omega)).1
      refine .inr ⟨b, off, rfl, ?_, fun r hrl => ?_⟩
      · have := (hr 0 (by omega)).1
        rw [Go.WideShapes.add_plain] at this
        exact cell_block this
      · obtain ⟨g1, g2, g3, g4, g5, g6, g7⟩ := hr r (by omega)
        unfold maxLen at g3
        rw [Go.WideShapes.add_plain] at g1
        refine ⟨g1, by omega, g6, ⟨by simp; omega, ?_⟩, fun n hn => g5 n (List.mem_of_mem_take hn)⟩
        by_cases hL : L r = 0
        · exact .inl hL
        · cases hA : A r with
          | none => have := g6 hA; omega
          | some a' =>
            obtain ⟨_, hc⟩ := g7 a' hA
            obtain ⟨b', off', rfl⟩ := addr_plain (hc 0 (by omega))
            refine .inr ⟨b', off', rfl, ?_, by omega, fun j hj => ?_⟩
            · have := hc 0 (by omega)
              rw [Go.WideShapes.add_plain] at this
              exact cell_block this
            · have := hc j (by omega)
              rw [Go.WideShapes.add_plain] at this
              rw [this]
              simp [List.getD, hj]
theorem bss_in {w : World} {a : Option Addr} {len : Nat} {A : Nat → Option Addr} {L C : Nat → Nat} {Z : Nat → List Int} (h : RowsIn20 w .u8 a len A L C Z) : BssIn w a len A L C fun r => (Z r).map fun z => UInt8.ofNat z.toNat := by
  obtain ⟨⟨h1, h2⟩, h3⟩ := h
  refine ⟨h1, ?_⟩
  rcases h2 with h2 | ⟨b, off, e, hb, hr⟩
  · exact .inl h2
  · refine .inr ⟨b, off, e, hb, fun r hrl => ?_⟩
    obtain ⟨k1, k2, k3, k4, k5⟩ := hr r hrl
    exact ⟨k1, k2, bytA_in (h3 r hrl) k3 k4 k5⟩
end Go.Proofs.YtebfjmjdcbeekaaDoor
