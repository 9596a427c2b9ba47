/- From a reading of an argument to what the walks are told of it: titles with bytes behind. -/
import Derived.Test.YtebfjmjdcbeekaaOpenT
import Derived.Test.YtebfjmjdcbeekaaWeaH
namespace Go.Proofs.Ytebfjmjdcbeekaa
open Go.ChangeShapes Go.WideShapes Go.ChangeAt Go.RowKit Go.Deep
set_option linter.unusedVariables false

def ks20 : List PT := [.bool, .str, .ints .u8]
theorem bounds20_u8 {z : Int} (h : (Lit.int .u8 z).wf = true) : 0 ≤ z ∧ z ≤ 255 := by
  have e1 : IntKind.u8.min = 0 := rfl
  have e2 : IntKind.u8.max = 255 := rfl
  simp [Lit.wf, e1, e2] at h
  exact h
/-- Bytes as they came in. -/
theorem nz_back {zs : List Int} (h : ∀ z ∈ zs, (Lit.int .u8 z).wf = true) : nz (zs.map fun z => UInt8.ofNat z.toNat) = zs := by
  unfold nz
  rw [List.map_map]
  conv => rhs; rw [← List.map_id zs]
  apply List.map_congr_left
  intro z hz
  have := bounds20_u8 (h z hz)
  simp
  omega
theorem bytA_in {w : World} {a : Option Addr} {len cap : Nat} {zs : List Int} (hl : len ≤ cap) (ha : a = none → cap = 0) (hi : IntsAt w w.heap.size .u8 a len zs) (hw : ∀ z ∈ zs, (Lit.int .u8 z).wf = true) : BytA w a len cap (zs.map fun z => UInt8.ofNat z.toNat) := by
  refine ⟨by rw [nz_back hw]; exact hi, ?_, hl, ha⟩
  rw [List.length_map]
  exact hi.1
theorem acs_in {w : World} {a : Option Addr} {len : Nat} {Z : Nat → List Value} (h : StructsT w ks20 a len Z) : ∃ A, AcsIn w a len A := by
  obtain ⟨h1, h2, h3⟩ := h
  rcases h3 with h0 | ⟨b, off, e, hb, hc⟩
  · exact ⟨fun _ => ⟨false, ⟨#[]⟩, none, 0, 0, []⟩, h1, .inl h0⟩
  · have key : ∀ i, ∃ x : Ac, i < len → AcAt w b (off + i * 3) x ∧ x.n ≤ 9223372036854775807 ∧ x.s.size ≤ 9223372036854775807 := by
      intro i
      by_cases hi : i < len
      · obtain ⟨hl, hv⟩ := h2 i hi
        obtain ⟨v0, e0, t, rfl⟩ := hv 0 _ rfl
        obtain ⟨v1, e1, s, rfl, hs⟩ := hv 1 _ rfl
        obtain ⟨v2, e2, a2, n2, c2, zs, rfl, k1, k2, k3, k4, k5⟩ := hv 2 _ rfl
        refine ⟨⟨t, s, a2, n2, c2, zs.map fun z => UInt8.ofNat z.toNat⟩, fun _ => ⟨⟨hc i hi 0 _ e0, ?_, ?_, bytA_in k1 (fun e => (k3 e).2) k4 k5, hb⟩, by simp only; omega, hs⟩⟩
        · have := hc i hi 1 _ e1
          rw [← Nat.add_assoc] at this
          exact this
        · have := hc i hi 2 _ e2
          rw [← Nat.add_assoc] at this
          exact this
      · exact ⟨⟨false, ⟨#[]⟩, none, 0, 0, []⟩, fun c => absurd c hi⟩
    exact ⟨fun i => Classical.choose (key i), h1, .inr ⟨b, off, e, fun i hi => Classical.choose_spec (key i) hi⟩⟩
end Go.Proofs.Ytebfjmjdcbeekaa
