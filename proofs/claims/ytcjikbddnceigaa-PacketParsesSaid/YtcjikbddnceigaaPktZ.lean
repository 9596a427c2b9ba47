/- From a reading of an argument to what the walks are told of it: a packet, by value; and bytes. -/
import Derived.Test.YtcjikbddnceigaaOpenT
import Derived.Test.YtcjikbddnceigaaPktD
namespace Go.Proofs.Ytcjikbddnceigaa
open Go.ChangeShapes Go.WideShapes Go.ChangeAt Go.RowKit Go.Deep
set_option linter.unusedVariables false

theorem bounds19_u8 {z : Int} (h : (Lit.int .u8 z).wf = true) : 0 ≤ z ∧ z ≤ 255 := by
  have e1 : IntKind.u8.min = 0 := rfl
  have e2 : IntKind.u8.max = 255 := rfl
  simp [Lit.wf, e1, e2] at h
  exact h
/-- A packet, by value. -/
theorem pkt_in19 {P : Program} {H : Type} {enc : TypeId × Value → H} {w : World} {base b0 n : Nat} {held : Bool} {r : Reach} {t : TypeId} {fs : Array Field} {v : Value} {d : DataW H} {ps : List MemPlace}
    (ht : P.underlying t = some (.struct fs)) (hk : flatKT P n t = some [.int .u32, .int .u32, .bool, .ints .u8])
    (hval : Value.okWide P w r b0 t v) (hd : DataW.Trod enc P w base (fun _ => true) held t v d ps) :
    ∃ (ep nu : Int) (wh : Bool) (a : Option Addr) (len cap : Nat) (zs : List Int), v = .agg #[.int .u32 ep, .int .u32 nu, .bool wh, .slice a len cap] ∧ (Lit.int .u32 ep).wf = true ∧ (Lit.int .u32 nu).wf = true ∧ len ≤ cap ∧ cap ≤ 9223372036854775807 ∧ (a = none → len = 0 ∧ cap = 0) ∧ IntsAt w w.heap.size .u8 a len zs ∧ ∀ n ∈ zs, (Lit.int .u8 n).wf = true := by
  simp only [Value.okWide, ht] at hval
  obtain ⟨cs, rfl, hs, _⟩ := hval
  obtain ⟨fuel, hf⟩ := hd
  obtain ⟨h1, h2⟩ := flatT_ok hk hf
  simp only [Value.cells] at h1 h2
  obtain ⟨v0, e0, c, rfl, hc⟩ := h2 0 _ rfl
  obtain ⟨v1, e1, s, rfl, hs2⟩ := h2 1 _ rfl
  obtain ⟨v2, e2, b, rfl⟩ := h2 2 _ rfl
  obtain ⟨v3, e3, a, len, cap, zs, rfl, k1, k2, k3, k4, k5⟩ := h2 3 _ rfl
  refine ⟨c, s, b, a, len, cap, zs, ?_, hc, hs2, k1, k2, k3, k4, k5⟩
  congr 1
  apply Array.ext'
  match hq : cs.toList, h1, e0, e1, e2, e3 with
  | [x0, x1, x2, x3], _, e0, e1, e2, e3 =>
    simp at e0 e1 e2 e3
    rw [e0, e1, e2, e3]
theorem byts_wf {zs : List Int} (h : ∀ n ∈ zs, (Lit.int .u8 n).wf = true) : Byts zs := fun x hx => bounds19_u8 (h x hx)
/-- Bytes that came in. -/
theorem byL_in {w : World} {a : Option Addr} {len cap : Nat} {zs : List Int}
    (h : (a = none ∧ len = 0 ∧ cap = 0 ∧ zs = []) ∨ ∃ x, a = some x ∧ len ≤ cap ∧ cap ≤ maxLen ∧ zs.length = cap ∧ (∀ i, i < zs.length → w.cell? (x.add i) = some (.int .u8 (zs.getD i 0))) ∧ ∀ n ∈ zs, (Lit.int .u8 n).wf = true) :
    ByL w a len cap (zs.take len) := by
  obtain ⟨h0, hw, hm⟩ := ints_in h
  refine ⟨h0, ?_, ?_, ?_, byts_wf hw⟩
  · rcases h with ⟨_, rfl, rfl, _⟩ | ⟨x, _, hl, _⟩
    · exact Nat.le_refl _
    · exact hl
  · rcases h with ⟨_, _, rfl, _⟩ | ⟨x, _, _, hm, _⟩
    · omega
    · unfold maxLen at hm; omega
  · intro e
    rcases h with ⟨_, _, rfl, _⟩ | ⟨x, hx, _⟩
    · rfl
    · rw [hx] at e; cases e
/-- A slice that has room lies somewhere. -/
theorem row_addr {w : World} {x : Addr} {len cap : Nat} {zs : List Int}
    (h : (some x = (none : Option Addr) ∧ len = 0 ∧ cap = 0 ∧ zs = []) ∨ ∃ y, some x = some y ∧ len ≤ cap ∧ cap ≤ maxLen ∧ zs.length = cap ∧ (∀ i, i < zs.length → w.cell? (y.add i) = some (.int .u8 (zs.getD i 0))) ∧ ∀ n ∈ zs, (Lit.int .u8 n).wf = true) :
    cap = 0 ∨ ∃ r off, x = ⟨r, off, none⟩ := by
  rcases h with ⟨e, _⟩ | ⟨y, e, _, _, hz, hc, _⟩
  · cases e
  · injection e with e
    subst e
    by_cases h0 : cap = 0
    · exact .inl h0
    · obtain ⟨r, off, e, _⟩ := ints_at hc (by omega)
      exact .inr ⟨r, off, e⟩
end Go.Proofs.Ytcjikbddnceigaa
