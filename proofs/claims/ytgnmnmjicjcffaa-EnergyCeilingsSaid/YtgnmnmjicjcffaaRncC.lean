/- What the functions of package rangeenc give, for whatever arguments: adding, carrying, scaling, parts. -/
import Derived.Test.YtgnmnmjicjcffaaRncP
import Derived.Test.YtgnmnmjicjcffaaModC
import Derived.Deep.QuietTactic
import Derived.BigQuiet
import Derived.BigRegion
import Derived.StillTailTactics
import Derived.Deep.AppendLies
namespace Go.Proofs.Ytgnmnmjicjcffaa
open Go.RowKit
set_option linter.unusedVariables false

theorem add32_low (x y : Int) (w : World) (x0 : 0 ≤ x) (y0 : 0 ≤ y) (h : x + y ≤ 4294967295) :
    Calls Try.prog 72 #[.int .u32 x, .int .u32 y, .int .u32 0] w fun e w' => e = .returned (.tuple #[.int .u32 (x + y), .int .u32 0]) ∧ w = w' := by
  have h1 : (x + y) / 4294967296 = 0 := by omega
  go_enter Try.func72, Try.ntmps72
  go_wp2
  go_ret2
  exact ⟨rfl, rfl⟩
theorem add32_high (x y : Int) (w : World) (x0 : 0 ≤ x) (y0 : 0 ≤ y) (x1 : x ≤ 4294967295) (y1 : y ≤ 4294967295) (h : 4294967296 ≤ x + y) :
    Calls Try.prog 72 #[.int .u32 x, .int .u32 y, .int .u32 0] w fun e w' => e = .returned (.tuple #[.int .u32 (x + y - 4294967296), .int .u32 1]) ∧ w = w' := by
  have h1 : (x + y) / 4294967296 = 1 := by omega
  have h2 : (x + y) % 4294967296 = x + y - 4294967296 := by omega
  go_enter Try.func72, Try.ntmps72
  go_wp2
  go_ret2
  refine ⟨?_, rfl⟩
  show Ending.returned (.tuple #[.int .u32 ((x + y) % 4294967296), .int .u32 1]) = _
  rw [h2]

/-- Block g is the program's encoder: digits ahead (in the row of v), the last four, how much less the size is. -/
def EncD (w : World) (base g : Nat) (v : Value) (D : List Int) (last less : Int) : Prop :=
  Cel w g 56 #[v, .int .u32 last, .int .u32 less] ∧ w.ownsRow base 5 1 v D.length (D.map (Value.int .u8)) ∧ base ≤ g
section
variable {w w' : World} {base g : Nat} {v : Value} {D : List Int} {last less : Int}
theorem EncD.lt (h : EncD w base g v D last less) : g < w.heap.size := h.1.lt
theorem EncD.own (h : EncD w base g v D last less) (r : Nat) (hr : v.ownBlock = some r) : r < w.heap.size ∧ base ≤ r ∧ r ≠ g := ⟨own_lt h.2.1 r hr, own_base h.2.1 r hr, own_ne_cel h.2.1 h.1 (by decide) r hr⟩
theorem EncD.cells (h : EncD w base g v D last less) : w.cell? ⟨g, 0, none⟩ = some v ∧ w.cell? ⟨g, 1, none⟩ = some (.int .u32 last) ∧ w.cell? ⟨g, 2, none⟩ = some (.int .u32 less) := ⟨h.1.cell 0, h.1.cell 1, h.1.cell 2⟩
theorem EncD.fz (h : EncD w base g v D last less) : w.frozen? ⟨g, 0, none⟩ = false ∧ w.frozen? ⟨g, 1, none⟩ = false ∧ w.frozen? ⟨g, 2, none⟩ = false := ⟨h.1.frozen 0, h.1.frozen 1, h.1.frozen 2⟩
theorem EncD.drewN (h : EncD w base g v D last less) (n : Nat) : EncD (w.drewN n) base g v D last less := h
theorem EncD.keeps {F : Nat → Prop} (h : EncD w base g v D last less) (hk : Keeps F w w') (h1 : ¬ F g) (h2 : ∀ r, v.ownBlock = some r → ¬ F r) : EncD w' base g v D last less :=
  ⟨h.1.keeps hk h1, own_keeps h.2.1 hk h2, h.2.2⟩
theorem EncD.below (h : EncD w base g v D last less) (hk : Below w.heap.size w w') : EncD w' base g v D last less := h.keeps (F := fun _ => False) (.of_below hk) (fun c => c) (fun _ _ c => c)
theorem EncD.row {r c a : Nat} (h : EncD w base g (.slice (some ⟨r, 0, none⟩) a c) D last less) (ha : D.length = a) {j : Nat} (hj : j < a) : w.cell? ⟨r, j, none⟩ = some (.int .u8 (D.getD j 0)) ∧ w.frozen? ⟨r, j, none⟩ = false := by
  subst ha
  refine ⟨?_, h.2.1.frozenAt j⟩
  rw [h.2.1.cellAt j (by omega), List.getElem?_map, List.getElem?_eq_getElem hj]
  simp [List.getD, hj]
theorem EncD.setRow {r c a : Nat} (h : EncD w base g (.slice (some ⟨r, 0, none⟩) a c) D last less) (ha : D.length = a) (j : Nat) (x : Int) : EncD (w.setCell ⟨r, j, none⟩ (.int .u8 x)) base g (.slice (some ⟨r, 0, none⟩) a c) (D.set j x) last less := by
  subst ha
  have hl := h.own r rfl
  refine ⟨h.1.far (p := ⟨r, j, none⟩) (fun e => hl.2.2 e.symm) _, ?_, h.2.2⟩
  rw [List.length_set, List.map_set]; exact (h.2.1.stored j (.int .u8 x)).1
theorem EncD.setLast (h : EncD w base g v D last less) (x : Int) : EncD (w.setCell ⟨g, 1, none⟩ (.int .u32 x)) base g v D x less :=
  ⟨by simpa using h.1.set_ 1 (.int .u32 x), own_far h.2.1 (fun r hr => (h.own r hr).2.2) _, h.2.2⟩
theorem EncD.setLess (h : EncD w base g v D last less) (x : Int) : EncD (w.setCell ⟨g, 2, none⟩ (.int .u32 x)) base g v D last x :=
  ⟨by simpa using h.1.set_ 2 (.int .u32 x), own_far h.2.1 (fun r hr => (h.own r hr).2.2) _, h.2.2⟩
end
/-- The same, by the number and the scale. -/
def EncR (w : World) (base g : Nat) (v : Value) (n : Int) (k : Nat) (less : Int) : Prop :=
  ∃ D last, EncD w base g v D last less ∧ IsDig D ∧ D.length = k ∧ 0 ≤ last ∧ last ≤ 4294967295 ∧ n = valL D * 4294967296 + last

/-- What carrying leaves. -/
def CarryPost (base g : Nat) (v : Value) (D : List Int) (last less : Int) (w : World) (x : Ending) (w' : World) : Prop :=
  x = .returned (.tuple #[]) ∧ ∃ D', EncD w' base g v D' last less ∧ IsDig D' ∧ D'.length = D.length ∧ valL D' = valL D + 1 ∧ Keeps (fun j => v.ownBlock = some j) w w'

set_option maxRecDepth 100000 in
theorem rncCarry_any (base g : Nat) (v : Value) (D : List Int) (last less : Int) (w : World) (hE : EncD w base g v D last less) (hd : IsDig D) (hv : valL D + 1 < P256 D.length) (hk : D.length ≤ 1000000) :
    Calls Try.prog 73 #[.pointer (some ⟨g, 0, none⟩)] w (CarryPost base g v D last less w) := by
  have hpos : 0 < D.length := by
    rcases Nat.eq_zero_or_pos D.length with h | h
    · have := (valL_lt hd).1
      rw [h] at hv
      have e : P256 0 = 1 := by decide
      omega
    · exact h
  obtain ⟨r, c, rfl, _, _⟩ := World.ownsRow.form hE.2.1 hpos
  obtain ⟨c0, c1, c2⟩ := hE.cells
  have H0 := Lib.hid hE
  have HD := Lib.hid hd
  have HV := Lib.hid hv
  obtain ⟨K, hK⟩ : ∃ K, K = D.length := ⟨_, rfl⟩
  rw [← hK] at c0 hk hpos
  have HK := Lib.hid hK
  clear hE hd hv c1 c2 hK
  go_enter Try.func73, Try.ntmps73
  go_wp2
  go_loopw [2] (fun i wr => ∃ (D2 : List Int) (m : Nat), i = .int .i64 ((m : Int) - 1) ∧ m ≤ K ∧ RowKit.Hid (EncD wr base g (.slice (some ⟨r, 0, none⟩) K c) D2 last less ∧ IsDig D2 ∧ D2.length = K ∧ valL D2 + P256 (K - m) = valL D + 1 ∧ Keeps (fun j => j = r) w wr)) (fun i _ => (intOf i + 1).toNat)
  case atStart => exact ⟨D, K, rfl, Nat.le_refl _, by rw [HK.out]; exact H0.out, HD.out, HK.out.symm, by rw [Nat.sub_self]; exact rfl, Keeps.refl _ _⟩
  case round =>
    obtain ⟨D2, m, rfl, hm, H⟩ := hrel
    clear c0
    obtain ⟨c0, _, _⟩ := H.out.1.cells
    by_cases hz : m = 0
    · exfalso
      have h1 := H.out.2.2.2.1
      have h2 := (valL_lt H.out.2.1).1
      have h3 := HV.out
      rw [hz, Nat.sub_zero] at h1
      rw [← HK.out] at h3
      omega
    · obtain ⟨p, hp⟩ : ∃ p, m = p + 1 := ⟨m - 1, by omega⟩
      have hp0 : (m : Int) - 1 = (p : Int) := by omega
      rw [hp0]
      have hpK : (p : Int) < (K : Int) := by omega
      obtain ⟨i1, f1⟩ := H.out.1.row H.out.2.2.1 (j := p) (by omega)
      have hxd := H.out.2.1 p (by rw [H.out.2.2.1]; omega)
      obtain ⟨x, hx⟩ : ∃ x, x = D2.getD p 0 := ⟨_, rfl⟩
      rw [← hx] at i1 hxd
      obtain ⟨x0, x1⟩ := hxd
      have HX := Lib.hid hx
      have HM := Lib.hid hp
      clear hx
      by_cases hf : x = 255
      · have g1 : IntKind.u8.wrap (x + 1) = 0 := by rw [hf]; decide
        have h1 := Lib.hid (carry_full (V := valL D + 1) H.out.2.1 H.out.2.2.1 (p := p) (by omega) (by rw [← HX.out]; exact hf) (by have := H.out.2.2.2.1; rw [HM.out] at this; exact this))
        have h2 := Lib.hid (H.out.1.setRow H.out.2.2.1 p 0)
        have h3 := Lib.hid (H.out.2.2.2.2.setCell (p := ⟨r, p, none⟩) (.inl rfl) (.int .u8 0))
        obtain ⟨e0, _, _⟩ := h2.out.cells
        obtain ⟨e1, _⟩ := h2.out.row (by rw [List.length_set]; exact H.out.2.2.1) (j := p) (by omega)
        rw [getD_set' D2 p p _ (by rw [H.out.2.2.1]; omega), if_pos rfl] at e1
        clear hf hz hp hp0
        go_wp2
        go_roundw
        case rel => exact ⟨D2.set p 0, p, rfl, by omega, h2.out, h1.out.1, h1.out.2.1, h1.out.2.2, h3.out⟩
        case measure => simp [intOf] <;> omega
      · have g1 : IntKind.u8.wrap (x + 1) = x + 1 := IntWalk.u8_in _ (by omega)
        have g2 : (x + 1 != 0) = true := by simp; omega
        have h1 := Lib.hid (carry_done (V := valL D + 1) H.out.2.1 H.out.2.2.1 (p := p) (by omega) (by rw [← HX.out]; omega) (by have := H.out.2.2.2.1; rw [HM.out] at this; exact this))
        have h2 := Lib.hid (H.out.1.setRow H.out.2.2.1 p (x + 1))
        have h3 := Lib.hid (H.out.2.2.2.2.setCell (p := ⟨r, p, none⟩) (.inl rfl) (.int .u8 (x + 1)))
        obtain ⟨e0, _, _⟩ := h2.out.cells
        obtain ⟨e1, _⟩ := h2.out.row (by rw [List.length_set]; exact H.out.2.2.1) (j := p) (by omega)
        rw [getD_set' D2 p p _ (by rw [H.out.2.2.1]; omega), if_pos rfl] at e1
        clear hf hz hp hp0
        go_wp2
        refine bodyPost_ret (v := .tuple #[]) (by simp [results, Try.results73]) rfl ⟨rfl, D2.set p (x + 1), ?_, ?_, ?_, ?_, ?_⟩
        · rw [← HK.out]; exact h2.out
        · rw [HX.out]; exact h1.out.1
        · rw [HX.out, ← HK.out]; exact h1.out.2.1
        · rw [HX.out]; exact h1.out.2.2
        · exact h3.out.mono fun j hj => by rw [hj]; rfl
end Go.Proofs.Ytgnmnmjicjcffaa
