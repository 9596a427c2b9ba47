/- What a ring's Join gives. -/
import Derived.Test.YtfnmdaoehnafcaaRigA
import Derived.Deep.QuietTactic
import Derived.BigQuiet
namespace Go.Proofs.Ytfnmdaoehnafcaa
open Go.RowKit
set_option linter.unusedVariables false
set_option linter.unusedSimpArgs false

/-- The place that is told. -/
def joinV (v : Int) : Int := if 0 ≤ v then v else 0
set_option maxRecDepth 100000 in
theorem rgJoin_nil (w : World) : Calls Try.prog 11 #[.pointer none] w fun e w' => e = .returned (.tuple #[.int .i64 0, .bool false]) ∧ w' = w := by
  have HE := Lib.hid (rgEnds_nil w)
  go_enter Try.func11, Try.ntmps11
  go_wp2_with (go_at_call 10; go_loud (refine HE.out.mono ?_); rintro e w2 ⟨rfl, rfl⟩)
  go_loop [6] (fun i => i = .int .i64 (-1)) (fun _ => 0)
  case atStart => first | rfl | exact ⟨rfl⟩
  case round =>
    subst hrel
    go_wp2
    go_ret2
    exact ⟨rfl, rfl⟩
set_option maxRecDepth 100000 in
set_option maxHeartbeats 2000000 in
theorem rgJoin_any (g n : Nat) (ps : List Pk) (D : Nat → Prop) (w : World) (h : RgAt w g n ps D) (hN : ps.length ≤ 1000000) :
    Calls Try.prog 11 #[.pointer (some ⟨g, 0, none⟩)] w fun e w' => e = .returned (.tuple #[.int .i64 (joinV (lastW ps (firstP n ps.length) ps.length)), .bool (decide (0 ≤ lastW ps (firstP n ps.length) ps.length))]) ∧ ∃ k, w' = w.drewN k := by
  obtain ⟨k0, k1⟩ := h.head
  have n1 := h.n1
  have n2 := h.n2
  obtain ⟨m, hm⟩ : ∃ m, ps.length = m := ⟨_, rfl⟩
  have HA : RowKit.Hid (∀ i, i < m → m ≤ i + n → ∃ (p : Pk) (q : Nat), ps[i]? = some p ∧ w.cell? ⟨g, 2 + i % n, none⟩ = some (.pointer (some ⟨q, 0, none⟩)) ∧ w.cell? ⟨q, 2, none⟩ = some (.bool p.wh)) := by
    intro i hi hn
    have hp : ps[i]? = some ps[i] := List.getElem?_eq_getElem (by omega)
    obtain ⟨q, a, c, kq, _, hq, _⟩ := h.at_ hp (by omega)
    exact ⟨ps[i], q, hp, kq, hq.cell 2⟩
  rw [hm] at k1 hN ⊢
  have HE := Lib.hid (rgEnds_any g n m w k0 k1 n2 (by omega))
  have HSl : RowKit.Hid (∀ (i : Nat) (W : World), W.cell? ⟨g, 0, none⟩ = some (.int .i64 n) → i ≤ 2000000 → Calls Try.prog 13 #[.pointer (some ⟨g, 0, none⟩), .int .i64 i] W fun e w' => e = .returned (.int .i64 ((i % n : Nat) : Int)) ∧ w' = W) := fun i W hW hi => (rgSlot_any g n i W hW n1 n2 hi).mono fun _ _ h => ⟨h.1, h.2.symm⟩
  obtain ⟨f, hf⟩ : ∃ f, firstP n m = f := ⟨_, rfl⟩
  have hfm : f ≤ m := by rw [← hf]; unfold firstP; omega
  have HF : RowKit.Hid (∀ i, f ≤ i → m ≤ i + n) := by intro i hi; rw [← hf] at hi; unfold firstP at hi; omega
  rw [hf] at HE ⊢
  have e1 : IntKind.i64.wrap ((m : Int) - 1) = (m : Int) - 1 := IntWalk.i64_in _ (by omega)
  clear h hm hf k1
  go_enter Try.func11, Try.ntmps11
  go_wp2_with (go_at_call 10; go_loud (refine HE.out.mono ?_); rintro e w2 ⟨rfl, x0, rfl⟩)
  go_loopw [6] (fun i wr => ∃ k : Nat, f ≤ k ∧ k ≤ m ∧ i = .int .i64 ((k : Int) - 1) ∧ RowKit.Hid (lastW ps f m = lastW ps f k ∧ ∃ x, wr = w.drewN x)) (fun i _ => (intOf i + 1).toNat - f)
  case atStart => exact ⟨m, hfm, Nat.le_refl _, rfl, rfl, x0, rfl⟩
  case round =>
    obtain ⟨k, hk, hkm, rfl, H⟩ := hrel
    obtain ⟨hl, x, rfl⟩ := H.out
    have HLw := Lib.hid hl
    clear H hl
    by_cases hlt : f < k
    · obtain ⟨j, rfl⟩ : ∃ j, k = j + 1 := ⟨k - 1, by omega⟩
      have ej : (((j + 1 : Nat) : Int) - 1) = (j : Int) := by omega
      obtain ⟨p, q, hp, kq, kw⟩ := HA.out j (by omega) (HF.out j (by omega))
      have HP := Lib.hid hp
      have hsn : j % n < n := Nat.mod_lt _ n1
      have HSj := Lib.hid (fun W hW => HSl.out j W hW (by omega))
      generalize j % n = s at kq hsn HSj
      have qs : (s : Int) < 1024 := by omega
      have qj : decide (f ≤ j) = true := by simp; omega
      have e2 : IntKind.i64.wrap ((j : Int) - 1) = (j : Int) - 1 := IntWalk.i64_in _ (by omega)
      obtain ⟨wq, hwq⟩ : ∃ wq, w.drewN x = wq := ⟨_, rfl⟩
      have HWq : RowKit.Hid (∀ y, ∃ k, wq.drewN y = w.drewN k) := by
        intro y
        rw [← hwq]
        exact ⟨x + y, by simp [World.drewN, Nat.add_assoc]⟩
      have k0 : wq.cell? ⟨g, 0, none⟩ = some (.int .i64 n) := by rw [← hwq]; exact k0
      have kq : wq.cell? ⟨g, 2 + s, none⟩ = some (.pointer (some ⟨q, 0, none⟩)) := by rw [← hwq]; exact kq
      have kw : wq.cell? ⟨q, 2, none⟩ = some (.bool p.wh) := by rw [← hwq]; exact kw
      rw [ej, hwq]
      clear hp ej HSl HA HE hwq
      go_wp2
      go_quiet ((go_at_call 13; exact Calls.quiet_of_same (HSj.out _ k0)))
      cases hw : p.wh with
      | true =>
        go_wp2
        go_ret2
        have e0 : lastW ps f m = (j : Int) := by rw [HLw.out]; exact lastW_yes (by omega) HP.out hw
        refine ⟨?_, HWq.out _⟩
        rw [e0]
        simp [joinV]
      | false =>
        go_wp2
        go_roundw
        case rel => exact ⟨j, by omega, by omega, rfl, HLw.out.trans (lastW_no HP.out hw), HWq.out _⟩
        case measure => simp [intOf]; omega
    · obtain rfl : k = f := by omega
      have e0 : lastW ps k m = -1 := by rw [HLw.out]; exact lastW_none (Nat.le_refl _)
      have hd : decide ((k : Int) ≤ (k : Int) - 1) = false := by simp; omega
      go_wp2
      go_ret2
      exact ⟨by rw [e0]; rfl, _, rfl⟩
end Go.Proofs.Ytfnmdaoehnafcaa
