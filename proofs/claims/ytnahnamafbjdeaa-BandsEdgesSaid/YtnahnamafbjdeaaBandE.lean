/- The walk of the statement on edges and bands, by the contracts of the functions that it calls. -/
import Derived.Test.YtnahnamafbjdeaaBandL
import Derived.Deep.QuietTactic
import Derived.BigQuiet
namespace Go.Proofs.Ytnahnamafbjdeaa
open Go.RowKit
set_option linter.unusedVariables false

set_option maxRecDepth 100000 in
theorem bandsEdges_law (line : Int) (w0 : (Lit.int .i64 line).wf = true) (w : World) :
    Calls Try.prog 4 #[.int .i64 line] w fun e w' => e = .returned (.bool true) ∧ Below w.heap.size w w' := by
  obtain ⟨i0, i1⟩ := bounds_i64 w0
  clear w0
  have hB := Lib.hid (Below.refl w.heap.size w)
  obtain ⟨t0, t1⟩ := tmod_bd (n := line) (d := 600) (by decide)
  obtain ⟨t, ht⟩ : ∃ t, line.tmod 600 = t := ⟨_, rfl⟩
  rw [ht] at t0 t1
  go_enter Try.func4, Try.ntmps4
  go_wp2_with (first | (go_at_call 6; ((with_reducible refine (lives04_any _).mono ?_)); rintro e w1 ⟨rfl, hb⟩; replace hB := Lib.hid (chain hB.out hb); clear hb) | (go_at_call 13; ((with_reducible refine (bandsEdges_any _).mono ?_)); rintro e w1 ⟨a1, c1, rfl, hi1, hb⟩; replace hB := Lib.hid (chain hB.out hb); clear hb; have H1 := Lib.hid hi1; clear hi1) | (go_at_call 14; ((with_reducible refine (ref04Edges_any _).mono ?_)); rintro e w2 ⟨a2, c2, rfl, hi2, hb⟩; replace H1 := Lib.hid ((H1.out.below hb).grow hb.size); replace hB := Lib.hid (chain hB.out hb); clear hb; have H2 := Lib.hid hi2; clear hi2))
  obtain ⟨b1, o1, rfl⟩ := ints_some H1.out (by decide)
  obtain ⟨b2, o2, rfl⟩ := ints_some H2.out (by decide)
  go_loopw [5, 23] (fun _ k wr => ∃ n : Nat, n ≤ 22 ∧ k = .int .i64 n ∧ RowKit.Hid (IntsAt wr wr.heap.size .i64 (some ⟨b1, o1, none⟩) 22 edgesL ∧ IntsAt wr wr.heap.size .i64 (some ⟨b2, o2, none⟩) 22 edgesL ∧ Below w.heap.size w wr)) (fun _ k _ => (22 - intOf k).toNat)
  case atStart => exact ⟨0, by omega, rfl, H1.out, H2.out, hB.out⟩
  case round =>
    obtain ⟨n, hn, rfl, H⟩ := hrel
    clear H1 H2 hB
    by_cases hlt : n < 22
    · have c1 := ints_cell H.out.1 hlt
      have c2 := ints_cell H.out.2.1 hlt
      generalize edgesL.getD n 0 = x at c1 c2
      have g5 : (n : Int) < 22 := by omega
      go_wp2
      go_quiet (fail)
      go_wp2
      go_roundw
      case rel => exact ⟨n + 1, by omega, by go_num, H.out.1, H.out.2.1, Below.drewN' H.out.2.2 _⟩
      case measure => simp [intOf] <;> omega
    · have hsz := H.out.2.2.size
      have HB := Lib.hid (H.out.2.2.alloc hsz (.cells #[.int .i64 line, .int .i64 t] 3))
      have HL := Lib.hid (lit_ints wr 3 .i64 [line, t] #[.int .i64 line, .int .i64 t] (0, 0) rfl (by simp))
      have H2 := Lib.hid ((H.out.2.1.below (Below.alloc_new wr (.cells #[.int .i64 line, .int .i64 t] 3))).grow (by simp : wr.heap.size ≤ (wr.alloc (.cells #[.int .i64 line, .int .i64 t] 3)).heap.size))
      clear H
      go_wp2
      go_loopw [7, 8, 41] (fun _ _ k wq => ∃ n : Nat, n ≤ 2 ∧ k = .int .i64 n ∧ RowKit.Hid (IntsAt wq wq.heap.size .i64 (some ⟨wr.heap.size, 0, none⟩) 2 [line, t] ∧ IntsAt wq wq.heap.size .i64 (some ⟨b2, o2, none⟩) 22 edgesL ∧ Below w.heap.size w wq)) (fun _ _ k _ => (2 - intOf k).toNat)
      case atStart => exact ⟨0, by omega, rfl, HL.out, H2.out, HB.out⟩
      case round =>
        obtain ⟨n, hn, rfl, H⟩ := hrel
        clear HB HL H2
        by_cases hlt : n < 2
        · have c1 := ints_cell H.out.1 hlt
          rw [Nat.zero_add] at c1
          obtain ⟨x0, x1⟩ : -9223372036854775808 ≤ ([line, t] : List Int).getD n 0 ∧ ([line, t] : List Int).getD n 0 ≤ 9223372036854775807 := by
            have : n = 0 ∨ n = 1 := by omega
            rcases this with rfl | rfl <;> simp <;> omega
          generalize ([line, t] : List Int).getD n 0 = x at c1 x0 x1
          by_cases hout : x < 0 ∨ 512 ≤ x
          · have e := of_out hout
            rcases hout with hout | hout
            all_goals
              go_wp2_with (go_at_call 15; ((with_reducible refine (bandsOf_any _ _ (by omega) (by omega)).mono ?_)); rintro e w3 ⟨rfl, hb⟩; replace H := Lib.hid (And.intro ((H.out.1.below hb).grow hb.size) (And.intro ((H.out.2.1.below hb).grow hb.size) (H.out.2.2.trans (hb.mono H.out.2.2.size)))); clear hb)
              go_roundw
              case rel => exact ⟨n + 1, by omega, by go_num, H.out⟩
              case measure => simp [intOf] <;> omega
          · obtain ⟨k, k21, e, e1, e2⟩ := of_in (x := x) (by omega) (by omega)
            have y0 : 0 ≤ x := by omega
            have y1 : x < 512 := by omega
            clear hout
            go_wp2_with (go_at_call 15; ((with_reducible refine (bandsOf_any _ _ (by omega) (by omega)).mono ?_)); rintro e w3 ⟨rfl, hb⟩; replace H := Lib.hid (And.intro ((H.out.1.below hb).grow hb.size) (And.intro ((H.out.2.1.below hb).grow hb.size) (H.out.2.2.trans (hb.mono H.out.2.2.size)))); have d1 := ints_cell H.out.2.1 (j := k) (by omega); have d2 := ints_cell H.out.2.1 (j := k + 1) (by omega); have E1 : edgesL.getD k 0 = edgeN k := rfl; have E2 : edgesL.getD (k + 1) 0 = edgeN (k + 1) := rfl; rw [E1] at d1; rw [E2] at d2; clear E1 E2; clear hb)
            go_roundw
            case rel => exact ⟨n + 1, by omega, by go_num, H.out⟩
            case measure => simp [intOf] <;> omega
        · go_wp2
          go_ret
          exact ⟨rfl, H.out.2.2⟩
end Go.Proofs.Ytnahnamafbjdeaa
