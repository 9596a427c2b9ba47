/- Plain facts, and what functions give, for the proofs of this seat: several texts in one, each with its own first remark. -/
import Derived.Test.YtkhhhejmbgloeaaGreatGI

/- The walk of CoderNear. -/
namespace Go.Proofs.YtkhhhejmbgloeaaGreat
open Go Go.RowKit
set_option linter.unusedVariables false
set_option linter.unusedSimpArgs false
set_option maxRecDepth 100000

set_option maxHeartbeats 40000000 in
theorem coderNear_law (a a2 : Option Addr) (len cap len2 cap2 : Nat) (x0 x1 : Int) (zs : List Int) (bs : Nat → Bool) (w : World) (hz : IntsAt w w.heap.size .i16 a len zs) (hzb : ∀ j, -32768 ≤ zs.getD j 0 ∧ zs.getD j 0 ≤ 32767) (hbs : BoolsAt w w.heap.size a2 len2 bs) (hl : len ≤ 3000) (hl2 : len2 ≤ 6)
    (X0 : -9223372036854775808 ≤ x0 ∧ x0 ≤ 9223372036854775807) (X1 : -9223372036854775808 ≤ x1 ∧ x1 ≤ 9223372036854775807) :
    Calls Tryz.prog 4 #[.slice a len cap, .agg #[.int .i64 x0, .int .i64 x1], .slice a2 len2 cap2] w fun e w' => e = .returned (.bool true) ∧ Below w.heap.size w w' := by
  have HB := Lib.hid (Below.alloc_new w (.cells #[.int .i64 x0, .int .i64 x1] 23))
  have HC := Lib.hid (Cel.new w 23 #[.int .i64 x0, .int .i64 x1])
  have HZ := Lib.hid hz
  have HZb := Lib.hid hzb
  have HBs := Lib.hid hbs
  have hd : decide ((3000 : Int) < (len : Int)) = false := by simp; omega
  have hd2 : decide ((6 : Int) < (len2 : Int)) = false := by simp; omega
  clear hz hbs hzb
  go_enter Tryz.func4, Tryz.ntmps4
  go_wp2_with (go_at_call 6; go_loud (refine (lives13_any _).mono ?_); rintro e w1 ⟨rfl, hb⟩; have HC1 := Lib.hid (HC.out.below hb); replace HB := Lib.hid (chain HB.out hb); clear hb; have e0 : w1.cell? ⟨w.heap.size, 0, none⟩ = some (.int .i64 x0) := HC1.out.cell 0; have e1 : w1.cell? ⟨w.heap.size, 1, none⟩ = some (.int .i64 x1) := HC1.out.cell 1)
  go_quiet (fail)
  obtain ⟨Q, hQ, q0, q1⟩ := set_wrap x0 10 1 (by decide) (by decide) (by decide) (by decide)
  obtain ⟨Bi, hBi, b0, b1⟩ := set_wrap x1 569 32 (by decide) (by decide) (by decide) (by decide)
  obtain ⟨B, rfl⟩ : ∃ B : Nat, Bi = (B : Int) := ⟨Bi.toNat, by omega⟩
  rw [hQ, hBi]
  clear hQ hBi e0 e1
  have hQq := Lib.hid (show 1 ≤ Q ∧ Q ≤ 10 by omega)
  have hBb := Lib.hid (show 32 ≤ B ∧ B ≤ 600 by omega)
  replace HB : RowKit.Hid (Below w.heap.size w (w1.drewN nq)) := Below.drewN' HB.out nq
  generalize w1.drewN nq = w2 at HB ⊢
  clear HC1 HC hd hd2 X0 X1
  go_wp2_with (go_at_call 7; go_loud (refine (cNew_any Q B _ hQq.out.1 hQq.out.2 hBb.out.1 hBb.out.2).mono ?_); rintro e w3 ⟨g, ea, s, rfl, h3, s1, s2, s3, b3⟩; have H0 : RowKit.Hid (St13 zs len w g ea s Q B 0 s13Zero w3) := ⟨chain HB.out b3, h3, NearSt.zero zs len, Nat.le_trans HB.out.size s1, Nat.le_trans HB.out.size s2, Nat.le_trans HB.out.size s3⟩; clear h3 s1 s2 s3 b3)
  go_loopw [11, 59] (fun u i wr => ∃ t S, t ≤ len2 ∧ i = .int .i64 ((t : Nat) : Int) ∧ u = .int .i64 (S13.R S) ∧ RowKit.Hid (St13 zs len w g ea s Q B t S wr)) (fun _ i _ => len2 - (intOf i).toNat)
  case atStart => exact ⟨0, s13Zero, by omega, rfl, rfl, H0.out⟩
  case round =>
    obtain ⟨t, S, ht, rfl, rfl, H⟩ := hrel
    clear H0
    by_cases hlt : t < len2
    · obtain ⟨bb, bo, rfl, bbl, hbc⟩ := HBs.out.at_ hlt
      have k1 := (H.out.b.cell (p := ⟨bb, bo + t, none⟩) bbl).trans (hbc t hlt)
      have HBc := Lib.hid hbc
      clear hbc
      generalize bs t = b at k1
      obtain ⟨z, hz⟩ : ∃ z, z = decide (t = 0) := ⟨_, rfl⟩
      have HFS : RowKit.Hid (S.fs = z) := by rw [hz]; exact H.out.n.fs
      have hz2 : ((t : Int) == 0) = z := by rw [hz]; cases t <;> simp <;> omega
      have HOk := Lib.hid (S.F_ok (Q := Q) (B := B) hQq.out hBb.out (frmF zs len (512 * t)) b)
      have HNx := Lib.hid (H.out.n.next HZb.out (Q := Q) (B := B) hQq.out hBb.out (t : Int) b)
      have HD : RowKit.Hid (∀ i, i < 512 → ((samplesF (briefF S.P (frmF zs len (512 * t))) ((S.F Q B (frmF zs len (512 * t)) b).held t) S.left i - strF zs len (512 * t + i)).natAbs : Int) ≤ (S.R + (S.next Q B (frmF zs len (512 * t)) t b).R) / 8 + 700) := fun i hi => H.out.n.heard HZb.out hQq.out hBb.out t b hi
      have HHd : RowKit.Hid ((S.next Q B (frmF zs len (512 * t)) t b).hd = some (samplesF (briefF S.P (frmF zs len (512 * t))) ((S.F Q B (frmF zs len (512 * t)) b).held t) S.left)) := rfl
      have HSb : RowKit.Hid (∀ i, -32768 ≤ samplesF (briefF S.P (frmF zs len (512 * t))) ((S.F Q B (frmF zs len (512 * t)) b).held t) S.left i ∧ samplesF (briefF S.P (frmF zs len (512 * t))) ((S.F Q B (frmF zs len (512 * t)) b).held t) S.left i ≤ 32767) := fun i => samples_16 _ _ _ i
      obtain ⟨S2, hS2⟩ : ∃ S2, S2 = S.next Q B (frmF zs len (512 * t)) t b := ⟨_, rfl⟩
      obtain ⟨Hf, hHf⟩ : ∃ Hf, Hf = samplesF (briefF S.P (frmF zs len (512 * t))) ((S.F Q B (frmF zs len (512 * t)) b).held t) S.left := ⟨_, rfl⟩
      obtain ⟨nb, hnb⟩ : ∃ nb, nb = (S.F Q B (frmF zs len (512 * t)) b).bytes.length := ⟨_, rfl⟩
      have HNB : RowKit.Hid ((S.F Q B (frmF zs len (512 * t)) b).bytes.length = nb) := hnb.symm
      have HS2 : RowKit.Hid (S.next Q B (frmF zs len (512 * t)) t b = S2) := hS2.symm
      have lnb : (nb : Int) ≤ (B : Int) := by have h1 := HOk.out.bytes_le; have h2 : (S.F Q B (frmF zs len (512 * t)) b).B = B := rfl; omega
      rw [← hS2] at HNx HHd HD
      rw [← hHf] at HHd HD HSb
      have hR1 := H.out.n.R
      have hR2 := HNx.out.R
      have HR1 : RowKit.Hid (S.R = S.R) := rfl
      obtain ⟨R1, hr1⟩ : ∃ R1, R1 = S.R := ⟨_, rfl⟩
      obtain ⟨R2, hr2⟩ : ∃ R2, R2 = S2.R := ⟨_, rfl⟩
      have HR2 : RowKit.Hid (S2.R = R2) := hr2.symm
      rw [← hr1, ← hr2] at HD
      rw [← hr1] at hR1 ⊢
      rw [← hr2] at hR2
      obtain ⟨M, hM⟩ : ∃ M, M = (R1 + R2) / 8 := ⟨_, rfl⟩
      rw [← hM] at HD
      have m1 : (R1 + R2).tdiv 8 = M := by rw [hM, Int.tdiv_eq_ediv_of_nonneg (by omega)]
      have m2 : (R1 + R2) / 8 = M := hM.symm
      have M0 : 0 ≤ M ∧ M ≤ 400000000000 := by omega
      have v1 : IntKind.i64.wrap (R1 + R2) = R1 + R2 := IntWalk.i64_in _ (by omega)
      have v2 : IntKind.i64.wrap (M + 700) = M + 700 := IntWalk.i64_in _ (by omega)
      have v3 : IntKind.u32.wrap (t : Int) = (t : Int) := IntWalk.u32_in _ (by omega)
      have HRb := Lib.hid (And.intro hR1 hR2)
      clear hz hS2 hHf hnb hr1 hr2 hM hR1 hR2 HR1
      obtain ⟨T, hT⟩ : ∃ T, T = 512 * t := ⟨_, rfl⟩
      have e1 : 512 * (t : Int) = (T : Int) := by omega
      have HTt := Lib.hid hT
      have T1 : T ≤ 3072 := by omega
      have l1 : (t : Int) < (len2 : Int) := by omega
      clear hT
      go_wp2_with (first
        | (go_at_call 11; go_loud (refine (frame13_any a len cap T zs wr (HZ.out.now H.out.b (Nat.le_refl _)) hl (by omega)).mono ?_); rintro e w5 ⟨x, rfl, i5, s5, z5⟩; rw [HTt.out] at i5; have HX := Lib.hid i5; have H5 := Lib.hid (H.out.now z5); clear i5 s5 z5)
        | (go_at_call 12; go_loud (refine (cEncode_any g ea s x Q B S (frmF zs len (512 * t)) t b _ H5.out.c H5.out.n.ok hQq.out hBb.out HX.out (fun i _ => frmF_bd HZb.out _ _) (by omega) (by omega)).mono ?_); rintro e w6 ⟨rr, cp, rfl, _, c6, k6⟩; rw [HNB.out, HFS.out]; have H6 : RowKit.Hid (St13 zs len w g ea s Q B (t + 1) S2 w6) := ⟨H5.out.b.trans (k6.below H5.out.b.size (fun j hj => by have := H5.out.o; rcases hj with e | e | e <;> omega)), by rw [← HS2.out]; exact c6, HNx.out, H5.out.o⟩; clear c6 k6)
        | (go_at_call 9; go_loud (refine (heardC_some H6.out.c HHd.out).mono ?_); rintro e w7 ⟨a7, c7, rfl, i7, b7⟩; have HI7 := Lib.hid i7; have H7 := Lib.hid (H6.out.now b7); clear i7 b7)
        | (go_at_call 10; go_loud (refine (reachC_any H7.out.c).mono ?_); rintro e w8 ⟨rfl, rfl⟩; rw [HR2.out]))
      all_goals
        go_loop [109] (fun i => ∃ k : Nat, k ≤ 512 ∧ i = .int .i64 (k : Int)) (fun i => 512 - (intOf i).toNat)
        case atStart => exact ⟨0, by omega, rfl⟩
        case round =>
          obtain ⟨k, hk, rfl⟩ := hrel
          by_cases hlk : k < 512
          · obtain ⟨b7, o7, rfl, _, _, k2⟩ := HI7.out.at_ hlk
            rw [tabF_getD _ hlk] at k2
            have D := HD.out k hlk
            have hs := strF_bd (len := len) HZb.out (512 * t + k)
            have hy := HSb.out k
            obtain ⟨sv, hS⟩ : ∃ sv, sv = strF zs len (512 * t + k) := ⟨_, rfl⟩
            rw [← hS] at D hs
            have HSv := Lib.hid hS
            generalize Hf k = y at k2 D hy
            obtain ⟨hs0, hs1⟩ := hs
            obtain ⟨y0, y1⟩ := hy
            have l3 : (k : Int) < 512 := by omega
            have n1 : IntKind.i64.wrap (-(M + 700)) = -(M + 700) := IntWalk.i64_in _ (by omega)
            clear hS
            by_cases c1 : T + k < 128
            · have z1 : (T : Int) + (k : Int) - 128 < 0 := by omega
              have hS0 : sv = 0 := by
                rw [HSv.out]; unfold strF; rw [if_pos (by have := HTt.out; omega)]
              have d0 : -(M + 700) ≤ y := by omega
              have d1 : y ≤ M + 700 := by omega
              clear D hS0 hs0 hs1
              go_wp2
              go_round
              case rel => exact ⟨k + 1, by omega, by go_num⟩
              case measure => simp [intOf] <;> omega
            · obtain ⟨N, hN⟩ : ∃ N, N + 128 = T + k := ⟨T + k - 128, by omega⟩
              have z1 : (T : Int) + (k : Int) - 128 = (N : Int) := by omega
              have hSf : sv = frmF zs len 0 N := by
                rw [HSv.out]; unfold strF; rw [if_neg (by have := HTt.out; omega), show 512 * t + k - 128 = N by have := HTt.out; omega]
              have HN1 : N ≤ 4000 := by omega
              clear hN
              by_cases hl0 : len = 0
              · have ll : ¬ 0 < (len : Int) := by omega
                have hS0 : sv = 0 := by rw [hSf]; unfold frmF; rw [if_pos hl0]
                have d0 : -(M + 700) ≤ y := by omega
                have d1 : y ≤ M + 700 := by omega
                clear D hS0 hs0 hs1 hSf hl0
                go_wp2
                go_round
                case rel => exact ⟨k + 1, by omega, by go_num⟩
                case measure => simp [intOf] <;> omega
              · obtain ⟨m, hm⟩ : ∃ m, m = N % len := ⟨_, rfl⟩
                have hml : m < len := by rw [hm]; exact Nat.mod_lt _ (by omega)
                have f3 : (N : Int) % (len : Int) = (m : Int) := by rw [hm]; rfl
                have f4 : (N : Int).tmod (len : Int) = (m : Int) := by rw [Int.tmod_eq_emod_of_nonneg (by omega)]; exact f3
                obtain ⟨ab, ao, rfl, abl, _, hc⟩ := HZ.out.at_ hml
                have k3 := (H7.out.b.cell (p := ⟨ab, ao + m, none⟩) abl).trans hc
                have hSz : sv = zs.getD m 0 := by rw [hSf]; unfold frmF; rw [if_neg hl0, Nat.zero_add, hm]
                rw [← hSz] at k3
                have d0 : -(M + 700) ≤ y - sv := by omega
                have d1 : y - sv ≤ M + 700 := by omega
                have l4 : (m : Int) < (len : Int) := by omega
                have l5 : ¬ (len : Int) = 0 := by omega
                have l6 : 0 < (len : Int) := by omega
                clear D hSz hSf hm hc hl0
                go_wp2
                go_round
                case rel => exact ⟨k + 1, by omega, by go_num⟩
                case measure => simp [intOf] <;> omega
          · have l3 : ¬ (k : Int) < 512 := by omega
            go_wp2_with (go_at_call 10; go_loud (refine (reachC_any H7.out.c).mono ?_); rintro e w8 ⟨rfl, rfl⟩)
            go_roundw
            case rel => exact ⟨t + 1, S2, by omega, by go_num, rfl, H7.out⟩
            case measure => simp [intOf] <;> omega
    · have l1 : ¬ (t : Int) < (len2 : Int) := by omega
      have Z := Lib.hid H.out.b
      clear H
      go_wp2
      go_ret
      exact ⟨rfl, Z.out⟩
end Go.Proofs.YtkhhhejmbgloeaaGreat

/- The walk of CoderArgs. -/
namespace Go.Proofs.YtkhhhejmbgloeaaGreat
open Go Go.RowKit
set_option linter.unusedVariables false
set_option linter.unusedSimpArgs false
set_option maxRecDepth 100000

def fourF (m : Int) (i : Nat) : Int := if i = 0 then m else if i = 1 then 33554432 else if i = 2 then -33554432 else -33554433
theorem four_row (w : World) (m : Int) : IFun (w.alloc (.cells #[.int .i32 m, .int .i32 33554432, .int .i32 (-33554432), .int .i32 (-33554433)] 21)) w.heap.size 21 .i32 4 (fourF m) := Cel.new w _ _
theorem four_at {w : World} {g : Nat} {m : Int} (h : w.heap.size = g) : IFun (w.alloc (.cells #[.int .i32 m, .int .i32 33554432, .int .i32 (-33554432), .int .i32 (-33554433)] 21)) g 21 .i32 4 (fourF m) := h ▸ four_row w m
theorem four_held (m : Int) : heldF (fourF m) 0 = max (-33554432) (min m 33554431) ∧ heldF (fourF m) 1 = 33554431 ∧ heldF (fourF m) 2 = -33554432 ∧ heldF (fourF m) 3 = -33554432 := by
  refine ⟨(heldF_max _ _).symm, ?_, ?_, ?_⟩
  · rw [← heldF_max]; rfl
  · rw [← heldF_max]; rfl
  · rw [← heldF_max]; rfl
theorem wrap_1100 (n : Int) : ∃ k : Nat, wrap64 ((IntKind.u64.wrap n).tmod 1100) = (k : Int) ∧ k < 1100 := by
  have h : IntKind.u64.wrap n = n % 18446744073709551616 := rfl
  have h0 : 0 ≤ n % 18446744073709551616 := Int.emod_nonneg _ (by decide)
  have e : (IntKind.u64.wrap n).tmod 1100 = n % 18446744073709551616 % 1100 := by rw [h, Int.tmod_eq_emod_of_nonneg h0]
  refine ⟨(n % 18446744073709551616 % 1100).toNat, ?_, by omega⟩
  rw [e, IntWalk.wrap64_in _ (by omega)]
  omega
set_option maxHeartbeats 2000000 in
theorem coderArgs_law (q b n : Int) (w : World) (hq : -9223372036854775808 ≤ q ∧ q ≤ 9223372036854775807) (hb : -9223372036854775808 ≤ b ∧ b ≤ 9223372036854775807) (hn : -9223372036854775808 ≤ n ∧ n ≤ 9223372036854775807) :
    Calls Tryz.prog 5 #[.int .i64 q, .int .i64 b, .int .i64 n] w fun e w' => e = .returned (.bool true) ∧ Below w.heap.size w w' := by
  have HB := Lib.hid (Below.refl w.heap.size w)
  have hmk : ∀ (k : Nat) (w : World), k ≤ 1100 → (Instr.makeSlice 22 (.int .i64 (k : Int)) (.int .i64 (k : Int))).run Tryz.prog w = .ok (.slice (some ⟨w.heap.size, 0, none⟩) k k) (w.alloc (.cells (madeCells #[.int .i16 0] k) 48)) :=
    fun k w hk => make_zeros (P := Tryz.prog) Tryz.underlying22 infoC_i16 k (by omega) (by omega) w
  have HZr : RowKit.Hid (∀ (k : Nat) (w : World), IFun (w.alloc (.cells (madeCells #[.int .i16 0] k) 48)) w.heap.size 48 .i16 k (fun _ => 0)) := fun k w => IFun.zeros w 48 .i16 k
  obtain ⟨k, hk, hk2⟩ := wrap_1100 n
  obtain ⟨m, hm⟩ : ∃ m, m = IntKind.i32.wrap n := ⟨_, rfl⟩
  have hmb : -2147483648 ≤ m ∧ m ≤ 2147483647 := by
    rw [hm, IntKind.wrap_i32]
    omega
  have hw : IntKind.i32.wrap n = m := hm.symm
  have hw2 : wrap32 n = m := by rw [← IntWalk.i32_left]; exact hw
  have mk512 : ∀ w : World, (Instr.makeSlice 22 (.int .i64 512) (.int .i64 512)).run Tryz.prog w = .ok (.slice (some ⟨w.heap.size, 0, none⟩) 512 512) (w.alloc (.cells (madeCells #[.int .i16 0] 512) 48)) := fun w => hmk 512 w (by decide)
  have mkk : ∀ w : World, (Instr.makeSlice 22 (.int .i64 (k : Int)) (.int .i64 (k : Int))).run Tryz.prog w = .ok (.slice (some ⟨w.heap.size, 0, none⟩) k k) (w.alloc (.cells (madeCells #[.int .i16 0] k) 48)) := fun w => hmk k w (by omega)
  clear hm hmk
  have HFH := Lib.hid (four_held m)
  have HFb : RowKit.Hid (∀ j, j < 4 → -2147483648 ≤ fourF m j ∧ fourF m j ≤ 2147483647) := fun j hj => by
    unfold fourF
    split
    · exact hmb
    · split
      · decide
      · split <;> decide
  by_cases hk5 : k = 512
  · subst hk5
    by_cases ok : 1 ≤ q ∧ q ≤ 10 ∧ 32 ≤ b ∧ b ≤ 600
    · obtain ⟨o1, o2, o3, o4⟩ := ok
      obtain ⟨B, rfl⟩ : ∃ B : Nat, b = (B : Int) := ⟨b.toNat, by omega⟩
      go_enter Tryz.func5, Tryz.ntmps5
      go_wp2_with (first
        | (go_at_call 6; go_loud (refine (lives13_any _).mono ?_); rintro e w1 ⟨rfl, hb⟩; have HB1 := Lib.hid (chain HB.out hb); clear hb)
        | (go_at_call 7; have hg3 := HB3.out; clear hg3; go_loud (refine (cNew_any 3 99 _ (by decide) (by decide) (by decide) (by decide)).mono ?_); rintro e w4 ⟨g4, a4, s4, rfl, h4, y1, y2, y3, b4⟩; have H4 := Lib.hid h4; have HB4 := Lib.hid (chain HB3.out b4); have HG4 : RowKit.Hid (w.heap.size ≤ g4 ∧ w.heap.size ≤ a4 ∧ w.heap.size ≤ s4) := ⟨Nat.le_trans HB3.out.size y1, Nat.le_trans HB3.out.size y2, Nat.le_trans HB3.out.size y3⟩; clear h4 y1 y2 y3 b4)
        | (go_at_call 7; have hg1 := HB1.out; clear hg1; go_loud (refine (cNew_any q B _ o1 o2 (by omega) (by omega)).mono ?_); rintro e w2 ⟨g2, a2, s2, rfl, _, _, _, _, b2⟩; have HB2 := Lib.hid (chain HB1.out b2); clear b2)
        | (go_at_call 12; have HA5 := Lib.hid (Below.alloc_new w4 (.cells (madeCells #[.int .i16 0] 512) 48)); go_loud (refine (cEncode_any g4 a4 s4 w4.heap.size 3 99 s13Zero (fun _ => 0) 0 true _ (H4.out.below HA5.out) s13Zero_ok (by decide) (by decide) (HZr.out 512 w4) (fun _ _ => by decide) (by decide) (by decide)).mono ?_); rintro e w5 ⟨r5, c5, rfl, _, _, k5⟩; have HB5 : RowKit.Hid (Below w.heap.size w w5) := (chain HB4.out HA5.out).trans (k5.below (chain HB4.out HA5.out).size (fun j hj => by have hg := HG4.out; rcases hj with e | e | e <;> omega)); clear k5)
        | (go_at_call 12; go_loud (refine (cEncode_nil _ _ _ _ _ _).mono ?_); rintro e w3 ⟨rfl, rfl⟩; have HB3 := Lib.hid (chain HB2.out (Below.alloc_new _ (.cells (madeCells #[.int .i16 0] 512) 48))))
        | (go_at_call 15; go_loud (refine (cHeld_any _ 4 4 (fourF m) _ (four_at (by first | rfl | simp [alloc_size])) HFb.out (by decide)).mono ?_); rintro e w6 ⟨g6, rfl, i6, _, b6⟩; have HB6 : RowKit.Hid (Below w.heap.size w w6) := chain (chain HB5.out (Below.alloc_new _ _)) b6; have k0 := i6.cell (j := 0) (by decide); have k1 := i6.cell (j := 1) (by decide); have k2 := i6.cell (j := 2) (by decide); have k3 := i6.cell (j := 3) (by decide); rw [HFH.out.1] at k0; rw [HFH.out.2.1] at k1; rw [HFH.out.2.2.1] at k2; rw [HFH.out.2.2.2] at k3; clear i6 b6)
        | (go_at_call 9; go_loud (refine (cHeard_nil _).mono ?_); rintro e w7 ⟨rfl, rfl⟩)
        | (go_at_call 10; go_loud (refine (cReach_nil _).mono ?_); rintro e w7 ⟨rfl, rfl⟩))
      all_goals (go_ret; exact ⟨rfl, HB6.out⟩)
    · have HNo := Lib.hid ok
      have o : q < 1 ∨ (¬ q < 1 ∧ 10 < q) ∨ (¬ q < 1 ∧ ¬ 10 < q ∧ b < 32) ∨ (¬ q < 1 ∧ ¬ 10 < q ∧ ¬ b < 32 ∧ 600 < b) := by omega
      clear ok
      rcases o with o1 | ⟨o1, o2⟩ | ⟨o1, o2, o3⟩ | ⟨o1, o2, o3, o4⟩
      all_goals
        go_enter Tryz.func5, Tryz.ntmps5
        go_wp2_with (first
          | (go_at_call 6; go_loud (refine (lives13_any _).mono ?_); rintro e w1 ⟨rfl, hb⟩; have HB1 := Lib.hid (chain HB.out hb); clear hb)
          | (go_at_call 7; have hg3 := HB3.out; clear hg3; go_loud (refine (cNew_any 3 99 _ (by decide) (by decide) (by decide) (by decide)).mono ?_); rintro e w4 ⟨g4, a4, s4, rfl, h4, y1, y2, y3, b4⟩; have H4 := Lib.hid h4; have HB4 := Lib.hid (chain HB3.out b4); have HG4 : RowKit.Hid (w.heap.size ≤ g4 ∧ w.heap.size ≤ a4 ∧ w.heap.size ≤ s4) := ⟨Nat.le_trans HB3.out.size y1, Nat.le_trans HB3.out.size y2, Nat.le_trans HB3.out.size y3⟩; clear h4 y1 y2 y3 b4)
          | (go_at_call 7; have hg1 := HB1.out; clear hg1; go_loud (refine (cNew_no q b _ HNo.out).mono ?_); rintro e w2 ⟨rfl, rfl⟩; have HB2 := Lib.hid HB1.out)
          | (go_at_call 12; have HA5 := Lib.hid (Below.alloc_new w4 (.cells (madeCells #[.int .i16 0] 512) 48)); go_loud (refine (cEncode_any g4 a4 s4 w4.heap.size 3 99 s13Zero (fun _ => 0) 0 true _ (H4.out.below HA5.out) s13Zero_ok (by decide) (by decide) (HZr.out 512 w4) (fun _ _ => by decide) (by decide) (by decide)).mono ?_); rintro e w5 ⟨r5, c5, rfl, _, _, k5⟩; have HB5 : RowKit.Hid (Below w.heap.size w w5) := (chain HB4.out HA5.out).trans (k5.below (chain HB4.out HA5.out).size (fun j hj => by have hg := HG4.out; rcases hj with e | e | e <;> omega)); clear k5)
          | (go_at_call 12; go_loud (refine (cEncode_nil _ _ _ _ _ _).mono ?_); rintro e w3 ⟨rfl, rfl⟩; have HB3 := Lib.hid (chain HB2.out (Below.alloc_new _ (.cells (madeCells #[.int .i16 0] 512) 48))))
          | (go_at_call 15; go_loud (refine (cHeld_any _ 4 4 (fourF m) _ (four_at (by first | rfl | simp [alloc_size])) HFb.out (by decide)).mono ?_); rintro e w6 ⟨g6, rfl, i6, _, b6⟩; have HB6 : RowKit.Hid (Below w.heap.size w w6) := chain (chain HB5.out (Below.alloc_new _ _)) b6; have k0 := i6.cell (j := 0) (by decide); have k1 := i6.cell (j := 1) (by decide); have k2 := i6.cell (j := 2) (by decide); have k3 := i6.cell (j := 3) (by decide); rw [HFH.out.1] at k0; rw [HFH.out.2.1] at k1; rw [HFH.out.2.2.1] at k2; rw [HFH.out.2.2.2] at k3; clear i6 b6)
          | (go_at_call 9; go_loud (refine (cHeard_nil _).mono ?_); rintro e w7 ⟨rfl, rfl⟩)
          | (go_at_call 10; go_loud (refine (cReach_nil _).mono ?_); rintro e w7 ⟨rfl, rfl⟩))
        all_goals (go_ret; exact ⟨rfl, HB6.out⟩)
  · have hk6 : ((k : Int) == 512) = false := by simp; omega
    by_cases ok : 1 ≤ q ∧ q ≤ 10 ∧ 32 ≤ b ∧ b ≤ 600
    · obtain ⟨o1, o2, o3, o4⟩ := ok
      obtain ⟨B, rfl⟩ : ∃ B : Nat, b = (B : Int) := ⟨b.toNat, by omega⟩
      go_enter Tryz.func5, Tryz.ntmps5
      go_wp2_with (first
        | (go_at_call 6; go_loud (refine (lives13_any _).mono ?_); rintro e w1 ⟨rfl, hb⟩; have HB1 := Lib.hid (chain HB.out hb); clear hb)
        | (go_at_call 7; have hg3 := HB3.out; clear hg3; go_loud (refine (cNew_any 3 99 _ (by decide) (by decide) (by decide) (by decide)).mono ?_); rintro e w4 ⟨g4, a4, s4, rfl, h4, y1, y2, y3, b4⟩; have H4 := Lib.hid h4; have HB4 := Lib.hid (chain HB3.out b4); have HG4 : RowKit.Hid (w.heap.size ≤ g4 ∧ w.heap.size ≤ a4 ∧ w.heap.size ≤ s4) := ⟨Nat.le_trans HB3.out.size y1, Nat.le_trans HB3.out.size y2, Nat.le_trans HB3.out.size y3⟩; clear h4 y1 y2 y3 b4)
        | (go_at_call 7; have hg1 := HB1.out; clear hg1; go_loud (refine (cNew_any q B _ o1 o2 (by omega) (by omega)).mono ?_); rintro e w2 ⟨g2, a2, s2, rfl, _, _, _, _, b2⟩; have HB2 := Lib.hid (chain HB1.out b2); clear b2)
        | (go_at_call 12; go_loud (refine (cEncode_len g4 _ _ k _ _ _ (by omega) hk5).mono ?_); rintro e w5 ⟨rfl, rfl⟩; have HB5 := Lib.hid (chain HB4.out (Below.alloc_new w4 (.cells (madeCells #[.int .i16 0] k) 48))))
        | (go_at_call 12; go_loud (refine (cEncode_nil _ _ _ _ _ _).mono ?_); rintro e w3 ⟨rfl, rfl⟩; have HB3 := Lib.hid (chain HB2.out (Below.alloc_new _ (.cells (madeCells #[.int .i16 0] 512) 48))))
        | (go_at_call 15; go_loud (refine (cHeld_any _ 4 4 (fourF m) _ (four_at (by first | rfl | simp [alloc_size])) HFb.out (by decide)).mono ?_); rintro e w6 ⟨g6, rfl, i6, _, b6⟩; have HB6 : RowKit.Hid (Below w.heap.size w w6) := chain (chain HB5.out (Below.alloc_new _ _)) b6; have k0 := i6.cell (j := 0) (by decide); have k1 := i6.cell (j := 1) (by decide); have k2 := i6.cell (j := 2) (by decide); have k3 := i6.cell (j := 3) (by decide); rw [HFH.out.1] at k0; rw [HFH.out.2.1] at k1; rw [HFH.out.2.2.1] at k2; rw [HFH.out.2.2.2] at k3; clear i6 b6)
        | (go_at_call 9; go_loud (refine (cHeard_nil _).mono ?_); rintro e w7 ⟨rfl, rfl⟩)
        | (go_at_call 10; go_loud (refine (cReach_nil _).mono ?_); rintro e w7 ⟨rfl, rfl⟩))
      all_goals (go_ret; exact ⟨rfl, HB6.out⟩)
    · have HNo := Lib.hid ok
      have o : q < 1 ∨ (¬ q < 1 ∧ 10 < q) ∨ (¬ q < 1 ∧ ¬ 10 < q ∧ b < 32) ∨ (¬ q < 1 ∧ ¬ 10 < q ∧ ¬ b < 32 ∧ 600 < b) := by omega
      clear ok
      rcases o with o1 | ⟨o1, o2⟩ | ⟨o1, o2, o3⟩ | ⟨o1, o2, o3, o4⟩
      all_goals
        go_enter Tryz.func5, Tryz.ntmps5
        go_wp2_with (first
          | (go_at_call 6; go_loud (refine (lives13_any _).mono ?_); rintro e w1 ⟨rfl, hb⟩; have HB1 := Lib.hid (chain HB.out hb); clear hb)
          | (go_at_call 7; have hg3 := HB3.out; clear hg3; go_loud (refine (cNew_any 3 99 _ (by decide) (by decide) (by decide) (by decide)).mono ?_); rintro e w4 ⟨g4, a4, s4, rfl, h4, y1, y2, y3, b4⟩; have H4 := Lib.hid h4; have HB4 := Lib.hid (chain HB3.out b4); have HG4 : RowKit.Hid (w.heap.size ≤ g4 ∧ w.heap.size ≤ a4 ∧ w.heap.size ≤ s4) := ⟨Nat.le_trans HB3.out.size y1, Nat.le_trans HB3.out.size y2, Nat.le_trans HB3.out.size y3⟩; clear h4 y1 y2 y3 b4)
          | (go_at_call 7; have hg1 := HB1.out; clear hg1; go_loud (refine (cNew_no q b _ HNo.out).mono ?_); rintro e w2 ⟨rfl, rfl⟩; have HB2 := Lib.hid HB1.out)
          | (go_at_call 12; go_loud (refine (cEncode_len g4 _ _ k _ _ _ (by omega) hk5).mono ?_); rintro e w5 ⟨rfl, rfl⟩; have HB5 := Lib.hid (chain HB4.out (Below.alloc_new w4 (.cells (madeCells #[.int .i16 0] k) 48))))
          | (go_at_call 12; go_loud (refine (cEncode_nil _ _ _ _ _ _).mono ?_); rintro e w3 ⟨rfl, rfl⟩; have HB3 := Lib.hid (chain HB2.out (Below.alloc_new _ (.cells (madeCells #[.int .i16 0] 512) 48))))
          | (go_at_call 15; go_loud (refine (cHeld_any _ 4 4 (fourF m) _ (four_at (by first | rfl | simp [alloc_size])) HFb.out (by decide)).mono ?_); rintro e w6 ⟨g6, rfl, i6, _, b6⟩; have HB6 : RowKit.Hid (Below w.heap.size w w6) := chain (chain HB5.out (Below.alloc_new _ _)) b6; have k0 := i6.cell (j := 0) (by decide); have k1 := i6.cell (j := 1) (by decide); have k2 := i6.cell (j := 2) (by decide); have k3 := i6.cell (j := 3) (by decide); rw [HFH.out.1] at k0; rw [HFH.out.2.1] at k1; rw [HFH.out.2.2.1] at k2; rw [HFH.out.2.2.2] at k3; clear i6 b6)
          | (go_at_call 9; go_loud (refine (cHeard_nil _).mono ?_); rintro e w7 ⟨rfl, rfl⟩)
          | (go_at_call 10; go_loud (refine (cReach_nil _).mono ?_); rintro e w7 ⟨rfl, rfl⟩))
        all_goals (go_ret; exact ⟨rfl, HB6.out⟩)
end Go.Proofs.YtkhhhejmbgloeaaGreat
