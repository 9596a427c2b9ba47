/- The walk of RangeencBytes. -/
import Derived.Test.YthoabpfcpkmhfaaRncL
import Derived.Test.YthoabpfcpkmhfaaOpenS
import Derived.Test.YthoabpfcpkmhfaaModM
import Derived.Deep.RegionHeld3
import Derived.Test.YthoabpfcpkmhfaaHeld
import Derived.Deep.CutBlock
import Derived.Deep.DeepCutAuto
namespace Go.Proofs.Ythoabpfcpkmhfaa
open Go.RowKit
set_option linter.unusedVariables false
set_option linter.unusedSimpArgs false

/-- The kinds of an act's cells. -/
def actK : List PK := [.int .u8, .int .u32, .int .u32, .int .u32, .int .u32, .int .u32]
theorem act_cells {cs : List Value} (h : OkAll actK cs) : ∃ a b c d e f : Int, cs = [.int .u8 a, .int .u32 b, .int .u32 c, .int .u32 d, .int .u32 e, .int .u32 f] ∧ (0 ≤ a ∧ a ≤ 255) ∧ (0 ≤ b ∧ b ≤ 4294967295) ∧ (0 ≤ c ∧ c ≤ 4294967295) ∧ (0 ≤ d ∧ d ≤ 4294967295) ∧ (0 ≤ e ∧ e ≤ 4294967295) ∧ (0 ≤ f ∧ f ≤ 4294967295) := by
  obtain ⟨hl, h⟩ := h
  obtain ⟨_, h0, a, rfl, wa⟩ := h 0 (.int .u8) rfl
  obtain ⟨_, h1, b, rfl, wb⟩ := h 1 (.int .u32) rfl
  obtain ⟨_, h2, c, rfl, wc⟩ := h 2 (.int .u32) rfl
  obtain ⟨_, h3, d, rfl, wd⟩ := h 3 (.int .u32) rfl
  obtain ⟨_, h4, e, rfl, we⟩ := h 4 (.int .u32) rfl
  obtain ⟨_, h5, f, rfl, wf⟩ := h 5 (.int .u32) rfl
  refine ⟨a, b, c, d, e, f, ?_, bounds_u8 wa, bounds_u32 wb, bounds_u32 wc, bounds_u32 wd, bounds_u32 we, bounds_u32 wf⟩
  apply List.ext_getElem?
  intro i
  match i with
  | 0 => exact h0
  | 1 => exact h1
  | 2 => exact h2
  | 3 => exact h3
  | 4 => exact h4
  | 5 => exact h5
  | i + 6 => rw [List.getElem?_eq_none (by rw [hl]; show 6 ≤ i + 6; omega), List.getElem?_eq_none (by simp)]

set_option maxRecDepth 100000 in
theorem rangeencBytes_many (size : Int) (a : Option Addr) (len cap : Nat) (w : World) (hm : len ≤ 9223372036854775807) (h : 300 < len) :
    Calls Try.prog 3 #[.int .u8 size, .slice a len cap] w fun e w' => e = .returned (.bool true) ∧ Below w.heap.size w w' := by
  have hd : decide ((300 : Int) < (len : Int)) = true := by simp; omega
  have hB := Lib.hid (Below.refl w.heap.size w)
  clear h
  go_enter Try.func3, Try.ntmps3
  go_wp2_with (go_at_call 5; refine (lives06_any _).mono ?_; rintro e w1 ⟨rfl, hb⟩; replace hB := Lib.hid (chain hB.out hb); clear hb)
  go_ret
  exact ⟨rfl, hB.out⟩
theorem act_at {w : World} {B : Nat} {a b c d e f : Int} (h : Cel w B 42 #[.int .u8 a, .int .u32 b, .int .u32 c, .int .u32 d, .int .u32 e, .int .u32 f]) :
    w.cell? ⟨B, 1, none⟩ = some (.int .u32 b) ∧ w.cell? ⟨B, 2, none⟩ = some (.int .u32 c) ∧ w.cell? ⟨B, 3, none⟩ = some (.int .u32 d) ∧ w.cell? ⟨B, 4, none⟩ = some (.int .u32 e) ∧ w.cell? ⟨B, 5, none⟩ = some (.int .u32 f) :=
  ⟨h.cell 1, h.cell 2, h.cell 3, h.cell 4, h.cell 5⟩
theorem f3_ints (w : World) : IntsAt (w.alloc (.cells #[.int .u32 1, .int .u32 7, .int .u32 300] 32)) (w.alloc (.cells #[.int .u32 1, .int .u32 7, .int .u32 300] 32)).heap.size .u32 (some ⟨w.heap.size, 0, none⟩) 3 F3 :=
  lit_ints w 32 .u32 F3 #[.int .u32 1, .int .u32 7, .int .u32 300] (0, 0) rfl (by decide)
theorem f3_ok : FixOk F3 3 := ⟨by intro j hj; match j, hj with | 0, _ => decide | 1, _ => decide | 2, _ => decide, by decide⟩

set_option maxHeartbeats 4000000 in
set_option maxRecDepth 100000 in
theorem rangeencBytes_law (size : Int) (a : Option Addr) (len cap : Nat) (Z : Nat → List Value) (w : World) (w0 : (Lit.int .u8 size).wf = true) (hZ : StructsIn w actK a len Z) (h : len ≤ 300) :
    Calls Try.prog 3 #[.int .u8 size, .slice a len cap] w fun e w' => e = .returned (.bool true) ∧ Below w.heap.size w w' := by
  have hd : decide ((300 : Int) < (len : Int)) = false := by simp; omega
  have HZ := Lib.hid hZ
  have hB := Lib.hid (Below.refl w.heap.size w)
  obtain ⟨s0, s1⟩ := bounds_u8 w0
  obtain ⟨n, hn⟩ : ∃ n : Nat, 1 + size % 64 = n := ⟨(1 + size % 64).toNat, by omega⟩
  have n1 : 1 ≤ n := by omega
  have n2 : n ≤ 64 := by omega
  have HG := Lib.hid (goodL_ones n1 n2)
  have HF := Lib.hid f3_ok
  have HGe := Lib.hid goodE_new
  have HFb : RowKit.Hid (∀ j, j < 3 → 0 ≤ F3.getD j 0 ∧ F3.getD j 0 ≤ 4294967295) := by intro j hj; match j, hj with | 0, _ => decide | 1, _ => decide | 2, _ => decide
  clear w0 hZ
  go_enter Try.func3, Try.ntmps3
  go_wp2_with (first
    | (go_at_call 5; refine (lives06_any _).mono ?_; rintro e w1 ⟨rfl, hb⟩; replace hB := Lib.hid (chain hB.out hb); clear hb)
    | (go_at_call 6; go_loud (refine (modNew_at n _ _ rfl n1 n2).mono ?_); rintro e w2 ⟨mg, rfl, hg, hm, hb⟩; have HM2 := Lib.hid hm; have HB2 := Lib.hid (hB.out.trans (hb.mono hB.out.size)); have hg1 := Nat.le_trans hB.out.size hg; clear hm hb hB)
    | (go_at_call 7; go_loud (refine (refNew_at n _ _ rfl n1 n2).mono ?_); rintro e w3 ⟨xg, xr, rfl, hm, hb⟩; have HX3 := Lib.hid hm; have hgl := HM2.out.lt; have HM3 := Lib.hid (HM2.out.below hb); have HB3 := Lib.hid (HB2.out.trans (hb.mono HB2.out.size)); clear hm hb HM2 HB2)
    | (go_at_call 8; go_loud (refine (modFixed_ok _ _ _ F3 _ (f3_ints w3) HFb.out (by decide) (by decide) HF.out).mono ?_); rintro e w4 ⟨fg, rfl, hfg, hm, hb⟩; have hb4 := chain (Below.alloc_new w3 (.cells #[.int .u32 1, .int .u32 7, .int .u32 300] 32)) hb; have HF4 := Lib.hid hm; have hx3 := HX3.out.lt; have HX4 := Lib.hid (HX3.out.below hb4); have HM4 := Lib.hid (HM3.out.below hb4); have HB4 := Lib.hid (HB3.out.trans (hb4.mono HB3.out.size)); have hfl := hm.lt; have hfg3 : w3.heap.size ≤ fg := Nat.le_trans (Below.alloc_new w3 (.cells #[.int .u32 1, .int .u32 7, .int .u32 300] 32)).size hfg; clear hm hb hb4 HX3 HM3 HB3)
    | (go_at_call 9; go_loud (refine (refFixed_ok _ _ _ F3 _ (f3_ints w4) HFb.out (by decide) (by decide) HF.out).mono ?_); rintro e w5 ⟨lg, lr, rfl, hm, hb⟩; have hb5 := chain (Below.alloc_new w4 (.cells #[.int .u32 1, .int .u32 7, .int .u32 300] 32)) hb; have HL5 := Lib.hid hm; have hl5 := hm.lt; have HF5 := Lib.hid (HF4.out.below hb5); have HX5 := Lib.hid (HX4.out.below hb5); have HM5 := Lib.hid (HM4.out.below hb5); have HB5 := Lib.hid (HB4.out.trans (hb5.mono HB4.out.size)); clear hm hb hb5 HX4 HM4 HB4 HF4)
    | (go_at_call 10; go_loud (refine (rncNew_any _).mono ?_); rintro e w6 ⟨rfl, hm, hb⟩; have HE6 := Lib.hid hm; have he6 := hm.lt; have HL6 := Lib.hid (HL5.out.below hb); have HF6 := Lib.hid (HF5.out.below hb); have HX6 := Lib.hid (HX5.out.below hb); have HM6 := Lib.hid (HM5.out.below hb); have HB6 := Lib.hid (HB5.out.trans (hb.mono HB5.out.size)); clear hm hb HX5 HM5 HB5 HF5 HL5)
    | (go_at_call 11; go_loud (refine (refEncNew_any _).mono ?_); rintro e w7 ⟨rfl, hm, hb⟩; have HQ7 := Lib.hid hm; have HE7 := Lib.hid (HE6.out.below hb); have HL7 := Lib.hid (HL6.out.below hb); have HF7 := Lib.hid (HF6.out.below hb); have HX7 := Lib.hid (HX6.out.below hb); have HM7 := Lib.hid (HM6.out.below hb); have HB7 := Lib.hid (HB6.out.trans (hb.mono HB6.out.size)); clear hm hb HX6 HM6 HB6 HF6 HL6 HE6))
  obtain ⟨bl, hbl⟩ : ∃ bl, bl = (w4.alloc (.cells #[.int .u32 1, .int .u32 7, .int .u32 300] 32)).heap.size := ⟨_, rfl⟩
  have hbl2 : w4.heap.size ≤ bl := by rw [hbl]; simp
  rw [← hbl] at HL7
  have HS : RowKit.Hid (St6 w ⟨mg, fg, xg, xr, lg, lr, w5.heap.size, w6.heap.size + 1, w2.heap.size, bl, w5.heap.size, w6.heap.size, n⟩ w7 (List.replicate n 1) (List.replicate n 1) encNew encNew (.slice none 0 0) w6.heap.size 4) :=
    ⟨HM7.out, HF7.out, HX7.out, HL7.out, HE7.out, HQ7.out, HG.out, HG.out, HGe.out, HGe.out, by simp, by simp, HB7.out, by simp only; omega⟩
  clear hbl hbl2 hg hfg hfg3 hl5 he6 hx3 hfl hgl hg1 HM7 HF7 HX7 HL7 HE7 HQ7 HB7
  go_loopw [61] (fun i wr => ∃ (j : Nat) (L : List Int) (E : EncS) (v : Value) (r c : Nat), j ≤ len ∧ i = .int .i64 j ∧ E.k ≤ 6 * j ∧ RowKit.Hid (St6 w ⟨mg, fg, xg, xr, lg, lr, w5.heap.size, w6.heap.size + 1, w2.heap.size, bl, w5.heap.size, w6.heap.size, n⟩ wr L L E E v r c)) (fun i _ => len - (intOf i).toNat)
  case atStart => exact ⟨0, _, _, _, _, _, by omega, rfl, by decide, HS.out⟩
  case round =>
    obtain ⟨j, L, E, v, r, c, hj, rfl, hEk, H⟩ := hrel
    clear HS
    by_cases hlt : j < len
    · obtain ⟨b, off, hab, hbB, hat⟩ := HZ.out.2.2.resolve_left (by omega)
      obtain ⟨kd, N, K, low, own, all, hcs, hkd, hN, hK, hlow, hown, hall⟩ := act_cells (HZ.out.2.1 j hlt)
      have hat' : ∀ (q : Nat) (u : Value), ([.int .u8 kd, .int .u32 N, .int .u32 K, .int .u32 low, .int .u32 own, .int .u32 all] : List Value)[q]? = some u → wr.cell? ⟨b, off + j * 6 + q, none⟩ = some u := by
        intro q u hq
        rw [← hcs] at hq
        rw [Nat.add_assoc]
        exact (H.out.b.cell (p := ⟨b, off + (j * 6 + q), none⟩) hbB).trans (hat j hlt q u hq)
      subst hab
      have h0 : wr.cell? ⟨b, off + j * 6, none⟩ = some (.int .u8 kd) := hat' 0 _ rfl
      have h1 := hat' 1 _ rfl
      have h2 := hat' 2 _ rfl
      have h3 := hat' 3 _ rfl
      have h4 := hat' 4 _ rfl
      have h5 := hat' 5 _ rfl
      clear hat hat' hcs
      have hjl : (j : Int) < (len : Int) := by omega
      have HC := Lib.hid (Cel.new wr 42 #[.int .u8 kd, .int .u32 N, .int .u32 K, .int .u32 low, .int .u32 own, .int .u32 all])
      have H1 := Lib.hid (H.out.below (Below.alloc_new wr (.cells #[.int .u8 kd, .int .u32 N, .int .u32 K, .int .u32 low, .int .u32 own, .int .u32 all] 42)))
      have HB : RowKit.Hid (w5.heap.size < wr.heap.size ∧ mg < wr.heap.size ∧ fg < wr.heap.size ∧ ∀ q, v.ownBlock = some q → q < wr.heap.size) := ⟨H.out.e.lt.1, H.out.m.lt, H.out.f.lt, fun q hq => (H.out.e.own q hq).1⟩
      go_upto_block 2 with fail
      obtain ⟨w1, hw1⟩ : ∃ w1, w1 = wr.alloc (.cells #[.int .u8 kd, .int .u32 N, .int .u32 K, .int .u32 low, .int .u32 own, .int .u32 all] 42) := ⟨_, rfl⟩
      rw [← hw1] at HC H1 ⊢
      clear hw1 h0 h1 h2 h3 h4 h5 H
      generalize wr.heap.size = B at HC HB ⊢
      obtain ⟨q1, q2, q3, q4, q5⟩ := act_at HC.out
      obtain ⟨m4, hm4⟩ : ∃ m4, m4 = kd % 4 := ⟨_, rfl⟩
      have hm40 : 0 ≤ m4 := by omega
      have hm41 : m4 ≤ 3 := by omega
      rw [← hm4]
      clear hm4 hkd
      go_cut [18, 19, 20, 21, 22, 23] (fun _ _ _ _ _ _ wx => ∃ (L' : List Int) (E' : EncS) (v' : Value) (r' c' : Nat), E'.k ≤ 6 * (j + 1) ∧ RowKit.Hid (St6 w ⟨mg, fg, xg, xr, lg, lr, w5.heap.size, w6.heap.size + 1, w2.heap.size, bl, w5.heap.size, w6.heap.size, n⟩ wx L' L' E' E' v' r' c'))
      case first =>
        as_aux_lemma =>
          have hk8 : E.k ≤ 800000 := by omega
          have hk9 : E.k ≤ 900000 := by omega
          have hk10 : E.k ≤ 1000000 := by omega
          by_cases m0 : m4 = 0
          · have t0 : (m4 == 0) = true := by simpa using m0
            have e0 := Int.emod_nonneg N (b := (n : Int) + 1) (by omega)
            have e1 := Int.emod_lt_of_pos N (b := (n : Int) + 1) (by omega)
            obtain ⟨s, hs⟩ : ∃ s : Nat, N % ((n : Int) + 1) = s := ⟨(N % ((n : Int) + 1)).toNat, by omega⟩
            rw [hs] at e0 e1
            clear m0
            by_cases hsn : s < n
            · have u0 : decide (s < n) = true := by simpa using hsn
              have u1 : decide ((s : Int) < (n : Int)) = true := by simpa using hsn
              have hsl : s < L.length := by rw [H1.out.lm]; exact hsn
              have HN := Lib.hid (nextL_good H1.out.gm false hsl)
              have HS8 := Lib.hid (encSym_good H1.out.ge H1.out.gm hsl)
              have HK := Lib.hid (encSym_k E L s)
              have Hsl := Lib.hid hsl
              clear hsl
              go_wp2_with (first
                | (go_at_call 12; go_loud (with_reducible refine (rncSymbol_any w5.heap.size w5.heap.size v mg E L false s _ H1.out.e H1.out.m H1.out.ge H1.out.gm Hsl.out hk8).mono ?_); rintro e8 w8 ⟨rfl, v8, he, hm, hk, ho⟩; have H2 := Lib.hid (H1.out.prog hk he hm HN.out.1 HS8.out (HN.out.2.trans H1.out.lm)); clear he hm hk ho)
                | (go_at_call 13; go_loud (with_reducible refine (refEncSymbol_any w6.heap.size w2.heap.size (w6.heap.size + 1) r c xg xr E L false s _ H2.out.q H2.out.x H2.out.gq H2.out.gx Hsl.out hk9 (H2.out.xdis.1) (H2.out.xdis.2.1) (H2.out.xdis.2.2.1) (H2.out.xdis.2.2.2)).mono ?_); rintro e9 w9 ⟨rfl, r9, c9, he, hx, hk, ho⟩; have H3 := Lib.hid (H2.out.ref hk he hx HN.out.1 HS8.out (HN.out.2.trans H2.out.lx)); clear he hx hk ho))
              go_meet
              exact ⟨_, _, _, _, _, by have := HK.out; omega, H3.out⟩
            · obtain rfl : s = n := by omega
              have HNo : RowKit.Hid (¬ (0 ≤ (s : Int) ∧ (s : Int) < L.length)) := by
                have := H1.out.lm
                show ¬ _
                rintro ⟨_, h⟩
                have h' : L.length = s := this
                omega
              go_wp2_with (go_at_call 12; go_loud (with_reducible refine (rncSymbol_out _ mg L false s _ H1.out.m HNo.out).mono ?_); rintro e8 w8 ⟨rfl, hb⟩; have H2 := Lib.hid (H1.out.below hb); clear hb)
              go_meet
              exact ⟨_, _, _, _, _, by omega, H2.out⟩
          · have t0 : (m4 == 0) = false := by simpa using m0
            by_cases m1 : m4 = 1
            · have t1 : (m4 == 1) = true := by simpa using m1
              have k0 := Int.emod_nonneg K (b := 28) (by decide)
              have k1 := Int.emod_lt_of_pos K (b := 28) (by decide)
              obtain ⟨N0, N1⟩ := hN
              clear m0 m1
              by_cases hk0 : K % 28 = 0
              · have d1 : (-1 : Int) < 0 ∨ 24 < (-1 : Int) := by decide
                go_wp2_with (go_at_call 14; go_loud (with_reducible refine (rncBits_far _ N (-1) _ d1).mono ?_); rintro e8 w8 ⟨rfl, rfl⟩)
                go_meet
                exact ⟨_, _, _, _, _, by omega, H1.out⟩
              · obtain ⟨wd, hwd⟩ : ∃ wd : Nat, K % 28 = (wd : Int) + 1 := ⟨(K % 28 - 1).toNat, by omega⟩
                rw [hwd] at k0 k1
                clear hk0
                by_cases hw : wd ≤ 24
                · have hp := P2_pos wd
                  have hw2 : decide ((wd : Int) ≤ 24) = true := by simp; omega
                  have hmx : max (wd : Int) 0 = wd := by omega
                  by_cases hq : N < P2 wd
                  · have hz : N / 2 ^ wd = 0 := by rw [pow_P2]; exact Int.ediv_eq_zero_of_lt N0 hq
                    have HK := Lib.hid (encBits_k E N hw)
                    have HGd : RowKit.Hid (GoodE (encBits E N wd)) := encBits_good H1.out.ge hw
                    go_wp2_with (first
                      | (go_at_call 14; go_loud (with_reducible refine (rncBits_any w5.heap.size w5.heap.size v E N wd _ H1.out.e H1.out.ge N0 N1 hw hq hk8).mono ?_); rintro e8 w8 ⟨rfl, v8, he, hk, ho⟩; have H2 := Lib.hid (H1.out.progE hk he HGd.out); have HC8 := Lib.hid (HC.out.keeps hk (by rintro (c | c); exact Nat.lt_irrefl _ (c ▸ HB.out.1); exact Nat.lt_irrefl _ (HB.out.2.2.2 _ c))); obtain ⟨p1, p2, p3, p4, p5⟩ := act_at HC8.out; clear he hk ho)
                      | (go_at_call 15; go_loud (with_reducible refine (refEncBits_any w6.heap.size (w6.heap.size + 1) r c E N wd _ H2.out.q H2.out.gq hk9 hw N0 N1).mono ?_); rintro e9 w9 ⟨rfl, r9, c9, he, hk, ho⟩; have H3 := Lib.hid (H2.out.refE hk he HGd.out); clear he hk ho))
                    go_meet
                    exact ⟨_, _, _, _, _, by have := HK.out; omega, H3.out⟩
                  · have hq2 : P2 wd ≤ N := by omega
                    have hz : (N / 2 ^ wd == 0) = false := by
                      rw [pow_P2]
                      have : 1 ≤ N / P2 wd := by rw [Int.le_ediv_iff_mul_le (by omega)]; omega
                      simp; omega
                    go_wp2_with (go_at_call 14; go_loud (with_reducible refine (rncBits_over _ N wd _ N0 N1 hw hq2).mono ?_); rintro e8 w8 ⟨rfl, rfl⟩)
                    go_meet
                    exact ⟨_, _, _, _, _, by omega, H1.out⟩
                · have hw2 : decide ((wd : Int) ≤ 24) = false := by simp; omega
                  have d1 : (wd : Int) < 0 ∨ 24 < (wd : Int) := by omega
                  go_wp2_with (go_at_call 14; go_loud (with_reducible refine (rncBits_far _ N wd _ d1).mono ?_); rintro e8 w8 ⟨rfl, rfl⟩)
                  go_meet
                  exact ⟨_, _, _, _, _, by omega, H1.out⟩
            · have t1 : (m4 == 1) = false := by simpa using m1
              by_cases m2 : m4 = 2
              · have t2 : (m4 == 2) = true := by simpa using m2
                clear m0 m1 m2
                obtain ⟨lo0, lo1⟩ := hlow
                obtain ⟨ow0, ow1⟩ := hown
                obtain ⟨al0, al1⟩ := hall
                by_cases hok : OkP low own all
                · have HOk := Lib.hid hok
                  have HGd : RowKit.Hid (GoodE (encPut E low own all)) := encPut_good H1.out.ge hok
                  have HK := Lib.hid (encPut_k E low own all)
                  clear hok
                  go_wp2_with (first
                    | (go_at_call 16; go_loud (with_reducible refine (rncPut_any w5.heap.size w5.heap.size v E low own all _ H1.out.e H1.out.ge HOk.out hk9).mono ?_); rintro e8 w8 ⟨rfl, v8, he, hk, ho⟩; have H2 := Lib.hid (H1.out.progE hk he HGd.out); have HC8 := Lib.hid (HC.out.keeps hk (by rintro (c | c); exact Nat.lt_irrefl _ (c ▸ HB.out.1); exact Nat.lt_irrefl _ (HB.out.2.2.2 _ c))); obtain ⟨p1, p2, p3, p4, p5⟩ := act_at HC8.out; clear he hk ho)
                    | (go_at_call 17; go_loud (with_reducible refine (may06_yes low own all _ HOk.out).mono ?_); rintro e9 w9 ⟨rfl, hb⟩; replace H2 := Lib.hid (H2.out.below hb); replace HC8 := Lib.hid (HC8.out.below hb); clear p1 p2 p3 p4 p5; obtain ⟨p1, p2, p3, p4, p5⟩ := act_at HC8.out; clear hb)
                    | (go_at_call 18; go_loud (with_reducible refine (refEncPut_any w6.heap.size (w6.heap.size + 1) r c E low own all _ H2.out.q H2.out.gq HOk.out hk10).mono ?_); rintro e9 w9 ⟨rfl, r9, c9, he, hk, ho⟩; have H3 := Lib.hid (H2.out.refE hk he HGd.out); clear he hk ho))
                  go_meet
                  exact ⟨_, _, _, _, _, by have := HK.out; omega, H3.out⟩
                · have HOk := Lib.hid hok
                  clear hok
                  have H2 := H1
                  have HC8 := HC
                  have p3 := q3
                  have p4 := q4
                  have p5 := q5
                  go_wp2_with (first
                    | (go_at_call 16; go_loud (with_reducible refine (rncPut_no _ low own all _ lo0 lo1 ow0 ow1 al0 al1 HOk.out).mono ?_); rintro e8 w8 ⟨rfl, hb⟩; replace H2 := Lib.hid (H2.out.below hb); replace HC8 := Lib.hid (HC8.out.below hb); clear p3 p4 p5; obtain ⟨p1, p2, p3, p4, p5⟩ := act_at HC8.out; clear hb)
                    | (go_at_call 17; go_loud (with_reducible refine (may06_no low own all _ lo0 lo1 ow0 ow1 al0 al1 HOk.out).mono ?_); rintro e9 w9 ⟨rfl, hb⟩; replace H2 := Lib.hid (H2.out.below hb); replace HC8 := Lib.hid (HC8.out.below hb); clear p3 p4 p5; obtain ⟨p1, p2, p3, p4, p5⟩ := act_at HC8.out; clear hb))
                  go_meet
                  exact ⟨_, _, _, _, _, by omega, H2.out⟩
              · have t2 : (m4 == 2) = false := by simpa using m2
                clear m0 m1 m2
                have e0 := Int.emod_nonneg N (b := 3) (by decide)
                have e1 := Int.emod_lt_of_pos N (b := 3) (by decide)
                obtain ⟨s, hs⟩ : ∃ s : Nat, N % 3 = s := ⟨(N % 3).toNat, by omega⟩
                rw [hs] at e0 e1
                have Hsl : RowKit.Hid (s < F3.length) := by show s < 3; omega
                have HG3 := Lib.hid goodL_F3
                have HS8 := Lib.hid (encSym_good H1.out.ge HG3.out Hsl.out)
                have HK := Lib.hid (encSym_k E F3 s)
                go_wp2_with (first
                  | (go_at_call 12; go_loud (with_reducible refine (rncSymbol_any w5.heap.size w5.heap.size v fg E F3 true s _ H1.out.e H1.out.f H1.out.ge HG3.out Hsl.out hk8).mono ?_); rintro e8 w8 ⟨rfl, v8, he, hm, hk, ho⟩; have H2 := Lib.hid (H1.out.progF hk he hm HS8.out); have HC8 := Lib.hid (HC.out.keeps hk (by rintro (c | c | c); exact Nat.lt_irrefl _ (c ▸ HB.out.1); exact Nat.lt_irrefl _ (HB.out.2.2.2 _ c); exact Nat.lt_irrefl _ (c ▸ HB.out.2.2.1))); obtain ⟨p1, p2, p3, p4, p5⟩ := act_at HC8.out; clear he hm hk ho)
                  | (go_at_call 13; go_loud (with_reducible refine (refEncSymbol_any w6.heap.size bl (w6.heap.size + 1) r c lg lr E F3 true s _ H2.out.q H2.out.l H2.out.gq HG3.out Hsl.out hk9 (H2.out.ldis.1) (H2.out.ldis.2.1) (H2.out.ldis.2.2.1) (H2.out.ldis.2.2.2)).mono ?_); rintro e9 w9 ⟨rfl, r9, c9, he, hx, hk, ho⟩; have H3 := Lib.hid (H2.out.refF hk he hx HS8.out); clear he hx hk ho))
                go_meet
                exact ⟨_, _, _, _, _, by have := HK.out; omega, H3.out⟩
      case rest =>
        as_aux_lemma =>
          obtain ⟨L', E', v', r', c', hE', H'⟩ := hcut
          clear HC HB H1 q1 q2 q3 q4 q5 hN hK hlow hown hall hm40 hm41
          have ck := H'.out.q.cells.2.2
          have hkk : E'.k ≤ 1000000 := by omega
          have hkk2 : E'.k ≤ 900000 := by omega
          obtain ⟨kk, hkke⟩ : ∃ kk, kk = E'.k := ⟨_, rfl⟩
          have HKK := Lib.hid hkke
          rw [← hkke] at ck hE' hkk hkk2
          clear hkke
          have g1 : IntKind.i64.wrap ((kk : Int) + 4) = (kk : Int) + 4 := IntWalk.i64_in _ (by omega)
          have j0 : 0 ≤ (j : Int) % 16 := by omega
          have j1 : (j : Int) % 16 ≤ 15 := by omega
          have g2 : (j : Int).tmod 16 = (j : Int) % 16 := Int.tmod_eq_emod_of_nonneg (by omega)
          have g3 : IntKind.i64.wrap ((j : Int) % 16) = (j : Int) % 16 := IntWalk.i64_in _ (by omega)
          have HLen : RowKit.Hid (∀ wx : World, EncAt wx w5.heap.size w5.heap.size v' E' → Calls Try.prog 19 #[.pointer (some ⟨w5.heap.size, 0, none⟩)] wx fun e w' => e = .returned (.int .i64 ((kk : Int) + 4)) ∧ wx = w') := by
            intro wx hx
            rw [HKK.out]
            exact rncLen_any _ _ _ _ _ _ wx hx (by rw [← HKK.out]; exact hkk)
          obtain ⟨bb, hbb⟩ : ∃ bb, bb = bytesL (digL E'.n (E'.k + 4)) := ⟨_, rfl⟩
          have HBp : RowKit.Hid (∀ wx : World, EncAt wx w5.heap.size w5.heap.size v' E' → Calls Try.prog 20 #[.pointer (some ⟨w5.heap.size, 0, none⟩)] wx (BytesPost bb wx)) :=
            fun wx hx => rncBytes_at _ _ _ _ bb wx hx (by rw [← HKK.out]; exact hkk2) hbb.symm
          have HBr : RowKit.Hid (∀ wx : World, EncMem wx w6.heap.size (w6.heap.size + 1) r' c' (digL E'.n (E'.k + 4)) E'.s E'.k → Calls Try.prog 21 #[.pointer (some ⟨w6.heap.size + 1, 0, none⟩)] wx (BytesPost bb wx)) := by
            intro wx hx
            rw [hbb]
            exact refEncBytes_any _ _ _ _ _ _ _ wx hx (digL_dig _ _) (by rw [digL_len, ← HKK.out]; omega)
          clear hbb
          by_cases hj16 : (j : Int) % 16 = 0
          · have hq : ((j : Int) % 16 == 0) = true := by simpa using hj16
            have HD : RowKit.Hid (St6 w ⟨mg, fg, xg, xr, lg, lr, w5.heap.size, w6.heap.size + 1, w2.heap.size, bl, w5.heap.size, w6.heap.size, n⟩ wc.drew L' L' E' E' v' r' c') := H'.out.drewN 1
            clear hj16
            go_wp2
            refine wp_region_held_drew (S := fun w' => w'.cell? ⟨w6.heap.size + 1, 2, none⟩ = some (.int .i64 kk) ∧ St6 w ⟨mg, fg, xg, xr, lg, lr, w5.heap.size, w6.heap.size + 1, w2.heap.size, bl, w5.heap.size, w6.heap.size, n⟩ w' L' L' E' E' v' r' c') (by kernel_rfl) ⟨ck, HD.out⟩ (fun hHeld => ?_)
            refine wpAnyH_take (i := 0) (v := ?_) rfl (by kernel_rfl) (by kernel_rfl) (by kernel_rfl) (fun _ _ _ h => h) (Or.inl ⟨by rfl, ?_⟩) (by assumption) ?_
            rotate_left 1
            · intro wq hSw
              (try dsimp only at hSw)
              go_simp
              all_goals (with_reducible rfl)
            (try simp only [Act.put, List.setIfInBounds_toArray, List.set_cons_zero, List.set_cons_succ, List.getElem_toArray, List.getElem_cons_zero, List.getElem_cons_succ])
            refine wpAnyH_take (i := 2) (v := ?_) rfl (by kernel_rfl) (by kernel_rfl) (by kernel_rfl) (fun _ _ _ h => h) (Or.inl ⟨by rfl, ?_⟩) (by assumption) ?_
            rotate_left 1
            · intro wq hSw
              (try dsimp only at hSw)
              go_simp
              all_goals (with_reducible rfl)
            (try simp only [Act.put, List.setIfInBounds_toArray, List.set_cons_zero, List.set_cons_succ, List.getElem_toArray, List.getElem_cons_zero, List.getElem_cons_succ])
            refine wpAnyH_take (i := 3) (v := ?_) rfl (by kernel_rfl) (by kernel_rfl) (by kernel_rfl) (fun _ _ _ h => h) (Or.inl ⟨by rfl, ?_⟩) (by assumption) ?_
            rotate_left 1
            · intro wq hSw
              (try dsimp only at hSw)
              go_simp
              all_goals (with_reducible rfl)
            (try simp only [Act.put, List.setIfInBounds_toArray, List.set_cons_zero, List.set_cons_succ, List.getElem_toArray, List.getElem_cons_zero, List.getElem_cons_succ])
            refine wpAnyH_take (i := 4) (v := ?_) rfl (by kernel_rfl) (by kernel_rfl) (by kernel_rfl) (fun _ _ _ h => h) (Or.inl ⟨by rfl, ?_⟩) (by assumption) ?_
            rotate_left 1
            · intro wq hSw
              (try dsimp only at hSw)
              go_simp
              all_goals (with_reducible rfl)
            (try simp only [Act.put, List.setIfInBounds_toArray, List.set_cons_zero, List.set_cons_succ, List.getElem_toArray, List.getElem_cons_zero, List.getElem_cons_succ])
            refine wpAnyH_take (i := 5) (v := ?_) rfl (by kernel_rfl) (by kernel_rfl) (by kernel_rfl) (fun _ _ _ h => h) (Or.inl ⟨by rfl, ?_⟩) (by assumption) ?_
            rotate_left 1
            · intro wq hSw
              (try dsimp only at hSw)
              go_simp
              all_goals (with_reducible rfl)
            (try simp only [Act.put, List.setIfInBounds_toArray, List.set_cons_zero, List.set_cons_succ, List.getElem_toArray, List.getElem_cons_zero, List.getElem_cons_succ])
            refine wpAnyH_take (i := 6) (v := ?_) rfl (by kernel_rfl) (by kernel_rfl) (by kernel_rfl) (fun _ _ _ h => h) (Or.inl ⟨by rfl, ?_⟩) (by assumption) ?_
            rotate_left 1
            · intro wq hSw
              (try dsimp only at hSw)
              go_simp
              all_goals (with_reducible rfl)
            (try simp only [Act.put, List.setIfInBounds_toArray, List.set_cons_zero, List.set_cons_succ, List.getElem_toArray, List.getElem_cons_zero, List.getElem_cons_succ])
            refine wpAnyH_ready (rs := [1]) (by kernel_rfl) (by simp) ?_
            refine AllReadyH.cons rfl (fun K hK => ?_) AllReadyH.nil
            go_simp
            go_at_call 19
            refine (HLen.out _ hHeld.2.e).mono ?_
            rintro e8 w8 ⟨rfl, rfl⟩
            refine hK.out _ _ hHeld (fun _ => ?_)
            clear hK K
            (try simp only [Act.put, List.setIfInBounds_toArray, List.set_cons_zero, List.set_cons_succ, List.getElem_toArray, List.getElem_cons_zero, List.getElem_cons_succ])
            refine wpAnyH_take (i := 7) (v := ?_) rfl (by kernel_rfl) (by kernel_rfl) (by kernel_rfl) (fun _ _ _ h => h) (Or.inl ⟨by rfl, ?_⟩) (by assumption) ?_
            rotate_left 1
            · intro wq hSw
              (try dsimp only at hSw)
              go_simp
              all_goals (with_reducible rfl)
            (try simp only [Act.put, List.setIfInBounds_toArray, List.set_cons_zero, List.set_cons_succ, List.getElem_toArray, List.getElem_cons_zero, List.getElem_cons_succ])
            refine wpAnyH_take (i := 8) (v := ?_) rfl (by kernel_rfl) (by kernel_rfl) (by kernel_rfl) (fun _ _ _ h => h) (Or.inl ⟨by rfl, ?_⟩) (by assumption) ?_
            rotate_left 1
            · intro wq hSw
              (try dsimp only at hSw)
              go_simp
              all_goals (with_reducible rfl)
            (try simp only [Act.put, List.setIfInBounds_toArray, List.set_cons_zero, List.set_cons_succ, List.getElem_toArray, List.getElem_cons_zero, List.getElem_cons_succ])
            refine wpAnyH_take (i := 9) (v := ?_) rfl (by kernel_rfl) (by kernel_rfl) (by kernel_rfl) (fun _ _ _ h => h) (Or.inl ⟨by rfl, ?_⟩) (by assumption) ?_
            rotate_left 1
            · intro wq hSw
              (try dsimp only at hSw)
              go_simp
              all_goals (with_reducible rfl)
            (try simp only [Act.put, List.setIfInBounds_toArray, List.set_cons_zero, List.set_cons_succ, List.getElem_toArray, List.getElem_cons_zero, List.getElem_cons_succ])
            refine wpAnyH_take (i := 10) (v := ?_) rfl (by kernel_rfl) (by kernel_rfl) (by kernel_rfl) (fun _ _ _ h => h) (Or.inl ⟨by rfl, ?_⟩) (by assumption) ?_
            rotate_left 1
            · intro wq hSw
              (try dsimp only at hSw)
              go_simp
              all_goals (with_reducible rfl)
            (try simp only [Act.put, List.setIfInBounds_toArray, List.set_cons_zero, List.set_cons_succ, List.getElem_toArray, List.getElem_cons_zero, List.getElem_cons_succ])
            refine wpAnyH_take (i := 11) (v := ?_) rfl (by kernel_rfl) (by kernel_rfl) (by kernel_rfl) (fun _ _ _ h => h) (Or.inl ⟨by rfl, ?_⟩) (by assumption) ?_
            rotate_left 1
            · intro wq hSw
              (try dsimp only at hSw)
              go_simp
              all_goals (with_reducible rfl)
            (try simp only [Act.put, List.setIfInBounds_toArray, List.set_cons_zero, List.set_cons_succ, List.getElem_toArray, List.getElem_cons_zero, List.getElem_cons_succ])
            refine wpAnyH_take (i := 12) (v := ?_) rfl (by kernel_rfl) (by kernel_rfl) (by kernel_rfl) (fun _ _ _ h => h) (Or.inl ⟨by rfl, ?_⟩) (by assumption) ?_
            rotate_left 1
            · intro wq hSw
              (try dsimp only at hSw)
              go_simp
              all_goals (with_reducible rfl)
            (try simp only [Act.put, List.setIfInBounds_toArray, List.set_cons_zero, List.set_cons_succ, List.getElem_toArray, List.getElem_cons_zero, List.getElem_cons_succ])
            refine wpAnyH_take (i := 13) (v := ?_) rfl (by kernel_rfl) (by kernel_rfl) (by kernel_rfl) (fun _ _ _ h => h) (Or.inl ⟨by rfl, ?_⟩) (by assumption) ?_
            rotate_left 1
            · intro wq hSw
              (try dsimp only at hSw)
              go_simp
              all_goals (with_reducible rfl)
            (try simp only [Act.put, List.setIfInBounds_toArray, List.set_cons_zero, List.set_cons_succ, List.getElem_toArray, List.getElem_cons_zero, List.getElem_cons_succ])
            refine wpAnyH_take (i := 16) (v := ?_) rfl (by kernel_rfl) (by kernel_rfl) (by kernel_rfl) (fun _ _ _ h => h) (Or.inl ⟨by rfl, ?_⟩) (by assumption) ?_
            rotate_left 1
            · intro wq hSw
              (try dsimp only at hSw)
              go_simp
              all_goals (with_reducible rfl)
            (try simp only [Act.put, List.setIfInBounds_toArray, List.set_cons_zero, List.set_cons_succ, List.getElem_toArray, List.getElem_cons_zero, List.getElem_cons_succ])
            refine wpAnyH_ready (rs := [14]) (by kernel_rfl) (by simp) ?_
            refine AllReadyH.cons rfl (fun K hK => ?_) AllReadyH.nil
            go_simp
            go_at_call 20
            refine (HBp.out _ hHeld.2.e).mono ?_
            rintro e8 w8 ⟨a8, c8, rfl, hI, hb⟩
            have k2 := hHeld.2.below hb
            have k1 : w8.cell? ⟨w6.heap.size + 1, 2, none⟩ = some (.int .i64 kk) := by rw [HKK.out]; exact k2.q.cells.2.2
            have HI1 := Lib.hid hI
            have cv := string_of_ints (P := Try.prog) (src := 54) (dst := 9) (c := c8) Try.underlying54 Try.underlying5 Try.underlying9 hI
            refine hK.out _ _ ⟨k1, k2⟩ (fun _ => ?_)
            clear hK K hHeld hI hb
            refine wpAnyH_strong (S2 := fun w' => (convert 54 9 (.slice a8 bb.length c8)).run Try.prog w' = .ok (.string (textOf bb)) w' ∧ w'.cell? ⟨w6.heap.size + 1, 2, none⟩ = some (.int .i64 kk) ∧ St6 w ⟨mg, fg, xg, xr, lg, lr, w5.heap.size, w6.heap.size + 1, w2.heap.size, bl, w5.heap.size, w6.heap.size, n⟩ w' L' L' E' E' v' r' c') (fun w h => h.2) ?_
            have hHeld := And.intro cv (And.intro k1 k2)
            clear cv k1 k2
            (try simp only [Act.put, List.setIfInBounds_toArray, List.set_cons_zero, List.set_cons_succ, List.getElem_toArray, List.getElem_cons_zero, List.getElem_cons_succ])
            refine wpAnyH_take (i := 15) (v := ?_) rfl (by kernel_rfl) (by kernel_rfl) (by kernel_rfl) (fun _ _ _ h => h) (Or.inl ⟨by rfl, ?_⟩) (by assumption) ?_
            rotate_left 1
            · intro wq hSw
              (try dsimp only at hSw)
              go_simp
              all_goals (with_reducible rfl)
            (try simp only [Act.put, List.setIfInBounds_toArray, List.set_cons_zero, List.set_cons_succ, List.getElem_toArray, List.getElem_cons_zero, List.getElem_cons_succ])
            refine wpAnyH_ready (rs := [17]) (by kernel_rfl) (by simp) ?_
            refine AllReadyH.cons rfl (fun K hK => ?_) AllReadyH.nil
            go_simp
            go_at_call 21
            refine (HBr.out _ hHeld.2.2.q).mono ?_
            rintro e9 w9 ⟨a9, c9, rfl, hI, hb⟩
            have k2 := hHeld.2.2.below hb
            have k1 : w9.cell? ⟨w6.heap.size + 1, 2, none⟩ = some (.int .i64 kk) := by rw [HKK.out]; exact k2.q.cells.2.2
            have cv2 := string_of_ints (P := Try.prog) (src := 54) (dst := 9) (c := c9) Try.underlying54 Try.underlying5 Try.underlying9 hI
            have cv := string_of_ints (P := Try.prog) (src := 54) (dst := 9) (c := c8) Try.underlying54 Try.underlying5 Try.underlying9 (HI1.out.below hb)
            refine hK.out _ _ ⟨cv, k1, k2⟩ (fun _ => ?_)
            clear hK K hHeld hI hb
            refine wpAnyH_strong (S2 := fun w' => (convert 54 9 (.slice a9 bb.length c9)).run Try.prog w' = .ok (.string (textOf bb)) w' ∧ (convert 54 9 (.slice a8 bb.length c8)).run Try.prog w' = .ok (.string (textOf bb)) w' ∧ w'.cell? ⟨w6.heap.size + 1, 2, none⟩ = some (.int .i64 kk) ∧ St6 w ⟨mg, fg, xg, xr, lg, lr, w5.heap.size, w6.heap.size + 1, w2.heap.size, bl, w5.heap.size, w6.heap.size, n⟩ w' L' L' E' E' v' r' c') (fun w h => h.2) ?_
            have hHeld := And.intro cv2 (And.intro cv (And.intro k1 k2))
            clear cv cv2 k1 k2
            (try simp only [Act.put, List.setIfInBounds_toArray, List.set_cons_zero, List.set_cons_succ, List.getElem_toArray, List.getElem_cons_zero, List.getElem_cons_succ])
            refine wpAnyH_take (i := 18) (v := ?_) rfl (by kernel_rfl) (by kernel_rfl) (by kernel_rfl) (fun _ _ _ h => h) (Or.inl ⟨by rfl, ?_⟩) (by assumption) ?_
            rotate_left 1
            · intro wq hSw
              (try dsimp only at hSw)
              go_simp
              all_goals (with_reducible rfl)
            (try simp only [Act.put, List.setIfInBounds_toArray, List.set_cons_zero, List.set_cons_succ, List.getElem_toArray, List.getElem_cons_zero, List.getElem_cons_succ])
            refine wpAnyH_take (i := 19) (v := ?_) rfl (by kernel_rfl) (by kernel_rfl) (by kernel_rfl) (fun _ _ _ h => h) (Or.inl ⟨by rfl, ?_⟩) (by assumption) ?_
            rotate_left 1
            · intro wq hSw
              (try dsimp only at hSw)
              go_simp
              all_goals (with_reducible rfl)
            (try simp only [Act.put, List.setIfInBounds_toArray, List.set_cons_zero, List.set_cons_succ, List.getElem_toArray, List.getElem_cons_zero, List.getElem_cons_succ])
            refine wpAnyH_take (i := 20) (v := ?_) rfl (by kernel_rfl) (by kernel_rfl) (by kernel_rfl) (fun _ _ _ h => h) (Or.inl ⟨by rfl, ?_⟩) (by assumption) ?_
            rotate_left 1
            · intro wq hSw
              (try dsimp only at hSw)
              go_simp
              all_goals (with_reducible rfl)
            (try simp only [Act.put, List.setIfInBounds_toArray, List.set_cons_zero, List.set_cons_succ, List.getElem_toArray, List.getElem_cons_zero, List.getElem_cons_succ])
            refine wpAnyH_take (i := 21) (v := ?_) rfl (by kernel_rfl) (by kernel_rfl) (by kernel_rfl) (fun _ _ _ h => h) (Or.inl ⟨by rfl, ?_⟩) (by assumption) ?_
            rotate_left 1
            · intro wq hSw
              (try dsimp only at hSw)
              go_simp
              all_goals (with_reducible rfl)
            (try simp only [Act.put, List.setIfInBounds_toArray, List.set_cons_zero, List.set_cons_succ, List.getElem_toArray, List.getElem_cons_zero, List.getElem_cons_succ])
            refine wpAnyH_done (by kernel_rfl) ?_ _
            go_wp2
            go_roundw
            case rel => exact ⟨j + 1, _, _, _, _, _, by omega, by go_num, by rw [← HKK.out]; omega, hHeld.2.2.2⟩
            case measure => simp [intOf] <;> omega
          · have hq : ((j : Int) % 16 == 0) = false := by simpa using hj16
            clear hj16
            go_wp2
            go_quiet ((go_at_call 19; exact Calls.quiet_of_same ((HLen.out _ (H'.out.e.drewN _)).mono fun _ _ h => ⟨h.1, h.2.symm⟩)))
            go_wp2
            go_roundw
            case rel => exact ⟨j + 1, _, _, _, _, _, by omega, by go_num, by rw [← HKK.out]; omega, H'.out.drewN _⟩
            case measure => simp [intOf] <;> omega
    · as_aux_lemma =>
        obtain rfl : j = len := by omega
        have hkk : E.k ≤ 900000 := by omega
        obtain ⟨kk, hkke⟩ : ∃ kk, kk = E.k := ⟨_, rfl⟩
        have HKK := Lib.hid hkke
        rw [← hkke] at hEk hkk
        clear hkke
        obtain ⟨bb, hbb⟩ : ∃ bb, bb = bytesL (digL E.n (E.k + 4)) := ⟨_, rfl⟩
        have HLen : RowKit.Hid (∀ wx : World, EncAt wx w5.heap.size w5.heap.size v E → Calls Try.prog 19 #[.pointer (some ⟨w5.heap.size, 0, none⟩)] wx fun e w' => e = .returned (.int .i64 ((kk : Int) + 4)) ∧ wx = w') := by
          intro wx hx
          rw [HKK.out]
          exact rncLen_any _ _ _ _ _ _ wx hx (by rw [← HKK.out]; omega)
        have HBp : RowKit.Hid (∀ wx : World, EncAt wx w5.heap.size w5.heap.size v E → Calls Try.prog 20 #[.pointer (some ⟨w5.heap.size, 0, none⟩)] wx (BytesPost bb wx)) :=
          fun wx hx => rncBytes_at _ _ _ _ bb wx hx (by rw [← HKK.out]; exact hkk) hbb.symm
        have HBr : RowKit.Hid (∀ wx : World, EncMem wx w6.heap.size (w6.heap.size + 1) r c (digL E.n (E.k + 4)) E.s E.k → Calls Try.prog 21 #[.pointer (some ⟨w6.heap.size + 1, 0, none⟩)] wx (BytesPost bb wx)) := by
          intro wx hx
          rw [hbb]
          exact refEncBytes_any _ _ _ _ _ _ _ wx hx (digL_dig _ _) (by rw [digL_len, ← HKK.out]; omega)
        have hle : (bb.length : Int) ≤ (kk : Int) + 4 := by
          have a := bytesL_len (digL E.n (E.k + 4))
          have b := lastK_bd (digL E.n (E.k + 4)) (digL E.n (E.k + 4)).length
          have d := digL_len E.n (E.k + 4)
          have e := HKK.out
          rw [hbb, a]
          omega
        have hled : decide ((bb.length : Int) ≤ (kk : Int) + 4) = true := by simpa using hle
        clear hbb
        go_wp2_with (go_at_call 20; go_loud (with_reducible refine (HBp.out _ H.out.e).mono ?_); rintro e8 w8 ⟨a8, c8, rfl, hI, hb⟩; have k2 := H.out.below hb; have k2d : St6 w ⟨mg, fg, xg, xr, lg, lr, w5.heap.size, w6.heap.size + 1, w2.heap.size, bl, w5.heap.size, w6.heap.size, n⟩ w8.drew L L E E v r c := k2.drewN 1; have HI1 := Lib.hid hI; have hbd : Below w8.heap.size w8 w8.drew := Below.drewN' (Below.refl _ _) 1; have cv := string_of_ints (P := Try.prog) (src := 54) (dst := 9) (c := c8) Try.underlying54 Try.underlying5 Try.underlying9 (hI.below hbd); clear hI hb)
        have hl9 : bb.length ≤ 9223372036854775807 := by omega
        go_wp2
        refine wp_region_held_drew (S := fun w' => (convert 54 9 (.slice a8 bb.length c8)).run Try.prog w' = .ok (.string (textOf bb)) w' ∧ Below w8.heap.size w8 w' ∧ St6 w ⟨mg, fg, xg, xr, lg, lr, w5.heap.size, w6.heap.size + 1, w2.heap.size, bl, w5.heap.size, w6.heap.size, n⟩ w' L L E E v r c) (by kernel_rfl) ⟨cv, hbd, k2d⟩ (fun hHeld => ?_)
        refine wpAnyH_take (i := 0) (v := ?_) rfl (by kernel_rfl) (by kernel_rfl) (by kernel_rfl) (fun _ _ _ h => h) (Or.inl ⟨by rfl, ?_⟩) (by assumption) ?_
        rotate_left 1
        · intro wq hSw
          (try dsimp only at hSw)
          go_simp
          all_goals (with_reducible rfl)
        (try simp only [Act.put, List.setIfInBounds_toArray, List.set_cons_zero, List.set_cons_succ, List.getElem_toArray, List.getElem_cons_zero, List.getElem_cons_succ])
        refine wpAnyH_take (i := 1) (v := ?_) rfl (by kernel_rfl) (by kernel_rfl) (by kernel_rfl) (fun _ _ _ h => h) (Or.inl ⟨by rfl, ?_⟩) (by assumption) ?_
        rotate_left 1
        · intro wq hSw
          (try dsimp only at hSw)
          go_simp
          all_goals (with_reducible rfl)
        (try simp only [Act.put, List.setIfInBounds_toArray, List.set_cons_zero, List.set_cons_succ, List.getElem_toArray, List.getElem_cons_zero, List.getElem_cons_succ])
        refine wpAnyH_take (i := 2) (v := ?_) rfl (by kernel_rfl) (by kernel_rfl) (by kernel_rfl) (fun _ _ _ h => h) (Or.inl ⟨by rfl, ?_⟩) (by assumption) ?_
        rotate_left 1
        · intro wq hSw
          (try dsimp only at hSw)
          go_simp
          all_goals (with_reducible rfl)
        (try simp only [Act.put, List.setIfInBounds_toArray, List.set_cons_zero, List.set_cons_succ, List.getElem_toArray, List.getElem_cons_zero, List.getElem_cons_succ])
        refine wpAnyH_ready (rs := [3]) (by kernel_rfl) (by simp) ?_
        refine AllReadyH.cons rfl (fun K hK => ?_) AllReadyH.nil
        go_simp
        go_at_call 21
        refine (HBr.out _ hHeld.2.2.q).mono ?_
        rintro e9 w9 ⟨a9, c9, rfl, hI, hb⟩
        have k5 := hHeld.2.1.trans (hb.mono hHeld.2.1.size)
        have k4 := hHeld.2.2.below hb
        have cv2 := string_of_ints (P := Try.prog) (src := 54) (dst := 9) (c := c9) Try.underlying54 Try.underlying5 Try.underlying9 hI
        have cv3 := string_of_ints (P := Try.prog) (src := 54) (dst := 9) (c := c8) Try.underlying54 Try.underlying5 Try.underlying9 (HI1.out.below k5)
        refine hK.out _ _ ⟨cv3, k5, k4⟩ (fun _ => ?_)
        have HI9 := Lib.hid hI
        clear hK K hHeld hI hb cv
        refine wpAnyH_strong (S2 := fun w' => (convert 54 9 (.slice a9 bb.length c9)).run Try.prog w' = .ok (.string (textOf bb)) w' ∧ (convert 54 9 (.slice a8 bb.length c8)).run Try.prog w' = .ok (.string (textOf bb)) w' ∧ Below w8.heap.size w8 w' ∧ St6 w ⟨mg, fg, xg, xr, lg, lr, w5.heap.size, w6.heap.size + 1, w2.heap.size, bl, w5.heap.size, w6.heap.size, n⟩ w' L L E E v r c) (fun w h => h.2) ?_
        have hHeld := And.intro cv2 (And.intro cv3 (And.intro k5 k4))
        clear cv2 cv3 k5 k4
        (try simp only [Act.put, List.setIfInBounds_toArray, List.set_cons_zero, List.set_cons_succ, List.getElem_toArray, List.getElem_cons_zero, List.getElem_cons_succ])
        refine wpAnyH_take (i := 4) (v := ?_) rfl (by kernel_rfl) (by kernel_rfl) (by kernel_rfl) (fun _ _ _ h => h) (Or.inl ⟨by rfl, ?_⟩) (by assumption) ?_
        rotate_left 1
        · intro wq hSw
          (try dsimp only at hSw)
          go_simp
          all_goals (with_reducible rfl)
        (try simp only [Act.put, List.setIfInBounds_toArray, List.set_cons_zero, List.set_cons_succ, List.getElem_toArray, List.getElem_cons_zero, List.getElem_cons_succ])
        refine wpAnyH_take (i := 5) (v := ?_) rfl (by kernel_rfl) (by kernel_rfl) (by kernel_rfl) (fun _ _ _ h => h) (Or.inl ⟨by rfl, ?_⟩) (by assumption) ?_
        rotate_left 1
        · intro wq hSw
          (try dsimp only at hSw)
          go_simp
          all_goals (with_reducible rfl)
        (try simp only [Act.put, List.setIfInBounds_toArray, List.set_cons_zero, List.set_cons_succ, List.getElem_toArray, List.getElem_cons_zero, List.getElem_cons_succ])
        refine wpAnyH_take (i := 6) (v := ?_) rfl (by kernel_rfl) (by kernel_rfl) (by kernel_rfl) (fun _ _ _ h => h) (Or.inl ⟨by rfl, ?_⟩) (by assumption) ?_
        rotate_left 1
        · intro wq hSw
          (try dsimp only at hSw)
          go_simp
          all_goals (with_reducible rfl)
        (try simp only [Act.put, List.setIfInBounds_toArray, List.set_cons_zero, List.set_cons_succ, List.getElem_toArray, List.getElem_cons_zero, List.getElem_cons_succ])
        refine wpAnyH_take (i := 7) (v := ?_) rfl (by kernel_rfl) (by kernel_rfl) (by kernel_rfl) (fun _ _ _ h => h) (Or.inl ⟨by rfl, ?_⟩) (by assumption) ?_
        rotate_left 1
        · intro wq hSw
          (try dsimp only at hSw)
          go_simp
          all_goals (with_reducible rfl)
        (try simp only [Act.put, List.setIfInBounds_toArray, List.set_cons_zero, List.set_cons_succ, List.getElem_toArray, List.getElem_cons_zero, List.getElem_cons_succ])
        refine wpAnyH_take (i := 8) (v := ?_) rfl (by kernel_rfl) (by kernel_rfl) (by kernel_rfl) (fun _ _ _ h => h) (Or.inl ⟨by rfl, ?_⟩) (by assumption) ?_
        rotate_left 1
        · intro wq hSw
          (try dsimp only at hSw)
          go_simp
          all_goals (with_reducible rfl)
        (try simp only [Act.put, List.setIfInBounds_toArray, List.set_cons_zero, List.set_cons_succ, List.getElem_toArray, List.getElem_cons_zero, List.getElem_cons_succ])
        refine wpAnyH_take (i := 9) (v := ?_) rfl (by kernel_rfl) (by kernel_rfl) (by kernel_rfl) (fun _ _ _ h => h) (Or.inl ⟨by rfl, ?_⟩) (by assumption) ?_
        rotate_left 1
        · intro wq hSw
          (try dsimp only at hSw)
          go_simp
          all_goals (with_reducible rfl)
        (try simp only [Act.put, List.setIfInBounds_toArray, List.set_cons_zero, List.set_cons_succ, List.getElem_toArray, List.getElem_cons_zero, List.getElem_cons_succ])
        refine wpAnyH_ready (rs := [10]) (by kernel_rfl) (by simp) ?_
        refine AllReadyH.cons rfl (fun K hK => ?_) AllReadyH.nil
        go_simp
        go_at_call 19
        refine (HLen.out _ hHeld.2.2.2.e).mono ?_
        rintro e10 w10 ⟨rfl, rfl⟩
        refine hK.out _ _ hHeld (fun _ => ?_)
        clear hK K
        (try simp only [Act.put, List.setIfInBounds_toArray, List.set_cons_zero, List.set_cons_succ, List.getElem_toArray, List.getElem_cons_zero, List.getElem_cons_succ])
        refine wpAnyH_take (i := 11) (v := ?_) rfl (by kernel_rfl) (by kernel_rfl) (by kernel_rfl) (fun _ _ _ h => h) (Or.inl ⟨by rfl, ?_⟩) (by assumption) ?_
        rotate_left 1
        · intro wq hSw
          (try dsimp only at hSw)
          go_simp
          all_goals (with_reducible rfl)
        (try simp only [Act.put, List.setIfInBounds_toArray, List.set_cons_zero, List.set_cons_succ, List.getElem_toArray, List.getElem_cons_zero, List.getElem_cons_succ])
        refine wpAnyH_take (i := 12) (v := ?_) rfl (by kernel_rfl) (by kernel_rfl) (by kernel_rfl) (fun _ _ _ h => h) (Or.inl ⟨by rfl, ?_⟩) (by assumption) ?_
        rotate_left 1
        · intro wq hSw
          (try dsimp only at hSw)
          go_simp
          all_goals (with_reducible rfl)
        (try simp only [Act.put, List.setIfInBounds_toArray, List.set_cons_zero, List.set_cons_succ, List.getElem_toArray, List.getElem_cons_zero, List.getElem_cons_succ])
        refine wpAnyH_take (i := 13) (v := ?_) rfl (by kernel_rfl) (by kernel_rfl) (by kernel_rfl) (fun _ _ _ h => h) (Or.inl ⟨by rfl, ?_⟩) (by assumption) ?_
        rotate_left 1
        · intro wq hSw
          (try dsimp only at hSw)
          go_simp
          all_goals (with_reducible rfl)
        (try simp only [Act.put, List.setIfInBounds_toArray, List.set_cons_zero, List.set_cons_succ, List.getElem_toArray, List.getElem_cons_zero, List.getElem_cons_succ])
        refine wpAnyH_take (i := 14) (v := ?_) rfl (by kernel_rfl) (by kernel_rfl) (by kernel_rfl) (fun _ _ _ h => h) (Or.inl ⟨by rfl, ?_⟩) (by assumption) ?_
        rotate_left 1
        · intro wq hSw
          (try dsimp only at hSw)
          go_simp
          all_goals (with_reducible rfl)
        (try simp only [Act.put, List.setIfInBounds_toArray, List.set_cons_zero, List.set_cons_succ, List.getElem_toArray, List.getElem_cons_zero, List.getElem_cons_succ])
        refine wpAnyH_take (i := 17) (v := ?_) rfl (by kernel_rfl) (by kernel_rfl) (by kernel_rfl) (fun _ _ _ h => h) (Or.inl ⟨by rfl, ?_⟩) (by assumption) ?_
        rotate_left 1
        · intro wq hSw
          (try dsimp only at hSw)
          go_simp
          all_goals (with_reducible rfl)
        (try simp only [Act.put, List.setIfInBounds_toArray, List.set_cons_zero, List.set_cons_succ, List.getElem_toArray, List.getElem_cons_zero, List.getElem_cons_succ])
        refine wpAnyH_take (i := 18) (v := ?_) rfl (by kernel_rfl) (by kernel_rfl) (by kernel_rfl) (fun _ _ _ h => h) (Or.inl ⟨by rfl, ?_⟩) (by assumption) ?_
        rotate_left 1
        · intro wq hSw
          (try dsimp only at hSw)
          go_simp
          all_goals (with_reducible rfl)
        (try simp only [Act.put, List.setIfInBounds_toArray, List.set_cons_zero, List.set_cons_succ, List.getElem_toArray, List.getElem_cons_zero, List.getElem_cons_succ])
        refine wpAnyH_ready (rs := [15]) (by kernel_rfl) (by simp) ?_
        refine AllReadyH.cons rfl (fun K hK => ?_) AllReadyH.nil
        go_simp
        go_at_call 20
        refine (HBp.out _ hHeld.2.2.2.e).mono ?_
        rintro e11 w11 ⟨a11, c11, rfl, hI, hb⟩
        have hb' := hb.mono (Nat.le_refl _)
        have k5 := hHeld.2.2.1.trans (hb.mono hHeld.2.2.1.size)
        have k4 := hHeld.2.2.2.below hb
        have cv2 := string_of_ints (P := Try.prog) (src := 54) (dst := 9) (c := c11) Try.underlying54 Try.underlying5 Try.underlying9 hI
        have cv3 := string_of_ints (P := Try.prog) (src := 54) (dst := 9) (c := c8) Try.underlying54 Try.underlying5 Try.underlying9 (HI1.out.below k5)
        have cv4 := string_of_ints (P := Try.prog) (src := 54) (dst := 9) (c := c9) Try.underlying54 Try.underlying5 Try.underlying9 (HI9.out.below hb')
        refine hK.out _ _ ⟨cv4, cv3, k5, k4⟩ (fun _ => ?_)
        clear hK K hHeld hI hb hb'
        refine wpAnyH_strong (S2 := fun w' => (convert 54 9 (.slice a11 bb.length c11)).run Try.prog w' = .ok (.string (textOf bb)) w' ∧ (convert 54 9 (.slice a9 bb.length c9)).run Try.prog w' = .ok (.string (textOf bb)) w' ∧ (convert 54 9 (.slice a8 bb.length c8)).run Try.prog w' = .ok (.string (textOf bb)) w' ∧ Below w8.heap.size w8 w' ∧ St6 w ⟨mg, fg, xg, xr, lg, lr, w5.heap.size, w6.heap.size + 1, w2.heap.size, bl, w5.heap.size, w6.heap.size, n⟩ w' L L E E v r c) (fun w h => h.2) ?_
        have hHeld := And.intro cv2 (And.intro cv4 (And.intro cv3 (And.intro k5 k4)))
        clear cv2 cv3 cv4 k5 k4
        (try simp only [Act.put, List.setIfInBounds_toArray, List.set_cons_zero, List.set_cons_succ, List.getElem_toArray, List.getElem_cons_zero, List.getElem_cons_succ])
        refine wpAnyH_take (i := 16) (v := ?_) rfl (by kernel_rfl) (by kernel_rfl) (by kernel_rfl) (fun _ _ _ h => h) (Or.inl ⟨by rfl, ?_⟩) (by assumption) ?_
        rotate_left 1
        · intro wq hSw
          (try dsimp only at hSw)
          go_simp
          all_goals (with_reducible rfl)
        (try simp only [Act.put, List.setIfInBounds_toArray, List.set_cons_zero, List.set_cons_succ, List.getElem_toArray, List.getElem_cons_zero, List.getElem_cons_succ])
        refine wpAnyH_take (i := 19) (v := ?_) rfl (by kernel_rfl) (by kernel_rfl) (by kernel_rfl) (fun _ _ _ h => h) (Or.inl ⟨by rfl, ?_⟩) (by assumption) ?_
        rotate_left 1
        · intro wq hSw
          (try dsimp only at hSw)
          go_simp
          all_goals (with_reducible rfl)
        (try simp only [Act.put, List.setIfInBounds_toArray, List.set_cons_zero, List.set_cons_succ, List.getElem_toArray, List.getElem_cons_zero, List.getElem_cons_succ])
        refine wpAnyH_take (i := 20) (v := ?_) rfl (by kernel_rfl) (by kernel_rfl) (by kernel_rfl) (fun _ _ _ h => h) (Or.inl ⟨by rfl, ?_⟩) (by assumption) ?_
        rotate_left 1
        · intro wq hSw
          (try dsimp only at hSw)
          go_simp
          all_goals (with_reducible rfl)
        (try simp only [Act.put, List.setIfInBounds_toArray, List.set_cons_zero, List.set_cons_succ, List.getElem_toArray, List.getElem_cons_zero, List.getElem_cons_succ])
        refine wpAnyH_take (i := 21) (v := ?_) rfl (by kernel_rfl) (by kernel_rfl) (by kernel_rfl) (fun _ _ _ h => h) (Or.inl ⟨by rfl, ?_⟩) (by assumption) ?_
        rotate_left 1
        · intro wq hSw
          (try dsimp only at hSw)
          go_simp
          all_goals (with_reducible rfl)
        (try simp only [Act.put, List.setIfInBounds_toArray, List.set_cons_zero, List.set_cons_succ, List.getElem_toArray, List.getElem_cons_zero, List.getElem_cons_succ])
        refine wpAnyH_done (by kernel_rfl) ?_ _
        go_wp2
        go_ret
        exact ⟨rfl, hHeld.2.2.2.2.b⟩
end Go.Proofs.Ythoabpfcpkmhfaa
