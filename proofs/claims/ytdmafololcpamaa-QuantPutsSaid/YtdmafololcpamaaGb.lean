/- Plain facts, and what functions give, for the proofs of this seat: several texts in one, each with its own first remark. -/
import Derived.Test.YtdmafololcpamaaRows
import Derived.Test.YtdmafololcpamaaGa
import Derived.IntWalk
import Derived.Deep.QuietTactic
import Derived.BigQuiet
import Derived.BigRegion
import Derived.StillTailTactics
import Derived.Lib.SliceRun

/- What the document's encoder of layer 6 gives. -/
namespace Go.Proofs.Ytdmafololcpamaa
open Go.RowKit
set_option linter.unusedVariables false

theorem info_int06 : (Try.prog.info? 3).map (fun i => (i.zero, i.size, i.bytes)) = some (some (.int .i64 0), 1, 8) := by kernel_rfl

/-- Block g is the document's encoder with the digits D (in block r), the size s, the scale k. -/
def EncMem (w : World) (base g r c : Nat) (D : List Int) (s : Int) (k : Nat) : Prop :=
  Cel w g 60 #[.slice (some ⟨r, 0, none⟩) D.length c, .int .i64 s, .int .i64 k] ∧ w.ownsRow base 3 1 (.slice (some ⟨r, 0, none⟩) D.length c) D.length (D.map (Value.int .i64)) ∧ base ≤ g
section
variable {w w' : World} {base g r c : Nat} {D : List Int} {s : Int} {k : Nat}
theorem EncMem.lt (h : EncMem w base g r c D s k) : g < w.heap.size ∧ r < w.heap.size ∧ base ≤ g ∧ base ≤ r ∧ r ≠ g :=
  ⟨h.1.lt, own_lt h.2.1 r rfl, h.2.2, own_base h.2.1 r rfl, own_ne_cel h.2.1 h.1 (by decide) r rfl⟩
theorem EncMem.cells (h : EncMem w base g r c D s k) : w.cell? ⟨g, 0, none⟩ = some (.slice (some ⟨r, 0, none⟩) D.length c) ∧ w.cell? ⟨g, 1, none⟩ = some (.int .i64 s) ∧ w.cell? ⟨g, 2, none⟩ = some (.int .i64 k) := ⟨h.1.cell 0, h.1.cell 1, h.1.cell 2⟩
theorem EncMem.fz (h : EncMem w base g r c D s k) : w.frozen? ⟨g, 0, none⟩ = false ∧ w.frozen? ⟨g, 1, none⟩ = false ∧ w.frozen? ⟨g, 2, none⟩ = false := ⟨h.1.frozen 0, h.1.frozen 1, h.1.frozen 2⟩
theorem EncMem.at_ (h : EncMem w base g r c D s k) {j : Nat} (hj : j < D.length) : w.cell? ⟨r, j, none⟩ = some (.int .i64 (D.getD j 0)) := by
  rw [h.2.1.cellAt j (by omega), List.getElem?_map, List.getElem?_eq_getElem hj]
  simp [List.getD, hj]
theorem EncMem.frozen (h : EncMem w base g r c D s k) (j : Nat) : w.frozen? ⟨r, j, none⟩ = false := h.2.1.frozenAt j
theorem EncMem.drewN (h : EncMem w base g r c D s k) (n : Nat) : EncMem (w.drewN n) base g r c D s k := h
theorem EncMem.keeps {F : Nat → Prop} (h : EncMem w base g r c D s k) (hk : Keeps F w w') (h1 : ¬ F g) (h2 : ¬ F r) : EncMem w' base g r c D s k :=
  ⟨h.1.keeps hk h1, own_keeps h.2.1 hk (by intro j hj; simp [Value.ownBlock] at hj; subst hj; exact h2), h.2.2⟩
theorem EncMem.below (h : EncMem w base g r c D s k) (hk : Below w.heap.size w w') : EncMem w' base g r c D s k := h.keeps (F := fun _ => False) (.of_below hk) (fun c => c) (fun c => c)
theorem EncMem.setD (h : EncMem w base g r c D s k) (j : Nat) (x : Int) : EncMem (w.setCell ⟨r, j, none⟩ (.int .i64 x)) base g r c (D.set j x) s k := by
  have hl := h.lt
  refine ⟨?_, ?_, h.2.2⟩
  · rw [List.length_set]; exact h.1.far (p := ⟨r, j, none⟩) (fun e => hl.2.2.2.2 e.symm) _
  · rw [List.length_set, List.map_set]; exact (h.2.1.stored j (.int .i64 x)).1
theorem EncMem.setS (h : EncMem w base g r c D s k) (x : Int) : EncMem (w.setCell ⟨g, 1, none⟩ (.int .i64 x)) base g r c D x k := by
  have hl := h.lt
  exact ⟨by simpa using h.1.set_ 1 (.int .i64 x), own_far h.2.1 (by intro j hj; simp [Value.ownBlock] at hj; subst hj; exact hl.2.2.2.2) _, h.2.2⟩
theorem EncMem.setK (h : EncMem w base g r c D s k) (x : Nat) : EncMem (w.setCell ⟨g, 2, none⟩ (.int .i64 x)) base g r c D s x := by
  have hl := h.lt
  exact ⟨by simpa using h.1.set_ 2 (.int .i64 x), own_far h.2.1 (by intro j hj; simp [Value.ownBlock] at hj; subst hj; exact hl.2.2.2.2) _, h.2.2⟩
theorem EncMem.ofD {D' : List Int} (h : EncMem w base g r c D s k) (e : D = D') : EncMem w base g r c D' s k := e ▸ h
end
/-- How far the size is from where the scaling ends. -/
def leftOf (w : World) (g : Nat) : Nat := match w.cell? ⟨g, 1, none⟩ with | some (.int _ s) => (16777216 - s).toNat | _ => 0
theorem leftOf_eq {w : World} {g : Nat} {k : IntKind} {s : Int} (h : w.cell? ⟨g, 1, none⟩ = some (.int k s)) : leftOf w g = (16777216 - s).toNat := by unfold leftOf; rw [h]
/-- What an encoder's calls write. -/
def EncF (g r : Nat) (B : Nat) (k : Nat) : Prop := k = g ∨ k = r ∨ B ≤ k

/-- What putting leaves. -/
def EncPost (base g r : Nat) (f : EncS) (w : World) (x : Ending) (w' : World) : Prop :=
  x = .returned (.tuple #[]) ∧ ∃ r' c', EncMem w' base g r' c' (digL f.n (f.k + 4)) f.s f.k ∧ Keeps (fun j => j = g ∨ j = r) w w' ∧ (r' = r ∨ w.heap.size ≤ r')

set_option maxHeartbeats 4000000 in
set_option maxRecDepth 100000 in
theorem refEncPut_any (base g r c : Nat) (e : EncS) (low own all : Int) (w : World) (hE : EncMem w base g r c (digL e.n (e.k + 4)) e.s e.k) (hG : GoodE e) (hP : OkP low own all) (hk : e.k ≤ 1000000) :
    Calls Try.prog 59 #[.pointer (some ⟨g, 0, none⟩), .int .i64 low, .int .i64 own, .int .i64 all] w (EncPost base g r (encPut e low own all) w) := by
  obtain ⟨s0, s1, n0, n1⟩ := hG
  obtain ⟨p1, p2, p3, p4, p5⟩ := hP
  obtain ⟨E0, E1, E2⟩ := each_bd s0 s1 p1 p2
  have HP : RowKit.Hid (OkP low own all) := ⟨p1, p2, p3, p4, p5⟩
  have HG : RowKit.Hid (GoodE e) := ⟨s0, s1, n0, n1⟩
  obtain ⟨c0, c1, c2⟩ := hE.cells
  rw [digL_len] at c0
  have HE := Lib.hid hE
  have HL := Lib.hid hE.lt
  clear hE
  have HPre := Lib.hid (encPre_bd HG.out HP.out)
  have hq : e.s.tdiv all = e.s / all := Int.tdiv_eq_ediv_of_nonneg (by omega)
  have a2 : 0 ≤ e.s / all * low := Int.mul_nonneg (by omega) p4
  have a3 : e.s / all * (low + own) ≤ e.s / all * all := Int.mul_le_mul_of_nonneg_left p5 (by omega)
  have a4 : e.s / all * 1 ≤ e.s / all * own := Int.mul_le_mul_of_nonneg_left p3 (by omega)
  rw [Int.mul_add] at a3
  have hall : ¬ all = 0 := by omega
  have hput : encPut e low own all = scaleE (encPre e low own all) := rfl
  rw [hput]
  clear hput
  have HN : RowKit.Hid ((encPre e low own all).n = e.n + e.s / all * low ∧ (encPre e low own all).s = e.s / all * own ∧ (encPre e low own all).k = e.k) := ⟨rfl, rfl, rfl⟩
  generalize encPre e low own all = pre at HN HPre ⊢
  obtain ⟨E, hE⟩ : ∃ E, e.s / all = E := ⟨_, rfl⟩
  rw [hE] at hq a2 a3 a4 E0 E1 E2 HN
  obtain ⟨A, hA⟩ : ∃ A, E * low = A := ⟨_, rfl⟩
  obtain ⟨O, hO⟩ : ∃ O, E * own = O := ⟨_, rfl⟩
  rw [hA] at a2 a3 HN
  rw [hO] at a3 a4 HN
  have hDl := Lib.hid (digL_len e.n (e.k + 4))
  have hDd := Lib.hid (digL_dig e.n (e.k + 4))
  have hnl : RowKit.Hid (e.n < P256 (e.k + 4)) := by
    show _ < _
    rw [show e.k + 4 = e.k + 1 + 1 + 1 + 1 by omega, P256_succ, P256_succ, P256_succ, P256_succ]
    omega
  have hDv := Lib.hid (digL_val n0 hnl.out)
  generalize hD : digL e.n (e.k + 4) = D at HE hDl hDd hDv
  clear hD
  go_enter Try.func59, Try.ntmps59
  go_wp2
  go_loopw [9, 10] (fun a i wr => ∃ j : Nat, j ≤ 4 ∧ i = .int .i64 (3 - (j : Int)) ∧ a = .int .i64 (A / P256 j) ∧ RowKit.Hid (EncMem wr base g r c (addL D e.k A j) e.s e.k ∧ Keeps (fun j => j = g ∨ j = r) w wr)) (fun _ i _ => (intOf i + 1).toNat)
  case atStart => exact ⟨0, by omega, rfl, by rw [show P256 0 = 1 by decide, Int.ediv_one], HE.out, Keeps.refl _ _⟩
  case round =>
    obtain ⟨j, hj, rfl, rfl, H⟩ := hrel
    clear c0 c1 c2
    obtain ⟨c0, c1, c2⟩ := H.out.1.cells
    rw [addL_len, hDl.out] at c0
    by_cases hlt : j < 4
    · obtain ⟨q, hq1⟩ : ∃ q : Nat, q + j = e.k + 3 := ⟨e.k + 3 - j, by omega⟩
      have hqi : (e.k : Int) + (3 - (j : Int)) = (q : Int) := by omega
      have i1 := H.out.1.at_ (j := q) (by rw [addL_len, hDl.out]; omega)
      have f1 := H.out.1.frozen q
      have hold : (addL D e.k A j).getD q 0 = D.getD q 0 := (addL_getD A hDl.out j (by omega) q).1 (by omega)
      have hb := hDd.out q (by rw [hDl.out]; omega)
      rw [← hold] at hb
      have HS : RowKit.Hid (addL D e.k A (j + 1) = (addL D e.k A j).set q ((addL D e.k A j).getD q 0 + A / P256 j % 256)) := by
        show addL D e.k A (j + 1) = _
        conv => lhs; unfold addL
        rw [show e.k + 3 - j = q by omega]
      obtain ⟨x, hx⟩ : ∃ x, x = (addL D e.k A j).getD q 0 := ⟨_, rfl⟩
      rw [← hx] at i1 hb HS
      have p0 := P256_pos j
      have y0 : 0 ≤ A / P256 j := Int.ediv_nonneg a2 (by omega)
      have y1 : A / P256 j ≤ A := Int.ediv_le_self _ a2
      have HV : RowKit.Hid (A / P256 j / 256 = A / P256 (j + 1)) := by
        show _ = _
        rw [P256_succ, Int.ediv_ediv_of_nonneg (by omega)]
      clear hold hx
      generalize A / P256 j = y at y0 y1 HS HV ⊢
      have z0 := Int.emod_nonneg y (b := 256) (by decide)
      have z1 := Int.emod_lt_of_pos y (b := 256) (by decide)
      have HE2 : RowKit.Hid (EncMem (wr.setCell ⟨r, q, none⟩ (.int .i64 (x + y % 256))) base g r c (addL D e.k A (j + 1)) e.s e.k ∧ Keeps (fun j => j = g ∨ j = r) w (wr.setCell ⟨r, q, none⟩ (.int .i64 (x + y % 256)))) := by
        refine ⟨?_, H.out.2.setCell (p := ⟨r, q, none⟩) (.inl (.inr rfl)) _⟩
        rw [HS.out]; exact H.out.1.setD q _
      go_wp2
      have g1 : IntKind.i64.wrap ((e.k : Int) + (3 - (j : Int))) = (q : Int) := by rw [hqi]; exact IntWalk.i64_in _ (by omega)
      have g2 : (q : Int) < (e.k + 4 : Nat) := by omega
      have g3 : y.tmod 256 = y % 256 := Int.tmod_eq_emod_of_nonneg y0
      have g4 : IntKind.i64.wrap (x + y % 256) = x + y % 256 := IntWalk.i64_in _ (by omega)
      have g5 : IntKind.i64.wrap (y % 256) = y % 256 := IntWalk.i64_in _ (by omega)
      go_region
      clear g1 g2 g3 g4 g5
      go_wp2
      go_roundw
      case rel => exact ⟨j + 1, by omega, by go_num, by rw [HV.out], HE2.out.1.drewN 1, HE2.out.2.drewN 1⟩
      case measure => simp [intOf] <;> omega
    · have hj4 : j = 4 := by omega
      have HC : RowKit.Hid (Carry (addL D e.k A 4) e.k (e.k + 3) ∧ valL (addL D e.k A 4) = pre.n ∧ EncMem wr base g r c (addL D e.k A 4) e.s e.k ∧ Keeps (fun j => j = g ∨ j = r) w wr) := by
        have H' := H.out
        rw [hj4] at H'
        refine ⟨carry_start hDl.out hDd.out, ?_, H'.1, H'.2⟩
        rw [addL_val hDl.out a2 (by omega), hDv.out, HN.out.1]
      clear hj4
      have a40 : 0 ≤ A / P256 j := Int.ediv_nonneg a2 (by have := P256_pos j; omega)
      have a41 : A / P256 j ≤ A := Int.ediv_le_self _ a2
      generalize A / P256 j = A4 at a40 a41 ⊢
      go_wp2
      generalize addL D e.k A 4 = D0 at HC
      clear H c0 c1 c2
      go_loopw [11] (fun i wr => ∃ (D2 : List Int) (i2 : Nat), i = .int .i64 i2 ∧ i2 ≤ e.k + 3 ∧ RowKit.Hid (Carry D2 e.k i2 ∧ valL D2 = pre.n ∧ EncMem wr base g r c D2 e.s e.k ∧ Keeps (fun j => j = g ∨ j = r) w wr)) (fun i _ => (intOf i).toNat)
      case atStart => exact ⟨D0, e.k + 3, by go_num, by omega, HC.out⟩
      case round =>
        obtain ⟨D2, i2, rfl, hi2, H⟩ := hrel
        clear HC
        have hlen : D2.length = e.k + 4 := H.out.1.1
        obtain ⟨c0, c1, c2⟩ := H.out.2.2.1.cells
        rw [hlen] at c0
        have HLn := Lib.hid hlen
        have i1 := H.out.2.2.1.at_ (j := i2) (by omega)
        have f1 := H.out.2.2.1.frozen i2
        obtain ⟨x, hx⟩ : ∃ x, x = D2.getD i2 0 := ⟨_, rfl⟩
        have x0 : 0 ≤ x := by rw [hx]; exact H.out.1.2.2.2.2.1
        have x1 : x ≤ 511 := by rw [hx]; exact H.out.1.2.2.2.2.2.1
        rw [← hx] at i1
        have HX := Lib.hid hx
        clear hlen hx
        have hlt2 : (i2 : Int) < (e.k + 4 : Nat) := by omega
        by_cases hstop : i2 = 0 ∨ (i2 < e.k ∧ x ≤ 255)
        · have ZZ : IsDig D2 := by
            rcases hstop with hz | ⟨hk2, hx2⟩
            · refine carry_head (K := e.k) (by have := H.out.1; rw [hz] at this; exact this) ?_
              rw [H.out.2.1]
              have := HPre.out
              have e4 : P256 (e.k + 4) = P256 e.k * 256 * 256 * 256 * 256 := by rw [show e.k + 4 = e.k + 1 + 1 + 1 + 1 by omega, P256_succ, P256_succ, P256_succ, P256_succ]
              rw [e4]; omega
            · exact carry_stop H.out.1 hk2 (by rw [← HX.out]; exact hx2)
          have HV : RowKit.Hid (0 ≤ pre.n ∧ pre.n < P256 (e.k + 4)) := by
            have := valL_lt ZZ
            rw [H.out.2.1, HLn.out] at this
            exact this
          have HD2 : RowKit.Hid (D2 = digL pre.n (e.k + 4)) := by
            have := dig_unique ZZ
            rw [H.out.2.1, HLn.out] at this
            exact this
          clear ZZ
          have f0 := H.out.2.2.1.fz.2.1
          have H3 : RowKit.Hid (EncMem (wr.setCell ⟨g, 1, none⟩ (.int .i64 O)) base g r c (digL pre.n (e.k + 4)) O e.k ∧ Keeps (fun j => j = g ∨ j = r) w (wr.setCell ⟨g, 1, none⟩ (.int .i64 O))) := by
            refine ⟨?_, H.out.2.2.2.setCell (.inl (.inl rfl)) _⟩
            rw [← HD2.out]; exact H.out.2.2.1.setS O
          have st1 : RowKit.Hid (pre.k = e.k ∧ pre.s = O) := ⟨HN.out.2.2, HN.out.2.1⟩
          have O0 : 2048 ≤ O := by omega
          have O1 : O ≤ 4294967295 := by omega
          by_cases hz : i2 = 0
          · have d0 : decide ((0 : Int) < (i2 : Int)) = false := by simp; omega
            have d0' : decide (0 < i2) = false := by simp; omega
            clear hstop hz
            go_wp2
            clear H c0 c1 c2 f0 i1 f1
            generalize wr.setCell ⟨g, 1, none⟩ (.int .i64 O) = w4 at H3 ⊢
            go_loopw [124] (fun _ wr => ∃ (st : EncS) (r2 c2 : Nat), 2048 ≤ st.s ∧ st.s ≤ 4294967295 ∧ st.k ≤ e.k + 2 ∧ (e.k + 1 ≤ st.k → 524288 ≤ st.s) ∧ (e.k + 2 ≤ st.k → 16777216 ≤ st.s) ∧ RowKit.Hid (scaleE st = scaleE pre ∧ 0 ≤ st.n ∧ st.n < P256 (st.k + 4) ∧ EncMem wr base g r2 c2 (digL st.n (st.k + 4)) st.s st.k ∧ Keeps (fun j => j = g ∨ j = r) w wr ∧ (r2 = r ∨ w.heap.size ≤ r2))) (fun _ wr => leftOf wr g)
            case atStart => exact ⟨pre, r, c, by have := st1.out; omega, by have := st1.out; omega, by have := st1.out; omega, by have := st1.out; omega, by have := st1.out; omega, rfl, HV.out.1, by rw [st1.out.1]; exact HV.out.2, by rw [st1.out.1, st1.out.2]; exact H3.out.1, H3.out.2, .inl rfl⟩
            case round =>
              obtain ⟨st, r2, c2, b0, b1, b2, b3, b4, H⟩ := hrel
              clear H3
              obtain ⟨m0, m1, m2⟩ := H.out.2.2.2.1.cells
              obtain ⟨z0, z1, z2⟩ := H.out.2.2.2.1.fz
              rw [digL_len] at m0
              by_cases hlt : st.s < 16777216
              · have S1 := Lib.hid (scaleE_step (e := st) (by omega) hlt)
                have hk1 : st.k ≤ e.k + 1 := by omega
                have T1 := Lib.hid (H.out.2.2.2.1.setS (st.s * 256))
                have K1 := Lib.hid (H.out.2.2.2.2.1.setCell (p := ⟨g, 1, none⟩) (.inl (.inl rfl)) (.int .i64 (st.s * 256)))
                have T2 : RowKit.Hid (EncMem ((wr.setCell ⟨g, 1, none⟩ (.int .i64 (st.s * 256))).setCell ⟨g, 2, none⟩ (.int .i64 ((st.k : Int) + 1))) base g r2 c2 (digL st.n (st.k + 4)) (st.s * 256) (st.k + 1)) := T1.out.setK (st.k + 1)
                have K2 := Lib.hid (K1.out.setCell (p := ⟨g, 2, none⟩) (.inl (.inl rfl)) (.int .i64 ((st.k : Int) + 1)))
                have hsz := K2.out.size
                have hbw := HL.out.2.2.1
                have hgw := HL.out.1
                have hrw := HL.out.2.1
                have e5 : ((wr.setCell ⟨g, 1, none⟩ (.int .i64 (st.s * 256))).setCell ⟨g, 2, none⟩ (.int .i64 ((st.k : Int) + 1))).heap.size = wr.heap.size := by simp [World.setCell]
                have hown0 := Lib.hid (World.ownsRow.alloc T2.out.2.1 (.cells #[.int .i64 0] 3))
                have hsrc := lit_ints ((wr.setCell ⟨g, 1, none⟩ (.int .i64 (st.s * 256))).setCell ⟨g, 2, none⟩ (.int .i64 ((st.k : Int) + 1))) 3 .i64 [0] #[.int .i64 0] (0, 0) rfl (by simp)
                rw [e5] at hsrc
                have HSrc := Lib.hid hsrc
                have TA := Lib.hid (T2.out.1.alloc (.cells #[.int .i64 0] 3))
                have KA := Lib.hid (K2.out.alloc (.cells #[.int .i64 0] 3))
                rw [digL_len] at hown0
                have hh := Lib.hid (H.out.2.2.2.2.2)
                clear hsrc
                go_wp2_with (at_builtin; go_loud (refine append_ints rfl _ _ 26 rfl base 3 .i64 8 Try.underlying26 info_int06 _ (st.k + 4) (digL st.n (st.k + 4)) rfl hown0.out (some ⟨wr.heap.size, 0, none⟩) 1 1 _ [0] rfl HSrc.out (by simp) ?c1 ?c2 ?c3 ?_))
                case c1 => unfold maxLen; omega
                case c2 => omega
                case c3 => simp [World.setCell]; omega
                intro v2 w2 hown hgrow hat
                have hrg := T2.out.lt.2.2.2.2
                have TC2 : Cel w2 g 60 #[.slice (some ⟨r2, 0, none⟩) (digL st.n (st.k + 4)).length c2, .int .i64 (st.s * 256), .int .i64 ((st.k + 1 : Nat) : Int)] := TA.out.keep (hgrow.block g TA.out.lt (by simp [Value.ownBlock]; exact fun c => hrg c.symm))
                have hown' : w2.ownsRow base 3 1 v2 (st.k + 4 + 1) ((digL (st.n * 256) (st.k + 1 + 4)).map (Value.int .i64)) := by
                  rw [show st.k + 1 + 4 = st.k + 4 + 1 by omega, ← digL_more H.out.2.1 H.out.2.2.1]
                  simpa using hown
                obtain ⟨r3, c3, rfl, _, _⟩ := World.ownsRow.form hown' (by omega)
                have n0 := TC2.cell 0
                simp only [List.getElem?_toArray, List.getElem?_cons_zero] at n0
                have nz := TC2.frozen 0
                have HN2 : RowKit.Hid (EncMem (w2.setCell ⟨g, 0, none⟩ (.slice (some ⟨r3, 0, none⟩) (st.k + 4 + 1) c3)) base g r3 c3 (digL (st.n * 256) (st.k + 1 + 4)) (st.s * 256) (st.k + 1) ∧ Keeps (fun j => j = g ∨ j = r) w (w2.setCell ⟨g, 0, none⟩ (.slice (some ⟨r3, 0, none⟩) (st.k + 4 + 1) c3)) ∧ (r3 = r ∨ w.heap.size ≤ r3)) := by
                  refine ⟨⟨?_, ?_, hbw⟩, ?_, ?_⟩
                  · rw [digL_len, show st.k + 1 + 4 = st.k + 4 + 1 by omega]
                    simpa using TC2.set_ 0 (.slice (some ⟨r3, 0, none⟩) (st.k + 4 + 1) c3)
                  · rw [digL_len, show st.k + 1 + 4 = st.k + 4 + 1 by omega]
                    rw [show st.k + 1 + 4 = st.k + 4 + 1 by omega] at hown'
                    exact own_far hown' (fun j hj => own_ne_cel hown' TC2 (by decide) j hj) _
                  · refine (KA.out.grown (r := r2) (by simpa [Value.ownBlock] using hgrow) ?_).setCell (.inl (.inl rfl)) _
                    rcases hh.out with h | h
                    · exact .inl (.inr h)
                    · exact .inr h
                  · rcases hat with h | h
                    · have : r3 = r2 := by simpa [Value.ownBlock] using h
                      rw [this]; exact hh.out
                    · right
                      have : r3 = ((wr.setCell ⟨g, 1, none⟩ (.int .i64 (st.s * 256))).setCell ⟨g, 2, none⟩ (.int .i64 ((st.k : Int) + 1))).heap.size + 1 := by simpa [Value.ownBlock] using h
                      omega
                have hmz := HN2.out.1.cells.2.1
                have HS2 : RowKit.Hid (0 ≤ st.n * 256 ∧ st.n * 256 < P256 (st.k + 1 + 4)) := by
                  have h1 := H.out.2.1
                  have h2 := H.out.2.2.1
                  refine ⟨by omega, ?_⟩
                  rw [show st.k + 1 + 4 = st.k + 4 + 1 by omega, P256_succ]
                  omega
                have HS1 : RowKit.Hid (scaleE ⟨st.n * 256, st.s * 256, st.k + 1⟩ = scaleE pre) := S1.out.symm.trans H.out.1
                clear TC2 hown' hown hgrow hat T1 K1 T2 K2 TA KA hown0 HSrc
                go_wp2
                go_roundw
                case rel => exact ⟨⟨st.n * 256, st.s * 256, st.k + 1⟩, r3, c3, by simp only; omega, by simp only; omega, by simp only; omega, by simp only; omega, by simp only; omega, HS1.out, HS2.out.1, HS2.out.2, HN2.out.1, HN2.out.2.1, HN2.out.2.2⟩
                case measure => rw [leftOf_eq hmz, leftOf_eq m1]; omega
              · have Z : RowKit.Hid (scaleE pre = st) := by rw [← H.out.1]; exact scaleE_end (by omega)
                go_wp2
                go_end0
                exact ⟨rfl, r2, c2, by rw [Z.out]; exact H.out.2.2.2.1, H.out.2.2.2.2.1, H.out.2.2.2.2.2⟩
          · have d0 : decide ((0 : Int) < (i2 : Int)) = true := by simp; omega
            have hk2 : i2 < e.k := by omega
            have hx2 : x ≤ 255 := by omega
            have d1 : decide ((e.k : Int) ≤ (i2 : Int)) = false := by simp; omega
            have d2 : decide ((255 : Int) < x) = false := by simp; omega
            have d1' : decide (e.k ≤ i2) = false := by simp; omega
            have hi0 : 0 < i2 := by omega
            have d0' : decide (0 < i2) = true := by simp; omega
            clear hstop hz
            go_wp2
            clear H c0 c1 c2 f0 i1 f1
            generalize wr.setCell ⟨g, 1, none⟩ (.int .i64 O) = w4 at H3 ⊢
            go_loopw [124] (fun _ wr => ∃ (st : EncS) (r2 c2 : Nat), 2048 ≤ st.s ∧ st.s ≤ 4294967295 ∧ st.k ≤ e.k + 2 ∧ (e.k + 1 ≤ st.k → 524288 ≤ st.s) ∧ (e.k + 2 ≤ st.k → 16777216 ≤ st.s) ∧ RowKit.Hid (scaleE st = scaleE pre ∧ 0 ≤ st.n ∧ st.n < P256 (st.k + 4) ∧ EncMem wr base g r2 c2 (digL st.n (st.k + 4)) st.s st.k ∧ Keeps (fun j => j = g ∨ j = r) w wr ∧ (r2 = r ∨ w.heap.size ≤ r2))) (fun _ wr => leftOf wr g)
            case atStart => exact ⟨pre, r, c, by have := st1.out; omega, by have := st1.out; omega, by have := st1.out; omega, by have := st1.out; omega, by have := st1.out; omega, rfl, HV.out.1, by rw [st1.out.1]; exact HV.out.2, by rw [st1.out.1, st1.out.2]; exact H3.out.1, H3.out.2, .inl rfl⟩
            case round =>
              obtain ⟨st, r2, c2, b0, b1, b2, b3, b4, H⟩ := hrel
              clear H3
              obtain ⟨m0, m1, m2⟩ := H.out.2.2.2.1.cells
              obtain ⟨z0, z1, z2⟩ := H.out.2.2.2.1.fz
              rw [digL_len] at m0
              by_cases hlt : st.s < 16777216
              · have S1 := Lib.hid (scaleE_step (e := st) (by omega) hlt)
                have hk1 : st.k ≤ e.k + 1 := by omega
                have T1 := Lib.hid (H.out.2.2.2.1.setS (st.s * 256))
                have K1 := Lib.hid (H.out.2.2.2.2.1.setCell (p := ⟨g, 1, none⟩) (.inl (.inl rfl)) (.int .i64 (st.s * 256)))
                have T2 : RowKit.Hid (EncMem ((wr.setCell ⟨g, 1, none⟩ (.int .i64 (st.s * 256))).setCell ⟨g, 2, none⟩ (.int .i64 ((st.k : Int) + 1))) base g r2 c2 (digL st.n (st.k + 4)) (st.s * 256) (st.k + 1)) := T1.out.setK (st.k + 1)
                have K2 := Lib.hid (K1.out.setCell (p := ⟨g, 2, none⟩) (.inl (.inl rfl)) (.int .i64 ((st.k : Int) + 1)))
                have hsz := K2.out.size
                have hbw := HL.out.2.2.1
                have hgw := HL.out.1
                have hrw := HL.out.2.1
                have e5 : ((wr.setCell ⟨g, 1, none⟩ (.int .i64 (st.s * 256))).setCell ⟨g, 2, none⟩ (.int .i64 ((st.k : Int) + 1))).heap.size = wr.heap.size := by simp [World.setCell]
                have hown0 := Lib.hid (World.ownsRow.alloc T2.out.2.1 (.cells #[.int .i64 0] 3))
                have hsrc := lit_ints ((wr.setCell ⟨g, 1, none⟩ (.int .i64 (st.s * 256))).setCell ⟨g, 2, none⟩ (.int .i64 ((st.k : Int) + 1))) 3 .i64 [0] #[.int .i64 0] (0, 0) rfl (by simp)
                rw [e5] at hsrc
                have HSrc := Lib.hid hsrc
                have TA := Lib.hid (T2.out.1.alloc (.cells #[.int .i64 0] 3))
                have KA := Lib.hid (K2.out.alloc (.cells #[.int .i64 0] 3))
                rw [digL_len] at hown0
                have hh := Lib.hid (H.out.2.2.2.2.2)
                clear hsrc
                go_wp2_with (at_builtin; go_loud (refine append_ints rfl _ _ 26 rfl base 3 .i64 8 Try.underlying26 info_int06 _ (st.k + 4) (digL st.n (st.k + 4)) rfl hown0.out (some ⟨wr.heap.size, 0, none⟩) 1 1 _ [0] rfl HSrc.out (by simp) ?c1 ?c2 ?c3 ?_))
                case c1 => unfold maxLen; omega
                case c2 => omega
                case c3 => simp [World.setCell]; omega
                intro v2 w2 hown hgrow hat
                have hrg := T2.out.lt.2.2.2.2
                have TC2 : Cel w2 g 60 #[.slice (some ⟨r2, 0, none⟩) (digL st.n (st.k + 4)).length c2, .int .i64 (st.s * 256), .int .i64 ((st.k + 1 : Nat) : Int)] := TA.out.keep (hgrow.block g TA.out.lt (by simp [Value.ownBlock]; exact fun c => hrg c.symm))
                have hown' : w2.ownsRow base 3 1 v2 (st.k + 4 + 1) ((digL (st.n * 256) (st.k + 1 + 4)).map (Value.int .i64)) := by
                  rw [show st.k + 1 + 4 = st.k + 4 + 1 by omega, ← digL_more H.out.2.1 H.out.2.2.1]
                  simpa using hown
                obtain ⟨r3, c3, rfl, _, _⟩ := World.ownsRow.form hown' (by omega)
                have n0 := TC2.cell 0
                simp only [List.getElem?_toArray, List.getElem?_cons_zero] at n0
                have nz := TC2.frozen 0
                have HN2 : RowKit.Hid (EncMem (w2.setCell ⟨g, 0, none⟩ (.slice (some ⟨r3, 0, none⟩) (st.k + 4 + 1) c3)) base g r3 c3 (digL (st.n * 256) (st.k + 1 + 4)) (st.s * 256) (st.k + 1) ∧ Keeps (fun j => j = g ∨ j = r) w (w2.setCell ⟨g, 0, none⟩ (.slice (some ⟨r3, 0, none⟩) (st.k + 4 + 1) c3)) ∧ (r3 = r ∨ w.heap.size ≤ r3)) := by
                  refine ⟨⟨?_, ?_, hbw⟩, ?_, ?_⟩
                  · rw [digL_len, show st.k + 1 + 4 = st.k + 4 + 1 by omega]
                    simpa using TC2.set_ 0 (.slice (some ⟨r3, 0, none⟩) (st.k + 4 + 1) c3)
                  · rw [digL_len, show st.k + 1 + 4 = st.k + 4 + 1 by omega]
                    rw [show st.k + 1 + 4 = st.k + 4 + 1 by omega] at hown'
                    exact own_far hown' (fun j hj => own_ne_cel hown' TC2 (by decide) j hj) _
                  · refine (KA.out.grown (r := r2) (by simpa [Value.ownBlock] using hgrow) ?_).setCell (.inl (.inl rfl)) _
                    rcases hh.out with h | h
                    · exact .inl (.inr h)
                    · exact .inr h
                  · rcases hat with h | h
                    · have : r3 = r2 := by simpa [Value.ownBlock] using h
                      rw [this]; exact hh.out
                    · right
                      have : r3 = ((wr.setCell ⟨g, 1, none⟩ (.int .i64 (st.s * 256))).setCell ⟨g, 2, none⟩ (.int .i64 ((st.k : Int) + 1))).heap.size + 1 := by simpa [Value.ownBlock] using h
                      omega
                have hmz := HN2.out.1.cells.2.1
                have HS2 : RowKit.Hid (0 ≤ st.n * 256 ∧ st.n * 256 < P256 (st.k + 1 + 4)) := by
                  have h1 := H.out.2.1
                  have h2 := H.out.2.2.1
                  refine ⟨by omega, ?_⟩
                  rw [show st.k + 1 + 4 = st.k + 4 + 1 by omega, P256_succ]
                  omega
                have HS1 : RowKit.Hid (scaleE ⟨st.n * 256, st.s * 256, st.k + 1⟩ = scaleE pre) := S1.out.symm.trans H.out.1
                clear TC2 hown' hown hgrow hat T1 K1 T2 K2 TA KA hown0 HSrc
                go_wp2
                go_roundw
                case rel => exact ⟨⟨st.n * 256, st.s * 256, st.k + 1⟩, r3, c3, by simp only; omega, by simp only; omega, by simp only; omega, by simp only; omega, by simp only; omega, HS1.out, HS2.out.1, HS2.out.2, HN2.out.1, HN2.out.2.1, HN2.out.2.2⟩
                case measure => rw [leftOf_eq hmz, leftOf_eq m1]; omega
              · have Z : RowKit.Hid (scaleE pre = st) := by rw [← H.out.1]; exact scaleE_end (by omega)
                go_wp2
                go_end0
                exact ⟨rfl, r2, c2, by rw [Z.out]; exact H.out.2.2.2.1, H.out.2.2.2.2.1, H.out.2.2.2.2.2⟩
        · have hz : 0 < i2 := by omega
          have d0 : decide ((0 : Int) < (i2 : Int)) = true := by simp; omega
          by_cases hbig : 255 < x
          · have HC2 := Lib.hid (carry_yes H.out.1 hz (by rw [← HX.out]; exact hbig))
            have HV2 := Lib.hid (carry1_val (D := D2) hz (by rw [HLn.out]; omega))
            obtain ⟨m, hm⟩ : ∃ m, m + 1 = i2 := ⟨i2 - 1, by omega⟩
            have hm0 : (i2 : Int) - 1 = (m : Int) := by omega
            have im := H.out.2.2.1.at_ (j := m) (by rw [HLn.out]; omega)
            have fm := H.out.2.2.1.frozen m
            have ym0 : 0 ≤ D2.getD m 0 ∧ D2.getD m 0 ≤ 510 := by have := H.out.1.2.2.2.1 m (by omega); exact ⟨this.1, this.2.1⟩
            have E1 := Lib.hid (H.out.2.2.1.setD i2 (x - 256))
            have E2 : RowKit.Hid (EncMem ((wr.setCell ⟨r, i2, none⟩ (.int .i64 (x - 256))).setCell ⟨r, m, none⟩ (.int .i64 (D2.getD m 0 + 1))) base g r c (carry1 D2 i2) e.s e.k) := by
              have h1 := E1.out.setD m (D2.getD m 0 + 1)
              have h2 : carry1 D2 i2 = (D2.set i2 (x - 256)).set m (D2.getD m 0 + 1) := by
                unfold carry1
                rw [show i2 - 1 = m by omega, ← HX.out, getD_set' D2 i2 m _ (by rw [HLn.out]; omega), if_neg (by omega)]
              show EncMem _ _ _ _ _ _ _ _
              rw [h2]; exact h1
            have K2 := Lib.hid ((H.out.2.2.2.setCell (p := ⟨r, i2, none⟩) (.inl (.inr rfl)) (.int .i64 (x - 256))).setCell (p := ⟨r, m, none⟩) (.inl (.inr rfl)) (.int .i64 (D2.getD m 0 + 1)))
            have hmi : m ≠ i2 := by omega
            generalize D2.getD m 0 = y at im ym0 E2 K2
            have hbd : decide ((255 : Int) < x) = true := by simp; omega
            have g1 : IntKind.i64.wrap (x - 256) = x - 256 := IntWalk.i64_in _ (by omega)
            have g2 : IntKind.i64.wrap ((i2 : Int) - 1) = (m : Int) := by rw [hm0]; exact IntWalk.i64_in _ (by omega)
            have g3 : IntKind.i64.wrap (y + 1) = y + 1 := IntWalk.i64_in _ (by omega)
            have g4 : (m : Int) < (e.k + 4 : Nat) := by omega
            clear hm hstop
            have d0' : decide (0 < i2) = true := by simp; omega
            by_cases hK : e.k ≤ i2
            · have d1 : decide ((e.k : Int) ≤ (i2 : Int)) = true := by simp; omega
              have d1' : decide (e.k ≤ i2) = true := by simp; omega
              go_wp2
              go_region
              go_wp2
              go_region
              go_wp2
              go_roundw
              case rel => exact ⟨carry1 D2 i2, m, rfl, by omega, by have := HC2.out; rw [show i2 - 1 = m by omega] at this; exact this, by rw [HV2.out]; exact H.out.2.1, (E2.out.drewN 1).drewN 1, (K2.out.drewN 1).drewN 1⟩
              case measure => simp [intOf] <;> omega
            · have d1 : decide ((e.k : Int) ≤ (i2 : Int)) = false := by simp; omega
              have d1' : decide (e.k ≤ i2) = false := by simp; omega
              go_wp2
              go_region
              go_wp2
              go_region
              go_wp2
              go_roundw
              case rel => exact ⟨carry1 D2 i2, m, rfl, by omega, by have := HC2.out; rw [show i2 - 1 = m by omega] at this; exact this, by rw [HV2.out]; exact H.out.2.1, (E2.out.drewN 1).drewN 1, (K2.out.drewN 1).drewN 1⟩
              case measure => simp [intOf] <;> omega
          · have hK : e.k ≤ i2 := by omega
            have d1 : decide ((e.k : Int) ≤ (i2 : Int)) = true := by simp; omega
            have d1' : decide (e.k ≤ i2) = true := by simp; omega
            have HC2 := Lib.hid (carry_no H.out.1 hz (by rw [← HX.out]; omega))
            clear hstop
            go_wp2
            go_roundw
            case rel => exact ⟨D2, i2 - 1, by go_num, by omega, HC2.out, H.out.2.1, H.out.2.2.1, H.out.2.2.2⟩
            case measure => simp [intOf] <;> omega
end Go.Proofs.Ytdmafololcpamaa

/- What the document's encoder of layer 6 gives: bits. -/
namespace Go.Proofs.Ytdmafololcpamaa
open Go.RowKit
set_option linter.unusedVariables false

theorem refPower_any (k : Nat) (w : World) (hk : k ≤ 60) :
    Calls Try.prog 62 #[.int .i64 k] w fun x w' => x = .returned (.int .i64 (P2 k)) ∧ w = w' := by
  go_enter Try.func62, Try.ntmps62
  go_wp2
  go_loop [3, 4] (fun n i => ∃ j : Nat, j ≤ k ∧ i = .int .i64 j ∧ n = .int .i64 (P2 j)) (fun _ i => k - (intOf i).toNat)
  case atStart => exact ⟨0, by omega, rfl, rfl⟩
  case round =>
    obtain ⟨j, hj, rfl, rfl⟩ := hrel
    have p := P2_pos j
    by_cases hlt : j < k
    · have q := P2_le61 (k := j) (by omega)
      go_wp2
      go_round
      case rel => exact ⟨j + 1, by omega, by go_num, by rw [P2_succ]⟩
      case measure => simp [intOf] <;> omega
    · obtain rfl : j = k := by omega
      go_wp2
      go_ret
      exact ⟨rfl, rfl⟩
theorem refPower_at (k : Nat) (i : Int) (w : World) (hi : i = k) (hk : k ≤ 60) :
    Calls Try.prog 62 #[.int .i64 i] w fun x w' => x = .returned (.int .i64 (P2 k)) ∧ w = w' := by
  subst hi; exact refPower_any k w hk

/-- A number of so many bits, the highest twelve first. -/
def encBits (e : EncS) (n : Int) (wide : Nat) : EncS :=
  if wide = 0 then e else if wide ≤ 12 then encPut e (n % P2 wide) 1 (P2 wide) else
    let f := encPut e (n / P2 (wide - 12) % 4096) 1 4096
    if wide ≤ 24 then encPut f (n % P2 (wide - 12)) 1 (P2 (wide - 12)) else f
theorem encBits_zero (e : EncS) (n : Int) : encBits e n 0 = e := rfl
theorem encBits_low (e : EncS) (n : Int) {wide : Nat} (h0 : 0 < wide) (h1 : wide ≤ 12) : encBits e n wide = encPut e (n % P2 wide) 1 (P2 wide) := by
  unfold encBits; rw [if_neg (by omega), if_pos h1]
theorem encBits_high (e : EncS) (n : Int) {wide : Nat} (h0 : 12 < wide) (h1 : wide ≤ 24) : encBits e n wide = encBits (encPut e (n / P2 (wide - 12) % 4096) 1 4096) n (wide - 12) := by
  rw [encBits_low _ _ (show 0 < wide - 12 by omega) (by omega)]
  unfold encBits; rw [if_neg (by omega), if_neg (by omega), if_pos h1]
theorem okP_bit {x : Int} {k : Nat} (h : k ≤ 12) (h0 : 0 ≤ x) (h1 : x < P2 k) : OkP x 1 (P2 k) := by
  have p := P2_pos k
  have q := P2_mono (a := k) (b := 12) h
  rw [show P2 12 = 4096 by decide] at q
  exact ⟨p, by omega, by omega, h0, by omega⟩
theorem bit_part (n : Int) {k : Nat} : 0 ≤ n % P2 k ∧ n % P2 k < P2 k := by
  have p := P2_pos k
  exact ⟨Int.emod_nonneg _ (by omega), Int.emod_lt_of_pos _ (by omega)⟩

set_option maxRecDepth 100000 in
theorem refEncBits_any (base g r c : Nat) (e : EncS) (n : Int) (wide : Nat) (w : World) (hE : EncMem w base g r c (digL e.n (e.k + 4)) e.s e.k) (hG : GoodE e) (hk : e.k ≤ 900000) (hw : wide ≤ 24) (n0 : 0 ≤ n) (n1 : n ≤ 4294967295) :
    Calls Try.prog 36 #[.pointer (some ⟨g, 0, none⟩), .int .i64 n, .int .i64 wide] w (EncPost base g r (encBits e n wide) w) := by
  have H0 : RowKit.Hid (EncMem w base g r c (digL e.n (e.k + 4)) e.s e.k ∧ GoodE e) := ⟨hE, hG⟩
  clear hE hG
  go_enter Try.func36, Try.ntmps36
  go_wp2
  go_loopw [2, 6] (fun d _ wr => ∃ (q : Nat) (f : EncS), q ≤ wide ∧ d = .int .i64 q ∧ f.k ≤ e.k + 3 * (wide - q) ∧ RowKit.Hid (encBits f n q = encBits e n wide ∧ GoodE f ∧ ∃ r2 c2, EncMem wr base g r2 c2 (digL f.n (f.k + 4)) f.s f.k ∧ Keeps (fun j => j = g ∨ j = r) w wr ∧ (r2 = r ∨ w.heap.size ≤ r2))) (fun d _ _ => (intOf d).toNat)
  case atStart => exact ⟨wide, e, by omega, rfl, by omega, rfl, H0.out.2, r, c, H0.out.1, Keeps.refl _ _, .inl rfl⟩
  case round =>
    obtain ⟨q, f, hq, rfl, hf, H⟩ := hrel
    clear H0
    by_cases hlt : 0 < q
    · by_cases hq12 : 12 < q
      · obtain ⟨s1, s2, r2, c2, s3, s4, s5⟩ := H.out
        have HM : RowKit.Hid (EncMem wr.drew base g r2 c2 (digL f.n (f.k + 4)) f.s f.k) := s3
        have HGf := Lib.hid s2
        obtain ⟨lo, hlo⟩ : ∃ lo, lo + 12 = q := ⟨q - 12, by omega⟩
        have pl := P2_pos lo
        have ql := P2_le61 (k := lo) (by omega)
        have x0 : 0 ≤ n / P2 lo := Int.ediv_nonneg n0 (by omega)
        have x1 : n / P2 lo ≤ n := Int.ediv_le_self _ n0
        have y0 := Int.emod_nonneg (n / P2 lo) (b := 4096) (by decide)
        have y1 := Int.emod_lt_of_pos (n / P2 lo) (b := 4096) (by decide)
        have d1 : n.tdiv (P2 lo) = n / P2 lo := Int.tdiv_eq_ediv_of_nonneg n0
        have d2 : ¬ P2 lo = 0 := by omega
        have d3 : P2 12 = 4096 := by decide
        have d4 : (n / P2 lo).tmod 4096 = n / P2 lo % 4096 := Int.tmod_eq_emod_of_nonneg x0
        have d5 : IntKind.i64.wrap (n / P2 lo) = n / P2 lo := IntWalk.i64_in _ (by omega)
        have d6 : IntKind.i64.wrap (n / P2 lo % 4096) = n / P2 lo % 4096 := IntWalk.i64_in _ (by omega)
        have HOk : RowKit.Hid (OkP (n / P2 lo % 4096) 1 4096) := ⟨by decide, by decide, by decide, y0, by omega⟩
        go_wp2
        go_still_tail 10, (by kernel_rfl)
        still_call ((refPower_at lo _ _ (by omega) (by omega)).mono fun _ _ h => ⟨h.1, h.2.symm⟩)
        repeat still_step
        still_call ((refPower_at 12 _ _ (by omega) (by omega)).mono fun _ _ h => ⟨h.1, h.2.symm⟩)
        repeat still_step
        still_call ((refPower_at 12 _ _ (by omega) (by omega)).mono fun _ _ h => ⟨h.1, h.2.symm⟩)
        refine wpStill_nil ?_
        change wpList _ _ _ _ _ wr.drew
        clear d1 d2 d3 d4 d5 d6
        go_wp2_with (go_at_call 59; go_loud (refine (refEncPut_any base g r2 c2 f (n / P2 lo % 4096) 1 4096 _ HM.out HGf.out HOk.out (by omega)).mono ?_); rintro e5 w5 ⟨rfl, hpost⟩; have HP5 := Lib.hid hpost; clear hpost)
        go_roundw
        case rel =>
          obtain ⟨r3, c3, u1, u2, u3⟩ := HP5.out
          have hk2 := encPut_k f (n / P2 lo % 4096) 1 4096
          refine ⟨lo, encPut f (n / P2 lo % 4096) 1 4096, by omega, by go_num, by omega, by rw [← s1, encBits_high f n hq12 (by omega), show q - 12 = lo by omega], encPut_good HGf.out HOk.out, r3, c3, u1, ?_, ?_⟩
          · refine (s4.drewN 1).then_ u2 ?_
            rintro j (hj | hj)
            · exact .inl (.inl hj)
            · rcases s5 with h | h
              · exact .inl (.inr (by omega))
              · exact .inr (by omega)
          · have := s4.size
            have h5 : r3 = r2 ∨ wr.heap.size ≤ r3 := u3
            rcases h5 with h | h
            · rcases s5 with h' | h'
              · exact .inl (by omega)
              · exact .inr (by omega)
            · exact .inr (by omega)
        case measure => simp [intOf] <;> omega
      · obtain ⟨s1, s2, r2, c2, s3, s4, s5⟩ := H.out
        have HM : RowKit.Hid (EncMem wr.drew base g r2 c2 (digL f.n (f.k + 4)) f.s f.k) := s3
        have HGf := Lib.hid s2
        have pl := P2_pos q
        have ql := P2_mono (a := q) (b := 12) (by omega)
        rw [show P2 12 = 4096 by decide] at ql
        have y := bit_part n (k := q)
        obtain ⟨y0, y1⟩ := y
        have d1 : n.tdiv 1 = n := Int.tdiv_one n
        have d2 : ¬ P2 q = 0 := by omega
        have d3 : P2 0 = 1 := by decide
        have d4 : n.tmod (P2 q) = n % P2 q := Int.tmod_eq_emod_of_nonneg n0
        have d5 : IntKind.i64.wrap n = n := IntWalk.i64_in _ (by omega)
        have d6 : IntKind.i64.wrap (n % P2 q) = n % P2 q := IntWalk.i64_in _ (by omega)
        have HOk : RowKit.Hid (OkP (n % P2 q) 1 (P2 q)) := okP_bit (by omega) y0 y1
        go_wp2
        go_still_tail 10, (by kernel_rfl)
        still_call ((refPower_at 0 _ _ (by omega) (by omega)).mono fun _ _ h => ⟨h.1, h.2.symm⟩)
        repeat still_step
        still_call ((refPower_at q _ _ (by omega) (by omega)).mono fun _ _ h => ⟨h.1, h.2.symm⟩)
        repeat still_step
        still_call ((refPower_at q _ _ (by omega) (by omega)).mono fun _ _ h => ⟨h.1, h.2.symm⟩)
        refine wpStill_nil ?_
        change wpList _ _ _ _ _ wr.drew
        clear d1 d2 d3 d4 d5 d6
        go_wp2_with (go_at_call 59; go_loud (refine (refEncPut_any base g r2 c2 f (n % P2 q) 1 (P2 q) _ HM.out HGf.out HOk.out (by omega)).mono ?_); rintro e5 w5 ⟨rfl, hpost⟩; have HP5 := Lib.hid hpost; clear hpost)
        go_roundw
        case rel =>
          obtain ⟨r3, c3, u1, u2, u3⟩ := HP5.out
          have hk2 := encPut_k f (n % P2 q) 1 (P2 q)
          refine ⟨0, encPut f (n % P2 q) 1 (P2 q), by omega, by go_num, by omega, by rw [← s1, encBits_low f n hlt (by omega), encBits_zero], encPut_good HGf.out HOk.out, r3, c3, u1, ?_, ?_⟩
          · refine (s4.drewN 1).then_ u2 ?_
            rintro j (hj | hj)
            · exact .inl (.inl hj)
            · rcases s5 with h | h
              · exact .inl (.inr (by omega))
              · exact .inr (by omega)
          · have := s4.size
            have h5 : r3 = r2 ∨ wr.heap.size ≤ r3 := u3
            rcases h5 with h | h
            · rcases s5 with h' | h'
              · exact .inl (by omega)
              · exact .inr (by omega)
            · exact .inr (by omega)
        case measure => simp [intOf] <;> omega
    · obtain rfl : q = 0 := by omega
      go_wp2
      go_end0
      obtain ⟨h1, h2, r2, c2, h3, h4, h5⟩ := H.out
      rw [encBits_zero] at h1
      subst h1
      exact ⟨rfl, r2, c2, h3, h4, h5⟩
theorem okP_12 (n : Int) : OkP (n % 4096) 1 4096 := ⟨by decide, by decide, by decide, by omega, by omega⟩
theorem encBits_good {e : EncS} {n : Int} {wide : Nat} (hg : GoodE e) (hw : wide ≤ 24) : GoodE (encBits e n wide) := by
  by_cases h0 : wide = 0
  · subst h0; exact hg
  · by_cases h1 : wide ≤ 12
    · rw [encBits_low e n (by omega) h1]
      exact encPut_good hg (okP_bit h1 (bit_part n).1 (bit_part n).2)
    · rw [encBits_high e n (by omega) hw, encBits_low _ n (by omega) (by omega)]
      exact encPut_good (encPut_good hg (okP_12 _)) (okP_bit (by omega) (bit_part n).1 (bit_part n).2)
theorem encBits_inside {e : EncS} {n : Int} {wide : Nat} (hg : GoodE e) (hw : wide ≤ 24) : Inside e (encBits e n wide) := by
  by_cases h0 : wide = 0
  · subst h0; exact Inside.refl e
  · by_cases h1 : wide ≤ 12
    · rw [encBits_low e n (by omega) h1]
      exact encPut_inside hg (okP_bit h1 (bit_part n).1 (bit_part n).2)
    · rw [encBits_high e n (by omega) hw, encBits_low _ n (by omega) (by omega)]
      exact (encPut_inside hg (okP_12 _)).trans (encPut_inside (encPut_good hg (okP_12 _)) (okP_bit (by omega) (bit_part n).1 (bit_part n).2))
theorem encBits_k (e : EncS) (n : Int) {wide : Nat} (hw : wide ≤ 24) : (encBits e n wide).k ≤ e.k + 4 := by
  by_cases h0 : wide = 0
  · subst h0; rw [encBits_zero]; omega
  · by_cases h1 : wide ≤ 12
    · rw [encBits_low e n (by omega) h1]
      have := encPut_k e (n % P2 wide) 1 (P2 wide)
      omega
    · rw [encBits_high e n (by omega) hw, encBits_low _ n (by omega) (by omega)]
      have a := encPut_k e (n / P2 (wide - 12) % 4096) 1 4096
      have b := encPut_k (encPut e (n / P2 (wide - 12) % 4096) 1 4096) (n % P2 (wide - 12)) 1 (P2 (wide - 12))
      omega
end Go.Proofs.Ytdmafololcpamaa

/- What the document's answers for layer 5 give: a model on a list. -/
namespace Go.Proofs.Ytdmafololcpamaa
open Go.RowKit
set_option linter.unusedVariables false

theorem info_int05 : (Try.prog.info? 3).map (fun i => (i.zero, i.size, i.bytes)) = some (some (.int .i64 0), 1, 8) := by kernel_rfl

/-- Block g is the document's model of the list l; its row lies in block r. -/
def RefMod (w : World) (base g r : Nat) (l : List Int) (fx : Bool) : Prop :=
  ∃ c, Cel w g 100 #[.slice (some ⟨r, 0, none⟩) l.length c, .bool fx] ∧ w.ownsRow base 3 1 (.slice (some ⟨r, 0, none⟩) l.length c) l.length (l.map (Value.int .i64)) ∧ base ≤ g
section
variable {w w' : World} {base g r : Nat} {l : List Int} {fx : Bool}
theorem RefMod.lt (h : RefMod w base g r l fx) : g < w.heap.size ∧ r < w.heap.size ∧ base ≤ g ∧ base ≤ r := by
  obtain ⟨c, h1, h2, h3⟩ := h
  exact ⟨h1.lt, own_lt h2 r rfl, h3, own_base h2 r rfl⟩
theorem RefMod.keeps {F : Nat → Prop} (h : RefMod w base g r l fx) (hk : Keeps F w w') (h1 : ¬ F g) (h2 : ¬ F r) : RefMod w' base g r l fx := by
  obtain ⟨c, g1, g2, g3⟩ := h
  exact ⟨c, g1.keeps hk h1, own_keeps g2 hk (by intro k hk'; simp [Value.ownBlock] at hk'; subst hk'; exact h2), g3⟩
theorem RefMod.below (h : RefMod w base g r l fx) (hk : Below w.heap.size w w') : RefMod w' base g r l fx := h.keeps (F := fun _ => False) (.of_below hk) (fun c => c) (fun c => c)
theorem RefMod.at_ (h : RefMod w base g r l fx) {j : Nat} (hj : j < l.length) : w.cell? ⟨r, j, none⟩ = some (.int .i64 (l.getD j 0)) := by
  obtain ⟨c, g1, g2, g3⟩ := h
  rw [g2.cellAt j (by omega), List.getElem?_map, List.getElem?_eq_getElem hj]
  simp [List.getD, hj]
end

set_option maxRecDepth 100000 in
theorem refSum_any (base g r : Nat) (l : List Int) (fx : Bool) (n : Nat) (w : World) (hR : RefMod w base g r l fx) (hn : n ≤ l.length) (hl : l.length ≤ 64) (hb : ∀ j, j < l.length → 0 ≤ l.getD j 0 ∧ l.getD j 0 ≤ 4294967295) :
    Calls Try.prog 60 #[.pointer (some ⟨g, 0, none⟩), .int .i64 n] w fun e w' => e = .returned (.int .i64 (sumN l n)) ∧ w = w' := by
  obtain ⟨c, h1, h2, h3⟩ := hR
  have HR := Lib.hid (show RefMod w base g r l fx from ⟨c, h1, h2, h3⟩)
  have HB := Lib.hid hb
  have c0 := h1.cell 0
  simp only [List.getElem?_toArray, List.getElem?_cons_zero] at c0
  clear h1 h2 h3 hb
  go_enter Try.func60, Try.ntmps60
  go_wp2
  go_loop [5, 6] (fun s i => ∃ k : Nat, k ≤ n ∧ i = .int .i64 k ∧ s = .int .i64 (sumN l k)) (fun _ i => (n : Int).toNat - (intOf i).toNat)
  case atStart => exact ⟨0, by omega, rfl, by rw [sumN_zero]⟩
  case round =>
    obtain ⟨k, hk, rfl, rfl⟩ := hrel
    obtain ⟨s0, s1⟩ := sumN_bd HB.out k (by omega)
    by_cases hlt : k < n
    · have hcell := HR.out.at_ (j := k) (by omega)
      obtain ⟨x0, x1⟩ := HB.out k (by omega)
      have E := Lib.hid (sumN_succ l k (by omega))
      generalize l.getD k 0 = x at hcell x0 x1 E
      have hkl : (k : Int) < (l.length : Int) := by omega
      go_wp2
      go_round
      case rel => exact ⟨k + 1, by omega, by go_num, by rw [E.out]⟩
      case measure => simp [intOf]; omega
    · obtain rfl : k = n := by omega
      go_wp2
      go_ret
      exact ⟨rfl, rfl⟩

theorem refSum_at (base g r : Nat) (l : List Int) (fx : Bool) (n : Nat) (i : Int) (w : World) (hi : i = n) (hR : RefMod w base g r l fx) (hn : n ≤ l.length) (hl : l.length ≤ 64) (hb : ∀ j, j < l.length → 0 ≤ l.getD j 0 ∧ l.getD j 0 ≤ 4294967295) :
    Calls Try.prog 60 #[.pointer (some ⟨g, 0, none⟩), .int .i64 i] w fun e w' => e = .returned (.int .i64 (sumN l n)) ∧ w = w' := by
  subst hi
  exact refSum_any base g r l fx n w hR hn hl hb

set_option maxRecDepth 100000 in
theorem refFind_any (base g r : Nat) (l : List Int) (fx : Bool) (at' : Int) (w : World) (hR : RefMod w base g r l fx) (hl0 : 1 ≤ l.length) (hl : l.length ≤ 64) (hb : ∀ j, j < l.length → 0 ≤ l.getD j 0 ∧ l.getD j 0 ≤ 4294967295) :
    Calls Try.prog 66 #[.pointer (some ⟨g, 0, none⟩), .int .i64 at'] w fun e w' => e = .returned (.int .i64 (findP l at')) ∧ w = w' := by
  obtain ⟨c, h1, h2, h3⟩ := hR
  have HR := Lib.hid (show RefMod w base g r l fx from ⟨c, h1, h2, h3⟩)
  have HB := Lib.hid hb
  have c0 := h1.cell 0
  simp only [List.getElem?_toArray, List.getElem?_cons_zero] at c0
  clear h1 h2 h3 hb
  go_enter Try.func66, Try.ntmps66
  go_wp2
  go_loop [5] (fun i => ∃ k : Nat, k ≤ l.length ∧ i = .int .i64 k ∧ RowKit.Hid (findGo l at' k (l.length - k) = findP l at')) (fun i => l.length - (intOf i).toNat)
  case atStart => exact ⟨0, by omega, rfl, rfl⟩
  case round =>
    obtain ⟨k, hk, rfl, H⟩ := hrel
    by_cases hlt : k < l.length
    · have hkl : (k : Int) < (l.length : Int) := by omega
      have S : RowKit.Hid (findGo l at' k (l.length - k) = if at' < sumN l (k + 1) then k else findGo l at' (k + 1) (l.length - (k + 1))) := by
        rw [show l.length - k = (l.length - (k + 1)) + 1 by omega]; exact rfl
      by_cases hs : at' < sumN l (k + 1)
      · have Z : RowKit.Hid (((k : Nat) : Int) = ((findP l at' : Nat) : Int)) := by
          have := S.out
          rw [if_pos hs, H.out] at this
          show (k : Int) = (findP l at' : Int)
          rw [this]
        go_wp2_with (go_at_call 60; ((with_reducible refine (refSum_at base g r l fx (k + 1) _ _ (by omega) HR.out (by omega) hl HB.out).mono ?_)); rintro e w' ⟨rfl, rfl⟩)
        go_ret
        exact ⟨ret_int Z.out, rfl⟩
      · have Z : RowKit.Hid (findGo l at' (k + 1) (l.length - (k + 1)) = findP l at') := by
          have := S.out
          rw [if_neg hs, H.out] at this
          exact this.symm
        go_wp2_with (go_at_call 60; ((with_reducible refine (refSum_at base g r l fx (k + 1) _ _ (by omega) HR.out (by omega) hl HB.out).mono ?_)); rintro e w' ⟨rfl, rfl⟩)
        go_round
        case rel => exact ⟨k + 1, by omega, by go_num, Z.out⟩
        case measure => simp [intOf]; omega
    · have Z : RowKit.Hid ((l.length : Int) - 1 = ((findP l at' : Nat) : Int)) := by
        have := H.out
        rw [show l.length - k = 0 by omega] at this
        show (l.length : Int) - 1 = (findP l at' : Int)
        rw [← this]
        show (l.length : Int) - 1 = ((l.length - 1 : Nat) : Int)
        omega
      go_wp2
      go_ret
      exact ⟨ret_int Z.out, rfl⟩

/-- The model's row, written at one place. -/
theorem RefMod.stored {w : World} {base g r : Nat} {l : List Int} {fx : Bool} (h : RefMod w base g r l fx) (j : Nat) (x : Int) : RefMod (w.setCell ⟨r, j, none⟩ (.int .i64 x)) base g r (l.set j x) fx := by
  obtain ⟨c, h1, h2, h3⟩ := h
  have hne : r ≠ g := own_ne_cel h2 h1 (by decide) r rfl
  refine ⟨c, ?_, ?_, h3⟩
  · rw [List.length_set]; exact h1.far (p := ⟨r, j, none⟩) (fun e => hne e.symm) _
  · rw [List.length_set, List.map_set]; exact (h2.stored j (.int .i64 x)).1
theorem RefMod.drewN {w : World} {base g r : Nat} {l : List Int} {fx : Bool} (h : RefMod w base g r l fx) (n : Nat) : RefMod (w.drewN n) base g r l fx := h
theorem RefMod.frozen {w : World} {base g r : Nat} {l : List Int} {fx : Bool} (h : RefMod w base g r l fx) (j : Nat) : w.frozen? ⟨r, j, none⟩ = false := by
  obtain ⟨c, h1, h2, h3⟩ := h
  exact h2.frozenAt j

theorem refLearn_fixed (base g r : Nat) (l : List Int) (s : Int) (w : World) (hR : RefMod w base g r l true) :
    Calls Try.prog 61 #[.pointer (some ⟨g, 0, none⟩), .int .i64 s] w fun e w' => e = .returned (.tuple #[]) ∧ w = w' := by
  obtain ⟨c, h1, h2, h3⟩ := hR
  have c1 := h1.cell 1
  simp only [List.getElem?_toArray, List.getElem?_cons_zero, List.getElem?_cons_succ] at c1
  clear h1 h2 h3
  go_enter Try.func61, Try.ntmps61
  go_wp2
  exact bodyPost_ret (v := .tuple #[]) (by simp [results, Try.results61]) rfl ⟨rfl, rfl⟩

set_option maxRecDepth 100000 in
theorem refLearn_any (base g r : Nat) (l : List Int) (s : Nat) (w : World) (hR : RefMod w base g r l false) (hG : GoodL l) (hs : s < l.length) :
    Calls Try.prog 61 #[.pointer (some ⟨g, 0, none⟩), .int .i64 s] w fun e w' => e = .returned (.tuple #[]) ∧ RefMod w' base g r (learnP l s) false ∧ Keeps (fun k => k = r) w w' := by
  obtain ⟨c, h1, h2, h3⟩ := hR
  have HR := Lib.hid (show RefMod w base g r l false from ⟨c, h1, h2, h3⟩)
  have hne : g ≠ r := fun e => own_ne_cel h2 h1 (by decide) r rfl e.symm
  have c0 := h1.cell 0
  have c1 := h1.cell 1
  simp only [List.getElem?_toArray, List.getElem?_cons_zero, List.getElem?_cons_succ] at c0 c1
  have hcell := HR.out.at_ hs
  have hfz := HR.out.frozen s
  obtain ⟨x0, x1⟩ := hG.own hs
  have hl := hG.2.1
  have HG := Lib.hid hG
  have E : RowKit.Hid (riseL l s = l.set s (l.getD s 0 + 32)) := rfl
  clear h1 h2 h3 hG
  generalize l.getD s 0 = x at hcell x0 x1 E
  have HS : RowKit.Hid (RefMod (w.setCell ⟨r, s, none⟩ (.int .i64 (x + 32))) base g r (riseL l s) false) := by
    show RefMod _ _ _ _ _ _
    rw [E.out]; exact HR.out.stored s (x + 32)
  have HK := Lib.hid ((Keeps.refl (fun k => k = r) w).setCell (p := ⟨r, s, none⟩) (.inl rfl) (.int .i64 (x + 32)))
  go_enter Try.func61, Try.ntmps61
  go_wp2
  have g1 : IntKind.i64.wrap (x + 32) = x + 32 := IntWalk.i64_in _ (by omega)
  have g2 : (s : Int) < (l.length : Int) := by omega
  go_region
  clear g1 hcell hfz
  obtain ⟨w1, hw1⟩ : ∃ w1, w1 = (w.setCell ⟨r, s, none⟩ (.int .i64 (x + 32))).drew := ⟨_, rfl⟩
  rw [← hw1]
  have HS1 : RowKit.Hid (RefMod w1 base g r (riseL l s) false ∧ Keeps (fun k => k = r) w w1) := by
    rw [hw1]; exact ⟨HS.out.drewN 1, HK.out.drewN 1⟩
  clear hw1 HS HK HR c0 c1
  have hlen := Lib.hid (riseL_len l s)
  have hsum := Lib.hid (sumN_all (riseL l s))
  have hb : ∀ j, j < (riseL l s).length → 0 ≤ (riseL l s).getD j 0 ∧ (riseL l s).getD j 0 ≤ 4294967295 := by
    intro j hj
    rw [hlen.out] at hj
    have := riseL_own HG.out hs hj
    omega
  have HB := Lib.hid hb
  clear hb
  obtain ⟨c', h1, h2, h3⟩ := HS1.out.1
  have c0 := h1.cell 0
  simp only [List.getElem?_toArray, List.getElem?_cons_zero] at c0
  rw [hlen.out] at c0
  clear h1 h2 h3
  by_cases hbig : 8192 < sumN (riseL l s) l.length
  · have hln : RowKit.Hid (learnP l s = halfL (riseL l s)) := by
      unfold learnP
      rw [← sumN_all, hlen.out, if_pos hbig]; exact rfl
    go_wp2_with (go_at_call 60; go_loud (refine (refSum_at base g r (riseL l s) false l.length _ _ (by omega) HS1.out.1 (by rw [hlen.out]; exact Nat.le_refl _) (by rw [hlen.out]; omega) HB.out).mono ?_); rintro e w' ⟨rfl, rfl⟩)
    clear c0
    go_loopw [4] (fun i wr => ∃ k : Nat, k ≤ l.length ∧ i = .int .i64 k ∧ RowKit.Hid (RefMod wr base g r (halfK (riseL l s) k) false ∧ Keeps (fun k => k = r) w wr)) (fun i _ => l.length - (intOf i).toNat)
    case atStart => exact ⟨0, by omega, rfl, by rw [halfK_zero]; exact HS1.out.1, HS1.out.2⟩
    case round =>
      obtain ⟨k, hk, rfl, H⟩ := hrel
      have hlk : (halfK (riseL l s) k).length = l.length := by rw [halfK_len _ (by rw [hlen.out]; exact hk), hlen.out]
      obtain ⟨c', h1, h2, h3⟩ := H.out.1
      have c0 := h1.cell 0
      simp only [List.getElem?_toArray, List.getElem?_cons_zero] at c0
      rw [hlk] at c0
      clear h1 h2 h3
      by_cases hlt : k < l.length
      · have i1 := H.out.1.at_ (j := k) (by rw [hlk]; exact hlt)
        have f1 := H.out.1.frozen k
        rw [halfK_at _ (by rw [hlen.out]; exact hlt)] at i1
        obtain ⟨y0, y1⟩ := riseL_own HG.out hs hlt
        have HN := Lib.hid (halfK_next (riseL l s) (k := k) (by rw [hlen.out]; exact hlt))
        generalize (riseL l s).getD k 0 = y at i1 y0 y1 HN
        have HS2 : RowKit.Hid (RefMod (wr.setCell ⟨r, k, none⟩ (.int .i64 ((y + 1) / 2))) base g r (halfK (riseL l s) (k + 1)) false ∧ Keeps (fun k => k = r) w (wr.setCell ⟨r, k, none⟩ (.int .i64 ((y + 1) / 2)))) :=
          ⟨by rw [← HN.out]; exact H.out.1.stored k _, H.out.2.setCell (.inl rfl) _⟩
        have g1 : IntKind.i64.wrap (y + 1) = y + 1 := IntWalk.i64_in _ (by omega)
        have g2 : (k : Int) < (l.length : Int) := by omega
        have g3 : (y + 1).tdiv 2 = (y + 1) / 2 := Int.tdiv_eq_ediv_of_nonneg (by omega)
        have HL := Lib.hid hlk
        clear hlk
        go_wp2
        go_region
        clear g1 g3
        go_wp2
        go_roundw
        case rel => exact ⟨k + 1, by omega, by go_num, HS2.out.1.drewN 1, HS2.out.2.drewN 1⟩
        case measure => simp [intOf] <;> omega
      · obtain rfl : k = l.length := by omega
        have Z : RowKit.Hid (RefMod wr base g r (learnP l s) false) := by
          have := H.out.1
          rw [← hlen.out, halfK_all, ← hln.out] at this
          exact this
        have HL := Lib.hid hlk
        clear hlk
        go_wp2
        go_end0
        exact ⟨rfl, Z.out, H.out.2⟩
  · have hln : RowKit.Hid (learnP l s = riseL l s) := by
      unfold learnP
      rw [← sumN_all, hlen.out, if_neg hbig]; exact rfl
    go_wp2_with (go_at_call 60; go_loud (refine (refSum_at base g r (riseL l s) false l.length _ _ (by omega) HS1.out.1 (by rw [hlen.out]; exact Nat.le_refl _) (by rw [hlen.out]; omega) HB.out).mono ?_); rintro e w' ⟨rfl, rfl⟩)
    go_end0
    exact ⟨rfl, by rw [hln.out]; exact HS1.out.1, HS1.out.2⟩

theorem ones_snoc (k : Nat) : List.replicate (k + 1) (1 : Int) = List.replicate k 1 ++ [1] := List.replicate_succ'

theorem refNew_out (n : Int) (w : World) (h : n < 1 ∨ 64 < n) :
    Calls Try.prog 32 #[.int .i64 n] w fun e w' => e = .returned (.tuple #[.pointer none, .bool false]) ∧ w = w' := by
  rcases h with h | h
  · have hd : decide (n < 1) = true := by simp; omega
    go_enter Try.func32, Try.ntmps32
    go_wp2
    go_ret2
    exact ⟨rfl, rfl⟩
  · have hd : decide (n < 1) = false := by simp; omega
    have hd2 : decide (64 < n) = true := by simp; omega
    go_enter Try.func32, Try.ntmps32
    go_wp2
    go_ret2
    exact ⟨rfl, rfl⟩

set_option maxRecDepth 100000 in
theorem refNew_any (n : Nat) (w : World) (h0 : 1 ≤ n) (h1 : n ≤ 64) :
    Calls Try.prog 32 #[.int .i64 n] w fun e w' => ∃ g r, e = .returned (.tuple #[.pointer (some ⟨g, 0, none⟩), .bool true]) ∧ RefMod w' w.heap.size g r (List.replicate n 1) false ∧ Below w.heap.size w w' := by
  have hd : decide ((n : Int) < 1) = false := by simp; omega
  have hd2 : decide ((64 : Int) < (n : Int)) = false := by simp; omega
  have HC := Lib.hid (Cel.new w 100 #[.slice none 0 0, .bool false])
  have HB := Lib.hid (Below.alloc_new w (.cells #[.slice none 0 0, .bool false] 100))
  have HO := Lib.hid (World.ownsRow_nil (w.alloc (.cells #[.slice none 0 0, .bool false] 100)) w.heap.size 3 1)
  go_enter Try.func32, Try.ntmps32
  go_wp2
  go_loopw [5] (fun i wr => ∃ k : Nat, k ≤ n ∧ i = .int .i64 k ∧ RowKit.Hid (∃ v, Cel wr w.heap.size 100 #[v, .bool false] ∧ wr.ownsRow w.heap.size 3 1 v k ((List.replicate k (1 : Int)).map (Value.int .i64)) ∧ Below w.heap.size w wr)) (fun i _ => n - (intOf i).toNat)
  case atStart => exact ⟨0, by omega, rfl, _, HC.out, HO.out, HB.out⟩
  case round =>
    obtain ⟨k, hk, rfl, H⟩ := hrel
    clear HC HB HO
    obtain ⟨v, hc, ho, hb⟩ := H.out
    clear H
    have c0 := hc.cell 0
    simp only [List.getElem?_toArray, List.getElem?_cons_zero] at c0
    have HC := Lib.hid hc
    have HO := Lib.hid ho
    have HB := Lib.hid hb
    have hsz := hb.size
    clear hc ho hb
    by_cases hlt : k < n
    · have hsrc := Lib.hid (lit_ints wr 3 .i64 [1] #[.int .i64 1] (0, 0) rfl (by simp))
      have hown0 := Lib.hid (World.ownsRow.alloc HO.out (.cells #[.int .i64 1] 3))
      have hcel0 := Lib.hid (HC.out.alloc (.cells #[.int .i64 1] 3))
      have hbel := Lib.hid (HB.out.alloc hsz (.cells #[.int .i64 1] 3))
      go_wp2_with (at_builtin; go_loud (refine append_ints rfl _ _ 26 rfl w.heap.size 3 .i64 8 Try.underlying26 info_int05 v k (List.replicate k 1) rfl hown0.out (some ⟨wr.heap.size, 0, none⟩) 1 1 _ [_] rfl hsrc.out (by simp) ?c1 ?c2 ?c3 ?_))
      case c1 => unfold maxLen; omega
      case c2 => omega
      case c3 => first | omega | (simp; omega)
      intro v2 w2 hown hgrow _
      have hc2 : Cel w2 w.heap.size 100 #[v, .bool false] := hcel0.out.keep (hgrow.block _ hcel0.out.lt (fun c => own_ne_cel hown0.out hcel0.out (by decide) _ c.symm rfl))
      have hb2 : Below w.heap.size w w2 := hbel.out.grown hgrow (by simp; omega) (own_base hown0.out)
      have i0 := hc2.cell 0
      simp only [List.getElem?_toArray, List.getElem?_cons_zero] at i0
      have f0 := hc2.frozen 0
      have this : w2.ownsRow w.heap.size 3 1 v2 (k + 1) ((List.replicate (k + 1) (1 : Int)).map (Value.int .i64)) := by rw [ones_snoc]; simpa using hown
      obtain ⟨a2, cp2, rfl⟩ := own_form this
      have HT := Lib.hid this
      clear this
      generalize hv2 : Value.slice a2 (k + 1) cp2 = v2 at HT
      have HN : RowKit.Hid (∃ v, Cel (w2.setCell ⟨w.heap.size, 0, none⟩ v2) w.heap.size 100 #[v, .bool false] ∧ (w2.setCell ⟨w.heap.size, 0, none⟩ v2).ownsRow w.heap.size 3 1 v (k + 1) ((List.replicate (k + 1) (1 : Int)).map (Value.int .i64)) ∧ Below w.heap.size w (w2.setCell ⟨w.heap.size, 0, none⟩ v2)) := by
        refine ⟨v2, by simpa using hc2.set_ 0 v2, ?_, hb2.setCell (Nat.le_refl _) _⟩
        exact own_far HT.out (fun j hj => own_ne_cel HT.out hc2 (by decide) j hj) v2
      subst hv2
      clear hc2 hb2 hown hgrow c0 HT
      go_wp2
      go_roundw
      case rel => exact ⟨k + 1, by omega, by go_num, HN.out⟩
      case measure => simp [intOf] <;> omega
    · obtain rfl : k = n := by omega
      have Z : RowKit.Hid (∃ r, RefMod wr w.heap.size w.heap.size r (List.replicate k 1) false) := by
        obtain ⟨r, c, e, _, _⟩ := World.ownsRow.form HO.out (by omega)
        subst e
        exact ⟨r, c, by simpa using HC.out, by simpa using HO.out, Nat.le_refl _⟩
      go_wp2
      go_ret2
      obtain ⟨r, hr⟩ := Z.out
      exact ⟨w.heap.size, r, rfl, hr, HB.out⟩
end Go.Proofs.Ytdmafololcpamaa

/- What the document's encoder of layer 6 gives: a model's symbol; its bytes. -/
namespace Go.Proofs.Ytdmafololcpamaa
open Go.RowKit
set_option linter.unusedVariables false

/-- What an encoder makes of a model's symbol. -/
def encSym (e : EncS) (l : List Int) (s : Nat) : EncS := encPut e (sumN l s) (l.getD s 0) l.sum
theorem okP_sym {l : List Int} (h : GoodL l) {s : Nat} (hs : s < l.length) : OkP (sumN l s) (l.getD s 0) l.sum := by
  have a := h.own hs
  have b := h.sum_le (n := s) (by omega)
  have c := sumN_succ l s hs
  have d := sumN_rise (l := l) (fun j hj => by have := h.2.2.1 j hj; omega) (m := s + 1) (n := l.length) (by omega) (Nat.le_refl _)
  rw [sumN_all] at d
  exact ⟨by omega, h.2.2.2, a.1, b.1, by omega⟩
/-- What a model has learnt then. -/
def nextL (l : List Int) (fx : Bool) (s : Nat) : List Int := if fx then l else learnP l s
/-- What a symbol's putting leaves: the encoder and the model. -/
def SymPost (base b2 g r mg mr : Nat) (f : EncS) (l : List Int) (fx : Bool) (w : World) (x : Ending) (w' : World) : Prop :=
  x = .returned (.tuple #[]) ∧ ∃ r' c', EncMem w' base g r' c' (digL f.n (f.k + 4)) f.s f.k ∧ RefMod w' b2 mg mr l fx ∧ Keeps (fun j => j = g ∨ j = r ∨ j = mr) w w' ∧ (r' = r ∨ w.heap.size ≤ r')

set_option maxRecDepth 100000 in
theorem refEncSymbol_any (base b2 g r c mg mr : Nat) (e : EncS) (l : List Int) (fx : Bool) (s : Nat) (w : World) (hE : EncMem w base g r c (digL e.n (e.k + 4)) e.s e.k) (hR : RefMod w b2 mg mr l fx) (hG : GoodE e) (hL : GoodL l) (hs : s < l.length) (hk : e.k ≤ 900000) (d1 : mg ≠ g) (d2 : mg ≠ r) (d3 : mr ≠ g) (d4 : mr ≠ r) :
    Calls Try.prog 35 #[.pointer (some ⟨g, 0, none⟩), .pointer (some ⟨mg, 0, none⟩), .int .i64 s] w (SymPost base b2 g r mg mr (encSym e l s) (nextL l fx s) fx w) := by
  obtain ⟨cm, h1, h2, h3⟩ := hR
  have HR := Lib.hid (show RefMod w b2 mg mr l fx from ⟨cm, h1, h2, h3⟩)
  have HE := Lib.hid hE
  have HG := Lib.hid hG
  have HL := Lib.hid hL
  have hl := hL.2.1
  have c0 := h1.cell 0
  simp only [List.getElem?_toArray, List.getElem?_cons_zero] at c0
  have hcell := HR.out.at_ hs
  have hb : ∀ j, j < l.length → 0 ≤ l.getD j 0 ∧ l.getD j 0 ≤ 4294967295 := fun j hj => by have := HL.out.own hj; omega
  have HB := Lib.hid hb
  have HOk := Lib.hid (okP_sym hL hs)
  have HS : RowKit.Hid (encSym e l s = encPut e (sumN l s) (l.getD s 0) l.sum) := rfl
  have HT := Lib.hid (sumN_all l)
  have hsl : (s : Int) < (l.length : Int) := by omega
  have HRd : RowKit.Hid (RefMod w.drew b2 mg mr l fx) := HR.out
  have HEd : RowKit.Hid (EncMem w.drew base g r c (digL e.n (e.k + 4)) e.s e.k) := HE.out
  clear h1 h2 h3 hE hG hL hb
  rw [HS.out]
  clear HS
  generalize l.getD s 0 = X2 at hcell HOk ⊢
  go_enter Try.func35, Try.ntmps35
  go_wp2
  go_still_tail 18, (by kernel_rfl)
  still_call ((refSum_at b2 mg mr l fx s _ _ (by omega) HRd.out (by omega) hl HB.out).mono fun _ _ h => ⟨h.1, h.2.symm⟩)
  repeat still_step
  still_call ((refSum_at b2 mg mr l fx l.length _ _ (by omega) HRd.out (by omega) hl HB.out).mono fun _ _ h => ⟨h.1, h.2.symm⟩)
  refine wpStill_nil ?_
  change wpList _ _ _ _ _ w.drew
  rw [HT.out]
  clear c0 hcell
  have hF : ∀ k : Nat, (k = g ∨ k = r) → (k = g ∨ k = r ∨ k = mr) := fun k h => by omega
  cases fx with
  | true =>
    go_wp2_with (first | (go_at_call 59; go_loud (refine (refEncPut_any base g r c e _ _ _ _ HEd.out HG.out HOk.out (by omega)).mono ?_); rintro e5 w5 ⟨rfl, hpost⟩; have HP5 := Lib.hid hpost; obtain ⟨r3, c3, u1, u2, u3⟩ := hpost; have HR5 := Lib.hid (HRd.out.keeps u2 (by omega) (by omega)); clear u1 u2 u3) | (go_at_call 61; go_loud (refine (refLearn_fixed b2 mg mr l _ _ HR5.out).mono ?_); rintro e6 w6 ⟨rfl, rfl⟩))
    go_end0
    obtain ⟨r3, c3, u1, u2, u3⟩ := HP5.out
    exact ⟨rfl, r3, c3, u1, HR5.out, ((Keeps.refl _ w).drewN 1).trans (u2.mono hF), u3⟩
  | false =>
    go_wp2_with (first | (go_at_call 59; go_loud (refine (refEncPut_any base g r c e _ _ _ _ HEd.out HG.out HOk.out (by omega)).mono ?_); rintro e5 w5 ⟨rfl, hpost⟩; have HP5 := Lib.hid hpost; obtain ⟨r3, c3, u1, u2, u3⟩ := hpost; have HR5 := Lib.hid (HRd.out.keeps u2 (by omega) (by omega)); clear u1 u2 u3) | (go_at_call 61; go_loud (refine (refLearn_any b2 mg mr l s _ HR5.out HL.out hs).mono ?_); rintro e6 w6 ⟨rfl, hm, hk6⟩; have HM6 := Lib.hid hm; have HK6 := Lib.hid hk6; clear hm hk6))
    go_end0
    obtain ⟨r3, c3, u1, u2, u3⟩ := HP5.out
    have hr3 := u1.lt
    refine ⟨rfl, r3, c3, u1.keeps HK6.out (by omega) ?_, HM6.out, (((Keeps.refl _ w).drewN 1).trans (u2.mono hF)).trans (HK6.out.mono fun k h => by omega), u3⟩
    intro hc
    have hsz : mr < w.heap.size := HR.out.lt.2.1
    rcases u3 with h | h
    · omega
    · have : w.heap.size ≤ r3 := h
      omega
theorem encSym_good {e : EncS} {l : List Int} {s : Nat} (hg : GoodE e) (hl : GoodL l) (hs : s < l.length) : GoodE (encSym e l s) := encPut_good hg (okP_sym hl hs)
theorem encSym_inside {e : EncS} {l : List Int} {s : Nat} (hg : GoodE e) (hl : GoodL l) (hs : s < l.length) : Inside e (encSym e l s) := encPut_inside hg (okP_sym hl hs)
theorem encSym_k (e : EncS) (l : List Int) (s : Nat) : (encSym e l s).k ≤ e.k + 2 := encPut_k e _ _ _
theorem nextL_good {l : List Int} (h : GoodL l) (fx : Bool) {s : Nat} (hs : s < l.length) : GoodL (nextL l fx s) ∧ (nextL l fx s).length = l.length := by
  cases fx with
  | true => exact ⟨h, rfl⟩
  | false => exact ⟨learnP_good h hs, learnP_len l s⟩
end Go.Proofs.Ytdmafololcpamaa

/- What the document's decoder of layer 7 gives: a byte more, in which part it lies, a part taken. -/
namespace Go.Proofs.Ytdmafololcpamaa
open Go.RowKit
set_option linter.unusedVariables false

/-- The bytes, and noughts behind. -/
def byteF (b : List Int) (j : Nat) : Int := b.getD j 0
/-- Block g is the document's decoder of the bytes b. -/
def DecMem (w : World) (base g : Nat) (v : Value) (b : List Int) (d : DecS) : Prop :=
  Cel w g 90 #[v, .int .i64 d.i, .int .i64 d.c, .int .i64 d.s] ∧ w.ownsRow base 5 1 v b.length (b.map (Value.int .u8)) ∧ base ≤ g
section
variable {w w' : World} {base g : Nat} {v : Value} {b : List Int} {d : DecS}
theorem DecMem.ne (h : DecMem w base g v b d) : ∀ k, v.ownBlock = some k → k ≠ g := fun k hk => own_ne_cel h.2.1 h.1 (by decide) k hk
theorem DecMem.cells (h : DecMem w base g v b d) : w.cell? ⟨g, 0, none⟩ = some v ∧ w.cell? ⟨g, 1, none⟩ = some (.int .i64 d.i) ∧ w.cell? ⟨g, 2, none⟩ = some (.int .i64 d.c) ∧ w.cell? ⟨g, 3, none⟩ = some (.int .i64 d.s) := ⟨h.1.cell 0, h.1.cell 1, h.1.cell 2, h.1.cell 3⟩
theorem DecMem.fz (h : DecMem w base g v b d) : w.frozen? ⟨g, 1, none⟩ = false ∧ w.frozen? ⟨g, 2, none⟩ = false ∧ w.frozen? ⟨g, 3, none⟩ = false := ⟨h.1.frozen 1, h.1.frozen 2, h.1.frozen 3⟩
theorem DecMem.drewN (h : DecMem w base g v b d) (n : Nat) : DecMem (w.drewN n) base g v b d := h
theorem DecMem.keeps {F : Nat → Prop} (h : DecMem w base g v b d) (hk : Keeps F w w') (h1 : ¬ F g) (h2 : ∀ k, v.ownBlock = some k → ¬ F k) : DecMem w' base g v b d := ⟨h.1.keeps hk h1, own_keeps h.2.1 hk h2, h.2.2⟩
theorem DecMem.below (h : DecMem w base g v b d) (hk : Below w.heap.size w w') : DecMem w' base g v b d := h.keeps (F := fun _ => False) (.of_below hk) (fun c => c) (fun _ _ c => c)
theorem DecMem.setI (h : DecMem w base g v b d) (x : Nat) : DecMem (w.setCell ⟨g, 1, none⟩ (.int .i64 x)) base g v b ⟨d.c, d.s, x⟩ :=
  ⟨by simpa using h.1.set_ 1 (.int .i64 x), own_far h.2.1 h.ne _, h.2.2⟩
theorem DecMem.setC (h : DecMem w base g v b d) (x : Int) : DecMem (w.setCell ⟨g, 2, none⟩ (.int .i64 x)) base g v b ⟨x, d.s, d.i⟩ :=
  ⟨by simpa using h.1.set_ 2 (.int .i64 x), own_far h.2.1 h.ne _, h.2.2⟩
theorem DecMem.setS (h : DecMem w base g v b d) (x : Int) : DecMem (w.setCell ⟨g, 3, none⟩ (.int .i64 x)) base g v b ⟨d.c, x, d.i⟩ :=
  ⟨by simpa using h.1.set_ 3 (.int .i64 x), own_far h.2.1 h.ne _, h.2.2⟩
theorem DecMem.ints (h : DecMem w base g v b d) : ∃ a c, v = .slice a b.length c ∧ IntsAt w w.heap.size .u8 a b.length b := own_ints h.2.1
end
def DecPost (base g : Nat) (v : Value) (b : List Int) (d : DecS) (w : World) (x : Ending) (w' : World) : Prop :=
  x = .returned (.tuple #[]) ∧ DecMem w' base g v b d ∧ Keeps (fun j => j = g) w w'

set_option maxRecDepth 100000 in
theorem refDecNext_any (base g : Nat) (v : Value) (b : List Int) (d : DecS) (w : World) (hD : DecMem w base g v b d) (hb : ∀ j, 0 ≤ byteF b j ∧ byteF b j ≤ 255) (hl : b.length ≤ 1000000) (c0 : 0 ≤ d.c) (c1 : d.c ≤ 4294967295) (hi : d.i ≤ 10000000) :
    Calls Try.prog 48 #[.pointer (some ⟨g, 0, none⟩)] w (DecPost base g v b ⟨d.c * 256 + byteF b d.i, d.s, d.i + 1⟩ w) := by
  obtain ⟨a, cp, rfl, hints⟩ := hD.ints
  obtain ⟨m0, m1, m2, m3⟩ := hD.cells
  obtain ⟨z1, z2, z3⟩ := hD.fz
  have HD := Lib.hid hD
  have HI := Lib.hid hints
  have HB := Lib.hid hb
  clear hD hints hb
  obtain ⟨x, hx⟩ : ∃ x, x = byteF b d.i := ⟨_, rfl⟩
  have x0 : 0 ≤ x ∧ x ≤ 255 := by rw [hx]; exact HB.out d.i
  have T1 := Lib.hid (HD.out.setC (d.c * 256))
  have T2 : RowKit.Hid (DecMem ((w.setCell ⟨g, 2, none⟩ (.int .i64 (d.c * 256))).setCell ⟨g, 1, none⟩ (.int .i64 ((d.i : Int) + 1))) base g (.slice a b.length cp) b ⟨d.c * 256, d.s, d.i + 1⟩) := T1.out.setI (d.i + 1)
  have K1 := Lib.hid ((Keeps.refl (fun j => j = g) w).setCell (p := ⟨g, 2, none⟩) (.inl rfl) (.int .i64 (d.c * 256)))
  have K2 := Lib.hid (K1.out.setCell (p := ⟨g, 1, none⟩) (.inl rfl) (.int .i64 ((d.i : Int) + 1)))
  have T3 := Lib.hid (T1.out.setC (d.c * 256 + x))
  have T4 : RowKit.Hid (DecMem (((w.setCell ⟨g, 2, none⟩ (.int .i64 (d.c * 256))).setCell ⟨g, 2, none⟩ (.int .i64 (d.c * 256 + x))).setCell ⟨g, 1, none⟩ (.int .i64 ((d.i : Int) + 1))) base g (.slice a b.length cp) b ⟨d.c * 256 + x, d.s, d.i + 1⟩) := T3.out.setI (d.i + 1)
  have K4 := Lib.hid ((K1.out.setCell (p := ⟨g, 2, none⟩) (.inl rfl) (.int .i64 (d.c * 256 + x))).setCell (p := ⟨g, 1, none⟩) (.inl rfl) (.int .i64 ((d.i : Int) + 1)))
  by_cases hlt : d.i < b.length
  · obtain ⟨b', off, rfl, hbB, _, hcell⟩ := HI.out.at_ hlt
    have hne : b' ≠ g := HD.out.ne b' (by simp [Value.ownBlock])
    have hxx : b.getD d.i 0 = x := hx.symm
    rw [hxx] at hcell
    have HX := Lib.hid hx
    clear hx hxx
    have g1 : (d.i : Int) < (b.length : Int) := by omega
    go_enter Try.func48, Try.ntmps48
    go_wp2
    go_quiet (fail)
    go_wp2
    have e1 : IntKind.i64.wrap x = x := IntWalk.i64_in _ (by omega)
    have e2 : wrap64 x = x := IntWalk.wrap64_in _ (by omega)
    have e3 : IntKind.i64.wrap (d.c * 256 + x) = d.c * 256 + x := IntWalk.i64_in _ (by omega)
    go_region
    clear e1 e2 e3
    go_wp2
    go_end0
    refine ⟨rfl, ?_, K4.out.drewN _⟩
    rw [← HX.out]; exact T4.out.drewN _
  · have hx0 : byteF b d.i = 0 := by unfold byteF; simp [List.getD, List.getElem?_eq_none (Nat.le_of_not_lt hlt)]
    have g1 : (b.length : Int) ≤ (d.i : Int) := by omega
    have HX := Lib.hid hx0
    clear hx0 hx
    go_enter Try.func48, Try.ntmps48
    go_wp2
    go_quiet (fail)
    go_wp2
    go_end0
    refine ⟨rfl, ?_, K2.out.drewN _⟩
    rw [HX.out, Int.add_zero]; exact T2.out.drewN _

set_option maxRecDepth 100000 in
theorem refDecAt_any (base g : Nat) (v : Value) (b : List Int) (d : DecS) (all : Int) (w : World) (hD : DecMem w base g v b d) (hG : GoodD d) (a0 : 1 ≤ all) (a1 : all ≤ 8192) :
    Calls Try.prog 67 #[.pointer (some ⟨g, 0, none⟩), .int .i64 all] w fun x w' => x = .returned (.int .i64 (decAt d all)) ∧ ∃ n, w' = w.drewN n := by
  obtain ⟨m0, m1, m2, m3⟩ := hD.cells
  obtain ⟨s0, s1, c0, c1⟩ := hG
  obtain ⟨E0, E1, E2⟩ := each_bd s0 s1 a0 a1
  clear hD m0 m1
  obtain ⟨q, hq⟩ : ∃ q, q = d.c / (d.s / all) := ⟨_, rfl⟩
  have HA : RowKit.Hid (decAt d all = if all ≤ q then all - 1 else q) := by show _ = _; rw [hq]; rfl
  have q0 : 0 ≤ q := by rw [hq]; exact Int.ediv_nonneg c0 (by omega)
  have q1 : q ≤ d.c := by rw [hq]; exact Int.ediv_le_self _ c0
  have e1 : d.s.tdiv all = d.s / all := Int.tdiv_eq_ediv_of_nonneg (by omega)
  have e2 : d.c.tdiv (d.s / all) = q := by rw [Int.tdiv_eq_ediv_of_nonneg (by omega)]; exact hq.symm
  have e3 : ¬ all = 0 := by omega
  have e4 : ¬ d.s / all = 0 := by omega
  have e5 : IntKind.i64.wrap (d.s / all) = d.s / all := IntWalk.i64_in _ (by omega)
  have e6 : IntKind.i64.wrap q = q := IntWalk.i64_in _ (by omega)
  clear hq
  go_enter Try.func67, Try.ntmps67
  go_wp2
  go_quiet (fail)
  clear e1 e2 e5 e6
  go_wp2
  · have ht : all ≤ q := by assumption
    go_ret
    exact ⟨ret_int (by rw [HA.out, if_pos ht]), _, rfl⟩
  · have ht : q < all := by assumption
    go_ret
    exact ⟨ret_int (by rw [HA.out, if_neg (by omega)]), _, rfl⟩

/-- How far the size is from where the scaling ends. -/
def leftD (w : World) (g : Nat) : Nat := match w.cell? ⟨g, 3, none⟩ with | some (.int _ s) => (16777216 - s).toNat | _ => 0
theorem leftD_eq {w : World} {g : Nat} {k : IntKind} {s : Int} (h : w.cell? ⟨g, 3, none⟩ = some (.int k s)) : leftD w g = (16777216 - s).toNat := by unfold leftD; rw [h]
/-- On the way of the scaling. -/
def DecScale (b : List Int) (i0 : Nat) (pre st : DecS) : Prop :=
  scaleD (byteF b) st = scaleD (byteF b) pre ∧ 2048 ≤ st.s ∧ st.s ≤ 4294967295 ∧ 0 ≤ st.c ∧ st.c < st.s ∧ st.i ≤ i0 + 2 ∧ (i0 + 1 ≤ st.i → 524288 ≤ st.s) ∧ (i0 + 2 ≤ st.i → 16777216 ≤ st.s)

set_option maxHeartbeats 1000000 in
set_option maxRecDepth 100000 in
theorem refDecTake_any (base g : Nat) (v : Value) (b : List Int) (d : DecS) (low own all : Int) (w : World) (hD : DecMem w base g v b d) (hb : ∀ j, 0 ≤ byteF b j ∧ byteF b j ≤ 255) (hl : b.length ≤ 1000000) (hi : d.i ≤ 5000000) (hG : GoodD d) (hP : OkP low own all) (hlow : d.s / all * low ≤ d.c) :
    Calls Try.prog 68 #[.pointer (some ⟨g, 0, none⟩), .int .i64 low, .int .i64 own, .int .i64 all] w (DecPost base g v b (decTake (byteF b) d low own all) w) := by
  obtain ⟨m0, m1, m2, m3⟩ := hD.cells
  obtain ⟨z1, z2, z3⟩ := hD.fz
  have HD := Lib.hid hD
  have HB := Lib.hid hb
  have hpre := decPre_bd hG hP hlow
  obtain ⟨s0, s1, c0, c1⟩ := hG
  obtain ⟨p1, p2, p3, p4, p5⟩ := hP
  obtain ⟨E0, E1, E2⟩ := each_bd s0 s1 p1 p2
  have hput : decTake (byteF b) d low own all = scaleD (byteF b) (decPre d low own all) := rfl
  rw [hput]
  clear hput hD hb m0
  have HN : RowKit.Hid ((decPre d low own all).c = (if d.s / all * own ≤ d.c - d.s / all * low then d.s / all * own - 1 else d.c - d.s / all * low) ∧ (decPre d low own all).s = d.s / all * own ∧ (decPre d low own all).i = d.i) := ⟨rfl, rfl, rfl⟩
  generalize decPre d low own all = pre at HN hpre ⊢
  obtain ⟨r1, r2, r3, r4⟩ := hpre
  have a2 : 0 ≤ d.s / all * low := Int.mul_nonneg (by omega) p4
  have a3 : d.s / all * (low + own) ≤ d.s / all * all := Int.mul_le_mul_of_nonneg_left p5 (by omega)
  have a4 : d.s / all * 1 ≤ d.s / all * own := Int.mul_le_mul_of_nonneg_left p3 (by omega)
  rw [Int.mul_add] at a3
  have hq : d.s.tdiv all = d.s / all := Int.tdiv_eq_ediv_of_nonneg (by omega)
  have hall : ¬ all = 0 := by omega
  obtain ⟨E, hE⟩ : ∃ E, d.s / all = E := ⟨_, rfl⟩
  rw [hE] at hq a2 a3 a4 E0 E1 E2 HN hlow
  obtain ⟨A, hA⟩ : ∃ A, E * low = A := ⟨_, rfl⟩
  obtain ⟨O, hO⟩ : ∃ O, E * own = O := ⟨_, rfl⟩
  rw [hA] at a2 a3 HN hlow
  rw [hO] at a3 a4 HN
  have T2 : RowKit.Hid (DecMem ((w.setCell ⟨g, 2, none⟩ (.int .i64 (d.c - A))).setCell ⟨g, 3, none⟩ (.int .i64 O)) base g v b ⟨d.c - A, O, d.i⟩) := (HD.out.setC (d.c - A)).setS O
  have K2 := Lib.hid (((Keeps.refl (fun j => j = g) w).setCell (p := ⟨g, 2, none⟩) (.inl rfl) (.int .i64 (d.c - A))).setCell (p := ⟨g, 3, none⟩) (.inl rfl) (.int .i64 O))
  have T3 : RowKit.Hid (DecMem (((w.setCell ⟨g, 2, none⟩ (.int .i64 (d.c - A))).setCell ⟨g, 3, none⟩ (.int .i64 O)).setCell ⟨g, 2, none⟩ (.int .i64 (O - 1))) base g v b ⟨O - 1, O, d.i⟩) := T2.out.setC (O - 1)
  have K3 := Lib.hid (K2.out.setCell (p := ⟨g, 2, none⟩) (.inl rfl) (.int .i64 (O - 1)))
  have H0 : RowKit.Hid (∀ w', DecMem w' base g v b pre → Keeps (fun j => j = g) w w' → ∃ st, DecScale b d.i pre st ∧ DecMem w' base g v b st ∧ Keeps (fun j => j = g) w w') := by
    intro w' h1 h2
    have := HN.out.2.2
    exact ⟨pre, ⟨rfl, r1, r2, r3, r4, by omega, by omega, by omega⟩, h1, h2⟩
  go_enter Try.func68, Try.ntmps68
  go_wp2
  by_cases hbig : O ≤ d.c - A
  · have hdd : decide (O ≤ d.c - A) = true := by simpa using hbig
    go_quiet (fail)
    have HP1 : RowKit.Hid (pre = ⟨O - 1, O, d.i⟩) := by
      obtain ⟨c', s', i'⟩ := pre
      obtain ⟨h1, h2, h3⟩ := HN.out
      rw [if_pos hbig] at h1
      simp only at h1 h2 h3
      subst h1 h2 h3
      exact rfl
    go_wp2
    go_loopw [49] (fun _ wr => ∃ st : DecS, RowKit.Hid (DecScale b d.i pre st ∧ DecMem wr base g v b st ∧ Keeps (fun j => j = g) w wr)) (fun _ wr => leftD wr g)
    case atStart => exact H0.out _ (by rw [HP1.out]; exact T3.out.drewN _) (K3.out.drewN _)
    case round =>
      obtain ⟨st, H⟩ := hrel
      obtain ⟨S1, b0, b1, b2, b3, b4, b5, b6⟩ := H.out.1
      have HS1 := Lib.hid S1
      clear S1
      obtain ⟨y0, y1, y2, y3⟩ := H.out.2.1.cells
      obtain ⟨x1, x2, x3⟩ := H.out.2.1.fz
      clear y0
      by_cases hlt : st.s < 16777216
      · have T5 := Lib.hid (H.out.2.1.setS (st.s * 256))
        have K5 := Lib.hid (H.out.2.2.setCell (p := ⟨g, 3, none⟩) (.inl rfl) (.int .i64 (st.s * 256)))
        have S2 := Lib.hid (scaleD_step (byteF b) (d := st) (by omega) hlt)
        have hbb := HB.out st.i
        go_wp2_with (go_at_call 48; go_loud (refine (refDecNext_any base g v b ⟨st.c, st.s * 256, st.i⟩ _ T5.out HB.out hl (by simp only; omega) (by simp only; omega) (by simp only; omega)).mono ?_); rintro e5 w5 ⟨rfl, hm, hk⟩; have T6 := Lib.hid hm; have K6 := Lib.hid (K5.out.trans hk); clear hm hk)
        go_roundw
        case rel => exact ⟨_, ⟨by rw [← HS1.out, S2.out], by simp only; omega, by simp only; omega, by simp only; omega, by simp only; omega, by simp only; omega, by simp only; omega, by simp only; omega⟩, T6.out, K6.out⟩
        case measure => rw [leftD_eq T6.out.cells.2.2.2, leftD_eq y3]; simp only; omega
      · have Z : RowKit.Hid (scaleD (byteF b) pre = st) := by rw [← HS1.out]; exact scaleD_end _ (by omega)
        go_wp2
        go_end0
        exact ⟨rfl, by rw [Z.out]; exact H.out.2.1, H.out.2.2⟩
  · have hdd : decide (O ≤ d.c - A) = false := by simpa using hbig
    go_quiet (fail)
    have HP1 : RowKit.Hid (pre = ⟨d.c - A, O, d.i⟩) := by
      obtain ⟨c', s', i'⟩ := pre
      obtain ⟨h1, h2, h3⟩ := HN.out
      rw [if_neg hbig] at h1
      simp only at h1 h2 h3
      subst h1 h2 h3
      exact rfl
    go_wp2
    go_loopw [49] (fun _ wr => ∃ st : DecS, RowKit.Hid (DecScale b d.i pre st ∧ DecMem wr base g v b st ∧ Keeps (fun j => j = g) w wr)) (fun _ wr => leftD wr g)
    case atStart => exact H0.out _ (by rw [HP1.out]; exact T2.out.drewN _) (K2.out.drewN _)
    case round =>
      obtain ⟨st, H⟩ := hrel
      obtain ⟨S1, b0, b1, b2, b3, b4, b5, b6⟩ := H.out.1
      have HS1 := Lib.hid S1
      clear S1
      obtain ⟨y0, y1, y2, y3⟩ := H.out.2.1.cells
      obtain ⟨x1, x2, x3⟩ := H.out.2.1.fz
      clear y0
      by_cases hlt : st.s < 16777216
      · have T5 := Lib.hid (H.out.2.1.setS (st.s * 256))
        have K5 := Lib.hid (H.out.2.2.setCell (p := ⟨g, 3, none⟩) (.inl rfl) (.int .i64 (st.s * 256)))
        have S2 := Lib.hid (scaleD_step (byteF b) (d := st) (by omega) hlt)
        have hbb := HB.out st.i
        go_wp2_with (go_at_call 48; go_loud (refine (refDecNext_any base g v b ⟨st.c, st.s * 256, st.i⟩ _ T5.out HB.out hl (by simp only; omega) (by simp only; omega) (by simp only; omega)).mono ?_); rintro e5 w5 ⟨rfl, hm, hk⟩; have T6 := Lib.hid hm; have K6 := Lib.hid (K5.out.trans hk); clear hm hk)
        go_roundw
        case rel => exact ⟨_, ⟨by rw [← HS1.out, S2.out], by simp only; omega, by simp only; omega, by simp only; omega, by simp only; omega, by simp only; omega, by simp only; omega, by simp only; omega⟩, T6.out, K6.out⟩
        case measure => rw [leftD_eq T6.out.cells.2.2.2, leftD_eq y3]; simp only; omega
      · have Z : RowKit.Hid (scaleD (byteF b) pre = st) := by rw [← HS1.out]; exact scaleD_end _ (by omega)
        go_wp2
        go_end0
        exact ⟨rfl, by rw [Z.out]; exact H.out.2.1, H.out.2.2⟩
end Go.Proofs.Ytdmafololcpamaa

/- What the document's decoder of layer 7 gives: a model's symbol, bits. -/
namespace Go.Proofs.Ytdmafololcpamaa
open Go.RowKit
set_option linter.unusedVariables false

theorem P2_add (a b : Nat) : P2 (a + b) = P2 a * P2 b := by unfold P2; rw [Int.pow_add]
/-- Which symbol a decoder finds. -/
def decWhich (d : DecS) (l : List Int) : Nat := findP l (decAt d l.sum)
def decSym (b : List Int) (d : DecS) (l : List Int) : DecS := decTake (byteF b) d (sumN l (decWhich d l)) (l.getD (decWhich d l) 0) l.sum
theorem decWhich_is {d : DecS} {l : List Int} (hG : GoodD d) (hL : GoodL l) : decWhich d l < l.length ∧ d.s / l.sum * sumN l (decWhich d l) ≤ d.c ∧ 1 ≤ l.sum ∧ l.sum ≤ 8192 := by
  have h1 : 1 ≤ l.sum := by
    have a := hL.sum_le (n := 1) hL.1
    have b := sumN_rise (l := l) (fun j hj => by have := hL.2.2.1 j hj; omega) (m := 1) (n := l.length) hL.1 (Nat.le_refl _)
    have c : sumN l 1 = sumN l 0 + l.getD 0 0 := sumN_succ l 0 (by have := hL.1; omega)
    have d := hL.2.2.1 0 (by have := hL.1; omega)
    rw [sumN_all] at b
    rw [sumN_zero] at c
    omega
  have h2 := hL.2.2.2
  obtain ⟨a, b, c⟩ := decAt_bd hG h1 h2
  obtain ⟨e, f, g⟩ := findP_is (l := l) a (by rw [sumN_all]; exact b)
  obtain ⟨e0, _, _⟩ := each_bd hG.1 hG.2.1 h1 h2
  refine ⟨e, ?_, h1, h2⟩
  exact Int.le_trans (Int.mul_le_mul_of_nonneg_left f (by omega)) c
def DecSymPost (base b2 g : Nat) (v : Value) (b : List Int) (mg mr : Nat) (s : Nat) (d : DecS) (l : List Int) (fx : Bool) (w : World) (x : Ending) (w' : World) : Prop :=
  x = .returned (.int .i64 s) ∧ DecMem w' base g v b d ∧ RefMod w' b2 mg mr l fx ∧ Keeps (fun j => j = g ∨ j = mr) w w'

set_option maxHeartbeats 1000000 in
set_option maxRecDepth 100000 in
theorem refDecSymbol_any (base b2 g : Nat) (v : Value) (b : List Int) (d : DecS) (mg mr : Nat) (l : List Int) (w : World) (hD : DecMem w base g v b d) (hb : ∀ j, 0 ≤ byteF b j ∧ byteF b j ≤ 255) (hbl : b.length ≤ 1000000) (hi : d.i ≤ 5000000) (hR : RefMod w b2 mg mr l false) (hG : GoodD d) (hL : GoodL l) (d1 : mg ≠ g) (d3 : mr ≠ g) (d2 : ∀ k, v.ownBlock = some k → k ≠ mg ∧ k ≠ mr) :
    Calls Try.prog 46 #[.pointer (some ⟨g, 0, none⟩), .pointer (some ⟨mg, 0, none⟩)] w (DecSymPost base b2 g v b mg mr (decWhich d l) (decSym b d l) (learnP l (decWhich d l)) false w) := by
  obtain ⟨cm, h1, h2, h3⟩ := hR
  have HR := Lib.hid (show RefMod w b2 mg mr l false from ⟨cm, h1, h2, h3⟩)
  have HD := Lib.hid hD
  have HG := Lib.hid hG
  have HL := Lib.hid hL
  have HBy := Lib.hid hb
  have H2 := Lib.hid d2
  have hl0 := hL.1
  have hl := hL.2.1
  have c0 := h1.cell 0
  simp only [List.getElem?_toArray, List.getElem?_cons_zero] at c0
  obtain ⟨w1, w2, w3, w4⟩ := decWhich_is hG hL
  have HWl := Lib.hid w2
  have HW : RowKit.Hid (findP l (decAt d l.sum) = decWhich d l) := rfl
  have hbd : ∀ j, j < l.length → 0 ≤ l.getD j 0 ∧ l.getD j 0 ≤ 4294967295 := fun j hj => by have := HL.out.own hj; omega
  have HB := Lib.hid hbd
  have HOk := Lib.hid (okP_sym hL w1)
  have HT := Lib.hid (sumN_all l)
  have hcell := HR.out.at_ w1
  have HS : RowKit.Hid (decSym b d l = decTake (byteF b) d (sumN l (decWhich d l)) (l.getD (decWhich d l) 0) l.sum) := rfl
  rw [HS.out]
  clear h1 h2 h3 hD hG hL hb hbd d2 w2 HS
  generalize l.getD (decWhich d l) 0 = X2 at hcell HOk ⊢
  generalize hs : decWhich d l = s at w1 HWl HW HOk hcell ⊢
  clear hs
  have hsl : (s : Int) < (l.length : Int) := by omega
  go_enter Try.func46, Try.ntmps46
  go_wp2_with (first | (go_at_call 60; go_loud (refine (refSum_at b2 mg mr l false l.length _ _ (by omega) HR.out (by omega) hl HB.out).mono ?_); rintro e5 w5 ⟨rfl, rfl⟩; rw [HT.out]) | (go_at_call 67; go_loud (refine (refDecAt_any base g v b d _ _ HD.out HG.out w3 w4).mono ?_); rintro e5 w5 ⟨rfl, n5, rfl⟩) | (go_at_call 66; go_loud (refine (refFind_any b2 mg mr l false _ _ (HR.out.drewN _) hl0 hl HB.out).mono ?_); rintro e6 w6 ⟨rfl, rfl⟩; rw [HW.out]))
  have hcell2 : (w.drewN n5).cell? ⟨mr, s, none⟩ = some (.int .i64 X2) := hcell
  have c02 : (w.drewN n5).cell? ⟨mg, 0, none⟩ = some (.slice (some ⟨mr, 0, none⟩) l.length cm) := c0
  have HDq := Lib.hid (HD.out.drewN n5)
  have HRq := Lib.hid (HR.out.drewN n5)
  have HKq := Lib.hid ((Keeps.refl (fun j => j = g ∨ j = mr) w).drewN n5)
  clear c0 hcell
  generalize w.drewN n5 = wq at hcell2 c02 HDq HRq HKq ⊢
  go_still_tail 12, (by kernel_rfl)
  still_call ((refSum_at b2 mg mr l false s _ _ (by omega) (HRq.out.drewN 1) (by omega) hl HB.out).mono fun _ _ h => ⟨h.1, h.2.symm⟩)
  repeat still_step
  refine wpStill_nil ?_
  change wpList _ _ _ _ _ wq.drew
  clear c02 hcell2
  have HDd : RowKit.Hid (DecMem wq.drew base g v b d) := HDq.out.drewN 1
  have HRd : RowKit.Hid (RefMod wq.drew b2 mg mr l false) := HRq.out.drewN 1
  generalize hX1 : sumN l s = X1 at HWl HOk ⊢
  have HX1 := Lib.hid hX1
  clear hX1
  go_wp2_with (first | (go_at_call 68; go_loud (refine (refDecTake_any base g v b d _ _ _ _ HDd.out HBy.out hbl hi HG.out HOk.out HWl.out).mono ?_); rintro e5 w5 ⟨rfl, hm, hk⟩; have HM5 := Lib.hid hm; have HK5 := Lib.hid hk; have HR5 := Lib.hid (HRd.out.keeps hk d1 d3); clear hm hk) | (go_at_call 61; go_loud (refine (refLearn_any b2 mg mr l s _ HR5.out HL.out w1).mono ?_); rintro e6 w6 ⟨rfl, hm, hk6⟩; have HM6 := Lib.hid hm; have HK6 := Lib.hid hk6; clear hm hk6))
  go_ret
  rw [HX1.out]
  refine ⟨rfl, HM5.out.keeps HK6.out (by omega) (fun k hk => (H2.out k hk).2), HM6.out, ((HKq.out.drewN 1).trans (HK5.out.mono fun k h => by omega)).trans (HK6.out.mono fun k h => by omega)⟩

/-- The number of so many bits, the highest twelve first, behind those that were read. -/
def decBits (b : List Int) (d : DecS) (n : Int) (wide : Nat) : Int × DecS :=
  if wide = 0 then (n, d) else if wide ≤ 12 then (n * P2 wide + decAt d (P2 wide), decTake (byteF b) d (decAt d (P2 wide)) 1 (P2 wide)) else
    let f := decTake (byteF b) d (decAt d 4096) 1 4096
    let m := n * 4096 + decAt d 4096
    if wide ≤ 24 then (m * P2 (wide - 12) + decAt f (P2 (wide - 12)), decTake (byteF b) f (decAt f (P2 (wide - 12))) 1 (P2 (wide - 12))) else (m, f)
theorem decBits_zero (b : List Int) (d : DecS) (n : Int) : decBits b d n 0 = (n, d) := rfl
theorem decBits_low (b : List Int) (d : DecS) (n : Int) {wide : Nat} (h0 : 0 < wide) (h1 : wide ≤ 12) : decBits b d n wide = (n * P2 wide + decAt d (P2 wide), decTake (byteF b) d (decAt d (P2 wide)) 1 (P2 wide)) := by
  unfold decBits; rw [if_neg (by omega), if_pos h1]
theorem decBits_high (b : List Int) (d : DecS) (n : Int) {wide : Nat} (h0 : 12 < wide) (h1 : wide ≤ 24) : decBits b d n wide = decBits b (decTake (byteF b) d (decAt d 4096) 1 4096) (n * 4096 + decAt d 4096) (wide - 12) := by
  rw [decBits_low _ _ _ (show 0 < wide - 12 by omega) (by omega)]
  unfold decBits; rw [if_neg (by omega), if_neg (by omega), if_pos h1]
def DecBitsPost (base g : Nat) (v : Value) (b : List Int) (n : Int) (d : DecS) (w : World) (x : Ending) (w' : World) : Prop :=
  x = .returned (.int .i64 n) ∧ DecMem w' base g v b d ∧ Keeps (fun j => j = g) w w'
theorem decTake_i (b : Nat → Int) (d : DecS) (low own all : Int) : (decTake b d low own all).i ≤ d.i + 2 := by
  unfold decTake scaleD
  have h : (decPre d low own all).i = d.i := rfl
  split
  · omega
  · split <;> simp only <;> omega

set_option maxHeartbeats 1000000 in
set_option maxRecDepth 100000 in
theorem refDecBits_any (base g : Nat) (v : Value) (b : List Int) (d : DecS) (wide : Nat) (w : World) (hD : DecMem w base g v b d) (hb : ∀ j, 0 ≤ byteF b j ∧ byteF b j ≤ 255) (hbl : b.length ≤ 1000000) (hi : d.i ≤ 4000000) (hG : GoodD d) (hw : wide ≤ 24) :
    Calls Try.prog 47 #[.pointer (some ⟨g, 0, none⟩), .int .i64 wide] w (DecBitsPost base g v b (decBits b d 0 wide).1 (decBits b d 0 wide).2 w) := by
  have HBy := Lib.hid hb
  obtain ⟨R, hR⟩ : ∃ R, R = decBits b d 0 wide := ⟨_, rfl⟩
  rw [← hR]
  have H0 : RowKit.Hid (decBits b d 0 wide = R ∧ GoodD d ∧ DecMem w base g v b d ∧ Keeps (fun j => j = g) w w ∧ (0 : Int) < P2 (wide - wide)) := ⟨hR.symm, hG, hD, Keeps.refl _ _, by rw [Nat.sub_self]; decide⟩
  clear hD hG hb hR
  go_enter Try.func47, Try.ntmps47
  go_wp2
  go_loopw [1, 5, 6, 7] (fun q n _ _ wr => ∃ (k : Nat) (f : DecS) (m : Int), k ≤ wide ∧ q = .int .i64 k ∧ n = .int .i64 m ∧ 0 ≤ m ∧ f.i ≤ d.i + 3 * (wide - k) ∧ RowKit.Hid (decBits b f m k = R ∧ GoodD f ∧ DecMem wr base g v b f ∧ Keeps (fun j => j = g) w wr ∧ m < P2 (wide - k))) (fun q _ _ _ _ => (intOf q).toNat)
  case atStart => exact ⟨wide, d, 0, by omega, rfl, rfl, by omega, by omega, H0.out⟩
  case round =>
    obtain ⟨k, f, m, hk, rfl, rfl, hm0, hfi, H⟩ := hrel
    clear H0
    obtain ⟨u1, u2, u3, u4, u5⟩ := H.out
    have hm1 : m ≤ 16777215 := by
      have := P2_mono (a := wide - k) (b := 24) (by omega)
      rw [show P2 24 = 16777216 by decide] at this
      omega
    have HM := Lib.hid u3
    have HGf := Lib.hid u2
    clear u1 u2 u3 u4 u5
    by_cases hlt : 0 < k
    · by_cases hq12 : 12 < k
      · obtain ⟨a0, a1, a2⟩ := decAt_bd HGf.out (show (1 : Int) ≤ 4096 by decide) (by decide)
        have HOk : RowKit.Hid (OkP (decAt f 4096) 1 4096) := ⟨by decide, by decide, by decide, a0, by omega⟩
        have HLow := Lib.hid a2
        have HE : RowKit.Hid (decBits b f m k = decBits b (decTake (byteF b) f (decAt f 4096) 1 4096) (m * 4096 + decAt f 4096) (k - 12)) := decBits_high b f m hq12 (by omega)
        have h12 : P2 12 = 4096 := by decide
        clear a2
        go_wp2_with (first | (go_at_call 62; go_loud (refine (refPower_at 12 _ _ (by omega) (by omega)).mono ?_); rintro e5 w5 ⟨rfl, rfl⟩; rw [h12]) | (go_at_call 67; go_loud (refine (refDecAt_any base g v b f _ _ HM.out HGf.out (by omega) (by omega)).mono ?_); rintro e5 w5 ⟨rfl, n5, rfl⟩) | (go_at_call 68; go_loud (refine (refDecTake_any base g v b f (decAt f 4096) 1 4096 _ (HM.out.drewN _) HBy.out hbl (by omega) HGf.out HOk.out HLow.out).mono ?_); rintro e6 w6 ⟨rfl, hm6, hk6⟩; have HM6 := Lib.hid hm6; have HK6 := Lib.hid hk6; clear hm6 hk6))
        go_roundw
        case rel =>
          have h2 := decTake_i (byteF b) f (decAt f 4096) 1 4096
          refine ⟨(k - 12), _, _, by omega, by go_num, rfl, by omega, by omega, ?_, (decTake_good HBy.out HGf.out HOk.out HLow.out).1, HM6.out, (H.out.2.2.2.1.drewN _).trans HK6.out, ?_⟩
          · exact HE.out.symm.trans H.out.1
          · have h5 := H.out.2.2.2.2
            rw [show wide - (k - 12) = (wide - k) + 12 by omega, P2_add, h12]; omega
        case measure => simp [intOf] <;> omega
      · have pk := P2_pos k
        have qk := P2_mono (a := k) (b := 12) (by omega)
        rw [show P2 12 = 4096 by decide] at qk
        obtain ⟨a0, a1, a2⟩ := decAt_bd HGf.out (show 1 ≤ P2 k by omega) (show P2 k ≤ 8192 by omega)
        have HOk : RowKit.Hid (OkP (decAt f (P2 k)) 1 (P2 k)) := ⟨by omega, by omega, by decide, a0, by omega⟩
        have HLow := Lib.hid a2
        have HE : RowKit.Hid (decBits b f m k = (m * P2 k + decAt f (P2 k), decTake (byteF b) f (decAt f (P2 k)) 1 (P2 k))) := decBits_low b f m hlt (by omega)
        have v0 : 0 ≤ m * P2 k := Int.mul_nonneg hm0 (by omega)
        have v1 : m * P2 k ≤ m * 4096 := Int.mul_le_mul_of_nonneg_left qk hm0
        clear a2
        go_wp2_with (first | (go_at_call 62; go_loud (refine (refPower_at k _ _ (by omega) (by omega)).mono ?_); rintro e5 w5 ⟨rfl, rfl⟩) | (go_at_call 67; go_loud (refine (refDecAt_any base g v b f _ _ HM.out HGf.out (by omega) (by omega)).mono ?_); rintro e5 w5 ⟨rfl, n5, rfl⟩) | (go_at_call 68; go_loud (refine (refDecTake_any base g v b f (decAt f (P2 k)) 1 (P2 k) _ (HM.out.drewN _) HBy.out hbl (by omega) HGf.out HOk.out HLow.out).mono ?_); rintro e6 w6 ⟨rfl, hm6, hk6⟩; have HM6 := Lib.hid hm6; have HK6 := Lib.hid hk6; clear hm6 hk6))
        go_roundw
        case rel =>
          have h2 := decTake_i (byteF b) f (decAt f (P2 k)) 1 (P2 k)
          refine ⟨0, _, _, by omega, by go_num, rfl, by omega, by omega, ?_, (decTake_good HBy.out HGf.out HOk.out HLow.out).1, HM6.out, (H.out.2.2.2.1.drewN _).trans HK6.out, ?_⟩
          · exact HE.out.symm.trans H.out.1
          · have h5 := H.out.2.2.2.2
            rw [show wide - 0 = (wide - k) + k by omega, P2_add]; have := Int.mul_le_mul_of_nonneg_right (show m + 1 ≤ P2 (wide - k) by omega) (show 0 ≤ P2 k by omega); rw [Int.add_mul, Int.one_mul] at this; omega
        case measure => simp [intOf] <;> omega
    · obtain rfl : k = 0 := by omega
      go_wp2
      go_ret
      obtain ⟨u1, u2, u3, u4, u5⟩ := H.out
      rw [decBits_zero] at u1
      subst u1
      exact ⟨rfl, u3, u4⟩
end Go.Proofs.Ytdmafololcpamaa

/- Plain facts of the range coder: whole symbols and whole bits come back, one behind the other. Nothing here speaks of the program. -/
namespace Go.Proofs.Ytdmafololcpamaa
open Go
set_option linter.unusedVariables false

/-- Where the decoder is in step, and the digits are those of a later number, it is a good one, and below its size. -/
theorem sync_good {b : Nat → Int} {e f : EncS} {d : DecS} (hs : Sync b e d) (hg : GoodE e) (hi : Inside e f) (hf : 1 ≤ f.s) (hd : DigOf b f) : GoodD d ∧ d.c < d.s := by
  obtain ⟨i1, i2, i3⟩ := hi
  obtain ⟨s1, s2, s3⟩ := hs
  obtain ⟨h1, h2, h3, h4⟩ := hg
  have hv := hd (e.k + 4) (by omega)
  rw [show f.k + 4 - (e.k + 4) = f.k - e.k by omega] at hv
  have pp := P256_pos (f.k - e.k)
  generalize P256 (f.k - e.k) = P at i2 i3 hv pp
  have lo : e.n ≤ valB b (e.k + 4) := by rw [hv, Int.le_ediv_iff_mul_le (by omega)]; exact i2
  have hi' : valB b (e.k + 4) < e.n + e.s := by rw [hv, Int.ediv_lt_iff_lt_mul (by omega)]; omega
  exact ⟨⟨by omega, by omega, by omega, by omega⟩, by omega⟩
/-- A symbol comes back. -/
theorem sym_back {b : List Int} {e f : EncS} {d : DecS} {l : List Int} {s : Nat} (hs : Sync (byteF b) e d) (hg : GoodE e) (hl : GoodL l) (hsl : s < l.length) (hi : Inside (encSym e l s) f) (hf : 1 ≤ f.s) (hd : DigOf (byteF b) f) :
    decWhich d l = s ∧ Sync (byteF b) (encSym e l s) (decSym b d l) := by
  obtain ⟨a1, a2, a3⟩ := comes_back hs hg (okP_sym hl hsl) hi hf hd
  have hw : decWhich d l = s := by
    unfold decWhich
    refine findP_eq hl.2.2.1 hsl a1 ?_
    rw [sumN_succ l s hsl]; exact a2
  refine ⟨hw, ?_⟩
  unfold decSym
  rw [hw]; exact a3
/-- Bits come back: a number of no more bits than are told. -/
theorem bits_back {b : List Int} {e f : EncS} {d : DecS} {n : Int} {wide : Nat} (hs : Sync (byteF b) e d) (hg : GoodE e) (hw : wide ≤ 24) (n0 : 0 ≤ n) (n1 : n < P2 wide) (hi : Inside (encBits e n wide) f) (hf : 1 ≤ f.s) (hd : DigOf (byteF b) f) :
    (decBits b d 0 wide).1 = n ∧ Sync (byteF b) (encBits e n wide) (decBits b d 0 wide).2 := by
  by_cases h0 : wide = 0
  · subst h0
    rw [decBits_zero, encBits_zero]
    have : P2 0 = 1 := rfl
    exact ⟨by omega, hs⟩
  · by_cases h1 : wide ≤ 12
    · rw [encBits_low e n (by omega) h1] at hi ⊢
      rw [decBits_low b d 0 (by omega) h1]
      obtain ⟨a1, a2, a3⟩ := comes_back hs hg (okP_bit h1 (bit_part n).1 (bit_part n).2) hi hf hd
      have e1 : n % P2 wide = n := Int.emod_eq_of_lt n0 n1
      have ha : decAt d (P2 wide) = n % P2 wide := by omega
      simp only
      rw [ha]
      exact ⟨by rw [e1]; omega, a3⟩
    · rw [encBits_high e n (by omega) hw] at hi ⊢
      rw [decBits_high b d 0 (by omega) hw]
      have hg1 := encPut_good hg (okP_12 (n / P2 (wide - 12)))
      have hi1 : Inside (encPut e (n / P2 (wide - 12) % 4096) 1 4096) f := (encBits_inside hg1 (by omega)).trans hi
      obtain ⟨a1, a2, a3⟩ := comes_back hs hg (okP_12 (n / P2 (wide - 12))) hi1 hf hd
      have ha : decAt d 4096 = n / P2 (wide - 12) % 4096 := by omega
      rw [ha]
      rw [encBits_low _ n (show 0 < wide - 12 by omega) (by omega)] at hi ⊢
      rw [decBits_low b _ _ (show 0 < wide - 12 by omega) (by omega)]
      obtain ⟨c1, c2, c3⟩ := comes_back a3 hg1 (okP_bit (by omega) (bit_part n).1 (bit_part n).2) hi hf hd
      have hb : decAt (decTake (byteF b) d (n / P2 (wide - 12) % 4096) 1 4096) (P2 (wide - 12)) = n % P2 (wide - 12) := by omega
      simp only
      rw [hb]
      refine ⟨?_, c3⟩
      have p := P2_pos (wide - 12)
      have hP : P2 wide = P2 (wide - 12) * 4096 := by
        have := P2_add (wide - 12) 12
        rw [show wide - 12 + 12 = wide by omega, show P2 12 = 4096 by decide] at this
        exact this
      have q0 : 0 ≤ n / P2 (wide - 12) := Int.ediv_nonneg n0 (by omega)
      have q1 : n / P2 (wide - 12) < 4096 := by rw [Int.ediv_lt_iff_lt_mul (by omega), Int.mul_comm, ← hP]; exact n1
      rw [Int.emod_eq_of_lt q0 q1, Int.zero_mul, Int.zero_add]
      exact Int.ediv_mul_add_emod n _
/-- The digits that an encoder's bytes tell, with whatever stands behind them from the (k + 4)-th on. -/
theorem digOf_bytes {f : EncS} {b : List Int} (hg : GoodE f) (hb : ∀ j, j < f.k + 4 → byteF b j = digB f.n (f.k + 4) j) : DigOf (byteF b) f := by
  have hl : f.n < P256 (f.k + 4) := by
    rw [show f.k + 4 = f.k + 1 + 1 + 1 + 1 by omega, P256_succ, P256_succ, P256_succ, P256_succ]
    have := hg.1
    have := hg.2.2.2
    omega
  exact valB_dig hg.2.2.1 hl hb
theorem digOf_own {f : EncS} (hg : GoodE f) : DigOf (byteF (digL f.n (f.k + 4))) f := digOf_bytes hg fun j hj => by unfold byteF; exact digL_getD f.n hj
end Go.Proofs.Ytdmafololcpamaa

/- What the document's encoder of layer 6 gives: a new one, its bytes. -/
namespace Go.Proofs.Ytdmafololcpamaa
open Go.RowKit
set_option linter.unusedVariables false

theorem refEncNew_any (w : World) :
    Calls Try.prog 11 #[] w fun x w' => x = .returned (.pointer (some ⟨w.heap.size + 1, 0, none⟩)) ∧ EncMem w' w.heap.size (w.heap.size + 1) w.heap.size 4 (digL 0 4) 4294967295 0 ∧ Below w.heap.size w w' := by
  have HB := Lib.hid ((Below.alloc_new w (.cells #[.int .i64 0, .int .i64 0, .int .i64 0, .int .i64 0] 3)).alloc (by simp) (.cells #[.slice (some ⟨w.heap.size, 0, none⟩) 4 4, .int .i64 4294967295, .int .i64 0] 60))
  have HO := Lib.hid (World.ownsRow.alloc (World.ownsRow_lit (base := w.heap.size) (e := 3) (size := 1) w #[.int .i64 0, .int .i64 0, .int .i64 0, .int .i64 0] 4 (Nat.le_refl _) (by decide) rfl) (.cells #[.slice (some ⟨w.heap.size, 0, none⟩) 4 4, .int .i64 4294967295, .int .i64 0] 60))
  have hc := Cel.new (w.alloc (.cells #[.int .i64 0, .int .i64 0, .int .i64 0, .int .i64 0] 3)) 60 #[.slice (some ⟨w.heap.size, 0, none⟩) 4 4, .int .i64 4294967295, .int .i64 0]
  have e1 : (w.alloc (.cells #[.int .i64 0, .int .i64 0, .int .i64 0, .int .i64 0] 3)).heap.size = w.heap.size + 1 := by simp
  rw [e1] at hc
  have HC := Lib.hid hc
  clear hc e1
  go_enter Try.func11, Try.ntmps11
  go_wp2
  go_ret
  exact ⟨rfl, ⟨HC.out, HO.out, Nat.le_succ _⟩, HB.out⟩

/-! ### Bytes -/
/-- The last of the first k digits that isn't 0. -/
def lastK (D : List Int) : Nat → Int
  | 0 => -1
  | k + 1 => if D.getD k 0 = 0 then lastK D k else k
theorem lastK_bd (D : List Int) (k : Nat) : -1 ≤ lastK D k ∧ lastK D k < k := by
  induction k with
  | zero => exact ⟨Int.le_refl _, by show (-1 : Int) < 0; decide⟩
  | succ k ih => unfold lastK; split <;> omega
theorem lastK_over {D : List Int} : ∀ k j : Nat, lastK D k < j → j < k → D.getD j 0 = 0 := by
  intro k
  induction k with
  | zero => intro j _ h; omega
  | succ k ih =>
    intro j h1 h2
    unfold lastK at h1
    by_cases e : D.getD k 0 = 0
    · rw [if_pos e] at h1
      by_cases ej : j = k
      · subst ej; exact e
      · exact ih j h1 (by omega)
    · rw [if_neg e] at h1; omega
/-- Digits as bytes: without noughts behind. -/
def bytesL (D : List Int) : List Int := D.take (lastK D D.length + 1).toNat
theorem bytesL_len (D : List Int) : (bytesL D).length = (lastK D D.length + 1).toNat := by
  have := lastK_bd D D.length
  unfold bytesL; simp; omega
theorem info_u806 : (Try.prog.info? 5).map (fun i => (i.zero, i.size, i.bytes)) = some (some (.int .u8 0), 1, 1) := by kernel_rfl

def BytesPost (b : List Int) (w : World) (x : Ending) (w' : World) : Prop := ∃ a c, x = .returned (.slice a b.length c) ∧ IntsAt w' w'.heap.size .u8 a b.length b ∧ Below w.heap.size w w'

set_option maxRecDepth 100000 in
theorem refEncBytes_any (base g r c : Nat) (D : List Int) (s : Int) (k : Nat) (w : World) (hE : EncMem w base g r c D s k) (hd : IsDig D) (hl : D.length ≤ 2000000) :
    Calls Try.prog 15 #[.pointer (some ⟨g, 0, none⟩)] w (BytesPost (bytesL D) w) := by
  obtain ⟨c0, c1, c2⟩ := hE.cells
  have HE := Lib.hid hE
  have HD := Lib.hid hd
  clear hE hd c1 c2
  have HO := Lib.hid (World.ownsRow_nil w w.heap.size 5 1)
  go_enter Try.func15, Try.ntmps15
  go_wp2
  go_loop [4, 5] (fun a i => ∃ j : Nat, j ≤ D.length ∧ i = .int .i64 j ∧ a = .int .i64 (lastK D j)) (fun _ i => D.length - (intOf i).toNat)
  case atStart => exact ⟨0, by omega, rfl, rfl⟩
  case round =>
    obtain ⟨j, hj, rfl, rfl⟩ := hrel
    by_cases hlt : j < D.length
    · have hcell := HE.out.at_ hlt
      have E : RowKit.Hid (lastK D (j + 1) = if D.getD j 0 = 0 then lastK D j else j) := rfl
      have hjl : (j : Int) < (D.length : Int) := by omega
      generalize D.getD j 0 = x at hcell E
      by_cases hx : x = 0
      · have hq : (x != 0) = false := by simpa using hx
        have E2 : RowKit.Hid (lastK D j = lastK D (j + 1)) := by show _ = _; rw [E.out, if_pos hx]
        clear hx
        go_wp2
        go_round
        case rel => exact ⟨j + 1, by omega, by go_num, by rw [E2.out]⟩
        case measure => simp [intOf] <;> omega
      · have hq : (x != 0) = true := by simpa using hx
        have E2 : RowKit.Hid ((j : Int) = lastK D (j + 1)) := by show _ = _; rw [E.out, if_neg hx]
        clear hx
        go_wp2
        go_round
        case rel => exact ⟨j + 1, by omega, by go_num, by rw [E2.out]⟩
        case measure => simp [intOf] <;> omega
    · obtain rfl : j = D.length := by omega
      obtain ⟨b0, b1⟩ := lastK_bd D D.length
      have hbl := bytesL_len D
      obtain ⟨m, hm⟩ : ∃ m : Nat, lastK D D.length = (m : Int) - 1 := ⟨(lastK D D.length + 1).toNat, by omega⟩
      have hbm : (bytesL D).length = m := by rw [hbl, hm]; omega
      have HBm := Lib.hid hbm
      have HTk : RowKit.Hid (bytesL D = D.take m) := by
        show _ = _
        unfold bytesL; rw [hm]; congr 1; omega
      have hmD : m ≤ D.length := by omega
      rw [hm]
      clear hbl hm hbm b0 b1
      go_wp2
      go_loopw [3, 6] (fun v i wr => ∃ q : Nat, q ≤ m ∧ i = .int .i64 q ∧ RowKit.Hid (wr.ownsRow w.heap.size 5 1 v q ((D.take q).map (Value.int .u8)) ∧ Below w.heap.size w wr)) (fun _ i _ => m - (intOf i).toNat)
      case atStart => exact ⟨0, by omega, rfl, HO.out, Below.refl _ _⟩
      case round =>
        obtain ⟨q, hq, rfl, H⟩ := hrel
        clear c0
        have HEr := Lib.hid (HE.out.below H.out.2)
        obtain ⟨c0, _, _⟩ := HEr.out.cells
        by_cases hlt2 : q < m
        · have hcell := HEr.out.at_ (j := q) (by omega)
          obtain ⟨x0, x1⟩ := HD.out q (by omega)
          have HT := Lib.hid (take_snocI D q (by omega))
          have hql : (q : Int) < (D.length : Int) := by omega
          generalize D.getD q 0 = x at hcell x0 x1 HT
          have hsz := H.out.2.size
          have hown0 := Lib.hid (World.ownsRow.alloc H.out.1 (.cells #[.int .u8 x] 5))
          have hsrc := Lib.hid (lit_ints wr 5 .u8 [x] #[.int .u8 x] (0, 0) rfl (by simp))
          have hbel := Lib.hid (H.out.2.alloc hsz (.cells #[.int .u8 x] 5))
          have hob := Lib.hid (own_base H.out.1)
          have e1 : x % 256 = x := by omega
          go_wp2_with (at_builtin; go_loud (refine append_ints rfl _ _ 23 rfl w.heap.size 5 .u8 1 Try.underlying23 info_u806 _ q (D.take q) rfl hown0.out (some ⟨wr.heap.size, 0, none⟩) 1 1 _ [x] rfl hsrc.out (by simp) ?c1 ?c2 ?c3 ?_))
          case c1 => unfold maxLen; omega
          case c2 => omega
          case c3 => first | omega | (simp; omega)
          intro v2 w2 hown hgrow _
          have H2 : RowKit.Hid (w2.ownsRow w.heap.size 5 1 v2 (q + 1) ((D.take (q + 1)).map (Value.int .u8)) ∧ Below w.heap.size w w2) := by
            refine ⟨?_, hbel.out.grown hgrow (by simp; omega) hob.out⟩
            rw [HT.out]; simpa [List.map_take] using hown
          clear hown hgrow
          go_wp2
          go_roundw
          case rel => exact ⟨q + 1, by omega, by go_num, H2.out⟩
          case measure => simp [intOf] <;> omega
        · obtain rfl : q = m := by omega
          have HI := Lib.hid (own_ints H.out.1)
          have HB2 := Lib.hid H.out.2
          clear H
          go_wp2
          go_ret
          obtain ⟨a, cc, rfl, hi⟩ := HI.out
          refine ⟨a, cc, by rw [HBm.out]; rfl, ?_, HB2.out⟩
          rw [HBm.out, HTk.out]; exact hi

end Go.Proofs.Ytdmafololcpamaa

/- What the document's coder of layers 6 and 7 gives: a decoder of bytes. -/
namespace Go.Proofs.Ytdmafololcpamaa
open Go.RowKit
set_option linter.unusedVariables false

/-- With noughts behind them bytes are the digits. -/
theorem bytesL_get (D : List Int) (j : Nat) : byteF (bytesL D) j = byteF D j := by
  unfold byteF
  have hb := lastK_bd D D.length
  by_cases h : j < (lastK D D.length + 1).toNat
  · unfold bytesL
    simp [List.getD, h]
  · have e : (bytesL D).getD j 0 = 0 := by
      rw [List.getD, List.getElem?_eq_none (by rw [bytesL_len]; omega)]; rfl
    rw [e]
    by_cases hj : j < D.length
    · exact (lastK_over D.length j (by omega) hj).symm
    · rw [List.getD, List.getElem?_eq_none (by omega)]; rfl

/-! ### A decoder of bytes -/
def OpenPost (b : List Int) (w : World) (x : Ending) (w' : World) : Prop := ∃ g v, x = .returned (.pointer (some ⟨g, 0, none⟩)) ∧ DecMem w' w.heap.size g v b (decNew (byteF b)) ∧ Below w.heap.size w w'

set_option maxRecDepth 100000 in
theorem refOpen_any (a : Option Addr) (len cap : Nat) (b : List Int) (w : World) (h : IntsAt w w.heap.size .u8 a len b) (hn : a = none → cap = 0) (hb : ∀ j, 0 ≤ byteF b j ∧ byteF b j ≤ 255) (hl : len ≤ 1000000) :
    Calls Try.prog 20 #[.slice a len cap] w (OpenPost b w) := by
  have HI := Lib.hid h
  have HN := Lib.hid hn
  have HB := Lib.hid hb
  have hbl := Lib.hid h.1
  have hown0 := Lib.hid (World.ownsRow_lit (base := w.heap.size) (e := 5) (size := 1) w #[] 0 (Nat.le_refl _) (by decide) rfl)
  have hbel0 := Lib.hid (Below.alloc_new w (.cells #[] 5))
  clear h hn hb
  go_enter Try.func20, Try.ntmps20
  go_wp2_with (at_builtin; go_loud (refine append_ints rfl _ _ 23 rfl w.heap.size 5 .u8 1 Try.underlying23 info_u806 _ 0 [] rfl hown0.out a len cap w.heap.size b rfl (HI.out.below hbel0.out) HN.out ?c1 ?c2 (by simp) ?_))
  case c1 => unfold maxLen; omega
  case c2 => omega
  intro v2 w2 hown hgrow _
  obtain ⟨a2, cp2, rfl⟩ := own_form (zs := b) (by simpa using hown)
  have hown2 : w2.ownsRow w.heap.size 5 1 (.slice a2 len cp2) len (b.map (Value.int .u8)) := by simpa using hown
  have hb2 : Below w.heap.size w w2 := hbel0.out.grown hgrow (by simp) (own_base hown0.out)
  have H0 : RowKit.Hid (DecMem (w2.alloc (.cells #[.slice a2 len cp2, .int .i64 0, .int .i64 0, .int .i64 4294967295] 90)) w.heap.size w2.heap.size (.slice a2 len cp2) b ⟨valB (byteF b) 0, 4294967295, 0⟩ ∧ Below w.heap.size w (w2.alloc (.cells #[.slice a2 len cp2, .int .i64 0, .int .i64 0, .int .i64 4294967295] 90))) :=
    ⟨⟨Cel.new w2 _ _, by rw [hbl.out]; exact World.ownsRow.alloc hown2 _, hb2.size⟩, hb2.alloc hb2.size _⟩
  have hsz := hb2.size
  clear hown hown2 hgrow hb2
  go_wp2
  generalize hgg : w2.heap.size = g at H0 hsz ⊢
  clear hgg
  go_loopw [4] (fun i wr => ∃ q : Nat, q ≤ 4 ∧ i = .int .i64 q ∧ RowKit.Hid (DecMem wr w.heap.size g (.slice a2 len cp2) b ⟨valB (byteF b) q, 4294967295, q⟩ ∧ Below w.heap.size w wr ∧ valB (byteF b) q < P256 q ∧ 0 ≤ valB (byteF b) q)) (fun i _ => 4 - (intOf i).toNat)
  case atStart => exact ⟨0, by omega, rfl, H0.out.1, H0.out.2, by show (0 : Int) < 1; decide, Int.le_refl 0⟩
  case round =>
    obtain ⟨q, hq, rfl, H⟩ := hrel
    clear H0
    by_cases hlt : q < 4
    · have hv1 : valB (byteF b) q ≤ 16777215 := by
        have h1 := H.out.2.2.1
        have : q = 0 ∨ q = 1 ∨ q = 2 ∨ q = 3 := by omega
        rcases this with rfl | rfl | rfl | rfl
        · have e : P256 0 = 1 := by decide
          omega
        · have e : P256 1 = 256 := by decide
          omega
        · have e : P256 2 = 65536 := by decide
          omega
        · have e : P256 3 = 16777216 := by decide
          omega
      have hbq := HB.out q
      go_wp2_with (go_at_call 48; go_loud (refine (refDecNext_any w.heap.size g _ b ⟨valB (byteF b) q, 4294967295, q⟩ _ H.out.1 HB.out (by rw [hbl.out]; exact hl) H.out.2.2.2 (by simp only; omega) (by simp only; omega)).mono ?_); rintro e5 w5 ⟨rfl, hm, hk⟩; have HM5 := Lib.hid hm; have HB5 := Lib.hid (H.out.2.1.trans (hk.below H.out.2.1.size (fun k h => by omega))); clear hm hk)
      go_roundw
      case rel =>
        have h1 := H.out.2.2.1
        have h2 := H.out.2.2.2
        refine ⟨q + 1, by omega, by go_num, HM5.out, HB5.out, ?_, ?_⟩
        · show valB (byteF b) q * 256 + byteF b q < P256 (q + 1)
          rw [P256_succ]; omega
        · show 0 ≤ valB (byteF b) q * 256 + byteF b q
          omega
      case measure => simp [intOf] <;> omega
    · obtain rfl : q = 4 := by omega
      go_wp2
      go_ret
      exact ⟨g, _, rfl, H.out.1, H.out.2.1⟩
end Go.Proofs.Ytdmafololcpamaa

/- What the functions of package rangedec give: a byte, in which of so many parts the bytes lie, how many bytes were taken. -/
namespace Go.Proofs.Ytdmafololcpamaa
open Go.RowKit
set_option linter.unusedVariables false

/-- Block g is a decoder of the bytes b, whose cells are told. -/
def DrcR (w : World) (base g : Nat) (v : Value) (b : List Int) (m : Nat) (c less : Int) : Prop :=
  Cel w g 86 #[v, .int .i64 m, .int .u32 c, .int .u32 less] ∧ w.ownsRow base 5 1 v b.length (b.map (Value.int .u8)) ∧ base ≤ g
section
variable {w w' : World} {base g : Nat} {v : Value} {b : List Int} {m : Nat} {c less : Int}
theorem DrcR.ne (h : DrcR w base g v b m c less) : ∀ k, v.ownBlock = some k → k ≠ g := fun k hk => own_ne_cel h.2.1 h.1 (by decide) k hk
theorem DrcR.lt (h : DrcR w base g v b m c less) : g < w.heap.size := h.1.lt
theorem DrcR.own (h : DrcR w base g v b m c less) (r : Nat) (hr : v.ownBlock = some r) : r < w.heap.size ∧ base ≤ r ∧ r ≠ g := ⟨own_lt h.2.1 r hr, own_base h.2.1 r hr, h.ne r hr⟩
theorem DrcR.cells (h : DrcR w base g v b m c less) : w.cell? ⟨g, 0, none⟩ = some v ∧ w.cell? ⟨g, 1, none⟩ = some (.int .i64 m) ∧ w.cell? ⟨g, 2, none⟩ = some (.int .u32 c) ∧ w.cell? ⟨g, 3, none⟩ = some (.int .u32 less) := ⟨h.1.cell 0, h.1.cell 1, h.1.cell 2, h.1.cell 3⟩
theorem DrcR.fz (h : DrcR w base g v b m c less) : w.frozen? ⟨g, 1, none⟩ = false ∧ w.frozen? ⟨g, 2, none⟩ = false ∧ w.frozen? ⟨g, 3, none⟩ = false := ⟨h.1.frozen 1, h.1.frozen 2, h.1.frozen 3⟩
theorem DrcR.drewN (h : DrcR w base g v b m c less) (n : Nat) : DrcR (w.drewN n) base g v b m c less := h
theorem DrcR.keeps {F : Nat → Prop} (h : DrcR w base g v b m c less) (hk : Keeps F w w') (h1 : ¬ F g) (h2 : ∀ k, v.ownBlock = some k → ¬ F k) : DrcR w' base g v b m c less := ⟨h.1.keeps hk h1, own_keeps h.2.1 hk h2, h.2.2⟩
theorem DrcR.below (h : DrcR w base g v b m c less) (hk : Below w.heap.size w w') : DrcR w' base g v b m c less := h.keeps (F := fun _ => False) (.of_below hk) (fun c => c) (fun _ _ c => c)
theorem DrcR.setMore (h : DrcR w base g v b m c less) (x : Nat) : DrcR (w.setCell ⟨g, 1, none⟩ (.int .i64 x)) base g v b x c less :=
  ⟨by simpa using h.1.set_ 1 (.int .i64 x), own_far h.2.1 h.ne _, h.2.2⟩
theorem DrcR.setCode (h : DrcR w base g v b m c less) (x : Int) : DrcR (w.setCell ⟨g, 2, none⟩ (.int .u32 x)) base g v b m x less :=
  ⟨by simpa using h.1.set_ 2 (.int .u32 x), own_far h.2.1 h.ne _, h.2.2⟩
theorem DrcR.setLess (h : DrcR w base g v b m c less) (x : Int) : DrcR (w.setCell ⟨g, 3, none⟩ (.int .u32 x)) base g v b m c x :=
  ⟨by simpa using h.1.set_ 3 (.int .u32 x), own_far h.2.1 h.ne _, h.2.2⟩
theorem DrcR.ints (h : DrcR w base g v b m c less) : ∃ a c, v = .slice a b.length c ∧ IntsAt w w.heap.size .u8 a b.length b := own_ints h.2.1
end
/-- Block g is a decoder of the bytes b in the state d. -/
def DrcAt (w : World) (base g : Nat) (v : Value) (b : List Int) (d : DecS) : Prop := 4 ≤ d.i ∧ DrcR w base g v b (d.i - 4) d.c (4294967295 - d.s)
section
variable {w w' : World} {base g : Nat} {v : Value} {b : List Int} {d : DecS}
theorem DrcAt.drewN (h : DrcAt w base g v b d) (n : Nat) : DrcAt (w.drewN n) base g v b d := h
theorem DrcAt.keeps {F : Nat → Prop} (h : DrcAt w base g v b d) (hk : Keeps F w w') (h1 : ¬ F g) (h2 : ∀ k, v.ownBlock = some k → ¬ F k) : DrcAt w' base g v b d := ⟨h.1, h.2.keeps hk h1 h2⟩
theorem DrcAt.below (h : DrcAt w base g v b d) (hk : Below w.heap.size w w') : DrcAt w' base g v b d := ⟨h.1, h.2.below hk⟩
theorem DrcAt.lt (h : DrcAt w base g v b d) : g < w.heap.size ∧ base ≤ g := ⟨h.2.lt, h.2.2.2⟩
theorem DrcAt.own (h : DrcAt w base g v b d) (r : Nat) (hr : v.ownBlock = some r) : r < w.heap.size ∧ base ≤ r ∧ r ≠ g := h.2.own r hr
end
theorem u32_not07 {c : Int} (h0 : 0 ≤ c) (h1 : c ≤ 4294967295) : bits .xor .u32 IntKind.u32.max c = 4294967295 - c := by
  obtain ⟨m, rfl⟩ : ∃ m : Nat, c = m := ⟨c.toNat, by omega⟩
  have a := u32_xor_nat 4294967295 m (by decide) (by omega)
  refine Eq.trans a ?_
  have e : 4294967295 ^^^ m = 4294967295 - m := by
    apply Nat.eq_of_testBit_eq
    intro i
    have s := Nat.testBit_two_pow_sub_succ (n := 32) (x := m) (by omega) i
    rw [show 2 ^ 32 - (m + 1) = 4294967295 - m by omega] at s
    rw [s, Nat.testBit_xor, show (4294967295 : Nat) = 2 ^ 32 - 1 by rfl, Nat.testBit_two_pow_sub_one]
    by_cases hi : i < 32
    · simp [hi]
    · have : m.testBit i = false := Nat.testBit_lt_two_pow (Nat.lt_of_lt_of_le (show m < 2 ^ 32 by omega) (Nat.pow_le_pow_right (by decide) (by omega)))
      simp [hi, this]
  rw [e]; omega
theorem u32_or_low {c x : Int} {k : Nat} (c0 : 0 ≤ c) (x0 : 0 ≤ x) (x1 : x < P2 k) (h : c * P2 k + P2 k ≤ 4294967296) : bits .or .u32 (c * P2 k) x = c * P2 k + x := by
  obtain ⟨m, rfl⟩ : ∃ m : Nat, c = m := ⟨c.toNat, by omega⟩
  obtain ⟨n, rfl⟩ : ∃ n : Nat, x = n := ⟨x.toNat, by omega⟩
  have e : P2 k = ((2 ^ k : Nat) : Int) := by unfold P2; rw [Int.natCast_pow]; rfl
  rw [e] at x1 h ⊢
  have em : (m : Int) * ((2 ^ k : Nat) : Int) = ((m * 2 ^ k : Nat) : Int) := by rw [Int.natCast_mul]
  rw [em] at h ⊢
  rw [u32_or_nat _ _ (by omega) (by omega)]
  have := Nat.shiftLeft_add_eq_or_of_lt (show n < 2 ^ k by omega) m
  rw [Nat.shiftLeft_eq] at this
  rw [← this]; omega
theorem u32_or_byte {c x : Int} (c0 : 0 ≤ c) (c1 : c ≤ 16777215) (x0 : 0 ≤ x) (x1 : x ≤ 255) : bits .or .u32 (c * 256) x = c * 256 + x :=
  u32_or_low (k := 8) c0 x0 (show x < 256 by omega) (show c * 256 + 256 ≤ 4294967296 by omega)

set_option maxRecDepth 100000 in
theorem drcDigit_any (base g : Nat) (v : Value) (b : List Int) (m : Nat) (c less : Int) (j : Nat) (i : Int) (w : World) (hi : i = j) (hD : DrcR w base g v b m c less) (hl : b.length ≤ 1000000) (hj : j ≤ 20000000) :
    Calls Try.prog 45 #[.pointer (some ⟨g, 0, none⟩), .int .i64 i] w fun x w' => x = .returned (.int .u8 (byteF b j)) ∧ w = w' := by
  subst hi
  obtain ⟨a, cp, rfl, hints⟩ := hD.ints
  obtain ⟨m0, m1, m2, m3⟩ := hD.cells
  have HI := Lib.hid hints
  clear hD hints m1 m2 m3
  by_cases hlt : j < b.length
  · obtain ⟨b', off, rfl, hbB, _, hcell⟩ := HI.out.at_ hlt
    have HX : RowKit.Hid (b.getD j 0 = byteF b j) := rfl
    rw [HX.out] at hcell
    generalize byteF b j = x at hcell ⊢
    have g1 : (j : Int) < (b.length : Int) := by omega
    go_enter Try.func45, Try.ntmps45
    go_wp2
    go_ret
    exact ⟨rfl, rfl⟩
  · have hx0 : byteF b j = 0 := by unfold byteF; simp [List.getD, List.getElem?_eq_none (Nat.le_of_not_lt hlt)]
    have g1 : (b.length : Int) ≤ (j : Int) := by omega
    rw [hx0]
    clear hx0
    go_enter Try.func45, Try.ntmps45
    go_wp2
    go_ret
    exact ⟨rfl, rfl⟩

set_option maxRecDepth 100000 in
theorem drcLies_any (base g : Nat) (v : Value) (b : List Int) (d : DecS) (all : Int) (w : World) (hD : DrcAt w base g v b d) (hG : GoodD d) (a0 : 1 ≤ all) (a1 : all ≤ 8192) :
    Calls Try.prog 73 #[.pointer (some ⟨g, 0, none⟩), .int .u32 all] w fun x w' => x = .returned (.int .u32 (decAt d all)) ∧ w = w' := by
  obtain ⟨m0, m1, m2, m3⟩ := hD.2.cells
  obtain ⟨s0, s1, c0, c1⟩ := hG
  obtain ⟨E0, E1, E2⟩ := each_bd s0 s1 a0 a1
  clear hD m0 m1
  obtain ⟨E, hE⟩ : ∃ E, d.s / all = E := ⟨_, rfl⟩
  obtain ⟨q, hq⟩ : ∃ q, d.c / E = q := ⟨_, rfl⟩
  have HA : RowKit.Hid (decAt d all = if all ≤ q then all - 1 else q) := by show _ = _; rw [← hq, ← hE]; rfl
  rw [hE] at E0 E1 E2
  have q0 : 0 ≤ q := by rw [← hq]; exact Int.ediv_nonneg c0 (by omega)
  have q1 : q ≤ d.c := by rw [← hq]; exact Int.ediv_le_self _ c0
  have e1 : d.s.tdiv all = E := by rw [Int.tdiv_eq_ediv_of_nonneg (by omega)]; exact hE
  have e2 : d.c.tdiv E = q := by rw [Int.tdiv_eq_ediv_of_nonneg (by omega)]; exact hq
  have e3 : ¬ all = 0 := by omega
  have e4 : ¬ E = 0 := by omega
  have e5 : IntKind.u32.wrap E = E := IntWalk.u32_in _ (by omega)
  have e6 : IntKind.u32.wrap q = q := IntWalk.u32_in _ (by omega)
  have e7 : IntKind.u32.wrap (all - 1) = all - 1 := IntWalk.u32_in _ (by omega)
  have hnot : bits .xor .u32 (if IntKind.u32.signed = true then -1 else IntKind.u32.max) (4294967295 - d.s) = d.s := by
    show bits .xor .u32 IntKind.u32.max (4294967295 - d.s) = d.s
    rw [u32_not07 (by omega) (by omega)]; omega
  clear hq hE
  go_enter Try.func73, Try.ntmps73
  go_wp2
  all_goals
    go_ret
    exact ⟨ret_int (by rw [HA.out]; split <;> omega), rfl⟩
end Go.Proofs.Ytdmafololcpamaa

/- What the functions of package rangedec give: a copy of bytes, a decoder of them, how many bytes were taken that aren't there. -/
namespace Go.Proofs.Ytdmafololcpamaa
open Go.RowKit
set_option linter.unusedVariables false

theorem info_u807 : (Try.prog.info? 5).map (fun i => (i.zero, i.size, i.bytes)) = some (some (.int .u8 0), 1, 1) := by kernel_rfl
/-- A copy of bytes, in memory of its own. -/
def ClonePost (b : List Int) (w : World) (x : Ending) (w' : World) : Prop :=
  ∃ v, x = .returned v ∧ w'.ownsRow w.heap.size 5 1 v b.length (b.map (Value.int .u8)) ∧ Below w.heap.size w w'
set_option maxRecDepth 100000 in
theorem clone8_any (a : Option Addr) (len cap : Nat) (b : List Int) (w : World) (h : IntsAt w w.heap.size .u8 a len b) (hn : a = none → cap = 0) (hl : len ≤ 1000000) :
    Calls Try.prog 44 #[.slice a len cap] w (ClonePost b w) := by
  have HI := Lib.hid h
  have HN := Lib.hid hn
  have hbl := Lib.hid h.1
  have hown0 := Lib.hid (World.ownsRow_lit (base := w.heap.size) (e := 5) (size := 1) w #[] 0 (Nat.le_refl _) (by decide) rfl)
  have hbel0 := Lib.hid (Below.alloc_new w (.cells #[] 5))
  cases a with
  | none =>
    obtain rfl := hn rfl
    have hb0 : b = [] := by
      have h0 := h.1
      rcases h.2 with h2 | ⟨_, _, h2, _⟩
      · subst h2; exact List.eq_nil_of_length_eq_zero h0
      · cases h2
    subst hb0
    obtain rfl : len = 0 := h.1.symm
    clear h hn
    have HO := Lib.hid (World.ownsRow_nil w w.heap.size 5 1)
    have qN : ∀ w : World, (binOp .eql 23 (.slice none 0 0) (.slice none 0 0)).run Try.prog w = .ok (.bool true) w := fun w => Lib.run_eql_slice_nil w _ _ _ _ _ _ _ Try.underlying23
    go_enter Try.func44, Try.ntmps44
    go_wp2
    go_ret
    exact ⟨_, rfl, HO.out, Below.refl _ _⟩
  | some ad =>
    clear h hn
    have qN : ∀ w : World, (binOp .eql 23 (.slice (some ad) len cap) (.slice none 0 0)).run Try.prog w = .ok (.bool false) w := fun w => Lib.run_eql_slice_nil w _ _ _ _ _ _ _ Try.underlying23
    go_enter Try.func44, Try.ntmps44
    go_wp2_with (at_builtin; go_loud (refine append_ints rfl _ _ 23 rfl w.heap.size 5 .u8 1 Try.underlying23 info_u807 _ 0 [] rfl hown0.out (some ad) len cap w.heap.size b rfl (HI.out.below hbel0.out) HN.out ?c1 ?c2 (by simp) ?_))
    case c1 => unfold maxLen; omega
    case c2 => omega
    intro v2 w2 hown hgrow _
    have hown2 : w2.ownsRow w.heap.size 5 1 v2 b.length (b.map (Value.int .u8)) := by rw [hbl.out]; simpa using hown
    have HO := Lib.hid hown2
    have HB : RowKit.Hid (Below w.heap.size w w2) := hbel0.out.grown hgrow (by simp) (own_base hown0.out)
    clear hown hown2 hgrow
    go_wp2
    go_ret
    exact ⟨_, rfl, HO.out, HB.out⟩

/-- A new decoder. -/
def DrcNewPost (b : List Int) (w : World) (x : Ending) (w' : World) : Prop :=
  ∃ g v, x = .returned (.pointer (some ⟨g, 0, none⟩)) ∧ DrcAt w' w.heap.size g v b (decNew (byteF b)) ∧ Below w.heap.size w w'
set_option maxRecDepth 100000 in
theorem drcNew_any (a : Option Addr) (len cap : Nat) (b : List Int) (w : World) (h : IntsAt w w.heap.size .u8 a len b) (hn : a = none → cap = 0) (hb : ∀ j, 0 ≤ byteF b j ∧ byteF b j ≤ 255) (hl : len ≤ 1000000) :
    Calls Try.prog 18 #[.slice a len cap] w (DrcNewPost b w) := by
  have HI := Lib.hid h
  have HN := Lib.hid hn
  have HBy := Lib.hid hb
  have hbl : b.length ≤ 1000000 := by rw [h.1]; exact hl
  clear h hn hb
  go_enter Try.func18, Try.ntmps18
  go_wp2_with (go_at_call 44; go_loud (refine (clone8_any a len cap b _ HI.out HN.out hl).mono ?_); rintro e1 w1 ⟨v, rfl, hown, hb⟩; obtain ⟨a2, cp2, rfl⟩ := own_form hown; have HO := Lib.hid hown; have HB := Lib.hid hb; clear hown hb)
  have H0 : RowKit.Hid (DrcR (w1.alloc (.cells #[.slice a2 b.length cp2, .int .i64 0, .int .u32 0, .int .u32 0] 86)) w.heap.size w1.heap.size (.slice a2 b.length cp2) b 0 0 0 ∧ Below w.heap.size w (w1.alloc (.cells #[.slice a2 b.length cp2, .int .i64 0, .int .u32 0, .int .u32 0] 86))) :=
    ⟨⟨Cel.new w1 _ _, World.ownsRow.alloc HO.out _, HB.out.size⟩, HB.out.alloc HB.out.size _⟩
  have hsz := HB.out.size
  clear HO HB
  generalize hgg : w1.heap.size = g at H0 hsz ⊢
  generalize (w1.alloc (.cells #[.slice a2 b.length cp2, .int .i64 0, .int .u32 0, .int .u32 0] 86)) = w2 at H0 ⊢
  clear hgg
  go_loopw [8] (fun i wr => ∃ q : Nat, q ≤ 4 ∧ i = .int .i64 q ∧ RowKit.Hid (DrcR wr w.heap.size g (.slice a2 b.length cp2) b 0 (valB (byteF b) q) 0 ∧ Below w.heap.size w wr ∧ valB (byteF b) q < P256 q ∧ 0 ≤ valB (byteF b) q)) (fun i _ => 4 - (intOf i).toNat)
  case atStart => exact ⟨0, by omega, rfl, H0.out.1, H0.out.2, by show (0 : Int) < 1; decide, Int.le_refl 0⟩
  case round =>
    obtain ⟨q, hq, rfl, H⟩ := hrel
    clear H0
    by_cases hlt : q < 4
    · have hv1 : valB (byteF b) q ≤ 16777215 := by
        have h1 := H.out.2.2.1
        have : q = 0 ∨ q = 1 ∨ q = 2 ∨ q = 3 := by omega
        rcases this with rfl | rfl | rfl | rfl
        · have e : P256 0 = 1 := by decide
          omega
        · have e : P256 1 = 256 := by decide
          omega
        · have e : P256 2 = 65536 := by decide
          omega
        · have e : P256 3 = 16777216 := by decide
          omega
      have hv0 := H.out.2.2.2
      have hbq := HBy.out q
      obtain ⟨y0, y1, y2, y3⟩ := H.out.1.cells
      obtain ⟨x1, x2, x3⟩ := H.out.1.fz
      clear y0 y1 y3 x1 x3
      have HV : RowKit.Hid (valB (byteF b) (q + 1) = valB (byteF b) q * 256 + byteF b q) := rfl
      have HP : RowKit.Hid (valB (byteF b) (q + 1) < P256 (q + 1)) := by
        have h1 := H.out.2.2.1
        show _ < _
        rw [HV.out, P256_succ]; omega
      have T1 := Lib.hid (H.out.1.setCode (valB (byteF b) (q + 1)))
      have K1 := Lib.hid (H.out.2.1.setCell (p := ⟨g, 2, none⟩) hsz (.int .u32 (valB (byteF b) (q + 1))))
      have HD : RowKit.Hid (∀ n, DrcR (wr.drewN n) w.heap.size g (.slice a2 b.length cp2) b 0 (valB (byteF b) q) 0) := fun n => H.out.1
      have hor := u32_or_byte hv0 hv1 hbq.1 hbq.2
      have hwx : IntKind.u32.wrap (byteF b q) = byteF b q := IntWalk.u32_in _ (by omega)
      have hwr : IntKind.u32.wrap (valB (byteF b) q * 256) = valB (byteF b) q * 256 := IntWalk.u32_in _ (by omega)
      have hq1 : (q : Int) < 4 := by omega
      rw [HV.out] at T1 K1
      go_wp2
      go_still_tail 8, (by kernel_rfl)
      repeat still_step
      still_call ((drcDigit_any w.heap.size g (.slice a2 b.length cp2) b 0 _ 0 q _ _ rfl (HD.out 1) hbl (by omega)).mono fun _ _ h => ⟨h.1, h.2.symm⟩)
      repeat still_step
      refine wpStill_nil ?_
      change wpList _ _ _ _ _ wr.drew
      go_wp2
      go_roundw
      case rel => exact ⟨q + 1, by omega, by go_num, T1.out.drewN 1, Below.drewN' K1.out 1, HP.out, by rw [HV.out]; omega⟩
      case measure => simp [intOf] <;> omega
    · obtain rfl : q = 4 := by omega
      go_wp2
      go_ret
      exact ⟨g, _, rfl, ⟨Nat.le_refl 4, H.out.1⟩, H.out.2.1⟩

end Go.Proofs.Ytdmafololcpamaa

/- What the functions of package rangedec give: a part taken. -/
namespace Go.Proofs.Ytdmafololcpamaa
open Go.RowKit
set_option linter.unusedVariables false

def DrcPost (base g : Nat) (v : Value) (b : List Int) (d : DecS) (w : World) (x : Ending) (w' : World) : Prop :=
  x = .returned (.tuple #[]) ∧ DrcAt w' base g v b d ∧ Keeps (fun j => j = g) w w'

set_option maxHeartbeats 400000 in
set_option maxRecDepth 100000 in
theorem drcTake_any (base g : Nat) (v : Value) (b : List Int) (d : DecS) (low own all : Int) (w : World) (hD : DrcAt w base g v b d) (hb : ∀ j, 0 ≤ byteF b j ∧ byteF b j ≤ 255) (hl : b.length ≤ 1000000) (hi : d.i ≤ 5000000) (hG : GoodD d) (hP : OkP low own all) (hlow : d.s / all * low ≤ d.c) :
    Calls Try.prog 74 #[.pointer (some ⟨g, 0, none⟩), .agg #[.int .u32 low, .int .u32 own, .int .u32 all]] w (DrcPost base g v b (decTake (byteF b) d low own all) w) := by
  have HBy := Lib.hid hb
  have h4 := hD.1
  have HD0 := Lib.hid hD.2
  have hgl := hD.lt.1
  have hpre := decPre_bd hG hP hlow
  obtain ⟨s0, s1, c0, c1⟩ := hG
  obtain ⟨p1, p2, p3, p4, p5⟩ := hP
  obtain ⟨E0, E1, E2⟩ := each_bd s0 s1 p1 p2
  have hput : decTake (byteF b) d low own all = scaleD (byteF b) (decPre d low own all) := rfl
  rw [hput]
  clear hput hD hb
  have HN : RowKit.Hid ((decPre d low own all).c = (if d.s / all * own ≤ d.c - d.s / all * low then d.s / all * own - 1 else d.c - d.s / all * low) ∧ (decPre d low own all).s = d.s / all * own ∧ (decPre d low own all).i = d.i) := ⟨rfl, rfl, rfl⟩
  generalize decPre d low own all = pre at HN hpre ⊢
  obtain ⟨r1, r2, r3, r4⟩ := hpre
  have a2 : 0 ≤ d.s / all * low := Int.mul_nonneg (by omega) p4
  have a3 : d.s / all * (low + own) ≤ d.s / all * all := Int.mul_le_mul_of_nonneg_left p5 (by omega)
  have a4 : d.s / all * 1 ≤ d.s / all * own := Int.mul_le_mul_of_nonneg_left p3 (by omega)
  rw [Int.mul_add] at a3
  have hq : d.s.tdiv all = d.s / all := Int.tdiv_eq_ediv_of_nonneg (by omega)
  have hall : ¬ all = 0 := by omega
  have hall2 : low ≤ 8192 ∧ own ≤ 8192 := by omega
  obtain ⟨E, hE⟩ : ∃ E, d.s / all = E := ⟨_, rfl⟩
  rw [hE] at hq a2 a3 a4 E0 E1 E2 HN hlow
  obtain ⟨A, hA⟩ : ∃ A, E * low = A := ⟨_, rfl⟩
  obtain ⟨O, hO⟩ : ∃ O, E * own = O := ⟨_, rfl⟩
  rw [hA] at a2 a3 HN hlow
  rw [hO] at a3 a4 HN
  have hnot : bits .xor .u32 (if IntKind.u32.signed = true then -1 else IntKind.u32.max) (4294967295 - d.s) = d.s := by
    show bits .xor .u32 IntKind.u32.max (4294967295 - d.s) = d.s
    rw [u32_not07 (by omega) (by omega)]; omega
  obtain ⟨S, hS⟩ : ∃ S, d.s = S := ⟨_, rfl⟩
  rw [hS] at HD0 hnot hq s0 s1 E2 hE
  clear hS
  have HC0 := Lib.hid (Cel.new w 111 #[.int .u32 low, .int .u32 own, .int .u32 all])
  have HB0 := Lib.hid (Below.alloc_new w (.cells #[.int .u32 low, .int .u32 own, .int .u32 all] 111))
  have HD1 := Lib.hid (HD0.out.below HB0.out)
  obtain ⟨w1, hw1⟩ : ∃ w1, w1 = w.alloc (.cells #[.int .u32 low, .int .u32 own, .int .u32 all] 111) := ⟨_, rfl⟩
  rw [← hw1] at HC0 HB0 HD1
  obtain ⟨m0, m1, m2, m3⟩ := HD1.out.cells
  obtain ⟨z1, z2, z3⟩ := HD1.out.fz
  have q0 := HC0.out.cell 0
  have q1 := HC0.out.cell 1
  have q2 := HC0.out.cell 2
  simp only [List.getElem?_toArray, List.getElem?_cons_zero, List.getElem?_cons_succ] at q0 q1 q2
  obtain ⟨X, hX⟩ : ∃ X, X = pre.c := ⟨_, rfl⟩
  have HP : RowKit.Hid (pre = ⟨X, O, d.i⟩) := by
    obtain ⟨c', s', i'⟩ := pre
    obtain ⟨h1, h2, h3⟩ := HN.out
    simp only at h1 h2 h3 hX
    subst h2 h3 hX
    exact rfl
  have HX : RowKit.Hid (X = if O ≤ d.c - A then O - 1 else d.c - A) := by show _ = _; rw [hX]; exact HN.out.1
  have O1 : O ≤ 4294967295 := by omega
  have e1 : IntKind.u32.wrap A = A := IntWalk.u32_in _ (by omega)
  have e2 : IntKind.u32.wrap (d.c - A) = d.c - A := IntWalk.u32_in _ (by omega)
  have e3 : IntKind.u32.wrap (O - 1) = O - 1 := IntWalk.u32_in _ (by omega)
  have e4 : IntKind.u32.wrap O = O := IntWalk.u32_in _ (by omega)
  have e5 : IntKind.u32.wrap E = E := IntWalk.u32_in _ (by omega)
  clear hX E2 a3 a4 m0 m1
  go_enter Try.func74, Try.ntmps74
  go_wp2
  rw [← hw1]
  clear hw1
  go_quiet (fail)
  go_wp2
  have hmin : (if O - 1 < d.c - A then O - 1 else d.c - A) = X := by
    have hx := HX.out
    rcases Int.lt_or_le (d.c - A) O with hlt | hle
    · rw [if_neg (by omega)] at hx ⊢; exact hx.symm
    · rw [if_pos (by omega)] at hx ⊢; exact hx.symm
  obtain ⟨wq, hwq⟩ : ∃ wq, wq = w1.drewN nq := ⟨_, rfl⟩
  have HD2 : RowKit.Hid (DrcR wq base g v b (d.i - 4) d.c (4294967295 - S)) := by rw [hwq]; exact HD1.out.drewN _
  have HC2 : RowKit.Hid (Cel wq w.heap.size 111 #[.int .u32 low, .int .u32 own, .int .u32 all]) := by rw [hwq]; exact HC0.out.drewN _
  have HB2 : RowKit.Hid (Below w.heap.size w wq) := by rw [hwq]; exact Below.drewN' HB0.out _
  rw [← hwq]
  clear hwq m2 m3 z1 z2 z3 q0 q1 q2 HC0 HB0 HD1
  obtain ⟨m0, m1, m2, m3⟩ := HD2.out.cells
  obtain ⟨z1, z2, z3⟩ := HD2.out.fz
  have q0 := HC2.out.cell 0
  simp only [List.getElem?_toArray, List.getElem?_cons_zero] at q0
  clear m0 m1 z1
  go_still_tail 15, (by kernel_rfl)
  repeat still_step
  change wpList _ _ _ _ _ wq.drew
  have H0 : RowKit.Hid (DrcR ((wq.setCell ⟨g, 2, none⟩ (.int .u32 X)).drew) base g v b (d.i - 4) X (4294967295 - S) ∧ Keeps (fun j => j = g) w ((wq.setCell ⟨g, 2, none⟩ (.int .u32 X)).drew)) :=
    ⟨(HD2.out.setCode X).drewN 1, (Keeps.setCell (F := fun j => j = g) (p := ⟨g, 2, none⟩) (Keeps.of_below HB2.out) (.inl rfl) _).drewN 1⟩
  go_wp2
  generalize (wq.setCell ⟨g, 2, none⟩ (.int .u32 X)).drew = w3 at H0 ⊢
  have r5 := HP.out
  rw [r5] at r1 r2 r3 r4
  simp only at r1 r2 r3 r4
  clear r5 m2 m3 z2 z3 q0 HC2 HD2 HB2 e1 e2 e3 e4 e5 hmin HX hall hnot hq hE hA hO HN hlow
  go_loopw [5] (fun s wr => ∃ st : DecS, s = .int .u32 st.s ∧ RowKit.Hid (DecScale b d.i pre st ∧ DrcR wr base g v b (st.i - 4) st.c (4294967295 - S) ∧ Keeps (fun j => j = g) w wr ∧ 4 ≤ st.i)) (fun s _ => (16777216 - intOf s).toNat)
  case atStart => exact ⟨⟨X, O, d.i⟩, rfl, ⟨by rw [HP.out], r1, r2, r3, r4, by simp only; omega, by simp only; omega, by simp only; omega⟩, H0.out.1, H0.out.2, h4⟩
  case round =>
    obtain ⟨st, rfl, H⟩ := hrel
    clear H0
    obtain ⟨S1, b0, b1, b2, b3, b4, b5, b6⟩ := H.out.1
    have HS1 := Lib.hid S1
    clear S1
    have i4 := H.out.2.2.2
    have HD3 := Lib.hid H.out.2.1
    have HK3 := Lib.hid H.out.2.2.1
    clear H
    obtain ⟨st_c, st_s, st_i⟩ := st
    simp only at b0 b1 b2 b3 b4 b5 b6 i4 HD3 HS1 ⊢
    by_cases hlt : st_s < 16777216
    · obtain ⟨k, rfl⟩ : ∃ k, st_i = k + 4 := ⟨st_i - 4, by omega⟩
      rw [Nat.add_sub_cancel] at HD3
      have S2 := Lib.hid (scaleD_step (byteF b) (d := ⟨st_c, st_s, k + 4⟩) (by simp only; omega) hlt)
      obtain ⟨x, hx⟩ : ∃ x, x = byteF b (k + 4) := ⟨_, rfl⟩
      have x01 : 0 ≤ x ∧ x ≤ 255 := by rw [hx]; exact HBy.out _
      have HXx := Lib.hid hx
      clear hx
      obtain ⟨x0, x1⟩ := x01
      have hor := u32_or_byte b2 (by omega) x0 x1
      have f1 : IntKind.u32.wrap (st_c * 256) = st_c * 256 := IntWalk.u32_in _ (by omega)
      have f2 : IntKind.u32.wrap x = x := IntWalk.u32_in _ (by omega)
      have f3 : IntKind.u32.wrap (st_s * 256) = st_s * 256 := IntWalk.u32_in _ (by omega)
      have f4 : IntKind.i64.wrap (4 + (k : Int)) = 4 + (k : Int) := IntWalk.i64_in _ (by omega)
      have f5 : IntKind.i64.wrap ((k : Int) + 1) = (k : Int) + 1 := IntWalk.i64_in _ (by omega)
      have T5 := Lib.hid ((HD3.out.drewN 1).setCode (st_c * 256 + x))
      have K5 := Lib.hid (Keeps.setCell (F := fun j => j = g) (p := ⟨g, 2, none⟩) (HK3.out.drewN 1) (.inl rfl) (.int .u32 (st_c * 256 + x)))
      have T6 : RowKit.Hid (DrcR ((wr.drew.setCell ⟨g, 2, none⟩ (.int .u32 (st_c * 256 + x))).setCell ⟨g, 1, none⟩ (.int .i64 ((k : Int) + 1))) base g v b (k + 1) (st_c * 256 + x) (4294967295 - S)) := T5.out.setMore (k + 1)
      have K6 : RowKit.Hid (Keeps (fun j => j = g) w ((wr.drew.setCell ⟨g, 2, none⟩ (.int .u32 (st_c * 256 + x))).setCell ⟨g, 1, none⟩ (.int .i64 ((k : Int) + 1)))) := Keeps.setCell (F := fun j => j = g) (p := ⟨g, 1, none⟩) K5.out (.inl rfl) _
      have HDr : RowKit.Hid (Calls Try.prog 45 #[.pointer (some ⟨g, 0, none⟩), .int .i64 (4 + (k : Int))] wr.drew fun e w' => e = .returned (.int .u8 x) ∧ w' = wr.drew) := by
        rw [HXx.out]
        exact (drcDigit_any base g v b _ _ _ (k + 4) (4 + (k : Int)) _ (by omega) (HD3.out.drewN 1) hl (by omega)).mono fun _ _ h => ⟨h.1, h.2.symm⟩
      obtain ⟨y0, y1, y2, y3⟩ := HD3.out.cells
      obtain ⟨v1, v2, v3⟩ := HD3.out.fz
      clear y0 y3
      go_wp2
      go_still_tail 17, (by kernel_rfl)
      repeat still_step
      still_call HDr.out
      repeat still_step
      change wpList _ _ _ _ _ wr.drew
      go_wp2
      go_roundw
      case rel => exact ⟨⟨st_c * 256 + x, st_s * 256, k + 5⟩, rfl, ⟨by rw [← HS1.out, S2.out, HXx.out], by simp only; omega, by simp only; omega, by simp only; omega, by simp only; omega, by simp only; omega, by simp only; omega, by simp only; omega⟩, T6.out, K6.out, by simp only; omega⟩
      case measure => simp [intOf] <;> omega
    · have Z : RowKit.Hid (scaleD (byteF b) pre = ⟨st_c, st_s, st_i⟩) := by
        show _ = _
        rw [← HS1.out]; exact scaleD_end _ (by simp only; omega)
      have hn2 : bits .xor .u32 (if IntKind.u32.signed = true then -1 else IntKind.u32.max) st_s = 4294967295 - st_s := u32_not07 (by omega) (by omega)
      obtain ⟨y0, y1, y2, y3⟩ := HD3.out.cells
      obtain ⟨v1, v2, v3⟩ := HD3.out.fz
      have T5 := Lib.hid (HD3.out.setLess (4294967295 - st_s))
      have K5 := Lib.hid (Keeps.setCell (F := fun j => j = g) (p := ⟨g, 3, none⟩) HK3.out (.inl rfl) (.int .u32 (4294967295 - st_s)))
      clear y0 y1
      go_wp2
      go_end0
      exact ⟨rfl, by rw [Z.out]; exact ⟨i4, T5.out⟩, K5.out⟩
end Go.Proofs.Ytdmafololcpamaa

/- Plain facts of the program's encoder of layer 6: digits ahead, one carried over, four more behind. Nothing here speaks of the program. -/
namespace Go.Proofs.Ytdmafololcpamaa
open Go
set_option linter.unusedVariables false

theorem IsDig.set_ {D : List Int} (h : IsDig D) (j : Nat) {x : Int} (x0 : 0 ≤ x) (x1 : x ≤ 255) : IsDig (D.set j x) := by
  intro i hi
  rw [List.length_set] at hi
  by_cases hj : j < D.length
  · rw [getD_set' D j i x hj]
    split
    · exact ⟨x0, x1⟩
    · exact h i hi
  · rw [List.set_eq_of_length_le (by omega)]; exact h i hi
theorem IsDig.snoc {D : List Int} (h : IsDig D) {x : Int} (x0 : 0 ≤ x) (x1 : x ≤ 255) : IsDig (D ++ [x]) := by
  intro i hi
  rw [List.length_append] at hi
  by_cases hj : i < D.length
  · have := h i hj
    simpa [List.getD, List.getElem?_append, hj] using this
  · obtain rfl : i = D.length := by simp at hi; omega
    simp [List.getD]; omega
theorem isDig_nil : IsDig [] := fun j hj => by simp at hj
/-- A digit that is full: it is a nought, and one is carried on. -/
theorem carry_full {D : List Int} {K p : Nat} {V : Int} (hd : IsDig D) (hl : D.length = K) (hp : p < K) (hx : D.getD p 0 = 255) (hv : valL D + P256 (K - (p + 1)) = V) :
    IsDig (D.set p 0) ∧ (D.set p 0).length = K ∧ valL (D.set p 0) + P256 (K - p) = V := by
  refine ⟨hd.set_ p (by omega) (by omega), by rw [List.length_set]; exact hl, ?_⟩
  rw [valL_set D (by omega), hx, hl, show K - p = (K - (p + 1)) + 1 by omega, P256_succ, show K - 1 - p = K - (p + 1) by omega]
  omega
/-- A digit that isn't: the carrying ends. -/
theorem carry_done {D : List Int} {K p : Nat} {V : Int} (hd : IsDig D) (hl : D.length = K) (hp : p < K) (hx : D.getD p 0 ≤ 254) (hv : valL D + P256 (K - (p + 1)) = V) :
    IsDig (D.set p (D.getD p 0 + 1)) ∧ (D.set p (D.getD p 0 + 1)).length = K ∧ valL (D.set p (D.getD p 0 + 1)) = V := by
  have := hd p (by omega)
  refine ⟨hd.set_ p (by omega) (by omega), by rw [List.length_set]; exact hl, ?_⟩
  rw [valL_set D (by omega), hl, show K - 1 - p = K - (p + 1) by omega, show D.getD p 0 + 1 - D.getD p 0 = 1 by omega]
  omega
/-- The last four digits. -/
def four (x : Int) : List Int := [x / 16777216 % 256, x / 65536 % 256, x / 256 % 256, x % 256]
theorem four_len (x : Int) : (four x).length = 4 := rfl
theorem four_val {D : List Int} (h : IsDig D) {x : Int} (x0 : 0 ≤ x) (x1 : x ≤ 4294967295) : IsDig (D ++ four x) ∧ valL (D ++ four x) = valL D * 4294967296 + x := by
  have e : D ++ four x = (((D ++ [x / 16777216 % 256]) ++ [x / 65536 % 256]) ++ [x / 256 % 256]) ++ [x % 256] := by simp [four]
  rw [e]
  refine ⟨(((h.snoc (by omega) (by omega)).snoc (by omega) (by omega)).snoc (by omega) (by omega)).snoc (by omega) (by omega), ?_⟩
  rw [valL_snoc, valL_snoc, valL_snoc, valL_snoc]
  omega
theorem four_dig {D : List Int} {k : Nat} {n x : Int} (h : IsDig D) (hl : D.length = k) (x0 : 0 ≤ x) (x1 : x ≤ 4294967295) (hn : n = valL D * 4294967296 + x) : D ++ four x = digL n (k + 4) := by
  obtain ⟨h1, h2⟩ := four_val h x0 x1
  have := dig_unique h1
  rw [h2, ← hn, List.length_append, four_len, hl] at this
  exact this
end Go.Proofs.Ytdmafololcpamaa
