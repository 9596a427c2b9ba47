/- Plain facts, and what functions give, for the proofs of this seat: several texts in one, each with its own first remark. -/
import Derived.BigRegion
import Derived.Test.YtmgfkdmjgjlkjaaGreatCf

namespace Go.Proofs.YtmgfkdmjgjlkjaaGreat
open Go.RowKit
set_option linter.unusedVariables false
theorem info_int06 : (Tryz.prog.info? 3).map (fun i => (i.zero, i.size, i.bytes)) = some (some (.int .i64 0), 1, 8) := by kernel_rfl
def EncMem (w : World) (base g r c : Nat) (D : List Int) (s : Int) (k : Nat) : Prop :=
  Cel w g 137 #[.slice (some ⟨r, 0, none⟩) D.length c, .int .i64 s, .int .i64 k] ∧ w.ownsRow base 3 1 (.slice (some ⟨r, 0, none⟩) D.length c) D.length (D.map (Value.int .i64)) ∧ base ≤ g
section
variable {w w' : World} {base g r c : Nat} {D : List Int} {s : Int} {k : Nat}
theorem EncMem.lt (h : EncMem w base g r c D s k) : g < w.heap.size ∧ r < w.heap.size ∧ base ≤ g ∧ base ≤ r ∧ r ≠ g :=
  ⟨h.1.lt, own_lt h.2.1 r rfl, h.2.2, own_base h.2.1 r rfl, own_ne_cel h.2.1 h.1 (by decide) r rfl⟩
theorem EncMem.cells (h : EncMem w base g r c D s k) : w.cell? ⟨g, 0, none⟩ = some (.slice (some ⟨r, 0, none⟩) D.length c) ∧ w.cell? ⟨g, 1, none⟩ = some (.int .i64 s) ∧ w.cell? ⟨g, 2, none⟩ = some (.int .i64 k) := ⟨h.1.cell 0, h.1.cell 1, h.1.cell 2⟩
theorem EncMem.fz (h : EncMem w base g r c D s k) : w.frozen? ⟨g, 0, none⟩ = false ∧ w.frozen? ⟨g, 1, none⟩ = false ∧ w.frozen? ⟨g, 2, none⟩ = false := ⟨h.1.frozen 0, h.1.frozen 1, h.1.frozen 2⟩
theorem EncMem.at_ (h : EncMem w base g r c D s k) {j : Nat} (hj : j < D.length) : w.cell? ⟨r, j, none⟩ = some (.int .i64 (D.getD j 0)) := by
  rw [h.2.1.cellAt j (by omega), List.getElem?_map, List.getElem?_eq_getElem hj]
  simp [List.getD, hj]
theorem EncMem.frozen (h : EncMem w base g r c D s k) (j : Nat) : w.frozen? ⟨r, j, none⟩ = false := h.2.1.frozenAt j
theorem EncMem.drewN (h : EncMem w base g r c D s k) (n : Nat) : EncMem (w.drewN n) base g r c D s k := h
theorem EncMem.keeps {F : Nat → Prop} (h : EncMem w base g r c D s k) (hk : Keeps F w w') (h1 : ¬ F g) (h2 : ¬ F r) : EncMem w' base g r c D s k :=
  ⟨h.1.keeps hk h1, own_keeps h.2.1 hk (by intro j hj; simp [Value.ownBlock] at hj; subst hj; exact h2), h.2.2⟩
theorem EncMem.below (h : EncMem w base g r c D s k) (hk : Below w.heap.size w w') : EncMem w' base g r c D s k := h.keeps (F := fun _ => False) (.of_below hk) (fun c => c) (fun c => c)
theorem EncMem.setD (h : EncMem w base g r c D s k) (j : Nat) (x : Int) : EncMem (w.setCell ⟨r, j, none⟩ (.int .i64 x)) base g r c (D.set j x) s k := by
  have hl := h.lt
  refine ⟨?_, ?_, h.2.2⟩
  · rw [List.length_set]; exact h.1.far (p := ⟨r, j, none⟩) (fun e => hl.2.2.2.2 e.symm) _
  · rw [List.length_set, List.map_set]; exact (h.2.1.stored j (.int .i64 x)).1
theorem EncMem.setS (h : EncMem w base g r c D s k) (x : Int) : EncMem (w.setCell ⟨g, 1, none⟩ (.int .i64 x)) base g r c D x k := by
  have hl := h.lt
  exact ⟨by simpa using h.1.set_ 1 (.int .i64 x), own_far h.2.1 (by intro j hj; simp [Value.ownBlock] at hj; subst hj; exact hl.2.2.2.2) _, h.2.2⟩
theorem EncMem.setK (h : EncMem w base g r c D s k) (x : Nat) : EncMem (w.setCell ⟨g, 2, none⟩ (.int .i64 x)) base g r c D s x := by
  have hl := h.lt
  exact ⟨by simpa using h.1.set_ 2 (.int .i64 x), own_far h.2.1 (by intro j hj; simp [Value.ownBlock] at hj; subst hj; exact hl.2.2.2.2) _, h.2.2⟩
end
def leftOf (w : World) (g : Nat) : Nat := match w.cell? ⟨g, 1, none⟩ with | some (.int _ s) => (16777216 - s).toNat | _ => 0
theorem leftOf_eq {w : World} {g : Nat} {k : IntKind} {s : Int} (h : w.cell? ⟨g, 1, none⟩ = some (.int k s)) : leftOf w g = (16777216 - s).toNat := by unfold leftOf; rw [h]
def EncPost (base g r : Nat) (f : EncS) (w : World) (x : Ending) (w' : World) : Prop :=
  x = .returned (.tuple #[]) ∧ ∃ r' c', EncMem w' base g r' c' (digL f.n (f.k + 4)) f.s f.k ∧ Keeps (fun j => j = g ∨ j = r) w w' ∧ (r' = r ∨ w.heap.size ≤ r')
set_option maxHeartbeats 4000000 in
set_option maxRecDepth 100000 in
theorem refEncPut_any (base g r c : Nat) (e : EncS) (low own all : Int) (w : World) (hE : EncMem w base g r c (digL e.n (e.k + 4)) e.s e.k) (hG : GoodE e) (hP : OkP low own all) (hk : e.k ≤ 1000000) :
    Calls Tryz.prog 71 #[.pointer (some ⟨g, 0, none⟩), .int .i64 low, .int .i64 own, .int .i64 all] w (EncPost base g r (encPut e low own all) w) := by
  obtain ⟨s0, s1, n0, n1⟩ := hG
  obtain ⟨p1, p2, p3, p4, p5⟩ := hP
  obtain ⟨E0, E1, E2⟩ := each_bd s0 s1 p1 p2
  have HP : RowKit.Hid (OkP low own all) := ⟨p1, p2, p3, p4, p5⟩
  have HG : RowKit.Hid (GoodE e) := ⟨s0, s1, n0, n1⟩
  obtain ⟨c0, c1, c2⟩ := hE.cells
  rw [digL_len] at c0
  have HE := Lib.hid hE
  have HL := Lib.hid hE.lt
  clear hE
  have HPre := Lib.hid (encPre_bd HG.out HP.out)
  have hq : e.s.tdiv all = e.s / all := Int.tdiv_eq_ediv_of_nonneg (by omega)
  have a2 : 0 ≤ e.s / all * low := Int.mul_nonneg (by omega) p4
  have a3 : e.s / all * (low + own) ≤ e.s / all * all := Int.mul_le_mul_of_nonneg_left p5 (by omega)
  have a4 : e.s / all * 1 ≤ e.s / all * own := Int.mul_le_mul_of_nonneg_left p3 (by omega)
  rw [Int.mul_add] at a3
  have hall : ¬ all = 0 := by omega
  have hput : encPut e low own all = scaleE (encPre e low own all) := rfl
  rw [hput]
  clear hput
  have HN : RowKit.Hid ((encPre e low own all).n = e.n + e.s / all * low ∧ (encPre e low own all).s = e.s / all * own ∧ (encPre e low own all).k = e.k) := ⟨rfl, rfl, rfl⟩
  generalize encPre e low own all = pre at HN HPre ⊢
  obtain ⟨E, hE⟩ : ∃ E, e.s / all = E := ⟨_, rfl⟩
  rw [hE] at hq a2 a3 a4 E0 E1 E2 HN
  obtain ⟨A, hA⟩ : ∃ A, E * low = A := ⟨_, rfl⟩
  obtain ⟨O, hO⟩ : ∃ O, E * own = O := ⟨_, rfl⟩
  rw [hA] at a2 a3 HN
  rw [hO] at a3 a4 HN
  have hDl := Lib.hid (digL_len e.n (e.k + 4))
  have hDd := Lib.hid (digL_dig e.n (e.k + 4))
  have hnl : RowKit.Hid (e.n < P256 (e.k + 4)) := by
    show _ < _
    rw [show e.k + 4 = e.k + 1 + 1 + 1 + 1 by omega, P256_succ, P256_succ, P256_succ, P256_succ]
    omega
  have hDv := Lib.hid (digL_val n0 hnl.out)
  generalize hD : digL e.n (e.k + 4) = D at HE hDl hDd hDv
  clear hD
  go_enter Tryz.func71, Tryz.ntmps71
  go_wp2
  go_loopw [9, 10] (fun a i wr => ∃ j : Nat, j ≤ 4 ∧ i = .int .i64 (3 - (j : Int)) ∧ a = .int .i64 (A / P256 j) ∧ RowKit.Hid (EncMem wr base g r c (addL D e.k A j) e.s e.k ∧ Keeps (fun j => j = g ∨ j = r) w wr)) (fun _ i _ => (intOf i + 1).toNat)
  case atStart => exact ⟨0, by omega, rfl, by rw [show P256 0 = 1 by decide, Int.ediv_one], HE.out, Keeps.refl _ _⟩
  case round =>
    obtain ⟨j, hj, rfl, rfl, H⟩ := hrel
    clear c0 c1 c2
    obtain ⟨c0, c1, c2⟩ := H.out.1.cells
    rw [addL_len, hDl.out] at c0
    by_cases hlt : j < 4
    · obtain ⟨q, hq1⟩ : ∃ q : Nat, q + j = e.k + 3 := ⟨e.k + 3 - j, by omega⟩
      have hqi : (e.k : Int) + (3 - (j : Int)) = (q : Int) := by omega
      have i1 := H.out.1.at_ (j := q) (by rw [addL_len, hDl.out]; omega)
      have f1 := H.out.1.frozen q
      have hold : (addL D e.k A j).getD q 0 = D.getD q 0 := (addL_getD A hDl.out j (by omega) q).1 (by omega)
      have hb := hDd.out q (by rw [hDl.out]; omega)
      rw [← hold] at hb
      have HS : RowKit.Hid (addL D e.k A (j + 1) = (addL D e.k A j).set q ((addL D e.k A j).getD q 0 + A / P256 j % 256)) := by
        show addL D e.k A (j + 1) = _
        conv => lhs; unfold addL
        rw [show e.k + 3 - j = q by omega]
      obtain ⟨x, hx⟩ : ∃ x, x = (addL D e.k A j).getD q 0 := ⟨_, rfl⟩
      rw [← hx] at i1 hb HS
      have p0 := P256_pos j
      have y0 : 0 ≤ A / P256 j := Int.ediv_nonneg a2 (by omega)
      have y1 : A / P256 j ≤ A := Int.ediv_le_self _ a2
      have HV : RowKit.Hid (A / P256 j / 256 = A / P256 (j + 1)) := by
        show _ = _
        rw [P256_succ, Int.ediv_ediv_of_nonneg (by omega)]
      clear hold hx
      generalize A / P256 j = y at y0 y1 HS HV ⊢
      have z0 := Int.emod_nonneg y (b := 256) (by decide)
      have z1 := Int.emod_lt_of_pos y (b := 256) (by decide)
      have HE2 : RowKit.Hid (EncMem (wr.setCell ⟨r, q, none⟩ (.int .i64 (x + y % 256))) base g r c (addL D e.k A (j + 1)) e.s e.k ∧ Keeps (fun j => j = g ∨ j = r) w (wr.setCell ⟨r, q, none⟩ (.int .i64 (x + y % 256)))) := by
        refine ⟨?_, H.out.2.setCell (p := ⟨r, q, none⟩) (.inl (.inr rfl)) _⟩
        rw [HS.out]; exact H.out.1.setD q _
      go_wp2
      have g1 : IntKind.i64.wrap ((e.k : Int) + (3 - (j : Int))) = (q : Int) := by rw [hqi]; exact IntWalk.i64_in _ (by omega)
      have g2 : (q : Int) < (e.k + 4 : Nat) := by omega
      have g3 : y.tmod 256 = y % 256 := Int.tmod_eq_emod_of_nonneg y0
      have g4 : IntKind.i64.wrap (x + y % 256) = x + y % 256 := IntWalk.i64_in _ (by omega)
      have g5 : IntKind.i64.wrap (y % 256) = y % 256 := IntWalk.i64_in _ (by omega)
      go_region
      clear g1 g2 g3 g4 g5
      go_wp2
      go_roundw
      case rel => exact ⟨j + 1, by omega, by go_num, by rw [HV.out], HE2.out.1.drewN 1, HE2.out.2.drewN 1⟩
      case measure => simp [intOf] <;> omega
    · have hj4 : j = 4 := by omega
      have HC : RowKit.Hid (Carry (addL D e.k A 4) e.k (e.k + 3) ∧ valL (addL D e.k A 4) = pre.n ∧ EncMem wr base g r c (addL D e.k A 4) e.s e.k ∧ Keeps (fun j => j = g ∨ j = r) w wr) := by
        have H' := H.out
        rw [hj4] at H'
        refine ⟨carry_start hDl.out hDd.out, ?_, H'.1, H'.2⟩
        rw [addL_val hDl.out a2 (by omega), hDv.out, HN.out.1]
      clear hj4
      have a40 : 0 ≤ A / P256 j := Int.ediv_nonneg a2 (by have := P256_pos j; omega)
      have a41 : A / P256 j ≤ A := Int.ediv_le_self _ a2
      generalize A / P256 j = A4 at a40 a41 ⊢
      go_wp2
      generalize addL D e.k A 4 = D0 at HC
      clear H c0 c1 c2
      go_loopw [11] (fun i wr => ∃ (D2 : List Int) (i2 : Nat), i = .int .i64 i2 ∧ i2 ≤ e.k + 3 ∧ RowKit.Hid (Carry D2 e.k i2 ∧ valL D2 = pre.n ∧ EncMem wr base g r c D2 e.s e.k ∧ Keeps (fun j => j = g ∨ j = r) w wr)) (fun i _ => (intOf i).toNat)
      case atStart => exact ⟨D0, e.k + 3, by go_num, by omega, HC.out⟩
      case round =>
        obtain ⟨D2, i2, rfl, hi2, H⟩ := hrel
        clear HC
        have hlen : D2.length = e.k + 4 := H.out.1.1
        obtain ⟨c0, c1, c2⟩ := H.out.2.2.1.cells
        rw [hlen] at c0
        have HLn := Lib.hid hlen
        have i1 := H.out.2.2.1.at_ (j := i2) (by omega)
        have f1 := H.out.2.2.1.frozen i2
        obtain ⟨x, hx⟩ : ∃ x, x = D2.getD i2 0 := ⟨_, rfl⟩
        have x0 : 0 ≤ x := by rw [hx]; exact H.out.1.2.2.2.2.1
        have x1 : x ≤ 511 := by rw [hx]; exact H.out.1.2.2.2.2.2.1
        rw [← hx] at i1
        have HX := Lib.hid hx
        clear hlen hx
        have hlt2 : (i2 : Int) < (e.k + 4 : Nat) := by omega
        by_cases hstop : i2 = 0 ∨ (i2 < e.k ∧ x ≤ 255)
        · have ZZ : IsDig D2 := by
            rcases hstop with hz | ⟨hk2, hx2⟩
            · refine carry_head (K := e.k) (by have := H.out.1; rw [hz] at this; exact this) ?_
              rw [H.out.2.1]
              have := HPre.out
              have e4 : P256 (e.k + 4) = P256 e.k * 256 * 256 * 256 * 256 := by rw [show e.k + 4 = e.k + 1 + 1 + 1 + 1 by omega, P256_succ, P256_succ, P256_succ, P256_succ]
              rw [e4]; omega
            · exact carry_stop H.out.1 hk2 (by rw [← HX.out]; exact hx2)
          have HV : RowKit.Hid (0 ≤ pre.n ∧ pre.n < P256 (e.k + 4)) := by
            have := valL_lt ZZ
            rw [H.out.2.1, HLn.out] at this
            exact this
          have HD2 : RowKit.Hid (D2 = digL pre.n (e.k + 4)) := by
            have := dig_unique ZZ
            rw [H.out.2.1, HLn.out] at this
            exact this
          clear ZZ
          have f0 := H.out.2.2.1.fz.2.1
          have H3 : RowKit.Hid (EncMem (wr.setCell ⟨g, 1, none⟩ (.int .i64 O)) base g r c (digL pre.n (e.k + 4)) O e.k ∧ Keeps (fun j => j = g ∨ j = r) w (wr.setCell ⟨g, 1, none⟩ (.int .i64 O))) := by
            refine ⟨?_, H.out.2.2.2.setCell (.inl (.inl rfl)) _⟩
            rw [← HD2.out]; exact H.out.2.2.1.setS O
          have st1 : RowKit.Hid (pre.k = e.k ∧ pre.s = O) := ⟨HN.out.2.2, HN.out.2.1⟩
          have O0 : 2048 ≤ O := by omega
          have O1 : O ≤ 4294967295 := by omega
          by_cases hz : i2 = 0
          · have d0 : decide ((0 : Int) < (i2 : Int)) = false := by simp; omega
            have d0' : decide (0 < i2) = false := by simp; omega
            clear hstop hz
            go_wp2
            clear H c0 c1 c2 f0 i1 f1
            generalize wr.setCell ⟨g, 1, none⟩ (.int .i64 O) = w4 at H3 ⊢
            go_loopw [124] (fun _ wr => ∃ (st : EncS) (r2 c2 : Nat), 2048 ≤ st.s ∧ st.s ≤ 4294967295 ∧ st.k ≤ e.k + 2 ∧ (e.k + 1 ≤ st.k → 524288 ≤ st.s) ∧ (e.k + 2 ≤ st.k → 16777216 ≤ st.s) ∧ RowKit.Hid (scaleE st = scaleE pre ∧ 0 ≤ st.n ∧ st.n < P256 (st.k + 4) ∧ EncMem wr base g r2 c2 (digL st.n (st.k + 4)) st.s st.k ∧ Keeps (fun j => j = g ∨ j = r) w wr ∧ (r2 = r ∨ w.heap.size ≤ r2))) (fun _ wr => leftOf wr g)
            case atStart => exact ⟨pre, r, c, by have := st1.out; omega, by have := st1.out; omega, by have := st1.out; omega, by have := st1.out; omega, by have := st1.out; omega, rfl, HV.out.1, by rw [st1.out.1]; exact HV.out.2, by rw [st1.out.1, st1.out.2]; exact H3.out.1, H3.out.2, .inl rfl⟩
            case round =>
              obtain ⟨st, r2, c2, b0, b1, b2, b3, b4, H⟩ := hrel
              clear H3
              obtain ⟨m0, m1, m2⟩ := H.out.2.2.2.1.cells
              obtain ⟨z0, z1, z2⟩ := H.out.2.2.2.1.fz
              rw [digL_len] at m0
              by_cases hlt : st.s < 16777216
              · have S1 := Lib.hid (scaleE_step (e := st) (by omega) hlt)
                have hk1 : st.k ≤ e.k + 1 := by omega
                have T1 := Lib.hid (H.out.2.2.2.1.setS (st.s * 256))
                have K1 := Lib.hid (H.out.2.2.2.2.1.setCell (p := ⟨g, 1, none⟩) (.inl (.inl rfl)) (.int .i64 (st.s * 256)))
                have T2 : RowKit.Hid (EncMem ((wr.setCell ⟨g, 1, none⟩ (.int .i64 (st.s * 256))).setCell ⟨g, 2, none⟩ (.int .i64 ((st.k : Int) + 1))) base g r2 c2 (digL st.n (st.k + 4)) (st.s * 256) (st.k + 1)) := T1.out.setK (st.k + 1)
                have K2 := Lib.hid (K1.out.setCell (p := ⟨g, 2, none⟩) (.inl (.inl rfl)) (.int .i64 ((st.k : Int) + 1)))
                have hsz := K2.out.size
                have hbw := HL.out.2.2.1
                have hgw := HL.out.1
                have hrw := HL.out.2.1
                have e5 : ((wr.setCell ⟨g, 1, none⟩ (.int .i64 (st.s * 256))).setCell ⟨g, 2, none⟩ (.int .i64 ((st.k : Int) + 1))).heap.size = wr.heap.size := by simp [World.setCell]
                have hown0 := Lib.hid (World.ownsRow.alloc T2.out.2.1 (.cells #[.int .i64 0] 3))
                have hsrc := lit_ints ((wr.setCell ⟨g, 1, none⟩ (.int .i64 (st.s * 256))).setCell ⟨g, 2, none⟩ (.int .i64 ((st.k : Int) + 1))) 3 .i64 [0] #[.int .i64 0] (0, 0) rfl (by simp)
                rw [e5] at hsrc
                have HSrc := Lib.hid hsrc
                have TA := Lib.hid (T2.out.1.alloc (.cells #[.int .i64 0] 3))
                have KA := Lib.hid (K2.out.alloc (.cells #[.int .i64 0] 3))
                rw [digL_len] at hown0
                have hh := Lib.hid (H.out.2.2.2.2.2)
                clear hsrc
                go_wp2_with (at_builtin; go_loud (refine append_ints rfl _ _ 68 rfl base 3 .i64 8 Tryz.underlying68 info_int06 _ (st.k + 4) (digL st.n (st.k + 4)) rfl hown0.out (some ⟨wr.heap.size, 0, none⟩) 1 1 _ [0] rfl HSrc.out (by simp) ?c1 ?c2 ?c3 ?_))
                case c1 => unfold maxLen; omega
                case c2 => omega
                case c3 => simp [World.setCell]; omega
                intro v2 w2 hown hgrow hat
                have hrg := T2.out.lt.2.2.2.2
                have TC2 : Cel w2 g 137 #[.slice (some ⟨r2, 0, none⟩) (digL st.n (st.k + 4)).length c2, .int .i64 (st.s * 256), .int .i64 ((st.k + 1 : Nat) : Int)] := TA.out.keep (hgrow.block g TA.out.lt (by simp [Value.ownBlock]; exact fun c => hrg c.symm))
                have hown' : w2.ownsRow base 3 1 v2 (st.k + 4 + 1) ((digL (st.n * 256) (st.k + 1 + 4)).map (Value.int .i64)) := by
                  rw [show st.k + 1 + 4 = st.k + 4 + 1 by omega, ← digL_more H.out.2.1 H.out.2.2.1]
                  simpa using hown
                obtain ⟨r3, c3, rfl, _, _⟩ := World.ownsRow.form hown' (by omega)
                have n0 := TC2.cell 0
                simp only [List.getElem?_toArray, List.getElem?_cons_zero] at n0
                have nz := TC2.frozen 0
                have HN2 : RowKit.Hid (EncMem (w2.setCell ⟨g, 0, none⟩ (.slice (some ⟨r3, 0, none⟩) (st.k + 4 + 1) c3)) base g r3 c3 (digL (st.n * 256) (st.k + 1 + 4)) (st.s * 256) (st.k + 1) ∧ Keeps (fun j => j = g ∨ j = r) w (w2.setCell ⟨g, 0, none⟩ (.slice (some ⟨r3, 0, none⟩) (st.k + 4 + 1) c3)) ∧ (r3 = r ∨ w.heap.size ≤ r3)) := by
                  refine ⟨⟨?_, ?_, hbw⟩, ?_, ?_⟩
                  · rw [digL_len, show st.k + 1 + 4 = st.k + 4 + 1 by omega]
                    simpa using TC2.set_ 0 (.slice (some ⟨r3, 0, none⟩) (st.k + 4 + 1) c3)
                  · rw [digL_len, show st.k + 1 + 4 = st.k + 4 + 1 by omega]
                    rw [show st.k + 1 + 4 = st.k + 4 + 1 by omega] at hown'
                    exact own_far hown' (fun j hj => own_ne_cel hown' TC2 (by decide) j hj) _
                  · refine (KA.out.grown (r := r2) (by simpa [Value.ownBlock] using hgrow) ?_).setCell (.inl (.inl rfl)) _
                    rcases hh.out with h | h
                    · exact .inl (.inr h)
                    · exact .inr h
                  · rcases hat with h | h
                    · have : r3 = r2 := by simpa [Value.ownBlock] using h
                      rw [this]; exact hh.out
                    · right
                      have : r3 = ((wr.setCell ⟨g, 1, none⟩ (.int .i64 (st.s * 256))).setCell ⟨g, 2, none⟩ (.int .i64 ((st.k : Int) + 1))).heap.size + 1 := by simpa [Value.ownBlock] using h
                      omega
                have hmz := HN2.out.1.cells.2.1
                have HS2 : RowKit.Hid (0 ≤ st.n * 256 ∧ st.n * 256 < P256 (st.k + 1 + 4)) := by
                  have h1 := H.out.2.1
                  have h2 := H.out.2.2.1
                  refine ⟨by omega, ?_⟩
                  rw [show st.k + 1 + 4 = st.k + 4 + 1 by omega, P256_succ]
                  omega
                have HS1 : RowKit.Hid (scaleE ⟨st.n * 256, st.s * 256, st.k + 1⟩ = scaleE pre) := S1.out.symm.trans H.out.1
                clear TC2 hown' hown hgrow hat T1 K1 T2 K2 TA KA hown0 HSrc
                go_wp2
                go_roundw
                case rel => exact ⟨⟨st.n * 256, st.s * 256, st.k + 1⟩, r3, c3, by simp only; omega, by simp only; omega, by simp only; omega, by simp only; omega, by simp only; omega, HS1.out, HS2.out.1, HS2.out.2, HN2.out.1, HN2.out.2.1, HN2.out.2.2⟩
                case measure => rw [leftOf_eq hmz, leftOf_eq m1]; omega
              · have Z : RowKit.Hid (scaleE pre = st) := by rw [← H.out.1]; exact scaleE_end (by omega)
                go_wp2
                go_end0
                exact ⟨rfl, r2, c2, by rw [Z.out]; exact H.out.2.2.2.1, H.out.2.2.2.2.1, H.out.2.2.2.2.2⟩
          · have d0 : decide ((0 : Int) < (i2 : Int)) = true := by simp; omega
            have hk2 : i2 < e.k := by omega
            have hx2 : x ≤ 255 := by omega
            have d1 : decide ((e.k : Int) ≤ (i2 : Int)) = false := by simp; omega
            have d2 : decide ((255 : Int) < x) = false := by simp; omega
            have d1' : decide (e.k ≤ i2) = false := by simp; omega
            have hi0 : 0 < i2 := by omega
            have d0' : decide (0 < i2) = true := by simp; omega
            clear hstop hz
            go_wp2
            clear H c0 c1 c2 f0 i1 f1
            generalize wr.setCell ⟨g, 1, none⟩ (.int .i64 O) = w4 at H3 ⊢
            go_loopw [124] (fun _ wr => ∃ (st : EncS) (r2 c2 : Nat), 2048 ≤ st.s ∧ st.s ≤ 4294967295 ∧ st.k ≤ e.k + 2 ∧ (e.k + 1 ≤ st.k → 524288 ≤ st.s) ∧ (e.k + 2 ≤ st.k → 16777216 ≤ st.s) ∧ RowKit.Hid (scaleE st = scaleE pre ∧ 0 ≤ st.n ∧ st.n < P256 (st.k + 4) ∧ EncMem wr base g r2 c2 (digL st.n (st.k + 4)) st.s st.k ∧ Keeps (fun j => j = g ∨ j = r) w wr ∧ (r2 = r ∨ w.heap.size ≤ r2))) (fun _ wr => leftOf wr g)
            case atStart => exact ⟨pre, r, c, by have := st1.out; omega, by have := st1.out; omega, by have := st1.out; omega, by have := st1.out; omega, by have := st1.out; omega, rfl, HV.out.1, by rw [st1.out.1]; exact HV.out.2, by rw [st1.out.1, st1.out.2]; exact H3.out.1, H3.out.2, .inl rfl⟩
            case round =>
              obtain ⟨st, r2, c2, b0, b1, b2, b3, b4, H⟩ := hrel
              clear H3
              obtain ⟨m0, m1, m2⟩ := H.out.2.2.2.1.cells
              obtain ⟨z0, z1, z2⟩ := H.out.2.2.2.1.fz
              rw [digL_len] at m0
              by_cases hlt : st.s < 16777216
              · have S1 := Lib.hid (scaleE_step (e := st) (by omega) hlt)
                have hk1 : st.k ≤ e.k + 1 := by omega
                have T1 := Lib.hid (H.out.2.2.2.1.setS (st.s * 256))
                have K1 := Lib.hid (H.out.2.2.2.2.1.setCell (p := ⟨g, 1, none⟩) (.inl (.inl rfl)) (.int .i64 (st.s * 256)))
                have T2 : RowKit.Hid (EncMem ((wr.setCell ⟨g, 1, none⟩ (.int .i64 (st.s * 256))).setCell ⟨g, 2, none⟩ (.int .i64 ((st.k : Int) + 1))) base g r2 c2 (digL st.n (st.k + 4)) (st.s * 256) (st.k + 1)) := T1.out.setK (st.k + 1)
                have K2 := Lib.hid (K1.out.setCell (p := ⟨g, 2, none⟩) (.inl (.inl rfl)) (.int .i64 ((st.k : Int) + 1)))
                have hsz := K2.out.size
                have hbw := HL.out.2.2.1
                have hgw := HL.out.1
                have hrw := HL.out.2.1
                have e5 : ((wr.setCell ⟨g, 1, none⟩ (.int .i64 (st.s * 256))).setCell ⟨g, 2, none⟩ (.int .i64 ((st.k : Int) + 1))).heap.size = wr.heap.size := by simp [World.setCell]
                have hown0 := Lib.hid (World.ownsRow.alloc T2.out.2.1 (.cells #[.int .i64 0] 3))
                have hsrc := lit_ints ((wr.setCell ⟨g, 1, none⟩ (.int .i64 (st.s * 256))).setCell ⟨g, 2, none⟩ (.int .i64 ((st.k : Int) + 1))) 3 .i64 [0] #[.int .i64 0] (0, 0) rfl (by simp)
                rw [e5] at hsrc
                have HSrc := Lib.hid hsrc
                have TA := Lib.hid (T2.out.1.alloc (.cells #[.int .i64 0] 3))
                have KA := Lib.hid (K2.out.alloc (.cells #[.int .i64 0] 3))
                rw [digL_len] at hown0
                have hh := Lib.hid (H.out.2.2.2.2.2)
                clear hsrc
                go_wp2_with (at_builtin; go_loud (refine append_ints rfl _ _ 68 rfl base 3 .i64 8 Tryz.underlying68 info_int06 _ (st.k + 4) (digL st.n (st.k + 4)) rfl hown0.out (some ⟨wr.heap.size, 0, none⟩) 1 1 _ [0] rfl HSrc.out (by simp) ?c1 ?c2 ?c3 ?_))
                case c1 => unfold maxLen; omega
                case c2 => omega
                case c3 => simp [World.setCell]; omega
                intro v2 w2 hown hgrow hat
                have hrg := T2.out.lt.2.2.2.2
                have TC2 : Cel w2 g 137 #[.slice (some ⟨r2, 0, none⟩) (digL st.n (st.k + 4)).length c2, .int .i64 (st.s * 256), .int .i64 ((st.k + 1 : Nat) : Int)] := TA.out.keep (hgrow.block g TA.out.lt (by simp [Value.ownBlock]; exact fun c => hrg c.symm))
                have hown' : w2.ownsRow base 3 1 v2 (st.k + 4 + 1) ((digL (st.n * 256) (st.k + 1 + 4)).map (Value.int .i64)) := by
                  rw [show st.k + 1 + 4 = st.k + 4 + 1 by omega, ← digL_more H.out.2.1 H.out.2.2.1]
                  simpa using hown
                obtain ⟨r3, c3, rfl, _, _⟩ := World.ownsRow.form hown' (by omega)
                have n0 := TC2.cell 0
                simp only [List.getElem?_toArray, List.getElem?_cons_zero] at n0
                have nz := TC2.frozen 0
                have HN2 : RowKit.Hid (EncMem (w2.setCell ⟨g, 0, none⟩ (.slice (some ⟨r3, 0, none⟩) (st.k + 4 + 1) c3)) base g r3 c3 (digL (st.n * 256) (st.k + 1 + 4)) (st.s * 256) (st.k + 1) ∧ Keeps (fun j => j = g ∨ j = r) w (w2.setCell ⟨g, 0, none⟩ (.slice (some ⟨r3, 0, none⟩) (st.k + 4 + 1) c3)) ∧ (r3 = r ∨ w.heap.size ≤ r3)) := by
                  refine ⟨⟨?_, ?_, hbw⟩, ?_, ?_⟩
                  · rw [digL_len, show st.k + 1 + 4 = st.k + 4 + 1 by omega]
                    simpa using TC2.set_ 0 (.slice (some ⟨r3, 0, none⟩) (st.k + 4 + 1) c3)
                  · rw [digL_len, show st.k + 1 + 4 = st.k + 4 + 1 by omega]
                    rw [show st.k + 1 + 4 = st.k + 4 + 1 by omega] at hown'
                    exact own_far hown' (fun j hj => own_ne_cel hown' TC2 (by decide) j hj) _
                  · refine (KA.out.grown (r := r2) (by simpa [Value.ownBlock] using hgrow) ?_).setCell (.inl (.inl rfl)) _
                    rcases hh.out with h | h
                    · exact .inl (.inr h)
                    · exact .inr h
                  · rcases hat with h | h
                    · have : r3 = r2 := by simpa [Value.ownBlock] using h
                      rw [this]; exact hh.out
                    · right
                      have : r3 = ((wr.setCell ⟨g, 1, none⟩ (.int .i64 (st.s * 256))).setCell ⟨g, 2, none⟩ (.int .i64 ((st.k : Int) + 1))).heap.size + 1 := by simpa [Value.ownBlock] using h
                      omega
                have hmz := HN2.out.1.cells.2.1
                have HS2 : RowKit.Hid (0 ≤ st.n * 256 ∧ st.n * 256 < P256 (st.k + 1 + 4)) := by
                  have h1 := H.out.2.1
                  have h2 := H.out.2.2.1
                  refine ⟨by omega, ?_⟩
                  rw [show st.k + 1 + 4 = st.k + 4 + 1 by omega, P256_succ]
                  omega
                have HS1 : RowKit.Hid (scaleE ⟨st.n * 256, st.s * 256, st.k + 1⟩ = scaleE pre) := S1.out.symm.trans H.out.1
                clear TC2 hown' hown hgrow hat T1 K1 T2 K2 TA KA hown0 HSrc
                go_wp2
                go_roundw
                case rel => exact ⟨⟨st.n * 256, st.s * 256, st.k + 1⟩, r3, c3, by simp only; omega, by simp only; omega, by simp only; omega, by simp only; omega, by simp only; omega, HS1.out, HS2.out.1, HS2.out.2, HN2.out.1, HN2.out.2.1, HN2.out.2.2⟩
                case measure => rw [leftOf_eq hmz, leftOf_eq m1]; omega
              · have Z : RowKit.Hid (scaleE pre = st) := by rw [← H.out.1]; exact scaleE_end (by omega)
                go_wp2
                go_end0
                exact ⟨rfl, r2, c2, by rw [Z.out]; exact H.out.2.2.2.1, H.out.2.2.2.2.1, H.out.2.2.2.2.2⟩
        · have hz : 0 < i2 := by omega
          have d0 : decide ((0 : Int) < (i2 : Int)) = true := by simp; omega
          by_cases hbig : 255 < x
          · have HC2 := Lib.hid (carry_yes H.out.1 hz (by rw [← HX.out]; exact hbig))
            have HV2 := Lib.hid (carry1_val (D := D2) hz (by rw [HLn.out]; omega))
            obtain ⟨m, hm⟩ : ∃ m, m + 1 = i2 := ⟨i2 - 1, by omega⟩
            have hm0 : (i2 : Int) - 1 = (m : Int) := by omega
            have im := H.out.2.2.1.at_ (j := m) (by rw [HLn.out]; omega)
            have fm := H.out.2.2.1.frozen m
            have ym0 : 0 ≤ D2.getD m 0 ∧ D2.getD m 0 ≤ 510 := by have := H.out.1.2.2.2.1 m (by omega); exact ⟨this.1, this.2.1⟩
            have E1 := Lib.hid (H.out.2.2.1.setD i2 (x - 256))
            have E2 : RowKit.Hid (EncMem ((wr.setCell ⟨r, i2, none⟩ (.int .i64 (x - 256))).setCell ⟨r, m, none⟩ (.int .i64 (D2.getD m 0 + 1))) base g r c (carry1 D2 i2) e.s e.k) := by
              have h1 := E1.out.setD m (D2.getD m 0 + 1)
              have h2 : carry1 D2 i2 = (D2.set i2 (x - 256)).set m (D2.getD m 0 + 1) := by
                unfold carry1
                rw [show i2 - 1 = m by omega, ← HX.out, getD_set' D2 i2 m _ (by rw [HLn.out]; omega), if_neg (by omega)]
              show EncMem _ _ _ _ _ _ _ _
              rw [h2]; exact h1
            have K2 := Lib.hid ((H.out.2.2.2.setCell (p := ⟨r, i2, none⟩) (.inl (.inr rfl)) (.int .i64 (x - 256))).setCell (p := ⟨r, m, none⟩) (.inl (.inr rfl)) (.int .i64 (D2.getD m 0 + 1)))
            have hmi : m ≠ i2 := by omega
            generalize D2.getD m 0 = y at im ym0 E2 K2
            have hbd : decide ((255 : Int) < x) = true := by simp; omega
            have g1 : IntKind.i64.wrap (x - 256) = x - 256 := IntWalk.i64_in _ (by omega)
            have g2 : IntKind.i64.wrap ((i2 : Int) - 1) = (m : Int) := by rw [hm0]; exact IntWalk.i64_in _ (by omega)
            have g3 : IntKind.i64.wrap (y + 1) = y + 1 := IntWalk.i64_in _ (by omega)
            have g4 : (m : Int) < (e.k + 4 : Nat) := by omega
            clear hm hstop
            have d0' : decide (0 < i2) = true := by simp; omega
            by_cases hK : e.k ≤ i2
            · have d1 : decide ((e.k : Int) ≤ (i2 : Int)) = true := by simp; omega
              have d1' : decide (e.k ≤ i2) = true := by simp; omega
              go_wp2
              go_region
              go_wp2
              go_region
              go_wp2
              go_roundw
              case rel => exact ⟨carry1 D2 i2, m, rfl, by omega, by have := HC2.out; rw [show i2 - 1 = m by omega] at this; exact this, by rw [HV2.out]; exact H.out.2.1, (E2.out.drewN 1).drewN 1, (K2.out.drewN 1).drewN 1⟩
              case measure => simp [intOf] <;> omega
            · have d1 : decide ((e.k : Int) ≤ (i2 : Int)) = false := by simp; omega
              have d1' : decide (e.k ≤ i2) = false := by simp; omega
              go_wp2
              go_region
              go_wp2
              go_region
              go_wp2
              go_roundw
              case rel => exact ⟨carry1 D2 i2, m, rfl, by omega, by have := HC2.out; rw [show i2 - 1 = m by omega] at this; exact this, by rw [HV2.out]; exact H.out.2.1, (E2.out.drewN 1).drewN 1, (K2.out.drewN 1).drewN 1⟩
              case measure => simp [intOf] <;> omega
          · have hK : e.k ≤ i2 := by omega
            have d1 : decide ((e.k : Int) ≤ (i2 : Int)) = true := by simp; omega
            have d1' : decide (e.k ≤ i2) = true := by simp; omega
            have HC2 := Lib.hid (carry_no H.out.1 hz (by rw [← HX.out]; omega))
            clear hstop
            go_wp2
            go_roundw
            case rel => exact ⟨D2, i2 - 1, by go_num, by omega, HC2.out, H.out.2.1, H.out.2.2.1, H.out.2.2.2⟩
            case measure => simp [intOf] <;> omega
end Go.Proofs.YtmgfkdmjgjlkjaaGreat
