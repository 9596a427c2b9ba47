/- Plain facts, and what functions give, for the proofs of this seat: several texts in one, each with its own first remark. -/
import Derived.Test.YtmgfkdmjgjlkjaaGreatAi

namespace Go.Proofs.YtmgfkdmjgjlkjaaGreat
open Go.RowKit
set_option linter.unusedVariables false
def byteF (b : List Int) (j : Nat) : Int := b.getD j 0
def DecMem (w : World) (base g : Nat) (v : Value) (b : List Int) (d : DecS) : Prop :=
  Cel w g 146 #[v, .int .i64 d.i, .int .i64 d.c, .int .i64 d.s] ∧ w.ownsRow base 5 1 v b.length (b.map (Value.int .u8)) ∧ base ≤ g
section
variable {w w' : World} {base g : Nat} {v : Value} {b : List Int} {d : DecS}
theorem DecMem.ne (h : DecMem w base g v b d) : ∀ k, v.ownBlock = some k → k ≠ g := fun k hk => own_ne_cel h.2.1 h.1 (by decide) k hk
theorem DecMem.cells (h : DecMem w base g v b d) : w.cell? ⟨g, 0, none⟩ = some v ∧ w.cell? ⟨g, 1, none⟩ = some (.int .i64 d.i) ∧ w.cell? ⟨g, 2, none⟩ = some (.int .i64 d.c) ∧ w.cell? ⟨g, 3, none⟩ = some (.int .i64 d.s) := ⟨h.1.cell 0, h.1.cell 1, h.1.cell 2, h.1.cell 3⟩
theorem DecMem.fz (h : DecMem w base g v b d) : w.frozen? ⟨g, 1, none⟩ = false ∧ w.frozen? ⟨g, 2, none⟩ = false ∧ w.frozen? ⟨g, 3, none⟩ = false := ⟨h.1.frozen 1, h.1.frozen 2, h.1.frozen 3⟩
theorem DecMem.drewN (h : DecMem w base g v b d) (n : Nat) : DecMem (w.drewN n) base g v b d := h
theorem DecMem.keeps {F : Nat → Prop} (h : DecMem w base g v b d) (hk : Keeps F w w') (h1 : ¬ F g) (h2 : ∀ k, v.ownBlock = some k → ¬ F k) : DecMem w' base g v b d := ⟨h.1.keeps hk h1, own_keeps h.2.1 hk h2, h.2.2⟩
theorem DecMem.below (h : DecMem w base g v b d) (hk : Below w.heap.size w w') : DecMem w' base g v b d := h.keeps (F := fun _ => False) (.of_below hk) (fun c => c) (fun _ _ c => c)
theorem DecMem.setI (h : DecMem w base g v b d) (x : Nat) : DecMem (w.setCell ⟨g, 1, none⟩ (.int .i64 x)) base g v b ⟨d.c, d.s, x⟩ :=
  ⟨by simpa using h.1.set_ 1 (.int .i64 x), own_far h.2.1 h.ne _, h.2.2⟩
theorem DecMem.setC (h : DecMem w base g v b d) (x : Int) : DecMem (w.setCell ⟨g, 2, none⟩ (.int .i64 x)) base g v b ⟨x, d.s, d.i⟩ :=
  ⟨by simpa using h.1.set_ 2 (.int .i64 x), own_far h.2.1 h.ne _, h.2.2⟩
theorem DecMem.setS (h : DecMem w base g v b d) (x : Int) : DecMem (w.setCell ⟨g, 3, none⟩ (.int .i64 x)) base g v b ⟨d.c, x, d.i⟩ :=
  ⟨by simpa using h.1.set_ 3 (.int .i64 x), own_far h.2.1 h.ne _, h.2.2⟩
theorem DecMem.ints (h : DecMem w base g v b d) : ∃ a c, v = .slice a b.length c ∧ IntsAt w w.heap.size .u8 a b.length b := own_ints h.2.1
end
def DecPost (base g : Nat) (v : Value) (b : List Int) (d : DecS) (w : World) (x : Ending) (w' : World) : Prop :=
  x = .returned (.tuple #[]) ∧ DecMem w' base g v b d ∧ Keeps (fun j => j = g) w w'
set_option maxRecDepth 100000 in
theorem refDecNext_any (base g : Nat) (v : Value) (b : List Int) (d : DecS) (w : World) (hD : DecMem w base g v b d) (hb : ∀ j, 0 ≤ byteF b j ∧ byteF b j ≤ 255) (hl : b.length ≤ 1000000) (c0 : 0 ≤ d.c) (c1 : d.c ≤ 4294967295) (hi : d.i ≤ 10000000) :
    Calls Tryz.prog 78 #[.pointer (some ⟨g, 0, none⟩)] w (DecPost base g v b ⟨d.c * 256 + byteF b d.i, d.s, d.i + 1⟩ w) := by
  obtain ⟨a, cp, rfl, hints⟩ := hD.ints
  obtain ⟨m0, m1, m2, m3⟩ := hD.cells
  obtain ⟨z1, z2, z3⟩ := hD.fz
  have HD := Lib.hid hD
  have HI := Lib.hid hints
  have HB := Lib.hid hb
  clear hD hints hb
  obtain ⟨x, hx⟩ : ∃ x, x = byteF b d.i := ⟨_, rfl⟩
  have x0 : 0 ≤ x ∧ x ≤ 255 := by rw [hx]; exact HB.out d.i
  have T1 := Lib.hid (HD.out.setC (d.c * 256))
  have T2 : RowKit.Hid (DecMem ((w.setCell ⟨g, 2, none⟩ (.int .i64 (d.c * 256))).setCell ⟨g, 1, none⟩ (.int .i64 ((d.i : Int) + 1))) base g (.slice a b.length cp) b ⟨d.c * 256, d.s, d.i + 1⟩) := T1.out.setI (d.i + 1)
  have K1 := Lib.hid ((Keeps.refl (fun j => j = g) w).setCell (p := ⟨g, 2, none⟩) (.inl rfl) (.int .i64 (d.c * 256)))
  have K2 := Lib.hid (K1.out.setCell (p := ⟨g, 1, none⟩) (.inl rfl) (.int .i64 ((d.i : Int) + 1)))
  have T3 := Lib.hid (T1.out.setC (d.c * 256 + x))
  have T4 : RowKit.Hid (DecMem (((w.setCell ⟨g, 2, none⟩ (.int .i64 (d.c * 256))).setCell ⟨g, 2, none⟩ (.int .i64 (d.c * 256 + x))).setCell ⟨g, 1, none⟩ (.int .i64 ((d.i : Int) + 1))) base g (.slice a b.length cp) b ⟨d.c * 256 + x, d.s, d.i + 1⟩) := T3.out.setI (d.i + 1)
  have K4 := Lib.hid ((K1.out.setCell (p := ⟨g, 2, none⟩) (.inl rfl) (.int .i64 (d.c * 256 + x))).setCell (p := ⟨g, 1, none⟩) (.inl rfl) (.int .i64 ((d.i : Int) + 1)))
  by_cases hlt : d.i < b.length
  · obtain ⟨b', off, rfl, hbB, _, hcell⟩ := HI.out.at_ hlt
    have hne : b' ≠ g := HD.out.ne b' (by simp [Value.ownBlock])
    have hxx : b.getD d.i 0 = x := hx.symm
    rw [hxx] at hcell
    have HX := Lib.hid hx
    clear hx hxx
    have g1 : (d.i : Int) < (b.length : Int) := by omega
    go_enter Tryz.func78, Tryz.ntmps78
    go_wp2
    go_quiet (fail)
    go_wp2
    have e1 : IntKind.i64.wrap x = x := IntWalk.i64_in _ (by omega)
    have e2 : wrap64 x = x := IntWalk.wrap64_in _ (by omega)
    have e3 : IntKind.i64.wrap (d.c * 256 + x) = d.c * 256 + x := IntWalk.i64_in _ (by omega)
    go_region
    clear e1 e2 e3
    go_wp2
    go_end0
    refine ⟨rfl, ?_, K4.out.drewN _⟩
    rw [← HX.out]; exact T4.out.drewN _
  · have hx0 : byteF b d.i = 0 := by unfold byteF; simp [List.getD, List.getElem?_eq_none (Nat.le_of_not_lt hlt)]
    have g1 : (b.length : Int) ≤ (d.i : Int) := by omega
    have HX := Lib.hid hx0
    clear hx0 hx
    go_enter Tryz.func78, Tryz.ntmps78
    go_wp2
    go_quiet (fail)
    go_wp2
    go_end0
    refine ⟨rfl, ?_, K2.out.drewN _⟩
    rw [HX.out, Int.add_zero]; exact T2.out.drewN _
set_option maxRecDepth 100000 in
theorem refDecAt_any (base g : Nat) (v : Value) (b : List Int) (d : DecS) (all : Int) (w : World) (hD : DecMem w base g v b d) (hG : GoodD d) (a0 : 1 ≤ all) (a1 : all ≤ 8192) :
    Calls Tryz.prog 111 #[.pointer (some ⟨g, 0, none⟩), .int .i64 all] w fun x w' => x = .returned (.int .i64 (decAt d all)) ∧ ∃ n, w' = w.drewN n := by
  obtain ⟨m0, m1, m2, m3⟩ := hD.cells
  obtain ⟨s0, s1, c0, c1⟩ := hG
  obtain ⟨E0, E1, E2⟩ := each_bd s0 s1 a0 a1
  clear hD m0 m1
  obtain ⟨q, hq⟩ : ∃ q, q = d.c / (d.s / all) := ⟨_, rfl⟩
  have HA : RowKit.Hid (decAt d all = if all ≤ q then all - 1 else q) := by show _ = _; rw [hq]; rfl
  have q0 : 0 ≤ q := by rw [hq]; exact Int.ediv_nonneg c0 (by omega)
  have q1 : q ≤ d.c := by rw [hq]; exact Int.ediv_le_self _ c0
  have e1 : d.s.tdiv all = d.s / all := Int.tdiv_eq_ediv_of_nonneg (by omega)
  have e2 : d.c.tdiv (d.s / all) = q := by rw [Int.tdiv_eq_ediv_of_nonneg (by omega)]; exact hq.symm
  have e3 : ¬ all = 0 := by omega
  have e4 : ¬ d.s / all = 0 := by omega
  have e5 : IntKind.i64.wrap (d.s / all) = d.s / all := IntWalk.i64_in _ (by omega)
  have e6 : IntKind.i64.wrap q = q := IntWalk.i64_in _ (by omega)
  clear hq
  go_enter Tryz.func111, Tryz.ntmps111
  go_wp2
  go_quiet (fail)
  clear e1 e2 e5 e6
  go_wp2
  · have ht : all ≤ q := by assumption
    go_ret
    exact ⟨ret_int (by rw [HA.out, if_pos ht]), _, rfl⟩
  · have ht : q < all := by assumption
    go_ret
    exact ⟨ret_int (by rw [HA.out, if_neg (by omega)]), _, rfl⟩
def leftD (w : World) (g : Nat) : Nat := match w.cell? ⟨g, 3, none⟩ with | some (.int _ s) => (16777216 - s).toNat | _ => 0
theorem leftD_eq {w : World} {g : Nat} {k : IntKind} {s : Int} (h : w.cell? ⟨g, 3, none⟩ = some (.int k s)) : leftD w g = (16777216 - s).toNat := by unfold leftD; rw [h]
def DecScale (b : List Int) (i0 : Nat) (pre st : DecS) : Prop :=
  scaleD (byteF b) st = scaleD (byteF b) pre ∧ 2048 ≤ st.s ∧ st.s ≤ 4294967295 ∧ 0 ≤ st.c ∧ st.c < st.s ∧ st.i ≤ i0 + 2 ∧ (i0 + 1 ≤ st.i → 524288 ≤ st.s) ∧ (i0 + 2 ≤ st.i → 16777216 ≤ st.s)
set_option maxHeartbeats 1000000 in
set_option maxRecDepth 100000 in
theorem refDecTake_any (base g : Nat) (v : Value) (b : List Int) (d : DecS) (low own all : Int) (w : World) (hD : DecMem w base g v b d) (hb : ∀ j, 0 ≤ byteF b j ∧ byteF b j ≤ 255) (hl : b.length ≤ 1000000) (hi : d.i ≤ 5000000) (hG : GoodD d) (hP : OkP low own all) (hlow : d.s / all * low ≤ d.c) :
    Calls Tryz.prog 112 #[.pointer (some ⟨g, 0, none⟩), .int .i64 low, .int .i64 own, .int .i64 all] w (DecPost base g v b (decTake (byteF b) d low own all) w) := by
  obtain ⟨m0, m1, m2, m3⟩ := hD.cells
  obtain ⟨z1, z2, z3⟩ := hD.fz
  have HD := Lib.hid hD
  have HB := Lib.hid hb
  have hpre := decPre_bd hG hP hlow
  obtain ⟨s0, s1, c0, c1⟩ := hG
  obtain ⟨p1, p2, p3, p4, p5⟩ := hP
  obtain ⟨E0, E1, E2⟩ := each_bd s0 s1 p1 p2
  have hput : decTake (byteF b) d low own all = scaleD (byteF b) (decPre d low own all) := rfl
  rw [hput]
  clear hput hD hb m0
  have HN : RowKit.Hid ((decPre d low own all).c = (if d.s / all * own ≤ d.c - d.s / all * low then d.s / all * own - 1 else d.c - d.s / all * low) ∧ (decPre d low own all).s = d.s / all * own ∧ (decPre d low own all).i = d.i) := ⟨rfl, rfl, rfl⟩
  generalize decPre d low own all = pre at HN hpre ⊢
  obtain ⟨r1, r2, r3, r4⟩ := hpre
  have a2 : 0 ≤ d.s / all * low := Int.mul_nonneg (by omega) p4
  have a3 : d.s / all * (low + own) ≤ d.s / all * all := Int.mul_le_mul_of_nonneg_left p5 (by omega)
  have a4 : d.s / all * 1 ≤ d.s / all * own := Int.mul_le_mul_of_nonneg_left p3 (by omega)
  rw [Int.mul_add] at a3
  have hq : d.s.tdiv all = d.s / all := Int.tdiv_eq_ediv_of_nonneg (by omega)
  have hall : ¬ all = 0 := by omega
  obtain ⟨E, hE⟩ : ∃ E, d.s / all = E := ⟨_, rfl⟩
  rw [hE] at hq a2 a3 a4 E0 E1 E2 HN hlow
  obtain ⟨A, hA⟩ : ∃ A, E * low = A := ⟨_, rfl⟩
  obtain ⟨O, hO⟩ : ∃ O, E * own = O := ⟨_, rfl⟩
  rw [hA] at a2 a3 HN hlow
  rw [hO] at a3 a4 HN
  have T2 : RowKit.Hid (DecMem ((w.setCell ⟨g, 2, none⟩ (.int .i64 (d.c - A))).setCell ⟨g, 3, none⟩ (.int .i64 O)) base g v b ⟨d.c - A, O, d.i⟩) := (HD.out.setC (d.c - A)).setS O
  have K2 := Lib.hid (((Keeps.refl (fun j => j = g) w).setCell (p := ⟨g, 2, none⟩) (.inl rfl) (.int .i64 (d.c - A))).setCell (p := ⟨g, 3, none⟩) (.inl rfl) (.int .i64 O))
  have T3 : RowKit.Hid (DecMem (((w.setCell ⟨g, 2, none⟩ (.int .i64 (d.c - A))).setCell ⟨g, 3, none⟩ (.int .i64 O)).setCell ⟨g, 2, none⟩ (.int .i64 (O - 1))) base g v b ⟨O - 1, O, d.i⟩) := T2.out.setC (O - 1)
  have K3 := Lib.hid (K2.out.setCell (p := ⟨g, 2, none⟩) (.inl rfl) (.int .i64 (O - 1)))
  have H0 : RowKit.Hid (∀ w', DecMem w' base g v b pre → Keeps (fun j => j = g) w w' → ∃ st, DecScale b d.i pre st ∧ DecMem w' base g v b st ∧ Keeps (fun j => j = g) w w') := by
    intro w' h1 h2
    have := HN.out.2.2
    exact ⟨pre, ⟨rfl, r1, r2, r3, r4, by omega, by omega, by omega⟩, h1, h2⟩
  go_enter Tryz.func112, Tryz.ntmps112
  go_wp2
  by_cases hbig : O ≤ d.c - A
  · have hdd : decide (O ≤ d.c - A) = true := by simpa using hbig
    go_quiet (fail)
    have HP1 : RowKit.Hid (pre = ⟨O - 1, O, d.i⟩) := by
      obtain ⟨c', s', i'⟩ := pre
      obtain ⟨h1, h2, h3⟩ := HN.out
      rw [if_pos hbig] at h1
      simp only at h1 h2 h3
      subst h1 h2 h3
      exact rfl
    go_wp2
    go_loopw [49] (fun _ wr => ∃ st : DecS, RowKit.Hid (DecScale b d.i pre st ∧ DecMem wr base g v b st ∧ Keeps (fun j => j = g) w wr)) (fun _ wr => leftD wr g)
    case atStart => exact H0.out _ (by rw [HP1.out]; exact T3.out.drewN _) (K3.out.drewN _)
    case round =>
      obtain ⟨st, H⟩ := hrel
      obtain ⟨S1, b0, b1, b2, b3, b4, b5, b6⟩ := H.out.1
      have HS1 := Lib.hid S1
      clear S1
      obtain ⟨y0, y1, y2, y3⟩ := H.out.2.1.cells
      obtain ⟨x1, x2, x3⟩ := H.out.2.1.fz
      clear y0
      by_cases hlt : st.s < 16777216
      · have T5 := Lib.hid (H.out.2.1.setS (st.s * 256))
        have K5 := Lib.hid (H.out.2.2.setCell (p := ⟨g, 3, none⟩) (.inl rfl) (.int .i64 (st.s * 256)))
        have S2 := Lib.hid (scaleD_step (byteF b) (d := st) (by omega) hlt)
        have hbb := HB.out st.i
        go_wp2_with (go_at_call 78; go_loud (refine (refDecNext_any base g v b ⟨st.c, st.s * 256, st.i⟩ _ T5.out HB.out hl (by simp only; omega) (by simp only; omega) (by simp only; omega)).mono ?_); rintro e5 w5 ⟨rfl, hm, hk⟩; have T6 := Lib.hid hm; have K6 := Lib.hid (K5.out.trans hk); clear hm hk)
        go_roundw
        case rel => exact ⟨_, ⟨by rw [← HS1.out, S2.out], by simp only; omega, by simp only; omega, by simp only; omega, by simp only; omega, by simp only; omega, by simp only; omega, by simp only; omega⟩, T6.out, K6.out⟩
        case measure => rw [leftD_eq T6.out.cells.2.2.2, leftD_eq y3]; simp only; omega
      · have Z : RowKit.Hid (scaleD (byteF b) pre = st) := by rw [← HS1.out]; exact scaleD_end _ (by omega)
        go_wp2
        go_end0
        exact ⟨rfl, by rw [Z.out]; exact H.out.2.1, H.out.2.2⟩
  · have hdd : decide (O ≤ d.c - A) = false := by simpa using hbig
    go_quiet (fail)
    have HP1 : RowKit.Hid (pre = ⟨d.c - A, O, d.i⟩) := by
      obtain ⟨c', s', i'⟩ := pre
      obtain ⟨h1, h2, h3⟩ := HN.out
      rw [if_neg hbig] at h1
      simp only at h1 h2 h3
      subst h1 h2 h3
      exact rfl
    go_wp2
    go_loopw [49] (fun _ wr => ∃ st : DecS, RowKit.Hid (DecScale b d.i pre st ∧ DecMem wr base g v b st ∧ Keeps (fun j => j = g) w wr)) (fun _ wr => leftD wr g)
    case atStart => exact H0.out _ (by rw [HP1.out]; exact T2.out.drewN _) (K2.out.drewN _)
    case round =>
      obtain ⟨st, H⟩ := hrel
      obtain ⟨S1, b0, b1, b2, b3, b4, b5, b6⟩ := H.out.1
      have HS1 := Lib.hid S1
      clear S1
      obtain ⟨y0, y1, y2, y3⟩ := H.out.2.1.cells
      obtain ⟨x1, x2, x3⟩ := H.out.2.1.fz
      clear y0
      by_cases hlt : st.s < 16777216
      · have T5 := Lib.hid (H.out.2.1.setS (st.s * 256))
        have K5 := Lib.hid (H.out.2.2.setCell (p := ⟨g, 3, none⟩) (.inl rfl) (.int .i64 (st.s * 256)))
        have S2 := Lib.hid (scaleD_step (byteF b) (d := st) (by omega) hlt)
        have hbb := HB.out st.i
        go_wp2_with (go_at_call 78; go_loud (refine (refDecNext_any base g v b ⟨st.c, st.s * 256, st.i⟩ _ T5.out HB.out hl (by simp only; omega) (by simp only; omega) (by simp only; omega)).mono ?_); rintro e5 w5 ⟨rfl, hm, hk⟩; have T6 := Lib.hid hm; have K6 := Lib.hid (K5.out.trans hk); clear hm hk)
        go_roundw
        case rel => exact ⟨_, ⟨by rw [← HS1.out, S2.out], by simp only; omega, by simp only; omega, by simp only; omega, by simp only; omega, by simp only; omega, by simp only; omega, by simp only; omega⟩, T6.out, K6.out⟩
        case measure => rw [leftD_eq T6.out.cells.2.2.2, leftD_eq y3]; simp only; omega
      · have Z : RowKit.Hid (scaleD (byteF b) pre = st) := by rw [← HS1.out]; exact scaleD_end _ (by omega)
        go_wp2
        go_end0
        exact ⟨rfl, by rw [Z.out]; exact H.out.2.1, H.out.2.2⟩
end Go.Proofs.YtmgfkdmjgjlkjaaGreat

namespace Go.Proofs.YtmgfkdmjgjlkjaaGreat
open Go.RowKit
set_option linter.unusedVariables false
theorem P2_add (a b : Nat) : P2 (a + b) = P2 a * P2 b := by unfold P2; rw [Int.pow_add]
def decWhich (d : DecS) (l : List Int) : Nat := findP l (decAt d l.sum)
def decSym (b : List Int) (d : DecS) (l : List Int) : DecS := decTake (byteF b) d (sumN l (decWhich d l)) (l.getD (decWhich d l) 0) l.sum
theorem decWhich_is {d : DecS} {l : List Int} (hG : GoodD d) (hL : GoodL l) : decWhich d l < l.length ∧ d.s / l.sum * sumN l (decWhich d l) ≤ d.c ∧ 1 ≤ l.sum ∧ l.sum ≤ 8192 := by
  have h1 : 1 ≤ l.sum := by
    have a := hL.sum_le (n := 1) hL.1
    have b := sumN_rise (l := l) (fun j hj => by have := hL.2.2.1 j hj; omega) (m := 1) (n := l.length) hL.1 (Nat.le_refl _)
    have c : sumN l 1 = sumN l 0 + l.getD 0 0 := sumN_succ l 0 (by have := hL.1; omega)
    have d := hL.2.2.1 0 (by have := hL.1; omega)
    rw [sumN_all] at b
    rw [sumN_zero] at c
    omega
  have h2 := hL.2.2.2
  obtain ⟨a, b, c⟩ := decAt_bd hG h1 h2
  obtain ⟨e, f, g⟩ := findP_is (l := l) a (by rw [sumN_all]; exact b)
  obtain ⟨e0, _, _⟩ := each_bd hG.1 hG.2.1 h1 h2
  refine ⟨e, ?_, h1, h2⟩
  exact Int.le_trans (Int.mul_le_mul_of_nonneg_left f (by omega)) c
def DecSymPost (base b2 g : Nat) (v : Value) (b : List Int) (mg mr : Nat) (s : Nat) (d : DecS) (l : List Int) (fx : Bool) (w : World) (x : Ending) (w' : World) : Prop :=
  x = .returned (.int .i64 s) ∧ DecMem w' base g v b d ∧ RefMod w' b2 mg mr l fx ∧ Keeps (fun j => j = g ∨ j = mr) w w'
set_option maxHeartbeats 1000000 in
set_option maxRecDepth 100000 in
theorem refDecSymbol_any (base b2 g : Nat) (v : Value) (b : List Int) (d : DecS) (mg mr : Nat) (l : List Int) (w : World) (hD : DecMem w base g v b d) (hb : ∀ j, 0 ≤ byteF b j ∧ byteF b j ≤ 255) (hbl : b.length ≤ 1000000) (hi : d.i ≤ 5000000) (hR : RefMod w b2 mg mr l false) (hG : GoodD d) (hL : GoodL l) (d1 : mg ≠ g) (d3 : mr ≠ g) (d2 : ∀ k, v.ownBlock = some k → k ≠ mg ∧ k ≠ mr) :
    Calls Tryz.prog 113 #[.pointer (some ⟨g, 0, none⟩), .pointer (some ⟨mg, 0, none⟩)] w (DecSymPost base b2 g v b mg mr (decWhich d l) (decSym b d l) (learnP l (decWhich d l)) false w) := by
  obtain ⟨cm, h1, h2, h3⟩ := hR
  have HR := Lib.hid (show RefMod w b2 mg mr l false from ⟨cm, h1, h2, h3⟩)
  have HD := Lib.hid hD
  have HG := Lib.hid hG
  have HL := Lib.hid hL
  have HBy := Lib.hid hb
  have H2 := Lib.hid d2
  have hl0 := hL.1
  have hl := hL.2.1
  have c0 := h1.cell 0
  simp only [List.getElem?_toArray, List.getElem?_cons_zero] at c0
  obtain ⟨w1, w2, w3, w4⟩ := decWhich_is hG hL
  have HWl := Lib.hid w2
  have HW : RowKit.Hid (findP l (decAt d l.sum) = decWhich d l) := rfl
  have hbd : ∀ j, j < l.length → 0 ≤ l.getD j 0 ∧ l.getD j 0 ≤ 4294967295 := fun j hj => by have := HL.out.own hj; omega
  have HB := Lib.hid hbd
  have HOk := Lib.hid (okP_sym hL w1)
  have HT := Lib.hid (sumN_all l)
  have hcell := HR.out.at_ w1
  have HS : RowKit.Hid (decSym b d l = decTake (byteF b) d (sumN l (decWhich d l)) (l.getD (decWhich d l) 0) l.sum) := rfl
  rw [HS.out]
  clear h1 h2 h3 hD hG hL hb hbd d2 w2 HS
  generalize l.getD (decWhich d l) 0 = X2 at hcell HOk ⊢
  generalize hs : decWhich d l = s at w1 HWl HW HOk hcell ⊢
  clear hs
  have hsl : (s : Int) < (l.length : Int) := by omega
  go_enter Tryz.func113, Tryz.ntmps113
  go_wp2_with (first | (go_at_call 109; go_loud (refine (refSum_at b2 mg mr l false l.length _ _ (by omega) HR.out (by omega) hl HB.out).mono ?_); rintro e5 w5 ⟨rfl, rfl⟩; rw [HT.out]) | (go_at_call 111; go_loud (refine (refDecAt_any base g v b d _ _ HD.out HG.out w3 w4).mono ?_); rintro e5 w5 ⟨rfl, n5, rfl⟩) | (go_at_call 145; go_loud (refine (refFind_any b2 mg mr l false _ _ (HR.out.drewN _) hl0 hl HB.out).mono ?_); rintro e6 w6 ⟨rfl, rfl⟩; rw [HW.out]))
  have hcell2 : (w.drewN n5).cell? ⟨mr, s, none⟩ = some (.int .i64 X2) := hcell
  have c02 : (w.drewN n5).cell? ⟨mg, 0, none⟩ = some (.slice (some ⟨mr, 0, none⟩) l.length cm) := c0
  have HDq := Lib.hid (HD.out.drewN n5)
  have HRq := Lib.hid (HR.out.drewN n5)
  have HKq := Lib.hid ((Keeps.refl (fun j => j = g ∨ j = mr) w).drewN n5)
  clear c0 hcell
  generalize w.drewN n5 = wq at hcell2 c02 HDq HRq HKq ⊢
  go_still_tail 12, (by kernel_rfl)
  still_call ((refSum_at b2 mg mr l false s _ _ (by omega) (HRq.out.drewN 1) (by omega) hl HB.out).mono fun _ _ h => ⟨h.1, h.2.symm⟩)
  repeat still_step
  refine wpStill_nil ?_
  change wpList _ _ _ _ _ wq.drew
  clear c02 hcell2
  have HDd : RowKit.Hid (DecMem wq.drew base g v b d) := HDq.out.drewN 1
  have HRd : RowKit.Hid (RefMod wq.drew b2 mg mr l false) := HRq.out.drewN 1
  generalize hX1 : sumN l s = X1 at HWl HOk ⊢
  have HX1 := Lib.hid hX1
  clear hX1
  go_wp2_with (first | (go_at_call 112; go_loud (refine (refDecTake_any base g v b d _ _ _ _ HDd.out HBy.out hbl hi HG.out HOk.out HWl.out).mono ?_); rintro e5 w5 ⟨rfl, hm, hk⟩; have HM5 := Lib.hid hm; have HK5 := Lib.hid hk; have HR5 := Lib.hid (HRd.out.keeps hk d1 d3); clear hm hk) | (go_at_call 110; go_loud (refine (refLearn_any b2 mg mr l s _ HR5.out HL.out w1).mono ?_); rintro e6 w6 ⟨rfl, hm, hk6⟩; have HM6 := Lib.hid hm; have HK6 := Lib.hid hk6; clear hm hk6))
  go_ret
  rw [HX1.out]
  refine ⟨rfl, HM5.out.keeps HK6.out (by omega) (fun k hk => (H2.out k hk).2), HM6.out, ((HKq.out.drewN 1).trans (HK5.out.mono fun k h => by omega)).trans (HK6.out.mono fun k h => by omega)⟩
def decBits (b : List Int) (d : DecS) (n : Int) (wide : Nat) : Int × DecS :=
  if wide = 0 then (n, d) else if wide ≤ 12 then (n * P2 wide + decAt d (P2 wide), decTake (byteF b) d (decAt d (P2 wide)) 1 (P2 wide)) else
    let f := decTake (byteF b) d (decAt d 4096) 1 4096
    let m := n * 4096 + decAt d 4096
    if wide ≤ 24 then (m * P2 (wide - 12) + decAt f (P2 (wide - 12)), decTake (byteF b) f (decAt f (P2 (wide - 12))) 1 (P2 (wide - 12))) else (m, f)
theorem decBits_zero (b : List Int) (d : DecS) (n : Int) : decBits b d n 0 = (n, d) := rfl
theorem decBits_low (b : List Int) (d : DecS) (n : Int) {wide : Nat} (h0 : 0 < wide) (h1 : wide ≤ 12) : decBits b d n wide = (n * P2 wide + decAt d (P2 wide), decTake (byteF b) d (decAt d (P2 wide)) 1 (P2 wide)) := by
  unfold decBits; rw [if_neg (by omega), if_pos h1]
theorem decBits_high (b : List Int) (d : DecS) (n : Int) {wide : Nat} (h0 : 12 < wide) (h1 : wide ≤ 24) : decBits b d n wide = decBits b (decTake (byteF b) d (decAt d 4096) 1 4096) (n * 4096 + decAt d 4096) (wide - 12) := by
  rw [decBits_low _ _ _ (show 0 < wide - 12 by omega) (by omega)]
  unfold decBits; rw [if_neg (by omega), if_neg (by omega), if_pos h1]
def DecBitsPost (base g : Nat) (v : Value) (b : List Int) (n : Int) (d : DecS) (w : World) (x : Ending) (w' : World) : Prop :=
  x = .returned (.int .i64 n) ∧ DecMem w' base g v b d ∧ Keeps (fun j => j = g) w w'
theorem decTake_i (b : Nat → Int) (d : DecS) (low own all : Int) : (decTake b d low own all).i ≤ d.i + 2 := by
  unfold decTake scaleD
  have h : (decPre d low own all).i = d.i := rfl
  split
  · omega
  · split <;> simp only <;> omega
set_option maxHeartbeats 1000000 in
set_option maxRecDepth 100000 in
theorem refDecBits_any (base g : Nat) (v : Value) (b : List Int) (d : DecS) (wide : Nat) (w : World) (hD : DecMem w base g v b d) (hb : ∀ j, 0 ≤ byteF b j ∧ byteF b j ≤ 255) (hbl : b.length ≤ 1000000) (hi : d.i ≤ 4000000) (hG : GoodD d) (hw : wide ≤ 24) :
    Calls Tryz.prog 79 #[.pointer (some ⟨g, 0, none⟩), .int .i64 wide] w (DecBitsPost base g v b (decBits b d 0 wide).1 (decBits b d 0 wide).2 w) := by
  have HBy := Lib.hid hb
  obtain ⟨R, hR⟩ : ∃ R, R = decBits b d 0 wide := ⟨_, rfl⟩
  rw [← hR]
  have H0 : RowKit.Hid (decBits b d 0 wide = R ∧ GoodD d ∧ DecMem w base g v b d ∧ Keeps (fun j => j = g) w w ∧ (0 : Int) < P2 (wide - wide)) := ⟨hR.symm, hG, hD, Keeps.refl _ _, by rw [Nat.sub_self]; decide⟩
  clear hD hG hb hR
  go_enter Tryz.func79, Tryz.ntmps79
  go_wp2
  go_loopw [1, 5, 6, 7] (fun q n _ _ wr => ∃ (k : Nat) (f : DecS) (m : Int), k ≤ wide ∧ q = .int .i64 k ∧ n = .int .i64 m ∧ 0 ≤ m ∧ f.i ≤ d.i + 3 * (wide - k) ∧ RowKit.Hid (decBits b f m k = R ∧ GoodD f ∧ DecMem wr base g v b f ∧ Keeps (fun j => j = g) w wr ∧ m < P2 (wide - k))) (fun q _ _ _ _ => (intOf q).toNat)
  case atStart => exact ⟨wide, d, 0, by omega, rfl, rfl, by omega, by omega, H0.out⟩
  case round =>
    obtain ⟨k, f, m, hk, rfl, rfl, hm0, hfi, H⟩ := hrel
    clear H0
    obtain ⟨u1, u2, u3, u4, u5⟩ := H.out
    have hm1 : m ≤ 16777215 := by
      have := P2_mono (a := wide - k) (b := 24) (by omega)
      rw [show P2 24 = 16777216 by decide] at this
      omega
    have HM := Lib.hid u3
    have HGf := Lib.hid u2
    clear u1 u2 u3 u4 u5
    by_cases hlt : 0 < k
    · by_cases hq12 : 12 < k
      · obtain ⟨a0, a1, a2⟩ := decAt_bd HGf.out (show (1 : Int) ≤ 4096 by decide) (by decide)
        have HOk : RowKit.Hid (OkP (decAt f 4096) 1 4096) := ⟨by decide, by decide, by decide, a0, by omega⟩
        have HLow := Lib.hid a2
        have HE : RowKit.Hid (decBits b f m k = decBits b (decTake (byteF b) f (decAt f 4096) 1 4096) (m * 4096 + decAt f 4096) (k - 12)) := decBits_high b f m hq12 (by omega)
        have h12 : P2 12 = 4096 := by decide
        clear a2
        go_wp2_with (first | (go_at_call 72; go_loud (refine (refPower_at 12 _ _ (by omega) (by omega)).mono ?_); rintro e5 w5 ⟨rfl, rfl⟩; rw [h12]) | (go_at_call 111; go_loud (refine (refDecAt_any base g v b f _ _ HM.out HGf.out (by omega) (by omega)).mono ?_); rintro e5 w5 ⟨rfl, n5, rfl⟩) | (go_at_call 112; go_loud (refine (refDecTake_any base g v b f (decAt f 4096) 1 4096 _ (HM.out.drewN _) HBy.out hbl (by omega) HGf.out HOk.out HLow.out).mono ?_); rintro e6 w6 ⟨rfl, hm6, hk6⟩; have HM6 := Lib.hid hm6; have HK6 := Lib.hid hk6; clear hm6 hk6))
        go_roundw
        case rel =>
          have h2 := decTake_i (byteF b) f (decAt f 4096) 1 4096
          refine ⟨(k - 12), _, _, by omega, by go_num, rfl, by omega, by omega, ?_, (decTake_good HBy.out HGf.out HOk.out HLow.out).1, HM6.out, (H.out.2.2.2.1.drewN _).trans HK6.out, ?_⟩
          · exact HE.out.symm.trans H.out.1
          · have h5 := H.out.2.2.2.2
            rw [show wide - (k - 12) = (wide - k) + 12 by omega, P2_add, h12]; omega
        case measure => simp [intOf] <;> omega
      · have pk := P2_pos k
        have qk := P2_mono (a := k) (b := 12) (by omega)
        rw [show P2 12 = 4096 by decide] at qk
        obtain ⟨a0, a1, a2⟩ := decAt_bd HGf.out (show 1 ≤ P2 k by omega) (show P2 k ≤ 8192 by omega)
        have HOk : RowKit.Hid (OkP (decAt f (P2 k)) 1 (P2 k)) := ⟨by omega, by omega, by decide, a0, by omega⟩
        have HLow := Lib.hid a2
        have HE : RowKit.Hid (decBits b f m k = (m * P2 k + decAt f (P2 k), decTake (byteF b) f (decAt f (P2 k)) 1 (P2 k))) := decBits_low b f m hlt (by omega)
        have v0 : 0 ≤ m * P2 k := Int.mul_nonneg hm0 (by omega)
        have v1 : m * P2 k ≤ m * 4096 := Int.mul_le_mul_of_nonneg_left qk hm0
        clear a2
        go_wp2_with (first | (go_at_call 72; go_loud (refine (refPower_at k _ _ (by omega) (by omega)).mono ?_); rintro e5 w5 ⟨rfl, rfl⟩) | (go_at_call 111; go_loud (refine (refDecAt_any base g v b f _ _ HM.out HGf.out (by omega) (by omega)).mono ?_); rintro e5 w5 ⟨rfl, n5, rfl⟩) | (go_at_call 112; go_loud (refine (refDecTake_any base g v b f (decAt f (P2 k)) 1 (P2 k) _ (HM.out.drewN _) HBy.out hbl (by omega) HGf.out HOk.out HLow.out).mono ?_); rintro e6 w6 ⟨rfl, hm6, hk6⟩; have HM6 := Lib.hid hm6; have HK6 := Lib.hid hk6; clear hm6 hk6))
        go_roundw
        case rel =>
          have h2 := decTake_i (byteF b) f (decAt f (P2 k)) 1 (P2 k)
          refine ⟨0, _, _, by omega, by go_num, rfl, by omega, by omega, ?_, (decTake_good HBy.out HGf.out HOk.out HLow.out).1, HM6.out, (H.out.2.2.2.1.drewN _).trans HK6.out, ?_⟩
          · exact HE.out.symm.trans H.out.1
          · have h5 := H.out.2.2.2.2
            rw [show wide - 0 = (wide - k) + k by omega, P2_add]; have := Int.mul_le_mul_of_nonneg_right (show m + 1 ≤ P2 (wide - k) by omega) (show 0 ≤ P2 k by omega); rw [Int.add_mul, Int.one_mul] at this; omega
        case measure => simp [intOf] <;> omega
    · obtain rfl : k = 0 := by omega
      go_wp2
      go_ret
      obtain ⟨u1, u2, u3, u4, u5⟩ := H.out
      rw [decBits_zero] at u1
      subst u1
      exact ⟨rfl, u3, u4⟩
end Go.Proofs.YtmgfkdmjgjlkjaaGreat

namespace Go.Proofs.YtmgfkdmjgjlkjaaGreat
open Go
set_option linter.unusedVariables false
theorem sym_back {b : List Int} {e f : EncS} {d : DecS} {l : List Int} {s : Nat} (hs : Sync (byteF b) e d) (hg : GoodE e) (hl : GoodL l) (hsl : s < l.length) (hi : Inside (encSym e l s) f) (hf : 1 ≤ f.s) (hd : DigOf (byteF b) f) :
    decWhich d l = s ∧ Sync (byteF b) (encSym e l s) (decSym b d l) := by
  obtain ⟨a1, a2, a3⟩ := comes_back hs hg (okP_sym hl hsl) hi hf hd
  have hw : decWhich d l = s := by
    unfold decWhich
    refine findP_eq hl.2.2.1 hsl a1 ?_
    rw [sumN_succ l s hsl]; exact a2
  refine ⟨hw, ?_⟩
  unfold decSym
  rw [hw]; exact a3
theorem bits_back {b : List Int} {e f : EncS} {d : DecS} {n : Int} {wide : Nat} (hs : Sync (byteF b) e d) (hg : GoodE e) (hw : wide ≤ 24) (n0 : 0 ≤ n) (n1 : n < P2 wide) (hi : Inside (encBits e n wide) f) (hf : 1 ≤ f.s) (hd : DigOf (byteF b) f) :
    (decBits b d 0 wide).1 = n ∧ Sync (byteF b) (encBits e n wide) (decBits b d 0 wide).2 := by
  by_cases h0 : wide = 0
  · subst h0
    rw [decBits_zero, encBits_zero]
    have : P2 0 = 1 := rfl
    exact ⟨by omega, hs⟩
  · by_cases h1 : wide ≤ 12
    · rw [encBits_low e n (by omega) h1] at hi ⊢
      rw [decBits_low b d 0 (by omega) h1]
      obtain ⟨a1, a2, a3⟩ := comes_back hs hg (okP_bit h1 (bit_part n).1 (bit_part n).2) hi hf hd
      have e1 : n % P2 wide = n := Int.emod_eq_of_lt n0 n1
      have ha : decAt d (P2 wide) = n % P2 wide := by omega
      simp only
      rw [ha]
      exact ⟨by rw [e1]; omega, a3⟩
    · rw [encBits_high e n (by omega) hw] at hi ⊢
      rw [decBits_high b d 0 (by omega) hw]
      have hg1 := encPut_good hg (okP_12 (n / P2 (wide - 12)))
      have hi1 : Inside (encPut e (n / P2 (wide - 12) % 4096) 1 4096) f := (encBits_inside hg1 (by omega)).trans hi
      obtain ⟨a1, a2, a3⟩ := comes_back hs hg (okP_12 (n / P2 (wide - 12))) hi1 hf hd
      have ha : decAt d 4096 = n / P2 (wide - 12) % 4096 := by omega
      rw [ha]
      rw [encBits_low _ n (show 0 < wide - 12 by omega) (by omega)] at hi ⊢
      rw [decBits_low b _ _ (show 0 < wide - 12 by omega) (by omega)]
      obtain ⟨c1, c2, c3⟩ := comes_back a3 hg1 (okP_bit (by omega) (bit_part n).1 (bit_part n).2) hi hf hd
      have hb : decAt (decTake (byteF b) d (n / P2 (wide - 12) % 4096) 1 4096) (P2 (wide - 12)) = n % P2 (wide - 12) := by omega
      simp only
      rw [hb]
      refine ⟨?_, c3⟩
      have p := P2_pos (wide - 12)
      have hP : P2 wide = P2 (wide - 12) * 4096 := by
        have := P2_add (wide - 12) 12
        rw [show wide - 12 + 12 = wide by omega, show P2 12 = 4096 by decide] at this
        exact this
      have q0 : 0 ≤ n / P2 (wide - 12) := Int.ediv_nonneg n0 (by omega)
      have q1 : n / P2 (wide - 12) < 4096 := by rw [Int.ediv_lt_iff_lt_mul (by omega), Int.mul_comm, ← hP]; exact n1
      rw [Int.emod_eq_of_lt q0 q1, Int.zero_mul, Int.zero_add]
      exact Int.ediv_mul_add_emod n _
theorem digOf_bytes {f : EncS} {b : List Int} (hg : GoodE f) (hb : ∀ j, j < f.k + 4 → byteF b j = digB f.n (f.k + 4) j) : DigOf (byteF b) f := by
  have hl : f.n < P256 (f.k + 4) := by
    rw [show f.k + 4 = f.k + 1 + 1 + 1 + 1 by omega, P256_succ, P256_succ, P256_succ, P256_succ]
    have := hg.1
    have := hg.2.2.2
    omega
  exact valB_dig hg.2.2.1 hl hb
end Go.Proofs.YtmgfkdmjgjlkjaaGreat

namespace Go.Proofs.YtmgfkdmjgjlkjaaGreat
open Go.RowKit
set_option linter.unusedVariables false
theorem refEncNew_any (w : World) :
    Calls Tryz.prog 35 #[] w fun x w' => x = .returned (.pointer (some ⟨w.heap.size + 1, 0, none⟩)) ∧ EncMem w' w.heap.size (w.heap.size + 1) w.heap.size 4 (digL 0 4) 4294967295 0 ∧ Below w.heap.size w w' := by
  have HB := Lib.hid ((Below.alloc_new w (.cells #[.int .i64 0, .int .i64 0, .int .i64 0, .int .i64 0] 3)).alloc (by simp) (.cells #[.slice (some ⟨w.heap.size, 0, none⟩) 4 4, .int .i64 4294967295, .int .i64 0] 137))
  have HO := Lib.hid (World.ownsRow.alloc (World.ownsRow_lit (base := w.heap.size) (e := 3) (size := 1) w #[.int .i64 0, .int .i64 0, .int .i64 0, .int .i64 0] 4 (Nat.le_refl _) (by decide) rfl) (.cells #[.slice (some ⟨w.heap.size, 0, none⟩) 4 4, .int .i64 4294967295, .int .i64 0] 137))
  have hc := Cel.new (w.alloc (.cells #[.int .i64 0, .int .i64 0, .int .i64 0, .int .i64 0] 3)) 137 #[.slice (some ⟨w.heap.size, 0, none⟩) 4 4, .int .i64 4294967295, .int .i64 0]
  have e1 : (w.alloc (.cells #[.int .i64 0, .int .i64 0, .int .i64 0, .int .i64 0] 3)).heap.size = w.heap.size + 1 := by simp
  rw [e1] at hc
  have HC := Lib.hid hc
  clear hc e1
  go_enter Tryz.func35, Tryz.ntmps35
  go_wp2
  go_ret
  exact ⟨rfl, ⟨HC.out, HO.out, Nat.le_succ _⟩, HB.out⟩
def lastK (D : List Int) : Nat → Int
  | 0 => -1
  | k + 1 => if D.getD k 0 = 0 then lastK D k else k
theorem lastK_bd (D : List Int) (k : Nat) : -1 ≤ lastK D k ∧ lastK D k < k := by
  induction k with
  | zero => exact ⟨Int.le_refl _, by show (-1 : Int) < 0; decide⟩
  | succ k ih => unfold lastK; split <;> omega
theorem lastK_over {D : List Int} : ∀ k j : Nat, lastK D k < j → j < k → D.getD j 0 = 0 := by
  intro k
  induction k with
  | zero => intro j _ h; omega
  | succ k ih =>
    intro j h1 h2
    unfold lastK at h1
    by_cases e : D.getD k 0 = 0
    · rw [if_pos e] at h1
      by_cases ej : j = k
      · subst ej; exact e
      · exact ih j h1 (by omega)
    · rw [if_neg e] at h1; omega
def bytesL (D : List Int) : List Int := D.take (lastK D D.length + 1).toNat
theorem bytesL_len (D : List Int) : (bytesL D).length = (lastK D D.length + 1).toNat := by
  have := lastK_bd D D.length
  unfold bytesL; simp; omega
theorem info_u806 : (Tryz.prog.info? 5).map (fun i => (i.zero, i.size, i.bytes)) = some (some (.int .u8 0), 1, 1) := by kernel_rfl
end Go.Proofs.YtmgfkdmjgjlkjaaGreat
