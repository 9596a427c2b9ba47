/- Plain facts, and what functions give, for the proofs of this seat: several texts in one, each with its own first remark. -/
import Derived.Test.YtgnmnmjicjcffaaRows
import Derived.Test.YtgnmnmjicjcffaaGa
import Derived.IntWalk
import Derived.Deep.QuietTactic
import Derived.BigQuiet
import Derived.BigRegion
import Derived.StillTailTactics
import Derived.Lib.SliceRun
import Derived.Laws.ResultCell
import Derived.Laws.CopyOwn
import Derived.Deep.WholeRow
import Derived.Deep.AppendLies

/- What the document's decoder of layer 7 gives: a byte more, in which part it lies, a part taken. -/
namespace Go.Proofs.Ytgnmnmjicjcffaa
open Go.RowKit
set_option linter.unusedVariables false

/-- The bytes, and noughts behind. -/
def byteF (b : List Int) (j : Nat) : Int := b.getD j 0
/-- Block g is the document's decoder of the bytes b. -/
def DecMem (w : World) (base g : Nat) (v : Value) (b : List Int) (d : DecS) : Prop :=
  Cel w g 75 #[v, .int .i64 d.i, .int .i64 d.c, .int .i64 d.s] ∧ w.ownsRow base 5 1 v b.length (b.map (Value.int .u8)) ∧ base ≤ g
section
variable {w w' : World} {base g : Nat} {v : Value} {b : List Int} {d : DecS}
theorem DecMem.ne (h : DecMem w base g v b d) : ∀ k, v.ownBlock = some k → k ≠ g := fun k hk => own_ne_cel h.2.1 h.1 (by decide) k hk
theorem DecMem.cells (h : DecMem w base g v b d) : w.cell? ⟨g, 0, none⟩ = some v ∧ w.cell? ⟨g, 1, none⟩ = some (.int .i64 d.i) ∧ w.cell? ⟨g, 2, none⟩ = some (.int .i64 d.c) ∧ w.cell? ⟨g, 3, none⟩ = some (.int .i64 d.s) := ⟨h.1.cell 0, h.1.cell 1, h.1.cell 2, h.1.cell 3⟩
theorem DecMem.fz (h : DecMem w base g v b d) : w.frozen? ⟨g, 1, none⟩ = false ∧ w.frozen? ⟨g, 2, none⟩ = false ∧ w.frozen? ⟨g, 3, none⟩ = false := ⟨h.1.frozen 1, h.1.frozen 2, h.1.frozen 3⟩
theorem DecMem.drewN (h : DecMem w base g v b d) (n : Nat) : DecMem (w.drewN n) base g v b d := h
theorem DecMem.keeps {F : Nat → Prop} (h : DecMem w base g v b d) (hk : Keeps F w w') (h1 : ¬ F g) (h2 : ∀ k, v.ownBlock = some k → ¬ F k) : DecMem w' base g v b d := ⟨h.1.keeps hk h1, own_keeps h.2.1 hk h2, h.2.2⟩
theorem DecMem.below (h : DecMem w base g v b d) (hk : Below w.heap.size w w') : DecMem w' base g v b d := h.keeps (F := fun _ => False) (.of_below hk) (fun c => c) (fun _ _ c => c)
theorem DecMem.setI (h : DecMem w base g v b d) (x : Nat) : DecMem (w.setCell ⟨g, 1, none⟩ (.int .i64 x)) base g v b ⟨d.c, d.s, x⟩ :=
  ⟨by simpa using h.1.set_ 1 (.int .i64 x), own_far h.2.1 h.ne _, h.2.2⟩
theorem DecMem.setC (h : DecMem w base g v b d) (x : Int) : DecMem (w.setCell ⟨g, 2, none⟩ (.int .i64 x)) base g v b ⟨x, d.s, d.i⟩ :=
  ⟨by simpa using h.1.set_ 2 (.int .i64 x), own_far h.2.1 h.ne _, h.2.2⟩
theorem DecMem.setS (h : DecMem w base g v b d) (x : Int) : DecMem (w.setCell ⟨g, 3, none⟩ (.int .i64 x)) base g v b ⟨d.c, x, d.i⟩ :=
  ⟨by simpa using h.1.set_ 3 (.int .i64 x), own_far h.2.1 h.ne _, h.2.2⟩
theorem DecMem.ints (h : DecMem w base g v b d) : ∃ a c, v = .slice a b.length c ∧ IntsAt w w.heap.size .u8 a b.length b := own_ints h.2.1
end
def DecPost (base g : Nat) (v : Value) (b : List Int) (d : DecS) (w : World) (x : Ending) (w' : World) : Prop :=
  x = .returned (.tuple #[]) ∧ DecMem w' base g v b d ∧ Keeps (fun j => j = g) w w'

set_option maxRecDepth 100000 in
theorem refDecNext_any (base g : Nat) (v : Value) (b : List Int) (d : DecS) (w : World) (hD : DecMem w base g v b d) (hb : ∀ j, 0 ≤ byteF b j ∧ byteF b j ≤ 255) (hl : b.length ≤ 1000000) (c0 : 0 ≤ d.c) (c1 : d.c ≤ 4294967295) (hi : d.i ≤ 10000000) :
    Calls Try.prog 40 #[.pointer (some ⟨g, 0, none⟩)] w (DecPost base g v b ⟨d.c * 256 + byteF b d.i, d.s, d.i + 1⟩ w) := by
  obtain ⟨a, cp, rfl, hints⟩ := hD.ints
  obtain ⟨m0, m1, m2, m3⟩ := hD.cells
  obtain ⟨z1, z2, z3⟩ := hD.fz
  have HD := Lib.hid hD
  have HI := Lib.hid hints
  have HB := Lib.hid hb
  clear hD hints hb
  obtain ⟨x, hx⟩ : ∃ x, x = byteF b d.i := ⟨_, rfl⟩
  have x0 : 0 ≤ x ∧ x ≤ 255 := by rw [hx]; exact HB.out d.i
  have T1 := Lib.hid (HD.out.setC (d.c * 256))
  have T2 : RowKit.Hid (DecMem ((w.setCell ⟨g, 2, none⟩ (.int .i64 (d.c * 256))).setCell ⟨g, 1, none⟩ (.int .i64 ((d.i : Int) + 1))) base g (.slice a b.length cp) b ⟨d.c * 256, d.s, d.i + 1⟩) := T1.out.setI (d.i + 1)
  have K1 := Lib.hid ((Keeps.refl (fun j => j = g) w).setCell (p := ⟨g, 2, none⟩) (.inl rfl) (.int .i64 (d.c * 256)))
  have K2 := Lib.hid (K1.out.setCell (p := ⟨g, 1, none⟩) (.inl rfl) (.int .i64 ((d.i : Int) + 1)))
  have T3 := Lib.hid (T1.out.setC (d.c * 256 + x))
  have T4 : RowKit.Hid (DecMem (((w.setCell ⟨g, 2, none⟩ (.int .i64 (d.c * 256))).setCell ⟨g, 2, none⟩ (.int .i64 (d.c * 256 + x))).setCell ⟨g, 1, none⟩ (.int .i64 ((d.i : Int) + 1))) base g (.slice a b.length cp) b ⟨d.c * 256 + x, d.s, d.i + 1⟩) := T3.out.setI (d.i + 1)
  have K4 := Lib.hid ((K1.out.setCell (p := ⟨g, 2, none⟩) (.inl rfl) (.int .i64 (d.c * 256 + x))).setCell (p := ⟨g, 1, none⟩) (.inl rfl) (.int .i64 ((d.i : Int) + 1)))
  by_cases hlt : d.i < b.length
  · obtain ⟨b', off, rfl, hbB, _, hcell⟩ := HI.out.at_ hlt
    have hne : b' ≠ g := HD.out.ne b' (by simp [Value.ownBlock])
    have hxx : b.getD d.i 0 = x := hx.symm
    rw [hxx] at hcell
    have HX := Lib.hid hx
    clear hx hxx
    have g1 : (d.i : Int) < (b.length : Int) := by omega
    go_enter Try.func40, Try.ntmps40
    go_wp2
    go_quiet (fail)
    go_wp2
    have e1 : IntKind.i64.wrap x = x := IntWalk.i64_in _ (by omega)
    have e2 : wrap64 x = x := IntWalk.wrap64_in _ (by omega)
    have e3 : IntKind.i64.wrap (d.c * 256 + x) = d.c * 256 + x := IntWalk.i64_in _ (by omega)
    go_region
    clear e1 e2 e3
    go_wp2
    go_end0
    refine ⟨rfl, ?_, K4.out.drewN _⟩
    rw [← HX.out]; exact T4.out.drewN _
  · have hx0 : byteF b d.i = 0 := by unfold byteF; simp [List.getD, List.getElem?_eq_none (Nat.le_of_not_lt hlt)]
    have g1 : (b.length : Int) ≤ (d.i : Int) := by omega
    have HX := Lib.hid hx0
    clear hx0 hx
    go_enter Try.func40, Try.ntmps40
    go_wp2
    go_quiet (fail)
    go_wp2
    go_end0
    refine ⟨rfl, ?_, K2.out.drewN _⟩
    rw [HX.out, Int.add_zero]; exact T2.out.drewN _

set_option maxRecDepth 100000 in
theorem refDecAt_any (base g : Nat) (v : Value) (b : List Int) (d : DecS) (all : Int) (w : World) (hD : DecMem w base g v b d) (hG : GoodD d) (a0 : 1 ≤ all) (a1 : all ≤ 8192) :
    Calls Try.prog 53 #[.pointer (some ⟨g, 0, none⟩), .int .i64 all] w fun x w' => x = .returned (.int .i64 (decAt d all)) ∧ ∃ n, w' = w.drewN n := by
  obtain ⟨m0, m1, m2, m3⟩ := hD.cells
  obtain ⟨s0, s1, c0, c1⟩ := hG
  obtain ⟨E0, E1, E2⟩ := each_bd s0 s1 a0 a1
  clear hD m0 m1
  obtain ⟨q, hq⟩ : ∃ q, q = d.c / (d.s / all) := ⟨_, rfl⟩
  have HA : RowKit.Hid (decAt d all = if all ≤ q then all - 1 else q) := by show _ = _; rw [hq]; rfl
  have q0 : 0 ≤ q := by rw [hq]; exact Int.ediv_nonneg c0 (by omega)
  have q1 : q ≤ d.c := by rw [hq]; exact Int.ediv_le_self _ c0
  have e1 : d.s.tdiv all = d.s / all := Int.tdiv_eq_ediv_of_nonneg (by omega)
  have e2 : d.c.tdiv (d.s / all) = q := by rw [Int.tdiv_eq_ediv_of_nonneg (by omega)]; exact hq.symm
  have e3 : ¬ all = 0 := by omega
  have e4 : ¬ d.s / all = 0 := by omega
  have e5 : IntKind.i64.wrap (d.s / all) = d.s / all := IntWalk.i64_in _ (by omega)
  have e6 : IntKind.i64.wrap q = q := IntWalk.i64_in _ (by omega)
  clear hq
  go_enter Try.func53, Try.ntmps53
  go_wp2
  go_quiet (fail)
  clear e1 e2 e5 e6
  go_wp2
  · have ht : all ≤ q := by assumption
    go_ret
    exact ⟨ret_int (by rw [HA.out, if_pos ht]), _, rfl⟩
  · have ht : q < all := by assumption
    go_ret
    exact ⟨ret_int (by rw [HA.out, if_neg (by omega)]), _, rfl⟩

/-- How far the size is from where the scaling ends. -/
def leftD (w : World) (g : Nat) : Nat := match w.cell? ⟨g, 3, none⟩ with | some (.int _ s) => (16777216 - s).toNat | _ => 0
theorem leftD_eq {w : World} {g : Nat} {k : IntKind} {s : Int} (h : w.cell? ⟨g, 3, none⟩ = some (.int k s)) : leftD w g = (16777216 - s).toNat := by unfold leftD; rw [h]
/-- On the way of the scaling. -/
def DecScale (b : List Int) (i0 : Nat) (pre st : DecS) : Prop :=
  scaleD (byteF b) st = scaleD (byteF b) pre ∧ 2048 ≤ st.s ∧ st.s ≤ 4294967295 ∧ 0 ≤ st.c ∧ st.c < st.s ∧ st.i ≤ i0 + 2 ∧ (i0 + 1 ≤ st.i → 524288 ≤ st.s) ∧ (i0 + 2 ≤ st.i → 16777216 ≤ st.s)

set_option maxHeartbeats 1000000 in
set_option maxRecDepth 100000 in
theorem refDecTake_any (base g : Nat) (v : Value) (b : List Int) (d : DecS) (low own all : Int) (w : World) (hD : DecMem w base g v b d) (hb : ∀ j, 0 ≤ byteF b j ∧ byteF b j ≤ 255) (hl : b.length ≤ 1000000) (hi : d.i ≤ 5000000) (hG : GoodD d) (hP : OkP low own all) (hlow : d.s / all * low ≤ d.c) :
    Calls Try.prog 54 #[.pointer (some ⟨g, 0, none⟩), .int .i64 low, .int .i64 own, .int .i64 all] w (DecPost base g v b (decTake (byteF b) d low own all) w) := by
  obtain ⟨m0, m1, m2, m3⟩ := hD.cells
  obtain ⟨z1, z2, z3⟩ := hD.fz
  have HD := Lib.hid hD
  have HB := Lib.hid hb
  have hpre := decPre_bd hG hP hlow
  obtain ⟨s0, s1, c0, c1⟩ := hG
  obtain ⟨p1, p2, p3, p4, p5⟩ := hP
  obtain ⟨E0, E1, E2⟩ := each_bd s0 s1 p1 p2
  have hput : decTake (byteF b) d low own all = scaleD (byteF b) (decPre d low own all) := rfl
  rw [hput]
  clear hput hD hb m0
  have HN : RowKit.Hid ((decPre d low own all).c = (if d.s / all * own ≤ d.c - d.s / all * low then d.s / all * own - 1 else d.c - d.s / all * low) ∧ (decPre d low own all).s = d.s / all * own ∧ (decPre d low own all).i = d.i) := ⟨rfl, rfl, rfl⟩
  generalize decPre d low own all = pre at HN hpre ⊢
  obtain ⟨r1, r2, r3, r4⟩ := hpre
  have a2 : 0 ≤ d.s / all * low := Int.mul_nonneg (by omega) p4
  have a3 : d.s / all * (low + own) ≤ d.s / all * all := Int.mul_le_mul_of_nonneg_left p5 (by omega)
  have a4 : d.s / all * 1 ≤ d.s / all * own := Int.mul_le_mul_of_nonneg_left p3 (by omega)
  rw [Int.mul_add] at a3
  have hq : d.s.tdiv all = d.s / all := Int.tdiv_eq_ediv_of_nonneg (by omega)
  have hall : ¬ all = 0 := by omega
  obtain ⟨E, hE⟩ : ∃ E, d.s / all = E := ⟨_, rfl⟩
  rw [hE] at hq a2 a3 a4 E0 E1 E2 HN hlow
  obtain ⟨A, hA⟩ : ∃ A, E * low = A := ⟨_, rfl⟩
  obtain ⟨O, hO⟩ : ∃ O, E * own = O := ⟨_, rfl⟩
  rw [hA] at a2 a3 HN hlow
  rw [hO] at a3 a4 HN
  have T2 : RowKit.Hid (DecMem ((w.setCell ⟨g, 2, none⟩ (.int .i64 (d.c - A))).setCell ⟨g, 3, none⟩ (.int .i64 O)) base g v b ⟨d.c - A, O, d.i⟩) := (HD.out.setC (d.c - A)).setS O
  have K2 := Lib.hid (((Keeps.refl (fun j => j = g) w).setCell (p := ⟨g, 2, none⟩) (.inl rfl) (.int .i64 (d.c - A))).setCell (p := ⟨g, 3, none⟩) (.inl rfl) (.int .i64 O))
  have T3 : RowKit.Hid (DecMem (((w.setCell ⟨g, 2, none⟩ (.int .i64 (d.c - A))).setCell ⟨g, 3, none⟩ (.int .i64 O)).setCell ⟨g, 2, none⟩ (.int .i64 (O - 1))) base g v b ⟨O - 1, O, d.i⟩) := T2.out.setC (O - 1)
  have K3 := Lib.hid (K2.out.setCell (p := ⟨g, 2, none⟩) (.inl rfl) (.int .i64 (O - 1)))
  have H0 : RowKit.Hid (∀ w', DecMem w' base g v b pre → Keeps (fun j => j = g) w w' → ∃ st, DecScale b d.i pre st ∧ DecMem w' base g v b st ∧ Keeps (fun j => j = g) w w') := by
    intro w' h1 h2
    have := HN.out.2.2
    exact ⟨pre, ⟨rfl, r1, r2, r3, r4, by omega, by omega, by omega⟩, h1, h2⟩
  go_enter Try.func54, Try.ntmps54
  go_wp2
  by_cases hbig : O ≤ d.c - A
  · have hdd : decide (O ≤ d.c - A) = true := by simpa using hbig
    go_quiet (fail)
    have HP1 : RowKit.Hid (pre = ⟨O - 1, O, d.i⟩) := by
      obtain ⟨c', s', i'⟩ := pre
      obtain ⟨h1, h2, h3⟩ := HN.out
      rw [if_pos hbig] at h1
      simp only at h1 h2 h3
      subst h1 h2 h3
      exact rfl
    go_wp2
    go_loopw [49] (fun _ wr => ∃ st : DecS, RowKit.Hid (DecScale b d.i pre st ∧ DecMem wr base g v b st ∧ Keeps (fun j => j = g) w wr)) (fun _ wr => leftD wr g)
    case atStart => exact H0.out _ (by rw [HP1.out]; exact T3.out.drewN _) (K3.out.drewN _)
    case round =>
      obtain ⟨st, H⟩ := hrel
      obtain ⟨S1, b0, b1, b2, b3, b4, b5, b6⟩ := H.out.1
      have HS1 := Lib.hid S1
      clear S1
      obtain ⟨y0, y1, y2, y3⟩ := H.out.2.1.cells
      obtain ⟨x1, x2, x3⟩ := H.out.2.1.fz
      clear y0
      by_cases hlt : st.s < 16777216
      · have T5 := Lib.hid (H.out.2.1.setS (st.s * 256))
        have K5 := Lib.hid (H.out.2.2.setCell (p := ⟨g, 3, none⟩) (.inl rfl) (.int .i64 (st.s * 256)))
        have S2 := Lib.hid (scaleD_step (byteF b) (d := st) (by omega) hlt)
        have hbb := HB.out st.i
        go_wp2_with (go_at_call 40; go_loud (refine (refDecNext_any base g v b ⟨st.c, st.s * 256, st.i⟩ _ T5.out HB.out hl (by simp only; omega) (by simp only; omega) (by simp only; omega)).mono ?_); rintro e5 w5 ⟨rfl, hm, hk⟩; have T6 := Lib.hid hm; have K6 := Lib.hid (K5.out.trans hk); clear hm hk)
        go_roundw
        case rel => exact ⟨_, ⟨by rw [← HS1.out, S2.out], by simp only; omega, by simp only; omega, by simp only; omega, by simp only; omega, by simp only; omega, by simp only; omega, by simp only; omega⟩, T6.out, K6.out⟩
        case measure => rw [leftD_eq T6.out.cells.2.2.2, leftD_eq y3]; simp only; omega
      · have Z : RowKit.Hid (scaleD (byteF b) pre = st) := by rw [← HS1.out]; exact scaleD_end _ (by omega)
        go_wp2
        go_end0
        exact ⟨rfl, by rw [Z.out]; exact H.out.2.1, H.out.2.2⟩
  · have hdd : decide (O ≤ d.c - A) = false := by simpa using hbig
    go_quiet (fail)
    have HP1 : RowKit.Hid (pre = ⟨d.c - A, O, d.i⟩) := by
      obtain ⟨c', s', i'⟩ := pre
      obtain ⟨h1, h2, h3⟩ := HN.out
      rw [if_neg hbig] at h1
      simp only at h1 h2 h3
      subst h1 h2 h3
      exact rfl
    go_wp2
    go_loopw [49] (fun _ wr => ∃ st : DecS, RowKit.Hid (DecScale b d.i pre st ∧ DecMem wr base g v b st ∧ Keeps (fun j => j = g) w wr)) (fun _ wr => leftD wr g)
    case atStart => exact H0.out _ (by rw [HP1.out]; exact T2.out.drewN _) (K2.out.drewN _)
    case round =>
      obtain ⟨st, H⟩ := hrel
      obtain ⟨S1, b0, b1, b2, b3, b4, b5, b6⟩ := H.out.1
      have HS1 := Lib.hid S1
      clear S1
      obtain ⟨y0, y1, y2, y3⟩ := H.out.2.1.cells
      obtain ⟨x1, x2, x3⟩ := H.out.2.1.fz
      clear y0
      by_cases hlt : st.s < 16777216
      · have T5 := Lib.hid (H.out.2.1.setS (st.s * 256))
        have K5 := Lib.hid (H.out.2.2.setCell (p := ⟨g, 3, none⟩) (.inl rfl) (.int .i64 (st.s * 256)))
        have S2 := Lib.hid (scaleD_step (byteF b) (d := st) (by omega) hlt)
        have hbb := HB.out st.i
        go_wp2_with (go_at_call 40; go_loud (refine (refDecNext_any base g v b ⟨st.c, st.s * 256, st.i⟩ _ T5.out HB.out hl (by simp only; omega) (by simp only; omega) (by simp only; omega)).mono ?_); rintro e5 w5 ⟨rfl, hm, hk⟩; have T6 := Lib.hid hm; have K6 := Lib.hid (K5.out.trans hk); clear hm hk)
        go_roundw
        case rel => exact ⟨_, ⟨by rw [← HS1.out, S2.out], by simp only; omega, by simp only; omega, by simp only; omega, by simp only; omega, by simp only; omega, by simp only; omega, by simp only; omega⟩, T6.out, K6.out⟩
        case measure => rw [leftD_eq T6.out.cells.2.2.2, leftD_eq y3]; simp only; omega
      · have Z : RowKit.Hid (scaleD (byteF b) pre = st) := by rw [← HS1.out]; exact scaleD_end _ (by omega)
        go_wp2
        go_end0
        exact ⟨rfl, by rw [Z.out]; exact H.out.2.1, H.out.2.2⟩
end Go.Proofs.Ytgnmnmjicjcffaa

/- What the document's decoder of layer 7 gives: a model's symbol, bits. -/
namespace Go.Proofs.Ytgnmnmjicjcffaa
open Go.RowKit
set_option linter.unusedVariables false

theorem P2_add (a b : Nat) : P2 (a + b) = P2 a * P2 b := by unfold P2; rw [Int.pow_add]
/-- Which symbol a decoder finds. -/
def decWhich (d : DecS) (l : List Int) : Nat := findP l (decAt d l.sum)
def decSym (b : List Int) (d : DecS) (l : List Int) : DecS := decTake (byteF b) d (sumN l (decWhich d l)) (l.getD (decWhich d l) 0) l.sum
theorem decWhich_is {d : DecS} {l : List Int} (hG : GoodD d) (hL : GoodL l) : decWhich d l < l.length ∧ d.s / l.sum * sumN l (decWhich d l) ≤ d.c ∧ 1 ≤ l.sum ∧ l.sum ≤ 8192 := by
  have h1 : 1 ≤ l.sum := by
    have a := hL.sum_le (n := 1) hL.1
    have b := sumN_rise (l := l) (fun j hj => by have := hL.2.2.1 j hj; omega) (m := 1) (n := l.length) hL.1 (Nat.le_refl _)
    have c : sumN l 1 = sumN l 0 + l.getD 0 0 := sumN_succ l 0 (by have := hL.1; omega)
    have d := hL.2.2.1 0 (by have := hL.1; omega)
    rw [sumN_all] at b
    rw [sumN_zero] at c
    omega
  have h2 := hL.2.2.2
  obtain ⟨a, b, c⟩ := decAt_bd hG h1 h2
  obtain ⟨e, f, g⟩ := findP_is (l := l) a (by rw [sumN_all]; exact b)
  obtain ⟨e0, _, _⟩ := each_bd hG.1 hG.2.1 h1 h2
  refine ⟨e, ?_, h1, h2⟩
  exact Int.le_trans (Int.mul_le_mul_of_nonneg_left f (by omega)) c
def DecSymPost (base b2 g : Nat) (v : Value) (b : List Int) (mg mr : Nat) (s : Nat) (d : DecS) (l : List Int) (fx : Bool) (w : World) (x : Ending) (w' : World) : Prop :=
  x = .returned (.int .i64 s) ∧ DecMem w' base g v b d ∧ RefMod w' b2 mg mr l fx ∧ Keeps (fun j => j = g ∨ j = mr) w w'

set_option maxHeartbeats 1000000 in
set_option maxRecDepth 100000 in
theorem refDecSymbol_any (base b2 g : Nat) (v : Value) (b : List Int) (d : DecS) (mg mr : Nat) (l : List Int) (w : World) (hD : DecMem w base g v b d) (hb : ∀ j, 0 ≤ byteF b j ∧ byteF b j ≤ 255) (hbl : b.length ≤ 1000000) (hi : d.i ≤ 5000000) (hR : RefMod w b2 mg mr l false) (hG : GoodD d) (hL : GoodL l) (d1 : mg ≠ g) (d3 : mr ≠ g) (d2 : ∀ k, v.ownBlock = some k → k ≠ mg ∧ k ≠ mr) :
    Calls Try.prog 39 #[.pointer (some ⟨g, 0, none⟩), .pointer (some ⟨mg, 0, none⟩)] w (DecSymPost base b2 g v b mg mr (decWhich d l) (decSym b d l) (learnP l (decWhich d l)) false w) := by
  obtain ⟨cm, h1, h2, h3⟩ := hR
  have HR := Lib.hid (show RefMod w b2 mg mr l false from ⟨cm, h1, h2, h3⟩)
  have HD := Lib.hid hD
  have HG := Lib.hid hG
  have HL := Lib.hid hL
  have HBy := Lib.hid hb
  have H2 := Lib.hid d2
  have hl0 := hL.1
  have hl := hL.2.1
  have c0 := h1.cell 0
  simp only [List.getElem?_toArray, List.getElem?_cons_zero] at c0
  obtain ⟨w1, w2, w3, w4⟩ := decWhich_is hG hL
  have HWl := Lib.hid w2
  have HW : RowKit.Hid (findP l (decAt d l.sum) = decWhich d l) := rfl
  have hbd : ∀ j, j < l.length → 0 ≤ l.getD j 0 ∧ l.getD j 0 ≤ 4294967295 := fun j hj => by have := HL.out.own hj; omega
  have HB := Lib.hid hbd
  have HOk := Lib.hid (okP_sym hL w1)
  have HT := Lib.hid (sumN_all l)
  have hcell := HR.out.at_ w1
  have HS : RowKit.Hid (decSym b d l = decTake (byteF b) d (sumN l (decWhich d l)) (l.getD (decWhich d l) 0) l.sum) := rfl
  rw [HS.out]
  clear h1 h2 h3 hD hG hL hb hbd d2 w2 HS
  generalize l.getD (decWhich d l) 0 = X2 at hcell HOk ⊢
  generalize hs : decWhich d l = s at w1 HWl HW HOk hcell ⊢
  clear hs
  have hsl : (s : Int) < (l.length : Int) := by omega
  go_enter Try.func39, Try.ntmps39
  go_wp2_with (first | (go_at_call 49; go_loud (refine (refSum_at b2 mg mr l false l.length _ _ (by omega) HR.out (by omega) hl HB.out).mono ?_); rintro e5 w5 ⟨rfl, rfl⟩; rw [HT.out]) | (go_at_call 53; go_loud (refine (refDecAt_any base g v b d _ _ HD.out HG.out w3 w4).mono ?_); rintro e5 w5 ⟨rfl, n5, rfl⟩) | (go_at_call 55; go_loud (refine (refFind_any b2 mg mr l false _ _ (HR.out.drewN _) hl0 hl HB.out).mono ?_); rintro e6 w6 ⟨rfl, rfl⟩; rw [HW.out]))
  have hcell2 : (w.drewN n5).cell? ⟨mr, s, none⟩ = some (.int .i64 X2) := hcell
  have c02 : (w.drewN n5).cell? ⟨mg, 0, none⟩ = some (.slice (some ⟨mr, 0, none⟩) l.length cm) := c0
  have HDq := Lib.hid (HD.out.drewN n5)
  have HRq := Lib.hid (HR.out.drewN n5)
  have HKq := Lib.hid ((Keeps.refl (fun j => j = g ∨ j = mr) w).drewN n5)
  clear c0 hcell
  generalize w.drewN n5 = wq at hcell2 c02 HDq HRq HKq ⊢
  go_still_tail 12, (by kernel_rfl)
  still_call ((refSum_at b2 mg mr l false s _ _ (by omega) (HRq.out.drewN 1) (by omega) hl HB.out).mono fun _ _ h => ⟨h.1, h.2.symm⟩)
  repeat still_step
  refine wpStill_nil ?_
  change wpList _ _ _ _ _ wq.drew
  clear c02 hcell2
  have HDd : RowKit.Hid (DecMem wq.drew base g v b d) := HDq.out.drewN 1
  have HRd : RowKit.Hid (RefMod wq.drew b2 mg mr l false) := HRq.out.drewN 1
  generalize hX1 : sumN l s = X1 at HWl HOk ⊢
  have HX1 := Lib.hid hX1
  clear hX1
  go_wp2_with (first | (go_at_call 54; go_loud (refine (refDecTake_any base g v b d _ _ _ _ HDd.out HBy.out hbl hi HG.out HOk.out HWl.out).mono ?_); rintro e5 w5 ⟨rfl, hm, hk⟩; have HM5 := Lib.hid hm; have HK5 := Lib.hid hk; have HR5 := Lib.hid (HRd.out.keeps hk d1 d3); clear hm hk) | (go_at_call 50; go_loud (refine (refLearn_any b2 mg mr l s _ HR5.out HL.out w1).mono ?_); rintro e6 w6 ⟨rfl, hm, hk6⟩; have HM6 := Lib.hid hm; have HK6 := Lib.hid hk6; clear hm hk6))
  go_ret
  rw [HX1.out]
  refine ⟨rfl, HM5.out.keeps HK6.out (by omega) (fun k hk => (H2.out k hk).2), HM6.out, ((HKq.out.drewN 1).trans (HK5.out.mono fun k h => by omega)).trans (HK6.out.mono fun k h => by omega)⟩

/-- The number of so many bits, the highest twelve first, behind those that were read. -/
def decBits (b : List Int) (d : DecS) (n : Int) (wide : Nat) : Int × DecS :=
  if wide = 0 then (n, d) else if wide ≤ 12 then (n * P2 wide + decAt d (P2 wide), decTake (byteF b) d (decAt d (P2 wide)) 1 (P2 wide)) else
    let f := decTake (byteF b) d (decAt d 4096) 1 4096
    let m := n * 4096 + decAt d 4096
    if wide ≤ 24 then (m * P2 (wide - 12) + decAt f (P2 (wide - 12)), decTake (byteF b) f (decAt f (P2 (wide - 12))) 1 (P2 (wide - 12))) else (m, f)
theorem decBits_zero (b : List Int) (d : DecS) (n : Int) : decBits b d n 0 = (n, d) := rfl
theorem decBits_low (b : List Int) (d : DecS) (n : Int) {wide : Nat} (h0 : 0 < wide) (h1 : wide ≤ 12) : decBits b d n wide = (n * P2 wide + decAt d (P2 wide), decTake (byteF b) d (decAt d (P2 wide)) 1 (P2 wide)) := by
  unfold decBits; rw [if_neg (by omega), if_pos h1]
theorem decBits_high (b : List Int) (d : DecS) (n : Int) {wide : Nat} (h0 : 12 < wide) (h1 : wide ≤ 24) : decBits b d n wide = decBits b (decTake (byteF b) d (decAt d 4096) 1 4096) (n * 4096 + decAt d 4096) (wide - 12) := by
  rw [decBits_low _ _ _ (show 0 < wide - 12 by omega) (by omega)]
  unfold decBits; rw [if_neg (by omega), if_neg (by omega), if_pos h1]
def DecBitsPost (base g : Nat) (v : Value) (b : List Int) (n : Int) (d : DecS) (w : World) (x : Ending) (w' : World) : Prop :=
  x = .returned (.int .i64 n) ∧ DecMem w' base g v b d ∧ Keeps (fun j => j = g) w w'
theorem decTake_i (b : Nat → Int) (d : DecS) (low own all : Int) : (decTake b d low own all).i ≤ d.i + 2 := by
  unfold decTake scaleD
  have h : (decPre d low own all).i = d.i := rfl
  split
  · omega
  · split <;> simp only <;> omega

set_option maxHeartbeats 1000000 in
set_option maxRecDepth 100000 in
theorem refDecBits_any (base g : Nat) (v : Value) (b : List Int) (d : DecS) (wide : Nat) (w : World) (hD : DecMem w base g v b d) (hb : ∀ j, 0 ≤ byteF b j ∧ byteF b j ≤ 255) (hbl : b.length ≤ 1000000) (hi : d.i ≤ 4000000) (hG : GoodD d) (hw : wide ≤ 24) :
    Calls Try.prog 38 #[.pointer (some ⟨g, 0, none⟩), .int .i64 wide] w (DecBitsPost base g v b (decBits b d 0 wide).1 (decBits b d 0 wide).2 w) := by
  have HBy := Lib.hid hb
  obtain ⟨R, hR⟩ : ∃ R, R = decBits b d 0 wide := ⟨_, rfl⟩
  rw [← hR]
  have H0 : RowKit.Hid (decBits b d 0 wide = R ∧ GoodD d ∧ DecMem w base g v b d ∧ Keeps (fun j => j = g) w w ∧ (0 : Int) < P2 (wide - wide)) := ⟨hR.symm, hG, hD, Keeps.refl _ _, by rw [Nat.sub_self]; decide⟩
  clear hD hG hb hR
  go_enter Try.func38, Try.ntmps38
  go_wp2
  go_loopw [1, 5, 6, 7] (fun q n _ _ wr => ∃ (k : Nat) (f : DecS) (m : Int), k ≤ wide ∧ q = .int .i64 k ∧ n = .int .i64 m ∧ 0 ≤ m ∧ f.i ≤ d.i + 3 * (wide - k) ∧ RowKit.Hid (decBits b f m k = R ∧ GoodD f ∧ DecMem wr base g v b f ∧ Keeps (fun j => j = g) w wr ∧ m < P2 (wide - k))) (fun q _ _ _ _ => (intOf q).toNat)
  case atStart => exact ⟨wide, d, 0, by omega, rfl, rfl, by omega, by omega, H0.out⟩
  case round =>
    obtain ⟨k, f, m, hk, rfl, rfl, hm0, hfi, H⟩ := hrel
    clear H0
    obtain ⟨u1, u2, u3, u4, u5⟩ := H.out
    have hm1 : m ≤ 16777215 := by
      have := P2_mono (a := wide - k) (b := 24) (by omega)
      rw [show P2 24 = 16777216 by decide] at this
      omega
    have HM := Lib.hid u3
    have HGf := Lib.hid u2
    clear u1 u2 u3 u4 u5
    by_cases hlt : 0 < k
    · by_cases hq12 : 12 < k
      · obtain ⟨a0, a1, a2⟩ := decAt_bd HGf.out (show (1 : Int) ≤ 4096 by decide) (by decide)
        have HOk : RowKit.Hid (OkP (decAt f 4096) 1 4096) := ⟨by decide, by decide, by decide, a0, by omega⟩
        have HLow := Lib.hid a2
        have HE : RowKit.Hid (decBits b f m k = decBits b (decTake (byteF b) f (decAt f 4096) 1 4096) (m * 4096 + decAt f 4096) (k - 12)) := decBits_high b f m hq12 (by omega)
        have h12 : P2 12 = 4096 := by decide
        clear a2
        go_wp2_with (first | (go_at_call 48; go_loud (refine (refPower_at 12 _ _ (by omega) (by omega)).mono ?_); rintro e5 w5 ⟨rfl, rfl⟩; rw [h12]) | (go_at_call 53; go_loud (refine (refDecAt_any base g v b f _ _ HM.out HGf.out (by omega) (by omega)).mono ?_); rintro e5 w5 ⟨rfl, n5, rfl⟩) | (go_at_call 54; go_loud (refine (refDecTake_any base g v b f (decAt f 4096) 1 4096 _ (HM.out.drewN _) HBy.out hbl (by omega) HGf.out HOk.out HLow.out).mono ?_); rintro e6 w6 ⟨rfl, hm6, hk6⟩; have HM6 := Lib.hid hm6; have HK6 := Lib.hid hk6; clear hm6 hk6))
        go_roundw
        case rel =>
          have h2 := decTake_i (byteF b) f (decAt f 4096) 1 4096
          refine ⟨(k - 12), _, _, by omega, by go_num, rfl, by omega, by omega, ?_, (decTake_good HBy.out HGf.out HOk.out HLow.out).1, HM6.out, (H.out.2.2.2.1.drewN _).trans HK6.out, ?_⟩
          · exact HE.out.symm.trans H.out.1
          · have h5 := H.out.2.2.2.2
            rw [show wide - (k - 12) = (wide - k) + 12 by omega, P2_add, h12]; omega
        case measure => simp [intOf] <;> omega
      · have pk := P2_pos k
        have qk := P2_mono (a := k) (b := 12) (by omega)
        rw [show P2 12 = 4096 by decide] at qk
        obtain ⟨a0, a1, a2⟩ := decAt_bd HGf.out (show 1 ≤ P2 k by omega) (show P2 k ≤ 8192 by omega)
        have HOk : RowKit.Hid (OkP (decAt f (P2 k)) 1 (P2 k)) := ⟨by omega, by omega, by decide, a0, by omega⟩
        have HLow := Lib.hid a2
        have HE : RowKit.Hid (decBits b f m k = (m * P2 k + decAt f (P2 k), decTake (byteF b) f (decAt f (P2 k)) 1 (P2 k))) := decBits_low b f m hlt (by omega)
        have v0 : 0 ≤ m * P2 k := Int.mul_nonneg hm0 (by omega)
        have v1 : m * P2 k ≤ m * 4096 := Int.mul_le_mul_of_nonneg_left qk hm0
        clear a2
        go_wp2_with (first | (go_at_call 48; go_loud (refine (refPower_at k _ _ (by omega) (by omega)).mono ?_); rintro e5 w5 ⟨rfl, rfl⟩) | (go_at_call 53; go_loud (refine (refDecAt_any base g v b f _ _ HM.out HGf.out (by omega) (by omega)).mono ?_); rintro e5 w5 ⟨rfl, n5, rfl⟩) | (go_at_call 54; go_loud (refine (refDecTake_any base g v b f (decAt f (P2 k)) 1 (P2 k) _ (HM.out.drewN _) HBy.out hbl (by omega) HGf.out HOk.out HLow.out).mono ?_); rintro e6 w6 ⟨rfl, hm6, hk6⟩; have HM6 := Lib.hid hm6; have HK6 := Lib.hid hk6; clear hm6 hk6))
        go_roundw
        case rel =>
          have h2 := decTake_i (byteF b) f (decAt f (P2 k)) 1 (P2 k)
          refine ⟨0, _, _, by omega, by go_num, rfl, by omega, by omega, ?_, (decTake_good HBy.out HGf.out HOk.out HLow.out).1, HM6.out, (H.out.2.2.2.1.drewN _).trans HK6.out, ?_⟩
          · exact HE.out.symm.trans H.out.1
          · have h5 := H.out.2.2.2.2
            rw [show wide - 0 = (wide - k) + k by omega, P2_add]; have := Int.mul_le_mul_of_nonneg_right (show m + 1 ≤ P2 (wide - k) by omega) (show 0 ≤ P2 k by omega); rw [Int.add_mul, Int.one_mul] at this; omega
        case measure => simp [intOf] <;> omega
    · obtain rfl : k = 0 := by omega
      go_wp2
      go_ret
      obtain ⟨u1, u2, u3, u4, u5⟩ := H.out
      rw [decBits_zero] at u1
      subst u1
      exact ⟨rfl, u3, u4⟩
end Go.Proofs.Ytgnmnmjicjcffaa

/- Plain facts of the range coder: whole symbols and whole bits come back, one behind the other. Nothing here speaks of the program. -/
namespace Go.Proofs.Ytgnmnmjicjcffaa
open Go
set_option linter.unusedVariables false

/-- Where the decoder is in step, and the digits are those of a later number, it is a good one, and below its size. -/
theorem sync_good {b : Nat → Int} {e f : EncS} {d : DecS} (hs : Sync b e d) (hg : GoodE e) (hi : Inside e f) (hf : 1 ≤ f.s) (hd : DigOf b f) : GoodD d ∧ d.c < d.s := by
  obtain ⟨i1, i2, i3⟩ := hi
  obtain ⟨s1, s2, s3⟩ := hs
  obtain ⟨h1, h2, h3, h4⟩ := hg
  have hv := hd (e.k + 4) (by omega)
  rw [show f.k + 4 - (e.k + 4) = f.k - e.k by omega] at hv
  have pp := P256_pos (f.k - e.k)
  generalize P256 (f.k - e.k) = P at i2 i3 hv pp
  have lo : e.n ≤ valB b (e.k + 4) := by rw [hv, Int.le_ediv_iff_mul_le (by omega)]; exact i2
  have hi' : valB b (e.k + 4) < e.n + e.s := by rw [hv, Int.ediv_lt_iff_lt_mul (by omega)]; omega
  exact ⟨⟨by omega, by omega, by omega, by omega⟩, by omega⟩
/-- A symbol comes back. -/
theorem sym_back {b : List Int} {e f : EncS} {d : DecS} {l : List Int} {s : Nat} (hs : Sync (byteF b) e d) (hg : GoodE e) (hl : GoodL l) (hsl : s < l.length) (hi : Inside (encSym e l s) f) (hf : 1 ≤ f.s) (hd : DigOf (byteF b) f) :
    decWhich d l = s ∧ Sync (byteF b) (encSym e l s) (decSym b d l) := by
  obtain ⟨a1, a2, a3⟩ := comes_back hs hg (okP_sym hl hsl) hi hf hd
  have hw : decWhich d l = s := by
    unfold decWhich
    refine findP_eq hl.2.2.1 hsl a1 ?_
    rw [sumN_succ l s hsl]; exact a2
  refine ⟨hw, ?_⟩
  unfold decSym
  rw [hw]; exact a3
/-- Bits come back: a number of no more bits than are told. -/
theorem bits_back {b : List Int} {e f : EncS} {d : DecS} {n : Int} {wide : Nat} (hs : Sync (byteF b) e d) (hg : GoodE e) (hw : wide ≤ 24) (n0 : 0 ≤ n) (n1 : n < P2 wide) (hi : Inside (encBits e n wide) f) (hf : 1 ≤ f.s) (hd : DigOf (byteF b) f) :
    (decBits b d 0 wide).1 = n ∧ Sync (byteF b) (encBits e n wide) (decBits b d 0 wide).2 := by
  by_cases h0 : wide = 0
  · subst h0
    rw [decBits_zero, encBits_zero]
    have : P2 0 = 1 := rfl
    exact ⟨by omega, hs⟩
  · by_cases h1 : wide ≤ 12
    · rw [encBits_low e n (by omega) h1] at hi ⊢
      rw [decBits_low b d 0 (by omega) h1]
      obtain ⟨a1, a2, a3⟩ := comes_back hs hg (okP_bit h1 (bit_part n).1 (bit_part n).2) hi hf hd
      have e1 : n % P2 wide = n := Int.emod_eq_of_lt n0 n1
      have ha : decAt d (P2 wide) = n % P2 wide := by omega
      simp only
      rw [ha]
      exact ⟨by rw [e1]; omega, a3⟩
    · rw [encBits_high e n (by omega) hw] at hi ⊢
      rw [decBits_high b d 0 (by omega) hw]
      have hg1 := encPut_good hg (okP_12 (n / P2 (wide - 12)))
      have hi1 : Inside (encPut e (n / P2 (wide - 12) % 4096) 1 4096) f := (encBits_inside hg1 (by omega)).trans hi
      obtain ⟨a1, a2, a3⟩ := comes_back hs hg (okP_12 (n / P2 (wide - 12))) hi1 hf hd
      have ha : decAt d 4096 = n / P2 (wide - 12) % 4096 := by omega
      rw [ha]
      rw [encBits_low _ n (show 0 < wide - 12 by omega) (by omega)] at hi ⊢
      rw [decBits_low b _ _ (show 0 < wide - 12 by omega) (by omega)]
      obtain ⟨c1, c2, c3⟩ := comes_back a3 hg1 (okP_bit (by omega) (bit_part n).1 (bit_part n).2) hi hf hd
      have hb : decAt (decTake (byteF b) d (n / P2 (wide - 12) % 4096) 1 4096) (P2 (wide - 12)) = n % P2 (wide - 12) := by omega
      simp only
      rw [hb]
      refine ⟨?_, c3⟩
      have p := P2_pos (wide - 12)
      have hP : P2 wide = P2 (wide - 12) * 4096 := by
        have := P2_add (wide - 12) 12
        rw [show wide - 12 + 12 = wide by omega, show P2 12 = 4096 by decide] at this
        exact this
      have q0 : 0 ≤ n / P2 (wide - 12) := Int.ediv_nonneg n0 (by omega)
      have q1 : n / P2 (wide - 12) < 4096 := by rw [Int.ediv_lt_iff_lt_mul (by omega), Int.mul_comm, ← hP]; exact n1
      rw [Int.emod_eq_of_lt q0 q1, Int.zero_mul, Int.zero_add]
      exact Int.ediv_mul_add_emod n _
/-- The digits that an encoder's bytes tell, with whatever stands behind them from the (k + 4)-th on. -/
theorem digOf_bytes {f : EncS} {b : List Int} (hg : GoodE f) (hb : ∀ j, j < f.k + 4 → byteF b j = digB f.n (f.k + 4) j) : DigOf (byteF b) f := by
  have hl : f.n < P256 (f.k + 4) := by
    rw [show f.k + 4 = f.k + 1 + 1 + 1 + 1 by omega, P256_succ, P256_succ, P256_succ, P256_succ]
    have := hg.1
    have := hg.2.2.2
    omega
  exact valB_dig hg.2.2.1 hl hb
theorem digOf_own {f : EncS} (hg : GoodE f) : DigOf (byteF (digL f.n (f.k + 4))) f := digOf_bytes hg fun j hj => by unfold byteF; exact digL_getD f.n hj
end Go.Proofs.Ytgnmnmjicjcffaa

/- What the document's encoder of layer 6 gives: a new one, its bytes. -/
namespace Go.Proofs.Ytgnmnmjicjcffaa
open Go.RowKit
set_option linter.unusedVariables false

theorem refEncNew_any (w : World) :
    Calls Try.prog 15 #[] w fun x w' => x = .returned (.pointer (some ⟨w.heap.size + 1, 0, none⟩)) ∧ EncMem w' w.heap.size (w.heap.size + 1) w.heap.size 4 (digL 0 4) 4294967295 0 ∧ Below w.heap.size w w' := by
  have HB := Lib.hid ((Below.alloc_new w (.cells #[.int .i64 0, .int .i64 0, .int .i64 0, .int .i64 0] 3)).alloc (by simp) (.cells #[.slice (some ⟨w.heap.size, 0, none⟩) 4 4, .int .i64 4294967295, .int .i64 0] 58))
  have HO := Lib.hid (World.ownsRow.alloc (World.ownsRow_lit (base := w.heap.size) (e := 3) (size := 1) w #[.int .i64 0, .int .i64 0, .int .i64 0, .int .i64 0] 4 (Nat.le_refl _) (by decide) rfl) (.cells #[.slice (some ⟨w.heap.size, 0, none⟩) 4 4, .int .i64 4294967295, .int .i64 0] 58))
  have hc := Cel.new (w.alloc (.cells #[.int .i64 0, .int .i64 0, .int .i64 0, .int .i64 0] 3)) 58 #[.slice (some ⟨w.heap.size, 0, none⟩) 4 4, .int .i64 4294967295, .int .i64 0]
  have e1 : (w.alloc (.cells #[.int .i64 0, .int .i64 0, .int .i64 0, .int .i64 0] 3)).heap.size = w.heap.size + 1 := by simp
  rw [e1] at hc
  have HC := Lib.hid hc
  clear hc e1
  go_enter Try.func15, Try.ntmps15
  go_wp2
  go_ret
  exact ⟨rfl, ⟨HC.out, HO.out, Nat.le_succ _⟩, HB.out⟩

/-! ### Bytes -/
/-- The last of the first k digits that isn't 0. -/
def lastK (D : List Int) : Nat → Int
  | 0 => -1
  | k + 1 => if D.getD k 0 = 0 then lastK D k else k
theorem lastK_bd (D : List Int) (k : Nat) : -1 ≤ lastK D k ∧ lastK D k < k := by
  induction k with
  | zero => exact ⟨Int.le_refl _, by show (-1 : Int) < 0; decide⟩
  | succ k ih => unfold lastK; split <;> omega
theorem lastK_over {D : List Int} : ∀ k j : Nat, lastK D k < j → j < k → D.getD j 0 = 0 := by
  intro k
  induction k with
  | zero => intro j _ h; omega
  | succ k ih =>
    intro j h1 h2
    unfold lastK at h1
    by_cases e : D.getD k 0 = 0
    · rw [if_pos e] at h1
      by_cases ej : j = k
      · subst ej; exact e
      · exact ih j h1 (by omega)
    · rw [if_neg e] at h1; omega
/-- Digits as bytes: without noughts behind. -/
def bytesL (D : List Int) : List Int := D.take (lastK D D.length + 1).toNat
theorem bytesL_len (D : List Int) : (bytesL D).length = (lastK D D.length + 1).toNat := by
  have := lastK_bd D D.length
  unfold bytesL; simp; omega
theorem info_u806 : (Try.prog.info? 5).map (fun i => (i.zero, i.size, i.bytes)) = some (some (.int .u8 0), 1, 1) := by kernel_rfl

def BytesPost (b : List Int) (w : World) (x : Ending) (w' : World) : Prop := ∃ a c, x = .returned (.slice a b.length c) ∧ IntsAt w' w'.heap.size .u8 a b.length b ∧ Below w.heap.size w w'

set_option maxRecDepth 100000 in
theorem refEncBytes_any (base g r c : Nat) (D : List Int) (s : Int) (k : Nat) (w : World) (hE : EncMem w base g r c D s k) (hd : IsDig D) (hl : D.length ≤ 2000000) :
    Calls Try.prog 19 #[.pointer (some ⟨g, 0, none⟩)] w (BytesPost (bytesL D) w) := by
  obtain ⟨c0, c1, c2⟩ := hE.cells
  have HE := Lib.hid hE
  have HD := Lib.hid hd
  clear hE hd c1 c2
  have HO := Lib.hid (World.ownsRow_nil w w.heap.size 5 1)
  go_enter Try.func19, Try.ntmps19
  go_wp2
  go_loop [4, 5] (fun a i => ∃ j : Nat, j ≤ D.length ∧ i = .int .i64 j ∧ a = .int .i64 (lastK D j)) (fun _ i => D.length - (intOf i).toNat)
  case atStart => exact ⟨0, by omega, rfl, rfl⟩
  case round =>
    obtain ⟨j, hj, rfl, rfl⟩ := hrel
    by_cases hlt : j < D.length
    · have hcell := HE.out.at_ hlt
      have E : RowKit.Hid (lastK D (j + 1) = if D.getD j 0 = 0 then lastK D j else j) := rfl
      have hjl : (j : Int) < (D.length : Int) := by omega
      generalize D.getD j 0 = x at hcell E
      by_cases hx : x = 0
      · have hq : (x != 0) = false := by simpa using hx
        have E2 : RowKit.Hid (lastK D j = lastK D (j + 1)) := by show _ = _; rw [E.out, if_pos hx]
        clear hx
        go_wp2
        go_round
        case rel => exact ⟨j + 1, by omega, by go_num, by rw [E2.out]⟩
        case measure => simp [intOf] <;> omega
      · have hq : (x != 0) = true := by simpa using hx
        have E2 : RowKit.Hid ((j : Int) = lastK D (j + 1)) := by show _ = _; rw [E.out, if_neg hx]
        clear hx
        go_wp2
        go_round
        case rel => exact ⟨j + 1, by omega, by go_num, by rw [E2.out]⟩
        case measure => simp [intOf] <;> omega
    · obtain rfl : j = D.length := by omega
      obtain ⟨b0, b1⟩ := lastK_bd D D.length
      have hbl := bytesL_len D
      obtain ⟨m, hm⟩ : ∃ m : Nat, lastK D D.length = (m : Int) - 1 := ⟨(lastK D D.length + 1).toNat, by omega⟩
      have hbm : (bytesL D).length = m := by rw [hbl, hm]; omega
      have HBm := Lib.hid hbm
      have HTk : RowKit.Hid (bytesL D = D.take m) := by
        show _ = _
        unfold bytesL; rw [hm]; congr 1; omega
      have hmD : m ≤ D.length := by omega
      rw [hm]
      clear hbl hm hbm b0 b1
      go_wp2
      go_loopw [3, 6] (fun v i wr => ∃ q : Nat, q ≤ m ∧ i = .int .i64 q ∧ RowKit.Hid (wr.ownsRow w.heap.size 5 1 v q ((D.take q).map (Value.int .u8)) ∧ Below w.heap.size w wr)) (fun _ i _ => m - (intOf i).toNat)
      case atStart => exact ⟨0, by omega, rfl, HO.out, Below.refl _ _⟩
      case round =>
        obtain ⟨q, hq, rfl, H⟩ := hrel
        clear c0
        have HEr := Lib.hid (HE.out.below H.out.2)
        obtain ⟨c0, _, _⟩ := HEr.out.cells
        by_cases hlt2 : q < m
        · have hcell := HEr.out.at_ (j := q) (by omega)
          obtain ⟨x0, x1⟩ := HD.out q (by omega)
          have HT := Lib.hid (take_snocI D q (by omega))
          have hql : (q : Int) < (D.length : Int) := by omega
          generalize D.getD q 0 = x at hcell x0 x1 HT
          have hsz := H.out.2.size
          have hown0 := Lib.hid (World.ownsRow.alloc H.out.1 (.cells #[.int .u8 x] 5))
          have hsrc := Lib.hid (lit_ints wr 5 .u8 [x] #[.int .u8 x] (0, 0) rfl (by simp))
          have hbel := Lib.hid (H.out.2.alloc hsz (.cells #[.int .u8 x] 5))
          have hob := Lib.hid (own_base H.out.1)
          have e1 : x % 256 = x := by omega
          go_wp2_with (at_builtin; go_loud (refine append_ints rfl _ _ 33 rfl w.heap.size 5 .u8 1 Try.underlying33 info_u806 _ q (D.take q) rfl hown0.out (some ⟨wr.heap.size, 0, none⟩) 1 1 _ [x] rfl hsrc.out (by simp) ?c1 ?c2 ?c3 ?_))
          case c1 => unfold maxLen; omega
          case c2 => omega
          case c3 => first | omega | (simp; omega)
          intro v2 w2 hown hgrow _
          have H2 : RowKit.Hid (w2.ownsRow w.heap.size 5 1 v2 (q + 1) ((D.take (q + 1)).map (Value.int .u8)) ∧ Below w.heap.size w w2) := by
            refine ⟨?_, hbel.out.grown hgrow (by simp; omega) hob.out⟩
            rw [HT.out]; simpa [List.map_take] using hown
          clear hown hgrow
          go_wp2
          go_roundw
          case rel => exact ⟨q + 1, by omega, by go_num, H2.out⟩
          case measure => simp [intOf] <;> omega
        · obtain rfl : q = m := by omega
          have HI := Lib.hid (own_ints H.out.1)
          have HB2 := Lib.hid H.out.2
          clear H
          go_wp2
          go_ret
          obtain ⟨a, cc, rfl, hi⟩ := HI.out
          refine ⟨a, cc, by rw [HBm.out]; rfl, ?_, HB2.out⟩
          rw [HBm.out, HTk.out]; exact hi

end Go.Proofs.Ytgnmnmjicjcffaa

/- What the document's coder of layers 6 and 7 gives: a decoder of bytes. -/
namespace Go.Proofs.Ytgnmnmjicjcffaa
open Go.RowKit
set_option linter.unusedVariables false

/-- With noughts behind them bytes are the digits. -/
theorem bytesL_get (D : List Int) (j : Nat) : byteF (bytesL D) j = byteF D j := by
  unfold byteF
  have hb := lastK_bd D D.length
  by_cases h : j < (lastK D D.length + 1).toNat
  · unfold bytesL
    simp [List.getD, h]
  · have e : (bytesL D).getD j 0 = 0 := by
      rw [List.getD, List.getElem?_eq_none (by rw [bytesL_len]; omega)]; rfl
    rw [e]
    by_cases hj : j < D.length
    · exact (lastK_over D.length j (by omega) hj).symm
    · rw [List.getD, List.getElem?_eq_none (by omega)]; rfl

/-! ### A decoder of bytes -/
def OpenPost (b : List Int) (w : World) (x : Ending) (w' : World) : Prop := ∃ g v, x = .returned (.pointer (some ⟨g, 0, none⟩)) ∧ DecMem w' w.heap.size g v b (decNew (byteF b)) ∧ Below w.heap.size w w'

set_option maxRecDepth 100000 in
theorem refOpen_any (a : Option Addr) (len cap : Nat) (b : List Int) (w : World) (h : IntsAt w w.heap.size .u8 a len b) (hn : a = none → cap = 0) (hb : ∀ j, 0 ≤ byteF b j ∧ byteF b j ≤ 255) (hl : len ≤ 1000000) :
    Calls Try.prog 23 #[.slice a len cap] w (OpenPost b w) := by
  have HI := Lib.hid h
  have HN := Lib.hid hn
  have HB := Lib.hid hb
  have hbl := Lib.hid h.1
  have hown0 := Lib.hid (World.ownsRow_lit (base := w.heap.size) (e := 5) (size := 1) w #[] 0 (Nat.le_refl _) (by decide) rfl)
  have hbel0 := Lib.hid (Below.alloc_new w (.cells #[] 5))
  clear h hn hb
  go_enter Try.func23, Try.ntmps23
  go_wp2_with (at_builtin; go_loud (refine append_ints rfl _ _ 33 rfl w.heap.size 5 .u8 1 Try.underlying33 info_u806 _ 0 [] rfl hown0.out a len cap w.heap.size b rfl (HI.out.below hbel0.out) HN.out ?c1 ?c2 (by simp) ?_))
  case c1 => unfold maxLen; omega
  case c2 => omega
  intro v2 w2 hown hgrow _
  obtain ⟨a2, cp2, rfl⟩ := own_form (zs := b) (by simpa using hown)
  have hown2 : w2.ownsRow w.heap.size 5 1 (.slice a2 len cp2) len (b.map (Value.int .u8)) := by simpa using hown
  have hb2 : Below w.heap.size w w2 := hbel0.out.grown hgrow (by simp) (own_base hown0.out)
  have H0 : RowKit.Hid (DecMem (w2.alloc (.cells #[.slice a2 len cp2, .int .i64 0, .int .i64 0, .int .i64 4294967295] 75)) w.heap.size w2.heap.size (.slice a2 len cp2) b ⟨valB (byteF b) 0, 4294967295, 0⟩ ∧ Below w.heap.size w (w2.alloc (.cells #[.slice a2 len cp2, .int .i64 0, .int .i64 0, .int .i64 4294967295] 75))) :=
    ⟨⟨Cel.new w2 _ _, by rw [hbl.out]; exact World.ownsRow.alloc hown2 _, hb2.size⟩, hb2.alloc hb2.size _⟩
  have hsz := hb2.size
  clear hown hown2 hgrow hb2
  go_wp2
  generalize hgg : w2.heap.size = g at H0 hsz ⊢
  clear hgg
  go_loopw [4] (fun i wr => ∃ q : Nat, q ≤ 4 ∧ i = .int .i64 q ∧ RowKit.Hid (DecMem wr w.heap.size g (.slice a2 len cp2) b ⟨valB (byteF b) q, 4294967295, q⟩ ∧ Below w.heap.size w wr ∧ valB (byteF b) q < P256 q ∧ 0 ≤ valB (byteF b) q)) (fun i _ => 4 - (intOf i).toNat)
  case atStart => exact ⟨0, by omega, rfl, H0.out.1, H0.out.2, by show (0 : Int) < 1; decide, Int.le_refl 0⟩
  case round =>
    obtain ⟨q, hq, rfl, H⟩ := hrel
    clear H0
    by_cases hlt : q < 4
    · have hv1 : valB (byteF b) q ≤ 16777215 := by
        have h1 := H.out.2.2.1
        have : q = 0 ∨ q = 1 ∨ q = 2 ∨ q = 3 := by omega
        rcases this with rfl | rfl | rfl | rfl
        · have e : P256 0 = 1 := by decide
          omega
        · have e : P256 1 = 256 := by decide
          omega
        · have e : P256 2 = 65536 := by decide
          omega
        · have e : P256 3 = 16777216 := by decide
          omega
      have hbq := HB.out q
      go_wp2_with (go_at_call 40; go_loud (refine (refDecNext_any w.heap.size g _ b ⟨valB (byteF b) q, 4294967295, q⟩ _ H.out.1 HB.out (by rw [hbl.out]; exact hl) H.out.2.2.2 (by simp only; omega) (by simp only; omega)).mono ?_); rintro e5 w5 ⟨rfl, hm, hk⟩; have HM5 := Lib.hid hm; have HB5 := Lib.hid (H.out.2.1.trans (hk.below H.out.2.1.size (fun k h => by omega))); clear hm hk)
      go_roundw
      case rel =>
        have h1 := H.out.2.2.1
        have h2 := H.out.2.2.2
        refine ⟨q + 1, by omega, by go_num, HM5.out, HB5.out, ?_, ?_⟩
        · show valB (byteF b) q * 256 + byteF b q < P256 (q + 1)
          rw [P256_succ]; omega
        · show 0 ≤ valB (byteF b) q * 256 + byteF b q
          omega
      case measure => simp [intOf] <;> omega
    · obtain rfl : q = 4 := by omega
      go_wp2
      go_ret
      exact ⟨g, _, rfl, H.out.1, H.out.2.1⟩
end Go.Proofs.Ytgnmnmjicjcffaa

/- What the functions of package rangedec give: a byte, in which of so many parts the bytes lie, how many bytes were taken. -/
namespace Go.Proofs.Ytgnmnmjicjcffaa
open Go.RowKit
set_option linter.unusedVariables false

/-- Block g is a decoder of the bytes b, whose cells are told. -/
def DrcR (w : World) (base g : Nat) (v : Value) (b : List Int) (m : Nat) (c less : Int) : Prop :=
  Cel w g 69 #[v, .int .i64 m, .int .u32 c, .int .u32 less] ∧ w.ownsRow base 5 1 v b.length (b.map (Value.int .u8)) ∧ base ≤ g
section
variable {w w' : World} {base g : Nat} {v : Value} {b : List Int} {m : Nat} {c less : Int}
theorem DrcR.ne (h : DrcR w base g v b m c less) : ∀ k, v.ownBlock = some k → k ≠ g := fun k hk => own_ne_cel h.2.1 h.1 (by decide) k hk
theorem DrcR.lt (h : DrcR w base g v b m c less) : g < w.heap.size := h.1.lt
theorem DrcR.own (h : DrcR w base g v b m c less) (r : Nat) (hr : v.ownBlock = some r) : r < w.heap.size ∧ base ≤ r ∧ r ≠ g := ⟨own_lt h.2.1 r hr, own_base h.2.1 r hr, h.ne r hr⟩
theorem DrcR.cells (h : DrcR w base g v b m c less) : w.cell? ⟨g, 0, none⟩ = some v ∧ w.cell? ⟨g, 1, none⟩ = some (.int .i64 m) ∧ w.cell? ⟨g, 2, none⟩ = some (.int .u32 c) ∧ w.cell? ⟨g, 3, none⟩ = some (.int .u32 less) := ⟨h.1.cell 0, h.1.cell 1, h.1.cell 2, h.1.cell 3⟩
theorem DrcR.fz (h : DrcR w base g v b m c less) : w.frozen? ⟨g, 1, none⟩ = false ∧ w.frozen? ⟨g, 2, none⟩ = false ∧ w.frozen? ⟨g, 3, none⟩ = false := ⟨h.1.frozen 1, h.1.frozen 2, h.1.frozen 3⟩
theorem DrcR.drewN (h : DrcR w base g v b m c less) (n : Nat) : DrcR (w.drewN n) base g v b m c less := h
theorem DrcR.keeps {F : Nat → Prop} (h : DrcR w base g v b m c less) (hk : Keeps F w w') (h1 : ¬ F g) (h2 : ∀ k, v.ownBlock = some k → ¬ F k) : DrcR w' base g v b m c less := ⟨h.1.keeps hk h1, own_keeps h.2.1 hk h2, h.2.2⟩
theorem DrcR.below (h : DrcR w base g v b m c less) (hk : Below w.heap.size w w') : DrcR w' base g v b m c less := h.keeps (F := fun _ => False) (.of_below hk) (fun c => c) (fun _ _ c => c)
theorem DrcR.setMore (h : DrcR w base g v b m c less) (x : Nat) : DrcR (w.setCell ⟨g, 1, none⟩ (.int .i64 x)) base g v b x c less :=
  ⟨by simpa using h.1.set_ 1 (.int .i64 x), own_far h.2.1 h.ne _, h.2.2⟩
theorem DrcR.setCode (h : DrcR w base g v b m c less) (x : Int) : DrcR (w.setCell ⟨g, 2, none⟩ (.int .u32 x)) base g v b m x less :=
  ⟨by simpa using h.1.set_ 2 (.int .u32 x), own_far h.2.1 h.ne _, h.2.2⟩
theorem DrcR.setLess (h : DrcR w base g v b m c less) (x : Int) : DrcR (w.setCell ⟨g, 3, none⟩ (.int .u32 x)) base g v b m c x :=
  ⟨by simpa using h.1.set_ 3 (.int .u32 x), own_far h.2.1 h.ne _, h.2.2⟩
theorem DrcR.ints (h : DrcR w base g v b m c less) : ∃ a c, v = .slice a b.length c ∧ IntsAt w w.heap.size .u8 a b.length b := own_ints h.2.1
end
/-- Block g is a decoder of the bytes b in the state d. -/
def DrcAt (w : World) (base g : Nat) (v : Value) (b : List Int) (d : DecS) : Prop := 4 ≤ d.i ∧ DrcR w base g v b (d.i - 4) d.c (4294967295 - d.s)
section
variable {w w' : World} {base g : Nat} {v : Value} {b : List Int} {d : DecS}
theorem DrcAt.drewN (h : DrcAt w base g v b d) (n : Nat) : DrcAt (w.drewN n) base g v b d := h
theorem DrcAt.keeps {F : Nat → Prop} (h : DrcAt w base g v b d) (hk : Keeps F w w') (h1 : ¬ F g) (h2 : ∀ k, v.ownBlock = some k → ¬ F k) : DrcAt w' base g v b d := ⟨h.1, h.2.keeps hk h1 h2⟩
theorem DrcAt.below (h : DrcAt w base g v b d) (hk : Below w.heap.size w w') : DrcAt w' base g v b d := ⟨h.1, h.2.below hk⟩
theorem DrcAt.lt (h : DrcAt w base g v b d) : g < w.heap.size ∧ base ≤ g := ⟨h.2.lt, h.2.2.2⟩
theorem DrcAt.own (h : DrcAt w base g v b d) (r : Nat) (hr : v.ownBlock = some r) : r < w.heap.size ∧ base ≤ r ∧ r ≠ g := h.2.own r hr
end
theorem u32_not07 {c : Int} (h0 : 0 ≤ c) (h1 : c ≤ 4294967295) : bits .xor .u32 IntKind.u32.max c = 4294967295 - c := by
  obtain ⟨m, rfl⟩ : ∃ m : Nat, c = m := ⟨c.toNat, by omega⟩
  have a := u32_xor_nat 4294967295 m (by decide) (by omega)
  refine Eq.trans a ?_
  have e : 4294967295 ^^^ m = 4294967295 - m := by
    apply Nat.eq_of_testBit_eq
    intro i
    have s := Nat.testBit_two_pow_sub_succ (n := 32) (x := m) (by omega) i
    rw [show 2 ^ 32 - (m + 1) = 4294967295 - m by omega] at s
    rw [s, Nat.testBit_xor, show (4294967295 : Nat) = 2 ^ 32 - 1 by rfl, Nat.testBit_two_pow_sub_one]
    by_cases hi : i < 32
    · simp [hi]
    · have : m.testBit i = false := Nat.testBit_lt_two_pow (Nat.lt_of_lt_of_le (show m < 2 ^ 32 by omega) (Nat.pow_le_pow_right (by decide) (by omega)))
      simp [hi, this]
  rw [e]; omega
theorem u32_or_low {c x : Int} {k : Nat} (c0 : 0 ≤ c) (x0 : 0 ≤ x) (x1 : x < P2 k) (h : c * P2 k + P2 k ≤ 4294967296) : bits .or .u32 (c * P2 k) x = c * P2 k + x := by
  obtain ⟨m, rfl⟩ : ∃ m : Nat, c = m := ⟨c.toNat, by omega⟩
  obtain ⟨n, rfl⟩ : ∃ n : Nat, x = n := ⟨x.toNat, by omega⟩
  have e : P2 k = ((2 ^ k : Nat) : Int) := by unfold P2; rw [Int.natCast_pow]; rfl
  rw [e] at x1 h ⊢
  have em : (m : Int) * ((2 ^ k : Nat) : Int) = ((m * 2 ^ k : Nat) : Int) := by rw [Int.natCast_mul]
  rw [em] at h ⊢
  rw [u32_or_nat _ _ (by omega) (by omega)]
  have := Nat.shiftLeft_add_eq_or_of_lt (show n < 2 ^ k by omega) m
  rw [Nat.shiftLeft_eq] at this
  rw [← this]; omega
theorem u32_or_byte {c x : Int} (c0 : 0 ≤ c) (c1 : c ≤ 16777215) (x0 : 0 ≤ x) (x1 : x ≤ 255) : bits .or .u32 (c * 256) x = c * 256 + x :=
  u32_or_low (k := 8) c0 x0 (show x < 256 by omega) (show c * 256 + 256 ≤ 4294967296 by omega)

set_option maxRecDepth 100000 in
theorem drcDigit_any (base g : Nat) (v : Value) (b : List Int) (m : Nat) (c less : Int) (j : Nat) (i : Int) (w : World) (hi : i = j) (hD : DrcR w base g v b m c less) (hl : b.length ≤ 1000000) (hj : j ≤ 20000000) :
    Calls Try.prog 36 #[.pointer (some ⟨g, 0, none⟩), .int .i64 i] w fun x w' => x = .returned (.int .u8 (byteF b j)) ∧ w = w' := by
  subst hi
  obtain ⟨a, cp, rfl, hints⟩ := hD.ints
  obtain ⟨m0, m1, m2, m3⟩ := hD.cells
  have HI := Lib.hid hints
  clear hD hints m1 m2 m3
  by_cases hlt : j < b.length
  · obtain ⟨b', off, rfl, hbB, _, hcell⟩ := HI.out.at_ hlt
    have HX : RowKit.Hid (b.getD j 0 = byteF b j) := rfl
    rw [HX.out] at hcell
    generalize byteF b j = x at hcell ⊢
    have g1 : (j : Int) < (b.length : Int) := by omega
    go_enter Try.func36, Try.ntmps36
    go_wp2
    go_ret
    exact ⟨rfl, rfl⟩
  · have hx0 : byteF b j = 0 := by unfold byteF; simp [List.getD, List.getElem?_eq_none (Nat.le_of_not_lt hlt)]
    have g1 : (b.length : Int) ≤ (j : Int) := by omega
    rw [hx0]
    clear hx0
    go_enter Try.func36, Try.ntmps36
    go_wp2
    go_ret
    exact ⟨rfl, rfl⟩

set_option maxRecDepth 100000 in
theorem drcLies_any (base g : Nat) (v : Value) (b : List Int) (d : DecS) (all : Int) (w : World) (hD : DrcAt w base g v b d) (hG : GoodD d) (a0 : 1 ≤ all) (a1 : all ≤ 8192) :
    Calls Try.prog 69 #[.pointer (some ⟨g, 0, none⟩), .int .u32 all] w fun x w' => x = .returned (.int .u32 (decAt d all)) ∧ w = w' := by
  obtain ⟨m0, m1, m2, m3⟩ := hD.2.cells
  obtain ⟨s0, s1, c0, c1⟩ := hG
  obtain ⟨E0, E1, E2⟩ := each_bd s0 s1 a0 a1
  clear hD m0 m1
  obtain ⟨E, hE⟩ : ∃ E, d.s / all = E := ⟨_, rfl⟩
  obtain ⟨q, hq⟩ : ∃ q, d.c / E = q := ⟨_, rfl⟩
  have HA : RowKit.Hid (decAt d all = if all ≤ q then all - 1 else q) := by show _ = _; rw [← hq, ← hE]; rfl
  rw [hE] at E0 E1 E2
  have q0 : 0 ≤ q := by rw [← hq]; exact Int.ediv_nonneg c0 (by omega)
  have q1 : q ≤ d.c := by rw [← hq]; exact Int.ediv_le_self _ c0
  have e1 : d.s.tdiv all = E := by rw [Int.tdiv_eq_ediv_of_nonneg (by omega)]; exact hE
  have e2 : d.c.tdiv E = q := by rw [Int.tdiv_eq_ediv_of_nonneg (by omega)]; exact hq
  have e3 : ¬ all = 0 := by omega
  have e4 : ¬ E = 0 := by omega
  have e5 : IntKind.u32.wrap E = E := IntWalk.u32_in _ (by omega)
  have e6 : IntKind.u32.wrap q = q := IntWalk.u32_in _ (by omega)
  have e7 : IntKind.u32.wrap (all - 1) = all - 1 := IntWalk.u32_in _ (by omega)
  have hnot : bits .xor .u32 (if IntKind.u32.signed = true then -1 else IntKind.u32.max) (4294967295 - d.s) = d.s := by
    show bits .xor .u32 IntKind.u32.max (4294967295 - d.s) = d.s
    rw [u32_not07 (by omega) (by omega)]; omega
  clear hq hE
  go_enter Try.func69, Try.ntmps69
  go_wp2
  all_goals
    go_ret
    exact ⟨ret_int (by rw [HA.out]; split <;> omega), rfl⟩
end Go.Proofs.Ytgnmnmjicjcffaa

/- What the functions of package rangedec give: a copy of bytes, a decoder of them, how many bytes were taken that aren't there. -/
namespace Go.Proofs.Ytgnmnmjicjcffaa
open Go.RowKit
set_option linter.unusedVariables false

theorem info_u807 : (Try.prog.info? 5).map (fun i => (i.zero, i.size, i.bytes)) = some (some (.int .u8 0), 1, 1) := by kernel_rfl
/-- A copy of bytes, in memory of its own. -/
def ClonePost (b : List Int) (w : World) (x : Ending) (w' : World) : Prop :=
  ∃ v, x = .returned v ∧ w'.ownsRow w.heap.size 5 1 v b.length (b.map (Value.int .u8)) ∧ Below w.heap.size w w'
set_option maxRecDepth 100000 in
theorem clone8_any (a : Option Addr) (len cap : Nat) (b : List Int) (w : World) (h : IntsAt w w.heap.size .u8 a len b) (hn : a = none → cap = 0) (hl : len ≤ 1000000) :
    Calls Try.prog 35 #[.slice a len cap] w (ClonePost b w) := by
  have HI := Lib.hid h
  have HN := Lib.hid hn
  have hbl := Lib.hid h.1
  have hown0 := Lib.hid (World.ownsRow_lit (base := w.heap.size) (e := 5) (size := 1) w #[] 0 (Nat.le_refl _) (by decide) rfl)
  have hbel0 := Lib.hid (Below.alloc_new w (.cells #[] 5))
  cases a with
  | none =>
    obtain rfl := hn rfl
    have hb0 : b = [] := by
      have h0 := h.1
      rcases h.2 with h2 | ⟨_, _, h2, _⟩
      · subst h2; exact List.eq_nil_of_length_eq_zero h0
      · cases h2
    subst hb0
    obtain rfl : len = 0 := h.1.symm
    clear h hn
    have HO := Lib.hid (World.ownsRow_nil w w.heap.size 5 1)
    have qN : ∀ w : World, (binOp .eql 33 (.slice none 0 0) (.slice none 0 0)).run Try.prog w = .ok (.bool true) w := fun w => Lib.run_eql_slice_nil w _ _ _ _ _ _ _ Try.underlying33
    go_enter Try.func35, Try.ntmps35
    go_wp2
    go_ret
    exact ⟨_, rfl, HO.out, Below.refl _ _⟩
  | some ad =>
    clear h hn
    have qN : ∀ w : World, (binOp .eql 33 (.slice (some ad) len cap) (.slice none 0 0)).run Try.prog w = .ok (.bool false) w := fun w => Lib.run_eql_slice_nil w _ _ _ _ _ _ _ Try.underlying33
    go_enter Try.func35, Try.ntmps35
    go_wp2_with (at_builtin; go_loud (refine append_ints rfl _ _ 33 rfl w.heap.size 5 .u8 1 Try.underlying33 info_u807 _ 0 [] rfl hown0.out (some ad) len cap w.heap.size b rfl (HI.out.below hbel0.out) HN.out ?c1 ?c2 (by simp) ?_))
    case c1 => unfold maxLen; omega
    case c2 => omega
    intro v2 w2 hown hgrow _
    have hown2 : w2.ownsRow w.heap.size 5 1 v2 b.length (b.map (Value.int .u8)) := by rw [hbl.out]; simpa using hown
    have HO := Lib.hid hown2
    have HB : RowKit.Hid (Below w.heap.size w w2) := hbel0.out.grown hgrow (by simp) (own_base hown0.out)
    clear hown hown2 hgrow
    go_wp2
    go_ret
    exact ⟨_, rfl, HO.out, HB.out⟩

/-- A new decoder. -/
def DrcNewPost (b : List Int) (w : World) (x : Ending) (w' : World) : Prop :=
  ∃ g v, x = .returned (.pointer (some ⟨g, 0, none⟩)) ∧ DrcAt w' w.heap.size g v b (decNew (byteF b)) ∧ Below w.heap.size w w'
set_option maxRecDepth 100000 in
theorem drcNew_any (a : Option Addr) (len cap : Nat) (b : List Int) (w : World) (h : IntsAt w w.heap.size .u8 a len b) (hn : a = none → cap = 0) (hb : ∀ j, 0 ≤ byteF b j ∧ byteF b j ≤ 255) (hl : len ≤ 1000000) :
    Calls Try.prog 20 #[.slice a len cap] w (DrcNewPost b w) := by
  have HI := Lib.hid h
  have HN := Lib.hid hn
  have HBy := Lib.hid hb
  have hbl : b.length ≤ 1000000 := by rw [h.1]; exact hl
  clear h hn hb
  go_enter Try.func20, Try.ntmps20
  go_wp2_with (go_at_call 35; go_loud (refine (clone8_any a len cap b _ HI.out HN.out hl).mono ?_); rintro e1 w1 ⟨v, rfl, hown, hb⟩; obtain ⟨a2, cp2, rfl⟩ := own_form hown; have HO := Lib.hid hown; have HB := Lib.hid hb; clear hown hb)
  have H0 : RowKit.Hid (DrcR (w1.alloc (.cells #[.slice a2 b.length cp2, .int .i64 0, .int .u32 0, .int .u32 0] 69)) w.heap.size w1.heap.size (.slice a2 b.length cp2) b 0 0 0 ∧ Below w.heap.size w (w1.alloc (.cells #[.slice a2 b.length cp2, .int .i64 0, .int .u32 0, .int .u32 0] 69))) :=
    ⟨⟨Cel.new w1 _ _, World.ownsRow.alloc HO.out _, HB.out.size⟩, HB.out.alloc HB.out.size _⟩
  have hsz := HB.out.size
  clear HO HB
  generalize hgg : w1.heap.size = g at H0 hsz ⊢
  generalize (w1.alloc (.cells #[.slice a2 b.length cp2, .int .i64 0, .int .u32 0, .int .u32 0] 69)) = w2 at H0 ⊢
  clear hgg
  go_loopw [8] (fun i wr => ∃ q : Nat, q ≤ 4 ∧ i = .int .i64 q ∧ RowKit.Hid (DrcR wr w.heap.size g (.slice a2 b.length cp2) b 0 (valB (byteF b) q) 0 ∧ Below w.heap.size w wr ∧ valB (byteF b) q < P256 q ∧ 0 ≤ valB (byteF b) q)) (fun i _ => 4 - (intOf i).toNat)
  case atStart => exact ⟨0, by omega, rfl, H0.out.1, H0.out.2, by show (0 : Int) < 1; decide, Int.le_refl 0⟩
  case round =>
    obtain ⟨q, hq, rfl, H⟩ := hrel
    clear H0
    by_cases hlt : q < 4
    · have hv1 : valB (byteF b) q ≤ 16777215 := by
        have h1 := H.out.2.2.1
        have : q = 0 ∨ q = 1 ∨ q = 2 ∨ q = 3 := by omega
        rcases this with rfl | rfl | rfl | rfl
        · have e : P256 0 = 1 := by decide
          omega
        · have e : P256 1 = 256 := by decide
          omega
        · have e : P256 2 = 65536 := by decide
          omega
        · have e : P256 3 = 16777216 := by decide
          omega
      have hv0 := H.out.2.2.2
      have hbq := HBy.out q
      obtain ⟨y0, y1, y2, y3⟩ := H.out.1.cells
      obtain ⟨x1, x2, x3⟩ := H.out.1.fz
      clear y0 y1 y3 x1 x3
      have HV : RowKit.Hid (valB (byteF b) (q + 1) = valB (byteF b) q * 256 + byteF b q) := rfl
      have HP : RowKit.Hid (valB (byteF b) (q + 1) < P256 (q + 1)) := by
        have h1 := H.out.2.2.1
        show _ < _
        rw [HV.out, P256_succ]; omega
      have T1 := Lib.hid (H.out.1.setCode (valB (byteF b) (q + 1)))
      have K1 := Lib.hid (H.out.2.1.setCell (p := ⟨g, 2, none⟩) hsz (.int .u32 (valB (byteF b) (q + 1))))
      have HD : RowKit.Hid (∀ n, DrcR (wr.drewN n) w.heap.size g (.slice a2 b.length cp2) b 0 (valB (byteF b) q) 0) := fun n => H.out.1
      have hor := u32_or_byte hv0 hv1 hbq.1 hbq.2
      have hwx : IntKind.u32.wrap (byteF b q) = byteF b q := IntWalk.u32_in _ (by omega)
      have hwr : IntKind.u32.wrap (valB (byteF b) q * 256) = valB (byteF b) q * 256 := IntWalk.u32_in _ (by omega)
      have hq1 : (q : Int) < 4 := by omega
      rw [HV.out] at T1 K1
      go_wp2
      go_still_tail 8, (by kernel_rfl)
      repeat still_step
      still_call ((drcDigit_any w.heap.size g (.slice a2 b.length cp2) b 0 _ 0 q _ _ rfl (HD.out 1) hbl (by omega)).mono fun _ _ h => ⟨h.1, h.2.symm⟩)
      repeat still_step
      refine wpStill_nil ?_
      change wpList _ _ _ _ _ wr.drew
      go_wp2
      go_roundw
      case rel => exact ⟨q + 1, by omega, by go_num, T1.out.drewN 1, Below.drewN' K1.out 1, HP.out, by rw [HV.out]; omega⟩
      case measure => simp [intOf] <;> omega
    · obtain rfl : q = 4 := by omega
      go_wp2
      go_ret
      exact ⟨g, _, rfl, ⟨Nat.le_refl 4, H.out.1⟩, H.out.2.1⟩

end Go.Proofs.Ytgnmnmjicjcffaa

/- What the functions of package rangedec give: a part taken. -/
namespace Go.Proofs.Ytgnmnmjicjcffaa
open Go.RowKit
set_option linter.unusedVariables false

def DrcPost (base g : Nat) (v : Value) (b : List Int) (d : DecS) (w : World) (x : Ending) (w' : World) : Prop :=
  x = .returned (.tuple #[]) ∧ DrcAt w' base g v b d ∧ Keeps (fun j => j = g) w w'

set_option maxHeartbeats 400000 in
set_option maxRecDepth 100000 in
theorem drcTake_any (base g : Nat) (v : Value) (b : List Int) (d : DecS) (low own all : Int) (w : World) (hD : DrcAt w base g v b d) (hb : ∀ j, 0 ≤ byteF b j ∧ byteF b j ≤ 255) (hl : b.length ≤ 1000000) (hi : d.i ≤ 5000000) (hG : GoodD d) (hP : OkP low own all) (hlow : d.s / all * low ≤ d.c) :
    Calls Try.prog 70 #[.pointer (some ⟨g, 0, none⟩), .agg #[.int .u32 low, .int .u32 own, .int .u32 all]] w (DrcPost base g v b (decTake (byteF b) d low own all) w) := by
  have HBy := Lib.hid hb
  have h4 := hD.1
  have HD0 := Lib.hid hD.2
  have hgl := hD.lt.1
  have hpre := decPre_bd hG hP hlow
  obtain ⟨s0, s1, c0, c1⟩ := hG
  obtain ⟨p1, p2, p3, p4, p5⟩ := hP
  obtain ⟨E0, E1, E2⟩ := each_bd s0 s1 p1 p2
  have hput : decTake (byteF b) d low own all = scaleD (byteF b) (decPre d low own all) := rfl
  rw [hput]
  clear hput hD hb
  have HN : RowKit.Hid ((decPre d low own all).c = (if d.s / all * own ≤ d.c - d.s / all * low then d.s / all * own - 1 else d.c - d.s / all * low) ∧ (decPre d low own all).s = d.s / all * own ∧ (decPre d low own all).i = d.i) := ⟨rfl, rfl, rfl⟩
  generalize decPre d low own all = pre at HN hpre ⊢
  obtain ⟨r1, r2, r3, r4⟩ := hpre
  have a2 : 0 ≤ d.s / all * low := Int.mul_nonneg (by omega) p4
  have a3 : d.s / all * (low + own) ≤ d.s / all * all := Int.mul_le_mul_of_nonneg_left p5 (by omega)
  have a4 : d.s / all * 1 ≤ d.s / all * own := Int.mul_le_mul_of_nonneg_left p3 (by omega)
  rw [Int.mul_add] at a3
  have hq : d.s.tdiv all = d.s / all := Int.tdiv_eq_ediv_of_nonneg (by omega)
  have hall : ¬ all = 0 := by omega
  have hall2 : low ≤ 8192 ∧ own ≤ 8192 := by omega
  obtain ⟨E, hE⟩ : ∃ E, d.s / all = E := ⟨_, rfl⟩
  rw [hE] at hq a2 a3 a4 E0 E1 E2 HN hlow
  obtain ⟨A, hA⟩ : ∃ A, E * low = A := ⟨_, rfl⟩
  obtain ⟨O, hO⟩ : ∃ O, E * own = O := ⟨_, rfl⟩
  rw [hA] at a2 a3 HN hlow
  rw [hO] at a3 a4 HN
  have hnot : bits .xor .u32 (if IntKind.u32.signed = true then -1 else IntKind.u32.max) (4294967295 - d.s) = d.s := by
    show bits .xor .u32 IntKind.u32.max (4294967295 - d.s) = d.s
    rw [u32_not07 (by omega) (by omega)]; omega
  obtain ⟨S, hS⟩ : ∃ S, d.s = S := ⟨_, rfl⟩
  rw [hS] at HD0 hnot hq s0 s1 E2 hE
  clear hS
  have HC0 := Lib.hid (Cel.new w 91 #[.int .u32 low, .int .u32 own, .int .u32 all])
  have HB0 := Lib.hid (Below.alloc_new w (.cells #[.int .u32 low, .int .u32 own, .int .u32 all] 91))
  have HD1 := Lib.hid (HD0.out.below HB0.out)
  obtain ⟨w1, hw1⟩ : ∃ w1, w1 = w.alloc (.cells #[.int .u32 low, .int .u32 own, .int .u32 all] 91) := ⟨_, rfl⟩
  rw [← hw1] at HC0 HB0 HD1
  obtain ⟨m0, m1, m2, m3⟩ := HD1.out.cells
  obtain ⟨z1, z2, z3⟩ := HD1.out.fz
  have q0 := HC0.out.cell 0
  have q1 := HC0.out.cell 1
  have q2 := HC0.out.cell 2
  simp only [List.getElem?_toArray, List.getElem?_cons_zero, List.getElem?_cons_succ] at q0 q1 q2
  obtain ⟨X, hX⟩ : ∃ X, X = pre.c := ⟨_, rfl⟩
  have HP : RowKit.Hid (pre = ⟨X, O, d.i⟩) := by
    obtain ⟨c', s', i'⟩ := pre
    obtain ⟨h1, h2, h3⟩ := HN.out
    simp only at h1 h2 h3 hX
    subst h2 h3 hX
    exact rfl
  have HX : RowKit.Hid (X = if O ≤ d.c - A then O - 1 else d.c - A) := by show _ = _; rw [hX]; exact HN.out.1
  have O1 : O ≤ 4294967295 := by omega
  have e1 : IntKind.u32.wrap A = A := IntWalk.u32_in _ (by omega)
  have e2 : IntKind.u32.wrap (d.c - A) = d.c - A := IntWalk.u32_in _ (by omega)
  have e3 : IntKind.u32.wrap (O - 1) = O - 1 := IntWalk.u32_in _ (by omega)
  have e4 : IntKind.u32.wrap O = O := IntWalk.u32_in _ (by omega)
  have e5 : IntKind.u32.wrap E = E := IntWalk.u32_in _ (by omega)
  clear hX E2 a3 a4 m0 m1
  go_enter Try.func70, Try.ntmps70
  go_wp2
  rw [← hw1]
  clear hw1
  go_quiet (fail)
  go_wp2
  have hmin : (if O - 1 < d.c - A then O - 1 else d.c - A) = X := by
    have hx := HX.out
    rcases Int.lt_or_le (d.c - A) O with hlt | hle
    · rw [if_neg (by omega)] at hx ⊢; exact hx.symm
    · rw [if_pos (by omega)] at hx ⊢; exact hx.symm
  obtain ⟨wq, hwq⟩ : ∃ wq, wq = w1.drewN nq := ⟨_, rfl⟩
  have HD2 : RowKit.Hid (DrcR wq base g v b (d.i - 4) d.c (4294967295 - S)) := by rw [hwq]; exact HD1.out.drewN _
  have HC2 : RowKit.Hid (Cel wq w.heap.size 91 #[.int .u32 low, .int .u32 own, .int .u32 all]) := by rw [hwq]; exact HC0.out.drewN _
  have HB2 : RowKit.Hid (Below w.heap.size w wq) := by rw [hwq]; exact Below.drewN' HB0.out _
  rw [← hwq]
  clear hwq m2 m3 z1 z2 z3 q0 q1 q2 HC0 HB0 HD1
  obtain ⟨m0, m1, m2, m3⟩ := HD2.out.cells
  obtain ⟨z1, z2, z3⟩ := HD2.out.fz
  have q0 := HC2.out.cell 0
  simp only [List.getElem?_toArray, List.getElem?_cons_zero] at q0
  clear m0 m1 z1
  go_still_tail 15, (by kernel_rfl)
  repeat still_step
  change wpList _ _ _ _ _ wq.drew
  have H0 : RowKit.Hid (DrcR ((wq.setCell ⟨g, 2, none⟩ (.int .u32 X)).drew) base g v b (d.i - 4) X (4294967295 - S) ∧ Keeps (fun j => j = g) w ((wq.setCell ⟨g, 2, none⟩ (.int .u32 X)).drew)) :=
    ⟨(HD2.out.setCode X).drewN 1, (Keeps.setCell (F := fun j => j = g) (p := ⟨g, 2, none⟩) (Keeps.of_below HB2.out) (.inl rfl) _).drewN 1⟩
  go_wp2
  generalize (wq.setCell ⟨g, 2, none⟩ (.int .u32 X)).drew = w3 at H0 ⊢
  have r5 := HP.out
  rw [r5] at r1 r2 r3 r4
  simp only at r1 r2 r3 r4
  clear r5 m2 m3 z2 z3 q0 HC2 HD2 HB2 e1 e2 e3 e4 e5 hmin HX hall hnot hq hE hA hO HN hlow
  go_loopw [5] (fun s wr => ∃ st : DecS, s = .int .u32 st.s ∧ RowKit.Hid (DecScale b d.i pre st ∧ DrcR wr base g v b (st.i - 4) st.c (4294967295 - S) ∧ Keeps (fun j => j = g) w wr ∧ 4 ≤ st.i)) (fun s _ => (16777216 - intOf s).toNat)
  case atStart => exact ⟨⟨X, O, d.i⟩, rfl, ⟨by rw [HP.out], r1, r2, r3, r4, by simp only; omega, by simp only; omega, by simp only; omega⟩, H0.out.1, H0.out.2, h4⟩
  case round =>
    obtain ⟨st, rfl, H⟩ := hrel
    clear H0
    obtain ⟨S1, b0, b1, b2, b3, b4, b5, b6⟩ := H.out.1
    have HS1 := Lib.hid S1
    clear S1
    have i4 := H.out.2.2.2
    have HD3 := Lib.hid H.out.2.1
    have HK3 := Lib.hid H.out.2.2.1
    clear H
    obtain ⟨st_c, st_s, st_i⟩ := st
    simp only at b0 b1 b2 b3 b4 b5 b6 i4 HD3 HS1 ⊢
    by_cases hlt : st_s < 16777216
    · obtain ⟨k, rfl⟩ : ∃ k, st_i = k + 4 := ⟨st_i - 4, by omega⟩
      rw [Nat.add_sub_cancel] at HD3
      have S2 := Lib.hid (scaleD_step (byteF b) (d := ⟨st_c, st_s, k + 4⟩) (by simp only; omega) hlt)
      obtain ⟨x, hx⟩ : ∃ x, x = byteF b (k + 4) := ⟨_, rfl⟩
      have x01 : 0 ≤ x ∧ x ≤ 255 := by rw [hx]; exact HBy.out _
      have HXx := Lib.hid hx
      clear hx
      obtain ⟨x0, x1⟩ := x01
      have hor := u32_or_byte b2 (by omega) x0 x1
      have f1 : IntKind.u32.wrap (st_c * 256) = st_c * 256 := IntWalk.u32_in _ (by omega)
      have f2 : IntKind.u32.wrap x = x := IntWalk.u32_in _ (by omega)
      have f3 : IntKind.u32.wrap (st_s * 256) = st_s * 256 := IntWalk.u32_in _ (by omega)
      have f4 : IntKind.i64.wrap (4 + (k : Int)) = 4 + (k : Int) := IntWalk.i64_in _ (by omega)
      have f5 : IntKind.i64.wrap ((k : Int) + 1) = (k : Int) + 1 := IntWalk.i64_in _ (by omega)
      have T5 := Lib.hid ((HD3.out.drewN 1).setCode (st_c * 256 + x))
      have K5 := Lib.hid (Keeps.setCell (F := fun j => j = g) (p := ⟨g, 2, none⟩) (HK3.out.drewN 1) (.inl rfl) (.int .u32 (st_c * 256 + x)))
      have T6 : RowKit.Hid (DrcR ((wr.drew.setCell ⟨g, 2, none⟩ (.int .u32 (st_c * 256 + x))).setCell ⟨g, 1, none⟩ (.int .i64 ((k : Int) + 1))) base g v b (k + 1) (st_c * 256 + x) (4294967295 - S)) := T5.out.setMore (k + 1)
      have K6 : RowKit.Hid (Keeps (fun j => j = g) w ((wr.drew.setCell ⟨g, 2, none⟩ (.int .u32 (st_c * 256 + x))).setCell ⟨g, 1, none⟩ (.int .i64 ((k : Int) + 1)))) := Keeps.setCell (F := fun j => j = g) (p := ⟨g, 1, none⟩) K5.out (.inl rfl) _
      have HDr : RowKit.Hid (Calls Try.prog 36 #[.pointer (some ⟨g, 0, none⟩), .int .i64 (4 + (k : Int))] wr.drew fun e w' => e = .returned (.int .u8 x) ∧ w' = wr.drew) := by
        rw [HXx.out]
        exact (drcDigit_any base g v b _ _ _ (k + 4) (4 + (k : Int)) _ (by omega) (HD3.out.drewN 1) hl (by omega)).mono fun _ _ h => ⟨h.1, h.2.symm⟩
      obtain ⟨y0, y1, y2, y3⟩ := HD3.out.cells
      obtain ⟨v1, v2, v3⟩ := HD3.out.fz
      clear y0 y3
      go_wp2
      go_still_tail 17, (by kernel_rfl)
      repeat still_step
      still_call HDr.out
      repeat still_step
      change wpList _ _ _ _ _ wr.drew
      go_wp2
      go_roundw
      case rel => exact ⟨⟨st_c * 256 + x, st_s * 256, k + 5⟩, rfl, ⟨by rw [← HS1.out, S2.out, HXx.out], by simp only; omega, by simp only; omega, by simp only; omega, by simp only; omega, by simp only; omega, by simp only; omega, by simp only; omega⟩, T6.out, K6.out, by simp only; omega⟩
      case measure => simp [intOf] <;> omega
    · have Z : RowKit.Hid (scaleD (byteF b) pre = ⟨st_c, st_s, st_i⟩) := by
        show _ = _
        rw [← HS1.out]; exact scaleD_end _ (by simp only; omega)
      have hn2 : bits .xor .u32 (if IntKind.u32.signed = true then -1 else IntKind.u32.max) st_s = 4294967295 - st_s := u32_not07 (by omega) (by omega)
      obtain ⟨y0, y1, y2, y3⟩ := HD3.out.cells
      obtain ⟨v1, v2, v3⟩ := HD3.out.fz
      have T5 := Lib.hid (HD3.out.setLess (4294967295 - st_s))
      have K5 := Lib.hid (Keeps.setCell (F := fun j => j = g) (p := ⟨g, 3, none⟩) HK3.out (.inl rfl) (.int .u32 (4294967295 - st_s)))
      clear y0 y1
      go_wp2
      go_end0
      exact ⟨rfl, by rw [Z.out]; exact ⟨i4, T5.out⟩, K5.out⟩
end Go.Proofs.Ytgnmnmjicjcffaa

/- Plain facts of the program's encoder of layer 6: digits ahead, one carried over, four more behind. Nothing here speaks of the program. -/
namespace Go.Proofs.Ytgnmnmjicjcffaa
open Go
set_option linter.unusedVariables false

theorem IsDig.set_ {D : List Int} (h : IsDig D) (j : Nat) {x : Int} (x0 : 0 ≤ x) (x1 : x ≤ 255) : IsDig (D.set j x) := by
  intro i hi
  rw [List.length_set] at hi
  by_cases hj : j < D.length
  · rw [getD_set' D j i x hj]
    split
    · exact ⟨x0, x1⟩
    · exact h i hi
  · rw [List.set_eq_of_length_le (by omega)]; exact h i hi
theorem IsDig.snoc {D : List Int} (h : IsDig D) {x : Int} (x0 : 0 ≤ x) (x1 : x ≤ 255) : IsDig (D ++ [x]) := by
  intro i hi
  rw [List.length_append] at hi
  by_cases hj : i < D.length
  · have := h i hj
    simpa [List.getD, List.getElem?_append, hj] using this
  · obtain rfl : i = D.length := by simp at hi; omega
    simp [List.getD]; omega
theorem isDig_nil : IsDig [] := fun j hj => by simp at hj
/-- A digit that is full: it is a nought, and one is carried on. -/
theorem carry_full {D : List Int} {K p : Nat} {V : Int} (hd : IsDig D) (hl : D.length = K) (hp : p < K) (hx : D.getD p 0 = 255) (hv : valL D + P256 (K - (p + 1)) = V) :
    IsDig (D.set p 0) ∧ (D.set p 0).length = K ∧ valL (D.set p 0) + P256 (K - p) = V := by
  refine ⟨hd.set_ p (by omega) (by omega), by rw [List.length_set]; exact hl, ?_⟩
  rw [valL_set D (by omega), hx, hl, show K - p = (K - (p + 1)) + 1 by omega, P256_succ, show K - 1 - p = K - (p + 1) by omega]
  omega
/-- A digit that isn't: the carrying ends. -/
theorem carry_done {D : List Int} {K p : Nat} {V : Int} (hd : IsDig D) (hl : D.length = K) (hp : p < K) (hx : D.getD p 0 ≤ 254) (hv : valL D + P256 (K - (p + 1)) = V) :
    IsDig (D.set p (D.getD p 0 + 1)) ∧ (D.set p (D.getD p 0 + 1)).length = K ∧ valL (D.set p (D.getD p 0 + 1)) = V := by
  have := hd p (by omega)
  refine ⟨hd.set_ p (by omega) (by omega), by rw [List.length_set]; exact hl, ?_⟩
  rw [valL_set D (by omega), hl, show K - 1 - p = K - (p + 1) by omega, show D.getD p 0 + 1 - D.getD p 0 = 1 by omega]
  omega
/-- The last four digits. -/
def four (x : Int) : List Int := [x / 16777216 % 256, x / 65536 % 256, x / 256 % 256, x % 256]
theorem four_len (x : Int) : (four x).length = 4 := rfl
theorem four_val {D : List Int} (h : IsDig D) {x : Int} (x0 : 0 ≤ x) (x1 : x ≤ 4294967295) : IsDig (D ++ four x) ∧ valL (D ++ four x) = valL D * 4294967296 + x := by
  have e : D ++ four x = (((D ++ [x / 16777216 % 256]) ++ [x / 65536 % 256]) ++ [x / 256 % 256]) ++ [x % 256] := by simp [four]
  rw [e]
  refine ⟨(((h.snoc (by omega) (by omega)).snoc (by omega) (by omega)).snoc (by omega) (by omega)).snoc (by omega) (by omega), ?_⟩
  rw [valL_snoc, valL_snoc, valL_snoc, valL_snoc]
  omega
theorem four_dig {D : List Int} {k : Nat} {n x : Int} (h : IsDig D) (hl : D.length = k) (x0 : 0 ≤ x) (x1 : x ≤ 4294967295) (hn : n = valL D * 4294967296 + x) : D ++ four x = digL n (k + 4) := by
  obtain ⟨h1, h2⟩ := four_val h x0 x1
  have := dig_unique h1
  rw [h2, ← hn, List.length_append, four_len, hl] at this
  exact this
end Go.Proofs.Ytgnmnmjicjcffaa

/- What the functions of package model give, for whatever arguments. -/
namespace Go.Proofs.Ytgnmnmjicjcffaa
open Go.RowKit
set_option linter.unusedVariables false

/-- A model's cells: how often each symbol comes, noughts behind them, how many there are, does it learn? -/
def modCells (l : List Int) (fx : Bool) : List Value := ((l ++ List.replicate (64 - l.length) 0).map (Value.int .u32)) ++ [.int .i64 l.length, .bool (!fx)]
/-- Block g is a model of the list l; fx: it never learns. -/
def ModAt (w : World) (g : Nat) (l : List Int) (fx : Bool) : Prop := l.length ≤ 64 ∧ Cel w g 106 (modCells l fx).toArray
section
variable {w w' : World} {g : Nat} {l : List Int} {fx : Bool}
theorem modCells_at (h : l.length ≤ 64) {j : Nat} (hj : j < l.length) : (modCells l fx)[j]? = some (.int .u32 (l.getD j 0)) := by
  unfold modCells
  rw [List.getElem?_append_left (by simp; omega), List.getElem?_map, List.getElem?_append_left hj]
  simp [List.getD, hj]
theorem modCells_count (h : l.length ≤ 64) : (modCells l fx)[64]? = some (.int .i64 l.length) := by
  unfold modCells
  rw [List.getElem?_append_right (by simp; omega)]
  simp [show 64 - (l.length + (64 - l.length)) = 0 by omega]
theorem modCells_learns (h : l.length ≤ 64) : (modCells l fx)[65]? = some (.bool (!fx)) := by
  unfold modCells
  rw [List.getElem?_append_right (by simp; omega)]
  simp [show 65 - (l.length + (64 - l.length)) = 1 by omega]
theorem modCells_set (h : l.length ≤ 64) {j : Nat} (hj : j < l.length) (x : Int) : (modCells l fx).set j (.int .u32 x) = modCells (l.set j x) fx := by
  unfold modCells
  rw [List.set_append_left _ _ (by simp; omega), List.length_set, ← List.map_set, List.set_append_left _ _ hj]
theorem ModAt.lt (h : ModAt w g l fx) : g < w.heap.size := h.2.lt
theorem ModAt.at_ (h : ModAt w g l fx) {j : Nat} (hj : j < l.length) : w.cell? ⟨g, j, none⟩ = some (.int .u32 (l.getD j 0)) := by
  rw [h.2.cell j, List.getElem?_toArray, modCells_at h.1 hj]
theorem ModAt.count (h : ModAt w g l fx) : w.cell? ⟨g, 64, none⟩ = some (.int .i64 l.length) := by
  rw [h.2.cell 64, List.getElem?_toArray, modCells_count h.1]
theorem ModAt.learns (h : ModAt w g l fx) : w.cell? ⟨g, 65, none⟩ = some (.bool (!fx)) := by
  rw [h.2.cell 65, List.getElem?_toArray, modCells_learns h.1]
theorem ModAt.frozen (h : ModAt w g l fx) (j : Nat) : w.frozen? ⟨g, j, none⟩ = false := h.2.frozen j
theorem ModAt.drewN (h : ModAt w g l fx) (n : Nat) : ModAt (w.drewN n) g l fx := h
theorem ModAt.keep (h : ModAt w g l fx) (hk : w'.heap[g]? = w.heap[g]?) : ModAt w' g l fx := ⟨h.1, h.2.keep hk⟩
theorem ModAt.keeps {F : Nat → Prop} (h : ModAt w g l fx) (hk : Keeps F w w') (hn : ¬ F g) : ModAt w' g l fx := ⟨h.1, h.2.keeps hk hn⟩
theorem ModAt.below (h : ModAt w g l fx) (hk : Below w.heap.size w w') : ModAt w' g l fx := ⟨h.1, h.2.below hk⟩
theorem ModAt.stored (h : ModAt w g l fx) {j : Nat} (hj : j < l.length) (x : Int) : ModAt (w.setCell ⟨g, j, none⟩ (.int .u32 x)) g (l.set j x) fx := by
  refine ⟨by rw [List.length_set]; exact h.1, ?_⟩
  have := h.2.set_ j (.int .u32 x)
  rw [List.setIfInBounds_toArray, modCells_set h.1 hj] at this
  exact this
theorem ModAt.ints (h : ModAt w g l fx) : IntsAt w w.heap.size .u32 (some ⟨g, 0, none⟩) l.length l :=
  ⟨rfl, .inr ⟨g, 0, rfl, h.lt, by have := h.1; omega, fun j hj => by rw [Nat.zero_add]; exact h.at_ hj⟩⟩
end
theorem IntsAt.drewN {w : World} {B len : Nat} {k : IntKind} {a : Option Addr} {zs : List Int} (h : IntsAt w B k a len zs) (n : Nat) : IntsAt (w.drewN n) B k a len zs := h
theorem IntsAt.take {w : World} {B len : Nat} {k : IntKind} {a : Option Addr} {zs : List Int} (h : IntsAt w B k a len zs) {n : Nat} (hn : n ≤ len) : IntsAt w B k a n (zs.take n) := by
  obtain ⟨h1, h2⟩ := h
  refine ⟨by simp; omega, ?_⟩
  rcases h2 with h2 | ⟨b, off, e, h3, h4, h5⟩
  · exact .inl (by omega)
  · refine .inr ⟨b, off, e, h3, by omega, fun j hj => ?_⟩
    rw [h5 j (by omega)]
    simp [List.getD, hj]

theorem syms_slice (g n : Nat) (hn : n ≤ 64) (w : World) : (Instr.sliceAt 104 (.pointer (some ⟨g, 0, none⟩)) none (some (.int .i64 (n : Int))) none).run Try.prog w = .ok (.slice (some ⟨g, 0, none⟩) n 64) w := by
  have e : Try.prog.arrayLen 104 = 64 := by kernel_rfl
  have e2 : Try.prog.elem 104 = 54 := by kernel_rfl
  have ht : Try.prog.underlying 104 = some (.array (Try.prog.arrayLen 104) (Try.prog.elem 104)) := by kernel_rfl
  have es : (sizeOf 54).run Try.prog w = .ok 1 w := by kernel_rfl
  rw [run_sliceAt_array_h w _ _ ht .i64 n (by omega) (by rw [e]; omega), e, e2, es]
  simp [Result.andThen, slicedAt, Addr.add]
theorem syms_all (g : Nat) (w : World) : (Instr.sliceAt 104 (.pointer (some ⟨g, 0, none⟩)) none none none).run Try.prog w = .ok (.slice (some ⟨g, 0, none⟩) 64 64) w := by
  have e : Try.prog.arrayLen 104 = 64 := by kernel_rfl
  have e2 : Try.prog.elem 104 = 54 := by kernel_rfl
  have ht : Try.prog.underlying 104 = some (.array (Try.prog.arrayLen 104) (Try.prog.elem 104)) := by kernel_rfl
  have es : (sizeOf 54).run Try.prog w = .ok 1 w := by kernel_rfl
  rw [run_sliceAt_array_all w _ _ ht, e, e2, es]
  simp [Result.andThen, slicedAt, Addr.add]

theorem modSyms_nil (w : World) :
    Calls Try.prog 66 #[.pointer none] w fun e w' => e = .returned (.slice none 0 0) ∧ w = w' := by
  go_enter Try.func66, Try.ntmps66
  go_wp2
  go_ret
  exact ⟨rfl, rfl⟩
theorem modSyms_any (g : Nat) (l : List Int) (fx : Bool) (w : World) (h : ModAt w g l fx) :
    Calls Try.prog 66 #[.pointer (some ⟨g, 0, none⟩)] w fun e w' => e = .returned (.slice (some ⟨g, 0, none⟩) l.length 64) ∧ ∃ n, w' = w.drewN n := by
  have c0 := h.count
  have h64 := h.1
  have hsl := fun w => syms_slice g l.length h64 w
  clear h
  go_enter Try.func66, Try.ntmps66
  go_wp2
  go_quiet (fail)
  go_wp2
  go_ret
  exact ⟨rfl, nq, rfl⟩

theorem modLen_nil (w : World) :
    Calls Try.prog 74 #[.pointer none] w fun e w' => e = .returned (.int .i64 0) ∧ w = w' := by
  go_enter Try.func74, Try.ntmps74
  go_wp2_with (go_at_call 66; refine (modSyms_nil _).mono ?_; rintro e w' ⟨rfl, rfl⟩)
  go_ret
  exact ⟨rfl, rfl⟩
theorem modLen_any (g : Nat) (l : List Int) (fx : Bool) (w : World) (h : ModAt w g l fx) :
    Calls Try.prog 74 #[.pointer (some ⟨g, 0, none⟩)] w fun e w' => e = .returned (.int .i64 l.length) ∧ ∃ n, w' = w.drewN n := by
  have H := Lib.hid h
  clear h
  go_enter Try.func74, Try.ntmps74
  go_wp2_with (go_at_call 66; refine (modSyms_any g l fx _ H.out).mono ?_; rintro e w' ⟨rfl, nq, rfl⟩)
  go_ret
  exact ⟨rfl, nq, rfl⟩
theorem modHas_nil (s : Int) (w : World) :
    Calls Try.prog 65 #[.pointer none, .int .i64 s] w fun e w' => e = .returned (.bool false) ∧ w = w' := by
  by_cases h0 : 0 ≤ s
  · go_enter Try.func65, Try.ntmps65
    go_wp2_with (go_at_call 74; refine (modLen_nil _).mono ?_; rintro e w' ⟨rfl, rfl⟩)
    go_ret
    exact ⟨ret_bool (by simp <;> omega), rfl⟩
  · have hd : decide (0 ≤ s) = false := by simp; omega
    go_enter Try.func65, Try.ntmps65
    go_wp2
    go_ret
    exact ⟨rfl, rfl⟩
theorem modHas_any (g : Nat) (l : List Int) (fx : Bool) (s : Int) (w : World) (h : ModAt w g l fx) :
    Calls Try.prog 65 #[.pointer (some ⟨g, 0, none⟩), .int .i64 s] w fun e w' => e = .returned (.bool (decide (0 ≤ s ∧ s < l.length))) ∧ ∃ n, w' = w.drewN n := by
  have H := Lib.hid h
  clear h
  by_cases h0 : 0 ≤ s
  · go_enter Try.func65, Try.ntmps65
    go_wp2_with (go_at_call 74; refine (modLen_any g l fx _ H.out).mono ?_; rintro e w' ⟨rfl, nq, rfl⟩)
    go_ret
    exact ⟨ret_bool (by simp [h0]), nq, rfl⟩
  · have hd : decide (0 ≤ s) = false := by simp; omega
    go_enter Try.func65, Try.ntmps65
    go_wp2
    go_ret
    exact ⟨ret_bool (by simp <;> omega), 0, rfl⟩

theorem modSum_any (a : Option Addr) (len cap B : Nat) (zs : List Int) (w : World) (h : IntsAt w B .u32 a len zs) (hl : len ≤ 64) (hb : ∀ j, j < len → 0 ≤ zs.getD j 0) (hs : sumN zs len ≤ 4294967295) :
    Calls Try.prog 67 #[.slice a len cap] w fun e w' => e = .returned (.int .u32 (sumN zs len)) ∧ w = w' := by
  have H0 := Lib.hid h
  have HB := Lib.hid hb
  have HL := Lib.hid h.1
  have HS := Lib.hid hs
  clear h hb hs
  go_enter Try.func67, Try.ntmps67
  go_wp2
  go_loop [3, 5, 8] (fun s _ i => ∃ k : Nat, k ≤ len ∧ i = .int .i64 k ∧ s = .int .u32 (sumN zs k)) (fun _ _ i => len - (intOf i).toNat)
  case atStart => exact ⟨0, by omega, rfl, by rw [sumN_zero]⟩
  case round =>
    obtain ⟨k, hk, rfl, rfl⟩ := hrel
    by_cases hlt : k < len
    · obtain ⟨b, off, rfl, _, _, hcell⟩ := H0.out.at_ hlt
      have x0 := HB.out k hlt
      have E := Lib.hid (sumN_succ zs k (by rw [HL.out]; exact hlt))
      have m1 := sumN_rise (l := zs) (fun j hj => HB.out j (by rw [← HL.out]; exact hj)) (m := k + 1) (n := len) (by omega) (by rw [HL.out]; exact Nat.le_refl _)
      have m0 := sumN_rise (l := zs) (fun j hj => HB.out j (by rw [← HL.out]; exact hj)) (m := 0) (n := k) (by omega) (by rw [HL.out]; omega)
      rw [sumN_zero] at m0
      rw [E.out] at m1
      have m2 := HS.out
      generalize zs.getD k 0 = x at hcell x0 E m1
      have E2 : RowKit.Hid (sumN zs (k + 1) = sumN zs k + x) := E.out
      clear E
      generalize sumN zs k = y at m0 m1 E2 ⊢
      have u1 : y + x ≤ 4294967295 := by omega
      clear m1 m2
      go_wp2
      go_round
      case rel => exact ⟨k + 1, by omega, by go_num, by rw [E2.out]⟩
      case measure => simp [intOf] <;> omega
    · obtain rfl : k = len := by omega
      go_wp2
      go_ret
      exact ⟨rfl, rfl⟩

/-- A model's part. -/
def partV (l : List Int) (s : Nat) : Value := .agg #[.int .u32 (sumN l s), .int .u32 (l.getD s 0), .int .u32 l.sum]
theorem sumN_take (l : List Int) (n : Nat) : sumN (l.take n) n = sumN l n := by unfold sumN; rw [List.take_take, Nat.min_self]

theorem modSum_at (g : Nat) (l : List Int) (fx : Bool) (n cap : Nat) (w : World) (h : ModAt w g l fx) (hG : GoodL l) (hn : n ≤ l.length) :
    Calls Try.prog 67 #[.slice (some ⟨g, 0, none⟩) n cap] w fun e w' => e = .returned (.int .u32 (sumN l n)) ∧ w = w' := by
  have h64 := h.1
  have b := hG.sum_le hn
  have k := modSum_any (some ⟨g, 0, none⟩) n cap w.heap.size (l.take n) w (h.ints.take hn) (by omega) (fun j hj => ?_) (by rw [sumN_take]; omega)
  · rw [sumN_take] at k
    exact k
  · have := hG.own (j := j) (by omega)
    simp [List.getD, hj] at this ⊢
    omega
set_option maxRecDepth 100000 in
theorem modPart_any (g : Nat) (l : List Int) (fx : Bool) (s : Nat) (w : World) (h : ModAt w g l fx) (hG : GoodL l) (hs : s < l.length) :
    Calls Try.prog 58 #[.pointer (some ⟨g, 0, none⟩), .int .i64 s] w fun e w' => e = .returned (.tuple #[partV l s, .int .i64 0]) ∧ Below w.heap.size w w' := by
  have H := Lib.hid h
  have HG := Lib.hid hG
  have hsl : (s : Int) < (l.length : Int) := by omega
  have hd : decide (0 ≤ (s : Int) ∧ (s : Int) < l.length) = true := by simp; omega
  have h64 := h.1
  have HA := Lib.hid (h.below (Below.alloc_new w (.cells #[.int .u32 0, .int .u32 0, .int .u32 0] 91)))
  have hc := Lib.hid (Cel.new w 91 #[.int .u32 0, .int .u32 0, .int .u32 0])
  have hB := Lib.hid (Below.alloc_new w (.cells #[.int .u32 0, .int .u32 0, .int .u32 0] 91))
  clear h hG
  go_enter Try.func58, Try.ntmps58
  go_wp2_with (first | (go_at_call 65; go_loud (refine (modHas_any g l fx _ _ HA.out).mono ?_); rintro e w' ⟨rfl, n1, rfl⟩; rw [hd]; have HA1 := Lib.hid (HA.out.drewN n1)) | (go_at_call 66; go_loud (refine (modSyms_any g l fx _ HA1.out).mono ?_); rintro e w' ⟨rfl, n2, rfl⟩))
  obtain ⟨w1, hw1⟩ : ∃ w1, w1 = (w.alloc (.cells #[.int .u32 0, .int .u32 0, .int .u32 0] 91)).drewN (n1 + n2) := ⟨_, rfl⟩
  rw [← hw1]
  have HM : RowKit.Hid (ModAt w1.drew g l fx) := by rw [hw1]; exact HA.out
  have hc1 : Cel w1 w.heap.size 91 #[.int .u32 0, .int .u32 0, .int .u32 0] := by rw [hw1]; exact hc.out
  have HB1 : RowKit.Hid (Below w.heap.size w w1.drew) := by rw [hw1]; exact Below.drewN' hB.out (n1 + n2 + 1)
  clear hw1 HA HA1 hc hB
  have x1 : w1.cell? ⟨g, s, none⟩ = some (.int .u32 (l.getD s 0)) := HM.out.at_ hs
  obtain ⟨y0, y1⟩ := HG.out.own hs
  have HV : RowKit.Hid (partV l s = .agg #[.int .u32 (sumN l s), .int .u32 (l.getD s 0), .int .u32 (sumN l l.length)]) := by show _ = _; rw [sumN_all]; exact rfl
  generalize l.getD s 0 = x at x1 y0 y1 HV
  have c0 := hc1.cell 0
  have c1 := hc1.cell 1
  have c2 := hc1.cell 2
  simp only [List.getElem?_toArray, List.getElem?_cons_zero, List.getElem?_cons_succ] at c0 c1 c2
  have f0 := hc1.frozen 0
  have f1 := hc1.frozen 1
  have f2 := hc1.frozen 2
  clear hc1
  have s64 : (s : Int) ≤ 64 := by omega
  go_still_tail 11, (by kernel_rfl)
  still_call ((modSum_at g l fx s _ _ HM.out HG.out (by omega)).mono fun _ _ h => ⟨h.1, h.2.symm⟩)
  repeat still_step
  still_call ((modSum_at g l fx l.length _ _ HM.out HG.out (by omega)).mono fun _ _ h => ⟨h.1, h.2.symm⟩)
  repeat still_step
  refine wpStill_nil ?_
  change wpList _ _ _ _ _ w1.drew
  go_wp2
  refine bodyPost_ret (v := .tuple #[.agg #[.int .u32 (sumN l s), .int .u32 x, .int .u32 (sumN l l.length)], .int .i64 0]) (by simp [results, Try.results58, go_sem, c0, c1, c2]) rfl ⟨by rw [HV.out], ?_⟩
  exact ((HB1.out.setCell (p := ⟨w.heap.size, 0, none⟩) (Nat.le_refl _) _).setCell (p := ⟨w.heap.size, 1, none⟩) (Nat.le_refl _) _).setCell (p := ⟨w.heap.size, 2, none⟩) (Nat.le_refl _) _
/-- No part. -/
def partZ : Value := .agg #[.int .u32 0, .int .u32 0, .int .u32 0]
set_option maxRecDepth 100000 in
theorem modPart_out (g : Nat) (l : List Int) (fx : Bool) (s : Int) (w : World) (h : ModAt w g l fx) (hs : ¬ (0 ≤ s ∧ s < l.length)) :
    Calls Try.prog 58 #[.pointer (some ⟨g, 0, none⟩), .int .i64 s] w fun e w' => e = .returned (.tuple #[partZ, .int .i64 1]) ∧ Below w.heap.size w w' := by
  have hd : decide (0 ≤ s ∧ s < (l.length : Int)) = false := by simpa using hs
  have HA := Lib.hid (h.below (Below.alloc_new w (.cells #[.int .u32 0, .int .u32 0, .int .u32 0] 91)))
  have hB := Lib.hid (Below.alloc_new w (.cells #[.int .u32 0, .int .u32 0, .int .u32 0] 91))
  clear h hs
  go_enter Try.func58, Try.ntmps58
  go_wp2_with (go_at_call 65; go_loud (refine (modHas_any g l fx _ _ HA.out).mono ?_); rintro e w' ⟨rfl, n1, rfl⟩; rw [hd])
  refine bodyPost_ret (v := .tuple #[.agg #[.int .u32 0, .int .u32 0, .int .u32 0], .int .i64 1]) (by simp [results, Try.results58, go_sem]) rfl ⟨rfl, ?_⟩
  exact (((Below.drewN' hB.out n1).setCell (p := ⟨w.heap.size, 0, none⟩) (Nat.le_refl _) _).setCell (p := ⟨w.heap.size, 1, none⟩) (Nat.le_refl _) _).setCell (p := ⟨w.heap.size, 2, none⟩) (Nat.le_refl _) _
set_option maxRecDepth 100000 in
theorem modPart_nil (s : Int) (w : World) :
    Calls Try.prog 58 #[.pointer none, .int .i64 s] w fun e w' => e = .returned (.tuple #[partZ, .int .i64 1]) ∧ Below w.heap.size w w' := by
  have hB := Lib.hid (Below.alloc_new w (.cells #[.int .u32 0, .int .u32 0, .int .u32 0] 91))
  go_enter Try.func58, Try.ntmps58
  go_wp2_with (go_at_call 65; go_loud (refine (modHas_nil _ _).mono ?_); rintro e w' ⟨rfl, rfl⟩)
  refine bodyPost_ret (v := .tuple #[.agg #[.int .u32 0, .int .u32 0, .int .u32 0], .int .i64 1]) (by simp [results, Try.results58, go_sem]) rfl ⟨rfl, ?_⟩
  exact hB.out

/-! ### Find -/
theorem modFind_nil (at' : Int) (w : World) :
    Calls Try.prog 71 #[.pointer none, .int .u32 at'] w fun e w' => e = .returned (.int .i64 0) ∧ w = w' := by
  go_enter Try.func71, Try.ntmps71
  go_wp2_with (go_at_call 66; refine (modSyms_nil _).mono ?_; rintro e w' ⟨rfl, rfl⟩)
  refine wp_loop_rounds 1 ?_
  rw [rounds_succ]
  go_wp2
  go_ret
  exact ⟨rfl, rfl⟩
set_option maxRecDepth 100000 in
theorem modFind_any (g : Nat) (l : List Int) (fx : Bool) (at' : Int) (w : World) (h : ModAt w g l fx) (hG : GoodL l) :
    Calls Try.prog 71 #[.pointer (some ⟨g, 0, none⟩), .int .u32 at'] w fun e w' => e = .returned (.int .i64 (findP l at')) ∧ ∃ n, w' = w.drewN n := by
  have H := Lib.hid h
  have HG := Lib.hid hG
  have h64 := h.1
  have h1 := hG.1
  clear h hG
  go_enter Try.func71, Try.ntmps71
  go_wp2_with (go_at_call 66; go_loud (refine (modSyms_any g l fx _ H.out).mono ?_); rintro e w' ⟨rfl, n2, rfl⟩)
  go_loop [5, 6, 7, 8, 12] (fun f s _ _ i => ∃ k : Nat, k ≤ l.length ∧ i = .int .i64 k ∧ s = .int .u32 (sumN l k) ∧ (f = .int .i64 ((k : Int) - 1) ∨ (k = 0 ∧ f = .int .i64 0)) ∧ RowKit.Hid (findGo l at' k (l.length - k) = findP l at')) (fun _ _ _ _ i => l.length - (intOf i).toNat)
  case atStart => exact ⟨0, by omega, rfl, by rw [sumN_zero], .inr ⟨rfl, rfl⟩, rfl⟩
  case round =>
    obtain ⟨k, hk, rfl, rfl, hf, HF⟩ := hrel
    by_cases hlt : k < l.length
    · have hcell := H.out.at_ hlt
      have x0 := HG.out.own hlt
      have y0 := HG.out.sum_le (n := k) (by omega)
      have y1 := HG.out.sum_le (n := k + 1) (by omega)
      have E := Lib.hid (sumN_succ l k hlt)
      have S : RowKit.Hid (findGo l at' k (l.length - k) = if at' < sumN l (k + 1) then k else findGo l at' (k + 1) (l.length - (k + 1))) := by
        rw [show l.length - k = (l.length - (k + 1)) + 1 by omega]; exact rfl
      rw [E.out] at y1
      have hkl : (k : Int) < (l.length : Int) := by omega
      generalize l.getD k 0 = x at hcell x0 y1 E
      by_cases hs : at' < sumN l (k + 1)
      · have Z : RowKit.Hid (((k : Nat) : Int) = ((findP l at' : Nat) : Int)) := by
          have := S.out
          rw [if_pos hs, HF.out] at this
          show (k : Int) = (findP l at' : Int)
          rw [this]
        rw [E.out] at hs
        clear E S
        generalize sumN l k = y at y0 y1 hs ⊢
        go_wp2
        go_ret
        exact ⟨ret_int Z.out, n2, rfl⟩
      · have Z : RowKit.Hid (findGo l at' (k + 1) (l.length - (k + 1)) = findP l at') := by
          have := S.out
          rw [if_neg hs, HF.out] at this
          exact this.symm
        rw [E.out] at hs
        have E2 : RowKit.Hid (sumN l (k + 1) = sumN l k + x) := E.out
        clear E S
        generalize sumN l k = y at y0 y1 hs E2 ⊢
        go_wp2
        go_round
        case rel => exact ⟨k + 1, by omega, by go_num, by rw [E2.out], .inl (by go_num), Z.out⟩
        case measure => simp [intOf] <;> omega
    · have Z : RowKit.Hid ((k : Int) - 1 = ((findP l at' : Nat) : Int)) := by
        have := HF.out
        rw [show l.length - k = 0 by omega] at this
        show (k : Int) - 1 = (findP l at' : Int)
        rw [← this]
        show (k : Int) - 1 = ((l.length - 1 : Nat) : Int)
        omega
      rcases hf with rfl | ⟨rfl, _⟩
      · go_wp2
        go_ret
        exact ⟨ret_int Z.out, n2, rfl⟩
      · omega

/-! ### Learn -/
theorem modLearn_nil (s : Int) (w : World) :
    Calls Try.prog 59 #[.pointer none, .int .i64 s] w fun e w' => e = .returned (.int .i64 1) ∧ w = w' := by
  go_enter Try.func59, Try.ntmps59
  go_wp2_with (go_at_call 65; go_loud (refine (modHas_nil _ _).mono ?_); rintro e w' ⟨rfl, rfl⟩)
  go_ret
  exact ⟨rfl, rfl⟩
theorem modLearn_out (g : Nat) (l : List Int) (fx : Bool) (s : Int) (w : World) (h : ModAt w g l fx) (hs : ¬ (0 ≤ s ∧ s < l.length)) :
    Calls Try.prog 59 #[.pointer (some ⟨g, 0, none⟩), .int .i64 s] w fun e w' => e = .returned (.int .i64 1) ∧ ∃ n, w' = w.drewN n := by
  have hd : decide (0 ≤ s ∧ s < (l.length : Int)) = false := by simpa using hs
  have H := Lib.hid h
  clear h hs
  go_enter Try.func59, Try.ntmps59
  go_wp2_with (go_at_call 65; go_loud (refine (modHas_any g l fx _ _ H.out).mono ?_); rintro e w' ⟨rfl, n1, rfl⟩; rw [hd])
  go_ret
  exact ⟨rfl, n1, rfl⟩
theorem modLearn_fixed (g : Nat) (l : List Int) (s : Nat) (w : World) (h : ModAt w g l true) (hs : s < l.length) :
    Calls Try.prog 59 #[.pointer (some ⟨g, 0, none⟩), .int .i64 s] w fun e w' => e = .returned (.int .i64 0) ∧ ∃ n, w' = w.drewN n := by
  have hd : decide (0 ≤ (s : Int) ∧ (s : Int) < (l.length : Int)) = true := by simp; omega
  have H := Lib.hid h
  have c1 : w.cell? ⟨g, 65, none⟩ = some (.bool false) := h.learns
  clear h hs
  go_enter Try.func59, Try.ntmps59
  go_wp2_with (go_at_call 65; go_loud (refine (modHas_any g l true _ _ H.out).mono ?_); rintro e w' ⟨rfl, n1, rfl⟩; rw [hd])
  go_ret
  exact ⟨rfl, n1, rfl⟩

set_option maxRecDepth 100000 in
theorem modHalve_any (g : Nat) (l : List Int) (fx : Bool) (w : World) (h : ModAt w g l fx) (hb : ∀ j, j < l.length → 0 ≤ l.getD j 0 ∧ l.getD j 0 ≤ 16384) :
    Calls Try.prog 68 #[.pointer (some ⟨g, 0, none⟩)] w fun e w' => e = .returned (.tuple #[]) ∧ ModAt w' g (halfL l) fx ∧ Keeps (fun k => k = g) w w' := by
  have H := Lib.hid h
  have HB := Lib.hid hb
  have h64 := h.1
  clear h hb
  go_enter Try.func68, Try.ntmps68
  go_wp2_with (go_at_call 66; go_loud (refine (modSyms_any g l fx _ H.out).mono ?_); rintro e w' ⟨rfl, n2, rfl⟩)
  go_loopw [2, 3, 7] (fun _ _ i wr => ∃ k : Nat, k ≤ l.length ∧ i = .int .i64 k ∧ RowKit.Hid (ModAt wr g (halfK l k) fx ∧ Keeps (fun k => k = g) w wr)) (fun _ _ i _ => l.length - (intOf i).toNat)
  case atStart => exact ⟨0, by omega, rfl, by rw [halfK_zero]; exact H.out, (Keeps.refl _ w).drewN n2⟩
  case round =>
    obtain ⟨k, hk, rfl, HW⟩ := hrel
    by_cases hlt : k < l.length
    · have hl := halfK_len l (k := k) (by omega)
      have i1 := HW.out.1.at_ (j := k) (by omega)
      have f1 := HW.out.1.frozen k
      rw [halfK_at l hlt] at i1
      obtain ⟨x0, x1⟩ := HB.out k hlt
      have HN := Lib.hid (halfK_next l hlt)
      generalize l.getD k 0 = x at i1 x0 x1 HN
      have HS : RowKit.Hid (ModAt (wr.setCell ⟨g, k, none⟩ (.int .u32 ((x + 1) / 2))) g (halfK l (k + 1)) fx ∧ Keeps (fun k => k = g) w (wr.setCell ⟨g, k, none⟩ (.int .u32 ((x + 1) / 2)))) :=
        ⟨by rw [← HN.out]; exact HW.out.1.stored (by omega) _, HW.out.2.setCell (.inl rfl) _⟩
      have g2 : (k : Int) < (l.length : Int) := by omega
      have g4 : (k : Int) < 64 := by omega
      clear hl
      go_wp2
      go_roundw
      case rel => exact ⟨k + 1, by omega, by go_num, HS.out.1, HS.out.2⟩
      case measure => simp [intOf] <;> omega
    · obtain rfl : k = l.length := by omega
      go_wp2
      go_end0
      exact ⟨rfl, by rw [← halfK_all]; exact HW.out.1, HW.out.2⟩
theorem modSum_all (g : Nat) (l : List Int) (fx : Bool) (cap : Nat) (w : World) (h : ModAt w g l fx) (hb : ∀ j, j < l.length → 0 ≤ l.getD j 0) (hs : sumN l l.length ≤ 4294967295) :
    Calls Try.prog 67 #[.slice (some ⟨g, 0, none⟩) l.length cap] w fun e w' => e = .returned (.int .u32 (sumN l l.length)) ∧ w = w' :=
  modSum_any (some ⟨g, 0, none⟩) l.length cap w.heap.size l w h.ints h.1 hb hs
theorem modSyms_at (g : Nat) (l : List Int) (fx : Bool) (n : Nat) (w : World) (h : ModAt w g l fx) (hn : l.length = n) :
    Calls Try.prog 66 #[.pointer (some ⟨g, 0, none⟩)] w fun e w' => e = .returned (.slice (some ⟨g, 0, none⟩) n 64) ∧ ∃ n, w' = w.drewN n := by
  subst hn; exact modSyms_any g l fx w h
theorem modSum_n (g : Nat) (l : List Int) (fx : Bool) (n cap : Nat) (w : World) (h : ModAt w g l fx) (hn : l.length = n) (hb : ∀ j, j < l.length → 0 ≤ l.getD j 0) (hs : sumN l l.length ≤ 4294967295) :
    Calls Try.prog 67 #[.slice (some ⟨g, 0, none⟩) n cap] w fun e w' => e = .returned (.int .u32 (sumN l l.length)) ∧ w = w' := by
  subst hn; exact modSum_all g l fx cap w h hb hs
set_option maxRecDepth 100000 in
theorem modLearn_any (g : Nat) (l : List Int) (s : Nat) (w : World) (h : ModAt w g l false) (hG : GoodL l) (hs : s < l.length) :
    Calls Try.prog 59 #[.pointer (some ⟨g, 0, none⟩), .int .i64 s] w fun e w' => e = .returned (.int .i64 0) ∧ ModAt w' g (learnP l s) false ∧ Keeps (fun k => k = g) w w' := by
  have hd : decide (0 ≤ (s : Int) ∧ (s : Int) < (l.length : Int)) = true := by simp; omega
  have H := Lib.hid h
  have HG := Lib.hid hG
  have c1 : w.cell? ⟨g, 65, none⟩ = some (.bool true) := h.learns
  have hcell := h.at_ hs
  have hfz := h.frozen s
  have h64 := h.1
  obtain ⟨x0, x1⟩ := hG.own hs
  have E : RowKit.Hid (riseL l s = l.set s (l.getD s 0 + 32)) := rfl
  clear h hG
  generalize l.getD s 0 = x at hcell x0 x1 E
  have hlen := Lib.hid (riseL_len l s)
  have HS : RowKit.Hid (ModAt (w.setCell ⟨g, s, none⟩ (.int .u32 (x + 32))) g (riseL l s) false) := by
    show ModAt _ _ _ _
    rw [E.out]; exact H.out.stored hs (x + 32)
  have HK := Lib.hid ((Keeps.refl (fun k => k = g) w).setCell (p := ⟨g, s, none⟩) (.inl rfl) (.int .u32 (x + 32)))
  have s64 : (s : Int) < 64 := by omega
  have hb : ∀ j, j < (riseL l s).length → 0 ≤ (riseL l s).getD j 0 ∧ (riseL l s).getD j 0 ≤ 16384 := by
    intro j hj
    rw [hlen.out] at hj
    have := riseL_own HG.out hs hj
    omega
  have HB := Lib.hid hb
  have hsm : sumN (riseL l s) (riseL l s).length ≤ 8224 := by
    have a := riseL_sum hs
    have b := HG.out.2.2.2
    rw [sumN_all]; omega
  have HSM := Lib.hid hsm
  clear hb hsm
  go_enter Try.func59, Try.ntmps59
  go_wp2_with (go_at_call 65; go_loud (refine (modHas_any g l false _ _ H.out).mono ?_); rintro e w' ⟨rfl, n1, rfl⟩; rw [hd])
  have g1 : IntKind.u32.wrap (x + 32) = x + 32 := IntWalk.u32_in _ (by omega)
  go_region
  clear g1 hcell hfz c1
  obtain ⟨w1, hw1⟩ : ∃ w1, w1 = (w.drewN (n1 + 1)).setCell ⟨g, s, none⟩ (.int .u32 (x + 32)) := ⟨_, rfl⟩
  rw [← hw1]
  have HM : RowKit.Hid (ModAt w1 g (riseL l s) false) := by rw [hw1]; exact HS.out.keep rfl
  have HK1 : RowKit.Hid (Keeps (fun k => k = g) w w1) := by
    rw [hw1]; exact ((Keeps.refl (fun k => k = g) w).drewN (n1 + 1)).setCell (p := ⟨g, s, none⟩) (.inl rfl) _
  clear hw1 HS HK H
  have hq := Lib.hid (sumN_all (riseL l s))
  have hy0 : 0 ≤ sumN (riseL l s) (riseL l s).length := by
    have := sumN_rise (l := riseL l s) (fun j hj => (HB.out j hj).1) (m := 0) (n := (riseL l s).length) (by omega) (Nat.le_refl _)
    rw [sumN_zero] at this
    exact this
  have hy1 := HSM.out
  obtain ⟨y, hy⟩ : ∃ y, y = sumN (riseL l s) (riseL l s).length := ⟨_, rfl⟩
  have HY := Lib.hid hy
  rw [← hy] at hy0 hy1
  clear hy
  by_cases hbig : 8192 < y
  · have hln : RowKit.Hid (learnP l s = halfL (riseL l s)) := by
      unfold learnP
      rw [← hq.out, if_pos (by rw [← HY.out]; exact hbig)]; exact rfl
    go_wp2_with (first | (go_at_call 66; go_loud (refine (modSyms_at g (riseL l s) false l.length _ HM.out hlen.out).mono ?_); rintro e w' ⟨rfl, n2, rfl⟩; have HM2 := Lib.hid (HM.out.drewN n2)) | (go_at_call 67; go_loud (refine (modSum_n g (riseL l s) false l.length _ _ HM2.out hlen.out (fun j hj => (HB.out j hj).1) (by have := HSM.out; omega)).mono ?_); rintro e w' ⟨rfl, rfl⟩; rw [← HY.out]) | (go_at_call 68; go_loud (refine (modHalve_any g (riseL l s) false _ HM2.out HB.out).mono ?_); rintro e w3 ⟨rfl, hm, hk⟩; have HR := Lib.hid hm; have HK3 := Lib.hid hk; clear hm hk))
    go_ret
    exact ⟨rfl, by rw [hln.out]; exact HR.out, (HK1.out.drewN n2).trans HK3.out⟩
  · have hln : RowKit.Hid (learnP l s = riseL l s) := by
      unfold learnP
      rw [← hq.out, if_neg (by rw [← HY.out]; exact hbig)]; exact rfl
    go_wp2_with (first | (go_at_call 66; go_loud (refine (modSyms_at g (riseL l s) false l.length _ HM.out hlen.out).mono ?_); rintro e w' ⟨rfl, n2, rfl⟩; have HM2 := Lib.hid (HM.out.drewN n2)) | (go_at_call 67; go_loud (refine (modSum_n g (riseL l s) false l.length _ _ HM2.out hlen.out (fun j hj => (HB.out j hj).1) (by have := HSM.out; omega)).mono ?_); rintro e w' ⟨rfl, rfl⟩; rw [← HY.out]))
    go_ret
    exact ⟨rfl, by rw [hln.out]; exact HM2.out, HK1.out.drewN n2⟩

/-! ### New -/
/-- A new model's cells, where k of n symbols come once. -/
def newCells (k n : Nat) (b : Bool) : List Value := ((List.replicate k (1 : Int) ++ List.replicate (64 - k) 0).map (Value.int .u32)) ++ [.int .i64 n, .bool b]
theorem newCells_done (n : Nat) : newCells n n true = modCells (List.replicate n 1) false := by
  unfold newCells modCells; simp
theorem newCells_next {k n : Nat} (h : k < 64) (b : Bool) : (newCells k n b).set k (.int .u32 1) = newCells (k + 1) n b := by
  unfold newCells
  rw [List.set_append_left _ _ (by simp; omega), ← List.map_set, List.set_append_right _ _ (by simp)]
  simp only [List.length_replicate, Nat.sub_self]
  rw [show 64 - k = (64 - (k + 1)) + 1 by omega, List.replicate_succ, List.set_cons_zero, List.replicate_succ']
  simp
theorem newCells_at {k n : Nat} (h : k < 64) (b : Bool) : (newCells k n b)[k]? = some (.int .u32 0) := by
  unfold newCells
  rw [List.getElem?_append_left (by simp; omega), List.getElem?_map, List.getElem?_append_right (by simp)]
  simp [show 0 < 64 - k by omega]
theorem newCells_size (k n : Nat) (h : k ≤ 64) (b : Bool) : (newCells k n b).length = 66 := by unfold newCells; simp; omega
theorem newCells_one (k n : Nat) (b : Bool) : (newCells k n b).toArray.all (·.oneCell') = true := by
  rw [Array.all_eq_true_iff_forall_mem]
  intro x hx
  simp only [newCells, List.map_append, List.map_replicate, List.append_assoc, List.mem_toArray, List.mem_append, List.mem_replicate, List.mem_cons, List.not_mem_nil, or_false] at hx
  rcases hx with ⟨_, rfl⟩ | ⟨_, rfl⟩ | rfl | rfl <;> rfl
theorem mod_zero (w : World) : (zeroValue 106).run Try.prog w = .ok (.agg (newCells 0 0 false).toArray) w :=
  (zero_of_info (t := 106) (v := .agg (newCells 0 0 false).toArray) (n := 66) (by kernel_rfl)).1 w
theorem mod_size : (Try.prog.info? 106).map (·.size) = some 66 := (zero_of_info (t := 106) (v := .agg (newCells 0 0 false).toArray) (n := 66) (by kernel_rfl)).2
theorem mod_build (n : Nat) : Try.prog.built 106 [(1, .int .i64 n), (2, .bool true)] = some (newCells 0 n true).toArray := by kernel_rfl
theorem mod_build_fixed (n : Nat) : Try.prog.built 106 [(1, .int .i64 n)] = some (newCells 0 n false).toArray := by kernel_rfl
theorem wpList_build_as {P : Program} {ops : Array Oper} {rest : List Oper} {o : Oper} {a : Act} {w : World} {Q : Exit → Act → World → Prop} (hg : o.guard = none) (t : TypeId) (parts : Array (Nat × Operand)) (ho : o.op = .build t parts) (cs : Array Value)
    (vs : List (Nat × Value)) (hv : (parts.map fun (i, x) => (i, a.eval x)).toList = vs) (hf : P.built t vs = some cs) (h : wpList P ops Q rest (a.put o.dst (.agg cs)) w) : wpList P ops Q (o :: rest) a w :=
  wpList_build hg t parts ho (by rw [hv, hf]; rfl) (by rw [hv, hf]; exact h)

/-! ### Fixed -/
theorem modFixed_out (a : Option Addr) (len cap : Nat) (w : World) (hm : len ≤ 9223372036854775807) (h : len < 1 ∨ 64 < len) :
    Calls Try.prog 57 #[.slice a len cap] w fun e w' => e = .returned (.tuple #[.pointer none, .int .i64 1]) ∧ w = w' := by
  rcases h with h | h
  · have hd : decide ((len : Int) < 1) = true := by simp; omega
    go_enter Try.func57, Try.ntmps57
    go_wp2
    go_ret2
    exact ⟨rfl, rfl⟩
  · have hd : decide ((len : Int) < 1) = false := by simp; omega
    have hd2 : decide ((64 : Int) < (len : Int)) = true := by simp; omega
    go_enter Try.func57, Try.ntmps57
    go_wp2
    go_ret2
    exact ⟨rfl, rfl⟩
theorem splice_fixed {zs : List Int} {k : Nat} (h : zs.length = k) (hk : k ≤ 64) : splice (newCells 0 k false) 0 (zs.map (Value.int .u32)) = modCells zs true := by
  subst h
  unfold splice newCells modCells
  simp only [List.take_zero, List.nil_append, Nat.zero_add, List.length_map, List.replicate_zero, Nat.sub_zero, List.map_append, List.map_replicate]
  rw [List.drop_append_of_le_length (by rw [List.length_replicate]; exact hk), List.drop_replicate, List.append_assoc]
  rfl
/-- May a model be of these? -/
def FixOk (zs : List Int) (len : Nat) : Prop := (∀ j, j < len → 1 ≤ zs.getD j 0) ∧ sumN zs len ≤ 8192
set_option maxRecDepth 100000 in
theorem modFixed_any (a : Option Addr) (len cap : Nat) (zs : List Int) (w : World) (h : IntsAt w w.heap.size .u32 a len zs) (hb : ∀ j, j < len → 0 ≤ zs.getD j 0 ∧ zs.getD j 0 ≤ 4294967295) (h0 : 1 ≤ len) (h1 : len ≤ 64) :
    Calls Try.prog 57 #[.slice a len cap] w fun e w' => Below w.heap.size w w' ∧
      ((¬ FixOk zs len ∧ e = .returned (.tuple #[.pointer none, .int .i64 1])) ∨
       (FixOk zs len ∧ ∃ g, e = .returned (.tuple #[.pointer (some ⟨g, 0, none⟩), .int .i64 0]) ∧ w.heap.size ≤ g ∧ ModAt w' g zs true)) := by
  obtain ⟨b, off, rfl, hbB, _, _⟩ := h.at_ (j := 0) (by omega)
  have H0 := Lib.hid h
  have HL := Lib.hid h.1
  have HW := Lib.hid hb
  clear h hb
  have hd : decide ((len : Int) < 1) = false := by simp; omega
  have hd2 : decide ((64 : Int) < (len : Int)) = false := by simp; omega
  have hz := mod_zero
  have HC := Lib.hid (Cel.new w 106 (newCells 0 len false).toArray)
  have HB := Lib.hid (Below.alloc_new w (.cells (newCells 0 len false).toArray 106))
  have hbd := mod_build_fixed len
  have hcs : ∃ c0 c1, c0 = (newCells 0 0 false).toArray ∧ c1 = (newCells 0 len false).toArray := ⟨_, _, rfl, rfl⟩
  obtain ⟨c0, c1, e0, e1⟩ := hcs
  have E1 := Lib.hid e1
  have z0 : c0.size = 66 := by rw [e0, List.size_toArray, newCells_size _ _ (by omega)]
  have z1 : c1.size = 66 := by rw [e1, List.size_toArray, newCells_size _ _ (by omega)]
  have o1 : c1.all (·.oneCell') = true := by rw [e1]; exact newCells_one _ _ _
  have hi : (Try.prog.info? 106).map (·.size) = some c1.size := by rw [z1]; exact mod_size
  rw [← e0] at hz
  rw [← e1] at hbd HC HB
  have HBD := Lib.hid hbd
  have HI := Lib.hid hi
  have HO := Lib.hid o1
  have HZ := Lib.hid (z0.trans z1.symm)
  clear e0 e1 z0 z1 o1 hi hbd
  go_enter Try.func57, Try.ntmps57
  go_wp2
  go_loop [4, 6, 18] (fun d _ i => ∃ k : Nat, k ≤ len ∧ i = .int .i64 k ∧ d = .int .u32 (8192 - sumN zs k) ∧ sumN zs k ≤ 8192 ∧ RowKit.Hid (∀ j, j < k → 1 ≤ zs.getD j 0)) (fun _ _ i => len - (intOf i).toNat)
  case atStart => exact ⟨0, by omega, rfl, by rw [sumN_zero]; rfl, by rw [sumN_zero]; decide, fun j hj => by omega⟩
  case round =>
    obtain ⟨k, hk, rfl, rfl, hs, HP⟩ := hrel
    have hs0 : 0 ≤ sumN zs k := by
      have := sumN_rise (l := zs) (fun j hj => (HW.out j (by rw [← HL.out]; exact hj)).1) (m := 0) (n := k) (by omega) (by rw [HL.out]; exact hk)
      rw [sumN_zero] at this
      exact this
    by_cases hlt : k < len
    · obtain ⟨b', off', e', _, _, hcell⟩ := H0.out.at_ hlt
      obtain ⟨rfl, rfl⟩ : b = b' ∧ off = off' := by injection e' with e'; injection e' with e1 e2; exact ⟨e1, e2⟩
      clear e'
      obtain ⟨x0, x1⟩ := HW.out k hlt
      have E := Lib.hid (sumN_succ zs k (by rw [HL.out]; exact hlt))
      have m1 := Lib.hid (fun h => sumN_rise (l := zs) (fun j hj => (HW.out j (by rw [← HL.out]; exact hj)).1) (m := k + 1) (n := len) h (by rw [HL.out]; exact Nat.le_refl _))
      obtain ⟨x, hxd⟩ : ∃ x, x = zs.getD k 0 := ⟨_, rfl⟩
      have HX := Lib.hid hxd
      rw [← hxd] at hcell x0 x1
      have E2 : RowKit.Hid (sumN zs (k + 1) = sumN zs k + x) := by show _ = _; rw [hxd]; exact E.out
      clear hxd E
      generalize hy : sumN zs k = y at hs hs0 E2 ⊢
      clear hy
      have g2 : (k : Int) < (len : Int) := by omega
      by_cases hx1 : x < 1
      · have q1 : decide (x < 1) = true := by simp; omega
        go_wp2
        go_ret2
        exact ⟨Below.refl _ _, .inl ⟨fun c => by have := c.1 k hlt; rw [← HX.out] at this; omega, rfl⟩⟩
      · have q1 : decide (x < 1) = false := by simp; omega
        by_cases hx2 : 8192 - y < x
        · have q2 : decide (8192 - y < x) = true := by simp; omega
          go_wp2
          go_ret2
          refine ⟨Below.refl _ _, .inl ⟨fun c => ?_, rfl⟩⟩
          have a := m1.out (by omega)
          have b := c.2
          rw [E2.out] at a
          omega
        · have q2 : decide (8192 - y < x) = false := by simp; omega
          go_wp2
          go_round
          case rel =>
            refine ⟨k + 1, by omega, by go_num, ?_, by rw [E2.out]; omega, fun j hj => ?_⟩
            · rw [E2.out]; congr 1; omega
            · by_cases hjk : j = k
              · subst hjk; rw [← HX.out]; omega
              · exact HP.out j (by omega)
          case measure => simp [intOf] <;> omega
    · obtain rfl : k = len := by omega
      have HF : RowKit.Hid (FixOk zs k) := ⟨HP.out, hs⟩
      clear hs hs0
      have hsl := syms_all w.heap.size
      have HS : RowKit.Hid ((w.alloc (.cells c1 106)).heap[w.heap.size]? = some (.cells (newCells 0 k false).toArray 106 (0, 0))) := by
        show _ = _
        rw [← E1.out]; exact HC.out
      have HSrc := Lib.hid (H0.out.src HB.out)
      have hcs : ∃ cs cur, cs = zs.map (Value.int .u32) ∧ cur = newCells 0 k false := ⟨_, _, rfl, rfl⟩
      obtain ⟨cs, cur, e0, e1⟩ := hcs
      rw [← e0] at HSrc
      rw [← e1] at HS
      have hn : cs.length = Nat.min k 64 := by rw [e0, List.length_map, HL.out]; exact (Nat.min_eq_left h1).symm
      have hft : 0 + cs.length ≤ cur.length := by rw [e0, e1, newCells_size _ _ (by omega), List.length_map, HL.out]; omega
      have ho1 : ∀ v ∈ cs, v.oneCell' = true := by rw [e0]; exact ints_oneCell _ _
      have HN := Lib.hid hn
      have HFt := Lib.hid hft
      have HO1 := Lib.hid ho1
      have HSp : RowKit.Hid (splice cur 0 cs = modCells zs true) := by show _ = _; rw [e0, e1]; exact splice_fixed HL.out h1
      clear e0 e1 hn hft ho1
      go_wp2_with (first | (refine wpList_build_as rfl 106 _ rfl c1 [(1, .int .i64 k)] (by kernel_rfl) HBD.out ?_) | (refine wpList_store_row rfl 106 _ _ rfl w.heap.size c1 rfl rfl 106 c0 (heap_alloc_last w _) HI.out HZ.out HO.out ?_; rw [World.setRow_alloc_new]) | (refine wpList_copy_splice rfl _ _ 81 81 rfl 54 Try.underlying81 (by kernel_rfl) (some ⟨w.heap.size, 0, none⟩) (some ⟨b, off, none⟩) 64 64 k cap rfl rfl w.heap.size 0 cur 106 HS.out cs HN.out (fun _ => ⟨rfl, _, rfl, HSrc.out⟩) HFt.out HO1.out w.heap.size w HB.out (Nat.le_refl _) ?_; intro w2 hg2 hb2; have HB2 := Lib.hid hb2; clear hb2))
      go_ret2
      refine ⟨HB2.out, .inr ⟨HF.out, w.heap.size, rfl, Nat.le_refl _, ?_, ?_⟩⟩
      · rw [HL.out]; exact h1
      · have := hg2.out
        rw [HSp.out] at this
        exact this
end Go.Proofs.Ytgnmnmjicjcffaa

/- What the functions of package rangeenc give, for whatever arguments: adding, carrying, scaling, parts. -/
namespace Go.Proofs.Ytgnmnmjicjcffaa
open Go.RowKit
set_option linter.unusedVariables false

theorem add32_low (x y : Int) (w : World) (x0 : 0 ≤ x) (y0 : 0 ≤ y) (h : x + y ≤ 4294967295) :
    Calls Try.prog 72 #[.int .u32 x, .int .u32 y, .int .u32 0] w fun e w' => e = .returned (.tuple #[.int .u32 (x + y), .int .u32 0]) ∧ w = w' := by
  have h1 : (x + y) / 4294967296 = 0 := by omega
  go_enter Try.func72, Try.ntmps72
  go_wp2
  go_ret2
  exact ⟨rfl, rfl⟩
theorem add32_high (x y : Int) (w : World) (x0 : 0 ≤ x) (y0 : 0 ≤ y) (x1 : x ≤ 4294967295) (y1 : y ≤ 4294967295) (h : 4294967296 ≤ x + y) :
    Calls Try.prog 72 #[.int .u32 x, .int .u32 y, .int .u32 0] w fun e w' => e = .returned (.tuple #[.int .u32 (x + y - 4294967296), .int .u32 1]) ∧ w = w' := by
  have h1 : (x + y) / 4294967296 = 1 := by omega
  have h2 : (x + y) % 4294967296 = x + y - 4294967296 := by omega
  go_enter Try.func72, Try.ntmps72
  go_wp2
  go_ret2
  refine ⟨?_, rfl⟩
  show Ending.returned (.tuple #[.int .u32 ((x + y) % 4294967296), .int .u32 1]) = _
  rw [h2]

/-- Block g is the program's encoder: digits ahead (in the row of v), the last four, how much less the size is. -/
def EncD (w : World) (base g : Nat) (v : Value) (D : List Int) (last less : Int) : Prop :=
  Cel w g 56 #[v, .int .u32 last, .int .u32 less] ∧ w.ownsRow base 5 1 v D.length (D.map (Value.int .u8)) ∧ base ≤ g
section
variable {w w' : World} {base g : Nat} {v : Value} {D : List Int} {last less : Int}
theorem EncD.lt (h : EncD w base g v D last less) : g < w.heap.size := h.1.lt
theorem EncD.own (h : EncD w base g v D last less) (r : Nat) (hr : v.ownBlock = some r) : r < w.heap.size ∧ base ≤ r ∧ r ≠ g := ⟨own_lt h.2.1 r hr, own_base h.2.1 r hr, own_ne_cel h.2.1 h.1 (by decide) r hr⟩
theorem EncD.cells (h : EncD w base g v D last less) : w.cell? ⟨g, 0, none⟩ = some v ∧ w.cell? ⟨g, 1, none⟩ = some (.int .u32 last) ∧ w.cell? ⟨g, 2, none⟩ = some (.int .u32 less) := ⟨h.1.cell 0, h.1.cell 1, h.1.cell 2⟩
theorem EncD.fz (h : EncD w base g v D last less) : w.frozen? ⟨g, 0, none⟩ = false ∧ w.frozen? ⟨g, 1, none⟩ = false ∧ w.frozen? ⟨g, 2, none⟩ = false := ⟨h.1.frozen 0, h.1.frozen 1, h.1.frozen 2⟩
theorem EncD.drewN (h : EncD w base g v D last less) (n : Nat) : EncD (w.drewN n) base g v D last less := h
theorem EncD.keeps {F : Nat → Prop} (h : EncD w base g v D last less) (hk : Keeps F w w') (h1 : ¬ F g) (h2 : ∀ r, v.ownBlock = some r → ¬ F r) : EncD w' base g v D last less :=
  ⟨h.1.keeps hk h1, own_keeps h.2.1 hk h2, h.2.2⟩
theorem EncD.below (h : EncD w base g v D last less) (hk : Below w.heap.size w w') : EncD w' base g v D last less := h.keeps (F := fun _ => False) (.of_below hk) (fun c => c) (fun _ _ c => c)
theorem EncD.row {r c a : Nat} (h : EncD w base g (.slice (some ⟨r, 0, none⟩) a c) D last less) (ha : D.length = a) {j : Nat} (hj : j < a) : w.cell? ⟨r, j, none⟩ = some (.int .u8 (D.getD j 0)) ∧ w.frozen? ⟨r, j, none⟩ = false := by
  subst ha
  refine ⟨?_, h.2.1.frozenAt j⟩
  rw [h.2.1.cellAt j (by omega), List.getElem?_map, List.getElem?_eq_getElem hj]
  simp [List.getD, hj]
theorem EncD.setRow {r c a : Nat} (h : EncD w base g (.slice (some ⟨r, 0, none⟩) a c) D last less) (ha : D.length = a) (j : Nat) (x : Int) : EncD (w.setCell ⟨r, j, none⟩ (.int .u8 x)) base g (.slice (some ⟨r, 0, none⟩) a c) (D.set j x) last less := by
  subst ha
  have hl := h.own r rfl
  refine ⟨h.1.far (p := ⟨r, j, none⟩) (fun e => hl.2.2 e.symm) _, ?_, h.2.2⟩
  rw [List.length_set, List.map_set]; exact (h.2.1.stored j (.int .u8 x)).1
theorem EncD.setLast (h : EncD w base g v D last less) (x : Int) : EncD (w.setCell ⟨g, 1, none⟩ (.int .u32 x)) base g v D x less :=
  ⟨by simpa using h.1.set_ 1 (.int .u32 x), own_far h.2.1 (fun r hr => (h.own r hr).2.2) _, h.2.2⟩
theorem EncD.setLess (h : EncD w base g v D last less) (x : Int) : EncD (w.setCell ⟨g, 2, none⟩ (.int .u32 x)) base g v D last x :=
  ⟨by simpa using h.1.set_ 2 (.int .u32 x), own_far h.2.1 (fun r hr => (h.own r hr).2.2) _, h.2.2⟩
end
/-- The same, by the number and the scale. -/
def EncR (w : World) (base g : Nat) (v : Value) (n : Int) (k : Nat) (less : Int) : Prop :=
  ∃ D last, EncD w base g v D last less ∧ IsDig D ∧ D.length = k ∧ 0 ≤ last ∧ last ≤ 4294967295 ∧ n = valL D * 4294967296 + last

/-- What carrying leaves. -/
def CarryPost (base g : Nat) (v : Value) (D : List Int) (last less : Int) (w : World) (x : Ending) (w' : World) : Prop :=
  x = .returned (.tuple #[]) ∧ ∃ D', EncD w' base g v D' last less ∧ IsDig D' ∧ D'.length = D.length ∧ valL D' = valL D + 1 ∧ Keeps (fun j => v.ownBlock = some j) w w'

set_option maxRecDepth 100000 in
theorem rncCarry_any (base g : Nat) (v : Value) (D : List Int) (last less : Int) (w : World) (hE : EncD w base g v D last less) (hd : IsDig D) (hv : valL D + 1 < P256 D.length) (hk : D.length ≤ 1000000) :
    Calls Try.prog 73 #[.pointer (some ⟨g, 0, none⟩)] w (CarryPost base g v D last less w) := by
  have hpos : 0 < D.length := by
    rcases Nat.eq_zero_or_pos D.length with h | h
    · have := (valL_lt hd).1
      rw [h] at hv
      have e : P256 0 = 1 := by decide
      omega
    · exact h
  obtain ⟨r, c, rfl, _, _⟩ := World.ownsRow.form hE.2.1 hpos
  obtain ⟨c0, c1, c2⟩ := hE.cells
  have H0 := Lib.hid hE
  have HD := Lib.hid hd
  have HV := Lib.hid hv
  obtain ⟨K, hK⟩ : ∃ K, K = D.length := ⟨_, rfl⟩
  rw [← hK] at c0 hk hpos
  have HK := Lib.hid hK
  clear hE hd hv c1 c2 hK
  go_enter Try.func73, Try.ntmps73
  go_wp2
  go_loopw [2] (fun i wr => ∃ (D2 : List Int) (m : Nat), i = .int .i64 ((m : Int) - 1) ∧ m ≤ K ∧ RowKit.Hid (EncD wr base g (.slice (some ⟨r, 0, none⟩) K c) D2 last less ∧ IsDig D2 ∧ D2.length = K ∧ valL D2 + P256 (K - m) = valL D + 1 ∧ Keeps (fun j => j = r) w wr)) (fun i _ => (intOf i + 1).toNat)
  case atStart => exact ⟨D, K, rfl, Nat.le_refl _, by rw [HK.out]; exact H0.out, HD.out, HK.out.symm, by rw [Nat.sub_self]; exact rfl, Keeps.refl _ _⟩
  case round =>
    obtain ⟨D2, m, rfl, hm, H⟩ := hrel
    clear c0
    obtain ⟨c0, _, _⟩ := H.out.1.cells
    by_cases hz : m = 0
    · exfalso
      have h1 := H.out.2.2.2.1
      have h2 := (valL_lt H.out.2.1).1
      have h3 := HV.out
      rw [hz, Nat.sub_zero] at h1
      rw [← HK.out] at h3
      omega
    · obtain ⟨p, hp⟩ : ∃ p, m = p + 1 := ⟨m - 1, by omega⟩
      have hp0 : (m : Int) - 1 = (p : Int) := by omega
      rw [hp0]
      have hpK : (p : Int) < (K : Int) := by omega
      obtain ⟨i1, f1⟩ := H.out.1.row H.out.2.2.1 (j := p) (by omega)
      have hxd := H.out.2.1 p (by rw [H.out.2.2.1]; omega)
      obtain ⟨x, hx⟩ : ∃ x, x = D2.getD p 0 := ⟨_, rfl⟩
      rw [← hx] at i1 hxd
      obtain ⟨x0, x1⟩ := hxd
      have HX := Lib.hid hx
      have HM := Lib.hid hp
      clear hx
      by_cases hf : x = 255
      · have g1 : IntKind.u8.wrap (x + 1) = 0 := by rw [hf]; decide
        have h1 := Lib.hid (carry_full (V := valL D + 1) H.out.2.1 H.out.2.2.1 (p := p) (by omega) (by rw [← HX.out]; exact hf) (by have := H.out.2.2.2.1; rw [HM.out] at this; exact this))
        have h2 := Lib.hid (H.out.1.setRow H.out.2.2.1 p 0)
        have h3 := Lib.hid (H.out.2.2.2.2.setCell (p := ⟨r, p, none⟩) (.inl rfl) (.int .u8 0))
        obtain ⟨e0, _, _⟩ := h2.out.cells
        obtain ⟨e1, _⟩ := h2.out.row (by rw [List.length_set]; exact H.out.2.2.1) (j := p) (by omega)
        rw [getD_set' D2 p p _ (by rw [H.out.2.2.1]; omega), if_pos rfl] at e1
        clear hf hz hp hp0
        go_wp2
        go_roundw
        case rel => exact ⟨D2.set p 0, p, rfl, by omega, h2.out, h1.out.1, h1.out.2.1, h1.out.2.2, h3.out⟩
        case measure => simp [intOf] <;> omega
      · have g1 : IntKind.u8.wrap (x + 1) = x + 1 := IntWalk.u8_in _ (by omega)
        have g2 : (x + 1 != 0) = true := by simp; omega
        have h1 := Lib.hid (carry_done (V := valL D + 1) H.out.2.1 H.out.2.2.1 (p := p) (by omega) (by rw [← HX.out]; omega) (by have := H.out.2.2.2.1; rw [HM.out] at this; exact this))
        have h2 := Lib.hid (H.out.1.setRow H.out.2.2.1 p (x + 1))
        have h3 := Lib.hid (H.out.2.2.2.2.setCell (p := ⟨r, p, none⟩) (.inl rfl) (.int .u8 (x + 1)))
        obtain ⟨e0, _, _⟩ := h2.out.cells
        obtain ⟨e1, _⟩ := h2.out.row (by rw [List.length_set]; exact H.out.2.2.1) (j := p) (by omega)
        rw [getD_set' D2 p p _ (by rw [H.out.2.2.1]; omega), if_pos rfl] at e1
        clear hf hz hp hp0
        go_wp2
        refine bodyPost_ret (v := .tuple #[]) (by simp [results, Try.results73]) rfl ⟨rfl, D2.set p (x + 1), ?_, ?_, ?_, ?_, ?_⟩
        · rw [← HK.out]; exact h2.out
        · rw [HX.out]; exact h1.out.1
        · rw [HX.out, ← HK.out]; exact h1.out.2.1
        · rw [HX.out]; exact h1.out.2.2
        · exact h3.out.mono fun j hj => by rw [hj]; rfl
end Go.Proofs.Ytgnmnmjicjcffaa

/- What the functions of package rangeenc give: adding, scaling, putting. -/
namespace Go.Proofs.Ytgnmnmjicjcffaa
open Go.RowKit
set_option linter.unusedVariables false

section
variable {w w' : World} {base g k : Nat} {v : Value} {n less : Int}
theorem EncR.lt (h : EncR w base g v n k less) : g < w.heap.size ∧ base ≤ g := by obtain ⟨D, last, h1, _⟩ := h; exact ⟨h1.lt, h1.2.2⟩
theorem EncR.own (h : EncR w base g v n k less) (r : Nat) (hr : v.ownBlock = some r) : r < w.heap.size ∧ base ≤ r ∧ r ≠ g := by obtain ⟨D, last, h1, _⟩ := h; exact h1.own r hr
theorem EncR.drewN (h : EncR w base g v n k less) (i : Nat) : EncR (w.drewN i) base g v n k less := h
theorem EncR.keeps {F : Nat → Prop} (h : EncR w base g v n k less) (hk : Keeps F w w') (h1 : ¬ F g) (h2 : ∀ r, v.ownBlock = some r → ¬ F r) : EncR w' base g v n k less := by
  obtain ⟨D, last, q1, q2⟩ := h
  exact ⟨D, last, q1.keeps hk h1 h2, q2⟩
theorem EncR.below (h : EncR w base g v n k less) (hk : Below w.heap.size w w') : EncR w' base g v n k less := h.keeps (F := fun _ => False) (.of_below hk) (fun c => c) (fun _ _ c => c)
theorem EncR.less_ (h : EncR w base g v n k less) : w.cell? ⟨g, 2, none⟩ = some (.int .u32 less) ∧ w.frozen? ⟨g, 2, none⟩ = false := by
  obtain ⟨D, last, h1, _⟩ := h; exact ⟨h1.cells.2.2, h1.fz.2.2⟩
theorem EncR.setLess (h : EncR w base g v n k less) (x : Int) : EncR (w.setCell ⟨g, 2, none⟩ (.int .u32 x)) base g v n k x := by
  obtain ⟨D, last, h1, h2⟩ := h; exact ⟨D, last, h1.setLess x, h2⟩
theorem EncR.bd (h : EncR w base g v n k less) : 0 ≤ n ∧ n < 4294967296 * P256 k := by
  obtain ⟨D, last, h1, h2, h3, h4, h5, h6⟩ := h
  obtain ⟨a, b⟩ := valL_lt h2
  rw [h3] at b
  omega
end
/-- What writing leaves. -/
def EncWr (base g : Nat) (v : Value) (n : Int) (k : Nat) (less : Int) (r : Value) (w : World) (x : Ending) (w' : World) : Prop :=
  x = .returned r ∧ ∃ v', EncR w' base g v' n k less ∧ Keeps (fun j => j = g ∨ v.ownBlock = some j) w w' ∧ (∀ j, v'.ownBlock = some j → v.ownBlock = some j ∨ w.heap.size ≤ j)

set_option maxRecDepth 100000 in
theorem rncAdd_any (base g : Nat) (v : Value) (n : Int) (k : Nat) (less x : Int) (w : World) (hE : EncR w base g v n k less) (x0 : 0 ≤ x) (x1 : x ≤ 4294967295) (hx : n + x < 4294967296 * P256 k) (hk : k ≤ 1000000) :
    Calls Try.prog 63 #[.pointer (some ⟨g, 0, none⟩), .int .u32 x] w (EncWr base g v (n + x) k less (.tuple #[]) w) := by
  obtain ⟨D, last, h1, h2, h3, h4, h5, h6⟩ := hE
  obtain ⟨c0, c1, c2⟩ := h1.cells
  obtain ⟨z0, z1, z2⟩ := h1.fz
  have H1 := Lib.hid h1
  have H2 := Lib.hid h2
  have H3 := Lib.hid h3
  have H6 := Lib.hid h6
  have HX := Lib.hid hx
  clear h1 h2 h3 h6 hx c2 z2 c0 z0
  by_cases hc : last + x ≤ 4294967295
  · have E2 := Lib.hid (H1.out.setLast (last + x))
    have K2 := Lib.hid ((Keeps.refl (fun j => j = g ∨ v.ownBlock = some j) w).setCell (p := ⟨g, 1, none⟩) (.inl (.inl rfl)) (.int .u32 (last + x)))
    go_enter Try.func63, Try.ntmps63
    go_wp2_with (go_at_call 72; ((with_reducible refine (add32_low last x _ h4 x0 hc).mono ?_)); rintro e w' ⟨rfl, rfl⟩)
    go_end0
    exact ⟨rfl, v, ⟨D, last + x, E2.out, H2.out, H3.out, by omega, hc, by rw [H6.out]; omega⟩, K2.out, fun j hj => .inl hj⟩
  · have E2 := Lib.hid (H1.out.setLast (last + x - 4294967296))
    have K2 := Lib.hid ((Keeps.refl (fun j => j = g ∨ v.ownBlock = some j) w).setCell (p := ⟨g, 1, none⟩) (.inl (.inl rfl)) (.int .u32 (last + x - 4294967296)))
    have HV : RowKit.Hid (valL D + 1 < P256 D.length) := by
      have a := HX.out
      have b := H6.out
      have := H3.out
      show _ < _
      rw [this]
      omega
    have hkl : D.length ≤ 1000000 := by rw [H3.out]; exact hk
    have HKL := Lib.hid hkl
    have hc2 : 4294967296 ≤ last + x := by omega
    clear hkl
    go_enter Try.func63, Try.ntmps63
    go_wp2_with (first | (go_at_call 72; ((with_reducible refine (add32_high last x _ h4 x0 h5 x1 hc2).mono ?_)); rintro e w' ⟨rfl, rfl⟩) | (go_at_call 73; go_loud (refine (rncCarry_any base g v D _ less _ E2.out H2.out HV.out HKL.out).mono ?_); rintro e w3 ⟨rfl, hp⟩; have HP := Lib.hid hp; clear hp))
    go_end0
    obtain ⟨D', q1, q2, q3, q4, q5⟩ := HP.out
    exact ⟨rfl, v, ⟨D', _, q1, q2, by rw [q3]; exact H3.out, by omega, by omega, by rw [q4, H6.out]; omega⟩, K2.out.trans (q5.mono fun j hj => .inr hj), fun j hj => .inl hj⟩

theorem info_u8e : (Try.prog.info? 5).map (fun i => (i.zero, i.size, i.bytes)) = some (some (.int .u8 0), 1, 1) := by kernel_rfl
set_option maxRecDepth 100000 in
theorem rncScale_any (base g : Nat) (v : Value) (n : Int) (k : Nat) (less : Int) (w : World) (hE : EncR w base g v n k less) (hk : k ≤ 1000000) :
    Calls Try.prog 64 #[.pointer (some ⟨g, 0, none⟩)] w (EncWr base g v (n * 256) (k + 1) less (.tuple #[]) w) := by
  obtain ⟨D, last, h1, h2, h3, h4, h5, h6⟩ := hE
  obtain ⟨c0, c1, c2⟩ := h1.cells
  obtain ⟨z0, z1, z2⟩ := h1.fz
  have H1 := Lib.hid h1
  have H2 := Lib.hid h2
  have H3 := Lib.hid h3
  have H6 := Lib.hid h6
  have hgl := h1.lt
  have hbg := h1.2.2
  have hne : v.ownBlock ≠ some g := fun c => (h1.own g c).2.2 rfl
  have hob : ∀ j, v.ownBlock = some j → base ≤ j := fun j hj => (h1.own j hj).2.1
  have HOB := Lib.hid hob
  obtain ⟨q, hq⟩ : ∃ q, q = last / 16777216 := ⟨_, rfl⟩
  have q0 : 0 ≤ q := by omega
  have q1 : q ≤ 255 := by omega
  have HQ := Lib.hid hq
  have hown : w.ownsRow base 5 1 v k (D.map (Value.int .u8)) := by have := h1.2.1; rw [h3] at this; exact this
  have hA := Lib.hid (World.ownsRow.alloc hown (.cells #[.int .u8 q] 5))
  obtain ⟨i0, hi, hzz, hz1, hz2⟩ := info_parts info_u8e
  have e1 : last / 16777216 = q := hq.symm
  have e2 : IntKind.u8.wrap q = q := IntWalk.u8_in _ (by omega)
  clear h1 h2 h3 h6 c2 z2 hob hown hq
  go_enter Try.func64, Try.ntmps64
  go_wp2
  go_region_law ((refine step_append_lies _ (by rfl) _ _ _ (by rfl) base 5 i0 (.int .u8 0) 1 1 Try.underlying33 hi hzz hz1 hz2 rfl (by decide) v k _ (by rfl) hA.out.drew ⟨w.heap.size, 0, none⟩ 1 1 [.int .u8 q] (by rfl) (by rfl) (World.news_of_block (cs := #[.int .u8 q]) (t := 5) (fr := (0, 0)) (heap_alloc_new w _)) (by simp [Value.oneCell']) (by omega) (by unfold maxLen; omega) (by omega) (by simp; omega) (w.heap.size + 1) (by simp) ?_; intro gg cp w2 hown hgrow hat hlt2; have c2 : w2.cell? ⟨g, 0, none⟩ = some v := (hgrow.cell_far ⟨g, 0, none⟩ (by simp; omega) (fun c => hne c.symm)).trans ((H1.out.1.alloc (.cells #[.int .u8 q] 5)).cell 0); have f2 : w2.frozen? ⟨g, 0, none⟩ = false := (hgrow.frozen_far ⟨g, 0, none⟩ (by simp; omega) (fun c => hne c.symm)).trans ((H1.out.1.alloc (.cells #[.int .u8 q] 5)).frozen 0)))
  all_goals
    have hc2 : Cel w2 g 56 #[v, .int .u32 last, .int .u32 less] := (H1.out.1.alloc (.cells #[.int .u8 q] 5)).keep (hgrow.block _ (by simp; omega) (fun c => hne c.symm))
    have hown2 : w2.ownsRow base 5 1 (.slice (some ⟨gg, 0, none⟩) (k + 1) cp) (D ++ [q]).length ((D ++ [q]).map (Value.int .u8)) := by
      have e : (D ++ [q]).length = k + 1 := by rw [List.length_append, H3.out]; rfl
      rw [e]; simpa using hown
    have hk2 : Keeps (fun j => j = g ∨ v.ownBlock = some j) w w2 := by
      have a := ((Keeps.refl (fun j => j = g ∨ v.ownBlock = some j) w).alloc (.cells #[.int .u8 q] 5)).drewN 1
      refine ⟨hgrow.os.trans a.os, hgrow.tape.trans a.tape, hgrow.output.trans a.output, Nat.le_trans a.size hgrow.size, fun i hi hn => ?_⟩
      exact (hgrow.block i (Nat.lt_of_lt_of_le hi a.size) (fun c => hn (.inr c.symm))).trans (a.block i hi hn)
    obtain ⟨w3, hw3⟩ : ∃ w3, w3 = w2.setCell ⟨g, 0, none⟩ (.slice (some ⟨gg, 0, none⟩) (k + 1) cp) := ⟨_, rfl⟩
    have H7 : RowKit.Hid (EncD w3 base g (.slice (some ⟨gg, 0, none⟩) (k + 1) cp) (D ++ [q]) last less ∧ Keeps (fun j => j = g ∨ v.ownBlock = some j) w w3) := by
      rw [hw3]
      refine ⟨⟨by simpa using hc2.set_ 0 (.slice (some ⟨gg, 0, none⟩) (k + 1) cp), ?_, hbg⟩, hk2.setCell (p := ⟨g, 0, none⟩) (.inl (.inl rfl)) _⟩
      exact own_far hown2 (fun j hj => own_ne_cel hown2 hc2 (by decide) j hj) _
    have HA : RowKit.Hid (v.ownBlock = some gg ∨ w.heap.size ≤ gg) := by
      rcases hat with h | h
      · exact .inl h
      · exact .inr (by omega)
    rw [← hw3]
    clear hw3 hc2 hown2 hown hgrow c2 f2 hat hlt2 c0 c1 z0 z1 hk2 hA e1 e2
    obtain ⟨c0, c1, c2⟩ := H7.out.1.cells
    obtain ⟨z0, z1, z2⟩ := H7.out.1.fz
    have H8 := Lib.hid (H7.out.1.setLast (last * 256 % 4294967296))
    have K8 := Lib.hid (H7.out.2.setCell (p := ⟨g, 1, none⟩) (.inl (.inl rfl)) (.int .u32 (last * 256 % 4294967296)))
    go_wp2
    go_end0
    refine ⟨rfl, _, ⟨D ++ [q], _, H8.out, H2.out.snoc q0 q1, by rw [List.length_append, H3.out]; rfl, by omega, by omega, ?_⟩, K8.out, fun j hj => ?_⟩
    · rw [valL_snoc, H6.out, HQ.out]; omega
    · have : gg = j := by simpa [Value.ownBlock] using hj
      rw [← this]; exact HA.out
end Go.Proofs.Ytgnmnmjicjcffaa

/- What the functions of package rangeenc give: parts put; a new encoder; how many bytes there are at most. -/
namespace Go.Proofs.Ytgnmnmjicjcffaa
open Go.RowKit
set_option linter.unusedVariables false

/-- A part, by value. -/
def partA (low own all : Int) : Value := .agg #[.int .u32 low, .int .u32 own, .int .u32 all]

theorem rncMay_yes (low own all : Int) (w : World) (h : OkP low own all) :
    Calls Try.prog 62 #[.agg #[.int .u32 low, .int .u32 own, .int .u32 all]] w fun e w' => e = .returned (.bool true) ∧ Below w.heap.size w w' := by
  obtain ⟨p1, p2, p3, p4, p5⟩ := h
  have HB := Lib.hid (Below.alloc_new w (.cells #[.int .u32 low, .int .u32 own, .int .u32 all] 91))
  have d1 : decide (1 ≤ all) = true := by simpa using p1
  have d2 : decide (all ≤ 8192) = true := by simpa using p2
  have d3 : decide (1 ≤ own) = true := by simpa using p3
  have d4 : decide (low ≤ all) = true := by simp; omega
  have d5 : decide (own ≤ all - low) = true := by simp; omega
  have d6 : IntKind.u32.wrap (all - low) = all - low := IntWalk.u32_in _ (by omega)
  go_enter Try.func62, Try.ntmps62
  go_wp2
  go_ret
  exact ⟨rfl, HB.out⟩
theorem rncMay_no (low own all : Int) (w : World) (l0 : 0 ≤ low) (l1 : low ≤ 4294967295) (o0 : 0 ≤ own) (o1 : own ≤ 4294967295) (a0 : 0 ≤ all) (a1 : all ≤ 4294967295) (h : ¬ OkP low own all) :
    Calls Try.prog 62 #[.agg #[.int .u32 low, .int .u32 own, .int .u32 all]] w fun e w' => e = .returned (.bool false) ∧ Below w.heap.size w w' := by
  have HB := Lib.hid (Below.alloc_new w (.cells #[.int .u32 low, .int .u32 own, .int .u32 all] 91))
  by_cases p1 : 1 ≤ all
  · have d1 : decide (1 ≤ all) = true := by simpa using p1
    by_cases p2 : all ≤ 8192
    · have d2 : decide (all ≤ 8192) = true := by simpa using p2
      by_cases p3 : 1 ≤ own
      · have d3 : decide (1 ≤ own) = true := by simpa using p3
        by_cases p4 : low ≤ all
        · have d4 : decide (low ≤ all) = true := by simpa using p4
          have d5 : decide (own ≤ all - low) = false := by
            simp
            rcases Int.lt_or_le (all - low) own with h5 | h5
            · omega
            · exact absurd ⟨p1, p2, p3, l0, by omega⟩ h
          have d6 : IntKind.u32.wrap (all - low) = all - low := IntWalk.u32_in _ (by omega)
          clear h
          go_enter Try.func62, Try.ntmps62
          go_wp2
          go_ret
          exact ⟨rfl, HB.out⟩
        · have d4 : decide (low ≤ all) = false := by simpa using p4
          clear h
          go_enter Try.func62, Try.ntmps62
          go_wp2
          go_ret
          exact ⟨rfl, HB.out⟩
      · have d3 : decide (1 ≤ own) = false := by simpa using p3
        clear h
        go_enter Try.func62, Try.ntmps62
        go_wp2
        go_ret
        exact ⟨rfl, HB.out⟩
    · have d2 : decide (all ≤ 8192) = false := by simpa using p2
      clear h
      go_enter Try.func62, Try.ntmps62
      go_wp2
      go_ret
      exact ⟨rfl, HB.out⟩
  · have d1 : decide (1 ≤ all) = false := by simpa using p1
    clear h
    go_enter Try.func62, Try.ntmps62
    go_wp2
    go_ret
    exact ⟨rfl, HB.out⟩

/-- Block g is an encoder in the state e. -/
def EncAt (w : World) (base g : Nat) (v : Value) (e : EncS) : Prop := EncR w base g v e.n e.k (4294967295 - e.s)
/-- What putting leaves. -/
def PutPost (base g : Nat) (v : Value) (f : EncS) (r : Value) (w : World) (x : Ending) (w' : World) : Prop :=
  x = .returned r ∧ ∃ v', EncAt w' base g v' f ∧ Keeps (fun j => j = g ∨ v.ownBlock = some j) w w' ∧ (∀ j, v'.ownBlock = some j → v.ownBlock = some j ∨ w.heap.size ≤ j)

theorem rncNew_any (w : World) :
    Calls Try.prog 14 #[] w fun e w' => e = .returned (.pointer (some ⟨w.heap.size, 0, none⟩)) ∧ EncAt w' w.heap.size w.heap.size (.slice none 0 0) encNew ∧ Below w.heap.size w w' := by
  have HC := Lib.hid (Cel.new w 56 #[.slice none 0 0, .int .u32 0, .int .u32 0])
  have HB := Lib.hid (Below.alloc_new w (.cells #[.slice none 0 0, .int .u32 0, .int .u32 0] 56))
  have HO := Lib.hid (World.ownsRow_nil (w.alloc (.cells #[.slice none 0 0, .int .u32 0, .int .u32 0] 56)) w.heap.size 5 1)
  go_enter Try.func14, Try.ntmps14
  go_wp2
  go_ret
  exact ⟨rfl, ⟨[], 0, ⟨HC.out, HO.out, Nat.le_refl _⟩, isDig_nil, rfl, by omega, by omega, rfl⟩, HB.out⟩
theorem rncLen_nil (w : World) :
    Calls Try.prog 34 #[.pointer none] w fun e w' => e = .returned (.int .i64 0) ∧ w = w' := by
  go_enter Try.func34, Try.ntmps34
  go_wp2
  go_ret
  exact ⟨rfl, rfl⟩
theorem rncLen_any (base g : Nat) (v : Value) (n : Int) (k : Nat) (less : Int) (w : World) (h : EncR w base g v n k less) (hk : k ≤ 1000000) :
    Calls Try.prog 34 #[.pointer (some ⟨g, 0, none⟩)] w fun e w' => e = .returned (.int .i64 ((k : Int) + 4)) ∧ w = w' := by
  obtain ⟨D, last, h1, h2, h3, h4, h5, h6⟩ := h
  obtain ⟨c0, _, _⟩ := h1.cells
  have ho := h1.2.1
  rw [h3] at ho
  obtain ⟨a, c, rfl⟩ := own_form ho
  clear h1 h2 h3 h4 h5 h6 ho
  go_enter Try.func34, Try.ntmps34
  go_wp2
  go_ret
  exact ⟨rfl, rfl⟩

theorem rncPut_nil (low own all : Int) (w : World) :
    Calls Try.prog 56 #[.pointer none, .agg #[.int .u32 low, .int .u32 own, .int .u32 all]] w fun e w' => e = .returned (.int .i64 1) ∧ Below w.heap.size w w' := by
  have HB := Lib.hid (Below.alloc_new w (.cells #[.int .u32 low, .int .u32 own, .int .u32 all] 91))
  go_enter Try.func56, Try.ntmps56
  go_wp2
  go_ret
  exact ⟨rfl, HB.out⟩
theorem rncPut_no (g : Nat) (low own all : Int) (w : World) (l0 : 0 ≤ low) (l1 : low ≤ 4294967295) (o0 : 0 ≤ own) (o1 : own ≤ 4294967295) (a0 : 0 ≤ all) (a1 : all ≤ 4294967295) (h : ¬ OkP low own all) :
    Calls Try.prog 56 #[.pointer (some ⟨g, 0, none⟩), .agg #[.int .u32 low, .int .u32 own, .int .u32 all]] w fun e w' => e = .returned (.int .i64 1) ∧ Below w.heap.size w w' := by
  have HB := Lib.hid (Below.alloc_new w (.cells #[.int .u32 low, .int .u32 own, .int .u32 all] 91))
  have H := Lib.hid h
  clear h
  go_enter Try.func56, Try.ntmps56
  go_wp2_with (go_at_call 62; ((with_reducible refine (rncMay_no low own all _ l0 l1 o0 o1 a0 a1 H.out).mono ?_)); rintro e w2 ⟨rfl, hb⟩; replace HB := Lib.hid (HB.out.trans (hb.mono HB.out.size)); clear hb)
  go_ret
  exact ⟨rfl, HB.out⟩
end Go.Proofs.Ytgnmnmjicjcffaa

/- What the functions of package rangeenc give: a part that may be is put. -/
namespace Go.Proofs.Ytgnmnmjicjcffaa
open Go.RowKit
set_option linter.unusedVariables false

theorem u32_not06 {c : Int} (h0 : 0 ≤ c) (h1 : c ≤ 4294967295) : bits .xor .u32 IntKind.u32.max c = 4294967295 - c := by
  obtain ⟨m, rfl⟩ : ∃ m : Nat, c = m := ⟨c.toNat, by omega⟩
  have a := u32_xor_nat 4294967295 m (by decide) (by omega)
  refine Eq.trans a ?_
  have e : 4294967295 ^^^ m = 4294967295 - m := by
    apply Nat.eq_of_testBit_eq
    intro i
    have s := Nat.testBit_two_pow_sub_succ (n := 32) (x := m) (by omega) i
    rw [show 2 ^ 32 - (m + 1) = 4294967295 - m by omega] at s
    rw [s, Nat.testBit_xor, show (4294967295 : Nat) = 2 ^ 32 - 1 by rfl, Nat.testBit_two_pow_sub_one]
    by_cases hi : i < 32
    · simp [hi]
    · have : m.testBit i = false := Nat.testBit_lt_two_pow (Nat.lt_of_lt_of_le (show m < 2 ^ 32 by omega) (Nat.pow_le_pow_right (by decide) (by omega)))
      simp [hi, this]
  rw [e]; omega

set_option maxRecDepth 100000 in
theorem rncPut_any (base g : Nat) (v : Value) (e : EncS) (low own all : Int) (w : World) (hE : EncAt w base g v e) (hG : GoodE e) (hP : OkP low own all) (hk : e.k ≤ 900000) :
    Calls Try.prog 56 #[.pointer (some ⟨g, 0, none⟩), .agg #[.int .u32 low, .int .u32 own, .int .u32 all]] w (PutPost base g v (encPut e low own all) (.int .i64 0) w) := by
  obtain ⟨s0, s1, n0, n1⟩ := hG
  obtain ⟨p1, p2, p3, p4, p5⟩ := hP
  obtain ⟨E0, E1, E2⟩ := each_bd s0 s1 p1 p2
  have HP : RowKit.Hid (OkP low own all) := ⟨p1, p2, p3, p4, p5⟩
  have HG : RowKit.Hid (GoodE e) := ⟨s0, s1, n0, n1⟩
  have HE : RowKit.Hid (EncR w base g v e.n e.k (4294967295 - e.s)) := hE
  have HL := Lib.hid HE.out.lt
  have HOw : RowKit.Hid (∀ r, v.ownBlock = some r → r < w.heap.size ∧ base ≤ r ∧ r ≠ g) := fun r hr => HE.out.own r hr
  clear hE
  have HPre := Lib.hid (encPre_bd HG.out HP.out)
  have a2 : 0 ≤ e.s / all * low := Int.mul_nonneg (by omega) p4
  have a3 : e.s / all * (low + own) ≤ e.s / all * all := Int.mul_le_mul_of_nonneg_left p5 (by omega)
  have a4 : e.s / all * 1 ≤ e.s / all * own := Int.mul_le_mul_of_nonneg_left p3 (by omega)
  rw [Int.mul_add] at a3
  have hput : encPut e low own all = scaleE (encPre e low own all) := rfl
  rw [hput]
  clear hput
  have HN : RowKit.Hid ((encPre e low own all).n = e.n + e.s / all * low ∧ (encPre e low own all).s = e.s / all * own ∧ (encPre e low own all).k = e.k) := ⟨rfl, rfl, rfl⟩
  generalize encPre e low own all = pre at HN HPre ⊢
  obtain ⟨E, hEE⟩ : ∃ E, e.s / all = E := ⟨_, rfl⟩
  rw [hEE] at a2 a3 a4 E0 E1 E2 HN
  obtain ⟨A, hA⟩ : ∃ A, E * low = A := ⟨_, rfl⟩
  obtain ⟨O, hO⟩ : ∃ O, E * own = O := ⟨_, rfl⟩
  rw [hA] at a2 a3 HN
  rw [hO] at a3 a4 HN
  have O0 : 2048 ≤ O := by omega
  have O1 : O ≤ 4294967295 := by omega
  have HAdd : RowKit.Hid (e.n + A < 4294967296 * P256 e.k) := by
    have a := HPre.out
    have b := HN.out
    have c := HG.out.2.2.2
    show _ < _
    omega
  have hnot : bits .xor .u32 (if IntKind.u32.signed = true then -1 else IntKind.u32.max) (4294967295 - e.s) = e.s := by
    show bits .xor .u32 IntKind.u32.max (4294967295 - e.s) = e.s
    rw [u32_not06 (by omega) (by omega)]; omega
  have hall : ¬ all = 0 := by omega
  have HC0 := Lib.hid (Cel.new w 91 #[.int .u32 low, .int .u32 own, .int .u32 all])
  have HB0 := Lib.hid (Below.alloc_new w (.cells #[.int .u32 low, .int .u32 own, .int .u32 all] 91))
  have HE0 := Lib.hid (HE.out.below HB0.out)
  obtain ⟨S, hS⟩ : ∃ S, e.s = S := ⟨_, rfl⟩
  rw [hS] at hnot hEE s0 s1 HE HE0
  have hEE' : S.tdiv all = E := by rw [Int.tdiv_eq_ediv_of_nonneg (by omega)]; exact hEE
  have A1 : A ≤ 4294967295 := by omega
  have HSS := Lib.hid hS
  have hk1 : e.k ≤ 1000000 := by omega
  clear hS hEE p4 p5 a3 a4 E2
  go_enter Try.func56, Try.ntmps56
  go_wp2_with (first | (go_at_call 62; go_loud (refine (rncMay_yes low own all _ HP.out).mono ?_); rintro e1 w1 ⟨rfl, hb⟩; have HB1 := Lib.hid (HB0.out.trans (hb.mono HB0.out.size)); have HE1 := Lib.hid (HE0.out.below hb); have HC1 := Lib.hid (HC0.out.below hb); obtain ⟨ls1, lf1⟩ := HE1.out.less_; have q0 := HC1.out.cell 0; have q2 := HC1.out.cell 2; simp only [List.getElem?_toArray, List.getElem?_cons_zero, List.getElem?_cons_succ] at q0 q2; clear hb) | (go_at_call 63; go_loud (with_reducible refine (rncAdd_any base g v e.n e.k _ A _ HE1.out a2 A1 HAdd.out hk1).mono ?_); rintro e2 w2 ⟨rfl, hp⟩; obtain ⟨v2, hr2, hkp2, ho2⟩ := hp; have HE2 := Lib.hid hr2; have HK2 := Lib.hid hkp2; have HO2 := Lib.hid ho2; have HC2 := Lib.hid (HC1.out.keeps hkp2 (by intro c; rcases c with c | c; have := HL.out.1; omega; have := (HOw.out _ c).1; omega)); have q1 := HC2.out.cell 1; simp only [List.getElem?_toArray, List.getElem?_cons_zero, List.getElem?_cons_succ] at q1; clear hr2 hkp2 ho2))
  clear hnot ls1 lf1 q0 q2
  go_loopw [5] (fun s wr => ∃ (st : EncS) (v3 : Value), s = .int .u32 st.s ∧ 2048 ≤ st.s ∧ st.s ≤ 4294967295 ∧ st.k ≤ e.k + 2 ∧ (e.k + 1 ≤ st.k → 524288 ≤ st.s) ∧ (e.k + 2 ≤ st.k → 16777216 ≤ st.s) ∧ RowKit.Hid (scaleE st = scaleE pre ∧ EncR wr base g v3 st.n st.k (4294967295 - S) ∧ Keeps (fun j => j = g ∨ v.ownBlock = some j) w wr ∧ (∀ j, v3.ownBlock = some j → v.ownBlock = some j ∨ w.heap.size ≤ j))) (fun s _ => (16777216 - intOf s).toNat)
  case atStart =>
    have st1 := HN.out
    refine ⟨pre, v2, by rw [st1.2.1], by omega, by omega, by omega, by omega, by omega, rfl, ?_, ?_, ?_⟩
    · rw [st1.1, st1.2.2]; exact HE2.out
    · exact (Keeps.of_below HB1.out).trans HK2.out
    · intro j hj
      rcases HO2.out j hj with h | h
      · exact .inl h
      · have := HB1.out.size; exact .inr (by omega)
  case round =>
    obtain ⟨st, v3, rfl, b0, b1, b2, b3, b4, H⟩ := hrel
    clear HC2 HE2 HK2 HO2 HC1 HE1
    by_cases hlt : st.s < 16777216
    · have S1 := Lib.hid (scaleE_step (e := st) (by omega) hlt)
      have hk1' : st.k ≤ 1000000 := by omega
      go_wp2_with (go_at_call 64; ((with_reducible refine (rncScale_any base g v3 st.n st.k _ _ H.out.2.1 hk1').mono ?_)); rintro e4 w4 ⟨rfl, hp⟩; have HP4 := Lib.hid hp; clear hp)
      go_roundw
      case rel =>
        obtain ⟨v4, u1, u2, u3⟩ := HP4.out
        refine ⟨⟨st.n * 256, st.s * 256, st.k + 1⟩, v4, rfl, by simp only; omega, by simp only; omega, by simp only; omega, by simp only; omega, by simp only; omega, S1.out.symm.trans H.out.1, u1, H.out.2.2.1.then_ u2 ?_, ?_⟩
        · rintro j (hj | hj)
          · exact .inl (.inl hj)
          · rcases H.out.2.2.2 j hj with h | h
            · exact .inl (.inr h)
            · exact .inr h
        · intro j hj
          rcases u3 j hj with h | h
          · exact H.out.2.2.2 j h
          · have := H.out.2.2.1.size; exact .inr (by omega)
      case measure => simp [intOf] <;> omega
    · have Z : RowKit.Hid (scaleE pre = st) := by rw [← H.out.1]; exact scaleE_end (by omega)
      have hn2 : bits .xor .u32 (if IntKind.u32.signed = true then -1 else IntKind.u32.max) st.s = 4294967295 - st.s := u32_not06 (by omega) (by omega)
      obtain ⟨m2, z2⟩ := H.out.2.1.less_
      have E5 := Lib.hid (H.out.2.1.setLess (4294967295 - st.s))
      have K5 := Lib.hid (H.out.2.2.1.setCell (p := ⟨g, 2, none⟩) (.inl (.inl rfl)) (.int .u32 (4294967295 - st.s)))
      go_wp2
      go_ret
      exact ⟨rfl, v3, by rw [Z.out]; exact E5.out, K5.out, H.out.2.2.2⟩
end Go.Proofs.Ytgnmnmjicjcffaa
