/- What the functions of package rangedec give: a part taken. -/
import Derived.Test.YtgnmnmjicjcffaaRdcB
namespace Go.Proofs.Ytgnmnmjicjcffaa
open Go.RowKit
set_option linter.unusedVariables false

def DrcPost (base g : Nat) (v : Value) (b : List Int) (d : DecS) (w : World) (x : Ending) (w' : World) : Prop :=
  x = .returned (.tuple #[]) ∧ DrcAt w' base g v b d ∧ Keeps (fun j => j = g) w w'

set_option maxHeartbeats 400000 in
set_option maxRecDepth 100000 in
theorem drcTake_any (base g : Nat) (v : Value) (b : List Int) (d : DecS) (low own all : Int) (w : World) (hD : DrcAt w base g v b d) (hb : ∀ j, 0 ≤ byteF b j ∧ byteF b j ≤ 255) (hl : b.length ≤ 1000000) (hi : d.i ≤ 5000000) (hG : GoodD d) (hP : OkP low own all) (hlow : d.s / all * low ≤ d.c) :
    Calls Try.prog 70 #[.pointer (some ⟨g, 0, none⟩), .agg #[.int .u32 low, .int .u32 own, .int .u32 all]] w (DrcPost base g v b (decTake (byteF b) d low own all) w) := by
  have HBy := Lib.hid hb
  have h4 := hD.1
  have HD0 := Lib.hid hD.2
  have hgl := hD.lt.1
  have hpre := decPre_bd hG hP hlow
  obtain ⟨s0, s1, c0, c1⟩ := hG
  obtain ⟨p1, p2, p3, p4, p5⟩ := hP
  obtain ⟨E0, E1, E2⟩ := each_bd s0 s1 p1 p2
  have hput : decTake (byteF b) d low own all = scaleD (byteF b) (decPre d low own all) := rfl
  rw [hput]
  clear hput hD hb
  have HN : RowKit.Hid ((decPre d low own all).c = (if d.s / all * own ≤ d.c - d.s / all * low then d.s / all * own - 1 else d.c - d.s / all * low) ∧ (decPre d low own all).s = d.s / all * own ∧ (decPre d low own all).i = d.i) := ⟨rfl, rfl, rfl⟩
  generalize decPre d low own all = pre at HN hpre ⊢
  obtain ⟨r1, r2, r3, r4⟩ := hpre
  have a2 : 0 ≤ d.s / all * low := Int.mul_nonneg (by omega) p4
  have a3 : d.s / all * (low + own) ≤ d.s / all * all := Int.mul_le_mul_of_nonneg_left p5 (by omega)
  have a4 : d.s / all * 1 ≤ d.s / all * own := Int.mul_le_mul_of_nonneg_left p3 (by omega)
  rw [Int.mul_add] at a3
  have hq : d.s.tdiv all = d.s / all := Int.tdiv_eq_ediv_of_nonneg (by omega)
  have hall : ¬ all = 0 := by omega
  have hall2 : low ≤ 8192 ∧ own ≤ 8192 := by omega
  obtain ⟨E, hE⟩ : ∃ E, d.s / all = E := ⟨_, rfl⟩
  rw [hE] at hq a2 a3 a4 E0 E1 E2 HN hlow
  obtain ⟨A, hA⟩ : ∃ A, E * low = A := ⟨_, rfl⟩
  obtain ⟨O, hO⟩ : ∃ O, E * own = O := ⟨_, rfl⟩
  rw [hA] at a2 a3 HN hlow
  rw [hO] at a3 a4 HN
  have hnot : bits .xor .u32 (if IntKind.u32.signed = true then -1 else IntKind.u32.max) (4294967295 - d.s) = d.s := by
    show bits .xor .u32 IntKind.u32.max (4294967295 - d.s) = d.s
    rw [u32_not07 (by omega) (by omega)]; omega
  obtain ⟨S, hS⟩ : ∃ S, d.s = S := ⟨_, rfl⟩
  rw [hS] at HD0 hnot hq s0 s1 E2 hE
  clear hS
  have HC0 := Lib.hid (Cel.new w 91 #[.int .u32 low, .int .u32 own, .int .u32 all])
  have HB0 := Lib.hid (Below.alloc_new w (.cells #[.int .u32 low, .int .u32 own, .int .u32 all] 91))
  have HD1 := Lib.hid (HD0.out.below HB0.out)
  obtain ⟨w1, hw1⟩ : ∃ w1, w1 = w.alloc (.cells #[.int .u32 low, .int .u32 own, .int .u32 all] 91) := ⟨_, rfl⟩
  rw [← hw1] at HC0 HB0 HD1
  obtain ⟨m0, m1, m2, m3⟩ := HD1.out.cells
  obtain ⟨z1, z2, z3⟩ := HD1.out.fz
  have q0 := HC0.out.cell 0
  have q1 := HC0.out.cell 1
  have q2 := HC0.out.cell 2
  simp only [List.getElem?_toArray, List.getElem?_cons_zero, List.getElem?_cons_succ] at q0 q1 q2
  obtain ⟨X, hX⟩ : ∃ X, X = pre.c := ⟨_, rfl⟩
  have HP : RowKit.Hid (pre = ⟨X, O, d.i⟩) := by
    obtain ⟨c', s', i'⟩ := pre
    obtain ⟨h1, h2, h3⟩ := HN.out
    simp only at h1 h2 h3 hX
    subst h2 h3 hX
    exact rfl
  have HX : RowKit.Hid (X = if O ≤ d.c - A then O - 1 else d.c - A) := by show _ = _; rw [hX]; exact HN.out.1
  have O1 : O ≤ 4294967295 := by omega
  have e1 : IntKind.u32.wrap A = A := IntWalk.u32_in _ (by omega)
  have e2 : IntKind.u32.wrap (d.c - A) = d.c - A := IntWalk.u32_in _ (by omega)
  have e3 : IntKind.u32.wrap (O - 1) = O - 1 := IntWalk.u32_in _ (by omega)
  have e4 : IntKind.u32.wrap O = O := IntWalk.u32_in _ (by omega)
  have e5 : IntKind.u32.wrap E = E := IntWalk.u32_in _ (by omega)
  clear hX E2 a3 a4 m0 m1
  go_enter Try.func70, Try.ntmps70
  go_wp2
  rw [← hw1]
  clear hw1
  go_quiet (fail)
  go_wp2
  have hmin : (if O - 1 < d.c - A then O - 1 else d.c - A) = X := by
    have hx := HX.out
    rcases Int.lt_or_le (d.c - A) O with hlt | hle
    · rw [if_neg (by omega)] at hx ⊢; exact hx.symm
    · rw [if_pos (by omega)] at hx ⊢; exact hx.symm
  obtain ⟨wq, hwq⟩ : ∃ wq, wq = w1.drewN nq := ⟨_, rfl⟩
  have HD2 : RowKit.Hid (DrcR wq base g v b (d.i - 4) d.c (4294967295 - S)) := by rw [hwq]; exact HD1.out.drewN _
  have HC2 : RowKit.Hid (Cel wq w.heap.size 91 #[.int .u32 low, .int .u32 own, .int .u32 all]) := by rw [hwq]; exact HC0.out.drewN _
  have HB2 : RowKit.Hid (Below w.heap.size w wq) := by rw [hwq]; exact Below.drewN' HB0.out _
  rw [← hwq]
  clear hwq m2 m3 z1 z2 z3 q0 q1 q2 HC0 HB0 HD1
  obtain ⟨m0, m1, m2, m3⟩ := HD2.out.cells
  obtain ⟨z1, z2, z3⟩ := HD2.out.fz
  have q0 := HC2.out.cell 0
  simp only [List.getElem?_toArray, List.getElem?_cons_zero] at q0
  clear m0 m1 z1
  go_still_tail 15, (by kernel_rfl)
  repeat still_step
  change wpList _ _ _ _ _ wq.drew
  have H0 : RowKit.Hid (DrcR ((wq.setCell ⟨g, 2, none⟩ (.int .u32 X)).drew) base g v b (d.i - 4) X (4294967295 - S) ∧ Keeps (fun j => j = g) w ((wq.setCell ⟨g, 2, none⟩ (.int .u32 X)).drew)) :=
    ⟨(HD2.out.setCode X).drewN 1, (Keeps.setCell (F := fun j => j = g) (p := ⟨g, 2, none⟩) (Keeps.of_below HB2.out) (.inl rfl) _).drewN 1⟩
  go_wp2
  generalize (wq.setCell ⟨g, 2, none⟩ (.int .u32 X)).drew = w3 at H0 ⊢
  have r5 := HP.out
  rw [r5] at r1 r2 r3 r4
  simp only at r1 r2 r3 r4
  clear r5 m2 m3 z2 z3 q0 HC2 HD2 HB2 e1 e2 e3 e4 e5 hmin HX hall hnot hq hE hA hO HN hlow
  go_loopw [5] (fun s wr => ∃ st : DecS, s = .int .u32 st.s ∧ RowKit.Hid (DecScale b d.i pre st ∧ DrcR wr base g v b (st.i - 4) st.c (4294967295 - S) ∧ Keeps (fun j => j = g) w wr ∧ 4 ≤ st.i)) (fun s _ => (16777216 - intOf s).toNat)
  case atStart => exact ⟨⟨X, O, d.i⟩, rfl, ⟨by rw [HP.out], r1, r2, r3, r4, by simp only; omega, by simp only; omega, by simp only; omega⟩, H0.out.1, H0.out.2, h4⟩
  case round =>
    obtain ⟨st, rfl, H⟩ := hrel
    clear H0
    obtain ⟨S1, b0, b1, b2, b3, b4, b5, b6⟩ := H.out.1
    have HS1 := Lib.hid S1
    clear S1
    have i4 := H.out.2.2.2
    have HD3 := Lib.hid H.out.2.1
    have HK3 := Lib.hid H.out.2.2.1
    clear H
    obtain ⟨st_c, st_s, st_i⟩ := st
    simp only at b0 b1 b2 b3 b4 b5 b6 i4 HD3 HS1 ⊢
    by_cases hlt : st_s < 16777216
    · obtain ⟨k, rfl⟩ : ∃ k, st_i = k + 4 := ⟨st_i - 4, by omega⟩
      rw [Nat.add_sub_cancel] at HD3
      have S2 := Lib.hid (scaleD_step (byteF b) (d := ⟨st_c, st_s, k + 4⟩) (by simp only; omega) hlt)
      obtain ⟨x, hx⟩ : ∃ x, x = byteF b (k + 4) := ⟨_, rfl⟩
      have x01 : 0 ≤ x ∧ x ≤ 255 := by rw [hx]; exact HBy.out _
      have HXx := Lib.hid hx
      clear hx
      obtain ⟨x0, x1⟩ := x01
      have hor := u32_or_byte b2 (by omega) x0 x1
      have f1 : IntKind.u32.wrap (st_c * 256) = st_c * 256 := IntWalk.u32_in _ (by omega)
      have f2 : IntKind.u32.wrap x = x := IntWalk.u32_in _ (by omega)
      have f3 : IntKind.u32.wrap (st_s * 256) = st_s * 256 := IntWalk.u32_in _ (by omega)
      have f4 : IntKind.i64.wrap (4 + (k : Int)) = 4 + (k : Int) := IntWalk.i64_in _ (by omega)
      have f5 : IntKind.i64.wrap ((k : Int) + 1) = (k : Int) + 1 := IntWalk.i64_in _ (by omega)
      have T5 := Lib.hid ((HD3.out.drewN 1).setCode (st_c * 256 + x))
      have K5 := Lib.hid (Keeps.setCell (F := fun j => j = g) (p := ⟨g, 2, none⟩) (HK3.out.drewN 1) (.inl rfl) (.int .u32 (st_c * 256 + x)))
      have T6 : RowKit.Hid (DrcR ((wr.drew.setCell ⟨g, 2, none⟩ (.int .u32 (st_c * 256 + x))).setCell ⟨g, 1, none⟩ (.int .i64 ((k : Int) + 1))) base g v b (k + 1) (st_c * 256 + x) (4294967295 - S)) := T5.out.setMore (k + 1)
      have K6 : RowKit.Hid (Keeps (fun j => j = g) w ((wr.drew.setCell ⟨g, 2, none⟩ (.int .u32 (st_c * 256 + x))).setCell ⟨g, 1, none⟩ (.int .i64 ((k : Int) + 1)))) := Keeps.setCell (F := fun j => j = g) (p := ⟨g, 1, none⟩) K5.out (.inl rfl) _
      have HDr : RowKit.Hid (Calls Try.prog 36 #[.pointer (some ⟨g, 0, none⟩), .int .i64 (4 + (k : Int))] wr.drew fun e w' => e = .returned (.int .u8 x) ∧ w' = wr.drew) := by
        rw [HXx.out]
        exact (drcDigit_any base g v b _ _ _ (k + 4) (4 + (k : Int)) _ (by omega) (HD3.out.drewN 1) hl (by omega)).mono fun _ _ h => ⟨h.1, h.2.symm⟩
      obtain ⟨y0, y1, y2, y3⟩ := HD3.out.cells
      obtain ⟨v1, v2, v3⟩ := HD3.out.fz
      clear y0 y3
      go_wp2
      go_still_tail 17, (by kernel_rfl)
      repeat still_step
      still_call HDr.out
      repeat still_step
      change wpList _ _ _ _ _ wr.drew
      go_wp2
      go_roundw
      case rel => exact ⟨⟨st_c * 256 + x, st_s * 256, k + 5⟩, rfl, ⟨by rw [← HS1.out, S2.out, HXx.out], by simp only; omega, by simp only; omega, by simp only; omega, by simp only; omega, by simp only; omega, by simp only; omega, by simp only; omega⟩, T6.out, K6.out, by simp only; omega⟩
      case measure => simp [intOf] <;> omega
    · have Z : RowKit.Hid (scaleD (byteF b) pre = ⟨st_c, st_s, st_i⟩) := by
        show _ = _
        rw [← HS1.out]; exact scaleD_end _ (by simp only; omega)
      have hn2 : bits .xor .u32 (if IntKind.u32.signed = true then -1 else IntKind.u32.max) st_s = 4294967295 - st_s := u32_not07 (by omega) (by omega)
      obtain ⟨y0, y1, y2, y3⟩ := HD3.out.cells
      obtain ⟨v1, v2, v3⟩ := HD3.out.fz
      have T5 := Lib.hid (HD3.out.setLess (4294967295 - st_s))
      have K5 := Lib.hid (Keeps.setCell (F := fun j => j = g) (p := ⟨g, 3, none⟩) HK3.out (.inl rfl) (.int .u32 (4294967295 - st_s)))
      clear y0 y1
      go_wp2
      go_end0
      exact ⟨rfl, by rw [Z.out]; exact ⟨i4, T5.out⟩, K5.out⟩
end Go.Proofs.Ytgnmnmjicjcffaa
