/- Plain facts, and what functions give, for the proofs of this seat: several texts in one, each with its own first remark. -/
import Derived.Deep.RegionHeld3
import Derived.Test.YtobhoecmmpijgaaGreatRy

/- What package quant's getting of one number gives; its two function literals. -/
namespace Go.Proofs.YtobhoecmmpijgaaGreat
open Go.RowKit
set_option linter.unusedVariables false

/-- The decoder's and the model's state. -/
structure GetQ (base g mg : Nat) (v : Value) (b : List Int) (S : DecS × List Int) (wr : World) : Prop where
  d : DrcAt wr base g v b S.1
  m : ModAt wr mg S.2 false
theorem GetQ.keeps {w w' : World} {base g mg : Nat} {v : Value} {b : List Int} {S : DecS × List Int} {F : Nat → Prop} (h : GetQ base g mg v b S w) (hk : Keeps F w w') (h1 : ¬ F g) (h2 : ∀ r, v.ownBlock = some r → ¬ F r) (h3 : ¬ F mg) : GetQ base g mg v b S w' :=
  ⟨h.d.keeps hk h1 h2, h.m.keeps hk h3⟩
theorem GetQ.below {w w' : World} {base g mg : Nat} {v : Value} {b : List Int} {S : DecS × List Int} (h : GetQ base g mg v b S w) (hb : Below w.heap.size w w') : GetQ base g mg v b S w' := ⟨h.d.below hb, h.m.below hb⟩
theorem GetQ.drewN {w : World} {base g mg : Nat} {v : Value} {b : List Int} {S : DecS × List Int} (h : GetQ base g mg v b S w) (n : Nat) : GetQ base g mg v b S (w.drewN n) := ⟨h.d.drewN n, h.m.drewN n⟩
/-- What one number's getting leaves: it, or, where it has more bits than may be, that it hasn't the form. -/
def OnePost (base g mg : Nat) (v : Value) (b : List Int) (S : DecS × List Int) (most : Nat) (w : World) (e : Ending) (w' : World) : Prop :=
  Keeps (fun j => j = g ∨ j = mg) w w' ∧
    ((decWhich S.1 S.2 ≤ most ∧ e = .returned (.tuple #[.int .i32 (getX b S.1 S.2).1, .int .i64 0]) ∧ GetQ base g mg v b ((getX b S.1 S.2).2, learnP S.2 (decWhich S.1 S.2)) w') ∨
      (most < decWhich S.1 S.2 ∧ e = .returned (.tuple #[.int .i32 0, .int .i64 3])))

set_option maxHeartbeats 400000 in
set_option maxRecDepth 100000 in
theorem qGet1_any (base g mg : Nat) (v : Value) (b : List Int) (S : DecS × List Int) (most : Nat) (w : World) (h : GetQ base g mg v b S w) (hG : GoodD S.1) (hL : GoodL S.2) (hl : S.2.length = 13) (hb : ∀ j, 0 ≤ byteF b j ∧ byteF b j ≤ 255) (hbl : b.length ≤ 1000000) (hi : S.1.i ≤ 3000000) (hm : most ≤ 12) :
    Calls Tryz.prog 161 #[.pointer (some ⟨g, 0, none⟩), .pointer (some ⟨mg, 0, none⟩), .int .i64 (most : Int)] w (OnePost base g mg v b S most w) := by
  obtain ⟨s1, s2, s3⟩ := decSymQ_good hb hG hL
  have hne := h.d.ne_mod h.m
  have HNe : RowKit.Hid (mg ≠ g) := hne.1
  have HS : RowKit.Hid (Calls Tryz.prog 177 #[.pointer (some ⟨g, 0, none⟩), .pointer (some ⟨mg, 0, none⟩)] w fun e w' => e = .returned (.tuple #[.int .i64 (decWhich S.1 S.2), .int .i64 0]) ∧ GetQ base g mg v b (decSym b S.1 S.2, learnP S.2 (decWhich S.1 S.2)) w' ∧ Keeps (fun j => j = g ∨ j = mg) w w') :=
    (drcSymbol_any base g v b S.1 mg S.2 w h.d h.m hb hbl (by omega) hG hL).mono fun e w' q => ⟨q.1, ⟨q.2.1, q.2.2.1⟩, q.2.2.2⟩
  have HBits : RowKit.Hid (∀ (S2 : DecS × List Int) (k : Nat) (wx : World), GetQ base g mg v b S2 wx → GoodD S2.1 → S2.1.i ≤ 3000100 → k ≤ 12 → Calls Tryz.prog 124 #[.pointer (some ⟨g, 0, none⟩), .int .i64 (k : Int)] wx fun e w' => e = .returned (.tuple #[.int .u32 (decBits b S2.1 0 k).1, .int .i64 0]) ∧ GetQ base g mg v b ((decBits b S2.1 0 k).2, S2.2) w' ∧ Keeps (fun j => j = g ∨ j = mg) wx w') := fun S2 k wx hx g2 i2 hk =>
    (drcBits_any base g v b S2.1 k wx hx.d hb hbl (by omega) g2 (by omega)).mono fun e w' q => ⟨q.1, ⟨q.2.1, hx.m.keeps q.2.2 HNe.out⟩, q.2.2.mono fun j hj => .inl hj⟩
  generalize hK : decWhich S.1 S.2 = K at HS s3
  have hK12 : K ≤ 12 := by omega
  by_cases h0 : K = 0
  · have HE := Lib.hid (getX_none b (D := S.1) (L := S.2) (by rw [hK]; exact h0))
    subst h0
    have HS0 : RowKit.Hid (Calls Tryz.prog 177 #[.pointer (some ⟨g, 0, none⟩), .pointer (some ⟨mg, 0, none⟩)] w fun e w' => e = .returned (.tuple #[.int .i64 0, .int .i64 0]) ∧ GetQ base g mg v b (decSym b S.1 S.2, learnP S.2 0) w' ∧ Keeps (fun j => j = g ∨ j = mg) w w') := HS.out
    have HKz := Lib.hid hK
    clear h hG hL hl hb hbl hi hm s1 s2 s3 hne HS HBits hK hK12
    go_enter Tryz.func161, Tryz.ntmps161
    go_wp2_with (go_at_call 177; refine HS0.out.mono ?_; rintro e1 w6 ⟨rfl, hp, hk⟩; have HP := Lib.hid hp; have HK := Lib.hid hk; clear hp hk)
    go_ret2
    refine ⟨HK.out, .inl ⟨by rw [HKz.out]; omega, by rw [HE.out]; rfl, by rw [HE.out, HKz.out]; exact HP.out⟩⟩
  · by_cases hbig : most < K
    · have HKz := Lib.hid hK
      have d0 : ((K : Int) == 0) = false := by simp; omega
      have d1 : decide ((most : Int) < (K : Int)) = true := by simp; omega
      have HLt : RowKit.Hid (most < K) := hbig
      clear h hG hL hl hb hbl hi hm s1 s2 s3 hne HBits hK hK12 hbig h0
      go_enter Tryz.func161, Tryz.ntmps161
      go_wp2_with (go_at_call 177; refine HS.out.mono ?_; rintro e1 w6 ⟨rfl, hp, hk⟩; have HP := Lib.hid hp; have HK := Lib.hid hk; clear hp hk)
      go_ret2
      exact ⟨HK.out, .inr ⟨by rw [HKz.out]; exact HLt.out, rfl⟩⟩
    · have HE := Lib.hid (getX_some b (D := S.1) (L := S.2) (by rw [hK]; exact h0))
      rw [hK] at HE
      obtain ⟨j, rfl⟩ : ∃ j, K = j + 1 := ⟨K - 1, by omega⟩
      have hj11 : j ≤ 11 := by omega
      obtain ⟨t1, t2, t3, t4⟩ := decBitsQ_good (k := 1) hb s1 (by decide)
      obtain ⟨u1, u2, u3, u4⟩ := decBitsQ_good (k := j) hb t1 (by omega)
      rw [show j + 1 - 1 = j by omega] at HE
      obtain ⟨S1, hS1⟩ : ∃ S1 : DecS × List Int, S1 = (decSym b S.1 S.2, learnP S.2 (j + 1)) := ⟨_, rfl⟩
      have HS1 : RowKit.Hid (Calls Tryz.prog 177 #[.pointer (some ⟨g, 0, none⟩), .pointer (some ⟨mg, 0, none⟩)] w fun e w' => e = .returned (.tuple #[.int .i64 ((j : Int) + 1), .int .i64 0]) ∧ GetQ base g mg v b S1 w' ∧ Keeps (fun j => j = g ∨ j = mg) w w') := by rw [hS1]; exact HS.out
      have e1 : decSym b S.1 S.2 = S1.1 := by rw [hS1]
      rw [e1] at HE s1 s2 t1 t2 t3 t4 u1 u2 u3 u4
      obtain ⟨S2, hS2⟩ : ∃ S2 : DecS × List Int, S2 = ((decBits b S1.1 0 1).2, S1.2) := ⟨_, rfl⟩
      have e2 : (decBits b S1.1 0 1).2 = S2.1 := by rw [hS2]
      have HB1 : RowKit.Hid (∀ wx, GetQ base g mg v b S1 wx → Calls Tryz.prog 124 #[.pointer (some ⟨g, 0, none⟩), .int .i64 1] wx fun e w' => e = .returned (.tuple #[.int .u32 (decBits b S1.1 0 1).1, .int .i64 0]) ∧ GetQ base g mg v b S2 w' ∧ Keeps (fun j => j = g ∨ j = mg) wx w') := fun wx hx => by rw [hS2]; exact HBits.out S1 1 wx hx s1 (by omega) (by decide)
      rw [e2] at HE t1 t2 u1 u2 u3 u4
      obtain ⟨S3, hS3⟩ : ∃ S3 : DecS × List Int, S3 = ((decBits b S2.1 0 j).2, S2.2) := ⟨_, rfl⟩
      have HB2 : RowKit.Hid (∀ wx, GetQ base g mg v b S2 wx → Calls Tryz.prog 124 #[.pointer (some ⟨g, 0, none⟩), .int .i64 (j : Int)] wx fun e w' => e = .returned (.tuple #[.int .u32 (decBits b S2.1 0 j).1, .int .i64 0]) ∧ GetQ base g mg v b S3 w' ∧ Keeps (fun j => j = g ∨ j = mg) wx w') := fun wx hx => by rw [hS3]; exact HBits.out S2 j wx hx t1 (by omega) (by omega)
      have e3 : ((getX b S.1 S.2).2, learnP S.2 (j + 1)) = S3 := by rw [HE.out, hS3, hS2, hS1]
      have HE1 : RowKit.Hid ((getX b S.1 S.2).1 = if (decBits b S1.1 0 1).1 = 1 then -((decBits b S2.1 0 j).1 + P2 j) else (decBits b S2.1 0 j).1 + P2 j) := by show _ = _; rw [HE.out]
      have HE3 : RowKit.Hid (S3 = ((getX b S.1 S.2).2, learnP S.2 (j + 1))) := e3.symm
      have HKz := Lib.hid hK
      have HLe : RowKit.Hid (j + 1 ≤ most) := by show _ ≤ _; omega
      have p0 := P2_pos j
      have p1 := P2_12 (k := j) (by omega)
      have hp : (2 : Int) ^ j = P2 j := rfl
      rw [show P2 1 = 2 by decide] at t4
      clear h hG hL hl hb hbl hi s1 s2 s3 hne HBits hK hK12 h0 HS HE t1 t2 u1 u2 hS1 hS2 hS3 e1 e2 e3
      generalize (decBits b S1.1 0 1).1 = sg at HB1 HE1 t3 t4
      generalize (decBits b S2.1 0 j).1 = lw at HB2 HE1 u3 u4
      generalize P2 j = p at HE1 u4 p0 p1 hp
      obtain ⟨y, hy⟩ : ∃ y, (getX b S.1 S.2).1 = y := ⟨_, rfl⟩
      have HYq := Lib.hid hy
      rw [hy] at HE1
      clear hy
      have d0 : (((j : Int) + 1) == 0) = false := by simp; omega
      have d1 : decide ((most : Int) < (j : Int) + 1) = false := by simp; omega
      have c1 : IntKind.i64.wrap ((j : Int) + 1 - 1) = (j : Int) := by rw [show (j : Int) + 1 - 1 = j by omega]; exact IntWalk.i64_in _ (by omega)
      have c2 : IntKind.i32.wrap (2 ^ j) = p := by rw [hp]; exact IntWalk.i32_in _ (by omega)
      have c3 : IntKind.i32.wrap lw = lw := IntWalk.i32_in _ (by omega)
      have c4 : IntKind.i32.wrap (lw + p) = lw + p := IntWalk.i32_in _ (by omega)
      have c5 : IntKind.i32.wrap (-(lw + p)) = -(lw + p) := IntWalk.i32_in _ (by omega)
      clear hp hbig
      by_cases hs : sg = 1
      · subst hs
        have HY : RowKit.Hid (-(lw + p) = y) := by show _ = _; rw [HE1.out, if_pos rfl]
        clear HE1
        go_enter Tryz.func161, Tryz.ntmps161
        go_wp2_with (first
          | (go_at_call 177; refine HS1.out.mono ?_; rintro e1 w6 ⟨rfl, hp, hk⟩; have HP := Lib.hid hp; have HK := Lib.hid hk; clear hp hk)
          | (go_at_call 124; have hx := HP2.out; refine (HB2.out _ hx).mono ?_; rintro e1 w8 ⟨rfl, hp, hk⟩; have HP3 := Lib.hid hp; have HK3 := Lib.hid (HK2.out.trans hk); clear hp hk hx HP2)
          | (go_at_call 124; refine (HB1.out _ HP.out).mono ?_; rintro e1 w7 ⟨rfl, hp, hk⟩; have HP2 := Lib.hid hp; have HK2 := Lib.hid (HK.out.trans hk); clear hp hk)
          | fail)
        go_ret2
        exact ⟨HK3.out, .inl ⟨by rw [HKz.out]; exact HLe.out, by rw [HY.out, HYq.out]; rfl, by rw [HKz.out, ← HE3.out]; exact HP3.out⟩⟩
      · have HY : RowKit.Hid (lw + p = y) := by show _ = _; rw [HE1.out, if_neg hs]
        have d2 : (sg == 1) = false := by simp; omega
        clear HE1 hs
        go_enter Tryz.func161, Tryz.ntmps161
        go_wp2_with (first
          | (go_at_call 177; refine HS1.out.mono ?_; rintro e1 w6 ⟨rfl, hp, hk⟩; have HP := Lib.hid hp; have HK := Lib.hid hk; clear hp hk)
          | (go_at_call 124; have hx := HP2.out; refine (HB2.out _ hx).mono ?_; rintro e1 w8 ⟨rfl, hp, hk⟩; have HP3 := Lib.hid hp; have HK3 := Lib.hid (HK2.out.trans hk); clear hp hk hx HP2)
          | (go_at_call 124; refine (HB1.out _ HP.out).mono ?_; rintro e1 w7 ⟨rfl, hp, hk⟩; have HP2 := Lib.hid hp; have HK2 := Lib.hid (HK.out.trans hk); clear hp hk)
          | fail)
        go_ret2
        exact ⟨HK3.out, .inl ⟨by rw [HKz.out]; exact HLe.out, by rw [HY.out, HYq.out]; rfl, by rw [HKz.out, ← HE3.out]; exact HP3.out⟩⟩

/-! ### The two function literals -/
theorem one_form {base g mg : Nat} {v : Value} {b : List Int} {S : DecS × List Int} {most : Nat} {w w' : World} {e : Ending} (h : OnePost base g mg v b S most w e w') : ∃ y1 y2 : Int, e = .returned (.tuple #[.int .i32 y1, .int .i64 y2]) := by
  rcases h.2 with ⟨_, h2, _⟩ | ⟨_, h2⟩
  · exact ⟨_, _, h2⟩
  · exact ⟨_, _, h2⟩
theorem part_at {w : World} {g : Nat} {a b n s : Int} (h : Cel w g 202 #[.int .i64 a, .int .i64 b, .int .i64 n, .int .i64 s]) :
    w.cell? ⟨g, 0, none⟩ = some (.int .i64 a) ∧ w.cell? ⟨g, 1, none⟩ = some (.int .i64 b) ∧ w.cell? ⟨g, 2, none⟩ = some (.int .i64 n) ∧ w.cell? ⟨g, 3, none⟩ = some (.int .i64 s) :=
  ⟨h.cell 0, h.cell 1, h.cell 2, h.cell 3⟩
set_option maxHeartbeats 1000000 in
set_option maxRecDepth 100000 in
theorem qLitGet_any (base g mg db mb : Nat) (v : Value) (b : List Int) (S : DecS × List Int) (a e n s line : Int) (most : Nat) (w : World) (h : GetQ base g mg v b S w) (hG : GoodD S.1) (hL : GoodL S.2) (hl : S.2.length = 13) (hb : ∀ j, 0 ≤ byteF b j ∧ byteF b j ≤ 255) (hbl : b.length ≤ 1000000) (hi : S.1.i ≤ 3000000) (hm : most ≤ 12) (hns : n - s = most)
    (hd : Cel w db 169 #[.pointer (some ⟨g, 0, none⟩)]) (hmb : Cel w mb 234 #[.pointer (some ⟨mg, 0, none⟩)]) :
    Calls Tryz.prog 160 #[.agg #[.int .i64 a, .int .i64 e, .int .i64 n, .int .i64 s], .int .i64 line, .pointer (some ⟨db, 0, none⟩), .pointer (some ⟨mb, 0, none⟩)] w (OnePost base g mg v b S most w) := by
  have HBy := Lib.hid hb
  have HG := Lib.hid hG
  have HL := Lib.hid hL
  have HNs := Lib.hid hns
  have hgl := h.d.lt.1
  have hdl := hd.lt
  have hml := hmb.lt
  have hb0 := part_new w a e n s
  have H0 := Lib.hid (h.below hb0)
  have HD0 := Lib.hid (hd.below hb0)
  have HM0 := Lib.hid (hmb.below hb0)
  have HC0 := Lib.hid (Cel.new w 202 #[.int .i64 a, .int .i64 e, .int .i64 n, .int .i64 s])
  have HB0 := Lib.hid hb0
  have HNe : RowKit.Hid (db ≠ g ∧ db ≠ mg ∧ mb ≠ g ∧ mb ≠ mg ∧ w.heap.size ≠ g ∧ w.heap.size ≠ mg) := ⟨cel_ne hd h.d.2.1 (by decide), cel_ne hd h.m.2 (by decide), cel_ne hmb h.d.2.1 (by decide), cel_ne hmb h.m.2 (by decide), by omega, by have := h.m.lt; omega⟩
  have hmgl := h.m.lt
  clear h hG hL hb hns hd hmb hb0
  go_enter Tryz.func160, Tryz.ntmps160
  go_wp2
  generalize w.alloc (.cells #[.int .i64 a, .int .i64 e, .int .i64 n, .int .i64 s] 202) = w2 at H0 HD0 HM0 HC0 HB0 ⊢
  generalize w.heap.size = pb at HC0 HNe ⊢
  have d0 := HD0.out.cell 0
  have m0 := HM0.out.cell 0
  simp only [List.getElem?_toArray, List.getElem?_cons_zero] at d0 m0
  obtain ⟨p0, p1, p2, p3⟩ := part_at HC0.out
  go_region_held3 (fun w' => w'.cell? ⟨db, 0, none⟩ = some (.pointer (some ⟨g, 0, none⟩)) ∧ w'.cell? ⟨mb, 0, none⟩ = some (.pointer (some ⟨mg, 0, none⟩)) ∧ w'.cell? ⟨pb, 0, none⟩ = some (.int .i64 a) ∧ w'.cell? ⟨pb, 1, none⟩ = some (.int .i64 e) ∧ w'.cell? ⟨pb, 2, none⟩ = some (.int .i64 n) ∧ w'.cell? ⟨pb, 3, none⟩ = some (.int .i64 s))
    (go_keep)
    (first
      | (go_at_call 149; go_loud (refine (qWide_any a e n s most w2.drew HNs.out (by omega)).mono ?_); rintro x3 w3 ⟨rfl, hb3⟩; have HW3 : RowKit.Hid (Below w2.heap.size w2 w3) := (Below.drewN' (Below.refl _ w2) 1).trans hb3; have H3 : RowKit.Hid (GetQ base g mg v b S w3) := H0.out.below HW3.out; have HD3 := Lib.hid (HD0.out.below HW3.out); have HM3 := Lib.hid (HM0.out.below HW3.out); have HC3 := Lib.hid (HC0.out.below HW3.out); have d3 := HD3.out.cell 0; have m3 := HM3.out.cell 0; simp only [List.getElem?_toArray, List.getElem?_cons_zero] at d3 m3; obtain ⟨q0, q1, q2, q3⟩ := part_at HC3.out; clear hb3)
      | (go_at_call 161; go_loud (refine (qGet1_any base g mg v b S most w3 H3.out HG.out HL.out hl HBy.out hbl hi hm).mono ?_); rintro x4 w4 hp; obtain ⟨y1, y2, rfl⟩ := one_form hp; have HP := Lib.hid hp; have HK4 := Lib.hid hp.1; have HD4 := Lib.hid (HD3.out.keeps HK4.out (by have := HNe.out; omega)); have HM4 := Lib.hid (HM3.out.keeps HK4.out (by have := HNe.out; omega)); have HC4 := Lib.hid (HC3.out.keeps HK4.out (by have := HNe.out; omega)); have d4 := HD4.out.cell 0; have m4 := HM4.out.cell 0; simp only [List.getElem?_toArray, List.getElem?_cons_zero] at d4 m4; obtain ⟨r0, r1, r2, r3⟩ := part_at HC4.out; clear hp)
      | fail)
  go_wp2
  go_ret2
  exact ⟨((Keeps.of_below HB0.out).trans (Keeps.of_below HW3.out)).trans HP.out.1, HP.out.2⟩

set_option maxHeartbeats 1000000 in
set_option maxRecDepth 100000 in
theorem qLitHeard_any (xb lb lo lcap i : Nat) (a e n s x : Int) (w : World) (hxb : Cel w xb 101 #[.slice (some ⟨lb, lo, none⟩) 512 lcap]) (hx : w.cell? ⟨lb, lo + i, none⟩ = some (.int .i32 x)) (hi : i < 512) (s0 : 0 ≤ s) (s1 : s ≤ 62) (h : s < n) (h2 : n - s ≤ 12) (x0 : -2147483648 ≤ x) (x1 : x ≤ 2147483647) :
    Calls Tryz.prog 116 #[.agg #[.int .i64 a, .int .i64 e, .int .i64 n, .int .i64 s], .int .i64 (i : Int), .pointer (some ⟨xb, 0, none⟩)] w fun e w' => e = .returned (.tuple #[.int .i32 (numQ x s n), .int .i64 0]) ∧ Below w.heap.size w w' := by
  have hb0 := part_new w a e n s
  have hlb := cell_block hx
  have HX0 := Lib.hid (hxb.below hb0)
  have HL0 : RowKit.Hid ((w.alloc (.cells #[.int .i64 a, .int .i64 e, .int .i64 n, .int .i64 s] 202)).cell? ⟨lb, lo + i, none⟩ = some (.int .i32 x)) := (hb0.cell (p := ⟨lb, lo + i, none⟩) hlb).trans hx
  have HC0 := Lib.hid (Cel.new w 202 #[.int .i64 a, .int .i64 e, .int .i64 n, .int .i64 s])
  have HB0 := Lib.hid hb0
  have hi2 : (i : Int) < 512 := by omega
  clear hxb hx hb0
  go_enter Tryz.func116, Tryz.ntmps116
  go_wp2
  generalize w.alloc (.cells #[.int .i64 a, .int .i64 e, .int .i64 n, .int .i64 s] 202) = w2 at HX0 HL0 HC0 HB0 ⊢
  have hpb : lb < w.heap.size := hlb
  generalize hws : w.heap.size = pb at HC0 hpb ⊢
  have c0 := HX0.out.cell 0
  simp only [List.getElem?_toArray, List.getElem?_cons_zero] at c0
  have l0 := HL0.out
  obtain ⟨p0, p1, p2, p3⟩ := part_at HC0.out
  go_region_held3 (fun w' => w'.cell? ⟨xb, 0, none⟩ = some (.slice (some ⟨lb, lo, none⟩) 512 lcap) ∧ w'.cell? ⟨lb, lo + i, none⟩ = some (.int .i32 x) ∧ w'.cell? ⟨pb, 0, none⟩ = some (.int .i64 a) ∧ w'.cell? ⟨pb, 1, none⟩ = some (.int .i64 e) ∧ w'.cell? ⟨pb, 2, none⟩ = some (.int .i64 n) ∧ w'.cell? ⟨pb, 3, none⟩ = some (.int .i64 s))
    (go_keep)
    (first
      | (go_at_call 117; go_loud (refine (qNumber_any a e n s x w2.drew s0 s1 h h2 x0 x1).mono ?_); rintro x3 w3 ⟨rfl, hb3⟩; have HW3 : RowKit.Hid (Below w2.heap.size w2 w3) := (Below.drewN' (Below.refl _ w2) 1).trans hb3; have HX3 := Lib.hid (HX0.out.below HW3.out); have HC3 := Lib.hid (HC0.out.below HW3.out); have c3 := HX3.out.cell 0; simp only [List.getElem?_toArray, List.getElem?_cons_zero] at c3; have l3 := (HW3.out.cell (p := ⟨lb, lo + i, none⟩) (cell_block HL0.out)).trans HL0.out; obtain ⟨q0, q1, q2, q3⟩ := part_at HC3.out; clear hb3)
      | fail)
  go_wp2
  go_ret2
  exact ⟨rfl, chain HB0.out HW3.out⟩
end Go.Proofs.YtobhoecmmpijgaaGreat
