/- Plain facts, and what functions give, for the proofs of this seat: several texts in one, each with its own first remark. -/
import Derived.Test.YtdmafololcpamaaGd
import Derived.Deep.RegionHeld3
import Derived.Test.YtdmafololcpamaaGc
import Derived.StillTailTactics

/- What package quant's getting of one number gives; its two function literals. -/
namespace Go.Proofs.Ytdmafololcpamaa
open Go.RowKit
set_option linter.unusedVariables false

/-- The decoder's and the model's state. -/
structure GetQ (base g mg : Nat) (v : Value) (b : List Int) (S : DecS × List Int) (wr : World) : Prop where
  d : DrcAt wr base g v b S.1
  m : ModAt wr mg S.2 false
theorem GetQ.keeps {w w' : World} {base g mg : Nat} {v : Value} {b : List Int} {S : DecS × List Int} {F : Nat → Prop} (h : GetQ base g mg v b S w) (hk : Keeps F w w') (h1 : ¬ F g) (h2 : ∀ r, v.ownBlock = some r → ¬ F r) (h3 : ¬ F mg) : GetQ base g mg v b S w' :=
  ⟨h.d.keeps hk h1 h2, h.m.keeps hk h3⟩
theorem GetQ.below {w w' : World} {base g mg : Nat} {v : Value} {b : List Int} {S : DecS × List Int} (h : GetQ base g mg v b S w) (hb : Below w.heap.size w w') : GetQ base g mg v b S w' := ⟨h.d.below hb, h.m.below hb⟩
theorem GetQ.drewN {w : World} {base g mg : Nat} {v : Value} {b : List Int} {S : DecS × List Int} (h : GetQ base g mg v b S w) (n : Nat) : GetQ base g mg v b S (w.drewN n) := ⟨h.d.drewN n, h.m.drewN n⟩
/-- What one number's getting leaves: it, or, where it has more bits than may be, that it hasn't the form. -/
def OnePost (base g mg : Nat) (v : Value) (b : List Int) (S : DecS × List Int) (most : Nat) (w : World) (e : Ending) (w' : World) : Prop :=
  Keeps (fun j => j = g ∨ j = mg) w w' ∧
    ((decWhich S.1 S.2 ≤ most ∧ e = .returned (.tuple #[.int .i32 (getX b S.1 S.2).1, .int .i64 0]) ∧ GetQ base g mg v b ((getX b S.1 S.2).2, learnP S.2 (decWhich S.1 S.2)) w') ∨
      (most < decWhich S.1 S.2 ∧ e = .returned (.tuple #[.int .i32 0, .int .i64 3])))

set_option maxHeartbeats 400000 in
set_option maxRecDepth 100000 in
theorem qGet1_any (base g mg : Nat) (v : Value) (b : List Int) (S : DecS × List Int) (most : Nat) (w : World) (h : GetQ base g mg v b S w) (hG : GoodD S.1) (hL : GoodL S.2) (hl : S.2.length = 13) (hb : ∀ j, 0 ≤ byteF b j ∧ byteF b j ≤ 255) (hbl : b.length ≤ 1000000) (hi : S.1.i ≤ 3000000) (hm : most ≤ 12) :
    Calls Try.prog 42 #[.pointer (some ⟨g, 0, none⟩), .pointer (some ⟨mg, 0, none⟩), .int .i64 (most : Int)] w (OnePost base g mg v b S most w) := by
  obtain ⟨s1, s2, s3⟩ := decSymQ_good hb hG hL
  have hne := h.d.ne_mod h.m
  have HNe : RowKit.Hid (mg ≠ g) := hne.1
  have HS : RowKit.Hid (Calls Try.prog 64 #[.pointer (some ⟨g, 0, none⟩), .pointer (some ⟨mg, 0, none⟩)] w fun e w' => e = .returned (.tuple #[.int .i64 (decWhich S.1 S.2), .int .i64 0]) ∧ GetQ base g mg v b (decSym b S.1 S.2, learnP S.2 (decWhich S.1 S.2)) w' ∧ Keeps (fun j => j = g ∨ j = mg) w w') :=
    (drcSymbol_any base g v b S.1 mg S.2 w h.d h.m hb hbl (by omega) hG hL).mono fun e w' q => ⟨q.1, ⟨q.2.1, q.2.2.1⟩, q.2.2.2⟩
  have HBits : RowKit.Hid (∀ (S2 : DecS × List Int) (k : Nat) (wx : World), GetQ base g mg v b S2 wx → GoodD S2.1 → S2.1.i ≤ 3000100 → k ≤ 12 → Calls Try.prog 65 #[.pointer (some ⟨g, 0, none⟩), .int .i64 (k : Int)] wx fun e w' => e = .returned (.tuple #[.int .u32 (decBits b S2.1 0 k).1, .int .i64 0]) ∧ GetQ base g mg v b ((decBits b S2.1 0 k).2, S2.2) w' ∧ Keeps (fun j => j = g ∨ j = mg) wx w') := fun S2 k wx hx g2 i2 hk =>
    (drcBits_any base g v b S2.1 k wx hx.d hb hbl (by omega) g2 (by omega)).mono fun e w' q => ⟨q.1, ⟨q.2.1, hx.m.keeps q.2.2 HNe.out⟩, q.2.2.mono fun j hj => .inl hj⟩
  generalize hK : decWhich S.1 S.2 = K at HS s3
  have hK12 : K ≤ 12 := by omega
  by_cases h0 : K = 0
  · have HE := Lib.hid (getX_none b (D := S.1) (L := S.2) (by rw [hK]; exact h0))
    subst h0
    have HS0 : RowKit.Hid (Calls Try.prog 64 #[.pointer (some ⟨g, 0, none⟩), .pointer (some ⟨mg, 0, none⟩)] w fun e w' => e = .returned (.tuple #[.int .i64 0, .int .i64 0]) ∧ GetQ base g mg v b (decSym b S.1 S.2, learnP S.2 0) w' ∧ Keeps (fun j => j = g ∨ j = mg) w w') := HS.out
    have HKz := Lib.hid hK
    clear h hG hL hl hb hbl hi hm s1 s2 s3 hne HS HBits hK hK12
    go_enter Try.func42, Try.ntmps42
    go_wp2_with (go_at_call 64; refine HS0.out.mono ?_; rintro e1 w6 ⟨rfl, hp, hk⟩; have HP := Lib.hid hp; have HK := Lib.hid hk; clear hp hk)
    go_ret2
    refine ⟨HK.out, .inl ⟨by rw [HKz.out]; omega, by rw [HE.out]; rfl, by rw [HE.out, HKz.out]; exact HP.out⟩⟩
  · by_cases hbig : most < K
    · have HKz := Lib.hid hK
      have d0 : ((K : Int) == 0) = false := by simp; omega
      have d1 : decide ((most : Int) < (K : Int)) = true := by simp; omega
      have HLt : RowKit.Hid (most < K) := hbig
      clear h hG hL hl hb hbl hi hm s1 s2 s3 hne HBits hK hK12 hbig h0
      go_enter Try.func42, Try.ntmps42
      go_wp2_with (go_at_call 64; refine HS.out.mono ?_; rintro e1 w6 ⟨rfl, hp, hk⟩; have HP := Lib.hid hp; have HK := Lib.hid hk; clear hp hk)
      go_ret2
      exact ⟨HK.out, .inr ⟨by rw [HKz.out]; exact HLt.out, rfl⟩⟩
    · have HE := Lib.hid (getX_some b (D := S.1) (L := S.2) (by rw [hK]; exact h0))
      rw [hK] at HE
      obtain ⟨j, rfl⟩ : ∃ j, K = j + 1 := ⟨K - 1, by omega⟩
      have hj11 : j ≤ 11 := by omega
      obtain ⟨t1, t2, t3, t4⟩ := decBitsQ_good (k := 1) hb s1 (by decide)
      obtain ⟨u1, u2, u3, u4⟩ := decBitsQ_good (k := j) hb t1 (by omega)
      rw [show j + 1 - 1 = j by omega] at HE
      obtain ⟨S1, hS1⟩ : ∃ S1 : DecS × List Int, S1 = (decSym b S.1 S.2, learnP S.2 (j + 1)) := ⟨_, rfl⟩
      have HS1 : RowKit.Hid (Calls Try.prog 64 #[.pointer (some ⟨g, 0, none⟩), .pointer (some ⟨mg, 0, none⟩)] w fun e w' => e = .returned (.tuple #[.int .i64 ((j : Int) + 1), .int .i64 0]) ∧ GetQ base g mg v b S1 w' ∧ Keeps (fun j => j = g ∨ j = mg) w w') := by rw [hS1]; exact HS.out
      have e1 : decSym b S.1 S.2 = S1.1 := by rw [hS1]
      rw [e1] at HE s1 s2 t1 t2 t3 t4 u1 u2 u3 u4
      obtain ⟨S2, hS2⟩ : ∃ S2 : DecS × List Int, S2 = ((decBits b S1.1 0 1).2, S1.2) := ⟨_, rfl⟩
      have e2 : (decBits b S1.1 0 1).2 = S2.1 := by rw [hS2]
      have HB1 : RowKit.Hid (∀ wx, GetQ base g mg v b S1 wx → Calls Try.prog 65 #[.pointer (some ⟨g, 0, none⟩), .int .i64 1] wx fun e w' => e = .returned (.tuple #[.int .u32 (decBits b S1.1 0 1).1, .int .i64 0]) ∧ GetQ base g mg v b S2 w' ∧ Keeps (fun j => j = g ∨ j = mg) wx w') := fun wx hx => by rw [hS2]; exact HBits.out S1 1 wx hx s1 (by omega) (by decide)
      rw [e2] at HE t1 t2 u1 u2 u3 u4
      obtain ⟨S3, hS3⟩ : ∃ S3 : DecS × List Int, S3 = ((decBits b S2.1 0 j).2, S2.2) := ⟨_, rfl⟩
      have HB2 : RowKit.Hid (∀ wx, GetQ base g mg v b S2 wx → Calls Try.prog 65 #[.pointer (some ⟨g, 0, none⟩), .int .i64 (j : Int)] wx fun e w' => e = .returned (.tuple #[.int .u32 (decBits b S2.1 0 j).1, .int .i64 0]) ∧ GetQ base g mg v b S3 w' ∧ Keeps (fun j => j = g ∨ j = mg) wx w') := fun wx hx => by rw [hS3]; exact HBits.out S2 j wx hx t1 (by omega) (by omega)
      have e3 : ((getX b S.1 S.2).2, learnP S.2 (j + 1)) = S3 := by rw [HE.out, hS3, hS2, hS1]
      have HE1 : RowKit.Hid ((getX b S.1 S.2).1 = if (decBits b S1.1 0 1).1 = 1 then -((decBits b S2.1 0 j).1 + P2 j) else (decBits b S2.1 0 j).1 + P2 j) := by show _ = _; rw [HE.out]
      have HE3 : RowKit.Hid (S3 = ((getX b S.1 S.2).2, learnP S.2 (j + 1))) := e3.symm
      have HKz := Lib.hid hK
      have HLe : RowKit.Hid (j + 1 ≤ most) := by show _ ≤ _; omega
      have p0 := P2_pos j
      have p1 := P2_12 (k := j) (by omega)
      have hp : (2 : Int) ^ j = P2 j := rfl
      rw [show P2 1 = 2 by decide] at t4
      clear h hG hL hl hb hbl hi s1 s2 s3 hne HBits hK hK12 h0 HS HE t1 t2 u1 u2 hS1 hS2 hS3 e1 e2 e3
      generalize (decBits b S1.1 0 1).1 = sg at HB1 HE1 t3 t4
      generalize (decBits b S2.1 0 j).1 = lw at HB2 HE1 u3 u4
      generalize P2 j = p at HE1 u4 p0 p1 hp
      obtain ⟨y, hy⟩ : ∃ y, (getX b S.1 S.2).1 = y := ⟨_, rfl⟩
      have HYq := Lib.hid hy
      rw [hy] at HE1
      clear hy
      have d0 : (((j : Int) + 1) == 0) = false := by simp; omega
      have d1 : decide ((most : Int) < (j : Int) + 1) = false := by simp; omega
      have c1 : IntKind.i64.wrap ((j : Int) + 1 - 1) = (j : Int) := by rw [show (j : Int) + 1 - 1 = j by omega]; exact IntWalk.i64_in _ (by omega)
      have c2 : IntKind.i32.wrap (2 ^ j) = p := by rw [hp]; exact IntWalk.i32_in _ (by omega)
      have c3 : IntKind.i32.wrap lw = lw := IntWalk.i32_in _ (by omega)
      have c4 : IntKind.i32.wrap (lw + p) = lw + p := IntWalk.i32_in _ (by omega)
      have c5 : IntKind.i32.wrap (-(lw + p)) = -(lw + p) := IntWalk.i32_in _ (by omega)
      clear hp hbig
      by_cases hs : sg = 1
      · subst hs
        have HY : RowKit.Hid (-(lw + p) = y) := by show _ = _; rw [HE1.out, if_pos rfl]
        clear HE1
        go_enter Try.func42, Try.ntmps42
        go_wp2_with (first
          | (go_at_call 64; refine HS1.out.mono ?_; rintro e1 w6 ⟨rfl, hp, hk⟩; have HP := Lib.hid hp; have HK := Lib.hid hk; clear hp hk)
          | (go_at_call 65; have hx := HP2.out; refine (HB2.out _ hx).mono ?_; rintro e1 w8 ⟨rfl, hp, hk⟩; have HP3 := Lib.hid hp; have HK3 := Lib.hid (HK2.out.trans hk); clear hp hk hx HP2)
          | (go_at_call 65; refine (HB1.out _ HP.out).mono ?_; rintro e1 w7 ⟨rfl, hp, hk⟩; have HP2 := Lib.hid hp; have HK2 := Lib.hid (HK.out.trans hk); clear hp hk)
          | fail)
        go_ret2
        exact ⟨HK3.out, .inl ⟨by rw [HKz.out]; exact HLe.out, by rw [HY.out, HYq.out]; rfl, by rw [HKz.out, ← HE3.out]; exact HP3.out⟩⟩
      · have HY : RowKit.Hid (lw + p = y) := by show _ = _; rw [HE1.out, if_neg hs]
        have d2 : (sg == 1) = false := by simp; omega
        clear HE1 hs
        go_enter Try.func42, Try.ntmps42
        go_wp2_with (first
          | (go_at_call 64; refine HS1.out.mono ?_; rintro e1 w6 ⟨rfl, hp, hk⟩; have HP := Lib.hid hp; have HK := Lib.hid hk; clear hp hk)
          | (go_at_call 65; have hx := HP2.out; refine (HB2.out _ hx).mono ?_; rintro e1 w8 ⟨rfl, hp, hk⟩; have HP3 := Lib.hid hp; have HK3 := Lib.hid (HK2.out.trans hk); clear hp hk hx HP2)
          | (go_at_call 65; refine (HB1.out _ HP.out).mono ?_; rintro e1 w7 ⟨rfl, hp, hk⟩; have HP2 := Lib.hid hp; have HK2 := Lib.hid (HK.out.trans hk); clear hp hk)
          | fail)
        go_ret2
        exact ⟨HK3.out, .inl ⟨by rw [HKz.out]; exact HLe.out, by rw [HY.out, HYq.out]; rfl, by rw [HKz.out, ← HE3.out]; exact HP3.out⟩⟩

/-! ### The two function literals -/
theorem one_form {base g mg : Nat} {v : Value} {b : List Int} {S : DecS × List Int} {most : Nat} {w w' : World} {e : Ending} (h : OnePost base g mg v b S most w e w') : ∃ y1 y2 : Int, e = .returned (.tuple #[.int .i32 y1, .int .i64 y2]) := by
  rcases h.2 with ⟨_, h2, _⟩ | ⟨_, h2⟩
  · exact ⟨_, _, h2⟩
  · exact ⟨_, _, h2⟩
theorem part_at {w : World} {g : Nat} {a b n s : Int} (h : Cel w g 67 #[.int .i64 a, .int .i64 b, .int .i64 n, .int .i64 s]) :
    w.cell? ⟨g, 0, none⟩ = some (.int .i64 a) ∧ w.cell? ⟨g, 1, none⟩ = some (.int .i64 b) ∧ w.cell? ⟨g, 2, none⟩ = some (.int .i64 n) ∧ w.cell? ⟨g, 3, none⟩ = some (.int .i64 s) :=
  ⟨h.cell 0, h.cell 1, h.cell 2, h.cell 3⟩
set_option maxHeartbeats 1000000 in
set_option maxRecDepth 100000 in
theorem qLitGet_any (base g mg db mb : Nat) (v : Value) (b : List Int) (S : DecS × List Int) (a e n s line : Int) (most : Nat) (w : World) (h : GetQ base g mg v b S w) (hG : GoodD S.1) (hL : GoodL S.2) (hl : S.2.length = 13) (hb : ∀ j, 0 ≤ byteF b j ∧ byteF b j ≤ 255) (hbl : b.length ≤ 1000000) (hi : S.1.i ≤ 3000000) (hm : most ≤ 12) (hns : n - s = most)
    (hd : Cel w db 43 #[.pointer (some ⟨g, 0, none⟩)]) (hmb : Cel w mb 62 #[.pointer (some ⟨mg, 0, none⟩)]) :
    Calls Try.prog 41 #[.agg #[.int .i64 a, .int .i64 e, .int .i64 n, .int .i64 s], .int .i64 line, .pointer (some ⟨db, 0, none⟩), .pointer (some ⟨mb, 0, none⟩)] w (OnePost base g mg v b S most w) := by
  have HBy := Lib.hid hb
  have HG := Lib.hid hG
  have HL := Lib.hid hL
  have HNs := Lib.hid hns
  have hgl := h.d.lt.1
  have hdl := hd.lt
  have hml := hmb.lt
  have hb0 := part_new w a e n s
  have H0 := Lib.hid (h.below hb0)
  have HD0 := Lib.hid (hd.below hb0)
  have HM0 := Lib.hid (hmb.below hb0)
  have HC0 := Lib.hid (Cel.new w 67 #[.int .i64 a, .int .i64 e, .int .i64 n, .int .i64 s])
  have HB0 := Lib.hid hb0
  have HNe : RowKit.Hid (db ≠ g ∧ db ≠ mg ∧ mb ≠ g ∧ mb ≠ mg ∧ w.heap.size ≠ g ∧ w.heap.size ≠ mg) := ⟨cel_ne hd h.d.2.1 (by decide), cel_ne hd h.m.2 (by decide), cel_ne hmb h.d.2.1 (by decide), cel_ne hmb h.m.2 (by decide), by omega, by have := h.m.lt; omega⟩
  have hmgl := h.m.lt
  clear h hG hL hb hns hd hmb hb0
  go_enter Try.func41, Try.ntmps41
  go_wp2
  generalize w.alloc (.cells #[.int .i64 a, .int .i64 e, .int .i64 n, .int .i64 s] 67) = w2 at H0 HD0 HM0 HC0 HB0 ⊢
  generalize w.heap.size = pb at HC0 HNe ⊢
  have d0 := HD0.out.cell 0
  have m0 := HM0.out.cell 0
  simp only [List.getElem?_toArray, List.getElem?_cons_zero] at d0 m0
  obtain ⟨p0, p1, p2, p3⟩ := part_at HC0.out
  go_region_held3 (fun w' => w'.cell? ⟨db, 0, none⟩ = some (.pointer (some ⟨g, 0, none⟩)) ∧ w'.cell? ⟨mb, 0, none⟩ = some (.pointer (some ⟨mg, 0, none⟩)) ∧ w'.cell? ⟨pb, 0, none⟩ = some (.int .i64 a) ∧ w'.cell? ⟨pb, 1, none⟩ = some (.int .i64 e) ∧ w'.cell? ⟨pb, 2, none⟩ = some (.int .i64 n) ∧ w'.cell? ⟨pb, 3, none⟩ = some (.int .i64 s))
    (go_keep)
    (first
      | (go_at_call 43; go_loud (refine (qWide_any a e n s most w2.drew HNs.out (by omega)).mono ?_); rintro x3 w3 ⟨rfl, hb3⟩; have HW3 : RowKit.Hid (Below w2.heap.size w2 w3) := (Below.drewN' (Below.refl _ w2) 1).trans hb3; have H3 : RowKit.Hid (GetQ base g mg v b S w3) := H0.out.below HW3.out; have HD3 := Lib.hid (HD0.out.below HW3.out); have HM3 := Lib.hid (HM0.out.below HW3.out); have HC3 := Lib.hid (HC0.out.below HW3.out); have d3 := HD3.out.cell 0; have m3 := HM3.out.cell 0; simp only [List.getElem?_toArray, List.getElem?_cons_zero] at d3 m3; obtain ⟨q0, q1, q2, q3⟩ := part_at HC3.out; clear hb3)
      | (go_at_call 42; go_loud (refine (qGet1_any base g mg v b S most w3 H3.out HG.out HL.out hl HBy.out hbl hi hm).mono ?_); rintro x4 w4 hp; obtain ⟨y1, y2, rfl⟩ := one_form hp; have HP := Lib.hid hp; have HK4 := Lib.hid hp.1; have HD4 := Lib.hid (HD3.out.keeps HK4.out (by have := HNe.out; omega)); have HM4 := Lib.hid (HM3.out.keeps HK4.out (by have := HNe.out; omega)); have HC4 := Lib.hid (HC3.out.keeps HK4.out (by have := HNe.out; omega)); have d4 := HD4.out.cell 0; have m4 := HM4.out.cell 0; simp only [List.getElem?_toArray, List.getElem?_cons_zero] at d4 m4; obtain ⟨r0, r1, r2, r3⟩ := part_at HC4.out; clear hp)
      | fail)
  go_wp2
  go_ret2
  exact ⟨((Keeps.of_below HB0.out).trans (Keeps.of_below HW3.out)).trans HP.out.1, HP.out.2⟩

set_option maxHeartbeats 1000000 in
set_option maxRecDepth 100000 in
theorem qLitHeard_any (xb lb lo lcap i : Nat) (a e n s x : Int) (w : World) (hxb : Cel w xb 22 #[.slice (some ⟨lb, lo, none⟩) 512 lcap]) (hx : w.cell? ⟨lb, lo + i, none⟩ = some (.int .i32 x)) (hi : i < 512) (s0 : 0 ≤ s) (s1 : s ≤ 62) (h : s < n) (h2 : n - s ≤ 12) (x0 : -2147483648 ≤ x) (x1 : x ≤ 2147483647) :
    Calls Try.prog 40 #[.agg #[.int .i64 a, .int .i64 e, .int .i64 n, .int .i64 s], .int .i64 (i : Int), .pointer (some ⟨xb, 0, none⟩)] w fun e w' => e = .returned (.tuple #[.int .i32 (numQ x s n), .int .i64 0]) ∧ Below w.heap.size w w' := by
  have hb0 := part_new w a e n s
  have hlb := cell_block hx
  have HX0 := Lib.hid (hxb.below hb0)
  have HL0 : RowKit.Hid ((w.alloc (.cells #[.int .i64 a, .int .i64 e, .int .i64 n, .int .i64 s] 67)).cell? ⟨lb, lo + i, none⟩ = some (.int .i32 x)) := (hb0.cell (p := ⟨lb, lo + i, none⟩) hlb).trans hx
  have HC0 := Lib.hid (Cel.new w 67 #[.int .i64 a, .int .i64 e, .int .i64 n, .int .i64 s])
  have HB0 := Lib.hid hb0
  have hi2 : (i : Int) < 512 := by omega
  clear hxb hx hb0
  go_enter Try.func40, Try.ntmps40
  go_wp2
  generalize w.alloc (.cells #[.int .i64 a, .int .i64 e, .int .i64 n, .int .i64 s] 67) = w2 at HX0 HL0 HC0 HB0 ⊢
  have hpb : lb < w.heap.size := hlb
  generalize hws : w.heap.size = pb at HC0 hpb ⊢
  have c0 := HX0.out.cell 0
  simp only [List.getElem?_toArray, List.getElem?_cons_zero] at c0
  have l0 := HL0.out
  obtain ⟨p0, p1, p2, p3⟩ := part_at HC0.out
  go_region_held3 (fun w' => w'.cell? ⟨xb, 0, none⟩ = some (.slice (some ⟨lb, lo, none⟩) 512 lcap) ∧ w'.cell? ⟨lb, lo + i, none⟩ = some (.int .i32 x) ∧ w'.cell? ⟨pb, 0, none⟩ = some (.int .i64 a) ∧ w'.cell? ⟨pb, 1, none⟩ = some (.int .i64 e) ∧ w'.cell? ⟨pb, 2, none⟩ = some (.int .i64 n) ∧ w'.cell? ⟨pb, 3, none⟩ = some (.int .i64 s))
    (go_keep)
    (first
      | (go_at_call 31; go_loud (refine (qNumber_any a e n s x w2.drew s0 s1 h h2 x0 x1).mono ?_); rintro x3 w3 ⟨rfl, hb3⟩; have HW3 : RowKit.Hid (Below w2.heap.size w2 w3) := (Below.drewN' (Below.refl _ w2) 1).trans hb3; have HX3 := Lib.hid (HX0.out.below HW3.out); have HC3 := Lib.hid (HC0.out.below HW3.out); have c3 := HX3.out.cell 0; simp only [List.getElem?_toArray, List.getElem?_cons_zero] at c3; have l3 := (HW3.out.cell (p := ⟨lb, lo + i, none⟩) (cell_block HL0.out)).trans HL0.out; obtain ⟨q0, q1, q2, q3⟩ := part_at HC3.out; clear hb3)
      | fail)
  go_wp2
  go_ret2
  exact ⟨rfl, chain HB0.out HW3.out⟩
end Go.Proofs.Ytdmafololcpamaa

/- What package quant's frame of lines gives, for each of the two function literals. -/
namespace Go.Proofs.Ytdmafololcpamaa
open Go.RowKit
set_option linter.unusedVariables false

/-- What a frame's lines come to be. -/
def outF (c s n : Nat → Int) (seed : Int) (i : Nat) : Int := if toldT c s i then n i * P2 (s (ofN i)).toNat else noiseP seed i (c (ofN i))
theorem outF_told {c s n : Nat → Int} {seed : Int} {b i : Nat} (hb : b < 21) (h0 : edgeK b ≤ i) (h1 : i < edgeK (b + 1)) (h : s b < c b) : outF c s n seed i = n i * P2 (s b).toNat := by
  unfold outF; rw [toldT_at hb h0 h1, of_band hb h0 h1, if_pos (by simpa using h)]
theorem outF_not {c s n : Nat → Int} {seed : Int} {b i : Nat} (hb : b < 21) (h0 : edgeK b ≤ i) (h1 : i < edgeK (b + 1)) (h : ¬ s b < c b) : outF c s n seed i = noiseP seed i (c b) := by
  unfold outF; rw [toldT_at hb h0 h1, of_band hb h0 h1, if_neg (by simpa using h)]
/-- What a function literal's call leaves. -/
def ClPost (F : Nat → Prop) (n : Nat → Int) (ok : Nat → Bool) (St : Nat → World → Prop) (i : Nat) (w : World) (e : Ending) (w' : World) : Prop :=
  Keeps F w w' ∧ (ok i = true → e = .returned (.tuple #[.int .i32 (n i), .int .i64 0]) ∧ St (i + 1) w') ∧ (ok i = false → e = .returned (.tuple #[.int .i32 0, .int .i64 3]))
def FramePost (F : Nat → Prop) (ok : Nat → Bool) (St : Nat → World → Prop) (H : Nat → Int) (w : World) (e : Ending) (w' : World) : Prop :=
  Keeps F w w' ∧ (((∀ i, i < 512 → ok i = true) ∧ ∃ r, e = .returned (.tuple #[.slice (some ⟨r, 0, none⟩) 512 512, .int .i64 0]) ∧ IFun w' r 21 .i32 512 H ∧ w.heap.size ≤ r ∧ St 512 w') ∨
    ((∃ i, i < 512 ∧ ok i = false) ∧ e = .returned (.tuple #[.slice none 0 0, .int .i64 3])))
/-- What is held while the lines are filled. -/
structure FrQ (w0 w2 : World) (F : Nat → Prop) (r : Nat) (ok : Nat → Bool) (St : Nat → World → Prop) (H : Nat → Int) (i : Nat) (wx : World) : Prop where
  f : IFun wx r 21 .i32 512 (preF H i)
  s : St i wx
  k : Keeps (fun j => F j ∨ j = r) w2 wx
  o : ∀ j, j < i → ok j = true
  d : w0.heap.size ≤ r ∧ r < w2.heap.size ∧ w0.heap.size ≤ w2.heap.size
section
variable {w0 w2 wx w' : World} {F : Nat → Prop} {r : Nat} {ok : Nat → Bool} {St : Nat → World → Prop} {H : Nat → Int} {i : Nat}
theorem FrQ.below (hSt : ∀ i wx w', St i wx → w0.heap.size ≤ wx.heap.size → Keeps (fun j => w0.heap.size ≤ j) wx w' → St i w') (h : FrQ w0 w2 F r ok St H i wx) (hb : Below wx.heap.size wx w') : FrQ w0 w2 F r ok St H i w' :=
  ⟨h.f.below hb h.f.lt, hSt i wx w' h.s (Nat.le_trans h.d.2.2 h.k.size) (.of_below hb), h.k.trans (.of_below hb), h.o, h.d⟩
theorem FrQ.set (hSt : ∀ i wx w', St i wx → w0.heap.size ≤ wx.heap.size → Keeps (fun j => w0.heap.size ≤ j) wx w' → St i w') (h : FrQ w0 w2 F r ok St H i wx) (hs : St (i + 1) wx) (hi : i < 512) (ho : ok i = true) : FrQ w0 w2 F r ok St H (i + 1) (wx.setCell ⟨r, i, none⟩ (.int .i32 (H i))) :=
  ⟨IFun.ext (h.f.set (j := i) hi (H i)) fun j _ => preF_next H i j, hSt (i + 1) wx _ hs (Nat.le_trans h.d.2.2 h.k.size) (Keeps.setCell (F := fun j => w0.heap.size ≤ j) (p := ⟨r, i, none⟩) (Keeps.refl _ wx) (.inl h.d.1) _),
    Keeps.setCell (p := ⟨r, i, none⟩) h.k (.inl (.inr rfl)) _, fun j hj => by
      by_cases e : j = i
      · rw [e]; exact ho
      · exact h.o j (by omega), h.d⟩
/-- A number has come. -/
theorem FrQ.call (h : FrQ w0 w2 F r ok St H i wx) (hk : Keeps F wx w') (hF : ∀ j, F j → j < w0.heap.size) : IFun w' r 21 .i32 512 (preF H i) ∧ Keeps (fun j => F j ∨ j = r) w2 w' :=
  ⟨h.f.keeps hk (fun c => by have := hF r c; have := h.d.1; omega), h.k.trans (hk.mono fun j hj => .inl hj)⟩
end

set_option maxHeartbeats 1000000 in
set_option maxRecDepth 100000 in
theorem qFrameGet_any (x0 x1 : Value) (a a2 : Option Addr) (cap cap2 : Nat) (zs ss : List Int) (seed : Int) (w : World) (h : IntsAt w w.heap.size .i64 a 21 zs) (h2 : IntsAt w w.heap.size .i64 a2 21 ss) (hmay : mayQ zs ss = true) (sd0 : 0 ≤ seed) (sd1 : seed ≤ 4294967295)
    (F : Nat → Prop) (hF : ∀ j, F j → j < w.heap.size) (n : Nat → Int) (ok : Nat → Bool) (St : Nat → World → Prop)
    (hSt : ∀ i wx w', St i wx → w.heap.size ≤ wx.heap.size → Keeps (fun j => w.heap.size ≤ j) wx w' → St i w') (h0 : St 0 w)
    (hskip : ∀ i wx, i < 512 → toldT (fun j => zs.getD j 0) (fun j => ss.getD j 0) i = false → St i wx → St (i + 1) wx)
    (hok : ∀ i, i < 512 → toldT (fun j => zs.getD j 0) (fun j => ss.getD j 0) i = false → ok i = true)
    (hn : ∀ k i, k < 21 → edgeK k ≤ i → i < edgeK (k + 1) → ss.getD k 0 < zs.getD k 0 → ok i = true → -2147483648 ≤ n i * P2 (ss.getD k 0).toNat ∧ n i * P2 (ss.getD k 0).toNat ≤ 2147483647)
    (hcall : ∀ k i wx, k < 21 → edgeK k ≤ i → i < edgeK (k + 1) → ss.getD k 0 < zs.getD k 0 → St i wx → w.heap.size ≤ wx.heap.size → Calls Try.prog 41 #[.agg #[.int .i64 (edgeK k : Int), .int .i64 (edgeK (k + 1) : Int), .int .i64 (zs.getD k 0), .int .i64 (ss.getD k 0)], .int .i64 (i : Int), x0, x1] wx (ClPost F n ok St i wx)) :
    Calls Try.prog 39 #[.slice a 21 cap, .slice a2 21 cap2, .int .u32 seed, .func (.func 41) #[] #[x0, x1]] w
      (FramePost F ok St (outF (fun j => zs.getD j 0) (fun j => ss.getD j 0) n seed) w) := by
  obtain ⟨hr1, hr2, h12⟩ := mayQ_true hmay
  have HI := Lib.hid h
  have HI2 := Lib.hid h2
  have HC := Lib.hid (rightB_true hr1).2
  have HSs := Lib.hid (rightB_true hr2).2
  have H12 := Lib.hid h12
  have HF := Lib.hid hF
  have HSt := Lib.hid hSt
  have HCall := Lib.hid hcall
  have HNb := Lib.hid hn
  have HTf : RowKit.Hid (∀ k i, k < 21 → edgeK k ≤ i → i < edgeK (k + 1) → zs.getD k 0 ≤ ss.getD k 0 → ok i = true ∧ ∀ wx, St i wx → St (i + 1) wx) := fun k i hk i0 i1 hnt => by
    have ht : toldT (fun j => zs.getD j 0) (fun j => ss.getD j 0) i = false := by rw [toldT_at hk i0 i1]; simpa using hnt
    have := edgeK_lt k hk
    exact ⟨hok i (by omega) ht, fun wx hs => hskip i wx (by omega) ht hs⟩
  obtain ⟨H, hH⟩ : ∃ H, H = outF (fun j => zs.getD j 0) (fun j => ss.getD j 0) n seed := ⟨_, rfl⟩
  have HHt : RowKit.Hid (∀ k i, k < 21 → edgeK k ≤ i → i < edgeK (k + 1) → ss.getD k 0 < zs.getD k 0 → n i * P2 (ss.getD k 0).toNat = H i) := fun k i hk i0 i1 ht => by rw [hH]; exact (outF_told (c := fun j => zs.getD j 0) (s := fun j => ss.getD j 0) hk i0 i1 ht).symm
  have HHn : RowKit.Hid (∀ k i, k < 21 → edgeK k ≤ i → i < edgeK (k + 1) → zs.getD k 0 ≤ ss.getD k 0 → noiseP seed i (zs.getD k 0) = H i) := fun k i hk i0 i1 ht => by rw [hH]; exact (outF_not (c := fun j => zs.getD j 0) (s := fun j => ss.getD j 0) hk i0 i1 (by omega)).symm
  rw [← hH]
  have hmk : ∀ w : World, (Instr.makeSlice 22 (.int .i64 512) (.int .i64 512)).run Try.prog w = .ok (.slice (some ⟨w.heap.size, 0, none⟩) 512 512) (w.alloc (.cells (madeCells #[.int .i32 0] 512) 21)) :=
    fun w => make_zeros (P := Try.prog) Try.underlying22 infoE_i32 512 (by decide) (by decide) w
  have hmf : ∀ (fn : Fn) (first cap : Array Value) (w : World), (Instr.makeFunc fn first cap).run Try.prog w = .ok (.func fn first cap) w := fun _ _ _ _ => rfl
  have HZ := Lib.hid (fun w => IFun.zeros w 21 .i32 512)
  generalize madeCells #[Value.int .i32 0] 512 = mc at hmk HZ
  have H00 : RowKit.Hid (IFun (w.alloc (.cells mc 21)) w.heap.size 21 .i32 512 (fun _ => 0) ∧ Below w.heap.size w (w.alloc (.cells mc 21)) ∧ w.heap.size < (w.alloc (.cells mc 21)).heap.size) := ⟨HZ.out w, Below.alloc_new w _, (HZ.out w).lt⟩
  have HS0 := Lib.hid h0
  clear HZ hr1 hr2 h12 hH h h2 hmay hF hSt h0 hskip hok hn hcall
  go_enter Try.func39, Try.ntmps39
  go_wp2_with (go_at_call 28; go_loud (refine (qParts_any _ _ _ _ zs ss _ (HI.out.now H00.out.2.1 (Nat.le_refl _)) (HI2.out.now H00.out.2.1 (Nat.le_refl _))).mono ?_); rintro e1 w2 ⟨pg, rfl, hp, hg, hb⟩; have HP2 := Lib.hid hp; have HB2 := Lib.hid (chain H00.out.2.1 hb); have HF2 := Lib.hid (H00.out.1.below hb H00.out.2.2); have hpg := Nat.lt_of_lt_of_le H00.out.2.2 hg; have hpl := hp.lt; clear hg hp hb)
  clear hmk
  obtain ⟨r, hr⟩ : ∃ r, r = w.heap.size := ⟨_, rfl⟩
  have hrl : RowKit.Hid (w.heap.size ≤ r ∧ r < pg ∧ r < w2.heap.size ∧ w.heap.size ≤ w2.heap.size) := by have := HF2.out.lt; have := HB2.out.size; show _ ∧ _; omega
  have HFw : RowKit.Hid (∀ j, F j → j < r) := fun j hj => by rw [hr]; exact HF.out j hj
  rw [← hr] at HF2 ⊢
  have H0 : RowKit.Hid (FrQ w w2 F r ok St H (edgeK 0) w2) := ⟨IFun.ext HF2.out fun j _ => (preF_zero H j).symm, HSt.out 0 w w2 HS0.out (Nat.le_refl _) (.of_below HB2.out), Keeps.refl _ _, fun j hj => by rw [edgeK_zero] at hj; omega, hrl.out.1, hrl.out.2.2.1, hrl.out.2.2.2⟩
  have HNp : RowKit.Hid (¬ (F pg ∨ pg = r)) := by
    rintro (c | c)
    · have := HF.out pg c; have := hrl.out; omega
    · have := hrl.out; omega
  clear HF2 HS0 hr H00 hpg
  go_loopw [21] (fun i wr => ∃ k : Nat, k ≤ 21 ∧ i = .int .i64 (k : Int) ∧ RowKit.Hid (FrQ w w2 F r ok St H (edgeK k) wr)) (fun i _ => 21 - (intOf i).toNat)
  case atStart => exact ⟨0, by omega, rfl, H0.out⟩
  case round =>
    obtain ⟨k, hk, rfl, G0⟩ := hrel
    clear H0
    by_cases hlt : k < 21
    · have hrow : IFun wr pg 67 .i64 84 (partF (fun j => zs.getD j 0) (fun j => ss.getD j 0)) := HP2.out.keeps G0.out.k HNp.out
      have d0 := hrow.cell (j := k * 4) (by omega)
      have d1 := hrow.cell (j := k * 4 + 1) (by omega)
      have d2 := hrow.cell (j := k * 4 + 2) (by omega)
      have d3 := hrow.cell (j := k * 4 + 3) (by omega)
      rw [partF_0] at d0
      rw [partF_1] at d1
      rw [partF_2] at d2
      rw [partF_3] at d3
      clear hrow
      obtain ⟨c0, c1⟩ := HC.out k hlt
      obtain ⟨s0, s1⟩ := HSs.out k hlt
      have cs := H12.out k hlt
      obtain ⟨ed1, ed2⟩ := edgeK_lt k hlt
      have HCk : RowKit.Hid (∀ i wx, edgeK k ≤ i → i < edgeK (k + 1) → ss.getD k 0 < zs.getD k 0 → St i wx → w.heap.size ≤ wx.heap.size → Calls Try.prog 41 #[.agg #[.int .i64 (edgeK k : Int), .int .i64 (edgeK (k + 1) : Int), .int .i64 (zs.getD k 0), .int .i64 (ss.getD k 0)], .int .i64 (i : Int), x0, x1] wx (ClPost F n ok St i wx)) := fun i wx => HCall.out k i wx hlt
      have HNk : RowKit.Hid (∀ i, edgeK k ≤ i → i < edgeK (k + 1) → ss.getD k 0 < zs.getD k 0 → ok i = true → -2147483648 ≤ n i * P2 (ss.getD k 0).toNat ∧ n i * P2 (ss.getD k 0).toNat ≤ 2147483647) := fun i => HNb.out k i hlt
      have HTk : RowKit.Hid (∀ i, edgeK k ≤ i → i < edgeK (k + 1) → zs.getD k 0 ≤ ss.getD k 0 → ok i = true ∧ ∀ wx, St i wx → St (i + 1) wx) := fun i => HTf.out k i hlt
      have HHk : RowKit.Hid (∀ i, edgeK k ≤ i → i < edgeK (k + 1) → ss.getD k 0 < zs.getD k 0 → n i * P2 (ss.getD k 0).toNat = H i) := fun i => HHt.out k i hlt
      have HHm : RowKit.Hid (∀ i, edgeK k ≤ i → i < edgeK (k + 1) → zs.getD k 0 ≤ ss.getD k 0 → noiseP seed i (zs.getD k 0) = H i) := fun i => HHn.out k i hlt
      generalize zs.getD k 0 = c at d2 c0 c1 cs HCk HNk HTk HHk HHm
      generalize ss.getD k 0 = s at d3 s0 s1 cs HCk HNk HTk HHk HHm
      obtain ⟨B, hB⟩ : ∃ B, B = edgeK (k + 1) := ⟨_, rfl⟩
      rw [← hB] at d1 ed1 ed2 HCk HNk HTk HHk HHm
      have HBk := Lib.hid hB
      clear hB
      generalize edgeK k = A at d0 ed1 HCk HNk HTk HHk HHm G0
      have l0 : (k : Int) < 21 := by omega
      obtain ⟨nn, hnn⟩ : ∃ nn, nn = B - A := ⟨_, rfl⟩
      have hB2 : B = A + nn := by omega
      have HEnd : RowKit.Hid (edgeK (k + 1) = A + nn) := by show _ = _; rw [← HBk.out]; exact hB2
      have HAB := Lib.hid hB2
      have HCn := Lib.hid (Cel.new wr 67 #[.int .i64 (A : Int), .int .i64 (B : Int), .int .i64 c, .int .i64 s])
      have HG1 := Lib.hid (G0.out.below HSt.out (Below.alloc_new wr (.cells #[.int .i64 (A : Int), .int .i64 (B : Int), .int .i64 c, .int .i64 s] 67)))
      have HWs : RowKit.Hid (w2.heap.size ≤ wr.heap.size) := G0.out.k.size
      clear hnn HBk hB2
      go_wp2
      generalize (wr.alloc (.cells #[.int .i64 (A : Int), .int .i64 (B : Int), .int .i64 c, .int .i64 s] 67)) = w3 at HCn HG1 ⊢
      obtain ⟨pb, hpb⟩ : ∃ pb, pb = wr.heap.size := ⟨_, rfl⟩
      rw [← hpb] at HCn HWs ⊢
      clear hpb d0 d1 d2 d3 G0
      go_loopw [13] (fun i wx => ∃ m : Nat, m ≤ nn ∧ i = .int .i64 ((A + m : Nat) : Int) ∧ RowKit.Hid (FrQ w w2 F r ok St H (A + m) wx ∧ Cel wx pb 67 #[.int .i64 (A : Int), .int .i64 (B : Int), .int .i64 c, .int .i64 s])) (fun i _ => A + nn - (intOf i).toNat)
      case atStart => exact ⟨0, by omega, rfl, HG1.out, HCn.out⟩
      case round =>
        obtain ⟨m, hm, rfl, G⟩ := hrel
        clear HG1 HCn
        obtain ⟨q0, q1, q2, q3⟩ := part_at G.out.2
        obtain ⟨I, hI⟩ : ∃ I, I = A + m := ⟨_, rfl⟩
        rw [← hI] at G ⊢
        have hAB := HAB.out
        by_cases hmn : m < nn
        · have l1 : (I : Int) < (B : Int) := by omega
          have i1 : I < 512 := by omega
          have hAI : A ≤ I := by omega
          have hIB : I < B := by omega
          have HI1 : RowKit.Hid (I + 1 = A + (m + 1)) := by show _ = _; omega
          have HIE : RowKit.Hid (I < A + nn) := by show _ < _; omega
          have HPbl : RowKit.Hid (¬ F pb ∧ pb ≠ r) := ⟨fun c => by have := HFw.out pb c; have := hrl.out; have := HWs.out; omega, by have := hrl.out; have := HWs.out; omega⟩
          clear hI hAB
          by_cases htd : s < c
          · have HTd : RowKit.Hid (decide (s < c) = true) := decide_eq_true htd
            have HCi := Lib.hid (fun wx => HCk.out I wx hAI hIB htd)
            have hHi := HHk.out I hAI hIB htd
            have HNi := Lib.hid (HNk.out I hAI hIB htd)
            cases hoki : ok I with
            | true =>
              obtain ⟨y0, y1⟩ := HNi.out hoki
              obtain ⟨sn, hsn⟩ : ∃ sn : Nat, s = sn := ⟨s.toNat, by omega⟩
              subst hsn
              rw [Int.toNat_natCast] at hHi y0 y1
              rw [hHi] at y0 y1
              have HHi := Lib.hid hHi
              have HOk := Lib.hid hoki
              clear hHi hoki
              go_wp2_with (first
                | (go_at_call 29; go_loud (refine (qTold_any (A : Int) (B : Int) c (sn : Int) _).mono ?_); rintro e w5 ⟨rfl, hb⟩; rw [HTd.out]; have HQ5 := Lib.hid (G.out.1.below HSt.out hb); have HC5 := Lib.hid (G.out.2.below hb); obtain ⟨t0, t1, t2, t3⟩ := part_at HC5.out; clear hb)
                | (go_at_call 41; go_loud (refine (HCi.out w5 HQ5.out.s (Nat.le_trans HQ5.out.d.2.2 HQ5.out.k.size)).mono ?_); rintro e w6 ⟨hk6, hy6, _⟩; obtain ⟨rfl, hs6⟩ := hy6 HOk.out; have hc6 := HQ5.out.call hk6 HF.out; have HQ6 : RowKit.Hid (IFun w6 r 21 .i32 512 (preF H I) ∧ Keeps (fun j => F j ∨ j = r) w2 w6 ∧ St (I + 1) w6) := ⟨hc6.1, hc6.2, hs6⟩; have HC6 := Lib.hid (HC5.out.keeps hk6 HPbl.out.1); obtain ⟨v0, v1, v2, v3⟩ := part_at HC6.out; clear hk6 hy6 hs6 hc6)
                | (go_at_call 63; go_loud (refine (qLine_any (A : Int) (B : Int) c (n I) (H I) sn _ (by omega) HHi.out y0 y1).mono ?_); rintro e w7 ⟨rfl, hb⟩; have HF7 := Lib.hid (HQ6.out.1.below hb HQ6.out.1.lt); have hD := HQ5.out.d; have HS7 := Lib.hid (HSt.out (I + 1) w6 w7 HQ6.out.2.2 (Nat.le_trans hD.2.2 HQ6.out.2.1.size) (.of_below hb)); have HK7 := Lib.hid (HQ6.out.2.1.trans (.of_below hb)); have HC7 := Lib.hid (HC6.out.below hb); have o1 := HF7.out.cell (j := I) i1; have f1 := HF7.out.frozen I; have HT : RowKit.Hid (FrQ w w2 F r ok St H (I + 1) (w7.setCell ⟨r, I, none⟩ (.int .i32 (H I))) ∧ Cel (w7.setCell ⟨r, I, none⟩ (.int .i32 (H I))) pb 67 #[.int .i64 (A : Int), .int .i64 (B : Int), .int .i64 c, .int .i64 (sn : Int)]) := ⟨⟨IFun.ext (HF7.out.set (j := I) i1 (H I)) fun j _ => preF_next H I j, HSt.out (I + 1) w7 _ HS7.out (Nat.le_trans hD.2.2 HK7.out.size) (Keeps.setCell (F := fun j => w.heap.size ≤ j) (p := ⟨r, I, none⟩) (Keeps.refl _ w7) (.inl hD.1) _), Keeps.setCell (p := ⟨r, I, none⟩) HK7.out (.inl (.inr rfl)) _, (fun j hj => (Nat.lt_or_eq_of_le (Nat.le_of_lt_succ hj)).elim (HQ5.out.o j) fun e => e ▸ HOk.out), hD⟩, HC7.out.far (p := ⟨r, I, none⟩) HPbl.out.2 _⟩; clear hb)
                | fail)
              go_roundw
              case rel => exact ⟨m + 1, by omega, by rw [← HI1.out]; go_num, by rw [← HI1.out]; exact HT.out⟩
              case measure => have := HIE.out; simp [intOf] <;> omega
            | false =>
              have HOk := Lib.hid hoki
              clear hHi hoki
              go_wp2_with (first
                | (go_at_call 29; go_loud (refine (qTold_any (A : Int) (B : Int) c s _).mono ?_); rintro e w5 ⟨rfl, hb⟩; rw [HTd.out]; have HQ5 := Lib.hid (G.out.1.below HSt.out hb); have HC5 := Lib.hid (G.out.2.below hb); obtain ⟨t0, t1, t2, t3⟩ := part_at HC5.out; clear hb)
                | (go_at_call 41; go_loud (refine (HCi.out w5 HQ5.out.s (Nat.le_trans HQ5.out.d.2.2 HQ5.out.k.size)).mono ?_); rintro e w6 ⟨hk6, _, hy6⟩; obtain rfl := hy6 HOk.out; have HK6 := Lib.hid (HQ5.out.k.trans (hk6.mono fun j hj => .inl hj)); clear hk6 hy6)
                | fail)
              go_ret2
              exact ⟨(Keeps.of_below HB2.out).then_ HK6.out (fun j hj => hj.elim .inl fun e => .inr (by have := hrl.out; omega)), .inr ⟨⟨I, i1, HOk.out⟩, rfl⟩⟩
          · have HTd : RowKit.Hid (decide (s < c) = false) := decide_eq_false htd
            have HHi := Lib.hid (HHm.out I hAI hIB (by omega))
            have HTi := Lib.hid (HTk.out I hAI hIB (by omega))
            clear htd
            go_wp2_with (first
              | (go_at_call 29; go_loud (refine (qTold_any (A : Int) (B : Int) c s _).mono ?_); rintro e w5 ⟨rfl, hb⟩; rw [HTd.out]; have HQ5 := Lib.hid (G.out.1.below HSt.out hb); have HC5 := Lib.hid (G.out.2.below hb); obtain ⟨t0, t1, t2, t3⟩ := part_at HC5.out; have o1 := HQ5.out.f.cell (j := I) i1; have f1 := HQ5.out.f.frozen I; have HT : RowKit.Hid (FrQ w w2 F r ok St H (I + 1) (w5.setCell ⟨r, I, none⟩ (.int .i32 (H I))) ∧ Cel (w5.setCell ⟨r, I, none⟩ (.int .i32 (H I))) pb 67 #[.int .i64 (A : Int), .int .i64 (B : Int), .int .i64 c, .int .i64 s]) := ⟨HQ5.out.set HSt.out (HTi.out.2 w5 HQ5.out.s) i1 HTi.out.1, HC5.out.far (p := ⟨r, I, none⟩) HPbl.out.2 _⟩; clear hb)
              | (go_at_call 23; go_loud (refine (qNoise_any seed (I : Int) c _ sd0 sd1 (by omega) (by omega)).mono ?_); rintro e w6 ⟨rfl, rfl⟩; rw [HHi.out])
              | fail)
            go_roundw
            case rel => exact ⟨m + 1, by omega, by rw [← HI1.out]; go_num, by rw [← HI1.out]; exact HT.out⟩
            case measure => have := HIE.out; simp [intOf] <;> omega
        · obtain rfl : m = nn := by omega
          have l1 : ¬ (I : Int) < (B : Int) := by omega
          have Z : RowKit.Hid (FrQ w w2 F r ok St H (edgeK (k + 1)) wr) := by rw [HEnd.out, ← hI]; exact G.out.1
          clear hI hAB hmn hm
          go_wp2
          go_roundw
          case rel => exact ⟨k + 1, by omega, by go_num, Z.out⟩
          case measure => simp [intOf] <;> omega
    · obtain rfl : k = 21 := by omega
      have Z := Lib.hid G0.out
      rw [edgeK_last] at Z
      go_wp2
      go_ret2
      refine ⟨(Keeps.of_below HB2.out).then_ Z.out.k (fun j hj => hj.elim .inl fun e => .inr (by have := hrl.out; omega)), .inl ⟨Z.out.o, r, rfl, IFun.ext Z.out.f fun i hi => preF_end _ hi, hrl.out.1, Z.out.s⟩⟩

set_option maxHeartbeats 1000000 in
set_option maxRecDepth 100000 in
theorem qFrameHeard_any (x0 : Value) (a a2 : Option Addr) (cap cap2 : Nat) (zs ss : List Int) (seed : Int) (w : World) (h : IntsAt w w.heap.size .i64 a 21 zs) (h2 : IntsAt w w.heap.size .i64 a2 21 ss) (hmay : mayQ zs ss = true) (sd0 : 0 ≤ seed) (sd1 : seed ≤ 4294967295)
    (F : Nat → Prop) (hF : ∀ j, F j → j < w.heap.size) (n : Nat → Int) (ok : Nat → Bool) (St : Nat → World → Prop)
    (hSt : ∀ i wx w', St i wx → w.heap.size ≤ wx.heap.size → Keeps (fun j => w.heap.size ≤ j) wx w' → St i w') (h0 : St 0 w)
    (hskip : ∀ i wx, i < 512 → toldT (fun j => zs.getD j 0) (fun j => ss.getD j 0) i = false → St i wx → St (i + 1) wx)
    (hok : ∀ i, i < 512 → toldT (fun j => zs.getD j 0) (fun j => ss.getD j 0) i = false → ok i = true)
    (hn : ∀ k i, k < 21 → edgeK k ≤ i → i < edgeK (k + 1) → ss.getD k 0 < zs.getD k 0 → ok i = true → -2147483648 ≤ n i * P2 (ss.getD k 0).toNat ∧ n i * P2 (ss.getD k 0).toNat ≤ 2147483647)
    (hcall : ∀ k i wx, k < 21 → edgeK k ≤ i → i < edgeK (k + 1) → ss.getD k 0 < zs.getD k 0 → St i wx → w.heap.size ≤ wx.heap.size → Calls Try.prog 40 #[.agg #[.int .i64 (edgeK k : Int), .int .i64 (edgeK (k + 1) : Int), .int .i64 (zs.getD k 0), .int .i64 (ss.getD k 0)], .int .i64 (i : Int), x0] wx (ClPost F n ok St i wx)) :
    Calls Try.prog 39 #[.slice a 21 cap, .slice a2 21 cap2, .int .u32 seed, .func (.func 40) #[] #[x0]] w
      (FramePost F ok St (outF (fun j => zs.getD j 0) (fun j => ss.getD j 0) n seed) w) := by
  obtain ⟨hr1, hr2, h12⟩ := mayQ_true hmay
  have HI := Lib.hid h
  have HI2 := Lib.hid h2
  have HC := Lib.hid (rightB_true hr1).2
  have HSs := Lib.hid (rightB_true hr2).2
  have H12 := Lib.hid h12
  have HF := Lib.hid hF
  have HSt := Lib.hid hSt
  have HCall := Lib.hid hcall
  have HNb := Lib.hid hn
  have HTf : RowKit.Hid (∀ k i, k < 21 → edgeK k ≤ i → i < edgeK (k + 1) → zs.getD k 0 ≤ ss.getD k 0 → ok i = true ∧ ∀ wx, St i wx → St (i + 1) wx) := fun k i hk i0 i1 hnt => by
    have ht : toldT (fun j => zs.getD j 0) (fun j => ss.getD j 0) i = false := by rw [toldT_at hk i0 i1]; simpa using hnt
    have := edgeK_lt k hk
    exact ⟨hok i (by omega) ht, fun wx hs => hskip i wx (by omega) ht hs⟩
  obtain ⟨H, hH⟩ : ∃ H, H = outF (fun j => zs.getD j 0) (fun j => ss.getD j 0) n seed := ⟨_, rfl⟩
  have HHt : RowKit.Hid (∀ k i, k < 21 → edgeK k ≤ i → i < edgeK (k + 1) → ss.getD k 0 < zs.getD k 0 → n i * P2 (ss.getD k 0).toNat = H i) := fun k i hk i0 i1 ht => by rw [hH]; exact (outF_told (c := fun j => zs.getD j 0) (s := fun j => ss.getD j 0) hk i0 i1 ht).symm
  have HHn : RowKit.Hid (∀ k i, k < 21 → edgeK k ≤ i → i < edgeK (k + 1) → zs.getD k 0 ≤ ss.getD k 0 → noiseP seed i (zs.getD k 0) = H i) := fun k i hk i0 i1 ht => by rw [hH]; exact (outF_not (c := fun j => zs.getD j 0) (s := fun j => ss.getD j 0) hk i0 i1 (by omega)).symm
  rw [← hH]
  have hmk : ∀ w : World, (Instr.makeSlice 22 (.int .i64 512) (.int .i64 512)).run Try.prog w = .ok (.slice (some ⟨w.heap.size, 0, none⟩) 512 512) (w.alloc (.cells (madeCells #[.int .i32 0] 512) 21)) :=
    fun w => make_zeros (P := Try.prog) Try.underlying22 infoE_i32 512 (by decide) (by decide) w
  have hmf : ∀ (fn : Fn) (first cap : Array Value) (w : World), (Instr.makeFunc fn first cap).run Try.prog w = .ok (.func fn first cap) w := fun _ _ _ _ => rfl
  have HZ := Lib.hid (fun w => IFun.zeros w 21 .i32 512)
  generalize madeCells #[Value.int .i32 0] 512 = mc at hmk HZ
  have H00 : RowKit.Hid (IFun (w.alloc (.cells mc 21)) w.heap.size 21 .i32 512 (fun _ => 0) ∧ Below w.heap.size w (w.alloc (.cells mc 21)) ∧ w.heap.size < (w.alloc (.cells mc 21)).heap.size) := ⟨HZ.out w, Below.alloc_new w _, (HZ.out w).lt⟩
  have HS0 := Lib.hid h0
  clear HZ hr1 hr2 h12 hH h h2 hmay hF hSt h0 hskip hok hn hcall
  go_enter Try.func39, Try.ntmps39
  go_wp2_with (go_at_call 28; go_loud (refine (qParts_any _ _ _ _ zs ss _ (HI.out.now H00.out.2.1 (Nat.le_refl _)) (HI2.out.now H00.out.2.1 (Nat.le_refl _))).mono ?_); rintro e1 w2 ⟨pg, rfl, hp, hg, hb⟩; have HP2 := Lib.hid hp; have HB2 := Lib.hid (chain H00.out.2.1 hb); have HF2 := Lib.hid (H00.out.1.below hb H00.out.2.2); have hpg := Nat.lt_of_lt_of_le H00.out.2.2 hg; have hpl := hp.lt; clear hg hp hb)
  clear hmk
  obtain ⟨r, hr⟩ : ∃ r, r = w.heap.size := ⟨_, rfl⟩
  have hrl : RowKit.Hid (w.heap.size ≤ r ∧ r < pg ∧ r < w2.heap.size ∧ w.heap.size ≤ w2.heap.size) := by have := HF2.out.lt; have := HB2.out.size; show _ ∧ _; omega
  have HFw : RowKit.Hid (∀ j, F j → j < r) := fun j hj => by rw [hr]; exact HF.out j hj
  rw [← hr] at HF2 ⊢
  have H0 : RowKit.Hid (FrQ w w2 F r ok St H (edgeK 0) w2) := ⟨IFun.ext HF2.out fun j _ => (preF_zero H j).symm, HSt.out 0 w w2 HS0.out (Nat.le_refl _) (.of_below HB2.out), Keeps.refl _ _, fun j hj => by rw [edgeK_zero] at hj; omega, hrl.out.1, hrl.out.2.2.1, hrl.out.2.2.2⟩
  have HNp : RowKit.Hid (¬ (F pg ∨ pg = r)) := by
    rintro (c | c)
    · have := HF.out pg c; have := hrl.out; omega
    · have := hrl.out; omega
  clear HF2 HS0 hr H00 hpg
  go_loopw [21] (fun i wr => ∃ k : Nat, k ≤ 21 ∧ i = .int .i64 (k : Int) ∧ RowKit.Hid (FrQ w w2 F r ok St H (edgeK k) wr)) (fun i _ => 21 - (intOf i).toNat)
  case atStart => exact ⟨0, by omega, rfl, H0.out⟩
  case round =>
    obtain ⟨k, hk, rfl, G0⟩ := hrel
    clear H0
    by_cases hlt : k < 21
    · have hrow : IFun wr pg 67 .i64 84 (partF (fun j => zs.getD j 0) (fun j => ss.getD j 0)) := HP2.out.keeps G0.out.k HNp.out
      have d0 := hrow.cell (j := k * 4) (by omega)
      have d1 := hrow.cell (j := k * 4 + 1) (by omega)
      have d2 := hrow.cell (j := k * 4 + 2) (by omega)
      have d3 := hrow.cell (j := k * 4 + 3) (by omega)
      rw [partF_0] at d0
      rw [partF_1] at d1
      rw [partF_2] at d2
      rw [partF_3] at d3
      clear hrow
      obtain ⟨c0, c1⟩ := HC.out k hlt
      obtain ⟨s0, s1⟩ := HSs.out k hlt
      have cs := H12.out k hlt
      obtain ⟨ed1, ed2⟩ := edgeK_lt k hlt
      have HCk : RowKit.Hid (∀ i wx, edgeK k ≤ i → i < edgeK (k + 1) → ss.getD k 0 < zs.getD k 0 → St i wx → w.heap.size ≤ wx.heap.size → Calls Try.prog 40 #[.agg #[.int .i64 (edgeK k : Int), .int .i64 (edgeK (k + 1) : Int), .int .i64 (zs.getD k 0), .int .i64 (ss.getD k 0)], .int .i64 (i : Int), x0] wx (ClPost F n ok St i wx)) := fun i wx => HCall.out k i wx hlt
      have HNk : RowKit.Hid (∀ i, edgeK k ≤ i → i < edgeK (k + 1) → ss.getD k 0 < zs.getD k 0 → ok i = true → -2147483648 ≤ n i * P2 (ss.getD k 0).toNat ∧ n i * P2 (ss.getD k 0).toNat ≤ 2147483647) := fun i => HNb.out k i hlt
      have HTk : RowKit.Hid (∀ i, edgeK k ≤ i → i < edgeK (k + 1) → zs.getD k 0 ≤ ss.getD k 0 → ok i = true ∧ ∀ wx, St i wx → St (i + 1) wx) := fun i => HTf.out k i hlt
      have HHk : RowKit.Hid (∀ i, edgeK k ≤ i → i < edgeK (k + 1) → ss.getD k 0 < zs.getD k 0 → n i * P2 (ss.getD k 0).toNat = H i) := fun i => HHt.out k i hlt
      have HHm : RowKit.Hid (∀ i, edgeK k ≤ i → i < edgeK (k + 1) → zs.getD k 0 ≤ ss.getD k 0 → noiseP seed i (zs.getD k 0) = H i) := fun i => HHn.out k i hlt
      generalize zs.getD k 0 = c at d2 c0 c1 cs HCk HNk HTk HHk HHm
      generalize ss.getD k 0 = s at d3 s0 s1 cs HCk HNk HTk HHk HHm
      obtain ⟨B, hB⟩ : ∃ B, B = edgeK (k + 1) := ⟨_, rfl⟩
      rw [← hB] at d1 ed1 ed2 HCk HNk HTk HHk HHm
      have HBk := Lib.hid hB
      clear hB
      generalize edgeK k = A at d0 ed1 HCk HNk HTk HHk HHm G0
      have l0 : (k : Int) < 21 := by omega
      obtain ⟨nn, hnn⟩ : ∃ nn, nn = B - A := ⟨_, rfl⟩
      have hB2 : B = A + nn := by omega
      have HEnd : RowKit.Hid (edgeK (k + 1) = A + nn) := by show _ = _; rw [← HBk.out]; exact hB2
      have HAB := Lib.hid hB2
      have HCn := Lib.hid (Cel.new wr 67 #[.int .i64 (A : Int), .int .i64 (B : Int), .int .i64 c, .int .i64 s])
      have HG1 := Lib.hid (G0.out.below HSt.out (Below.alloc_new wr (.cells #[.int .i64 (A : Int), .int .i64 (B : Int), .int .i64 c, .int .i64 s] 67)))
      have HWs : RowKit.Hid (w2.heap.size ≤ wr.heap.size) := G0.out.k.size
      clear hnn HBk hB2
      go_wp2
      generalize (wr.alloc (.cells #[.int .i64 (A : Int), .int .i64 (B : Int), .int .i64 c, .int .i64 s] 67)) = w3 at HCn HG1 ⊢
      obtain ⟨pb, hpb⟩ : ∃ pb, pb = wr.heap.size := ⟨_, rfl⟩
      rw [← hpb] at HCn HWs ⊢
      clear hpb d0 d1 d2 d3 G0
      go_loopw [13] (fun i wx => ∃ m : Nat, m ≤ nn ∧ i = .int .i64 ((A + m : Nat) : Int) ∧ RowKit.Hid (FrQ w w2 F r ok St H (A + m) wx ∧ Cel wx pb 67 #[.int .i64 (A : Int), .int .i64 (B : Int), .int .i64 c, .int .i64 s])) (fun i _ => A + nn - (intOf i).toNat)
      case atStart => exact ⟨0, by omega, rfl, HG1.out, HCn.out⟩
      case round =>
        obtain ⟨m, hm, rfl, G⟩ := hrel
        clear HG1 HCn
        obtain ⟨q0, q1, q2, q3⟩ := part_at G.out.2
        obtain ⟨I, hI⟩ : ∃ I, I = A + m := ⟨_, rfl⟩
        rw [← hI] at G ⊢
        have hAB := HAB.out
        by_cases hmn : m < nn
        · have l1 : (I : Int) < (B : Int) := by omega
          have i1 : I < 512 := by omega
          have hAI : A ≤ I := by omega
          have hIB : I < B := by omega
          have HI1 : RowKit.Hid (I + 1 = A + (m + 1)) := by show _ = _; omega
          have HIE : RowKit.Hid (I < A + nn) := by show _ < _; omega
          have HPbl : RowKit.Hid (¬ F pb ∧ pb ≠ r) := ⟨fun c => by have := HFw.out pb c; have := hrl.out; have := HWs.out; omega, by have := hrl.out; have := HWs.out; omega⟩
          clear hI hAB
          by_cases htd : s < c
          · have HTd : RowKit.Hid (decide (s < c) = true) := decide_eq_true htd
            have HCi := Lib.hid (fun wx => HCk.out I wx hAI hIB htd)
            have hHi := HHk.out I hAI hIB htd
            have HNi := Lib.hid (HNk.out I hAI hIB htd)
            cases hoki : ok I with
            | true =>
              obtain ⟨y0, y1⟩ := HNi.out hoki
              obtain ⟨sn, hsn⟩ : ∃ sn : Nat, s = sn := ⟨s.toNat, by omega⟩
              subst hsn
              rw [Int.toNat_natCast] at hHi y0 y1
              rw [hHi] at y0 y1
              have HHi := Lib.hid hHi
              have HOk := Lib.hid hoki
              clear hHi hoki
              go_wp2_with (first
                | (go_at_call 29; go_loud (refine (qTold_any (A : Int) (B : Int) c (sn : Int) _).mono ?_); rintro e w5 ⟨rfl, hb⟩; rw [HTd.out]; have HQ5 := Lib.hid (G.out.1.below HSt.out hb); have HC5 := Lib.hid (G.out.2.below hb); obtain ⟨t0, t1, t2, t3⟩ := part_at HC5.out; clear hb)
                | (go_at_call 40; go_loud (refine (HCi.out w5 HQ5.out.s (Nat.le_trans HQ5.out.d.2.2 HQ5.out.k.size)).mono ?_); rintro e w6 ⟨hk6, hy6, _⟩; obtain ⟨rfl, hs6⟩ := hy6 HOk.out; have hc6 := HQ5.out.call hk6 HF.out; have HQ6 : RowKit.Hid (IFun w6 r 21 .i32 512 (preF H I) ∧ Keeps (fun j => F j ∨ j = r) w2 w6 ∧ St (I + 1) w6) := ⟨hc6.1, hc6.2, hs6⟩; have HC6 := Lib.hid (HC5.out.keeps hk6 HPbl.out.1); obtain ⟨v0, v1, v2, v3⟩ := part_at HC6.out; clear hk6 hy6 hs6 hc6)
                | (go_at_call 63; go_loud (refine (qLine_any (A : Int) (B : Int) c (n I) (H I) sn _ (by omega) HHi.out y0 y1).mono ?_); rintro e w7 ⟨rfl, hb⟩; have HF7 := Lib.hid (HQ6.out.1.below hb HQ6.out.1.lt); have hD := HQ5.out.d; have HS7 := Lib.hid (HSt.out (I + 1) w6 w7 HQ6.out.2.2 (Nat.le_trans hD.2.2 HQ6.out.2.1.size) (.of_below hb)); have HK7 := Lib.hid (HQ6.out.2.1.trans (.of_below hb)); have HC7 := Lib.hid (HC6.out.below hb); have o1 := HF7.out.cell (j := I) i1; have f1 := HF7.out.frozen I; have HT : RowKit.Hid (FrQ w w2 F r ok St H (I + 1) (w7.setCell ⟨r, I, none⟩ (.int .i32 (H I))) ∧ Cel (w7.setCell ⟨r, I, none⟩ (.int .i32 (H I))) pb 67 #[.int .i64 (A : Int), .int .i64 (B : Int), .int .i64 c, .int .i64 (sn : Int)]) := ⟨⟨IFun.ext (HF7.out.set (j := I) i1 (H I)) fun j _ => preF_next H I j, HSt.out (I + 1) w7 _ HS7.out (Nat.le_trans hD.2.2 HK7.out.size) (Keeps.setCell (F := fun j => w.heap.size ≤ j) (p := ⟨r, I, none⟩) (Keeps.refl _ w7) (.inl hD.1) _), Keeps.setCell (p := ⟨r, I, none⟩) HK7.out (.inl (.inr rfl)) _, (fun j hj => (Nat.lt_or_eq_of_le (Nat.le_of_lt_succ hj)).elim (HQ5.out.o j) fun e => e ▸ HOk.out), hD⟩, HC7.out.far (p := ⟨r, I, none⟩) HPbl.out.2 _⟩; clear hb)
                | fail)
              go_roundw
              case rel => exact ⟨m + 1, by omega, by rw [← HI1.out]; go_num, by rw [← HI1.out]; exact HT.out⟩
              case measure => have := HIE.out; simp [intOf] <;> omega
            | false =>
              have HOk := Lib.hid hoki
              clear hHi hoki
              go_wp2_with (first
                | (go_at_call 29; go_loud (refine (qTold_any (A : Int) (B : Int) c s _).mono ?_); rintro e w5 ⟨rfl, hb⟩; rw [HTd.out]; have HQ5 := Lib.hid (G.out.1.below HSt.out hb); have HC5 := Lib.hid (G.out.2.below hb); obtain ⟨t0, t1, t2, t3⟩ := part_at HC5.out; clear hb)
                | (go_at_call 40; go_loud (refine (HCi.out w5 HQ5.out.s (Nat.le_trans HQ5.out.d.2.2 HQ5.out.k.size)).mono ?_); rintro e w6 ⟨hk6, _, hy6⟩; obtain rfl := hy6 HOk.out; have HK6 := Lib.hid (HQ5.out.k.trans (hk6.mono fun j hj => .inl hj)); clear hk6 hy6)
                | fail)
              go_ret2
              exact ⟨(Keeps.of_below HB2.out).then_ HK6.out (fun j hj => hj.elim .inl fun e => .inr (by have := hrl.out; omega)), .inr ⟨⟨I, i1, HOk.out⟩, rfl⟩⟩
          · have HTd : RowKit.Hid (decide (s < c) = false) := decide_eq_false htd
            have HHi := Lib.hid (HHm.out I hAI hIB (by omega))
            have HTi := Lib.hid (HTk.out I hAI hIB (by omega))
            clear htd
            go_wp2_with (first
              | (go_at_call 29; go_loud (refine (qTold_any (A : Int) (B : Int) c s _).mono ?_); rintro e w5 ⟨rfl, hb⟩; rw [HTd.out]; have HQ5 := Lib.hid (G.out.1.below HSt.out hb); have HC5 := Lib.hid (G.out.2.below hb); obtain ⟨t0, t1, t2, t3⟩ := part_at HC5.out; have o1 := HQ5.out.f.cell (j := I) i1; have f1 := HQ5.out.f.frozen I; have HT : RowKit.Hid (FrQ w w2 F r ok St H (I + 1) (w5.setCell ⟨r, I, none⟩ (.int .i32 (H I))) ∧ Cel (w5.setCell ⟨r, I, none⟩ (.int .i32 (H I))) pb 67 #[.int .i64 (A : Int), .int .i64 (B : Int), .int .i64 c, .int .i64 s]) := ⟨HQ5.out.set HSt.out (HTi.out.2 w5 HQ5.out.s) i1 HTi.out.1, HC5.out.far (p := ⟨r, I, none⟩) HPbl.out.2 _⟩; clear hb)
              | (go_at_call 23; go_loud (refine (qNoise_any seed (I : Int) c _ sd0 sd1 (by omega) (by omega)).mono ?_); rintro e w6 ⟨rfl, rfl⟩; rw [HHi.out])
              | fail)
            go_roundw
            case rel => exact ⟨m + 1, by omega, by rw [← HI1.out]; go_num, by rw [← HI1.out]; exact HT.out⟩
            case measure => have := HIE.out; simp [intOf] <;> omega
        · obtain rfl : m = nn := by omega
          have l1 : ¬ (I : Int) < (B : Int) := by omega
          have Z : RowKit.Hid (FrQ w w2 F r ok St H (edgeK (k + 1)) wr) := by rw [HEnd.out, ← hI]; exact G.out.1
          clear hI hAB hmn hm
          go_wp2
          go_roundw
          case rel => exact ⟨k + 1, by omega, by go_num, Z.out⟩
          case measure => simp [intOf] <;> omega
    · obtain rfl : k = 21 := by omega
      have Z := Lib.hid G0.out
      rw [edgeK_last] at Z
      go_wp2
      go_ret2
      refine ⟨(Keeps.of_below HB2.out).then_ Z.out.k (fun j hj => hj.elim .inl fun e => .inr (by have := hrl.out; omega)), .inl ⟨Z.out.o, r, rfl, IFun.ext Z.out.f fun i hi => preF_end _ hi, hrl.out.1, Z.out.s⟩⟩
end Go.Proofs.Ytdmafololcpamaa

/- What Heard and Get of package quant give. -/
namespace Go.Proofs.Ytdmafololcpamaa
open Go.RowKit
set_option linter.unusedVariables false

theorem scaled_bd {q s n : Int} (s0 : 0 ≤ s) (h : s < n) (n1 : n ≤ 26) (q0 : -(P2 (n - s).toNat) ≤ q) (q1 : q ≤ P2 (n - s).toNat) : -67108864 ≤ q * P2 s.toNat ∧ q * P2 s.toNat ≤ 67108864 := by
  have hM := P2_add (n - s).toNat s.toNat
  rw [show (n - s).toNat + s.toNat = n.toNat by omega] at hM
  have p0 := P2_pos s.toNat
  have hn := P2_mono (a := n.toNat) (b := 26) (by omega)
  rw [show P2 26 = 67108864 by decide] at hn
  have a1 := Int.mul_le_mul_of_nonneg_right q1 (show 0 ≤ P2 s.toNat by omega)
  have a2 := Int.mul_le_mul_of_nonneg_right q0 (show 0 ≤ P2 s.toNat by omega)
  rw [Int.neg_mul] at a2
  omega
theorem rightB_len21 {zs : List Int} (h : rightB zs = true) : zs.length = 21 := (rightB_true h).1

/-! ### Heard -/
theorem qHeard_len (l a a2 : Option Addr) (llen lcap len cap len2 cap2 : Nat) (seed : Int) (w : World) (hm : llen ≤ 9223372036854775807) (h : llen ≠ 512) :
    Calls Try.prog 16 #[.slice l llen lcap, .slice a len cap, .slice a2 len2 cap2, .int .u32 seed] w fun e w' => e = .returned (.tuple #[.slice none 0 0, .int .i64 1]) ∧ Below w.heap.size w w' := by
  have q1 : ((llen : Int) == 512) = false := by simp; omega
  have HB := Lib.hid (Below.alloc_new w (.cells #[.slice l llen lcap] 22))
  clear h
  go_enter Try.func16, Try.ntmps16
  go_wp2
  go_ret2
  exact ⟨rfl, HB.out⟩
theorem qHeard_no (l a a2 : Option Addr) (lcap len cap len2 cap2 : Nat) (zs ss : List Int) (seed : Int) (w : World) (h : IntsAt w w.heap.size .i64 a len zs) (hm : len ≤ 9223372036854775807) (h2 : IntsAt w w.heap.size .i64 a2 len2 ss) (hm2 : len2 ≤ 9223372036854775807) (hno : mayQ zs ss = false) :
    Calls Try.prog 16 #[.slice l 512 lcap, .slice a len cap, .slice a2 len2 cap2, .int .u32 seed] w fun e w' => e = .returned (.tuple #[.slice none 0 0, .int .i64 1]) ∧ Below w.heap.size w w' := by
  have HB := Lib.hid (Below.alloc_new w (.cells #[.slice l 512 lcap] 22))
  have H1 := Lib.hid (h.now HB.out (Nat.le_refl _))
  have H2 := Lib.hid (h2.now HB.out (Nat.le_refl _))
  have HN := Lib.hid hno
  clear h h2 hno
  go_enter Try.func16, Try.ntmps16
  go_wp2_with (go_at_call 26; go_loud (refine (qMay_any _ _ _ _ _ _ _ _ _ H1.out hm H2.out hm2).mono ?_); rintro e1 w5 ⟨rfl, rfl⟩; rw [HN.out])
  go_ret2
  exact ⟨rfl, HB.out⟩
def HeardPost (H : Nat → Int) (w : World) (e : Ending) (w' : World) : Prop :=
  ∃ r, e = .returned (.tuple #[.slice (some ⟨r, 0, none⟩) 512 512, .int .i64 0]) ∧ IFun w' r 21 .i32 512 H ∧ w.heap.size ≤ r ∧ Below w.heap.size w w'
set_option maxHeartbeats 400000 in
set_option maxRecDepth 100000 in
theorem qHeard_any (lb lo lcap : Nat) (x : Nat → Int) (a a2 : Option Addr) (cap cap2 : Nat) (zs ss : List Int) (seed : Int) (w : World) (hlb : lb < w.heap.size) (hx : ∀ i, i < 512 → w.cell? ⟨lb, lo + i, none⟩ = some (.int .i32 (x i))) (hxb : ∀ i, i < 512 → -2147483648 ≤ x i ∧ x i ≤ 2147483647)
    (h : IntsAt w w.heap.size .i64 a 21 zs) (h2 : IntsAt w w.heap.size .i64 a2 21 ss) (hmay : mayQ zs ss = true) (sd0 : 0 ≤ seed) (sd1 : seed ≤ 4294967295) :
    Calls Try.prog 16 #[.slice (some ⟨lb, lo, none⟩) 512 lcap, .slice a 21 cap, .slice a2 21 cap2, .int .u32 seed] w (HeardPost (outF (fun j => zs.getD j 0) (fun j => ss.getD j 0) (lineQ x (fun j => zs.getD j 0) (fun j => ss.getD j 0)) seed) w) := by
  obtain ⟨hr1, hr2, h12⟩ := mayQ_true hmay
  have hc := (rightB_true hr1).2
  have hs := (rightB_true hr2).2
  have HB := Lib.hid (Below.alloc_new w (.cells #[.slice (some ⟨lb, lo, none⟩) 512 lcap] 22))
  have HI := Lib.hid (h.now HB.out (Nat.le_refl _))
  have HI2 := Lib.hid (h2.now HB.out (Nat.le_refl _))
  have HMay := Lib.hid hmay
  have hmf : ∀ (fn : Fn) (first cap : Array Value) (w : World), (Instr.makeFunc fn first cap).run Try.prog w = .ok (.func fn first cap) w := fun _ _ _ _ => rfl
  have HCx := Lib.hid (Cel.new w 22 #[.slice (some ⟨lb, lo, none⟩) 512 lcap])
  have HXx : RowKit.Hid (∀ i, i < 512 → (w.alloc (.cells #[.slice (some ⟨lb, lo, none⟩) 512 lcap] 22)).cell? ⟨lb, lo + i, none⟩ = some (.int .i32 (x i))) := fun i hi => (HB.out.cell (p := ⟨lb, lo + i, none⟩) hlb).trans (hx i hi)
  obtain ⟨w1, hw1⟩ : ∃ w1, w1 = w.alloc (.cells #[.slice (some ⟨lb, lo, none⟩) 512 lcap] 22) := ⟨_, rfl⟩
  obtain ⟨xb, hxbk⟩ : ∃ xb, xb = w.heap.size := ⟨_, rfl⟩
  have HFr : RowKit.Hid (Calls Try.prog 39 #[.slice a 21 cap, .slice a2 21 cap2, .int .u32 seed, .func (.func 40) #[] #[.pointer (some ⟨xb, 0, none⟩)]] w1
      (FramePost (fun _ => False) (fun _ => true) (fun i wx => Cel wx xb 22 #[.slice (some ⟨lb, lo, none⟩) 512 lcap] ∧ ∀ i, i < 512 → wx.cell? ⟨lb, lo + i, none⟩ = some (.int .i32 (x i))) (outF (fun j => zs.getD j 0) (fun j => ss.getD j 0) (lineQ x (fun j => zs.getD j 0) (fun j => ss.getD j 0)) seed) w1)) := by
    rw [← hw1] at HI HI2 HCx HXx
    rw [← hxbk] at HCx hlb
    have hxl : xb < w1.heap.size := HCx.out.lt
    refine qFrameHeard_any _ a a2 cap cap2 zs ss seed w1 HI.out HI2.out hmay sd0 sd1 _ (fun j hj => hj.elim) _ _ _ (fun i wx w' hs1 hsz hk => ?_) ⟨HCx.out, HXx.out⟩ (fun i wx _ _ hs1 => hs1) (fun i _ _ => rfl) (fun k i hk i0 i1 ht _ => ?_) (fun k i wx hk i0 i1 ht hs1 hsz => ?_)
    · refine ⟨hs1.1.keeps hk (by omega), fun j hj => ?_⟩
      exact (World.cell?_of_block (a := ⟨lb, lo + j, none⟩) (hk.block lb (by omega) (by omega))).trans (hs1.2 j hj)
    · have b1 := hc k hk
      have b2 := hs k hk
      rw [lineQ_at (c := fun j => zs.getD j 0) (s := fun j => ss.getD j 0) hk i0 i1]
      have hb := numQ_bd (x i) (ss.getD k 0) (zs.getD k 0)
      have := scaled_bd (q := numQ (x i) (ss.getD k 0) (zs.getD k 0)) b2.1 ht b1.2 (by omega) (by omega)
      omega
    · have b1 := hc k hk
      have b2 := hs k hk
      have he := edgeK_lt k hk
      have hxi := hxb i (by omega)
      refine (qLitHeard_any xb lb lo lcap i _ _ _ _ (x i) wx hs1.1 (hs1.2 i (by omega)) (by omega) b2.1 (by omega) ht (h12 k hk) hxi.1 hxi.2).mono ?_
      rintro e w' ⟨rfl, hb⟩
      refine ⟨.of_below hb, fun _ => ⟨by rw [lineQ_at (c := fun j => zs.getD j 0) (s := fun j => ss.getD j 0) hk i0 i1], hs1.1.below hb, fun j hj => ?_⟩, fun c => by cases c⟩
      exact (hb.cell (p := ⟨lb, lo + j, none⟩) (by show lb < _; omega)).trans (hs1.2 j hj)
  have HFs : RowKit.Hid (Calls Try.prog 39 #[.slice a 21 cap, .slice a2 21 cap2, .int .u32 seed, .func (.func 40) #[] #[.pointer (some ⟨xb, 0, none⟩)]] w1 (HeardPost (outF (fun j => zs.getD j 0) (fun j => ss.getD j 0) (lineQ x (fun j => zs.getD j 0) (fun j => ss.getD j 0)) seed) w1)) := by
    refine HFr.out.mono ?_
    rintro e w' ⟨hk, ⟨_, r, rfl, hf, hr, _⟩ | ⟨⟨_, _, c⟩, _⟩⟩
    · exact ⟨r, rfl, hf, hr, hk.below (Nat.le_refl _) fun j hj => hj.elim⟩
    · cases c
  rw [hw1, hxbk] at HFs
  clear h h2 hmay hr1 hr2 h12 hc hs hx hxb HCx HXx HFr hw1 hxbk
  go_enter Try.func16, Try.ntmps16
  go_wp2_with (first
    | (go_at_call 26; go_loud (refine (qMay_any _ _ _ _ _ _ _ _ _ HI.out (by decide) HI2.out (by decide)).mono ?_); rintro e1 w5 ⟨rfl, rfl⟩; rw [HMay.out])
    | (go_at_call 39; go_loud (refine HFs.out.mono ?_); rintro e1 w6 ⟨r, rfl, hf, hr, hk6⟩; have HF6 := Lib.hid hf; have HR6 := Lib.hid hr; have HK6 := Lib.hid hk6; clear hf hr hk6)
    | fail)
  go_ret2
  have hbw := HB.out.size
  exact ⟨r, rfl, HF6.out, Nat.le_trans hbw HR6.out, chain HB.out HK6.out⟩

/-! ### Get -/
/-- A line's number has no more bits than may be. -/
def okG (c s : Nat → Int) (b : List Int) (D : DecS) (i : Nat) : Bool := !(toldT c s i) || decide (getK (toldT c s) b D i ≤ (c (ofN i) - s (ofN i)).toNat)
def GotPostF (g : Nat) (c s : Nat → Int) (b : List Int) (D : DecS) (seed : Int) (w : World) (e : Ending) (w' : World) : Prop :=
  Keeps (fun j => j = g) w w' ∧ (((∀ i, i < 512 → okG c s b D i = true) ∧ ∃ r, e = .returned (.tuple #[.slice (some ⟨r, 0, none⟩) 512 512, .int .i64 0]) ∧ IFun w' r 21 .i32 512 (outF c s (getQ (toldT c s) b D) seed) ∧ w.heap.size ≤ r) ∨
    ((∃ i, i < 512 ∧ okG c s b D i = false) ∧ e = .returned (.tuple #[.slice none 0 0, .int .i64 3])))
theorem qGet_nil (a a2 : Option Addr) (len cap len2 cap2 : Nat) (seed : Int) (w : World) :
    Calls Try.prog 17 #[.pointer none, .slice a len cap, .slice a2 len2 cap2, .int .u32 seed] w fun e w' => e = .returned (.tuple #[.slice none 0 0, .int .i64 1]) ∧ Below w.heap.size w w' := by
  have HB := Lib.hid (Below.alloc_new w (.cells #[.pointer none] 43))
  go_enter Try.func17, Try.ntmps17
  go_wp2
  go_ret2
  exact ⟨rfl, HB.out⟩
theorem qGet_no (g : Nat) (a a2 : Option Addr) (len cap len2 cap2 : Nat) (zs ss : List Int) (seed : Int) (w : World) (h : IntsAt w w.heap.size .i64 a len zs) (hm : len ≤ 9223372036854775807) (h2 : IntsAt w w.heap.size .i64 a2 len2 ss) (hm2 : len2 ≤ 9223372036854775807) (hno : mayQ zs ss = false) :
    Calls Try.prog 17 #[.pointer (some ⟨g, 0, none⟩), .slice a len cap, .slice a2 len2 cap2, .int .u32 seed] w fun e w' => e = .returned (.tuple #[.slice none 0 0, .int .i64 1]) ∧ Below w.heap.size w w' := by
  have HB := Lib.hid (Below.alloc_new w (.cells #[.pointer (some ⟨g, 0, none⟩)] 43))
  have H1 := Lib.hid (h.now HB.out (Nat.le_refl _))
  have H2 := Lib.hid (h2.now HB.out (Nat.le_refl _))
  have HN := Lib.hid hno
  clear h h2 hno
  go_enter Try.func17, Try.ntmps17
  go_wp2_with (go_at_call 26; go_loud (refine (qMay_any _ _ _ _ _ _ _ _ _ H1.out hm H2.out hm2).mono ?_); rintro e1 w5 ⟨rfl, rfl⟩; rw [HN.out])
  go_ret2
  exact ⟨rfl, HB.out⟩
set_option maxHeartbeats 400000 in
set_option maxRecDepth 100000 in
theorem qGet_any (base g : Nat) (v : Value) (b : List Int) (D : DecS) (a a2 : Option Addr) (cap cap2 : Nat) (zs ss : List Int) (seed : Int) (w : World) (hD : DrcAt w base g v b D) (hG : GoodD D) (hb : ∀ j, 0 ≤ byteF b j ∧ byteF b j ≤ 255) (hbl : b.length ≤ 1000000) (hi : D.i ≤ 1000000)
    (h : IntsAt w w.heap.size .i64 a 21 zs) (h2 : IntsAt w w.heap.size .i64 a2 21 ss) (hmay : mayQ zs ss = true) (sd0 : 0 ≤ seed) (sd1 : seed ≤ 4294967295) :
    Calls Try.prog 17 #[.pointer (some ⟨g, 0, none⟩), .slice a 21 cap, .slice a2 21 cap2, .int .u32 seed] w (GotPostF g (fun j => zs.getD j 0) (fun j => ss.getD j 0) b D seed w) := by
  obtain ⟨hr1, hr2, h12⟩ := mayQ_true hmay
  have hc := (rightB_true hr1).2
  have hs := (rightB_true hr2).2
  have HB := Lib.hid (Below.alloc_new w (.cells #[.pointer (some ⟨g, 0, none⟩)] 43))
  have HI := Lib.hid (h.now HB.out (Nat.le_refl _))
  have HI2 := Lib.hid (h2.now HB.out (Nat.le_refl _))
  have HMay := Lib.hid hmay
  have hmf : ∀ (fn : Fn) (first cap : Array Value) (w : World), (Instr.makeFunc fn first cap).run Try.prog w = .ok (.func fn first cap) w := fun _ _ _ _ => rfl
  have HCd := Lib.hid (Cel.new w 43 #[.pointer (some ⟨g, 0, none⟩)])
  have HD := Lib.hid (hD.below HB.out)
  obtain ⟨w1, hw1⟩ : ∃ w1, w1 = w.alloc (.cells #[.pointer (some ⟨g, 0, none⟩)] 43) := ⟨_, rfl⟩
  obtain ⟨db, hdb⟩ : ∃ db, db = w.heap.size := ⟨_, rfl⟩
  have hgl := hD.lt.1
  have HOw : RowKit.Hid (∀ r, v.ownBlock = some r → r < w.heap.size) := fun r hr => (hD.own r hr).1
  have HFs : RowKit.Hid (∀ (w2 : World) (mg : Nat), Below w1.heap.size w1 w2 → w1.heap.size ≤ mg → ModAt w2 mg (List.replicate 13 1) false →
      Calls Try.prog 39 #[.slice a 21 cap, .slice a2 21 cap2, .int .u32 seed, .func (.func 41) #[] #[.pointer (some ⟨db, 0, none⟩), .pointer (some ⟨w2.heap.size, 0, none⟩)]] (w2.alloc (.cells #[.pointer (some ⟨mg, 0, none⟩)] 62))
        fun e w' => GotPostF g (fun j => zs.getD j 0) (fun j => ss.getD j 0) b D seed w e w' ∧ ∃ y1 y2 : Value, e = .returned (.tuple #[y1, y2])) := fun w2 mg hb2 hmg hm => by
    have hb3 := chain hb2 (Below.alloc_new w2 (.cells #[.pointer (some ⟨mg, 0, none⟩)] 62))
    have hCm := Cel.new w2 62 #[.pointer (some ⟨mg, 0, none⟩)]
    have hbw := HB.out
    have hD1 := HD.out
    have hCd := HCd.out
    have hI := HI.out
    have hI2 := HI2.out
    rw [← hw1] at hbw hD1 hCd hI hI2
    rw [← hdb] at hCd
    have hdl := hCd.lt
    have hm3 := hm.below (Below.alloc_new w2 (.cells #[.pointer (some ⟨mg, 0, none⟩)] 62))
    have hml := hm.lt
    generalize hw3 : w2.alloc (.cells #[.pointer (some ⟨mg, 0, none⟩)] 62) = w3 at hb3 hCm hm3
    obtain ⟨mb, hmb⟩ : ∃ mb, mb = w2.heap.size := ⟨_, rfl⟩
    rw [← hmb] at hCm ⊢
    have hsz3 := hb3.size
    have hszw := hbw.size
    have hml3 := hm3.lt
    have hmb3 := hCm.lt
    have hall := hbw.trans (hb3.mono hszw)
    refine (qFrameGet_any _ _ a a2 cap cap2 zs ss seed w3 (hI.now hb3 (Nat.le_refl _)) (hI2.now hb3 (Nat.le_refl _)) hmay sd0 sd1 (fun j => j = g ∨ j = mg) (fun j hj => by omega) (getQ (toldT (fun j => zs.getD j 0) (fun j => ss.getD j 0)) b D) (okG (fun j => zs.getD j 0) (fun j => ss.getD j 0) b D)
      (fun i wx => GetQ base g mg v b (getL (toldT (fun j => zs.getD j 0) (fun j => ss.getD j 0)) b D i) wx ∧ Cel wx db 43 #[.pointer (some ⟨g, 0, none⟩)] ∧ Cel wx mb 62 #[.pointer (some ⟨mg, 0, none⟩)])
      (fun i wx w' hs1 hsz hk => ?_) ?_ (fun i wx _ ht hs1 => ?_) (fun i _ ht => ?_) (fun k i hk i0 i1 ht hok => ?_) (fun k i wx hk i0 i1 ht hs1 hsz => ?_)).mono ?_
    · exact ⟨hs1.1.keeps hk (by omega) (fun r hr => by have := HOw.out r hr; omega) (by omega), hs1.2.1.keeps hk (by omega), hs1.2.2.keeps hk (by omega)⟩
    · exact ⟨⟨hD1.below hb3, hm3⟩, hCd.below hb3, hCm⟩
    · rw [getL_not b D ht]; exact hs1
    · unfold okG; rw [ht]; rfl
    · have b1 := hc k hk
      have b2 := hs k hk
      have hT : toldT (fun j => zs.getD j 0) (fun j => ss.getD j 0) i = true := by rw [toldT_at (c := fun j => zs.getD j 0) (s := fun j => ss.getD j 0) hk i0 i1]; simpa using ht
      unfold okG at hok
      rw [hT, of_band hk i0 i1] at hok
      simp only [Bool.not_true, Bool.false_or, decide_eq_true_eq] at hok
      have hq := getQ_bd (T := toldT (fun j => zs.getD j 0) (fun j => ss.getD j 0)) hb hG i
      have hmo := P2_mono hok
      have := scaled_bd (q := getQ (toldT (fun j => zs.getD j 0) (fun j => ss.getD j 0)) b D i) b2.1 ht b1.2 (by omega) (by omega)
      omega
    · have b1 := hc k hk
      have b2 := hs k hk
      have he := edgeK_lt k hk
      have hT : toldT (fun j => zs.getD j 0) (fun j => ss.getD j 0) i = true := by rw [toldT_at (c := fun j => zs.getD j 0) (s := fun j => ss.getD j 0) hk i0 i1]; simpa using ht
      obtain ⟨g1, g2, g3, g4⟩ := getL_good (T := toldT (fun j => zs.getD j 0) (fun j => ss.getD j 0)) hb hG i
      have hmo := h12 k hk
      have hne := hs1.1.d.ne_mod hs1.1.m
      have hokE : okG (fun j => zs.getD j 0) (fun j => ss.getD j 0) b D i = decide (getK (toldT (fun j => zs.getD j 0) (fun j => ss.getD j 0)) b D i ≤ (zs.getD k 0 - ss.getD k 0).toNat) := by
        unfold okG; rw [hT, of_band hk i0 i1]; rfl
      refine (qLitGet_any base g mg db mb v b _ _ _ _ _ i (zs.getD k 0 - ss.getD k 0).toNat wx hs1.1 g1 g2 g3 hb hbl (by omega) (by omega) (by omega) hs1.2.1 hs1.2.2).mono ?_
      rintro e w' ⟨hk1, hor⟩
      have hCd2 := hs1.2.1.keeps hk1 (by omega)
      have hCm2 := hs1.2.2.keeps hk1 (by omega)
      refine ⟨hk1, fun hy => ?_, fun hy => ?_⟩
      · rw [hokE] at hy
        have hy2 := of_decide_eq_true hy
        rcases hor with ⟨_, rfl, hq⟩ | ⟨hx, _⟩
        · refine ⟨rfl, ?_, hCd2, hCm2⟩
          rw [getL_told b D hT]
          exact hq
        · unfold getK at hy2; omega
      · rw [hokE] at hy
        have hy2 := of_decide_eq_false hy
        rcases hor with ⟨hx, _, _⟩ | ⟨_, rfl⟩
        · unfold getK at hy2; omega
        · rfl
    · rintro e w' ⟨hk, hor⟩
      have hkk : Keeps (fun j => j = g) w w' := (Keeps.of_below hall).then_ hk fun j hj => by omega
      rcases hor with ⟨ho, r, rfl, hf, hr, _⟩ | ⟨ho, rfl⟩
      · exact ⟨⟨hkk, .inl ⟨ho, r, rfl, hf, by omega⟩⟩, _, _, rfl⟩
      · exact ⟨⟨hkk, .inr ⟨ho, rfl⟩⟩, _, _, rfl⟩
  rw [hw1, hdb] at HFs
  have hsz1 : w.heap.size ≤ (w.alloc (.cells #[.pointer (some ⟨g, 0, none⟩)] 43)).heap.size := HB.out.size
  clear h h2 hmay hr1 hr2 h12 hc hs hb hG hD HD HCd hw1 hdb
  go_enter Try.func17, Try.ntmps17
  go_wp2_with (first
    | (go_at_call 26; go_loud (refine (qMay_any _ _ _ _ _ _ _ _ _ HI.out (by decide) HI2.out (by decide)).mono ?_); rintro e1 w5 ⟨rfl, rfl⟩; rw [HMay.out])
    | (go_at_call 27; go_loud (refine (qSizes_any _).mono ?_); rintro e1 w2 ⟨mg, rfl, hg, hm, hb2⟩; have HFr := Lib.hid (HFs.out w2 mg hb2 hg hm); clear hg hm hb2)
    | (go_at_call 39; go_loud (refine HFr.out.mono ?_); rintro e1 w6 ⟨hp, y1, y2, rfl⟩; have HP := Lib.hid hp; clear hp)
    | fail)
  go_ret2
  exact HP.out
end Go.Proofs.Ytdmafololcpamaa

/- What the document's putting of lines gives. -/
namespace Go.Proofs.Ytdmafololcpamaa
open Go.RowKit
set_option linter.unusedVariables false

theorem edges_own {w : World} {B : Nat} {v : Value} (h : w.ownsRow B 3 1 v 22 (edgesL.map (Value.int .i64))) : ∃ r c, v = .slice (some ⟨r, 0, none⟩) 22 c ∧ B ≤ r ∧ r < w.heap.size ∧ ∀ k, k < 22 → w.cell? ⟨r, k, none⟩ = some (.int .i64 (edgeK k : Int)) := by
  obtain ⟨a, c, rfl⟩ := own_form h
  rcases h.2 with ⟨e, _⟩ | ⟨g, cap, cur, e, _⟩
  · cases e
  · injection e with e1
    subst e1
    refine ⟨g, c, rfl, own_base h g rfl, own_lt h g rfl, fun k hk => ?_⟩
    rw [h.cellAt k (by omega), ← edgeK_eq hk]
    unfold edgeN
    rw [List.getElem?_map, List.getElem?_eq_getElem (show k < edgesL.length from hk)]
    simp [List.getD, show k < edgesL.length from hk]
set_option maxRecDepth 100000 in
theorem ref04Edges_own (w : World) :
    Calls Try.prog 22 #[] w fun e w' => ∃ r c, e = .returned (.slice (some ⟨r, 0, none⟩) 22 c) ∧ w.heap.size ≤ r ∧ r < w'.heap.size ∧ (∀ k, k < 22 → w'.cell? ⟨r, k, none⟩ = some (.int .i64 (edgeK k : Int))) ∧ Below w.heap.size w w' := by
  have hO := Lib.hid (World.ownsRow_lit (base := w.heap.size) (e := 3) (size := 1) w #[.int .i64 0] 1 (Nat.le_refl _) (by decide) rfl)
  have hB := Lib.hid (Below.alloc_new w (.cells #[.int .i64 0] 3))
  go_enter Try.func22, Try.ntmps22
  go_wp2
  go_loopw [1, 2, 3, 4] (fun v a i _ wr => ∃ k : Nat, k ≤ 21 ∧ i = .int .i64 k ∧ a = .int .i64 (edgeN k) ∧ RowKit.Hid (wr.ownsRow w.heap.size 3 1 v (k + 1) ((edgesL.take (k + 1)).map (Value.int .i64)) ∧ Below w.heap.size w wr))
    (fun _ _ i _ _ => (21 - intOf i).toNat)
  case atStart => exact ⟨0, by omega, rfl, rfl, hO.out, hB.out⟩
  case round =>
    obtain ⟨k, hk, rfl, rfl, H⟩ := hrel
    clear hO hB
    by_cases hlt : k < 21
    · obtain ⟨e0, e1⟩ := edge_bd k (by omega)
      have HT := Lib.hid (edge_take k hlt)
      have hsz := H.out.2.size
      have cls : ∃ d : Int, 0 ≤ d ∧ d ≤ 160 ∧ edgeN (k + 1) = edgeN k + d ∧ ((k < 8 ∧ d = 4) ∨ (8 ≤ k ∧ k < 12 ∧ d = 8) ∨ (12 ≤ k ∧ k < 16 ∧ d = 16) ∨ (16 ≤ k ∧ k < 18 ∧ d = 32) ∨ (18 ≤ k ∧ k ≤ 18 ∧ d = 64) ∨ (19 ≤ k ∧ k ≤ 19 ∧ d = 96) ∨ (20 ≤ k ∧ k ≤ 20 ∧ d = 160)) := by
        by_cases h1 : k < 8
        · exact ⟨4, by omega, by omega, edge_4 k h1, .inl ⟨h1, rfl⟩⟩
        · by_cases h2 : k < 12
          · exact ⟨8, by omega, by omega, edge_8 k (by omega) h2, .inr (.inl ⟨by omega, h2, rfl⟩)⟩
          · by_cases h3 : k < 16
            · exact ⟨16, by omega, by omega, edge_16 k (by omega) h3, .inr (.inr (.inl ⟨by omega, h3, rfl⟩))⟩
            · by_cases h4 : k < 18
              · exact ⟨32, by omega, by omega, edge_32 k (by omega) h4, .inr (.inr (.inr (.inl ⟨by omega, h4, rfl⟩)))⟩
              · have : k = 18 ∨ k = 19 ∨ k = 20 := by omega
                rcases this with rfl | rfl | rfl
                · exact ⟨64, by omega, by omega, edge_last.1, by omega⟩
                · exact ⟨96, by omega, by omega, edge_last.2.1, by omega⟩
                · exact ⟨160, by omega, by omega, edge_last.2.2, by omega⟩
      obtain ⟨d, d0, d1, hd, cls⟩ := cls
      have HD := Lib.hid hd
      clear hd
      generalize edgeN k = x at e0 e1 HD
      have hrow := Lib.hid H.out.1
      have hbel := Lib.hid (H.out.2.alloc hsz (.cells #[.int .i64 (x + d)] 3))
      have hsrc := Lib.hid (lit_ints wr 3 .i64 [x + d] #[.int .i64 (x + d)] (0, 0) rfl (by simp))
      have hown0 := Lib.hid (World.ownsRow.alloc H.out.1 (.cells #[.int .i64 (x + d)] 3))
      have hob := Lib.hid (own_base H.out.1)
      rcases cls with ⟨k0, rfl⟩ | ⟨k0, k1, rfl⟩ | ⟨k0, k1, rfl⟩ | ⟨k0, k1, rfl⟩ | ⟨k0, k1, rfl⟩ | ⟨k0, k1, rfl⟩ | ⟨k0, k1, rfl⟩
      all_goals
        go_wp2_with (at_builtin; go_loud (refine append_ints rfl _ _ 26 rfl w.heap.size 3 .i64 8 Try.underlying26 info_int04 _ (k + 1) (edgesL.take (k + 1)) rfl hown0.out (some ⟨wr.heap.size, 0, none⟩) 1 1 _ [_] rfl hsrc.out (by simp) ?c1 ?c2 ?c3 ?_))
        case c1 => unfold maxLen; omega
        case c2 => omega
        case c3 => first | omega | (simp; omega)
        intro v2 w2 hown hgrow _
        have H2 : RowKit.Hid (w2.ownsRow w.heap.size 3 1 v2 (k + 1 + 1) ((edgesL.take (k + 1 + 1)).map (Value.int .i64)) ∧ Below w.heap.size w w2) := by
          refine ⟨?_, hbel.out.grown hgrow (by simp; omega) hob.out⟩
          rw [HT.out, HD.out]; simpa [List.map_take] using hown
        clear hown hgrow
        go_wp2
        go_roundw
        case rel => exact ⟨k + 1, by omega, by go_num, by rw [HD.out], H2.out⟩
        case measure => simp [intOf] <;> omega
    · obtain rfl : k = 21 := by omega
      have HI := Lib.hid (edges_own H.out.1)
      have HB := Lib.hid H.out.2
      clear H
      go_wp2
      go_ret
      obtain ⟨r, c, rfl, h1, h2, h3⟩ := HI.out
      exact ⟨r, c, rfl, h1, h2, h3, HB.out⟩

/-- What is held while the document's encoder puts lines. -/
structure RefQ (w : World) (B base g r mg mr er : Nat) (S : EncS × List Int) (wr : World) : Prop where
  e : RefSt w B base g r S.1 wr
  m : RefMod wr w.heap.size mg mr S.2 false
  d : ∀ k, k < 22 → wr.cell? ⟨er, k, none⟩ = some (.int .i64 (edgeK k : Int))
  o : mg < er ∧ mr < er ∧ er < B ∧ w.heap.size ≤ mg ∧ w.heap.size ≤ mr ∧ g < w.heap.size ∧ r < w.heap.size
section
variable {w wr w' : World} {B base g r mg mr er : Nat} {S S' : EncS × List Int}
theorem RefQ.drewN (h : RefQ w B base g r mg mr er S wr) (n : Nat) : RefQ w B base g r mg mr er S (wr.drewN n) := by
  obtain ⟨r', c', h1, h2, h3⟩ := h.e
  exact ⟨⟨r', c', h1.drewN n, h2.drewN n, h3⟩, h.m.drewN n, h.d, h.o⟩
theorem RefQ.keep (h : RefQ w B base g r mg mr er S wr) : Keeps (fun j => j = g ∨ j = r) w wr := by
  obtain ⟨r', c', h1, h2, h3⟩ := h.e
  exact h2
theorem RefQ.sym (h : RefQ w B base g r mg mr er S wr) (hG : GoodE S.1) (hL : GoodL S.2) {s : Nat} (hs : s < S.2.length) (hk : S.1.k ≤ 800000) :
    Calls Try.prog 35 #[.pointer (some ⟨g, 0, none⟩), .pointer (some ⟨mg, 0, none⟩), .int .i64 s] wr fun e w' => e = .returned (.tuple #[]) ∧ RefQ w B base g r mg mr er (encSym S.1 S.2 s, learnP S.2 s) w' := by
  obtain ⟨r', c', h1, h2, h3⟩ := h.e
  have ho := h.o
  have hs2 := h2.size
  refine (refEncSymbol_any base w.heap.size g r' c' mg mr S.1 S.2 false s wr h1 h.m hG hL hs (by omega) (by omega) (by omega) (by omega) (by omega)).mono ?_
  rintro e w2 ⟨rfl, r2, c2, k1, km, k2, k3⟩
  refine ⟨rfl, RefSt.step h2 h3 k1 (k2.mono fun j hj => by omega) k3, km, fun k hk => ?_, ho⟩
  exact (World.cell?_of_block (a := ⟨er, k, none⟩) (k2.block er (by omega) (by omega))).trans (h.d k hk)
theorem RefQ.bits (h : RefQ w B base g r mg mr er S wr) (hG : GoodE S.1) {n : Int} {wide : Nat} (n0 : 0 ≤ n) (hw24 : wide ≤ 24) (hn : n < P2 wide) (hk : S.1.k ≤ 800000) :
    Calls Try.prog 36 #[.pointer (some ⟨g, 0, none⟩), .int .i64 n, .int .i64 wide] wr fun e w' => e = .returned (.tuple #[]) ∧ RefQ w B base g r mg mr er (encBits S.1 n wide, S.2) w' := by
  obtain ⟨r', c', h1, h2, h3⟩ := h.e
  have ho := h.o
  have hs2 := h2.size
  have hp : P2 wide ≤ 16777216 := by
    have := P2_mono (a := wide) (b := 24) hw24
    rw [show P2 24 = 16777216 by decide] at this
    exact this
  have hml := h.m.lt
  refine (refEncBits_any base g r' c' S.1 n wide wr h1 hG (by omega) hw24 n0 (by omega)).mono ?_
  rintro e w2 ⟨rfl, r2, c2, k1, k2, k3⟩
  refine ⟨rfl, RefSt.step h2 h3 k1 (k2.mono fun j hj => by omega) k3, h.m.keeps k2 (by omega) (by omega), fun k hk => ?_, ho⟩
  exact (World.cell?_of_block (a := ⟨er, k, none⟩) (k2.block er (by omega) (by omega))).trans (h.d k hk)
end

set_option maxHeartbeats 1000000 in
set_option maxRecDepth 100000 in
theorem refPutLines_any (base g r c : Nat) (E : EncS) (lb lo lcap : Nat) (x : Nat → Int) (a a2 : Option Addr) (cap cap2 : Nat) (zs ss : List Int) (w : World) (hE : EncMem w base g r c (digL E.n (E.k + 4)) E.s E.k) (hG : GoodE E) (hk : E.k ≤ 600000)
    (hlb : lb < w.heap.size) (hx : ∀ i, i < 512 → w.cell? ⟨lb, lo + i, none⟩ = some (.int .i64 (x i))) (hxb : ∀ i, i < 512 → -2147483648 ≤ x i ∧ x i ≤ 2147483647) (hne : lb ≠ g ∧ lb ≠ r)
    (h : IntsAt w w.heap.size .i64 a 21 zs) (h2 : IntsAt w w.heap.size .i64 a2 21 ss) (hmay : mayQ zs ss = true) (hn1 : ∀ b off, a = some ⟨b, off, none⟩ → b ≠ g ∧ b ≠ r) (hn2 : ∀ b off, a2 = some ⟨b, off, none⟩ → b ≠ g ∧ b ≠ r) :
    Calls Try.prog 13 #[.pointer (some ⟨g, 0, none⟩), .slice (some ⟨lb, lo, none⟩) 512 lcap, .slice a 21 cap, .slice a2 21 cap2] w
      (EncPost base g r (putL (toldT (fun j => zs.getD j 0) (fun j => ss.getD j 0)) (lineQ x (fun j => zs.getD j 0) (fun j => ss.getD j 0)) E 512).1 w) := by
  obtain ⟨hr1, hr2, h12⟩ := mayQ_true hmay
  have HI := Lib.hid h
  have HI2 := Lib.hid h2
  have HN1 := Lib.hid hn1
  have HN2 := Lib.hid hn2
  have HC := Lib.hid (rightB_true hr1).2
  have HSt := Lib.hid (rightB_true hr2).2
  have H12 := Lib.hid h12
  have HE := Lib.hid hE
  have HX := Lib.hid hx
  have HXb := Lib.hid hxb
  have hgl := hE.lt
  obtain ⟨T, hT⟩ : ∃ T, T = toldT (fun j => zs.getD j 0) (fun j => ss.getD j 0) := ⟨_, rfl⟩
  obtain ⟨Q, hQ⟩ : ∃ Q, Q = lineQ x (fun j => zs.getD j 0) (fun j => ss.getD j 0) := ⟨_, rfl⟩
  have HT : RowKit.Hid (∀ b i, b < 21 → edgeK b ≤ i → i < edgeK (b + 1) → T i = decide (ss.getD b 0 < zs.getD b 0)) := fun b i hb h0 h1 => by rw [hT]; exact toldT_at hb h0 h1
  have HQ : RowKit.Hid (∀ b i, b < 21 → edgeK b ≤ i → i < edgeK (b + 1) → Q i = numQ (x i) (ss.getD b 0) (zs.getD b 0)) := fun b i hb h0 h1 => by rw [hQ]; exact lineQ_at hb h0 h1
  have HQb : RowKit.Hid (∀ i, -4095 ≤ Q i ∧ Q i ≤ 4095) := fun i => by rw [hQ]; exact lineQ_bd h12 i
  rw [← hT, ← hQ]
  have HPg : RowKit.Hid (∀ n, GoodE (putL T Q E n).1 ∧ GoodL (putL T Q E n).2 ∧ (putL T Q E n).2.length = 13 ∧ (putL T Q E n).1.k ≤ E.k + 10 * n) := putL_good hG HQb.out
  have HPt : RowKit.Hid (∀ n, T n = true → putL T Q E (n + 1) = (putX (putL T Q E n).1 (putL T Q E n).2 (Q n), learnP (putL T Q E n).2 (bitsI (Q n)))) := fun n h => putL_told Q E h
  have HPs : RowKit.Hid (∀ b, b < 21 → ¬ ss.getD b 0 < zs.getD b 0 → putL T Q E (edgeK (b + 1)) = putL T Q E (edgeK b)) := fun b hb hn => putL_skip Q E (by have := edgeK_lt b hb; omega) fun i h0 h1 => by rw [HT.out b i hb h0 h1]; simpa using hn
  have HP0 : RowKit.Hid (putL T Q E (edgeK 0) = (E, List.replicate 13 1)) := rfl
  have HPe : RowKit.Hid (putL T Q E (edgeK 21) = putL T Q E 512) := rfl
  generalize putL T Q E = P at HPg HPt HPs HP0 HPe ⊢
  obtain ⟨L0, hL0⟩ : ∃ L0 : List Int, L0 = List.replicate 13 1 := ⟨_, rfl⟩
  have HNew : RowKit.Hid (Calls Try.prog 32 #[.int .i64 13] w fun e w' => ∃ g r, e = .returned (.tuple #[.pointer (some ⟨g, 0, none⟩), .bool true]) ∧ RefMod w' w.heap.size g r L0 false ∧ Below w.heap.size w w') := by rw [hL0]; exact refNew_any 13 w (by decide) (by decide)
  rw [← hL0] at HP0
  clear hE hG hT hQ h h2 hmay hr1 hr2 h12 hx hxb hL0 hn1 hn2
  go_enter Try.func13, Try.ntmps13
  go_wp2_with (first
    | (go_at_call 32; refine HNew.out.mono ?_; rintro e1 w1 ⟨mg, mr, rfl, hm, hb⟩; have HM1 := Lib.hid hm; have HB1 := Lib.hid hb; clear hm hb)
    | (go_at_call 22; go_loud (refine (ref04Edges_own w1).mono ?_); rintro e1 w2 ⟨er, ec, rfl, he0, he1, hed, hb⟩; have HEd := Lib.hid hed; have HB2 := Lib.hid (chain HB1.out hb); have HM2 := Lib.hid (HM1.out.below hb); clear hed hb))
  have hml := HM1.out.lt
  have hs1 := HB1.out.size
  have hs2 := HB2.out.size
  have H0 : RowKit.Hid (RefQ w w2.heap.size base g r mg mr er (P (edgeK 0)) w2) := by rw [HP0.out]; exact ⟨RefSt.start HE.out HB2.out, HM2.out, HEd.out, by omega⟩
  clear HM1 HB1 HM2 HP0 HE HNew HEd
  generalize w2.heap.size = B at H0
  go_loopw [11] (fun i wr => ∃ k : Nat, k ≤ 21 ∧ i = .int .i64 (k : Int) ∧ RowKit.Hid (RefQ w B base g r mg mr er (P (edgeK k)) wr)) (fun i _ => 21 - (intOf i).toNat)
  case atStart => exact ⟨0, by omega, rfl, H0.out⟩
  case round =>
    obtain ⟨k, hk, rfl, H⟩ := hrel
    clear H0
    by_cases hlt : k < 21
    · obtain ⟨zb, zo, rfl, hzb, _, _⟩ := HI.out.at_ hlt
      obtain ⟨sb, so, rfl, hsb, _, _⟩ := HI2.out.at_ hlt
      obtain ⟨nz1, nz2⟩ := HN1.out _ _ rfl
      obtain ⟨ns1, ns2⟩ := HN2.out _ _ rfl
      have HZc : RowKit.Hid (∀ wx, Keeps (fun j => j = g ∨ j = r) w wx → wx.cell? ⟨zb, zo + k, none⟩ = some (.int .i64 (zs.getD k 0)) ∧ wx.cell? ⟨sb, so + k, none⟩ = some (.int .i64 (ss.getD k 0))) := fun wx hkx => by
        obtain ⟨b1, o1, e1, _, _, c1⟩ := HI.out.at_ hlt
        obtain ⟨b2, o2, e2, _, _, c2⟩ := HI2.out.at_ hlt
        injection e1 with e1
        injection e1 with e1 e1'
        injection e2 with e2
        injection e2 with e2 e2'
        subst e1; subst e1'; subst e2; subst e2'
        exact ⟨(World.cell?_of_block (a := ⟨zb, zo + k, none⟩) (hkx.block zb hzb (by omega))).trans c1, (World.cell?_of_block (a := ⟨sb, so + k, none⟩) (hkx.block sb hsb (by omega))).trans c2⟩
      obtain ⟨c0, c1⟩ := HC.out k hlt
      obtain ⟨s0, s1⟩ := HSt.out k hlt
      have cs := H12.out k hlt
      obtain ⟨ed1, ed2⟩ := edgeK_lt k hlt
      have d1 := H.out.d k (by omega)
      have HTk : RowKit.Hid (∀ i, edgeK k ≤ i → i < edgeK (k + 1) → T i = decide (ss.getD k 0 < zs.getD k 0)) := fun i => HT.out k i hlt
      have HQk : RowKit.Hid (∀ i, edgeK k ≤ i → i < edgeK (k + 1) → Q i = numQ (x i) (ss.getD k 0) (zs.getD k 0)) := fun i => HQ.out k i hlt
      have HPk := Lib.hid (HPs.out k hlt)
      generalize zs.getD k 0 = c at c0 c1 cs HTk HQk HPk HZc
      generalize ss.getD k 0 = s at s0 s1 cs HTk HQk HPk HZc
      obtain ⟨B2, hB⟩ : ∃ B2, B2 = edgeK (k + 1) := ⟨_, rfl⟩
      have HDk : RowKit.Hid (∀ S wx, RefQ w B base g r mg mr er S wx → wx.cell? ⟨er, k + 1, none⟩ = some (.int .i64 (B2 : Int))) := fun S wx hx => by rw [hB]; exact hx.d (k + 1) (by omega)
      rw [← hB] at ed1 ed2 HTk HQk HPk
      have HBk := Lib.hid hB
      clear hB
      generalize edgeK k = A at d1 ed1 HTk HQk HPk H
      have l0 : (k : Int) < 21 := by omega
      have uk : IntKind.i64.wrap ((k : Int) + 1) = (k : Int) + 1 := IntWalk.i64_in _ (by omega)
      by_cases htd : s < c
      · have HTk2 : RowKit.Hid (∀ i, A ≤ i → i < B2 → T i = true) := fun i h0 h1 => by rw [HTk.out i h0 h1]; simpa using htd
        obtain ⟨n, hn⟩ : ∃ n, n = B2 - A := ⟨_, rfl⟩
        have e2 : B2 = A + n := by omega
        have hn512 : A + n ≤ 512 := by omega
        have HXl : RowKit.Hid (∀ m, m < n → -2147483648 ≤ x (A + m) ∧ x (A + m) ≤ 2147483647) := fun m hm => HXb.out _ (by omega)
        have HQm : RowKit.Hid (∀ m, m < n → Q (A + m) = numQ (x (A + m)) s c) := fun m hm => HQk.out (A + m) (by omega) (by omega)
        have HPm : RowKit.Hid (∀ m, m < n → P (A + m + 1) = (putX (P (A + m)).1 (P (A + m)).2 (Q (A + m)), learnP (P (A + m)).2 (bitsI (Q (A + m))))) := fun m hm => HPt.out _ (HTk2.out (A + m) (by omega) (by omega))
        have HEnd : RowKit.Hid (edgeK (k + 1) = A + n) := by show _ = _; rw [← HBk.out]; exact e2
        clear HPk HTk HTk2 HQk HBk hn ed2
        go_wp2
        go_loopw [12] (fun i wx => ∃ m : Nat, m ≤ n ∧ i = .int .i64 ((A + m : Nat) : Int) ∧ RowKit.Hid (RefQ w B base g r mg mr er (P (A + m)) wx)) (fun i _ => A + n - (intOf i).toNat)
        case atStart => exact ⟨0, by omega, rfl, H.out⟩
        case round =>
          obtain ⟨m, hm, rfl, G⟩ := hrel
          clear H d1
          have d2 := HDk.out _ _ G.out
          obtain ⟨z1, z2⟩ := HZc.out _ G.out.keep
          obtain ⟨I, hI⟩ : ∃ I, I = A + m := ⟨_, rfl⟩
          rw [← hI] at G ⊢
          by_cases hmn : m < n
          · obtain ⟨x0, x1⟩ := HXl.out m hmn
            have hq := HQb.out (A + m)
            have HQe := Lib.hid (HQm.out m hmn)
            have HPn := Lib.hid (HPm.out m hmn)
            obtain ⟨pg1, pg2, pg3, pg4⟩ := HPg.out (A + m)
            have HCl : RowKit.Hid (∀ wx, Keeps (fun j => j = g ∨ j = r) w wx → wx.cell? ⟨lb, lo + I, none⟩ = some (.int .i64 (x I))) := fun wx hkx => (World.cell?_of_block (a := ⟨lb, lo + I, none⟩) (hkx.block lb hlb (by omega))).trans (HX.out I (by omega))
            rw [← hI] at x0 x1 hq HQe HPn pg1 pg2 pg3 pg4
            have hpk : (P I).1.k ≤ 700000 := by omega
            have HI1 : RowKit.Hid (I + 1 = A + (m + 1)) := by show _ = _; omega
            have HIE : RowKit.Hid (I < A + n) := by show _ < _; omega
            have i1 : I < 512 := by omega
            have l1 : (I : Int) < (B2 : Int) := by omega
            have HNr : RowKit.Hid (∀ wx, Calls Try.prog 33 #[.int .i64 (x I), .int .i64 s, .int .i64 (c - s)] wx fun e w' => e = .returned (.int .i64 (Q I)) ∧ w' = wx) := fun wx => (refNear_any (x I) s c (c - s) wx s0 (by omega) htd cs rfl x0 x1).mono fun _ _ h => ⟨by rw [HQe.out]; exact h.1, h.2.symm⟩
            generalize P I = S at G pg1 pg2 pg3 pg4 hpk HPn
            rw [HI1.out] at HPn
            clear hI pg4
            generalize x I = z at HCl HNr
            generalize Q I = y at hq HPn HNr
            have u1 : IntKind.i64.wrap (c - s) = c - s := IntWalk.i64_in _ (by omega)
            clear e2 hn512
            go_wp2
            go_quiet (fail)
            have G2 := Lib.hid (G.out.drewN nq)
            clear z1 z2 d2
            generalize wr.drewN nq = wa at G2 ⊢
            obtain ⟨z1, z2⟩ := HZc.out _ G2.out.keep
            have z3 := HCl.out _ G2.out.keep
            go_wp2
            go_quiet (first | (go_at_call 33; exact Calls.quiet_of_same (HNr.out _)))
            have G3 := Lib.hid (G2.out.drewN nq)
            clear z1 z2 z3 G2
            generalize wa.drewN nq = wb at G3 ⊢
            have hb12 := bits_12 hq
            have hbl : bitsI y < S.2.length := by omega
            have g1 := encSym_good pg1 pg2 hbl
            have k1 := encSym_k S.1 S.2 (bitsI y)
            have HS : RowKit.Hid (∀ wx, RefQ w B base g r mg mr er S wx → Calls Try.prog 35 #[.pointer (some ⟨g, 0, none⟩), .pointer (some ⟨mg, 0, none⟩), .int .i64 (bitsI y)] wx fun e w' => e = .returned (.tuple #[]) ∧ RefQ w B base g r mg mr er (encSym S.1 S.2 (bitsI y), learnP S.2 (bitsI y)) w') := fun wx hx => hx.sym pg1 pg2 hbl (by omega)
            have HBt0 : RowKit.Hid (∀ wx, Calls Try.prog 34 #[.int .i64 y] wx fun e w' => e = .returned (.int .i64 (bitsI y)) ∧ wx = w') := fun wx => refBits_any y wx (by omega) (by omega)
            by_cases hq0 : y = 0
            · have HE := Lib.hid (putX_none S.1 S.2 hq0)
              rw [HE.out] at HPn
              generalize encSym S.1 S.2 (bitsI y) = E1 at HS HPn
              generalize learnP S.2 (bitsI y) = L1 at HS HPn
              subst hq0
              have HSz : RowKit.Hid (∀ wx, RefQ w B base g r mg mr er S wx → Calls Try.prog 35 #[.pointer (some ⟨g, 0, none⟩), .pointer (some ⟨mg, 0, none⟩), .int .i64 0] wx fun e w' => e = .returned (.tuple #[]) ∧ RefQ w B base g r mg mr er (E1, L1) w') := HS.out
              have HBt : RowKit.Hid (∀ wx, Calls Try.prog 34 #[.int .i64 0] wx fun e w' => e = .returned (.int .i64 0) ∧ wx = w') := HBt0.out
              clear hq hb12 hbl g1 k1 HE HS HBt0 HNr
              go_wp2_with (first
                | (go_at_call 34; refine (HBt.out _).mono ?_; rintro e1 w5 ⟨rfl, rfl⟩)
                | (go_at_call 35; refine (HSz.out _ G3.out).mono ?_; rintro e1 w6 ⟨rfl, hp⟩; have HP3 := Lib.hid hp; rw [← HPn.out] at HP3; clear hp)
                | fail)
              go_roundw
              case rel => exact ⟨m + 1, by omega, by rw [← HI1.out]; go_num, HP3.out⟩
              case measure => have := HIE.out; simp [intOf] <;> omega
            · have HE := Lib.hid (putX_some S.1 S.2 hq0)
              obtain ⟨lw0, lw1⟩ := lowQ_bd hq0
              have hn0 : bitsI y ≠ 0 := fun e => hq0 (bits_none.1 e)
              obtain ⟨j, hj⟩ : ∃ j, bitsI y = j + 1 := ⟨bitsI y - 1, by omega⟩
              have hj11 : j ≤ 11 := by omega
              obtain ⟨mm, hmm⟩ : ∃ mm : Int, (y.natAbs : Int) = mm := ⟨_, rfl⟩
              have hm1 : 1 ≤ mm := by omega
              have hm2 : mm ≤ 4095 := by omega
              have hlow : mm - P2 j = lowQ y := by unfold lowQ; rw [hmm, hj]; rfl
              have HBl : RowKit.Hid (∀ w3, RefQ w B base g r mg mr er (encBits (encSym S.1 S.2 (bitsI y)) (signQ y) 1, learnP S.2 (bitsI y)) w3 → Calls Try.prog 36 #[.pointer (some ⟨g, 0, none⟩), .int .i64 (lowQ y), .int .i64 j] w3 fun e w' => e = .returned (.tuple #[]) ∧ RefQ w B base g r mg mr er (putX S.1 S.2 y, learnP S.2 (bitsI y)) w') := fun w3 h3 => by
                rw [HE.out]
                have k2 := encBits_k (encSym S.1 S.2 (bitsI y)) (signQ y) (wide := 1) (by decide)
                rw [hj, show j + 1 - 1 = j by omega] at lw1 ⊢
                rw [hj] at h3 g1 k1 k2
                exact h3.bits (encBits_good (n := signQ y) (wide := 1) g1 (by decide)) lw0 (by omega) lw1 (by simp only; omega)
              have HBs : RowKit.Hid (∀ w3, RefQ w B base g r mg mr er (encSym S.1 S.2 (bitsI y), learnP S.2 (bitsI y)) w3 → Calls Try.prog 36 #[.pointer (some ⟨g, 0, none⟩), .int .i64 (signQ y), .int .i64 1] w3 fun e w' => e = .returned (.tuple #[]) ∧ RefQ w B base g r mg mr er (encBits (encSym S.1 S.2 (bitsI y)) (signQ y) 1, learnP S.2 (bitsI y)) w') := fun w3 h3 =>
                h3.bits (wide := 1) g1 (signQ_bd y).1 (by decide) (by rw [show P2 1 = 2 by decide]; have := (signQ_bd y).2; omega) (by simp only; omega)
              have HSj : RowKit.Hid (∀ wx, RefQ w B base g r mg mr er S wx → Calls Try.prog 35 #[.pointer (some ⟨g, 0, none⟩), .pointer (some ⟨mg, 0, none⟩), .int .i64 ((j : Int) + 1)] wx fun e w' => e = .returned (.tuple #[]) ∧ RefQ w B base g r mg mr er (encSym S.1 S.2 (bitsI y), learnP S.2 (bitsI y)) w') := by
                have := HS.out
                rw [show ((bitsI y : Nat) : Int) = (j : Int) + 1 by omega] at this
                exact this
              have HBt : RowKit.Hid (∀ wx, Calls Try.prog 34 #[.int .i64 y] wx fun e w' => e = .returned (.int .i64 ((j : Int) + 1)) ∧ wx = w') := by
                have := HBt0.out
                rw [show ((bitsI y : Nat) : Int) = (j : Int) + 1 by omega] at this
                exact this
              have HPw : RowKit.Hid (∀ wx, Calls Try.prog 37 #[.int .i64 (j : Int)] wx fun e w' => e = .returned (.int .i64 (P2 j)) ∧ wx = w') := fun wx => ref10Power_any j wx (by omega)
              have p0 := P2_pos j
              have p1 := P2_12 (k := j) (by omega)
              have hsg : (y < 0 → signQ y = 1) ∧ (¬ y < 0 → signQ y = 0) := ⟨fun h => if_pos h, fun h => if_neg h⟩
              rw [hj, show j + 1 - 1 = j by omega] at lw1
              clear hb12 hbl g1 k1 HE HS hj hn0 HBt0 HNr pg1 pg2 pg3 hpk
              generalize encBits (encSym S.1 S.2 (bitsI y)) (signQ y) 1 = E2 at HBs HBl
              generalize encSym S.1 S.2 (bitsI y) = E1 at HBs HSj
              generalize putX S.1 S.2 y = E3 at HBl HPn
              generalize learnP S.2 (bitsI y) = L1 at HBs HBl HSj HPn
              generalize lowQ y = lw at lw0 lw1 hlow HBl
              generalize signQ y = sg at hsg HBs
              generalize P2 j = p at p0 p1 lw1 hlow HPw
              have u6 : IntKind.i64.wrap (mm - p) = lw := by rw [hlow]; exact IntWalk.i64_in _ (by omega)
              have u7 : IntKind.i64.wrap ((j : Int) + 1 - 1) = (j : Int) := by rw [show (j : Int) + 1 - 1 = j by omega]; exact IntWalk.i64_in _ (by omega)
              have hz : decide (0 < (j : Int) + 1) = true := decide_eq_true (by omega)
              clear hlow
              by_cases hneg : y < 0
              · obtain rfl := hsg.1 hneg
                have u2 : IntKind.i64.wrap (-y) = mm := by rw [show -y = mm by omega]; exact IntWalk.i64_in _ (by omega)
                have d1 : decide (y < 0) = true := by simp; omega
                clear hmm hsg hneg hq0 hq
                go_wp2_with (first
                  | (go_at_call 34; refine (HBt.out _).mono ?_; rintro e1 w5 ⟨rfl, rfl⟩)
                  | (go_at_call 35; refine (HSj.out _ G3.out).mono ?_; rintro e1 w6 ⟨rfl, hp⟩; have HP := Lib.hid hp; clear hp)
                  | (go_at_call 37; refine (HPw.out _).mono ?_; rintro e1 w9 ⟨rfl, rfl⟩)
                  | (go_at_call 36; have hx := HP2.out; refine (HBl.out _ hx).mono ?_; rintro e1 w8 ⟨rfl, hp⟩; have HP3 := Lib.hid hp; rw [← HPn.out] at HP3; clear hp hx HP2)
                  | (go_at_call 36; refine (HBs.out _ HP.out).mono ?_; rintro e1 w7 ⟨rfl, hp⟩; have HP2 := Lib.hid hp; clear hp)
                  | fail)
                go_roundw
                case rel => exact ⟨m + 1, by omega, by rw [← HI1.out]; go_num, HP3.out⟩
                case measure => have := HIE.out; simp [intOf] <;> omega
              · obtain rfl := hsg.2 hneg
                obtain rfl : y = mm := by omega
                have d1 : decide (y < 0) = false := by simp; omega
                clear hmm hsg hneg hq0 hq
                go_wp2_with (first
                  | (go_at_call 34; refine (HBt.out _).mono ?_; rintro e1 w5 ⟨rfl, rfl⟩)
                  | (go_at_call 35; refine (HSj.out _ G3.out).mono ?_; rintro e1 w6 ⟨rfl, hp⟩; have HP := Lib.hid hp; clear hp)
                  | (go_at_call 37; refine (HPw.out _).mono ?_; rintro e1 w9 ⟨rfl, rfl⟩)
                  | (go_at_call 36; have hx := HP2.out; refine (HBl.out _ hx).mono ?_; rintro e1 w8 ⟨rfl, hp⟩; have HP3 := Lib.hid hp; rw [← HPn.out] at HP3; clear hp hx HP2)
                  | (go_at_call 36; refine (HBs.out _ HP.out).mono ?_; rintro e1 w7 ⟨rfl, hp⟩; have HP2 := Lib.hid hp; clear hp)
                  | fail)
                go_roundw
                case rel => exact ⟨m + 1, by omega, by rw [← HI1.out]; go_num, HP3.out⟩
                case measure => have := HIE.out; simp [intOf] <;> omega
          · obtain rfl : m = n := by omega
            have Z : RowKit.Hid (RefQ w B base g r mg mr er (P (edgeK (k + 1))) wr) := by rw [HEnd.out, ← hI]; exact G.out
            have hI512 : I ≤ 512 := by omega
            have l1 : ¬ (I : Int) < (B2 : Int) := by omega
            have l2 : ¬ I < B2 := by omega
            have l3 : decide (I < B2) = false := by simp; omega
            have l4 : decide ((I : Int) < (B2 : Int)) = false := by simp; omega
            have l5 : ((I : Int) < (B2 : Int)) = False := by simp; omega
            clear hI e2 hn512 hmn hm
            go_wp2
            go_quiet (fail)
            have Z2 := Lib.hid (Z.out.drewN nq)
            go_wp2
            go_roundw
            case rel => exact ⟨k + 1, by omega, by go_num, Z2.out⟩
            case measure => simp [intOf] <;> omega
      · have HPn : RowKit.Hid (P (edgeK (k + 1)) = P A) := by show _ = _; rw [← HBk.out]; exact HPk.out (by omega)
        have l1 : (A : Int) < (B2 : Int) := by omega
        clear HPk
        go_wp2
        go_loopw [12] (fun i wx => i = .int .i64 (A : Int) ∧ RowKit.Hid (RefQ w B base g r mg mr er (P A) wx)) (fun i _ => 0)
        case atStart => exact ⟨rfl, H.out⟩
        case round =>
          obtain ⟨rfl, G⟩ := hrel
          clear H d1
          obtain ⟨z1, z2⟩ := HZc.out _ G.out.keep
          have d2 := HDk.out _ _ G.out
          go_wp2
          go_quiet (fail)
          go_wp2
          have HT := Lib.hid (G.out.drewN nq)
          go_roundw
          case rel => exact ⟨k + 1, by omega, by go_num, by rw [HPn.out]; exact HT.out⟩
          case measure => simp [intOf] <;> omega
    · obtain rfl : k = 21 := by omega
      have HK := Lib.hid H.out
      rw [HPe.out] at HK
      have Z := Lib.hid HK.out.e.post
      go_wp2
      go_end0
      exact Z.out
end Go.Proofs.Ytdmafololcpamaa

/- The walk of EnergyCeilings. -/
namespace Go.Proofs.Ytdmafololcpamaa
open Go.RowKit
set_option linter.unusedVariables false

/-- The lines that the law makes. -/
def linE (zs : List Int) (len i : Nat) : Int := if len = 0 then 0 else zs.getD (i % len) 0 / 2 ^ (i / len % 7)
theorem linE_bd {zs : List Int} (h : ∀ j, -2147483648 ≤ zs.getD j 0 ∧ zs.getD j 0 ≤ 2147483647) (len i : Nat) : -2147483648 ≤ linE zs len i ∧ linE zs len i ≤ 2147483647 := by
  unfold linE; split
  · decide
  · obtain ⟨h0, h1⟩ := h (i % len)
    have hp : (1 : Int) ≤ 2 ^ (i / len % 7) := Int.le_of_lt_add_one (by have := Int.pow_pos (n := 2) (m := i / len % 7) (by decide); omega)
    generalize (2 : Int) ^ (i / len % 7) = p at hp
    constructor
    · rw [Int.le_ediv_iff_mul_le (by omega)]
      have := Int.mul_le_mul_of_nonneg_left hp (show (0 : Int) ≤ 2147483648 by decide)
      omega
    · have := Int.ediv_le_self (a := zs.getD (i % len) 0) p
      by_cases hz : 0 ≤ zs.getD (i % len) 0
      · have := this hz; omega
      · have : zs.getD (i % len) 0 / p < 0 := Int.ediv_neg_of_neg_of_pos (by omega) (by omega)
        omega
theorem sizeE_alloc (w : World) (o : Obj) : (w.alloc o).heap.size = w.heap.size + 1 := Array.size_push _
theorem infoE_i64 : (Try.prog.info? 2).map (fun i => (i.zero, i.size, i.bytes)) = some (some (.int .i64 0), 1, 8) := by kernel_rfl
end Go.Proofs.Ytdmafololcpamaa

/- What the document's getting of lines gives. -/
namespace Go.Proofs.Ytdmafololcpamaa
open Go.RowKit
set_option linter.unusedVariables false

/-- What is held while the document's decoder gets lines. -/
structure GotL (w : World) (B base g mg mr er : Nat) (v : Value) (b : List Int) (S : DecS × List Int) (u : Value) (k : Nat) (V : Nat → Int) (wr : World) : Prop where
  d : DecMem wr base g v b S.1
  m : RefMod wr w.heap.size mg mr S.2 false
  e : ∀ j, j < 22 → wr.cell? ⟨er, j, none⟩ = some (.int .i64 (edgeK j : Int))
  i : wr.ownsRow B 2 1 u k ((tabF k V).map (Value.int .i64))
  k : Keeps (fun j => j = g) w wr
  o : mg < er ∧ mr < er ∧ er < B ∧ w.heap.size ≤ mg ∧ w.heap.size ≤ mr ∧ g < w.heap.size ∧ B ≤ wr.heap.size
  v : ∀ j, v.ownBlock = some j → j < w.heap.size
section
variable {w wr w' : World} {B base g mg mr er k : Nat} {v u : Value} {b : List Int} {S : DecS × List Int} {V : Nat → Int}
theorem GotL.drewN (h : GotL w B base g mg mr er v b S u k V wr) (n : Nat) : GotL w B base g mg mr er v b S u k V (wr.drewN n) :=
  ⟨h.d.drewN n, h.m.drewN n, h.e, own_drewN h.i n, h.k.drewN n, h.o, h.v⟩
theorem GotL.alloc (h : GotL w B base g mg mr er v b S u k V wr) (o : Obj) : GotL w B base g mg mr er v b S u k V (wr.alloc o) := by
  have hb := Below.alloc_new wr o
  have ho := h.o
  have hs := h.k.size
  exact ⟨h.d.below hb, h.m.below hb, fun j hj => (hb.cell (p := ⟨er, j, none⟩) (by show er < _; omega)).trans (h.e j hj), World.ownsRow.alloc h.i o, h.k.alloc o, by have := hb.size; omega, h.v⟩
theorem GotL.app (h : GotL w B base g mg mr er v b S u k V wr) {u' : Value} (ho : w'.ownsRow B 2 1 u' (k + 1) ((tabF (k + 1) V).map (Value.int .i64))) (hg : wr.grownBy w' u.ownBlock) : GotL w B base g mg mr er v b S u' (k + 1) V w' := by
  have hb := h.o
  have hk : Keeps (fun j => u.ownBlock = some j) wr w' := Keeps.of_grown hg fun _ h => h
  have hob := own_base h.i
  have hs := hk.size
  have hsw := h.k.size
  exact ⟨h.d.keeps hk (fun c => by have := hob g c; omega) (fun j hj c => by have := hob j c; have := h.v j hj; omega), h.m.keeps hk (fun c => by have := hob mg c; omega) (fun c => by have := hob mr c; omega),
    fun j hj => (World.cell?_of_block (a := ⟨er, j, none⟩) (hk.block er (by omega) (fun c => by have := hob er c; omega))).trans (h.e j hj), ho,
    h.k.then_ hk (fun j hj => .inr (by have := hob j hj; omega)), by omega, h.v⟩
theorem GotL.sym (h : GotL w B base g mg mr er v b S u k V wr) (hG : GoodD S.1) (hL : GoodL S.2) (hb : ∀ j, 0 ≤ byteF b j ∧ byteF b j ≤ 255) (hbl : b.length ≤ 1000000) (hi : S.1.i ≤ 5000000) :
    Calls Try.prog 46 #[.pointer (some ⟨g, 0, none⟩), .pointer (some ⟨mg, 0, none⟩)] wr fun e w' => e = .returned (.int .i64 (decWhich S.1 S.2)) ∧ GotL w B base g mg mr er v b (decSym b S.1 S.2, learnP S.2 (decWhich S.1 S.2)) u k V w' := by
  have ho := h.o
  have hs := h.k.size
  refine (refDecSymbol_any base w.heap.size g v b S.1 mg mr S.2 wr h.d hb hbl hi h.m hG hL (by omega) (by omega) (fun j hj => by have := h.v j hj; omega)).mono ?_
  rintro e w2 ⟨rfl, k1, km, k2⟩
  have hs2 := k2.size
  exact ⟨rfl, k1, km, fun j hj => (World.cell?_of_block (a := ⟨er, j, none⟩) (k2.block er (by omega) (by omega))).trans (h.e j hj), own_keeps h.i k2 (fun j hj => by have := own_base h.i j hj; omega), h.k.then_ k2 (fun j hj => by omega), by omega, h.v⟩
theorem GotL.bits (h : GotL w B base g mg mr er v b S u k V wr) (hG : GoodD S.1) (hb : ∀ j, 0 ≤ byteF b j ∧ byteF b j ≤ 255) (hbl : b.length ≤ 1000000) (hi : S.1.i ≤ 4000000) {n : Nat} (hn : n ≤ 24) :
    Calls Try.prog 47 #[.pointer (some ⟨g, 0, none⟩), .int .i64 (n : Int)] wr fun e w' => e = .returned (.int .i64 (decBits b S.1 0 n).1) ∧ GotL w B base g mg mr er v b ((decBits b S.1 0 n).2, S.2) u k V w' := by
  have ho := h.o
  have hs := h.k.size
  have hml := h.m.lt
  refine (refDecBits_any base g v b S.1 n wr h.d hb hbl hi hG hn).mono ?_
  rintro e w2 ⟨rfl, k1, k2⟩
  have hs2 := k2.size
  exact ⟨rfl, k1, h.m.keeps k2 (by omega) (by omega), fun j hj => (World.cell?_of_block (a := ⟨er, j, none⟩) (k2.block er (by omega) (by omega))).trans (h.e j hj), own_keeps h.i k2 (fun j hj => by have := own_base h.i j hj; omega), h.k.then_ k2 (fun j hj => by omega), by omega, h.v⟩
end
def GotPostL (g : Nat) (c s : Nat → Int) (b : List Int) (D : DecS) (seed : Int) (w : World) (e : Ending) (w' : World) : Prop :=
  Keeps (fun j => j = g) w w' ∧ (((∀ i, i < 512 → okG c s b D i = true) ∧ ∃ a cp, e = .returned (.tuple #[.slice a 512 cp, .bool true]) ∧ IntsAt w' w'.heap.size .i64 a 512 (tabF 512 (outF c s (getQ (toldT c s) b D) seed))) ∨
    ((∃ i, i < 512 ∧ okG c s b D i = false) ∧ e = .returned (.tuple #[.slice none 0 0, .bool false])))

set_option maxHeartbeats 2000000 in
set_option maxRecDepth 100000 in
theorem refGetLines_any (base g : Nat) (v : Value) (b : List Int) (D : DecS) (a a2 : Option Addr) (cap cap2 : Nat) (zs ss : List Int) (seed : Int) (w : World) (hD : DecMem w base g v b D) (hG : GoodD D) (hb : ∀ j, 0 ≤ byteF b j ∧ byteF b j ≤ 255) (hbl : b.length ≤ 1000000) (hi : D.i ≤ 1000000)
    (h : IntsAt w w.heap.size .i64 a 21 zs) (h2 : IntsAt w w.heap.size .i64 a2 21 ss) (hmay : mayQ zs ss = true) (sd0 : 0 ≤ seed) (sd1 : seed ≤ 4294967295) (hn1 : ∀ r off, a = some ⟨r, off, none⟩ → r ≠ g) (hn2 : ∀ r off, a2 = some ⟨r, off, none⟩ → r ≠ g) :
    Calls Try.prog 19 #[.pointer (some ⟨g, 0, none⟩), .slice a 21 cap, .slice a2 21 cap2, .int .u32 seed] w (GotPostL g (fun j => zs.getD j 0) (fun j => ss.getD j 0) b D seed w) := by
  obtain ⟨hr1, hr2, h12⟩ := mayQ_true hmay
  have HI := Lib.hid h
  have HI2 := Lib.hid h2
  have HN1 := Lib.hid hn1
  have HN2 := Lib.hid hn2
  have HC := Lib.hid (rightB_true hr1).2
  have HSs := Lib.hid (rightB_true hr2).2
  have H12 := Lib.hid h12
  have HBy := Lib.hid hb
  have HD := Lib.hid hD
  have hgl := hD.1.lt
  have HOw : RowKit.Hid (∀ r, v.ownBlock = some r → r < w.heap.size) := fun r hr => own_lt hD.2.1 r hr
  obtain ⟨H, hH⟩ : ∃ H, H = outF (fun j => zs.getD j 0) (fun j => ss.getD j 0) (getQ (toldT (fun j => zs.getD j 0) (fun j => ss.getD j 0)) b D) seed := ⟨_, rfl⟩
  obtain ⟨ok, hok⟩ : ∃ ok, ok = okG (fun j => zs.getD j 0) (fun j => ss.getD j 0) b D := ⟨_, rfl⟩
  obtain ⟨T, hT⟩ : ∃ T, T = toldT (fun j => zs.getD j 0) (fun j => ss.getD j 0) := ⟨_, rfl⟩
  have HT : RowKit.Hid (∀ k i, k < 21 → edgeK k ≤ i → i < edgeK (k + 1) → T i = decide (ss.getD k 0 < zs.getD k 0)) := fun k i hk i0 i1 => by rw [hT]; exact toldT_at hk i0 i1
  have HHt : RowKit.Hid (∀ k i, k < 21 → edgeK k ≤ i → i < edgeK (k + 1) → ss.getD k 0 < zs.getD k 0 → getQ T b D i * P2 (ss.getD k 0).toNat = H i ∧ ok i = decide (getK T b D i ≤ (zs.getD k 0 - ss.getD k 0).toNat)) := fun k i hk i0 i1 ht => by
    refine ⟨by rw [hH, hT]; exact (outF_told (c := fun j => zs.getD j 0) (s := fun j => ss.getD j 0) hk i0 i1 ht).symm, ?_⟩
    rw [hok, hT]
    unfold okG
    rw [toldT_at hk i0 i1, of_band hk i0 i1]
    simp only [decide_eq_true ht, Bool.not_true, Bool.false_or]
  have HHn : RowKit.Hid (∀ k i, k < 21 → edgeK k ≤ i → i < edgeK (k + 1) → zs.getD k 0 ≤ ss.getD k 0 → noiseR seed i (zs.getD k 0) = H i ∧ ok i = true) := fun k i hk i0 i1 ht => by
    refine ⟨by rw [hH, ← noiseP_in _ _ ((rightB_true hr1).2 k hk).2]; exact (outF_not (c := fun j => zs.getD j 0) (s := fun j => ss.getD j 0) hk i0 i1 (by omega)).symm, ?_⟩
    rw [hok]
    unfold okG
    rw [toldT_at hk i0 i1]
    simp only [decide_eq_false (show ¬ ss.getD k 0 < zs.getD k 0 by omega), Bool.not_false, Bool.true_or]
  have HPg : RowKit.Hid (∀ n, GoodD (getL T b D n).1 ∧ GoodL (getL T b D n).2 ∧ (getL T b D n).2.length = 13 ∧ (getL T b D n).1.i ≤ D.i + 6 * n) := getL_good hb hG
  have HPt : RowKit.Hid (∀ n, T n = true → getL T b D (n + 1) = ((getX b (getL T b D n).1 (getL T b D n).2).2, learnP (getL T b D n).2 (decWhich (getL T b D n).1 (getL T b D n).2))) := fun n h => getL_told b D h
  have HPn : RowKit.Hid (∀ n, T n = false → getL T b D (n + 1) = getL T b D n) := fun n h => getL_not b D h
  have HPq : RowKit.Hid (∀ n, getQ T b D n = (getX b (getL T b D n).1 (getL T b D n).2).1 ∧ getK T b D n = decWhich (getL T b D n).1 (getL T b D n).2) := fun n => ⟨rfl, rfl⟩
  have HP0 : RowKit.Hid (getL T b D (edgeK 0) = (D, List.replicate 13 1)) := rfl
  have HPost : RowKit.Hid (∀ e w', Keeps (fun j => j = g) w w' → (((∀ i, i < 512 → ok i = true) ∧ ∃ a cp, e = .returned (.tuple #[.slice a 512 cp, .bool true]) ∧ IntsAt w' w'.heap.size .i64 a 512 (tabF 512 H)) ∨ ((∃ i, i < 512 ∧ ok i = false) ∧ e = .returned (.tuple #[.slice none 0 0, .bool false]))) → GotPostL g (fun j => zs.getD j 0) (fun j => ss.getD j 0) b D seed w e w') := fun e w' hk hor => by
    rw [hok, hH] at hor; exact ⟨hk, hor⟩
  generalize getQ T b D = Q at HHt HPq
  generalize getK T b D = K at HHt HPq
  generalize getL T b D = P at HPg HPt HPn HPq HP0
  obtain ⟨L0, hL0⟩ : ∃ L0 : List Int, L0 = List.replicate 13 1 := ⟨_, rfl⟩
  have HNew : RowKit.Hid (Calls Try.prog 32 #[.int .i64 13] w fun e w' => ∃ g r, e = .returned (.tuple #[.pointer (some ⟨g, 0, none⟩), .bool true]) ∧ RefMod w' w.heap.size g r L0 false ∧ Below w.heap.size w w') := by rw [hL0]; exact refNew_any 13 w (by decide) (by decide)
  rw [← hL0] at HP0
  generalize GotPostL g (fun j => zs.getD j 0) (fun j => ss.getD j 0) b D seed w = POST at HPost ⊢
  clear hD hG h h2 hmay hr1 hr2 h12 hb hL0 hn1 hn2 hT hH hok
  go_enter Try.func19, Try.ntmps19
  go_wp2_with (first
    | (go_at_call 32; refine HNew.out.mono ?_; rintro e1 w1 ⟨mg, mr, rfl, hm, hb⟩; have HM1 := Lib.hid hm; have HB1 := Lib.hid hb; clear hm hb)
    | (go_at_call 22; go_loud (refine (ref04Edges_own w1).mono ?_); rintro e1 w2 ⟨er, ec, rfl, he0, he1, hed, hb⟩; have HEd := Lib.hid hed; have HB2 := Lib.hid (chain HB1.out hb); have HM2 := Lib.hid (HM1.out.below hb); clear hed hb))
  have hml := HM1.out.lt
  have hs1 := HB1.out.size
  have hs2 := HB2.out.size
  obtain ⟨B, hB⟩ : ∃ B, B = w2.heap.size := ⟨_, rfl⟩
  have H0 : RowKit.Hid (GotL w B base g mg mr er v b (P (edgeK 0)) (.slice none 0 0) (edgeK 0) H w2 ∧ ∀ j, j < edgeK 0 → ok j = true) := by
    rw [HP0.out, hB]
    refine ⟨⟨HD.out.below HB2.out, HM2.out, HEd.out, World.ownsRow_nil w2 _ _ _, .of_below HB2.out, by omega, HOw.out⟩, fun j hj => ?_⟩
    rw [edgeK_zero] at hj; omega
  clear HM1 HB1 HM2 HP0 HD HNew HEd hB
  go_loopw [13, 14] (fun u i wr => ∃ k : Nat, k ≤ 21 ∧ i = .int .i64 (k : Int) ∧ RowKit.Hid (GotL w B base g mg mr er v b (P (edgeK k)) u (edgeK k) H wr ∧ ∀ j, j < edgeK k → ok j = true)) (fun _ i _ => 21 - (intOf i).toNat)
  case atStart => exact ⟨0, by omega, rfl, H0.out⟩
  case round =>
    obtain ⟨k, hk, rfl, G0⟩ := hrel
    clear H0
    by_cases hlt : k < 21
    · obtain ⟨zb, zo, rfl, hzb, _, _⟩ := HI.out.at_ hlt
      obtain ⟨sb, so, rfl, hsb, _, _⟩ := HI2.out.at_ hlt
      have nz1 := HN1.out _ _ rfl
      have ns1 := HN2.out _ _ rfl
      have HZc : RowKit.Hid (∀ wx, Keeps (fun j => j = g) w wx → wx.cell? ⟨zb, zo + k, none⟩ = some (.int .i64 (zs.getD k 0)) ∧ wx.cell? ⟨sb, so + k, none⟩ = some (.int .i64 (ss.getD k 0))) := fun wx hkx => by
        obtain ⟨b1, o1, e1, _, _, c1⟩ := HI.out.at_ hlt
        obtain ⟨b2, o2, e2, _, _, c2⟩ := HI2.out.at_ hlt
        injection e1 with e1
        injection e1 with e1 e1'
        injection e2 with e2
        injection e2 with e2 e2'
        subst e1; subst e1'; subst e2; subst e2'
        exact ⟨(World.cell?_of_block (a := ⟨zb, zo + k, none⟩) (hkx.block zb hzb nz1)).trans c1, (World.cell?_of_block (a := ⟨sb, so + k, none⟩) (hkx.block sb hsb ns1)).trans c2⟩
      obtain ⟨c0, c1⟩ := HC.out k hlt
      obtain ⟨s0, s1⟩ := HSs.out k hlt
      have cs := H12.out k hlt
      obtain ⟨ed1, ed2⟩ := edgeK_lt k hlt
      have d1 := G0.out.1.e k (by omega)
      have HTk : RowKit.Hid (∀ i, edgeK k ≤ i → i < edgeK (k + 1) → T i = decide (ss.getD k 0 < zs.getD k 0)) := fun i => HT.out k i hlt
      have HHk : RowKit.Hid (∀ i, edgeK k ≤ i → i < edgeK (k + 1) → ss.getD k 0 < zs.getD k 0 → Q i * P2 (ss.getD k 0).toNat = H i ∧ ok i = decide (K i ≤ (zs.getD k 0 - ss.getD k 0).toNat)) := fun i => HHt.out k i hlt
      have HHm : RowKit.Hid (∀ i, edgeK k ≤ i → i < edgeK (k + 1) → zs.getD k 0 ≤ ss.getD k 0 → noiseR seed i (zs.getD k 0) = H i ∧ ok i = true) := fun i => HHn.out k i hlt
      generalize zs.getD k 0 = c at c0 c1 cs HTk HHk HHm HZc
      generalize ss.getD k 0 = s at s0 s1 cs HTk HHk HHm HZc
      obtain ⟨B2, hB⟩ : ∃ B2, B2 = edgeK (k + 1) := ⟨_, rfl⟩
      have HDk : RowKit.Hid (∀ S u q wx, GotL w B base g mg mr er v b S u q H wx → wx.cell? ⟨er, k + 1, none⟩ = some (.int .i64 (B2 : Int))) := fun S u q wx hx => by rw [hB]; exact hx.e (k + 1) (by omega)
      rw [← hB] at ed1 ed2 HTk HHk HHm
      have HBk := Lib.hid hB
      clear hB
      generalize edgeK k = A at d1 ed1 HTk HHk HHm G0
      have l0 : (k : Int) < 21 := by omega
      have uk : IntKind.i64.wrap ((k : Int) + 1) = (k : Int) + 1 := IntWalk.i64_in _ (by omega)
      obtain ⟨nn, hnn⟩ : ∃ nn, nn = B2 - A := ⟨_, rfl⟩
      have hB2 : B2 = A + nn := by omega
      have HEnd : RowKit.Hid (edgeK (k + 1) = A + nn) := by show _ = _; rw [← HBk.out]; exact hB2
      have HAB : RowKit.Hid (B2 = A + nn ∧ B2 ≤ 512) := ⟨hB2, ed2⟩
      clear hnn HBk hB2 ed2
      go_wp2
      go_loopw [13, 15] (fun u i wx => ∃ m : Nat, m ≤ nn ∧ i = .int .i64 ((A + m : Nat) : Int) ∧ RowKit.Hid (GotL w B base g mg mr er v b (P (A + m)) u (A + m) H wx ∧ ∀ j, j < A + m → ok j = true)) (fun _ i _ => A + nn - (intOf i).toNat)
      case atStart => exact ⟨0, by omega, rfl, G0.out⟩
      case round =>
        obtain ⟨m, hm, rfl, G⟩ := hrel
        clear G0 d1
        have d2 := HDk.out _ _ _ _ G.out.1
        obtain ⟨z1, z2⟩ := HZc.out _ G.out.1.k
        obtain ⟨I, hI⟩ : ∃ I, I = A + m := ⟨_, rfl⟩
        rw [← hI] at G ⊢
        have hAB := HAB.out
        by_cases hmn : m < nn
        · have l1 : (I : Int) < (B2 : Int) := by omega
          have i1 : I < 512 := by omega
          have hAI : A ≤ I := by omega
          have hIB : I < B2 := by omega
          have HI1 : RowKit.Hid (I + 1 = A + (m + 1)) := by show _ = _; omega
          have HIE : RowKit.Hid (I < A + nn) := by show _ < _; omega
          have HTi := HTk.out I hAI hIB
          have HSn : RowKit.Hid (∀ y, H I = y → tabF I H ++ [y] = tabF (I + 1) H) := fun y hy => tabE_snoc H I y hy
          clear hI hAB
          go_wp2
          by_cases htd : s < c
          · have htn : ¬ c ≤ s := by omega
            go_quiet (fail)
            obtain ⟨g1, g2, g3, g4⟩ := HPg.out I
            have hPI := HPt.out I (by rw [HTi]; exact decide_eq_true htd)
            obtain ⟨hqi, hki⟩ := HPq.out I
            obtain ⟨hHi, hoki⟩ := HHk.out I hAI hIB htd
            have hdi : (P I).1.i ≤ 2000000 := by omega
            have G2 := Lib.hid (G.out.1.drewN nq)
            clear z1 z2 d2 HTi htn
            generalize wr.drewN nq = wa at G2 ⊢
            rw [← hki] at hPI
            generalize P I = S at g1 g2 g3 hPI hqi hki hdi G2
            generalize K I = kk at hPI hki hoki
            obtain ⟨s1', s2', s3'⟩ := decSymQ_good HBy.out g1 g2
            rw [← hki] at s3'
            have hk12 : kk ≤ 12 := by omega
            have HSy : RowKit.Hid (∀ u wx, GotL w B base g mg mr er v b S u I H wx → Calls Try.prog 46 #[.pointer (some ⟨g, 0, none⟩), .pointer (some ⟨mg, 0, none⟩)] wx fun e w' => e = .returned (.int .i64 (kk : Int)) ∧ GotL w B base g mg mr er v b (decSym b S.1 S.2, learnP S.2 kk) u I H w') := fun u wx hx => by rw [hki]; exact hx.sym g1 g2 HBy.out hbl (by omega)
            have u1 : IntKind.i64.wrap (c - s) = c - s := IntWalk.i64_in _ (by omega)
            obtain ⟨S1, hS1⟩ : ∃ S1 : DecS × List Int, S1 = (decSym b S.1 S.2, learnP S.2 kk) := ⟨_, rfl⟩
            have e1 : decSym b S.1 S.2 = S1.1 := by rw [hS1]
            rw [← hS1] at HSy
            obtain ⟨y, hy⟩ : ∃ y, H I = y := ⟨_, rfl⟩
            have HT1 := Lib.hid (HSn.out y hy)
            rw [hy] at hHi
            have HHid : RowKit.Hid (kk = decWhich S.1 S.2 ∧ S1 = (decSym b S.1 S.2, learnP S.2 kk) ∧ decSym b S.1 S.2 = S1.1 ∧ P (I + 1) = ((getX b S.1 S.2).2, learnP S.2 kk) ∧ Q I = (getX b S.1 S.2).1 ∧ Q I * P2 s.toNat = y ∧ ok I = decide (kk ≤ (c - s).toNat)) := ⟨hki, hS1, e1, hPI, hqi, hHi, hoki⟩
            clear hy hki hS1 e1 hPI hqi hHi hoki
            go_wp2_with (go_at_call 46; refine (HSy.out _ _ G2.out).mono ?_; rintro e1 w5 ⟨rfl, hp⟩; have HP5 := Lib.hid hp; clear hp)
            obtain ⟨z1, z2⟩ := HZc.out _ HP5.out.k
            go_quiet (fail)
            have G6 := Lib.hid (HP5.out.drewN nq)
            clear z1 z2 HP5 G2 HSy
            generalize w5.drewN nq = w6 at G6 ⊢
            obtain ⟨z1, z2⟩ := HZc.out _ G6.out.k
            obtain ⟨hki, hS1, e1, hPI, hqi, hHi, hoki⟩ := HHid.out
            by_cases hbig : (c - s).toNat < kk
            · have HOk : RowKit.Hid (ok I = false) := by show _ = _; rw [hoki]; exact decide_eq_false (by omega)
              have d9 : c - s < (kk : Int) := by omega
              clear hoki hHi hPI hqi hki g1 g2 g3 s1' s2' s3' e1 hS1 hbig
              go_wp2
              exact HPost.out _ _ G6.out.k (.inr ⟨⟨I, i1, HOk.out⟩, rfl⟩)
            · have HOk : RowKit.Hid (ok I = true) := by show _ = _; rw [hoki]; exact decide_eq_true (by omega)
              have d9 : ¬ c - s < (kk : Int) := by omega
              obtain ⟨sn, hsn⟩ : ∃ sn : Nat, s = sn := ⟨s.toNat, by omega⟩
              subst hsn
              rw [Int.toNat_natCast] at hHi
              have hsn26 : sn ≤ 26 := by omega
              clear hoki
              by_cases h0 : kk = 0
              · rw [h0] at hki
                have hE := getX_none b hki.symm
                have HPt2 : RowKit.Hid (S1 = P (I + 1)) := by show _ = _; rw [hPI, hS1, hE]
                have hy0 : y = 0 := by rw [← hHi, hqi, hE]; simp
                subst h0
                subst hy0
                have HA := Lib.hid (G6.out.alloc (.cells #[.int .i64 0] 2))
                have hsrc := Lib.hid (lit_ints w6 2 .i64 [0] #[.int .i64 0] (0, 0) rfl (by simp))
                clear hHi hPI hqi hki g1 g2 g3 s1' s2' s3' e1 hS1 hbig hE
                go_wp2_with (first
                  | (at_builtin; have hB2 := HA.out.o; go_loud (refine append_ints rfl _ _ 29 rfl B 2 .i64 8 Try.underlying29 infoE_i64 _ I (tabF I H) rfl HA.out.i (some ⟨w6.heap.size, 0, none⟩) 1 1 _ [0] rfl hsrc.out (by simp) (by unfold maxLen; omega) (by omega) (by omega) ?_); intro v1 w3 hown hgrow _; rw [HT1.out] at hown; have HV := Lib.hid (HA.out.app hown hgrow); rw [HPt2.out] at HV; clear hown hgrow)
                  | fail)
                go_roundw
                case rel => exact ⟨m + 1, by omega, by rw [← HI1.out]; go_num, by rw [← HI1.out]; exact ⟨HV.out, fun j hj => (Nat.lt_or_eq_of_le (Nat.le_of_lt_succ hj)).elim (G.out.2 j) fun e => e ▸ HOk.out⟩⟩
                case measure => have := HIE.out; simp [intOf] <;> omega
              · have hE := getX_some b (D := S.1) (L := S.2) (by rw [← hki]; exact h0)
                rw [← hki] at hE
                obtain ⟨j, hkj⟩ : ∃ j, kk - 1 = j := ⟨kk - 1, rfl⟩
                have hj11 : j ≤ 11 := by omega
                obtain ⟨t1, t2, t3, t4⟩ := decBitsQ_good (k := 1) HBy.out s1' (by decide)
                obtain ⟨v1, v2, v3, v4⟩ := decBitsQ_good (k := j) HBy.out t1 (by omega)
                rw [hkj] at hE
                rw [e1] at hE s1' s2' t1 t2 t3 t4 v1 v2 v3 v4
                obtain ⟨S2, hS2⟩ : ∃ S2 : DecS × List Int, S2 = ((decBits b S1.1 0 1).2, S1.2) := ⟨_, rfl⟩
                have e2 : (decBits b S1.1 0 1).2 = S2.1 := by rw [hS2]
                have HB1 : RowKit.Hid (∀ u wx, GotL w B base g mg mr er v b S1 u I H wx → Calls Try.prog 47 #[.pointer (some ⟨g, 0, none⟩), .int .i64 1] wx fun e w' => e = .returned (.int .i64 (decBits b S1.1 0 1).1) ∧ GotL w B base g mg mr er v b S2 u I H w') := fun u wx hx => by rw [hS2]; exact hx.bits (n := 1) s1' HBy.out hbl (by omega) (by decide)
                rw [e2] at hE t1 t2 v1 v2 v3 v4
                obtain ⟨S3, hS3⟩ : ∃ S3 : DecS × List Int, S3 = ((decBits b S2.1 0 j).2, S2.2) := ⟨_, rfl⟩
                have HBj : RowKit.Hid (∀ u wx, GotL w B base g mg mr er v b S2 u I H wx → Calls Try.prog 47 #[.pointer (some ⟨g, 0, none⟩), .int .i64 (j : Int)] wx fun e w' => e = .returned (.int .i64 (decBits b S2.1 0 j).1) ∧ GotL w B base g mg mr er v b S3 u I H w') := fun u wx hx => by rw [hS3]; exact hx.bits (n := j) t1 HBy.out hbl (by omega) (by omega)
                have HPt2 : RowKit.Hid (S3 = P (I + 1)) := by show _ = _; rw [hPI, hE, hS3, hS2, hS1]
                have HPw : RowKit.Hid (∀ wx, Calls Try.prog 37 #[.int .i64 (j : Int)] wx fun e w' => e = .returned (.int .i64 (P2 j)) ∧ wx = w') := fun wx => ref10Power_any j wx (by omega)
                rw [hqi, hE] at hHi
                simp only at hHi
                have p0 := P2_pos j
                have p1 := P2_12 (k := j) (by omega)
                have q0 := P2_pos sn
                have q1 := P2_mono (a := sn) (b := 26) hsn26
                rw [show P2 26 = 67108864 by decide] at q1
                have hp : (2 : Int) ^ sn = P2 sn := rfl
                rw [show P2 1 = 2 by decide] at t4
                have HR6 := Lib.hid (HZc.out)
                clear hPI hqi hki g1 g2 g3 s1' s2' s3' e1 hS1 hbig hE hS2 hS3 e2 t1 t2 v1 v2
                generalize (decBits b S1.1 0 1).1 = sg at HB1 hHi t3 t4
                generalize (decBits b S2.1 0 j).1 = lw at HBj hHi v3 v4
                generalize P2 j = p at hHi v4 p0 p1 HPw
                generalize P2 sn = ps at hHi q0 q1 hp
                have d0 : 0 < (kk : Int) := by omega
                have c3 : IntKind.i64.wrap ((kk : Int) - 1) = (j : Int) := by rw [show (kk : Int) - 1 = j by omega]; exact IntWalk.i64_in _ (by omega)
                have c4 : IntKind.i64.wrap (lw + p) = lw + p := IntWalk.i64_in _ (by omega)
                have c5 : IntKind.i64.wrap (-(lw + p)) = -(lw + p) := IntWalk.i64_in _ (by omega)
                have hbd : (lw + p) * ps ≤ 8192 * 67108864 := Int.mul_le_mul (by omega) q1 (by omega) (by decide)
                have hbd0 : 0 ≤ (lw + p) * ps := Int.mul_nonneg (by omega) (by omega)
                clear h0 hkj
                by_cases hs : sg = 1
                · subst hs
                  rw [if_pos rfl] at hHi
                  have c6 : IntKind.i64.wrap (-(lw + p) * 2 ^ sn) = y := by rw [hp, hHi]; exact IntWalk.i64_in _ (by rw [← hHi, Int.neg_mul]; omega)
                  clear hHi hp hbd hbd0
                  go_wp2_with (first
                    | (go_at_call 47; have hx := GP2.out; refine (HBj.out _ _ hx).mono ?_; rintro e1 w8 ⟨rfl, hp⟩; have HA := Lib.hid (hp.alloc (.cells #[.int .i64 y] 2)); have hsrc := Lib.hid (lit_ints w8 2 .i64 [y] #[.int .i64 y] (0, 0) rfl (by simp)); obtain ⟨z5, z6⟩ := HR6.out _ hp.k; clear hp hx GP2)
                    | (go_at_call 47; refine (HB1.out _ _ G6.out).mono ?_; rintro e1 w7 ⟨rfl, hp⟩; have GP2 := Lib.hid hp; clear hp)
                    | (go_at_call 37; refine (HPw.out _).mono ?_; rintro e1 w9 ⟨rfl, rfl⟩)
                    | (at_builtin; have hB2 := HA.out.o; go_loud (refine append_ints rfl _ _ 29 rfl B 2 .i64 8 Try.underlying29 infoE_i64 _ I (tabF I H) rfl HA.out.i (some ⟨w8.heap.size, 0, none⟩) 1 1 _ [y] rfl hsrc.out (by simp) (by unfold maxLen; omega) (by omega) (by omega) ?_); intro v1 w3 hown hgrow _; rw [HT1.out] at hown; have HV := Lib.hid (HA.out.app hown hgrow); rw [HPt2.out] at HV; clear hown hgrow)
                    | fail)
                  go_roundw
                  case rel => exact ⟨m + 1, by omega, by rw [← HI1.out]; go_num, by rw [← HI1.out]; exact ⟨HV.out, fun j hj => (Nat.lt_or_eq_of_le (Nat.le_of_lt_succ hj)).elim (G.out.2 j) fun e => e ▸ HOk.out⟩⟩
                  case measure => have := HIE.out; simp [intOf] <;> omega
                · rw [if_neg hs] at hHi
                  have dsg : (sg == 1) = false := by simp; omega
                  have c6 : IntKind.i64.wrap ((lw + p) * 2 ^ sn) = y := by rw [hp, hHi]; exact IntWalk.i64_in _ (by rw [← hHi]; omega)
                  clear hHi hp hbd hbd0 hs
                  go_wp2_with (first
                    | (go_at_call 47; have hx := GP2.out; refine (HBj.out _ _ hx).mono ?_; rintro e1 w8 ⟨rfl, hp⟩; have HA := Lib.hid (hp.alloc (.cells #[.int .i64 y] 2)); have hsrc := Lib.hid (lit_ints w8 2 .i64 [y] #[.int .i64 y] (0, 0) rfl (by simp)); obtain ⟨z5, z6⟩ := HR6.out _ hp.k; clear hp hx GP2)
                    | (go_at_call 47; refine (HB1.out _ _ G6.out).mono ?_; rintro e1 w7 ⟨rfl, hp⟩; have GP2 := Lib.hid hp; clear hp)
                    | (go_at_call 37; refine (HPw.out _).mono ?_; rintro e1 w9 ⟨rfl, rfl⟩)
                    | (at_builtin; have hB2 := HA.out.o; go_loud (refine append_ints rfl _ _ 29 rfl B 2 .i64 8 Try.underlying29 infoE_i64 _ I (tabF I H) rfl HA.out.i (some ⟨w8.heap.size, 0, none⟩) 1 1 _ [y] rfl hsrc.out (by simp) (by unfold maxLen; omega) (by omega) (by omega) ?_); intro v1 w3 hown hgrow _; rw [HT1.out] at hown; have HV := Lib.hid (HA.out.app hown hgrow); rw [HPt2.out] at HV; clear hown hgrow)
                    | fail)
                  go_roundw
                  case rel => exact ⟨m + 1, by omega, by rw [← HI1.out]; go_num, by rw [← HI1.out]; exact ⟨HV.out, fun j hj => (Nat.lt_or_eq_of_le (Nat.le_of_lt_succ hj)).elim (G.out.2 j) fun e => e ▸ HOk.out⟩⟩
                  case measure => have := HIE.out; simp [intOf] <;> omega
          · have htn : c ≤ s := by omega
            obtain ⟨hHi, hoki⟩ := HHm.out I hAI hIB htn
            have HHi := Lib.hid hHi
            have HOk := Lib.hid hoki
            have HPi := Lib.hid (HPn.out I (by rw [HTi]; simpa using htd))
            have HNz : RowKit.Hid (∀ wx, Calls Try.prog 25 #[.int .u32 seed, .int .i64 (I : Int), .int .i64 c] wx fun e w' => e = .returned (.int .i64 (H I)) ∧ wx = w') := fun wx => by rw [← HHi.out]; exact ref10Noise_any seed I c wx sd0 sd1 (by omega) (by omega)
            clear hHi hoki htd HTi
            go_quiet (fail)
            have G2 := Lib.hid (G.out.1.drewN nq)
            clear z1 z2 d2
            generalize wr.drewN nq = wa at G2 ⊢
            obtain ⟨z1, z2⟩ := HZc.out _ G2.out.k
            have HT1 := Lib.hid (HSn.out (H I) rfl)
            generalize hyy : H I = y at HNz HT1
            clear hyy
            go_wp2_with (first
              | (go_at_call 25; refine (HNz.out _).mono ?_; rintro e1 w5 ⟨rfl, rfl⟩; have HA := Lib.hid (G2.out.alloc (.cells #[.int .i64 y] 2)); have hsrc := Lib.hid (lit_ints wa 2 .i64 [y] #[.int .i64 y] (0, 0) rfl (by simp)))
              | (at_builtin; have hB2 := HA.out.o; go_loud (refine append_ints rfl _ _ 29 rfl B 2 .i64 8 Try.underlying29 infoE_i64 _ I (tabF I H) rfl HA.out.i (some ⟨wa.heap.size, 0, none⟩) 1 1 _ [y] rfl hsrc.out (by simp) (by unfold maxLen; omega) (by omega) (by omega) ?_); intro v1 w3 hown hgrow _; rw [HT1.out] at hown; have HV := Lib.hid (HA.out.app hown hgrow); clear hown hgrow)
              | fail)
            go_roundw
            case rel => exact ⟨m + 1, by omega, by rw [← HI1.out]; go_num, by rw [← HI1.out, HPi.out]; exact ⟨HV.out, fun j hj => (Nat.lt_or_eq_of_le (Nat.le_of_lt_succ hj)).elim (G.out.2 j) fun e => e ▸ HOk.out⟩⟩
            case measure => have := HIE.out; simp [intOf] <;> omega
        · obtain rfl : m = nn := by omega
          have l1 : ¬ (I : Int) < (B2 : Int) := by omega
          have Z : RowKit.Hid (GotL w B base g mg mr er v b (P (edgeK (k + 1))) u13 (edgeK (k + 1)) H wr ∧ ∀ j, j < edgeK (k + 1) → ok j = true) := by rw [HEnd.out, ← hI]; exact G.out
          clear hI hAB hmn hm
          go_wp2
          go_roundw
          case rel => exact ⟨k + 1, by omega, by go_num, Z.out⟩
          case measure => simp [intOf] <;> omega
    · obtain rfl : k = 21 := by omega
      have Z := Lib.hid G0.out
      rw [edgeK_last] at Z
      obtain ⟨ua, uc, rfl⟩ := own_form Z.out.1.i
      have HIf := Lib.hid (own_ints' Z.out.1.i)
      go_wp2
      exact HPost.out _ _ Z.out.1.k (.inl ⟨Z.out.2, ua, uc, rfl, HIf.out⟩)
end Go.Proofs.Ytdmafololcpamaa

/- What the smaller functions of layer 12's laws give. -/
namespace Go.Proofs.Ytdmafololcpamaa
open Go.RowKit
set_option linter.unusedVariables false

/-! ### The chapter's example -/
def oneL (x : Int) (i : Nat) : Int := if i = 0 then x else 0
theorem one_may : mayQ (tabF 21 (oneL 5)) (tabF 21 (oneL 2)) = true := by decide +kernel
theorem one_0 : outF (fun j => (tabF 21 (oneL 5)).getD j 0) (fun j => (tabF 21 (oneL 2)).getD j 0) (lineQ (oneL 21) (fun j => (tabF 21 (oneL 5)).getD j 0) (fun j => (tabF 21 (oneL 2)).getD j 0)) 1 0 = 20 := by decide +kernel
theorem one_1 : outF (fun j => (tabF 21 (oneL 5)).getD j 0) (fun j => (tabF 21 (oneL 2)).getD j 0) (lineQ (oneL 21) (fun j => (tabF 21 (oneL 5)).getD j 0) (fun j => (tabF 21 (oneL 2)).getD j 0)) 1 1 = 0 := by decide +kernel
theorem live_call {w w5 : World} (la sa : Nat) (hb : Below w.heap.size w w5) (hl : IFun w5 la 3 .i64 21 (fun _ => 0)) (hs : IFun w5 sa 3 .i64 21 (fun _ => 0)) (hx : IFun w5 w.heap.size 21 .i32 512 (oneL 21)) (hne : la ≠ sa) (h1 : w.heap.size ≤ la) (h2 : w.heap.size ≤ sa) :
    Calls Try.prog 16 #[.slice (some ⟨w.heap.size, 0, none⟩) 512 512, .slice (some ⟨la, 0, none⟩) 21 21, .slice (some ⟨sa, 0, none⟩) 21 21, .int .u32 1] ((w5.setCell ⟨la, 0, none⟩ (.int .i64 5)).setCell ⟨sa, 0, none⟩ (.int .i64 2))
      fun e w' => ∃ r, e = .returned (.tuple #[.slice (some ⟨r, 0, none⟩) 512 512, .int .i64 0]) ∧ w'.cell? ⟨r, 0, none⟩ = some (.int .i32 20) ∧ w'.cell? ⟨r, 1, none⟩ = some (.int .i32 0) ∧ Below w.heap.size w w' := by
  have nl : la ≠ w.heap.size := cel_ne hl hx (by decide)
  have ns : sa ≠ w.heap.size := cel_ne hs hx (by decide)
  have hl6 : IFun ((w5.setCell ⟨la, 0, none⟩ (.int .i64 5)).setCell ⟨sa, 0, none⟩ (.int .i64 2)) la 3 .i64 21 (oneL 5) := IFun.ext ((hl.set (j := 0) (by decide) 5).far hne _) fun j _ => rfl
  have hs6 : IFun ((w5.setCell ⟨la, 0, none⟩ (.int .i64 5)).setCell ⟨sa, 0, none⟩ (.int .i64 2)) sa 3 .i64 21 (oneL 2) := IFun.ext ((hs.far (p := ⟨la, 0, none⟩) (fun e => hne e.symm) _).set (j := 0) (by decide) 2) fun j _ => rfl
  have hx6 : IFun ((w5.setCell ⟨la, 0, none⟩ (.int .i64 5)).setCell ⟨sa, 0, none⟩ (.int .i64 2)) w.heap.size 21 .i32 512 (oneL 21) := (hx.far (p := ⟨la, 0, none⟩) (fun e => nl e.symm) _).far (p := ⟨sa, 0, none⟩) (fun e => ns e.symm) _
  have hb6 : Below w.heap.size w ((w5.setCell ⟨la, 0, none⟩ (.int .i64 5)).setCell ⟨sa, 0, none⟩ (.int .i64 2)) := (hb.setCell (p := ⟨la, 0, none⟩) h1 _).setCell (p := ⟨sa, 0, none⟩) h2 _
  generalize ((w5.setCell ⟨la, 0, none⟩ (.int .i64 5)).setCell ⟨sa, 0, none⟩ (.int .i64 2)) = w6 at hl6 hs6 hx6 hb6 ⊢
  refine (qHeard_any w.heap.size 0 512 (oneL 21) _ _ 21 21 (tabF 21 (oneL 5)) (tabF 21 (oneL 2)) 1 w6 hx6.lt (fun i hi => by rw [Nat.zero_add]; exact hx6.cell hi) (fun i _ => by unfold oneL; split <;> decide) (hl6.ints (by decide)) (hs6.ints (by decide)) one_may (by decide) (by decide)).mono ?_
  rintro e w' ⟨r, rfl, hf, _, hb7⟩
  have c0 := hf.cell (j := 0) (by decide)
  have c1 := hf.cell (j := 1) (by decide)
  rw [one_0] at c0
  rw [one_1] at c1
  exact ⟨r, rfl, c0, c1, hb6.trans (hb7.mono hb6.size)⟩
set_option maxHeartbeats 400000 in
set_option maxRecDepth 100000 in
theorem lives12_any (w : World) : Calls Try.prog 7 #[] w fun e w' => e = .returned (.bool true) ∧ Below w.heap.size w w' := by
  have hmk : ∀ w : World, (Instr.makeSlice 22 (.int .i64 512) (.int .i64 512)).run Try.prog w = .ok (.slice (some ⟨w.heap.size, 0, none⟩) 512 512) (w.alloc (.cells (madeCells #[.int .i32 0] 512) 21)) :=
    fun w => make_zeros (P := Try.prog) Try.underlying22 infoE_i32 512 (by decide) (by decide) w
  have hmk2 : ∀ w : World, (Instr.makeSlice 26 (.int .i64 21) (.int .i64 21)).run Try.prog w = .ok (.slice (some ⟨w.heap.size, 0, none⟩) 21 21) (w.alloc (.cells (madeCells #[.int .i64 0] 21) 3)) :=
    fun w => make_zeros (P := Try.prog) Try.underlying26 infoE_int 21 (by decide) (by decide) w
  have HZ2 := Lib.hid (fun w => IFun.zeros w 3 .i64 21)
  obtain ⟨w2, hw2⟩ : ∃ w2, w2 = (w.alloc (.cells (madeCells #[.int .i32 0] 512) 21)) := ⟨_, rfl⟩
  have hz := IFun.zeros w 21 .i32 512
  have hb0 := Below.alloc_new w (.cells (madeCells #[.int .i32 0] 512) 21)
  rw [← hw2] at hz hb0
  have HC : RowKit.Hid (IFun (w2.setCell ⟨w.heap.size, 0, none⟩ (.int .i32 21)) w.heap.size 21 .i32 512 (oneL 21)) := IFun.ext (hz.set (j := 0) (by decide) 21) fun j _ => rfl
  have HB0 : RowKit.Hid (Below w.heap.size w (w2.setCell ⟨w.heap.size, 0, none⟩ (.int .i32 21))) := Below.setCell (p := ⟨w.heap.size, 0, none⟩) hb0 (Nat.le_refl _) _
  have o1 : w2.cell? ⟨w.heap.size, 0, none⟩ = some (.int .i32 0) := hz.cell (j := 0) (by decide)
  have f1 := hz.frozen 0
  have hE : w2.setCell ⟨w.heap.size, 0, none⟩ (.int .i32 21) = w.alloc (.cells ((madeCells #[.int .i32 0] 512).setIfInBounds 0 (.int .i32 21)) 21) := by rw [hw2]; exact set_new w _ _ _ _
  rw [hE] at HC HB0
  rw [hw2] at o1 f1
  have HOk := Lib.hid one_may
  have HH0 := Lib.hid one_0
  have HH1 := Lib.hid one_1
  clear hz hb0 hE hw2 w2
  generalize madeCells #[Value.int .i32 0] 512 = mc at hmk HC HB0 o1 f1
  generalize madeCells #[Value.int .i64 0] 21 = mi at hmk2 HZ2
  go_enter Try.func7, Try.ntmps7
  go_wp2
  generalize w.alloc (.cells (mc.setIfInBounds 0 (.int .i32 21)) 21) = w1 at HC HB0 ⊢
  go_region
  all_goals (first
    | (obtain ⟨w5, hw5⟩ : ∃ w5, w5 = ((w1.alloc (.cells mi 3)).alloc (.cells mi 3)).drew := ⟨_, rfl⟩; rw [← hw5]
       obtain ⟨g1, hg1⟩ : ∃ g1, g1 = w1.heap.size := ⟨_, rfl⟩
       obtain ⟨g2, hg2⟩ : ∃ g2, g2 = w1.heap.size + 1 := ⟨_, rfl⟩
       rw [← hg2, ← hg1]
       have H5 : RowKit.Hid (Below w.heap.size w w5 ∧ IFun w5 g1 3 .i64 21 (fun _ => 0) ∧ IFun w5 g2 3 .i64 21 (fun _ => 0) ∧ w.heap.size ≤ g1 ∧ w.heap.size ≤ g2 ∧ g1 ≠ g2 ∧ IFun w5 w.heap.size 21 .i32 512 (oneL 21)) := (by
         have hs := HB0.out.size
         have ha := chain (Below.alloc_new w1 (.cells mi 3)) (Below.alloc_new _ (.cells mi 3))
         have h2 := Below.drewN' (chain HB0.out ha) 1
         have h3 := IFun.drewN ((HZ2.out w1).alloc (.cells mi 3)) 1
         have h4 := IFun.drewN (HZ2.out (w1.alloc (.cells mi 3))) 1
         have h5 := IFun.drewN (HC.out.below ha HC.out.lt) 1
         rw [sizeE_alloc, ← hg2] at h4
         rw [← hg1] at h3
         rw [hw5]
         exact ⟨h2, h3, h4, by omega, by omega, by omega, h5⟩)
       clear hw5 hg1 hg2)
    | fail)
  · clear hmk hmk2 HZ2 HC HB0 o1 f1
    have o1 := H5.out.2.1.cell (j := 0) (by decide)
    have o2 := H5.out.2.2.1.cell (j := 0) (by decide)
    have f1 := H5.out.2.1.frozen 0
    have f2 := H5.out.2.2.1.frozen 0
    have hne := H5.out.2.2.2.2.2.1
    have hne' : g2 ≠ g1 := fun e => hne e.symm
    have HHd := Lib.hid (live_call g1 g2 H5.out.1 H5.out.2.1 H5.out.2.2.1 H5.out.2.2.2.2.2.2 hne H5.out.2.2.2.1 H5.out.2.2.2.2.1)
    go_wp2_with (go_at_call 16; go_loud (refine HHd.out.mono ?_); rintro e w6 ⟨r, rfl, x0, x1, hb⟩; have HB6 := Lib.hid hb; clear hb)
    go_ret
    exact ⟨rfl, HB6.out⟩
  · clear hmk hmk2 HZ2 HC HB0 o1 f1
    have o1 := H5.out.2.1.cell (j := 0) (by decide)
    have o2 := H5.out.2.2.1.cell (j := 0) (by decide)
    have f1 := H5.out.2.1.frozen 0
    have f2 := H5.out.2.2.1.frozen 0
    have hne := H5.out.2.2.2.2.2.1
    have hne' : g2 ≠ g1 := fun e => hne e.symm
    have HHd := Lib.hid (live_call g2 g1 H5.out.1 H5.out.2.2.1 H5.out.2.1 H5.out.2.2.2.2.2.2 hne' H5.out.2.2.2.2.1 H5.out.2.2.2.1)
    go_wp2_with (go_at_call 16; go_loud (refine HHd.out.mono ?_); rintro e w6 ⟨r, rfl, x0, x1, hb⟩; have HB6 := Lib.hid hb; clear hb)
    go_ret
    exact ⟨rfl, HB6.out⟩
end Go.Proofs.Ytdmafololcpamaa
