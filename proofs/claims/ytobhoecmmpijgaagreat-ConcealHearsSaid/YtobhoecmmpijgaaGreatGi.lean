/- Plain facts, and what functions give, for the proofs of this seat: several texts in one, each with its own first remark. -/
import Derived.Test.YtobhoecmmpijgaaGreatGh

/- What the document's decoder of layer 7 gives: a model's symbol, bits. -/
namespace Go.Proofs.YtobhoecmmpijgaaGreat
open Go.RowKit
set_option linter.unusedVariables false

theorem P2_add (a b : Nat) : P2 (a + b) = P2 a * P2 b := by unfold P2; rw [Int.pow_add]
/-- Which symbol a decoder finds. -/
def decWhich (d : DecS) (l : List Int) : Nat := findP l (decAt d l.sum)
def decSym (b : List Int) (d : DecS) (l : List Int) : DecS := decTake (byteF b) d (sumN l (decWhich d l)) (l.getD (decWhich d l) 0) l.sum
theorem decWhich_is {d : DecS} {l : List Int} (hG : GoodD d) (hL : GoodL l) : decWhich d l < l.length ∧ d.s / l.sum * sumN l (decWhich d l) ≤ d.c ∧ 1 ≤ l.sum ∧ l.sum ≤ 8192 := by
  have h1 : 1 ≤ l.sum := by
    have a := hL.sum_le (n := 1) hL.1
    have b := sumN_rise (l := l) (fun j hj => by have := hL.2.2.1 j hj; omega) (m := 1) (n := l.length) hL.1 (Nat.le_refl _)
    have c : sumN l 1 = sumN l 0 + l.getD 0 0 := sumN_succ l 0 (by have := hL.1; omega)
    have d := hL.2.2.1 0 (by have := hL.1; omega)
    rw [sumN_all] at b
    rw [sumN_zero] at c
    omega
  have h2 := hL.2.2.2
  obtain ⟨a, b, c⟩ := decAt_bd hG h1 h2
  obtain ⟨e, f, g⟩ := findP_is (l := l) a (by rw [sumN_all]; exact b)
  obtain ⟨e0, _, _⟩ := each_bd hG.1 hG.2.1 h1 h2
  refine ⟨e, ?_, h1, h2⟩
  exact Int.le_trans (Int.mul_le_mul_of_nonneg_left f (by omega)) c
def DecSymPost (base b2 g : Nat) (v : Value) (b : List Int) (mg mr : Nat) (s : Nat) (d : DecS) (l : List Int) (fx : Bool) (w : World) (x : Ending) (w' : World) : Prop :=
  x = .returned (.int .i64 s) ∧ DecMem w' base g v b d ∧ RefMod w' b2 mg mr l fx ∧ Keeps (fun j => j = g ∨ j = mr) w w'

set_option maxHeartbeats 1000000 in
set_option maxRecDepth 100000 in
theorem refDecSymbol_any (base b2 g : Nat) (v : Value) (b : List Int) (d : DecS) (mg mr : Nat) (l : List Int) (w : World) (hD : DecMem w base g v b d) (hb : ∀ j, 0 ≤ byteF b j ∧ byteF b j ≤ 255) (hbl : b.length ≤ 1000000) (hi : d.i ≤ 5000000) (hR : RefMod w b2 mg mr l false) (hG : GoodD d) (hL : GoodL l) (d1 : mg ≠ g) (d3 : mr ≠ g) (d2 : ∀ k, v.ownBlock = some k → k ≠ mg ∧ k ≠ mr) :
    Calls Tryz.prog 95 #[.pointer (some ⟨g, 0, none⟩), .pointer (some ⟨mg, 0, none⟩)] w (DecSymPost base b2 g v b mg mr (decWhich d l) (decSym b d l) (learnP l (decWhich d l)) false w) := by
  obtain ⟨cm, h1, h2, h3⟩ := hR
  have HR := Lib.hid (show RefMod w b2 mg mr l false from ⟨cm, h1, h2, h3⟩)
  have HD := Lib.hid hD
  have HG := Lib.hid hG
  have HL := Lib.hid hL
  have HBy := Lib.hid hb
  have H2 := Lib.hid d2
  have hl0 := hL.1
  have hl := hL.2.1
  have c0 := h1.cell 0
  simp only [List.getElem?_toArray, List.getElem?_cons_zero] at c0
  obtain ⟨w1, w2, w3, w4⟩ := decWhich_is hG hL
  have HWl := Lib.hid w2
  have HW : RowKit.Hid (findP l (decAt d l.sum) = decWhich d l) := rfl
  have hbd : ∀ j, j < l.length → 0 ≤ l.getD j 0 ∧ l.getD j 0 ≤ 4294967295 := fun j hj => by have := HL.out.own hj; omega
  have HB := Lib.hid hbd
  have HOk := Lib.hid (okP_sym hL w1)
  have HT := Lib.hid (sumN_all l)
  have hcell := HR.out.at_ w1
  have HS : RowKit.Hid (decSym b d l = decTake (byteF b) d (sumN l (decWhich d l)) (l.getD (decWhich d l) 0) l.sum) := rfl
  rw [HS.out]
  clear h1 h2 h3 hD hG hL hb hbd d2 w2 HS
  generalize l.getD (decWhich d l) 0 = X2 at hcell HOk ⊢
  generalize hs : decWhich d l = s at w1 HWl HW HOk hcell ⊢
  clear hs
  have hsl : (s : Int) < (l.length : Int) := by omega
  go_enter Tryz.func95, Tryz.ntmps95
  go_wp2_with (first | (go_at_call 93; go_loud (refine (refSum_at b2 mg mr l false l.length _ _ (by omega) HR.out (by omega) hl HB.out).mono ?_); rintro e5 w5 ⟨rfl, rfl⟩; rw [HT.out]) | (go_at_call 71; go_loud (refine (refDecAt_any base g v b d _ _ HD.out HG.out w3 w4).mono ?_); rintro e5 w5 ⟨rfl, n5, rfl⟩) | (go_at_call 130; go_loud (refine (refFind_any b2 mg mr l false _ _ (HR.out.drewN _) hl0 hl HB.out).mono ?_); rintro e6 w6 ⟨rfl, rfl⟩; rw [HW.out]))
  have hcell2 : (w.drewN n5).cell? ⟨mr, s, none⟩ = some (.int .i64 X2) := hcell
  have c02 : (w.drewN n5).cell? ⟨mg, 0, none⟩ = some (.slice (some ⟨mr, 0, none⟩) l.length cm) := c0
  have HDq := Lib.hid (HD.out.drewN n5)
  have HRq := Lib.hid (HR.out.drewN n5)
  have HKq := Lib.hid ((Keeps.refl (fun j => j = g ∨ j = mr) w).drewN n5)
  clear c0 hcell
  generalize w.drewN n5 = wq at hcell2 c02 HDq HRq HKq ⊢
  go_still_tail 12, (by kernel_rfl)
  still_call ((refSum_at b2 mg mr l false s _ _ (by omega) (HRq.out.drewN 1) (by omega) hl HB.out).mono fun _ _ h => ⟨h.1, h.2.symm⟩)
  repeat still_step
  refine wpStill_nil ?_
  change wpList _ _ _ _ _ wq.drew
  clear c02 hcell2
  have HDd : RowKit.Hid (DecMem wq.drew base g v b d) := HDq.out.drewN 1
  have HRd : RowKit.Hid (RefMod wq.drew b2 mg mr l false) := HRq.out.drewN 1
  generalize hX1 : sumN l s = X1 at HWl HOk ⊢
  have HX1 := Lib.hid hX1
  clear hX1
  go_wp2_with (first | (go_at_call 72; go_loud (refine (refDecTake_any base g v b d _ _ _ _ HDd.out HBy.out hbl hi HG.out HOk.out HWl.out).mono ?_); rintro e5 w5 ⟨rfl, hm, hk⟩; have HM5 := Lib.hid hm; have HK5 := Lib.hid hk; have HR5 := Lib.hid (HRd.out.keeps hk d1 d3); clear hm hk) | (go_at_call 94; go_loud (refine (refLearn_any b2 mg mr l s _ HR5.out HL.out w1).mono ?_); rintro e6 w6 ⟨rfl, hm, hk6⟩; have HM6 := Lib.hid hm; have HK6 := Lib.hid hk6; clear hm hk6))
  go_ret
  rw [HX1.out]
  refine ⟨rfl, HM5.out.keeps HK6.out (by omega) (fun k hk => (H2.out k hk).2), HM6.out, ((HKq.out.drewN 1).trans (HK5.out.mono fun k h => by omega)).trans (HK6.out.mono fun k h => by omega)⟩

/-- The number of so many bits, the highest twelve first, behind those that were read. -/
def decBits (b : List Int) (d : DecS) (n : Int) (wide : Nat) : Int × DecS :=
  if wide = 0 then (n, d) else if wide ≤ 12 then (n * P2 wide + decAt d (P2 wide), decTake (byteF b) d (decAt d (P2 wide)) 1 (P2 wide)) else
    let f := decTake (byteF b) d (decAt d 4096) 1 4096
    let m := n * 4096 + decAt d 4096
    if wide ≤ 24 then (m * P2 (wide - 12) + decAt f (P2 (wide - 12)), decTake (byteF b) f (decAt f (P2 (wide - 12))) 1 (P2 (wide - 12))) else (m, f)
theorem decBits_zero (b : List Int) (d : DecS) (n : Int) : decBits b d n 0 = (n, d) := rfl
theorem decBits_low (b : List Int) (d : DecS) (n : Int) {wide : Nat} (h0 : 0 < wide) (h1 : wide ≤ 12) : decBits b d n wide = (n * P2 wide + decAt d (P2 wide), decTake (byteF b) d (decAt d (P2 wide)) 1 (P2 wide)) := by
  unfold decBits; rw [if_neg (by omega), if_pos h1]
theorem decBits_high (b : List Int) (d : DecS) (n : Int) {wide : Nat} (h0 : 12 < wide) (h1 : wide ≤ 24) : decBits b d n wide = decBits b (decTake (byteF b) d (decAt d 4096) 1 4096) (n * 4096 + decAt d 4096) (wide - 12) := by
  rw [decBits_low _ _ _ (show 0 < wide - 12 by omega) (by omega)]
  unfold decBits; rw [if_neg (by omega), if_neg (by omega), if_pos h1]
def DecBitsPost (base g : Nat) (v : Value) (b : List Int) (n : Int) (d : DecS) (w : World) (x : Ending) (w' : World) : Prop :=
  x = .returned (.int .i64 n) ∧ DecMem w' base g v b d ∧ Keeps (fun j => j = g) w w'
theorem decTake_i (b : Nat → Int) (d : DecS) (low own all : Int) : (decTake b d low own all).i ≤ d.i + 2 := by
  unfold decTake scaleD
  have h : (decPre d low own all).i = d.i := rfl
  split
  · omega
  · split <;> simp only <;> omega

set_option maxHeartbeats 1000000 in
set_option maxRecDepth 100000 in
theorem refDecBits_any (base g : Nat) (v : Value) (b : List Int) (d : DecS) (wide : Nat) (w : World) (hD : DecMem w base g v b d) (hb : ∀ j, 0 ≤ byteF b j ∧ byteF b j ≤ 255) (hbl : b.length ≤ 1000000) (hi : d.i ≤ 4000000) (hG : GoodD d) (hw : wide ≤ 24) :
    Calls Tryz.prog 38 #[.pointer (some ⟨g, 0, none⟩), .int .i64 wide] w (DecBitsPost base g v b (decBits b d 0 wide).1 (decBits b d 0 wide).2 w) := by
  have HBy := Lib.hid hb
  obtain ⟨R, hR⟩ : ∃ R, R = decBits b d 0 wide := ⟨_, rfl⟩
  rw [← hR]
  have H0 : RowKit.Hid (decBits b d 0 wide = R ∧ GoodD d ∧ DecMem w base g v b d ∧ Keeps (fun j => j = g) w w ∧ (0 : Int) < P2 (wide - wide)) := ⟨hR.symm, hG, hD, Keeps.refl _ _, by rw [Nat.sub_self]; decide⟩
  clear hD hG hb hR
  go_enter Tryz.func38, Tryz.ntmps38
  go_wp2
  go_loopw [1, 5, 6, 7] (fun q n _ _ wr => ∃ (k : Nat) (f : DecS) (m : Int), k ≤ wide ∧ q = .int .i64 k ∧ n = .int .i64 m ∧ 0 ≤ m ∧ f.i ≤ d.i + 3 * (wide - k) ∧ RowKit.Hid (decBits b f m k = R ∧ GoodD f ∧ DecMem wr base g v b f ∧ Keeps (fun j => j = g) w wr ∧ m < P2 (wide - k))) (fun q _ _ _ _ => (intOf q).toNat)
  case atStart => exact ⟨wide, d, 0, by omega, rfl, rfl, by omega, by omega, H0.out⟩
  case round =>
    obtain ⟨k, f, m, hk, rfl, rfl, hm0, hfi, H⟩ := hrel
    clear H0
    obtain ⟨u1, u2, u3, u4, u5⟩ := H.out
    have hm1 : m ≤ 16777215 := by
      have := P2_mono (a := wide - k) (b := 24) (by omega)
      rw [show P2 24 = 16777216 by decide] at this
      omega
    have HM := Lib.hid u3
    have HGf := Lib.hid u2
    clear u1 u2 u3 u4 u5
    by_cases hlt : 0 < k
    · by_cases hq12 : 12 < k
      · obtain ⟨a0, a1, a2⟩ := decAt_bd HGf.out (show (1 : Int) ≤ 4096 by decide) (by decide)
        have HOk : RowKit.Hid (OkP (decAt f 4096) 1 4096) := ⟨by decide, by decide, by decide, a0, by omega⟩
        have HLow := Lib.hid a2
        have HE : RowKit.Hid (decBits b f m k = decBits b (decTake (byteF b) f (decAt f 4096) 1 4096) (m * 4096 + decAt f 4096) (k - 12)) := decBits_high b f m hq12 (by omega)
        have h12 : P2 12 = 4096 := by decide
        clear a2
        go_wp2_with (first | (go_at_call 56; go_loud (refine (refPower_at 12 _ _ (by omega) (by omega)).mono ?_); rintro e5 w5 ⟨rfl, rfl⟩; rw [h12]) | (go_at_call 71; go_loud (refine (refDecAt_any base g v b f _ _ HM.out HGf.out (by omega) (by omega)).mono ?_); rintro e5 w5 ⟨rfl, n5, rfl⟩) | (go_at_call 72; go_loud (refine (refDecTake_any base g v b f (decAt f 4096) 1 4096 _ (HM.out.drewN _) HBy.out hbl (by omega) HGf.out HOk.out HLow.out).mono ?_); rintro e6 w6 ⟨rfl, hm6, hk6⟩; have HM6 := Lib.hid hm6; have HK6 := Lib.hid hk6; clear hm6 hk6))
        go_roundw
        case rel =>
          have h2 := decTake_i (byteF b) f (decAt f 4096) 1 4096
          refine ⟨(k - 12), _, _, by omega, by go_num, rfl, by omega, by omega, ?_, (decTake_good HBy.out HGf.out HOk.out HLow.out).1, HM6.out, (H.out.2.2.2.1.drewN _).trans HK6.out, ?_⟩
          · exact HE.out.symm.trans H.out.1
          · have h5 := H.out.2.2.2.2
            rw [show wide - (k - 12) = (wide - k) + 12 by omega, P2_add, h12]; omega
        case measure => simp [intOf] <;> omega
      · have pk := P2_pos k
        have qk := P2_mono (a := k) (b := 12) (by omega)
        rw [show P2 12 = 4096 by decide] at qk
        obtain ⟨a0, a1, a2⟩ := decAt_bd HGf.out (show 1 ≤ P2 k by omega) (show P2 k ≤ 8192 by omega)
        have HOk : RowKit.Hid (OkP (decAt f (P2 k)) 1 (P2 k)) := ⟨by omega, by omega, by decide, a0, by omega⟩
        have HLow := Lib.hid a2
        have HE : RowKit.Hid (decBits b f m k = (m * P2 k + decAt f (P2 k), decTake (byteF b) f (decAt f (P2 k)) 1 (P2 k))) := decBits_low b f m hlt (by omega)
        have v0 : 0 ≤ m * P2 k := Int.mul_nonneg hm0 (by omega)
        have v1 : m * P2 k ≤ m * 4096 := Int.mul_le_mul_of_nonneg_left qk hm0
        clear a2
        go_wp2_with (first | (go_at_call 56; go_loud (refine (refPower_at k _ _ (by omega) (by omega)).mono ?_); rintro e5 w5 ⟨rfl, rfl⟩) | (go_at_call 71; go_loud (refine (refDecAt_any base g v b f _ _ HM.out HGf.out (by omega) (by omega)).mono ?_); rintro e5 w5 ⟨rfl, n5, rfl⟩) | (go_at_call 72; go_loud (refine (refDecTake_any base g v b f (decAt f (P2 k)) 1 (P2 k) _ (HM.out.drewN _) HBy.out hbl (by omega) HGf.out HOk.out HLow.out).mono ?_); rintro e6 w6 ⟨rfl, hm6, hk6⟩; have HM6 := Lib.hid hm6; have HK6 := Lib.hid hk6; clear hm6 hk6))
        go_roundw
        case rel =>
          have h2 := decTake_i (byteF b) f (decAt f (P2 k)) 1 (P2 k)
          refine ⟨0, _, _, by omega, by go_num, rfl, by omega, by omega, ?_, (decTake_good HBy.out HGf.out HOk.out HLow.out).1, HM6.out, (H.out.2.2.2.1.drewN _).trans HK6.out, ?_⟩
          · exact HE.out.symm.trans H.out.1
          · have h5 := H.out.2.2.2.2
            rw [show wide - 0 = (wide - k) + k by omega, P2_add]; have := Int.mul_le_mul_of_nonneg_right (show m + 1 ≤ P2 (wide - k) by omega) (show 0 ≤ P2 k by omega); rw [Int.add_mul, Int.one_mul] at this; omega
        case measure => simp [intOf] <;> omega
    · obtain rfl : k = 0 := by omega
      go_wp2
      go_ret
      obtain ⟨u1, u2, u3, u4, u5⟩ := H.out
      rw [decBits_zero] at u1
      subst u1
      exact ⟨rfl, u3, u4⟩
end Go.Proofs.YtobhoecmmpijgaaGreat

/- Plain facts of the range coder: whole symbols and whole bits come back, one behind the other. Nothing here speaks of the program. -/
namespace Go.Proofs.YtobhoecmmpijgaaGreat
open Go
set_option linter.unusedVariables false

/-- A symbol comes back. -/
theorem sym_back {b : List Int} {e f : EncS} {d : DecS} {l : List Int} {s : Nat} (hs : Sync (byteF b) e d) (hg : GoodE e) (hl : GoodL l) (hsl : s < l.length) (hi : Inside (encSym e l s) f) (hf : 1 ≤ f.s) (hd : DigOf (byteF b) f) :
    decWhich d l = s ∧ Sync (byteF b) (encSym e l s) (decSym b d l) := by
  obtain ⟨a1, a2, a3⟩ := comes_back hs hg (okP_sym hl hsl) hi hf hd
  have hw : decWhich d l = s := by
    unfold decWhich
    refine findP_eq hl.2.2.1 hsl a1 ?_
    rw [sumN_succ l s hsl]; exact a2
  refine ⟨hw, ?_⟩
  unfold decSym
  rw [hw]; exact a3
/-- Bits come back: a number of no more bits than are told. -/
theorem bits_back {b : List Int} {e f : EncS} {d : DecS} {n : Int} {wide : Nat} (hs : Sync (byteF b) e d) (hg : GoodE e) (hw : wide ≤ 24) (n0 : 0 ≤ n) (n1 : n < P2 wide) (hi : Inside (encBits e n wide) f) (hf : 1 ≤ f.s) (hd : DigOf (byteF b) f) :
    (decBits b d 0 wide).1 = n ∧ Sync (byteF b) (encBits e n wide) (decBits b d 0 wide).2 := by
  by_cases h0 : wide = 0
  · subst h0
    rw [decBits_zero, encBits_zero]
    have : P2 0 = 1 := rfl
    exact ⟨by omega, hs⟩
  · by_cases h1 : wide ≤ 12
    · rw [encBits_low e n (by omega) h1] at hi ⊢
      rw [decBits_low b d 0 (by omega) h1]
      obtain ⟨a1, a2, a3⟩ := comes_back hs hg (okP_bit h1 (bit_part n).1 (bit_part n).2) hi hf hd
      have e1 : n % P2 wide = n := Int.emod_eq_of_lt n0 n1
      have ha : decAt d (P2 wide) = n % P2 wide := by omega
      simp only
      rw [ha]
      exact ⟨by rw [e1]; omega, a3⟩
    · rw [encBits_high e n (by omega) hw] at hi ⊢
      rw [decBits_high b d 0 (by omega) hw]
      have hg1 := encPut_good hg (okP_12 (n / P2 (wide - 12)))
      have hi1 : Inside (encPut e (n / P2 (wide - 12) % 4096) 1 4096) f := (encBits_inside hg1 (by omega)).trans hi
      obtain ⟨a1, a2, a3⟩ := comes_back hs hg (okP_12 (n / P2 (wide - 12))) hi1 hf hd
      have ha : decAt d 4096 = n / P2 (wide - 12) % 4096 := by omega
      rw [ha]
      rw [encBits_low _ n (show 0 < wide - 12 by omega) (by omega)] at hi ⊢
      rw [decBits_low b _ _ (show 0 < wide - 12 by omega) (by omega)]
      obtain ⟨c1, c2, c3⟩ := comes_back a3 hg1 (okP_bit (by omega) (bit_part n).1 (bit_part n).2) hi hf hd
      have hb : decAt (decTake (byteF b) d (n / P2 (wide - 12) % 4096) 1 4096) (P2 (wide - 12)) = n % P2 (wide - 12) := by omega
      simp only
      rw [hb]
      refine ⟨?_, c3⟩
      have p := P2_pos (wide - 12)
      have hP : P2 wide = P2 (wide - 12) * 4096 := by
        have := P2_add (wide - 12) 12
        rw [show wide - 12 + 12 = wide by omega, show P2 12 = 4096 by decide] at this
        exact this
      have q0 : 0 ≤ n / P2 (wide - 12) := Int.ediv_nonneg n0 (by omega)
      have q1 : n / P2 (wide - 12) < 4096 := by rw [Int.ediv_lt_iff_lt_mul (by omega), Int.mul_comm, ← hP]; exact n1
      rw [Int.emod_eq_of_lt q0 q1, Int.zero_mul, Int.zero_add]
      exact Int.ediv_mul_add_emod n _
/-- The digits that an encoder's bytes tell, with whatever stands behind them from the (k + 4)-th on. -/
theorem digOf_bytes {f : EncS} {b : List Int} (hg : GoodE f) (hb : ∀ j, j < f.k + 4 → byteF b j = digB f.n (f.k + 4) j) : DigOf (byteF b) f := by
  have hl : f.n < P256 (f.k + 4) := by
    rw [show f.k + 4 = f.k + 1 + 1 + 1 + 1 by omega, P256_succ, P256_succ, P256_succ, P256_succ]
    have := hg.1
    have := hg.2.2.2
    omega
  exact valB_dig hg.2.2.1 hl hb
end Go.Proofs.YtobhoecmmpijgaaGreat

/- What the document's encoder of layer 6 gives: a new one, its bytes. -/
namespace Go.Proofs.YtobhoecmmpijgaaGreat
open Go.RowKit
set_option linter.unusedVariables false

theorem refEncNew_any (w : World) :
    Calls Tryz.prog 25 #[] w fun x w' => x = .returned (.pointer (some ⟨w.heap.size + 1, 0, none⟩)) ∧ EncMem w' w.heap.size (w.heap.size + 1) w.heap.size 4 (digL 0 4) 4294967295 0 ∧ Below w.heap.size w w' := by
  have HB := Lib.hid ((Below.alloc_new w (.cells #[.int .i64 0, .int .i64 0, .int .i64 0, .int .i64 0] 3)).alloc (by simp) (.cells #[.slice (some ⟨w.heap.size, 0, none⟩) 4 4, .int .i64 4294967295, .int .i64 0] 124))
  have HO := Lib.hid (World.ownsRow.alloc (World.ownsRow_lit (base := w.heap.size) (e := 3) (size := 1) w #[.int .i64 0, .int .i64 0, .int .i64 0, .int .i64 0] 4 (Nat.le_refl _) (by decide) rfl) (.cells #[.slice (some ⟨w.heap.size, 0, none⟩) 4 4, .int .i64 4294967295, .int .i64 0] 124))
  have hc := Cel.new (w.alloc (.cells #[.int .i64 0, .int .i64 0, .int .i64 0, .int .i64 0] 3)) 124 #[.slice (some ⟨w.heap.size, 0, none⟩) 4 4, .int .i64 4294967295, .int .i64 0]
  have e1 : (w.alloc (.cells #[.int .i64 0, .int .i64 0, .int .i64 0, .int .i64 0] 3)).heap.size = w.heap.size + 1 := by simp
  rw [e1] at hc
  have HC := Lib.hid hc
  clear hc e1
  go_enter Tryz.func25, Tryz.ntmps25
  go_wp2
  go_ret
  exact ⟨rfl, ⟨HC.out, HO.out, Nat.le_succ _⟩, HB.out⟩

/-! ### Bytes -/
/-- The last of the first k digits that isn't 0. -/
def lastK (D : List Int) : Nat → Int
  | 0 => -1
  | k + 1 => if D.getD k 0 = 0 then lastK D k else k
theorem lastK_bd (D : List Int) (k : Nat) : -1 ≤ lastK D k ∧ lastK D k < k := by
  induction k with
  | zero => exact ⟨Int.le_refl _, by show (-1 : Int) < 0; decide⟩
  | succ k ih => unfold lastK; split <;> omega
theorem lastK_over {D : List Int} : ∀ k j : Nat, lastK D k < j → j < k → D.getD j 0 = 0 := by
  intro k
  induction k with
  | zero => intro j _ h; omega
  | succ k ih =>
    intro j h1 h2
    unfold lastK at h1
    by_cases e : D.getD k 0 = 0
    · rw [if_pos e] at h1
      by_cases ej : j = k
      · subst ej; exact e
      · exact ih j h1 (by omega)
    · rw [if_neg e] at h1; omega
/-- Digits as bytes: without noughts behind. -/
def bytesL (D : List Int) : List Int := D.take (lastK D D.length + 1).toNat
theorem bytesL_len (D : List Int) : (bytesL D).length = (lastK D D.length + 1).toNat := by
  have := lastK_bd D D.length
  unfold bytesL; simp; omega
theorem info_u806 : (Tryz.prog.info? 5).map (fun i => (i.zero, i.size, i.bytes)) = some (some (.int .u8 0), 1, 1) := by kernel_rfl

end Go.Proofs.YtobhoecmmpijgaaGreat

/- What the document's coder of layers 6 and 7 gives: a decoder of bytes. -/
namespace Go.Proofs.YtobhoecmmpijgaaGreat
open Go.RowKit
set_option linter.unusedVariables false

/-- With noughts behind them bytes are the digits. -/
theorem bytesL_get (D : List Int) (j : Nat) : byteF (bytesL D) j = byteF D j := by
  unfold byteF
  have hb := lastK_bd D D.length
  by_cases h : j < (lastK D D.length + 1).toNat
  · unfold bytesL
    simp [List.getD, h]
  · have e : (bytesL D).getD j 0 = 0 := by
      rw [List.getD, List.getElem?_eq_none (by rw [bytesL_len]; omega)]; rfl
    rw [e]
    by_cases hj : j < D.length
    · exact (lastK_over D.length j (by omega) hj).symm
    · rw [List.getD, List.getElem?_eq_none (by omega)]; rfl

/-! ### A decoder of bytes -/
def OpenPost (b : List Int) (w : World) (x : Ending) (w' : World) : Prop := ∃ g v, x = .returned (.pointer (some ⟨g, 0, none⟩)) ∧ DecMem w' w.heap.size g v b (decNew (byteF b)) ∧ Below w.heap.size w w'

set_option maxRecDepth 100000 in
theorem refOpen_any (a : Option Addr) (len cap : Nat) (b : List Int) (w : World) (h : IntsAt w w.heap.size .u8 a len b) (hn : a = none → cap = 0) (hb : ∀ j, 0 ≤ byteF b j ∧ byteF b j ≤ 255) (hl : len ≤ 1000000) :
    Calls Tryz.prog 33 #[.slice a len cap] w (OpenPost b w) := by
  have HI := Lib.hid h
  have HN := Lib.hid hn
  have HB := Lib.hid hb
  have hbl := Lib.hid h.1
  have hown0 := Lib.hid (World.ownsRow_lit (base := w.heap.size) (e := 5) (size := 1) w #[] 0 (Nat.le_refl _) (by decide) rfl)
  have hbel0 := Lib.hid (Below.alloc_new w (.cells #[] 5))
  clear h hn hb
  go_enter Tryz.func33, Tryz.ntmps33
  go_wp2_with (at_builtin; go_loud (refine append_ints rfl _ _ 37 rfl w.heap.size 5 .u8 1 Tryz.underlying37 info_u806 _ 0 [] rfl hown0.out a len cap w.heap.size b rfl (HI.out.below hbel0.out) HN.out ?c1 ?c2 (by simp) ?_))
  case c1 => unfold maxLen; omega
  case c2 => omega
  intro v2 w2 hown hgrow _
  obtain ⟨a2, cp2, rfl⟩ := own_form (zs := b) (by simpa using hown)
  have hown2 : w2.ownsRow w.heap.size 5 1 (.slice a2 len cp2) len (b.map (Value.int .u8)) := by simpa using hown
  have hb2 : Below w.heap.size w w2 := hbel0.out.grown hgrow (by simp) (own_base hown0.out)
  have H0 : RowKit.Hid (DecMem (w2.alloc (.cells #[.slice a2 len cp2, .int .i64 0, .int .i64 0, .int .i64 4294967295] 133)) w.heap.size w2.heap.size (.slice a2 len cp2) b ⟨valB (byteF b) 0, 4294967295, 0⟩ ∧ Below w.heap.size w (w2.alloc (.cells #[.slice a2 len cp2, .int .i64 0, .int .i64 0, .int .i64 4294967295] 133))) :=
    ⟨⟨Cel.new w2 _ _, by rw [hbl.out]; exact World.ownsRow.alloc hown2 _, hb2.size⟩, hb2.alloc hb2.size _⟩
  have hsz := hb2.size
  clear hown hown2 hgrow hb2
  go_wp2
  generalize hgg : w2.heap.size = g at H0 hsz ⊢
  clear hgg
  go_loopw [4] (fun i wr => ∃ q : Nat, q ≤ 4 ∧ i = .int .i64 q ∧ RowKit.Hid (DecMem wr w.heap.size g (.slice a2 len cp2) b ⟨valB (byteF b) q, 4294967295, q⟩ ∧ Below w.heap.size w wr ∧ valB (byteF b) q < P256 q ∧ 0 ≤ valB (byteF b) q)) (fun i _ => 4 - (intOf i).toNat)
  case atStart => exact ⟨0, by omega, rfl, H0.out.1, H0.out.2, by show (0 : Int) < 1; decide, Int.le_refl 0⟩
  case round =>
    obtain ⟨q, hq, rfl, H⟩ := hrel
    clear H0
    by_cases hlt : q < 4
    · have hv1 : valB (byteF b) q ≤ 16777215 := by
        have h1 := H.out.2.2.1
        have : q = 0 ∨ q = 1 ∨ q = 2 ∨ q = 3 := by omega
        rcases this with rfl | rfl | rfl | rfl
        · have e : P256 0 = 1 := by decide
          omega
        · have e : P256 1 = 256 := by decide
          omega
        · have e : P256 2 = 65536 := by decide
          omega
        · have e : P256 3 = 16777216 := by decide
          omega
      have hbq := HB.out q
      go_wp2_with (go_at_call 62; go_loud (refine (refDecNext_any w.heap.size g _ b ⟨valB (byteF b) q, 4294967295, q⟩ _ H.out.1 HB.out (by rw [hbl.out]; exact hl) H.out.2.2.2 (by simp only; omega) (by simp only; omega)).mono ?_); rintro e5 w5 ⟨rfl, hm, hk⟩; have HM5 := Lib.hid hm; have HB5 := Lib.hid (H.out.2.1.trans (hk.below H.out.2.1.size (fun k h => by omega))); clear hm hk)
      go_roundw
      case rel =>
        have h1 := H.out.2.2.1
        have h2 := H.out.2.2.2
        refine ⟨q + 1, by omega, by go_num, HM5.out, HB5.out, ?_, ?_⟩
        · show valB (byteF b) q * 256 + byteF b q < P256 (q + 1)
          rw [P256_succ]; omega
        · show 0 ≤ valB (byteF b) q * 256 + byteF b q
          omega
      case measure => simp [intOf] <;> omega
    · obtain rfl : q = 4 := by omega
      go_wp2
      go_ret
      exact ⟨g, _, rfl, H.out.1, H.out.2.1⟩
end Go.Proofs.YtobhoecmmpijgaaGreat
