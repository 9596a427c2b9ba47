/- The walk of RangedecAgain. -/
import Derived.Test.YteffkhpofiloiaaRdcT
import Derived.Test.YteffkhpofiloiaaMemZ
import Derived.Deep.CutBlock
import Derived.Deep.DeepCutAuto
namespace Go.Proofs.Yteffkhpofiloiaa
open Go.RowKit
set_option linter.unusedVariables false
set_option linter.unusedSimpArgs false

set_option maxRecDepth 100000 in
theorem rangedecAgain_many (size : Int) (a : Option Addr) (len cap : Nat) (a2 : Option Addr) (len2 cap2 : Nat) (w : World) (hm : len ≤ 9223372036854775807) (hm2 : len2 ≤ 9223372036854775807) (h : 400 < len ∨ 50 < len2) :
    Calls Try.prog 4 #[.int .u8 size, .slice a len cap, .slice a2 len2 cap2] w fun e w' => e = .returned (.bool true) ∧ Below w.heap.size w w' := by
  have hB := Lib.hid (Below.refl w.heap.size w)
  by_cases h1 : 400 < len
  · have hd : decide ((400 : Int) < (len : Int)) = true := by simp; omega
    clear h h1
    go_enter Try.func4, Try.ntmps4
    go_wp2_with (go_at_call 6; refine (lives07_any _).mono ?_; rintro e w1 ⟨rfl, hb⟩; replace hB := Lib.hid (chain hB.out hb); clear hb)
    go_ret
    exact ⟨rfl, hB.out⟩
  · have hd : decide ((400 : Int) < (len : Int)) = false := by simp; omega
    have hd2 : decide ((50 : Int) < (len2 : Int)) = true := by simp; omega
    clear h h1
    go_enter Try.func4, Try.ntmps4
    go_wp2_with (go_at_call 6; refine (lives07_any _).mono ?_; rintro e w1 ⟨rfl, hb⟩; replace hB := Lib.hid (chain hB.out hb); clear hb)
    go_ret
    exact ⟨rfl, hB.out⟩

set_option maxHeartbeats 4000000 in
set_option maxRecDepth 100000 in
theorem rangedecAgain_law (size : Int) (a : Option Addr) (len cap : Nat) (zs : List Int) (a2 : Option Addr) (len2 cap2 : Nat) (ts : List Int) (w : World) (w0 : (Lit.int .u8 size).wf = true) (hz0 : IntsAt w w.heap.size .u16 a len zs) (hzw : ∀ i, 0 ≤ zs.getD i 0 ∧ zs.getD i 0 ≤ 65535) (ht0 : IntsAt w w.heap.size .u8 a2 len2 ts) (htw : IsDig ts) (hn2 : a2 = none → cap2 = 0) (h : len ≤ 400) (h2 : len2 ≤ 50) :
    Calls Try.prog 4 #[.int .u8 size, .slice a len cap, .slice a2 len2 cap2] w fun e w' => e = .returned (.bool true) ∧ Below w.heap.size w w' := by
  have hd : decide ((400 : Int) < (len : Int)) = false := by simp; omega
  have hd2 : decide ((50 : Int) < (len2 : Int)) = false := by simp; omega
  have HZ := Lib.hid hz0
  have HT := Lib.hid ht0
  have HN := Lib.hid hn2
  have HZw := Lib.hid hzw
  have HTd := Lib.hid htw
  have hB := Lib.hid (Below.refl w.heap.size w)
  obtain ⟨s0, s1⟩ := bounds_u8 w0
  obtain ⟨n, hn⟩ : ∃ n : Nat, 1 + size % 64 = n := ⟨(1 + size % 64).toNat, by omega⟩
  have n1 : 1 ≤ n := by omega
  have n2 : n ≤ 64 := by omega
  have HG := Lib.hid (goodL_ones n1 n2)
  have HGe := Lib.hid goodE_new
  have HAll : RowKit.Hid (∀ j, GoodE (putAll n zs j).1 ∧ GoodL (putAll n zs j).2 ∧ (putAll n zs j).2.length = n ∧ (putAll n zs j).1.k ≤ 6 * j) := putAll_good n1 n2
  clear w0 hz0 hzw ht0 htw hn2
  go_enter Try.func4, Try.ntmps4
  go_wp2_with (first
    | (go_at_call 6; refine (lives07_any _).mono ?_; rintro e w1 ⟨rfl, hb⟩; replace hB := Lib.hid (chain hB.out hb); clear hb)
    | (go_at_call 7; have hq := HM2.out; go_loud (refine (modNew_at n _ _ rfl n1 n2).mono ?_); rintro e w3 ⟨og, rfl, hg, hm, hb⟩; have HO3 := Lib.hid hm; have HM3 := Lib.hid (hq.below hb); have hb3 := HB2.out.size; have HB3 := Lib.hid (HB2.out.trans (hb.mono HB2.out.size)); have hgo := Nat.le_trans hgl hg; have hol := hm.lt; have hos := Nat.le_trans hb3 hg; have hmo : mg ≠ og := (by omega); have hms : mg < w3.heap.size := Nat.lt_of_lt_of_le hgl hb.size; clear hm hb hq HM2 HB2 hg)
    | (go_at_call 7; go_loud (refine (modNew_at n _ _ rfl n1 n2).mono ?_); rintro e w2 ⟨mg, rfl, hg, hm, hb⟩; have HM2 := Lib.hid hm; have HB2 := Lib.hid (hB.out.trans (hb.mono hB.out.size)); have hg1 := Nat.le_trans hB.out.size hg; have hgl := hm.lt; clear hm hb hB hg)
    | (go_at_call 16; go_loud (refine (rncNew_any _).mono ?_); rintro e w4 ⟨rfl, hm, hb⟩; have HS : RowKit.Hid (StE w mg og w3.heap.size w3.heap.size n (.slice none 0 0) w4 (List.replicate n 1) encNew) := ⟨HM3.out.below hb, HO3.out.below hb, hm, HG.out, HGe.out, (by simp), HB3.out.trans (hb.mono HB3.out.size), hg1, hmo, hms, hos, hol⟩; clear hm hb HM3 HO3 HB3))
  obtain ⟨be, hbe⟩ : ∃ be, be = w3.heap.size := ⟨_, rfl⟩
  rw [← hbe] at HS hol hms ⊢
  clear hbe
  go_loopw [64] (fun i wr => ∃ (j : Nat) (v : Value), j ≤ len ∧ i = .int .i64 j ∧ RowKit.Hid (StE w mg og be be n v wr (putAll n zs j).2 (putAll n zs j).1)) (fun i _ => len - (intOf i).toNat)
  case atStart => exact ⟨0, _, by omega, rfl, HS.out⟩
  case round =>
    obtain ⟨j, v, hj, rfl, H⟩ := hrel
    clear HS
    by_cases hlt : j < len
    · obtain ⟨b', off, rfl, hbB, _, hcell⟩ := HZ.out.at_ hlt
      have hx := (H.out.b.cell (p := ⟨b', off + j, none⟩) hbB).trans hcell
      obtain ⟨x0, x1⟩ := HZw.out j
      clear hcell
      have hjl : (j : Int) < (len : Int) := by omega
      obtain ⟨q1, q2, q3, q4⟩ := HAll.out j
      have hsl : (zs.getD j 0 % n).toNat < (putAll n zs j).2.length := by rw [q3]; exact sym_lt n1 _
      obtain ⟨r1, r2, r3, _⟩ := HAll.out (j + 1)
      rw [putAll_succ] at r1 r2 r3
      have HNx : RowKit.Hid (putAll n zs (j + 1) = (putC n (putAll n zs j).1 (putAll n zs j).2 (zs.getD j 0), learnP (putAll n zs j).2 (zs.getD j 0 % n).toNat)) := rfl
      have hk8 : (putAll n zs j).1.k ≤ 800000 := by omega
      have g1 := encSym_good q1 q2 hsl
      have k1 := encSym_k (putAll n zs j).1 (putAll n zs j).2 (zs.getD j 0 % n).toNat
      generalize (putAll n zs j).1 = E at H q1 q4 hk8 g1 k1 r1 HNx
      generalize (putAll n zs j).2 = L at H q2 q3 hsl g1 k1 r1 r2 r3 HNx
      generalize zs.getD j 0 = c at hx x0 x1 hsl g1 k1 r1 r2 r3 HNx
      have c0 := Int.emod_nonneg c (b := (n : Int)) (by omega)
      obtain ⟨s, hs⟩ : ∃ s : Nat, c % (n : Int) = s := ⟨(c % (n : Int)).toNat, by omega⟩
      rw [hs, Int.toNat_natCast] at hsl g1 k1 r2 r3 HNx
      have hputC : putC n E L c = if c % 3 = 0 then encBits (encSym E L s) c 16 else encSym E L s := by unfold putC; rw [hs, Int.toNat_natCast]
      rw [hputC] at r1 HNx
      clear hputC
      have HP : RowKit.Hid (∀ wx vx, StE w mg og be be n vx wx L E → Calls Try.prog 17 #[.pointer (some ⟨be, 0, none⟩), .pointer (some ⟨mg, 0, none⟩), .int .i64 s] wx (SymPostP be be vx mg (encSym E L s) (learnP L s) false wx)) :=
        fun wx vx hx => rncSymbol_any be be vx mg E L false s wx hx.e hx.m q1 q2 hsl hk8
      have e1 : IntKind.i64.wrap c = c := IntWalk.i64_in _ (by omega)
      have e2 : c.tmod (n : Int) = (s : Int) := by rw [Int.tmod_eq_emod_of_nonneg x0]; exact hs
      have e3 : ¬ (n : Int) = 0 := by omega
      have e4 : IntKind.i64.wrap (s : Int) = s := IntWalk.i64_in _ (by omega)
      have e5 : IntKind.u32.wrap c = c := IntWalk.u32_in _ (by omega)
      have GE1 := Lib.hid g1
      have GL2 := Lib.hid r2
      have GLl := Lib.hid r3
      have hk1 : (encSym E L s).k ≤ 800000 := by omega
      clear q1 q2 q4 g1 r2 r3 k1 hsl hk8
      generalize learnP L s = L2 at HP GL2 GLl HNx
      generalize encSym E L s = E1 at HP GE1 hk1 r1 HNx
      by_cases hc : c % 3 = 0
      · rw [if_pos hc] at r1 HNx
        have hc1 : (c % 3 == 0) = true := by simpa using hc
        have HQ : RowKit.Hid (∀ wx vx, StE w mg og be be n vx wx L2 E1 → Calls Try.prog 18 #[.pointer (some ⟨be, 0, none⟩), .int .u32 c, .int .i64 16] wx (PutPost be be vx (encBits E1 c 16) (.int .i64 0) wx)) :=
          fun wx vx hx => rncBits_any be be vx E1 c 16 wx hx.e GE1.out x0 (by omega) (by decide) (by rw [P2_16]; omega) hk1
        have GE2 := Lib.hid r1
        clear r1
        generalize encBits E1 c 16 = E2 at HQ GE2 HNx
        go_wp2_with (first
          | (go_at_call 17; go_loud (with_reducible refine (HP.out _ _ H.out).mono ?_); rintro e7 w7 ⟨rfl, v7, he, hm, hk, ho⟩; have H2 := Lib.hid (H.out.prog hk he hm GL2.out GE1.out GLl.out); clear he hm hk ho)
          | (go_at_call 18; go_loud (with_reducible refine (HQ.out _ _ H2.out).mono ?_); rintro e8 w8 ⟨rfl, v8, he, hk, ho⟩; have H3 := Lib.hid (H2.out.progE hk he GE2.out); clear he hk ho))
        go_roundw
        case rel => exact ⟨j + 1, v8, by omega, by go_num, by rw [HNx.out]; exact H3.out⟩
        case measure => simp [intOf] <;> omega
      · rw [if_neg hc] at r1 HNx
        have hc1 : (c % 3 == 0) = false := by simpa using hc
        go_wp2_with (go_at_call 17; go_loud (with_reducible refine (HP.out _ _ H.out).mono ?_); rintro e7 w7 ⟨rfl, v7, he, hm, hk, ho⟩; have H2 := Lib.hid (H.out.prog hk he hm GL2.out GE1.out GLl.out); clear he hm hk ho)
        go_roundw
        case rel => exact ⟨j + 1, v7, by omega, by go_num, by rw [HNx.out]; exact H2.out⟩
        case measure => simp [intOf] <;> omega
    · obtain rfl : j = len := by omega
      have hlt2 : ¬ (j : Int) < (j : Int) := by omega
      obtain ⟨f1, f2, f3, f4, f5⟩ := putEnd_good (zs := zs) n1 n2 j
      have HFe : RowKit.Hid (putEnd n zs j = encBits (putAll n zs j).1 5 4) := rfl
      have HDg1 := Lib.hid (digOf_only f1)
      have HDg2 : RowKit.Hid (∀ m, (bytesL (digL (putEnd n zs j).n ((putEnd n zs j).k + 4))).length + m = (putEnd n zs j).k + 4 → DigOf (byteF (bytesL (digL (putEnd n zs j).n ((putEnd n zs j).k + 4)) ++ List.replicate m 0 ++ ts)) (putEnd n zs j)) := fun m hm => digOf_end f1 m ts hm
      have hb1 := bytesL_some f1 f5
      have hb2 := bytesL_le (putEnd n zs j)
      have HBd := Lib.hid (bytesL_dig (putEnd n zs j))
      have HBs : RowKit.Hid (∃ bs, bytesL (digL (putEnd n zs j).n ((putEnd n zs j).k + 4)) = bs) := ⟨_, rfl⟩
      obtain ⟨bs, hbs⟩ := HBs.out
      rw [hbs] at HDg1 HDg2 hb1 hb2 HBd
      have HB := Lib.hid hbs
      have HBt := Lib.hid (byteF_bd HBd.out)
      clear hbs HBs f1 f3 f4 f5
      have HSt : RowKit.Hid (∀ b k D, k ≤ j → InStep n zs b k D → DigOf (byteF b) (putEnd n zs j) → GoodD D ∧ D.i ≤ 6 * k + 4) := fun b k D hk h1 h2 => ⟨step_good n1 n2 hk h1 h2, step_i n1 n2 h1⟩
      have HBk : RowKit.Hid (∀ b k D, k < j → InStep n zs b k D → DigOf (byteF b) (putEnd n zs j) → decWhich D (putAll n zs k).2 = (zs.getD k 0 % n).toNat ∧ (zs.getD k 0 % 3 ≠ 0 → InStep n zs b (k + 1) (decSym b D (putAll n zs k).2)) ∧
          (zs.getD k 0 % 3 = 0 → GoodD (decSym b D (putAll n zs k).2) ∧ (decBits b (decSym b D (putAll n zs k).2) 0 16).1 = zs.getD k 0 ∧ InStep n zs b (k + 1) (decBits b (decSym b D (putAll n zs k).2) 0 16).2)) := fun b k D hk h1 h2 => step_back n1 n2 HZw.out hk h1 h2
      have HEn : RowKit.Hid (∀ b D, InStep n zs b j D → DigOf (byteF b) (putEnd n zs j) → (decBits b D 0 4).1 = 5) := fun b D h1 h2 => step_end n1 n2 h1 h2
      have hbl : bs.length ≤ 1000000 := by omega
      have hFk : (putEnd n zs j).k ≤ 900000 := by omega
      have hEk : (putAll n zs j).1.k ≤ 800000 := by have := (HAll.out j).2.2.2; omega
      have HQ5 : RowKit.Hid (∀ wx vx, StE w mg og be be n vx wx (putAll n zs j).2 (putAll n zs j).1 → Calls Try.prog 18 #[.pointer (some ⟨be, 0, none⟩), .int .u32 5, .int .i64 4] wx (PutPost be be vx (putEnd n zs j) (.int .i64 0) wx)) :=
        fun wx vx hx => rncBits_any be be vx _ 5 4 wx hx.e hx.ge (by decide) (by decide) (by decide) (by decide) hEk
      generalize putEnd n zs j = F at HDg1 HDg2 hb2 HB f2 HSt HBk HEn hFk HQ5
      clear HFe HGe hEk
      have HS := H
      clear H
      go_wp2_with (first
        | (go_at_call 18; go_loud (with_reducible refine (HQ5.out _ _ HS.out).mono ?_); rintro e4 w4 ⟨rfl, v4, he, hk, ho⟩; have HE4 := Lib.hid he; have hbel : Below w.heap.size w w4 := HS.out.b.trans (hk.below HS.out.b.size (by have hd := HS.out.d; have hw := HS.out.e.own; rintro q (c | c); omega; have := (hw q c).2.1; omega)); have HO4 := Lib.hid (HS.out.o.keeps hk (by have hd := HS.out.d; have hw := HS.out.e.own; rintro (c | c); omega; have := (hw _ c).2.1; omega)); have HB4 := Lib.hid hbel; clear he hk ho hbel)
        | (go_at_call 19; go_loud (with_reducible refine (rncBytes_at be be v4 F bs _ HE4.out hFk HB.out).mono ?_); rintro e5 w5 ⟨a5, c5, rfl, hI5, hb⟩; have HI5 := Lib.hid hI5; have HB5 := Lib.hid (HB4.out.trans (hb.mono HB4.out.size)); have HN5 := Lib.hid (show a5 = none → c5 = 0 from some_of_ints hI5 hb1); have HE5 := Lib.hid (HE4.out.below hb); have HO5 := Lib.hid (HO4.out.below hb); clear hI5 hb)
        | (go_at_call 9; go_loud (refine (drcNew_any a5 _ c5 bs _ HI5.out HN5.out HBt.out hbl).mono ?_); rintro e6 w6 ⟨gd, vd, rfl, hm, hb⟩; have HSD : RowKit.Hid (StD w og w5.heap.size gd n vd bs w6 (List.replicate n 1) (decNew (byteF bs))) := ⟨HO5.out.below hb, hm, HG.out, (by simp), HB5.out.trans (hb.mono HB5.out.size), hos, HB5.out.size⟩; have HSB : RowKit.Hid (StB be be w5.heap.size bs.length v4 a5 bs F w6) := ⟨HE5.out.below hb, HI5.out.below hb, hb.size, HE5.out.lt.1, fun r hr => (HE5.out.own r hr).1⟩; have hgd := hm.lt.2; clear hm hb))
      clear HI5 HB5 HE5 HO5 HB4 HE4 HO4 HQ5 HS
      go_loopw [94] (fun i wr => ∃ (k : Nat) (D : DecS), k ≤ j ∧ i = .int .i64 k ∧ RowKit.Hid (StD w og w5.heap.size gd n vd bs wr (putAll n zs k).2 D ∧ InStep n zs bs k D ∧ StB be be w5.heap.size bs.length v4 a5 bs F wr)) (fun i _ => j - (intOf i).toNat)
      case atStart => exact ⟨0, _, by omega, rfl, HSD.out, step_first n zs _, HSB.out⟩
      case round =>
        obtain ⟨k, D, hk, rfl, H⟩ := hrel
        clear HSD HSB
        obtain ⟨gd1, gd2⟩ := HSt.out _ _ _ hk H.out.2.1 HDg1.out
        by_cases hlt : k < j
        · obtain ⟨b', off, rfl, hbB, _, hcell⟩ := HZ.out.at_ hlt
          have hx := (H.out.1.b.cell (p := ⟨b', off + k, none⟩) hbB).trans hcell
          obtain ⟨x0, x1⟩ := HZw.out k
          have hkl : (k : Int) < (j : Int) := by omega
          obtain ⟨t1, t2, t3⟩ := HBk.out _ _ _ hlt H.out.2.1 HDg1.out
          obtain ⟨q1, q2, q3, q4⟩ := HAll.out k
          obtain ⟨r1, r2, r3, _⟩ := HAll.out (k + 1)
          rw [putAll_succ] at r2 r3
          have HNx : RowKit.Hid ((putAll n zs (k + 1)).2 = learnP (putAll n zs k).2 (zs.getD k 0 % n).toNat) := rfl
          have HSD := Lib.hid H.out.1
          have HSB := Lib.hid H.out.2.2
          clear hcell H r1 q1 q3 q4
          generalize (putAll n zs k).2 = L at HSD t1 t2 t3 q2 r2 r3 HNx
          generalize zs.getD k 0 = c at hx x0 x1 t1 t2 t3 r2 r3 HNx
          have c0 := Int.emod_nonneg c (b := (n : Int)) (by omega)
          obtain ⟨s, hs⟩ : ∃ s : Nat, c % (n : Int) = s := ⟨(c % (n : Int)).toNat, by omega⟩
          have sn := sym_lt n1 c
          rw [hs, Int.toNat_natCast] at t1 r2 r3 HNx sn
          have HP : RowKit.Hid (∀ wx, StD w og w5.heap.size gd n vd bs wx L D → Calls Try.prog 11 #[.pointer (some ⟨gd, 0, none⟩), .pointer (some ⟨og, 0, none⟩)] wx (DrcSymPost w5.heap.size gd vd bs og s (decSym bs D L) (learnP L s) wx)) := by
            intro wx hx
            have := drcSymbol_any w5.heap.size gd vd bs D og L wx hx.e hx.m HBt.out hbl (by omega) gd1 q2
            rw [t1] at this; exact this
          have gd3 := (decSym_good HBt.out gd1 q2).2
          have e1 : IntKind.i64.wrap c = c := IntWalk.i64_in _ (by omega)
          have e2 : c.tmod (n : Int) = (s : Int) := by rw [Int.tmod_eq_emod_of_nonneg x0]; exact hs
          have e3 : ¬ (n : Int) = 0 := by omega
          have e4 : IntKind.i64.wrap (s : Int) = s := IntWalk.i64_in _ (by omega)
          have e5 : IntKind.u32.wrap c = c := IntWalk.u32_in _ (by omega)
          have GL2 := Lib.hid r2
          have GLl := Lib.hid r3
          clear q2 r2 r3 t1
          generalize learnP L s = L2 at HP GL2 GLl HNx
          generalize decSym bs D L = D1 at HP t2 t3 gd3
          by_cases hc : c % 3 = 0
          · have hc1 : (c % 3 == 0) = true := by simpa using hc
            obtain ⟨u1, u2, u3⟩ := t3 hc
            have HQ : RowKit.Hid (∀ wx, StD w og w5.heap.size gd n vd bs wx L2 D1 → Calls Try.prog 13 #[.pointer (some ⟨gd, 0, none⟩), .int .i64 16] wx (DrcBitsPost w5.heap.size gd vd bs c (decBits bs D1 0 16).2 wx)) := by
              intro wx hx
              have := drcBits_any w5.heap.size gd vd bs D1 16 wx hx.e HBt.out hbl (by omega) u1 (by decide)
              rw [u2] at this; exact this
            have U3 := Lib.hid u3
            clear t2 t3 u1 u2 u3
            generalize (decBits bs D1 0 16).2 = D2 at HQ U3
            go_wp2_with (first
              | (go_at_call 11; go_loud (with_reducible refine (HP.out _ HSD.out).mono ?_); rintro e7 w7 ⟨rfl, he, hm, hk⟩; have HSB2 := Lib.hid (HSB.out.read HSD.out.m hgd hk); have HSD2 := Lib.hid (HSD.out.prog hk he hm GL2.out GLl.out); clear he hm hk)
              | (go_at_call 13; go_loud (with_reducible refine (HQ.out _ HSD2.out).mono ?_); rintro e8 w8 ⟨rfl, he, hk⟩; have HSB3 := Lib.hid (HSB2.out.readE HSD2.out.m hgd hk); have HSD3 := Lib.hid (HSD2.out.progE hk he); clear he hk))
            go_roundw
            case rel => exact ⟨k + 1, D2, by omega, by go_num, by rw [HNx.out]; exact HSD3.out, U3.out, HSB3.out⟩
            case measure => simp [intOf] <;> omega
          · have hc1 : (c % 3 == 0) = false := by simpa using hc
            have U3 := Lib.hid (t2 hc)
            clear t2 t3
            go_wp2_with (go_at_call 11; go_loud (with_reducible refine (HP.out _ HSD.out).mono ?_); rintro e7 w7 ⟨rfl, he, hm, hk⟩; have HSB2 := Lib.hid (HSB.out.read HSD.out.m hgd hk); have HSD2 := Lib.hid (HSD.out.prog hk he hm GL2.out GLl.out); clear he hm hk)
            go_roundw
            case rel => exact ⟨k + 1, D1, by omega, by go_num, by rw [HNx.out]; exact HSD2.out, U3.out, HSB2.out⟩
            case measure => simp [intOf] <;> omega
        · obtain rfl : j = k := by omega
          have hlt3 : ¬ (j : Int) < (j : Int) := by omega
          have h5 := HEn.out _ _ H.out.2.1 HDg1.out
          have hq4 : ∀ wx, StD w og w5.heap.size gd n vd bs wx (putAll n zs j).2 D → Calls Try.prog 13 #[.pointer (some ⟨gd, 0, none⟩), .int .i64 4] wx (DrcBitsPost w5.heap.size gd vd bs 5 (decBits bs D 0 4).2 wx) := by
            intro wx hx
            have := drcBits_any w5.heap.size gd vd bs D 4 wx hx.e HBt.out hbl (by omega) gd1 (by decide)
            rw [h5] at this; exact this
          have HQ4 := Lib.hid hq4
          have HSD := Lib.hid H.out.1
          have HSB := Lib.hid H.out.2.2
          clear hq4 h5 H hlt2 hlt hk
          generalize (decBits bs D 0 4).2 = D4 at HQ4
          obtain ⟨m, hm⟩ : ∃ m, bs.length + m = F.k + 4 := ⟨F.k + 4 - bs.length, by omega⟩
          have HDg3 := Lib.hid (HDg2.out m hm)
          have HLn : RowKit.Hid (∀ wx, StB be be w5.heap.size bs.length v4 a5 bs F wx → Calls Try.prog 20 #[.pointer (some ⟨be, 0, none⟩)] wx fun e w' => e = .returned (.int .i64 ((bs.length : Int) + m)) ∧ wx = w') := by
            intro wx hx
            have := rncLen_any be be v4 F.n F.k (4294967295 - F.s) wx hx.e (by omega)
            rw [show (bs.length : Int) + m = (F.k : Int) + 4 by omega]; exact this
          have hm64 : bs.length + m ≤ 900010 := by omega
          have ew : IntKind.i64.wrap ((bs.length : Int) + m - bs.length) = m := by rw [show (bs.length : Int) + m - bs.length = m by omega]; exact IntWalk.i64_in _ (by omega)
          go_wp2_with (first | (go_at_call 13; go_loud (with_reducible refine (HQ4.out _ HSD.out).mono ?_); rintro e7 w7 ⟨rfl, he, hk⟩; have HSB7 := Lib.hid (HSB.out.readE HSD.out.m hgd hk); have HSD7 := Lib.hid (HSD.out.progE hk he); clear he hk; have hown0 := Lib.hid (World.ownsRow_lit (base := w7.heap.size) (e := 5) (size := 1) w7 #[] 0 (Nat.le_refl _) (by decide) rfl); have hbel0 := Lib.hid (Below.alloc_new w7 (.cells #[] 5)); have HN5b := HN5) | (at_builtin; have hq := HN5b.out; go_loud (refine append_ints rfl _ _ 22 rfl w7.heap.size 5 .u8 1 Try.underlying22 info_u807 _ 0 [] rfl hown0.out a5 _ c5 w5.heap.size bs rfl (HSB7.out.i.below (hbel0.out.mono HSB7.out.s)) hq (by unfold maxLen; omega) (by omega) (by simp) ?_)))
          intro v8 w8 hown hgrow _
          have hown8 : w8.ownsRow w7.heap.size 5 1 v8 bs.length (bs.map (Value.int .u8)) := by simpa using hown
          have hb8 : Below w7.heap.size w7 w8 := hbel0.out.grown hgrow (by simp) (own_base hown0.out)
          have HO8 := Lib.hid hown8
          have HB8 := Lib.hid hb8
          have HSB8 := Lib.hid (HSB7.out.below hb8)
          have hs8 := hb8.size
          clear hown hown8 hgrow hb8 hown0 hbel0
          obtain ⟨b9, hb9e⟩ : ∃ b9, bs ++ List.replicate m 0 = b9 := ⟨_, rfl⟩
          have hl9 : bs.length + m = b9.length := by rw [← hb9e, List.length_append, List.length_replicate]
          obtain ⟨b2, hb2e⟩ : ∃ b2, b9 ++ ts = b2 := ⟨_, rfl⟩
          have htl := HT.out.1
          have hl2 : b9.length + len2 = b2.length := by rw [← hb2e, List.length_append, htl]
          rw [hb9e, hb2e] at HDg3
          have hd9 : IsDig b9 := by
            rw [← hb9e]
            intro i hi
            by_cases h1 : i < bs.length
            · have := HBd.out i h1
              simpa [List.getD, List.getElem?_append, h1] using this
            · have h2 : i - bs.length < m := by rw [List.length_append, List.length_replicate] at hi; omega
              simp [List.getD, List.getElem?_append, h1, h2]
          have hd2 : IsDig b2 := by
            rw [← hb2e]
            intro i hi
            by_cases h1 : i < b9.length
            · have := hd9 i h1
              simpa [List.getD, List.getElem?_append, h1] using this
            · have := HTd.out (i - b9.length) (by rw [List.length_append] at hi; omega)
              simpa [List.getD, List.getElem?_append, h1] using this
          have HBt2 := Lib.hid (byteF_bd hd2)
          have hbl2 : b2.length ≤ 1000000 := by omega
          have hbl9 : b9.length ≤ 900010 := by omega
          have HE9 := Lib.hid hb9e
          have HL9 := Lib.hid hl9
          have HE2 := Lib.hid hb2e
          have HL2 := Lib.hid hl2
          have hw7 := HSD7.out.b.size
          clear hb9e hl9 hb2e htl hd9 hd2 hm
          go_wp2_with (first
            | (go_at_call 20; go_loud (with_reducible refine (HLn.out _ HSB8.out).mono ?_); rintro e7 w8' ⟨rfl, rfl⟩; have HN8 := HLn)
            | (at_builtin; have hq := HN9.out; go_loud (refine append_ints rfl _ _ 22 rfl w7.heap.size 5 .u8 1 Try.underlying22 info_u807 v9 b9.length b9 rfl HO9.out a2 len2 cap2 w.heap.size ts rfl HT9.out hq (by unfold maxLen; omega) (by omega) (by omega) ?_); intro v10 w10 hown hgrow _; rw [HE2.out, HL2.out] at hown; obtain ⟨a10, c10, rfl⟩ := own_form hown; have HI10 := Lib.hid (own_ints' hown); have HN10 := Lib.hid (own_none hown); have hb10 : Below w7.heap.size w7 w10 := HB9.out.grown hgrow (by omega) (own_base HO9.out); have HB10 := Lib.hid (HSD7.out.b.trans (hb10.mono hw7)); have hs10 : w.heap.size ≤ w10.heap.size := Nat.le_trans hw7 hb10.size; clear hown hgrow hb10 hq HN9)
            | (at_builtin; have hq := HN8.out; go_loud (refine append_noughts rfl _ _ 22 3 rfl w7.heap.size 5 .u8 1 Try.underlying22 Try.underlying3 info_u807 v8 bs.length bs rfl HO8.out m _ rfl rfl (by unfold maxLen; omega) (by omega) (by omega) ?_); intro v9 w9 hown hgrow; rw [HE9.out, HL9.out] at hown; have hb9 : Below w7.heap.size w7 w9 := HB8.out.grown hgrow (by omega) (own_base HO8.out); have HO9 := Lib.hid hown; have HB9 := Lib.hid hb9; have hs9 := hb9.size; have HT9 := Lib.hid (HT.out.below (HSD7.out.b.trans (hb9.mono HSD7.out.b.size))); have HN9 := HN; clear hown hgrow hb9 HN8 hq)
            | (go_at_call 9; go_loud (refine (drcNew_any a10 b2.length c10 b2 _ HI10.out HN10.out HBt2.out hbl2).mono ?_); rintro e11 w11 ⟨g2, v2, rfl, hm, hb⟩; have HE11 := Lib.hid hm; have HB11 := Lib.hid (HB10.out.trans (hb.mono HB10.out.size)); clear hm hb)
            | (go_at_call 7; go_loud (refine (modNew_at n _ _ rfl n1 n2).mono ?_); rintro e12 w12 ⟨pg, rfl, hg, hm, hb⟩; have HSD : RowKit.Hid (StD w pg w10.heap.size g2 n v2 b2 w12 (List.replicate n 1) (decNew (byteF b2))) := ⟨hm, HE11.out.below hb, HG.out, (by simp), HB11.out.trans (hb.mono HB11.out.size), Nat.le_trans HB11.out.size hg, hs10⟩; clear hm hb))
          clear HE11 HB11 HB10 HI10 HN10 HO9 HB9 HT9 HO8 HB8 HSB8 HSB7 HSD7 HQ4 HLn hlt3
          go_loopw [156] (fun i wr => ∃ (k : Nat) (D : DecS), k ≤ j ∧ i = .int .i64 k ∧ RowKit.Hid (StD w pg w10.heap.size g2 n v2 b2 wr (putAll n zs k).2 D ∧ InStep n zs b2 k D)) (fun i _ => j - (intOf i).toNat)
          case atStart => exact ⟨0, _, by omega, rfl, HSD.out, step_first n zs _⟩
          case round =>
            obtain ⟨k, D, hk, rfl, H⟩ := hrel
            clear HSD
            obtain ⟨gd1, gd2⟩ := HSt.out _ _ _ hk H.out.2 HDg3.out
            by_cases hlt : k < j
            · obtain ⟨b', off, rfl, hbB, _, hcell⟩ := HZ.out.at_ hlt
              have hx := (H.out.1.b.cell (p := ⟨b', off + k, none⟩) hbB).trans hcell
              obtain ⟨x0, x1⟩ := HZw.out k
              have hkl : (k : Int) < (j : Int) := by omega
              obtain ⟨t1, t2, t3⟩ := HBk.out _ _ _ hlt H.out.2 HDg3.out
              obtain ⟨q1, q2, q3, q4⟩ := HAll.out k
              obtain ⟨r1, r2, r3, _⟩ := HAll.out (k + 1)
              rw [putAll_succ] at r2 r3
              have HNx : RowKit.Hid ((putAll n zs (k + 1)).2 = learnP (putAll n zs k).2 (zs.getD k 0 % n).toNat) := rfl
              have HSD := Lib.hid H.out.1
              clear hcell H r1 q1 q3 q4
              generalize (putAll n zs k).2 = L at HSD t1 t2 t3 q2 r2 r3 HNx
              generalize zs.getD k 0 = c at hx x0 x1 t1 t2 t3 r2 r3 HNx
              have c0 := Int.emod_nonneg c (b := (n : Int)) (by omega)
              obtain ⟨s, hs⟩ : ∃ s : Nat, c % (n : Int) = s := ⟨(c % (n : Int)).toNat, by omega⟩
              have sn := sym_lt n1 c
              rw [hs, Int.toNat_natCast] at t1 r2 r3 HNx sn
              have HP : RowKit.Hid (∀ wx, StD w pg w10.heap.size g2 n v2 b2 wx L D → Calls Try.prog 11 #[.pointer (some ⟨g2, 0, none⟩), .pointer (some ⟨pg, 0, none⟩)] wx (DrcSymPost w10.heap.size g2 v2 b2 pg s (decSym b2 D L) (learnP L s) wx)) := by
                intro wx hx
                have := drcSymbol_any w10.heap.size g2 v2 b2 D pg L wx hx.e hx.m HBt2.out hbl2 (by omega) gd1 q2
                rw [t1] at this; exact this
              have gd3 := (decSym_good HBt2.out gd1 q2).2
              have e1 : IntKind.i64.wrap c = c := IntWalk.i64_in _ (by omega)
              have e2 : c.tmod (n : Int) = (s : Int) := by rw [Int.tmod_eq_emod_of_nonneg x0]; exact hs
              have e3 : ¬ (n : Int) = 0 := by omega
              have e4 : IntKind.i64.wrap (s : Int) = s := IntWalk.i64_in _ (by omega)
              have e5 : IntKind.u32.wrap c = c := IntWalk.u32_in _ (by omega)
              have GL2 := Lib.hid r2
              have GLl := Lib.hid r3
              clear q2 r2 r3 t1
              generalize learnP L s = L2 at HP GL2 GLl HNx
              generalize decSym b2 D L = D1 at HP t2 t3 gd3
              by_cases hc : c % 3 = 0
              · have hc1 : (c % 3 == 0) = true := by simpa using hc
                obtain ⟨u1, u2, u3⟩ := t3 hc
                have HQ : RowKit.Hid (∀ wx, StD w pg w10.heap.size g2 n v2 b2 wx L2 D1 → Calls Try.prog 13 #[.pointer (some ⟨g2, 0, none⟩), .int .i64 16] wx (DrcBitsPost w10.heap.size g2 v2 b2 c (decBits b2 D1 0 16).2 wx)) := by
                  intro wx hx
                  have := drcBits_any w10.heap.size g2 v2 b2 D1 16 wx hx.e HBt2.out hbl2 (by omega) u1 (by decide)
                  rw [u2] at this; exact this
                have U3 := Lib.hid u3
                clear t2 t3 u1 u2 u3
                generalize (decBits b2 D1 0 16).2 = D2 at HQ U3
                go_wp2_with (first
                  | (go_at_call 11; go_loud (with_reducible refine (HP.out _ HSD.out).mono ?_); rintro e7 w7 ⟨rfl, he, hm, hk⟩; have HSD2 := Lib.hid (HSD.out.prog hk he hm GL2.out GLl.out); clear he hm hk)
                  | (go_at_call 13; go_loud (with_reducible refine (HQ.out _ HSD2.out).mono ?_); rintro e8 w8 ⟨rfl, he, hk⟩; have HSD3 := Lib.hid (HSD2.out.progE hk he); clear he hk))
                go_roundw
                case rel => exact ⟨k + 1, D2, by omega, by go_num, by rw [HNx.out]; exact HSD3.out, U3.out⟩
                case measure => simp [intOf] <;> omega
              · have hc1 : (c % 3 == 0) = false := by simpa using hc
                have U3 := Lib.hid (t2 hc)
                clear t2 t3
                go_wp2_with (go_at_call 11; go_loud (with_reducible refine (HP.out _ HSD.out).mono ?_); rintro e7 w7 ⟨rfl, he, hm, hk⟩; have HSD2 := Lib.hid (HSD.out.prog hk he hm GL2.out GLl.out); clear he hm hk)
                go_roundw
                case rel => exact ⟨k + 1, D1, by omega, by go_num, by rw [HNx.out]; exact HSD2.out, U3.out⟩
                case measure => simp [intOf] <;> omega
            · have hlt4 : ¬ (k : Int) < (j : Int) := by omega
              go_wp2
              go_ret
              exact ⟨rfl, H.out.1.b⟩
end Go.Proofs.Yteffkhpofiloiaa
