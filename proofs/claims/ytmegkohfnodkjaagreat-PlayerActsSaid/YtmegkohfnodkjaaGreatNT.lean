/- Plain facts, and what functions give, for the proofs of this seat: several texts in one, each with its own first remark. -/
import Derived.Deep.CutBlock
import Derived.Deep.DeepCutAuto
import Derived.BigRegion
import Derived.Test.YtmegkohfnodkjaaGreatNS

/- The walk of PlayerActs. -/
namespace Go.Proofs.YtmegkohfnodkjaaGreat
open Go Go.RowKit
set_option linter.unusedVariables false
set_option linter.unusedSimpArgs false
set_option maxRecDepth 100000

/-- More numbers, or more acts, than are tried: only whether it lives. -/
theorem playerActs_many (a a2 : Option Addr) (len cap len2 cap2 : Nat) (x0 x1 : Int) (w : World) (hm : len ≤ 9223372036854775807) (hm2 : len2 ≤ 9223372036854775807) (h : 2000 < len ∨ 8 < len2) :
    Calls Tryz.prog 3 #[.slice a len cap, .agg #[.int .i64 x0, .int .i64 x1], .slice a2 len2 cap2] w fun e w' => e = .returned (.bool true) ∧ Below w.heap.size w w' := by
  have HB := Lib.hid (Below.alloc_new w (.cells #[.int .i64 x0, .int .i64 x1] 23))
  by_cases h1 : 2000 < len
  · have hd : decide ((2000 : Int) < (len : Int)) = true := by simp; omega
    go_enter Tryz.func3, Tryz.ntmps3
    go_wp2_with (go_at_call 6; go_loud (refine (lives14_any _).mono ?_); rintro e w1 ⟨rfl, hb⟩; replace HB := Lib.hid (chain HB.out hb); clear hb)
    go_ret
    exact ⟨rfl, HB.out⟩
  · have hd : decide ((2000 : Int) < (len : Int)) = false := by simp; omega
    have hd2 : decide ((8 : Int) < (len2 : Int)) = true := by simp; omega
    clear h
    go_enter Tryz.func3, Tryz.ntmps3
    go_wp2_with (go_at_call 6; go_loud (refine (lives14_any _).mono ?_); rintro e w1 ⟨rfl, hb⟩; replace HB := Lib.hid (chain HB.out hb); clear hb)
    go_ret
    exact ⟨rfl, HB.out⟩
theorem tab_same {f : Nat → Int} (h : ∀ i, -32768 ≤ f i ∧ f i ≤ 32767) (j : Nat) (hj : j < 512) : -32768 ≤ (tabF 512 f).getD j 0 ∧ (tabF 512 f).getD j 0 ≤ 32767 := by rw [tabF_getD _ hj]; exact h j
theorem same_at (r r2 cap cap2 : Nat) (f : Nat → Int) (w : World) (h : IFun w r 68 .i16 512 f) (h2 : NumAt w r2 0 512 2 .i64 f) (hb : ∀ i, -32768 ≤ f i ∧ f i ≤ 32767) :
    Calls Tryz.prog 20 #[.slice (some ⟨r, 0, none⟩) 512 cap, .slice (some ⟨r2, 0, none⟩) 512 cap2] w fun e w' => e = .returned (.bool true) ∧ ∃ i, w' = w.drewN i :=
  same14_any _ _ 512 cap cap2 (tabF 512 f) (tabF 512 f) w (IFun.ints h (by decide)) (h2.ints (by decide)) (fun _ _ => rfl) (tab_same hb) (by decide)
/-- What is held at a round's head. -/
structure PaIn (w : World) (gm p s x : Nat) (Q : Int) (B : Nat) (S : S13) (T : P14) (wr : World) : Prop where
  st : PaSt w gm p s x Q B S T wr
  ok : S.Ok
  kt : T.Ok
set_option maxHeartbeats 8000000 in
theorem playerActs_law (a a2 : Option Addr) (len cap len2 cap2 : Nat) (x0 x1 : Int) (zs : List Int) (Z : Nat → List Value) (w : World) (hz : IntsAt w w.heap.size .i16 a len zs) (hzb : ∀ j, -32768 ≤ zs.getD j 0 ∧ zs.getD j 0 ≤ 32767) (hZ : StructsT w actK a2 len2 Z) (hl : len ≤ 2000) (hl2 : len2 ≤ 8) :
    Calls Tryz.prog 3 #[.slice a len cap, .agg #[.int .i64 x0, .int .i64 x1], .slice a2 len2 cap2] w fun e w' => e = .returned (.bool true) ∧ Below w.heap.size w w' := by
  have HB := Lib.hid (Below.alloc_new w (.cells #[.int .i64 x0, .int .i64 x1] 23))
  have HC := Lib.hid (Cel.new w 23 #[.int .i64 x0, .int .i64 x1])
  have HZ := Lib.hid hz
  have HZb := Lib.hid hzb
  have HZS := Lib.hid hZ
  have hd : decide ((2000 : Int) < (len : Int)) = false := by simp; omega
  have hd2 : decide ((8 : Int) < (len2 : Int)) = false := by simp; omega
  obtain ⟨Q, hQ, q0, q1⟩ := set_wrap14 x0 10 1 (by decide) (by decide) (by decide) (by decide)
  obtain ⟨Bi, hBi, b0, b1⟩ := set_wrap14 x1 300 32 (by decide) (by decide) (by decide) (by decide)
  obtain ⟨B, rfl⟩ : ∃ B : Nat, Bi = (B : Int) := ⟨Bi.toNat, by omega⟩
  have hQq := Lib.hid (show 1 ≤ Q ∧ Q ≤ 10 by omega)
  have hBb := Lib.hid (show 32 ≤ B ∧ B ≤ 600 by omega)
  clear hz hZ hzb b0 b1 q0 q1
  go_enter Tryz.func3, Tryz.ntmps3
  go_wp2_with (first
    | (go_at_call 9; go_loud (refine (rlyNew_any _).mono ?_); rintro e w5 ⟨x, rfl, h5, y1, b5⟩; have H5 : RowKit.Hid (PaSt w gm p s x Q B s13Zero p14Zero w5) := ⟨chain H4.out.1 b5, H4.out.2.1.below b5, H4.out.2.2.1.below b5, h5, by have := H4.out.1.size; have := H4.out.2.2.2; omega⟩; clear h5 y1 b5)
    | (go_at_call 8; go_loud (refine (pNew_any _).mono ?_); rintro e w4 ⟨p, s, rfl, h4, y1, y2, b4⟩; have H4 : RowKit.Hid (Below w.heap.size w w4 ∧ RefAt w4 gm Q B s13Zero ∧ PlyAt w4 p s p14Zero ∧ w.heap.size ≤ gm ∧ w.heap.size ≤ p ∧ w.heap.size ≤ s) := ⟨chain H3.out.2.1 b4, H3.out.1.below b4, h4, H3.out.2.2, by have := H3.out.2.1.size; omega, by have := H3.out.2.1.size; omega⟩; clear h4 y1 y2 b4)
    | (go_at_call 7; go_loud (refine (rNew_any Q B _).mono ?_); rintro e w3 ⟨gm, rfl, h3, y1, b3⟩; have H3 : RowKit.Hid (RefAt w3 gm Q B s13Zero ∧ Below w.heap.size w w3 ∧ w.heap.size ≤ gm) := ⟨h3, chain HB1.out b3, Nat.le_trans HB1.out.size y1⟩; clear h3 y1 b3)
    | (go_at_call 6; go_loud (refine (lives14_any _).mono ?_); rintro e w1 ⟨rfl, hb⟩; have HC1 := Lib.hid (HC.out.below hb); have HB1 := Lib.hid (chain HB.out hb); clear hb; have e0 : w1.cell? ⟨w.heap.size, 0, none⟩ = some (.int .i64 x0) := HC1.out.cell 0; have e1 : w1.cell? ⟨w.heap.size, 1, none⟩ = some (.int .i64 x1) := HC1.out.cell 1))
  have HI0 : RowKit.Hid (PaIn w gm p s x Q B s13Zero p14Zero w5) := ⟨H5.out, s13Zero_ok, p14Zero_ok⟩
  clear hd hd2 hQ hBi H5 H4 H3 HB1 HC1 HC HB e0 e1
  go_loopw [56] (fun i wr => ∃ (t : Nat) (S : S13) (T : P14), t ≤ len2 ∧ i = .int .i64 ((t : Nat) : Int) ∧ RowKit.Hid (PaIn w gm p s x Q B S T wr)) (fun i _ => len2 - (intOf i).toNat)
  case atStart => exact ⟨0, s13Zero, p14Zero, by omega, rfl, HI0.out⟩
  case round =>
    obtain ⟨t, S, T, ht, rfl, H⟩ := hrel
    clear HI0
    by_cases hlt : t < len2
    · obtain ⟨bb, bo, hab, hbB, hat⟩ := HZS.out.2.2.resolve_left (by omega)
      obtain ⟨kd, at', to', da, dl, dc, ds, hcs, hkd, hat1, hto, hdn, hdi, hdw⟩ := act_cellsT (HZS.out.2.1 t hlt)
      have hat' : ∀ (q : Nat) (u : Value), ([.int .u8 kd, .int .u8 at', .int .u8 to', .slice da dl dc] : List Value)[q]? = some u → wr.cell? ⟨bb, bo + t * 4 + q, none⟩ = some u := by
        intro q u hq
        rw [← hcs] at hq
        rw [Nat.add_assoc]
        exact (H.out.st.hb.cell (p := ⟨bb, bo + (t * 4 + q), none⟩) hbB).trans (hat t hlt q u hq)
      subst hab
      have h0 : wr.cell? ⟨bb, bo + t * 4, none⟩ = some (.int .u8 kd) := hat' 0 _ rfl
      have h1 := hat' 1 _ rfl
      have h2 := hat' 2 _ rfl
      have h3 := hat' 3 _ rfl
      obtain ⟨kd0, kd1⟩ := bounds_u8 hkd
      obtain ⟨at0, at1⟩ := bounds_u8 hat1
      have hto2 := Lib.hid (bounds_u8 hto)
      have HDi := Lib.hid hdi
      have HDw := Lib.hid hdw
      have HDn := Lib.hid hdn
      clear hat hat' hcs hkd hat1 hto hdn hdi hdw
      have hjl : (t : Int) < (len2 : Int) := by omega
      have HCA := Lib.hid (Cel.new wr 35 #[.int .u8 kd, .int .u8 at', .int .u8 to', .slice da dl dc])
      have H1 := Lib.hid (H.out.st.now (Below.alloc_new wr (.cells #[.int .u8 kd, .int .u8 at', .int .u8 to', .slice da dl dc] 35)))
      obtain ⟨n, hn⟩ : ∃ n, n = (t : Int) * 77 := ⟨_, rfl⟩
      have v3 : IntKind.u32.wrap (t : Int) = (t : Int) := IntWalk.u32_in _ (by omega)
      have v4 : IntKind.u32.wrap ((t : Int) * 77) = n := by rw [hn]; exact IntWalk.u32_in _ (by omega)
      have v5 : IntKind.u32.wrap (77 * (t : Int)) = n := by rw [hn, Int.mul_comm]; exact IntWalk.u32_in _ (by omega)
      have HNb : RowKit.Hid (0 ≤ n ∧ n ≤ 4294967295) := ⟨by omega, by omega⟩
      clear hn
      obtain ⟨K, hK⟩ : ∃ K, K = kd % 5 := ⟨_, rfl⟩
      have hk5 : kd % 5 = K := hK.symm
      have hk6 : kd.tmod 5 = K := by rw [Int.tmod_eq_emod_of_nonneg (by omega)]; exact hK.symm
      have hK0 : 0 ≤ K ∧ K ≤ 4 := by omega
      have hk7 : IntKind.u8.wrap K = K := by rw [IntKind.wrap_u8]; omega
      clear hK
      by_cases k3 : K = 3
      · subst k3
        cases hh : T.has with
        | false =>
          as_aux_lemma =>
          have HHas := Lib.hid hh; clear hh
          go_wp2_with (first
            | (go_at_call 10; go_loud (refine (pFade_no T p s _ H1.out.hp HHas.out).mono ?_); rintro e w2 ⟨rfl, b2⟩; have H2 := Lib.hid (H1.out.now b2); clear b2; have c3 := H2.out.hx.has.1; rw [HHas.out] at c3))
          go_roundw
          case rel => exact ⟨t + 1, S, T, by omega, by go_num, H2.out, H.out.ok, H.out.kt⟩
          case measure => simp [intOf] <;> omega
        | true =>
          as_aux_lemma =>
          have HHas := Lib.hid hh; clear hh
          have HSb : RowKit.Hid (∀ i, -32768 ≤ T.fades i ∧ T.fades i ≤ 32767) := fun i => smpP_bd _
          go_wp2_with (first
            | (go_at_call 20; go_loud (refine (same_at r2 r3 512 cp3 T.fades _ HX3.out HY3.out HSb.out).mono ?_); rintro e w4 ⟨rfl, q4, hw4⟩; have HW4 := Lib.hid hw4; clear hw4; have H4 : RowKit.Hid (PaSt w gm p s x Q B S T.fade w4) := (by show PaSt _ _ _ _ _ _ _ _ _ _; rw [HW4.out]; exact H3.out.done.now (Below.drewN' (Below.refl _ _) q4)); clear H3)
            | (go_at_call 11; go_loud (refine (rlyFade_any x T _ H2.out.hx H.out.kt HHas.out).mono ?_); rintro e w3 ⟨hx3, ⟨r3, cp3, rfl, hn3⟩, k3⟩; have HY3 := Lib.hid hn3; have HX3 := Lib.hid (Cel.keeps HX2.out k3 (fun e => by obtain ⟨cs, hc, _⟩ := H2.out.hx.cel; exact Cel.ne HX2.out hc (by decide) e)); have H3 := Lib.hid (H2.out.docX hx3 k3); clear hx3 hn3 k3 H2)
            | (go_at_call 10; go_loud (refine (pFade_any T p s _ H1.out.hp H.out.kt HHas.out).mono ?_); rintro e w2 ⟨r2, rfl, i2, s2, p2, k2⟩; have HX2 := Lib.hid i2; have H2 := Lib.hid (H1.out.prog' p2 k2); clear i2 s2 p2 k2; have c3 := H2.out.hx.has.1; rw [HHas.out] at c3))
          go_roundw
          case rel => exact ⟨t + 1, S, T.fade, by omega, by go_num, H4.out, H.out.ok, H.out.kt.fade⟩
          case measure => simp [intOf] <;> omega
      · by_cases k4 : K = 4
        · subst k4
          as_aux_lemma =>
            go_wp2_with (first
              | (go_at_call 12; go_loud (refine (pLose_any T p s _ H1.out.hp).mono ?_); rintro e w2 ⟨rfl, p2, k2⟩; have H2 := Lib.hid (H1.out.prog' p2 k2); clear p2 k2; have c3 := H2.out.hx.has.1; have z3 := H2.out.hx.has.2))
            go_roundw
            case rel => exact ⟨t + 1, S, T.lose, by omega, by go_num, (H2.out.docX H2.out.hx.lose (Keeps.set1 _)).done, H.out.ok, H.out.kt.lose⟩
            case measure => simp [intOf] <;> omega
        · have c3 : (K == 3) = false := by simpa using k3
          have c4 : (K == 4) = false := by simpa using k4
          obtain ⟨A, hA⟩ : ∃ A, A = wr.heap.size := ⟨_, rfl⟩
          go_upto_if 72 with fail
          obtain ⟨w1, hw1⟩ : ∃ w1, w1 = wr.alloc (.cells #[.int .u8 kd, .int .u8 at', .int .u8 to', .slice da dl dc] 35) := ⟨_, rfl⟩
          rw [← hw1] at HCA H1 ⊢
          rw [← hA] at HCA ⊢
          clear hw1 hA h0 h1 h2 h3
          obtain ⟨ac, hac⟩ : ∃ ac : Array Value, ac = #[.int .u8 kd, .int .u8 at', .int .u8 to', .slice da dl dc] := ⟨_, rfl⟩
          have HAC : RowKit.Hid (ac = #[.int .u8 kd, .int .u8 at', .int .u8 to', .slice da dl dc]) := hac
          rw [← hac] at HCA
          clear hac
          obtain ⟨T5, hT5⟩ : ∃ T5, T5 = 512 * t := ⟨_, rfl⟩
          have e1 : 512 * (t : Int) = (T5 : Int) := by omega
          have HT5 := Lib.hid hT5
          have T1b : T5 ≤ 5000 := by omega
          clear hT5
          go_cut [17] (fun v wx => ∃ (S' : S13) (b : List Int) (ba : Option Addr) (bc : Nat), v = .slice ba b.length bc ∧ RowKit.Hid (DfSt w gm p s x Q B S' T A ac ba bc b wx))
          case first =>
            by_cases k2 : K < 2
            · have l2 : decide (K < 2) = true := by simpa using k2
              obtain ⟨r, hr⟩ : ∃ r, r = ((t : Int) % 3 == 0) := ⟨_, rfl⟩
              have hr2 : ((t : Int).tmod 3 == 0) = r := by rw [hr, Int.tmod_eq_emod_of_nonneg (by omega)]
              have hr3 : ((t : Int) % 3 == 0) = r := hr.symm
              clear hr
              have HF := Lib.hid (S.F_ok (Q := Q) (B := B) hQq.out hBb.out (frmF zs len T5) r)
              have HNx : RowKit.Hid ((S.next Q B (frmF zs len T5) n r).Ok) := S13.Ok.next Q B (fun i _ => frmF_bd HZb.out _ _) n r
              have HEn : RowKit.Hid (∀ (y : Nat) (wx : World), RefAt wx gm Q B S → IFun wx y 68 .i16 512 (frmF zs len T5) → Calls Tryz.prog 13 #[.pointer (some ⟨gm, 0, none⟩), .int .u32 n, .slice (some ⟨y, 0, none⟩) 512 512, .bool r] wx (EncodeRPost gm Q B S (frmF zs len T5) n r wx)) := fun y wx h1 h2 => rEncode_any gm y Q B S (frmF zs len T5) n r wx h1 H.out.ok hQq.out hBb.out h2 (fun i _ => frmF_bd HZb.out _ _) HNb.out.1 HNb.out.2
              have HBd := Lib.hid (S.F Q B (frmF zs len T5) r).bytes_bd
              obtain ⟨S2, hS2⟩ : ∃ S2, S2 = S.next Q B (frmF zs len T5) n r := ⟨_, rfl⟩
              obtain ⟨by_, hby⟩ : ∃ by_, by_ = (S.F Q B (frmF zs len T5) r).bytes := ⟨_, rfl⟩
              unfold EncodeRPost at HEn
              rw [← hS2, ← hby] at HEn
              rw [← hS2] at HNx
              rw [← hby] at HBd
              clear hS2 hby
              as_aux_lemma =>
                go_wp2_with (first
                  | (go_at_call 13; go_loud (refine (HEn.out y _ H2.out.hr HX2.out).mono ?_); rintro e w3 ⟨ba, bc, rfl, i3, r3, k3, hn3⟩; have HI3 := Lib.hid i3; have HN3 := Lib.hid hn3; have HA3 := Lib.hid (HA2.out.keeps k3 (fun e => by obtain ⟨cs, hc⟩ := H2.out.hr.typ; exact HA2.out.ne hc (by decide) e)); have H3 := Lib.hid (H2.out.ref r3 k3); clear i3 r3 k3 hn3)
                  | (go_at_call 14; go_loud (refine (frame14_any a len cap T5 zs _ (HZ.out.now H1.out.hb (Nat.le_refl _)) (by omega) (by omega)).mono ?_); rintro e w2 ⟨y, rfl, i2, s2, z2⟩; have HX2 := Lib.hid i2; have H2 := Lib.hid (H1.out.now z2); have HA2 := Lib.hid (HCA.out.below z2); clear i2 s2 z2))
                go_meet
                exact ⟨S2, by_, ba, bc, rfl, H3.out, HNx.out, HA3.out, HI3.out, HN3.out, HBd.out⟩
            · have l2 : decide (K < 2) = false := by simpa using k2
              go_wp2
              go_meet
              obtain ⟨dl', hdl⟩ : ∃ d, d = ds.length := ⟨_, rfl⟩
              have e : ds.length = dl := HDi.out.1
              subst e
              exact ⟨S, ds, da, dc, rfl, H1.out, H.out.ok, HCA.out, (HDi.out.now H1.out.hb (Nat.le_refl _)), fun e => (HDn.out e).2, byte_wf HDw.out⟩
          case rest =>
            obtain ⟨S', b, ba, bc, rfl, HD⟩ := hcut
            obtain ⟨wd, rfl⟩ : ∃ wd : World, wd = wc := ⟨_, rfl⟩
            clear HCA H1 HDi HDw HDn
            by_cases hb4 : 400 < b.length
            · have l4 : (400 : Int) < (b.length : Int) := by omega
              go_wp2
              go_ret
              exact ⟨rfl, HD.out.ds.hb⟩
            · have l4 : ¬ (400 : Int) < (b.length : Int) := by omega
              obtain ⟨m, hm⟩ : ∃ m, m = b.length := ⟨_, rfl⟩
              have HM : RowKit.Hid (b.length = m) := hm.symm
              rw [← hm] at l4 hb4 ⊢
              clear hm
              have HI : RowKit.Hid (IntsAt wd wd.heap.size .u8 ba m b) := by show IntsAt _ _ _ _ _ _; rw [← HM.out]; exact HD.out.di
              have hown0 := Lib.hid (World.ownsRow_lit (base := wd.heap.size) (e := 5) (size := 1) wd #[] 0 (Nat.le_refl _) (by decide) rfl)
              have hbel0 := Lib.hid (Below.alloc_new wd (.cells #[] 5))
              obtain ⟨qq, hqq⟩ : ∃ qq, qq = (decide (K = 1) && decide (0 < m)) := ⟨_, rfl⟩
              have HQQ : RowKit.Hid (qq = (decide (K = 1) && decide (0 < m))) := hqq
              clear hqq
              have HDA : RowKit.Hid (Cel wd A 35 ac) := HD.out.da
              have y0 : wd.cell? ⟨A, 0, none⟩ = some (.int .u8 kd) := by rw [HDA.out.cell 0, HAC.out]; rfl
              go_upto_region 20 with (at_builtin; go_loud (refine append_ints rfl _ _ 33 rfl wd.heap.size 5 .u8 1 Tryz.underlying33 info_u806 _ 0 [] rfl hown0.out ba m bc wd.heap.size b rfl (HI.out.below hbel0.out) HD.out.dn (by unfold maxLen; omega) (by omega) (by simp) ?_); intro v2 w2 hown hgrow _; have ho : w2.ownsRow wd.heap.size 5 1 v2 b.length (b.map (Value.int .u8)) := (by rw [HM.out]; simpa using hown); have HO := Lib.hid ho; clear ho; have HB2 : RowKit.Hid (Below wd.heap.size wd w2) := hbel0.out.grown hgrow (by simp) (own_base hown0.out); clear hown hgrow)
              obtain ⟨a3, c3', rfl⟩ := own_form HO.out
              have HR2 := Lib.hid (BRow.own HO.out)
              have HA2 := Lib.hid (HDA.out.below HB2.out)
              have z0 : w2.cell? ⟨A, 0, none⟩ = some (.int .u8 kd) := by rw [HA2.out.cell 0, HAC.out]; rfl
              have z1 : w2.cell? ⟨A, 1, none⟩ = some (.int .u8 at') := by rw [HA2.out.cell 1, HAC.out]; rfl
              have z2 : w2.cell? ⟨A, 2, none⟩ = some (.int .u8 to') := by rw [HA2.out.cell 2, HAC.out]; rfl
              clear hown0 hbel0 y0
              rw [HM.out]
              go_cut [100] (fun v wx => v = .bool qq ∧ w2 = wx)
              case first =>
                by_cases k1 : K = 1
                · have l1 : (K == 1) = true := by simpa using k1
                  have HK1 := Lib.hid k1
                  clear k1
                  by_cases m0 : 0 < m
                  · have l5 : decide ((0 : Int) < (m : Int)) = true := by simp; omega
                    have HM0 := Lib.hid m0
                    clear m0
                    go_wp2
                    go_meet
                    exact ⟨by rw [HQQ.out, decide_eq_true HK1.out, decide_eq_true HM0.out]; rfl, rfl⟩
                  · have l5 : decide ((0 : Int) < (m : Int)) = false := by simp; omega
                    have HM0 := Lib.hid m0
                    clear m0
                    go_wp2
                    go_meet
                    exact ⟨by rw [HQQ.out, decide_eq_false HM0.out, Bool.and_false], rfl⟩
                · have l1 : (K == 1) = false := by simpa using k1
                  have HK1 := Lib.hid k1
                  clear k1
                  go_wp2
                  go_meet
                  exact ⟨by rw [HQQ.out, decide_eq_false HK1.out]; rfl, rfl⟩
              case rest =>
                obtain ⟨rfl, rfl⟩ := hcut
                go_upto_if 100 with fail
                go_cut [17] (fun v wx => ∃ (b2 : List Int) (a5 : Option Addr) (c5 : Nat), v = .slice a5 b2.length c5 ∧ RowKit.Hid (DgSt w gm p s x Q B S' T v b2 wx))
                case first =>
                  cases qq with
                  | true =>
                    have hq2 : K = 1 ∧ 0 < m := by
                      have := HQQ.out
                      have h := this.symm
                      rw [Bool.and_eq_true, decide_eq_true_eq, decide_eq_true_eq] at h
                      exact h
                    obtain ⟨k1, m0⟩ := hq2
                    have HK1 := Lib.hid k1
                    clear k1
                    obtain ⟨i, hi⟩ : ∃ i : Nat, at' % (m : Int) = (i : Int) := ⟨(at' % (m : Int)).toNat, by have := Int.emod_nonneg at' (b := (m : Int)) (by omega); omega⟩
                    have hi2 : at'.tmod (m : Int) = (i : Int) := by rw [Int.tmod_eq_emod_of_nonneg (by omega)]; exact hi
                    have him : i < m := by have := Int.emod_lt_of_pos at' (b := (m : Int)) (by omega); omega
                    have him2 : (i : Int) < (m : Int) := by omega
                    have mne : ¬ (m : Int) = 0 := by omega
                    have w1' : IntKind.i64.wrap at' = at' := IntWalk.i64_in _ (by omega)
                    obtain ⟨a6, c6, e6, hn6, hi6, hr6⟩ := HR2.out
                    injection e6 with e61 e62 e63
                    subst e61
                    subst e63
                    obtain ⟨rb, cs6, e7, hc6, hb6⟩ := hr6 (by rw [HM.out]; omega)
                    subst e7
                    obtain ⟨b', off', e8, _, _, hcell⟩ := hi6.at_ (j := i) (by rw [HM.out]; exact him)
                    injection e8 with e8
                    injection e8 with e81 e82
                    subst e81
                    subst e82
                    rw [Nat.zero_add] at hcell
                    have hfz := hc6.frozen i
                    generalize b.getD i 0 = bv at hcell
                    have HSet : RowKit.Hid (∀ q, DgSt w gm p s x Q B S' T (.slice (some ⟨rb, 0, none⟩) (b.set i to').length c3') (b.set i to') ((w2.setCell ⟨rb, i, none⟩ (.int .u8 to')).drewN q)) := fun q =>
                      ⟨(HD.out.ds.now ((HB2.out.setCell (p := ⟨rb, i, none⟩) hb6 _))).now (Below.drewN' (Below.refl _ _) q), HD.out.dk, ((HR2.out.set rfl (by rw [HM.out]; exact him) to').free.below (Below.drewN' (Below.refl _ _) q)), byte_set HD.out.dv hto2.out, by rw [List.length_set, HM.out]; omega⟩
                    clear hi hn6 hi6 hr6 hc6 hb6
                    go_wp2
                    go_region
                    all_goals (go_wp2; go_meet)
                    all_goals exact ⟨b.set i to', some ⟨rb, 0, none⟩, c3', by rw [List.length_set, HM.out], by rw [← HM.out]; have := HSet.out 1; rw [List.length_set] at this; exact this⟩
                  | false =>
                    have HSet : RowKit.Hid (DgSt w gm p s x Q B S' T (.slice a3 b.length c3') b w2) := ⟨HD.out.ds.now HB2.out, HD.out.dk, HR2.out.free, HD.out.dv, by rw [HM.out]; omega⟩
                    go_wp2
                    go_meet
                    exact ⟨b, a3, c3', by rw [HM.out], by rw [← HM.out]; exact HSet.out⟩
                case rest =>
                  obtain ⟨b2, a5, c5, rfl, HG⟩ := hcut
                  obtain ⟨wg, rfl⟩ : ∃ wg : World, wg = wc := ⟨_, rfl⟩
                  clear HD HB2 HO HR2 HA2 z0 z1 z2 HI HDA HQQ
                  obtain ⟨mb, hmb⟩ : ∃ mb, mb = b2.length := ⟨_, rfl⟩
                  have HMB : RowKit.Hid (b2.length = mb) := hmb.symm
                  have HF0 : RowKit.Hid (FnSt w gm p s x Q B S' T T 0 (.slice a5 b2.length c5) b2 wg) := ⟨HG.out.ds.both, HG.out.dr⟩
                  have HBy := Lib.hid HG.out.dv
                  have HSk := Lib.hid HG.out.dk
                  have hml : mb ≤ 400 := by rw [hmb]; exact HG.out.dl
                  rw [← hmb] at HF0 ⊢
                  clear hmb HG
                  have HLn : RowKit.Hid (b2.length ≤ 100000 ∧ mb ≤ 100000 ∧ mb ≤ 1000000) := ⟨by have := HMB.out; omega, by omega, by omega⟩
                  have HPG := Lib.hid (plG HBy.out)
                  obtain ⟨W, hW⟩ : ∃ W, W = plW b2 := ⟨_, rfl⟩
                  obtain ⟨R, hR⟩ : ∃ R, R = plB b2 := ⟨_, rfl⟩
                  obtain ⟨Z, hZ⟩ : ∃ Z, Z = plQ b2 := ⟨_, rfl⟩
                  obtain ⟨L, hL⟩ : ∃ L, L = plLo b2 := ⟨_, rfl⟩
                  obtain ⟨rb, hrb⟩ : ∃ rb, rb = (R == 1) := ⟨_, rfl⟩
                  obtain ⟨wb, hwb⟩ : ∃ wb, wb = (W == 1) := ⟨_, rfl⟩
                  have HE : RowKit.Hid ((decBits b2 (plD0 b2) 0 1).1 = W ∧ (decBits b2 (plD1 b2) 0 1).1 = R ∧ (decBits b2 (plD2 b2) 0 4).1 = Z ∧ (decBits b2 (plD3 b2) 0 5).1 = L) := ⟨hW.symm, hR.symm, hZ.symm, hL.symm⟩
                  have HWh : RowKit.Hid (plWh b2 = wb) := by show _ = _; rw [hwb, hW]; rfl
                  have HV : RowKit.Hid (headV b2 = .agg #[.bool wb, .bool rb, .int .i64 Z, .int .i64 L]) := by show _ = _; rw [hwb, hrb, hW, hR, hZ, hL]; rfl
                  have HVz : RowKit.Hid (headZ = .agg #[.bool false, .bool false, .int .i64 0, .int .i64 0]) := rfl
                  have HHr : RowKit.Hid (headR b2 = (decide (1 ≤ Z) && decide (Z ≤ 10))) := by show _ = _; rw [hZ]; rfl
                  have hrb1 : (R == 1) = rb := hrb.symm
                  have hwb1 : (W == 1) = wb := hwb.symm
                  clear hW hR hZ hL hrb hwb
                  by_cases z1 : Z < 1
                  · have HHq : RowKit.Hid (headR b2 = false) := by show _ = _; rw [HHr.out, decide_eq_false (by omega)]; rfl
                    have HMy : RowKit.Hid (¬ T.may b2) := fun hm => by have := hm.1; rw [headR_ok0 HHq.out] at this; cases this
                    as_aux_lemma =>
                      go_wp2_with (first
                        | (go_at_call 19; go_loud (refine (rlyPlay_any b2 n x _ g8 v8 T _ H8.out.fs.hx H.out.kt HBy.out HLn.out.1 HD8.out HNb.out.1 HNb.out.2).mono ?_); rintro e w9 ⟨⟨hh, _⟩ | ⟨_, x9, rfl⟩, k9⟩; (case inl => exact absurd hh HMy.out); have H9 := Lib.hid (H8.out.fs.doc x9 ⟨⟨_, HD8.out.1⟩, (dec_cel HD8.out HB8.out).2⟩ k9); clear x9 k9 H8)
                        | (go_at_call 16; have h7 := H7.out; clear h7; have HB8 := Lib.hid H7.out.fs.hb.size; go_loud (refine (refOpen_any a5 mb c5 b2 _ (H7.out.ints rfl HMB.out).1 (H7.out.ints rfl HMB.out).2 HBy.out HLn.out.2.2).mono ?_); rintro e w8 ⟨g8, v8, rfl, d8, b8⟩; have HD8 : RowKit.Hid (DecMem w8 w7.heap.size g8 v8 b2 (plD0 b2)) := d8; have H8 := Lib.hid (H7.out.now b8); clear d8 b8 H7)
                        | (go_at_call 18; go_loud (refine (pPlay_any T b2 n p s a5 mb c5 _ H6.out.fs.hp H.out.kt (H6.out.ints rfl HMB.out).1 (H6.out.ints rfl HMB.out).2 HBy.out HLn.out.2.1 HNb.out.1 HNb.out.2).mono ?_); rintro e w7 (⟨hh, _⟩ | ⟨_, er, rfl, ho, h3, h8, b7⟩); (case inl => exact absurd hh HMy.out); obtain rfl := h3 HHq.out; have H7 := Lib.hid (H6.out.now b7); clear ho h3 h8 b7 H6; have y3 := H7.out.fs.hx.has.1)
                        | (go_at_call 17; have h5 := H5.out; clear h5; go_loud (refine (rBitsA _ g v b2 (plD3 b2) 5 _ HD5.out HBy.out HLn.out.1 HPG.out.i.2.2.2.1 HPG.out.g3 (by decide)).mono ?_); rintro e w6 ⟨rfl, d6, k6⟩; rw [HE.out.2.2.2]; have H6 := Lib.hid (H5.out.dec (dec_cel HD5.out HB2.out) k6); have HH6 := Lib.hid (HH5.out.keeps k6 (fun e => HH5.out.ne HD5.out.1 (by decide) e)); have HD6 : RowKit.Hid (DecMem w6 (w1.heap.size + 1) g v b2 (plD4 b2)) := d6; clear d6 k6 H5; have m0 : w6.cell? ⟨w1.heap.size, 0, none⟩ = some (.bool false) := HH6.out.cell 0; have m1 : w6.cell? ⟨w1.heap.size, 1, none⟩ = some (.bool false) := HH6.out.cell 1; have m2 : w6.cell? ⟨w1.heap.size, 2, none⟩ = some (.int .i64 0) := HH6.out.cell 2; have m3 : w6.cell? ⟨w1.heap.size, 3, none⟩ = some (.int .i64 0) := HH6.out.cell 3)
                        | (go_at_call 17; have h4 := H4.out; clear h4; go_loud (refine (rBitsA _ g v b2 (plD2 b2) 4 _ HD4.out HBy.out HLn.out.1 HPG.out.i.2.2.1 HPG.out.g2 (by decide)).mono ?_); rintro e w5 ⟨rfl, d5, k5⟩; rw [HE.out.2.2.1]; have H5 := Lib.hid (H4.out.dec (dec_cel HD4.out HB2.out) k5); have HH5 := Lib.hid (HH4.out.keeps k5 (fun e => HH4.out.ne HD4.out.1 (by decide) e)); have HD5 : RowKit.Hid (DecMem w5 (w1.heap.size + 1) g v b2 (plD3 b2)) := d5; clear d5 k5 H4)
                        | (go_at_call 17; have h3 := H3.out; clear h3; go_loud (refine (rBitsA _ g v b2 (plD1 b2) 1 _ HD3.out HBy.out HLn.out.1 HPG.out.i.2.1 HPG.out.g1 (by decide)).mono ?_); rintro e w4 ⟨rfl, d4, k4⟩; rw [HE.out.2.1]; have H4 := Lib.hid (H3.out.dec (dec_cel HD3.out HB2.out) k4); have HH4 := Lib.hid (HH3.out.keeps k4 (fun e => HH3.out.ne HD3.out.1 (by decide) e)); have HD4 : RowKit.Hid (DecMem w4 (w1.heap.size + 1) g v b2 (plD2 b2)) := d4; clear d4 k4 H3)
                        | (go_at_call 17; have h2 := H2.out; clear h2; go_loud (refine (rBitsA _ g v b2 (plD0 b2) 1 _ HD2.out HBy.out HLn.out.1 HPG.out.i.1 HPG.out.g0 (by decide)).mono ?_); rintro e w3 ⟨rfl, d3, k3⟩; rw [HE.out.1]; have H3 := Lib.hid (H2.out.dec (dec_cel HD2.out HB2.out) k3); have HH3 := Lib.hid (HH2.out.keeps k3 (fun e => HH2.out.ne HD2.out.1 (by decide) e)); have HD3 : RowKit.Hid (DecMem w3 (w1.heap.size + 1) g v b2 (plD1 b2)) := d3; clear d3 k3 H2)
                        | (go_at_call 16; have h1 := H1.out; clear h1; have HB2 : RowKit.Hid (w.heap.size ≤ w1.heap.size + 1) := (by have := H1.out.fs.hb.size; rw [alloc_sizeB] at this; exact this); go_loud (refine (refOpen_any a5 mb c5 b2 _ (H1.out.ints rfl HMB.out).1 (H1.out.ints rfl HMB.out).2 HBy.out HLn.out.2.2).mono ?_); rintro e w2 ⟨g, v, rfl, d2, b2'⟩; have HD2 : RowKit.Hid (DecMem w2 (w1.heap.size + 1) g v b2 (plD0 b2)) := (by rw [alloc_sizeB] at d2; exact d2); have H2 := Lib.hid (H1.out.now b2'); have HH2 := Lib.hid (HH1.out.below b2'); clear d2 b2' H1)
                        | (go_at_call 15; go_loud (refine (pRead_any a5 mb c5 b2 _ (HF0.out.ints rfl HMB.out).1 (HF0.out.ints rfl HMB.out).2 HBy.out HLn.out.2.1).mono ?_); rintro e w1 ⟨b1, ⟨hh, _⟩ | ⟨_, rfl⟩⟩; (case inl => exact absurd (HHq.out.symm.trans hh) (by decide)); rw [HVz.out]; have H1 := Lib.hid ((HF0.out.now b1).now (Below.alloc_new w1 (.cells #[.bool false, .bool false, .int .i64 0, .int .i64 0] 49))); have HH1 := Lib.hid (Cel.new w1 49 #[.bool false, .bool false, .int .i64 0, .int .i64 0]); clear b1))
                      go_roundw
                      case rel => exact ⟨t + 1, S', T, by omega, by go_num, H9.out.done, HSk.out, H.out.kt⟩
                      case measure => simp [intOf] <;> omega
                  · by_cases z2 : 10 < Z
                    · have HHq : RowKit.Hid (headR b2 = false) := by show _ = _; rw [HHr.out, decide_eq_false (show ¬ Z ≤ 10 by omega), Bool.and_false]
                      have HMy : RowKit.Hid (¬ T.may b2) := fun hm => by have := hm.1; rw [headR_ok0 HHq.out] at this; cases this
                      as_aux_lemma =>
                        go_wp2_with (first
                          | (go_at_call 19; go_loud (refine (rlyPlay_any b2 n x _ g8 v8 T _ H8.out.fs.hx H.out.kt HBy.out HLn.out.1 HD8.out HNb.out.1 HNb.out.2).mono ?_); rintro e w9 ⟨⟨hh, _⟩ | ⟨_, x9, rfl⟩, k9⟩; (case inl => exact absurd hh HMy.out); have H9 := Lib.hid (H8.out.fs.doc x9 ⟨⟨_, HD8.out.1⟩, (dec_cel HD8.out HB8.out).2⟩ k9); clear x9 k9 H8)
                          | (go_at_call 16; have h7 := H7.out; clear h7; have HB8 := Lib.hid H7.out.fs.hb.size; go_loud (refine (refOpen_any a5 mb c5 b2 _ (H7.out.ints rfl HMB.out).1 (H7.out.ints rfl HMB.out).2 HBy.out HLn.out.2.2).mono ?_); rintro e w8 ⟨g8, v8, rfl, d8, b8⟩; have HD8 : RowKit.Hid (DecMem w8 w7.heap.size g8 v8 b2 (plD0 b2)) := d8; have H8 := Lib.hid (H7.out.now b8); clear d8 b8 H7)
                          | (go_at_call 18; go_loud (refine (pPlay_any T b2 n p s a5 mb c5 _ H6.out.fs.hp H.out.kt (H6.out.ints rfl HMB.out).1 (H6.out.ints rfl HMB.out).2 HBy.out HLn.out.2.1 HNb.out.1 HNb.out.2).mono ?_); rintro e w7 (⟨hh, _⟩ | ⟨_, er, rfl, ho, h3, h8, b7⟩); (case inl => exact absurd hh HMy.out); obtain rfl := h3 HHq.out; have H7 := Lib.hid (H6.out.now b7); clear ho h3 h8 b7 H6; have y3 := H7.out.fs.hx.has.1)
                          | (go_at_call 17; have h5 := H5.out; clear h5; go_loud (refine (rBitsA _ g v b2 (plD3 b2) 5 _ HD5.out HBy.out HLn.out.1 HPG.out.i.2.2.2.1 HPG.out.g3 (by decide)).mono ?_); rintro e w6 ⟨rfl, d6, k6⟩; rw [HE.out.2.2.2]; have H6 := Lib.hid (H5.out.dec (dec_cel HD5.out HB2.out) k6); have HH6 := Lib.hid (HH5.out.keeps k6 (fun e => HH5.out.ne HD5.out.1 (by decide) e)); have HD6 : RowKit.Hid (DecMem w6 (w1.heap.size + 1) g v b2 (plD4 b2)) := d6; clear d6 k6 H5; have m0 : w6.cell? ⟨w1.heap.size, 0, none⟩ = some (.bool false) := HH6.out.cell 0; have m1 : w6.cell? ⟨w1.heap.size, 1, none⟩ = some (.bool false) := HH6.out.cell 1; have m2 : w6.cell? ⟨w1.heap.size, 2, none⟩ = some (.int .i64 0) := HH6.out.cell 2; have m3 : w6.cell? ⟨w1.heap.size, 3, none⟩ = some (.int .i64 0) := HH6.out.cell 3)
                          | (go_at_call 17; have h4 := H4.out; clear h4; go_loud (refine (rBitsA _ g v b2 (plD2 b2) 4 _ HD4.out HBy.out HLn.out.1 HPG.out.i.2.2.1 HPG.out.g2 (by decide)).mono ?_); rintro e w5 ⟨rfl, d5, k5⟩; rw [HE.out.2.2.1]; have H5 := Lib.hid (H4.out.dec (dec_cel HD4.out HB2.out) k5); have HH5 := Lib.hid (HH4.out.keeps k5 (fun e => HH4.out.ne HD4.out.1 (by decide) e)); have HD5 : RowKit.Hid (DecMem w5 (w1.heap.size + 1) g v b2 (plD3 b2)) := d5; clear d5 k5 H4)
                          | (go_at_call 17; have h3 := H3.out; clear h3; go_loud (refine (rBitsA _ g v b2 (plD1 b2) 1 _ HD3.out HBy.out HLn.out.1 HPG.out.i.2.1 HPG.out.g1 (by decide)).mono ?_); rintro e w4 ⟨rfl, d4, k4⟩; rw [HE.out.2.1]; have H4 := Lib.hid (H3.out.dec (dec_cel HD3.out HB2.out) k4); have HH4 := Lib.hid (HH3.out.keeps k4 (fun e => HH3.out.ne HD3.out.1 (by decide) e)); have HD4 : RowKit.Hid (DecMem w4 (w1.heap.size + 1) g v b2 (plD2 b2)) := d4; clear d4 k4 H3)
                          | (go_at_call 17; have h2 := H2.out; clear h2; go_loud (refine (rBitsA _ g v b2 (plD0 b2) 1 _ HD2.out HBy.out HLn.out.1 HPG.out.i.1 HPG.out.g0 (by decide)).mono ?_); rintro e w3 ⟨rfl, d3, k3⟩; rw [HE.out.1]; have H3 := Lib.hid (H2.out.dec (dec_cel HD2.out HB2.out) k3); have HH3 := Lib.hid (HH2.out.keeps k3 (fun e => HH2.out.ne HD2.out.1 (by decide) e)); have HD3 : RowKit.Hid (DecMem w3 (w1.heap.size + 1) g v b2 (plD1 b2)) := d3; clear d3 k3 H2)
                          | (go_at_call 16; have h1 := H1.out; clear h1; have HB2 : RowKit.Hid (w.heap.size ≤ w1.heap.size + 1) := (by have := H1.out.fs.hb.size; rw [alloc_sizeB] at this; exact this); go_loud (refine (refOpen_any a5 mb c5 b2 _ (H1.out.ints rfl HMB.out).1 (H1.out.ints rfl HMB.out).2 HBy.out HLn.out.2.2).mono ?_); rintro e w2 ⟨g, v, rfl, d2, b2'⟩; have HD2 : RowKit.Hid (DecMem w2 (w1.heap.size + 1) g v b2 (plD0 b2)) := (by rw [alloc_sizeB] at d2; exact d2); have H2 := Lib.hid (H1.out.now b2'); have HH2 := Lib.hid (HH1.out.below b2'); clear d2 b2' H1)
                          | (go_at_call 15; go_loud (refine (pRead_any a5 mb c5 b2 _ (HF0.out.ints rfl HMB.out).1 (HF0.out.ints rfl HMB.out).2 HBy.out HLn.out.2.1).mono ?_); rintro e w1 ⟨b1, ⟨hh, _⟩ | ⟨_, rfl⟩⟩; (case inl => exact absurd (HHq.out.symm.trans hh) (by decide)); rw [HVz.out]; have H1 := Lib.hid ((HF0.out.now b1).now (Below.alloc_new w1 (.cells #[.bool false, .bool false, .int .i64 0, .int .i64 0] 49))); have HH1 := Lib.hid (Cel.new w1 49 #[.bool false, .bool false, .int .i64 0, .int .i64 0]); clear b1))
                        go_roundw
                        case rel => exact ⟨t + 1, S', T, by omega, by go_num, H9.out.done, HSk.out, H.out.kt⟩
                        case measure => simp [intOf] <;> omega
                    · have HHq : RowKit.Hid (headR b2 = true) := by show _ = _; rw [HHr.out, decide_eq_true (show 1 ≤ Z by omega), decide_eq_true (show Z ≤ 10 by omega)]; rfl
                      have HSb : RowKit.Hid (∀ i, -32768 ≤ T.plays b2 n i ∧ T.plays b2 n i ≤ 32767) := fun i => smpP_bd _
                      cases wb with
                      | true =>
                        by_cases hm : T.may b2
                        · have HMy := Lib.hid hm; clear hm
                          as_aux_lemma =>
                            go_wp2_with (first
                              | (go_at_call 20; go_loud (refine (same_at r7 r9 512 cp9 (T.plays b2 n) _ HX9.out HY9.out HSb.out).mono ?_); rintro e w10 ⟨rfl, q10, hw10⟩; have HW10 := Lib.hid hw10; clear hw10; have H10 : RowKit.Hid (PaSt w gm p s x Q B S' (T.play b2 n) w10) := (by show PaSt _ _ _ _ _ _ _ _ _ _; rw [HW10.out]; exact H9.out.done.now (Below.drewN' (Below.refl _ _) q10)))
                              | (go_at_call 19; go_loud (refine (rlyPlay_any b2 n x _ g8 v8 T _ H8.out.fs.hx H.out.kt HBy.out HLn.out.1 HD8.out HNb.out.1 HNb.out.2).mono ?_); rintro e w9 ⟨⟨_, x9, r9, cp9, rfl, n9⟩ | ⟨hh, _⟩, k9⟩; (case inr => exact absurd HMy.out hh); have HY9 := Lib.hid n9; have H9 := Lib.hid (H8.out.fs.doc x9 ⟨⟨_, HD8.out.1⟩, (dec_cel HD8.out HB8.out).2⟩ k9); have HX9 := Lib.hid (Cel.keeps HX8.out k9 (fun e => e.elim (fun e => by obtain ⟨cs, hc, _⟩ := H8.out.fs.hx.cel; exact Cel.ne HX8.out hc (by decide) e) (fun e => Cel.ne HX8.out HD8.out.1 (by decide) e))); clear x9 n9 k9 H8)
                              | (go_at_call 16; have h7 := H7.out; clear h7; have HB8 := Lib.hid H7.out.fs.hb.size; go_loud (refine (refOpen_any a5 mb c5 b2 _ (H7.out.ints rfl HMB.out).1 (H7.out.ints rfl HMB.out).2 HBy.out HLn.out.2.2).mono ?_); rintro e w8 ⟨g8, v8, rfl, d8, b8⟩; have HD8 : RowKit.Hid (DecMem w8 w7.heap.size g8 v8 b2 (plD0 b2)) := d8; have H8 := Lib.hid (H7.out.now b8); have HX8 := Lib.hid (HX7.out.below b8 HX7.out.lt); clear d8 b8 H7)
                              | (go_at_call 18; go_loud (refine (pPlay_any T b2 n p s a5 mb c5 _ H6.out.fs.hp H.out.kt (H6.out.ints rfl HMB.out).1 (H6.out.ints rfl HMB.out).2 HBy.out HLn.out.2.1 HNb.out.1 HNb.out.2).mono ?_); rintro e w7 (⟨_, r7, rfl, i7, s7, p7, k7⟩ | ⟨hh, _⟩); (case inr => exact absurd HMy.out hh); have HX7 := Lib.hid i7; have H7 := Lib.hid (H6.out.prog p7 k7); clear i7 s7 p7 k7 H6; have y3 := H7.out.fs.hx.has.1)
                              | (go_at_call 17; have h5 := H5.out; clear h5; go_loud (refine (rBitsA _ g v b2 (plD3 b2) 5 _ HD5.out HBy.out HLn.out.1 HPG.out.i.2.2.2.1 HPG.out.g3 (by decide)).mono ?_); rintro e w6 ⟨rfl, d6, k6⟩; rw [HE.out.2.2.2]; have H6 := Lib.hid (H5.out.dec (dec_cel HD5.out HB2.out) k6); have HH6 := Lib.hid (HH5.out.keeps k6 (fun e => HH5.out.ne HD5.out.1 (by decide) e)); have HD6 : RowKit.Hid (DecMem w6 (w1.heap.size + 1) g v b2 (plD4 b2)) := d6; clear d6 k6 H5; have m0 : w6.cell? ⟨w1.heap.size, 0, none⟩ = some (.bool true) := HH6.out.cell 0; have m1 : w6.cell? ⟨w1.heap.size, 1, none⟩ = some (.bool rb) := HH6.out.cell 1; have m2 : w6.cell? ⟨w1.heap.size, 2, none⟩ = some (.int .i64 Z) := HH6.out.cell 2; have m3 : w6.cell? ⟨w1.heap.size, 3, none⟩ = some (.int .i64 L) := HH6.out.cell 3)
                              | (go_at_call 17; have h4 := H4.out; clear h4; go_loud (refine (rBitsA _ g v b2 (plD2 b2) 4 _ HD4.out HBy.out HLn.out.1 HPG.out.i.2.2.1 HPG.out.g2 (by decide)).mono ?_); rintro e w5 ⟨rfl, d5, k5⟩; rw [HE.out.2.2.1]; have H5 := Lib.hid (H4.out.dec (dec_cel HD4.out HB2.out) k5); have HH5 := Lib.hid (HH4.out.keeps k5 (fun e => HH4.out.ne HD4.out.1 (by decide) e)); have HD5 : RowKit.Hid (DecMem w5 (w1.heap.size + 1) g v b2 (plD3 b2)) := d5; clear d5 k5 H4)
                              | (go_at_call 17; have h3 := H3.out; clear h3; go_loud (refine (rBitsA _ g v b2 (plD1 b2) 1 _ HD3.out HBy.out HLn.out.1 HPG.out.i.2.1 HPG.out.g1 (by decide)).mono ?_); rintro e w4 ⟨rfl, d4, k4⟩; rw [HE.out.2.1]; have H4 := Lib.hid (H3.out.dec (dec_cel HD3.out HB2.out) k4); have HH4 := Lib.hid (HH3.out.keeps k4 (fun e => HH3.out.ne HD3.out.1 (by decide) e)); have HD4 : RowKit.Hid (DecMem w4 (w1.heap.size + 1) g v b2 (plD2 b2)) := d4; clear d4 k4 H3)
                              | (go_at_call 17; have h2 := H2.out; clear h2; go_loud (refine (rBitsA _ g v b2 (plD0 b2) 1 _ HD2.out HBy.out HLn.out.1 HPG.out.i.1 HPG.out.g0 (by decide)).mono ?_); rintro e w3 ⟨rfl, d3, k3⟩; rw [HE.out.1]; have H3 := Lib.hid (H2.out.dec (dec_cel HD2.out HB2.out) k3); have HH3 := Lib.hid (HH2.out.keeps k3 (fun e => HH2.out.ne HD2.out.1 (by decide) e)); have HD3 : RowKit.Hid (DecMem w3 (w1.heap.size + 1) g v b2 (plD1 b2)) := d3; clear d3 k3 H2)
                              | (go_at_call 16; have h1 := H1.out; clear h1; have HB2 : RowKit.Hid (w.heap.size ≤ w1.heap.size + 1) := (by have := H1.out.fs.hb.size; rw [alloc_sizeB] at this; exact this); go_loud (refine (refOpen_any a5 mb c5 b2 _ (H1.out.ints rfl HMB.out).1 (H1.out.ints rfl HMB.out).2 HBy.out HLn.out.2.2).mono ?_); rintro e w2 ⟨g, v, rfl, d2, b2'⟩; have HD2 : RowKit.Hid (DecMem w2 (w1.heap.size + 1) g v b2 (plD0 b2)) := (by rw [alloc_sizeB] at d2; exact d2); have H2 := Lib.hid (H1.out.now b2'); have HH2 := Lib.hid (HH1.out.below b2'); clear d2 b2' H1)
                              | (go_at_call 15; go_loud (refine (pRead_any a5 mb c5 b2 _ (HF0.out.ints rfl HMB.out).1 (HF0.out.ints rfl HMB.out).2 HBy.out HLn.out.2.1).mono ?_); rintro e w1 ⟨b1, ⟨_, rfl⟩ | ⟨hh, _⟩⟩; (case inr => exact absurd (HHq.out.symm.trans hh) (by decide)); rw [HV.out]; have H1 := Lib.hid ((HF0.out.now b1).now (Below.alloc_new w1 (.cells #[.bool true, .bool rb, .int .i64 Z, .int .i64 L] 49))); have HH1 := Lib.hid (Cel.new w1 49 #[.bool true, .bool rb, .int .i64 Z, .int .i64 L]); clear b1))
                            go_roundw
                            case rel => exact ⟨t + 1, S', T.play b2 n, by omega, by go_num, H10.out, HSk.out, P14.Ok.play HMy.out n⟩
                            case measure => simp [intOf] <;> omega
                        · have HMy := Lib.hid hm; clear hm
                          as_aux_lemma =>
                            go_wp2_with (first
                              | (go_at_call 19; go_loud (refine (rlyPlay_any b2 n x _ g8 v8 T _ H8.out.fs.hx H.out.kt HBy.out HLn.out.1 HD8.out HNb.out.1 HNb.out.2).mono ?_); rintro e w9 ⟨⟨hh, _⟩ | ⟨_, x9, rfl⟩, k9⟩; (case inl => exact absurd hh HMy.out); have H9 := Lib.hid (H8.out.fs.doc x9 ⟨⟨_, HD8.out.1⟩, (dec_cel HD8.out HB8.out).2⟩ k9); clear x9 k9 H8)
                              | (go_at_call 16; have h7 := H7.out; clear h7; have HB8 := Lib.hid H7.out.fs.hb.size; go_loud (refine (refOpen_any a5 mb c5 b2 _ (H7.out.ints rfl HMB.out).1 (H7.out.ints rfl HMB.out).2 HBy.out HLn.out.2.2).mono ?_); rintro e w8 ⟨g8, v8, rfl, d8, b8⟩; have HD8 : RowKit.Hid (DecMem w8 w7.heap.size g8 v8 b2 (plD0 b2)) := d8; have H8 := Lib.hid (H7.out.now b8); clear d8 b8 H7)
                              | (go_at_call 18; go_loud (refine (pPlay_any T b2 n p s a5 mb c5 _ H6.out.fs.hp H.out.kt (H6.out.ints rfl HMB.out).1 (H6.out.ints rfl HMB.out).2 HBy.out HLn.out.2.1 HNb.out.1 HNb.out.2).mono ?_); rintro e w7 (⟨hh, _⟩ | ⟨_, er, rfl, ho, h3, h8, b7⟩); (case inl => exact absurd hh HMy.out); have her : (er == 0) = false := (by rcases ho with e | e <;> rw [e] <;> rfl); have H7 := Lib.hid (H6.out.now b7); clear ho h3 h8 b7 H6; have y3 := H7.out.fs.hx.has.1)
                              | (go_at_call 17; have h5 := H5.out; clear h5; go_loud (refine (rBitsA _ g v b2 (plD3 b2) 5 _ HD5.out HBy.out HLn.out.1 HPG.out.i.2.2.2.1 HPG.out.g3 (by decide)).mono ?_); rintro e w6 ⟨rfl, d6, k6⟩; rw [HE.out.2.2.2]; have H6 := Lib.hid (H5.out.dec (dec_cel HD5.out HB2.out) k6); have HH6 := Lib.hid (HH5.out.keeps k6 (fun e => HH5.out.ne HD5.out.1 (by decide) e)); have HD6 : RowKit.Hid (DecMem w6 (w1.heap.size + 1) g v b2 (plD4 b2)) := d6; clear d6 k6 H5; have m0 : w6.cell? ⟨w1.heap.size, 0, none⟩ = some (.bool true) := HH6.out.cell 0; have m1 : w6.cell? ⟨w1.heap.size, 1, none⟩ = some (.bool rb) := HH6.out.cell 1; have m2 : w6.cell? ⟨w1.heap.size, 2, none⟩ = some (.int .i64 Z) := HH6.out.cell 2; have m3 : w6.cell? ⟨w1.heap.size, 3, none⟩ = some (.int .i64 L) := HH6.out.cell 3)
                              | (go_at_call 17; have h4 := H4.out; clear h4; go_loud (refine (rBitsA _ g v b2 (plD2 b2) 4 _ HD4.out HBy.out HLn.out.1 HPG.out.i.2.2.1 HPG.out.g2 (by decide)).mono ?_); rintro e w5 ⟨rfl, d5, k5⟩; rw [HE.out.2.2.1]; have H5 := Lib.hid (H4.out.dec (dec_cel HD4.out HB2.out) k5); have HH5 := Lib.hid (HH4.out.keeps k5 (fun e => HH4.out.ne HD4.out.1 (by decide) e)); have HD5 : RowKit.Hid (DecMem w5 (w1.heap.size + 1) g v b2 (plD3 b2)) := d5; clear d5 k5 H4)
                              | (go_at_call 17; have h3 := H3.out; clear h3; go_loud (refine (rBitsA _ g v b2 (plD1 b2) 1 _ HD3.out HBy.out HLn.out.1 HPG.out.i.2.1 HPG.out.g1 (by decide)).mono ?_); rintro e w4 ⟨rfl, d4, k4⟩; rw [HE.out.2.1]; have H4 := Lib.hid (H3.out.dec (dec_cel HD3.out HB2.out) k4); have HH4 := Lib.hid (HH3.out.keeps k4 (fun e => HH3.out.ne HD3.out.1 (by decide) e)); have HD4 : RowKit.Hid (DecMem w4 (w1.heap.size + 1) g v b2 (plD2 b2)) := d4; clear d4 k4 H3)
                              | (go_at_call 17; have h2 := H2.out; clear h2; go_loud (refine (rBitsA _ g v b2 (plD0 b2) 1 _ HD2.out HBy.out HLn.out.1 HPG.out.i.1 HPG.out.g0 (by decide)).mono ?_); rintro e w3 ⟨rfl, d3, k3⟩; rw [HE.out.1]; have H3 := Lib.hid (H2.out.dec (dec_cel HD2.out HB2.out) k3); have HH3 := Lib.hid (HH2.out.keeps k3 (fun e => HH2.out.ne HD2.out.1 (by decide) e)); have HD3 : RowKit.Hid (DecMem w3 (w1.heap.size + 1) g v b2 (plD1 b2)) := d3; clear d3 k3 H2)
                              | (go_at_call 16; have h1 := H1.out; clear h1; have HB2 : RowKit.Hid (w.heap.size ≤ w1.heap.size + 1) := (by have := H1.out.fs.hb.size; rw [alloc_sizeB] at this; exact this); go_loud (refine (refOpen_any a5 mb c5 b2 _ (H1.out.ints rfl HMB.out).1 (H1.out.ints rfl HMB.out).2 HBy.out HLn.out.2.2).mono ?_); rintro e w2 ⟨g, v, rfl, d2, b2'⟩; have HD2 : RowKit.Hid (DecMem w2 (w1.heap.size + 1) g v b2 (plD0 b2)) := (by rw [alloc_sizeB] at d2; exact d2); have H2 := Lib.hid (H1.out.now b2'); have HH2 := Lib.hid (HH1.out.below b2'); clear d2 b2' H1)
                              | (go_at_call 15; go_loud (refine (pRead_any a5 mb c5 b2 _ (HF0.out.ints rfl HMB.out).1 (HF0.out.ints rfl HMB.out).2 HBy.out HLn.out.2.1).mono ?_); rintro e w1 ⟨b1, ⟨_, rfl⟩ | ⟨hh, _⟩⟩; (case inr => exact absurd (HHq.out.symm.trans hh) (by decide)); rw [HV.out]; have H1 := Lib.hid ((HF0.out.now b1).now (Below.alloc_new w1 (.cells #[.bool true, .bool rb, .int .i64 Z, .int .i64 L] 49))); have HH1 := Lib.hid (Cel.new w1 49 #[.bool true, .bool rb, .int .i64 Z, .int .i64 L]); clear b1))
                            go_roundw
                            case rel => exact ⟨t + 1, S', T, by omega, by go_num, H9.out.done, HSk.out, H.out.kt⟩
                            case measure => simp [intOf] <;> omega
                      | false =>
                        cases hh : T.has with
                        | false =>
                          have HHas := Lib.hid hh; clear hh
                          have HMy : RowKit.Hid (¬ T.may b2) := fun hm => by
                            have := hm.1
                            unfold plOk0 at this
                            rw [HHas.out, plW_zero HBy.out HWh.out] at this
                            simp at this
                          as_aux_lemma =>
                            go_wp2_with (first
                              | (go_at_call 19; go_loud (refine (rlyPlay_any b2 n x _ g8 v8 T _ H8.out.fs.hx H.out.kt HBy.out HLn.out.1 HD8.out HNb.out.1 HNb.out.2).mono ?_); rintro e w9 ⟨⟨hh, _⟩ | ⟨_, x9, rfl⟩, k9⟩; (case inl => exact absurd hh HMy.out); have H9 := Lib.hid (H8.out.fs.doc x9 ⟨⟨_, HD8.out.1⟩, (dec_cel HD8.out HB8.out).2⟩ k9); clear x9 k9 H8)
                              | (go_at_call 16; have h7 := H7.out; clear h7; have HB8 := Lib.hid H7.out.fs.hb.size; go_loud (refine (refOpen_any a5 mb c5 b2 _ (H7.out.ints rfl HMB.out).1 (H7.out.ints rfl HMB.out).2 HBy.out HLn.out.2.2).mono ?_); rintro e w8 ⟨g8, v8, rfl, d8, b8⟩; have HD8 : RowKit.Hid (DecMem w8 w7.heap.size g8 v8 b2 (plD0 b2)) := d8; have H8 := Lib.hid (H7.out.now b8); clear d8 b8 H7)
                              | (go_at_call 18; go_loud (refine (pPlay_any T b2 n p s a5 mb c5 _ H6.out.fs.hp H.out.kt (H6.out.ints rfl HMB.out).1 (H6.out.ints rfl HMB.out).2 HBy.out HLn.out.2.1 HNb.out.1 HNb.out.2).mono ?_); rintro e w7 (⟨hh, _⟩ | ⟨_, er, rfl, ho, h3, h8, b7⟩); (case inl => exact absurd hh HMy.out); obtain rfl := h8 HHq.out HWh.out HHas.out; have H7 := Lib.hid (H6.out.now b7); clear ho h3 h8 b7 H6; have y3 := H7.out.fs.hx.has.1; rw [HHas.out] at y3)
                              | (go_at_call 17; have h5 := H5.out; clear h5; go_loud (refine (rBitsA _ g v b2 (plD3 b2) 5 _ HD5.out HBy.out HLn.out.1 HPG.out.i.2.2.2.1 HPG.out.g3 (by decide)).mono ?_); rintro e w6 ⟨rfl, d6, k6⟩; rw [HE.out.2.2.2]; have H6 := Lib.hid (H5.out.dec (dec_cel HD5.out HB2.out) k6); have HH6 := Lib.hid (HH5.out.keeps k6 (fun e => HH5.out.ne HD5.out.1 (by decide) e)); have HD6 : RowKit.Hid (DecMem w6 (w1.heap.size + 1) g v b2 (plD4 b2)) := d6; clear d6 k6 H5; have m0 : w6.cell? ⟨w1.heap.size, 0, none⟩ = some (.bool false) := HH6.out.cell 0; have m1 : w6.cell? ⟨w1.heap.size, 1, none⟩ = some (.bool rb) := HH6.out.cell 1; have m2 : w6.cell? ⟨w1.heap.size, 2, none⟩ = some (.int .i64 Z) := HH6.out.cell 2; have m3 : w6.cell? ⟨w1.heap.size, 3, none⟩ = some (.int .i64 L) := HH6.out.cell 3)
                              | (go_at_call 17; have h4 := H4.out; clear h4; go_loud (refine (rBitsA _ g v b2 (plD2 b2) 4 _ HD4.out HBy.out HLn.out.1 HPG.out.i.2.2.1 HPG.out.g2 (by decide)).mono ?_); rintro e w5 ⟨rfl, d5, k5⟩; rw [HE.out.2.2.1]; have H5 := Lib.hid (H4.out.dec (dec_cel HD4.out HB2.out) k5); have HH5 := Lib.hid (HH4.out.keeps k5 (fun e => HH4.out.ne HD4.out.1 (by decide) e)); have HD5 : RowKit.Hid (DecMem w5 (w1.heap.size + 1) g v b2 (plD3 b2)) := d5; clear d5 k5 H4)
                              | (go_at_call 17; have h3 := H3.out; clear h3; go_loud (refine (rBitsA _ g v b2 (plD1 b2) 1 _ HD3.out HBy.out HLn.out.1 HPG.out.i.2.1 HPG.out.g1 (by decide)).mono ?_); rintro e w4 ⟨rfl, d4, k4⟩; rw [HE.out.2.1]; have H4 := Lib.hid (H3.out.dec (dec_cel HD3.out HB2.out) k4); have HH4 := Lib.hid (HH3.out.keeps k4 (fun e => HH3.out.ne HD3.out.1 (by decide) e)); have HD4 : RowKit.Hid (DecMem w4 (w1.heap.size + 1) g v b2 (plD2 b2)) := d4; clear d4 k4 H3)
                              | (go_at_call 17; have h2 := H2.out; clear h2; go_loud (refine (rBitsA _ g v b2 (plD0 b2) 1 _ HD2.out HBy.out HLn.out.1 HPG.out.i.1 HPG.out.g0 (by decide)).mono ?_); rintro e w3 ⟨rfl, d3, k3⟩; rw [HE.out.1]; have H3 := Lib.hid (H2.out.dec (dec_cel HD2.out HB2.out) k3); have HH3 := Lib.hid (HH2.out.keeps k3 (fun e => HH2.out.ne HD2.out.1 (by decide) e)); have HD3 : RowKit.Hid (DecMem w3 (w1.heap.size + 1) g v b2 (plD1 b2)) := d3; clear d3 k3 H2)
                              | (go_at_call 16; have h1 := H1.out; clear h1; have HB2 : RowKit.Hid (w.heap.size ≤ w1.heap.size + 1) := (by have := H1.out.fs.hb.size; rw [alloc_sizeB] at this; exact this); go_loud (refine (refOpen_any a5 mb c5 b2 _ (H1.out.ints rfl HMB.out).1 (H1.out.ints rfl HMB.out).2 HBy.out HLn.out.2.2).mono ?_); rintro e w2 ⟨g, v, rfl, d2, b2'⟩; have HD2 : RowKit.Hid (DecMem w2 (w1.heap.size + 1) g v b2 (plD0 b2)) := (by rw [alloc_sizeB] at d2; exact d2); have H2 := Lib.hid (H1.out.now b2'); have HH2 := Lib.hid (HH1.out.below b2'); clear d2 b2' H1)
                              | (go_at_call 15; go_loud (refine (pRead_any a5 mb c5 b2 _ (HF0.out.ints rfl HMB.out).1 (HF0.out.ints rfl HMB.out).2 HBy.out HLn.out.2.1).mono ?_); rintro e w1 ⟨b1, ⟨_, rfl⟩ | ⟨hh, _⟩⟩; (case inr => exact absurd (HHq.out.symm.trans hh) (by decide)); rw [HV.out]; have H1 := Lib.hid ((HF0.out.now b1).now (Below.alloc_new w1 (.cells #[.bool false, .bool rb, .int .i64 Z, .int .i64 L] 49))); have HH1 := Lib.hid (Cel.new w1 49 #[.bool false, .bool rb, .int .i64 Z, .int .i64 L]); clear b1))
                            go_roundw
                            case rel => exact ⟨t + 1, S', T, by omega, by go_num, H9.out.done, HSk.out, H.out.kt⟩
                            case measure => simp [intOf] <;> omega
                        | true =>
                          have HHas := Lib.hid hh; clear hh
                          by_cases hm : T.may b2
                          · have HMy := Lib.hid hm; clear hm
                            as_aux_lemma =>
                              go_wp2_with (first
                                | (go_at_call 20; go_loud (refine (same_at r7 r9 512 cp9 (T.plays b2 n) _ HX9.out HY9.out HSb.out).mono ?_); rintro e w10 ⟨rfl, q10, hw10⟩; have HW10 := Lib.hid hw10; clear hw10; have H10 : RowKit.Hid (PaSt w gm p s x Q B S' (T.play b2 n) w10) := (by show PaSt _ _ _ _ _ _ _ _ _ _; rw [HW10.out]; exact H9.out.done.now (Below.drewN' (Below.refl _ _) q10)))
                                | (go_at_call 19; go_loud (refine (rlyPlay_any b2 n x _ g8 v8 T _ H8.out.fs.hx H.out.kt HBy.out HLn.out.1 HD8.out HNb.out.1 HNb.out.2).mono ?_); rintro e w9 ⟨⟨_, x9, r9, cp9, rfl, n9⟩ | ⟨hh, _⟩, k9⟩; (case inr => exact absurd HMy.out hh); have HY9 := Lib.hid n9; have H9 := Lib.hid (H8.out.fs.doc x9 ⟨⟨_, HD8.out.1⟩, (dec_cel HD8.out HB8.out).2⟩ k9); have HX9 := Lib.hid (Cel.keeps HX8.out k9 (fun e => e.elim (fun e => by obtain ⟨cs, hc, _⟩ := H8.out.fs.hx.cel; exact Cel.ne HX8.out hc (by decide) e) (fun e => Cel.ne HX8.out HD8.out.1 (by decide) e))); clear x9 n9 k9 H8)
                                | (go_at_call 16; have h7 := H7.out; clear h7; have HB8 := Lib.hid H7.out.fs.hb.size; go_loud (refine (refOpen_any a5 mb c5 b2 _ (H7.out.ints rfl HMB.out).1 (H7.out.ints rfl HMB.out).2 HBy.out HLn.out.2.2).mono ?_); rintro e w8 ⟨g8, v8, rfl, d8, b8⟩; have HD8 : RowKit.Hid (DecMem w8 w7.heap.size g8 v8 b2 (plD0 b2)) := d8; have H8 := Lib.hid (H7.out.now b8); have HX8 := Lib.hid (HX7.out.below b8 HX7.out.lt); clear d8 b8 H7)
                                | (go_at_call 18; go_loud (refine (pPlay_any T b2 n p s a5 mb c5 _ H6.out.fs.hp H.out.kt (H6.out.ints rfl HMB.out).1 (H6.out.ints rfl HMB.out).2 HBy.out HLn.out.2.1 HNb.out.1 HNb.out.2).mono ?_); rintro e w7 (⟨_, r7, rfl, i7, s7, p7, k7⟩ | ⟨hh, _⟩); (case inr => exact absurd HMy.out hh); have HX7 := Lib.hid i7; have H7 := Lib.hid (H6.out.prog p7 k7); clear i7 s7 p7 k7 H6; have y3 := H7.out.fs.hx.has.1; rw [HHas.out] at y3)
                                | (go_at_call 17; have h5 := H5.out; clear h5; go_loud (refine (rBitsA _ g v b2 (plD3 b2) 5 _ HD5.out HBy.out HLn.out.1 HPG.out.i.2.2.2.1 HPG.out.g3 (by decide)).mono ?_); rintro e w6 ⟨rfl, d6, k6⟩; rw [HE.out.2.2.2]; have H6 := Lib.hid (H5.out.dec (dec_cel HD5.out HB2.out) k6); have HH6 := Lib.hid (HH5.out.keeps k6 (fun e => HH5.out.ne HD5.out.1 (by decide) e)); have HD6 : RowKit.Hid (DecMem w6 (w1.heap.size + 1) g v b2 (plD4 b2)) := d6; clear d6 k6 H5; have m0 : w6.cell? ⟨w1.heap.size, 0, none⟩ = some (.bool false) := HH6.out.cell 0; have m1 : w6.cell? ⟨w1.heap.size, 1, none⟩ = some (.bool rb) := HH6.out.cell 1; have m2 : w6.cell? ⟨w1.heap.size, 2, none⟩ = some (.int .i64 Z) := HH6.out.cell 2; have m3 : w6.cell? ⟨w1.heap.size, 3, none⟩ = some (.int .i64 L) := HH6.out.cell 3)
                                | (go_at_call 17; have h4 := H4.out; clear h4; go_loud (refine (rBitsA _ g v b2 (plD2 b2) 4 _ HD4.out HBy.out HLn.out.1 HPG.out.i.2.2.1 HPG.out.g2 (by decide)).mono ?_); rintro e w5 ⟨rfl, d5, k5⟩; rw [HE.out.2.2.1]; have H5 := Lib.hid (H4.out.dec (dec_cel HD4.out HB2.out) k5); have HH5 := Lib.hid (HH4.out.keeps k5 (fun e => HH4.out.ne HD4.out.1 (by decide) e)); have HD5 : RowKit.Hid (DecMem w5 (w1.heap.size + 1) g v b2 (plD3 b2)) := d5; clear d5 k5 H4)
                                | (go_at_call 17; have h3 := H3.out; clear h3; go_loud (refine (rBitsA _ g v b2 (plD1 b2) 1 _ HD3.out HBy.out HLn.out.1 HPG.out.i.2.1 HPG.out.g1 (by decide)).mono ?_); rintro e w4 ⟨rfl, d4, k4⟩; rw [HE.out.2.1]; have H4 := Lib.hid (H3.out.dec (dec_cel HD3.out HB2.out) k4); have HH4 := Lib.hid (HH3.out.keeps k4 (fun e => HH3.out.ne HD3.out.1 (by decide) e)); have HD4 : RowKit.Hid (DecMem w4 (w1.heap.size + 1) g v b2 (plD2 b2)) := d4; clear d4 k4 H3)
                                | (go_at_call 17; have h2 := H2.out; clear h2; go_loud (refine (rBitsA _ g v b2 (plD0 b2) 1 _ HD2.out HBy.out HLn.out.1 HPG.out.i.1 HPG.out.g0 (by decide)).mono ?_); rintro e w3 ⟨rfl, d3, k3⟩; rw [HE.out.1]; have H3 := Lib.hid (H2.out.dec (dec_cel HD2.out HB2.out) k3); have HH3 := Lib.hid (HH2.out.keeps k3 (fun e => HH2.out.ne HD2.out.1 (by decide) e)); have HD3 : RowKit.Hid (DecMem w3 (w1.heap.size + 1) g v b2 (plD1 b2)) := d3; clear d3 k3 H2)
                                | (go_at_call 16; have h1 := H1.out; clear h1; have HB2 : RowKit.Hid (w.heap.size ≤ w1.heap.size + 1) := (by have := H1.out.fs.hb.size; rw [alloc_sizeB] at this; exact this); go_loud (refine (refOpen_any a5 mb c5 b2 _ (H1.out.ints rfl HMB.out).1 (H1.out.ints rfl HMB.out).2 HBy.out HLn.out.2.2).mono ?_); rintro e w2 ⟨g, v, rfl, d2, b2'⟩; have HD2 : RowKit.Hid (DecMem w2 (w1.heap.size + 1) g v b2 (plD0 b2)) := (by rw [alloc_sizeB] at d2; exact d2); have H2 := Lib.hid (H1.out.now b2'); have HH2 := Lib.hid (HH1.out.below b2'); clear d2 b2' H1)
                                | (go_at_call 15; go_loud (refine (pRead_any a5 mb c5 b2 _ (HF0.out.ints rfl HMB.out).1 (HF0.out.ints rfl HMB.out).2 HBy.out HLn.out.2.1).mono ?_); rintro e w1 ⟨b1, ⟨_, rfl⟩ | ⟨hh, _⟩⟩; (case inr => exact absurd (HHq.out.symm.trans hh) (by decide)); rw [HV.out]; have H1 := Lib.hid ((HF0.out.now b1).now (Below.alloc_new w1 (.cells #[.bool false, .bool rb, .int .i64 Z, .int .i64 L] 49))); have HH1 := Lib.hid (Cel.new w1 49 #[.bool false, .bool rb, .int .i64 Z, .int .i64 L]); clear b1))
                              go_roundw
                              case rel => exact ⟨t + 1, S', T.play b2 n, by omega, by go_num, H10.out, HSk.out, P14.Ok.play HMy.out n⟩
                              case measure => simp [intOf] <;> omega
                          · have HMy := Lib.hid hm; clear hm
                            as_aux_lemma =>
                              go_wp2_with (first
                                | (go_at_call 19; go_loud (refine (rlyPlay_any b2 n x _ g8 v8 T _ H8.out.fs.hx H.out.kt HBy.out HLn.out.1 HD8.out HNb.out.1 HNb.out.2).mono ?_); rintro e w9 ⟨⟨hh, _⟩ | ⟨_, x9, rfl⟩, k9⟩; (case inl => exact absurd hh HMy.out); have H9 := Lib.hid (H8.out.fs.doc x9 ⟨⟨_, HD8.out.1⟩, (dec_cel HD8.out HB8.out).2⟩ k9); clear x9 k9 H8)
                                | (go_at_call 16; have h7 := H7.out; clear h7; have HB8 := Lib.hid H7.out.fs.hb.size; go_loud (refine (refOpen_any a5 mb c5 b2 _ (H7.out.ints rfl HMB.out).1 (H7.out.ints rfl HMB.out).2 HBy.out HLn.out.2.2).mono ?_); rintro e w8 ⟨g8, v8, rfl, d8, b8⟩; have HD8 : RowKit.Hid (DecMem w8 w7.heap.size g8 v8 b2 (plD0 b2)) := d8; have H8 := Lib.hid (H7.out.now b8); clear d8 b8 H7)
                                | (go_at_call 18; go_loud (refine (pPlay_any T b2 n p s a5 mb c5 _ H6.out.fs.hp H.out.kt (H6.out.ints rfl HMB.out).1 (H6.out.ints rfl HMB.out).2 HBy.out HLn.out.2.1 HNb.out.1 HNb.out.2).mono ?_); rintro e w7 (⟨hh, _⟩ | ⟨_, er, rfl, ho, h3, h8, b7⟩); (case inl => exact absurd hh HMy.out); have her : (er == 0) = false := (by rcases ho with e | e <;> rw [e] <;> rfl); have H7 := Lib.hid (H6.out.now b7); clear ho h3 h8 b7 H6; have y3 := H7.out.fs.hx.has.1; rw [HHas.out] at y3)
                                | (go_at_call 17; have h5 := H5.out; clear h5; go_loud (refine (rBitsA _ g v b2 (plD3 b2) 5 _ HD5.out HBy.out HLn.out.1 HPG.out.i.2.2.2.1 HPG.out.g3 (by decide)).mono ?_); rintro e w6 ⟨rfl, d6, k6⟩; rw [HE.out.2.2.2]; have H6 := Lib.hid (H5.out.dec (dec_cel HD5.out HB2.out) k6); have HH6 := Lib.hid (HH5.out.keeps k6 (fun e => HH5.out.ne HD5.out.1 (by decide) e)); have HD6 : RowKit.Hid (DecMem w6 (w1.heap.size + 1) g v b2 (plD4 b2)) := d6; clear d6 k6 H5; have m0 : w6.cell? ⟨w1.heap.size, 0, none⟩ = some (.bool false) := HH6.out.cell 0; have m1 : w6.cell? ⟨w1.heap.size, 1, none⟩ = some (.bool rb) := HH6.out.cell 1; have m2 : w6.cell? ⟨w1.heap.size, 2, none⟩ = some (.int .i64 Z) := HH6.out.cell 2; have m3 : w6.cell? ⟨w1.heap.size, 3, none⟩ = some (.int .i64 L) := HH6.out.cell 3)
                                | (go_at_call 17; have h4 := H4.out; clear h4; go_loud (refine (rBitsA _ g v b2 (plD2 b2) 4 _ HD4.out HBy.out HLn.out.1 HPG.out.i.2.2.1 HPG.out.g2 (by decide)).mono ?_); rintro e w5 ⟨rfl, d5, k5⟩; rw [HE.out.2.2.1]; have H5 := Lib.hid (H4.out.dec (dec_cel HD4.out HB2.out) k5); have HH5 := Lib.hid (HH4.out.keeps k5 (fun e => HH4.out.ne HD4.out.1 (by decide) e)); have HD5 : RowKit.Hid (DecMem w5 (w1.heap.size + 1) g v b2 (plD3 b2)) := d5; clear d5 k5 H4)
                                | (go_at_call 17; have h3 := H3.out; clear h3; go_loud (refine (rBitsA _ g v b2 (plD1 b2) 1 _ HD3.out HBy.out HLn.out.1 HPG.out.i.2.1 HPG.out.g1 (by decide)).mono ?_); rintro e w4 ⟨rfl, d4, k4⟩; rw [HE.out.2.1]; have H4 := Lib.hid (H3.out.dec (dec_cel HD3.out HB2.out) k4); have HH4 := Lib.hid (HH3.out.keeps k4 (fun e => HH3.out.ne HD3.out.1 (by decide) e)); have HD4 : RowKit.Hid (DecMem w4 (w1.heap.size + 1) g v b2 (plD2 b2)) := d4; clear d4 k4 H3)
                                | (go_at_call 17; have h2 := H2.out; clear h2; go_loud (refine (rBitsA _ g v b2 (plD0 b2) 1 _ HD2.out HBy.out HLn.out.1 HPG.out.i.1 HPG.out.g0 (by decide)).mono ?_); rintro e w3 ⟨rfl, d3, k3⟩; rw [HE.out.1]; have H3 := Lib.hid (H2.out.dec (dec_cel HD2.out HB2.out) k3); have HH3 := Lib.hid (HH2.out.keeps k3 (fun e => HH2.out.ne HD2.out.1 (by decide) e)); have HD3 : RowKit.Hid (DecMem w3 (w1.heap.size + 1) g v b2 (plD1 b2)) := d3; clear d3 k3 H2)
                                | (go_at_call 16; have h1 := H1.out; clear h1; have HB2 : RowKit.Hid (w.heap.size ≤ w1.heap.size + 1) := (by have := H1.out.fs.hb.size; rw [alloc_sizeB] at this; exact this); go_loud (refine (refOpen_any a5 mb c5 b2 _ (H1.out.ints rfl HMB.out).1 (H1.out.ints rfl HMB.out).2 HBy.out HLn.out.2.2).mono ?_); rintro e w2 ⟨g, v, rfl, d2, b2'⟩; have HD2 : RowKit.Hid (DecMem w2 (w1.heap.size + 1) g v b2 (plD0 b2)) := (by rw [alloc_sizeB] at d2; exact d2); have H2 := Lib.hid (H1.out.now b2'); have HH2 := Lib.hid (HH1.out.below b2'); clear d2 b2' H1)
                                | (go_at_call 15; go_loud (refine (pRead_any a5 mb c5 b2 _ (HF0.out.ints rfl HMB.out).1 (HF0.out.ints rfl HMB.out).2 HBy.out HLn.out.2.1).mono ?_); rintro e w1 ⟨b1, ⟨_, rfl⟩ | ⟨hh, _⟩⟩; (case inr => exact absurd (HHq.out.symm.trans hh) (by decide)); rw [HV.out]; have H1 := Lib.hid ((HF0.out.now b1).now (Below.alloc_new w1 (.cells #[.bool false, .bool rb, .int .i64 Z, .int .i64 L] 49))); have HH1 := Lib.hid (Cel.new w1 49 #[.bool false, .bool rb, .int .i64 Z, .int .i64 L]); clear b1))
                              go_roundw
                              case rel => exact ⟨t + 1, S', T, by omega, by go_num, H9.out.done, HSk.out, H.out.kt⟩
                              case measure => simp [intOf] <;> omega
    · obtain rfl : t = len2 := by omega
      have l1 : ¬ (t : Int) < (t : Int) := by omega
      go_wp2
      go_ret
      exact ⟨rfl, H.out.st.hb⟩
end Go.Proofs.YtmegkohfnodkjaaGreat
