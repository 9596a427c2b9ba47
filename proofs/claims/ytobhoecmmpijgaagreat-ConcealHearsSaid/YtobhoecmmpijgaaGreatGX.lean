/- Plain facts, and what functions give, for the proofs of this seat: several texts in one, each with its own first remark. -/
import Derived.Deep.CutBlock
import Derived.Deep.DeepCutAuto
import Derived.BigRegion
import Derived.Test.YtobhoecmmpijgaaGreatGW

/- ConcealHears: the walk. -/
namespace Go.Proofs.YtobhoecmmpijgaaGreat
open Go Go.RowKit
set_option linter.unusedVariables false
set_option linter.unusedSimpArgs false
set_option maxRecDepth 100000

/-- What is held at a round's head. -/
structure HiIn (w : World) (g e p s m x : Nat) (ep nu : Int) (S : S13) (E : E15) (wr : World) : Prop where
  hs : HaSt w g e p s m x S E E wr
  ok : S.Ok
  ek : E.Ok
  eb : 0 ≤ ep ∧ ep ≤ 4294967295
  nb : 0 ≤ nu ∧ nu ≤ 4294967295
set_option maxHeartbeats 8000000 in
theorem concealHears_law (st : Int) (a a2 : Option Addr) (len cap len2 cap2 : Nat) (zs : List Int) (Z : Nat → List Value) (w : World) (hst : 0 ≤ st ∧ st ≤ 4294967295) (hz : IntsAt w w.heap.size .i16 a len zs) (hzb : ∀ j, -32768 ≤ zs.getD j 0 ∧ zs.getD j 0 ≤ 32767) (hZ : StructsIn w act15K a2 len2 Z) (hl : len ≤ 2000) (hl2 : len2 ≤ 9) :
    Calls Tryz.prog 3 #[.slice a len cap, .int .u32 st, .slice a2 len2 cap2] w fun e w' => e = .returned (.bool true) ∧ Below w.heap.size w w' := by
  have HZ := Lib.hid hz
  have HZb := Lib.hid hzb
  have HZS := Lib.hid hZ
  have HSt := Lib.hid hst
  have hd : decide ((2000 : Int) < (len : Int)) = false := by simp; omega
  have hd2 : decide ((9 : Int) < (len2 : Int)) = false := by simp; omega
  clear hz hZ hzb hst
  go_enter Tryz.func3, Tryz.ntmps3
  go_wp2_with (first
    | (go_at_call 9; have h4 := H4.out; clear h4; go_loud (refine (rNew_any 5 120 _).mono ?_); rintro en w5 ⟨g, rfl, h5, y1, b5⟩; have H5 : RowKit.Hid (HaSt w g e p s w3.heap.size x s13Zero e15Zero e15Zero w5) := (by have h4 := H4.out; have hs := h4.hb.size; exact ⟨chain h4.hb b5, h5, h4.he.below b5, h4.hm.below b5, Nat.le_trans hs y1, h4.ho.2⟩); clear h5 y1 b5)
    | (go_at_call 8; have h2 := H2.out; clear h2; go_loud (refine (rlyNew_any _).mono ?_); rintro en w3 ⟨x, rfl, h3, y1, b3⟩; have H4 : RowKit.Hid (HmSt w e p s w3.heap.size x (w3.alloc (.cells #[.pointer (some ⟨x, 0, none⟩), .int .u32 0, .int .u32 0, .bool false, .bool false] 32))) := (by have hb := chain H2.out.2.1 b3; have b4 := Below.alloc_new w3 (.cells #[.pointer (some ⟨x, 0, none⟩), .int .u32 0, .int .u32 0, .bool false, .bool false] 32); exact ⟨chain hb b4, (H2.out.1.below b3).below b4, ⟨Cel.new w3 _ _, h3.below b4⟩, ⟨Nat.zero_le _, H2.out.2.2, hb.size, Nat.le_trans H2.out.2.1.size y1⟩⟩); clear h3 y1 b3)
    | (go_at_call 7; go_loud (refine (eNew_any _).mono ?_); rintro en w2 ⟨e, p, s, rfl, h2, y1, y2, y3, b2⟩; have H2 : RowKit.Hid (EarAt w2 e p s e15Zero ∧ Below w.heap.size w w2 ∧ w.heap.size ≤ e ∧ w.heap.size ≤ p ∧ w.heap.size ≤ s) := ⟨h2, chain HB1.out b2, Nat.le_trans HB1.out.size y1, Nat.le_trans HB1.out.size y2, Nat.le_trans HB1.out.size y3⟩; clear h2 y1 y2 y3 b2)
    | (go_at_call 6; go_loud (refine (lives15_any _).mono ?_); rintro en w1 ⟨rfl, hb⟩; have HB1 := Lib.hid hb; clear hb))
  generalize w3.heap.size = m at H5 ⊢
  have HI0 : RowKit.Hid (HiIn w g e p s m x 1 st s13Zero e15Zero w5) := ⟨H5.out, s13Zero_ok, e15Zero_ok, by decide, HSt.out⟩
  clear hd hd2 H5 H4 H2 HB1
  go_loopw [9, 10, 11, 44] (fun gg ee nn i wr => ∃ (t g : Nat) (x : Nat) (ep nu : Int) (S : S13) (E : E15), t ≤ len2 ∧ gg = .pointer (some ⟨g, 0, none⟩) ∧ ee = .int .u32 ep ∧ nn = .int .u32 nu ∧ i = .int .i64 ((t : Nat) : Int) ∧ RowKit.Hid (HiIn w g e p s m x ep nu S E wr)) (fun _ _ _ i _ => len2 - (intOf i).toNat)
  case atStart => exact ⟨0, g, x, 1, st, s13Zero, e15Zero, by omega, rfl, rfl, rfl, rfl, HI0.out⟩
  case round =>
    clear HI0
    obtain ⟨t, g, x, ep, nu, S, E, ht, rfl, rfl, rfl, rfl, H⟩ := hrel
    by_cases hlt : t < len2
    · obtain ⟨bb, bo, hab, hbB, hat⟩ := HZS.out.2.2.resolve_left (by omega)
      obtain ⟨kd, at', to', hcs, hkd, hat1, hto⟩ := act15_cells (HZS.out.2.1 t hlt)
      have hat' : ∀ (q : Nat) (u : Value), ([.int .u8 kd, .int .u8 at', .int .u8 to'] : List Value)[q]? = some u → wr.cell? ⟨bb, bo + t * 3 + q, none⟩ = some u := by
        intro q u hq
        rw [← hcs] at hq
        rw [Nat.add_assoc]
        exact (H.out.hs.hb.cell (p := ⟨bb, bo + (t * 3 + q), none⟩) hbB).trans (hat t hlt q u hq)
      subst hab
      have h0 : wr.cell? ⟨bb, bo + t * 3, none⟩ = some (.int .u8 kd) := hat' 0 _ rfl
      have h1 := hat' 1 _ rfl
      have h2 := hat' 2 _ rfl
      obtain ⟨kd0, kd1⟩ := hkd
      obtain ⟨at0, at1⟩ := hat1
      have hto2 := Lib.hid hto
      clear hat hat' hcs hto
      have hjl : (t : Int) < (len2 : Int) := by omega
      have HCA := Lib.hid (Cel.new wr 36 #[.int .u8 kd, .int .u8 at', .int .u8 to'])
      have H1 := Lib.hid (H.out.hs.now (Below.alloc_new wr (.cells #[.int .u8 kd, .int .u8 at', .int .u8 to'] 36)))
      obtain ⟨K, hK⟩ : ∃ K, K = kd % 6 := ⟨_, rfl⟩
      have hk5 : kd % 6 = K := hK.symm
      have hk6 : kd.tmod 6 = K := by rw [Int.tmod_eq_emod_of_nonneg (by omega)]; exact hK.symm
      have hK0 : 0 ≤ K ∧ K ≤ 5 := by omega
      have hk7 : IntKind.u8.wrap K = K := by rw [IntKind.wrap_u8]; omega
      clear hK
      obtain ⟨A, hA⟩ : ∃ A, A = wr.heap.size := ⟨_, rfl⟩
      go_upto_if 52 with fail
      obtain ⟨w1, hw1⟩ : ∃ w1, w1 = wr.alloc (.cells #[.int .u8 kd, .int .u8 at', .int .u8 to'] 36) := ⟨_, rfl⟩
      rw [← hw1] at HCA H1 ⊢
      rw [← hA] at HCA ⊢
      have HOk := Lib.hid H.out.ok
      have HEk := Lib.hid H.out.ek
      have HEb := Lib.hid H.out.eb
      have HNb := Lib.hid H.out.nb
      clear hw1 hA h0 h1 h2 H
      obtain ⟨ac, hac⟩ : ∃ ac : Array Value, ac = #[.int .u8 kd, .int .u8 at', .int .u8 to'] := ⟨_, rfl⟩
      have HAC : RowKit.Hid (ac = #[.int .u8 kd, .int .u8 at', .int .u8 to']) := hac
      rw [← hac] at HCA
      clear hac
      go_cut [9, 10, 11] (fun gg ee nn wx => ∃ (g : Nat) (ep nu : Int) (S : S13), gg = .pointer (some ⟨g, 0, none⟩) ∧ ee = .int .u32 ep ∧ nn = .int .u32 nu ∧ RowKit.Hid (HiIn w g e p s m x ep nu S E wx) ∧ RowKit.Hid (Cel wx A 36 ac))
      case first =>
        by_cases k3 : K = 3
        · obtain ⟨ep2, hep⟩ : ∃ ep2, ep2 = (ep + 1) % 4294967296 := ⟨_, rfl⟩
          have v1 : IntKind.u32.wrap (ep + 1) = ep2 := by rw [IntKind.wrap_u32, hep]
          have v2 : (ep + 1) % 4294967296 = ep2 := hep.symm
          have HE2 : RowKit.Hid (0 ≤ ep2 ∧ ep2 ≤ 4294967295) := ⟨by omega, by omega⟩
          subst k3
          clear hep
          go_wp2_with (go_at_call 9; go_loud (refine (rNew_any 5 120 _).mono ?_); rintro en w2 ⟨g2, rfl, r2, y2, b2⟩; have H2 : RowKit.Hid (HiIn w g2 e p s m x ep2 st s13Zero E w2) := ⟨H1.out.fresh b2 r2 y2, s13Zero_ok, HEk.out, HE2.out, HSt.out⟩; have HA2 := Lib.hid (HCA.out.below b2); clear r2 y2 b2)
          go_meet
          exact ⟨g2, ep2, st, s13Zero, rfl, rfl, rfl, H2.out, HA2.out⟩
        · have c3 : (K == 3) = false := by simpa using k3
          go_wp2
          go_meet
          exact ⟨g, ep, nu, S, rfl, rfl, rfl, ⟨H1.out, HOk.out, HEk.out, HEb.out, HNb.out⟩, HCA.out⟩
      case rest =>
        clear H1 HCA HOk HEb HNb
        obtain ⟨g, ep, nu, S, rfl, rfl, rfl, H, HCA⟩ := hcut
        obtain ⟨wd, rfl⟩ : ∃ wd : World, wd = wc := ⟨_, rfl⟩
        have y0 : wd.cell? ⟨A, 0, none⟩ = some (.int .u8 kd) := by rw [HCA.out.cell 0, HAC.out]; rfl
        by_cases k4 : K = 4
        · subst k4
          have HMt : RowKit.Hid (∀ wx, HaSt w g e p s m x S E.brk E wx → wx.cell? ⟨m, 3, none⟩ = some (.bool E.run) ∧ wx.frozen? ⟨m, 3, none⟩ = false) := fun wx hx => ⟨hx.hm.hm.cell 3, hx.hm.hm.frozen 3⟩
          go_wp2_with (go_at_call 10; go_loud (refine (eBreak_any e p s E _ H.out.hs.he).mono ?_); rintro en w2 ⟨rfl, e2, k2⟩; have H2 := Lib.hid (H.out.hs.ear e2 (k2.mono fun j hj => .inl hj)); obtain ⟨m3, z3⟩ := HMt.out _ H2.out; clear e2 k2)
          go_roundw
          case rel => exact ⟨t + 1, g, x, ep, nu, S, E.brk, by omega, rfl, rfl, rfl, by go_num, H2.out.brk, H.out.ok, H.out.ek.brk, H.out.eb, H.out.nb⟩
          case measure => simp [intOf] <;> omega
        · have c4 : (K == 4) = false := by simpa using k4
          obtain ⟨T5, hT5⟩ : ∃ T5, T5 = 512 * t := ⟨_, rfl⟩
          have e1 : 512 * (t : Int) = (T5 : Int) := by omega
          have HT5 := Lib.hid hT5
          have T1b : T5 ≤ 5000 := by omega
          have vT : IntKind.i64.wrap (T5 : Int) = (T5 : Int) := IntWalk.i64_in _ (by omega)
          clear hT5
          obtain ⟨D3, hD3⟩ : ∃ D3, D3 = at' % 3 := ⟨_, rfl⟩
          have d1 : at' % 3 = D3 := hD3.symm
          have d2 : at'.tmod 3 = D3 := by rw [Int.tmod_eq_emod_of_nonneg (by omega)]; exact hD3.symm
          have d3 : IntKind.u8.wrap D3 = D3 := by rw [IntKind.wrap_u8]; omega
          clear hD3
          obtain ⟨r, hr⟩ : ∃ r, (D3 == 0) = r := ⟨_, rfl⟩
          have HF := Lib.hid (S.F_ok (Q := 5) (B := 120) (by decide) (by decide) (frmF zs len T5) r)
          have HNx : RowKit.Hid ((S.next 5 120 (frmF zs len T5) nu r).Ok) := S13.Ok.next 5 120 (fun i _ => frmF_bd HZb.out _ _) nu r
          have HEn : RowKit.Hid (∀ (y : Nat) (wx : World), RefAt wx g 5 120 S → IFun wx y 51 .i16 512 (frmF zs len T5) → Calls Tryz.prog 11 #[.pointer (some ⟨g, 0, none⟩), .int .u32 nu, .slice (some ⟨y, 0, none⟩) 512 512, .bool r] wx (EncodeRPost g 5 120 S (frmF zs len T5) nu r wx)) := fun y wx h1 h2 => rEncode_any g y 5 120 S (frmF zs len T5) nu r wx h1 H.out.ok (by decide) (by decide) h2 (fun i _ => frmF_bd HZb.out _ _) H.out.nb.1 H.out.nb.2
          have HBd := Lib.hid (S.F 5 120 (frmF zs len T5) r).bytes_bd
          have HLe : RowKit.Hid ((S.F 5 120 (frmF zs len T5) r).bytes.length ≤ 600) := by have := HF.out.len; show _ ≤ _; omega
          obtain ⟨S2, hS2⟩ : ∃ S2, S2 = S.next 5 120 (frmF zs len T5) nu r := ⟨_, rfl⟩
          obtain ⟨by_, hby⟩ : ∃ by_, by_ = (S.F 5 120 (frmF zs len T5) r).bytes := ⟨_, rfl⟩
          obtain ⟨wh, hwh⟩ : ∃ wh, wh = (r || S.fs) := ⟨_, rfl⟩
          unfold EncodeRPost at HEn
          rw [← hS2, ← hby, ← hwh] at HEn
          rw [← hS2] at HNx
          rw [← hby] at HBd HLe
          clear hS2 hby hwh HF
          obtain ⟨n, hn⟩ : ∃ n, n = by_.length := ⟨_, rfl⟩
          rw [← hn] at HEn HLe
          have HNl : RowKit.Hid (by_.length = n) := hn.symm
          clear hn
          obtain ⟨nu2, hnu2⟩ : ∃ nu2, nu2 = (nu + 1) % 4294967296 := ⟨_, rfl⟩
          have v1 : IntKind.u32.wrap (nu + 1) = nu2 := by rw [IntKind.wrap_u32, hnu2]
          have v2 : (nu + 1) % 4294967296 = nu2 := hnu2.symm
          have HNb2 : RowKit.Hid (0 ≤ nu2 ∧ nu2 ≤ 4294967295) := ⟨by omega, by omega⟩
          clear hnu2
          have y1 : wd.cell? ⟨A, 1, none⟩ = some (.int .u8 at') := by rw [HCA.out.cell 1, HAC.out]; rfl
          have HAc : RowKit.Hid (∀ wx : World, Cel wx A 36 ac → wx.cell? ⟨A, 0, none⟩ = some (.int .u8 kd) ∧ wx.cell? ⟨A, 1, none⟩ = some (.int .u8 at') ∧ wx.cell? ⟨A, 2, none⟩ = some (.int .u8 to')) := fun wx hx => ⟨by rw [hx.cell 0, HAC.out]; rfl, by rw [hx.cell 1, HAC.out]; rfl, by rw [hx.cell 2, HAC.out]; rfl⟩
          go_upto_region 15 with fail
          have Hd := Lib.hid (H.out.hs.drewN 1)
          have HCd := Lib.hid (HCA.out.drewN 1)
          go_region_held3 (fun w' => w'.cell? ⟨A, 1, none⟩ = some (.int .u8 at')) (go_keep) (first
            | (go_at_call 11; have h2 := H2.out; clear h2; go_loud (refine (HEn.out y _ H2.out.hr HX2.out).mono ?_); rintro en w3 ⟨ba, bc, rfl, i3, r3, k3, hn3⟩; have HI3 := Lib.hid i3; have HN3 := Lib.hid hn3; have HA3 := Lib.hid (HA2.out.keeps k3 (fun e => by obtain ⟨cs, hc⟩ := H2.out.hr.typ; exact HA2.out.ne hc (by decide) e)); have H3 := Lib.hid (H2.out.ref r3 k3); obtain ⟨z0, z1, z2⟩ := HAc.out _ HA3.out; clear i3 r3 k3 hn3)
            | (go_at_call 12; go_loud (refine (frame15_any a len cap T5 zs _ (HZ.out.now Hd.out.hb (Nat.le_refl _)) (by omega) (by omega)).mono ?_); rintro en w2 ⟨y, rfl, i2, s2, b2⟩; have HX2 := Lib.hid i2; have H2 := Lib.hid (Hd.out.now b2); have HA2 := Lib.hid (HCd.out.below b2); obtain ⟨z0, z1, z2⟩ := HAc.out _ HA2.out; clear i2 s2 b2)
            | fail)
          have HPk0 := Lib.hid (Cel.new w3 42 #[.int .u32 ep, .int .u32 nu, .bool wh, .slice ba n bc])
          have b4 := Below.alloc_new w3 (.cells #[.int .u32 ep, .int .u32 nu, .bool wh, .slice ba n bc] 42)
          have H4 := Lib.hid (H3.out.now b4)
          have HA4 := Lib.hid (HA3.out.below b4)
          have HI4 := Lib.hid (HI3.out.now b4 (Nat.le_refl _))
          have HK0 : RowKit.Hid ((w3.alloc (.cells #[.int .u32 ep, .int .u32 nu, .bool wh, .slice ba n bc] 42)).cell? ⟨A, 0, none⟩ = some (.int .u8 kd)) := (HAc.out _ HA4.out).1
          have z4 := HK0.out
          clear b4 z0 z1 z2
          by_cases k1 : K = 1
          · subst k1
            go_wp2
            go_roundw
            case rel => exact ⟨t + 1, g, x, ep, nu2, S2, E, by omega, rfl, rfl, rfl, by go_num, H4.out, HNx.out, H.out.ek, H.out.eb, HNb2.out⟩
            case measure => simp [intOf] <;> omega
          · have c1 : (K == 1) = false := by simpa using k1
            go_upto_block 2 with fail
            obtain ⟨w4, hw4⟩ : ∃ w4, w4 = w3.alloc (.cells #[.int .u32 ep, .int .u32 nu, .bool wh, .slice ba n bc] 42) := ⟨_, rfl⟩
            obtain ⟨Pk, hPk⟩ : ∃ Pk, Pk = w3.heap.size := ⟨_, rfl⟩
            rw [← hw4] at HPk0 H4 HA4 HI4 ⊢
            rw [← hPk] at HPk0 ⊢
            have HPb : RowKit.Hid (w.heap.size ≤ Pk) := by show _ ≤ _; rw [hPk]; exact H3.out.hb.size
            clear hw4 hPk z4 HK0 H3 HA3 HI3
            go_cut [16] (fun v wx => v = .pointer (some ⟨Pk, 0, none⟩) ∧ ∃ (wh2 : Bool) (a5 : Option Addr) (n5 c5 : Nat) (b5 : List Int), RowKit.Hid (HpkSt w g e p s m x Pk S2 E ep nu wh2 a5 n5 c5 b5 wx))
            case first =>
              by_cases k2 : K = 2
              · have c2 : (K == 2) = true := by simpa using k2
                have HK2 := Lib.hid k2
                clear k2 k1 k4
                by_cases hn0 : 0 < n
                · have l5 : (0 : Int) < (n : Int) := by omega
                  have hown0 := Lib.hid (World.ownsRow_lit (base := w4.heap.size) (e := 5) (size := 1) w4 #[] 0 (Nat.le_refl _) (by decide) rfl)
                  have hbel0 := Lib.hid (Below.alloc_new w4 (.cells #[] 5))
                  have hn600 : n ≤ 600 := HLe.out
                  go_wp2_with (at_builtin; go_loud (refine append_ints rfl _ _ 37 rfl w4.heap.size 5 .u8 1 Tryz.underlying37 info_u806 _ 0 [] rfl hown0.out ba n bc w4.heap.size by_ rfl (HI4.out.below hbel0.out) HN3.out (by unfold maxLen; omega) (by omega) (by simp) ?_); intro v5 w5 hown hgrow _; have ho : w5.ownsRow w4.heap.size 5 1 v5 by_.length (by_.map (Value.int .u8)) := (by rw [HNl.out]; simpa using hown); have HO := Lib.hid ho; clear ho; have HB5 : RowKit.Hid (Below w4.heap.size w4 w5) := hbel0.out.grown hgrow (by simp) (own_base hown0.out); have HP5 := Lib.hid (HPk0.out.below HB5.out); have q3 : w5.cell? ⟨Pk, 3, none⟩ = some (.slice ba n bc) := HP5.out.cell 3; have f3 := HP5.out.frozen 3; clear hown hgrow; obtain ⟨a6, c6, rfl⟩ := own_form HO.out; rw [HNl.out])
                  have HR5 := Lib.hid (BRow.own HO.out)
                  have HA5 := Lib.hid (HA4.out.below HB5.out)
                  have hPkn : Pk < w4.heap.size := HPk0.out.lt
                  have w5a : w5.cell? ⟨A, 1, none⟩ = some (.int .u8 at') := (HAc.out _ HA5.out).2.1
                  have w5b : w5.cell? ⟨A, 2, none⟩ = some (.int .u8 to') := (HAc.out _ HA5.out).2.2
                  have nAP : ¬ A = Pk := fun e => (Cel.typ HA5.out).ne (Cel.typ HP5.out) (by decide) e
                  obtain ⟨a7, c7, e7, hn7, hi7, hr7⟩ := HR5.out
                  injection e7 with e71 e72 e73
                  subst e71
                  subst e73
                  obtain ⟨rb, cs7, e8, hc7, hb7⟩ := hr7 (by rw [HNl.out]; omega)
                  subst e8
                  obtain ⟨i, hi⟩ : ∃ i : Nat, at' % (n : Int) = (i : Int) := ⟨(at' % (n : Int)).toNat, by have := Int.emod_nonneg at' (b := (n : Int)) (by omega); omega⟩
                  have hi2 : at'.tmod (n : Int) = (i : Int) := by rw [Int.tmod_eq_emod_of_nonneg (by omega)]; exact hi
                  have him : i < n := by have := Int.emod_lt_of_pos at' (b := (n : Int)) (by omega); omega
                  have him2 : (i : Int) < (n : Int) := by omega
                  have mne : ¬ (n : Int) = 0 := by omega
                  have w1' : IntKind.i64.wrap at' = at' := IntWalk.i64_in _ (by omega)
                  have nrb : ¬ rb = Pk := by omega
                  have nrb2 : ¬ Pk = rb := by omega
                  obtain ⟨b', off', e9, _, _, hcell⟩ := hi7.at_ (j := i) (by rw [HNl.out]; exact him)
                  injection e9 with e9
                  injection e9 with e91 e92
                  subst e91
                  subst e92
                  rw [Nat.zero_add] at hcell
                  have hfz := hc7.frozen i
                  generalize by_.getD i 0 = bv at hcell
                  have HSet : RowKit.Hid (∀ q, HpkSt w g e p s m x Pk S2 E ep nu wh (some ⟨rb, 0, none⟩) n c6 (by_.set i to') (((w5.setCell ⟨Pk, 3, none⟩ (.slice (some ⟨rb, 0, none⟩) n c6)).setCell ⟨rb, i, none⟩ (.int .u8 to')).drewN q)) := fun q => spoil_end H4.out HPk0.out HPb.out HB5.out HR5.out HNl.out him hb7 HBd.out hto2.out HLe.out q
                  clear hi hn7 hi7 hr7 hc7 hb7 HO HR5
                  go_region
                  all_goals (go_wp2; go_meet)
                  all_goals exact ⟨rfl, wh, some ⟨rb, 0, none⟩, n, c6, _, HSet.out 1⟩
                · have l5 : ¬ (0 : Int) < (n : Int) := by omega
                  go_wp2
                  go_meet
                  exact ⟨rfl, wh, ba, n, bc, by_, H4.out, HPk0.out, HI4.out, HN3.out, HBd.out, HLe.out⟩
              · have c2 : (K == 2) = false := by simpa using k2
                by_cases k5 : K = 5
                · have c5 : (K == 5) = true := by simpa using k5
                  have HK5 := Lib.hid k5
                  clear k5 k2 k1 k4
                  have p2 : w4.cell? ⟨Pk, 2, none⟩ = some (.bool wh) := HPk0.out.cell 2
                  have f2 := HPk0.out.frozen 2
                  have HSt5 : RowKit.Hid (HpkSt w g e p s m x Pk S2 E ep nu (!wh) ba n bc by_ (w4.setCell ⟨Pk, 2, none⟩ (.bool (!wh)))) := by
                    have KP : Keeps (· = Pk) w4 (w4.setCell ⟨Pk, 2, none⟩ (.bool (!wh))) := Keeps.set1 _
                    exact ⟨H4.out.pkt HPk0.out rfl HPb.out KP, HPk0.out.set_ 2 _, bytes_far HI4.out KP fun j hj => by subst hj; exact ⟨_, _, HPk0.out, pkt_odd8⟩, HN3.out, HBd.out, HLe.out⟩
                  go_wp2
                  go_meet
                  exact ⟨rfl, !wh, ba, n, bc, by_, HSt5.out⟩
                · have c5 : (K == 5) = false := by simpa using k5
                  go_wp2
                  go_meet
                  exact ⟨rfl, wh, ba, n, bc, by_, H4.out, HPk0.out, HI4.out, HN3.out, HBd.out, HLe.out⟩
            case rest =>
              obtain ⟨rfl, wh2, a5, n5, c5, b5, H5⟩ := hcut
              obtain ⟨wf, rfl⟩ : ∃ wf : World, wf = wc := ⟨_, rfl⟩
              clear H4 HPk0 HI4 HA4
              have q0 : wf.cell? ⟨Pk, 0, none⟩ = some (.int .u32 ep) := H5.out.hp.cell 0
              have q1 : wf.cell? ⟨Pk, 1, none⟩ = some (.int .u32 nu) := H5.out.hp.cell 1
              have q2 : wf.cell? ⟨Pk, 2, none⟩ = some (.bool wh2) := H5.out.hp.cell 2
              have q3 : wf.cell? ⟨Pk, 3, none⟩ = some (.slice a5 n5 c5) := H5.out.hp.cell 3
              have HPk : RowKit.Hid (∀ wx : World, Cel wx Pk 42 #[.int .u32 ep, .int .u32 nu, .bool wh2, .slice a5 n5 c5] → wx.cell? ⟨Pk, 0, none⟩ = some (.int .u32 ep) ∧ wx.cell? ⟨Pk, 1, none⟩ = some (.int .u32 nu) ∧ wx.cell? ⟨Pk, 2, none⟩ = some (.bool wh2) ∧ wx.cell? ⟨Pk, 3, none⟩ = some (.slice a5 n5 c5)) := fun wx hx => ⟨hx.cell 0, hx.cell 1, hx.cell 2, hx.cell 3⟩
              have HB5l : RowKit.Hid (b5.length ≤ 100000) := by have h1 := H5.out.hi.1; have h2 := H5.out.hl; show _ ≤ _; omega
              have HN5l : RowKit.Hid (n5 ≤ 100000) := by have h2 := H5.out.hl; show _ ≤ _; omega
              have HEp := Lib.hid H.out.eb
              have HNu := Lib.hid H.out.nb
              by_cases hm : E.may ep nu wh2 b5
              · have HY := Lib.hid hm
                clear hm
                obtain ⟨fs, hfs⟩ : ∃ fs, fs = E.frames ep nu b5 := ⟨_, rfl⟩
                have HFs : RowKit.Hid (E.frames ep nu b5 = fs) := hfs.symm
                obtain ⟨N, hN⟩ : ∃ N, N = fs.length := ⟨_, rfl⟩
                have HN : RowKit.Hid (fs.length = N) := hN.symm
                have hN9 : N ≤ 9 := by
                  rw [hN, hfs, E15.frames_len]
                  have := E.miss_le ep nu
                  omega
                have HFb : RowKit.Hid (∀ (k : Nat) (f : Nat → Int), fs[k]? = some f → ∀ j, -32768 ≤ f j ∧ f j ≤ 32767) := fun k f hk => by
                  rw [hfs] at hk
                  exact frames_bd hk
                have HE2 : RowKit.Hid (E.hear ep nu b5).Ok := HEk.out.hear HY.out.2.2.2 HEp.out HNu.out
                clear hfs hN
                go_upto_block 3 with (first
                  | (go_at_call 14; have h6 := H6.out; clear h6; go_loud (refine (mHear_any m x E ep nu wh2 b5 a5 n5 c5 _ H6.out.hm HEk.out HI6.out H5.out.hn H5.out.hv HB5l.out HNu.out.1 HNu.out.2).mono ?_); rintro en w7 (⟨_, v7, x7, rfl, r7, m7, hx7, k7⟩ | ⟨hh, _⟩); (case inr => exact absurd HY.out hh); rw [HFs.out] at r7; obtain ⟨a7, c7, rfl⟩ := r7.form; rw [HN.out] at r7; rw [HN.out]; have HR7 := Lib.hid r7; have HG7 := Lib.hid (HG6.out.keeps k7 fun j hj => by subst hj; exact ⟨_, Cel.typ H6.out.hm.hm, by decide, by decide⟩); have H7 := Lib.hid (H6.out.mdl m7 (Nat.le_trans H6.out.hb.size hx7) k7); clear r7 m7 k7 hx7 H6 HI6 HG6)
                  | (go_at_call 13; go_loud (refine (eHear_any e p s E ep nu wh2 b5 a5 n5 c5 _ H5.out.hs.he HEk.out H5.out.hi H5.out.hn H5.out.hv HN5l.out HNu.out.1 HNu.out.2).mono ?_); rintro en w6 (⟨_, v6, rfl, r6, e6, k6⟩ | ⟨hh, _⟩); (case inr => exact absurd HY.out hh); rw [HFs.out] at r6; obtain ⟨a6, c6, rfl⟩ := r6.form; rw [HN.out] at r6; rw [HN.out]; have HG6 := Lib.hid r6; have H6 := Lib.hid (H5.out.hs.ear e6 k6); have HI6 := Lib.hid (bytes_far H5.out.hi k6 H5.out.hs.he.odd8'); obtain ⟨q60, q61, q62, q63⟩ := HPk.out w6 (H5.out.hp.keeps k6 fun hj => by obtain ⟨t', cs', hc', ht', _⟩ := H5.out.hs.he.odd _ hj; exact (Cel.typ H5.out.hp).ne (Cel.typ hc') (by rcases ht' with rfl | rfl | rfl <;> decide) rfl); clear r6 e6 k6))
                clear q0 q1 q2 q3 q60 q61 q62 q63 HPk HNl HEn
                go_wp2
                have HW0 : RowKit.Hid (∃ q, w7 = w7.drewN q) := ⟨0, rfl⟩
                have HAd : RowKit.Hid (∀ (wx : World) (nq : Nat), (∃ q, wx = w7.drewN q) → ∃ q, wx.drewN nq = w7.drewN q) := fun wx nq h => by
                  obtain ⟨q, rfl⟩ := h
                  exact ⟨q + nq, by rw [drewE_add]⟩
                go_loopw [142] (fun i wx => ∃ k : Nat, k ≤ N ∧ i = .int .i64 ((k : Nat) : Int) ∧ RowKit.Hid (∃ q, wx = w7.drewN q)) (fun i _ => N - (intOf i).toNat)
                case atStart => exact ⟨0, by omega, rfl, HW0.out⟩
                case round =>
                  obtain ⟨k, hk, rfl, HW⟩ := hrel
                  clear HW0
                  by_cases hkN : k < N
                  · obtain ⟨f, hf⟩ : ∃ f, fs[k]? = some f := ⟨_, List.getElem?_eq_getElem (by rw [HN.out]; exact hkN)⟩
                    obtain ⟨_, g1, r1, d1, rfl, hg1, hc1, hn1⟩ := HG7.out.at_ hf
                    obtain ⟨_, g2, r2, d2, rfl, hg2, hc2, hn2⟩ := HR7.out.at_ hf
                    have HC : RowKit.Hid (∀ wx : World, (∃ q, wx = w7.drewN q) → wx.cell? ⟨g1, k, none⟩ = some (.slice (some ⟨r1, 0, none⟩) 512 d1) ∧ wx.cell? ⟨g2, k, none⟩ = some (.slice (some ⟨r2, 0, none⟩) 512 d2) ∧ ∀ j, j < 512 → wx.cell? ⟨r1, j, none⟩ = some (.int .i16 (f j)) ∧ wx.cell? ⟨r2, j, none⟩ = some (.int .i64 (f j))) := fun wx h => by
                      obtain ⟨q, rfl⟩ := h
                      refine ⟨hc1, hc2, fun j hj => ?_⟩
                      have h1 := hn1.2 j hj
                      have h2 := hn2.2 j hj
                      rw [Nat.zero_add] at h1 h2
                      exact ⟨h1, h2⟩
                    have HFk := Lib.hid (HFb.out k f hf)
                    clear hf hg1 hc1 hn1 hg2 hc2 hn2
                    obtain ⟨k1, k2, _⟩ := HC.out _ HW.out
                    have l1 : (k : Int) < (N : Int) := by omega
                    go_wp2
                    go_quiet (fail)
                    have HW2 := Lib.hid (HAd.out _ nq HW.out)
                    obtain ⟨k3, k4, _⟩ := HC.out _ HW2.out
                    generalize World.drewN _ nq = w8 at HW2 k3 k4 ⊢
                    clear HW k1 k2
                    go_wp2
                    go_loopw [161] (fun i wx => ∃ j : Nat, j ≤ 512 ∧ i = .int .i64 ((j : Nat) : Int) ∧ RowKit.Hid (∃ q, wx = w7.drewN q)) (fun i _ => 512 - (intOf i).toNat)
                    case atStart => exact ⟨0, by omega, rfl, HW2.out⟩
                    case round =>
                      obtain ⟨j, hj, rfl, HW3⟩ := hrel
                      clear HW2
                      by_cases hj5 : j < 512
                      · obtain ⟨k5, k6, kn⟩ := HC.out _ HW3.out
                        obtain ⟨x1, x2⟩ := kn j hj5
                        obtain ⟨z1, z2⟩ := HFk.out j
                        clear kn k3 k4
                        generalize f j = yv at x1 x2 z1 z2
                        have vy : IntKind.i64.wrap yv = yv := IntWalk.i64_in _ (by omega)
                        have l2 : (j : Int) < 512 := by omega
                        have HW4 : RowKit.Hid (∀ nq, ∃ q, World.drewN _ nq = w7.drewN q) := fun nq => HAd.out _ nq HW3.out
                        go_wp2
                        go_quiet (fail)
                        go_wp2
                        go_roundw
                        case rel => exact ⟨j + 1, by omega, by go_num, HW4.out _⟩
                        case measure => simp [intOf] <;> omega
                      · obtain rfl : j = 512 := by omega
                        go_wp2
                        go_roundw
                        case rel => exact ⟨k + 1, by omega, by go_num, HW3.out⟩
                        case measure => simp [intOf] <;> omega
                  · obtain rfl : k = N := by omega
                    have l1 : ¬ (k : Int) < (k : Int) := by omega
                    have HZ7 : RowKit.Hid (∀ wx : World, (∃ q, wx = w7.drewN q) → HaSt w g e p s m x7 S2 (E.hear ep nu b5) (E.hear ep nu b5) wx) := fun wx h => by
                      obtain ⟨q, rfl⟩ := h
                      exact H7.out.drewN q
                    go_wp2
                    go_roundw
                    case rel => exact ⟨t + 1, g, x7, ep, nu2, S2, E.hear ep nu b5, by omega, rfl, rfl, rfl, by go_num, HZ7.out _ HW.out, HNx.out, HE2.out, HEp.out, HNb2.out⟩
                    case measure => simp [intOf] <;> omega
              · have HY := Lib.hid hm
                clear hm
                go_wp2_with (first
                  | (go_at_call 14; have h6 := H6.out; clear h6; go_loud (refine (mHear_any m x E ep nu wh2 b5 a5 n5 c5 _ H6.out.hm HEk.out HI6.out H5.out.hn H5.out.hv HB5l.out HNu.out.1 HNu.out.2).mono ?_); rintro en w7 (⟨hh, _⟩ | ⟨_, rfl, b7⟩); (case inl => exact absurd hh HY.out); have H7 := Lib.hid (H6.out.now b7); clear b7 H6 HI6)
                  | (go_at_call 13; go_loud (refine (eHear_any e p s E ep nu wh2 b5 a5 n5 c5 _ H5.out.hs.he HEk.out H5.out.hi H5.out.hn H5.out.hv HN5l.out HNu.out.1 HNu.out.2).mono ?_); rintro en w6 (⟨hh, _⟩ | ⟨_, er, rfl, ho, _, b6⟩); (case inl => exact absurd hh HY.out); have her : (er == 0) = false := (by rcases ho with h | h <;> rw [h] <;> rfl); have H6 := Lib.hid (H5.out.hs.now b6); have HI6 := Lib.hid (H5.out.hi.now b6 (Nat.le_refl _)); obtain ⟨q60, q61, q62, q63⟩ := HPk.out w6 (H5.out.hp.below b6); clear b6 ho))
                clear q0 q1 q2 q3 q60 q61 q62 q63 HPk HNl HEn
                go_loopw [142] (fun i wx => i = .int .i64 0 ∧ RowKit.Hid (w7 = wx)) (fun _ _ => 0)
                case atStart => exact ⟨rfl, rfl⟩
                case round =>
                  obtain ⟨rfl, HW⟩ := hrel
                  have HZ7 : RowKit.Hid (∀ wx : World, w7 = wx → HaSt w g e p s m x S2 E E wx) := fun wx h => by
                    subst h
                    exact H7.out
                  go_wp2
                  go_roundw
                  case rel => exact ⟨t + 1, g, x, ep, nu2, S2, E, by omega, rfl, rfl, rfl, by go_num, HZ7.out _ HW.out, HNx.out, HEk.out, HEp.out, HNb2.out⟩
                  case measure => simp [intOf] <;> omega
    · obtain rfl : t = len2 := by omega
      have l1 : ¬ (t : Int) < (t : Int) := by omega
      go_wp2
      go_ret
      exact ⟨rfl, H.out.hs.hb⟩
end Go.Proofs.YtobhoecmmpijgaaGreat
