/- Plain facts, and what functions give, for the proofs of this seat: several texts in one, each with its own first remark. -/
import Derived.Deep.DeepCutAuto
import Derived.Test.YtmgfkdmjgjlkjaaGreatAU

namespace Go.Proofs.YtmgfkdmjgjlkjaaGreat
open Go Go.RowKit
set_option linter.unusedVariables false
set_option linter.unusedSimpArgs false
set_option maxRecDepth 100000
theorem u32_bd23 (x : Int) : 0 ≤ IntKind.u32.wrap x ∧ IntKind.u32.wrap x ≤ 4294967295 := by
  show 0 ≤ x % 4294967296 ∧ x % 4294967296 ≤ 4294967295
  omega
def AcsIn23 (w : World) (a : Option Addr) (len : Nat) (A : Nat → Int × ByteArray) : Prop := len ≤ 9223372036854775807 ∧ (len = 0 ∨ ∃ b off, a = some ⟨b, off, none⟩ ∧ b < w.heap.size ∧ ∀ i, i < len → w.cell? ⟨b, off + i * 2, none⟩ = some (.int .u8 (A i).1) ∧ w.cell? ⟨b, off + i * 2 + 1, none⟩ = some (.string (A i).2) ∧ (0 ≤ (A i).1 ∧ (A i).1 ≤ 255) ∧ (A i).2.size ≤ 9223372036854775807)
theorem mountActs_out (a a2 : Option Addr) (len cap len2 cap2 : Nat) (x0 x1 x2 : Int) (w : World) (h : 2000 < len ∨ 14 < len2) (hm : len ≤ 9223372036854775807) (hm2 : len2 ≤ 9223372036854775807) :
    Calls Tryz.prog 3 #[.slice a len cap, .agg #[.int .i64 x0, .int .i64 x1, .int .i64 x2], .slice a2 len2 cap2] w fun e w' => e = .returned (.bool true) ∧ Below w.heap.size w w' := by
  have HB := Lib.hid (Below.alloc_new w (.cells #[.int .i64 x0, .int .i64 x1, .int .i64 x2] 23))
  by_cases h1 : 2000 < len
  · have hd : decide ((2000 : Int) < (len : Int)) = true := by simp; omega
    go_enter Tryz.func3, Tryz.ntmps3
    go_wp2_with (go_at_call 6; go_loud (refine (lives23_any _).mono ?_); rintro e w1 ⟨rfl, hb⟩; replace HB := Lib.hid (chain HB.out hb); clear hb)
    go_ret
    exact ⟨rfl, HB.out⟩
  · have hd : decide ((2000 : Int) < (len : Int)) = false := by simp; omega
    have hd2 : decide ((14 : Int) < (len2 : Int)) = true := by simp; omega
    clear h
    go_enter Tryz.func3, Tryz.ntmps3
    go_wp2_with (go_at_call 6; go_loud (refine (lives23_any _).mono ?_); rintro e w1 ⟨rfl, hb⟩; replace HB := Lib.hid (chain HB.out hb); clear hb)
    go_ret
    exact ⟨rfl, HB.out⟩
theorem AcSt.init {w w2 w3 : World} {g : Nat} {c : Cfg} {cs : Array Value} (hc : c.vals = cs) (h2 : Below w.heap.size w w2) (hb : Below (w2.alloc (.cells cs 27)).heap.size (w2.alloc (.cells cs 27)) w3) (hm : ∀ X, MtAt w3 (w2.alloc (.cells cs 27)).heap.size g X c 0 none [] []) :
    AcSt w (w2.alloc (.cells cs 27)).heap.size g w2.heap.size c 0 0 (.pointer none) (.slice none 0 0) (.slice none 0 0) none [] [] w3 := by
  obtain ⟨M, hm⟩ := (hm (AcX (.pointer none) (.slice none 0 0) (.slice none 0 0))).m
  have ha := Below.alloc_new w2 (.cells cs 27)
  refine ⟨⟨M, chain (chain h2 ha) hb, ⟨Nat.le_trans h2.size ha.size, hb.size⟩, ?_, hm, fun S hS => (by cases hS), World.ownsRow_nil _ _ _ _, ⟨_, _, _, rfl⟩, fun j hj => ?_⟩, PsOk.nil _, ⟨Nat.zero_le _, Nat.zero_le _⟩, ⟨by decide, by decide⟩, fun S hS => by cases hS⟩
  · rw [hc]
    exact (Cel.new w2 _ _).below hb
  · rcases hj with e | e | e
    · cases e
    · simp [Value.ownBlock] at e
    · simp [Value.ownBlock] at e
set_option maxHeartbeats 64000000 in
theorem mountActs_in (a a2 : Option Addr) (len cap len2 cap2 : Nat) (x0 x1 x2 : Int) (zs : List Int) (A : Nat → Int × ByteArray) (w : World) (hz : IntsAt w w.heap.size .i16 a len zs) (hzb : ∀ j, -32768 ≤ zs.getD j 0 ∧ zs.getD j 0 ≤ 32767) (hA : AcsIn23 w a2 len2 A) (hl : len ≤ 2000) (hl2 : len2 ≤ 14) :
    Calls Tryz.prog 3 #[.slice a len cap, .agg #[.int .i64 x0, .int .i64 x1, .int .i64 x2], .slice a2 len2 cap2] w fun e w' => e = .returned (.bool true) ∧ Below w.heap.size w w' := by
  have HB := Lib.hid (Below.alloc_new w (.cells #[.int .i64 x0, .int .i64 x1, .int .i64 x2] 23))
  have HC := Lib.hid (Cel.new w 23 #[.int .i64 x0, .int .i64 x1, .int .i64 x2])
  have HZ := Lib.hid hz
  have HZb := Lib.hid hzb
  have HA := Lib.hid hA
  have hd : decide ((2000 : Int) < (len : Int)) = false := by simp; omega
  have hd2 : decide ((14 : Int) < (len2 : Int)) = false := by simp; omega
  obtain ⟨P, hP, p0, p1⟩ := set_wrap23 x0 4 1 (by decide) (by decide) (by decide) (by decide)
  obtain ⟨R, hR, r0, r1⟩ := set_wrap23 x1 3 P (by decide) (by decide) (by omega) (by omega)
  obtain ⟨Q, hQ, q0, q1⟩ := set_wrap23 x2 10 1 (by decide) (by decide) (by decide) (by decide)
  have HPl := Lib.hid (fun W => plain23_any P W)
  have e1 : (plainC P).vals = #[.string ⟨#[47, 108, 105, 118, 101]⟩, .string ⟨#[82, 97, 100, 105, 111]⟩, .string ⟨#[]⟩, .string ⟨#[]⟩, .int .i64 4, .int .i64 100, .int .i64 P, .int .i64 8, .int .i64 64] := rfl
  rw [e1] at HPl
  obtain ⟨c, hc⟩ : ∃ c : Cfg, (⟨⟨#[47, 108, 105, 118, 101]⟩, ⟨#[82, 97, 100, 105, 111]⟩, ⟨#[]⟩, ⟨#[]⟩, Q, 100, P, R, 64⟩ : Cfg) = c := ⟨_, rfl⟩
  have HRt : RowKit.Hid (c.right = true ∧ c.Fit) := by
    rw [← hc]
    exact ⟨plain_right Q P R (by omega) (by omega) (by omega), plain_fit Q P R⟩
  have HN := Lib.hid (fun W => mtNew_any c W HRt.out.2 HRt.out.1)
  have HCv : RowKit.Hid (c.vals = #[.string ⟨#[47, 108, 105, 118, 101]⟩, .string ⟨#[82, 97, 100, 105, 111]⟩, .string ⟨#[]⟩, .string ⟨#[]⟩, .int .i64 Q, .int .i64 100, .int .i64 P, .int .i64 R, .int .i64 64]) := by rw [← hc]; exact Lib.hid rfl
  rw [HCv.out] at HN
  have HCf : RowKit.Hid (c.q = Q ∧ c.b = 100 ∧ c.p = P) := by rw [← hc]; exact ⟨rfl, rfl, rfl⟩
  clear hz hzb hA e1 hc
  go_enter Tryz.func3, Tryz.ntmps3
  go_wp2_with (first
    | (go_at_call 6; go_loud (refine (lives23_any _).mono ?_); rintro e w1 ⟨rfl, hb⟩; have HC1 := Lib.hid (HC.out.below hb); have HB1 := Lib.hid (chain HB.out hb); clear hb; have y0 := HC1.out.cell 0; have y1 := HC1.out.cell 1; have y2 := HC1.out.cell 2)
    | (go_at_call 7; go_loud (refine (HPl.out _).mono ?_); rintro e w2 ⟨rfl, hb⟩; have HC2 := Lib.hid (HC1.out.below hb); have HB2 := Lib.hid (chain HB1.out hb); clear hb; have v1 : ∀ cs, (w2.alloc (.cells cs 27)).cell? ⟨w.heap.size, 1, none⟩ = some (.int .i64 x1) := fun cs => (HC2.out.alloc _).cell 1; have v2 : ∀ cs, (w2.alloc (.cells cs 27)).cell? ⟨w.heap.size, 2, none⟩ = some (.int .i64 x2) := fun cs => (HC2.out.alloc _).cell 2)
    | (go_at_call 8; go_loud (refine (HN.out _).mono ?_); rintro e w3 ⟨g, rfl, hm, hb⟩; go_loud (have H3 := Lib.hid (AcSt.init HCv.out HB2.out hb hm)); clear hm hb)
    | fail)
  generalize (w2.alloc (.cells #[.string ⟨#[47, 108, 105, 118, 101]⟩, .string ⟨#[82, 97, 100, 105, 111]⟩, .string ⟨#[]⟩, .string ⟨#[]⟩, .int .i64 Q, .int .i64 100, .int .i64 P, .int .i64 R, .int .i64 64] 27)).heap.size = B at H3
  generalize w2.heap.size = gc at H3 ⊢
  clear HN HPl HC HC1 HC2 HB HB1 HB2 v1 v2 y0 y1 y2 hP hR hQ hd hd2
  go_loopw [69, 10, 11, 12, 13, 14] (fun i v10 v11 ev kv tv wr => ∃ (t : Nat) (ep : Int) (o : Option S13) (ps : List Pk) (T : List ByteArray), t ≤ len2 ∧ i = .int .i64 t ∧ v10 = .bool o.isSome ∧ v11 = .int .u32 ep ∧ RowKit.Hid (AcSt w B g gc c t ep ev kv tv o ps T wr)) (fun i _ _ _ _ _ _ => len2 - (intOf i).toNat)
  case atStart => exact ⟨0, 0, none, [], [], by omega, rfl, rfl, rfl, H3.out⟩
  case round =>
    obtain ⟨t, ep, o, ps, T, ht, rfl, rfl, rfl, H⟩ := hrel
    clear H3
    by_cases hlt : t < len2
    · obtain ⟨b2, off2, rfl, hbl, hcells⟩ := HA.out.2.resolve_left (by omega)
      obtain ⟨k0, k1, hk, hs⟩ := hcells t hlt
      have z0 := (H.out.bel.cell (p := ⟨b2, off2 + t * 2, none⟩) hbl).trans k0
      have z1 := (H.out.bel.cell (p := ⟨b2, off2 + t * 2 + 1, none⟩) hbl).trans k1
      obtain ⟨k, hkk⟩ : ∃ k, (A t).1 = k := ⟨_, rfl⟩
      obtain ⟨s, hss⟩ : ∃ s, (A t).2 = s := ⟨_, rfl⟩
      rw [hkk] at z0 hk
      rw [hss] at z1 hs
      clear k0 k1 hkk hss hcells
      have HQ := Lib.hid (Cel.new wr 39 #[.int .u8 k, .string s])
      have HA1 := Lib.hid (Below.alloc_new wr (.cells #[.int .u8 k, .string s] 39))
      by_cases hbig : 200 < s.size
      · have hdb : decide ((200 : Int) < (s.size : Int)) = true := by simp; omega
        have Z := Lib.hid (chain H.out.bel HA1.out)
        clear H HQ HA1
        go_wp2
        go_ret
        exact ⟨rfl, Z.out⟩
      · have hdb : decide ((200 : Int) < (s.size : Int)) = false := by simp; omega
        have hm5 : ∃ r : Nat, r < 5 ∧ k.tmod 5 = (r : Int) := ⟨(k % 5).toNat, by omega, by rw [Int.tmod_eq_emod_of_nonneg hk.1]; omega⟩
        obtain ⟨r, hr5, hr⟩ := hm5
        have HKr := Lib.hid hk
        go_upto_block 2 with fail
        have H4 := Lib.hid (H.out.below HA1.out)
        have HQ4 := Lib.hid HQ.out
        obtain ⟨W1, hW1⟩ : ∃ W1, wr.alloc (.cells #[.int .u8 k, .string s] 39) = W1 := ⟨_, rfl⟩
        rw [hW1] at H4 HQ4 ⊢
        have hqs : wr.heap.size < W1.heap.size := HQ4.out.lt
        obtain ⟨q4, hq4⟩ : ∃ q4, wr.heap.size = q4 := ⟨_, rfl⟩
        rw [hq4] at HQ4 hqs ⊢
        clear H HQ HA1 hW1 hq4 z0 z1
        obtain ⟨ka, kn, kc, rfl⟩ := H4.out.kform
        have HKs : RowKit.Hid (s.size ≤ 9223372036854775807) := hs
        go_cut [9, 10, 11, 12, 13, 14, 17] (fun v9 v10 v11 ev kv tv v17 wx => ∃ (z ep : Int) (o : Option S13) (ps : List Pk) (T : List ByteArray), v9 = .int .i64 z ∧ v17 = .int .i64 z ∧ v10 = .bool o.isSome ∧ v11 = .int .u32 ep ∧ RowKit.Hid (AcSt w B g gc c (t + 1) ep ev kv tv o ps T wx))
        case first =>
          have hrc : r = 0 ∨ r = 1 ∨ r = 2 ∨ r = 3 ∨ r = 4 := by omega
          clear hr5
          rcases hrc with rfl | rfl | rfl | rfl | rfl
          · as_aux_lemma =>
            have kx : k.tmod 5 = 0 := hr
            cases o with
            | some S =>
              have HSt := Lib.hid (mtStart_live ep H4.out.mt)
              go_wp2_with (go_at_call 10; go_loud (refine HSt.out.mono ?_); rintro e w5 ⟨rfl, rfl⟩)
              go_meet
              exact ⟨8, ep, some S, ps, T, rfl, rfl, rfl, rfl, H4.out.more⟩
            | none =>
              have HRn : RowKit.Hid (Calls Tryz.prog 9 #[.int .i64 Q, .int .i64 100] W1 fun e w' => ∃ gr, e = .returned (.pointer (some ⟨gr, 0, none⟩)) ∧ AcSt w B g gc c t ep (.pointer (some ⟨gr, 0, none⟩)) (.slice none 0 0) u14 none ps T w' ∧ RefAt w' gr c.q c.b.toNat s13Zero ∧ w.heap.size ≤ gr) := by
                rw [← HCf.out.1, ← HCf.out.2.1]
                exact Lib.hid (H4.out.refNew (Cfg.right_ok HRt.out.1))
              have hcf := H4.out.cfg
              rw [HCv.out] at hcf
              have y4 := hcf.cell 4
              have y5 := hcf.cell 5
              clear hcf
              go_wp2_with (first
                | (go_at_call 9; go_loud (refine HRn.out.mono ?_); rintro e w5 ⟨gr, rfl, h5, hr5, hg5⟩; have H5 := Lib.hid h5; have HR5 := Lib.hid hr5; have HG5 := Lib.hid hg5; clear h5 hr5 hg5)
                | (go_at_call 10; go_loud (refine (H5.out.start HR5.out HG5.out (u32_bd23 _)).mono ?_); rintro e w6 ⟨rfl, h6⟩; have H6 := Lib.hid h6; clear h6)
                | fail)
              go_meet
              exact ⟨0, _, some s13Zero, [], T, rfl, rfl, rfl, rfl, H6.out.more⟩
          · as_aux_lemma =>
            have kx : k.tmod 5 = 1 := hr
            cases o with
            | some S =>
              have HSt := Lib.hid H4.out.stop
              go_wp2_with (go_at_call 11; go_loud (refine HSt.out.mono ?_); rintro e w5 ⟨rfl, h5⟩; have H5 := Lib.hid h5; clear h5)
              go_meet
              exact ⟨0, ep, none, [], T, rfl, rfl, rfl, rfl, H5.out.more⟩
            | none =>
              have HSt := Lib.hid (mtStop_dead H4.out.mt)
              go_wp2_with (go_at_call 11; go_loud (refine HSt.out.mono ?_); rintro e w5 ⟨rfl, rfl⟩)
              go_meet
              exact ⟨8, ep, none, ps, T, rfl, rfl, rfl, rfl, H4.out.more⟩
          · as_aux_lemma =>
            have kx : k.tmod 5 = 2 := hr
            obtain ⟨T0, hT0⟩ : ∃ T0 : Nat, T0 = 512 * t := ⟨_, rfl⟩
            have e0 : 512 * (t : Int) = (T0 : Int) := by omega
            have hT1 : T0 ≤ 7168 := by omega
            have e00 : IntKind.i64.wrap (T0 : Int) = (T0 : Int) := IntWalk.i64_in _ (by omega)
            have HFr := Lib.hid (fun W (hb : Below w.heap.size w W) => frame23_any a len cap T0 zs W (HZ.out.now hb (Nat.le_refl _)) (by omega) (by omega))
            clear hT0
            cases o with
            | none =>
              go_wp2_with (first
                | (go_at_call 13; go_loud (refine (HFr.out _ H4.out.bel).mono ?_); rintro e w5 ⟨x, rfl, _, _, z5⟩; have H5 := Lib.hid (H4.out.below z5); clear z5)
                | (go_at_call 12; go_loud (refine (mtFrame_dead H5.out.mt _ _).mono ?_); rintro e w6 ⟨rfl, hb⟩; unfold pkC; simp only [pkN, List.length_nil]; go_loud (have H6 := Lib.hid ((H5.out.below hb).below (Below.alloc_new _ (.cells #[.int .u32 0, .int .u32 0, .bool false, .slice none 0 0] 45)))); clear hb)
                | fail)
              go_meet
              exact ⟨8, ep, none, ps, T, rfl, rfl, rfl, rfl, H6.out.more⟩
            | some S =>
              obtain ⟨gr, rfl⟩ := H4.out.evp
              obtain ⟨m, hm⟩ : ∃ m, ps.length = m := ⟨_, rfl⟩
              obtain rfl : kn = m := H4.out.kept.len.trans hm
              have hm14 : kn ≤ 14 := by have := H4.out.n.1; omega
              obtain ⟨F, hF⟩ : ∃ F, frmF zs len T0 = F := ⟨_, rfl⟩
              have HFb : RowKit.Hid (∀ i, i < 512 → -32768 ≤ F i ∧ F i ≤ 32767) := Lib.hid fun i _ => by rw [← hF]; exact frmF_bd HZb.out T0 i
              obtain ⟨p, hp⟩ : ∃ p, nextP c ep S kn F = p := ⟨_, rfl⟩
              obtain ⟨wb, hwb⟩ : ∃ wb, asksW c kn = wb := ⟨_, rfl⟩
              obtain ⟨S1, hS1⟩ : ∃ S1, S.next c.q c.b.toNat F kn wb = S1 := ⟨_, rfl⟩
              obtain ⟨l, hl⟩ : ∃ l, p.pl.length = l := ⟨_, rfl⟩
              have HPs : RowKit.Hid (p.ep = ep ∧ p.nu = kn ∧ p.pl.length = l) := by rw [hl, ← hp]; exact ⟨rfl, rfl, rfl⟩
              have HFm : RowKit.Hid (∀ W x, AcSt w B g gc c t ep (.pointer (some ⟨gr, 0, none⟩)) (.slice ka kn kc) u14 (some S) ps T W → IFun W x 77 .i16 512 F → Calls Tryz.prog 12 #[.pointer (some ⟨g, 0, none⟩), .slice (some ⟨x, 0, none⟩) 512 512] W fun e w' => ∃ M rr cp, e = .returned (.tuple #[.agg #[.int .u32 ep, .int .u32 kn, .bool p.wh, .slice (some ⟨rr, 0, none⟩) l cp], .int .i64 0]) ∧ IntsAt w' w'.heap.size .u8 (some ⟨rr, 0, none⟩) l p.pl ∧ AcG w B g gc M c ep (.pointer (some ⟨gr, 0, none⟩)) (.slice ka kn kc) u14 (some S1) (ps ++ [p]) (last5 T) (some S) ps T w') := by
                refine Lib.hid fun W x hW hx => ?_
                have h := hW.frame x F (by omega) hx HFb.out
                rw [hm, hp, hwb, hS1] at h
                unfold pkC at h
                rw [HPs.out.1, HPs.out.2.1, hl] at h
                exact h
              have HEn : RowKit.Hid (∀ W x M rr, AcG w B g gc M c ep (.pointer (some ⟨gr, 0, none⟩)) (.slice ka kn kc) u14 (some S1) (ps ++ [p]) (last5 T) (some S) ps T W → IFun W x 77 .i16 512 F → IntsAt W W.heap.size .u8 (some ⟨rr, 0, none⟩) l p.pl → Calls Tryz.prog 14 #[.pointer (some ⟨gr, 0, none⟩), .int .u32 kn, .slice (some ⟨x, 0, none⟩) 512 512, .bool wb] W fun e w' => ∃ a cp, e = .returned (.tuple #[.slice a l cp, .bool p.wh]) ∧ PlAt w' (AcD M (.pointer (some ⟨gr, 0, none⟩)) (.slice ka kn kc) u14) a l cp p.pl ∧ IntsAt w' w'.heap.size .u8 (some ⟨rr, 0, none⟩) l p.pl ∧ AcG w B g gc M c ep (.pointer (some ⟨gr, 0, none⟩)) (.slice ka kn kc) u14 (some S1) (ps ++ [p]) (last5 T) (some S1) ps T w' ∧ Keeps (· = gr) W w') := by
                refine Lib.hid fun W x M rr hW hx hi => ?_
                have h := hW.encode (rr := rr) x F rfl (H4.out.s S rfl).1 (by omega) hx HFb.out (by rw [hm, hp, hl]; exact hi)
                rw [hm, hp, hl, hwb, hS1] at h
                exact h
              have HSn : RowKit.Hid (∀ M kv' w', AcG w B g gc M c ep (.pointer (some ⟨gr, 0, none⟩)) kv' u14 (some S1) (ps ++ [p]) (last5 T) (some S1) (ps ++ [p]) T w' → AcSt w B g gc c (t + 1) ep (.pointer (some ⟨gr, 0, none⟩)) kv' u14 (some S1) (ps ++ [p]) T w') := by
                refine Lib.hid fun M kv' w' h => ?_
                have h2 := H4.out.sent (M := M) (kv' := kv') (w' := w') HFb.out (Cfg.right_ok HRt.out.1)
                rw [hm, hp, hwb, hS1] at h2
                exact h2 h
              obtain ⟨Pn, hPn⟩ : ∃ Pn : Nat, P = (Pn : Int) := ⟨P.toNat, by omega⟩
              have hwb2 : wb = decide (kn % Pn = 0) := by rw [← hwb]; unfold asksW; rw [HCf.out.2.2, hPn, Int.toNat_natCast]
              have hPn1 : 1 ≤ Pn ∧ Pn ≤ 4 := by omega
              obtain ⟨y, hy⟩ : ∃ y, kn % Pn = y := ⟨_, rfl⟩
              have e4 : IntKind.u32.wrap (Pn : Int) = (Pn : Int) := by show (Pn : Int) % 4294967296 = _; omega
              have e5 : (kn : Int).tmod (Pn : Int) = (y : Int) := by rw [Int.tmod_eq_emod_of_nonneg (by omega), ← hy]; rfl
              have e6 : ((y : Int) == 0) = wb := by
                rw [hwb2, hy]
                by_cases h0 : y = 0
                · rw [h0]; rfl
                · rw [decide_eq_false h0]; simp; omega
              have e7 : IntKind.u32.wrap (kn : Int) = (kn : Int) := by show (kn : Int) % 4294967296 = _; omega
              have e8 : ¬ (Pn : Int) = 0 := by omega
              have e9 : ¬ Pn = 0 := by omega
              have hm2 := Lib.hid hm
              have HPn := Lib.hid hPn
              rw [hF] at HFr
              clear hm hF hp hwb hS1 hl hwb2 hy hPn
              go_upto_region 38 with (first
                | (go_at_call 13; go_loud (refine (HFr.out _ H4.out.bel).mono ?_); rintro e w5 ⟨x, rfl, i5, _, z5⟩; have H5 := Lib.hid (H4.out.below z5); have HX5 := Lib.hid i5; clear z5 i5)
                | (go_at_call 12; go_loud (refine (HFm.out _ _ H5.out HX5.out).mono ?_); rintro e w6 ⟨M, rr, cp, rfl, hi, hg⟩; have HG6 := Lib.hid hg; have HI6 := Lib.hid hi; clear hi hg)
                | fail)
              have HB7 : RowKit.Hid (Below w6.heap.size w6 (w6.alloc (.cells #[.int .u32 ep, .int .u32 kn, .bool p.wh, .slice (some ⟨rr, 0, none⟩) l cp] 45))) := Below.alloc_new _ _
              have HQ7 : RowKit.Hid (Cel (w6.alloc (.cells #[.int .u32 ep, .int .u32 kn, .bool p.wh, .slice (some ⟨rr, 0, none⟩) l cp] 45)) w6.heap.size 45 #[.int .u32 ep, .int .u32 kn, .bool p.wh, .slice (some ⟨rr, 0, none⟩) l cp]) := Cel.new _ _ _
              have HQn : RowKit.Hid ((Value.slice ka kn kc).ownBlock ≠ some w6.heap.size) := fun e => Nat.lt_irrefl _ (HG6.out.xl _ (.inr (.inl e)))
              generalize w6.alloc (.cells #[.int .u32 ep, .int .u32 kn, .bool p.wh, .slice (some ⟨rr, 0, none⟩) l cp] 45) = W7 at HB7 HQ7 ⊢
              generalize w6.heap.size = q7 at HQ7 HQn ⊢
              have HG7 := Lib.hid (HG6.out.below HB7.out)
              have HI7 := Lib.hid (HI6.out.now HB7.out (Nat.le_refl _))
              have HCg : RowKit.Hid (∀ W, Cel W gc 27 c.vals → W.cell? ⟨gc, 6, none⟩ = some (.int .i64 (Pn : Int))) := by
                refine Lib.hid fun W h => ?_
                rw [HCv.out] at h
                rw [← HPn.out]
                exact h.cell 6
              have y6 := HCg.out _ HG7.out.cc
              go_region_held3 (fun w' => w'.cell? ⟨gc, 6, none⟩ = some (.int .i64 (Pn : Int))) (go_keep) (first
                | (go_at_call 13; go_loud (refine (HFr.out _ (Below.drewN' HG7.out.b 1)).mono ?_); go_loud (rintro e w8 ⟨x2, rfl, i8, _, z8⟩); go_loud (have HB8 : RowKit.Hid (Below W7.heap.size W7 w8) := chain (Below.drewN' (Below.refl _ _) 1) z8); have HX8 := Lib.hid i8; go_loud (have HG8 := Lib.hid (HG7.out.below HB8.out)); go_loud (have HI8 := Lib.hid (HI7.out.now HB8.out (Nat.le_refl _))); go_loud (have HQ8 := Lib.hid (HQ7.out.below HB8.out)); clear z8 i8; go_loud (have y6 := HCg.out _ HG8.out.cc))
                | (go_at_call 14; go_loud (refine (HEn.out _ _ M rr HG8.out HX8.out HI8.out).mono ?_); go_loud (rintro e w9 ⟨a9, c9, rfl, hp9, hi9, hg9, hk9⟩); have HP9 := Lib.hid hp9; have HI9 := Lib.hid hi9; have HG9 := Lib.hid hg9; go_loud (have HQ9 : RowKit.Hid (Cel w9 q7 45 #[.int .u32 ep, .int .u32 kn, .bool p.wh, .slice (some ⟨rr, 0, none⟩) l cp]) := HQ8.out.keeps hk9 (by obtain ⟨_, gr', e2, _, hr2⟩ := HG8.out.k S rfl; injection e2 with e2; injection e2 with e2; injection e2 with e2; subst e2; obtain ⟨rc, hrc⟩ := hr2.typ; exact HQ8.out.ne hrc (by decide))); clear hp9 hi9 hg9 hk9; go_loud (have y6 := HCg.out _ HG9.out.cc))
                | fail)
              all_goals
                have hHa := Below.alloc_new w9 (.cells #[.int .u32 ep, .int .u32 kn, .bool p.wh, .slice a9 l c9] 45)
                have HC10 : RowKit.Hid (Cel (w9.alloc (.cells #[.int .u32 ep, .int .u32 kn, .bool p.wh, .slice a9 l c9] 45)) w9.heap.size 45 (pkC p a9 p.pl.length c9)) := by
                  unfold pkC
                  rw [HPs.out.1, HPs.out.2.1, HPs.out.2.2]
                  exact Cel.new _ _ _
                have HG10 := Lib.hid (HG9.out.below hHa)
                have HP10 : RowKit.Hid (PlAt (w9.alloc (.cells #[.int .u32 ep, .int .u32 kn, .bool p.wh, .slice a9 l c9] 45)) (AcD M (.pointer (some ⟨gr, 0, none⟩)) (.slice ka kn kc) u14) a9 p.pl.length c9 p.pl) := by
                  rw [HPs.out.2.2]
                  exact Lib.hid (HP9.out.below hHa)
                have HI10 := Lib.hid (HI9.out.now hHa (Nat.le_refl _))
                have HQ10 := Lib.hid (HQ9.out.below hHa)
                clear hHa HG6 HG7 HG8 HG9 HI6 HI7 HI8 HI9 HQ7 HQ8 HQ9 HP9 HFm HEn y6 HB7 HB8 HX8
                obtain ⟨W10, hW10⟩ : ∃ W10, w9.alloc (.cells #[.int .u32 ep, .int .u32 kn, .bool p.wh, .slice a9 l c9] 45) = W10 := ⟨_, rfl⟩
                rw [hW10] at HC10 HG10 HP10 HI10 HQ10
                have HW10 := Lib.hid hW10
                clear hW10
                go_wp2_with (first
                  | (at_builtin; go_loud (rw [HW10.out]); go_loud (refine append_kp rfl _ _ 36 rfl w.heap.size (AcD M (.pointer (some ⟨gr, 0, none⟩)) (.slice ka kn kc) u14) _ Tryz.underlying36 info23_pks rfl _ ps rfl (HG10.out.k S1 rfl).1 (fun j e hd => hd.2 (.inr (.inl e))) w9.heap.size p a9 c9 rfl HC10.out HP10.out (by have := hm2.out; omega) HG10.out.b.size ?_); go_loud (intro v11 w11 hk11 hg11 hb11); go_loud (have HG11 := Lib.hid (HG10.out.kept hk11 hg11 hb11)); go_loud (have HQ11 : RowKit.Hid (Cel w11 q7 45 #[.int .u32 ep, .int .u32 kn, .bool p.wh, .slice (some ⟨rr, 0, none⟩) l cp]) := HQ10.out.keeps (Keeps.of_grown (F := fun j => (Value.slice ka kn kc).ownBlock = some j) hg11 fun k hk => hk) HQn.out); go_loud (obtain ⟨z0, z1, z2, z3⟩ := cel4 HQ11.out); go_loud (have s1 := string_of_ints (P := Tryz.prog) (src := 43) (dst := 9) (e := 5) (c := cp) Tryz.underlying43 Tryz.underlying5 Tryz.underlying9 (HG10.out.stay HI10.out hg11)); go_loud (have hp11 := HP10.out.keeps (Keeps.of_grown (F := fun j => (Value.slice ka kn kc).ownBlock = some j) hg11 fun k hk => hk) (fun j e hd => hd.2 (.inr (.inl e)))); go_loud (rw [HPs.out.2.2] at hp11); go_loud (have s2 := string_of_ints (P := Tryz.prog) (src := 43) (dst := 9) (e := 5) (c := c9) Tryz.underlying43 Tryz.underlying5 Tryz.underlying9 hp11.i); go_loud (generalize textOf p.pl = tx at s1 s2); clear hk11 hg11 hb11 hp11)
                  | fail)
                go_meet
                exact ⟨0, ep, some S1, ps ++ [p], T, rfl, rfl, rfl, rfl, HSn.out _ _ _ HG11.out⟩
          · as_aux_lemma =>
            have kx : k.tmod 5 = 3 := hr
            obtain ⟨ta, tn, tc, rfl, htx⟩ := H4.out.tx
            have hts := HKs.out
            obtain ⟨x, hx⟩ : ∃ x, ba (titleF s.data.toList) = x := ⟨_, rfl⟩
            have HTi : RowKit.Hid (∀ W : World, Calls Tryz.prog 45 #[.string s] W fun e w' => e = .returned (.string x) ∧ Below W.heap.size W w') := Lib.hid fun W => by rw [← hx]; exact title_any s W hts
            have HTr : RowKit.Hid (∀ W : World, Calls Tryz.prog 16 #[.string s] W fun e w' => e = .returned (.string x) ∧ W = w') := Lib.hid fun W => by rw [← hx]; exact refTitle_any s W hts
            have HTm := Lib.hid (H4.out.title s x HTi.out)
            have y1 : W1.cell? ⟨q4, 1, none⟩ = some (.string s) := HQ4.out.cell 1
            have htl := htx.len
            have hn14 := H4.out.n.2
            clear hx HTi htx hts
            by_cases hne : x = nowT T
            · have hq2 : (x.toList == (nowT T).toList) = true := by rw [txt_beq, decide_eq_true hne]
              have hq : (x.toList != (nowT T).toList) = false := by rw [bne, txt_beq, decide_eq_true hne]; rfl
              have HAd : RowKit.Hid (addT T x = T) := by unfold addT; rw [if_pos hne]; exact Lib.hid rfl
              rw [HAd.out] at HTm
              clear hne
              go_wp2_with (first
                | (go_at_call 15; go_loud (refine HTm.out.mono ?_); rintro e w5 ⟨rfl, hk5, M, hg⟩; have HG5 := Lib.hid hg; go_loud (have HQ5 : RowKit.Hid (Cel w5 q4 39 #[.int .u8 k, .string s]) := HQ4.out.keeps hk5 (fun hf => mtF_ne HQ4.out hf (by decide) (by decide) (by decide) (by decide) (by decide))); have y1 : w5.cell? ⟨q4, 1, none⟩ = some (.string s) := (HQ5.out.cell 1); clear hg hk5)
                | (go_at_call 16; go_loud (refine (HTr.out _).mono ?_); rintro e w6 ⟨rfl, rfl⟩)
                | (go_at_call 17; go_loud (refine (last23_any ta tn tc T _ (HG5.out.tx htl) (by omega)).mono ?_); rintro e w7 ⟨rfl, hb⟩; have HG7 := Lib.hid (HG5.out.below hb); clear hb)
                | fail)
              go_meet
              exact ⟨0, ep, o, ps, T, rfl, rfl, rfl, rfl, H4.out.told HG7.out (by omega)⟩
            · have hq2 : (x.toList == (nowT T).toList) = false := by rw [txt_beq, decide_eq_false hne]
              have hq : (x.toList != (nowT T).toList) = true := by rw [bne, txt_beq, decide_eq_false hne]; rfl
              have HAd : RowKit.Hid (addT T x = T ++ [x]) := by unfold addT; rw [if_neg hne]; exact Lib.hid rfl
              rw [HAd.out] at HTm
              clear hne
              go_wp2_with (first
                | (go_at_call 15; go_loud (refine HTm.out.mono ?_); rintro e w5 ⟨rfl, hk5, M, hg⟩; have HG5 := Lib.hid hg; go_loud (have HQ5 : RowKit.Hid (Cel w5 q4 39 #[.int .u8 k, .string s]) := HQ4.out.keeps hk5 (fun hf => mtF_ne HQ4.out hf (by decide) (by decide) (by decide) (by decide) (by decide))); have y1 : w5.cell? ⟨q4, 1, none⟩ = some (.string s) := (HQ5.out.cell 1); clear hg hk5)
                | (go_at_call 16; go_loud (refine (HTr.out _).mono ?_); rintro e w6 ⟨rfl, rfl⟩)
                | (go_at_call 17; go_loud (refine (last23_any ta tn tc T _ (HG5.out.tx htl) (by omega)).mono ?_); rintro e w7 ⟨rfl, hb⟩; have HG7 := Lib.hid (HG5.out.below hb); clear hb)
                | (at_builtin; go_loud (refine append_texts rfl _ _ 37 rfl w.heap.size 9 Tryz.underlying37 info23_str _ tn T rfl (by have k := (HG7.out.below (Below.alloc_new _ (.cells #[.string x] 9))).tt; rw [htl] at k; exact k) (some ⟨_, 0, none⟩) 1 1 [x] rfl (TxAt.lit _ x) (by omega) (HG7.out.below (Below.alloc_new _ (.cells #[.string x] 9))).b.size ?_); intro v9 w9 ho hgw hb9; go_loud (have HG9 := Lib.hid ((HG7.out.below (Below.alloc_new _ (.cells #[.string x] 9))).titl (ownT_app ho htl rfl) hgw hb9)); clear ho hgw hb9)
                | fail)
              go_meet
              exact ⟨0, ep, o, ps, T ++ [x], rfl, rfl, rfl, rfl, H4.out.told HG9.out (by rw [List.length_append, List.length_singleton]; omega)⟩
          · as_aux_lemma =>
            have kx : k.tmod 5 = 4 := hr
            have hmk : ∀ w : World, (Instr.makeSlice 22 (.int .i64 511) (.int .i64 511)).run Tryz.prog w = .ok (.slice (some ⟨w.heap.size, 0, none⟩) 511 511) (w.alloc (.cells (madeCells #[.int .i16 0] 511) 77)) :=
              fun w => make_zeros (P := Tryz.prog) Tryz.underlying22 infoC_i16 511 (by decide) (by decide) w
            generalize madeCells #[Value.int .i16 0] 511 = mc at hmk
            have HA5 := Lib.hid (H4.out.below (Below.alloc_new W1 (.cells mc 77)))
            go_wp2_with (go_at_call 12; go_loud (refine (mtFrame_len g _ 511 _ _ (by decide) (by decide)).mono ?_); rintro e w6 ⟨rfl, hb⟩; unfold pkC; simp only [pkN, List.length_nil]; go_loud (have H6 := Lib.hid (HA5.out.below hb)); clear hb)
            go_meet
            exact ⟨1, ep, o, ps, T, rfl, rfl, rfl, rfl, H6.out.more⟩
        case rest => as_aux_lemma =>
          obtain ⟨z, ep9, o9, ps9, T9, rfl, rfl, rfl, rfl, H9⟩ := hcut
          obtain ⟨ka9, kn9, kc9, hk9⟩ := H9.out.kform
          subst hk9
          have HCl : RowKit.Hid (Below w.heap.size w wc) := H9.out.bel
          have h15 : T9.length ≤ 15 := by have := H9.out.n.2; omega
          have HLv := Lib.hid (fun W (hb : Below wc.heap.size wc W) => mtLive_any (H9.out.below hb).mt)
          have HNo := Lib.hid (fun W (hb : Below wc.heap.size wc W) => (H9.out.below hb).asksNow)
          have HBu : RowKit.Hid (∀ W, Below wc.heap.size wc W → Calls Tryz.prog 23 #[.pointer (some ⟨g, 0, none⟩)] W fun e w' => ∃ a n cc, e = .returned (.slice a n cc) ∧ Below W.heap.size W w' ∧ ∀ W2, Below w'.heap.size w' W2 → Calls Tryz.prog 22 #[.slice a n cc, .slice ka9 kn9 kc9, .bool o9.isSome, .int .i64 P] W2 fun e w' => e = .returned (.bool true) ∧ Below W2.heap.size W2 w') := by
            refine Lib.hid fun W hb => ?_
            rw [← HCf.out.2.2]
            exact (H9.out.below hb).asksBurst (by omega)
          have y6 : wc.cell? ⟨gc, 6, none⟩ = some (.int .i64 P) := by
            have h := H9.out.cfg
            rw [HCv.out] at h
            exact h.cell 6
          have hgl := H9.out.cfg.lt
          have HSof : RowKit.Hid (∀ w', Below wc.heap.size wc w' → w'.cell? ⟨gc, 6, none⟩ = some (.int .i64 P) ∧ Below wc.heap.size wc w') := Lib.hid fun w' hb' => ⟨(hb'.cell (p := ⟨gc, 6, none⟩) hgl).trans y6, hb'⟩
          have hB1 := Below.drewN' (Below.refl wc.heap.size wc) 1
          obtain ⟨N9, hN9⟩ : ∃ N9, nowT T9 = N9 := ⟨_, rfl⟩
          have HN9 := Lib.hid hN9
          obtain ⟨ta9, tn9, tc9, htv, htx⟩ := H9.out.tx
          subst htv
          have htl := htx.len
          rw [htl] at h15
          have HLa := Lib.hid (fun W (hb : Below wc.heap.size wc W) => last23_any ta9 tn9 tc9 T9 W (htx.below hb) (by omega))
          rw [hN9] at HNo HLa
          have hf := H9.out.five
          obtain ⟨k9, hk9⟩ : ∃ k9, tn9 - 5 = k9 := ⟨_, rfl⟩
          rw [hk9] at hf
          have hSl : ∀ w : World, (Instr.sliceAt 37 (.slice ta9 tn9 tc9) (some (.int .i64 (k9 : Int))) none none).run Tryz.prog w = .ok (.slice (if tc9 = k9 then ta9 else ta9.map (·.add k9)) (tn9 - k9) (tc9 - k9)) w := slice_texts ta9 tn9 tc9 k9 (by omega)
          have hmx : max (IntKind.i64.wrap ((tn9 : Int) - 5)) 0 = (k9 : Int) := by rw [show IntKind.i64.wrap ((tn9 : Int) - 5) = (tn9 : Int) - 5 from IntWalk.i64_in _ (by omega)]; omega
          generalize (if tc9 = k9 then ta9 else ta9.map (·.add k9)) = A9 at hf hSl
          generalize tn9 - k9 = M9 at hf hSl
          generalize tc9 - k9 = C9 at hf hSl
          have HHi : RowKit.Hid (∀ W, Below wc.heap.size wc W → Calls Tryz.prog 21 #[.pointer (some ⟨g, 0, none⟩)] W fun e w' => ∃ a n1 c1, e = .returned (.slice a n1 c1) ∧ Below W.heap.size W w' ∧ ∀ W2, Below w'.heap.size w' W2 → Calls Tryz.prog 20 #[.slice a n1 c1, .slice A9 M9 C9] W2 fun e w' => e = .returned (.bool true) ∧ Below W2.heap.size W2 w') := Lib.hid fun W hb => (H9.out.below hb).asksHistory (hf.below hb)
          clear hk9 hf htx htl
          go_upto_region 47 with fail
          refine wp_region_held_drew (S := fun w' => w'.cell? ⟨gc, 6, none⟩ = some (.int .i64 P) ∧ Below wc.heap.size wc w') (by kernel_rfl) (HSof.out _ hB1) (fun hHeld => ?_)
          refine wpAnyH_take (i := 0) (v := ?_) rfl (by kernel_rfl) (by kernel_rfl) (by kernel_rfl) (fun _ _ _ h => h) (Or.inl ⟨by rfl, ?_⟩) (by assumption) ?_
          rotate_left 1
          · intro wq hSw
            (try dsimp only at hSw)
            go_simp
            all_goals (with_reducible rfl)
          (try simp only [Act.put, List.setIfInBounds_toArray, List.set_cons_zero, List.set_cons_succ, List.getElem_toArray, List.getElem_cons_zero, List.getElem_cons_succ])
          refine wpAnyH_take (i := 1) (v := ?_) rfl (by kernel_rfl) (by kernel_rfl) (by kernel_rfl) (fun _ _ _ h => h) (Or.inl ⟨by rfl, ?_⟩) (by assumption) ?_
          rotate_left 1
          · intro wq hSw
            (try dsimp only at hSw)
            go_simp
            all_goals (with_reducible rfl)
          (try simp only [Act.put, List.setIfInBounds_toArray, List.set_cons_zero, List.set_cons_succ, List.getElem_toArray, List.getElem_cons_zero, List.getElem_cons_succ])
          refine wpAnyH_take (i := 2) (v := ?_) rfl (by kernel_rfl) (by kernel_rfl) (by kernel_rfl) (fun _ _ _ h => h) (Or.inl ⟨by rfl, ?_⟩) (by assumption) ?_
          rotate_left 1
          · intro wq hSw
            (try dsimp only at hSw)
            go_simp
            (try simp only [bne_self_eq_false])
            all_goals (with_reducible rfl)
          (try simp only [Act.put, List.setIfInBounds_toArray, List.set_cons_zero, List.set_cons_succ, List.getElem_toArray, List.getElem_cons_zero, List.getElem_cons_succ])
          refine wpAnyH_take (i := 3) (v := ?_) rfl (by kernel_rfl) (by kernel_rfl) (by kernel_rfl) (fun _ _ _ h => h) (Or.inl ⟨by rfl, ?_⟩) (by assumption) ?_
          rotate_left 1
          · intro wq hSw
            (try dsimp only at hSw)
            go_simp
            all_goals (with_reducible rfl)
          (try simp only [Act.put, List.setIfInBounds_toArray, List.set_cons_zero, List.set_cons_succ, List.getElem_toArray, List.getElem_cons_zero, List.getElem_cons_succ])
          refine wpAnyH_take (i := 4) (v := ?_) rfl (by kernel_rfl) (by kernel_rfl) (by kernel_rfl) (fun _ _ _ h => h) (Or.inl ⟨by rfl, ?_⟩) (by assumption) ?_
          rotate_left 1
          · intro wq hSw
            (try dsimp only at hSw)
            go_simp
            all_goals (with_reducible rfl)
          (try simp only [Act.put, List.setIfInBounds_toArray, List.set_cons_zero, List.set_cons_succ, List.getElem_toArray, List.getElem_cons_zero, List.getElem_cons_succ])
          refine wpAnyH_take (i := 6) (v := ?_) rfl (by kernel_rfl) (by kernel_rfl) (by kernel_rfl) (fun _ _ _ h => h) (Or.inl ⟨by rfl, ?_⟩) (by assumption) ?_
          rotate_left 1
          · intro wq hSw
            (try dsimp only at hSw)
            go_simp
            all_goals (with_reducible rfl)
          (try simp only [Act.put, List.setIfInBounds_toArray, List.set_cons_zero, List.set_cons_succ, List.getElem_toArray, List.getElem_cons_zero, List.getElem_cons_succ])
          refine wpAnyH_ready (rs := [5]) (by kernel_rfl) (by simp) ?_
          refine AllReadyH.cons rfl (fun K hK => ?_) AllReadyH.nil
          go_simp
          go_at_call 18
          refine (HLv.out _ hHeld.2).mono ?_
          rintro e11 w20 ⟨rfl, hw20⟩
          have HB20 : RowKit.Hid (Below wc.heap.size wc w20) := hw20 ▸ hHeld.2
          clear hw20
          refine hK.out _ _ (HSof.out _ HB20.out) (fun _ => ?_)
          clear hK K hHeld
          have hHeld := HSof.out _ HB20.out
          (try simp only [Act.put, List.setIfInBounds_toArray, List.set_cons_zero, List.set_cons_succ, List.getElem_toArray, List.getElem_cons_zero, List.getElem_cons_succ])
          refine wpAnyH_take (i := 7) (v := ?_) rfl (by kernel_rfl) (by kernel_rfl) (by kernel_rfl) (fun _ _ _ h => h) (Or.inl ⟨by rfl, ?_⟩) (by assumption) ?_
          rotate_left 1
          · intro wq hSw
            (try dsimp only at hSw)
            go_simp
            (try simp only [bne_self_eq_false])
            all_goals (with_reducible rfl)
          (try simp only [Act.put, List.setIfInBounds_toArray, List.set_cons_zero, List.set_cons_succ, List.getElem_toArray, List.getElem_cons_zero, List.getElem_cons_succ])
          refine wpAnyH_take (i := 8) (v := ?_) rfl (by kernel_rfl) (by kernel_rfl) (by kernel_rfl) (fun _ _ _ h => h) (Or.inl ⟨by rfl, ?_⟩) (by assumption) ?_
          rotate_left 1
          · intro wq hSw
            (try dsimp only at hSw)
            go_simp
            all_goals (with_reducible rfl)
          (try simp only [Act.put, List.setIfInBounds_toArray, List.set_cons_zero, List.set_cons_succ, List.getElem_toArray, List.getElem_cons_zero, List.getElem_cons_succ])
          refine wpAnyH_take (i := 9) (v := ?_) rfl (by kernel_rfl) (by kernel_rfl) (by kernel_rfl) (fun _ _ _ h => h) (Or.inl ⟨by rfl, ?_⟩) (by assumption) ?_
          rotate_left 1
          · intro wq hSw
            (try dsimp only at hSw)
            go_simp
            all_goals (with_reducible rfl)
          (try simp only [Act.put, List.setIfInBounds_toArray, List.set_cons_zero, List.set_cons_succ, List.getElem_toArray, List.getElem_cons_zero, List.getElem_cons_succ])
          refine wpAnyH_take (i := 10) (v := ?_) rfl (by kernel_rfl) (by kernel_rfl) (by kernel_rfl) (fun _ _ _ h => h) (Or.inl ⟨by rfl, ?_⟩) (by assumption) ?_
          rotate_left 1
          · intro wq hSw
            (try dsimp only at hSw)
            go_simp
            all_goals (with_reducible rfl)
          (try simp only [Act.put, List.setIfInBounds_toArray, List.set_cons_zero, List.set_cons_succ, List.getElem_toArray, List.getElem_cons_zero, List.getElem_cons_succ])
          refine wpAnyH_take (i := 12) (v := ?_) rfl (by kernel_rfl) (by kernel_rfl) (by kernel_rfl) (fun _ _ _ h => h) (Or.inl ⟨by rfl, ?_⟩) (by assumption) ?_
          rotate_left 1
          · intro wq hSw
            (try dsimp only at hSw)
            go_simp
            all_goals (with_reducible rfl)
          (try simp only [Act.put, List.setIfInBounds_toArray, List.set_cons_zero, List.set_cons_succ, List.getElem_toArray, List.getElem_cons_zero, List.getElem_cons_succ])
          refine wpAnyH_ready (rs := [11]) (by kernel_rfl) (by simp) ?_
          refine AllReadyH.cons rfl (fun K hK => ?_) AllReadyH.nil
          go_simp
          go_at_call 19
          refine (HNo.out _ HB20.out).mono ?_
          rintro e12 w21 ⟨rfl, b21⟩
          have HB21 := Lib.hid (chain HB20.out b21)
          clear b21
          refine hK.out _ _ (HSof.out _ HB21.out) (fun _ => ?_)
          clear hK K hHeld
          have hHeld := HSof.out _ HB21.out
          (try simp only [Act.put, List.setIfInBounds_toArray, List.set_cons_zero, List.set_cons_succ, List.getElem_toArray, List.getElem_cons_zero, List.getElem_cons_succ])
          refine wpAnyH_ready (rs := [13]) (by kernel_rfl) (by simp) ?_
          refine AllReadyH.cons rfl (fun K hK => ?_) AllReadyH.nil
          go_simp
          go_at_call 17
          refine (HLa.out _ HB21.out).mono ?_
          rintro e13 w22 ⟨rfl, b22⟩
          have HB22 := Lib.hid (chain HB21.out b22)
          clear b22
          refine hK.out _ _ (HSof.out _ HB22.out) (fun _ => ?_)
          clear hK K hHeld
          have hHeld := HSof.out _ HB22.out
          (try simp only [Act.put, List.setIfInBounds_toArray, List.set_cons_zero, List.set_cons_succ, List.getElem_toArray, List.getElem_cons_zero, List.getElem_cons_succ])
          refine wpAnyH_take (i := 14) (v := ?_) rfl (by kernel_rfl) (by kernel_rfl) (by kernel_rfl) (fun _ _ _ h => h) (Or.inl ⟨by rfl, ?_⟩) (by assumption) ?_
          rotate_left 1
          · intro wq hSw
            (try dsimp only at hSw)
            go_simp
            (try simp only [bne_self_eq_false])
            all_goals (with_reducible rfl)
          (try simp only [Act.put, List.setIfInBounds_toArray, List.set_cons_zero, List.set_cons_succ, List.getElem_toArray, List.getElem_cons_zero, List.getElem_cons_succ])
          refine wpAnyH_take (i := 15) (v := ?_) rfl (by kernel_rfl) (by kernel_rfl) (by kernel_rfl) (fun _ _ _ h => h) (Or.inl ⟨by rfl, ?_⟩) (by assumption) ?_
          rotate_left 1
          · intro wq hSw
            (try dsimp only at hSw)
            go_simp
            all_goals (with_reducible rfl)
          (try simp only [Act.put, List.setIfInBounds_toArray, List.set_cons_zero, List.set_cons_succ, List.getElem_toArray, List.getElem_cons_zero, List.getElem_cons_succ])
          refine wpAnyH_take (i := 16) (v := ?_) rfl (by kernel_rfl) (by kernel_rfl) (by kernel_rfl) (fun _ _ _ h => h) (Or.inl ⟨by rfl, ?_⟩) (by assumption) ?_
          rotate_left 1
          · intro wq hSw
            (try dsimp only at hSw)
            go_simp
            all_goals (with_reducible rfl)
          (try simp only [Act.put, List.setIfInBounds_toArray, List.set_cons_zero, List.set_cons_succ, List.getElem_toArray, List.getElem_cons_zero, List.getElem_cons_succ])
          refine wpAnyH_take (i := 17) (v := ?_) rfl (by kernel_rfl) (by kernel_rfl) (by kernel_rfl) (fun _ _ _ h => h) (Or.inl ⟨by rfl, ?_⟩) (by assumption) ?_
          rotate_left 1
          · intro wq hSw
            (try dsimp only at hSw)
            go_simp
            all_goals (with_reducible rfl)
          (try simp only [Act.put, List.setIfInBounds_toArray, List.set_cons_zero, List.set_cons_succ, List.getElem_toArray, List.getElem_cons_zero, List.getElem_cons_succ])
          refine wpAnyH_take (i := 19) (v := ?_) rfl (by kernel_rfl) (by kernel_rfl) (by kernel_rfl) (fun _ _ _ h => h) (Or.inl ⟨by rfl, ?_⟩) (by assumption) ?_
          rotate_left 1
          · intro wq hSw
            (try dsimp only at hSw)
            go_simp
            all_goals (with_reducible rfl)
          (try simp only [Act.put, List.setIfInBounds_toArray, List.set_cons_zero, List.set_cons_succ, List.getElem_toArray, List.getElem_cons_zero, List.getElem_cons_succ])
          refine wpAnyH_take (i := 20) (v := ?_) rfl (by kernel_rfl) (by kernel_rfl) (by kernel_rfl) (fun _ _ _ h => h) (Or.inl ⟨by rfl, ?_⟩) (by assumption) ?_
          rotate_left 1
          · intro wq hSw
            (try dsimp only at hSw)
            go_simp
            all_goals (with_reducible rfl)
          (try simp only [Act.put, List.setIfInBounds_toArray, List.set_cons_zero, List.set_cons_succ, List.getElem_toArray, List.getElem_cons_zero, List.getElem_cons_succ])
          refine wpAnyH_take (i := 21) (v := ?_) rfl (by kernel_rfl) (by kernel_rfl) (by kernel_rfl) (fun _ _ _ h => h) (Or.inl ⟨by rfl, ?_⟩) (by assumption) ?_
          rotate_left 1
          · intro wq hSw
            (try dsimp only at hSw)
            go_simp
            all_goals (with_reducible rfl)
          (try simp only [Act.put, List.setIfInBounds_toArray, List.set_cons_zero, List.set_cons_succ, List.getElem_toArray, List.getElem_cons_zero, List.getElem_cons_succ])
          refine wpAnyH_take (i := 22) (v := ?_) rfl (by kernel_rfl) (by kernel_rfl) (by kernel_rfl) (fun _ _ _ h => h) (Or.inl ⟨by rfl, ?_⟩) (by assumption) ?_
          rotate_left 1
          · intro wq hSw
            (try dsimp only at hSw)
            go_simp
            all_goals (with_reducible rfl)
          (try simp only [Act.put, List.setIfInBounds_toArray, List.set_cons_zero, List.set_cons_succ, List.getElem_toArray, List.getElem_cons_zero, List.getElem_cons_succ])
          refine wpAnyH_take (i := 23) (v := ?_) rfl (by kernel_rfl) (by kernel_rfl) (by kernel_rfl) (fun _ _ _ h => h) (Or.inl ⟨by rfl, ?_⟩) (by assumption) ?_
          rotate_left 1
          · intro wq hSw
            (try dsimp only at hSw)
            go_simp
            (try rw [hmx])
            all_goals (with_reducible rfl)
          (try simp only [Act.put, List.setIfInBounds_toArray, List.set_cons_zero, List.set_cons_succ, List.getElem_toArray, List.getElem_cons_zero, List.getElem_cons_succ])
          refine wpAnyH_take (i := 24) (v := ?_) rfl (by kernel_rfl) (by kernel_rfl) (by kernel_rfl) (fun _ _ _ h => h) (Or.inl ⟨by rfl, ?_⟩) (by assumption) ?_
          rotate_left 1
          · intro wq hSw
            (try dsimp only at hSw)
            go_simp
            all_goals (with_reducible rfl)
          (try simp only [Act.put, List.setIfInBounds_toArray, List.set_cons_zero, List.set_cons_succ, List.getElem_toArray, List.getElem_cons_zero, List.getElem_cons_succ])
          refine wpAnyH_ready (rs := [18]) (by kernel_rfl) (by simp) ?_
          refine AllReadyH.cons rfl (fun K hK => ?_) AllReadyH.nil
          go_simp
          go_at_call 21
          refine (HHi.out _ HB22.out).mono ?_
          rintro e14 w23 ⟨a14, n14, c14, rfl, b23, hE⟩
          have HB23 := Lib.hid (chain HB22.out b23)
          have HEq := Lib.hid hE
          clear b23 hE
          refine hK.out _ _ (HSof.out _ HB23.out) (fun _ => ?_)
          clear hK K hHeld
          have hHeld := HSof.out _ HB23.out
          (try simp only [Act.put, List.setIfInBounds_toArray, List.set_cons_zero, List.set_cons_succ, List.getElem_toArray, List.getElem_cons_zero, List.getElem_cons_succ])
          refine wpAnyH_ready (rs := [25]) (by kernel_rfl) (by simp) ?_
          refine AllReadyH.cons rfl (fun K hK => ?_) AllReadyH.nil
          go_simp
          go_at_call 20
          refine (HEq.out _ (Below.refl _ _)).mono ?_
          rintro e15 w24 ⟨rfl, b24⟩
          have HB24 := Lib.hid (chain HB23.out b24)
          clear b24
          refine hK.out _ _ (HSof.out _ HB24.out) (fun _ => ?_)
          clear hK K hHeld
          have hHeld := HSof.out _ HB24.out
          (try simp only [Act.put, List.setIfInBounds_toArray, List.set_cons_zero, List.set_cons_succ, List.getElem_toArray, List.getElem_cons_zero, List.getElem_cons_succ])
          refine wpAnyH_take (i := 26) (v := ?_) rfl (by kernel_rfl) (by kernel_rfl) (by kernel_rfl) (fun _ _ _ h => h) (Or.inl ⟨by rfl, ?_⟩) (by assumption) ?_
          rotate_left 1
          · intro wq hSw
            (try dsimp only at hSw)
            go_simp
            all_goals (with_reducible rfl)
          (try simp only [Act.put, List.setIfInBounds_toArray, List.set_cons_zero, List.set_cons_succ, List.getElem_toArray, List.getElem_cons_zero, List.getElem_cons_succ])
          refine wpAnyH_take (i := 27) (v := ?_) rfl (by kernel_rfl) (by kernel_rfl) (by kernel_rfl) (fun _ _ _ h => h) (Or.inl ⟨by rfl, ?_⟩) (by assumption) ?_
          rotate_left 1
          · intro wq hSw
            (try dsimp only at hSw)
            go_simp
            all_goals (with_reducible rfl)
          (try simp only [Act.put, List.setIfInBounds_toArray, List.set_cons_zero, List.set_cons_succ, List.getElem_toArray, List.getElem_cons_zero, List.getElem_cons_succ])
          refine wpAnyH_take (i := 28) (v := ?_) rfl (by kernel_rfl) (by kernel_rfl) (by kernel_rfl) (fun _ _ _ h => h) (Or.inl ⟨by rfl, ?_⟩) (by assumption) ?_
          rotate_left 1
          · intro wq hSw
            (try dsimp only at hSw)
            go_simp
            all_goals (with_reducible rfl)
          (try simp only [Act.put, List.setIfInBounds_toArray, List.set_cons_zero, List.set_cons_succ, List.getElem_toArray, List.getElem_cons_zero, List.getElem_cons_succ])
          refine wpAnyH_take (i := 29) (v := ?_) rfl (by kernel_rfl) (by kernel_rfl) (by kernel_rfl) (fun _ _ _ h => h) (Or.inl ⟨by rfl, ?_⟩) (by assumption) ?_
          rotate_left 1
          · intro wq hSw
            (try dsimp only at hSw)
            go_simp
            all_goals (with_reducible rfl)
          (try simp only [Act.put, List.setIfInBounds_toArray, List.set_cons_zero, List.set_cons_succ, List.getElem_toArray, List.getElem_cons_zero, List.getElem_cons_succ])
          refine wpAnyH_take (i := 31) (v := ?_) rfl (by kernel_rfl) (by kernel_rfl) (by kernel_rfl) (fun _ _ _ h => h) (Or.inl ⟨by rfl, ?_⟩) (by assumption) ?_
          rotate_left 1
          · intro wq hSw
            (try dsimp only at hSw)
            go_simp
            all_goals (with_reducible rfl)
          (try simp only [Act.put, List.setIfInBounds_toArray, List.set_cons_zero, List.set_cons_succ, List.getElem_toArray, List.getElem_cons_zero, List.getElem_cons_succ])
          refine wpAnyH_take (i := 32) (v := ?_) rfl (by kernel_rfl) (by kernel_rfl) (by kernel_rfl) (fun _ _ _ h => h) (Or.inl ⟨by rfl, ?_⟩) (by assumption) ?_
          rotate_left 1
          · intro wq hSw
            (try dsimp only at hSw)
            go_simp
            all_goals (with_reducible rfl)
          (try simp only [Act.put, List.setIfInBounds_toArray, List.set_cons_zero, List.set_cons_succ, List.getElem_toArray, List.getElem_cons_zero, List.getElem_cons_succ])
          refine wpAnyH_take (i := 33) (v := ?_) rfl (by kernel_rfl) (by kernel_rfl) (by kernel_rfl) (fun _ _ _ h => h) (Or.inl ⟨by rfl, ?_⟩) (by assumption) ?_
          rotate_left 1
          · intro wq hSw
            (try dsimp only at hSw)
            go_simp
            all_goals (with_reducible rfl)
          (try simp only [Act.put, List.setIfInBounds_toArray, List.set_cons_zero, List.set_cons_succ, List.getElem_toArray, List.getElem_cons_zero, List.getElem_cons_succ])
          refine wpAnyH_take (i := 34) (v := ?_) rfl (by kernel_rfl) (by kernel_rfl) (by kernel_rfl) (fun _ _ _ h => h) (Or.inl ⟨by rfl, ?_⟩) (by assumption) ?_
          rotate_left 1
          · intro wq hSw
            (try dsimp only at hSw)
            go_simp
            all_goals (with_reducible rfl)
          (try simp only [Act.put, List.setIfInBounds_toArray, List.set_cons_zero, List.set_cons_succ, List.getElem_toArray, List.getElem_cons_zero, List.getElem_cons_succ])
          refine wpAnyH_ready (rs := [30]) (by kernel_rfl) (by simp) ?_
          refine AllReadyH.cons rfl (fun K hK => ?_) AllReadyH.nil
          go_simp
          go_at_call 23
          refine (HBu.out _ HB24.out).mono ?_
          rintro e16 w25 ⟨a16, n16, c16, rfl, b25, hE⟩
          have HB25 := Lib.hid (chain HB24.out b25)
          have HEb := Lib.hid hE
          clear b25 hE
          refine hK.out _ _ (HSof.out _ HB25.out) (fun _ => ?_)
          clear hK K hHeld
          have hHeld := HSof.out _ HB25.out
          (try simp only [Act.put, List.setIfInBounds_toArray, List.set_cons_zero, List.set_cons_succ, List.getElem_toArray, List.getElem_cons_zero, List.getElem_cons_succ])
          refine wpAnyH_ready (rs := [35]) (by kernel_rfl) (by simp) ?_
          refine AllReadyH.cons rfl (fun K hK => ?_) AllReadyH.nil
          go_simp
          go_at_call 22
          refine (HEb.out _ (Below.refl _ _)).mono ?_
          rintro e17 w26 ⟨rfl, b26⟩
          have HB26 := Lib.hid (chain HB25.out b26)
          clear b26
          refine hK.out _ _ (HSof.out _ HB26.out) (fun _ => ?_)
          clear hK K hHeld
          have hHeld := HSof.out _ HB26.out
          (try simp only [Act.put, List.setIfInBounds_toArray, List.set_cons_zero, List.set_cons_succ, List.getElem_toArray, List.getElem_cons_zero, List.getElem_cons_succ])
          refine wpAnyH_take (i := 36) (v := ?_) rfl (by kernel_rfl) (by kernel_rfl) (by kernel_rfl) (fun _ _ _ h => h) (Or.inl ⟨by rfl, ?_⟩) (by assumption) ?_
          rotate_left 1
          · intro wq hSw
            (try dsimp only at hSw)
            go_simp
            all_goals (with_reducible rfl)
          (try simp only [Act.put, List.setIfInBounds_toArray, List.set_cons_zero, List.set_cons_succ, List.getElem_toArray, List.getElem_cons_zero, List.getElem_cons_succ])
          refine wpAnyH_take (i := 37) (v := ?_) rfl (by kernel_rfl) (by kernel_rfl) (by kernel_rfl) (fun _ _ _ h => h) (Or.inl ⟨by rfl, ?_⟩) (by assumption) ?_
          rotate_left 1
          · intro wq hSw
            (try dsimp only at hSw)
            go_simp
            all_goals (with_reducible rfl)
          (try simp only [Act.put, List.setIfInBounds_toArray, List.set_cons_zero, List.set_cons_succ, List.getElem_toArray, List.getElem_cons_zero, List.getElem_cons_succ])
          refine wpAnyH_done (by kernel_rfl) ?_ _
          clear hHeld
          go_wp2
          go_roundw
          case rel => exact ⟨t + 1, ep9, o9, ps9, T9, by omega, by go_num, rfl, rfl, H9.out.below HB26.out⟩
          case measure => simp [intOf] <;> omega
    · obtain rfl : t = len2 := by omega
      have Z := Lib.hid H.out.bel
      clear H
      go_wp2
      go_ret
      exact ⟨rfl, Z.out⟩
end Go.Proofs.YtmgfkdmjgjlkjaaGreat
