/- Plain facts, and what functions give, for the proofs of this seat: several texts in one, each with its own first remark. -/
import Derived.Test.YtobhoecmmpijgaaGreatRY

/- ConcealRuns: the walk. -/
namespace Go.Proofs.YtobhoecmmpijgaaGreat
open Go Go.RowKit
set_option linter.unusedVariables false
set_option linter.unusedSimpArgs false
set_option maxRecDepth 100000

/-- What is held at a round's head. -/
structure RiIn (w : World) (g ea es p1 s1 e p s t : Nat) (la : Int) (ru : Bool) (S : S13) (T1 : P14) (E : E15) (wr : World) : Prop where
  st : RhSt w g ea es p1 s1 e p s S T1 E wr
  ok : S.Ok
  g1 : Goes S T1
  li : Lies t la ru S E
set_option maxHeartbeats 4000000 in
theorem concealRuns_law (a a2 a3 : Option Addr) (len cap len2 cap2 len3 cap3 : Nat) (zs : List Int) (bs bs3 : Nat → Bool) (w : World) (hz : IntsAt w w.heap.size .i16 a len zs) (hzb : ∀ j, -32768 ≤ zs.getD j 0 ∧ zs.getD j 0 ≤ 32767) (hbs : BoolsAt w w.heap.size a2 len2 bs) (hbs3 : BoolsAt w w.heap.size a3 len3 bs3) (hl : len ≤ 2000) (hl2 : len2 ≤ 9) (hl3 : len3 ≤ 9) :
    Calls Tryz.prog 4 #[.slice a len cap, .slice a2 len2 cap2, .slice a3 len3 cap3] w fun e w' => e = .returned (.bool true) ∧ Below w.heap.size w w' := by
  have HZ := Lib.hid hz
  have HZb := Lib.hid hzb
  have HBs := Lib.hid hbs
  have HBs3 := Lib.hid hbs3
  have hd : decide ((2000 : Int) < (len : Int)) = false := by simp; omega
  have hd2 : decide ((9 : Int) < (len2 : Int)) = false := by simp; omega
  have hd3 : decide ((9 : Int) < (len3 : Int)) = false := by simp; omega
  clear hz hbs hbs3 hzb
  go_enter Tryz.func4, Tryz.ntmps4
  go_wp2_with (first
    | (go_at_call 16; have h4 := H4.out; clear h4; go_loud (refine (pNew_any _).mono ?_); rintro en w5 ⟨p1, s1, rfl, h5, y1, y2, b5⟩; have H5 : RowKit.Hid (RhSt w g ea es p1 s1 e p s s13Zero p14Zero e15Zero w5) := (by have hz := HS4.out; have hs := H4.out.2.1.size; have hp := H4.out.2.2.2.typs; have hl1 := hp.1.lt; have hl2 := hp.2.1.lt; have hl4 := hp.2.2.lt; have hl3 := H4.out.1.typs.2.2.lt; exact ⟨chain H4.out.2.1 b5, H4.out.1.below b5, h5, H4.out.2.2.2.below b5, ⟨hz.1, ⟨by omega, by omega⟩, hz.2.1, hz.2.2.1, hz.2.2.2⟩, ⟨by omega, H4.out.2.2.1, by omega, by omega⟩⟩); clear h5 y1 y2 b5)
    | (go_at_call 7; go_loud (refine (eNew_any _).mono ?_); rintro en w4 ⟨e, p, s, rfl, h4, y1, y2, y3, b4⟩; have H4 : RowKit.Hid (CodAt w4 g ea es 4 200 s13Zero ∧ Below w.heap.size w w4 ∧ es ≠ s ∧ EarAt w4 e p s e15Zero) := ⟨H3.out.1.below b4, chain H3.out.2.1 b4, (by have := H3.out.1.typs.2.2.lt; omega), h4⟩; have HS4 : RowKit.Hid ((w.heap.size ≤ g ∧ w.heap.size ≤ ea ∧ w.heap.size ≤ es) ∧ (w.heap.size ≤ e ∧ w.heap.size ≤ p ∧ w.heap.size ≤ s)) := ⟨H3.out.2.2, by have := H3.out.2.1.size; omega, by have := H3.out.2.1.size; omega, by have := H3.out.2.1.size; omega⟩; clear h4 y1 y2 y3 b4)
    | (go_at_call 15; go_loud (refine (cNew_any 4 200 _ (by decide) (by decide) (by decide) (by decide)).mono ?_); rintro en w3 ⟨g, ea, es, rfl, h3, y1, y2, y3, b3⟩; have H3 : RowKit.Hid (CodAt w3 g ea es 4 200 s13Zero ∧ Below w.heap.size w w3 ∧ w.heap.size ≤ g ∧ w.heap.size ≤ ea ∧ w.heap.size ≤ es) := ⟨h3, chain HB1.out b3, Nat.le_trans HB1.out.size y1, Nat.le_trans HB1.out.size y2, Nat.le_trans HB1.out.size y3⟩; clear h3 y1 y2 y3 b3)
    | (go_at_call 6; go_loud (refine (lives15_any _).mono ?_); rintro en w1 ⟨rfl, hb⟩; have HB1 := Lib.hid hb; clear hb))
  have HI0 : RowKit.Hid (RiIn w g ea es p1 s1 e p s 0 (-1) false s13Zero p14Zero e15Zero w5) := ⟨H5.out, s13Zero_ok, goes_zero, lies_zero _⟩
  clear hd hd2 hd3 H5 H4 HS4 H3 HB1
  go_loopw [11, 12, 51] (fun u v i wr => ∃ (t : Nat) (la : Int) (ru : Bool) (S : S13) (T1 : P14) (E : E15), t ≤ len2 ∧ u = .int .i64 la ∧ v = .bool ru ∧ i = .int .i64 ((t : Nat) : Int) ∧ RowKit.Hid (RiIn w g ea es p1 s1 e p s t la ru S T1 E wr)) (fun _ _ i _ => len2 - (intOf i).toNat)
  case atStart => exact ⟨0, -1, false, s13Zero, p14Zero, e15Zero, by omega, rfl, rfl, rfl, HI0.out⟩
  case round =>
    obtain ⟨t, la, ru, S, T1, E, ht, rfl, rfl, rfl, H⟩ := hrel
    clear HI0
    by_cases hlt : t < len2
    · obtain ⟨bb, bo, rfl, bbl, hbc⟩ := HBs.out.at_ hlt
      have k1 := (H.out.st.hb.cell (p := ⟨bb, bo + t, none⟩) bbl).trans (hbc t hlt)
      clear hbc
      generalize bs t = b at k1
      have HOk := Lib.hid (S.F_ok (Q := 4) (B := 200) (by decide) (by decide) (frmF zs len (512 * t)) b)
      have HNx : RowKit.Hid ((S.next 4 200 (frmF zs len (512 * t)) t b).Ok) := S13.Ok.next 4 200 (fun i _ => frmF_bd HZb.out _ _) t b
      have HG := Lib.hid (H.out.g1.next (Q := 4) (B := 200) (f := frmF zs len (512 * t)) (r := b) (t : Int) HOk.out)
      have HGl : RowKit.Hid (∀ T : P14, (b || S.fs) = true → T.may (S.F 4 200 (frmF zs len (512 * t)) b).bytes ∧ Goes (S.next 4 200 (frmF zs len (512 * t)) t b) (T.play (S.F 4 200 (frmF zs len (512 * t)) b).bytes t)) := fun T hT => by
        obtain ⟨h1, h2, _⟩ := goes_play (T := T) (t : Int) HOk.out (.inl hT)
        exact ⟨h1, h2⟩
      have HGx : RowKit.Hid (∀ T : P14, Goes S T → T.may (S.F 4 200 (frmF zs len (512 * t)) b).bytes ∧ Goes (S.next 4 200 (frmF zs len (512 * t)) t b) (T.play (S.F 4 200 (frmF zs len (512 * t)) b).bytes t) ∧ T.plays (S.F 4 200 (frmF zs len (512 * t)) b).bytes t = samplesF (briefF S.P (frmF zs len (512 * t))) ((S.F 4 200 (frmF zs len (512 * t)) b).held t) S.left) := fun T hT => hT.next (t : Int) HOk.out
      have HLe := Lib.hid HOk.out.len
      have HBd := Lib.hid (S.F 4 200 (frmF zs len (512 * t)) b).bytes_bd
      have HHd : RowKit.Hid (headR (S.F 4 200 (frmF zs len (512 * t)) b).bytes = true) := by
        obtain ⟨q1, q2⟩ := HOk.out.headQ
        show _ = _
        unfold headR
        rw [decide_eq_true q1, decide_eq_true q2]
        rfl
      have HWh : RowKit.Hid (plWh (S.F 4 200 (frmF zs len (512 * t)) b).bytes = (b || S.fs)) := by show _ = _; rw [HOk.out.pWh, S13.F_wh]
      have HEn : RowKit.Hid (∀ (x : Nat) (wx : World), CodAt wx g ea es 4 200 S → IFun wx x 51 .i16 512 (frmF zs len (512 * t)) → Calls Tryz.prog 17 #[.pointer (some ⟨g, 0, none⟩), .int .u32 (t : Int), .slice (some ⟨x, 0, none⟩) 512 512, .bool b] wx (EncodePost g ea es 4 200 S (frmF zs len (512 * t)) t b wx)) := fun x wx h1 h2 => cEncode_any g ea es x 4 200 S (frmF zs len (512 * t)) t b wx h1 H.out.ok (by decide) (by decide) h2 (fun i _ => frmF_bd HZb.out _ _) (by omega) (by omega)
      obtain ⟨S2, hS2⟩ : ∃ S2, S2 = S.next 4 200 (frmF zs len (512 * t)) t b := ⟨_, rfl⟩
      obtain ⟨Hf, hHf⟩ : ∃ Hf, Hf = samplesF (briefF S.P (frmF zs len (512 * t))) ((S.F 4 200 (frmF zs len (512 * t)) b).held t) S.left := ⟨_, rfl⟩
      obtain ⟨by_, hby⟩ : ∃ by_, by_ = (S.F 4 200 (frmF zs len (512 * t)) b).bytes := ⟨_, rfl⟩
      obtain ⟨wh, hwh⟩ : ∃ wh, wh = (b || S.fs) := ⟨_, rfl⟩
      unfold EncodePost at HEn
      rw [← hby, ← hwh, ← hS2] at HEn
      rw [← hS2] at HNx
      rw [← hS2, ← hHf, ← hby] at HG HGx
      rw [← hS2, ← hby, ← hwh] at HGl
      rw [← hby] at HLe HBd HHd
      rw [← hby, ← hwh] at HWh
      clear hS2 hHf hby hwh
      obtain ⟨n, hn⟩ : ∃ n, n = by_.length := ⟨_, rfl⟩
      rw [← hn] at HLe HEn
      clear hn
      obtain ⟨T, hT⟩ : ∃ T, T = 512 * t := ⟨_, rfl⟩
      have e1 : 512 * (t : Int) = (T : Int) := by omega
      rw [← hT] at HEn
      have HTt := Lib.hid hT
      have T1b : T ≤ 5000 := by omega
      have l1 : (t : Int) < (len2 : Int) := by omega
      have v3 : IntKind.u32.wrap (t : Int) = (t : Int) := IntWalk.u32_in _ (by omega)
      have HTb : RowKit.Hid ((0 : Int) ≤ (t : Int) ∧ (t : Int) ≤ 4294967295 ∧ t ≤ 100) := ⟨by omega, by omega, by omega⟩
      clear hT
      go_upto_region 15 with (first
        | (go_at_call 18; have h6 := H6.out; clear h6; go_loud (refine (pPlay_any T1 by_ t p1 s1 (some ⟨rr, 0, none⟩) n cp _ H6.out.hq H.out.g1.ok HI6.out (fun e => by cases e) HBd.out (by have := HLe.out; omega) HTb.out.1 HTb.out.2.1).mono ?_); rintro en w7 (⟨_, r7, rfl, i7, s7, p7, k7⟩ | ⟨hh, _⟩); (case inr => exact absurd HG.out.1 hh); rw [HG.out.2.2] at i7; have HX7 := Lib.hid i7; have HJ7 := Lib.hid (bytes_far HI6.out k7 H6.out.hq.odd8); have H7 := Lib.hid (H6.out.first p7 k7); clear i7 s7 p7 k7 H6)
        | (go_at_call 17; go_loud (refine (HEn.out x _ H5.out.hc HX.out).mono ?_); rintro en w6 ⟨rr, cp, rfl, i6, c6, k6⟩; have HI6 := Lib.hid i6; have H6 := Lib.hid (H5.out.code c6 k6); clear i6 c6 k6)
        | (go_at_call 12; go_loud (refine (frame15_any a len cap T zs wr (HZ.out.now H.out.st.hb (Nat.le_refl _)) (by omega) (by omega)).mono ?_); rintro en w5 ⟨x, rfl, i5, s5, z5⟩; have HX := Lib.hid i5; have H5 := Lib.hid (H.out.st.now z5); clear i5 s5 z5))
      obtain ⟨lo, hlo⟩ : ∃ lo, lo = (decide (t < len3) && bs3 t) := ⟨_, rfl⟩
      have HLo : RowKit.Hid ((decide (t < len3) && bs3 t) = lo) := hlo.symm
      clear hlo
      go_cut [92] (fun v wx => v = .bool lo ∧ w7 = wx)
      case first =>
        by_cases h3 : t < len3
        · obtain ⟨bb3, bo3, rfl, bbl3, hbc3⟩ := HBs3.out.at_ h3
          have k3 := (H7.out.hb.cell (p := ⟨bb3, bo3 + t, none⟩) bbl3).trans (hbc3 t h3)
          have l3 : (t : Int) < (len3 : Int) := by omega
          have HLo' : RowKit.Hid (bs3 t = lo) := by show _ = _; rw [← HLo.out, decide_eq_true h3]; rfl
          clear hbc3
          generalize bs3 t = y at k3 HLo'
          go_wp2
          go_meet
          exact ⟨by rw [HLo'.out], rfl⟩
        · have l3 : ¬ (t : Int) < (len3 : Int) := by omega
          have HLo' : RowKit.Hid (false = lo) := by show _ = _; rw [← HLo.out, decide_eq_false h3]; rfl
          go_wp2
          go_meet
          exact ⟨by rw [HLo'.out], rfl⟩
      case rest =>
        obtain ⟨rfl, hcw⟩ := hcut
        obtain ⟨wd, rfl⟩ : ∃ wd : World, wd = wc := ⟨_, rfl⟩
        subst hcw
        cases lo with
        | true =>
          go_wp2
          go_roundw
          case rel => exact ⟨t + 1, la, false, S2, T1.play by_ t, E, by omega, rfl, rfl, by go_num, H7.out, HNx.out, HG.out.2.1, H.out.li.lost⟩
          case measure => simp [intOf] <;> omega
        | false =>
          by_cases hrw : ru = true ∨ wh = true
          · have HFw := H.out.li.follows HTb.out.2.2
            have HEm : RowKit.Hid (E.T.may by_) := by
              rcases hrw with h | h
              · exact (HGx.out E.T (H.out.li.run h).2.2).1
              · exact (HGl.out E.T h).1
            have HMay : RowKit.Hid (E.may 7 t wh by_) := ⟨HHd.out, HWh.out, hrw.elim (fun h => .inr (HFw.trans h)) .inl, HEm.out⟩
            obtain ⟨M, hM⟩ : ∃ M, M = E.miss 7 t := ⟨_, rfl⟩
            have HM : RowKit.Hid (E.miss 7 t = M) := hM.symm
            have HMi : RowKit.Hid ((M : Int) = if 0 ≤ la then min ((t : Int) - la - 1) 4 else 0) := by rw [hM]; exact H.out.li.miss HTb.out.2.2
            have HM4 : M ≤ 4 := by rw [hM]; exact E.miss_le 7 t
            have HMz : RowKit.Hid (ru = true → M = 0) := fun h => by rw [hM]; exact (H.out.li.ok.follows (HFw.trans h)).2.2.2.2
            have HGo : RowKit.Hid (Goes S2 ((E.T.fadeN (E.miss 7 t)).play by_ t)) := by
              rcases hrw with h | h
              · have e : E.miss 7 t = 0 := by rw [← hM]; exact HMz.out h
                rw [e]
                exact (HGx.out E.T (H.out.li.run h).2.2).2.1
              · exact (HGl.out _ h).2
            have HFr : RowKit.Hid (ru = true → (E.frames 7 t by_)[0]? = some Hf) := fun h => by
              have e : E.miss 7 t = 0 := by rw [← hM]; exact HMz.out h
              unfold E15.frames
              rw [e, fadeL_zero]
              exact congrArg some (HGx.out E.T (H.out.li.run h).2.2).2.2
            obtain ⟨N, hN⟩ : ∃ N, N = M + 1 := ⟨_, rfl⟩
            have HFl : RowKit.Hid ((E.frames 7 t by_).length = N) := by show _ = _; rw [E15.frames_len, hN, hM]
            have vN : IntKind.i64.wrap ((M : Int) + 1) = (N : Int) := by rw [hN]; exact IntWalk.i64_in _ (by omega)
            have hN0 : (0 : Int) < (N : Int) := by omega
            have HLi := Lib.hid (H.out.li.hear (S' := S2) (b := by_) HTb.out.2.2 HEm.out HGo.out)
            have HRw := Lib.hid hrw
            have hlb : 0 ≤ la → la < (t : Int) := fun _ => H.out.li.lt
            have hlb2 : -1 ≤ la ∧ la ≤ 100 := by
              have h1 := H.out.li.lt
              have h2 : t ≤ 100 := HTb.out.2.2
              cases hv : E.ever with
              | false => have := (H.out.li.no hv).1; omega
              | true => have := (H.out.li.some hv).2.2; omega
            clear hM hrw HFw hN
            go_upto_region 18 with (go_at_call 13; go_loud (refine (eHear_any e p s E 7 t wh by_ (some ⟨rr, 0, none⟩) n cp _ H7.out.he H.out.li.ok HJ7.out (fun e => by cases e) HBd.out (by have := HLe.out; omega) HTb.out.1 HTb.out.2.1).mono ?_); rintro en w8 (⟨_, v8, rfl, r8, e8, k8⟩ | ⟨hh, _⟩); (case inr => exact absurd HMay.out hh); obtain ⟨a8, c8, rfl⟩ := r8.form; rw [HFl.out] at r8; rw [HFl.out]; have HX8 := Lib.hid (smp_ear HX7.out H7.out.he k8); have HR8 := Lib.hid r8; have H8 := Lib.hid (H7.out.ear e8 k8); clear r8 e8 k8)
            go_cut [108] (fun v wx => v = .bool false ∧ w8 = wx)
            case first =>
              cases ru with
              | true =>
                go_wp2
                go_meet
                exact ⟨rfl, rfl⟩
              | false =>
                have hw : wh = true := HRw.out.resolve_left (by decide)
                subst hw
                go_wp2
                go_meet
                exact ⟨rfl, rfl⟩
            case rest =>
              obtain ⟨rfl, hcw⟩ := hcut
              obtain ⟨we, rfl⟩ : ∃ we : World, we = wc := ⟨_, rfl⟩
              subst hcw
              go_upto_if 112 with fail
              go_cut [22] (fun v wx => v = .int .i64 (M : Int) ∧ w8 = wx)
              case first =>
                by_cases h0 : 0 ≤ la
                · have hm : (M : Int) = min ((t : Int) - la - 1) 4 := by rw [HMi.out, if_pos h0]
                  have hlt2 := hlb h0
                  obtain ⟨d1, hd1⟩ : ∃ d1, d1 = (t : Int) - la := ⟨_, rfl⟩
                  have hw1 : IntKind.i64.wrap ((t : Int) - la) = d1 := by rw [hd1]; exact IntWalk.i64_in _ (by omega)
                  obtain ⟨d2, hd2⟩ : ∃ d2, d2 = d1 - 1 := ⟨_, rfl⟩
                  have hw2 : IntKind.i64.wrap (d1 - 1) = d2 := by rw [hd2]; exact IntWalk.i64_in _ (by omega)
                  have HM2 : RowKit.Hid ((M : Int) = if d2 ≤ 4 then d2 else 4) := by
                    show _ = _
                    rw [hm, hd2, hd1]
                    split <;> omega
                  clear hm hd1 hd2
                  go_wp2
                  all_goals go_meet
                  · exact ⟨by rw [HM2.out, if_neg (by omega)], rfl⟩
                  · exact ⟨by rw [HM2.out, if_pos (by omega)], rfl⟩
                · go_wp2
                  go_meet
                  exact ⟨by rw [HMi.out, if_neg (by omega)], rfl⟩
              case rest =>
                obtain ⟨rfl, hcw⟩ := hcut
                obtain ⟨wf, rfl⟩ : ∃ wf : World, wf = wc := ⟨_, rfl⟩
                subst hcw
                cases ru with
                | false =>
                  go_wp2
                  go_roundw
                  case rel => exact ⟨t + 1, t, true, S2, T1.play by_ t, E.hear 7 t by_, by omega, rfl, rfl, by go_num, H8.out, HNx.out, HG.out.2.1, HLi.out⟩
                  case measure => simp [intOf] <;> omega
                | true =>
                  obtain ⟨_, gq, r9, c9, rfl, hgq, hcell, hnum⟩ := HR8.out.at_ (HFr.out rfl)
                  have HN9 := Lib.hid (hnum.ints (by decide))
                  have HX9 := Lib.hid (IFun.ints HX8.out (by decide))
                  clear hnum
                  go_wp2_with (go_at_call 19; go_loud (refine (equal16_same _ _ 512 _ _ (tabF 512 Hf) _ HN9.out HX9.out (by decide)).mono ?_); rintro en w9 ⟨rfl, q9, hw9⟩; have HW9 := Lib.hid hw9; clear hw9; have H9 : RowKit.Hid (RhSt w g ea es p1 s1 e p s S2 (T1.play by_ t) (E.hear 7 t by_) w9) := (by show RhSt _ _ _ _ _ _ _ _ _ _ _ _ _; rw [HW9.out]; exact H8.out.now (Below.drewN' (Below.refl _ _) q9)))
                  go_roundw
                  case rel => exact ⟨t + 1, t, true, S2, T1.play by_ t, E.hear 7 t by_, by omega, rfl, rfl, by go_num, H9.out, HNx.out, HG.out.2.1, HLi.out⟩
                  case measure => simp [intOf] <;> omega
          · obtain ⟨rfl, rfl⟩ : ru = false ∧ wh = false := by
              cases ru <;> cases wh <;> first | exact ⟨rfl, rfl⟩ | exact absurd (.inl rfl) hrw | exact absurd (.inr rfl) hrw
            have HFw := Lib.hid (H.out.li.follows HTb.out.2.2)
            have HNm : RowKit.Hid (¬ E.may 7 t false by_) := fun hm => hm.2.2.1.elim (fun h => by cases h) fun h => by rw [HFw.out] at h; cases h
            have HLs := Lib.hid (H.out.li.deaf (S' := S2))
            go_wp2_with (go_at_call 13; go_loud (refine (eHear_any e p s E 7 t false by_ (some ⟨rr, 0, none⟩) n cp _ H7.out.he H.out.li.ok HJ7.out (fun e => by cases e) HBd.out (by have := HLe.out; omega) HTb.out.1 HTb.out.2.1).mono ?_); rintro en w8 (⟨hh, _⟩ | ⟨_, er, rfl, _, h8, b8⟩); (case inl => exact absurd hh HNm.out); obtain rfl := h8 HHd.out HWh.out rfl HFw.out; have H8 := Lib.hid (H7.out.now b8); clear h8 b8)
            go_roundw
            case rel => exact ⟨t + 1, la, false, S2, T1.play by_ t, E, by omega, rfl, rfl, by go_num, H8.out, HNx.out, HG.out.2.1, HLs.out⟩
            case measure => simp [intOf] <;> omega
    · obtain rfl : t = len2 := by omega
      have l1 : ¬ (t : Int) < (t : Int) := by omega
      go_wp2
      go_ret
      exact ⟨rfl, H.out.st.hb⟩
end Go.Proofs.YtobhoecmmpijgaaGreat
