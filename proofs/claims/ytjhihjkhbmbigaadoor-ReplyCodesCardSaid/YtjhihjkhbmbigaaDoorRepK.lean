/- Any reply's text, if it may be; it is read as it, whatever stands behind it; cut anywhere it isn't whole: the walk. -/
import Derived.Test.YtjhihjkhbmbigaaDoorRepJ
namespace Go.Proofs.YtjhihjkhbmbigaaDoor
open Go Go.RowKit Go.PlainAid
set_option linter.unusedVariables false
set_option linter.unusedSimpArgs false

theorem OwnB.bytes' {w : World} {base : Nat} {v : Value} {l : List UInt8} {m : Nat} (h : OwnB w base v l) (e : l.length = m) : ∃ a c, v = .slice a m c ∧ BytA w a m c l := by
  subst e
  obtain ⟨a, c, e, hb, _⟩ := h.bytes
  exact ⟨a, c, e, hb⟩
set_option maxHeartbeats 16000000 in
set_option maxRecDepth 100000 in
theorem replyTexts_law (c ev cut : Int) (s : ByteArray) (a : Option Addr) (n cap : Nat) (lt : List UInt8) (w : World) (h : BytA w a n cap lt) (hc0 : -9223372036854775808 ≤ c) (hc1 : c ≤ 9223372036854775807) (he0 : -9223372036854775808 ≤ ev) (he1 : ev ≤ 9223372036854775807)
    (hT : NumTabs w) (hM : MaxAt w) :
    Calls Tryd.prog 3 #[.agg #[.int .i64 c, .string s, .int .i64 ev], .slice a n cap, .int .i64 cut] w fun e w' => e = .returned (.bool true) ∧ Below w.heap.size w w' := by
  obtain ⟨g, hg⟩ : ∃ g, w.heap.size = g := ⟨_, rfl⟩
  obtain ⟨wb, hwb⟩ : ∃ wb, w.alloc (.cells #[.int .i64 c, .string s, .int .i64 ev] 23) = wb := ⟨_, rfl⟩
  have hcel : Cel wb g 23 #[.int .i64 c, .string s, .int .i64 ev] := by rw [← hwb, ← hg]; exact Cel.new w _ _
  have bb : Below w.heap.size w wb := by rw [← hwb]; exact Below.alloc_new _ _
  have HCE : RowKit.Hid (∀ W, Below wb.heap.size wb W → Cel W g 23 #[.int .i64 c, .string s, .int .i64 ev]) := fun W hW => hcel.below hW
  have x1 : wb.cell? ⟨g, 1, none⟩ = some (.string s) := hcel.cell 1
  have CL : ∀ W, Below w.heap.size w W → Calls Tryd.prog 6 #[] W fun e w' => e = .returned (.bool true) ∧ Below W.heap.size W w' := fun W hb => lives18 W (hT.below hb).pow
  have C0 := CL wb bb
  have HY : RowKit.Hid (∀ W, Below wb.heap.size wb W → W.cell? ⟨g, 0, none⟩ = some (.int .i64 c) ∧ W.cell? ⟨g, 1, none⟩ = some (.string s) ∧ W.cell? ⟨g, 2, none⟩ = some (.int .i64 ev)) := fun W hW => ⟨(HCE.out W hW).cell 0, (HCE.out W hW).cell 1, (HCE.out W hW).cell 2⟩
  by_cases b1 : 200 < s.size
  · have b1' : (200 : Int) < (s.size : Int) := by omega
    go_enter Tryd.func3, Tryd.ntmps3
    go_wp2_with (first
      | (go_at_call 6; ((with_reducible refine C0.mono ?_)); rintro e w1 ⟨rfl, b1⟩; obtain ⟨y0, y1, y2⟩ := HY.out w1 b1)
      | (go_at_call 6; refine (CL _ (bb.trans (b1.mono bb.size))).mono ?_; rintro e w2 ⟨rfl, b2⟩))
    go_ret
    have q := chain (bb.trans (b1.mono bb.size)) b2
    exact ⟨rfl, by first | exact q | (rw [← hg]; exact q)⟩
  by_cases b2 : 500 < n
  · have b1' : ¬ (200 : Int) < (s.size : Int) := by omega
    have b2' : (500 : Int) < (n : Int) := by omega
    go_enter Tryd.func3, Tryd.ntmps3
    go_wp2_with (first
      | (go_at_call 6; ((with_reducible refine C0.mono ?_)); rintro e w1 ⟨rfl, b1⟩; obtain ⟨y0, y1, y2⟩ := HY.out w1 b1)
      | (go_at_call 6; refine (CL _ (bb.trans (b1.mono bb.size))).mono ?_; rintro e w2 ⟨rfl, b2⟩))
    go_ret
    have q := chain (bb.trans (b1.mono bb.size)) b2
    exact ⟨rfl, by first | exact q | (rw [← hg]; exact q)⟩
  have hs : s.size ≤ 1000 := by omega
  have b1' : ¬ (200 : Int) < (s.size : Int) := by omega
  have b2' : ¬ (500 : Int) < (n : Int) := by omega
  obtain ⟨R, hR⟩ : ∃ R, rightF ⟨c, s.data.toList, ev⟩ = R := ⟨_, rfl⟩
  have HRX := Lib.hid hR
  have CT : ∀ W, Below w.heap.size w W → Calls Tryd.prog 7 #[.agg #[.int .i64 c, .string s, .int .i64 ev]] W fun e w' => ∃ a1 c1, e = .returned (.tuple #[.slice a1 (if R = true then textF ⟨c, s.data.toList, ev⟩ else []).length c1, .int .i64 (if R = true then 0 else 1)]) ∧ RowKit.Hid (BytA w' a1 (if R = true then textF ⟨c, s.data.toList, ev⟩ else []).length c1 (if R = true then textF ⟨c, s.data.toList, ev⟩ else [])) ∧ Below W.heap.size W w' := by
    intro W hW
    have := text_any c ev s W hs hc0 hc1 he0 he1 (hT.below hW).pow
    rw [hR] at this
    refine this.mono ?_
    rintro e w' ⟨v, he, h1, h2, h3⟩
    obtain ⟨a1, c1, rfl, h4, _⟩ := h1.bytes
    exact ⟨_, _, he, h4, h3⟩
  obtain ⟨L, hL⟩ : ∃ L, (if R = true then textF ⟨c, s.data.toList, ev⟩ else []) = L := ⟨_, rfl⟩
  have HL := Lib.hid hL
  rw [hL] at CT
  obtain ⟨z, hz⟩ : ∃ z, L.length = z := ⟨_, rfl⟩
  have HZ := Lib.hid hz
  rw [hz] at CT
  clear hL hz hR
  go_enter Tryd.func3, Tryd.ntmps3
  go_upto_region 4 with (first
    | (go_at_call 6; ((with_reducible refine C0.mono ?_)); rintro e w1 ⟨rfl, b1⟩; obtain ⟨y0, y1, y2⟩ := HY.out w1 b1)
    | (go_at_call 7; refine (CT _ (bb.trans (b1.mono bb.size))).mono ?_; rintro e w2 ⟨a1, c1, rfl, hB, b2⟩))
  obtain ⟨y0, y1, y2⟩ := HY.out w2 (chain b1 b2)
  have bw2 := chain (bb.trans (b1.mono bb.size)) b2
  have HW := Lib.hid bw2
  have cR : ∀ d os, Calls Tryd.prog 8 #[.agg #[.int .i64 c, .string s, .int .i64 ev]] (Go.Sort.grow (redrawn w2 d) os) fun e w'' => e = .returned (.bool R) ∧ ∃ p : Regrown, w'' = Go.Sort.grow (redrawn w2 p.d) p.os := by
    intro d os
    have := right_any c ev s (Go.Sort.grow (redrawn w2 d) os) hs hc0 hc1 he0 he1
    rw [HRX.out] at this
    exact Calls.regrown_of this
  have cL : ∀ d os, Calls Tryd.prog 9 #[.agg #[.int .i64 c, .string s, .int .i64 ev]] (Go.Sort.grow (redrawn w2 d) os) fun e w'' => e = .returned (.bool R) ∧ ∃ p : Regrown, w'' = Go.Sort.grow (redrawn w2 p.d) p.os := by
    intro d os
    have := lawRight_any c ev s (Go.Sort.grow (redrawn w2 d) os) hs
    rw [HRX.out] at this
    exact Calls.regrown_of this
  have k0 := cell_regrown y0
  have k1 := cell_regrown y1
  have k2 := cell_regrown y2
  have HGR : RowKit.Hid (∀ d os, Below wb.heap.size wb (Go.Sort.grow (redrawn w2 d) os) ∧ Below w.heap.size w (Go.Sort.grow (redrawn w2 d) os) ∧ BytA (Go.Sort.grow (redrawn w2 d) os) a1 z c1 L) := fun d os =>
    ⟨(chain b1 b2).trans ((below_regrown w2 d os).mono (chain b1 b2).size), HW.out.trans ((below_regrown w2 d os).mono HW.out.size), hB.out.below (below_regrown w2 d os)⟩
  clear CT CL C0 b1 b2 bw2 hB hcel x1 hwb
  cases R with
  | false =>
    obtain rfl : L = [] := by rw [← HL.out]; rfl
    obtain rfl : z = 0 := HZ.out.symm
    rw [if_neg (by decide)]
    refine wp_region_quiet_below (by first | assumption | kernel_rfl) (by kernel_rfl) ?_
    repeat (quiet_step (first | exact cR _ _ | exact cL _ _))
    refine wpQuiet_nil ?_
    intro _ hw'
    obtain ⟨⟨dq, osq⟩, hw''⟩ := hw'
    subst hw''
    go_wp2
    go_ret
    exact ⟨ret_boolE (by first | rfl | simp), by first | exact (HGR.out dq osq).2.1 | (rw [← hg]; exact (HGR.out dq osq).2.1)⟩
  | true =>
    obtain rfl : textF ⟨c, s.data.toList, ev⟩ = L := by rw [← HL.out]; rfl
    rw [if_pos rfl]
    refine wp_region_quiet_below (by first | assumption | kernel_rfl) (by kernel_rfl) ?_
    repeat (quiet_step (first | exact cR _ _ | exact cL _ _))
    refine wpQuiet_nil ?_
    intro _ hw'
    obtain ⟨⟨dq, osq⟩, hw''⟩ := hw'
    subst hw''
    obtain ⟨w5, hw5⟩ : ∃ w5, Go.Sort.grow (redrawn w2 dq) osq = w5 := ⟨_, rfl⟩
    have H5 : RowKit.Hid (Below wb.heap.size wb w5 ∧ Below w.heap.size w w5 ∧ BytA w5 a1 z c1 (textF ⟨c, s.data.toList, ev⟩)) := by rw [← hw5]; exact HGR.out dq osq
    rw [hw5]
    clear hw5 HGR cR cL k0 k1 k2 y0 y1 y2
    go_upto_region 8 with (fail)
    have cX : ∀ d os, Calls Tryd.prog 10 #[.agg #[.int .i64 c, .string s, .int .i64 ev]] (Go.Sort.grow (redrawn w5 d) os) fun e w'' => e = .returned (.string (ba (textF ⟨c, s.data.toList, ev⟩))) ∧ ∃ p : Regrown, w'' = Go.Sort.grow (redrawn w5 p.d) p.os := by
      intro d os
      exact Calls.regrown_of (lawText_any c ev s (Go.Sort.grow (redrawn w5 d) os) hs hc0 hc1 he0 he1 (hT.below (H5.out.2.1.trans ((below_regrown w5 d os).mono H5.out.2.1.size))).pow)
    have hcd : ∀ d os, (convert 24 9 (.slice a1 z c1)).run Tryd.prog (Go.Sort.grow (redrawn w5 d) os) = .ok (.string (ba (textF ⟨c, s.data.toList, ev⟩))) (Go.Sort.grow (redrawn w5 d) os) := fun d os => H5.out.2.2.conv _ (below_regrown w5 d os)
    obtain ⟨m0, m1, m2⟩ := HY.out w5 H5.out.1
    have k0 := cell_regrown m0
    have k1 := cell_regrown m1
    have k2 := cell_regrown m2
    have HGR : RowKit.Hid (∀ d os, Below wb.heap.size wb (Go.Sort.grow (redrawn w5 d) os) ∧ Below w.heap.size w (Go.Sort.grow (redrawn w5 d) os) ∧ BytA (Go.Sort.grow (redrawn w5 d) os) a1 z c1 (textF ⟨c, s.data.toList, ev⟩)) := fun d os =>
      ⟨H5.out.1.trans ((below_regrown w5 d os).mono H5.out.1.size), H5.out.2.1.trans ((below_regrown w5 d os).mono H5.out.2.1.size), H5.out.2.2.below (below_regrown w5 d os)⟩
    have hlen := text_len HRX.out
    have hz1 : (textF ⟨c, s.data.toList, ev⟩).length = z := HZ.out
    have hz4 := (text_idx HRX.out []).1
    rw [hz1] at hlen hz4
    have HRA := Lib.hid (read_again HRX.out lt)
    have HRC : RowKit.Hid (∀ K, K < z → readF ((textF ⟨c, s.data.toList, ev⟩).take K) = (zero18, 0, 2)) := fun K hK => read_cut HRX.out (by rw [hz1]; exact hK)
    obtain ⟨L, hL⟩ : ∃ L, textF ⟨c, s.data.toList, ev⟩ = L := ⟨_, rfl⟩
    rw [hL] at hz1 HRA HRC HGR cX hcd
    clear hL HZ HL HRX H5
    obtain ⟨T, hTT⟩ : ∃ T, ba L = T := ⟨_, rfl⟩
    rw [hTT] at cX hcd
    clear hTT
    refine wp_region_quiet_below (by first | assumption | kernel_rfl) (by kernel_rfl) ?_
    repeat (quiet_step (first | exact cX _ _))
    refine wpQuiet_nil ?_
    intro _ hw'
    obtain ⟨⟨dq2, osq2⟩, hw''⟩ := hw'
    subst hw''
    obtain ⟨w6, hw6⟩ : ∃ w6, Go.Sort.grow (redrawn w5 dq2) osq2 = w6 := ⟨_, rfl⟩
    have H6 : RowKit.Hid (Below wb.heap.size wb w6 ∧ Below w.heap.size w w6 ∧ BytA w6 a1 z c1 L) := by rw [← hw6]; exact HGR.out dq2 osq2
    rw [hw6]
    clear hw6 HGR cX hcd k0 k1 k2 m0 m1 m2
    have HLT := Lib.hid (h.below H6.out.2.1)
    obtain ⟨gb, hgb⟩ : ∃ gb, w6.heap.size = gb := ⟨_, rfl⟩
    obtain ⟨w7, hw7⟩ : ∃ w7, w6.alloc (.cells #[] 5) = w7 := ⟨_, rfl⟩
    have HO7 : RowKit.Hid (w7.ownsRow gb 5 1 (.slice (some ⟨gb, 0, none⟩) 0 0) 0 ([].map (Value.int .u8))) := by
      rw [← hw7, ← hgb]
      exact World.ownsRow_lit (base := w6.heap.size) (e := 5) (size := 1) w6 #[] 0 (Nat.le_refl _) (by decide) rfl
    have HB7 : RowKit.Hid (Below gb w6 w7) := by rw [← hw7, ← hgb]; exact Below.alloc_new _ _
    have HS7 : RowKit.Hid (gb ≤ w7.heap.size) := Nat.le_trans (Nat.le_of_eq hgb.symm) HB7.out.size
    have HI7 : RowKit.Hid (IntsAt w7 w7.heap.size .u8 a1 z (nz L)) := (H6.out.2.2.below (by rw [hgb]; exact HB7.out)).hi
    have hn1 := H6.out.2.2.ha
    have hn2 := h.ha
    obtain ⟨M, hMl⟩ : ∃ M, (L ++ lt).length = M := ⟨_, rfl⟩
    have HMl := Lib.hid hMl
    have CRd : ∀ W a9 c9, BytA W a9 M c9 (L ++ lt) → Below w.heap.size w W → Calls Tryd.prog 11 #[.slice a9 M c9] W fun e w' => e = .returned (.tuple #[.agg #[.int .i64 c, .string s, .int .i64 ev], .int .i64 (z : Int), .int .i64 0]) ∧ Below W.heap.size W w' := by
      intro W a9 c9 hb9 hW
      have := read_any a9 M c9 (L ++ lt) W hb9 (by rw [← hMl, List.length_append, hz1, h.hl]; omega) (hM.below hW) (hT.below hW)
      rw [HRA.out, hz1] at this
      unfold readV at this
      dsimp only at this
      rw [ba_list] at this
      exact this
    have hlen2 : (L ++ lt).length = 0 + z + n := by rw [List.length_append, hz1, h.hl]; omega
    have HLen2 := Lib.hid hlen2
    clear hlen2 hMl
    go_upto_region 11 with (first
      | (at_builtin; (refine append_ints rfl _ _ 24 rfl gb 5 .u8 1 Tryd.underlying24 infoE_u8 (.slice (some ⟨gb, 0, none⟩) 0 0) 0 [] rfl HO7.out a1 z c1 _ (nz L) rfl HI7.out hn1 (by unfold maxLen; omega) (by omega) HS7.out ?_); intro v8 w8 hown hgrow _; have HO8 := Lib.hid hown; have HB8 : RowKit.Hid (Below gb w6 w8) := HB7.out.grown hgrow HS7.out (own_base HO7.out); have HS8 : RowKit.Hid (gb ≤ w8.heap.size) := Nat.le_trans (Nat.le_of_eq hgb.symm) HB8.out.size; have HI8 : RowKit.Hid (IntsAt w8 w8.heap.size .u8 a n (nz lt)) := (HLT.out.below (by rw [hgb]; exact HB8.out)).hi; clear hown hgrow)
      | (at_builtin; go_loud (refine append_ints rfl _ _ 24 rfl gb 5 .u8 1 Tryd.underlying24 infoE_u8 v8 (0 + z) ([] ++ nz L) rfl HO8.out a n cap _ (nz lt) rfl HI8.out hn2 (by unfold maxLen; omega) (by omega) HS8.out ?_); intro v9 w9 hown hgrow _; have hO9 : OwnB w9 gb v9 (L ++ lt) := (by unfold OwnB; rw [HLen2.out, nz_append]; simpa using hown); have HB9 : RowKit.Hid (Below gb w6 w9) := HB8.out.grown hgrow HS8.out (own_base HO8.out); obtain ⟨a9, c9, rfl, hb9⟩ := hO9.bytes' HMl.out; have H9 := Lib.hid hb9; have bw9 : Below w.heap.size w w9 := H6.out.2.1.trans (HB9.out.mono (by rw [← hgb]; exact H6.out.2.1.size)); clear hown hgrow hb9)
      | (go_at_call 11; refine (CRd _ a9 c9 H9.out bw9).mono ?_; rintro e w10 ⟨rfl, b10⟩))
    obtain ⟨gx, hgx⟩ : ∃ gx, w10.heap.size = gx := ⟨_, rfl⟩
    obtain ⟨w11, hw11⟩ : ∃ w11, w10.alloc (.cells #[.int .i64 c, .string s, .int .i64 ev] 23) = w11 := ⟨_, rfl⟩
    have b69 : Below w6.heap.size w6 w9 := by rw [hgb]; exact HB9.out
    have b6x : Below w6.heap.size w6 w11 := by rw [← hw11]; exact (chain b69 b10).alloc (chain b69 b10).size _
    have H11 : RowKit.Hid (Below wb.heap.size wb w11 ∧ Below w.heap.size w w11 ∧ BytA w11 a1 z c1 L ∧ Cel w11 gx 23 #[.int .i64 c, .string s, .int .i64 ev]) := by
      refine ⟨chain H6.out.1 b6x, chain H6.out.2.1 b6x, H6.out.2.2.below b6x, ?_⟩
      rw [← hw11, ← hgx]
      exact Cel.new _ _ _
    rw [hw11, hgx]
    clear hw11 hgx b69 b6x HB7 HB8 HB9 HO7 HO8 HI7 HI8 HS7 HS8 H9 CRd HRA HLT bw9 b10 hgb hw7
    have zp : (0 : Int) < (z : Int) := by omega
    obtain ⟨K, hK, hKe⟩ : ∃ K : Nat, K < z ∧ wrap64 ((IntKind.u64.wrap cut).tmod (z : Int)) = (K : Int) := by
      have h1 : 0 ≤ IntKind.u64.wrap cut := by rw [IntKind.wrap_u64]; omega
      have h2 : (IntKind.u64.wrap cut).tmod (z : Int) = (IntKind.u64.wrap cut) % (z : Int) := Int.tmod_eq_emod_of_nonneg h1
      have h3 := Int.emod_nonneg (IntKind.u64.wrap cut) (Int.ne_of_gt zp)
      have h4 := Int.emod_lt_of_pos (IntKind.u64.wrap cut) zp
      refine ⟨((IntKind.u64.wrap cut) % (z : Int)).toNat, by omega, ?_⟩
      rw [h2]
      unfold wrap64
      omega
    have hKc : (K : Int) ≤ (c1 : Int) := by have := H11.out.2.2.1.hc; omega
    have CRk : Calls Tryd.prog 11 #[.slice a1 K c1] w11 fun e w' => e = .returned (.tuple #[.agg #[.int .i64 0, .string ⟨#[]⟩, .int .i64 0], .int .i64 0, .int .i64 2]) ∧ Below w11.heap.size w11 w' := by
      have := read_any a1 K c1 (L.take K) w11 (H11.out.2.2.1.take K (by omega)) (by omega) (hM.below H11.out.2.1) (hT.below H11.out.2.1)
      rw [HRC.out K hK] at this
      exact this
    clear HRC
    go_upto_region 12 with (go_at_call 11; refine CRk.mono ?_; rintro e w12 ⟨rfl, b12⟩)
    obtain ⟨w13, hw13⟩ : ∃ w13, w12.alloc (.cells #[.int .i64 0, .string ⟨#[]⟩, .int .i64 0] 23) = w13 := ⟨_, rfl⟩
    have b13 : Below w11.heap.size w11 w13 := by rw [← hw13]; exact b12.alloc b12.size _
    have hx13 := H11.out.2.2.2.below b13
    have u0 : w13.cell? ⟨gx, 0, none⟩ = some (.int .i64 c) := hx13.cell 0
    have u1 : w13.cell? ⟨gx, 1, none⟩ = some (.string s) := hx13.cell 1
    have u2 : w13.cell? ⟨gx, 2, none⟩ = some (.int .i64 ev) := hx13.cell 2
    obtain ⟨v0, v1, v2⟩ := HY.out w13 (chain H11.out.1 b13)
    have HF := Lib.hid (chain H11.out.2.1 b13)
    rw [hw13]
    clear hw13 b12 b13 hx13
    go_wp2
    go_ret
    exact ⟨ret_boolE (by first | rfl | simp), by first | exact HF.out | (rw [← hg]; exact HF.out)⟩
end Go.Proofs.YtjhihjkhbmbigaaDoor
