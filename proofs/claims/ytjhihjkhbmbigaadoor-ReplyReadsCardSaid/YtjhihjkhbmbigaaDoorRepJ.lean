/- Of any bytes the reply they begin with, or what is wrong: the walk. -/
import Derived.Test.YtjhihjkhbmbigaaDoorRepI
namespace Go.Proofs.YtjhihjkhbmbigaaDoor
open Go Go.RowKit Go.PlainAid
set_option linter.unusedVariables false
set_option linter.unusedSimpArgs false

/-- Where the law's search for the end stands. -/
def Fd18 (l : List UInt8) (e i : Nat) : Prop := (e = 0 ∧ ∀ j, j < i → Lib.occAt l nn18 j = false) ∨ ∃ k, e = k + 4 ∧ i = k + 1 ∧ Lib.occAt l nn18 k = true ∧ ∀ j, j < k → Lib.occAt l nn18 j = false
theorem Fd18.miss {l : List UInt8} {i : Nat} (h : Fd18 l 0 i) (ho : Lib.occAt l nn18 i = false) : Fd18 l 0 (i + 1) := by
  rcases h with ⟨_, h⟩ | ⟨k, h, _⟩
  · refine .inl ⟨rfl, fun j hj => ?_⟩
    by_cases e : j = i
    · rw [e]; exact ho
    · exact h j (by omega)
  · omega
theorem Fd18.hit {l : List UInt8} {i : Nat} (h : Fd18 l 0 i) (ho : Lib.occAt l nn18 i = true) : Fd18 l (i + 4) (i + 1) := by
  rcases h with ⟨_, h⟩ | ⟨k, h, _⟩
  · exact .inr ⟨i, rfl, rfl, ho, h⟩
  · omega
theorem Fd18.done {l : List UInt8} {e i : Nat} (h : Fd18 l e i) (hs : l.length < i + 4 ∨ e ≠ 0) : (e = 0 ∧ Lib.index l nn18 = -1) ∨ ∃ k : Nat, e = k + 4 ∧ Lib.index l nn18 = k ∧ k + 4 ≤ l.length := by
  rcases h with ⟨h0, h⟩ | ⟨k, h0, _, h1, h2⟩
  · refine .inl ⟨h0, index_no fun j hj => ?_⟩
    have := occ_room hj (by decide)
    rw [show nn18.length = 4 from rfl] at this
    rw [h j (by omega)] at hj
    cases hj
  · have := occ_room h1 (by decide)
    rw [show nn18.length = 4 from rfl] at this
    exact .inr ⟨k, h0, Lib.index_first (by omega) h1 h2, this⟩
theorem occ_four (l : List UInt8) (i : Nat) (h : i + 4 ≤ l.length) : Lib.occAt l nn18 i = ((l.drop i).take 4 == nn18) := by
  unfold Lib.occAt
  rw [Bool.eq_iff_iff, List.isPrefixOf_iff_prefix, beq_iff_eq]
  constructor
  · intro hp
    have := List.prefix_iff_eq_take.1 hp
    rw [show nn18.length = 4 from rfl] at this
    exact this.symm
  · intro e
    rw [← e]
    exact List.take_prefix _ _
theorem BytA.part {w : World} {a : Option Addr} {n cap : Nat} {l : List UInt8} (h : BytA w a n cap l) (i k : Nat) (hik : i + k ≤ n) (hk : 0 < k) : ∃ b off, a = some ⟨b, off, none⟩ ∧ BytA w (some ⟨b, off + i, none⟩) k (cap - i) ((l.drop i).take k) := by
  obtain ⟨b, off, e, h2, h4⟩ := h.addr (by omega)
  refine ⟨b, off, e, ⟨?_, ?_⟩, ?_, ?_, fun c => by cases c⟩
  · rw [nz_len, List.length_take, List.length_drop, h.hl]; omega
  · have hb := h.hi.2
    refine .inr ⟨b, off + i, rfl, h2, ?_, fun j hj => ?_⟩
    · rcases hb with hb | ⟨_, _, _, _, h3, _⟩ <;> omega
    · rw [Nat.add_assoc, h4 (i + j) (by omega), nz_get, nz_get]
      congr 3
      rw [List.getD_eq_getElem?_getD, List.getD_eq_getElem?_getD, List.getElem?_take, if_pos hj, List.getElem?_drop]
  · rw [List.length_take, List.length_drop, h.hl]; omega
  · have := h.hc; omega
set_option maxHeartbeats 16000000 in
set_option maxRecDepth 100000 in
theorem replyReads_law (a : Option Addr) (n cap : Nat) (l : List UInt8) (w : World) (h : BytA w a n cap l) (hT : NumTabs w) (hM : MaxAt w) :
    Calls Tryd.prog 4 #[.slice a n cap] w fun e w' => e = .returned (.bool true) ∧ Below w.heap.size w w' := by
  have C0 := lives18 w hT.pow
  by_cases h1000 : 1000 < n
  · have C1 : ∀ W, Below w.heap.size w W → Calls Tryd.prog 6 #[] W fun e w' => e = .returned (.bool true) ∧ Below W.heap.size W w' := fun W hb => lives18 W (hT.below hb).pow
    have h1' : (1000 : Int) < (n : Int) := by omega
    go_enter Tryd.func4, Tryd.ntmps4
    go_wp2_with (first
      | (go_at_call 6; ((with_reducible refine C0.mono ?_)); rintro e w1 ⟨rfl, b1⟩)
      | (go_at_call 6; refine (C1 _ b1).mono ?_; rintro e w2 ⟨rfl, b2⟩))
    go_ret
    exact ⟨rfl, chain b1 b2⟩
  have hn : n ≤ 1000 := by omega
  have hn' : ¬ (1000 : Int) < (n : Int) := by omega
  have CR : ∀ W, Below w.heap.size w W → Calls Tryd.prog 11 #[.slice a n cap] W fun e w' => e = .returned (readV (readF l)) ∧ Below W.heap.size W w' := fun W hb => read_any a n cap l W (h.below hb) hn (hM.below hb) (hT.below hb)
  have H := Lib.hid h
  obtain ⟨r, m, e, hrd⟩ : ∃ r m e, readF l = (r, m, e) := ⟨_, _, _, rfl⟩
  have HRD := Lib.hid hrd
  rw [hrd] at CR
  unfold readV at CR
  dsimp only at CR
  clear hrd
  obtain ⟨c, nm, ev⟩ := r
  dsimp only at CR
  go_enter Tryd.func4, Tryd.ntmps4
  go_upto_region 4 with (first
    | (go_at_call 6; ((with_reducible refine C0.mono ?_)); rintro e' w1 ⟨rfl, b1⟩)
    | (go_at_call 11; refine (CR _ b1).mono ?_; rintro e' w2 ⟨rfl, b2⟩))
  obtain ⟨g, hg⟩ : ∃ g, w2.heap.size = g := ⟨_, rfl⟩
  obtain ⟨N, hN⟩ : ∃ N, ba nm = N := ⟨_, rfl⟩
  have HN := Lib.hid hN
  rw [hN]
  obtain ⟨w4, hw4⟩ : ∃ w4, w2.alloc (.cells #[.int .i64 c, .string N, .int .i64 ev] 23) = w4 := ⟨_, rfl⟩
  have H4 : RowKit.Hid (Below w.heap.size w w4 ∧ Cel w4 g 23 #[.int .i64 c, .string N, .int .i64 ev]) := by
    rw [← hw4, ← hg]
    have b := chain b1 b2
    exact ⟨b.alloc b.size _, Cel.new _ _ _⟩
  rw [hw4, hg]
  clear hN hw4 hg CR C0 b1 b2
  have HLen : RowKit.Hid (l.length = n) := h.hl
  have hcap := h.hc
  have HX : RowKit.Hid (∀ j, j + 4 ≤ n → ∃ ab ao, a = some ⟨ab, ao, none⟩ ∧ (convert 24 9 (.slice (some ⟨ab, ao + j, none⟩) 4 (cap - j))).run Tryd.prog w4 = .ok (.string (ba ((l.drop j).take 4))) w4) := by
    intro j hj
    obtain ⟨ab, ao, e1, e2⟩ := H.out.part j 4 hj (by omega)
    exact ⟨ab, ao, e1, e2.conv w4 H4.out.1⟩
  go_upto_region 6 with (fail)
  go_loopw [6, 7] (fun ve vi wr => ∃ e' i : Nat, ve = .int .i64 (e' : Int) ∧ vi = .int .i64 (i : Int) ∧ i ≤ n + 1 ∧ e' ≤ n ∧ RowKit.Hid (Fd18 l e' i) ∧ w4 = wr) (fun _ vi _ => n + 1 - (intOf vi).toNat)
  case atStart => exact ⟨0, 0, rfl, rfl, by omega, by omega, .inl ⟨rfl, fun j hj => by omega⟩, rfl⟩
  case round =>
    obtain ⟨e', i, rfl, rfl, hi, he', HF, rfl⟩ := hrel
    by_cases hcont : i + 4 ≤ n ∧ e' = 0
    · obtain ⟨h1, rfl⟩ := hcont
      have h1' : (i : Int) + 4 ≤ (n : Int) := by omega
      obtain ⟨ab, ao, rfl, hcv⟩ := HX.out i h1
      have ho := occ_four l i (by rw [HLen.out]; exact h1)
      obtain ⟨T, hT2⟩ : ∃ T, ba ((l.drop i).take 4) = T := ⟨_, rfl⟩
      have HO : RowKit.Hid (Lib.occAt l nn18 i = (T.toList == [13, 10, 13, 10])) := by
        show _ = _
        rw [ho, ← hT2, Lib.toList_data, list_ba]
        rfl
      rw [hT2] at hcv
      clear ho hT2
      by_cases hq : T.toList = [13, 10, 13, 10]
      · have hq' : (T.toList == [13, 10, 13, 10]) = true := by simpa using hq
        go_wp2
        go_roundw
        case rel => exact ⟨i + 4, i + 1, by go_num, by go_num, by omega, by omega, HF.out.hit (by rw [HO.out]; exact hq'), by first | rfl | trivial⟩
        case measure => simp [intOf] <;> omega
      · have hq' : (T.toList == [13, 10, 13, 10]) = false := by simpa using hq
        go_wp2
        go_roundw
        case rel => exact ⟨0, i + 1, by go_num, by go_num, by omega, by omega, HF.out.miss (by rw [HO.out]; exact hq'), by first | rfl | trivial⟩
        case measure => simp [intOf] <;> omega
    · have HD := Lib.hid (HF.out.done (by rw [HLen.out]; omega))
      rw [HLen.out] at HD
      have q1 : (e' : Int) ≤ (n : Int) := by omega
      have HDD : RowKit.Hid (((Lib.index l nn18 < 0 ∨ 400 < Lib.index l nn18 + 4) ∧ (e' = 0 ∨ 400 < e')) ∨ ∃ k : Nat, e' = k + 4 ∧ e' ≤ 400 ∧ Lib.index l nn18 = k ∧ k + 4 ≤ n) := by
        rcases HD.out with ⟨h0, h1⟩ | ⟨k, h0, h1, h2⟩
        · exact .inl ⟨by omega, .inl h0⟩
        · by_cases h4 : e' ≤ 400
          · exact .inr ⟨k, h0, h4, h1, h2⟩
          · exact .inl ⟨by omega, .inr (by omega)⟩
      have z0 : w4.cell? ⟨g, 0, none⟩ = some (.int .i64 c) := H4.out.2.cell 0
      have z1 : w4.cell? ⟨g, 1, none⟩ = some (.string N) := H4.out.2.cell 1
      have z2 : w4.cell? ⟨g, 2, none⟩ = some (.int .i64 ev) := H4.out.2.cell 2
      clear HX h
      rcases Nat.lt_or_ge n (i + 4) with c1 | c1
      · have c1' : ¬ (i : Int) + 4 ≤ (n : Int) := by omega
        go_upto_region 10 with (fail)
        rcases HDD.out with ⟨hz, hv⟩ | ⟨k, hk, hk4, hix, hkn⟩
        · have hrd := HRD.out
          rw [read_none hz, HLen.out] at hrd
          simp only [Prod.mk.injEq, zero18, R18.mk.injEq] at hrd
          obtain ⟨⟨rfl, rfl, rfl⟩, rfl, he⟩ := hrd
          obtain rfl : N = ⟨#[]⟩ := HN.out.symm
          clear hz HD HDD HF
          by_cases h4 : n < 400
          · rw [if_pos h4] at he
            subst he
            have h4' : (n : Int) < 400 := by omega
            rcases hv with rfl | hv
            · go_wp2
              go_ret
              exact ⟨ret_boolE (by first | rfl | simp), H4.out.1⟩
            · have hv1 : (400 : Int) < (e' : Int) := by omega
              have hv2 : ((e' : Int) == 0) = false := by
                have : ¬ (e' : Int) = 0 := by omega
                simpa using this
              go_wp2
              go_ret
              exact ⟨ret_boolE (by first | rfl | simp), H4.out.1⟩
          · rw [if_neg h4] at he
            subst he
            have h4' : ¬ (n : Int) < 400 := by omega
            rcases hv with rfl | hv
            · go_wp2
              go_ret
              exact ⟨ret_boolE (by first | rfl | simp), H4.out.1⟩
            · have hv1 : (400 : Int) < (e' : Int) := by omega
              have hv2 : ((e' : Int) == 0) = false := by
                have : ¬ (e' : Int) = 0 := by omega
                simpa using this
              go_wp2
              go_ret
              exact ⟨ret_boolE (by first | rfl | simp), H4.out.1⟩
        · have hv1 : ¬ (400 : Int) < (e' : Int) := by omega
          have hv2 : ((e' : Int) == 0) = false := by
            have : ¬ (e' : Int) = 0 := by omega
            simpa using this
          obtain ⟨ab, ao, rfl, _⟩ := H.out.addr (by omega)
          have HTK := Lib.hid (H.out.take e' (by omega))
          have q2 : (0 : Int) ≤ (e' : Int) := by omega
          have q3 : (e' : Int) ≤ (cap : Int) := by omega
          obtain ⟨T, hTT⟩ : ∃ T, ba (l.take e') = T := ⟨_, rfl⟩
          have hTL : T.data.toList = l.take e' := by rw [← hTT]; rfl
          have hcv : ∀ W, Below w.heap.size w W → (convert 24 9 (.slice (some ⟨ab, ao, none⟩) e' cap)).run Tryd.prog W = .ok (.string T) W := fun W hW => by
            rw [← hTT]
            exact HTK.out.conv W hW
          clear hTT
          rcases read_some hix (by omega) with ⟨r, h1, h2, h3⟩ | ⟨h1, h2⟩
          · have hrd := HRD.out
            rw [h1] at hrd
            simp only [Prod.mk.injEq] at hrd
            obtain ⟨rfl, rfl, rfl⟩ := hrd
            rw [← hk, ← hTL] at h3
            have hcb := code_bd h2
            have hev := right_iff.1 h2
            dsimp only at hcb hev
            have hnl := name_len h2
            dsimp only at hnl
            have hNs : N.size ≤ 1000 := by rw [← HN.out, ba_size]; omega
            have hNl : N.data.toList = nm := by rw [← HN.out]; rfl
            have cR : ∀ d os, Calls Tryd.prog 9 #[.agg #[.int .i64 c, .string N, .int .i64 ev]] (Go.Sort.grow (redrawn w4 d) os) fun e w'' => e = .returned (.bool true) ∧ ∃ p : Regrown, w'' = Go.Sort.grow (redrawn w4 p.d) p.os := by
              intro d os
              have := lawRight_any c ev N (Go.Sort.grow (redrawn w4 d) os) hNs
              rw [hNl, h2] at this
              exact Calls.regrown_of this
            have cX : ∀ d os, Calls Tryd.prog 10 #[.agg #[.int .i64 c, .string N, .int .i64 ev]] (Go.Sort.grow (redrawn w4 d) os) fun e w'' => e = .returned (.string T) ∧ ∃ p : Regrown, w'' = Go.Sort.grow (redrawn w4 p.d) p.os := by
              intro d os
              have := lawText_any c ev N (Go.Sort.grow (redrawn w4 d) os) hNs (by omega) (by omega) (by omega) (by omega) (hT.below (H4.out.1.trans ((below_regrown w4 d os).mono H4.out.1.size))).pow
              rw [hNl, h3, ba_list] at this
              exact Calls.regrown_of this
            have hcd : ∀ d os, (convert 24 9 (.slice (some ⟨ab, ao, none⟩) e' cap)).run Tryd.prog (Go.Sort.grow (redrawn w4 d) os) = .ok (.string T) (Go.Sort.grow (redrawn w4 d) os) := fun d os => hcv _ (H4.out.1.trans ((below_regrown w4 d os).mono H4.out.1.size))
            have k0 := cell_regrown z0
            have k1 := cell_regrown z1
            have k2 := cell_regrown z2
            have hk' : ((k : Int) + 4 == (e' : Int)) = true := by simp [hk]
            have HK := Lib.hid hk
            clear hk hix h3 h2 hev hcb
            go_upto_region 16 with (fail)
            refine wp_region_quiet_below (by first | assumption | kernel_rfl) (by kernel_rfl) ?_
            repeat (quiet_step (first | exact cR _ _ | exact cX _ _))
            refine wpQuiet_nil ?_
            intro _ hw'
            obtain ⟨⟨dq, osq⟩, hw''⟩ := hw'
            subst hw''
            go_wp2
            go_ret
            exact ⟨ret_boolE (by first | rfl | simp), H4.out.1.trans ((below_regrown w4 dq osq).mono H4.out.1.size)⟩
          · have hrd := HRD.out
            rw [h1] at hrd
            simp only [Prod.mk.injEq, zero18, R18.mk.injEq] at hrd
            obtain ⟨⟨rfl, rfl, rfl⟩, rfl, rfl⟩ := hrd
            obtain rfl : N = ⟨#[]⟩ := HN.out.symm
            have CS : ∀ W, Below w.heap.size w W → Calls Tryd.prog 12 #[.string T] W fun e w' => e = .returned (.bool false) ∧ Below W.heap.size W w' := fun W hW => lawSome_none T W (by rw [← len_list, hTL, List.length_take]; omega) (hT.below hW).pow (fun r hr => by rw [hTL, hk]; exact h2 r hr)
            have hcw := hcv w4 H4.out.1
            clear hk hix h2 hcv
            go_wp2_with (go_at_call 12; refine (CS _ H4.out.1).mono ?_; rintro e w6 ⟨rfl, b6⟩)
            go_ret
            exact ⟨ret_boolE (by first | rfl | simp), chain H4.out.1 b6⟩
      · have c1' : (i : Int) + 4 ≤ (n : Int) := by omega
        have c2' : ¬ (e' : Int) = 0 := by omega
        have c3' : ((e' : Int) == 0) = false := by simpa using c2'
        go_upto_region 10 with (fail)
        rcases HDD.out with ⟨hz, hv⟩ | ⟨k, hk, hk4, hix, hkn⟩
        · have hrd := HRD.out
          rw [read_none hz, HLen.out] at hrd
          simp only [Prod.mk.injEq, zero18, R18.mk.injEq] at hrd
          obtain ⟨⟨rfl, rfl, rfl⟩, rfl, he⟩ := hrd
          obtain rfl : N = ⟨#[]⟩ := HN.out.symm
          clear hz HD HDD HF
          by_cases h4 : n < 400
          · rw [if_pos h4] at he
            subst he
            have h4' : (n : Int) < 400 := by omega
            rcases hv with rfl | hv
            · exact absurd rfl c2'
            · have hv1 : (400 : Int) < (e' : Int) := by omega
              have hv2 : ((e' : Int) == 0) = false := by
                have : ¬ (e' : Int) = 0 := by omega
                simpa using this
              go_wp2
              go_ret
              exact ⟨ret_boolE (by first | rfl | simp), H4.out.1⟩
          · rw [if_neg h4] at he
            subst he
            have h4' : ¬ (n : Int) < 400 := by omega
            rcases hv with rfl | hv
            · exact absurd rfl c2'
            · have hv1 : (400 : Int) < (e' : Int) := by omega
              have hv2 : ((e' : Int) == 0) = false := by
                have : ¬ (e' : Int) = 0 := by omega
                simpa using this
              go_wp2
              go_ret
              exact ⟨ret_boolE (by first | rfl | simp), H4.out.1⟩
        · have hv1 : ¬ (400 : Int) < (e' : Int) := by omega
          have hv2 : ((e' : Int) == 0) = false := by
            have : ¬ (e' : Int) = 0 := by omega
            simpa using this
          obtain ⟨ab, ao, rfl, _⟩ := H.out.addr (by omega)
          have HTK := Lib.hid (H.out.take e' (by omega))
          have q2 : (0 : Int) ≤ (e' : Int) := by omega
          have q3 : (e' : Int) ≤ (cap : Int) := by omega
          obtain ⟨T, hTT⟩ : ∃ T, ba (l.take e') = T := ⟨_, rfl⟩
          have hTL : T.data.toList = l.take e' := by rw [← hTT]; rfl
          have hcv : ∀ W, Below w.heap.size w W → (convert 24 9 (.slice (some ⟨ab, ao, none⟩) e' cap)).run Tryd.prog W = .ok (.string T) W := fun W hW => by
            rw [← hTT]
            exact HTK.out.conv W hW
          clear hTT
          rcases read_some hix (by omega) with ⟨r, h1, h2, h3⟩ | ⟨h1, h2⟩
          · have hrd := HRD.out
            rw [h1] at hrd
            simp only [Prod.mk.injEq] at hrd
            obtain ⟨rfl, rfl, rfl⟩ := hrd
            rw [← hk, ← hTL] at h3
            have hcb := code_bd h2
            have hev := right_iff.1 h2
            dsimp only at hcb hev
            have hnl := name_len h2
            dsimp only at hnl
            have hNs : N.size ≤ 1000 := by rw [← HN.out, ba_size]; omega
            have hNl : N.data.toList = nm := by rw [← HN.out]; rfl
            have cR : ∀ d os, Calls Tryd.prog 9 #[.agg #[.int .i64 c, .string N, .int .i64 ev]] (Go.Sort.grow (redrawn w4 d) os) fun e w'' => e = .returned (.bool true) ∧ ∃ p : Regrown, w'' = Go.Sort.grow (redrawn w4 p.d) p.os := by
              intro d os
              have := lawRight_any c ev N (Go.Sort.grow (redrawn w4 d) os) hNs
              rw [hNl, h2] at this
              exact Calls.regrown_of this
            have cX : ∀ d os, Calls Tryd.prog 10 #[.agg #[.int .i64 c, .string N, .int .i64 ev]] (Go.Sort.grow (redrawn w4 d) os) fun e w'' => e = .returned (.string T) ∧ ∃ p : Regrown, w'' = Go.Sort.grow (redrawn w4 p.d) p.os := by
              intro d os
              have := lawText_any c ev N (Go.Sort.grow (redrawn w4 d) os) hNs (by omega) (by omega) (by omega) (by omega) (hT.below (H4.out.1.trans ((below_regrown w4 d os).mono H4.out.1.size))).pow
              rw [hNl, h3, ba_list] at this
              exact Calls.regrown_of this
            have hcd : ∀ d os, (convert 24 9 (.slice (some ⟨ab, ao, none⟩) e' cap)).run Tryd.prog (Go.Sort.grow (redrawn w4 d) os) = .ok (.string T) (Go.Sort.grow (redrawn w4 d) os) := fun d os => hcv _ (H4.out.1.trans ((below_regrown w4 d os).mono H4.out.1.size))
            have k0 := cell_regrown z0
            have k1 := cell_regrown z1
            have k2 := cell_regrown z2
            have hk' : ((k : Int) + 4 == (e' : Int)) = true := by simp [hk]
            have HK := Lib.hid hk
            clear hk hix h3 h2 hev hcb
            go_upto_region 16 with (fail)
            refine wp_region_quiet_below (by first | assumption | kernel_rfl) (by kernel_rfl) ?_
            repeat (quiet_step (first | exact cR _ _ | exact cX _ _))
            refine wpQuiet_nil ?_
            intro _ hw'
            obtain ⟨⟨dq, osq⟩, hw''⟩ := hw'
            subst hw''
            go_wp2
            go_ret
            exact ⟨ret_boolE (by first | rfl | simp), H4.out.1.trans ((below_regrown w4 dq osq).mono H4.out.1.size)⟩
          · have hrd := HRD.out
            rw [h1] at hrd
            simp only [Prod.mk.injEq, zero18, R18.mk.injEq] at hrd
            obtain ⟨⟨rfl, rfl, rfl⟩, rfl, rfl⟩ := hrd
            obtain rfl : N = ⟨#[]⟩ := HN.out.symm
            have CS : ∀ W, Below w.heap.size w W → Calls Tryd.prog 12 #[.string T] W fun e w' => e = .returned (.bool false) ∧ Below W.heap.size W w' := fun W hW => lawSome_none T W (by rw [← len_list, hTL, List.length_take]; omega) (hT.below hW).pow (fun r hr => by rw [hTL, hk]; exact h2 r hr)
            have hcw := hcv w4 H4.out.1
            clear hk hix h2 hcv
            go_wp2_with (go_at_call 12; refine (CS _ H4.out.1).mono ?_; rintro e w6 ⟨rfl, b6⟩)
            go_ret
            exact ⟨ret_boolE (by first | rfl | simp), chain H4.out.1 b6⟩
end Go.Proofs.YtjhihjkhbmbigaaDoor
