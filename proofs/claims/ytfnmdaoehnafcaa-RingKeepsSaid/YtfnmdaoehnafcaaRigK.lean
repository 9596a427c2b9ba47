/- The walk of RingKeeps. -/
import Derived.Test.YtfnmdaoehnafcaaRigN
import Derived.Deep.CutBlock
import Derived.Deep.DeepCutAuto
namespace Go.Proofs.Ytfnmdaoehnafcaa
open Go.RowKit
set_option linter.unusedVariables false
set_option linter.unusedSimpArgs false

set_option maxRecDepth 100000 in
set_option maxHeartbeats 2000000 in
/-- Too many packets. -/
theorem ringKeeps_out (n : Int) (a : Option Addr) (len cap : Nat) (i : Int) (w : World) (h : 60 < len) :
    Calls Try.prog 3 #[.int .i64 n, .slice a len cap, .int .i64 i] w fun e w' => e = .returned (.bool true) ∧ Below w.heap.size w w' := by
  have HB := Lib.hid (Below.refl w.heap.size w)
  have q : decide (60 < len) = true := by simpa using h
  go_enter Try.func3, Try.ntmps3
  go_wp2_with (go_at_call 5; refine (lives21_any _).mono ?_; rintro e w2 ⟨rfl, hb⟩; replace HB := Lib.hid (chain HB.out hb); clear hb)
  go_ret
  exact ⟨rfl, HB.out⟩
/-- The ring's size. -/
theorem size21 (n : Int) : ∃ y s : Nat, 1 ≤ s ∧ s ≤ 12 ∧ (IntKind.u64.wrap n).tmod 12 = (y : Int) ∧ wrap64 (y : Int) = (y : Int) ∧ wrap64 (1 + (y : Int)) = (s : Int) := by
  have h0 : 0 ≤ IntKind.u64.wrap n := by
    show 0 ≤ n % 18446744073709551616
    omega
  have e : (IntKind.u64.wrap n).tmod 12 = (IntKind.u64.wrap n) % 12 := Int.tmod_eq_emod_of_nonneg h0
  refine ⟨((IntKind.u64.wrap n) % 12).toNat, ((IntKind.u64.wrap n) % 12).toNat + 1, by omega, by omega, by omega, IntWalk.wrap64_in _ (by omega), ?_⟩
  have := IntWalk.wrap64_in (1 + (((IntKind.u64.wrap n) % 12).toNat : Int)) (by omega)
  refine Eq.trans this (by omega)
set_option maxRecDepth 100000 in
set_option maxHeartbeats 4000000 in
theorem ringKeeps_in (n : Int) (a : Option Addr) (len cap : Nat) (X : Nat → PkX) (i : Int) (w : World) (h : PksIn w a len X) (h60 : len ≤ 60) :
    Calls Try.prog 3 #[.int .i64 n, .slice a len cap, .int .i64 i] w fun e w' => e = .returned (.bool true) ∧ Below w.heap.size w w' := by
  have HX := Lib.hid h
  have q : decide (60 < len) = false := by simp; omega
  obtain ⟨y, s, s1, s2, hy, hy2, hs⟩ := size21 n
  have HNw := Lib.hid (fun W => rgNew_any s W s1 (by omega))
  clear h
  go_enter Try.func3, Try.ntmps3
  go_wp2_with (first
    | (go_at_call 5; refine (lives21_any _).mono ?_; rintro e w2 ⟨rfl, hb⟩; have H1 := Lib.hid hb; clear hb)
    | (go_at_call 6; refine (HNw.out _).mono ?_; rintro e w3 ⟨g, rfl, hg, hr, hb⟩; have H2 : RowKit.Hid (RSt w g s (pfx X 0) w3) := RSt.of (H1.out.trans (hb.mono H1.out.size)) hr (Nat.le_trans H1.out.size hg); clear hg hr hb H1)
    | fail)
  go_loopw [54] (fun k wr => ∃ j : Nat, j ≤ len ∧ k = .int .i64 j ∧ RowKit.Hid (RSt w g s (pfx X j) wr ∧ ∀ t, t < j → (X t).1.pl.length ≤ 100)) (fun k _ => len - (intOf k).toNat)
  case atStart => exact ⟨0, by omega, rfl, H2.out, fun t ht => by omega⟩
  case round =>
    obtain ⟨j, hj, rfl, H⟩ := hrel
    clear H2 HNw hy hy2 hs
    by_cases hlt : j < len
    · obtain ⟨b, off, rfl, hbl, hin⟩ : ∃ b off, a = some ⟨b, off, none⟩ ∧ b < w.heap.size ∧ ∀ i, i < len → PkIn w b (off + i * 4) (X i) := by
        rcases HX.out.2 with h0 | h0
        · omega
        · exact h0
      have HI := Lib.hid hin
      have hin2 := (hin j hlt)
      have HIj := Lib.hid hin2
      have c0 := (H.out.1.b.cell (p := ⟨b, off + j * 4, none⟩) hbl).trans hin2.c0
      have c1 := (H.out.1.b.cell (p := ⟨b, off + j * 4 + 1, none⟩) hbl).trans hin2.c1
      have c2 := (H.out.1.b.cell (p := ⟨b, off + j * 4 + 2, none⟩) hbl).trans hin2.c2
      have c3 := (H.out.1.b.cell (p := ⟨b, off + j * 4 + 3, none⟩) hbl).trans hin2.c3
      clear hin hin2
      obtain ⟨p, hp⟩ : ∃ p, (X j).1 = p := ⟨_, rfl⟩
      obtain ⟨pa, hpa⟩ : ∃ pa, (X j).2.1 = pa := ⟨_, rfl⟩
      obtain ⟨pc, hpc⟩ : ∃ pc, (X j).2.2 = pc := ⟨_, rfl⟩
      have HPi : RowKit.Hid (IntsAt w w.heap.size .u8 pa p.pl.length p.pl ∧ (pa = none → pc = 0)) := by
        rw [← hp, ← hpa, ← hpc]; exact ⟨HIj.out.i, HIj.out.n⟩
      have HPx : RowKit.Hid (pfx X (j + 1) = pfx X j ++ [p]) := by rw [← hp]; exact pfx_succ X j
      have HPp := Lib.hid hp
      rw [hp, hpa, hpc] at c3
      rw [hp] at c0 c1 c2
      obtain ⟨m, hm⟩ : ∃ m, p.pl.length = m := ⟨_, rfl⟩
      have HM := Lib.hid hm
      rw [hm] at c3 HPi
      clear hp hpa hpc HIj hm
      by_cases hbig : 100 < m
      · have q1 : decide ((100 : Int) < (m : Int)) = true := by simp; omega
        have HBq := Lib.hid (H.out.1.b.alloc H.out.1.b.size (.cells #[.int .u32 p.ep, .int .u32 p.nu, .bool p.wh, .slice pa m pc] 32))
        go_wp2
        go_ret
        exact ⟨rfl, HBq.out⟩
      · have q1 : decide ((100 : Int) < (m : Int)) = false := by simp; omega
        have HgL : RowKit.Hid (g < wr.heap.size) := H.out.1.r.lt
        have hb3 : Below wr.heap.size wr (((wr.alloc (.cells #[.int .u32 p.ep, .int .u32 p.nu, .bool p.wh, .slice pa m pc] 32)).alloc (.cells #[.int .u32 p.ep, .int .u32 p.nu, .bool p.wh, .slice pa m pc] 32)).alloc (.cells #[] 5)) := (((Below.refl _ wr).alloc (Nat.le_refl _) _).alloc (by simp) _).alloc (by simp; omega) _
        have hc3 := ((Cel.new (wr.alloc (.cells #[.int .u32 p.ep, .int .u32 p.nu, .bool p.wh, .slice pa m pc] 32)) 32 #[.int .u32 p.ep, .int .u32 p.nu, .bool p.wh, .slice pa m pc]).alloc (.cells #[] 5))
        have hx3 := World.ownsRow_lit (base := wr.heap.size + 2) (e := 5) (size := 1) ((wr.alloc (.cells #[.int .u32 p.ep, .int .u32 p.nu, .bool p.wh, .slice pa m pc] 32)).alloc (.cells #[.int .u32 p.ep, .int .u32 p.nu, .bool p.wh, .slice pa m pc] 32)) #[] 0 (by simp) (by decide) rfl
        obtain ⟨W3, hW3⟩ : ∃ W3, (((wr.alloc (.cells #[.int .u32 p.ep, .int .u32 p.nu, .bool p.wh, .slice pa m pc] 32)).alloc (.cells #[.int .u32 p.ep, .int .u32 p.nu, .bool p.wh, .slice pa m pc] 32)).alloc (.cells #[] 5)) = W3 := ⟨_, rfl⟩
        rw [hW3] at hb3 hc3 hx3
        rw [World.size_alloc] at hc3
        rw [World.size_alloc, World.size_alloc] at hx3
        have HW3 := Lib.hid hW3
        have HB3 := Lib.hid hb3
        have HC3 := Lib.hid hc3
        have HX3 : RowKit.Hid (W3.ownsRow (wr.heap.size + 2) 5 1 (.slice (some ⟨wr.heap.size + 1 + 1, 0, none⟩) 0 0) 0 (([] : List Int).map (Value.int .u8))) := hx3
        have hs3 : W3.heap.size = wr.heap.size + 3 := by rw [← hW3]; simp
        have HS3 := Lib.hid hs3
        have HZ : RowKit.Hid ((Try.prog.info? 5).map (fun i => (i.zero, i.size, i.bytes)) = some (some (.int .u8 0), 1, 1)) := Lib.hid (by kernel_rfl)
        clear hW3 hb3 hc3 hx3 hs3
        go_wp2_with (first
          | (at_builtin; rw [HW3.out]; go_loud (refine append_ints rfl _ _ 30 rfl (wr.heap.size + 2) 5 .u8 1 Try.underlying30 HZ.out (.slice (some ⟨wr.heap.size + 1 + 1, 0, none⟩) 0 0) 0 [] rfl HX3.out pa m pc w.heap.size p.pl rfl (HPi.out.1.below (H.out.1.b.trans (HB3.out.mono H.out.1.b.size))) HPi.out.2 (by unfold maxLen; omega) (by omega) (by rw [HS3.out]; omega) ?_); intro v4 w4 ho hg4 hv4; replace ho := own_len21 ho; rw [List.nil_append] at ho; obtain ⟨a4, m4, c4, rfl, hm4⟩ := own_form_m ho; rw [HM.out] at hm4; subst hm4; rw [HM.out] at ho; have HO := Lib.hid ho; have HB4 := Lib.hid ((Below.refl (wr.heap.size + 2) W3).grown hg4 (by rw [HS3.out]; omega) (fun j e => own_base HX3.out j e)); have HD4 := Lib.hid (HC3.out.keep (HB4.out.block _ (by omega))); obtain ⟨z0, z1, z2, z3⟩ := cel4 HD4.out; obtain ⟨y0, y1, y2, y3⟩ := frz4 HD4.out; clear ho hg4 hv4)
          | (go_at_call 7; go_loud (refine (RSt.pushM H.out.1 HM.out (B := wr.heap.size + 2) (go := wr.heap.size + 1) (by omega) ((HB3.out.trans (HB4.out.mono (by omega))).setCell (p := ⟨wr.heap.size + 1, 3, none⟩) (by simp) _) (own_far HO.out (fun k hk => (by have := own_base HO.out k hk; simp; omega)) _) (HD4.out.set_ 3 (.slice a4 m4 c4)) (by have := HgL.out; omega) (by omega) (by rw [pfx_len]; omega)).mono ?_); rintro e w6 ⟨he, hx⟩; rw [pfx_len] at he; subst he; rw [← HPx.out] at hx; have H6 := Lib.hid hx; have k3 := hx.c3; clear hx)
          | fail)
        have HLs : RowKit.Hid (∀ t, t < j + 1 → (X t).1.pl.length ≤ 100) := by
          refine Lib.hid fun t ht => ?_
          by_cases h1 : t < j
          · exact H.out.2 t h1
          · obtain rfl : t = j := by omega
            rw [HPp.out, HM.out]
            omega
        clear c0 c1 c2 c3 z0 z1 z2 z3 y0 y1 y2 y3 HD4 HB4 HO HC3 HW3 HZ HS3 HX3 HB3 HPi HPp HPx HM H HgL
        generalize wr.heap.size = zB at H6 k3 ⊢
        go_loopw [77] (fun t wx => ∃ k : Nat, k ≤ m4 ∧ t = .int .i64 k ∧ RowKit.Hid (XSt w g s (pfx X (j + 1)) (zB + 1) p a4 m4 c4 wx)) (fun t _ => m4 - (intOf t).toNat)
        case atStart => exact ⟨0, by omega, rfl, H6.out⟩
        case round =>
          obtain ⟨k, hk, rfl, HX6⟩ := hrel
          clear H6 k3
          by_cases hkl : k < m4
          · obtain ⟨r, x, rfl, d3, dx, df⟩ := HX6.out.cells hkl
            have HN : RowKit.Hid (∀ x : Int, XSt w g s (pfx X (j + 1)) (zB + 1) p (some ⟨r, 0, none⟩) m4 c4 (wr.setCell ⟨r, k, none⟩ (.int .u8 x))) := fun x => HX6.out.spoil x
            clear HX6
            go_wp2
            go_roundw
            case rel => exact ⟨k + 1, by omega, by go_num, HN.out _⟩
            case measure => simp [intOf]; omega
          · obtain rfl : k = m4 := by omega
            have HR := Lib.hid HX6.out.st
            clear HX6
            obtain ⟨f, hf⟩ : ∃ f, firstP s (j + 1) = f := ⟨_, rfl⟩
            have HF := Lib.hid hf
            clear hf
            have e1 : IntKind.i64.wrap ((j : Int) + 1) = (j : Int) + 1 := IntWalk.i64_in _ (by omega)
            have e2 : IntKind.i64.wrap ((j : Int) + 1 - (s : Int)) = (j : Int) + 1 - (s : Int) := IntWalk.i64_in _ (by omega)
            go_upto_region 21 with fail
            go_cut [14] (fun v wx => v = .int .i64 f ∧ wr = wx)
            case first =>
              go_wp2
              all_goals
                go_meet
                exact ⟨congrArg (Value.int .i64) (by rw [← HF.out]; unfold firstP; omega), rfl⟩
            case rest =>
              obtain ⟨rfl, rfl⟩ := hcut
              have HFl : RowKit.Hid (f ≤ j + 1 ∧ j + 1 ≤ f + s) := by rw [← HF.out]; unfold firstP; exact ⟨by omega, by omega⟩
              go_wp2
              go_loopw [15, 16] (fun jn k wx => ∃ t : Nat, f ≤ t ∧ t ≤ j + 1 ∧ k = .int .i64 t ∧ jn = .int .i64 (lastW (pfx X (j + 1)) f t) ∧ RowKit.Hid (RSt w g s (pfx X (j + 1)) wx)) (fun _ k _ => j + 1 - (intOf k).toNat)
              case atStart => exact ⟨f, Nat.le_refl _, HFl.out.1, rfl, by rw [lastW_none (Nat.le_refl _)], HR.out⟩
              case round =>
                obtain ⟨t, ht, htj, rfl, rfl, H7⟩ := hrel
                clear HR
                obtain ⟨J, hJ⟩ : ∃ J, lastW (pfx X (j + 1)) f t = J := ⟨_, rfl⟩
                have HJ := Lib.hid hJ
                rw [hJ]
                clear hJ
                by_cases htl : t < j + 1
                · have hin2 := HI.out t (by omega)
                  obtain ⟨p2, hp2⟩ : ∃ p2, (X t).1 = p2 := ⟨_, rfl⟩
                  obtain ⟨pa2, hpa2⟩ : ∃ pa2, (X t).2.1 = pa2 := ⟨_, rfl⟩
                  obtain ⟨pc2, hpc2⟩ : ∃ pc2, (X t).2.2 = pc2 := ⟨_, rfl⟩
                  obtain ⟨m2, hm2⟩ : ∃ m2, p2.pl.length = m2 := ⟨_, rfl⟩
                  have HM2 := Lib.hid hm2
                  have HPg : RowKit.Hid ((pfx X (j + 1))[t]? = some p2) := by rw [← hp2]; exact pfx_get X htl
                  have HL2 : RowKit.Hid (m2 ≤ 100) := by rw [← hm2, ← hp2]; exact HLs.out t htl
                  have HC2 : RowKit.Hid (∀ W, Below w.heap.size w W → W.cell? ⟨b, off + t * 4, none⟩ = some (.int .u32 p2.ep) ∧ W.cell? ⟨b, off + t * 4 + 1, none⟩ = some (.int .u32 p2.nu) ∧ W.cell? ⟨b, off + t * 4 + 2, none⟩ = some (.bool p2.wh) ∧ W.cell? ⟨b, off + t * 4 + 3, none⟩ = some (.slice pa2 m2 pc2) ∧ IntsAt W W.heap.size .u8 pa2 m2 p2.pl) := by
                    refine Lib.hid fun W hb => ?_
                    have h2 := hin2.below hb
                    have h3 := h2.c3
                    have h4 := h2.i
                    rw [hp2, hpa2, hpc2, hm2] at h3
                    rw [hp2, hpa2, hm2] at h4
                    exact ⟨by rw [h2.c0, hp2], by rw [h2.c1, hp2], by rw [h2.c2, hp2], h3, h4⟩
                  clear hin2 hp2 hpa2 hpc2 hm2
                  have htj' : t ≤ j := by omega
                  go_wp2_with (go_at_call 8; go_loud (refine (H7.out.yesM HM2.out (by rw [pfx_len]; omega) HPg.out HL2.out (by rw [pfx_len]; have := HFl.out.2; omega)).mono ?_); rintro e w7 ⟨a7, c7, rfl, hi7, hb7, hx7⟩; obtain ⟨W8, hW8⟩ : ∃ W8, w7.alloc (.cells #[.int .u32 p2.ep, .int .u32 p2.nu, .bool p2.wh, .slice a7 m2 c7] 32) = W8 := ⟨_, rfl⟩; have HW8 := Lib.hid hW8; rw [hW8] at hx7; have HI7 : RowKit.Hid (IntsAt W8 W8.heap.size .u8 a7 m2 p2.pl) := (by rw [← hW8]; exact hi7.now (Below.alloc_new _ _) (Nat.le_refl _)); have HX7 := Lib.hid hx7; clear hi7 hb7 hx7 hW8 H7)
                  rw [HW8.out]
                  clear HW8
                  obtain ⟨q8, hq8⟩ : ∃ q8, w7.heap.size = q8 := ⟨_, rfl⟩
                  rw [hq8] at HX7 ⊢
                  obtain ⟨z0, z1, z2, z3⟩ := HX7.out.cs
                  obtain ⟨l0, l1, l2, l3, li⟩ := HC2.out W8 HX7.out.b
                  have r0 := cell_regrown z0
                  have r1 := cell_regrown z1
                  have r2 := cell_regrown z2
                  have r3 := cell_regrown z3
                  have n0 := cell_regrown l0
                  have n1 := cell_regrown l1
                  have n2 := cell_regrown l2
                  have n3 := cell_regrown l3
                  have cS := Lib.hid (fun d os => same_regrown (c1 := c7) (c2 := pc2) HM2.out HI7.out li d os)
                  clear hq8 li z0 z1 z2 z3 l0 l1 l2 l3 HI7
                  have qt : t < len := by omega
                  have qi : (t : Int) < (len : Int) := by omega
                  refine wp_region_quiet_below rfl (by kernel_rfl) ?_
                  repeat (quiet_step (exact cS.out _ _))
                  refine wpQuiet_nil ?_
                  intro _ hw'
                  obtain ⟨⟨dq, osq⟩, hw''⟩ := hw'
                  subst hw''
                  have hx9 := HX7.out.below (below_regrown W8 dq osq)
                  obtain ⟨W9, hW9⟩ : ∃ W9, Go.Sort.grow (redrawn W8 dq) osq = W9 := ⟨_, rfl⟩
                  rw [hW9] at hx9 ⊢
                  have HX9 := Lib.hid hx9
                  have k9 := hx9.c3
                  clear hx9 hW9 HX7 cS r0 r1 r2 r3 n0 n1 n2 n3
                  have hm100 : m2 ≤ 100 := HL2.out
                  go_wp2
                  go_loopw [119] (fun v wx => ∃ k : Nat, k ≤ m2 ∧ v = .int .i64 k ∧ RowKit.Hid (XSt w g s (pfx X (j + 1)) q8 p2 a7 m2 c7 wx)) (fun v _ => m2 - (intOf v).toNat)
                  case atStart => exact ⟨0, by omega, rfl, HX9.out⟩
                  case round =>
                    obtain ⟨k2, hk2, rfl, HX10⟩ := hrel
                    clear HX9 k9
                    by_cases hkl2 : k2 < m2
                    · obtain ⟨r, x, rfl, d3, dx, df⟩ := HX10.out.cells hkl2
                      have HN : RowKit.Hid (∀ x : Int, XSt w g s (pfx X (j + 1)) q8 p2 (some ⟨r, 0, none⟩) m2 c7 (wr.setCell ⟨r, k2, none⟩ (.int .u8 x))) := fun x => HX10.out.spoil x
                      clear HX10
                      go_wp2
                      go_roundw
                      case rel => exact ⟨k2 + 1, by omega, by go_num, HN.out _⟩
                      case measure => simp [intOf]; omega
                    · obtain rfl : k2 = m2 := by omega
                      have H11 := Lib.hid HX10.out.st
                      clear HX10
                      obtain ⟨l0, l1, l2, l3, li⟩ := HC2.out wr H11.out.b
                      clear HC2 li l0 l1 l3
                      cases hw : p2.wh with
                      | true =>
                        rw [hw] at l2
                        have e3 := lastW_yes ht HPg.out hw
                        go_wp2
                        go_roundw
                        case rel => exact ⟨t + 1, by omega, by omega, by go_num, by rw [e3], H11.out⟩
                        case measure => simp [intOf]; omega
                      | false =>
                        rw [hw] at l2
                        have e3 := (lastW_no (f := f) HPg.out hw).trans HJ.out
                        go_wp2
                        go_roundw
                        case rel => exact ⟨t + 1, by omega, by omega, by go_num, by rw [e3], H11.out⟩
                        case measure => simp [intOf]; omega
                · obtain rfl : t = j + 1 := by omega
                  obtain ⟨P, hP⟩ : ∃ P, pfx X (j + 1) = P := ⟨_, rfl⟩
                  have hPl : P.length = j + 1 := by rw [← hP]; exact pfx_len X (j + 1)
                  have HPl := Lib.hid hPl
                  have CE : RowKit.Hid (∀ W, RSt w g s P W → Calls Try.prog 10 #[.pointer (some ⟨g, 0, none⟩)] W fun e w' => e = .returned (.tuple #[.int .i64 f, .int .i64 ((j : Int) + 1)]) ∧ RSt w g s P w') := by
                    refine Lib.hid fun W h => ?_
                    have := h.ends (by omega)
                    rw [hPl, HF.out] at this
                    exact this
                  have CJ : RowKit.Hid (∀ W, RSt w g s P W → Calls Try.prog 11 #[.pointer (some ⟨g, 0, none⟩)] W fun e w' => e = .returned (.tuple #[.int .i64 (joinV J), .bool (decide (0 ≤ J))]) ∧ RSt w g s P w') := by
                    refine Lib.hid fun W h => ?_
                    have := h.join (by omega)
                    have hj2 := HJ.out
                    rw [hP] at hj2
                    rw [hPl, HF.out, hj2] at this
                    exact this
                  have CN : RowKit.Hid (∀ W i, RSt w g s P W → i < (f : Int) ∨ (j : Int) + 1 ≤ i → Calls Try.prog 8 #[.pointer (some ⟨g, 0, none⟩), .int .i64 i] W fun e w' => e = .returned (.tuple #[.agg #[.int .u32 0, .int .u32 0, .bool false, .slice none 0 0], .bool false]) ∧ RSt w g s P w') := by
                    refine Lib.hid fun W i h hi => h.no (by omega) i ?_
                    rw [hPl, HF.out]
                    omega
                  have H7P : RowKit.Hid (RSt w g s P wr) := by rw [← hP]; exact H7.out
                  have HPs : RowKit.Hid (pfx X (j + 1) = P) := hP
                  clear H7 hP hPl HI
                  have f1 : IntKind.i64.wrap ((f : Int) - 1) = (f : Int) - 1 := IntWalk.i64_in _ (by omega)
                  by_cases hJ0 : 0 ≤ J
                  · have eJ : joinV J = J := by unfold joinV; rw [if_pos hJ0]
                    have dJ : decide (0 ≤ J) = true := by simpa using hJ0
                    rw [eJ, dJ] at CJ
                    clear eJ
                    go_wp2_with (first
                      | (go_at_call 10; refine (CE.out _ H7P.out).mono ?_; rintro e w12 ⟨rfl, h⟩; have H12 := Lib.hid h; clear h H7P)
                      | (go_at_call 11; refine (CJ.out _ H12.out).mono ?_; rintro e w13 ⟨rfl, h⟩; have H13 := Lib.hid h; clear h H12)
                      | (go_at_call 8; refine (CN.out _ _ H13.out (.inl (by omega))).mono ?_; rintro e w14 ⟨rfl, h⟩; have H14 := Lib.hid (h.below (Below.alloc_new w14 (.cells #[.int .u32 0, .int .u32 0, .bool false, .slice none 0 0] 32))); clear h H13)
                      | (go_at_call 8; refine (CN.out _ _ H14.out (.inr (by omega))).mono ?_; rintro e w15 ⟨rfl, h⟩; have H15 := Lib.hid (h.below (Below.alloc_new w15 (.cells #[.int .u32 0, .int .u32 0, .bool false, .slice none 0 0] 32))); clear h H14)
                      | fail)
                    go_roundw
                    case rel => exact ⟨j + 1, by omega, by go_num, by rw [HPs.out]; exact H15.out, HLs.out⟩
                    case measure => simp [intOf]; omega
                  · have eJ : joinV J = 0 := by unfold joinV; rw [if_neg hJ0]
                    have dJ : decide (0 ≤ J) = false := by simpa using hJ0
                    rw [eJ, dJ] at CJ
                    clear eJ
                    go_wp2_with (first
                      | (go_at_call 10; refine (CE.out _ H7P.out).mono ?_; rintro e w12 ⟨rfl, h⟩; have H12 := Lib.hid h; clear h H7P)
                      | (go_at_call 11; refine (CJ.out _ H12.out).mono ?_; rintro e w13 ⟨rfl, h⟩; have H13 := Lib.hid h; clear h H12)
                      | (go_at_call 8; refine (CN.out _ _ H13.out (.inl (by omega))).mono ?_; rintro e w14 ⟨rfl, h⟩; have H14 := Lib.hid (h.below (Below.alloc_new w14 (.cells #[.int .u32 0, .int .u32 0, .bool false, .slice none 0 0] 32))); clear h H13)
                      | (go_at_call 8; refine (CN.out _ _ H14.out (.inr (by omega))).mono ?_; rintro e w15 ⟨rfl, h⟩; have H15 := Lib.hid (h.below (Below.alloc_new w15 (.cells #[.int .u32 0, .int .u32 0, .bool false, .slice none 0 0] 32))); clear h H14)
                      | fail)
                    go_roundw
                    case rel => exact ⟨j + 1, by omega, by go_num, by rw [HPs.out]; exact H15.out, HLs.out⟩
                    case measure => simp [intOf]; omega
    · obtain rfl : j = len := by omega
      have H0 := Lib.hid H.out.1
      have HLs := Lib.hid H.out.2
      clear H
      obtain ⟨P, hP⟩ : ∃ P, pfx X j = P := ⟨_, rfl⟩
      have hPl : P.length = j := by rw [← hP]; exact pfx_len X j
      obtain ⟨f, hf⟩ : ∃ f, firstP s j = f := ⟨_, rfl⟩
      have hf2 : f ≤ j ∧ j ≤ f + s := by rw [← hf]; unfold firstP; exact ⟨by omega, by omega⟩
      have hG : RowKit.Hid (∀ t : Nat, t < j → P[t]? = some (X t).1 ∧ (X t).1.pl.length ≤ 100) := by
        refine Lib.hid fun t ht => ?_
        rw [← hP]
        exact ⟨pfx_get X ht, HLs.out t ht⟩
      rw [hP] at H0
      have CE : RowKit.Hid (∀ W, RSt w g s P W → Calls Try.prog 10 #[.pointer (some ⟨g, 0, none⟩)] W fun e w' => e = .returned (.tuple #[.int .i64 f, .int .i64 (j : Int)]) ∧ RSt w g s P w') := by
        refine Lib.hid fun W h => ?_
        have := h.ends (by omega)
        rw [hPl, hf] at this
        exact this
      by_cases h1 : (f : Int) ≤ i
      · by_cases h2 : i < (j : Int)
        · obtain ⟨t, rfl⟩ : ∃ t : Nat, i = (t : Int) := ⟨i.toNat, by omega⟩
          obtain ⟨g1, g2⟩ := hG.out t (by omega)
          have CY : RowKit.Hid (∀ W, RSt w g s P W → Calls Try.prog 8 #[.pointer (some ⟨g, 0, none⟩), .int .i64 (t : Int)] W fun e w' => ∃ a c m, e = .returned (.tuple #[.agg #[.int .u32 (X t).1.ep, .int .u32 (X t).1.nu, .bool (X t).1.wh, .slice a m c], .bool true]) ∧ RSt w g s P w') := by
            refine Lib.hid fun W h => (h.yes (by omega) g1 g2 (by omega)).mono ?_
            rintro e w' ⟨a, c, rfl, _, hb, _⟩
            exact ⟨a, c, _, rfl, h.below hb⟩
          have h1' : f ≤ t := by omega
          have h2' : t < j := by omega
          clear hG g1 g2 hP hPl hf HLs
          go_wp2_with (first
            | (go_at_call 8; refine (CY.out _ H0.out).mono ?_; rintro e w14 ⟨a14, c14, m14, rfl, h⟩; have H14 := Lib.hid (h.below (Below.alloc_new w14 (.cells #[.int .u32 (X t).1.ep, .int .u32 (X t).1.nu, .bool (X t).1.wh, .slice a14 m14 c14] 32))); clear h H0)
            | (go_at_call 10; refine (CE.out _ H14.out).mono ?_; rintro e w12 ⟨rfl, h⟩; have H12 := Lib.hid h.b; clear h H14)
            | fail)
          go_ret
          exact ⟨rfl, H12.out⟩
        · have CN : RowKit.Hid (∀ W, RSt w g s P W → Calls Try.prog 8 #[.pointer (some ⟨g, 0, none⟩), .int .i64 i] W fun e w' => e = .returned (.tuple #[.agg #[.int .u32 0, .int .u32 0, .bool false, .slice none 0 0], .bool false]) ∧ RSt w g s P w') := by
            refine Lib.hid fun W h => h.no (by omega) i ?_
            rw [hPl]
            omega
          have d1 : decide ((f : Int) ≤ i) = true := by simpa using h1
          have d2 : decide (i < (j : Int)) = false := by simpa using h2
          clear hG hP hPl hf HLs
          go_wp2_with (first
            | (go_at_call 8; refine (CN.out _ H0.out).mono ?_; rintro e w14 ⟨rfl, h⟩; have H14 := Lib.hid (h.below (Below.alloc_new w14 (.cells #[.int .u32 0, .int .u32 0, .bool false, .slice none 0 0] 32))); clear h H0)
            | (go_at_call 10; refine (CE.out _ H14.out).mono ?_; rintro e w12 ⟨rfl, h⟩; have H12 := Lib.hid h.b; clear h H14)
            | fail)
          go_ret
          exact ⟨rfl, H12.out⟩
      · have CN : RowKit.Hid (∀ W, RSt w g s P W → Calls Try.prog 8 #[.pointer (some ⟨g, 0, none⟩), .int .i64 i] W fun e w' => e = .returned (.tuple #[.agg #[.int .u32 0, .int .u32 0, .bool false, .slice none 0 0], .bool false]) ∧ RSt w g s P w') := by
          refine Lib.hid fun W h => h.no (by omega) i ?_
          rw [hPl, hf]
          omega
        have d1 : decide ((f : Int) ≤ i) = false := by simpa using h1
        clear hG hP hPl hf HLs
        go_wp2_with (first
          | (go_at_call 8; refine (CN.out _ H0.out).mono ?_; rintro e w14 ⟨rfl, h⟩; have H14 := Lib.hid (h.below (Below.alloc_new w14 (.cells #[.int .u32 0, .int .u32 0, .bool false, .slice none 0 0] 32))); clear h H0)
          | (go_at_call 10; refine (CE.out _ H14.out).mono ?_; rintro e w12 ⟨rfl, h⟩; have H12 := Lib.hid h.b; clear h H14)
          | fail)
        go_ret
        exact ⟨rfl, H12.out⟩
end Go.Proofs.Ytfnmdaoehnafcaa
