/- Layer 9's statements, walked: lines. -/
import Derived.Test.YtgebnaeebdeoeaaOvlX
namespace Go.Proofs.Ytgebnaeebdeoeaa
open Go.RowKit
set_option linter.unusedVariables false

/-- More numbers, or more frames, than are tried: only whether it lives. -/
theorem overlapLines_many (a a2 : Option Addr) (len cap len2 cap2 : Nat) (w : World) (hm : len ≤ 9223372036854775807) (hm2 : len2 ≤ 9223372036854775807) (h : 3000 < len ∨ 5 < len2) :
    Calls Try.prog 3 #[.slice a len cap, .slice a2 len2 cap2] w fun e w' => e = .returned (.bool true) ∧ Below w.heap.size w w' := by
  have HB := Lib.hid (Below.refl w.heap.size w)
  by_cases h1 : 3000 < len
  · have hd : decide ((3000 : Int) < (len : Int)) = true := by simp; omega
    go_enter Try.func3, Try.ntmps3
    go_wp2_with (go_at_call 7; go_loud (refine (lives09_any _).mono ?_); rintro e w1 ⟨rfl, hb⟩; replace HB := Lib.hid (chain HB.out hb); clear hb)
    go_ret
    exact ⟨rfl, HB.out⟩
  · have hd : decide ((3000 : Int) < (len : Int)) = false := by simp; omega
    have hd2 : decide ((5 : Int) < (len2 : Int)) = true := by simp; omega
    clear h
    go_enter Try.func3, Try.ntmps3
    go_wp2_with (go_at_call 7; go_loud (refine (lives09_any _).mono ?_); rintro e w1 ⟨rfl, hb⟩; replace HB := Lib.hid (chain HB.out hb); clear hb)
    go_ret
    exact ⟨rfl, HB.out⟩
/-- What is held of an analyser, the cosines, and all of a frame. -/
structure St10 (w wr : World) (n c p q qb al : Nat) (ah F : Nat → Int) : Prop where
  b : Below w.heap.size w wr
  A : OvAt 54 .i16 wr n c p q ah
  Q : IFun wr qb 2 .i64 1025 cosN
  L : IFun wr al 2 .i64 640 F
theorem St10.below {w wr w' : World} {n c p q qb al : Nat} {ah F : Nat → Int} (h : St10 w wr n c p q qb al ah F) (hb : Below wr.heap.size wr w') : St10 w w' n c p q qb al ah F :=
  ⟨chain h.b hb, h.A.below hb, h.Q.below hb h.Q.lt, h.L.below hb h.L.lt⟩
theorem St10.drewN {w wr : World} {n c p q qb al : Nat} {ah F : Nat → Int} (h : St10 w wr n c p q qb al ah F) (i : Nat) : St10 w (wr.drewN i) n c p q qb al ah F :=
  ⟨Below.drewN' h.b i, h.A, h.Q, h.L⟩
theorem St10.allOf {w wr w' : World} {n c p q qb al : Nat} {ah F F' : Nat → Int} (h : St10 w wr n c p q qb al ah F) (hn : w.heap.size ≤ al) (hq : qb ≠ al) (hk : Keeps (· = al) wr w') (hL : IFun w' al 2 .i64 640 F') : St10 w w' n c p q qb al ah F' := by
  obtain ⟨cs, hcs⟩ := h.L.cel
  exact ⟨below_keep1 h.b hk hn, h.A.keeps hcs (h.A.1.ne hcs (by decide)) (by decide) (by decide) hk, Cel.keeps h.Q hk hq, hL⟩
theorem St10.anaOf {w wr w' : World} {n c p q qb al : Nat} {ah ah' F : Nat → Int} (h : St10 w wr n c p q qb al ah F) (hn : w.heap.size ≤ n) (hk : Keeps (· = n) wr w') (hA : OvAt 54 .i16 w' n c p q ah') : St10 w w' n c p q qb al ah' F := by
  obtain ⟨cs, hcs⟩ := h.L.cel
  obtain ⟨cq, hcq⟩ := h.Q.cel
  exact ⟨below_keep1 h.b hk hn, hA, Cel.keeps h.Q hk (hcq.ne h.A.1 (by decide)), Cel.keeps h.L hk (hcs.ne h.A.1 (by decide))⟩
theorem info_i64s : (Try.prog.info? 2).map (·.size) = some 1 := by
  obtain ⟨i, h1, _, h3, _⟩ := info_parts info_i649
  rw [h1]; simp [h3]
theorem cpy_up {F G : Nat → Int} (h : ∀ j, j < 128 → F (512 + j) = G j) (i : Nat) : cpyF F (fun j => F (512 + j)) 0 128 i = upTo G F (128 + 0) i := by
  unfold cpyF upTo
  by_cases c : i < 128
  · rw [if_pos (by omega), if_pos (by omega), Nat.sub_zero]
    exact h i c
  · rw [if_neg (by omega), if_neg (by omega)]
set_option maxHeartbeats 1000000 in
set_option maxRecDepth 100000 in
theorem overlapLines_law (a a2 : Option Addr) (len cap len2 cap2 : Nat) (zs : List Int) (bs : Nat → Bool) (w : World) (hz : IntsAt w w.heap.size .i16 a len zs) (hzb : ∀ j, -32768 ≤ zs.getD j 0 ∧ zs.getD j 0 ≤ 32767) (hbs : BoolsAt w w.heap.size a2 len2 bs) (hl : len ≤ 3000) (hl2 : len2 ≤ 5) :
    Calls Try.prog 3 #[.slice a len cap, .slice a2 len2 cap2] w fun e w' => e = .returned (.bool true) ∧ Below w.heap.size w w' := by
  have HB := Lib.hid (Below.refl w.heap.size w)
  have HZ := Lib.hid hz
  have HZb := Lib.hid hzb
  have HBs := Lib.hid hbs
  have hd : decide ((3000 : Int) < (len : Int)) = false := by simp; omega
  have hd2 : decide ((5 : Int) < (len2 : Int)) = false := by simp; omega
  have hmk : ∀ w : World, (Instr.makeSlice 25 (.int .i64 640) (.int .i64 640)).run Try.prog w = .ok (.slice (some ⟨w.heap.size, 0, none⟩) 640 640) (w.alloc (.cells (madeCells #[.int .i64 0] 640) 2)) :=
    fun w => make_zeros (P := Try.prog) Try.underlying25 info_i649 640 (by decide) (by decide) w
  have HZr : RowKit.Hid (∀ w : World, IFun (w.alloc (.cells (madeCells #[.int .i64 0] 640) 2)) w.heap.size 2 .i64 640 (fun _ => 0)) := fun w => IFun.zeros w 2 .i64 640
  clear hz hbs hzb
  generalize madeCells #[Value.int .i64 0] 640 = mc at HZr hmk
  go_enter Try.func3, Try.ntmps3
  go_wp2_with (first | (go_at_call 7; go_loud (refine (lives09_any _).mono ?_); rintro e w1 ⟨rfl, hb⟩; replace HB := Lib.hid (chain HB.out hb); clear hb) | (go_at_call 8; go_loud (refine (ref04Quarter_any _).mono ?_); rintro e w2 ⟨rfl, iq, zq⟩; have HQ := Lib.hid iq; replace HB := Lib.hid (chain HB.out zq); clear iq zq) | (go_at_call 9; go_loud (refine (newAnalyser_any _).mono ?_); rintro e w3 ⟨n, c, p, q, rfl, oa, sa, z1⟩; have HAl : RowKit.Hid (w.heap.size ≤ n) := Nat.le_trans HB.out.size sa; have hz2 := Below.alloc_new w3 (.cells mc 2); have HLq := Lib.hid HQ.out.lt; have H0 : RowKit.Hid (St10 w (w3.alloc (.cells mc 2)) n c p q w1.heap.size w3.heap.size (fun j => strF zs len (512 * 0 + j)) (fun _ => 0)) := ⟨chain (chain HB.out z1) hz2, (oa.below hz2).ext fun j hj => (str_first hj).symm, (HQ.out.below z1 HQ.out.lt).below hz2 (Nat.lt_of_lt_of_le HQ.out.lt z1.size), HZr.out w3⟩; have HLs : RowKit.Hid (w1.heap.size ≠ w3.heap.size ∧ w.heap.size ≤ w3.heap.size) := ⟨(by have h1 := HQ.out.lt; have h2 := z1.size; omega), (chain HB.out z1).size⟩; clear oa sa z1 hz2 HQ HB HLq))
  clear hd hd2 hmk HZr
  generalize w1.heap.size = qb at H0 HLs ⊢
  generalize w3.heap.size = al at H0 HLs ⊢
  generalize w3.alloc (.cells mc 2) = w4 at H0 ⊢
  go_loopw [35] (fun i wr => ∃ t F, t ≤ len2 ∧ i = .int .i64 ((t : Nat) : Int) ∧ RowKit.Hid (St10 w wr n c p q qb al (fun j => strF zs len (512 * t + j)) F ∧ ∀ j, j < 128 → F (512 + j) = 16 * strF zs len (512 * t + j))) (fun i _ => len2 - (intOf i).toNat)
  case atStart => exact ⟨0, fun _ => 0, by omega, rfl, H0.out, fun j hj => by rw [str_first hj]; rfl⟩
  case round =>
    obtain ⟨t, F, ht, rfl, H⟩ := hrel
    clear H0
    by_cases hlt : t < len2
    · obtain ⟨bb, bo, rfl, bbl, hbc⟩ := HBs.out.at_ hlt
      have k1 := (H.out.1.b.cell (p := ⟨bb, bo + t, none⟩) bbl).trans (hbc t hlt)
      clear hbc
      generalize bs t = b at k1
      have l1 : (t : Int) < (len2 : Int) := by omega
      have HE : RowKit.Hid (allF (fun j => strF zs len (512 * t + j)) (frmF zs len (512 * t)) = fun i => 16 * strF zs len (512 * t + i)) := all_str t
      obtain ⟨T, hT⟩ : ∃ T, T = 512 * t := ⟨_, rfl⟩
      have e1 : 512 * (t : Int) = (T : Int) := by omega
      have HTt := Lib.hid hT
      have T1 : T ≤ 2048 := by omega
      clear hT
      go_wp2_with (first | (go_at_call 10; go_loud (refine (frame09_any a len cap T zs wr (HZ.out.now H.out.1.b (Nat.le_refl _)) hl (by omega)).mono ?_); rintro e w5 ⟨x, rfl, i5, s5, z5⟩; rw [HTt.out] at i5; have HX := Lib.hid i5; have H5 := Lib.hid (H.out.1.below z5); clear i5 s5 z5) | (refine wpList_copy_cells rfl _ _ _ _ rfl 2 Try.underlying25 info_i64s al 0 640 640 ⟨al, 512, none⟩ 128 128 rfl rfl _ 2 H5.out.L ((tabF 128 fun j => F (512 + j)).map (Value.int .i64)) (by rw [List.length_map, tabF_len]; rfl) (tab_src fun j hj => H5.out.L.cell (by omega)) (by rw [List.length_map, List.length_map, tabF_len, tabF_len]; decide) (tab_one _) ?_; intro w6 hx6 hk6; go_loud (have H6 : RowKit.Hid (St10 w w6 n c p q qb al (fun j => strF zs len (512 * t + j)) (upTo (fun i => 16 * strF zs len (512 * t + i)) F (128 + 0))) := H5.out.allOf HLs.out.2 HLs.out.1 hk6 (IFun.ext (f := cpyF F (fun j => F (512 + j)) 0 128) (by have := hx6.out; rw [splice_tab _ _ (by decide)] at this; exact this) fun i _ => cpy_up H.out.2 i); have HX6 : RowKit.Hid (IFun w6 x 30 .i16 512 (frmF zs len (512 * t))) := (by obtain ⟨cs, hcs⟩ := H5.out.L.cel; obtain ⟨cx, hcx⟩ := HX.out.cel; exact Cel.keeps HX.out hk6 (hcx.ne hcs (by decide)))); clear hx6 hk6 H5 HX))
      clear H
      go_loopw [50] (fun i wx => ∃ k : Nat, k ≤ 512 ∧ i = .int .i64 (k : Int) ∧ RowKit.Hid (St10 w wx n c p q qb al (fun j => strF zs len (512 * t + j)) (upTo (fun i => 16 * strF zs len (512 * t + i)) F (128 + k)) ∧ IFun wx x 30 .i16 512 (frmF zs len (512 * t)))) (fun i _ => 512 - (intOf i).toNat)
      case atStart => exact ⟨0, by omega, rfl, H6.out, HX6.out⟩
      case round =>
        obtain ⟨k, hk, rfl, HJ⟩ := hrel
        clear H6 HX6
        by_cases hlk : k < 512
        · obtain ⟨P, hP⟩ : ∃ P, P = 128 + k := ⟨_, rfl⟩
          have eP : 128 + (k : Int) = (P : Int) := by omega
          have k2 := HJ.out.2.cell hlk
          have o1 := HJ.out.1.L.cell (j := P) (by omega)
          have f1 := HJ.out.1.L.frozen P
          have hv := frmF_bd (len := len) HZb.out (512 * t) k
          have HS : RowKit.Hid (St10 w (wr.setCell ⟨al, P, none⟩ (.int .i64 (16 * frmF zs len (512 * t) k))) n c p q qb al (fun j => strF zs len (512 * t + j)) (upTo (fun i => 16 * strF zs len (512 * t + i)) F (128 + k + 1)) ∧ IFun (wr.setCell ⟨al, P, none⟩ (.int .i64 (16 * frmF zs len (512 * t) k))) x 30 .i16 512 (frmF zs len (512 * t))) := by
            obtain ⟨cs, hcs⟩ := HJ.out.1.L.cel
            obtain ⟨cx, hcx⟩ := HJ.out.2.cel
            refine ⟨HJ.out.1.allOf HLs.out.2 HLs.out.1 (Keeps.set1 _) (IFun.ext (HJ.out.1.L.set (j := P) (by omega) _) fun i _ => ?_), HJ.out.2.far (hcx.ne hcs (by decide)) _⟩
            rw [frm_str, hP, show 512 * t + 128 + k = 512 * t + (128 + k) by omega]
            exact upTo_next (fun i => 16 * strF zs len (512 * t + i)) F (128 + k) i
          generalize frmF zs len (512 * t) k = v at k2 hv HS
          generalize upTo (fun i => 16 * strF zs len (512 * t + i)) F (128 + k) P = old at o1
          obtain ⟨v0, v1⟩ := hv
          have l3 : (k : Int) < 512 := by omega
          have l4 : (P : Int) < 640 := by omega
          clear HJ hP
          go_wp2
          go_roundw
          case rel => exact ⟨k + 1, by omega, by go_num, HS.out⟩
          case measure => simp [intOf] <;> omega
        · have l3 : ¬ (k : Int) < 512 := by omega
          have H7 : RowKit.Hid (St10 w wr n c p q qb al (fun j => strF zs len (512 * t + j)) (fun i => 16 * strF zs len (512 * t + i)) ∧ IFun wr x 30 .i16 512 (frmF zs len (512 * t))) :=
            ⟨⟨HJ.out.1.b, HJ.out.1.A, HJ.out.1.Q, IFun.ext HJ.out.1.L fun i hi => upTo_end (fun i => 16 * strF zs len (512 * t + i)) F (128 + k) i (by omega)⟩, HJ.out.2⟩
          have HGb : RowKit.Hid (∀ j, j < 640 → ((fun i => 16 * strF zs len (512 * t + i)) j).natAbs ≤ 524288) := fun j _ => by
            have := strF_bd (len := len) HZb.out (512 * t + j)
            show (16 * strF zs len (512 * t + j)).natAbs ≤ _
            omega
          clear HJ
          go_wp2_with (first | (go_at_call 11; go_loud (refine (anaLines_any n c p q x (fun j => strF zs len (512 * t + j)) (frmF zs len (512 * t)) b _ H7.out.1.A H7.out.2 (fun j _ => strF_bd HZb.out _) (fun j _ => frmF_bd HZb.out _ _)).mono ?_); rintro e w8 ⟨g8, rfl, i8, s8, o8, k8⟩; have HI8 : RowKit.Hid (IFun w8 g8 21 .i32 512 (linesF b fun i => 16 * strF zs len (512 * t + i))) := (by rw [← HE.out]; exact i8); have H8 : RowKit.Hid (St10 w w8 n c p q qb al (fun j => strF zs len (512 * (t + 1) + j)) (fun i => 16 * strF zs len (512 * t + i))) := H7.out.1.anaOf HAl.out k8 (o8.ext fun j _ => str_next t j); clear i8 s8 o8 k8 H7) | (go_at_call 12; go_loud (refine (ref9Lines_any qb 640 (some ⟨al, 0, none⟩) (fun i => 16 * strF zs len (512 * t + i)) b _ H8.out.Q (FnAt.of_ifun H8.out.L) HGb.out (by decide) (by decide)).mono ?_); rintro e w9 ⟨g9, rfl, i9, s9, z9⟩; have HI9 := Lib.hid i9; have HJ9 := Lib.hid (HI8.out.below z9 HI8.out.lt); have H9 := Lib.hid (H8.out.below z9); clear i9 s9 z9 HI8 H8))
          clear HGb HE
          go_loopw [83] (fun i wx => ∃ k : Nat, k ≤ 512 ∧ i = .int .i64 (k : Int) ∧ RowKit.Hid (∃ m, wx = w9.drewN m)) (fun i _ => 512 - (intOf i).toNat)
          case atStart => exact ⟨0, by omega, rfl, 0, rfl⟩
          case round =>
            obtain ⟨k, hk, rfl, HM⟩ := hrel
            obtain ⟨m, rfl⟩ := HM.out
            clear HM
            by_cases hlk : k < 512
            · have k2 : (w9.drewN m).cell? ⟨g8, k, none⟩ = some (.int .i32 (linesF b (fun i => 16 * strF zs len (512 * t + i)) k)) := HJ9.out.cell hlk
              have k3 : (w9.drewN m).cell? ⟨g9, k, none⟩ = some (.int .i64 (linesF b (fun i => 16 * strF zs len (512 * t + i)) k)) := HI9.out.cell hlk
              obtain ⟨x0, x1⟩ := linesF_bd b (fun i => 16 * strF zs len (512 * t + i)) k
              have HD : RowKit.Hid (∀ i, (w9.drewN m).drewN i = w9.drewN (m + i)) := fun i => World.drewN_drewN _ _ _
              generalize linesF b (fun i => 16 * strF zs len (512 * t + i)) k = y at k2 k3 x0 x1
              generalize w9.drewN m = wq at k2 k3 HD ⊢
              have l3 : (k : Int) < 512 := by omega
              have g1 : IntKind.i64.wrap y = y := IntWalk.i64_in _ (by omega)
              go_wp2
              go_quiet (fail)
              go_wp2
              go_roundw
              case rel => exact ⟨k + 1, by omega, by go_num, _, HD.out _⟩
              case measure => simp [intOf] <;> omega
            · have l3 : ¬ (k : Int) < 512 := by omega
              have HN : RowKit.Hid (St10 w (w9.drewN m) n c p q qb al (fun j => strF zs len (512 * (t + 1) + j)) (fun i => 16 * strF zs len (512 * t + i)) ∧ ∀ j, j < 128 → (fun i => 16 * strF zs len (512 * t + i)) (512 + j) = 16 * strF zs len (512 * (t + 1) + j)) :=
                ⟨H9.out.drewN m, fun j _ => by show 16 * strF zs len (512 * t + (512 + j)) = _; rw [show 512 * t + (512 + j) = 512 * (t + 1) + j by omega]⟩
              clear H9 HJ9 HI9
              go_wp2
              go_roundw
              case rel => exact ⟨t + 1, _, by omega, by go_num, HN.out⟩
              case measure => simp [intOf] <;> omega
    · have l1 : ¬ (t : Int) < (len2 : Int) := by omega
      have Z := Lib.hid H.out.1.b
      clear H
      go_wp2
      go_ret
      exact ⟨rfl, Z.out⟩
end Go.Proofs.Ytgebnaeebdeoeaa
