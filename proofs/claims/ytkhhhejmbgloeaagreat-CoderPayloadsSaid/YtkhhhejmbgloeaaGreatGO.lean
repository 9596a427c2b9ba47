/- Plain facts, and what functions give, for the proofs of this seat: several texts in one, each with its own first remark. -/
import Derived.Test.YtkhhhejmbgloeaaGreatGI
import Derived.Test.YtkhhhejmbgloeaaGreatGN
import Derived.Deep.RegionHeld3

/- The walk of CoderPayloads. -/
namespace Go.Proofs.YtkhhhejmbgloeaaGreat
open Go Go.RowKit
set_option linter.unusedVariables false
set_option linter.unusedSimpArgs false
set_option maxRecDepth 100000

theorem coderPayloads_many (a a2 : Option Addr) (len cap len2 cap2 : Nat) (x0 x1 : Int) (w : World) (hm : len ≤ 9223372036854775807) (hm2 : len2 ≤ 9223372036854775807) (h : 3000 < len ∨ 4 < len2) :
    Calls Tryz.prog 3 #[.slice a len cap, .agg #[.int .i64 x0, .int .i64 x1], .slice a2 len2 cap2] w fun e w' => e = .returned (.bool true) ∧ Below w.heap.size w w' := by
  have HB := Lib.hid (Below.alloc_new w (.cells #[.int .i64 x0, .int .i64 x1] 23))
  by_cases h1 : 3000 < len
  · have hd : decide ((3000 : Int) < (len : Int)) = true := by simp; omega
    go_enter Tryz.func3, Tryz.ntmps3
    go_wp2_with (go_at_call 6; go_loud (refine (lives13_any _).mono ?_); rintro e w1 ⟨rfl, hb⟩; replace HB := Lib.hid (chain HB.out hb); clear hb)
    go_ret
    exact ⟨rfl, HB.out⟩
  · have hd : decide ((3000 : Int) < (len : Int)) = false := by simp; omega
    have hd2 : decide ((4 : Int) < (len2 : Int)) = true := by simp; omega
    clear h
    go_enter Tryz.func3, Tryz.ntmps3
    go_wp2_with (go_at_call 6; go_loud (refine (lives13_any _).mono ?_); rintro e w1 ⟨rfl, hb⟩; replace HB := Lib.hid (chain HB.out hb); clear hb)
    go_ret
    exact ⟨rfl, HB.out⟩
/-- Both encoders. -/
structure StP (w : World) (g a s gr : Nat) (Q : Int) (B : Nat) (S S' : S13) (wr : World) : Prop where
  b : Below w.heap.size w wr
  c : CodAt wr g a s Q B S
  r : RefAt wr gr Q B S'
  o : w.heap.size ≤ g ∧ w.heap.size ≤ a ∧ w.heap.size ≤ s ∧ w.heap.size ≤ gr
theorem StP.now {w : World} {g a s gr : Nat} {Q : Int} {B : Nat} {S S' : S13} {wr w' : World} (h : StP w g a s gr Q B S S' wr) (b : Below wr.heap.size wr w') : StP w g a s gr Q B S S' w' := ⟨chain h.b b, h.c.below b, h.r.below b, h.o⟩
theorem StP.prog {w : World} {g a s gr : Nat} {Q : Int} {B : Nat} {S S' S2 : S13} {wr w' : World} (h : StP w g a s gr Q B S S' wr) (hc : CodAt w' g a s Q B S2) (hk : Keeps (fun j => j = g ∨ j = a ∨ j = s) wr w') : StP w g a s gr Q B S2 S' w' := by
  refine ⟨h.b.trans (hk.below h.b.size (fun j hj => by have := h.o; rcases hj with e | e | e <;> omega)), hc, h.r.keeps hk fun j hj => ?_, h.o⟩
  obtain ⟨ca, pa, qa, cs, ps, qs, o, hv, hi⟩ := h.c
  rcases hj with rfl | rfl | rfl
  · exact ⟨_, Cel.typ hi.e, by decide, by decide, by decide⟩
  · exact ⟨_, Cel.typ hi.a.1, by decide, by decide, by decide⟩
  · exact ⟨_, Cel.typ hi.s.1, by decide, by decide, by decide⟩
theorem StP.ref {w : World} {g a s gr : Nat} {Q : Int} {B : Nat} {S S' S2 : S13} {wr w' : World} (h : StP w g a s gr Q B S S' wr) (hr : RefAt w' gr Q B S2) (hk : Keeps (· = gr) wr w') : StP w g a s gr Q B S S2 w' := by
  refine ⟨h.b.trans (hk.below h.b.size (fun j hj => by have := h.o; omega)), h.c.keeps hk fun j hj => ?_, hr, h.o⟩
  subst hj
  obtain ⟨cs, hc⟩ := h.r.typ
  exact ⟨_, cs, hc, by decide, by decide, by decide, by decide, by decide, by decide, by decide⟩
/-- What the law reads of the document's encoder. -/
theorem RefAt.read {w : World} {g : Nat} {Q : Int} {B : Nat} {S : S13} {H : Nat → Int} (h : RefAt w g Q B S) (hh : S.hd = some H) : ∃ b cap, w.cell? ⟨g, 7, none⟩ = some (.slice (some ⟨b, 0, none⟩) 512 cap) ∧ w.cell? ⟨g, 8, none⟩ = some (.int .i64 S.R) ∧ IntsAt w w.heap.size .i64 (some ⟨b, 0, none⟩) 512 (tabF 512 H) := by
  obtain ⟨C, va, vl, vh, o, hi⟩ := h
  have hd := hi.d
  rw [hh] at hd
  obtain ⟨b, cap, rfl, hn⟩ := hd
  exact ⟨b, cap, hi.e.cell 7, hi.e.cell 8, hn.ints (by decide)⟩
theorem bytes_stay {w w' : World} {g r len : Nat} {Q : Int} {B : Nat} {S : S13} {zs : List Int} (h : RefAt w g Q B S) (hi : IntsAt w w.heap.size .u8 (some ⟨r, 0, none⟩) len zs) (hk : Keeps (· = g) w w') : IntsAt w' w'.heap.size .u8 (some ⟨r, 0, none⟩) len zs := by
  obtain ⟨C, va, vl, vh, o, he⟩ := h
  refine (hi.keeps hk (Nat.le_refl _) fun r' off e h0 _ c => ?_).grow hk.size
  injection e with e
  injection e with e
  subst e
  exact ints_ne8 hi h0 he.e (v0 := .slice (some ⟨C, 0, none⟩) 1025 1025) rfl (by intro x e; cases e) c
set_option maxHeartbeats 4000000 in
theorem coderPayloads_law (a a2 : Option Addr) (len cap len2 cap2 : Nat) (x0 x1 : Int) (zs : List Int) (bs : Nat → Bool) (w : World) (hz : IntsAt w w.heap.size .i16 a len zs) (hzb : ∀ j, -32768 ≤ zs.getD j 0 ∧ zs.getD j 0 ≤ 32767) (hbs : BoolsAt w w.heap.size a2 len2 bs) (hl : len ≤ 3000) (hl2 : len2 ≤ 4) :
    Calls Tryz.prog 3 #[.slice a len cap, .agg #[.int .i64 x0, .int .i64 x1], .slice a2 len2 cap2] w fun e w' => e = .returned (.bool true) ∧ Below w.heap.size w w' := by
  have HB := Lib.hid (Below.alloc_new w (.cells #[.int .i64 x0, .int .i64 x1] 23))
  have HC := Lib.hid (Cel.new w 23 #[.int .i64 x0, .int .i64 x1])
  have HZ := Lib.hid hz
  have HZb := Lib.hid hzb
  have HBs := Lib.hid hbs
  have hd : decide ((3000 : Int) < (len : Int)) = false := by simp; omega
  have hd2 : decide ((4 : Int) < (len2 : Int)) = false := by simp; omega
  clear hz hbs hzb
  go_enter Tryz.func3, Tryz.ntmps3
  go_wp2_with (go_at_call 6; go_loud (refine (lives13_any _).mono ?_); rintro e w1 ⟨rfl, hb⟩; have HC1 := Lib.hid (HC.out.below hb); replace HB := Lib.hid (chain HB.out hb); clear hb; have e0 : w1.cell? ⟨w.heap.size, 0, none⟩ = some (.int .i64 x0) := HC1.out.cell 0; have e1 : w1.cell? ⟨w.heap.size, 1, none⟩ = some (.int .i64 x1) := HC1.out.cell 1)
  go_quiet (fail)
  obtain ⟨Q, hQ, q0, q1⟩ := set_wrap x0 10 1 (by decide) (by decide) (by decide) (by decide)
  obtain ⟨Bi, hBi, b0, b1⟩ := set_wrap x1 569 32 (by decide) (by decide) (by decide) (by decide)
  obtain ⟨B, rfl⟩ : ∃ B : Nat, Bi = (B : Int) := ⟨Bi.toNat, by omega⟩
  rw [hQ, hBi]
  clear hQ hBi e0 e1
  have hQq := Lib.hid (show 1 ≤ Q ∧ Q ≤ 10 by omega)
  have hBb := Lib.hid (show 32 ≤ B ∧ B ≤ 600 by omega)
  replace HB : RowKit.Hid (Below w.heap.size w (w1.drewN nq)) := Below.drewN' HB.out nq
  replace HC : RowKit.Hid (Cel (w1.drewN nq) w.heap.size 23 #[.int .i64 x0, .int .i64 x1]) := HC1.out.drewN nq
  generalize w1.drewN nq = w2 at HB HC ⊢
  clear HC1 hd hd2
  have hR0 : s13Zero.R = 0 := rfl
  go_wp2_with (first
    | (go_at_call 7; go_loud (refine (cNew_any Q B _ hQq.out.1 hQq.out.2 hBb.out.1 hBb.out.2).mono ?_); rintro e w3 ⟨g, ea, s, rfl, h3, s1, s2, s3, b3⟩; have H3 := Lib.hid h3; have HB3 := Lib.hid (chain HB.out b3); have HC3 := Lib.hid (HC.out.below b3); have HS3 : RowKit.Hid (w.heap.size ≤ g ∧ w.heap.size ≤ ea ∧ w.heap.size ≤ s) := ⟨Nat.le_trans HB.out.size s1, Nat.le_trans HB.out.size s2, Nat.le_trans HB.out.size s3⟩; clear h3 s1 s2 s3 b3)
    | (go_at_call 8; go_loud (refine (rNew_any Q B _).mono ?_); rintro e w4 ⟨gr, rfl, h4, s4, b4⟩; have H4 : RowKit.Hid (StP w g ea s gr Q B s13Zero s13Zero w4) := ⟨chain HB3.out b4, H3.out.below b4, h4, HS3.out.1, HS3.out.2.1, HS3.out.2.2, Nat.le_trans HB3.out.size s4⟩; have HC4 := Lib.hid (HC3.out.below b4); clear h4 s4 b4)
    | (go_at_call 9; go_loud (refine (heardC_none H4.out.c rfl).mono ?_); rintro e w5 ⟨rfl, rfl⟩)
    | (go_at_call 10; go_loud (refine (reachC_any H4.out.c).mono ?_); rintro e w5 ⟨rfl, rfl⟩))
  go_loopw [70] (fun i wr => ∃ t S, t ≤ len2 ∧ i = .int .i64 ((t : Nat) : Int) ∧ RowKit.Hid (StP w g ea s gr Q B S S wr ∧ S.Ok ∧ Cel wr w.heap.size 23 #[.int .i64 x0, .int .i64 x1])) (fun i _ => len2 - (intOf i).toNat)
  case atStart => exact ⟨0, s13Zero, by omega, rfl, H4.out, s13Zero_ok, HC4.out⟩
  case round =>
    obtain ⟨t, S, ht, rfl, H⟩ := hrel
    clear H4 HC4 HC HB H3 HB3 HC3 HS3
    by_cases hlt : t < len2
    · obtain ⟨bb, bo, rfl, bbl, hbc⟩ := HBs.out.at_ hlt
      have k1 := (H.out.1.b.cell (p := ⟨bb, bo + t, none⟩) bbl).trans (hbc t hlt)
      have HBc := Lib.hid hbc
      clear hbc
      generalize bs t = b at k1
      obtain ⟨n, hn⟩ : ∃ n, n = (7 * (t : Int) + x1) % 4294967296 := ⟨_, rfl⟩
      have HNb : RowKit.Hid (0 ≤ n ∧ n ≤ 4294967295) := by rw [hn]; show _ ∧ _; omega
      have HNn := Lib.hid hn.symm
      have HOk := Lib.hid (S.F_ok (Q := Q) (B := B) hQq.out hBb.out (frmF zs len (512 * t)) b)
      have HNx : RowKit.Hid ((S.next Q B (frmF zs len (512 * t)) n b).Ok) := S13.Ok.next Q B (fun i _ => frmF_bd HZb.out _ _) n b
      have HHd : RowKit.Hid ((S.next Q B (frmF zs len (512 * t)) n b).hd = some (samplesF (briefF S.P (frmF zs len (512 * t))) ((S.F Q B (frmF zs len (512 * t)) b).held n) S.left)) := rfl
      have HSb : RowKit.Hid (∀ i, -32768 ≤ samplesF (briefF S.P (frmF zs len (512 * t))) ((S.F Q B (frmF zs len (512 * t)) b).held n) S.left i ∧ samplesF (briefF S.P (frmF zs len (512 * t))) ((S.F Q B (frmF zs len (512 * t)) b).held n) S.left i ≤ 32767) := fun i => samples_16 _ _ _ i
      have HLe := Lib.hid HOk.out.bytes_le
      have HFB : RowKit.Hid ((S.F Q B (frmF zs len (512 * t)) b).B = B) := rfl
      obtain ⟨S2, hS2⟩ : ∃ S2, S2 = S.next Q B (frmF zs len (512 * t)) n b := ⟨_, rfl⟩
      obtain ⟨Hf, hHf⟩ : ∃ Hf, Hf = samplesF (briefF S.P (frmF zs len (512 * t))) ((S.F Q B (frmF zs len (512 * t)) b).held n) S.left := ⟨_, rfl⟩
      obtain ⟨by_, hby⟩ : ∃ by_, by_ = (S.F Q B (frmF zs len (512 * t)) b).bytes := ⟨_, rfl⟩
      have HBY : RowKit.Hid ((S.F Q B (frmF zs len (512 * t)) b).bytes = by_) := hby.symm
      have HS2 : RowKit.Hid (S.next Q B (frmF zs len (512 * t)) n b = S2) := hS2.symm
      have lnb : (by_.length : Int) ≤ (B : Int) := by rw [hby]; have h1 := HLe.out; have h2 := HFB.out; omega
      rw [← hS2] at HNx HHd
      rw [← hHf] at HHd HSb
      obtain ⟨wh, hwh⟩ : ∃ wh, wh = (b || S.fs) := ⟨_, rfl⟩
      have HWH : RowKit.Hid ((b || S.fs) = wh) := hwh.symm
      have c2 : wr.cell? ⟨w.heap.size, 1, none⟩ = some (.int .i64 x1) := H.out.2.2.cell 1
      clear hS2 hHf hby hwh hn
      obtain ⟨T, hT⟩ : ∃ T, T = 512 * t := ⟨_, rfl⟩
      have e1 : 512 * (t : Int) = (T : Int) := by omega
      have HTt := Lib.hid hT
      have T1 : T ≤ 3072 := by omega
      have l1 : (t : Int) < (len2 : Int) := by omega
      clear hT
      go_wp2_with (first
        | (go_at_call 11; go_loud (refine (frame13_any _ len cap T zs _ (HZ.out.now H6.out.b (Nat.le_refl _)) hl (by omega)).mono ?_); rintro e w7 ⟨x7, rfl, i7, s7, z7⟩; rw [HTt.out] at i7; have HX7 := Lib.hid i7; have H7 := Lib.hid (H6.out.now z7); have HI7 := Lib.hid (HI6.out.now z7 (Nat.le_refl _)); have HC7 := Lib.hid (HC6.out.below z7); clear i7 s7 z7)
        | (go_at_call 11; go_loud (refine (frame13_any a len cap T zs wr (HZ.out.now H.out.1.b (Nat.le_refl _)) hl (by omega)).mono ?_); rintro e w5 ⟨x, rfl, i5, s5, z5⟩; rw [HTt.out] at i5; have HX := Lib.hid i5; have H5 := Lib.hid (H.out.1.now z5); have HC5 := Lib.hid (H.out.2.2.below z5); clear i5 s5 z5; have c5 : w5.cell? ⟨w.heap.size, 1, none⟩ = some (.int .i64 x1) := HC5.out.cell 1)
        | (go_at_call 12; rw [HNn.out]; go_loud (refine (cEncode_any g ea s x Q B S (frmF zs len (512 * t)) n b _ H5.out.c H.out.2.1 hQq.out hBb.out HX.out (fun i _ => frmF_bd HZb.out _ _) HNb.out.1 HNb.out.2).mono ?_); rintro e w6 ⟨rr, cp, rfl, i6, c6, k6⟩; rw [HBY.out] at i6 ⊢; rw [HWH.out]; rw [HS2.out] at c6; have HI6 := Lib.hid i6; have H6 := Lib.hid (H5.out.prog c6 k6); have HC6 : RowKit.Hid (Cel w6 w.heap.size 23 #[.int .i64 x0, .int .i64 x1]) := HC5.out.keeps k6 (by have h0 := H.out.1.o; have h1 := H5.out.b.size; obtain ⟨ca, pa, qa, cs, ps, qs, oo, hv, hi⟩ := H5.out.c; rintro (e | e | e); exact HC5.out.ne hi.e (by decide) e; exact HC5.out.ne hi.a.1 (by decide) e; exact HC5.out.ne hi.s.1 (by decide) e); clear i6 c6 k6)
        | (go_at_call 13; rw [HNn.out]; go_loud (refine (rEncode_any gr x7 Q B S (frmF zs len (512 * t)) n b _ H7.out.r H.out.2.1 hQq.out hBb.out HX7.out (fun i _ => frmF_bd HZb.out _ _) HNb.out.1 HNb.out.2).mono ?_); rintro e w8 ⟨a8, c8, rfl, i8, r8, k8⟩; rw [HBY.out] at i8 ⊢; rw [HWH.out]; rw [HS2.out] at r8; have HI8 := Lib.hid i8; have HJ8 := Lib.hid (bytes_stay H7.out.r HI7.out k8); have H8 := Lib.hid (H7.out.ref r8 k8); have HC8 : RowKit.Hid (Cel w8 w.heap.size 23 #[.int .i64 x0, .int .i64 x1]) := HC7.out.keeps k8 (by obtain ⟨cs, hc⟩ := H7.out.r.typ; exact HC7.out.ne hc (by decide)); clear i8 r8 k8))
      obtain ⟨hb, hc, r7, r8, ri⟩ := H8.out.r.read HHd.out
      have HRi := Lib.hid ri
      have gl : gr < w8.heap.size := by obtain ⟨cs, hcs⟩ := H8.out.r.typ; exact hcs.lt
      have HR7 := Lib.hid r7
      have HR8 := Lib.hid r8
      have HSof : RowKit.Hid (∀ w', Below w8.heap.size w8 w' → (convert 37 9 (.slice (some ⟨rr, 0, none⟩) by_.length cp)).run Tryz.prog w' = .ok (.string (textOf by_)) w' ∧ (convert 37 9 (.slice a8 by_.length c8)).run Tryz.prog w' = .ok (.string (textOf by_)) w' ∧ w'.cell? ⟨gr, 7, none⟩ = some (.slice (some ⟨hb, 0, none⟩) 512 hc) ∧ w'.cell? ⟨gr, 8, none⟩ = some (.int .i64 S2.R) ∧ Below w8.heap.size w8 w') := fun w' hb' => ⟨string_of_ints (P := Tryz.prog) (src := 37) (dst := 9) (c := cp) Tryz.underlying37 Tryz.underlying5 Tryz.underlying9 (HJ8.out.now hb' (Nat.le_refl _)), string_of_ints (P := Tryz.prog) (src := 37) (dst := 9) (c := c8) Tryz.underlying37 Tryz.underlying5 Tryz.underlying9 (HI8.out.now hb' (Nat.le_refl _)), (hb'.cell (p := ⟨gr, 7, none⟩) gl).trans HR7.out, (hb'.cell (p := ⟨gr, 8, none⟩) gl).trans HR8.out, hb'⟩
      clear r7 r8 ri gl
      have hdg : decide ((B : Int) < (by_.length : Int)) = false := by simp; omega
      have hdn : decide (B < by_.length) = false := by simp; omega
      have hdl : ¬ B < by_.length := by omega
      have hwd : (wh != wh) = false := by simp
      have hrd : (S2.R != S2.R) = false := by simp
      have hB1 := Below.drewN' (Below.refl w8.heap.size w8) 1
      refine wp_region_held_drew (S := fun w' => (convert 37 9 (.slice (some ⟨rr, 0, none⟩) by_.length cp)).run Tryz.prog w' = .ok (.string (textOf by_)) w' ∧ (convert 37 9 (.slice a8 by_.length c8)).run Tryz.prog w' = .ok (.string (textOf by_)) w' ∧ w'.cell? ⟨gr, 7, none⟩ = some (.slice (some ⟨hb, 0, none⟩) 512 hc) ∧ w'.cell? ⟨gr, 8, none⟩ = some (.int .i64 S2.R) ∧ Below w8.heap.size w8 w') (by kernel_rfl) (HSof.out _ hB1) (fun hHeld => ?_)
      refine wpAnyH_take (i := 0) (v := ?_) rfl (by kernel_rfl) (by kernel_rfl) (by kernel_rfl) (fun _ _ _ h => h) (Or.inl ⟨by rfl, ?_⟩) (by assumption) ?_
      rotate_left 1
      · intro wq hSw
        (try dsimp only at hSw)
        go_simp
        all_goals (with_reducible rfl)
      (try simp only [Act.put, List.setIfInBounds_toArray, List.set_cons_zero, List.set_cons_succ, List.getElem_toArray, List.getElem_cons_zero, List.getElem_cons_succ])
      refine wpAnyH_take (i := 1) (v := ?_) rfl (by kernel_rfl) (by kernel_rfl) (by kernel_rfl) (fun _ _ _ h => h) (Or.inl ⟨by rfl, ?_⟩) (by assumption) ?_
      rotate_left 1
      · intro wq hSw
        (try dsimp only at hSw)
        go_simp
        all_goals (with_reducible rfl)
      (try simp only [Act.put, List.setIfInBounds_toArray, List.set_cons_zero, List.set_cons_succ, List.getElem_toArray, List.getElem_cons_zero, List.getElem_cons_succ])
      refine wpAnyH_take (i := 2) (v := ?_) rfl (by kernel_rfl) (by kernel_rfl) (by kernel_rfl) (fun _ _ _ h => h) (Or.inl ⟨by rfl, ?_⟩) (by assumption) ?_
      rotate_left 1
      · intro wq hSw
        (try dsimp only at hSw)
        go_simp
        all_goals (with_reducible rfl)
      (try simp only [Act.put, List.setIfInBounds_toArray, List.set_cons_zero, List.set_cons_succ, List.getElem_toArray, List.getElem_cons_zero, List.getElem_cons_succ])
      refine wpAnyH_take (i := 3) (v := ?_) rfl (by kernel_rfl) (by kernel_rfl) (by kernel_rfl) (fun _ _ _ h => h) (Or.inl ⟨by rfl, ?_⟩) (by assumption) ?_
      rotate_left 1
      · intro wq hSw
        (try dsimp only at hSw)
        go_simp
        all_goals (with_reducible rfl)
      (try simp only [Act.put, List.setIfInBounds_toArray, List.set_cons_zero, List.set_cons_succ, List.getElem_toArray, List.getElem_cons_zero, List.getElem_cons_succ])
      refine wpAnyH_take (i := 4) (v := ?_) rfl (by kernel_rfl) (by kernel_rfl) (by kernel_rfl) (fun _ _ _ h => h) (Or.inl ⟨by rfl, ?_⟩) (by assumption) ?_
      rotate_left 1
      · intro wq hSw
        (try dsimp only at hSw)
        go_simp
        all_goals (with_reducible rfl)
      (try simp only [Act.put, List.setIfInBounds_toArray, List.set_cons_zero, List.set_cons_succ, List.getElem_toArray, List.getElem_cons_zero, List.getElem_cons_succ])
      refine wpAnyH_take (i := 5) (v := ?_) rfl (by kernel_rfl) (by kernel_rfl) (by kernel_rfl) (fun _ _ _ h => h) (Or.inl ⟨by rfl, ?_⟩) (by assumption) ?_
      rotate_left 1
      · intro wq hSw
        (try dsimp only at hSw)
        go_simp
        all_goals (with_reducible rfl)
      (try simp only [Act.put, List.setIfInBounds_toArray, List.set_cons_zero, List.set_cons_succ, List.getElem_toArray, List.getElem_cons_zero, List.getElem_cons_succ])
      refine wpAnyH_take (i := 6) (v := ?_) rfl (by kernel_rfl) (by kernel_rfl) (by kernel_rfl) (fun _ _ _ h => h) (Or.inl ⟨by rfl, ?_⟩) (by assumption) ?_
      rotate_left 1
      · intro wq hSw
        (try dsimp only at hSw)
        go_simp
        all_goals (with_reducible rfl)
      (try simp only [Act.put, List.setIfInBounds_toArray, List.set_cons_zero, List.set_cons_succ, List.getElem_toArray, List.getElem_cons_zero, List.getElem_cons_succ])
      refine wpAnyH_take (i := 7) (v := ?_) rfl (by kernel_rfl) (by kernel_rfl) (by kernel_rfl) (fun _ _ _ h => h) (Or.inl ⟨by rfl, ?_⟩) (by assumption) ?_
      rotate_left 1
      · intro wq hSw
        (try dsimp only at hSw)
        go_simp
        (try simp only [hwd, hdg, hrd, hdn, hdl, bne_self_eq_false, decide_false, decide_eq_false hdl])
        all_goals (with_reducible rfl)
      (try simp only [Act.put, List.setIfInBounds_toArray, List.set_cons_zero, List.set_cons_succ, List.getElem_toArray, List.getElem_cons_zero, List.getElem_cons_succ])
      refine wpAnyH_take (i := 8) (v := ?_) rfl (by kernel_rfl) (by kernel_rfl) (by kernel_rfl) (fun _ _ _ h => h) (Or.inl ⟨by rfl, ?_⟩) (by assumption) ?_
      rotate_left 1
      · intro wq hSw
        (try dsimp only at hSw)
        go_simp
        all_goals (with_reducible rfl)
      (try simp only [Act.put, List.setIfInBounds_toArray, List.set_cons_zero, List.set_cons_succ, List.getElem_toArray, List.getElem_cons_zero, List.getElem_cons_succ])
      refine wpAnyH_take (i := 9) (v := ?_) rfl (by kernel_rfl) (by kernel_rfl) (by kernel_rfl) (fun _ _ _ h => h) (Or.inl ⟨by rfl, ?_⟩) (by assumption) ?_
      rotate_left 1
      · intro wq hSw
        (try dsimp only at hSw)
        go_simp
        all_goals (with_reducible rfl)
      (try simp only [Act.put, List.setIfInBounds_toArray, List.set_cons_zero, List.set_cons_succ, List.getElem_toArray, List.getElem_cons_zero, List.getElem_cons_succ])
      refine wpAnyH_take (i := 10) (v := ?_) rfl (by kernel_rfl) (by kernel_rfl) (by kernel_rfl) (fun _ _ _ h => h) (Or.inl ⟨by rfl, ?_⟩) (by assumption) ?_
      rotate_left 1
      · intro wq hSw
        (try dsimp only at hSw)
        go_simp
        all_goals (with_reducible rfl)
      (try simp only [Act.put, List.setIfInBounds_toArray, List.set_cons_zero, List.set_cons_succ, List.getElem_toArray, List.getElem_cons_zero, List.getElem_cons_succ])
      refine wpAnyH_take (i := 11) (v := ?_) rfl (by kernel_rfl) (by kernel_rfl) (by kernel_rfl) (fun _ _ _ h => h) (Or.inl ⟨by rfl, ?_⟩) (by assumption) ?_
      rotate_left 1
      · intro wq hSw
        (try dsimp only at hSw)
        go_simp
        all_goals (with_reducible rfl)
      (try simp only [Act.put, List.setIfInBounds_toArray, List.set_cons_zero, List.set_cons_succ, List.getElem_toArray, List.getElem_cons_zero, List.getElem_cons_succ])
      refine wpAnyH_take (i := 12) (v := ?_) rfl (by kernel_rfl) (by kernel_rfl) (by kernel_rfl) (fun _ _ _ h => h) (Or.inl ⟨by rfl, ?_⟩) (by assumption) ?_
      rotate_left 1
      · intro wq hSw
        (try dsimp only at hSw)
        go_simp
        (try simp only [hwd, hdg, hrd, hdn, hdl, bne_self_eq_false, decide_false, decide_eq_false hdl])
        all_goals (with_reducible rfl)
      (try simp only [Act.put, List.setIfInBounds_toArray, List.set_cons_zero, List.set_cons_succ, List.getElem_toArray, List.getElem_cons_zero, List.getElem_cons_succ])
      refine wpAnyH_take (i := 13) (v := ?_) rfl (by kernel_rfl) (by kernel_rfl) (by kernel_rfl) (fun _ _ _ h => h) (Or.inl ⟨by rfl, ?_⟩) (by assumption) ?_
      rotate_left 1
      · intro wq hSw
        (try dsimp only at hSw)
        go_simp
        all_goals (with_reducible rfl)
      (try simp only [Act.put, List.setIfInBounds_toArray, List.set_cons_zero, List.set_cons_succ, List.getElem_toArray, List.getElem_cons_zero, List.getElem_cons_succ])
      refine wpAnyH_take (i := 14) (v := ?_) rfl (by kernel_rfl) (by kernel_rfl) (by kernel_rfl) (fun _ _ _ h => h) (Or.inl ⟨by rfl, ?_⟩) (by assumption) ?_
      rotate_left 1
      · intro wq hSw
        (try dsimp only at hSw)
        go_simp
        all_goals (with_reducible rfl)
      (try simp only [Act.put, List.setIfInBounds_toArray, List.set_cons_zero, List.set_cons_succ, List.getElem_toArray, List.getElem_cons_zero, List.getElem_cons_succ])
      refine wpAnyH_take (i := 15) (v := ?_) rfl (by kernel_rfl) (by kernel_rfl) (by kernel_rfl) (fun _ _ _ h => h) (Or.inl ⟨by rfl, ?_⟩) (by assumption) ?_
      rotate_left 1
      · intro wq hSw
        (try dsimp only at hSw)
        go_simp
        all_goals (with_reducible rfl)
      (try simp only [Act.put, List.setIfInBounds_toArray, List.set_cons_zero, List.set_cons_succ, List.getElem_toArray, List.getElem_cons_zero, List.getElem_cons_succ])
      refine wpAnyH_take (i := 16) (v := ?_) rfl (by kernel_rfl) (by kernel_rfl) (by kernel_rfl) (fun _ _ _ h => h) (Or.inl ⟨by rfl, ?_⟩) (by assumption) ?_
      rotate_left 1
      · intro wq hSw
        (try dsimp only at hSw)
        go_simp
        all_goals (with_reducible rfl)
      (try simp only [Act.put, List.setIfInBounds_toArray, List.set_cons_zero, List.set_cons_succ, List.getElem_toArray, List.getElem_cons_zero, List.getElem_cons_succ])
      refine wpAnyH_take (i := 17) (v := ?_) rfl (by kernel_rfl) (by kernel_rfl) (by kernel_rfl) (fun _ _ _ h => h) (Or.inl ⟨by rfl, ?_⟩) (by assumption) ?_
      rotate_left 1
      · intro wq hSw
        (try dsimp only at hSw)
        go_simp
        all_goals (with_reducible rfl)
      (try simp only [Act.put, List.setIfInBounds_toArray, List.set_cons_zero, List.set_cons_succ, List.getElem_toArray, List.getElem_cons_zero, List.getElem_cons_succ])
      refine wpAnyH_take (i := 18) (v := ?_) rfl (by kernel_rfl) (by kernel_rfl) (by kernel_rfl) (fun _ _ _ h => h) (Or.inl ⟨by rfl, ?_⟩) (by assumption) ?_
      rotate_left 1
      · intro wq hSw
        (try dsimp only at hSw)
        go_simp
        (try simp only [hwd, hdg, hrd, hdn, hdl, bne_self_eq_false, decide_false, decide_eq_false hdl])
        all_goals (with_reducible rfl)
      (try simp only [Act.put, List.setIfInBounds_toArray, List.set_cons_zero, List.set_cons_succ, List.getElem_toArray, List.getElem_cons_zero, List.getElem_cons_succ])
      refine wpAnyH_take (i := 19) (v := ?_) rfl (by kernel_rfl) (by kernel_rfl) (by kernel_rfl) (fun _ _ _ h => h) (Or.inl ⟨by rfl, ?_⟩) (by assumption) ?_
      rotate_left 1
      · intro wq hSw
        (try dsimp only at hSw)
        go_simp
        all_goals (with_reducible rfl)
      (try simp only [Act.put, List.setIfInBounds_toArray, List.set_cons_zero, List.set_cons_succ, List.getElem_toArray, List.getElem_cons_zero, List.getElem_cons_succ])
      refine wpAnyH_take (i := 20) (v := ?_) rfl (by kernel_rfl) (by kernel_rfl) (by kernel_rfl) (fun _ _ _ h => h) (Or.inl ⟨by rfl, ?_⟩) (by assumption) ?_
      rotate_left 1
      · intro wq hSw
        (try dsimp only at hSw)
        go_simp
        all_goals (with_reducible rfl)
      (try simp only [Act.put, List.setIfInBounds_toArray, List.set_cons_zero, List.set_cons_succ, List.getElem_toArray, List.getElem_cons_zero, List.getElem_cons_succ])
      refine wpAnyH_take (i := 21) (v := ?_) rfl (by kernel_rfl) (by kernel_rfl) (by kernel_rfl) (fun _ _ _ h => h) (Or.inl ⟨by rfl, ?_⟩) (by assumption) ?_
      rotate_left 1
      · intro wq hSw
        (try dsimp only at hSw)
        go_simp
        all_goals (with_reducible rfl)
      (try simp only [Act.put, List.setIfInBounds_toArray, List.set_cons_zero, List.set_cons_succ, List.getElem_toArray, List.getElem_cons_zero, List.getElem_cons_succ])
      refine wpAnyH_take (i := 23) (v := ?_) rfl (by kernel_rfl) (by kernel_rfl) (by kernel_rfl) (fun _ _ _ h => h) (Or.inl ⟨by rfl, ?_⟩) (by assumption) ?_
      rotate_left 1
      · intro wq hSw
        (try dsimp only at hSw)
        go_simp
        all_goals (with_reducible rfl)
      (try simp only [Act.put, List.setIfInBounds_toArray, List.set_cons_zero, List.set_cons_succ, List.getElem_toArray, List.getElem_cons_zero, List.getElem_cons_succ])
      refine wpAnyH_take (i := 24) (v := ?_) rfl (by kernel_rfl) (by kernel_rfl) (by kernel_rfl) (fun _ _ _ h => h) (Or.inl ⟨by rfl, ?_⟩) (by assumption) ?_
      rotate_left 1
      · intro wq hSw
        (try dsimp only at hSw)
        go_simp
        all_goals (with_reducible rfl)
      (try simp only [Act.put, List.setIfInBounds_toArray, List.set_cons_zero, List.set_cons_succ, List.getElem_toArray, List.getElem_cons_zero, List.getElem_cons_succ])
      refine wpAnyH_take (i := 25) (v := ?_) rfl (by kernel_rfl) (by kernel_rfl) (by kernel_rfl) (fun _ _ _ h => h) (Or.inl ⟨by rfl, ?_⟩) (by assumption) ?_
      rotate_left 1
      · intro wq hSw
        (try dsimp only at hSw)
        go_simp
        all_goals (with_reducible rfl)
      (try simp only [Act.put, List.setIfInBounds_toArray, List.set_cons_zero, List.set_cons_succ, List.getElem_toArray, List.getElem_cons_zero, List.getElem_cons_succ])
      refine wpAnyH_take (i := 26) (v := ?_) rfl (by kernel_rfl) (by kernel_rfl) (by kernel_rfl) (fun _ _ _ h => h) (Or.inl ⟨by rfl, ?_⟩) (by assumption) ?_
      rotate_left 1
      · intro wq hSw
        (try dsimp only at hSw)
        go_simp
        all_goals (with_reducible rfl)
      (try simp only [Act.put, List.setIfInBounds_toArray, List.set_cons_zero, List.set_cons_succ, List.getElem_toArray, List.getElem_cons_zero, List.getElem_cons_succ])
      refine wpAnyH_ready (rs := [22]) (by kernel_rfl) (by simp) ?_
      refine AllReadyH.cons rfl (fun K hK => ?_) AllReadyH.nil
      go_simp
      go_at_call 9
      refine (heardC_some (H8.out.c.below hHeld.2.2.2.2) HHd.out).mono ?_
      rintro e11 w9 ⟨a9, c9, rfl, i9, b9⟩
      have HI9 := Lib.hid i9
      have HB9 := Lib.hid (chain hHeld.2.2.2.2 b9)
      clear i9 b9
      refine hK.out _ _ (HSof.out _ HB9.out) (fun _ => ?_)
      clear hK K hHeld
      have hHeld := HSof.out _ HB9.out
      (try simp only [Act.put, List.setIfInBounds_toArray, List.set_cons_zero, List.set_cons_succ, List.getElem_toArray, List.getElem_cons_zero, List.getElem_cons_succ])
      refine wpAnyH_ready (rs := [27]) (by kernel_rfl) (by simp) ?_
      refine AllReadyH.cons rfl (fun K hK => ?_) AllReadyH.nil
      go_simp
      go_at_call 14
      refine (same13_any a9 (some ⟨hb, 0, none⟩) 512 c9 hc (tabF 512 Hf) (tabF 512 Hf) w9 HI9.out (HRi.out.now HB9.out (Nat.le_refl _)) (fun j _ => rfl) (fun j hj => by rw [tabF_getD Hf hj]; exact HSb.out j) (by decide)).mono ?_
      rintro e12 w10 ⟨rfl, i10, hw10⟩
      have HB10 : RowKit.Hid (Below w8.heap.size w8 w10) := by rw [hw10]; exact Below.drewN' HB9.out i10
      clear hw10
      refine hK.out _ _ (HSof.out _ HB10.out) (fun _ => ?_)
      clear hK K hHeld
      have hHeld := HSof.out _ HB10.out
      (try simp only [Act.put, List.setIfInBounds_toArray, List.set_cons_zero, List.set_cons_succ, List.getElem_toArray, List.getElem_cons_zero, List.getElem_cons_succ])
      refine wpAnyH_take (i := 28) (v := ?_) rfl (by kernel_rfl) (by kernel_rfl) (by kernel_rfl) (fun _ _ _ h => h) (Or.inl ⟨by rfl, ?_⟩) (by assumption) ?_
      rotate_left 1
      · intro wq hSw
        (try dsimp only at hSw)
        go_simp
        all_goals (with_reducible rfl)
      (try simp only [Act.put, List.setIfInBounds_toArray, List.set_cons_zero, List.set_cons_succ, List.getElem_toArray, List.getElem_cons_zero, List.getElem_cons_succ])
      refine wpAnyH_take (i := 29) (v := ?_) rfl (by kernel_rfl) (by kernel_rfl) (by kernel_rfl) (fun _ _ _ h => h) (Or.inl ⟨by rfl, ?_⟩) (by assumption) ?_
      rotate_left 1
      · intro wq hSw
        (try dsimp only at hSw)
        go_simp
        all_goals (with_reducible rfl)
      (try simp only [Act.put, List.setIfInBounds_toArray, List.set_cons_zero, List.set_cons_succ, List.getElem_toArray, List.getElem_cons_zero, List.getElem_cons_succ])
      refine wpAnyH_take (i := 30) (v := ?_) rfl (by kernel_rfl) (by kernel_rfl) (by kernel_rfl) (fun _ _ _ h => h) (Or.inl ⟨by rfl, ?_⟩) (by assumption) ?_
      rotate_left 1
      · intro wq hSw
        (try dsimp only at hSw)
        go_simp
        all_goals (with_reducible rfl)
      (try simp only [Act.put, List.setIfInBounds_toArray, List.set_cons_zero, List.set_cons_succ, List.getElem_toArray, List.getElem_cons_zero, List.getElem_cons_succ])
      refine wpAnyH_take (i := 31) (v := ?_) rfl (by kernel_rfl) (by kernel_rfl) (by kernel_rfl) (fun _ _ _ h => h) (Or.inl ⟨by rfl, ?_⟩) (by assumption) ?_
      rotate_left 1
      · intro wq hSw
        (try dsimp only at hSw)
        go_simp
        all_goals (with_reducible rfl)
      (try simp only [Act.put, List.setIfInBounds_toArray, List.set_cons_zero, List.set_cons_succ, List.getElem_toArray, List.getElem_cons_zero, List.getElem_cons_succ])
      refine wpAnyH_take (i := 33) (v := ?_) rfl (by kernel_rfl) (by kernel_rfl) (by kernel_rfl) (fun _ _ _ h => h) (Or.inl ⟨by rfl, ?_⟩) (by assumption) ?_
      rotate_left 1
      · intro wq hSw
        (try dsimp only at hSw)
        go_simp
        all_goals (with_reducible rfl)
      (try simp only [Act.put, List.setIfInBounds_toArray, List.set_cons_zero, List.set_cons_succ, List.getElem_toArray, List.getElem_cons_zero, List.getElem_cons_succ])
      refine wpAnyH_take (i := 34) (v := ?_) rfl (by kernel_rfl) (by kernel_rfl) (by kernel_rfl) (fun _ _ _ h => h) (Or.inl ⟨by rfl, ?_⟩) (by assumption) ?_
      rotate_left 1
      · intro wq hSw
        (try dsimp only at hSw)
        go_simp
        all_goals (with_reducible rfl)
      (try simp only [Act.put, List.setIfInBounds_toArray, List.set_cons_zero, List.set_cons_succ, List.getElem_toArray, List.getElem_cons_zero, List.getElem_cons_succ])
      refine wpAnyH_take (i := 35) (v := ?_) rfl (by kernel_rfl) (by kernel_rfl) (by kernel_rfl) (fun _ _ _ h => h) (Or.inl ⟨by rfl, ?_⟩) (by assumption) ?_
      rotate_left 1
      · intro wq hSw
        (try dsimp only at hSw)
        go_simp
        all_goals (with_reducible rfl)
      (try simp only [Act.put, List.setIfInBounds_toArray, List.set_cons_zero, List.set_cons_succ, List.getElem_toArray, List.getElem_cons_zero, List.getElem_cons_succ])
      refine wpAnyH_take (i := 36) (v := ?_) rfl (by kernel_rfl) (by kernel_rfl) (by kernel_rfl) (fun _ _ _ h => h) (Or.inl ⟨by rfl, ?_⟩) (by assumption) ?_
      rotate_left 1
      · intro wq hSw
        (try dsimp only at hSw)
        go_simp
        all_goals (with_reducible rfl)
      (try simp only [Act.put, List.setIfInBounds_toArray, List.set_cons_zero, List.set_cons_succ, List.getElem_toArray, List.getElem_cons_zero, List.getElem_cons_succ])
      refine wpAnyH_ready (rs := [32]) (by kernel_rfl) (by simp) ?_
      refine AllReadyH.cons rfl (fun K hK => ?_) AllReadyH.nil
      go_simp
      go_at_call 10
      refine (reachC_any (H8.out.c.below HB10.out)).mono ?_
      rintro e13 w11 ⟨rfl, rfl⟩
      refine hK.out _ _ (HSof.out _ HB10.out) (fun _ => ?_)
      clear hK K hHeld
      have hHeld := HSof.out _ HB10.out
      (try simp only [Act.put, List.setIfInBounds_toArray, List.set_cons_zero, List.set_cons_succ, List.getElem_toArray, List.getElem_cons_zero, List.getElem_cons_succ])
      refine wpAnyH_take (i := 37) (v := ?_) rfl (by kernel_rfl) (by kernel_rfl) (by kernel_rfl) (fun _ _ _ h => h) (Or.inl ⟨by rfl, ?_⟩) (by assumption) ?_
      rotate_left 1
      · intro wq hSw
        (try dsimp only at hSw)
        go_simp
        (try simp only [hwd, hdg, hrd, hdn, hdl, bne_self_eq_false, decide_false, decide_eq_false hdl])
        all_goals (with_reducible rfl)
      (try simp only [Act.put, List.setIfInBounds_toArray, List.set_cons_zero, List.set_cons_succ, List.getElem_toArray, List.getElem_cons_zero, List.getElem_cons_succ])
      refine wpAnyH_take (i := 38) (v := ?_) rfl (by kernel_rfl) (by kernel_rfl) (by kernel_rfl) (fun _ _ _ h => h) (Or.inl ⟨by rfl, ?_⟩) (by assumption) ?_
      rotate_left 1
      · intro wq hSw
        (try dsimp only at hSw)
        go_simp
        all_goals (with_reducible rfl)
      (try simp only [Act.put, List.setIfInBounds_toArray, List.set_cons_zero, List.set_cons_succ, List.getElem_toArray, List.getElem_cons_zero, List.getElem_cons_succ])
      refine wpAnyH_done (by kernel_rfl) ?_ _
      clear hHeld
      go_wp2
      go_roundw
      case rel => exact ⟨t + 1, S2, by omega, by go_num, H8.out.now HB10.out, HNx.out, HC8.out.below HB10.out⟩
      case measure => simp [intOf] <;> omega
    · have l1 : ¬ (t : Int) < (len2 : Int) := by omega
      have Z := Lib.hid H.out.1.b
      clear H
      go_wp2
      go_ret
      exact ⟨rfl, Z.out⟩
end Go.Proofs.YtkhhhejmbgloeaaGreat
