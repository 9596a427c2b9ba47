/- Plain facts, and what functions give, for the proofs of this seat: several texts in one, each with its own first remark. -/
import Derived.Test.YtmegkohfnodkjaaGreatHW

/- The walk of PlayerHears. -/
namespace Go.Proofs.YtmegkohfnodkjaaGreat
open Go Go.RowKit
set_option linter.unusedVariables false
set_option linter.unusedSimpArgs false
set_option maxRecDepth 100000

theorem set_wrap14 (x m c : Int) (m0 : 0 < m) (m1 : m ≤ 1000) (c0 : 0 ≤ c) (c1 : c ≤ 1000) : ∃ y, wrap64 (c + wrap64 ((IntKind.u64.wrap x).tmod m)) = y ∧ c ≤ y ∧ y < c + m := by
  have h : IntKind.u64.wrap x = x % 18446744073709551616 := rfl
  have h0 : 0 ≤ x % 18446744073709551616 := Int.emod_nonneg _ (by decide)
  have e : (IntKind.u64.wrap x).tmod m = x % 18446744073709551616 % m := by rw [h, Int.tmod_eq_emod_of_nonneg h0]
  have a := Int.emod_nonneg (x % 18446744073709551616) (show m ≠ 0 by omega)
  have b := Int.emod_lt_of_pos (x % 18446744073709551616) m0
  have e1 : wrap64 (x % 18446744073709551616 % m) = x % 18446744073709551616 % m := IntWalk.wrap64_in _ (by omega)
  have e2 : wrap64 (c + x % 18446744073709551616 % m) = c + x % 18446744073709551616 % m := IntWalk.wrap64_in _ (by omega)
  exact ⟨c + x % 18446744073709551616 % m, by rw [e, e1, e2], by omega, by omega⟩
theorem wrap_6 (n : Int) : ∃ k : Nat, wrap64 ((IntKind.u64.wrap n).tmod 6) = (k : Int) ∧ k < 6 := by
  have h : IntKind.u64.wrap n = n % 18446744073709551616 := rfl
  have h0 : 0 ≤ n % 18446744073709551616 := Int.emod_nonneg _ (by decide)
  have e : (IntKind.u64.wrap n).tmod 6 = n % 18446744073709551616 % 6 := by rw [h, Int.tmod_eq_emod_of_nonneg h0]
  refine ⟨(n % 18446744073709551616 % 6).toNat, ?_, by omega⟩
  rw [e, IntWalk.wrap64_in _ (by omega)]
  omega
/-- More numbers, or more frames, than are tried: only whether it lives. -/
theorem playerHears_many (a a2 : Option Addr) (len cap len2 cap2 : Nat) (x0 x1 x2 : Int) (w : World) (hm : len ≤ 9223372036854775807) (hm2 : len2 ≤ 9223372036854775807) (h : 2000 < len ∨ 6 < len2) :
    Calls Tryz.prog 4 #[.slice a len cap, .agg #[.int .i64 x0, .int .i64 x1, .int .i64 x2], .slice a2 len2 cap2] w fun e w' => e = .returned (.bool true) ∧ Below w.heap.size w w' := by
  have HB := Lib.hid (Below.alloc_new w (.cells #[.int .i64 x0, .int .i64 x1, .int .i64 x2] 60))
  by_cases h1 : 2000 < len
  · have hd : decide ((2000 : Int) < (len : Int)) = true := by simp; omega
    go_enter Tryz.func4, Tryz.ntmps4
    go_wp2_with (go_at_call 6; go_loud (refine (lives14_any _).mono ?_); rintro e w1 ⟨rfl, hb⟩; replace HB := Lib.hid (chain HB.out hb); clear hb)
    go_ret
    exact ⟨rfl, HB.out⟩
  · have hd : decide ((2000 : Int) < (len : Int)) = false := by simp; omega
    have hd2 : decide ((6 : Int) < (len2 : Int)) = true := by simp; omega
    clear h
    go_enter Tryz.func4, Tryz.ntmps4
    go_wp2_with (go_at_call 6; go_loud (refine (lives14_any _).mono ?_); rintro e w1 ⟨rfl, hb⟩; replace HB := Lib.hid (chain HB.out hb); clear hb)
    go_ret
    exact ⟨rfl, HB.out⟩
/-- What is held at a round's head. -/
structure PhIn (w : World) (g ea es p1 s1 p2 s2 : Nat) (Q : Int) (B J t hd : Nat) (S : S13) (T1 T2 : P14) (wr : World) : Prop where
  st : PhSt w g ea es p1 s1 p2 s2 Q B S T1 T2 wr
  ok : S.Ok
  g1 : Goes S T1
  g2 : (hd = 0 ∧ T2 = p14Zero) ∨ (0 < hd ∧ Goes S T2 ∧ T2.has = true)
  hj : 0 < hd → J < t
  hn : hd ≤ t
set_option maxHeartbeats 4000000 in
theorem playerHears_law (a a2 : Option Addr) (len cap len2 cap2 : Nat) (x0 x1 x2 : Int) (zs : List Int) (bs : Nat → Bool) (w : World) (hz : IntsAt w w.heap.size .i16 a len zs) (hzb : ∀ j, -32768 ≤ zs.getD j 0 ∧ zs.getD j 0 ≤ 32767) (hbs : BoolsAt w w.heap.size a2 len2 bs) (hl : len ≤ 2000) (hl2 : len2 ≤ 6) :
    Calls Tryz.prog 4 #[.slice a len cap, .agg #[.int .i64 x0, .int .i64 x1, .int .i64 x2], .slice a2 len2 cap2] w fun e w' => e = .returned (.bool true) ∧ Below w.heap.size w w' := by
  have HB := Lib.hid (Below.alloc_new w (.cells #[.int .i64 x0, .int .i64 x1, .int .i64 x2] 60))
  have HC := Lib.hid (Cel.new w 60 #[.int .i64 x0, .int .i64 x1, .int .i64 x2])
  have HZ := Lib.hid hz
  have HZb := Lib.hid hzb
  have HBs := Lib.hid hbs
  have hd : decide ((2000 : Int) < (len : Int)) = false := by simp; omega
  have hd2 : decide ((6 : Int) < (len2 : Int)) = false := by simp; omega
  obtain ⟨Q, hQ, q0, q1⟩ := set_wrap14 x0 10 1 (by decide) (by decide) (by decide) (by decide)
  obtain ⟨Bi, hBi, b0, b1⟩ := set_wrap14 x1 500 32 (by decide) (by decide) (by decide) (by decide)
  obtain ⟨J, hJ, hJ6⟩ := wrap_6 x2
  obtain ⟨B, rfl⟩ : ∃ B : Nat, Bi = (B : Int) := ⟨Bi.toNat, by omega⟩
  have hQq := Lib.hid (show 1 ≤ Q ∧ Q ≤ 10 by omega)
  have hBb := Lib.hid (show 32 ≤ B ∧ B ≤ 600 by omega)
  clear hz hbs hzb b0 b1 q0 q1
  go_enter Tryz.func4, Tryz.ntmps4
  go_wp2_with (first
    | (go_at_call 8; have h4 := H4.out; clear h4; go_loud (refine (pNew_any _).mono ?_); rintro e w5 ⟨p2, s2, rfl, h5, y1, y2, b5⟩; have H5 : RowKit.Hid (PhSt w g ea es p1 s1 p2 s2 Q B s13Zero p14Zero p14Zero w5) := (by have hz := HS4.out; have hs := H4.out.2.1.size; have hp := H4.out.2.2.2.typs; have hl1 := hp.1.lt; have hl2 := hp.2.lt; have hl3 := H4.out.1.typs.2.2.lt; exact ⟨chain H4.out.2.1 b5, H4.out.1.below b5, H4.out.2.2.2.below b5, h5, ⟨hz.1, hz.2, by omega, by omega⟩, ⟨H4.out.2.2.1, by omega, by omega, by omega⟩⟩); clear h5 y1 y2 b5)
    | (go_at_call 8; go_loud (refine (pNew_any _).mono ?_); rintro e w4 ⟨p1, s1, rfl, h4, y1, y2, b4⟩; have H4 : RowKit.Hid (CodAt w4 g ea es Q B s13Zero ∧ Below w.heap.size w w4 ∧ es ≠ s1 ∧ PlyAt w4 p1 s1 p14Zero) := ⟨H3.out.1.below b4, chain H3.out.2.1 b4, (by have := H3.out.1.typs.2.2.lt; omega), h4⟩; have HS4 : RowKit.Hid ((w.heap.size ≤ g ∧ w.heap.size ≤ ea ∧ w.heap.size ≤ es) ∧ (w.heap.size ≤ p1 ∧ w.heap.size ≤ s1)) := ⟨H3.out.2.2, by have := H3.out.2.1.size; omega, by have := H3.out.2.1.size; omega⟩; clear h4 y1 y2 b4)
    | (go_at_call 21; go_loud (refine (cNew_any Q B _ hQq.out.1 hQq.out.2 hBb.out.1 hBb.out.2).mono ?_); rintro e w3 ⟨g, ea, es, rfl, h3, y1, y2, y3, b3⟩; have H3 : RowKit.Hid (CodAt w3 g ea es Q B s13Zero ∧ Below w.heap.size w w3 ∧ w.heap.size ≤ g ∧ w.heap.size ≤ ea ∧ w.heap.size ≤ es) := ⟨h3, chain HB1.out b3, Nat.le_trans HB1.out.size y1, Nat.le_trans HB1.out.size y2, Nat.le_trans HB1.out.size y3⟩; have c2 : w3.cell? ⟨w.heap.size, 2, none⟩ = some (.int .i64 x2) := (HC1.out.below b3).cell 2; clear h3 y1 y2 y3 b3)
    | (go_at_call 6; go_loud (refine (lives14_any _).mono ?_); rintro e w1 ⟨rfl, hb⟩; have HC1 := Lib.hid (HC.out.below hb); have HB1 := Lib.hid (chain HB.out hb); clear hb; have e0 : w1.cell? ⟨w.heap.size, 0, none⟩ = some (.int .i64 x0) := HC1.out.cell 0; have e1 : w1.cell? ⟨w.heap.size, 1, none⟩ = some (.int .i64 x1) := HC1.out.cell 1))
  have HI0 : RowKit.Hid (PhIn w g ea es p1 s1 p2 s2 Q B J 0 0 s13Zero p14Zero p14Zero w5) := ⟨H5.out, s13Zero_ok, goes_zero, .inl ⟨rfl, rfl⟩, fun h => by omega, by omega⟩
  clear hd hd2 hQ hBi hJ H5 H4 HS4 H3 HB1 HC1 HC HB e0 e1 c2
  go_loopw [12, 62] (fun u i wr => ∃ (t hd : Nat) (S : S13) (T1 T2 : P14), t ≤ len2 ∧ u = .int .i64 ((hd : Nat) : Int) ∧ i = .int .i64 ((t : Nat) : Int) ∧ RowKit.Hid (PhIn w g ea es p1 s1 p2 s2 Q B J t hd S T1 T2 wr)) (fun _ i _ => len2 - (intOf i).toNat)
  case atStart => exact ⟨0, 0, s13Zero, p14Zero, p14Zero, by omega, rfl, rfl, HI0.out⟩
  case round =>
    obtain ⟨t, hd, S, T1, T2, ht, rfl, rfl, H⟩ := hrel
    clear HI0
    by_cases hlt : t < len2
    · obtain ⟨bb, bo, rfl, bbl, hbc⟩ := HBs.out.at_ hlt
      have k1 := (H.out.st.b.cell (p := ⟨bb, bo + t, none⟩) bbl).trans (hbc t hlt)
      clear hbc
      generalize bs t = b at k1
      have HOk := Lib.hid (S.F_ok (Q := Q) (B := B) hQq.out hBb.out (frmF zs len (512 * t)) b)
      have HNx : RowKit.Hid ((S.next Q B (frmF zs len (512 * t)) t b).Ok) := S13.Ok.next Q B (fun i _ => frmF_bd HZb.out _ _) t b
      have HHd : RowKit.Hid ((S.next Q B (frmF zs len (512 * t)) t b).hd = some (samplesF (briefF S.P (frmF zs len (512 * t))) ((S.F Q B (frmF zs len (512 * t)) b).held t) S.left)) := rfl
      have HG := Lib.hid (H.out.g1.next (Q := Q) (B := B) (f := frmF zs len (512 * t)) (r := b) (t : Int) HOk.out)
      have HGl : RowKit.Hid (∀ T : P14, ((b || S.fs) = true ∨ (T.has = true ∧ T.ah = S.ah)) → T.may (S.F Q B (frmF zs len (512 * t)) b).bytes ∧ Goes (S.next Q B (frmF zs len (512 * t)) t b) (T.play (S.F Q B (frmF zs len (512 * t)) b).bytes t)) := fun T hT => by
        obtain ⟨h1, h2, _⟩ := goes_play (T := T) (t : Int) HOk.out hT
        exact ⟨h1, h2⟩
      have HGx : RowKit.Hid (0 < hd → T2.may (S.F Q B (frmF zs len (512 * t)) b).bytes ∧ Goes (S.next Q B (frmF zs len (512 * t)) t b) (T2.play (S.F Q B (frmF zs len (512 * t)) b).bytes t) ∧ T2.plays (S.F Q B (frmF zs len (512 * t)) b).bytes t = samplesF (briefF S.P (frmF zs len (512 * t))) ((S.F Q B (frmF zs len (512 * t)) b).held t) S.left) := fun h0 => by
        rcases H.out.g2 with ⟨h1, _⟩ | ⟨_, h1, _⟩
        · omega
        · exact h1.next (t : Int) HOk.out
      have HLe := Lib.hid HOk.out.len
      have HBd := Lib.hid (S.F Q B (frmF zs len (512 * t)) b).bytes_bd
      have HEn : RowKit.Hid (∀ (x : Nat) (wx : World), CodAt wx g ea es Q B S → IFun wx x 68 .i16 512 (frmF zs len (512 * t)) → Calls Tryz.prog 22 #[.pointer (some ⟨g, 0, none⟩), .int .u32 (t : Int), .slice (some ⟨x, 0, none⟩) 512 512, .bool b] wx (EncodePost g ea es Q B S (frmF zs len (512 * t)) t b wx)) := fun x wx h1 h2 => cEncode_any g ea es x Q B S (frmF zs len (512 * t)) t b wx h1 H.out.ok hQq.out hBb.out h2 (fun i _ => frmF_bd HZb.out _ _) (by omega) (by omega)
      obtain ⟨S2, hS2⟩ : ∃ S2, S2 = S.next Q B (frmF zs len (512 * t)) t b := ⟨_, rfl⟩
      obtain ⟨Hf, hHf⟩ : ∃ Hf, Hf = samplesF (briefF S.P (frmF zs len (512 * t))) ((S.F Q B (frmF zs len (512 * t)) b).held t) S.left := ⟨_, rfl⟩
      obtain ⟨by_, hby⟩ : ∃ by_, by_ = (S.F Q B (frmF zs len (512 * t)) b).bytes := ⟨_, rfl⟩
      obtain ⟨wh, hwh⟩ : ∃ wh, wh = (b || S.fs) := ⟨_, rfl⟩
      unfold EncodePost at HEn
      rw [← hby, ← hwh, ← hS2] at HEn
      rw [← hS2] at HNx
      rw [← hS2, ← hHf] at HHd
      rw [← hS2, ← hHf, ← hby] at HG HGx
      rw [← hS2, ← hby, ← hwh] at HGl
      rw [← hby] at HLe HBd
      clear hS2 hHf hby hwh
      obtain ⟨n, hn⟩ : ∃ n, n = by_.length := ⟨_, rfl⟩
      rw [← hn] at HLe HEn
      clear hn
      obtain ⟨T, hT⟩ : ∃ T, T = 512 * t := ⟨_, rfl⟩
      have e1 : 512 * (t : Int) = (T : Int) := by omega
      rw [← hT] at HEn
      have HTt := Lib.hid hT
      have T1b : T ≤ 3072 := by omega
      have l1 : (t : Int) < (len2 : Int) := by omega
      have v3 : IntKind.u32.wrap (t : Int) = (t : Int) := IntWalk.u32_in _ (by omega)
      have HTb : RowKit.Hid ((0 : Int) ≤ (t : Int) ∧ (t : Int) ≤ 4294967295) := ⟨by omega, by omega⟩
      clear hT
      by_cases hj : t < J
      · have l2 : (t : Int) < (J : Int) := by omega
        have h0 : hd = 0 := by
          rcases Nat.eq_zero_or_pos hd with e | e
          · exact e
          · have := H.out.hj e; omega
        have HT2 : RowKit.Hid (T2 = p14Zero) := by
          rcases H.out.g2 with ⟨_, e⟩ | ⟨e, _⟩
          · exact e
          · omega
        subst h0
        go_wp2_with (first
          | (go_at_call 23; have h8 := H8.out; clear h8; go_loud (refine (equal16_same _ _ 512 _ _ (tabF 512 Hf) _ (IFun.ints HX8.out (by decide)) HI8.out (by decide)).mono ?_); rintro e w9 ⟨rfl, q9, hw9⟩; have HW9 := Lib.hid hw9; clear hw9; have H9 : RowKit.Hid (PhSt w g ea es p1 s1 p2 s2 Q B S2 (T1.play by_ t) T2 w9) := (by show PhSt _ _ _ _ _ _ _ _ _ _ _ _ _ _; rw [HW9.out]; exact H8.out.now (Below.drewN' (Below.refl _ _) q9)); have HJ9 : RowKit.Hid (IntsAt w9 w9.heap.size .u8 (some ⟨rr, 0, none⟩) n by_) := (by show IntsAt _ _ _ _ _ _; rw [HW9.out]; exact HJ8.out); clear H8)
          | (go_at_call 24; have h7 := H7.out; clear h7; go_loud (refine (heardC_some H7.out.c HHd.out).mono ?_); rintro e w8 ⟨a8, c8, rfl, i8, b8⟩; have HI8 := Lib.hid i8; have HX8 := Lib.hid (HX7.out.below b8 HX7.out.lt); have HJ8 := Lib.hid (HJ7.out.now b8 (Nat.le_refl _)); have H8 := Lib.hid (H7.out.now b8); clear i8 b8 H7)
          | (go_at_call 18; have h6 := H6.out; clear h6; go_loud (refine (pPlay_any T1 by_ t p1 s1 (some ⟨rr, 0, none⟩) n cp _ H6.out.p H.out.g1.ok HI6.out (fun e => by cases e) HBd.out (by have := HLe.out; omega) HTb.out.1 HTb.out.2).mono ?_); rintro e w7 (⟨_, r7, rfl, i7, s7, p7, k7⟩ | ⟨hh, _⟩); (case inr => exact absurd HG.out.1 hh); rw [HG.out.2.2] at i7; have HX7 := Lib.hid i7; have HJ7 := Lib.hid (bytes_far HI6.out k7 H6.out.p.odd8); have H7 := Lib.hid (H6.out.first p7 k7); clear i7 s7 p7 k7 H6)
          | (go_at_call 22; go_loud (refine (HEn.out x _ H5.out.c HX.out).mono ?_); rintro e w6 ⟨rr, cp, rfl, i6, c6, k6⟩; have HI6 := Lib.hid i6; have H6 := Lib.hid (H5.out.code c6 k6); clear i6 c6 k6)
          | (go_at_call 14; go_loud (refine (frame14_any a len cap T zs wr (HZ.out.now H.out.st.b (Nat.le_refl _)) (by omega) (by omega)).mono ?_); rintro e w5 ⟨x, rfl, i5, s5, z5⟩; have HX := Lib.hid i5; have H5 := Lib.hid (H.out.st.now z5); clear i5 s5 z5))
        go_roundw
        case rel => exact ⟨t + 1, 0, S2, T1.play by_ t, T2, by omega, rfl, by go_num, H9.out, HNx.out, HG.out.2.1, .inl ⟨rfl, HT2.out⟩, fun h => by omega, by omega⟩
        case measure => simp [intOf] <;> omega
      · have l2 : ¬ (t : Int) < (J : Int) := by omega
        by_cases h0 : hd = 0
        · subst h0
          have HT2 : RowKit.Hid (T2 = p14Zero) := by
            rcases H.out.g2 with ⟨_, e⟩ | ⟨e, _⟩
            · exact e
            · omega
          cases wh with
          | false =>
            go_wp2_with (first
              | (go_at_call 23; have h8 := H8.out; clear h8; go_loud (refine (equal16_same _ _ 512 _ _ (tabF 512 Hf) _ (IFun.ints HX8.out (by decide)) HI8.out (by decide)).mono ?_); rintro e w9 ⟨rfl, q9, hw9⟩; have HW9 := Lib.hid hw9; clear hw9; have H9 : RowKit.Hid (PhSt w g ea es p1 s1 p2 s2 Q B S2 (T1.play by_ t) T2 w9) := (by show PhSt _ _ _ _ _ _ _ _ _ _ _ _ _ _; rw [HW9.out]; exact H8.out.now (Below.drewN' (Below.refl _ _) q9)); have HJ9 : RowKit.Hid (IntsAt w9 w9.heap.size .u8 (some ⟨rr, 0, none⟩) n by_) := (by show IntsAt _ _ _ _ _ _; rw [HW9.out]; exact HJ8.out); clear H8)
              | (go_at_call 24; have h7 := H7.out; clear h7; go_loud (refine (heardC_some H7.out.c HHd.out).mono ?_); rintro e w8 ⟨a8, c8, rfl, i8, b8⟩; have HI8 := Lib.hid i8; have HX8 := Lib.hid (HX7.out.below b8 HX7.out.lt); have HJ8 := Lib.hid (HJ7.out.now b8 (Nat.le_refl _)); have H8 := Lib.hid (H7.out.now b8); clear i8 b8 H7)
              | (go_at_call 18; have h6 := H6.out; clear h6; go_loud (refine (pPlay_any T1 by_ t p1 s1 (some ⟨rr, 0, none⟩) n cp _ H6.out.p H.out.g1.ok HI6.out (fun e => by cases e) HBd.out (by have := HLe.out; omega) HTb.out.1 HTb.out.2).mono ?_); rintro e w7 (⟨_, r7, rfl, i7, s7, p7, k7⟩ | ⟨hh, _⟩); (case inr => exact absurd HG.out.1 hh); rw [HG.out.2.2] at i7; have HX7 := Lib.hid i7; have HJ7 := Lib.hid (bytes_far HI6.out k7 H6.out.p.odd8); have H7 := Lib.hid (H6.out.first p7 k7); clear i7 s7 p7 k7 H6)
              | (go_at_call 22; go_loud (refine (HEn.out x _ H5.out.c HX.out).mono ?_); rintro e w6 ⟨rr, cp, rfl, i6, c6, k6⟩; have HI6 := Lib.hid i6; have H6 := Lib.hid (H5.out.code c6 k6); clear i6 c6 k6)
              | (go_at_call 14; go_loud (refine (frame14_any a len cap T zs wr (HZ.out.now H.out.st.b (Nat.le_refl _)) (by omega) (by omega)).mono ?_); rintro e w5 ⟨x, rfl, i5, s5, z5⟩; have HX := Lib.hid i5; have H5 := Lib.hid (H.out.st.now z5); clear i5 s5 z5))
            go_roundw
            case rel => exact ⟨t + 1, 0, S2, T1.play by_ t, T2, by omega, rfl, by go_num, H9.out, HNx.out, HG.out.2.1, .inl ⟨rfl, HT2.out⟩, fun h => by omega, by omega⟩
            case measure => simp [intOf] <;> omega
          | true =>
            have HOk2 : RowKit.Hid T2.Ok := by show T2.Ok; rw [HT2.out]; exact p14Zero_ok
            have HM2 : RowKit.Hid (T2.may by_) := (HGl.out T2 (.inl rfl)).1
            have HG2 : RowKit.Hid (Goes S2 (T2.play by_ t)) := (HGl.out T2 (.inl rfl)).2
            go_wp2_with (first
              | (go_at_call 18; have h9 := H9.out; clear h9; go_loud (refine (pPlay_any T2 by_ t p2 s2 (some ⟨rr, 0, none⟩) n cp _ H9.out.q HOk2.out HJ9.out (fun e => by cases e) HBd.out (by have := HLe.out; omega) HTb.out.1 HTb.out.2).mono ?_); rintro e w10 (⟨_, r10, rfl, i10, s10, p10, k10⟩ | ⟨hh, _⟩); (case inr => exact absurd HM2.out hh); have HX10 := Lib.hid i10; have H10 := Lib.hid (H9.out.late p10 k10); clear i10 s10 p10 k10 H9)
              | (go_at_call 23; have h8 := H8.out; clear h8; go_loud (refine (equal16_same _ _ 512 _ _ (tabF 512 Hf) _ (IFun.ints HX8.out (by decide)) HI8.out (by decide)).mono ?_); rintro e w9 ⟨rfl, q9, hw9⟩; have HW9 := Lib.hid hw9; clear hw9; have H9 : RowKit.Hid (PhSt w g ea es p1 s1 p2 s2 Q B S2 (T1.play by_ t) T2 w9) := (by show PhSt _ _ _ _ _ _ _ _ _ _ _ _ _ _; rw [HW9.out]; exact H8.out.now (Below.drewN' (Below.refl _ _) q9)); have HJ9 : RowKit.Hid (IntsAt w9 w9.heap.size .u8 (some ⟨rr, 0, none⟩) n by_) := (by show IntsAt _ _ _ _ _ _; rw [HW9.out]; exact HJ8.out); clear H8)
              | (go_at_call 24; have h7 := H7.out; clear h7; go_loud (refine (heardC_some H7.out.c HHd.out).mono ?_); rintro e w8 ⟨a8, c8, rfl, i8, b8⟩; have HI8 := Lib.hid i8; have HX8 := Lib.hid (HX7.out.below b8 HX7.out.lt); have HJ8 := Lib.hid (HJ7.out.now b8 (Nat.le_refl _)); have H8 := Lib.hid (H7.out.now b8); clear i8 b8 H7)
              | (go_at_call 18; have h6 := H6.out; clear h6; go_loud (refine (pPlay_any T1 by_ t p1 s1 (some ⟨rr, 0, none⟩) n cp _ H6.out.p H.out.g1.ok HI6.out (fun e => by cases e) HBd.out (by have := HLe.out; omega) HTb.out.1 HTb.out.2).mono ?_); rintro e w7 (⟨_, r7, rfl, i7, s7, p7, k7⟩ | ⟨hh, _⟩); (case inr => exact absurd HG.out.1 hh); rw [HG.out.2.2] at i7; have HX7 := Lib.hid i7; have HJ7 := Lib.hid (bytes_far HI6.out k7 H6.out.p.odd8); have H7 := Lib.hid (H6.out.first p7 k7); clear i7 s7 p7 k7 H6)
              | (go_at_call 22; go_loud (refine (HEn.out x _ H5.out.c HX.out).mono ?_); rintro e w6 ⟨rr, cp, rfl, i6, c6, k6⟩; have HI6 := Lib.hid i6; have H6 := Lib.hid (H5.out.code c6 k6); clear i6 c6 k6)
              | (go_at_call 14; go_loud (refine (frame14_any a len cap T zs wr (HZ.out.now H.out.st.b (Nat.le_refl _)) (by omega) (by omega)).mono ?_); rintro e w5 ⟨x, rfl, i5, s5, z5⟩; have HX := Lib.hid i5; have H5 := Lib.hid (H.out.st.now z5); clear i5 s5 z5))
            go_roundw
            case rel => exact ⟨t + 1, 1, S2, T1.play by_ t, T2.play by_ t, by omega, by go_num, by go_num, H10.out, HNx.out, HG.out.2.1, .inr ⟨by omega, HG2.out, rfl⟩, fun h => by omega, by omega⟩
            case measure => simp [intOf] <;> omega
        · have l3 : ((hd : Int) == 0) = false := by simp; omega
          have l4 : (0 : Int) < (hd : Int) := by omega
          have h1 : 0 < hd := by omega
          have HOk2 : RowKit.Hid T2.Ok := by
            rcases H.out.g2 with ⟨e, _⟩ | ⟨_, e, _⟩
            · exact absurd e h0
            · exact e.ok
          have HM2 : RowKit.Hid (T2.may by_) := (HGx.out h1).1
          have HG2 : RowKit.Hid (Goes S2 (T2.play by_ t)) := (HGx.out h1).2.1
          have HPl : RowKit.Hid (T2.plays by_ t = Hf) := (HGx.out h1).2.2
          have hh6 := H.out.hn
          clear h1
          go_wp2_with (first
            | (go_at_call 23; have h11 := H11.out; clear h11; go_loud (refine (equal16_same _ _ 512 _ _ (tabF 512 Hf) _ (by have := IFun.ints HX11.out (by decide); rw [HPl.out] at this; exact this) HI11.out (by decide)).mono ?_); rintro e w12 ⟨rfl, q12, hw12⟩; have HW12 := Lib.hid hw12; clear hw12; have H12 : RowKit.Hid (PhSt w g ea es p1 s1 p2 s2 Q B S2 (T1.play by_ t) (T2.play by_ t) w12) := (by show PhSt _ _ _ _ _ _ _ _ _ _ _ _ _ _; rw [HW12.out]; exact H11.out.now (Below.drewN' (Below.refl _ _) q12)); clear H11)
            | (go_at_call 24; have h10 := H10.out; clear h10; go_loud (refine (heardC_some H10.out.c HHd.out).mono ?_); rintro e w11 ⟨a11, c11, rfl, i11, b11⟩; have HI11 := Lib.hid i11; have HX11 := Lib.hid (HX10.out.below b11 HX10.out.lt); have H11 := Lib.hid (H10.out.now b11); clear i11 b11 H10)
            | (go_at_call 18; have h9 := H9.out; clear h9; go_loud (refine (pPlay_any T2 by_ t p2 s2 (some ⟨rr, 0, none⟩) n cp _ H9.out.q HOk2.out HJ9.out (fun e => by cases e) HBd.out (by have := HLe.out; omega) HTb.out.1 HTb.out.2).mono ?_); rintro e w10 (⟨_, r10, rfl, i10, s10, p10, k10⟩ | ⟨hh, _⟩); (case inr => exact absurd HM2.out hh); have HX10 := Lib.hid i10; have H10 := Lib.hid (H9.out.late p10 k10); clear i10 s10 p10 k10 H9)
            | (go_at_call 23; have h8 := H8.out; clear h8; go_loud (refine (equal16_same _ _ 512 _ _ (tabF 512 Hf) _ (IFun.ints HX8.out (by decide)) HI8.out (by decide)).mono ?_); rintro e w9 ⟨rfl, q9, hw9⟩; have HW9 := Lib.hid hw9; clear hw9; have H9 : RowKit.Hid (PhSt w g ea es p1 s1 p2 s2 Q B S2 (T1.play by_ t) T2 w9) := (by show PhSt _ _ _ _ _ _ _ _ _ _ _ _ _ _; rw [HW9.out]; exact H8.out.now (Below.drewN' (Below.refl _ _) q9)); have HJ9 : RowKit.Hid (IntsAt w9 w9.heap.size .u8 (some ⟨rr, 0, none⟩) n by_) := (by show IntsAt _ _ _ _ _ _; rw [HW9.out]; exact HJ8.out); clear H8)
            | (go_at_call 24; have h7 := H7.out; clear h7; go_loud (refine (heardC_some H7.out.c HHd.out).mono ?_); rintro e w8 ⟨a8, c8, rfl, i8, b8⟩; have HI8 := Lib.hid i8; have HX8 := Lib.hid (HX7.out.below b8 HX7.out.lt); have HJ8 := Lib.hid (HJ7.out.now b8 (Nat.le_refl _)); have H8 := Lib.hid (H7.out.now b8); clear i8 b8 H7)
            | (go_at_call 18; have h6 := H6.out; clear h6; go_loud (refine (pPlay_any T1 by_ t p1 s1 (some ⟨rr, 0, none⟩) n cp _ H6.out.p H.out.g1.ok HI6.out (fun e => by cases e) HBd.out (by have := HLe.out; omega) HTb.out.1 HTb.out.2).mono ?_); rintro e w7 (⟨_, r7, rfl, i7, s7, p7, k7⟩ | ⟨hh, _⟩); (case inr => exact absurd HG.out.1 hh); rw [HG.out.2.2] at i7; have HX7 := Lib.hid i7; have HJ7 := Lib.hid (bytes_far HI6.out k7 H6.out.p.odd8); have H7 := Lib.hid (H6.out.first p7 k7); clear i7 s7 p7 k7 H6)
            | (go_at_call 22; go_loud (refine (HEn.out x _ H5.out.c HX.out).mono ?_); rintro e w6 ⟨rr, cp, rfl, i6, c6, k6⟩; have HI6 := Lib.hid i6; have H6 := Lib.hid (H5.out.code c6 k6); clear i6 c6 k6)
            | (go_at_call 14; go_loud (refine (frame14_any a len cap T zs wr (HZ.out.now H.out.st.b (Nat.le_refl _)) (by omega) (by omega)).mono ?_); rintro e w5 ⟨x, rfl, i5, s5, z5⟩; have HX := Lib.hid i5; have H5 := Lib.hid (H.out.st.now z5); clear i5 s5 z5))
          go_roundw
          case rel => exact ⟨t + 1, hd + 1, S2, T1.play by_ t, T2.play by_ t, by omega, by go_num, by go_num, H12.out, HNx.out, HG.out.2.1, .inr ⟨by omega, HG2.out, rfl⟩, fun h => by omega, by omega⟩
          case measure => simp [intOf] <;> omega
    · obtain rfl : t = len2 := by omega
      have l1 : ¬ (t : Int) < (t : Int) := by omega
      go_wp2
      go_ret
      exact ⟨rfl, H.out.st.b⟩
end Go.Proofs.YtmegkohfnodkjaaGreat
