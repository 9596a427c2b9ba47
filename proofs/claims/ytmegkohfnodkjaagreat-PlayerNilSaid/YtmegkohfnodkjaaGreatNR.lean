/- Plain facts, and what functions give, for the proofs of this seat: several texts in one, each with its own first remark. -/
import Derived.Test.YtmegkohfnodkjaaGreatNy
import Derived.Test.YtmegkohfnodkjaaGreatNK
import Derived.Test.YtmegkohfnodkjaaGreatND
import Derived.Test.YtmegkohfnodkjaaGreatNQ
import Derived.Test.YtmegkohfnodkjaaGreatNO
import Derived.Deep.Grids
import Derived.Test.YtmegkohfnodkjaaGreatNa

/- The law's own functions: frames, the same samples. -/
namespace Go.Proofs.YtmegkohfnodkjaaGreat
open Go Go.RowKit
set_option linter.unusedVariables false
set_option linter.unusedSimpArgs false
set_option maxRecDepth 100000

set_option maxRecDepth 100000 in
theorem frame14_any (a : Option Addr) (len cap fr : Nat) (zs : List Int) (w : World) (hl : IntsAt w w.heap.size .i16 a len zs) (hlen : len ≤ 3000) (hf : fr ≤ 100000) :
    Calls Tryz.prog 14 #[.slice a len cap, .int .i64 fr] w (RowPost .i16 68 512 (frmF zs len fr) w) := by
  have HL := Lib.hid hl
  have hmk : ∀ w : World, (Instr.makeSlice 22 (.int .i64 512) (.int .i64 512)).run Tryz.prog w = .ok (.slice (some ⟨w.heap.size, 0, none⟩) 512 512) (w.alloc (.cells (madeCells #[.int .i16 0] 512) 68)) :=
    fun w => make_zeros (P := Tryz.prog) Tryz.underlying22 infoC_i16 512 (by decide) (by decide) w
  have H0 : RowKit.Hid (IFun (w.alloc (.cells (madeCells #[.int .i16 0] 512) 68)) w.heap.size 68 .i16 512 (upTo (frmF zs len fr) (fun _ => 0) 0) ∧ Below w.heap.size w (w.alloc (.cells (madeCells #[.int .i16 0] 512) 68))) :=
    ⟨IFun.ext (IFun.zeros w 68 .i16 512) fun j _ => (upTo_start (frmF zs len fr) (fun _ => 0) j).symm, Below.alloc_new w _⟩
  clear hl
  generalize madeCells #[Value.int .i16 0] 512 = mc at H0 hmk
  go_enter Tryz.func14, Tryz.ntmps14
  go_wp2
  clear hmk
  generalize hg : w.heap.size = g at H0 ⊢
  generalize (w.alloc (.cells mc 68)) = w1 at H0 ⊢
  go_loopw [10] (fun i wr => ∃ k : Nat, k ≤ 512 ∧ i = .int .i64 (k : Int) ∧ RowKit.Hid (IFun wr g 68 .i16 512 (upTo (frmF zs len fr) (fun _ => 0) k) ∧ Below g w wr)) (fun i _ => 512 - (intOf i).toNat)
  case atStart => exact ⟨0, by omega, rfl, H0.out⟩
  case round =>
    obtain ⟨k, hk, rfl, HI⟩ := hrel
    clear H0
    by_cases hlt : k < 512
    · have o1 := HI.out.1.cell (j := k) (by omega)
      rw [upTo_here] at o1
      have f1 := HI.out.1.frozen k
      have HS : RowKit.Hid (IFun (wr.setCell ⟨g, k, none⟩ (.int .i16 (frmF zs len fr k))) g 68 .i16 512 (upTo (frmF zs len fr) (fun _ => 0) (k + 1)) ∧ Below g w (wr.setCell ⟨g, k, none⟩ (.int .i16 (frmF zs len fr k)))) :=
        ⟨IFun.ext (HI.out.1.set (j := k) (by omega) (frmF zs len fr k)) fun j _ => upTo_next _ _ k j, Below.setCell (p := ⟨g, k, none⟩) HI.out.2 (Nat.le_refl _) _⟩
      have l1 : (k : Int) < 512 := by omega
      by_cases hl0 : len = 0
      · have HN : RowKit.Hid (IFun wr g 68 .i16 512 (upTo (frmF zs len fr) (fun _ => 0) (k + 1)) ∧ Below g w wr) := ⟨IFun.ext HI.out.1 fun i _ => by
          unfold upTo frmF
          rw [if_pos hl0]
          split <;> split <;> rfl, HI.out.2⟩
        have ll : ¬ 0 < (len : Int) := by omega
        clear HI HS hl0
        go_wp2
        go_roundw
        case rel => exact ⟨k + 1, by omega, by go_num, HN.out⟩
        case measure => simp [intOf] <;> omega
      · obtain ⟨m, hm⟩ : ∃ m, m = (fr + k) % len := ⟨_, rfl⟩
        have hml : m < len := by rw [hm]; exact Nat.mod_lt _ (by omega)
        have f3 : ((fr : Int) + (k : Int)) % (len : Int) = (m : Int) := by rw [hm]; simp
        have f4 : ((fr : Int) + (k : Int)).tmod (len : Int) = (m : Int) := by rw [Int.tmod_eq_emod_of_nonneg (by omega)]; exact f3
        obtain ⟨b, off, rfl, hbl, _, hc⟩ := HL.out.at_ hml
        have k1 := (HI.out.2.cell (p := ⟨b, off + m, none⟩) (by rw [← hg]; exact hbl)).trans hc
        have HE : RowKit.Hid (zs.getD m 0 = frmF zs len fr k) := by show _ = _; unfold frmF; rw [if_neg hl0, hm]
        rw [← HE.out] at HS
        clear HI hm hc HE
        generalize zs.getD m 0 = y at k1 HS
        have l2 : (m : Int) < (len : Int) := by omega
        have l3 : ¬ (len : Int) = 0 := by omega
        have l4 : 0 < (len : Int) := by omega
        clear hl0
        go_wp2
        go_roundw
        case rel => exact ⟨k + 1, by omega, by go_num, HS.out⟩
        case measure => simp [intOf] <;> omega
    · obtain rfl : k = 512 := by omega
      have Z : RowKit.Hid (IFun wr g 68 .i16 512 (frmF zs len fr) ∧ Below g w wr) := ⟨IFun.ext HI.out.1 fun i hi => upTo_end _ _ 512 i hi, HI.out.2⟩
      go_wp2
      go_ret
      exact ⟨g, rfl, Z.out.1, by omega, by rw [hg]; exact Z.out.2⟩

set_option maxRecDepth 100000 in
theorem same14_any (a a2 : Option Addr) (n cap cap2 : Nat) (xs ys : List Int) (w : World) (h : IntsAt w w.heap.size .i16 a n xs) (h2 : IntsAt w w.heap.size .i64 a2 n ys) (he : ∀ j, j < n → ys.getD j 0 = xs.getD j 0) (hb : ∀ j, j < n → -32768 ≤ xs.getD j 0 ∧ xs.getD j 0 ≤ 32767) (hn : n ≤ 1000000) :
    Calls Tryz.prog 20 #[.slice a n cap, .slice a2 n cap2] w fun e w' => e = .returned (.bool true) ∧ ∃ i, w' = w.drewN i := by
  have HX := Lib.hid h
  have HY := Lib.hid h2
  have HE := Lib.hid he
  have HB := Lib.hid hb
  have hq : ((n : Int) == (n : Int)) = true := by simp
  clear h h2 he hb
  go_enter Tryz.func20, Tryz.ntmps20
  go_wp2
  go_loopw [5, 13] (fun _ i wr => ∃ k q : Nat, k ≤ n ∧ i = .int .i64 (k : Int) ∧ wr = w.drewN q) (fun _ i _ => n - (intOf i).toNat)
  case atStart => exact ⟨0, 0, by omega, rfl, rfl⟩
  case round =>
    obtain ⟨k, q, hk, rfl, hw⟩ := hrel
    have HW := Lib.hid hw
    clear hw
    by_cases hlt : k < n
    · obtain ⟨b, off, rfl, _, _, hcell⟩ := HX.out.at_ hlt
      obtain ⟨b2, off2, rfl, _, _, hcell2⟩ := HY.out.at_ hlt
      rw [HE.out k hlt] at hcell2
      obtain ⟨x0, x1⟩ := HB.out k hlt
      generalize xs.getD k 0 = x at hcell hcell2 x0 x1
      have c1 : wr.cell? ⟨b, off + k, none⟩ = some (.int .i16 x) := by rw [HW.out]; exact hcell
      have c2 : wr.cell? ⟨b2, off2 + k, none⟩ = some (.int .i64 x) := by rw [HW.out]; exact hcell2
      have u1 : IntKind.i64.wrap x = x := IntWalk.i64_in _ (by omega)
      have l1 : (k : Int) < (n : Int) := by omega
      clear hcell hcell2
      go_wp2
      go_quiet (fail)
      have HW2 : RowKit.Hid (wr.drewN nq = w.drewN (q + nq)) := by show _ = _; rw [HW.out, drewE_add]
      go_wp2
      go_roundw
      case rel => exact ⟨k + 1, q + nq, by omega, by go_num, HW2.out⟩
      case measure => simp [intOf] <;> omega
    · obtain rfl : k = n := by omega
      have l1 : ¬ (k : Int) < (k : Int) := by omega
      go_wp2
      go_ret
      exact ⟨rfl, q, HW.out⟩
end Go.Proofs.YtmegkohfnodkjaaGreat

/- Layer 14's laws: whether it lives; no player. -/
namespace Go.Proofs.YtmegkohfnodkjaaGreat
open Go Go.RowKit
set_option linter.unusedVariables false
set_option linter.unusedSimpArgs false
set_option maxRecDepth 100000

/-- Cells of which none is a byte. -/
def Odd8 (cs : Array Value) : Prop := ∀ (i : Nat) (x : Int), cs[i]? ≠ some (Value.int IntKind.u8 x)
theorem ints_odd8 {w : World} {B n r off m : Nat} {zs : List Int} {t : TypeId} {cs : Array Value} {a : Option Addr} (h : IntsAt w B .u8 a n zs) (h0 : 0 < n) (k : Cel w m t cs) (hc : Odd8 cs) (ha : a = some ⟨r, off, none⟩) : r ≠ m := by
  rintro rfl
  obtain ⟨b', off', e, _, _, hcell⟩ := h.at_ h0
  rw [ha] at e
  injection e with e
  injection e with e1 e2
  subst e1
  subst e2
  rw [k.cell] at hcell
  exact hc _ _ hcell
/-- Bytes stay where what is written has none. -/
theorem bytes_far {w w' : World} {F : Nat → Prop} {n : Nat} {zs : List Int} {a : Option Addr} (h : IntsAt w w.heap.size .u8 a n zs) (hk : Keeps F w w') (hF : ∀ j, F j → ∃ t cs, Cel w j t cs ∧ Odd8 cs) : IntsAt w' w'.heap.size .u8 a n zs :=
  (h.keeps hk (Nat.le_refl _) fun r off e h0 _ hf => by
    obtain ⟨t, cs, k, hc⟩ := hF r hf
    exact ints_odd8 h h0 k hc e rfl).grow hk.size
theorem odd8_list {l : List Value} (h : ∀ v ∈ l, ∀ x, v ≠ Value.int IntKind.u8 x) : Odd8 l.toArray := fun i x e => by
  rw [List.getElem?_toArray] at e
  exact h _ (List.mem_of_getElem? e) x rfl
theorem RefAt.odd8 {w : World} {g : Nat} {Q : Int} {B : Nat} {S : S13} (h : RefAt w g Q B S) : ∃ t cs, Cel w g t cs ∧ Odd8 cs := by
  obtain ⟨C, va, vl, vh, o, h⟩ := h
  obtain ⟨ba, ca, rfl, _⟩ := h.a
  obtain ⟨bl, ol, rfl, _⟩ := h.l
  have hv : ∃ a n c, vh = .slice a n c := by
    have hd := h.d
    cases hh : S.hd with
    | none => rw [hh] at hd; exact ⟨_, _, _, hd⟩
    | some H => rw [hh] at hd; obtain ⟨b, cap, e, _⟩ := hd; exact ⟨_, _, _, e⟩
  obtain ⟨ha, hn, hc, rfl⟩ := hv
  refine ⟨_, _, h.e, odd8_list (l := [_, _, _, _, _, _, _, _, _]) fun v hv x e => ?_⟩
  subst e
  simp at hv
theorem PlyAt.odd8 {w : World} {p s : Nat} {T : P14} (h : PlyAt w p s T) (j : Nat) (hj : j = p ∨ j = s) : ∃ t cs, Cel w j t cs ∧ Odd8 cs := by
  obtain ⟨cs, ps, qs, cv, lv, br, h⟩ := h
  rcases hj with rfl | rfl
  · have hv : (∃ a n c, cv = .slice a n c) ∧ ∃ a n c, lv = .slice a n c := by
      rcases h.f with ⟨_, h1, h2, _⟩ | ⟨_, _, c, x, h1, h2, _⟩
      · exact ⟨⟨_, _, _, h1⟩, _, _, _, h2⟩
      · exact ⟨⟨_, _, _, h1⟩, _, _, _, h2⟩
    obtain ⟨⟨a1, n1, c1, rfl⟩, a2, n2, c2, rfl⟩ := hv
    refine ⟨_, _, h.e, odd8_list (l := [_, _, _, _]) fun v hv x e => ?_⟩
    subst e
    simp at hv
  · refine ⟨_, _, h.s.1, odd8_list fun v hv x e => ?_⟩
    subst e
    unfold ovlL at hv
    simp at hv

/-! ### It lives -/
theorem wh_false {F : Frm} (h : F.Ok) (hw : F.wh = false) : headR F.bytes = true ∧ plWh F.bytes = false := by
  obtain ⟨h1, h2⟩ := h.headQ
  refine ⟨?_, by rw [h.pWh, hw]⟩
  unfold headR
  rw [decide_eq_true h1, decide_eq_true h2]
  rfl
set_option maxHeartbeats 1000000 in
theorem lives14_any (w : World) : Calls Tryz.prog 6 #[] w fun e w' => e = .returned (.bool true) ∧ Below w.heap.size w w' := by
  have mk512 : ∀ w : World, (Instr.makeSlice 22 (.int .i64 512) (.int .i64 512)).run Tryz.prog w = .ok (.slice (some ⟨w.heap.size, 0, none⟩) 512 512) (w.alloc (.cells (madeCells #[.int .i16 0] 512) 68)) := fun w => make_zeros (P := Tryz.prog) Tryz.underlying22 infoC_i16 512 (by decide) (by decide) w
  have HZr : RowKit.Hid (∀ (w : World), IFun (w.alloc (.cells (madeCells #[.int .i16 0] 512) 68)) w.heap.size 68 .i16 512 (fun _ => 0)) := fun w => IFun.zeros w 68 .i16 512
  generalize madeCells #[Value.int .i16 0] 512 = mc at mk512 HZr
  obtain ⟨F0, hF0⟩ : ∃ F0, F0 = s13Zero.F 4 99 (fun _ => 0) true := ⟨_, rfl⟩
  obtain ⟨S1, hS1⟩ : ∃ S1, S1 = s13Zero.next 4 99 (fun _ => 0) 0 true := ⟨_, rfl⟩
  obtain ⟨F1, hF1⟩ : ∃ F1, F1 = S1.F 4 99 (fun _ => 0) false := ⟨_, rfl⟩
  have HO0 : RowKit.Hid (F0.Ok ∧ F0.wh = true) := by rw [hF0]; exact ⟨s13Zero.F_ok (by decide) (by decide) _ _, by rw [S13.F_wh]; rfl⟩
  have HO1 : RowKit.Hid (F1.Ok ∧ F1.wh = false) := by rw [hF1]; exact ⟨S1.F_ok (by decide) (by decide) _ _, by rw [S13.F_wh, hS1]; rfl⟩
  have HK1 : RowKit.Hid S1.Ok := by rw [hS1]; exact S13.Ok.next 4 99 (fun _ _ => by decide) 0 true
  have HE0 : RowKit.Hid (∀ (x g : Nat) (w : World), RefAt w g 4 99 s13Zero → IFun w x 68 .i16 512 (fun _ => 0) → Calls Tryz.prog 13 #[.pointer (some ⟨g, 0, none⟩), .int .u32 0, .slice (some ⟨x, 0, none⟩) 512 512, .bool true] w fun e w' => ∃ a c, e = .returned (.tuple #[.slice a F0.bytes.length c, .bool true]) ∧ IntsAt w' w'.heap.size .u8 a F0.bytes.length F0.bytes ∧ RefAt w' g 4 99 S1 ∧ Keeps (· = g) w w' ∧ (a = none → c = 0)) := fun x g w h1 h2 => by
    have := rEncode_any g x 4 99 s13Zero (fun _ => 0) 0 true w h1 s13Zero_ok (by decide) (by decide) h2 (fun _ _ => by decide) (by decide) (by decide)
    unfold EncodeRPost at this
    rw [← hF0, ← hS1] at this
    exact this
  have HE1 : RowKit.Hid (∀ (x g : Nat) (w : World), RefAt w g 4 99 S1 → IFun w x 68 .i16 512 (fun _ => 0) → Calls Tryz.prog 13 #[.pointer (some ⟨g, 0, none⟩), .int .u32 1, .slice (some ⟨x, 0, none⟩) 512 512, .bool false] w fun e w' => ∃ a c q, e = .returned (.tuple #[.slice a F1.bytes.length c, .bool q]) ∧ IntsAt w' w'.heap.size .u8 a F1.bytes.length F1.bytes ∧ Keeps (· = g) w w' ∧ (a = none → c = 0)) := fun x g w h1 h2 => by
    refine (rEncode_any g x 4 99 S1 (fun _ => 0) 1 false w h1 HK1.out (by decide) (by decide) h2 (fun _ _ => by decide) (by decide) (by decide)).mono ?_
    rintro e w' ⟨a, c, rfl, k1, k2, k3, k4⟩
    rw [← hF1] at k1
    exact ⟨a, c, _, by rw [hF1], k1, k3, k4⟩
  clear hF0 hS1 hF1
  obtain ⟨n0, hn0⟩ : ∃ n0, n0 = F0.bytes.length := ⟨_, rfl⟩
  obtain ⟨n1, hn1⟩ : ∃ n1, n1 = F1.bytes.length := ⟨_, rfl⟩
  rw [← hn0] at HE0
  rw [← hn1] at HE1
  have HL : RowKit.Hid (n0 ≤ 100000 ∧ n1 ≤ 100000) := ⟨by have := HO0.out.1.len; omega, by have := HO1.out.1.len; omega⟩
  clear hn0 hn1
  go_enter Tryz.func6, Tryz.ntmps6
  go_wp2_with (first
    | (go_at_call 18; have h6 := H6.out; clear h6; go_loud (refine (pPlay_any p14Zero F0.bytes 0 p s a3 n0 c3 _ H6.out.1 p14Zero_ok HI6.out HN3.out F0.bytes_bd HL.out.1 (by decide) (by decide)).mono ?_); rintro e w7 (⟨_, r, rfl, _, _, _, k7⟩ | ⟨hh, _⟩); (case inr => exact absurd (HO0.out.1.pOk (.inl HO0.out.2) (.inl HO0.out.2)) hh); have HB7 : RowKit.Hid (Below w.heap.size w w7) := H6.out.2.1.trans (k7.below H6.out.2.1.size fun j hj => by have := H6.out.2.2; omega); clear k7)
    | (go_at_call 18; have h5 := H5.out; clear h5; go_loud (refine (pPlay_any p14Zero F1.bytes 1 p s a5 n1 c5 _ H5.out.1 p14Zero_ok HI5.out HN5.out F1.bytes_bd HL.out.2 (by decide) (by decide)).mono ?_); rintro e w6 (⟨hh, _⟩ | ⟨_, er, rfl, _, _, h8, b6⟩); (case inl => exact absurd hh (HO1.out.1.not_may HO1.out.2 p14Zero rfl)); obtain rfl := h8 (wh_false HO1.out.1 HO1.out.2).1 (wh_false HO1.out.1 HO1.out.2).2 rfl; have H6 : RowKit.Hid (PlyAt w6 p s p14Zero ∧ Below w.heap.size w w6 ∧ w.heap.size ≤ p ∧ w.heap.size ≤ s) := ⟨H5.out.1.below b6, chain H5.out.2.1 b6, H5.out.2.2⟩; have HI6 := Lib.hid (HJ5.out.now b6 (Nat.le_refl _)); clear h8 b6)
    | (go_at_call 13; have h4 := HI4.out; clear h4; have ba := Below.alloc_new w4 (.cells mc 68); go_loud (refine (HE1.out w4.heap.size g _ (H4.out.2.2.1.below ba) (HZr.out w4)).mono ?_); rintro e w5 ⟨a5, c5, q5, rfl, i5, k5, hn5⟩; have HI5 := Lib.hid i5; have HN5 := Lib.hid hn5; have HJ5 := Lib.hid (bytes_far (HI4.out.now ba (Nat.le_refl _)) k5 (fun j hj => by subst hj; exact (H4.out.2.2.1.below ba).odd8)); have H5 : RowKit.Hid (PlyAt w5 p s p14Zero ∧ Below w.heap.size w w5 ∧ w.heap.size ≤ p ∧ w.heap.size ≤ s) := ⟨(H4.out.1.below ba).keeps k5 (fun j hj => by subst hj; obtain ⟨cs, hc⟩ := (H4.out.2.2.1.below ba).typ; exact ⟨_, Cel.typ hc, by decide, by decide, by decide, by decide, by decide, by decide⟩), (chain H4.out.2.1 ba).trans (k5.below (chain H4.out.2.1 ba).size fun j hj => by have := H4.out.2.2.2; omega), H4.out.2.2.2.1, H4.out.2.2.2.2.1⟩; clear ba i5 k5 hn5)
    | (go_at_call 13; have h2 := H2.out; clear h2; have ba := Below.alloc_new w2 (.cells mc 68); go_loud (refine (HE0.out w2.heap.size g _ (H2.out.2.2.1.below ba) (HZr.out w2)).mono ?_); rintro e w4 ⟨a3, c3, rfl, i4, r4, k4, hn3⟩; have HI4 := Lib.hid i4; have HN3 := Lib.hid hn3; have H4 : RowKit.Hid (PlyAt w4 p s p14Zero ∧ Below w.heap.size w w4 ∧ RefAt w4 g 4 99 S1 ∧ w.heap.size ≤ p ∧ w.heap.size ≤ s ∧ w.heap.size ≤ g) := ⟨(H2.out.1.below ba).keeps k4 (fun j hj => by subst hj; obtain ⟨cs, hc⟩ := (H2.out.2.2.1.below ba).typ; exact ⟨_, Cel.typ hc, by decide, by decide, by decide, by decide, by decide, by decide⟩), (chain H2.out.2.1 ba).trans (k4.below (chain H2.out.2.1 ba).size fun j hj => by have := H2.out.2.2.2; omega), r4, H2.out.2.2.2⟩; clear ba i4 r4 k4 hn3)
    | (go_at_call 7; go_loud (refine (rNew_any 4 99 _).mono ?_); rintro e w2 ⟨g, rfl, h2, s2, b2⟩; have H2 : RowKit.Hid (PlyAt w2 p s p14Zero ∧ Below w.heap.size w w2 ∧ RefAt w2 g 4 99 s13Zero ∧ w.heap.size ≤ p ∧ w.heap.size ≤ s ∧ w.heap.size ≤ g) := ⟨H1.out.1.below b2, chain H1.out.2.1 b2, h2, H1.out.2.2.1, H1.out.2.2.2, Nat.le_trans H1.out.2.1.size s2⟩; clear h2 s2 b2)
    | (go_at_call 8; go_loud (refine (pNew_any _).mono ?_); rintro e w1 ⟨p, s, rfl, h1, s1, s2, b1⟩; have H1 : RowKit.Hid (PlyAt w1 p s p14Zero ∧ Below w.heap.size w w1 ∧ w.heap.size ≤ p ∧ w.heap.size ≤ s) := ⟨h1, b1, s1, s2⟩; clear h1 s1 s2 b1))
  go_ret
  exact ⟨rfl, HB7.out⟩

/-! ### No player -/
theorem playerNil_law (a : Option Addr) (len cap : Nat) (n : Int) (w : World) (hm : len ≤ 9223372036854775807) :
    Calls Tryz.prog 5 #[.slice a len cap, .int .u32 n] w fun e w' => e = .returned (.bool true) ∧ Below w.heap.size w w' := by
  have HB := Lib.hid (Below.refl w.heap.size w)
  by_cases h1 : 300 < len
  · have hd : decide ((300 : Int) < (len : Int)) = true := by simp; omega
    go_enter Tryz.func5, Tryz.ntmps5
    go_wp2_with (go_at_call 6; go_loud (refine (lives14_any _).mono ?_); rintro e w1 ⟨rfl, hb⟩; replace HB := Lib.hid (chain HB.out hb); clear hb)
    go_ret
    exact ⟨rfl, HB.out⟩
  · have hd : decide ((300 : Int) < (len : Int)) = false := by simp; omega
    go_enter Tryz.func5, Tryz.ntmps5
    go_wp2_with (first
      | (go_at_call 6; go_loud (refine (lives14_any _).mono ?_); rintro e w1 ⟨rfl, hb⟩; have HB1 := Lib.hid (chain HB.out hb); clear hb)
      | (go_at_call 18; go_loud (refine (pPlay_nil _ _ _ _ _).mono ?_); rintro e w2 ⟨rfl, rfl⟩)
      | (go_at_call 10; have h3 := H3.out; clear h3; go_loud (refine (pFade_no p14Zero p s _ H3.out rfl).mono ?_); rintro e w4 ⟨rfl, b4⟩; have HB4 := Lib.hid (chain HB3.out b4); clear b4)
      | (go_at_call 10; go_loud (refine (pFade_nil _).mono ?_); rintro e w2 ⟨rfl, rfl⟩)
      | (go_at_call 12; go_loud (refine (pLose_nil _).mono ?_); rintro e w2 ⟨rfl, rfl⟩)
      | (go_at_call 8; go_loud (refine (pNew_any _).mono ?_); rintro e w3 ⟨p, s, rfl, h3, _, _, b3⟩; have H3 := Lib.hid h3; have HB3 := Lib.hid (chain HB1.out b3); clear h3 b3))
    go_ret
    exact ⟨rfl, HB4.out⟩
end Go.Proofs.YtmegkohfnodkjaaGreat

/- From a reading of an argument to what the walks are told of it: a slice of bools. -/
namespace Go.Proofs.YtmegkohfnodkjaaGreat
open Go.ChangeShapes Go.WideShapes Go.ChangeAt Go.RowKit Go.Deep
set_option linter.unusedVariables false

theorem wf9_i16 {zs : List Int} (h : ∀ n ∈ zs, (Lit.int .i16 n).wf = true) (j : Nat) : -32768 ≤ zs.getD j 0 ∧ zs.getD j 0 ≤ 32767 := by
  by_cases hj : j < zs.length
  · have := bounds_i16 (h (zs[j]) (List.getElem_mem hj))
    simpa [List.getD, hj] using this
  · simp [List.getD, hj]
end Go.Proofs.YtmegkohfnodkjaaGreat

/- From a reading of an argument to what the walks are told of it: an array of integers, by value. -/
namespace Go.Proofs.YtmegkohfnodkjaaGreat
open Go.ChangeShapes Go.WideShapes Go.ChangeAt Go.RowKit Go.Deep
set_option linter.unusedVariables false

theorem array_in {P : Program} {H : Type} {enc : TypeId × Value → H} {w : World} {base b0 n : Nat} {held : Bool} {r : Reach} {t e : TypeId} {k : IntKind} {v : Value} {d : DataW H} {ps : List MemPlace}
    (ht : P.underlying t = some (.array n e)) (he : P.underlying e = some (.int k)) (ce : P.cellsOf e = 1) (ct : P.cellsOf t = n)
    (hval : Value.okWide P w r b0 t v) (hd : DataW.Trod enc P w base (fun _ => true) held t v d ps) :
    ∃ xs : List Int, v = .agg (xs.map (Value.int k)).toArray ∧ xs.length = n ∧ ∀ x ∈ xs, (Lit.int k x).wf = true := by
  simp only [Value.okWide, ht] at hval
  obtain ⟨cs, rfl, hs, _⟩ := hval
  obtain ⟨fuel, hf⟩ := hd
  obtain ⟨ys, m, _, _, hl, _, hi⟩ := DataW.trod_array ht hf
  simp only [Value.cells] at hl hi
  rw [ct] at hl hs
  have hcs : ∀ i : Nat, ∃ x : Int, i < n → cs[i]? = some (Value.int k x) ∧ (Lit.int k x).wf = true := by
    intro i
    by_cases h : i < n
    · have h1 := hi i h
      rw [ce, Nat.mul_one] at h1
      have hc : (cs.toList.drop i).take 1 = [cs[i]'(by omega)] := by
        apply List.ext_getElem?
        intro j
        cases j with
        | zero => simp [List.getElem?_drop, show i < cs.size by omega]
        | succ j => simp [List.getElem?_take]
      rw [hc] at h1
      cases hy : ys[i]? with
      | none =>
        rename_i hlen _
        have := List.getElem?_eq_none_iff.1 hy
        omega
      | some y =>
        rw [hy] at h1
        obtain ⟨x, hx, _, hw⟩ := DataW.trod_int he h1
        refine ⟨x, fun _ => ⟨?_, hw⟩⟩
        simp only [List.cons.injEq, and_true] at hx
        rw [Array.getElem?_eq_getElem (by omega), hx]
    · exact ⟨0, fun c => absurd c h⟩
  refine ⟨(List.range n).map fun i => Classical.choose (hcs i), ?_, by simp, ?_⟩
  · congr 1
    apply Array.ext_getElem?
    intro i
    by_cases h : i < n
    · rw [(Classical.choose_spec (hcs i) h).1]
      simp [h]
    · rw [Array.getElem?_eq_none (by omega)]
      simp [h]
  · intro x hx
    obtain ⟨i, hi2, rfl⟩ := List.mem_map.1 hx
    exact (Classical.choose_spec (hcs i) (by simpa using hi2)).2
end Go.Proofs.YtmegkohfnodkjaaGreat
