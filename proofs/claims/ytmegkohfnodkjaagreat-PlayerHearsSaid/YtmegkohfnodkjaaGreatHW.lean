/- Plain facts, and what functions give, for the proofs of this seat: several texts in one, each with its own first remark. -/
import Derived.Test.YtmegkohfnodkjaaGreatHC
import Derived.Test.YtmegkohfnodkjaaGreatHQ
import Derived.Test.YtmegkohfnodkjaaGreatHK
import Derived.Test.YtmegkohfnodkjaaGreatHV
import Derived.Test.YtmegkohfnodkjaaGreatHT
import Derived.Test.YtmegkohfnodkjaaGreatHt

/- The law's own functions: frames, the same samples. -/
namespace Go.Proofs.YtmegkohfnodkjaaGreat
open Go Go.RowKit
set_option linter.unusedVariables false
set_option linter.unusedSimpArgs false
set_option maxRecDepth 100000

set_option maxRecDepth 100000 in
theorem frame14_any (a : Option Addr) (len cap fr : Nat) (zs : List Int) (w : World) (hl : IntsAt w w.heap.size .i16 a len zs) (hlen : len ≤ 3000) (hf : fr ≤ 100000) :
    Calls Tryz.prog 14 #[.slice a len cap, .int .i64 fr] w (RowPost .i16 68 512 (frmF zs len fr) w) := by
  have HL := Lib.hid hl
  have hmk : ∀ w : World, (Instr.makeSlice 22 (.int .i64 512) (.int .i64 512)).run Tryz.prog w = .ok (.slice (some ⟨w.heap.size, 0, none⟩) 512 512) (w.alloc (.cells (madeCells #[.int .i16 0] 512) 68)) :=
    fun w => make_zeros (P := Tryz.prog) Tryz.underlying22 infoC_i16 512 (by decide) (by decide) w
  have H0 : RowKit.Hid (IFun (w.alloc (.cells (madeCells #[.int .i16 0] 512) 68)) w.heap.size 68 .i16 512 (upTo (frmF zs len fr) (fun _ => 0) 0) ∧ Below w.heap.size w (w.alloc (.cells (madeCells #[.int .i16 0] 512) 68))) :=
    ⟨IFun.ext (IFun.zeros w 68 .i16 512) fun j _ => (upTo_start (frmF zs len fr) (fun _ => 0) j).symm, Below.alloc_new w _⟩
  clear hl
  generalize madeCells #[Value.int .i16 0] 512 = mc at H0 hmk
  go_enter Tryz.func14, Tryz.ntmps14
  go_wp2
  clear hmk
  generalize hg : w.heap.size = g at H0 ⊢
  generalize (w.alloc (.cells mc 68)) = w1 at H0 ⊢
  go_loopw [10] (fun i wr => ∃ k : Nat, k ≤ 512 ∧ i = .int .i64 (k : Int) ∧ RowKit.Hid (IFun wr g 68 .i16 512 (upTo (frmF zs len fr) (fun _ => 0) k) ∧ Below g w wr)) (fun i _ => 512 - (intOf i).toNat)
  case atStart => exact ⟨0, by omega, rfl, H0.out⟩
  case round =>
    obtain ⟨k, hk, rfl, HI⟩ := hrel
    clear H0
    by_cases hlt : k < 512
    · have o1 := HI.out.1.cell (j := k) (by omega)
      rw [upTo_here] at o1
      have f1 := HI.out.1.frozen k
      have HS : RowKit.Hid (IFun (wr.setCell ⟨g, k, none⟩ (.int .i16 (frmF zs len fr k))) g 68 .i16 512 (upTo (frmF zs len fr) (fun _ => 0) (k + 1)) ∧ Below g w (wr.setCell ⟨g, k, none⟩ (.int .i16 (frmF zs len fr k)))) :=
        ⟨IFun.ext (HI.out.1.set (j := k) (by omega) (frmF zs len fr k)) fun j _ => upTo_next _ _ k j, Below.setCell (p := ⟨g, k, none⟩) HI.out.2 (Nat.le_refl _) _⟩
      have l1 : (k : Int) < 512 := by omega
      by_cases hl0 : len = 0
      · have HN : RowKit.Hid (IFun wr g 68 .i16 512 (upTo (frmF zs len fr) (fun _ => 0) (k + 1)) ∧ Below g w wr) := ⟨IFun.ext HI.out.1 fun i _ => by
          unfold upTo frmF
          rw [if_pos hl0]
          split <;> split <;> rfl, HI.out.2⟩
        have ll : ¬ 0 < (len : Int) := by omega
        clear HI HS hl0
        go_wp2
        go_roundw
        case rel => exact ⟨k + 1, by omega, by go_num, HN.out⟩
        case measure => simp [intOf] <;> omega
      · obtain ⟨m, hm⟩ : ∃ m, m = (fr + k) % len := ⟨_, rfl⟩
        have hml : m < len := by rw [hm]; exact Nat.mod_lt _ (by omega)
        have f3 : ((fr : Int) + (k : Int)) % (len : Int) = (m : Int) := by rw [hm]; simp
        have f4 : ((fr : Int) + (k : Int)).tmod (len : Int) = (m : Int) := by rw [Int.tmod_eq_emod_of_nonneg (by omega)]; exact f3
        obtain ⟨b, off, rfl, hbl, _, hc⟩ := HL.out.at_ hml
        have k1 := (HI.out.2.cell (p := ⟨b, off + m, none⟩) (by rw [← hg]; exact hbl)).trans hc
        have HE : RowKit.Hid (zs.getD m 0 = frmF zs len fr k) := by show _ = _; unfold frmF; rw [if_neg hl0, hm]
        rw [← HE.out] at HS
        clear HI hm hc HE
        generalize zs.getD m 0 = y at k1 HS
        have l2 : (m : Int) < (len : Int) := by omega
        have l3 : ¬ (len : Int) = 0 := by omega
        have l4 : 0 < (len : Int) := by omega
        clear hl0
        go_wp2
        go_roundw
        case rel => exact ⟨k + 1, by omega, by go_num, HS.out⟩
        case measure => simp [intOf] <;> omega
    · obtain rfl : k = 512 := by omega
      have Z : RowKit.Hid (IFun wr g 68 .i16 512 (frmF zs len fr) ∧ Below g w wr) := ⟨IFun.ext HI.out.1 fun i hi => upTo_end _ _ 512 i hi, HI.out.2⟩
      go_wp2
      go_ret
      exact ⟨g, rfl, Z.out.1, by omega, by rw [hg]; exact Z.out.2⟩

end Go.Proofs.YtmegkohfnodkjaaGreat

/- Layer 14's laws: whether it lives; no player. -/
namespace Go.Proofs.YtmegkohfnodkjaaGreat
open Go Go.RowKit
set_option linter.unusedVariables false
set_option linter.unusedSimpArgs false
set_option maxRecDepth 100000

/-- Cells of which none is a byte. -/
def Odd8 (cs : Array Value) : Prop := ∀ (i : Nat) (x : Int), cs[i]? ≠ some (Value.int IntKind.u8 x)
theorem ints_odd8 {w : World} {B n r off m : Nat} {zs : List Int} {t : TypeId} {cs : Array Value} {a : Option Addr} (h : IntsAt w B .u8 a n zs) (h0 : 0 < n) (k : Cel w m t cs) (hc : Odd8 cs) (ha : a = some ⟨r, off, none⟩) : r ≠ m := by
  rintro rfl
  obtain ⟨b', off', e, _, _, hcell⟩ := h.at_ h0
  rw [ha] at e
  injection e with e
  injection e with e1 e2
  subst e1
  subst e2
  rw [k.cell] at hcell
  exact hc _ _ hcell
/-- Bytes stay where what is written has none. -/
theorem bytes_far {w w' : World} {F : Nat → Prop} {n : Nat} {zs : List Int} {a : Option Addr} (h : IntsAt w w.heap.size .u8 a n zs) (hk : Keeps F w w') (hF : ∀ j, F j → ∃ t cs, Cel w j t cs ∧ Odd8 cs) : IntsAt w' w'.heap.size .u8 a n zs :=
  (h.keeps hk (Nat.le_refl _) fun r off e h0 _ hf => by
    obtain ⟨t, cs, k, hc⟩ := hF r hf
    exact ints_odd8 h h0 k hc e rfl).grow hk.size
theorem odd8_list {l : List Value} (h : ∀ v ∈ l, ∀ x, v ≠ Value.int IntKind.u8 x) : Odd8 l.toArray := fun i x e => by
  rw [List.getElem?_toArray] at e
  exact h _ (List.mem_of_getElem? e) x rfl
theorem RefAt.odd8 {w : World} {g : Nat} {Q : Int} {B : Nat} {S : S13} (h : RefAt w g Q B S) : ∃ t cs, Cel w g t cs ∧ Odd8 cs := by
  obtain ⟨C, va, vl, vh, o, h⟩ := h
  obtain ⟨ba, ca, rfl, _⟩ := h.a
  obtain ⟨bl, ol, rfl, _⟩ := h.l
  have hv : ∃ a n c, vh = .slice a n c := by
    have hd := h.d
    cases hh : S.hd with
    | none => rw [hh] at hd; exact ⟨_, _, _, hd⟩
    | some H => rw [hh] at hd; obtain ⟨b, cap, e, _⟩ := hd; exact ⟨_, _, _, e⟩
  obtain ⟨ha, hn, hc, rfl⟩ := hv
  refine ⟨_, _, h.e, odd8_list (l := [_, _, _, _, _, _, _, _, _]) fun v hv x e => ?_⟩
  subst e
  simp at hv
theorem PlyAt.odd8 {w : World} {p s : Nat} {T : P14} (h : PlyAt w p s T) (j : Nat) (hj : j = p ∨ j = s) : ∃ t cs, Cel w j t cs ∧ Odd8 cs := by
  obtain ⟨cs, ps, qs, cv, lv, br, h⟩ := h
  rcases hj with rfl | rfl
  · have hv : (∃ a n c, cv = .slice a n c) ∧ ∃ a n c, lv = .slice a n c := by
      rcases h.f with ⟨_, h1, h2, _⟩ | ⟨_, _, c, x, h1, h2, _⟩
      · exact ⟨⟨_, _, _, h1⟩, _, _, _, h2⟩
      · exact ⟨⟨_, _, _, h1⟩, _, _, _, h2⟩
    obtain ⟨⟨a1, n1, c1, rfl⟩, a2, n2, c2, rfl⟩ := hv
    refine ⟨_, _, h.e, odd8_list (l := [_, _, _, _]) fun v hv x e => ?_⟩
    subst e
    simp at hv
  · refine ⟨_, _, h.s.1, odd8_list fun v hv x e => ?_⟩
    subst e
    unfold ovlL at hv
    simp at hv

/-! ### It lives -/
theorem wh_false {F : Frm} (h : F.Ok) (hw : F.wh = false) : headR F.bytes = true ∧ plWh F.bytes = false := by
  obtain ⟨h1, h2⟩ := h.headQ
  refine ⟨?_, by rw [h.pWh, hw]⟩
  unfold headR
  rw [decide_eq_true h1, decide_eq_true h2]
  rfl
set_option maxHeartbeats 1000000 in
theorem lives14_any (w : World) : Calls Tryz.prog 6 #[] w fun e w' => e = .returned (.bool true) ∧ Below w.heap.size w w' := by
  have mk512 : ∀ w : World, (Instr.makeSlice 22 (.int .i64 512) (.int .i64 512)).run Tryz.prog w = .ok (.slice (some ⟨w.heap.size, 0, none⟩) 512 512) (w.alloc (.cells (madeCells #[.int .i16 0] 512) 68)) := fun w => make_zeros (P := Tryz.prog) Tryz.underlying22 infoC_i16 512 (by decide) (by decide) w
  have HZr : RowKit.Hid (∀ (w : World), IFun (w.alloc (.cells (madeCells #[.int .i16 0] 512) 68)) w.heap.size 68 .i16 512 (fun _ => 0)) := fun w => IFun.zeros w 68 .i16 512
  generalize madeCells #[Value.int .i16 0] 512 = mc at mk512 HZr
  obtain ⟨F0, hF0⟩ : ∃ F0, F0 = s13Zero.F 4 99 (fun _ => 0) true := ⟨_, rfl⟩
  obtain ⟨S1, hS1⟩ : ∃ S1, S1 = s13Zero.next 4 99 (fun _ => 0) 0 true := ⟨_, rfl⟩
  obtain ⟨F1, hF1⟩ : ∃ F1, F1 = S1.F 4 99 (fun _ => 0) false := ⟨_, rfl⟩
  have HO0 : RowKit.Hid (F0.Ok ∧ F0.wh = true) := by rw [hF0]; exact ⟨s13Zero.F_ok (by decide) (by decide) _ _, by rw [S13.F_wh]; rfl⟩
  have HO1 : RowKit.Hid (F1.Ok ∧ F1.wh = false) := by rw [hF1]; exact ⟨S1.F_ok (by decide) (by decide) _ _, by rw [S13.F_wh, hS1]; rfl⟩
  have HK1 : RowKit.Hid S1.Ok := by rw [hS1]; exact S13.Ok.next 4 99 (fun _ _ => by decide) 0 true
  have HE0 : RowKit.Hid (∀ (x g : Nat) (w : World), RefAt w g 4 99 s13Zero → IFun w x 68 .i16 512 (fun _ => 0) → Calls Tryz.prog 13 #[.pointer (some ⟨g, 0, none⟩), .int .u32 0, .slice (some ⟨x, 0, none⟩) 512 512, .bool true] w fun e w' => ∃ a c, e = .returned (.tuple #[.slice a F0.bytes.length c, .bool true]) ∧ IntsAt w' w'.heap.size .u8 a F0.bytes.length F0.bytes ∧ RefAt w' g 4 99 S1 ∧ Keeps (· = g) w w' ∧ (a = none → c = 0)) := fun x g w h1 h2 => by
    have := rEncode_any g x 4 99 s13Zero (fun _ => 0) 0 true w h1 s13Zero_ok (by decide) (by decide) h2 (fun _ _ => by decide) (by decide) (by decide)
    unfold EncodeRPost at this
    rw [← hF0, ← hS1] at this
    exact this
  have HE1 : RowKit.Hid (∀ (x g : Nat) (w : World), RefAt w g 4 99 S1 → IFun w x 68 .i16 512 (fun _ => 0) → Calls Tryz.prog 13 #[.pointer (some ⟨g, 0, none⟩), .int .u32 1, .slice (some ⟨x, 0, none⟩) 512 512, .bool false] w fun e w' => ∃ a c q, e = .returned (.tuple #[.slice a F1.bytes.length c, .bool q]) ∧ IntsAt w' w'.heap.size .u8 a F1.bytes.length F1.bytes ∧ Keeps (· = g) w w' ∧ (a = none → c = 0)) := fun x g w h1 h2 => by
    refine (rEncode_any g x 4 99 S1 (fun _ => 0) 1 false w h1 HK1.out (by decide) (by decide) h2 (fun _ _ => by decide) (by decide) (by decide)).mono ?_
    rintro e w' ⟨a, c, rfl, k1, k2, k3, k4⟩
    rw [← hF1] at k1
    exact ⟨a, c, _, by rw [hF1], k1, k3, k4⟩
  clear hF0 hS1 hF1
  obtain ⟨n0, hn0⟩ : ∃ n0, n0 = F0.bytes.length := ⟨_, rfl⟩
  obtain ⟨n1, hn1⟩ : ∃ n1, n1 = F1.bytes.length := ⟨_, rfl⟩
  rw [← hn0] at HE0
  rw [← hn1] at HE1
  have HL : RowKit.Hid (n0 ≤ 100000 ∧ n1 ≤ 100000) := ⟨by have := HO0.out.1.len; omega, by have := HO1.out.1.len; omega⟩
  clear hn0 hn1
  go_enter Tryz.func6, Tryz.ntmps6
  go_wp2_with (first
    | (go_at_call 18; have h6 := H6.out; clear h6; go_loud (refine (pPlay_any p14Zero F0.bytes 0 p s a3 n0 c3 _ H6.out.1 p14Zero_ok HI6.out HN3.out F0.bytes_bd HL.out.1 (by decide) (by decide)).mono ?_); rintro e w7 (⟨_, r, rfl, _, _, _, k7⟩ | ⟨hh, _⟩); (case inr => exact absurd (HO0.out.1.pOk (.inl HO0.out.2) (.inl HO0.out.2)) hh); have HB7 : RowKit.Hid (Below w.heap.size w w7) := H6.out.2.1.trans (k7.below H6.out.2.1.size fun j hj => by have := H6.out.2.2; omega); clear k7)
    | (go_at_call 18; have h5 := H5.out; clear h5; go_loud (refine (pPlay_any p14Zero F1.bytes 1 p s a5 n1 c5 _ H5.out.1 p14Zero_ok HI5.out HN5.out F1.bytes_bd HL.out.2 (by decide) (by decide)).mono ?_); rintro e w6 (⟨hh, _⟩ | ⟨_, er, rfl, _, _, h8, b6⟩); (case inl => exact absurd hh (HO1.out.1.not_may HO1.out.2 p14Zero rfl)); obtain rfl := h8 (wh_false HO1.out.1 HO1.out.2).1 (wh_false HO1.out.1 HO1.out.2).2 rfl; have H6 : RowKit.Hid (PlyAt w6 p s p14Zero ∧ Below w.heap.size w w6 ∧ w.heap.size ≤ p ∧ w.heap.size ≤ s) := ⟨H5.out.1.below b6, chain H5.out.2.1 b6, H5.out.2.2⟩; have HI6 := Lib.hid (HJ5.out.now b6 (Nat.le_refl _)); clear h8 b6)
    | (go_at_call 13; have h4 := HI4.out; clear h4; have ba := Below.alloc_new w4 (.cells mc 68); go_loud (refine (HE1.out w4.heap.size g _ (H4.out.2.2.1.below ba) (HZr.out w4)).mono ?_); rintro e w5 ⟨a5, c5, q5, rfl, i5, k5, hn5⟩; have HI5 := Lib.hid i5; have HN5 := Lib.hid hn5; have HJ5 := Lib.hid (bytes_far (HI4.out.now ba (Nat.le_refl _)) k5 (fun j hj => by subst hj; exact (H4.out.2.2.1.below ba).odd8)); have H5 : RowKit.Hid (PlyAt w5 p s p14Zero ∧ Below w.heap.size w w5 ∧ w.heap.size ≤ p ∧ w.heap.size ≤ s) := ⟨(H4.out.1.below ba).keeps k5 (fun j hj => by subst hj; obtain ⟨cs, hc⟩ := (H4.out.2.2.1.below ba).typ; exact ⟨_, Cel.typ hc, by decide, by decide, by decide, by decide, by decide, by decide⟩), (chain H4.out.2.1 ba).trans (k5.below (chain H4.out.2.1 ba).size fun j hj => by have := H4.out.2.2.2; omega), H4.out.2.2.2.1, H4.out.2.2.2.2.1⟩; clear ba i5 k5 hn5)
    | (go_at_call 13; have h2 := H2.out; clear h2; have ba := Below.alloc_new w2 (.cells mc 68); go_loud (refine (HE0.out w2.heap.size g _ (H2.out.2.2.1.below ba) (HZr.out w2)).mono ?_); rintro e w4 ⟨a3, c3, rfl, i4, r4, k4, hn3⟩; have HI4 := Lib.hid i4; have HN3 := Lib.hid hn3; have H4 : RowKit.Hid (PlyAt w4 p s p14Zero ∧ Below w.heap.size w w4 ∧ RefAt w4 g 4 99 S1 ∧ w.heap.size ≤ p ∧ w.heap.size ≤ s ∧ w.heap.size ≤ g) := ⟨(H2.out.1.below ba).keeps k4 (fun j hj => by subst hj; obtain ⟨cs, hc⟩ := (H2.out.2.2.1.below ba).typ; exact ⟨_, Cel.typ hc, by decide, by decide, by decide, by decide, by decide, by decide⟩), (chain H2.out.2.1 ba).trans (k4.below (chain H2.out.2.1 ba).size fun j hj => by have := H2.out.2.2.2; omega), r4, H2.out.2.2.2⟩; clear ba i4 r4 k4 hn3)
    | (go_at_call 7; go_loud (refine (rNew_any 4 99 _).mono ?_); rintro e w2 ⟨g, rfl, h2, s2, b2⟩; have H2 : RowKit.Hid (PlyAt w2 p s p14Zero ∧ Below w.heap.size w w2 ∧ RefAt w2 g 4 99 s13Zero ∧ w.heap.size ≤ p ∧ w.heap.size ≤ s ∧ w.heap.size ≤ g) := ⟨H1.out.1.below b2, chain H1.out.2.1 b2, h2, H1.out.2.2.1, H1.out.2.2.2, Nat.le_trans H1.out.2.1.size s2⟩; clear h2 s2 b2)
    | (go_at_call 8; go_loud (refine (pNew_any _).mono ?_); rintro e w1 ⟨p, s, rfl, h1, s1, s2, b1⟩; have H1 : RowKit.Hid (PlyAt w1 p s p14Zero ∧ Below w.heap.size w w1 ∧ w.heap.size ≤ p ∧ w.heap.size ≤ s) := ⟨h1, b1, s1, s2⟩; clear h1 s1 s2 b1))
  go_ret
  exact ⟨rfl, HB7.out⟩

/-! ### No player -/
end Go.Proofs.YtmegkohfnodkjaaGreat

/- What is held on the way of PlayerHears. -/
namespace Go.Proofs.YtmegkohfnodkjaaGreat
open Go Go.RowKit
set_option linter.unusedVariables false
set_option linter.unusedSimpArgs false

/-- What is written elsewhere. -/
theorem CodAt.keepsN {w w' : World} {g a s : Nat} {Q : Int} {B : Nat} {S : S13} {F : Nat → Prop} (h : CodAt w g a s Q B S) (hk : Keeps F w w')
    (hF : ∀ j, F j → j ≠ s ∧ ∃ t, Typ w j t ∧ t ≠ 209 ∧ t ≠ 207 ∧ t ≠ 110 ∧ t ≠ 160 ∧ t ≠ 3 ∧ t ≠ 68) : CodAt w' g a s Q B S := by
  obtain ⟨ca, pa, qa, cs, ps, qs, o, hv, h⟩ := h
  have nt : ∀ {j : Nat} {t : TypeId}, Typ w j t → (∀ t', (t' ≠ 209 ∧ t' ≠ 207 ∧ t' ≠ 110 ∧ t' ≠ 160 ∧ t' ≠ 3 ∧ t' ≠ 68) → t ≠ t') → ¬ F j := by
    intro j t hc ht hf
    obtain ⟨_, t', c', x⟩ := hF j hf
    exact hc.ne c' (ht t' x) rfl
  have n : ∀ {g c m : Nat}, TrAt w g c m → ¬ F g ∧ ¬ F c := fun ht => ⟨nt (Cel.typ ht.1) fun t' x => x.1.symm, by
    obtain ⟨vs, hc⟩ := ht.2.cel
    exact nt (Cel.typ hc) fun t' x => x.2.1.symm⟩
  refine ⟨ca, pa, qa, cs, ps, qs, o, hv, h.e.keeps hk (nt (Cel.typ h.e) fun t' x => x.2.2.1.symm), ?_, ?_, h.h.keeps hk (fun r hr => nt (Cel.typ hr) fun t' x => x.2.2.2.2.1.symm), ?_⟩
  · exact ⟨h.a.1.keeps hk (nt (Cel.typ h.a.1) fun t' x => x.2.2.2.1.symm), h.a.2.1.keeps hk (n h.a.2.1).1 (n h.a.2.1).2, h.a.2.2.keeps hk (n h.a.2.2).1 (n h.a.2.2).2⟩
  · exact ⟨h.s.1.keeps hk (fun e => (hF _ e).1 rfl), h.s.2.1.keeps hk (n h.s.2.1).1 (n h.s.2.1).2, h.s.2.2.keeps hk (n h.s.2.2).1 (n h.s.2.2).2⟩
  · have hd := h.d
    cases hh : S.hd with
    | none => rw [hh] at hd; exact hd
    | some H => rw [hh] at hd; obtain ⟨r, e, i⟩ := hd; exact ⟨r, e, Cel.keeps i hk (nt (Cel.typ i) fun t' x => x.2.2.2.2.2.symm)⟩
theorem CodAt.typs {w : World} {g a s : Nat} {Q : Int} {B : Nat} {S : S13} (h : CodAt w g a s Q B S) : Typ w g 110 ∧ Typ w a 160 ∧ Typ w s 130 := by
  obtain ⟨ca, pa, qa, cs, ps, qs, o, hv, h⟩ := h
  exact ⟨Cel.typ h.e, Cel.typ h.a.1, Cel.typ h.s.1⟩
structure PhSt (w : World) (g ea es p1 s1 p2 s2 : Nat) (Q : Int) (B : Nat) (S : S13) (T1 T2 : P14) (wr : World) : Prop where
  b : Below w.heap.size w wr
  c : CodAt wr g ea es Q B S
  p : PlyAt wr p1 s1 T1
  q : PlyAt wr p2 s2 T2
  o : (w.heap.size ≤ g ∧ w.heap.size ≤ ea ∧ w.heap.size ≤ es) ∧ (w.heap.size ≤ p1 ∧ w.heap.size ≤ s1) ∧ w.heap.size ≤ p2 ∧ w.heap.size ≤ s2
  n : es ≠ s1 ∧ es ≠ s2 ∧ s1 ≠ s2 ∧ p1 ≠ p2
section
variable {w wr w' : World} {g ea es p1 s1 p2 s2 : Nat} {Q : Int} {B : Nat} {S S' : S13} {T1 T2 T' : P14}
theorem PhSt.now (h : PhSt w g ea es p1 s1 p2 s2 Q B S T1 T2 wr) (k : Below wr.heap.size wr w') : PhSt w g ea es p1 s1 p2 s2 Q B S T1 T2 w' := ⟨chain h.b k, h.c.below k, h.p.below k, h.q.below k, h.o, h.n⟩
/-- A player is elsewhere. -/
theorem ply_far {p s : Nat} {T : P14} (h : PlyAt wr p s T) (hc : CodAt wr g ea es Q B S) (hn : es ≠ s) (k : Keeps (fun j => j = g ∨ j = ea ∨ j = es) wr w') : PlyAt w' p s T := h.keepsN k fun j hj => by
  obtain ⟨t1, t2, t3⟩ := hc.typs
  rcases hj with rfl | rfl | rfl
  · exact ⟨t1.ne h.typs.1 (by decide), t1.ne h.typs.2 (by decide), _, t1, by decide, by decide, by decide, by decide⟩
  · exact ⟨t2.ne h.typs.1 (by decide), t2.ne h.typs.2 (by decide), _, t2, by decide, by decide, by decide, by decide⟩
  · exact ⟨t3.ne h.typs.1 (by decide), hn, _, t3, by decide, by decide, by decide, by decide⟩
theorem ply_far2 {p s p' s' : Nat} {T T2 : P14} (h : PlyAt wr p s T) (h' : PlyAt wr p' s' T2) (hn : s' ≠ s) (hn2 : p' ≠ p) (k : Keeps (fun j => j = p' ∨ j = s') wr w') : PlyAt w' p s T := h.keepsN k fun j hj => by
  rcases hj with rfl | rfl
  · exact ⟨hn2, h'.typs.1.ne h.typs.2 (by decide), _, h'.typs.1, by decide, by decide, by decide, by decide⟩
  · exact ⟨h'.typs.2.ne h.typs.1 (by decide), hn, _, h'.typs.2, by decide, by decide, by decide, by decide⟩
theorem cod_far {p s : Nat} {T : P14} (h : PlyAt wr p s T) (hc : CodAt wr g ea es Q B S) (hn : es ≠ s) (k : Keeps (fun j => j = p ∨ j = s) wr w') : CodAt w' g ea es Q B S := hc.keepsN k fun j hj => by
  rcases hj with rfl | rfl
  · exact ⟨h.typs.1.ne hc.typs.2.2 (by decide), _, h.typs.1, by decide, by decide, by decide, by decide, by decide, by decide⟩
  · exact ⟨hn.symm, _, h.typs.2, by decide, by decide, by decide, by decide, by decide, by decide⟩
theorem PhSt.code (h : PhSt w g ea es p1 s1 p2 s2 Q B S T1 T2 wr) (hc : CodAt w' g ea es Q B S') (k : Keeps (fun j => j = g ∨ j = ea ∨ j = es) wr w') : PhSt w g ea es p1 s1 p2 s2 Q B S' T1 T2 w' :=
  ⟨h.b.trans (k.below h.b.size fun j hj => by have := h.o; rcases hj with rfl | rfl | rfl <;> omega), hc, ply_far h.p h.c h.n.1 k, ply_far h.q h.c h.n.2.1 k, h.o, h.n⟩
theorem PhSt.first (h : PhSt w g ea es p1 s1 p2 s2 Q B S T1 T2 wr) (hp : PlyAt w' p1 s1 T') (k : Keeps (fun j => j = p1 ∨ j = s1) wr w') : PhSt w g ea es p1 s1 p2 s2 Q B S T' T2 w' :=
  ⟨h.b.trans (k.below h.b.size fun j hj => by have := h.o; rcases hj with rfl | rfl <;> omega), cod_far h.p h.c h.n.1 k, hp, ply_far2 h.q h.p h.n.2.2.1 h.n.2.2.2 k, h.o, h.n⟩
theorem PhSt.late (h : PhSt w g ea es p1 s1 p2 s2 Q B S T1 T2 wr) (hp : PlyAt w' p2 s2 T') (k : Keeps (fun j => j = p2 ∨ j = s2) wr w') : PhSt w g ea es p1 s1 p2 s2 Q B S T1 T' w' :=
  ⟨h.b.trans (k.below h.b.size fun j hj => by have := h.o; rcases hj with rfl | rfl <;> omega), cod_far h.q h.c h.n.2.1 k, ply_far2 h.p h.q h.n.2.2.1.symm h.n.2.2.2.symm k, hp, h.o, h.n⟩
end
end Go.Proofs.YtmegkohfnodkjaaGreat

/- Two rows of the same samples are equal. -/
namespace Go.Proofs.YtmegkohfnodkjaaGreat
open Go Go.RowKit
set_option linter.unusedVariables false
set_option linter.unusedSimpArgs false

theorem equal16_same (a a' : Option Addr) (n cap cap' : Nat) (zs : List Int) (w : World) (h : IntsAt w w.heap.size .i16 a n zs) (h' : IntsAt w w.heap.size .i16 a' n zs) (hm : n ≤ 9223372036854775807) :
    Calls Tryz.prog 23 #[.slice a n cap, .slice a' n cap'] w fun e w' => e = .returned (.bool true) ∧ ∃ i, w' = w.drewN i := by
  have H := Lib.hid h
  have H' := Lib.hid h'
  clear h h'
  go_enter Tryz.func23, Tryz.ntmps23
  go_wp2
  go_loopw [13] (fun i wr => ∃ k : Nat, k ≤ n ∧ i = .int .i64 (k : Int) ∧ RowKit.Hid (∃ q, wr = w.drewN q)) (fun i _ => n - (intOf i).toNat)
  case atStart => exact ⟨0, by omega, rfl, 0, rfl⟩
  case round =>
    obtain ⟨k, hk, rfl, HW⟩ := hrel
    by_cases hlt : k < n
    · obtain ⟨b, off, rfl, _, _, h1⟩ := H.out.at_ hlt
      obtain ⟨b', off', rfl, _, _, h2⟩ := H'.out.at_ hlt
      have h1' : wr.cell? ⟨b, off + k, none⟩ = some (.int .i16 (zs.getD k 0)) := by obtain ⟨q, e⟩ := HW.out; rw [e]; exact h1
      have h2' : wr.cell? ⟨b', off' + k, none⟩ = some (.int .i16 (zs.getD k 0)) := by obtain ⟨q, e⟩ := HW.out; rw [e]; exact h2
      clear h1 h2
      have HN : RowKit.Hid (∀ nq, ∃ q, wr.drewN nq = w.drewN q) := fun nq => by obtain ⟨q, e⟩ := HW.out; exact ⟨q + nq, by rw [e, drewE_add]⟩
      generalize zs.getD k 0 = x at h1' h2'
      have l1 : (k : Int) < (n : Int) := by omega
      go_wp2
      go_quiet (fail)
      go_wp2
      go_roundw
      case rel => exact ⟨k + 1, by omega, by go_num, HN.out _⟩
      case measure => simp [intOf] <;> omega
    · obtain rfl : k = n := by omega
      go_wp2
      go_ret
      exact ⟨rfl, HW.out⟩
end Go.Proofs.YtmegkohfnodkjaaGreat
