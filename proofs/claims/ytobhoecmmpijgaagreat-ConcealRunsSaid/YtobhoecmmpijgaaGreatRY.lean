/- Plain facts, and what functions give, for the proofs of this seat: several texts in one, each with its own first remark. -/
import Derived.Test.YtobhoecmmpijgaaGreatRB
import Derived.Test.YtobhoecmmpijgaaGreatRP
import Derived.Test.YtobhoecmmpijgaaGreatRU
import Derived.Test.YtobhoecmmpijgaaGreatRX
import Derived.Test.YtobhoecmmpijgaaGreatRJ
import Derived.Test.YtobhoecmmpijgaaGreatRS
import Derived.Test.YtobhoecmmpijgaaGreatRs
import Derived.Deep.CutBlock
import Derived.Deep.DeepCutAuto
import Derived.BigRegion
import Derived.Test.YtobhoecmmpijgaaGreatRa

/- Layer 15's laws: frames; whether it lives; no ear. -/
namespace Go.Proofs.YtobhoecmmpijgaaGreat
open Go Go.RowKit
set_option linter.unusedVariables false
set_option linter.unusedSimpArgs false
set_option maxRecDepth 100000

set_option maxRecDepth 100000 in
theorem frame15_any (a : Option Addr) (len cap fr : Nat) (zs : List Int) (w : World) (hl : IntsAt w w.heap.size .i16 a len zs) (hlen : len ≤ 3000) (hf : fr ≤ 100000) :
    Calls Tryz.prog 12 #[.slice a len cap, .int .i64 fr] w (RowPost .i16 51 512 (frmF zs len fr) w) := by
  have HL := Lib.hid hl
  have hmk : ∀ w : World, (Instr.makeSlice 22 (.int .i64 512) (.int .i64 512)).run Tryz.prog w = .ok (.slice (some ⟨w.heap.size, 0, none⟩) 512 512) (w.alloc (.cells (madeCells #[.int .i16 0] 512) 51)) :=
    fun w => make_zeros (P := Tryz.prog) Tryz.underlying22 infoC_i16 512 (by decide) (by decide) w
  have H0 : RowKit.Hid (IFun (w.alloc (.cells (madeCells #[.int .i16 0] 512) 51)) w.heap.size 51 .i16 512 (upTo (frmF zs len fr) (fun _ => 0) 0) ∧ Below w.heap.size w (w.alloc (.cells (madeCells #[.int .i16 0] 512) 51))) :=
    ⟨IFun.ext (IFun.zeros w 51 .i16 512) fun j _ => (upTo_start (frmF zs len fr) (fun _ => 0) j).symm, Below.alloc_new w _⟩
  clear hl
  generalize madeCells #[Value.int .i16 0] 512 = mc at H0 hmk
  go_enter Tryz.func12, Tryz.ntmps12
  go_wp2
  clear hmk
  generalize hg : w.heap.size = g at H0 ⊢
  generalize (w.alloc (.cells mc 51)) = w1 at H0 ⊢
  go_loopw [10] (fun i wr => ∃ k : Nat, k ≤ 512 ∧ i = .int .i64 (k : Int) ∧ RowKit.Hid (IFun wr g 51 .i16 512 (upTo (frmF zs len fr) (fun _ => 0) k) ∧ Below g w wr)) (fun i _ => 512 - (intOf i).toNat)
  case atStart => exact ⟨0, by omega, rfl, H0.out⟩
  case round =>
    obtain ⟨k, hk, rfl, HI⟩ := hrel
    clear H0
    by_cases hlt : k < 512
    · have o1 := HI.out.1.cell (j := k) (by omega)
      rw [upTo_here] at o1
      have f1 := HI.out.1.frozen k
      have HS : RowKit.Hid (IFun (wr.setCell ⟨g, k, none⟩ (.int .i16 (frmF zs len fr k))) g 51 .i16 512 (upTo (frmF zs len fr) (fun _ => 0) (k + 1)) ∧ Below g w (wr.setCell ⟨g, k, none⟩ (.int .i16 (frmF zs len fr k)))) :=
        ⟨IFun.ext (HI.out.1.set (j := k) (by omega) (frmF zs len fr k)) fun j _ => upTo_next _ _ k j, Below.setCell (p := ⟨g, k, none⟩) HI.out.2 (Nat.le_refl _) _⟩
      have l1 : (k : Int) < 512 := by omega
      by_cases hl0 : len = 0
      · have HN : RowKit.Hid (IFun wr g 51 .i16 512 (upTo (frmF zs len fr) (fun _ => 0) (k + 1)) ∧ Below g w wr) := ⟨IFun.ext HI.out.1 fun i _ => by
          unfold upTo frmF
          rw [if_pos hl0]
          split <;> split <;> rfl, HI.out.2⟩
        have ll : ¬ 0 < (len : Int) := by omega
        clear HI HS hl0
        go_wp2
        go_roundw
        case rel => exact ⟨k + 1, by omega, by go_num, HN.out⟩
        case measure => simp [intOf] <;> omega
      · obtain ⟨m, hm⟩ : ∃ m, m = (fr + k) % len := ⟨_, rfl⟩
        have hml : m < len := by rw [hm]; exact Nat.mod_lt _ (by omega)
        have f3 : ((fr : Int) + (k : Int)) % (len : Int) = (m : Int) := by rw [hm]; simp
        have f4 : ((fr : Int) + (k : Int)).tmod (len : Int) = (m : Int) := by rw [Int.tmod_eq_emod_of_nonneg (by omega)]; exact f3
        obtain ⟨b, off, rfl, hbl, _, hc⟩ := HL.out.at_ hml
        have k1 := (HI.out.2.cell (p := ⟨b, off + m, none⟩) (by rw [← hg]; exact hbl)).trans hc
        have HE : RowKit.Hid (zs.getD m 0 = frmF zs len fr k) := by show _ = _; unfold frmF; rw [if_neg hl0, hm]
        rw [← HE.out] at HS
        clear HI hm hc HE
        generalize zs.getD m 0 = y at k1 HS
        have l2 : (m : Int) < (len : Int) := by omega
        have l3 : ¬ (len : Int) = 0 := by omega
        have l4 : 0 < (len : Int) := by omega
        clear hl0
        go_wp2
        go_roundw
        case rel => exact ⟨k + 1, by omega, by go_num, HS.out⟩
        case measure => simp [intOf] <;> omega
    · obtain rfl : k = 512 := by omega
      have Z : RowKit.Hid (IFun wr g 51 .i16 512 (frmF zs len fr) ∧ Below g w wr) := ⟨IFun.ext HI.out.1 fun i hi => upTo_end _ _ 512 i hi, HI.out.2⟩
      go_wp2
      go_ret
      exact ⟨g, rfl, Z.out.1, by omega, by rw [hg]; exact Z.out.2⟩


/-! ### It lives -/
noncomputable def silF : Frm := s13Zero.F 4 99 (fun _ => 0) true
theorem silF_ok : silF.Ok ∧ silF.wh = true := ⟨s13Zero.F_ok (by decide) (by decide) _ _, by unfold silF; rw [S13.F_wh]; rfl⟩
def SilPost (w : World) (e : Ending) (w' : World) : Prop := ∃ a c, e = .returned (.slice a silF.bytes.length c) ∧ IntsAt w' w'.heap.size .u8 a silF.bytes.length silF.bytes ∧ (a = none → c = 0) ∧ Below w.heap.size w w'
set_option maxHeartbeats 1000000 in
theorem silent_any (w : World) : Calls Tryz.prog 20 #[] w (SilPost w) := by
  have mk512 : ∀ w : World, (Instr.makeSlice 22 (.int .i64 512) (.int .i64 512)).run Tryz.prog w = .ok (.slice (some ⟨w.heap.size, 0, none⟩) 512 512) (w.alloc (.cells (madeCells #[.int .i16 0] 512) 51)) := fun w => make_zeros (P := Tryz.prog) Tryz.underlying22 infoC_i16 512 (by decide) (by decide) w
  have HZr : RowKit.Hid (∀ (w : World), IFun (w.alloc (.cells (madeCells #[.int .i16 0] 512) 51)) w.heap.size 51 .i16 512 (fun _ => 0)) := fun w => IFun.zeros w 51 .i16 512
  generalize madeCells #[Value.int .i16 0] 512 = mc at mk512 HZr
  have HE0 : RowKit.Hid (∀ (x g : Nat) (w : World), RefAt w g 4 99 s13Zero → IFun w x 51 .i16 512 (fun _ => 0) → Calls Tryz.prog 11 #[.pointer (some ⟨g, 0, none⟩), .int .u32 0, .slice (some ⟨x, 0, none⟩) 512 512, .bool true] w fun e w' => ∃ a c q, e = .returned (.tuple #[.slice a silF.bytes.length c, .bool q]) ∧ IntsAt w' w'.heap.size .u8 a silF.bytes.length silF.bytes ∧ Keeps (· = g) w w' ∧ (a = none → c = 0)) := fun x g w h1 h2 => by
    refine (rEncode_any g x 4 99 s13Zero (fun _ => 0) 0 true w h1 s13Zero_ok (by decide) (by decide) h2 (fun _ _ => by decide) (by decide) (by decide)).mono ?_
    rintro e w' ⟨a, c, rfl, k1, k2, k3, k4⟩
    exact ⟨a, c, _, rfl, k1, k3, k4⟩
  have HSp : RowKit.Hid (∀ a c w', IntsAt w' w'.heap.size .u8 a silF.bytes.length silF.bytes → (a = none → c = 0) → Below w.heap.size w w' → SilPost w (.returned (.slice a silF.bytes.length c)) w') := fun a c w' h1 h2 h3 => ⟨a, c, rfl, h1, h2, h3⟩
  generalize silF.bytes.length = n at HE0 HSp
  generalize silF.bytes = by_ at HE0 HSp
  have HW1 : RowKit.Hid (Below w.heap.size w w.drew ∧ Below w.heap.size w ((w.alloc (.cells mc 51)).drew)) := ⟨Below.drewN' (Below.refl _ w) 1, Below.drewN' (Below.alloc_new _ _) 1⟩
  go_enter Tryz.func20, Tryz.ntmps20
  go_wp2
  go_region_held3 (fun w' => True) (go_keep) (first
    | (go_at_call 11; have hb1 : Below w.drew.heap.size w.drew w1 := HB1.out; have hb2 : Below w.heap.size w (w1.alloc (.cells mc 51)) := chain (chain HW1.out.1 hb1) (Below.alloc_new w1 _); clear hb1; go_loud (refine (HE0.out w1.heap.size g (w1.alloc (.cells mc 51)) (H1.out.below (Below.alloc_new w1 _)) (HZr.out w1)).mono ?_); rintro e w3 ⟨a, c, q, rfl, i3, k3, n3⟩; have H3 := Lib.hid (HSp.out a c w3 i3 n3 (hb2.trans (k3.below hb2.size fun j hj => by subst hj; exact HS1.out))); clear i3 k3 n3 hb2)
    | (go_at_call 11; have hb1 : Below ((w.alloc (.cells mc 51)).drew).heap.size ((w.alloc (.cells mc 51)).drew) w1 := HB1.out; have hb2 : Below w.heap.size w w1 := chain HW1.out.2 hb1; go_loud (refine (HE0.out w.heap.size g w1 H1.out (IFun.below (w := (w.alloc (.cells mc 51)).drew) (HZr.out w) hb1 (HZr.out w).lt)).mono ?_); clear hb1; rintro e w3 ⟨a, c, q, rfl, i3, k3, n3⟩; have H3 := Lib.hid (HSp.out a c w3 i3 n3 (hb2.trans (k3.below hb2.size fun j hj => by subst hj; exact HS1.out))); clear i3 k3 n3 hb2)
    | (go_at_call 9; go_loud (refine (rNew_any 4 99 _).mono ?_); rintro e w1 ⟨g, rfl, h1, s1, b1⟩; have H1 := Lib.hid h1; have HB1 := Lib.hid b1; have HS1 : RowKit.Hid (w.heap.size ≤ g) := (by first | exact s1 | (simp only [drew_sizeB, alloc_sizeB] at s1; exact Nat.le_of_succ_le s1)); clear h1 s1 b1)
    | fail)
  all_goals go_wp2
  all_goals go_ret
  all_goals exact H3.out
theorem sil_may (E : E15) (ep nu : Int) : E.may ep nu true silF.bytes := by
  obtain ⟨h1, h2⟩ := silF_ok
  refine ⟨?_, by rw [h1.pWh, h2], .inl rfl, h1.pOk (.inl h2) (.inl h2)⟩
  obtain ⟨q1, q2⟩ := h1.headQ
  unfold headR
  rw [decide_eq_true q1, decide_eq_true q2]
  rfl
set_option maxHeartbeats 1000000 in
theorem lives15_any (w : World) : Calls Tryz.prog 6 #[] w fun e w' => e = .returned (.bool true) ∧ Below w.heap.size w w' := by
  obtain ⟨E1, hE1⟩ : ∃ E1, E1 = e15Zero.hear 0 3 silF.bytes := ⟨_, rfl⟩
  have HK1 : RowKit.Hid E1.Ok := by rw [hE1]; exact e15Zero_ok.hear (sil_may e15Zero 0 3).2.2.2 (by decide) (by decide)
  have HL1 : RowKit.Hid ((e15Zero.frames 0 3 silF.bytes).length = 1) := E15.frames_len _ _ _ _
  have HL2 : RowKit.Hid ((E1.frames 0 9 silF.bytes).length = 5) := by
    show _ = _
    rw [E15.frames_len, hE1]
    rfl
  have HE1 : RowKit.Hid (e15Zero.hear 0 3 silF.bytes = E1) := hE1.symm
  have HBy := Lib.hid silF.bytes_bd
  have HLn : RowKit.Hid (silF.bytes.length ≤ 100000) := by have := silF_ok.1.len; show _ ≤ _; omega
  have HM1 := Lib.hid (sil_may e15Zero 0 3)
  have HM2 := Lib.hid (sil_may E1 0 9)
  clear hE1
  have HSil : RowKit.Hid (∀ w, Calls Tryz.prog 20 #[] w (SilPost w)) := silent_any
  unfold SilPost at HSil
  generalize silF.bytes = by_ at HSil HL1 HL2 HE1 HBy HLn HM1 HM2
  obtain ⟨n, hn⟩ : ∃ n, n = by_.length := ⟨_, rfl⟩
  rw [← hn] at HSil HLn
  clear hn
  go_enter Tryz.func6, Tryz.ntmps6
  go_wp2_with (first
    | (go_at_call 13; have h4 := H4.out; clear h4; go_loud (refine (eHear_any e p s E1 0 9 true by_ a4 n c4 _ H4.out.1 HK1.out HI4.out HN4.out HBy.out HLn.out (by decide) (by decide)).mono ?_); rintro en w5 (⟨_, v5, rfl, r5, _, k5⟩ | ⟨hh, _⟩); (case inr => exact absurd HM2.out hh); obtain ⟨a5, c5, rfl⟩ := r5.form; rw [HL2.out]; have HB5 : RowKit.Hid (Below w.heap.size w w5) := H4.out.2.1.trans (k5.below H4.out.2.1.size fun j hj => by have := H4.out.2.2; omega); clear r5 k5)
    | (go_at_call 13; have h2 := H2.out; clear h2; go_loud (refine (eHear_any e p s e15Zero 0 3 true by_ a2 n c2 _ H2.out.1 e15Zero_ok HI2.out HN2.out HBy.out HLn.out (by decide) (by decide)).mono ?_); rintro en w3 (⟨_, v3, rfl, r3, e3, k3⟩ | ⟨hh, _⟩); (case inr => exact absurd HM1.out hh); obtain ⟨a3, c3, rfl⟩ := r3.form; rw [HL1.out]; rw [HE1.out] at e3; have H3 : RowKit.Hid (EarAt w3 e p s E1 ∧ Below w.heap.size w w3 ∧ w.heap.size ≤ e ∧ w.heap.size ≤ p ∧ w.heap.size ≤ s) := ⟨e3, H2.out.2.1.trans (k3.below H2.out.2.1.size fun j hj => by have := H2.out.2.2; omega), H2.out.2.2⟩; clear r3 e3 k3)
    | (go_at_call 20; have h3 := H3.out; clear h3; go_loud (refine (HSil.out _).mono ?_); rintro en w4 ⟨a4, c4, rfl, i4, n4, b4⟩; have HI4 := Lib.hid i4; have HN4 := Lib.hid n4; have H4 : RowKit.Hid (EarAt w4 e p s E1 ∧ Below w.heap.size w w4 ∧ w.heap.size ≤ e ∧ w.heap.size ≤ p ∧ w.heap.size ≤ s) := ⟨H3.out.1.below b4, chain H3.out.2.1 b4, H3.out.2.2⟩; clear i4 n4 b4)
    | (go_at_call 20; go_loud (refine (HSil.out _).mono ?_); rintro en w2 ⟨a2, c2, rfl, i2, n2, b2⟩; have HI2 := Lib.hid i2; have HN2 := Lib.hid n2; have H2 : RowKit.Hid (EarAt w2 e p s e15Zero ∧ Below w.heap.size w w2 ∧ w.heap.size ≤ e ∧ w.heap.size ≤ p ∧ w.heap.size ≤ s) := ⟨H1.out.1.below b2, chain H1.out.2.1 b2, H1.out.2.2⟩; clear i2 n2 b2)
    | (go_at_call 7; go_loud (refine (eNew_any _).mono ?_); rintro en w1 ⟨e, p, s, rfl, h1, s1, s2, s3, b1⟩; have H1 : RowKit.Hid (EarAt w1 e p s e15Zero ∧ Below w.heap.size w w1 ∧ w.heap.size ≤ e ∧ w.heap.size ≤ p ∧ w.heap.size ≤ s) := ⟨h1, b1, s1, s2, s3⟩; clear h1 s1 s2 s3 b1))
  go_ret
  exact ⟨rfl, HB5.out⟩
/-! ### No ear -/
end Go.Proofs.YtobhoecmmpijgaaGreat

/- What is held on the way of PlayerHears. -/
namespace Go.Proofs.YtobhoecmmpijgaaGreat
open Go Go.RowKit
set_option linter.unusedVariables false
set_option linter.unusedSimpArgs false

/-- What is written elsewhere. -/
theorem CodAt.keepsN {w w' : World} {g a s : Nat} {Q : Int} {B : Nat} {S : S13} {F : Nat → Prop} (h : CodAt w g a s Q B S) (hk : Keeps F w w')
    (hF : ∀ j, F j → j ≠ s ∧ ∃ t, Typ w j t ∧ t ≠ 222 ∧ t ≠ 220 ∧ t ≠ 100 ∧ t ≠ 152 ∧ t ≠ 3 ∧ t ≠ 51) : CodAt w' g a s Q B S := by
  obtain ⟨ca, pa, qa, cs, ps, qs, o, hv, h⟩ := h
  have nt : ∀ {j : Nat} {t : TypeId}, Typ w j t → (∀ t', (t' ≠ 222 ∧ t' ≠ 220 ∧ t' ≠ 100 ∧ t' ≠ 152 ∧ t' ≠ 3 ∧ t' ≠ 51) → t ≠ t') → ¬ F j := by
    intro j t hc ht hf
    obtain ⟨_, t', c', x⟩ := hF j hf
    exact hc.ne c' (ht t' x) rfl
  have n : ∀ {g c m : Nat}, TrAt w g c m → ¬ F g ∧ ¬ F c := fun ht => ⟨nt (Cel.typ ht.1) fun t' x => x.1.symm, by
    obtain ⟨vs, hc⟩ := ht.2.cel
    exact nt (Cel.typ hc) fun t' x => x.2.1.symm⟩
  refine ⟨ca, pa, qa, cs, ps, qs, o, hv, h.e.keeps hk (nt (Cel.typ h.e) fun t' x => x.2.2.1.symm), ?_, ?_, h.h.keeps hk (fun r hr => nt (Cel.typ hr) fun t' x => x.2.2.2.2.1.symm), ?_⟩
  · exact ⟨h.a.1.keeps hk (nt (Cel.typ h.a.1) fun t' x => x.2.2.2.1.symm), h.a.2.1.keeps hk (n h.a.2.1).1 (n h.a.2.1).2, h.a.2.2.keeps hk (n h.a.2.2).1 (n h.a.2.2).2⟩
  · exact ⟨h.s.1.keeps hk (fun e => (hF _ e).1 rfl), h.s.2.1.keeps hk (n h.s.2.1).1 (n h.s.2.1).2, h.s.2.2.keeps hk (n h.s.2.2).1 (n h.s.2.2).2⟩
  · have hd := h.d
    cases hh : S.hd with
    | none => rw [hh] at hd; exact hd
    | some H => rw [hh] at hd; obtain ⟨r, e, i⟩ := hd; exact ⟨r, e, Cel.keeps i hk (nt (Cel.typ i) fun t' x => x.2.2.2.2.2.symm)⟩
theorem CodAt.typs {w : World} {g a s : Nat} {Q : Int} {B : Nat} {S : S13} (h : CodAt w g a s Q B S) : Typ w g 100 ∧ Typ w a 152 ∧ Typ w s 155 := by
  obtain ⟨ca, pa, qa, cs, ps, qs, o, hv, h⟩ := h
  exact ⟨Cel.typ h.e, Cel.typ h.a.1, Cel.typ h.s.1⟩
structure PhSt (w : World) (g ea es p1 s1 p2 s2 : Nat) (Q : Int) (B : Nat) (S : S13) (T1 T2 : P14) (wr : World) : Prop where
  b : Below w.heap.size w wr
  c : CodAt wr g ea es Q B S
  p : PlyAt wr p1 s1 T1
  q : PlyAt wr p2 s2 T2
  o : (w.heap.size ≤ g ∧ w.heap.size ≤ ea ∧ w.heap.size ≤ es) ∧ (w.heap.size ≤ p1 ∧ w.heap.size ≤ s1) ∧ w.heap.size ≤ p2 ∧ w.heap.size ≤ s2
  n : es ≠ s1 ∧ es ≠ s2 ∧ s1 ≠ s2 ∧ p1 ≠ p2
section
variable {w wr w' : World} {g ea es p1 s1 p2 s2 : Nat} {Q : Int} {B : Nat} {S S' : S13} {T1 T2 T' : P14}
theorem PhSt.now (h : PhSt w g ea es p1 s1 p2 s2 Q B S T1 T2 wr) (k : Below wr.heap.size wr w') : PhSt w g ea es p1 s1 p2 s2 Q B S T1 T2 w' := ⟨chain h.b k, h.c.below k, h.p.below k, h.q.below k, h.o, h.n⟩
/-- A player is elsewhere. -/
theorem ply_far {p s : Nat} {T : P14} (h : PlyAt wr p s T) (hc : CodAt wr g ea es Q B S) (hn : es ≠ s) (k : Keeps (fun j => j = g ∨ j = ea ∨ j = es) wr w') : PlyAt w' p s T := h.keepsN k fun j hj => by
  obtain ⟨t1, t2, t3⟩ := hc.typs
  rcases hj with rfl | rfl | rfl
  · exact ⟨t1.ne h.typs.1 (by decide), t1.ne h.typs.2 (by decide), _, t1, by decide, by decide, by decide, by decide⟩
  · exact ⟨t2.ne h.typs.1 (by decide), t2.ne h.typs.2 (by decide), _, t2, by decide, by decide, by decide, by decide⟩
  · exact ⟨t3.ne h.typs.1 (by decide), hn, _, t3, by decide, by decide, by decide, by decide⟩
theorem ply_far2 {p s p' s' : Nat} {T T2 : P14} (h : PlyAt wr p s T) (h' : PlyAt wr p' s' T2) (hn : s' ≠ s) (hn2 : p' ≠ p) (k : Keeps (fun j => j = p' ∨ j = s') wr w') : PlyAt w' p s T := h.keepsN k fun j hj => by
  rcases hj with rfl | rfl
  · exact ⟨hn2, h'.typs.1.ne h.typs.2 (by decide), _, h'.typs.1, by decide, by decide, by decide, by decide⟩
  · exact ⟨h'.typs.2.ne h.typs.1 (by decide), hn, _, h'.typs.2, by decide, by decide, by decide, by decide⟩
theorem cod_far {p s : Nat} {T : P14} (h : PlyAt wr p s T) (hc : CodAt wr g ea es Q B S) (hn : es ≠ s) (k : Keeps (fun j => j = p ∨ j = s) wr w') : CodAt w' g ea es Q B S := hc.keepsN k fun j hj => by
  rcases hj with rfl | rfl
  · exact ⟨h.typs.1.ne hc.typs.2.2 (by decide), _, h.typs.1, by decide, by decide, by decide, by decide, by decide, by decide⟩
  · exact ⟨hn.symm, _, h.typs.2, by decide, by decide, by decide, by decide, by decide, by decide⟩
theorem PhSt.code (h : PhSt w g ea es p1 s1 p2 s2 Q B S T1 T2 wr) (hc : CodAt w' g ea es Q B S') (k : Keeps (fun j => j = g ∨ j = ea ∨ j = es) wr w') : PhSt w g ea es p1 s1 p2 s2 Q B S' T1 T2 w' :=
  ⟨h.b.trans (k.below h.b.size fun j hj => by have := h.o; rcases hj with rfl | rfl | rfl <;> omega), hc, ply_far h.p h.c h.n.1 k, ply_far h.q h.c h.n.2.1 k, h.o, h.n⟩
theorem PhSt.first (h : PhSt w g ea es p1 s1 p2 s2 Q B S T1 T2 wr) (hp : PlyAt w' p1 s1 T') (k : Keeps (fun j => j = p1 ∨ j = s1) wr w') : PhSt w g ea es p1 s1 p2 s2 Q B S T' T2 w' :=
  ⟨h.b.trans (k.below h.b.size fun j hj => by have := h.o; rcases hj with rfl | rfl <;> omega), cod_far h.p h.c h.n.1 k, hp, ply_far2 h.q h.p h.n.2.2.1 h.n.2.2.2 k, h.o, h.n⟩
end
end Go.Proofs.YtobhoecmmpijgaaGreat

/- Two rows of the same samples are equal. -/
namespace Go.Proofs.YtobhoecmmpijgaaGreat
open Go Go.RowKit
set_option linter.unusedVariables false
set_option linter.unusedSimpArgs false

theorem equal16_same (a a' : Option Addr) (n cap cap' : Nat) (zs : List Int) (w : World) (h : IntsAt w w.heap.size .i16 a n zs) (h' : IntsAt w w.heap.size .i16 a' n zs) (hm : n ≤ 9223372036854775807) :
    Calls Tryz.prog 19 #[.slice a n cap, .slice a' n cap'] w fun e w' => e = .returned (.bool true) ∧ ∃ i, w' = w.drewN i := by
  have H := Lib.hid h
  have H' := Lib.hid h'
  clear h h'
  go_enter Tryz.func19, Tryz.ntmps19
  go_wp2
  go_loopw [13] (fun i wr => ∃ k : Nat, k ≤ n ∧ i = .int .i64 (k : Int) ∧ RowKit.Hid (∃ q, wr = w.drewN q)) (fun i _ => n - (intOf i).toNat)
  case atStart => exact ⟨0, by omega, rfl, 0, rfl⟩
  case round =>
    obtain ⟨k, hk, rfl, HW⟩ := hrel
    by_cases hlt : k < n
    · obtain ⟨b, off, rfl, _, _, h1⟩ := H.out.at_ hlt
      obtain ⟨b', off', rfl, _, _, h2⟩ := H'.out.at_ hlt
      have h1' : wr.cell? ⟨b, off + k, none⟩ = some (.int .i16 (zs.getD k 0)) := by obtain ⟨q, e⟩ := HW.out; rw [e]; exact h1
      have h2' : wr.cell? ⟨b', off' + k, none⟩ = some (.int .i16 (zs.getD k 0)) := by obtain ⟨q, e⟩ := HW.out; rw [e]; exact h2
      clear h1 h2
      have HN : RowKit.Hid (∀ nq, ∃ q, wr.drewN nq = w.drewN q) := fun nq => by obtain ⟨q, e⟩ := HW.out; exact ⟨q + nq, by rw [e, drewE_add]⟩
      generalize zs.getD k 0 = x at h1' h2'
      have l1 : (k : Int) < (n : Int) := by omega
      go_wp2
      go_quiet (fail)
      go_wp2
      go_roundw
      case rel => exact ⟨k + 1, by omega, by go_num, HN.out _⟩
      case measure => simp [intOf] <;> omega
    · obtain rfl : k = n := by omega
      go_wp2
      go_ret
      exact ⟨rfl, HW.out⟩
end Go.Proofs.YtobhoecmmpijgaaGreat

/- The walk of ConcealRuns. -/
namespace Go.Proofs.YtobhoecmmpijgaaGreat
open Go Go.RowKit
set_option linter.unusedVariables false
set_option linter.unusedSimpArgs false
set_option maxRecDepth 100000

structure RhSt (w : World) (g ea es p1 s1 e p s : Nat) (S : S13) (T1 : P14) (E : E15) (wr : World) : Prop where
  hb : Below w.heap.size w wr
  hc : CodAt wr g ea es 4 200 S
  hq : PlyAt wr p1 s1 T1
  he : EarAt wr e p s E
  ho : (w.heap.size ≤ g ∧ w.heap.size ≤ ea ∧ w.heap.size ≤ es) ∧ (w.heap.size ≤ p1 ∧ w.heap.size ≤ s1) ∧ w.heap.size ≤ e ∧ w.heap.size ≤ p ∧ w.heap.size ≤ s
  hn : es ≠ s1 ∧ es ≠ s ∧ s1 ≠ s ∧ p1 ≠ p
section
variable {w wr w' : World} {g ea es p1 s1 e p s : Nat} {S S' : S13} {T1 T' : P14} {E E' : E15}
theorem RhSt.now (h : RhSt w g ea es p1 s1 e p s S T1 E wr) (k : Below wr.heap.size wr w') : RhSt w g ea es p1 s1 e p s S T1 E w' := ⟨chain h.hb k, h.hc.below k, h.hq.below k, h.he.below k, h.ho, h.hn⟩
theorem RhSt.code (h : RhSt w g ea es p1 s1 e p s S T1 E wr) (hc : CodAt w' g ea es 4 200 S') (k : Keeps (fun j => j = g ∨ j = ea ∨ j = es) wr w') : RhSt w g ea es p1 s1 e p s S' T1 E w' := by
  obtain ⟨t1, t2, t3⟩ := h.hc.typs
  refine ⟨h.hb.trans (k.below h.hb.size fun j hj => by have := h.ho; rcases hj with rfl | rfl | rfl <;> omega), hc, ply_far h.hq h.hc h.hn.1 k, ⟨h.he.e.keeps k fun hj => ?_, ply_far h.he.p h.hc h.hn.2.1 k⟩, h.ho, h.hn⟩
  have te := Cel.typ h.he.e
  rcases hj with rfl | rfl | rfl
  · exact te.ne t1 (by decide) rfl
  · exact te.ne t2 (by decide) rfl
  · exact te.ne t3 (by decide) rfl
theorem RhSt.first (h : RhSt w g ea es p1 s1 e p s S T1 E wr) (hp : PlyAt w' p1 s1 T') (k : Keeps (fun j => j = p1 ∨ j = s1) wr w') : RhSt w g ea es p1 s1 e p s S T' E w' := by
  refine ⟨h.hb.trans (k.below h.hb.size fun j hj => by have := h.ho; rcases hj with rfl | rfl <;> omega), cod_far h.hq h.hc h.hn.1 k, hp, ⟨cel_ply h.he.e (by decide) (by decide) h.hq k, ply_far2 h.he.p h.hq h.hn.2.2.1 h.hn.2.2.2 k⟩, h.ho, h.hn⟩
theorem RhSt.ear (h : RhSt w g ea es p1 s1 e p s S T1 E wr) (he : EarAt w' e p s E') (k : Keeps (fun j => j = e ∨ j = p ∨ j = s) wr w') : RhSt w g ea es p1 s1 e p s S T1 E' w' := by
  obtain ⟨t1, t2, t3⟩ := h.hc.typs
  obtain ⟨u1, u2, u3⟩ := h.he.typs
  obtain ⟨v1, v2⟩ := h.hq.typs
  refine ⟨h.hb.trans (k.below h.hb.size fun j hj => by have := h.ho; rcases hj with rfl | rfl | rfl <;> omega), h.hc.keepsN k (fun j hj => ?_), h.hq.keepsN k (fun j hj => ?_), he, h.ho, h.hn⟩
  · rcases hj with rfl | rfl | rfl
    · exact ⟨u1.ne t3 (by decide), _, u1, by decide, by decide, by decide, by decide, by decide, by decide⟩
    · exact ⟨u2.ne t3 (by decide), _, u2, by decide, by decide, by decide, by decide, by decide, by decide⟩
    · exact ⟨h.hn.2.1.symm, _, u3, by decide, by decide, by decide, by decide, by decide, by decide⟩
  · rcases hj with rfl | rfl | rfl
    · exact ⟨u1.ne v1 (by decide), u1.ne v2 (by decide), _, u1, by decide, by decide, by decide, by decide⟩
    · exact ⟨h.hn.2.2.2.symm, u2.ne v2 (by decide), _, u2, by decide, by decide, by decide, by decide⟩
    · exact ⟨u3.ne v1 (by decide), h.hn.2.2.1.symm, _, u3, by decide, by decide, by decide, by decide⟩
theorem EarAt.odd8 (h : EarAt w e p s E) (j : Nat) (hj : j = e ∨ j = p ∨ j = s) : ∃ t cs, Cel w j t cs ∧ Odd8 cs := by
  rcases hj with rfl | hj
  · refine ⟨_, _, h.e, odd8_list (l := [_, _, _, _, _]) fun v hv x e => ?_⟩
    subst e
    simp at hv
  · exact h.p.odd8 j hj
/-- Samples stay where an ear hears. -/
theorem smp_ear {r : Nat} {f : Nat → Int} (h : IFun w r 51 .i16 512 f) (he : EarAt w e p s E) (k : Keeps (fun j => j = e ∨ j = p ∨ j = s) w w') : IFun w' r 51 .i16 512 f :=
  Cel.keeps h k fun hj => by
    obtain ⟨u1, u2, u3⟩ := he.typs
    rcases hj with rfl | rfl | rfl
    · exact (Cel.typ h).ne u1 (by decide) rfl
    · exact (Cel.typ h).ne u2 (by decide) rfl
    · exact (Cel.typ h).ne u3 (by decide) rfl
end
/-- How the ear lies behind the frames: 'la' the last that it heard, if it heard one. -/
structure Lies (t : Nat) (la : Int) (ru : Bool) (S : S13) (E : E15) : Prop where
  ok : E.Ok
  lt : la < (t : Int)
  no : E.ever = false → la = -1 ∧ ru = false
  some : E.ever = true → E.ep = 7 ∧ E.nu = la ∧ 0 ≤ la
  run : ru = true → E.run = true ∧ la + 1 = (t : Int) ∧ Goes S E.T
  off : ru = false → E.ever = false ∨ la + 1 < (t : Int)
theorem lies_zero (S : S13) : Lies 0 (-1) false S e15Zero := ⟨e15Zero_ok, by decide, fun _ => ⟨rfl, rfl⟩, (fun h => by cases h), (fun h => by cases h), fun _ => .inl rfl⟩
section
variable {t : Nat} {la : Int} {ru : Bool} {S : S13} {E : E15}
theorem Lies.follows (h : Lies t la ru S E) (ht : t ≤ 100) : E.follows 7 t = ru := by
  cases hv : E.ever with
  | false =>
    have h1 := (h.no hv).2
    have h2 : E.run = false := by
      cases hr : E.run with
      | false => rfl
      | true => have := h.ok.r hr; rw [hv] at this; cases this
    unfold E15.follows
    rw [h2, h1]
    rfl
  | true =>
    obtain ⟨e1, e2, e3⟩ := h.some hv
    cases ru with
    | true =>
      obtain ⟨h1, h2, _⟩ := h.run rfl
      have h3 : (t : Int) = (E.nu + 1) % 4294967296 := by omega
      unfold E15.follows
      rw [h1, e1, ← h3]
      simp
    | false =>
      have h1 : la + 1 < (t : Int) := (h.off rfl).resolve_left (by rw [hv]; decide)
      have h3 : ¬ (t : Int) = (E.nu + 1) % 4294967296 := by omega
      unfold E15.follows
      rw [show ((t : Int) == (E.nu + 1) % 4294967296) = false by simpa using h3, Bool.and_false, Bool.and_false]
theorem Lies.miss (h : Lies t la ru S E) (ht : t ≤ 100) : ((E.miss 7 t : Nat) : Int) = if 0 ≤ la then min ((t : Int) - la - 1) 4 else 0 := by
  cases hv : E.ever with
  | false =>
    have := (h.no hv).1
    unfold E15.miss missF
    rw [hv, if_neg (by decide), if_neg (by omega)]
    rfl
  | true =>
    obtain ⟨e1, e2, e3⟩ := h.some hv
    have hlt := h.lt
    have hg : gap32 (t : Int) la = (t : Int) - la - 1 := by unfold gap32; omega
    have := missF_same (lp := 7) hg
    unfold E15.miss
    rw [hv, e1, e2, this, if_pos e3]
    split <;> omega
/-- One that is lost. -/
theorem Lies.lost {S' : S13} (h : Lies t la ru S E) : Lies (t + 1) la false S' E :=
  ⟨h.ok, by have := h.lt; omega, fun hv => ⟨(h.no hv).1, rfl⟩, h.some, (fun e => by cases e), fun _ => by have := h.lt; right; omega⟩
/-- One that isn't heard. -/
theorem Lies.deaf {S' : S13} (h : Lies t la false S E) : Lies (t + 1) la false S' E := h.lost
/-- One that is heard. -/
theorem Lies.hear {S' : S13} {b : List Int} (h : Lies t la ru S E) (ht : t ≤ 100) (hm : E.T.may b) (hg : Goes S' ((E.T.fadeN (E.miss 7 t)).play b t)) : Lies (t + 1) t true S' (E.hear 7 t b) :=
  ⟨h.ok.hear hm (by decide) (by omega), by omega, (fun hv => by cases hv), fun _ => ⟨rfl, rfl, by omega⟩, fun _ => ⟨rfl, by omega, hg⟩, fun e => by cases e⟩
end
/-- More numbers, or more frames, than are tried. -/
theorem concealRuns_many (a a2 a3 : Option Addr) (len cap len2 cap2 len3 cap3 : Nat) (w : World) (hm : len ≤ 9223372036854775807) (hm2 : len2 ≤ 9223372036854775807) (hm3 : len3 ≤ 9223372036854775807) (h : 2000 < len ∨ 9 < len2 ∨ 9 < len3) :
    Calls Tryz.prog 4 #[.slice a len cap, .slice a2 len2 cap2, .slice a3 len3 cap3] w fun e w' => e = .returned (.bool true) ∧ Below w.heap.size w w' := by
  have HB := Lib.hid (Below.refl w.heap.size w)
  by_cases h1 : 2000 < len
  · have hd : decide ((2000 : Int) < (len : Int)) = true := by simp; omega
    go_enter Tryz.func4, Tryz.ntmps4
    go_wp2_with (go_at_call 6; go_loud (refine (lives15_any _).mono ?_); rintro e w1 ⟨rfl, hb⟩; replace HB := Lib.hid (chain HB.out hb); clear hb)
    go_ret
    exact ⟨rfl, HB.out⟩
  · have hd : decide ((2000 : Int) < (len : Int)) = false := by simp; omega
    by_cases h2 : 9 < len2
    · have hd2 : decide ((9 : Int) < (len2 : Int)) = true := by simp; omega
      clear h
      go_enter Tryz.func4, Tryz.ntmps4
      go_wp2_with (go_at_call 6; go_loud (refine (lives15_any _).mono ?_); rintro e w1 ⟨rfl, hb⟩; replace HB := Lib.hid (chain HB.out hb); clear hb)
      go_ret
      exact ⟨rfl, HB.out⟩
    · have hd2 : decide ((9 : Int) < (len2 : Int)) = false := by simp; omega
      have hd3 : decide ((9 : Int) < (len3 : Int)) = true := by simp; omega
      clear h
      go_enter Tryz.func4, Tryz.ntmps4
      go_wp2_with (go_at_call 6; go_loud (refine (lives15_any _).mono ?_); rintro e w1 ⟨rfl, hb⟩; replace HB := Lib.hid (chain HB.out hb); clear hb)
      go_ret
      exact ⟨rfl, HB.out⟩
end Go.Proofs.YtobhoecmmpijgaaGreat
