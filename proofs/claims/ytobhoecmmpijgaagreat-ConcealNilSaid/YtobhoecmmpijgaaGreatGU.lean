/- Plain facts, and what functions give, for the proofs of this seat: several texts in one, each with its own first remark. -/
import Derived.Test.YtobhoecmmpijgaaGreatGy
import Derived.Test.YtobhoecmmpijgaaGreatGK
import Derived.Test.YtobhoecmmpijgaaGreatGP
import Derived.Test.YtobhoecmmpijgaaGreatGT
import Derived.Test.YtobhoecmmpijgaaGreatGD
import Derived.ProofKit
import Derived.OpenShut
import Derived.ShutString
import Derived.ChangeOld
import Derived.Below
import Derived.Deep.Matrix
import Derived.Deep.Slices
import Derived.Test.YtobhoecmmpijgaaGreatGa
import Derived.Deep.Grids

/- Layer 15's laws: frames; whether it lives; no ear. -/
namespace Go.Proofs.YtobhoecmmpijgaaGreat
open Go Go.RowKit
set_option linter.unusedVariables false
set_option linter.unusedSimpArgs false
set_option maxRecDepth 100000

set_option maxRecDepth 100000 in
theorem frame15_any (a : Option Addr) (len cap fr : Nat) (zs : List Int) (w : World) (hl : IntsAt w w.heap.size .i16 a len zs) (hlen : len ≤ 3000) (hf : fr ≤ 100000) :
    Calls Tryz.prog 12 #[.slice a len cap, .int .i64 fr] w (RowPost .i16 51 512 (frmF zs len fr) w) := by
  have HL := Lib.hid hl
  have hmk : ∀ w : World, (Instr.makeSlice 22 (.int .i64 512) (.int .i64 512)).run Tryz.prog w = .ok (.slice (some ⟨w.heap.size, 0, none⟩) 512 512) (w.alloc (.cells (madeCells #[.int .i16 0] 512) 51)) :=
    fun w => make_zeros (P := Tryz.prog) Tryz.underlying22 infoC_i16 512 (by decide) (by decide) w
  have H0 : RowKit.Hid (IFun (w.alloc (.cells (madeCells #[.int .i16 0] 512) 51)) w.heap.size 51 .i16 512 (upTo (frmF zs len fr) (fun _ => 0) 0) ∧ Below w.heap.size w (w.alloc (.cells (madeCells #[.int .i16 0] 512) 51))) :=
    ⟨IFun.ext (IFun.zeros w 51 .i16 512) fun j _ => (upTo_start (frmF zs len fr) (fun _ => 0) j).symm, Below.alloc_new w _⟩
  clear hl
  generalize madeCells #[Value.int .i16 0] 512 = mc at H0 hmk
  go_enter Tryz.func12, Tryz.ntmps12
  go_wp2
  clear hmk
  generalize hg : w.heap.size = g at H0 ⊢
  generalize (w.alloc (.cells mc 51)) = w1 at H0 ⊢
  go_loopw [10] (fun i wr => ∃ k : Nat, k ≤ 512 ∧ i = .int .i64 (k : Int) ∧ RowKit.Hid (IFun wr g 51 .i16 512 (upTo (frmF zs len fr) (fun _ => 0) k) ∧ Below g w wr)) (fun i _ => 512 - (intOf i).toNat)
  case atStart => exact ⟨0, by omega, rfl, H0.out⟩
  case round =>
    obtain ⟨k, hk, rfl, HI⟩ := hrel
    clear H0
    by_cases hlt : k < 512
    · have o1 := HI.out.1.cell (j := k) (by omega)
      rw [upTo_here] at o1
      have f1 := HI.out.1.frozen k
      have HS : RowKit.Hid (IFun (wr.setCell ⟨g, k, none⟩ (.int .i16 (frmF zs len fr k))) g 51 .i16 512 (upTo (frmF zs len fr) (fun _ => 0) (k + 1)) ∧ Below g w (wr.setCell ⟨g, k, none⟩ (.int .i16 (frmF zs len fr k)))) :=
        ⟨IFun.ext (HI.out.1.set (j := k) (by omega) (frmF zs len fr k)) fun j _ => upTo_next _ _ k j, Below.setCell (p := ⟨g, k, none⟩) HI.out.2 (Nat.le_refl _) _⟩
      have l1 : (k : Int) < 512 := by omega
      by_cases hl0 : len = 0
      · have HN : RowKit.Hid (IFun wr g 51 .i16 512 (upTo (frmF zs len fr) (fun _ => 0) (k + 1)) ∧ Below g w wr) := ⟨IFun.ext HI.out.1 fun i _ => by
          unfold upTo frmF
          rw [if_pos hl0]
          split <;> split <;> rfl, HI.out.2⟩
        have ll : ¬ 0 < (len : Int) := by omega
        clear HI HS hl0
        go_wp2
        go_roundw
        case rel => exact ⟨k + 1, by omega, by go_num, HN.out⟩
        case measure => simp [intOf] <;> omega
      · obtain ⟨m, hm⟩ : ∃ m, m = (fr + k) % len := ⟨_, rfl⟩
        have hml : m < len := by rw [hm]; exact Nat.mod_lt _ (by omega)
        have f3 : ((fr : Int) + (k : Int)) % (len : Int) = (m : Int) := by rw [hm]; simp
        have f4 : ((fr : Int) + (k : Int)).tmod (len : Int) = (m : Int) := by rw [Int.tmod_eq_emod_of_nonneg (by omega)]; exact f3
        obtain ⟨b, off, rfl, hbl, _, hc⟩ := HL.out.at_ hml
        have k1 := (HI.out.2.cell (p := ⟨b, off + m, none⟩) (by rw [← hg]; exact hbl)).trans hc
        have HE : RowKit.Hid (zs.getD m 0 = frmF zs len fr k) := by show _ = _; unfold frmF; rw [if_neg hl0, hm]
        rw [← HE.out] at HS
        clear HI hm hc HE
        generalize zs.getD m 0 = y at k1 HS
        have l2 : (m : Int) < (len : Int) := by omega
        have l3 : ¬ (len : Int) = 0 := by omega
        have l4 : 0 < (len : Int) := by omega
        clear hl0
        go_wp2
        go_roundw
        case rel => exact ⟨k + 1, by omega, by go_num, HS.out⟩
        case measure => simp [intOf] <;> omega
    · obtain rfl : k = 512 := by omega
      have Z : RowKit.Hid (IFun wr g 51 .i16 512 (frmF zs len fr) ∧ Below g w wr) := ⟨IFun.ext HI.out.1 fun i hi => upTo_end _ _ 512 i hi, HI.out.2⟩
      go_wp2
      go_ret
      exact ⟨g, rfl, Z.out.1, by omega, by rw [hg]; exact Z.out.2⟩


/-! ### It lives -/
noncomputable def silF : Frm := s13Zero.F 4 99 (fun _ => 0) true
theorem silF_ok : silF.Ok ∧ silF.wh = true := ⟨s13Zero.F_ok (by decide) (by decide) _ _, by unfold silF; rw [S13.F_wh]; rfl⟩
def SilPost (w : World) (e : Ending) (w' : World) : Prop := ∃ a c, e = .returned (.slice a silF.bytes.length c) ∧ IntsAt w' w'.heap.size .u8 a silF.bytes.length silF.bytes ∧ (a = none → c = 0) ∧ Below w.heap.size w w'
set_option maxHeartbeats 1000000 in
theorem silent_any (w : World) : Calls Tryz.prog 20 #[] w (SilPost w) := by
  have mk512 : ∀ w : World, (Instr.makeSlice 22 (.int .i64 512) (.int .i64 512)).run Tryz.prog w = .ok (.slice (some ⟨w.heap.size, 0, none⟩) 512 512) (w.alloc (.cells (madeCells #[.int .i16 0] 512) 51)) := fun w => make_zeros (P := Tryz.prog) Tryz.underlying22 infoC_i16 512 (by decide) (by decide) w
  have HZr : RowKit.Hid (∀ (w : World), IFun (w.alloc (.cells (madeCells #[.int .i16 0] 512) 51)) w.heap.size 51 .i16 512 (fun _ => 0)) := fun w => IFun.zeros w 51 .i16 512
  generalize madeCells #[Value.int .i16 0] 512 = mc at mk512 HZr
  have HE0 : RowKit.Hid (∀ (x g : Nat) (w : World), RefAt w g 4 99 s13Zero → IFun w x 51 .i16 512 (fun _ => 0) → Calls Tryz.prog 11 #[.pointer (some ⟨g, 0, none⟩), .int .u32 0, .slice (some ⟨x, 0, none⟩) 512 512, .bool true] w fun e w' => ∃ a c q, e = .returned (.tuple #[.slice a silF.bytes.length c, .bool q]) ∧ IntsAt w' w'.heap.size .u8 a silF.bytes.length silF.bytes ∧ Keeps (· = g) w w' ∧ (a = none → c = 0)) := fun x g w h1 h2 => by
    refine (rEncode_any g x 4 99 s13Zero (fun _ => 0) 0 true w h1 s13Zero_ok (by decide) (by decide) h2 (fun _ _ => by decide) (by decide) (by decide)).mono ?_
    rintro e w' ⟨a, c, rfl, k1, k2, k3, k4⟩
    exact ⟨a, c, _, rfl, k1, k3, k4⟩
  have HSp : RowKit.Hid (∀ a c w', IntsAt w' w'.heap.size .u8 a silF.bytes.length silF.bytes → (a = none → c = 0) → Below w.heap.size w w' → SilPost w (.returned (.slice a silF.bytes.length c)) w') := fun a c w' h1 h2 h3 => ⟨a, c, rfl, h1, h2, h3⟩
  generalize silF.bytes.length = n at HE0 HSp
  generalize silF.bytes = by_ at HE0 HSp
  have HW1 : RowKit.Hid (Below w.heap.size w w.drew ∧ Below w.heap.size w ((w.alloc (.cells mc 51)).drew)) := ⟨Below.drewN' (Below.refl _ w) 1, Below.drewN' (Below.alloc_new _ _) 1⟩
  go_enter Tryz.func20, Tryz.ntmps20
  go_wp2
  go_region_held3 (fun w' => True) (go_keep) (first
    | (go_at_call 11; have hb1 : Below w.drew.heap.size w.drew w1 := HB1.out; have hb2 : Below w.heap.size w (w1.alloc (.cells mc 51)) := chain (chain HW1.out.1 hb1) (Below.alloc_new w1 _); clear hb1; go_loud (refine (HE0.out w1.heap.size g (w1.alloc (.cells mc 51)) (H1.out.below (Below.alloc_new w1 _)) (HZr.out w1)).mono ?_); rintro e w3 ⟨a, c, q, rfl, i3, k3, n3⟩; have H3 := Lib.hid (HSp.out a c w3 i3 n3 (hb2.trans (k3.below hb2.size fun j hj => by subst hj; exact HS1.out))); clear i3 k3 n3 hb2)
    | (go_at_call 11; have hb1 : Below ((w.alloc (.cells mc 51)).drew).heap.size ((w.alloc (.cells mc 51)).drew) w1 := HB1.out; have hb2 : Below w.heap.size w w1 := chain HW1.out.2 hb1; go_loud (refine (HE0.out w.heap.size g w1 H1.out (IFun.below (w := (w.alloc (.cells mc 51)).drew) (HZr.out w) hb1 (HZr.out w).lt)).mono ?_); clear hb1; rintro e w3 ⟨a, c, q, rfl, i3, k3, n3⟩; have H3 := Lib.hid (HSp.out a c w3 i3 n3 (hb2.trans (k3.below hb2.size fun j hj => by subst hj; exact HS1.out))); clear i3 k3 n3 hb2)
    | (go_at_call 9; go_loud (refine (rNew_any 4 99 _).mono ?_); rintro e w1 ⟨g, rfl, h1, s1, b1⟩; have H1 := Lib.hid h1; have HB1 := Lib.hid b1; have HS1 : RowKit.Hid (w.heap.size ≤ g) := (by first | exact s1 | (simp only [drew_sizeB, alloc_sizeB] at s1; exact Nat.le_of_succ_le s1)); clear h1 s1 b1)
    | fail)
  all_goals go_wp2
  all_goals go_ret
  all_goals exact H3.out
theorem sil_may (E : E15) (ep nu : Int) : E.may ep nu true silF.bytes := by
  obtain ⟨h1, h2⟩ := silF_ok
  refine ⟨?_, by rw [h1.pWh, h2], .inl rfl, h1.pOk (.inl h2) (.inl h2)⟩
  obtain ⟨q1, q2⟩ := h1.headQ
  unfold headR
  rw [decide_eq_true q1, decide_eq_true q2]
  rfl
set_option maxHeartbeats 1000000 in
theorem lives15_any (w : World) : Calls Tryz.prog 6 #[] w fun e w' => e = .returned (.bool true) ∧ Below w.heap.size w w' := by
  obtain ⟨E1, hE1⟩ : ∃ E1, E1 = e15Zero.hear 0 3 silF.bytes := ⟨_, rfl⟩
  have HK1 : RowKit.Hid E1.Ok := by rw [hE1]; exact e15Zero_ok.hear (sil_may e15Zero 0 3).2.2.2 (by decide) (by decide)
  have HL1 : RowKit.Hid ((e15Zero.frames 0 3 silF.bytes).length = 1) := E15.frames_len _ _ _ _
  have HL2 : RowKit.Hid ((E1.frames 0 9 silF.bytes).length = 5) := by
    show _ = _
    rw [E15.frames_len, hE1]
    rfl
  have HE1 : RowKit.Hid (e15Zero.hear 0 3 silF.bytes = E1) := hE1.symm
  have HBy := Lib.hid silF.bytes_bd
  have HLn : RowKit.Hid (silF.bytes.length ≤ 100000) := by have := silF_ok.1.len; show _ ≤ _; omega
  have HM1 := Lib.hid (sil_may e15Zero 0 3)
  have HM2 := Lib.hid (sil_may E1 0 9)
  clear hE1
  have HSil : RowKit.Hid (∀ w, Calls Tryz.prog 20 #[] w (SilPost w)) := silent_any
  unfold SilPost at HSil
  generalize silF.bytes = by_ at HSil HL1 HL2 HE1 HBy HLn HM1 HM2
  obtain ⟨n, hn⟩ : ∃ n, n = by_.length := ⟨_, rfl⟩
  rw [← hn] at HSil HLn
  clear hn
  go_enter Tryz.func6, Tryz.ntmps6
  go_wp2_with (first
    | (go_at_call 13; have h4 := H4.out; clear h4; go_loud (refine (eHear_any e p s E1 0 9 true by_ a4 n c4 _ H4.out.1 HK1.out HI4.out HN4.out HBy.out HLn.out (by decide) (by decide)).mono ?_); rintro en w5 (⟨_, v5, rfl, r5, _, k5⟩ | ⟨hh, _⟩); (case inr => exact absurd HM2.out hh); obtain ⟨a5, c5, rfl⟩ := r5.form; rw [HL2.out]; have HB5 : RowKit.Hid (Below w.heap.size w w5) := H4.out.2.1.trans (k5.below H4.out.2.1.size fun j hj => by have := H4.out.2.2; omega); clear r5 k5)
    | (go_at_call 13; have h2 := H2.out; clear h2; go_loud (refine (eHear_any e p s e15Zero 0 3 true by_ a2 n c2 _ H2.out.1 e15Zero_ok HI2.out HN2.out HBy.out HLn.out (by decide) (by decide)).mono ?_); rintro en w3 (⟨_, v3, rfl, r3, e3, k3⟩ | ⟨hh, _⟩); (case inr => exact absurd HM1.out hh); obtain ⟨a3, c3, rfl⟩ := r3.form; rw [HL1.out]; rw [HE1.out] at e3; have H3 : RowKit.Hid (EarAt w3 e p s E1 ∧ Below w.heap.size w w3 ∧ w.heap.size ≤ e ∧ w.heap.size ≤ p ∧ w.heap.size ≤ s) := ⟨e3, H2.out.2.1.trans (k3.below H2.out.2.1.size fun j hj => by have := H2.out.2.2; omega), H2.out.2.2⟩; clear r3 e3 k3)
    | (go_at_call 20; have h3 := H3.out; clear h3; go_loud (refine (HSil.out _).mono ?_); rintro en w4 ⟨a4, c4, rfl, i4, n4, b4⟩; have HI4 := Lib.hid i4; have HN4 := Lib.hid n4; have H4 : RowKit.Hid (EarAt w4 e p s E1 ∧ Below w.heap.size w w4 ∧ w.heap.size ≤ e ∧ w.heap.size ≤ p ∧ w.heap.size ≤ s) := ⟨H3.out.1.below b4, chain H3.out.2.1 b4, H3.out.2.2⟩; clear i4 n4 b4)
    | (go_at_call 20; go_loud (refine (HSil.out _).mono ?_); rintro en w2 ⟨a2, c2, rfl, i2, n2, b2⟩; have HI2 := Lib.hid i2; have HN2 := Lib.hid n2; have H2 : RowKit.Hid (EarAt w2 e p s e15Zero ∧ Below w.heap.size w w2 ∧ w.heap.size ≤ e ∧ w.heap.size ≤ p ∧ w.heap.size ≤ s) := ⟨H1.out.1.below b2, chain H1.out.2.1 b2, H1.out.2.2⟩; clear i2 n2 b2)
    | (go_at_call 7; go_loud (refine (eNew_any _).mono ?_); rintro en w1 ⟨e, p, s, rfl, h1, s1, s2, s3, b1⟩; have H1 : RowKit.Hid (EarAt w1 e p s e15Zero ∧ Below w.heap.size w w1 ∧ w.heap.size ≤ e ∧ w.heap.size ≤ p ∧ w.heap.size ≤ s) := ⟨h1, b1, s1, s2, s3⟩; clear h1 s1 s2 s3 b1))
  go_ret
  exact ⟨rfl, HB5.out⟩
/-! ### No ear -/
theorem concealNil_law (n : Int) (a : Option Addr) (len cap : Nat) (w : World) (hm : len ≤ 9223372036854775807) :
    Calls Tryz.prog 5 #[.int .u32 n, .slice a len cap] w fun e w' => e = .returned (.bool true) ∧ Below w.heap.size w w' := by
  have HB := Lib.hid (Below.refl w.heap.size w)
  by_cases h1 : 300 < len
  · have hd : decide ((300 : Int) < (len : Int)) = true := by simp; omega
    go_enter Tryz.func5, Tryz.ntmps5
    go_wp2_with (go_at_call 6; go_loud (refine (lives15_any _).mono ?_); rintro e w1 ⟨rfl, hb⟩; replace HB := Lib.hid (chain HB.out hb); clear hb)
    go_ret
    exact ⟨rfl, HB.out⟩
  · have hd : decide ((300 : Int) < (len : Int)) = false := by simp; omega
    go_enter Tryz.func5, Tryz.ntmps5
    go_wp2_with (first
      | (go_at_call 6; go_loud (refine (lives15_any _).mono ?_); rintro e w1 ⟨rfl, hb⟩; have HB1 := Lib.hid (chain HB.out hb); clear hb)
      | (go_at_call 13; go_loud (refine (eHear_nil (.int .i64 0) _ 0 n false a len cap).mono ?_); rintro e w2 ⟨rfl, b2⟩; have HB2 := Lib.hid (chain HB1.out b2); clear b2)
      | (go_at_call 10; go_loud (refine (eBreak_nil _).mono ?_); rintro e w3 ⟨rfl, rfl⟩))
    go_ret
    exact ⟨rfl, HB2.out⟩
end Go.Proofs.YtobhoecmmpijgaaGreat

/- From a reading of an argument to what the walks are told of it: slices of structs of plain values, whatever structs lie in them. -/
namespace Go.Proofs.YtobhoecmmpijgaaGreat
open Go.ChangeShapes Go.WideShapes Go.ChangeAt Go.RowKit Go.Deep
set_option linter.unusedVariables false

/-- A plain cell's kind. -/
inductive PK where
  | int (k : IntKind)
  | bool
  | str
def PK.ok : PK → Value → Prop
  | .int k, v => ∃ n, v = .int k n ∧ (Lit.int k n).wf = true
  | .bool, v => ∃ b, v = .bool b
  | .str, v => ∃ s : ByteArray, v = .string s ∧ s.size ≤ maxLen
/-- Kind by kind, value by value. -/
def OkAll (ks : List PK) (cs : List Value) : Prop := cs.length = ks.length ∧ ∀ (j : Nat) (k : PK), ks[j]? = some k → ∃ v, cs[j]? = some v ∧ PK.ok k v
theorem OkAll.nil : OkAll [] [] := ⟨rfl, fun j k h => by simp at h⟩
theorem OkAll.append {a b : List PK} {c d : List Value} (h : OkAll a c) (k : OkAll b d) : OkAll (a ++ b) (c ++ d) := by
  refine ⟨by simp [h.1, k.1], fun j q hq => ?_⟩
  rw [List.getElem?_append] at hq ⊢
  rw [h.1]
  split at hq
  · rw [if_pos (by assumption)]; exact h.2 j q hq
  · rw [if_neg (by assumption)]; exact k.2 _ q hq
mutual
/-- The kinds of a type's cells, if it is plain. -/
def flatK (P : Program) : Nat → TypeId → Option (List PK)
  | 0, _ => none
  | n + 1, t => match P.underlying t with
    | some (.int k) => some [.int k]
    | some .bool => some [.bool]
    | some .string => some [.str]
    | some (.struct fs) => (flatF P n 0 fs.toList).bind fun ks => if ks.length = P.cellsOf t then some ks else none
    | _ => none
/-- The kinds of fields one behind the other, from an offset on. -/
def flatF (P : Program) : Nat → Nat → List Field → Option (List PK)
  | _, _, [] => some []
  | 0, _, _ :: _ => none
  | n + 1, off, f :: fs => if f.offset = off then
      (flatK P n f.type).bind fun a => if a.length = P.cellsOf f.type then (flatF P n (off + a.length) fs).map fun b => a ++ b else none
    else none
end
section
variable {H : Type} {enc : TypeId × Value → H} {P : Program} {w : World} {base : Nat} {spare : Nat → Bool} {held : Bool}
theorem flat_both (n : Nat) : (∀ t ks fuel cs x, flatK P n t = some ks → DataW.trod enc P w base spare held fuel t cs = some x → OkAll ks cs) ∧
    (∀ off fs ks m (cs : List Value) (xs : List (DataW H × List MemPlace)), flatF P n off fs = some ks → off + ks.length ≤ cs.length → xs.length = fs.length →
      (∀ (i : Nat) (f : Field), fs[i]? = some f → DataW.trod enc P w base spare held m f.type ((cs.drop f.offset).take (P.cellsOf f.type)) = xs[i]?) → OkAll ks ((cs.drop off).take ks.length)) := by
  induction n with
  | zero =>
    refine ⟨fun t ks fuel cs x h => by simp [flatK] at h, fun off fs ks m cs xs h hl hx hf => ?_⟩
    cases fs with
    | nil => simp [flatF] at h; subst h; simpa using OkAll.nil
    | cons f fs => simp [flatF] at h
  | succ n ih =>
    constructor
    · intro t ks fuel cs x h ht
      unfold flatK at h
      split at h
      · next k hu =>
        obtain ⟨v, hc, _, hw⟩ := DataW.trod_int hu ht
        injection h with h; subst h; subst hc
        refine ⟨rfl, fun j q hq => ?_⟩
        match j, hq with
        | 0, hq => simp at hq; subst hq; exact ⟨_, rfl, v, rfl, hw⟩
        | j + 1, hq => simp at hq
      · next hu =>
        obtain ⟨v, hc, _⟩ := DataW.trod_bool hu ht
        injection h with h; subst h; subst hc
        refine ⟨rfl, fun j q hq => ?_⟩
        match j, hq with
        | 0, hq => simp at hq; subst hq; exact ⟨_, rfl, v, rfl⟩
        | j + 1, hq => simp at hq
      · next hu =>
        obtain ⟨v, hc, _, hw⟩ := DataW.trod_string hu ht
        injection h with h; subst h; subst hc
        refine ⟨rfl, fun j q hq => ?_⟩
        match j, hq with
        | 0, hq => simp at hq; subst hq; exact ⟨_, rfl, v, rfl, hw⟩
        | j + 1, hq => simp at hq
      · next fs hu =>
        obtain ⟨ks', hk, h⟩ := Option.bind_eq_some_iff.1 h
        split at h
        · next hl =>
          injection h with h; subst h
          obtain ⟨xs, m, _, _, hcl, hxl, hf⟩ := DataW.trod_struct hu ht
          have := ih.2 0 fs.toList ks' m cs xs hk (by omega) (by simpa using hxl) (fun i f hi => hf i f (by simpa using hi))
          rw [List.drop_zero, List.take_of_length_le (by omega)] at this
          exact this
        · cases h
      · cases h
    · intro off fs ks m cs xs h hl hx hf
      cases fs with
      | nil => simp [flatF] at h; subst h; simpa using OkAll.nil
      | cons f fs =>
        unfold flatF at h
        split at h
        · next ho =>
          obtain ⟨a, ha, h⟩ := Option.bind_eq_some_iff.1 h
          split at h
          · next hal =>
            obtain ⟨b, hb, rfl⟩ := Option.map_eq_some_iff.1 h
            rw [List.length_append] at hl
            cases xs with
            | nil => simp at hx
            | cons x xs =>
              have h0 := hf 0 f rfl
              rw [ho, ← hal] at h0
              have g0 := ih.1 f.type a m _ x ha (by simpa using h0)
              have g1 := ih.2 (off + a.length) fs b m cs xs hb (by omega) (by simpa using hx) (fun i q hi => by simpa using hf (i + 1) q (by simpa using hi))
              have e : (cs.drop off).take (a ++ b).length = (cs.drop off).take a.length ++ (cs.drop (off + a.length)).take b.length := by
                rw [List.length_append, List.take_add, List.drop_drop]
              rw [e]
              exact g0.append g1
          · cases h
        · cases h
theorem flat_ok {n : Nat} {t : TypeId} {ks : List PK} {fuel : Nat} {cs : List Value} {x : DataW H × List MemPlace} (h : flatK P n t = some ks) (ht : DataW.trod enc P w base spare held fuel t cs = some x) : OkAll ks cs := (flat_both n).1 t ks fuel cs x h ht
end

/-- What is known of a slice of plain structs that came in: row i's cells. -/
def StructsIn (w : World) (ks : List PK) (a : Option Addr) (len : Nat) (Z : Nat → List Value) : Prop :=
  len ≤ 9223372036854775807 ∧ (∀ i, i < len → OkAll ks (Z i)) ∧ (len = 0 ∨ ∃ b off, a = some ⟨b, off, none⟩ ∧ b < w.heap.size ∧
    ∀ i, i < len → ∀ j v, (Z i)[j]? = some v → w.cell? ⟨b, off + (i * ks.length + j), none⟩ = some v)
theorem structs_in {P : Program} {H : Type} {enc : TypeId × Value → H} {w : World} {base : Nat} {held : Bool} {t e : TypeId} {fuel n : Nat} {a : Option Addr} {len cap : Nat} {x : DataW H × List MemPlace} {ks : List PK}
    (ht : P.underlying t = some (.slice e)) (hk : flatK P n e = some ks) (hc : P.cellsOf e = ks.length) (hpos : 0 < ks.length)
    (h : DataW.trod enc P w base (fun _ => true) held fuel t (Value.slice a len cap).cells.toList = some x) : ∃ Z, StructsIn w ks a len Z := by
  rcases open_slice ht h with ⟨hcs, _⟩ | ⟨a', len', cap', m, q, D, Pl, hcs, _, hl, hm, hmm, _, hi⟩
  · simp [Value.cells] at hcs
    obtain ⟨rfl, rfl, rfl⟩ := hcs
    exact ⟨fun _ => [], by omega, fun i hi => by omega, .inl rfl⟩
  · simp [Value.cells] at hcs
    obtain ⟨rfl, rfl, rfl⟩ := hcs
    unfold maxLen at hm
    simp only [if_true] at hmm
    subst hmm
    rw [hc] at hi
    have hz : ∀ i, ∃ cs : List Value, i < m → w.cells? base (a'.add (i * ks.length)) ks.length = some cs ∧ OkAll ks cs := by
      intro i
      by_cases h1 : i < m
      · obtain ⟨cs, h2, h3⟩ := hi i h1
        exact ⟨cs, fun _ => ⟨h2, flat_ok hk h3⟩⟩
      · exact ⟨[], fun h => absurd h h1⟩
    obtain ⟨Z, hZ⟩ : ∃ Z : Nat → List Value, ∀ i, i < m → w.cells? base (a'.add (i * ks.length)) ks.length = some (Z i) ∧ OkAll ks (Z i) := ⟨fun i => Classical.choose (hz i), fun i => Classical.choose_spec (hz i)⟩
    refine ⟨Z, by omega, fun i hil => (hZ i (by omega)).2, ?_⟩
    by_cases h0 : len = 0
    · exact .inl h0
    · obtain ⟨_, hlen, hat⟩ := World.cells?_some (hZ 0 (by omega)).1
      obtain ⟨v0, hv0⟩ : ∃ v, (Z 0)[0]? = some v := ⟨_, List.getElem?_eq_getElem (by omega)⟩
      have hat0 := hat 0 hpos
      rw [hv0, Nat.zero_mul] at hat0
      have hs0 : ∃ b off, a' = ⟨b, off, none⟩ := by
        obtain ⟨b, off, spot⟩ := a'
        have hs : spot = none := by simpa [Addr.add] using World.cell?_spot hat0
        subst hs
        exact ⟨b, off, rfl⟩
      obtain ⟨b, off, rfl⟩ := hs0
      refine .inr ⟨b, off, rfl, ?_, fun i hil j v hv => ?_⟩
      · have := hat0
        rw [Go.WideShapes.add_plain, Go.WideShapes.add_plain] at this
        exact cell_block this
      · obtain ⟨_, hlen', hat'⟩ := World.cells?_some (hZ i (by omega)).1
        have hj : j < ks.length := by
          have := (List.getElem?_eq_some_iff.1 hv).1
          omega
        have := hat' j hj
        rw [Go.WideShapes.add_plain, Go.WideShapes.add_plain, hv] at this
        rw [← this, Nat.add_assoc]
end Go.Proofs.YtobhoecmmpijgaaGreat

/- From a reading of an argument to what the walks are told of it: a slice of bools. -/
namespace Go.Proofs.YtobhoecmmpijgaaGreat
open Go.ChangeShapes Go.WideShapes Go.ChangeAt Go.RowKit Go.Deep
set_option linter.unusedVariables false

theorem wf9_i16 {zs : List Int} (h : ∀ n ∈ zs, (Lit.int .i16 n).wf = true) (j : Nat) : -32768 ≤ zs.getD j 0 ∧ zs.getD j 0 ≤ 32767 := by
  by_cases hj : j < zs.length
  · have := bounds_i16 (h (zs[j]) (List.getElem_mem hj))
    simpa [List.getD, hj] using this
  · simp [List.getD, hj]
end Go.Proofs.YtobhoecmmpijgaaGreat
