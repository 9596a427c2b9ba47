/- Layer 9's statements: a frame of a list; streams in numbers; that it lives. -/
import Derived.Test.YtgebnaeebdeoeaaOvlV
import Derived.Test.YtgebnaeebdeoeaaMemB
namespace Go.Proofs.Ytgebnaeebdeoeaa
open Go.RowKit
set_option linter.unusedVariables false

/-! ### Streams -/
/-- Number i of a list, again and again, from one on. -/
def frmF (zs : List Int) (len fr i : Nat) : Int := if len = 0 then 0 else zs.getD ((fr + i) % len) 0
/-- The same, behind 128 noughts. -/
def strF (zs : List Int) (len i : Nat) : Int := if i < 128 then 0 else frmF zs len 0 (i - 128)
section
variable {zs : List Int} {len : Nat}
theorem frmF_bd (hz : ∀ j, -32768 ≤ zs.getD j 0 ∧ zs.getD j 0 ≤ 32767) (fr i : Nat) : -32768 ≤ frmF zs len fr i ∧ frmF zs len fr i ≤ 32767 := by
  unfold frmF
  split
  · omega
  · exact hz _
theorem strF_bd (hz : ∀ j, -32768 ≤ zs.getD j 0 ∧ zs.getD j 0 ≤ 32767) (i : Nat) : -32768 ≤ strF zs len i ∧ strF zs len i ≤ 32767 := by
  unfold strF
  split
  · omega
  · exact frmF_bd hz _ _
theorem frm_str (t i : Nat) : frmF zs len (512 * t) i = strF zs len (512 * t + 128 + i) := by
  unfold strF
  rw [if_neg (show ¬ 512 * t + 128 + i < 128 by omega)]
  unfold frmF
  rw [show 0 + (512 * t + 128 + i - 128) = 512 * t + i by omega]
theorem all_str (t : Nat) : allF (fun q => strF zs len (512 * t + q)) (frmF zs len (512 * t)) = fun i => 16 * strF zs len (512 * t + i) := by
  funext i
  unfold allF
  rw [Int.mul_comm]
  split
  · rfl
  · rw [frm_str, show 512 * t + 128 + (i - 128) = 512 * t + i by omega]
theorem str_next (t j : Nat) : frmF zs len (512 * t) (384 + j) = strF zs len (512 * (t + 1) + j) := by
  rw [frm_str, show 512 * t + 128 + (384 + j) = 512 * (t + 1) + j by omega]
theorem str_first {q : Nat} (h : q < 128) : strF zs len (512 * 0 + q) = 0 := by
  unfold strF
  rw [if_pos (by omega)]
end

/-! ### A frame of a list -/
set_option maxRecDepth 100000 in
theorem frame09_any (a : Option Addr) (len cap fr : Nat) (zs : List Int) (w : World) (hl : IntsAt w w.heap.size .i16 a len zs) (hlen : len ≤ 3000) (hf : fr ≤ 100000) :
    Calls Try.prog 10 #[.slice a len cap, .int .i64 fr] w (RowPost .i16 30 512 (frmF zs len fr) w) := by
  have HL := Lib.hid hl
  have hmk : ∀ w : World, (Instr.makeSlice 22 (.int .i64 512) (.int .i64 512)).run Try.prog w = .ok (.slice (some ⟨w.heap.size, 0, none⟩) 512 512) (w.alloc (.cells (madeCells #[.int .i16 0] 512) 30)) :=
    fun w => make_zeros (P := Try.prog) Try.underlying22 info_i169 512 (by decide) (by decide) w
  have H0 : RowKit.Hid (IFun (w.alloc (.cells (madeCells #[.int .i16 0] 512) 30)) w.heap.size 30 .i16 512 (upTo (frmF zs len fr) (fun _ => 0) 0) ∧ Below w.heap.size w (w.alloc (.cells (madeCells #[.int .i16 0] 512) 30))) :=
    ⟨IFun.ext (IFun.zeros w 30 .i16 512) fun j _ => (upTo_start (frmF zs len fr) (fun _ => 0) j).symm, Below.alloc_new w _⟩
  clear hl
  generalize madeCells #[Value.int .i16 0] 512 = mc at H0 hmk
  go_enter Try.func10, Try.ntmps10
  go_wp2
  clear hmk
  generalize hg : w.heap.size = g at H0 ⊢
  generalize (w.alloc (.cells mc 30)) = w1 at H0 ⊢
  go_loopw [10] (fun i wr => ∃ k : Nat, k ≤ 512 ∧ i = .int .i64 (k : Int) ∧ RowKit.Hid (IFun wr g 30 .i16 512 (upTo (frmF zs len fr) (fun _ => 0) k) ∧ Below g w wr)) (fun i _ => 512 - (intOf i).toNat)
  case atStart => exact ⟨0, by omega, rfl, H0.out⟩
  case round =>
    obtain ⟨k, hk, rfl, HI⟩ := hrel
    clear H0
    by_cases hlt : k < 512
    · have o1 := HI.out.1.cell (j := k) (by omega)
      rw [upTo_here] at o1
      have f1 := HI.out.1.frozen k
      have HS : RowKit.Hid (IFun (wr.setCell ⟨g, k, none⟩ (.int .i16 (frmF zs len fr k))) g 30 .i16 512 (upTo (frmF zs len fr) (fun _ => 0) (k + 1)) ∧ Below g w (wr.setCell ⟨g, k, none⟩ (.int .i16 (frmF zs len fr k)))) :=
        ⟨IFun.ext (HI.out.1.set (j := k) (by omega) (frmF zs len fr k)) fun j _ => upTo_next _ _ k j, Below.setCell (p := ⟨g, k, none⟩) HI.out.2 (Nat.le_refl _) _⟩
      have l1 : (k : Int) < 512 := by omega
      by_cases hl0 : len = 0
      · have HN : RowKit.Hid (IFun wr g 30 .i16 512 (upTo (frmF zs len fr) (fun _ => 0) (k + 1)) ∧ Below g w wr) := ⟨IFun.ext HI.out.1 fun i _ => by
          unfold upTo frmF
          rw [if_pos hl0]
          split <;> split <;> rfl, HI.out.2⟩
        have ll : ¬ 0 < (len : Int) := by omega
        clear HI HS hl0
        go_wp2
        go_roundw
        case rel => exact ⟨k + 1, by omega, by go_num, HN.out⟩
        case measure => simp [intOf] <;> omega
      · obtain ⟨m, hm⟩ : ∃ m, m = (fr + k) % len := ⟨_, rfl⟩
        have hml : m < len := by rw [hm]; exact Nat.mod_lt _ (by omega)
        have f3 : ((fr : Int) + (k : Int)) % (len : Int) = (m : Int) := by rw [hm]; simp
        have f4 : ((fr : Int) + (k : Int)).tmod (len : Int) = (m : Int) := by rw [Int.tmod_eq_emod_of_nonneg (by omega)]; exact f3
        obtain ⟨b, off, rfl, hbl, _, hc⟩ := HL.out.at_ hml
        have k1 := (HI.out.2.cell (p := ⟨b, off + m, none⟩) (by rw [← hg]; exact hbl)).trans hc
        have HE : RowKit.Hid (zs.getD m 0 = frmF zs len fr k) := by show _ = _; unfold frmF; rw [if_neg hl0, hm]
        rw [← HE.out] at HS
        clear HI hm hc HE
        generalize zs.getD m 0 = y at k1 HS
        have l2 : (m : Int) < (len : Int) := by omega
        have l3 : ¬ (len : Int) = 0 := by omega
        have l4 : 0 < (len : Int) := by omega
        clear hl0
        go_wp2
        go_roundw
        case rel => exact ⟨k + 1, by omega, by go_num, HS.out⟩
        case measure => simp [intOf] <;> omega
    · obtain rfl : k = 512 := by omega
      have Z : RowKit.Hid (IFun wr g 30 .i16 512 (frmF zs len fr) ∧ Below g w wr) := ⟨IFun.ext HI.out.1 fun i hi => upTo_end _ _ 512 i hi, HI.out.2⟩
      go_wp2
      go_ret
      exact ⟨g, rfl, Z.out.1, by omega, by rw [hg]; exact Z.out.2⟩

/-! ### Objects beside each other -/
theorem OvAt.keeps {t t' : TypeId} {k : IntKind} {w w' : World} {s b c p q : Nat} {f : Nat → Int} {cs : Array Value} (h : OvAt t k w s c p q f) (hb : Cel w b t' cs) (hne : s ≠ b) (h1 : t' ≠ 78) (h2 : t' ≠ 75) (hk : Keeps (· = b) w w') : OvAt t k w' s c p q f :=
  ⟨h.1.keep (hk.block _ h.1.lt hne), h.2.keeps hb h1 h2 hk⟩
theorem below_keep1 {a w w' : World} {b : Nat} (h : Below a.heap.size a w) (hk : Keeps (· = b) w w') (hb : a.heap.size ≤ b) : Below a.heap.size a w' :=
  h.trans (hk.below h.size fun k e => by subst e; exact hb)

/-! ### It lives -/
def toneL : List Int := [9000, 9000, -9000, -9000]
theorem tone_bd (j : Nat) : -32768 ≤ toneL.getD j 0 ∧ toneL.getD j 0 ≤ 32767 := by
  match j with
  | 0 => decide
  | 1 => decide
  | 2 => decide
  | 3 => decide
  | j + 4 => simp [toneL]
theorem lives09_num : samplesF false (linesF false (allF (fun _ => 0) (frmF toneL 4 0))) (fun _ => 0) 300 ≠ 0 := by
  have h1 : allF (fun _ => 0) (frmF toneL 4 0) = fun i => 16 * strF toneL 4 (512 * 0 + i) := by
    rw [← all_str]
    funext i
    unfold allF
    congr 1
    split
    · exact (str_first (by assumption)).symm
    · rfl
  have h2 := frame_near (Z := fun i => strF toneL 4 (512 * 0 + i)) (left := fun _ => 0) (fun i => strF_bd tone_bd _) false (fun q hq => tail_zero (Z := fun i => strF toneL 4 (512 * 0 + i)) (fun i hi => str_first hi) hq) (i := 300) (by decide)
  rw [← h1] at h2
  have h3 : strF toneL 4 (512 * 0 + 300) = 9000 := by decide
  rw [h3] at h2
  omega
set_option maxRecDepth 100000 in
theorem lives09_any (w : World) : Calls Try.prog 7 #[] w fun e w' => e = .returned (.bool true) ∧ Below w.heap.size w w' := by
  have HNZ := Lib.hid lives09_num
  have HB := Lib.hid (Below.refl w.heap.size w)
  have hlit : ∀ w : World, IntsAt (w.alloc (.cells #[.int .i16 9000, .int .i16 9000, .int .i16 (-9000), .int .i16 (-9000)] 30)) (w.alloc (.cells #[.int .i16 9000, .int .i16 9000, .int .i16 (-9000), .int .i16 (-9000)] 30)).heap.size .i16 (some ⟨w.heap.size, 0, none⟩) 4 toneL := fun w => lit_ints w 30 .i16 toneL _ (0, 0) rfl (by decide)
  have HLit := Lib.hid hlit
  clear hlit
  go_enter Try.func7, Try.ntmps7
  go_wp2_with (first | (go_at_call 9; go_loud (refine (newAnalyser_any _).mono ?_); rintro e w1 ⟨a, c, p, q, rfl, oa, sa, z1⟩; have HA := Lib.hid oa; have HAl : RowKit.Hid (w.heap.size ≤ a) := Nat.le_trans HB.out.size sa; replace HB := Lib.hid (chain HB.out z1); clear oa sa z1) | (go_at_call 13; go_loud (refine (newSynth_any _).mono ?_); rintro e w2 ⟨s, c2, p2, q2, rfl, os, ss, z2⟩; have HS := Lib.hid os; have HSl : RowKit.Hid (w.heap.size ≤ s) := Nat.le_trans HB.out.size ss; replace HA := Lib.hid (HA.out.below z2); replace HB := Lib.hid (chain HB.out z2); have hA2 := Below.alloc_new w2 (.cells #[.int .i16 9000, .int .i16 9000, .int .i16 (-9000), .int .i16 (-9000)] 30); replace HA := Lib.hid (HA.out.below hA2); replace HS := Lib.hid (HS.out.below hA2); replace HB := Lib.hid (chain HB.out hA2); clear os ss z2 hA2) | (go_at_call 10; go_loud (refine (frame09_any (some ⟨w2.heap.size, 0, none⟩) 4 4 0 toneL _ (HLit.out w2) (by decide) (by decide)).mono ?_); rintro e w3 ⟨x, rfl, i3, s3, z3⟩; have HX := Lib.hid i3; replace HA := Lib.hid (HA.out.below z3); replace HS := Lib.hid (HS.out.below z3); replace HB := Lib.hid (chain HB.out z3); clear i3 s3 z3) | (go_at_call 11; go_loud (refine (anaLines_any a c p q x (fun _ => 0) (frmF toneL 4 0) false _ HA.out HX.out (fun j _ => by omega) (fun j _ => frmF_bd tone_bd _ _)).mono ?_); rintro e w4 ⟨g4, rfl, i4, s4, o4, k4⟩; have HI := Lib.hid i4; have HS4 : RowKit.Hid (OvAt 60 .i32 w4 s c2 p2 q2 (fun _ => 0)) := HS.out.keeps HA.out.1 (HS.out.1.ne HA.out.1 (by decide)) (by decide) (by decide) k4; replace HB := Lib.hid (below_keep1 HB.out k4 HAl.out); clear i4 s4 o4 k4 HA HS HX) | (go_at_call 15; go_loud (refine (synSamples_any s c2 p2 q2 g4 (fun _ => 0) (linesF false (allF (fun _ => 0) (frmF toneL 4 0))) false _ HS4.out HI.out (fun j _ => linesF_bd _ _ _) (fun j _ => by simp)).mono ?_); rintro e w5 ⟨g5, rfl, i5, s5, o5, k5⟩; have c0 := IFun.cell i5 (j := 300) (by decide); replace HB := Lib.hid (below_keep1 HB.out k5 HSl.out); have hnz := HNZ.out; clear i5 s5 o5 k5 HS4 HI))
  go_ret
  exact ⟨ret_bool (by simp [hnz]), HB.out⟩
end Go.Proofs.Ytgebnaeebdeoeaa
