/- What Steps of package mask gives. -/
import Derived.Test.YtgjmpjfcnibgmaaMskC
namespace Go.Proofs.Ytgjmpjfcnibgmaa
open Go.RowKit
set_option linter.unusedVariables false

/-- What the making of steps leaves. -/
def StepsPost (l : Nat → Int) (q x : Int) (w : World) (e : Ending) (w' : World) : Prop :=
  ∃ g, e = .returned (.tuple #[.slice (some ⟨g, 0, none⟩) 21 21, .int .i64 0]) ∧ IFun w' g 3 .i64 21 (stepF l q x) ∧ w.heap.size ≤ g ∧ Below w.heap.size w w'
/-- Ceilings, a quality and a loss that may be. -/
def mayStep (zs : List Int) (q x : Int) : Prop := rightB zs = true ∧ 1 ≤ q ∧ q ≤ 10 ∧ 0 ≤ x ∧ x ≤ 31
theorem mskSteps_no (a : Option Addr) (len cap : Nat) (zs : List Int) (q x : Int) (w : World) (h : IntsAt w w.heap.size .i64 a len zs) (hm : len ≤ 9223372036854775807) (hno : ¬ mayStep zs q x) :
    Calls Try.prog 9 #[.slice a len cap, .int .i64 q, .int .i64 x] w fun e w' => e = .returned (.tuple #[.slice none 0 0, .int .i64 1]) ∧ w = w' := by
  have H0 := Lib.hid h
  obtain ⟨R, hR, hcs⟩ : ∃ R, rightB zs = R ∧ ((R = false) ∨ (R = true ∧ q < 1) ∨ (R = true ∧ 1 ≤ q ∧ 10 < q) ∨ (R = true ∧ 1 ≤ q ∧ q ≤ 10 ∧ x < 0) ∨ (R = true ∧ 1 ≤ q ∧ q ≤ 10 ∧ 0 ≤ x ∧ 31 < x)) := by
    refine ⟨_, rfl, ?_⟩
    unfold mayStep at hno
    cases hr : rightB zs with
    | false => exact .inl rfl
    | true => right; rw [hr] at hno; simp at hno ⊢; omega
  have HR := Lib.hid hR
  clear h hR hno
  rcases hcs with rfl | ⟨rfl, c1⟩ | ⟨rfl, c1, c2⟩ | ⟨rfl, c1, c2, c3⟩ | ⟨rfl, c1, c2, c3, c4⟩
  all_goals
    go_enter Try.func9, Try.ntmps9
    go_wp2_with (go_at_call 16; refine (engRight_any _ _ _ _ _ H0.out hm).mono ?_; rintro e w' ⟨rfl, rfl⟩; rw [HR.out])
    go_ret2
    exact ⟨rfl, rfl⟩
set_option maxRecDepth 100000 in
theorem mskSteps_any (a : Option Addr) (cap : Nat) (zs : List Int) (q x : Int) (w : World) (h : IntsAt w w.heap.size .i64 a 21 zs) (hok : mayStep zs q x) :
    Calls Try.prog 9 #[.slice a 21 cap, .int .i64 q, .int .i64 x] w (StepsPost (fun j => zs.getD j 0) q x w) := by
  obtain ⟨hr, q0, q1, x0, x1⟩ := hok
  have H0 := Lib.hid h
  have HR := Lib.hid hr
  have HRb := Lib.hid (rightB_true hr).2
  obtain ⟨F, hF⟩ : ∃ F, F = stepF (fun j => zs.getD j 0) q x := ⟨_, rfl⟩
  have HF := Lib.hid hF
  have HE : RowKit.Hid (∀ k, F k = min (max (max (thrTo (fun j => zs.getD j 0) k 21 - q + x) (zs.getD k 0 - 12)) 0) (zs.getD k 0)) := fun k => by rw [hF]; rfl
  have hmk : ∀ w : World, (Instr.makeSlice 24 (.int .i64 21) (.int .i64 21)).run Try.prog w = .ok (.slice (some ⟨w.heap.size, 0, none⟩) 21 21) (w.alloc (.cells (madeCells #[.int .i64 0] 21) 3)) :=
    fun w => make_zeros (P := Try.prog) Try.underlying24 infoE_int 21 (by decide) (by decide) w
  have HI0 : RowKit.Hid (IFun (w.alloc (.cells (madeCells #[.int .i64 0] 21) 3)) w.heap.size 3 .i64 21 (preF F 0) ∧ Below w.heap.size w (w.alloc (.cells (madeCells #[.int .i64 0] 21) 3))) :=
    ⟨IFun.ext (IFun.zeros w 3 .i64 21) fun j _ => (preF_zero F j).symm, Below.alloc_new w _⟩
  clear h hr hF
  generalize madeCells #[Value.int .i64 0] 21 = mc at HI0 hmk
  go_enter Try.func9, Try.ntmps9
  go_wp2_with (go_at_call 16; refine (engRight_any _ _ _ _ _ H0.out (by decide)).mono ?_; rintro e w' ⟨rfl, rfl⟩; rw [HR.out])
  clear hmk
  generalize hg : w.heap.size = g at HI0 ⊢
  generalize (w.alloc (.cells mc 3)) = w1 at HI0 ⊢
  go_loopw [34] (fun i wr => ∃ k : Nat, k ≤ 21 ∧ i = .int .i64 (k : Int) ∧ RowKit.Hid (IFun wr g 3 .i64 21 (preF F k) ∧ Below g w wr)) (fun i _ => 21 - (intOf i).toNat)
  case atStart => exact ⟨0, by omega, rfl, HI0.out⟩
  case round =>
    obtain ⟨k, hk, rfl, HI⟩ := hrel
    clear HI0
    by_cases hlt : k < 21
    · have o1 := HI.out.1.cell (j := k) hlt
      have f1 := HI.out.1.frozen k
      have HW : RowKit.Hid (IntsAt wr wr.heap.size .i64 a 21 zs) := H0.out.now (hg ▸ HI.out.2) (Nat.le_refl _)
      have HS : RowKit.Hid (∀ v, v = F k → IFun (wr.setCell ⟨g, k, none⟩ (.int .i64 v)) g 3 .i64 21 (preF F (k + 1)) ∧ Below g w (wr.setCell ⟨g, k, none⟩ (.int .i64 v))) := fun v hv => by
        rw [hv]; exact ⟨IFun.ext (HI.out.1.set (j := k) hlt (F k)) fun j _ => preF_next _ k j, Below.setCell (p := ⟨g, k, none⟩) HI.out.2 (Nat.le_refl _) _⟩
      have HC := Lib.hid (mskThr_any a cap k zs wr HW.out HR.out hlt)
      obtain ⟨bb, off, rfl, _, _, hcell⟩ := HW.out.at_ hlt
      obtain ⟨n0, n1⟩ := HRb.out k hlt
      obtain ⟨t0, t1⟩ := thrTo_bd (l := fun j => zs.getD j 0) (b := k) hlt 21 (Nat.le_refl _) HRb.out
      have HV := Lib.hid (HE.out k)
      generalize preF F k k = old at o1
      generalize thrTo (fun j => zs.getD j 0) k 21 = t at t0 t1 HV HC
      generalize zs.getD k 0 = n at hcell n0 n1 HV
      have l1 : (k : Int) < 21 := by omega
      clear HI HW
      go_wp2_with (go_at_call 17; refine HC.out.mono ?_; rintro e w' ⟨rfl, rfl⟩)
      all_goals
        go_roundw
        case rel => exact ⟨k + 1, by omega, by go_num, HS.out _ (by rw [HV.out]; omega)⟩
        case measure => simp [intOf] <;> omega
    · obtain rfl : k = 21 := by omega
      have Z : RowKit.Hid (IFun wr g 3 .i64 21 (stepF (fun j => zs.getD j 0) q x) ∧ Below g w wr) := ⟨IFun.ext HI.out.1 fun i hi => by rw [preF_end _ hi, HF.out], HI.out.2⟩
      go_wp2
      go_ret2
      exact ⟨g, rfl, Z.out.1, by omega, by rw [hg]; exact Z.out.2⟩
end Go.Proofs.Ytgjmpjfcnibgmaa
