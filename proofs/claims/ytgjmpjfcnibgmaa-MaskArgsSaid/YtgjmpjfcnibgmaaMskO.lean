/- The walk of MaskArgs. -/
import Derived.Test.YtgjmpjfcnibgmaaMskL
namespace Go.Proofs.Ytgjmpjfcnibgmaa
open Go.RowKit
set_option linter.unusedVariables false

theorem maskArgs_many (a : Option Addr) (len cap : Nat) (x y : Int) (w : World) (hm : len ≤ 9223372036854775807) (h : 60 < len) :
    Calls Try.prog 5 #[.slice a len cap, .int .i64 x, .int .i64 y] w fun e w' => e = .returned (.bool true) ∧ Below w.heap.size w w' := by
  have HB := Lib.hid (Below.refl w.heap.size w)
  have hd : decide ((60 : Int) < (len : Int)) = true := by simp; omega
  clear h
  go_enter Try.func5, Try.ntmps5
  go_wp2_with (go_at_call 6; go_loud (refine (lives11_any _).mono ?_); rintro e w1 ⟨rfl, hb⟩; replace HB := Lib.hid (chain HB.out hb); clear hb)
  go_ret
  exact ⟨rfl, HB.out⟩
/-- A code: nought where it may be. -/
def codeB (R : Bool) : Int := if R then 0 else 1
/-- Steps, as a code alone. -/
theorem mskSteps_code (a : Option Addr) (len cap : Nat) (zs : List Int) (w : World) (h : IntsAt w w.heap.size .i64 a len zs) (hm : len ≤ 60) :
    Calls Try.prog 9 #[.slice a len cap, .int .i64 5, .int .i64 5] w fun e w' => ∃ v, e = .returned (.tuple #[v, .int .i64 (codeB (rightB zs))]) ∧ Below w.heap.size w w' := by
  cases hr : rightB zs with
  | true =>
    obtain rfl : len = 21 := by rw [← h.1]; exact (rightB_true hr).1
    refine (mskSteps_any a cap zs 5 5 w h ⟨hr, by decide, by decide, by decide, by decide⟩).mono ?_
    rintro e w' ⟨g, rfl, _, _, hb⟩
    exact ⟨_, rfl, hb⟩
  | false =>
    refine (mskSteps_no a len cap zs 5 5 w h (by omega) fun c => by rw [c.1] at hr; cases hr).mono ?_
    rintro e w' ⟨rfl, rfl⟩
    exact ⟨_, rfl, Below.refl _ _⟩
theorem mskReach_code (a a2 : Option Addr) (len cap len2 cap2 : Nat) (zs ss : List Int) (R : Bool) (w : World) (h : IntsAt w w.heap.size .i64 a len zs) (h2 : IntsAt w w.heap.size .i64 a2 len2 ss) (hm : len ≤ 60) (hm2 : len2 ≤ 60) (hR : (rightB zs && rightB ss) = R) :
    Calls Try.prog 10 #[.slice a len cap, .slice a2 len2 cap2] w fun e w' => ∃ r, e = .returned (.tuple #[.int .i64 r, .int .i64 (codeB R)]) ∧ Below w.heap.size w w' := by
  cases R with
  | true =>
    rw [Bool.and_eq_true] at hR
    obtain rfl : len = 21 := by rw [← h.1]; exact (rightB_true hR.1).1
    obtain rfl : len2 = 21 := by rw [← h2.1]; exact (rightB_true hR.2).1
    refine (mskReach_any a a2 cap cap2 zs ss w h h2 hR.1 hR.2).mono ?_
    rintro e w' ⟨rfl, hb⟩
    exact ⟨_, rfl, hb⟩
  | false =>
    refine (mskReach_no a a2 len cap len2 cap2 zs ss w h h2 (by omega) (by omega) hR).mono ?_
    rintro e w' ⟨rfl, rfl⟩
    exact ⟨_, rfl, Below.refl _ _⟩
theorem zeroM_right : rightB (tabF 21 fun _ => 0) = true := by decide
set_option maxHeartbeats 1000000 in
set_option maxRecDepth 100000 in
theorem maskArgs_law (a : Option Addr) (len cap : Nat) (x y : Int) (ns : List Int) (w : World) (hn : IntsAt w w.heap.size .i64 a len ns) (hl : len ≤ 60) :
    Calls Try.prog 5 #[.slice a len cap, .int .i64 x, .int .i64 y] w fun e w' => e = .returned (.bool true) ∧ Below w.heap.size w w' := by
  have HB := Lib.hid (Below.refl w.heap.size w)
  have HN := Lib.hid hn
  have hd : decide ((60 : Int) < (len : Int)) = false := by simp; omega
  have hmk : ∀ w : World, (Instr.makeSlice 24 (.int .i64 21) (.int .i64 21)).run Try.prog w = .ok (.slice (some ⟨w.heap.size, 0, none⟩) 21 21) (w.alloc (.cells (madeCells #[.int .i64 0] 21) 3)) :=
    fun w => make_zeros (P := Try.prog) Try.underlying24 infoE_int 21 (by decide) (by decide) w
  have HZ := Lib.hid (fun w => (IFun.zeros w 3 .i64 21).ints (by decide))
  obtain ⟨c, R, hR, h1, hcs⟩ : ∃ (c : Int) (R : Bool), rightB ns = R ∧ codeB R = c ∧ ((c = 0 ∧ R = true) ∨ (c = 1 ∧ R = false)) := by
    refine ⟨_, _, rfl, rfl, ?_⟩
    cases rightB ns with
    | true => exact .inl ⟨rfl, rfl⟩
    | false => exact .inr ⟨rfl, rfl⟩
  obtain ⟨L, hL, hls⟩ : ∃ L, decide (y < x) = L ∧ (L = true ∨ L = false) := ⟨_, rfl, by cases decide (y < x) <;> simp⟩
  have HR := Lib.hid hR
  have H1 := Lib.hid h1
  have HL := Lib.hid hL
  have HR1 : RowKit.Hid ((rightB ns && rightB (tabF 21 fun _ => 0)) = R) := by show _ = _; rw [zeroM_right, hR, Bool.and_true]
  have HR2 : RowKit.Hid ((rightB (tabF 21 fun _ => 0) && rightB ns) = R) := by show _ = _; rw [zeroM_right, hR, Bool.true_and]
  clear hn hR h1
  generalize madeCells #[Value.int .i64 0] 21 = mc at HZ hmk
  rcases hcs with ⟨rfl, rfl⟩ | ⟨rfl, rfl⟩ <;> rcases hls with rfl | rfl
  all_goals
    go_enter Try.func5, Try.ntmps5
    go_wp2_with (first
      | (go_at_call 6; go_loud (refine (lives11_any _).mono ?_); rintro e w1 ⟨rfl, hb⟩; replace HB := Lib.hid (chain HB.out hb); clear hb; have HN1 := Lib.hid (HN.out.now HB.out (Nat.le_refl _)))
      | (go_at_call 15; go_loud (refine (ref10Right_any _ _ _ _ w1 HN1.out (by omega)).mono ?_); rintro e w1' ⟨rfl, rfl⟩; rw [HR.out])
      | (go_at_call 9; have hz := HZ.out w1; have hn2 := HN1.out.now (Below.alloc_new w1 (.cells mc 3)) (Nat.le_refl _); have hb2 := HB.out.alloc HB.out.size (.cells mc 3); generalize w1.alloc (.cells mc 3) = W2 at hz hn2 hb2 ⊢; go_loud (refine (mskSteps_code a len cap ns W2 hn2 hl).mono ?_); rintro e w3 ⟨v3, rfl, hb⟩; rw [HR.out, H1.out]; have HN3 := Lib.hid (hn2.now hb (Nat.le_refl _)); have HZ3 := Lib.hid (hz.now hb (Nat.le_refl _)); have HB3 := Lib.hid (chain hb2 hb); clear hb hz hn2 hb2 HN1 HB)
      | (go_at_call 10; have hq := HN4.out; go_loud (refine (mskReach_code _ _ _ _ _ _ _ _ _ w4 HZ4.out HN4.out (by decide) hl HR2.out).mono ?_); rintro e w5 ⟨r5, rfl, hb⟩; rw [H1.out]; have HB5 := Lib.hid (chain HB4.out hb); clear hb hq HN4)
      | (go_at_call 10; have hq := HN3.out; go_loud (refine (mskReach_code _ _ _ _ _ _ _ _ _ w3 HN3.out HZ3.out hl (by decide) HR1.out).mono ?_); rintro e w4 ⟨r4, rfl, hb⟩; rw [H1.out]; have HN4 := Lib.hid (HN3.out.now hb (Nat.le_refl _)); have HZ4 := Lib.hid (HZ3.out.now hb (Nat.le_refl _)); have HB4 := Lib.hid (chain HB3.out hb); clear hb hq HN3)
      | (go_at_call 14; refine (mskTold_any _ _ _).mono ?_; rintro e1 w6 ⟨rfl, rfl⟩; rw [HL.out])
      | fail)
    go_ret
    exact ⟨ret_bool (by simp), HB5.out⟩
end Go.Proofs.Ytgjmpjfcnibgmaa
