/- The walk of RingArgs. -/
import Derived.Test.YtfnmdaoehnafcaaRigL
import Derived.Lib.QuietBelow
namespace Go.Proofs.Ytfnmdaoehnafcaa
open Go.RowKit
set_option linter.unusedVariables false
set_option linter.unusedSimpArgs false

/-- What none tells. -/
theorem rgNone (i : Int) (w : World) : RowKit.Hid (∀ W, Below w.heap.size w W → Calls Try.prog 8 #[.pointer none, .int .i64 i] W fun e w' => e = .returned (.tuple #[.agg #[.int .u32 0, .int .u32 0, .bool false, .slice none 0 0], .bool false]) ∧ Below w.heap.size w w') := by
  refine Lib.hid fun W hb => (rgAt_nil i W).mono ?_
  rintro e w' ⟨rfl, h⟩
  exact ⟨rfl, chain hb h⟩
theorem rgNoneP : RowKit.Hid (∀ W, Calls Try.prog 7 #[.pointer none, .agg #[.int .u32 0, .int .u32 0, .bool false, .slice none 0 0]] W fun e w' => e = .returned (.int .i64 0) ∧ Below W.heap.size W w') :=
  Lib.hid fun W => rgPush_nil (.int .i64 0) pkN none 0 0 W
set_option maxRecDepth 100000 in
set_option maxHeartbeats 2000000 in
theorem ringArgs_out (n i : Int) (w : World) (h : n < 1 ∨ 1024 < n) :
    Calls Try.prog 4 #[.int .i64 n, .int .i64 i] w fun e w' => e = .returned (.bool true) ∧ Below w.heap.size w w' := by
  have HN := Lib.hid (fun W => rgNew_out n W h)
  have HA := rgNone i w
  have HP := rgNoneP
  have HE := Lib.hid (fun W => rgEnds_nil W)
  have HJ := Lib.hid (fun W => rgJoin_nil W)
  by_cases h0 : n < 1
  · have q1 : decide (1 ≤ n) = false := by simp; omega
    clear h0
    clear h
    go_enter Try.func4, Try.ntmps4
    go_wp2_with (first
      | (go_at_call 5; refine (lives21_any _).mono ?_; rintro e w2 ⟨rfl, hb⟩; have H1 := Lib.hid hb; clear hb)
      | (go_at_call 6; refine (HN.out _).mono ?_; rintro e w3 ⟨rfl, rfl⟩)
      | (go_at_call 8; refine (HA.out _ H1.out).mono ?_; rintro e w4 ⟨rfl, hb⟩; have H2 := Lib.hid hb; have H3 := Lib.hid (hb.alloc hb.size (.cells #[.int .u32 0, .int .u32 0, .bool false, .slice none 0 0] 32)); clear hb)
      | (go_at_call 11; refine (HJ.out _).mono ?_; rintro e w5 ⟨rfl, rfl⟩)
      | (go_at_call 10; refine (HE.out _).mono ?_; rintro e w5 ⟨rfl, rfl⟩)
      | (go_at_call 7; refine (HP.out _).mono ?_; rintro e w7 ⟨rfl, hb⟩; have H7 := Lib.hid (chain H3.out hb); clear hb)
      | fail)
    go_ret
    exact ⟨rfl, H7.out⟩
  · have q1 : decide (1 ≤ n) = true := by simp; omega
    have q2 : decide (n ≤ 1024) = false := by simp; omega
    clear h0
    clear h
    go_enter Try.func4, Try.ntmps4
    go_wp2_with (first
      | (go_at_call 5; refine (lives21_any _).mono ?_; rintro e w2 ⟨rfl, hb⟩; have H1 := Lib.hid hb; clear hb)
      | (go_at_call 6; refine (HN.out _).mono ?_; rintro e w3 ⟨rfl, rfl⟩)
      | (go_at_call 8; refine (HA.out _ H1.out).mono ?_; rintro e w4 ⟨rfl, hb⟩; have H2 := Lib.hid hb; have H3 := Lib.hid (hb.alloc hb.size (.cells #[.int .u32 0, .int .u32 0, .bool false, .slice none 0 0] 32)); clear hb)
      | (go_at_call 11; refine (HJ.out _).mono ?_; rintro e w5 ⟨rfl, rfl⟩)
      | (go_at_call 10; refine (HE.out _).mono ?_; rintro e w5 ⟨rfl, rfl⟩)
      | (go_at_call 7; refine (HP.out _).mono ?_; rintro e w7 ⟨rfl, hb⟩; have H7 := Lib.hid (chain H3.out hb); clear hb)
      | fail)
    go_ret
    exact ⟨rfl, H7.out⟩
set_option maxRecDepth 100000 in
set_option maxHeartbeats 2000000 in
theorem ringArgs_in (n : Nat) (i : Int) (w : World) (h1 : 1 ≤ n) (h2 : n ≤ 1024) :
    Calls Try.prog 4 #[.int .i64 n, .int .i64 i] w fun e w' => e = .returned (.bool true) ∧ Below w.heap.size w w' := by
  have HN := Lib.hid (fun W => rgNew_any n W h1 h2)
  have HA := rgNone i w
  have HP := rgNoneP
  have HE := Lib.hid (fun W => rgEnds_nil W)
  have HJ := Lib.hid (fun W => rgJoin_nil W)
  have hf : firstP n 0 = 0 := by simp [firstP]
  have HAt : RowKit.Hid (∀ g W, RgAt W g n [] (fun _ => False) → Calls Try.prog 8 #[.pointer (some ⟨g, 0, none⟩), .int .i64 i] W fun e w' => e = .returned (.tuple #[.agg #[.int .u32 0, .int .u32 0, .bool false, .slice none 0 0], .bool false]) ∧ Below W.heap.size W w') :=
    Lib.hid fun g W h => rgAt_no g n 0 i W h.head.1 h.head.2 h2 (by decide) (by rw [hf]; omega)
  have HEn : RowKit.Hid (∀ g W, RgAt W g n [] (fun _ => False) → Calls Try.prog 10 #[.pointer (some ⟨g, 0, none⟩)] W fun e w' => e = .returned (.tuple #[.int .i64 0, .int .i64 0]) ∧ Below W.heap.size W w') := by
    refine Lib.hid fun g W h => ?_
    have := rgEnds_any g n 0 W h.head.1 h.head.2 h2 (by decide)
    rw [hf] at this
    refine this.mono ?_
    rintro e w' ⟨rfl, k, rfl⟩
    exact ⟨rfl, Below.drewN' (Below.refl _ _) k⟩
  have HJn : RowKit.Hid (∀ g W, RgAt W g n [] (fun _ => False) → Calls Try.prog 11 #[.pointer (some ⟨g, 0, none⟩)] W fun e w' => e = .returned (.tuple #[.int .i64 0, .bool false]) ∧ Below W.heap.size W w') := by
    refine Lib.hid fun g W h => ?_
    have := rgJoin_any g n [] _ W h (by decide)
    have e : lastW [] (firstP n ([] : List Pk).length) ([] : List Pk).length = -1 := rfl
    rw [e] at this
    refine this.mono ?_
    rintro e w' ⟨rfl, k, rfl⟩
    exact ⟨rfl, Below.drewN' (Below.refl _ _) k⟩
  have q1 : decide (1 ≤ n) = true := by simp; omega
  have q2 : decide (n ≤ 1024) = true := by simp; omega
  go_enter Try.func4, Try.ntmps4
  go_wp2_with (first
    | (go_at_call 5; refine (lives21_any _).mono ?_; rintro e w2 ⟨rfl, hb⟩; have H1 := Lib.hid hb; clear hb)
    | (go_at_call 6; refine (HN.out _).mono ?_; rintro e w3 ⟨g, rfl, hg, hr, hb⟩; have H2 := Lib.hid (H1.out.trans (hb.mono H1.out.size)); have HR := Lib.hid hr; clear hg hr hb H1)
    | (go_at_call 8; refine (HAt.out g _ HR.out).mono ?_; rintro e w4 ⟨rfl, hb⟩; have hb5 := hb.alloc hb.size (.cells #[.int .u32 0, .int .u32 0, .bool false, .slice none 0 0] 32); have H4 := Lib.hid (H2.out.trans (hb5.mono H2.out.size)); have HR4 := Lib.hid (HR.out.below hb5); clear hb hb5 HR)
    | (go_at_call 11; refine (HJn.out g _ HR4.out).mono ?_; rintro e w5 ⟨rfl, hb⟩; have H5 := Lib.hid (H4.out.trans (hb.mono H4.out.size)); have HR5 := Lib.hid (HR4.out.below hb); clear HR4 H4 hb)
    | (go_at_call 10; refine (HEn.out g _ HR5.out).mono ?_; rintro e w6 ⟨rfl, hb⟩; have H6 := Lib.hid (H5.out.trans (hb.mono H5.out.size)); clear HR5 H5 hb)
    | (go_at_call 8; refine (HA.out _ H6.out).mono ?_; rintro e w4 ⟨rfl, hb⟩; have H2 := Lib.hid hb; have H3 := Lib.hid (hb.alloc hb.size (.cells #[.int .u32 0, .int .u32 0, .bool false, .slice none 0 0] 32)); clear hb)
    | (go_at_call 11; refine (HJ.out _).mono ?_; rintro e w5 ⟨rfl, rfl⟩)
    | (go_at_call 10; refine (HE.out _).mono ?_; rintro e w5 ⟨rfl, rfl⟩)
    | (go_at_call 7; refine (HP.out _).mono ?_; rintro e w7 ⟨rfl, hb⟩; have H7 := Lib.hid (chain H3.out hb); clear hb)
    | fail)
  go_ret
  exact ⟨rfl, H7.out⟩
end Go.Proofs.Ytfnmdaoehnafcaa
