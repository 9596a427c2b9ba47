/- The walk of WeaveArgs. -/
import Derived.Test.YtebfjmjdcbeekaaDoorWeaT
import Derived.Test.YtebfjmjdcbeekaaDoorWeaH
namespace Go.Proofs.YtebfjmjdcbeekaaDoor
open Go.RowKit Go.PlainAid
set_option linter.unusedVariables false
set_option linter.unusedSimpArgs false

set_option maxRecDepth 100000 in
set_option maxHeartbeats 2000000 in
theorem weaveArgs_out (n : Int) (a : Option Addr) (len cap : Nat) (w : World) (h : 100 < len) :
    Calls Tryd.prog 5 #[.int .i64 n, .slice a len cap] w fun e w' => e = .returned (.bool true) ∧ Below w.heap.size w w' := by
  have q : (100 : Int) < (len : Int) := by omega
  go_enter Tryd.func5, Tryd.ntmps5
  go_wp2_with (first
    | (go_at_call 6; refine (lives20_any _).mono ?_; rintro e w4 ⟨rfl, hb⟩; have HB4 := Lib.hid (chain HB.out hb); clear hb)
    | (go_at_call 6; go_loud (refine (lives20_any _).mono ?_); rintro e w2 ⟨rfl, hb⟩; have HB := Lib.hid hb; clear hb)
    | fail)
  go_ret
  exact ⟨rfl, HB4.out⟩
set_option maxRecDepth 100000 in
set_option maxHeartbeats 2000000 in
theorem weaveArgs_yes (n : Nat) (hn : n ≤ 65536) (a : Option Addr) (len cap : Nat) (w : World) (h : ¬ 100 < len) :
    Calls Tryd.prog 5 #[.int .i64 (n : Int), .slice a len cap] w fun e w' => e = .returned (.bool true) ∧ Below w.heap.size w w' := by
  have q : ¬ (100 : Int) < (len : Int) := by omega
  have q1 : (0 : Int) ≤ (n : Int) := by omega
  have q2 : (n : Int) ≤ 65536 := by omega
  go_enter Tryd.func5, Tryd.ntmps5
  go_wp2_with (first
    | (go_at_call 6; go_loud (refine (lives20_any _).mono ?_); rintro e w2 ⟨rfl, hb⟩; have HB := Lib.hid hb; clear hb)
    | (go_at_call 14; go_loud (refine (wvNew_ok n _ hn).mono ?_); rintro e w3 ⟨g, rfl, _, _, hb⟩; have HB3 := Lib.hid (chain HB.out hb); clear hb)
    | (go_at_call 7; go_loud (refine (prNew_ok n _ hn).mono ?_); rintro e w4 ⟨g4, rfl, _, _, hb⟩; have HB4 := Lib.hid (chain HB3.out hb); clear hb)
    | (go_at_call 15; go_loud (refine (wvTitle_nil _ _).mono ?_); rintro e w5 ⟨rfl, rfl⟩)
    | (go_at_call 8; go_loud (refine (part20_nil _ _ _ _).mono ?_); rintro e w5 ⟨rfl, rfl⟩)
    | (go_at_call 17; go_loud (refine (wvWeave_nil _ _ _ _).mono ?_); rintro e w5 ⟨rfl, rfl⟩)
    | (go_at_call 11; go_loud (refine (bytes20_nil _).mono ?_); rintro e w5 ⟨rfl, rfl⟩)
    | fail)
  go_ret
  exact ⟨rfl, HB4.out⟩
set_option maxRecDepth 100000 in
set_option maxHeartbeats 2000000 in
theorem weaveArgs_no (n : Int) (hn : n < 0 ∨ 65536 < n) (a : Option Addr) (len cap : Nat) (w : World) (h : ¬ 100 < len) :
    Calls Tryd.prog 5 #[.int .i64 n, .slice a len cap] w fun e w' => e = .returned (.bool true) ∧ Below w.heap.size w w' := by
  have q : ¬ (100 : Int) < (len : Int) := by omega
  have HN := Lib.hid hn
  rcases hn with q1 | q1
  · have q2 : ¬ (0 : Int) ≤ n := by omega
    go_enter Tryd.func5, Tryd.ntmps5
    go_wp2_with (first
      | (go_at_call 6; go_loud (refine (lives20_any _).mono ?_); rintro e w2 ⟨rfl, hb⟩; have HB := Lib.hid hb; clear hb)
      | (go_at_call 14; go_loud (refine (wvNew_no n _ HN.out).mono ?_); rintro e w3 ⟨rfl, hb⟩; have HB3 := Lib.hid (chain HB.out hb); clear hb)
      | (go_at_call 7; go_loud (refine (prNew_no n _ HN.out).mono ?_); rintro e w4 ⟨rfl, hb⟩; have HB4 := Lib.hid (chain HB3.out hb); clear hb)
      | (go_at_call 15; go_loud (refine (wvTitle_nil _ _).mono ?_); rintro e w5 ⟨rfl, rfl⟩)
      | (go_at_call 8; go_loud (refine (part20_nil _ _ _ _).mono ?_); rintro e w5 ⟨rfl, rfl⟩)
      | (go_at_call 17; go_loud (refine (wvWeave_nil _ _ _ _).mono ?_); rintro e w5 ⟨rfl, rfl⟩)
      | (go_at_call 11; go_loud (refine (bytes20_nil _).mono ?_); rintro e w5 ⟨rfl, rfl⟩)
      | fail)
    go_ret
    exact ⟨rfl, HB4.out⟩
  · have q2 : (0 : Int) ≤ n := by omega
    have q3 : decide (n ≤ 65536) = false := by simp; omega
    go_enter Tryd.func5, Tryd.ntmps5
    go_wp2_with (first
      | (go_at_call 6; go_loud (refine (lives20_any _).mono ?_); rintro e w2 ⟨rfl, hb⟩; have HB := Lib.hid hb; clear hb)
      | (go_at_call 14; go_loud (refine (wvNew_no n _ HN.out).mono ?_); rintro e w3 ⟨rfl, hb⟩; have HB3 := Lib.hid (chain HB.out hb); clear hb)
      | (go_at_call 7; go_loud (refine (prNew_no n _ HN.out).mono ?_); rintro e w4 ⟨rfl, hb⟩; have HB4 := Lib.hid (chain HB3.out hb); clear hb)
      | (go_at_call 15; go_loud (refine (wvTitle_nil _ _).mono ?_); rintro e w5 ⟨rfl, rfl⟩)
      | (go_at_call 8; go_loud (refine (part20_nil _ _ _ _).mono ?_); rintro e w5 ⟨rfl, rfl⟩)
      | (go_at_call 17; go_loud (refine (wvWeave_nil _ _ _ _).mono ?_); rintro e w5 ⟨rfl, rfl⟩)
      | (go_at_call 11; go_loud (refine (bytes20_nil _).mono ?_); rintro e w5 ⟨rfl, rfl⟩)
      | fail)
    go_ret
    exact ⟨rfl, HB4.out⟩
theorem weaveArgs_all (n : Int) (a : Option Addr) (len cap : Nat) (w : World) :
    Calls Tryd.prog 5 #[.int .i64 n, .slice a len cap] w fun e w' => e = .returned (.bool true) ∧ Below w.heap.size w w' := by
  by_cases h : 100 < len
  · exact weaveArgs_out n a len cap w h
  · by_cases hn : n < 0 ∨ 65536 < n
    · exact weaveArgs_no n hn a len cap w h
    · have := weaveArgs_yes n.toNat (by omega) a len cap w h
      rw [show ((n.toNat : Nat) : Int) = n by omega] at this
      exact this
end Go.Proofs.YtebfjmjdcbeekaaDoor
