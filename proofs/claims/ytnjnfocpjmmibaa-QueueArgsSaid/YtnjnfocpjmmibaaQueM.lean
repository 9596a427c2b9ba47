/- The walk of QueueArgs. -/
import Derived.Test.YtnjnfocpjmmibaaQueL
namespace Go.Proofs.Ytnjnfocpjmmibaa
open Go.RowKit
set_option linter.unusedVariables false
set_option linter.unusedSimpArgs false

theorem queueArgs_long (n : Int) (a : Option Addr) (len cap : Nat) (w : World) (h : 100 < len) :
    Calls Try.prog 5 #[.int .i64 n, .slice a len cap] w fun e w' => e = .returned (.bool true) ∧ Below w.heap.size w w' := by
  have HB := Lib.hid (Below.refl w.heap.size w)
  have q : decide (100 < len) = true := by simpa using h
  go_enter Try.func5, Try.ntmps5
  go_wp2_with (go_at_call 6; refine (lives22_any _).mono ?_; rintro e w2 ⟨rfl, hb⟩; replace HB := Lib.hid (chain HB.out hb); clear hb)
  go_ret
  exact ⟨rfl, HB.out⟩
theorem quNils : RowKit.Hid ((∀ (a : Option Addr) (m c : Nat) (w : World), Calls Try.prog 11 #[.pointer none, .slice a m c] w fun e w' => (∃ x, e = .returned x) ∧ w' = w) ∧ (∀ (w : World), Calls Try.prog 14 #[.pointer none] w fun e w' => (∃ x, e = .returned x) ∧ w' = w)) :=
  ⟨fun a m c w => quSay_nil a m c w, fun w => quFlush_nil w⟩
set_option maxRecDepth 100000 in
set_option maxHeartbeats 2000000 in
theorem queueArgs_out (n : Int) (a : Option Addr) (len cap : Nat) (w : World) (hl : len ≤ 100) (h : n < 1 ∨ 256 < n) :
    Calls Try.prog 5 #[.int .i64 n, .slice a len cap] w fun e w' => e = .returned (.bool true) ∧ Below w.heap.size w w' := by
  have HN := Lib.hid (fun W => quNew_out n W h)
  have q : decide (100 < len) = false := by simp; omega
  by_cases h0 : n < 1
  · have q1 : decide (1 ≤ n) = false := by simp; omega
    clear h0 h
    go_enter Try.func5, Try.ntmps5
    go_wp2_with (first
      | (go_at_call 6; refine (lives22_any _).mono ?_; rintro e w2 ⟨rfl, hb⟩; have H1 := Lib.hid hb; clear hb)
      | (go_at_call 8; refine (HN.out _).mono ?_; rintro e w3 ⟨rfl, rfl⟩)
      | (go_at_call 11; refine (quSay_nil _ _ _ _).mono ?_; rintro e w4 ⟨⟨x4, rfl⟩, rfl⟩)
      | (go_at_call 14; refine (quFlush_nil _).mono ?_; rintro e w5 ⟨⟨x5, rfl⟩, rfl⟩)
      | (go_at_call 16; refine (quWaits_nil _).mono ?_; rintro e w6 ⟨rfl, rfl⟩)
      | (go_at_call 9; refine (quOffer_nil _ _ _ _ _).mono ?_; rintro e w7 ⟨rfl, rfl⟩)
      | (go_at_call 12; refine (quTake_nil _ _).mono ?_; rintro e w8 ⟨rfl, rfl⟩)
      | (go_at_call 17; refine (quLost_nil _).mono ?_; rintro e w9 ⟨rfl, rfl⟩)
      | fail)
    go_ret
    exact ⟨rfl, H1.out⟩
  · have q1 : decide (1 ≤ n) = true := by simp; omega
    have q2 : decide (n ≤ 256) = false := by simp; omega
    clear h0 h
    go_enter Try.func5, Try.ntmps5
    go_wp2_with (first
      | (go_at_call 6; refine (lives22_any _).mono ?_; rintro e w2 ⟨rfl, hb⟩; have H1 := Lib.hid hb; clear hb)
      | (go_at_call 8; refine (HN.out _).mono ?_; rintro e w3 ⟨rfl, rfl⟩)
      | (go_at_call 11; refine (quSay_nil _ _ _ _).mono ?_; rintro e w4 ⟨⟨x4, rfl⟩, rfl⟩)
      | (go_at_call 14; refine (quFlush_nil _).mono ?_; rintro e w5 ⟨⟨x5, rfl⟩, rfl⟩)
      | (go_at_call 16; refine (quWaits_nil _).mono ?_; rintro e w6 ⟨rfl, rfl⟩)
      | (go_at_call 9; refine (quOffer_nil _ _ _ _ _).mono ?_; rintro e w7 ⟨rfl, rfl⟩)
      | (go_at_call 12; refine (quTake_nil _ _).mono ?_; rintro e w8 ⟨rfl, rfl⟩)
      | (go_at_call 17; refine (quLost_nil _).mono ?_; rintro e w9 ⟨rfl, rfl⟩)
      | fail)
    go_ret
    exact ⟨rfl, H1.out⟩
set_option maxRecDepth 100000 in
set_option maxHeartbeats 2000000 in
theorem queueArgs_in (n : Nat) (a : Option Addr) (len cap : Nat) (w : World) (hl : len ≤ 100) (h1 : 1 ≤ n) (h2 : n ≤ 256) :
    Calls Try.prog 5 #[.int .i64 n, .slice a len cap] w fun e w' => e = .returned (.bool true) ∧ Below w.heap.size w w' := by
  have HN := Lib.hid (fun W => quNew_any n W h1 h2)
  have q : decide (100 < len) = false := by simp; omega
  have q1 : decide ((1 : Int) ≤ (n : Int)) = true := by simp; omega
  have q2 : decide ((n : Int) ≤ 256) = true := by simp; omega
  go_enter Try.func5, Try.ntmps5
  go_wp2_with (first
    | (go_at_call 6; refine (lives22_any _).mono ?_; rintro e w2 ⟨rfl, hb⟩; have H1 := Lib.hid hb; clear hb)
    | (go_at_call 8; refine (HN.out _).mono ?_; rintro e w3 ⟨g, rfl, hg, hq, hb⟩; have H3 := Lib.hid (chain H1.out hb); clear hg hq hb)
    | (go_at_call 11; refine (quSay_nil _ _ _ _).mono ?_; rintro e w4 ⟨⟨x4, rfl⟩, rfl⟩)
    | (go_at_call 14; refine (quFlush_nil _).mono ?_; rintro e w5 ⟨⟨x5, rfl⟩, rfl⟩)
    | (go_at_call 16; refine (quWaits_nil _).mono ?_; rintro e w6 ⟨rfl, rfl⟩)
    | (go_at_call 9; refine (quOffer_nil _ _ _ _ _).mono ?_; rintro e w7 ⟨rfl, rfl⟩)
    | (go_at_call 12; refine (quTake_nil _ _).mono ?_; rintro e w8 ⟨rfl, rfl⟩)
    | (go_at_call 17; refine (quLost_nil _).mono ?_; rintro e w9 ⟨rfl, rfl⟩)
    | fail)
  go_ret
  exact ⟨rfl, H3.out⟩
end Go.Proofs.Ytnjnfocpjmmibaa
