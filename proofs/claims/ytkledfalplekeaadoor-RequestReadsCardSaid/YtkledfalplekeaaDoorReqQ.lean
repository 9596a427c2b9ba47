/- The chapter's example, no reader, and any bytes, one by one. -/
import Derived.Test.YtkledfalplekeaaDoorReqL
import Derived.Deep.RegionHeld3
namespace Go.Proofs.YtkledfalplekeaaDoor
open Go.RowKit Go.PlainAid
set_option linter.unusedVariables false

set_option maxHeartbeats 4000000 in
set_option maxRecDepth 100000 in
theorem lives17 (w : World) (hT : Lib.Utf8Tabs 1 2 w) : Calls Tryd.prog 6 #[] w fun e w' => e = .returned (.bool true) ∧ Below w.heap.size w w' := by
  have C1 : Calls Tryd.prog 13 #[.string ⟨#[71, 69, 84, 32, 47, 108, 105, 118, 101, 32, 72, 84, 84, 80, 47, 49, 46, 48, 13, 10, 13, 10]⟩] w fun e w' => ∃ g, e = .returned (.tuple #[.pointer (some ⟨g, 0, none⟩), .bool true]) ∧ RowKit.Hid (RqAt w' w.heap.size g (runS s17Zero exQ)) ∧ Below w.heap.size w w' := by
    have := feed_any ⟨#[71, 69, 84, 32, 47, 108, 105, 118, 101, 32, 72, 84, 84, 80, 47, 49, 46, 48, 13, 10, 13, 10]⟩ w (by decide) hT
    rw [show (ByteArray.mk #[71, 69, 84, 32, 47, 108, 105, 118, 101, 32, 72, 84, 84, 80, 47, 49, 46, 48, 13, 10, 13, 10]).data.toList = exQ from rfl, ex_whole] at this
    exact this
  obtain ⟨ic, hic⟩ : ∃ x, (runS s17Zero exQ).R.icy = x := ⟨_, rfl⟩
  obtain ⟨tl, htl⟩ : ∃ x, (runS s17Zero exQ).R.told = x := ⟨_, rfl⟩
  obtain ⟨pw, hpw⟩ : ∃ x, ba (runS s17Zero exQ).R.pass = x := ⟨_, rfl⟩
  have C2 : ∀ (W : World) (g : Nat), RqAt W w.heap.size g (runS s17Zero exQ) → Calls Tryd.prog 10 #[.pointer (some ⟨g, 0, none⟩)] W fun e w' => e = .returned (.tuple #[.agg #[.int .i64 1, .string ⟨#[47, 108, 105, 118, 101]⟩, .bool ic, .bool tl, .string pw], .bool true]) ∧ Below W.heap.size W w' := by
    intro W g h
    have := rReq_any _ g _ W h
    rw [ex_done, if_pos rfl] at this
    unfold reqV at this
    rw [ex_m, ex_path, hic, htl, hpw] at this
    exact this
  clear hic htl hpw
  go_enter Tryd.func6, Tryd.ntmps6
  go_wp2_with (first
    | (go_at_call 13; refine C1.mono ?_; rintro e w1 ⟨g, rfl, h1, b1⟩)
    | (go_at_call 10; refine (C2 _ g h1.out).mono ?_; rintro e w2 ⟨rfl, b2⟩))
  go_ret
  exact ⟨ret_boolE (by first | rfl | simp), chain (chain b1 b2) (Below.alloc_new w2 _)⟩
theorem alloc_size17 (w : World) (o : Obj) : (w.alloc o).heap.size = w.heap.size + 1 := Array.size_push _
set_option maxHeartbeats 4000000 in
set_option maxRecDepth 100000 in
theorem requestNil_law (c : Int) (w : World) (hT : Lib.Utf8Tabs 1 2 w) : Calls Tryd.prog 5 #[.int .u8 c] w fun e w' => e = .returned (.bool true) ∧ Below w.heap.size w w' := by
  have C0 := lives17 w hT
  have CN : ∀ W : World, Calls Tryd.prog 10 #[.pointer none] W fun e w' => e = .returned (.tuple #[.agg #[.int .i64 0, .string ⟨#[]⟩, .bool false, .bool false, .string ⟨#[]⟩], .bool false]) ∧ Below W.heap.size W w' := fun W => rReq_nil W
  have CR : ∀ (W : World) (g : Nat), RqAt W g g s17Zero → Calls Tryd.prog 10 #[.pointer (some ⟨g, 0, none⟩)] W fun e w' => e = .returned (.tuple #[.agg #[.int .i64 0, .string ⟨#[]⟩, .bool false, .bool false, .string ⟨#[]⟩], .bool false]) ∧ Below W.heap.size W w' := fun W g h => rReq_any g g s17Zero W h
  go_enter Tryd.func5, Tryd.ntmps5
  go_wp2_with (first
    | (go_at_call 6; refine C0.mono ?_; rintro e w1 ⟨rfl, b1⟩)
    | (go_at_call 9; refine (rFeed_nil c w1).mono ?_; rintro e w2 ⟨rfl, rfl⟩)
    | (go_at_call 10; ((with_reducible refine (CN _).mono ?_)); rintro e w3 ⟨rfl, b3⟩)
    | (go_at_call 7; refine (new_any _).mono ?_; rintro e w4 ⟨rfl, h4, b4⟩; rw [alloc_size17] at h4; have h4' := Lib.hid (RqAt.start h4 (Nat.le_refl _)); clear h4)
    | (go_at_call 10; ((with_reducible refine (CR _ _ h4'.out).mono ?_)); rintro e w5 ⟨rfl, b5⟩))
  go_ret
  have q3 := chain (chain b1 b3) (Below.alloc_new w3 (.cells #[.int .i64 0, .string ⟨#[]⟩, .bool false, .bool false, .string ⟨#[]⟩] 36))
  exact ⟨ret_boolE (by first | rfl | simp), chain (chain (chain q3 b4) b5) (Below.alloc_new w5 _)⟩
end Go.Proofs.YtkledfalplekeaaDoor
