/- The chapter's examples; names, mounts, titles and folded texts, by both. -/
import Derived.Test.YtodpnjdofeonjaaDoorWrdD
import Derived.Test.YtodpnjdofeonjaaDoorWrdF
import Derived.Test.YtodpnjdofeonjaaDoorWrdH
import Derived.Test.YtodpnjdofeonjaaDoorWrdX
import Derived.Lib.SlBytesConst
namespace Go.Proofs.YtodpnjdofeonjaaDoor
open Go.RowKit Go.PlainAid
set_option linter.unusedVariables false

theorem tabs_below {w w' : World} (h : Lib.Utf8Tabs 0 1 w) (hb : Below w.heap.size w w') : Lib.Utf8Tabs 0 1 w' := Utf8Tabs_below h hb
theorem exTitle : titleF [73, 116, 39, 115] = [73, 116, 226, 128, 153, 115] := by decide +kernel
theorem exSeal : sealL [97, 98, 99] = [89, 87, 74, 106] := by decide +kernel
theorem exName : nameF [97, 45, 66] = true := by decide +kernel
set_option maxHeartbeats 4000000 in
set_option maxRecDepth 1000000 in
theorem lives16 (w : World) : Calls Tryd.prog 7 #[] w fun e w' => e = .returned (.bool true) ∧ Below w.heap.size w w' := by
  have C1 : Calls Tryd.prog 14 #[.string ⟨#[73, 116, 39, 115]⟩] w fun e w' => e = .returned (.string ⟨#[73, 116, 226, 128, 153, 115]⟩) ∧ Below w.heap.size w w' := by
    have := title_any ⟨#[73, 116, 39, 115]⟩ w (by decide)
    rw [show (ByteArray.mk #[73, 116, 39, 115]).data.toList = [73, 116, 39, 115] from rfl, exTitle] at this
    exact this
  have C2 : ∀ W : World, Calls Tryd.prog 18 #[.slice (some ⟨W.heap.size, 0, none⟩) 3 3] (W.alloc (.cells #[.int .u8 97, .int .u8 98, .int .u8 99] 5 (3, 4))) fun e w' => e = .returned (.string ⟨#[89, 87, 74, 106]⟩) ∧ Below W.heap.size W w' := by
    intro W
    have h := lit_ints W 5 .u8 [97, 98, 99] #[.int .u8 97, .int .u8 98, .int .u8 99] (3, 4) rfl (by simp)
    have := seal_any (some ⟨W.heap.size, 0, none⟩) [97, 98, 99] 3 3 (W.alloc (.cells #[.int .u8 97, .int .u8 98, .int .u8 99] 5 (3, 4))) rfl (by omega) h
    rw [exSeal] at this
    refine this.mono ?_
    rintro e w' ⟨he, hb⟩
    exact ⟨he, (Below.alloc_new W _).trans (hb.mono (by simp))⟩
  have C3 : ∀ W : World, Calls Tryd.prog 10 #[.string ⟨#[97, 45, 66]⟩] W fun e w' => e = .returned (.bool true) ∧ W = w' := by
    intro W
    have := name_any ⟨#[97, 45, 66]⟩ W (by decide)
    rw [show (ByteArray.mk #[97, 45, 66]).data.toList = [97, 45, 66] from rfl, exName] at this
    exact this
  have hcv := fun W : World => Lib.run_convert_bytes_const (P := Tryd.prog) W 27 5 #[.int .u8 97, .int .u8 98, .int .u8 99] 3 3 Tryd.underlying27 Tryd.underlying5
  go_enter Tryd.func7, Tryd.ntmps7
  go_wp2_with (first
    | (go_at_call 14; refine C1.mono ?_; rintro e w1 ⟨rfl, b1⟩)
    | (go_at_call 18; refine (C2 _).mono ?_; rintro e w2 ⟨rfl, b2⟩)
    | (go_at_call 10; refine (C3 _).mono ?_; rintro e w3 ⟨rfl, rfl⟩))
  go_ret
  exact ⟨ret_boolE (by first | rfl | simp), chain b1 b2⟩

set_option maxHeartbeats 4000000 in
set_option maxRecDepth 1000000 in
theorem wordTexts_law (s : ByteArray) (w : World) (hT : Lib.Utf8Tabs 0 1 w) :
    Calls Tryd.prog 3 #[.string s] w fun e w' => e = .returned (.bool true) ∧ Below w.heap.size w w' := by
  by_cases h400 : 400 < s.size
  · go_enter Tryd.func3, Tryd.ntmps3
    go_wp2_with (first | (go_at_call 7; ((with_reducible refine (lives16 w).mono ?_)); rintro e w1 ⟨rfl, b1⟩) | (go_at_call 7; refine (lives16 w1).mono ?_; rintro e w2 ⟨rfl, b2⟩))
    go_ret
    exact ⟨rfl, chain b1 b2⟩
  · obtain ⟨F, hF⟩ : ∃ F, ba (foldF s.data.toList) = F := ⟨_, rfl⟩
    obtain ⟨T, hT2⟩ : ∃ F, ba (titleF s.data.toList) = F := ⟨_, rfl⟩
    obtain ⟨N, hN⟩ : ∃ F, nameF s.data.toList = F := ⟨_, rfl⟩
    obtain ⟨M, hM⟩ : ∃ F, mountF s.data.toList = F := ⟨_, rfl⟩
    obtain ⟨q, hq⟩ : ∃ q, (⟨#[47]⟩ : ByteArray) ++ s = q := ⟨_, rfl⟩
    have hqs : q.size ≤ 1000 := by rw [← hq, ByteArray.size_append]; show 1 + s.size ≤ 1000; omega
    obtain ⟨M2, hM2⟩ : ∃ F, mountF q.data.toList = F := ⟨_, rfl⟩
    have hs : s.size ≤ 1000 := by omega
    have C0 := lives16 w
    have D1 : ∀ W, Below w.heap.size w W → Calls Tryd.prog 8 #[.string s] W fun e w' => e = .returned (.string F) ∧ Below W.heap.size W w' := by
      intro W h; rw [← hF]; exact fold_any s W hs (tabs_below hT h)
    have E1 : ∀ W, Calls Tryd.prog 9 #[.string s] W fun e w' => e = .returned (.string F) ∧ W = w' := by intro W; rw [← hF]; exact refFold_any s W hs
    have D2 : ∀ W, Calls Tryd.prog 10 #[.string s] W fun e w' => e = .returned (.bool N) ∧ W = w' := by intro W; rw [← hN]; exact name_any s W hs
    have E2 : ∀ W, Calls Tryd.prog 11 #[.string s] W fun e w' => e = .returned (.bool N) ∧ W = w' := by intro W; rw [← hN]; exact refName_any s W hs
    have D3 : ∀ W, Calls Tryd.prog 12 #[.string s] W fun e w' => e = .returned (.bool M) ∧ W = w' := by intro W; rw [← hM]; exact mount_any s W hs
    have E3 : ∀ W, Calls Tryd.prog 13 #[.string s] W fun e w' => e = .returned (.bool M) ∧ W = w' := by intro W; rw [← hM]; exact refMount_any s W hs
    have D4 : ∀ W, Calls Tryd.prog 14 #[.string s] W fun e w' => e = .returned (.string T) ∧ Below W.heap.size W w' := by intro W; rw [← hT2]; exact title_any s W hs
    have E4 : ∀ W, Calls Tryd.prog 15 #[.string s] W fun e w' => e = .returned (.string T) ∧ W = w' := by intro W; rw [← hT2]; exact refTitle_any s W hs
    have D5 : ∀ W, Calls Tryd.prog 12 #[.string q] W fun e w' => e = .returned (.bool M2) ∧ W = w' := by intro W; rw [← hM2]; exact mount_any q W hqs
    have E5 : ∀ W, Calls Tryd.prog 13 #[.string q] W fun e w' => e = .returned (.bool M2) ∧ W = w' := by intro W; rw [← hM2]; exact refMount_any q W hqs
    clear hF hT2 hN hM hM2 hqs
    go_enter Tryd.func3, Tryd.ntmps3
    go_wp2_with (first
      | (go_at_call 7; refine C0.mono ?_; rintro e w1 ⟨rfl, b1⟩)
      | (go_at_call 8; refine (D1 _ b1).mono ?_; rintro e w2 ⟨rfl, b2⟩)
      | (go_at_call 9; refine (E1 _).mono ?_; rintro e w' ⟨rfl, rfl⟩)
      | (go_at_call 10; refine (D2 _).mono ?_; rintro e w' ⟨rfl, rfl⟩)
      | (go_at_call 11; refine (E2 _).mono ?_; rintro e w' ⟨rfl, rfl⟩)
      | (go_at_call 12; ((with_reducible refine (D3 _).mono ?_)); rintro e w' ⟨rfl, rfl⟩)
      | (go_at_call 13; ((with_reducible refine (E3 _).mono ?_)); rintro e w' ⟨rfl, rfl⟩)
      | (go_at_call 14; refine (D4 _).mono ?_; rintro e w3 ⟨rfl, b3⟩)
      | (go_at_call 15; refine (E4 _).mono ?_; rintro e w' ⟨rfl, rfl⟩)
      | (go_at_call 12; ((with_reducible refine (D5 _).mono ?_)); rintro e w' ⟨rfl, rfl⟩)
      | (go_at_call 13; ((with_reducible refine (E5 _).mono ?_)); rintro e w' ⟨rfl, rfl⟩))
    go_ret
    exact ⟨ret_boolE (by first | rfl | simp), chain (chain b1 b2) b3⟩
end Go.Proofs.YtodpnjdofeonjaaDoor
