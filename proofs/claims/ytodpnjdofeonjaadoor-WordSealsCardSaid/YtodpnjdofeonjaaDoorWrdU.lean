/- Bytes sealed, and texts opened, by both. -/
import Derived.Test.YtodpnjdofeonjaaDoorWrdY
import Derived.Test.YtodpnjdofeonjaaDoorWrdM
namespace Go.Proofs.YtodpnjdofeonjaaDoor
open Go.RowKit Go.PlainAid
set_option linter.unusedVariables false

theorem bytes_of (zs : List Int) (h : ∀ n ∈ zs, (Lit.int .u8 n).wf = true) : ∃ l : List UInt8, bz l = zs ∧ l.length = zs.length := by
  refine ⟨zs.map fun z => UInt8.ofNat z.toNat, ?_, by simp⟩
  unfold bz
  rw [List.map_map]
  conv => rhs; rw [← List.map_id zs]
  apply List.map_congr_left
  intro z hz
  have := h z hz
  have e1 : IntKind.u8.min = 0 := rfl
  have e2 : IntKind.u8.max = 255 := rfl
  simp [Lit.wf, e1, e2] at this
  simp
  omega
theorem conv_bytes (W W' : World) (B : Nat) (a : Option Addr) (n c : Nat) (l : List UInt8) (h : IntsAt W B .u8 a n (bz l)) (hb : Below B W W') :
    (convert 27 9 (.slice a n c)).run Tryd.prog W' = .ok (.string (ba l)) W' := by
  have := string_of_ints (P := Tryd.prog) (src := 27) (dst := 9) (e := 5) (c := c) Tryd.underlying27 Tryd.underlying5 Tryd.underlying9 (h.below hb)
  rw [text_bz] at this
  exact this

set_option maxHeartbeats 8000000 in
set_option maxRecDepth 1000000 in
theorem wordSeals_law (a : Option Addr) (len cap : Nat) (lb : List UInt8) (s : ByteArray) (w : World) (hl : lb.length = len) (h : IntsAt w w.heap.size .u8 a len (bz lb)) :
    Calls Tryd.prog 5 #[.slice a len cap, .string s] w fun e w' => e = .returned (.bool true) ∧ Below w.heap.size w w' := by
  by_cases h300 : 300 < len
  · go_enter Tryd.func5, Tryd.ntmps5
    go_wp2_with (first | (go_at_call 7; ((with_reducible refine (lives16 w).mono ?_)); rintro e w1 ⟨rfl, b1⟩) | (go_at_call 7; refine (lives16 w1).mono ?_; rintro e w2 ⟨rfl, b2⟩))
    go_ret
    exact ⟨rfl, chain b1 b2⟩
  by_cases h200 : 200 < s.size
  · go_enter Tryd.func5, Tryd.ntmps5
    go_wp2_with (first | (go_at_call 7; ((with_reducible refine (lives16 w).mono ?_)); rintro e w1 ⟨rfl, b1⟩) | (go_at_call 7; refine (lives16 w1).mono ?_; rintro e w2 ⟨rfl, b2⟩))
    go_ret
    exact ⟨rfl, chain b1 b2⟩
  have H := Lib.hid h
  clear h
  have C0 := lives16 w
  obtain ⟨T, hT⟩ : ∃ T, ba (sealL lb) = T := ⟨_, rfl⟩
  have hTs : T.size ≤ 400 := by rw [← hT, ba_size, sealL_len, hl]; omega
  have CS : ∀ W, Below w.heap.size w W → Calls Tryd.prog 18 #[.slice a len cap] W fun e w' => e = .returned (.string T) ∧ Below W.heap.size W w' := by
    intro W hb
    rw [← hT]
    exact seal_any a lb len cap W hl (by omega) ((H.out.below hb).grow hb.size)
  have CR : ∀ W, Below w.heap.size w W → Calls Tryd.prog 21 #[.slice a len cap] W fun e w' => e = .returned (.string T) ∧ W = w' := by
    intro W hb
    rw [← hT]
    exact refSeal_any a lb len cap w.heap.size W hl (by omega) (H.out.below hb)
  have CO : ∀ W, Calls Tryd.prog 19 #[.string T] W fun e w' => ∃ (a1 : Option Addr) (c1 : Nat), e = .returned (.tuple #[.slice a1 len c1, .int .i64 0]) ∧ RowKit.Hid (IntsAt w' w'.heap.size .u8 a1 len (bz lb)) ∧ Below W.heap.size W w' := by
    intro W
    refine (open_any T W hTs).mono ?_
    rintro e w' ⟨hb, hc⟩
    have e1 : openA T.data.toList = some lb := by rw [← hT, list_ba]; exact openA_seal lb
    rcases hc with ⟨b, a1, c1, h1, _, he, hi⟩ | ⟨h1, _⟩
    · rw [e1] at h1
      injection h1 with h1
      subst h1
      rw [hl] at he hi
      exact ⟨a1, c1, he, hi, hb⟩
    · rw [e1] at h1
      cases h1
  clear hT
  have hbT : ba lb = ba lb := rfl
  by_cases hq : sealL (openR s.data.toList) = s.data.toList
  · obtain ⟨d, hd⟩ : ∃ d, openR s.data.toList = d := ⟨_, rfl⟩
    have CD : ∀ W, Calls Tryd.prog 19 #[.string s] W fun e w' => ∃ (a1 : Option Addr) (c1 : Nat), e = .returned (.tuple #[.slice a1 d.length c1, .int .i64 0]) ∧ RowKit.Hid (IntsAt w' w'.heap.size .u8 a1 d.length (bz d)) ∧ Below W.heap.size W w' := by
      intro W
      refine (open_any s W (by omega)).mono ?_
      rintro e w' ⟨hb, hc⟩
      have e1 : openA s.data.toList = some d := by rw [openA_eq, if_pos hq, hd]
      rcases hc with ⟨b, a1, c1, h1, _, he, hi⟩ | ⟨h1, _⟩
      · rw [e1] at h1
        injection h1 with h1
        subst h1
        exact ⟨a1, c1, he, hi, hb⟩
      · rw [e1] at h1
        cases h1
    have CE : ∀ W, Calls Tryd.prog 20 #[.string s] W fun e w' => ∃ (a1 : Option Addr) (c1 : Nat), e = .returned (.tuple #[.slice a1 d.length c1, .bool true]) ∧ RowKit.Hid (IntsAt w' w'.heap.size .u8 a1 d.length (bz d)) ∧ Below W.heap.size W w' := by
      intro W
      refine (refOpen_any s W (by omega)).mono ?_
      rintro e w' ⟨hb, a1, c1, he, hi⟩
      rw [decide_eq_true hq, hd] at he
      rw [hd] at hi
      exact ⟨a1, c1, he, hi, hb⟩
    clear hq hd
    obtain ⟨dl, hdl⟩ : ∃ n, d.length = n := ⟨_, rfl⟩
    rw [hdl] at CD CE
    clear hdl
    go_enter Tryd.func5, Tryd.ntmps5
    go_wp2_with (first
      | (go_at_call 7; refine C0.mono ?_; rintro e w1 ⟨rfl, b1⟩)
      | (go_at_call 18; refine (CS w1 b1).mono ?_; rintro e w2 ⟨rfl, b2⟩)
      | (go_at_call 19; ((with_reducible refine (CO w2).mono ?_)); rintro e w3 ⟨a3, c3, rfl, i3, b3⟩)
      | (go_at_call 19; ((with_reducible refine (CD w3).mono ?_)); rintro e w4 ⟨a4, c4, rfl, i4, b4⟩)
      | (go_at_call 20; ((with_reducible refine (CE w4).mono ?_)); rintro e w5 ⟨a5, c5, rfl, i5, b5⟩; have v3 := conv_bytes w3 w5 _ _ _ c3 _ i3.out (chain b4 b5); have v4 := conv_bytes w4 w5 _ _ _ c4 _ i4.out b5; have v5 := conv_bytes w5 w5 _ _ _ c5 _ i5.out (Below.refl _ _); have b15 : Below w.heap.size w w5 := chain (chain (chain (chain b1 b2) b3) b4) b5; have v0 := conv_bytes w w5 _ _ _ cap _ H.out b15)
      | (go_at_call 21; refine (CR w5 b15).mono ?_; rintro e w' ⟨rfl, rfl⟩))
    go_ret
    exact ⟨ret_boolE (by first | rfl | simp), b15⟩
  · have CD : ∀ W, Calls Tryd.prog 19 #[.string s] W fun e w' => e = .returned (.tuple #[.slice none 0 0, .int .i64 3]) ∧ Below W.heap.size W w' := by
      intro W
      refine (open_any s W (by omega)).mono ?_
      rintro e w' ⟨hb, hc⟩
      have e1 : openA s.data.toList = none := by rw [openA_eq, if_neg hq]
      rcases hc with ⟨b, a1, c1, h1, _⟩ | ⟨_, he⟩
      · rw [e1] at h1
        cases h1
      · exact ⟨he, hb⟩
    obtain ⟨d, hd⟩ : ∃ d, openR s.data.toList = d := ⟨_, rfl⟩
    have CE : ∀ W, Calls Tryd.prog 20 #[.string s] W fun e w' => ∃ (a1 : Option Addr) (c1 : Nat), e = .returned (.tuple #[.slice a1 d.length c1, .bool false]) ∧ Below W.heap.size W w' := by
      intro W
      refine (refOpen_any s W (by omega)).mono ?_
      rintro e w' ⟨hb, a1, c1, he, hi⟩
      rw [decide_eq_false hq, hd] at he
      exact ⟨a1, c1, he, hb⟩
    clear hq hd
    go_enter Tryd.func5, Tryd.ntmps5
    go_wp2_with (first
      | (go_at_call 7; refine C0.mono ?_; rintro e w1 ⟨rfl, b1⟩)
      | (go_at_call 18; refine (CS w1 b1).mono ?_; rintro e w2 ⟨rfl, b2⟩)
      | (go_at_call 19; ((with_reducible refine (CO w2).mono ?_)); rintro e w3 ⟨a3, c3, rfl, i3, b3⟩)
      | (go_at_call 19; ((with_reducible refine (CD w3).mono ?_)); rintro e w4 ⟨rfl, b4⟩)
      | (go_at_call 20; ((with_reducible refine (CE w4).mono ?_)); rintro e w5 ⟨a5, c5, rfl, b5⟩; have v3 := conv_bytes w3 w5 _ _ _ c3 _ i3.out (chain b4 b5); have b15 : Below w.heap.size w w5 := chain (chain (chain (chain b1 b2) b3) b4) b5; have v0 := conv_bytes w w5 _ _ _ cap _ H.out b15)
      | (go_at_call 21; refine (CR w5 b15).mono ?_; rintro e w' ⟨rfl, rfl⟩))
    go_ret
    exact ⟨ret_boolE (by first | rfl | simp), b15⟩
end Go.Proofs.YtodpnjdofeonjaaDoor
