/- What the document's small functions of layer 16 give, for whatever texts. -/
import Derived.Test.YtebfjmjdcbeekaaDoorRows
import Derived.Test.YtebfjmjdcbeekaaDoorWrdW
import Derived.WalkKit
import Derived.WalkLawsBesides
import Derived.WalkSpells
import Derived.Handy
namespace Go.Proofs.YtebfjmjdcbeekaaDoor
open Go.RowKit Go.PlainAid
set_option linter.unusedVariables false

set_option maxHeartbeats 4000000 in
set_option maxRecDepth 100000 in
theorem refRune_any (s : ByteArray) (w : World) (h0 : 0 < s.size) (hs : s.size ≤ 5000) :
    Calls Tryd.prog 46 #[.string s] w fun e w' => e = .returned (.tuple #[.int .i64 (runeR s.data.toList : Nat), .int .i64 (runeN s.data.toList : Nat)]) ∧ w = w' := by
  have hb := get_bt s
  obtain ⟨b0, e0⟩ : ∃ b : Nat, (s.data.toList.getD 0 0).toNat = b := ⟨_, rfl⟩
  obtain ⟨b1, e1⟩ : ∃ b : Nat, (s.data.toList.getD 1 0).toNat = b := ⟨_, rfl⟩
  obtain ⟨b2, e2⟩ : ∃ b : Nat, (s.data.toList.getD 2 0).toNat = b := ⟨_, rfl⟩
  obtain ⟨b3, e3⟩ : ∃ b : Nat, (s.data.toList.getD 3 0).toNat = b := ⟨_, rfl⟩
  have k0 : b0 < 256 := by rw [← e0]; exact UInt8.toNat_lt _
  have k1 : b1 < 256 := by rw [← e1]; exact UInt8.toNat_lt _
  have k2 : b2 < 256 := by rw [← e2]; exact UInt8.toNat_lt _
  have k3 : b3 < 256 := by rw [← e3]; exact UInt8.toNat_lt _
  have t0 : bt s 0 = (b0 : Nat) := by rw [bt_list, e0]
  have t1 : bt s 1 = (b1 : Nat) := by rw [bt_list, e1]
  have t2 : bt s 2 = (b2 : Nat) := by rw [bt_list, e2]
  have t3 : bt s 3 = (b3 : Nat) := by rw [bt_list, e3]
  have HB : RowKit.Hid (∀ r n : Int, Lib.decodeN s.size b0 b1 b2 b3 = (65533, 1) → r = 0 → n = 0 → Ending.returned (.tuple #[.int .i64 r, .int .i64 n]) = .returned (.tuple #[.int .i64 (runeR s.data.toList : Nat), .int .i64 (runeN s.data.toList : Nat)])) := by
    intro r n h; rw [← e0, ← e1, ← e2, ← e3, ← len_list] at h; exact rune_bad h
  have HG : RowKit.Hid (∀ (r n : Int) (q k : Nat), Lib.decodeN s.size b0 b1 b2 b3 = (q, k) → ¬ (q = 65533 ∧ k = 1) → r = q → n = k → Ending.returned (.tuple #[.int .i64 r, .int .i64 n]) = .returned (.tuple #[.int .i64 (runeR s.data.toList : Nat), .int .i64 (runeN s.data.toList : Nat)])) := by
    intro r n q k h; rw [← e0, ← e1, ← e2, ← e3, ← len_list] at h; exact rune_good h
  generalize runeR s.data.toList = RR at HB HG ⊢
  generalize runeN s.data.toList = RN at HB HG ⊢
  clear e0 e1 e2 e3
  by_cases c0 : b0 < 128
  · go_enter Tryd.func46, Tryd.ntmps46
    go_wp2
    go_ret2
    exact ⟨HG.out _ _ b0 1 (Lib.decodeN_ascii _ _ _ _ _ c0) (by omega) rfl rfl, rfl⟩
  by_cases c1 : b0 < 194
  · skip
    go_enter Tryd.func46, Tryd.ntmps46
    go_wp2
    all_goals first
      | (go_ret2; exact ⟨HB.out _ _ (decN_bad _ _ _ _ _ (by omega) (by omega) (by omega)) rfl rfl, rfl⟩)
  by_cases c2 : b0 < 224
  · skip
    by_cases n1 : s.size < 2
    · skip
      go_enter Tryd.func46, Tryd.ntmps46
      go_wp2
      all_goals first
        | (go_ret2; exact ⟨HB.out _ _ (decN_bad _ _ _ _ _ (by omega) (by omega) (by omega)) rfl rfl, rfl⟩)
    by_cases x1l : b1 < 128
    · skip
      go_enter Tryd.func46, Tryd.ntmps46
      go_wp2
      go_rounds 2
      all_goals first
        | (go_ret2; exact ⟨HB.out _ _ (decN_bad _ _ _ _ _ (by omega) (by omega) (by omega)) rfl rfl, rfl⟩)
    by_cases x1h : 191 < b1
    · skip
      go_enter Tryd.func46, Tryd.ntmps46
      go_wp2
      go_rounds 2
      all_goals first
        | (go_ret2; exact ⟨HB.out _ _ (decN_bad _ _ _ _ _ (by omega) (by omega) (by omega)) rfl rfl, rfl⟩)
    go_enter Tryd.func46, Tryd.ntmps46
    go_wp2
    go_rounds 2
    all_goals first
      | (go_ret2; exact ⟨HB.out _ _ (decN_bad _ _ _ _ _ (by omega) (by omega) (by omega)) rfl rfl, rfl⟩)
      | (go_ret2; exact ⟨HG.out _ _ _ 2 (decN_2 _ _ _ _ _ (by omega) (by omega) (by omega) (by omega) (by omega)) (by omega) (by omega) rfl, rfl⟩)
  by_cases c3 : b0 < 240
  · skip
    by_cases n1 : s.size < 3
    · skip
      go_enter Tryd.func46, Tryd.ntmps46
      go_wp2
      all_goals first
        | (go_ret2; exact ⟨HB.out _ _ (decN_bad _ _ _ _ _ (by omega) (by omega) (by omega)) rfl rfl, rfl⟩)
    by_cases x1l : b1 < 128
    · skip
      go_enter Tryd.func46, Tryd.ntmps46
      go_wp2
      go_rounds 3
      all_goals first
        | (go_ret2; exact ⟨HB.out _ _ (decN_bad _ _ _ _ _ (by omega) (by omega) (by omega)) rfl rfl, rfl⟩)
    by_cases x1h : 191 < b1
    · skip
      go_enter Tryd.func46, Tryd.ntmps46
      go_wp2
      go_rounds 3
      all_goals first
        | (go_ret2; exact ⟨HB.out _ _ (decN_bad _ _ _ _ _ (by omega) (by omega) (by omega)) rfl rfl, rfl⟩)
    by_cases x2l : b2 < 128
    · skip
      go_enter Tryd.func46, Tryd.ntmps46
      go_wp2
      go_rounds 3
      all_goals first
        | (go_ret2; exact ⟨HB.out _ _ (decN_bad _ _ _ _ _ (by omega) (by omega) (by omega)) rfl rfl, rfl⟩)
    by_cases x2h : 191 < b2
    · skip
      go_enter Tryd.func46, Tryd.ntmps46
      go_wp2
      go_rounds 3
      all_goals first
        | (go_ret2; exact ⟨HB.out _ _ (decN_bad _ _ _ _ _ (by omega) (by omega) (by omega)) rfl rfl, rfl⟩)
    go_enter Tryd.func46, Tryd.ntmps46
    go_wp2
    go_rounds 3
    all_goals first
      | (go_ret2; exact ⟨HB.out _ _ (decN_bad _ _ _ _ _ (by omega) (by omega) (by omega)) rfl rfl, rfl⟩)
      | (go_ret2; exact ⟨HG.out _ _ _ 3 (decN_3 _ _ _ _ _ (by omega) (by omega) (by omega) (by omega) (by omega) (by omega) (by omega) (by omega) (by omega)) (by omega) (by omega) rfl, rfl⟩)
  by_cases c4 : b0 < 245
  · skip
    by_cases n1 : s.size < 4
    · skip
      go_enter Tryd.func46, Tryd.ntmps46
      go_wp2
      all_goals first
        | (go_ret2; exact ⟨HB.out _ _ (decN_bad _ _ _ _ _ (by omega) (by omega) (by omega)) rfl rfl, rfl⟩)
    by_cases x1l : b1 < 128
    · skip
      go_enter Tryd.func46, Tryd.ntmps46
      go_wp2
      go_rounds 4
      all_goals first
        | (go_ret2; exact ⟨HB.out _ _ (decN_bad _ _ _ _ _ (by omega) (by omega) (by omega)) rfl rfl, rfl⟩)
    by_cases x1h : 191 < b1
    · skip
      go_enter Tryd.func46, Tryd.ntmps46
      go_wp2
      go_rounds 4
      all_goals first
        | (go_ret2; exact ⟨HB.out _ _ (decN_bad _ _ _ _ _ (by omega) (by omega) (by omega)) rfl rfl, rfl⟩)
    by_cases x2l : b2 < 128
    · skip
      go_enter Tryd.func46, Tryd.ntmps46
      go_wp2
      go_rounds 4
      all_goals first
        | (go_ret2; exact ⟨HB.out _ _ (decN_bad _ _ _ _ _ (by omega) (by omega) (by omega)) rfl rfl, rfl⟩)
    by_cases x2h : 191 < b2
    · skip
      go_enter Tryd.func46, Tryd.ntmps46
      go_wp2
      go_rounds 4
      all_goals first
        | (go_ret2; exact ⟨HB.out _ _ (decN_bad _ _ _ _ _ (by omega) (by omega) (by omega)) rfl rfl, rfl⟩)
    by_cases x3l : b3 < 128
    · skip
      go_enter Tryd.func46, Tryd.ntmps46
      go_wp2
      go_rounds 4
      all_goals first
        | (go_ret2; exact ⟨HB.out _ _ (decN_bad _ _ _ _ _ (by omega) (by omega) (by omega)) rfl rfl, rfl⟩)
    by_cases x3h : 191 < b3
    · skip
      go_enter Tryd.func46, Tryd.ntmps46
      go_wp2
      go_rounds 4
      all_goals first
        | (go_ret2; exact ⟨HB.out _ _ (decN_bad _ _ _ _ _ (by omega) (by omega) (by omega)) rfl rfl, rfl⟩)
    go_enter Tryd.func46, Tryd.ntmps46
    go_wp2
    go_rounds 4
    all_goals first
      | (go_ret2; exact ⟨HB.out _ _ (decN_bad _ _ _ _ _ (by omega) (by omega) (by omega)) rfl rfl, rfl⟩)
      | (go_ret2; exact ⟨HG.out _ _ _ 4 (decN_4 _ _ _ _ _ (by omega) (by omega) (by omega) (by omega) (by omega) (by omega) (by omega) (by omega) (by omega) (by omega) (by omega)) (by omega) (by omega) rfl, rfl⟩)
  · skip
    go_enter Tryd.func46, Tryd.ntmps46
    go_wp2
    all_goals first
      | (go_ret2; exact ⟨HB.out _ _ (decN_bad _ _ _ _ _ (by omega) (by omega) (by omega)) rfl rfl, rfl⟩)
end Go.Proofs.YtebfjmjdcbeekaaDoor
