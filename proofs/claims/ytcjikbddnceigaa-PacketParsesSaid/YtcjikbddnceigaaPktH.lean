/- What the document's Parse gives. -/
import Derived.Test.YtcjikbddnceigaaPktG
import Derived.Test.YtcjikbddnceigaaPktF
import Derived.Deep.RegionHeld3
namespace Go.Proofs.Ytcjikbddnceigaa
open Go.RowKit
set_option linter.unusedVariables false
set_option linter.unusedSimpArgs false

/-- How the first bytes fail. -/
theorem form_bad {b : List Int} (hb : Byts b) (h : formP b = false) : (0 < b.length ∧ b.getD 0 0 ≠ 83) ∨ (1 < b.length ∧ b.getD 0 0 = 83 ∧ b.getD 1 0 ≠ 66) ∨ (2 < b.length ∧ b.getD 0 0 = 83 ∧ b.getD 1 0 = 66 ∧ 1 < b.getD 2 0) := by
  rw [Bool.eq_false_iff, Ne, formP_iff] at h
  have h2 := hb.getD 2
  by_cases c0 : 0 < b.length ∧ b.getD 0 0 ≠ 83
  · exact .inl c0
  · by_cases c1 : 1 < b.length ∧ b.getD 0 0 = 83 ∧ b.getD 1 0 ≠ 66
    · exact .inr (.inl c1)
    · have k0 : 0 < b.length → b.getD 0 0 = 83 := fun l => Classical.byContradiction fun c => c0 ⟨l, c⟩
      have k1 : 1 < b.length → b.getD 1 0 = 66 := fun l => Classical.byContradiction fun c => c1 ⟨l, k0 (by omega), c⟩
      have k2 : ¬ (2 < b.length → b.getD 2 0 = 0 ∨ b.getD 2 0 = 1) := fun k => h ⟨k0, k1, k⟩
      by_cases l : 2 < b.length
      · exact .inr (.inr ⟨l, k0 (by omega), k1 (by omega), by have := fun c => k2 fun _ => c; omega⟩)
      · exact (k2 fun l' => absurd l' l).elim
set_option maxRecDepth 100000 in
set_option maxHeartbeats 4000000 in
theorem refParse_form (a : Option Addr) (n cap : Nat) (b : List Int) (w : World) (h : ByL w a n cap b) (hn : n ≤ 1000000) (hf : formP b = false) :
    Calls Try.prog 12 #[.slice a n cap] w fun e w' => e = .returned (.tuple #[pkZ, .int .i64 0, .int .i64 (prsE b)]) ∧ Below w.heap.size w w' := by
  have E := Lib.hid (prsE_form hf)
  have hl := h.len
  have HB := Lib.hid (Below.alloc_new w (.cells #[.int .u32 0, .int .u32 0, .bool false, .slice none 0 0] 33))
  have HC := Lib.hid (Cel.new w 33 #[.int .u32 0, .int .u32 0, .bool false, .slice none 0 0])
  have hfb := form_bad h.hb hf
  rw [hl] at hfb
  have h0 : 0 < n := by omega
  obtain ⟨r, off, rfl⟩ := h.form h0
  have W : RowKit.Hid (∀ j, j < n → (w.alloc (.cells #[.int .u32 0, .int .u32 0, .bool false, .slice none 0 0] 33)).cell? ⟨r, off + j, none⟩ = some (.int .u8 (b.getD j 0))) := fun j hj => (h.below HB.out).cell hj
  rcases hfb with ⟨l, c⟩ | ⟨l, c0, c⟩ | ⟨l, c0, c1, c⟩
  · have k0 := W.out 0 l
    rw [Nat.add_zero] at k0
    generalize b.getD 0 0 = x at k0 c
    have q : (x != 83) = true := by simpa using c
    clear h hf hl c
    go_enter Try.func12, Try.ntmps12
    go_wp2
    refine bodyPost_ret (results19_3 rfl rfl rfl rfl (run_loadVar_row _ w.heap.size _ _ _ (0, 0) _ HC.out Try.underlying33 rfl info19_rpk)) rfl ?_
    exact ⟨by rw [E.out]; rfl, HB.out⟩
  · have k0 := W.out 0 h0
    have k1 := W.out 1 l
    rw [Nat.add_zero, c0] at k0
    generalize b.getD 1 0 = x at k1 c
    have q : (x != 66) = true := by simpa using c
    clear h hf hl c c0
    go_enter Try.func12, Try.ntmps12
    go_wp2
    refine bodyPost_ret (results19_3 rfl rfl rfl rfl (run_loadVar_row _ w.heap.size _ _ _ (0, 0) _ HC.out Try.underlying33 rfl info19_rpk)) rfl ?_
    exact ⟨by rw [E.out]; rfl, HB.out⟩
  · have k0 := W.out 0 h0
    have k1 := W.out 1 (by omega)
    have k2 := W.out 2 l
    rw [Nat.add_zero, c0] at k0
    rw [c1] at k1
    generalize b.getD 2 0 = x at k2 c
    have q : decide (1 < x) = true := by simpa using c
    clear h hf hl c c0 c1
    go_enter Try.func12, Try.ntmps12
    go_wp2
    refine bodyPost_ret (results19_3 rfl rfl rfl rfl (run_loadVar_row _ w.heap.size _ _ _ (0, 0) _ HC.out Try.underlying33 rfl info19_rpk)) rfl ?_
    exact ⟨by rw [E.out]; rfl, HB.out⟩

/-- The first three bytes, where they are a packet's. -/
theorem form_three {b : List Int} (hb : Byts b) (h : formP b = true) (l : 3 ≤ b.length) : b.getD 0 0 = 83 ∧ b.getD 1 0 = 66 ∧ 0 ≤ b.getD 2 0 ∧ b.getD 2 0 ≤ 1 := by
  obtain ⟨h0, h1, h2⟩ := (formP_iff b).1 h
  have := h2 (by omega)
  exact ⟨h0 (by omega), h1 (by omega), by omega, by omega⟩
set_option maxRecDepth 100000 in
set_option maxHeartbeats 4000000 in
theorem refParse_few (a : Option Addr) (n cap : Nat) (b : List Int) (w : World) (h : ByL w a n cap b) (hf : formP b = true) (hn : n < 13) :
    Calls Try.prog 12 #[.slice a n cap] w fun e w' => e = .returned (.tuple #[pkZ, .int .i64 0, .int .i64 (prsE b)]) ∧ Below w.heap.size w w' := by
  have hl := h.len
  have E := Lib.hid (prsE_few hf (by omega))
  have HB := Lib.hid (Below.alloc_new w (.cells #[.int .u32 0, .int .u32 0, .bool false, .slice none 0 0] 33))
  have HC := Lib.hid (Cel.new w 33 #[.int .u32 0, .int .u32 0, .bool false, .slice none 0 0])
  by_cases l0 : n = 0
  · subst l0
    clear h hf hl
    go_enter Try.func12, Try.ntmps12
    go_wp2
    refine bodyPost_ret (results19_3 rfl rfl rfl rfl (run_loadVar_row _ w.heap.size _ _ _ (0, 0) _ HC.out Try.underlying33 rfl info19_rpk)) rfl ?_
    exact ⟨by rw [E.out]; rfl, HB.out⟩
  · obtain ⟨r, off, rfl⟩ := h.form (by omega)
    have W : RowKit.Hid (∀ j, j < n → (w.alloc (.cells #[.int .u32 0, .int .u32 0, .bool false, .slice none 0 0] 33)).cell? ⟨r, off + j, none⟩ = some (.int .u8 (b.getD j 0))) := fun j hj => (h.below HB.out).cell hj
    obtain ⟨f0, f1, f2⟩ := (formP_iff b).1 hf
    have k0 := W.out 0 (by omega)
    rw [Nat.add_zero, f0 (by omega)] at k0
    by_cases l1 : n = 1
    · subst l1
      clear h hf hl f0 f1 f2 W
      go_enter Try.func12, Try.ntmps12
      go_wp2
      refine bodyPost_ret (results19_3 rfl rfl rfl rfl (run_loadVar_row _ w.heap.size _ _ _ (0, 0) _ HC.out Try.underlying33 rfl info19_rpk)) rfl ?_
      exact ⟨by rw [E.out]; rfl, HB.out⟩
    · have k1 := W.out 1 (by omega)
      rw [f1 (by omega)] at k1
      by_cases l2 : n = 2
      · subst l2
        clear h hf hl f0 f1 f2 W
        go_enter Try.func12, Try.ntmps12
        go_wp2
        refine bodyPost_ret (results19_3 rfl rfl rfl rfl (run_loadVar_row _ w.heap.size _ _ _ (0, 0) _ HC.out Try.underlying33 rfl info19_rpk)) rfl ?_
        exact ⟨by rw [E.out]; rfl, HB.out⟩
      · have k2 := W.out 2 (by omega)
        obtain ⟨_, _, _, g3⟩ := form_three h.hb hf (by omega)
        generalize b.getD 2 0 = x at k2 g3
        have q : decide (1 < x) = false := by simp; omega
        have g4 : 2 < n := by omega
        clear h hf hl f0 f1 f2 W g3
        go_enter Try.func12, Try.ntmps12
        go_wp2
        refine bodyPost_ret (results19_3 rfl rfl rfl rfl (run_loadVar_row _ w.heap.size _ _ _ (0, 0) _ HC.out Try.underlying33 rfl info19_rpk)) rfl ?_
        exact ⟨by rw [E.out]; rfl, HB.out⟩

/-! ### A packet's length is told -/
set_option maxRecDepth 100000 in
set_option maxHeartbeats 4000000 in
theorem refParse_long (a : Option Addr) (n cap : Nat) (b : List Int) (w : World) (h : ByL w a n cap b) (hf : formP b = true) (hn : 13 ≤ n) (hn2 : n ≤ 1000000) (hz : 600 < lenP b ∨ n < 17 + lenP b) :
    Calls Try.prog 12 #[.slice a n cap] w fun e w' => e = .returned (.tuple #[pkZ, .int .i64 0, .int .i64 (prsE b)]) ∧ Below w.heap.size w w' := by
  have hl := h.len
  have hc := h.hc
  have hm := h.hm
  have HB := Lib.hid (Below.alloc_new w (.cells #[.int .u32 0, .int .u32 0, .bool false, .slice none 0 0] 33))
  have HC := Lib.hid (Cel.new w 33 #[.int .u32 0, .int .u32 0, .bool false, .slice none 0 0])
  obtain ⟨r, off, rfl⟩ := h.form (by omega)
  have W : RowKit.Hid (∀ j, j < n → (w.alloc (.cells #[.int .u32 0, .int .u32 0, .bool false, .slice none 0 0] 33)).cell? ⟨r, off + j, none⟩ = some (.int .u8 (b.getD j 0))) := fun j hj => (h.below HB.out).cell hj
  have CV := Lib.hid (refValue_any (some ⟨r, off + 11, none⟩) 2 (cap - 11) ((b.drop 11).take 2) (w.alloc (.cells #[.int .u32 0, .int .u32 0, .bool false, .slice none 0 0] 33)) ((h.below HB.out).sub 11 2 (by omega)).hi ((h.hb.drop _).take _) (by omega))
  obtain ⟨e1, e2⟩ := lenP_bd h.hb
  have k0 := W.out 0 (by omega)
  have k1 := W.out 1 (by omega)
  have k2 := W.out 2 (by omega)
  obtain ⟨g0, g1, g2, g3⟩ := form_three h.hb hf (by omega)
  rw [Nat.add_zero, g0] at k0
  rw [g1] at k1
  generalize b.getD 2 0 = x at k2 g3
  have q : decide (1 < x) = false := by simp; omega
  by_cases hz2 : 600 < lenP b
  · have E := Lib.hid (prsE_long hf (by omega) hz2)
    obtain ⟨z, hzz⟩ : ∃ z, lenP b = z := ⟨_, rfl⟩
    rw [← e1, hzz] at CV
    rw [hzz] at e2 hz2
    clear h hf hl W hz g0 g1 g2 g3 e1 hzz
    go_enter Try.func12, Try.ntmps12
    go_wp2_with (go_at_call 24; go_loud (refine CV.out.mono ?_); rintro e w3 ⟨rfl, rfl⟩)
    refine bodyPost_ret (results19_3 rfl rfl rfl rfl (run_loadVar_row _ w.heap.size _ _ _ (0, 0) _ HC.out Try.underlying33 rfl info19_rpk)) rfl ?_
    exact ⟨by rw [E.out]; rfl, HB.out⟩
  · have hz3 : n < 17 + lenP b := by omega
    have E := Lib.hid (prsE_part hf (by omega) (by omega) (by omega))
    obtain ⟨z, hzz⟩ : ∃ z, lenP b = z := ⟨_, rfl⟩
    rw [← e1, hzz] at CV
    rw [hzz] at e2 hz2 hz3
    clear h hf hl W hz g0 g1 g2 g3 e1 hzz
    go_enter Try.func12, Try.ntmps12
    go_wp2_with (go_at_call 24; go_loud (refine CV.out.mono ?_); rintro e w3 ⟨rfl, rfl⟩)
    refine bodyPost_ret (results19_3 rfl rfl rfl rfl (run_loadVar_row _ w.heap.size _ _ _ (0, 0) _ HC.out Try.underlying33 rfl info19_rpk)) rfl ?_
    exact ⟨by rw [E.out]; rfl, HB.out⟩
end Go.Proofs.Ytcjikbddnceigaa
