/- What the functions of package lapped give: a transform, whether numbers fit, sums of cosines, folding. -/
import Derived.Test.YtgebnaeebdeoeaaBandC
import Derived.Test.YtgebnaeebdeoeaaLapQ
import Derived.Test.YtgebnaeebdeoeaaMemK
import Derived.StillTailTactics
import Derived.BigRegion
namespace Go.Proofs.Ytgebnaeebdeoeaa
open Go.RowKit
set_option linter.unusedVariables false

/-- A slice that leads to n numbers, f 0 and so on, which lie below block B. -/
def FnAt (w : World) (B : Nat) (k : IntKind) (a : Option Addr) (n : Nat) (f : Nat → Int) : Prop :=
  ∃ b off, a = some ⟨b, off, none⟩ ∧ b < B ∧ ∀ j, j < n → w.cell? ⟨b, off + j, none⟩ = some (.int k (f j))
theorem FnAt.below {w w' : World} {B B' n : Nat} {k : IntKind} {a : Option Addr} {f : Nat → Int} (h : FnAt w B k a n f) (hb : Below B' w w') (hB : B ≤ B') : FnAt w' B k a n f := by
  obtain ⟨b, off, e, h3, h5⟩ := h
  exact ⟨b, off, e, h3, fun j hj => (hb.cell (p := ⟨b, off + j, none⟩) (by show b < _; omega)).trans (h5 j hj)⟩
theorem FnAt.grow {w : World} {B B' n : Nat} {k : IntKind} {a : Option Addr} {f : Nat → Int} (h : FnAt w B k a n f) (hB : B ≤ B') : FnAt w B' k a n f := by
  obtain ⟨b, off, e, h3, h5⟩ := h
  exact ⟨b, off, e, by omega, h5⟩
theorem FnAt.now {w w' : World} {n : Nat} {k : IntKind} {a : Option Addr} {f : Nat → Int} (h : FnAt w w.heap.size k a n f) (hb : Below w.heap.size w w') : FnAt w' w'.heap.size k a n f :=
  (h.below hb (Nat.le_refl _)).grow hb.size
theorem FnAt.of_ifun {w : World} {g n : Nat} {t : TypeId} {k : IntKind} {f : Nat → Int} (h : IFun w g t k n f) : FnAt w w.heap.size k (some ⟨g, 0, none⟩) n f :=
  ⟨g, 0, rfl, h.lt, fun j hj => by rw [Nat.zero_add]; exact h.cell hj⟩
theorem FnAt.ext {w : World} {B n : Nat} {k : IntKind} {a : Option Addr} {f f' : Nat → Int} (h : FnAt w B k a n f) (he : ∀ j, j < n → f j = f' j) : FnAt w B k a n f' := by
  obtain ⟨b, off, e, h3, h5⟩ := h
  exact ⟨b, off, e, h3, fun j hj => by rw [h5 j hj, he j hj]⟩
theorem FnAt.of_ints {w : World} {B n : Nat} {k : IntKind} {a : Option Addr} {zs : List Int} (h : IntsAt w B k a n zs) (h0 : 0 < n) : FnAt w B k a n (fun j => zs.getD j 0) := by
  obtain ⟨b, off, e, h1, h2, h3⟩ := h.2.resolve_left (by omega)
  exact ⟨b, off, e, h1, h3⟩

theorem info_i32 : (Try.prog.info? 21).map (fun i => (i.zero, i.size, i.bytes)) = some (some (.int .i32 0), 1, 4) := by kernel_rfl

/-- The cosine, read alone. -/
theorem circCos_same (g : Nat) (i : Int) (w : World) (hg : CircAt w g) (hi : -9223372036854775808 ≤ i) (hi' : i ≤ 9223372036854775807) :
    Calls Try.prog 56 #[.pointer (some ⟨g, 0, none⟩), .int .i64 i] w fun e w' => e = .returned (.int .i32 (cosP i)) ∧ w = w' := by
  have HG := Lib.hid hg; clear hg
  rw [cosP_q]
  obtain ⟨P, n, h, hP, hn, hc⟩ := circle_in i
  have hcell := HG.out.cell (j := n) (by omega)
  obtain ⟨x0, x1⟩ := cosN_bd (i := n) (by omega)
  have hand : bits .and .i64 i 4095 = (P : Int) := by rw [i64_and4095]; exact h
  clear h
  rcases hc with ⟨a1, a2, e⟩ | ⟨a1, a2, a3, e⟩ | ⟨a1, a2, a3, e⟩ | ⟨a1, a2, e⟩
  all_goals
    rw [e]
    clear e
    generalize cosN n = x at hcell x0 x1 ⊢
    try subst a2
    go_enter Try.func56, Try.ntmps56
    go_wp2
    all_goals (go_ret; exact ⟨rfl, rfl⟩)

/-! ### A transform -/
/-- Block g is a transform of n lines; its circle lies in block c. -/
def TrAt (w : World) (g c n : Nat) : Prop := Cel w g 78 #[.pointer (some ⟨c, 0, none⟩), .int .i64 n] ∧ CircAt w c
theorem TrAt.below {w w' : World} {g c n B : Nat} (h : TrAt w g c n) (hb : Below B w w') (hB : w.heap.size ≤ B) : TrAt w' g c n :=
  ⟨h.1.keep (hb.block g (by have := h.1.lt; omega)), h.2.keep (hb.block c (by have := h.2.lt; omega))⟩
theorem TrAt.cells {w : World} {g c n : Nat} (h : TrAt w g c n) : w.cell? ⟨g, 0, none⟩ = some (.pointer (some ⟨c, 0, none⟩)) ∧ w.cell? ⟨g, 1, none⟩ = some (.int .i64 n) :=
  ⟨by rw [h.1.cell 0]; rfl, by rw [h.1.cell 1]; rfl⟩
/-- A new transform, or why not. -/
def LapNewPost (n c : Nat) (w : World) (x : Ending) (w' : World) : Prop :=
  ∃ g, x = .returned (.tuple #[.pointer (some ⟨g, 0, none⟩), .int .i64 0]) ∧ TrAt w' g c n ∧ Below w.heap.size w w'
theorem lapNew_any (n c : Nat) (w : World) (hn : n = 128 ∨ n = 512) (hc : CircAt w c) :
    Calls Try.prog 30 #[.int .i64 n, .pointer (some ⟨c, 0, none⟩)] w (LapNewPost n c w) := by
  have HT : RowKit.Hid (TrAt (w.alloc (.cells #[.pointer (some ⟨c, 0, none⟩), .int .i64 n] 78)) w.heap.size c n ∧ Below w.heap.size w (w.alloc (.cells #[.pointer (some ⟨c, 0, none⟩), .int .i64 n] 78))) :=
    ⟨⟨Cel.new w _ _, hc.keep (Below.heap_alloc w _ c hc.lt)⟩, Below.alloc_new w _⟩
  rcases hn with rfl | rfl
  all_goals
    go_enter Try.func30, Try.ntmps30
    go_wp2
    go_ret2
    exact ⟨_, rfl, HT.out.1, HT.out.2⟩
theorem lapNew_nil (n : Int) (w : World) (hn : -9223372036854775808 ≤ n) (hn' : n ≤ 9223372036854775807) :
    Calls Try.prog 30 #[.int .i64 n, .pointer none] w fun e w' => e = .returned (.tuple #[.pointer none, .int .i64 1]) ∧ w = w' := by
  by_cases h1 : n = 128
  · subst h1
    go_enter Try.func30, Try.ntmps30
    go_wp2
    go_ret2
    exact ⟨rfl, rfl⟩
  · by_cases h2 : n = 512
    · subst h2
      go_enter Try.func30, Try.ntmps30
      go_wp2
      go_ret2
      exact ⟨rfl, rfl⟩
    · go_enter Try.func30, Try.ntmps30
      go_wp2
      go_ret2
      exact ⟨rfl, rfl⟩
theorem lapNew_out (n : Int) (c : Nat) (w : World) (hn : -9223372036854775808 ≤ n) (hn' : n ≤ 9223372036854775807) (h1 : n ≠ 128) (h2 : n ≠ 512) :
    Calls Try.prog 30 #[.int .i64 n, .pointer (some ⟨c, 0, none⟩)] w fun e w' => e = .returned (.tuple #[.pointer none, .int .i64 1]) ∧ w = w' := by
  go_enter Try.func30, Try.ntmps30
  go_wp2
  go_ret2
  exact ⟨rfl, rfl⟩
theorem lapMade_any (g c n : Nat) (w : World) (hT : TrAt w g c n) (hn : n = 128 ∨ n = 512) :
    Calls Try.prog 47 #[.pointer (some ⟨g, 0, none⟩)] w fun e w' => e = .returned (.bool true) ∧ w = w' := by
  have c1 := hT.cells.2
  clear hT
  rcases hn with rfl | rfl
  all_goals
    go_enter Try.func47, Try.ntmps47
    go_wp2
    go_ret
    exact ⟨rfl, rfl⟩
theorem lapMade_nil (w : World) :
    Calls Try.prog 47 #[.pointer none] w fun e w' => e = .returned (.bool false) ∧ w = w' := by
  go_enter Try.func47, Try.ntmps47
  go_wp2
  go_ret
  exact ⟨rfl, rfl⟩
theorem lapLoss_any (g c n : Nat) (w : World) (hT : TrAt w g c n) (hn : n = 128 ∨ n = 512) :
    Calls Try.prog 58 #[.pointer (some ⟨g, 0, none⟩)] w fun e w' => e = .returned (.int .i64 (lossN n)) ∧ w = w' := by
  have c1 := hT.cells.2
  clear hT
  rcases hn with rfl | rfl
  all_goals
    go_enter Try.func58, Try.ntmps58
    go_wp2
    go_ret
    exact ⟨rfl, rfl⟩

/-! ### Whether numbers fit -/
theorem lapFit_len (a : Option Addr) (len cap : Nat) (count wide : Int) (w : World) (hl : len ≤ 9223372036854775807) (hc : (len : Int) ≠ count) :
    Calls Try.prog 48 #[.slice a len cap, .int .i64 count, .int .i64 wide] w fun e w' => e = .returned (.bool false) ∧ w = w' := by
  go_enter Try.func48, Try.ntmps48
  go_wp2
  go_ret
  exact ⟨rfl, rfl⟩
set_option maxRecDepth 100000 in
theorem lapFit_yes (a : Option Addr) (n cap : Nat) (wide : Int) (f : Nat → Int) (w : World) (hf : FnAt w w.heap.size .i32 a n f) (hl : n ≤ 1000000) (hb : ∀ j, j < n → -2147483648 ≤ f j ∧ f j ≤ 2147483647) (hy : ∀ j, j < n → satP (f j) wide = f j) :
    Calls Try.prog 48 #[.slice a n cap, .int .i64 n, .int .i64 wide] w fun e w' => e = .returned (.bool true) ∧ w = w' := by
  obtain ⟨b, off, rfl, _, hc⟩ := hf
  have HC := Lib.hid hc
  have HB := Lib.hid hb
  have HY := Lib.hid hy
  clear hc hb hy
  go_enter Try.func48, Try.ntmps48
  go_wp2
  go_loop [15] (fun i => ∃ k : Nat, k ≤ n ∧ i = .int .i64 (k : Int)) (fun i => n - (intOf i).toNat)
  case atStart => exact ⟨0, by omega, rfl⟩
  case round =>
    obtain ⟨k, hk, rfl⟩ := hrel
    by_cases hlt : k < n
    · have hcell := HC.out k hlt
      obtain ⟨b0, b1⟩ := HB.out k hlt
      have E := Lib.hid (HY.out k hlt)
      generalize f k = x at hcell b0 b1 E
      go_wp2_with (first | (go_at_call 41; refine (wide32_any x _ b0 b1).mono ?_; rintro e w' ⟨rfl, rfl⟩) | (go_at_call 39; refine (sat_any x wide _ (by omega) (by omega)).mono ?_; rintro e w' ⟨rfl, rfl⟩; rw [E.out]))
      go_round
      case rel => exact ⟨k + 1, by omega, by go_num⟩
      case measure => simp [intOf]; omega
    · go_wp2
      go_ret
      exact ⟨rfl, rfl⟩
set_option maxRecDepth 100000 in
theorem lapFit_no (a : Option Addr) (n cap q : Nat) (wide : Int) (f : Nat → Int) (w : World) (hf : FnAt w w.heap.size .i32 a n f) (hl : n ≤ 1000000) (hb : ∀ j, j < n → -2147483648 ≤ f j ∧ f j ≤ 2147483647) (hq : q < n) (hno : satP (f q) wide ≠ f q) :
    Calls Try.prog 48 #[.slice a n cap, .int .i64 n, .int .i64 wide] w fun e w' => e = .returned (.bool false) ∧ w = w' := by
  obtain ⟨b, off, rfl, _, hc⟩ := hf
  have HC := Lib.hid hc
  have HB := Lib.hid hb
  have HN := Lib.hid hno
  clear hc hb hno
  go_enter Try.func48, Try.ntmps48
  go_wp2
  go_loop [15] (fun i => ∃ k : Nat, k ≤ q ∧ i = .int .i64 (k : Int)) (fun i => n - (intOf i).toNat)
  case atStart => exact ⟨0, by omega, rfl⟩
  case round =>
    obtain ⟨k, hk, rfl⟩ := hrel
    have hlt : k < n := by omega
    have hcell := HC.out k hlt
    obtain ⟨b0, b1⟩ := HB.out k hlt
    by_cases hs : satP (f k) wide = f k
    · have hkq : k < q := by
        rcases Nat.lt_or_ge k q with h | h
        · exact h
        · exact absurd (show satP (f q) wide = f q by rw [show q = k by omega]; exact hs) HN.out
      have E := Lib.hid hs
      clear hs
      generalize f k = x at hcell b0 b1 E
      go_wp2_with (first | (go_at_call 41; refine (wide32_any x _ b0 b1).mono ?_; rintro e w' ⟨rfl, rfl⟩) | (go_at_call 39; refine (sat_any x wide _ (by omega) (by omega)).mono ?_; rintro e w' ⟨rfl, rfl⟩; rw [E.out]))
      go_round
      case rel => exact ⟨k + 1, by omega, by go_num⟩
      case measure => simp [intOf]; omega
    · obtain ⟨z, hz⟩ : ∃ z, satP (f k) wide = z := ⟨_, rfl⟩
      rw [hz] at hs
      have E := Lib.hid hz
      clear hz
      generalize f k = x at hcell b0 b1 E hs
      go_wp2_with (first | (go_at_call 41; refine (wide32_any x _ b0 b1).mono ?_; rintro e w' ⟨rfl, rfl⟩) | (go_at_call 39; refine (sat_any x wide _ (by omega) (by omega)).mono ?_; rintro e w' ⟨rfl, rfl⟩; rw [E.out]))
      go_ret
      exact ⟨rfl, rfl⟩

/-! ### A sum of cosines -/
set_option maxRecDepth 100000 in
theorem lapWeigh_any (g c n cap k : Nat) (a : Option Addr) (u : Nat → Int) (U : Int) (w : World) (hT : TrAt w g c n) (hn : n = 128 ∨ n = 512) (hk : k < n) (hu : FnAt w w.heap.size .i32 a n u) (hb : ∀ j, j < n → -33554432 ≤ u j ∧ u j ≤ 33554432) (hU : U = ((2 * k + 1) * (512 / n) : Nat)) :
    Calls Try.prog 57 #[.pointer (some ⟨g, 0, none⟩), .slice a n cap, .int .i64 U] w fun e w' => e = .returned (.int .i64 (dotF n u k)) ∧ w = w' := by
  obtain ⟨b, off, rfl, _, hc⟩ := hu
  have HC := Lib.hid hc
  have HB := Lib.hid hb
  have HG := Lib.hid hT.2
  have c0 := hT.cells.1
  clear hc hb hT
  obtain ⟨V, hV⟩ : ∃ V, V = (2 * k + 1) * (512 / n) := ⟨_, rfl⟩
  rw [← hV] at hU
  have hV1 : V ≤ 1023 := by rcases hn with rfl | rfl <;> omega
  have hn2 : n ≤ 512 := by omega
  have HA : RowKit.Hid (∀ q, cosA n q k = cosP (((2 * q + 1) * V : Nat) : Int)) := by intro q; unfold cosA; rw [hV, Nat.mul_assoc]
  have HD : RowKit.Hid (dotF n u k = sumF (fun j => u j * cosA n j k) n) := rfl
  subst hU
  clear hV hn hk
  go_enter Try.func57, Try.ntmps57
  go_wp2
  go_loop [7, 8, 14] (fun s t i => ∃ q A : Nat, q ≤ n ∧ A ≤ 1023 + 2046 * q ∧ i = .int .i64 (q : Int) ∧ t = .int .i64 (A : Int) ∧ RowKit.Hid (A = (2 * q + 1) * V) ∧ s = .int .i64 (sumF (fun j => u j * cosA n j k) q)) (fun _ _ i => n - (intOf i).toNat)
  case atStart => exact ⟨0, V, by omega, by omega, rfl, rfl, by show V = _; omega, rfl⟩
  case round =>
    obtain ⟨q, A, hq, hA, rfl, rfl, HQ, rfl⟩ := hrel
    by_cases hlt : q < n
    · have hcell := HC.out q hlt
      obtain ⟨b0, b1⟩ := HB.out q hlt
      have hs := sumF_abs (f := fun j => u j * cosA n j k) (n := q) (B := 33554432 * 16777216) fun j hj => mul_abs (by have := HB.out j (by omega); omega) (cosA_abs n j k)
      have E : RowKit.Hid (sumF (fun j => u j * cosA n j k) (q + 1) = sumF (fun j => u j * cosA n j k) q + u q * cosP (A : Int)) := by
        show _ = _
        rw [sumF_succ, HA.out, HQ.out]
      have HN : RowKit.Hid (A + 2 * V = (2 * (q + 1) + 1) * V) := by
        show _ = _
        rw [HQ.out, ← Nat.add_mul]; congr 1
      have hx := cosP_bd (A : Int)
      have hp : (u q * cosP (A : Int)).natAbs ≤ 33554432 * 16777216 := mul_abs (by omega) (cosP_abs _)
      have HX : RowKit.Hid (Calls Try.prog 56 #[.pointer (some ⟨c, 0, none⟩), .int .i64 (A : Int)] w fun e w' => e = .returned (.int .i32 (cosP (A : Int))) ∧ w = w') := circCos_same c (A : Int) w HG.out (by omega) (by omega)
      generalize sumF (fun j => u j * cosA n j k) q = s at hs E
      generalize u q = y at hcell b0 b1 E hp
      generalize cosP (A : Int) = x at hx E hp HX
      obtain ⟨x0, x1⟩ := hx
      have p0 : -562949953421312 ≤ y * x := by omega
      have p1 : y * x ≤ 562949953421312 := by omega
      have s0 : -288230376151711744 ≤ s := by omega
      have s1 : s ≤ 288230376151711744 := by omega
      clear hp hs
      go_wp2_with (go_at_call 56; refine (HX.out).mono ?_; rintro e w' ⟨rfl, rfl⟩)
      go_round
      case rel => exact ⟨q + 1, A + 2 * V, by omega, by omega, by go_num, by go_num, HN.out, by rw [E.out]⟩
      case measure => simp [intOf]; omega
    · obtain rfl : q = n := by omega
      go_wp2
      go_ret
      exact ⟨ret_int HD.out.symm, rfl⟩
end Go.Proofs.Ytgebnaeebdeoeaa
