/- What the document's answers for layer 4 give, by the table: a cosine, a place of a slope. -/
import Derived.Test.YtgebnaeebdeoeaaBandR
import Derived.Test.YtgebnaeebdeoeaaMemA
namespace Go.Proofs.Ytgebnaeebdeoeaa
open Go.RowKit
set_option linter.unusedVariables false

theorem tmod_circle (i : Int) : (0 ≤ i.tmod 4096 ∧ i.tmod 4096 = i % 4096) ∨ (i.tmod 4096 < 0 ∧ i.tmod 4096 = i % 4096 - 4096) := by
  rcases Int.lt_or_le i 0 with h | h
  · have e : i.tmod 4096 = -((-i) % 4096) := by
      have : i = -(-i) := by omega
      rw [this, Int.neg_tmod, Int.neg_neg, Int.tmod_eq_emod_of_nonneg (by omega)]
    rw [e]
    by_cases h0 : (-i) % 4096 = 0
    · exact .inl ⟨by omega, by omega⟩
    · exact .inr ⟨by omega, by omega⟩
  · have e : i.tmod 4096 = i % 4096 := Int.tmod_eq_emod_of_nonneg h
    rw [e]
    exact .inl ⟨by omega, rfl⟩

/-- A place of the circle, and where its cosine stands in the table. -/
theorem circle_in (i : Int) : ∃ P n : Nat, i % 4096 = P ∧ P < 4096 ∧ n ≤ 1024 ∧
    ((P ≤ 1024 ∧ P = n ∧ cosQ i = cosN n) ∨ (1024 < P ∧ P ≤ 2048 ∧ 2048 - P = n ∧ cosQ i = -(cosN n)) ∨ (2048 < P ∧ P < 3072 ∧ 2048 - (4096 - P) = n ∧ cosQ i = -(cosN n)) ∨ (3072 ≤ P ∧ 4096 - P = n ∧ cosQ i = cosN n)) := by
  rcases circle_at i with ⟨n, h, l⟩ | ⟨n, h, l⟩ | ⟨n, h, l0, l⟩ | ⟨n, h, l0, l⟩
  · exact ⟨n, n, h, by omega, l, .inl ⟨l, rfl, cosQ_in h l⟩⟩
  · exact ⟨2048 - n, n, by omega, by omega, by omega, .inr (.inl ⟨by omega, by omega, by omega, cosQ_2 h l⟩)⟩
  · exact ⟨2048 + n, n, by omega, by omega, by omega, .inr (.inr (.inl ⟨by omega, by omega, by omega, cosQ_3 h l0 l⟩))⟩
  · exact ⟨4096 - n, n, by omega, by omega, by omega, .inr (.inr (.inr ⟨by omega, by omega, cosQ_4 h l0 l⟩))⟩

/-- The document's cosine. -/
theorem ref04Cos_any (g : Nat) (i : Int) (w : World) (hg : IFun w g 2 .i64 1025 cosN) (hi : -9223372036854775808 ≤ i) (hi' : i ≤ 9223372036854775807) :
    Calls Try.prog 51 #[.slice (some ⟨g, 0, none⟩) 1025 1025, .int .i64 i] w fun e w' => e = .returned (.int .i64 (cosP i)) ∧ w = w' := by
  have HG := Lib.hid hg; clear hg
  rw [cosP_q]
  obtain ⟨P, n, h, hP, hn, hc⟩ := circle_in i
  have hcell := HG.out.cell (j := n) (by omega)
  obtain ⟨x0, x1⟩ := cosN_bd (i := n) (by omega)
  have back : (P : Int) - 4096 + 4096 = (P : Int) := by omega
  rcases hc with ⟨a1, a2, e⟩ | ⟨a1, a2, a3, e⟩ | ⟨a1, a2, a3, e⟩ | ⟨a1, a2, e⟩
  all_goals
    rw [e]
    clear e
    generalize cosN n = x at hcell x0 x1 ⊢
    rcases tmod_circle i with ⟨ht0, ht⟩ | ⟨ht0, ht⟩
    all_goals
      rw [h] at ht
      clear ht0 h
      try subst a2
      go_enter Try.func51, Try.ntmps51
      go_wp2
      go_ret
      exact ⟨rfl, rfl⟩

theorem ref04Rise_any (g : Nat) (i : Int) (w : World) (hg : IFun w g 2 .i64 1025 cosN) (hi : -9223372036854775808 ≤ i) (hi' : i ≤ 9223372036854775807) :
    Calls Try.prog 34 #[.slice (some ⟨g, 0, none⟩) 1025 1025, .int .i64 i] w fun e w' => e = .returned (.int .i64 (riseP i)) ∧ w = w' := by
  have HG := Lib.hid hg; clear hg
  by_cases h0 : i < 0
  · rw [riseP_neg h0]
    go_enter Try.func34, Try.ntmps34
    go_wp2
    go_ret
    exact ⟨rfl, rfl⟩
  · by_cases h1 : 128 ≤ i
    · rw [riseP_big h1]
      go_enter Try.func34, Try.ntmps34
      go_wp2
      go_ret
      exact ⟨rfl, rfl⟩
    · rw [riseP_in (by omega) (by omega)]
      go_enter Try.func34, Try.ntmps34
      go_wp2_with (go_at_call 51; refine (ref04Cos_any g _ _ HG.out (by omega) (by omega)).mono ?_; rintro e w' ⟨rfl, rfl⟩)
      go_ret
      exact ⟨rfl, rfl⟩

/-! ### Edges -/
def edgesL : List Int := [0, 4, 8, 12, 16, 20, 24, 28, 32, 40, 48, 56, 64, 80, 96, 112, 128, 160, 192, 256, 352, 512]
def edgeN (k : Nat) : Int := edgesL.getD k 0
theorem edge_bd : ∀ k : Nat, k < 22 → 0 ≤ edgeN k ∧ edgeN k ≤ 512 := by decide
theorem edge_take : ∀ k : Nat, k < 21 → edgesL.take (k + 1 + 1) = edgesL.take (k + 1) ++ [edgeN (k + 1)] := by decide
theorem edge_4 : ∀ k : Nat, k < 8 → edgeN (k + 1) = edgeN k + 4 := by decide
theorem edge_8 : ∀ k : Nat, 8 ≤ k → k < 12 → edgeN (k + 1) = edgeN k + 8 := by
  intro k h0 h1
  have : k = 8 ∨ k = 9 ∨ k = 10 ∨ k = 11 := by omega
  rcases this with rfl | rfl | rfl | rfl <;> decide
theorem edge_16 : ∀ k : Nat, 12 ≤ k → k < 16 → edgeN (k + 1) = edgeN k + 16 := by
  intro k h0 h1
  have : k = 12 ∨ k = 13 ∨ k = 14 ∨ k = 15 := by omega
  rcases this with rfl | rfl | rfl | rfl <;> decide
theorem edge_32 : ∀ k : Nat, 16 ≤ k → k < 18 → edgeN (k + 1) = edgeN k + 32 := by
  intro k h0 h1
  have : k = 16 ∨ k = 17 := by omega
  rcases this with rfl | rfl <;> decide
theorem edge_last : edgeN 19 = edgeN 18 + 64 ∧ edgeN 20 = edgeN 19 + 96 ∧ edgeN 21 = edgeN 20 + 160 := by decide

/-- The band of a line. -/
noncomputable def ofP (line : Int) : Int := hideI (if line < 0 ∨ 512 ≤ line then -1 else ((edgesL.filter fun e => decide (e ≤ line)).length : Int) - 1)
def ofN (n : Nat) : Nat := (edgesL.filter fun e => decide (e ≤ (n : Int))).length - 1
theorem ofN_all : ∀ n : Nat, n < 512 → 1 ≤ (edgesL.filter fun e => decide (e ≤ (n : Int))).length ∧ ofN n < 21 ∧ edgeN (ofN n) ≤ n ∧ (n : Int) < edgeN (ofN n + 1) := by decide +kernel
theorem of_in {x : Int} (h0 : 0 ≤ x) (h1 : x < 512) : ∃ b : Nat, b < 21 ∧ ofP x = b ∧ edgeN b ≤ x ∧ x < edgeN (b + 1) := by
  obtain ⟨n, rfl⟩ : ∃ n : Nat, x = n := ⟨x.toNat, by omega⟩
  obtain ⟨a, b, c, d⟩ := ofN_all n (by omega)
  refine ⟨ofN n, b, ?_, c, d⟩
  unfold ofP
  rw [hideI_eq, if_neg (by omega)]
  unfold ofN
  omega
theorem of_out {x : Int} (h : x < 0 ∨ 512 ≤ x) : ofP x = -1 := by unfold ofP; rw [hideI_eq, if_pos h]
theorem info_int04 : (Try.prog.info? 3).map (fun i => (i.zero, i.size, i.bytes)) = some (some (.int .i64 0), 1, 8) := by kernel_rfl

end Go.Proofs.Ytgebnaeebdeoeaa
