/- What the document's answers for layer 4 give, by the table: a cosine, a place of a slope. -/
import Derived.Test.YtgjmpjfcnibgmaaBandR
import Derived.Test.YtgjmpjfcnibgmaaMemA
namespace Go.Proofs.Ytgjmpjfcnibgmaa
open Go.RowKit
set_option linter.unusedVariables false

theorem tmod_circle (i : Int) : (0 ≤ i.tmod 4096 ∧ i.tmod 4096 = i % 4096) ∨ (i.tmod 4096 < 0 ∧ i.tmod 4096 = i % 4096 - 4096) := by
  rcases Int.lt_or_le i 0 with h | h
  · have e : i.tmod 4096 = -((-i) % 4096) := by
      have : i = -(-i) := by omega
      rw [this, Int.neg_tmod, Int.neg_neg, Int.tmod_eq_emod_of_nonneg (by omega)]
    rw [e]
    by_cases h0 : (-i) % 4096 = 0
    · exact .inl ⟨by omega, by omega⟩
    · exact .inr ⟨by omega, by omega⟩
  · have e : i.tmod 4096 = i % 4096 := Int.tmod_eq_emod_of_nonneg h
    rw [e]
    exact .inl ⟨by omega, rfl⟩

/-- A place of the circle, and where its cosine stands in the table. -/
theorem circle_in (i : Int) : ∃ P n : Nat, i % 4096 = P ∧ P < 4096 ∧ n ≤ 1024 ∧
    ((P ≤ 1024 ∧ P = n ∧ cosQ i = cosN n) ∨ (1024 < P ∧ P ≤ 2048 ∧ 2048 - P = n ∧ cosQ i = -(cosN n)) ∨ (2048 < P ∧ P < 3072 ∧ 2048 - (4096 - P) = n ∧ cosQ i = -(cosN n)) ∨ (3072 ≤ P ∧ 4096 - P = n ∧ cosQ i = cosN n)) := by
  rcases circle_at i with ⟨n, h, l⟩ | ⟨n, h, l⟩ | ⟨n, h, l0, l⟩ | ⟨n, h, l0, l⟩
  · exact ⟨n, n, h, by omega, l, .inl ⟨l, rfl, cosQ_in h l⟩⟩
  · exact ⟨2048 - n, n, by omega, by omega, by omega, .inr (.inl ⟨by omega, by omega, by omega, cosQ_2 h l⟩)⟩
  · exact ⟨2048 + n, n, by omega, by omega, by omega, .inr (.inr (.inl ⟨by omega, by omega, by omega, cosQ_3 h l0 l⟩))⟩
  · exact ⟨4096 - n, n, by omega, by omega, by omega, .inr (.inr (.inr ⟨by omega, by omega, cosQ_4 h l0 l⟩))⟩

/-! ### Edges -/
def edgesL : List Int := [0, 4, 8, 12, 16, 20, 24, 28, 32, 40, 48, 56, 64, 80, 96, 112, 128, 160, 192, 256, 352, 512]
def edgeN (k : Nat) : Int := edgesL.getD k 0
theorem edge_bd : ∀ k : Nat, k < 22 → 0 ≤ edgeN k ∧ edgeN k ≤ 512 := by decide
theorem edge_take : ∀ k : Nat, k < 21 → edgesL.take (k + 1 + 1) = edgesL.take (k + 1) ++ [edgeN (k + 1)] := by decide
theorem edge_4 : ∀ k : Nat, k < 8 → edgeN (k + 1) = edgeN k + 4 := by decide
theorem edge_8 : ∀ k : Nat, 8 ≤ k → k < 12 → edgeN (k + 1) = edgeN k + 8 := by
  intro k h0 h1
  have : k = 8 ∨ k = 9 ∨ k = 10 ∨ k = 11 := by omega
  rcases this with rfl | rfl | rfl | rfl <;> decide
theorem edge_16 : ∀ k : Nat, 12 ≤ k → k < 16 → edgeN (k + 1) = edgeN k + 16 := by
  intro k h0 h1
  have : k = 12 ∨ k = 13 ∨ k = 14 ∨ k = 15 := by omega
  rcases this with rfl | rfl | rfl | rfl <;> decide
theorem edge_32 : ∀ k : Nat, 16 ≤ k → k < 18 → edgeN (k + 1) = edgeN k + 32 := by
  intro k h0 h1
  have : k = 16 ∨ k = 17 := by omega
  rcases this with rfl | rfl <;> decide
theorem edge_last : edgeN 19 = edgeN 18 + 64 ∧ edgeN 20 = edgeN 19 + 96 ∧ edgeN 21 = edgeN 20 + 160 := by decide

/-- The band of a line. -/
noncomputable def ofP (line : Int) : Int := hideI (if line < 0 ∨ 512 ≤ line then -1 else ((edgesL.filter fun e => decide (e ≤ line)).length : Int) - 1)
def ofN (n : Nat) : Nat := (edgesL.filter fun e => decide (e ≤ (n : Int))).length - 1
theorem ofN_all : ∀ n : Nat, n < 512 → 1 ≤ (edgesL.filter fun e => decide (e ≤ (n : Int))).length ∧ ofN n < 21 ∧ edgeN (ofN n) ≤ n ∧ (n : Int) < edgeN (ofN n + 1) := by decide +kernel
theorem of_in {x : Int} (h0 : 0 ≤ x) (h1 : x < 512) : ∃ b : Nat, b < 21 ∧ ofP x = b ∧ edgeN b ≤ x ∧ x < edgeN (b + 1) := by
  obtain ⟨n, rfl⟩ : ∃ n : Nat, x = n := ⟨x.toNat, by omega⟩
  obtain ⟨a, b, c, d⟩ := ofN_all n (by omega)
  refine ⟨ofN n, b, ?_, c, d⟩
  unfold ofP
  rw [hideI_eq, if_neg (by omega)]
  unfold ofN
  omega
theorem of_out {x : Int} (h : x < 0 ∨ 512 ≤ x) : ofP x = -1 := by unfold ofP; rw [hideI_eq, if_pos h]
theorem info_int04 : (Try.prog.info? 3).map (fun i => (i.zero, i.size, i.bytes)) = some (some (.int .i64 0), 1, 8) := by kernel_rfl

set_option maxRecDepth 100000 in
theorem ref04Edges_any (w : World) :
    Calls Try.prog 20 #[] w fun e w' => ∃ a c, e = .returned (.slice a 22 c) ∧ IntsAt w' w'.heap.size .i64 a 22 edgesL ∧ Below w.heap.size w w' := by
  have hO := Lib.hid (World.ownsRow_lit (base := w.heap.size) (e := 3) (size := 1) w #[.int .i64 0] 1 (Nat.le_refl _) (by decide) rfl)
  have hB := Lib.hid (Below.alloc_new w (.cells #[.int .i64 0] 3))
  go_enter Try.func20, Try.ntmps20
  go_wp2
  go_loopw [1, 2, 3, 4] (fun v a i _ wr => ∃ k : Nat, k ≤ 21 ∧ i = .int .i64 k ∧ a = .int .i64 (edgeN k) ∧ RowKit.Hid (wr.ownsRow w.heap.size 3 1 v (k + 1) ((edgesL.take (k + 1)).map (Value.int .i64)) ∧ Below w.heap.size w wr))
    (fun _ _ i _ _ => (21 - intOf i).toNat)
  case atStart => exact ⟨0, by omega, rfl, rfl, hO.out, hB.out⟩
  case round =>
    obtain ⟨k, hk, rfl, rfl, H⟩ := hrel
    clear hO hB
    by_cases hlt : k < 21
    · obtain ⟨e0, e1⟩ := edge_bd k (by omega)
      have HT := Lib.hid (edge_take k hlt)
      have hsz := H.out.2.size
      have cls : ∃ d : Int, 0 ≤ d ∧ d ≤ 160 ∧ edgeN (k + 1) = edgeN k + d ∧ ((k < 8 ∧ d = 4) ∨ (8 ≤ k ∧ k < 12 ∧ d = 8) ∨ (12 ≤ k ∧ k < 16 ∧ d = 16) ∨ (16 ≤ k ∧ k < 18 ∧ d = 32) ∨ (18 ≤ k ∧ k ≤ 18 ∧ d = 64) ∨ (19 ≤ k ∧ k ≤ 19 ∧ d = 96) ∨ (20 ≤ k ∧ k ≤ 20 ∧ d = 160)) := by
        by_cases h1 : k < 8
        · exact ⟨4, by omega, by omega, edge_4 k h1, .inl ⟨h1, rfl⟩⟩
        · by_cases h2 : k < 12
          · exact ⟨8, by omega, by omega, edge_8 k (by omega) h2, .inr (.inl ⟨by omega, h2, rfl⟩)⟩
          · by_cases h3 : k < 16
            · exact ⟨16, by omega, by omega, edge_16 k (by omega) h3, .inr (.inr (.inl ⟨by omega, h3, rfl⟩))⟩
            · by_cases h4 : k < 18
              · exact ⟨32, by omega, by omega, edge_32 k (by omega) h4, .inr (.inr (.inr (.inl ⟨by omega, h4, rfl⟩)))⟩
              · have : k = 18 ∨ k = 19 ∨ k = 20 := by omega
                rcases this with rfl | rfl | rfl
                · exact ⟨64, by omega, by omega, edge_last.1, by omega⟩
                · exact ⟨96, by omega, by omega, edge_last.2.1, by omega⟩
                · exact ⟨160, by omega, by omega, edge_last.2.2, by omega⟩
      obtain ⟨d, d0, d1, hd, cls⟩ := cls
      have HD := Lib.hid hd
      clear hd
      generalize edgeN k = x at e0 e1 HD
      have hrow := Lib.hid H.out.1
      have hbel := Lib.hid (H.out.2.alloc hsz (.cells #[.int .i64 (x + d)] 3))
      have hsrc := Lib.hid (lit_ints wr 3 .i64 [x + d] #[.int .i64 (x + d)] (0, 0) rfl (by simp))
      have hown0 := Lib.hid (World.ownsRow.alloc H.out.1 (.cells #[.int .i64 (x + d)] 3))
      have hob := Lib.hid (own_base H.out.1)
      rcases cls with ⟨k0, rfl⟩ | ⟨k0, k1, rfl⟩ | ⟨k0, k1, rfl⟩ | ⟨k0, k1, rfl⟩ | ⟨k0, k1, rfl⟩ | ⟨k0, k1, rfl⟩ | ⟨k0, k1, rfl⟩
      all_goals
        go_wp2_with (at_builtin; go_loud (refine append_ints rfl _ _ 24 rfl w.heap.size 3 .i64 8 Try.underlying24 info_int04 _ (k + 1) (edgesL.take (k + 1)) rfl hown0.out (some ⟨wr.heap.size, 0, none⟩) 1 1 _ [_] rfl hsrc.out (by simp) ?c1 ?c2 ?c3 ?_))
        case c1 => unfold maxLen; omega
        case c2 => omega
        case c3 => first | omega | (simp; omega)
        intro v2 w2 hown hgrow _
        have H2 : RowKit.Hid (w2.ownsRow w.heap.size 3 1 v2 (k + 1 + 1) ((edgesL.take (k + 1 + 1)).map (Value.int .i64)) ∧ Below w.heap.size w w2) := by
          refine ⟨?_, hbel.out.grown hgrow (by simp; omega) hob.out⟩
          rw [HT.out, HD.out]; simpa [List.map_take] using hown
        clear hown hgrow
        go_wp2
        go_roundw
        case rel => exact ⟨k + 1, by omega, by go_num, by rw [HD.out], H2.out⟩
        case measure => simp [intOf] <;> omega
    · obtain rfl : k = 21 := by omega
      have HI := Lib.hid (own_ints H.out.1)
      have HB := Lib.hid H.out.2
      clear H
      go_wp2
      go_ret
      obtain ⟨a, c, rfl, hi⟩ := HI.out
      exact ⟨a, c, rfl, hi, HB.out⟩
end Go.Proofs.Ytgjmpjfcnibgmaa
