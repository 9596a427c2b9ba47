/- What the library's Concat of two slices of bytes gives, and Grow, which it calls. -/
import Derived.Test.YtcjikbddnceigaaPktK
import Derived.Test.YtcjikbddnceigaaMemZ
namespace Go.Proofs.Ytcjikbddnceigaa
open Go.RowKit
set_option linter.unusedVariables false
set_option linter.unusedSimpArgs false

theorem own_zero {w : World} {base e size n m cap : Nat} {a : Option Addr} {xs : List Value} (h : w.ownsRow base e size (.slice a m cap) n xs) : w.ownsRow base e size (.slice a 0 cap) 0 [] := by
  refine ⟨by simp, ?_⟩
  rcases h.2 with ⟨e, hn⟩ | ⟨g, c, cur, e, h2, h3, h4, h5, h6, _⟩
  · injection e with e1 e2 e3
    subst e1
    subst e3
    exact .inl ⟨rfl, rfl⟩
  · injection e with e1 e2 e3
    subst e1
    subst e3
    exact .inr ⟨g, cap, cur, rfl, h2, h3, by omega, h5, h6, by simp⟩
set_option maxRecDepth 100000 in
set_option maxHeartbeats 1000000 in
theorem grow_any (n : Nat) (w : World) (hn : n ≤ 2000000) :
    Calls Try.prog 31 #[.slice none 0 0, .int .i64 (n : Int)] w fun e w' => ∃ v, e = .returned v ∧ w'.ownsRow w.heap.size 5 1 v ([] : List Int).length (([] : List Int).map (Value.int .u8)) ∧ Below w.heap.size w w' := by
  have HO := Lib.hid (World.ownsRow_nil w w.heap.size 5 1)
  have e1 : IntKind.i64.wrap ((n : Int) - 0) = (n : Int) := by rw [Int.sub_zero]; exact IntWalk.i64_in _ (by omega)
  by_cases h0 : n = 0
  · subst h0
    go_enter Try.func31, Try.ntmps31
    go_wp2
    go_ret
    exact ⟨_, rfl, HO.out, Below.refl _ _⟩
  · have q : decide ((0 : Int) < (n : Int)) = true := by simp; omega
    go_enter Try.func31, Try.ntmps31
    go_wp2_with (at_builtin; go_loud (refine append_noughts rfl _ _ 23 3 rfl w.heap.size 5 .u8 1 Try.underlying23 Try.underlying3 info19_u8 _ 0 [] rfl HO.out n _ rfl rfl (by unfold maxLen; omega) (by omega) (Nat.le_refl _) ?_); intro v2 w2 hown hg; obtain ⟨a2, m2, c2, rfl, hm2⟩ := own_form_m hown; have HB := Lib.hid ((Below.refl w.heap.size w).grown hg (Nat.le_refl _) (fun j e => own_base HO.out j e)); have HM := Lib.hid hm2; have HO2 := Lib.hid hown; clear hown hg hm2)
    go_ret
    exact ⟨_, rfl, own_zero HO2.out, HB.out⟩

/-- What has come behind k of two. -/
def conK (b1 b2 : List Int) : Nat → List Int
  | 0 => []
  | 1 => b1
  | _ => b1 ++ b2
set_option maxRecDepth 100000 in
set_option maxHeartbeats 2000000 in
theorem concat_any (g n1 c1 n2 c2 : Nat) (a1 a2 : Option Addr) (b1 b2 : List Int) (w : World) (h1 : ByL w a1 n1 c1 b1) (h2 : ByL w a2 n2 c2 b2) (k0 : w.cell? ⟨g, 0, none⟩ = some (.slice a1 n1 c1)) (k1 : w.cell? ⟨g, 1, none⟩ = some (.slice a2 n2 c2)) (hl1 : n1 ≤ 1000000) (hl2 : n2 ≤ 1000000) :
    Calls Try.prog 25 #[.slice (some ⟨g, 0, none⟩) 2 2] w (OwnPost (b1 ++ b2) w) := by
  have H1 := Lib.hid h1
  have H2 := Lib.hid h2
  have HL : RowKit.Hid (b1.length = n1 ∧ b2.length = n2) := ⟨h1.len, h2.len⟩
  have HK : RowKit.Hid (w.cell? ⟨g, 0, none⟩ = some (.slice a1 n1 c1) ∧ w.cell? ⟨g, 1, none⟩ = some (.slice a2 n2 c2)) := ⟨k0, k1⟩
  have hgl := cell_block k0
  simp only at hgl
  clear h1 h2
  have e1 : IntKind.i64.wrap (0 + (n1 : Int)) = (n1 : Int) := by rw [Int.zero_add]; exact IntWalk.i64_in _ (by omega)
  have e2 : IntKind.i64.wrap ((n1 : Int) + (n2 : Int)) = (n1 : Int) + (n2 : Int) := IntWalk.i64_in _ (by omega)
  have q1 : decide ((n1 : Int) < 0) = false := by simp
  have q2 : decide ((n1 : Int) + (n2 : Int) < 0) = false := by simp; omega
  go_enter Try.func25, Try.ntmps25
  go_wp2
  go_loop [3, 11] (fun s i => (i = .int .i64 0 ∧ s = .int .i64 0) ∨ (i = .int .i64 1 ∧ s = .int .i64 (n1 : Int)) ∨ (i = .int .i64 2 ∧ s = .int .i64 ((n1 : Int) + (n2 : Int)))) (fun _ i => 2 - (intOf i).toNat)
  case atStart => exact .inl ⟨rfl, rfl⟩
  case round =>
    rcases hrel with ⟨rfl, rfl⟩ | ⟨rfl, rfl⟩ | ⟨rfl, rfl⟩
    · go_wp2
      go_round
      case rel => exact .inr (.inl ⟨rfl, rfl⟩)
      case measure => simp [intOf] <;> omega
    · go_wp2
      go_round
      case rel => exact .inr (.inr ⟨rfl, rfl⟩)
      case measure => simp [intOf] <;> omega
    · obtain ⟨N, hN⟩ : ∃ N, n1 + n2 = N := ⟨_, rfl⟩
      have en : ((n1 : Int) + (n2 : Int)) = (N : Int) := by omega
      have HN := Lib.hid hN
      rw [en] at q2 ⊢
      clear k0 k1 e1 q1 e2 en hN
      have hN2 : N ≤ 2000000 := by rw [← HN.out]; omega
      go_wp2_with (go_at_call 31; go_loud (refine (grow_any N w hN2).mono ?_); rintro e w2 ⟨v2, rfl, ho, hb⟩; have HO := Lib.hid ho; have HB := Lib.hid hb; clear ho hb)
      go_loopw [6, 27] (fun v i wr => ∃ k : Nat, k ≤ 2 ∧ i = .int .i64 k ∧ RowKit.Hid (wr.ownsRow w.heap.size 5 1 v (conK b1 b2 k).length ((conK b1 b2 k).map (Value.int .u8)) ∧ Below w.heap.size w wr)) (fun _ i _ => 2 - (intOf i).toNat)
      case atStart => exact ⟨0, by omega, rfl, HO.out, HB.out⟩
      case round =>
        obtain ⟨k, hk, rfl, H⟩ := hrel
        clear HO HB
        have : k = 0 ∨ k = 1 ∨ k = 2 := by omega
        rcases this with rfl | rfl | rfl
        · have k0 := (H.out.2.cell (p := ⟨g, 0, none⟩) hgl).trans HK.out.1
          go_wp2_with (at_builtin; go_loud (refine append_ints rfl _ _ 23 rfl w.heap.size 5 .u8 1 Try.underlying23 info19_u8 _ _ _ rfl H.out.1 a1 n1 c1 w.heap.size b1 rfl (H1.out.hi.below H.out.2) H1.out.ha (by unfold maxLen; simp [conK]; omega) (by simp [conK]; omega) H.out.2.size ?_); intro v6 w6 ho hg6 _; have H6 : RowKit.Hid (w6.ownsRow w.heap.size 5 1 v6 (conK b1 b2 1).length ((conK b1 b2 1).map (Value.int .u8)) ∧ Below w.heap.size w w6) := ⟨by rw [← HL.out.1] at ho; exact own_cast (own_app ho) rfl, H.out.2.grown hg6 H.out.2.size fun j e => own_base H.out.1 j e⟩; clear ho hg6)
          go_roundw
          case rel => exact ⟨1, by omega, rfl, H6.out⟩
          case measure => simp [intOf] <;> omega
        · have k1 := (H.out.2.cell (p := ⟨g, 1, none⟩) hgl).trans HK.out.2
          go_wp2_with (at_builtin; go_loud (refine append_ints rfl _ _ 23 rfl w.heap.size 5 .u8 1 Try.underlying23 info19_u8 _ _ _ rfl H.out.1 a2 n2 c2 w.heap.size b2 rfl (H2.out.hi.below H.out.2) H2.out.ha (by unfold maxLen; show b1.length + n2 ≤ _; rw [HL.out.1]; omega) (by show (b1.length + n2) * 1 ≤ _; rw [HL.out.1]; omega) H.out.2.size ?_); intro v6 w6 ho hg6 _; have H6 : RowKit.Hid (w6.ownsRow w.heap.size 5 1 v6 (conK b1 b2 2).length ((conK b1 b2 2).map (Value.int .u8)) ∧ Below w.heap.size w w6) := ⟨by rw [← HL.out.2] at ho; exact own_cast (own_app ho) rfl, H.out.2.grown hg6 H.out.2.size fun j e => own_base H.out.1 j e⟩; clear ho hg6)
          go_roundw
          case rel => exact ⟨2, by omega, rfl, H6.out⟩
          case measure => simp [intOf] <;> omega
        · go_wp2
          go_ret
          exact ⟨_, rfl, H.out.1, H.out.2⟩
end Go.Proofs.Ytcjikbddnceigaa
