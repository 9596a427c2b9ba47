/- What the library's Concat of two slices of bytes gives; what is said: count, all, behind. -/
import Derived.Test.YtnjnfocpjmmibaaQueP
import Derived.Test.YtnjnfocpjmmibaaMemZ
import Derived.Test.YtnjnfocpjmmibaaRows
import Derived.IntWalk
import Derived.Shelf.Abstract
import Derived.Shelf.RegionOpen
import Derived.Deep.QuietTactic
import Derived.BigQuiet
namespace Go.Proofs.Ytnjnfocpjmmibaa
open Go.RowKit
set_option linter.unusedVariables false
set_option linter.unusedSimpArgs false

theorem info22_u8 : (Try.prog.info? 5).map (fun i => (i.zero, i.size, i.bytes)) = some (some (.int .u8 0), 1, 1) := by kernel_rfl
/-- Bytes in memory of the call's own. -/
def OwnPost22 (b : List Int) (w : World) (x : Ending) (w' : World) : Prop :=
  ∃ v, x = .returned v ∧ w'.ownsRow w.heap.size 5 1 v b.length (b.map (Value.int .u8)) ∧ Below w.heap.size w w'
set_option maxRecDepth 100000 in
set_option maxHeartbeats 1000000 in
theorem grow22_any (n : Nat) (w : World) (hn : n ≤ 2000000) :
    Calls Try.prog 28 #[.slice none 0 0, .int .i64 (n : Int)] w fun e w' => ∃ v, e = .returned v ∧ w'.ownsRow w.heap.size 5 1 v ([] : List Int).length (([] : List Int).map (Value.int .u8)) ∧ Below w.heap.size w w' := by
  have HO := Lib.hid (World.ownsRow_nil w w.heap.size 5 1)
  have e1 : IntKind.i64.wrap ((n : Int) - 0) = (n : Int) := by rw [Int.sub_zero]; exact IntWalk.i64_in _ (by omega)
  by_cases h0 : n = 0
  · subst h0
    go_enter Try.func28, Try.ntmps28
    go_wp2
    go_ret
    exact ⟨_, rfl, HO.out, Below.refl _ _⟩
  · have q : decide ((0 : Int) < (n : Int)) = true := by simp; omega
    go_enter Try.func28, Try.ntmps28
    go_wp2_with (at_builtin; go_loud (refine append_noughts rfl _ _ 31 3 rfl w.heap.size 5 .u8 1 Try.underlying31 Try.underlying3 info22_u8 _ 0 [] rfl HO.out n _ rfl rfl (by unfold maxLen; omega) (by omega) (Nat.le_refl _) ?_); intro v2 w2 hown hg; obtain ⟨a2, m2, c2, rfl, hm2⟩ := own_form_m hown; have HB := Lib.hid ((Below.refl w.heap.size w).grown hg (Nat.le_refl _) (fun j e => own_base HO.out j e)); have HM := Lib.hid hm2; have HO2 := Lib.hid hown; clear hown hg hm2)
    go_ret
    exact ⟨_, rfl, own_zero HO2.out, HB.out⟩

/-- What has come behind k of two. -/
def conK22 (b1 b2 : List Int) : Nat → List Int
  | 0 => []
  | 1 => b1
  | _ => b1 ++ b2
set_option maxRecDepth 100000 in
set_option maxHeartbeats 2000000 in
theorem concat22_any (g n1 c1 n2 c2 : Nat) (a1 a2 : Option Addr) (b1 b2 : List Int) (w : World) (D1 D2 : Nat → Prop) (h1 : By22 w D1 a1 n1 c1 b1) (h2 : By22 w D2 a2 n2 c2 b2) (k0 : w.cell? ⟨g, 0, none⟩ = some (.slice a1 n1 c1)) (k1 : w.cell? ⟨g, 1, none⟩ = some (.slice a2 n2 c2)) (hl1 : n1 ≤ 1000000) (hl2 : n2 ≤ 1000000) :
    Calls Try.prog 27 #[.slice (some ⟨g, 0, none⟩) 2 2] w (OwnPost22 (b1 ++ b2) w) := by
  have H1 := Lib.hid h1
  have H2 := Lib.hid h2
  have HL : RowKit.Hid (b1.length = n1 ∧ b2.length = n2) := ⟨h1.len, h2.len⟩
  have HK : RowKit.Hid (w.cell? ⟨g, 0, none⟩ = some (.slice a1 n1 c1) ∧ w.cell? ⟨g, 1, none⟩ = some (.slice a2 n2 c2)) := ⟨k0, k1⟩
  have hgl := cell_block k0
  simp only at hgl
  clear h1 h2
  have e1 : IntKind.i64.wrap (0 + (n1 : Int)) = (n1 : Int) := by rw [Int.zero_add]; exact IntWalk.i64_in _ (by omega)
  have e2 : IntKind.i64.wrap ((n1 : Int) + (n2 : Int)) = (n1 : Int) + (n2 : Int) := IntWalk.i64_in _ (by omega)
  have q1 : decide ((n1 : Int) < 0) = false := by simp
  have q2 : decide ((n1 : Int) + (n2 : Int) < 0) = false := by simp; omega
  go_enter Try.func27, Try.ntmps27
  go_wp2
  go_loop [3, 11] (fun s i => (i = .int .i64 0 ∧ s = .int .i64 0) ∨ (i = .int .i64 1 ∧ s = .int .i64 (n1 : Int)) ∨ (i = .int .i64 2 ∧ s = .int .i64 ((n1 : Int) + (n2 : Int)))) (fun _ i => 2 - (intOf i).toNat)
  case atStart => exact .inl ⟨rfl, rfl⟩
  case round =>
    rcases hrel with ⟨rfl, rfl⟩ | ⟨rfl, rfl⟩ | ⟨rfl, rfl⟩
    · go_wp2
      go_round
      case rel => exact .inr (.inl ⟨rfl, rfl⟩)
      case measure => simp [intOf] <;> omega
    · go_wp2
      go_round
      case rel => exact .inr (.inr ⟨rfl, rfl⟩)
      case measure => simp [intOf] <;> omega
    · obtain ⟨N, hN⟩ : ∃ N, n1 + n2 = N := ⟨_, rfl⟩
      have en : ((n1 : Int) + (n2 : Int)) = (N : Int) := by omega
      have HN := Lib.hid hN
      rw [en] at q2 ⊢
      clear k0 k1 e1 q1 e2 en hN
      have hN2 : N ≤ 2000000 := by rw [← HN.out]; omega
      go_wp2_with (go_at_call 28; go_loud (refine (grow22_any N w hN2).mono ?_); rintro e w2 ⟨v2, rfl, ho, hb⟩; have HO := Lib.hid ho; have HB := Lib.hid hb; clear ho hb)
      go_loopw [6, 27] (fun v i wr => ∃ k : Nat, k ≤ 2 ∧ i = .int .i64 k ∧ RowKit.Hid (wr.ownsRow w.heap.size 5 1 v (conK22 b1 b2 k).length ((conK22 b1 b2 k).map (Value.int .u8)) ∧ Below w.heap.size w wr)) (fun _ i _ => 2 - (intOf i).toNat)
      case atStart => exact ⟨0, by omega, rfl, HO.out, HB.out⟩
      case round =>
        obtain ⟨k, hk, rfl, H⟩ := hrel
        clear HO HB
        have : k = 0 ∨ k = 1 ∨ k = 2 := by omega
        rcases this with rfl | rfl | rfl
        · have k0 := (H.out.2.cell (p := ⟨g, 0, none⟩) hgl).trans HK.out.1
          go_wp2_with (at_builtin; go_loud (refine append_ints rfl _ _ 31 rfl w.heap.size 5 .u8 1 Try.underlying31 info22_u8 _ _ _ rfl H.out.1 a1 n1 c1 w.heap.size b1 rfl (H1.out.hi.below H.out.2) H1.out.hn (by unfold maxLen; simp [conK22]; omega) (by simp [conK22]; omega) H.out.2.size ?_); intro v6 w6 ho hg6 _; have H6 : RowKit.Hid (w6.ownsRow w.heap.size 5 1 v6 (conK22 b1 b2 1).length ((conK22 b1 b2 1).map (Value.int .u8)) ∧ Below w.heap.size w w6) := ⟨by rw [← HL.out.1] at ho; exact own_cast (own_app ho) rfl, H.out.2.grown hg6 H.out.2.size fun j e => own_base H.out.1 j e⟩; clear ho hg6)
          go_roundw
          case rel => exact ⟨1, by omega, rfl, H6.out⟩
          case measure => simp [intOf] <;> omega
        · have k1 := (H.out.2.cell (p := ⟨g, 1, none⟩) hgl).trans HK.out.2
          go_wp2_with (at_builtin; go_loud (refine append_ints rfl _ _ 31 rfl w.heap.size 5 .u8 1 Try.underlying31 info22_u8 _ _ _ rfl H.out.1 a2 n2 c2 w.heap.size b2 rfl (H2.out.hi.below H.out.2) H2.out.hn (by unfold maxLen; show b1.length + n2 ≤ _; rw [HL.out.1]; omega) (by show (b1.length + n2) * 1 ≤ _; rw [HL.out.1]; omega) H.out.2.size ?_); intro v6 w6 ho hg6 _; have H6 : RowKit.Hid (w6.ownsRow w.heap.size 5 1 v6 (conK22 b1 b2 2).length ((conK22 b1 b2 2).map (Value.int .u8)) ∧ Below w.heap.size w w6) := ⟨by rw [← HL.out.2] at ho; exact own_cast (own_app ho) rfl, H.out.2.grown hg6 H.out.2.size fun j e => own_base H.out.1 j e⟩; clear ho hg6)
          go_roundw
          case rel => exact ⟨2, by omega, rfl, H6.out⟩
          case measure => simp [intOf] <;> omega
        · go_wp2
          go_ret
          exact ⟨_, rfl, H.out.1, H.out.2⟩

/-! ### What is said -/
/-- How many nodes stand behind a pointer. -/
def hops (w : World) : Nat → Option Addr → Nat
  | 0, _ => 0
  | _ + 1, none => 0
  | k + 1, some a => match w.cell? ⟨a.block, 0, none⟩ with
    | some (.pointer p) => hops w k p + 1
    | _ => 0
def ptrOf22 : Value → Option Addr
  | .pointer p => p
  | _ => none
theorem SaidAt.hops {w : World} {D : Nat → Prop} : ∀ {ls : List (List Int)} {p : Option Addr} {k : Nat}, SaidAt w D ls p → ls.length ≤ k → hops w k p = ls.length := by
  intro ls
  induction ls with
  | nil =>
    intro p k h _
    have : p = none := h
    subst this
    cases k <;> rfl
  | cons z zs ih =>
    intro p k h hk
    obtain ⟨q, p', a, c, rfl, h2, h3, h4, h5⟩ := h
    cases k with
    | zero => simp at hk
    | succ k =>
      have e : w.cell? ⟨q, 0, none⟩ = some (.pointer p') := h3.cell 0
      unfold Proofs.Ytnjnfocpjmmibaa.hops
      rw [e]
      simp only
      rw [ih h5 (by simp at hk; omega)]
      rfl
set_option maxRecDepth 100000 in
set_option maxHeartbeats 1000000 in
theorem said_count (p : Option Addr) (ls : List (List Int)) (D : Nat → Prop) (w : World) (h : SaidAt w D ls p) (hl : (allS ls).length ≤ 1000000) :
    Calls Try.prog 24 #[.pointer p] w fun e w' => e = .returned (.int .i64 (allS ls).length) ∧ w = w' := by
  have H := Lib.hid h
  obtain ⟨N, hN⟩ : ∃ N, (allS ls).length = N := ⟨_, rfl⟩
  have HN := Lib.hid hN
  rw [hN] at hl ⊢
  clear h hN
  go_enter Try.func24, Try.ntmps24
  go_wp2
  go_loop [0, 3] (fun s n => ∃ rs q, ∃ k : Nat, s = .pointer q ∧ n = .int .i64 k ∧ RowKit.Hid (SaidAt w D rs q ∧ (allS rs).length + k = N ∧ rs.length ≤ ls.length)) (fun s _ => hops w ls.length (ptrOf22 s))
  case atStart => exact ⟨ls, p, 0, rfl, rfl, H.out, by rw [HN.out]; rfl, Nat.le_refl _⟩
  case round =>
    obtain ⟨rs, q, k, rfl, rfl, HR⟩ := hrel
    cases rs with
    | nil =>
      obtain rfl : q = none := HR.out.1
      obtain rfl : k = N := by have := HR.out.2.1; simp [allS] at this; exact this
      go_wp2
      go_ret
      exact ⟨rfl, rfl⟩
    | cons z zs =>
      obtain ⟨q', p', a, c, rfl, h2, h3, h4, h5⟩ := HR.out.1
      have k0 : w.cell? ⟨q', 0, none⟩ = some (.pointer p') := h3.cell 0
      have k1 : w.cell? ⟨q', 1, none⟩ = some (.slice a z.length c) := h3.cell 1
      have HH := Lib.hid (HR.out.1.hops HR.out.2.2)
      have HH5 := Lib.hid (h5.hops (k := ls.length) (by have := HR.out.2.2; simp at this; omega))
      have HS : RowKit.Hid (SaidAt w D zs p' ∧ (allS zs).length + (k + z.length) = N ∧ zs.length ≤ ls.length) := ⟨h5, by have := HR.out.2.1; simp [allS] at this; omega, by have := HR.out.2.2; simp at this; omega⟩
      have hkN : k + z.length ≤ N := by have := HS.out.2.1; omega
      have e1 : IntKind.i64.wrap ((k : Int) + (z.length : Int)) = (k : Int) + (z.length : Int) := IntWalk.i64_in _ (by omega)
      clear h2 h3 h4 h5 HR
      go_wp2
      go_round
      case rel => exact ⟨zs, p', k + z.length, rfl, by simp, HS.out⟩
      case measure =>
        rw [show ptrOf22 (.pointer p') = p' from rfl, show ptrOf22 (.pointer (some ⟨q', 0, none⟩)) = some ⟨q', 0, none⟩ from rfl, HH.out, HH5.out]
        simp
end Go.Proofs.Ytnjnfocpjmmibaa
