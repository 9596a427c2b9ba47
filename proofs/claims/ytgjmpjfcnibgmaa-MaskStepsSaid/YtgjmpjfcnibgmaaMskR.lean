/- What the document's Steps and Reach give. -/
import Derived.Test.YtgjmpjfcnibgmaaMskE
namespace Go.Proofs.Ytgjmpjfcnibgmaa
open Go.RowKit
set_option linter.unusedVariables false

theorem tabF_snocM (F : Nat → Int) (k : Nat) {y : Int} (h : y = F k) : tabF k F ++ [y] = tabF (k + 1) F := by
  subst h; unfold tabF; rw [List.range_succ, List.map_append]; rfl
/-- What the document's steps' making leaves. -/
def RefStepsPost (l : Nat → Int) (q x : Int) (w : World) (e : Ending) (w' : World) : Prop :=
  ∃ a c, e = .returned (.slice a 21 c) ∧ IntsAt w' w'.heap.size .i64 a 21 (tabF 21 (stepF l q x)) ∧ Below w.heap.size w w'
set_option maxHeartbeats 1000000 in
set_option maxRecDepth 100000 in
theorem ref10Steps_any (a : Option Addr) (cap : Nat) (zs : List Int) (q x : Int) (w : World) (h : IntsAt w w.heap.size .i64 a 21 zs) (hok : mayStep zs q x) :
    Calls Try.prog 12 #[.slice a 21 cap, .int .i64 q, .int .i64 x] w (RefStepsPost (fun j => zs.getD j 0) q x w) := by
  obtain ⟨hr, q0, q1, x0, x1⟩ := hok
  have H0 := Lib.hid h
  have HRb := Lib.hid (rightB_true hr).2
  obtain ⟨F, hF⟩ : ∃ F, F = stepF (fun j => zs.getD j 0) q x := ⟨_, rfl⟩
  have HF := Lib.hid hF
  have HE : RowKit.Hid (∀ k, F k = min (max (max (thrTo (fun j => zs.getD j 0) k 21 - q + x) (zs.getD k 0 - 12)) 0) (zs.getD k 0)) := fun k => by rw [hF]; rfl
  have HI0 : RowKit.Hid (w.ownsRow w.heap.size 3 1 (.slice none 0 0) 0 ((tabF 0 F).map (Value.int .i64)) ∧ Below w.heap.size w w) := ⟨World.ownsRow_nil w w.heap.size 3 1, Below.refl _ _⟩
  have HSn := Lib.hid (fun k (y : Int) (h : y = F k) => tabF_snocM F k h)
  clear h hr hF
  go_enter Try.func12, Try.ntmps12
  go_wp2
  go_loopw [7, 8] (fun v i wr => ∃ (k : Nat) (u : Value), u = v ∧ k ≤ 21 ∧ i = .int .i64 (k : Int) ∧ RowKit.Hid (wr.ownsRow w.heap.size 3 1 u k ((tabF k F).map (Value.int .i64)) ∧ Below w.heap.size w wr)) (fun _ i _ => 21 - (intOf i).toNat)
  case atStart => exact ⟨0, _, rfl, by omega, rfl, HI0.out⟩
  case round =>
    obtain ⟨k, u, rfl, hk, rfl, H⟩ := hrel
    clear HI0
    by_cases hlt : k < 21
    · have HW : RowKit.Hid (IntsAt wr wr.heap.size .i64 a 21 zs) := H0.out.now H.out.2 (Nat.le_refl _)
      have hsz := H.out.2.size
      have HA : RowKit.Hid (∀ y, (wr.alloc (.cells #[.int .i64 y] 3)).ownsRow w.heap.size 3 1 u k ((tabF k F).map (Value.int .i64))) := fun y => World.ownsRow.alloc H.out.1 _
      have HAB : RowKit.Hid (∀ y, Below w.heap.size w (wr.alloc (.cells #[.int .i64 y] 3))) := fun y => H.out.2.alloc hsz _
      have HSr : RowKit.Hid (∀ y, IntsAt (wr.alloc (.cells #[.int .i64 y] 3)) (wr.alloc (.cells #[.int .i64 y] 3)).heap.size .i64 (some ⟨wr.heap.size, 0, none⟩) 1 [y]) := fun y => lit_ints wr 3 .i64 [y] #[.int .i64 y] (0, 0) rfl (by simp)
      have HOB := Lib.hid (own_base H.out.1)
      obtain ⟨T, hT⟩ : ∃ T, T = thrTo (fun j => zs.getD j 0) k := ⟨_, rfl⟩
      have HV := Lib.hid (HE.out k)
      have HB : RowKit.Hid (∀ n, n ≤ 21 → 0 ≤ T n ∧ T n ≤ 26) := fun n hn => by rw [hT]; exact thrTo_bd hlt n hn fun j hj => HRb.out j (by omega)
      have HS : RowKit.Hid (∀ n, T (n + 1) = max (T n) (zs.getD n 0 - fadeF n k)) := fun n => by rw [hT]; rfl
      have HZ : RowKit.Hid (T 0 = 0) := by show _ = _; rw [hT]; rfl
      rw [← hT] at HV
      clear hT H
      have l1 : (k : Int) < 21 := by omega
      go_wp2
      go_loop [9, 10] (fun m i => ∃ j : Nat, j ≤ 21 ∧ i = .int .i64 (j : Int) ∧ m = .int .i64 (T j)) (fun _ i => 21 - (intOf i).toNat)
      case atStart => exact ⟨0, by omega, rfl, by rw [HZ.out]⟩
      case round =>
        obtain ⟨j, hj, rfl, rfl⟩ := hrel
        by_cases hlj : j < 21
        · obtain ⟨bb, off, rfl, _, _, hcell⟩ := HW.out.at_ hlj
          obtain ⟨x0, x1⟩ := HRb.out j hlj
          obtain ⟨t0, t1⟩ := HB.out j (by omega)
          have HN := Lib.hid (HS.out j)
          generalize zs.getD j 0 = x at hcell x0 x1 HN
          generalize T j = t at t0 t1 HN
          have l2 : (j : Int) < 21 := by omega
          by_cases hjk : j < k
          · have HFd := Lib.hid (fadeF_below hjk)
            have l3 : ¬ (k : Int) < (j : Int) := by omega
            go_wp2
            all_goals
              go_round
              case rel => exact ⟨j + 1, by omega, by go_num, by rw [HN.out, HFd.out]; go_num⟩
              case measure => simp [intOf] <;> omega
          · have HFd := Lib.hid (fadeF_above hjk)
            by_cases hjk2 : j = k
            · subst hjk2
              clear hjk
              have l3 : ¬ (j : Int) < (j : Int) := by omega
              go_wp2
              all_goals
                go_round
                case rel => exact ⟨j + 1, by omega, by go_num, by rw [HN.out, HFd.out]; go_num⟩
                case measure => simp [intOf] <;> omega
            · have l3 : (k : Int) < (j : Int) := by omega
              go_wp2
              all_goals
                go_round
                case rel => exact ⟨j + 1, by omega, by go_num, by rw [HN.out, HFd.out]; go_num⟩
                case measure => simp [intOf] <;> omega
        · obtain rfl : j = 21 := by omega
          obtain ⟨bb, off, rfl, _, _, hcell⟩ := HW.out.at_ hlt
          obtain ⟨n0, n1⟩ := HRb.out k hlt
          obtain ⟨t0, t1⟩ := HB.out 21 (by omega)
          generalize zs.getD k 0 = n at hcell n0 n1 HV
          generalize T 21 = t at t0 t1 HV
          go_wp2_with (at_builtin; go_loud (refine append_ints rfl _ _ 24 rfl w.heap.size 3 .i64 8 Try.underlying24 infoE_int _ k (tabF k F) rfl (HA.out _) (some ⟨wr.heap.size, 0, none⟩) 1 1 _ [_] rfl (HSr.out _) (by simp) (by unfold maxLen; omega) (by omega) (by simp; omega) ?_); intro v2 w2 hown hgrow _; rw [HSn.out k _ (by rw [HV.out]; omega)] at hown; have H2 : RowKit.Hid (w2.ownsRow w.heap.size 3 1 v2 (k + 1) ((tabF (k + 1) F).map (Value.int .i64)) ∧ Below w.heap.size w w2) := ⟨hown, (HAB.out _).grown hgrow (by simp; omega) HOB.out⟩; clear hown hgrow)
          all_goals
            go_roundw
            case rel => exact ⟨k + 1, v2, rfl, by omega, by go_num, H2.out⟩
            case measure => simp [intOf] <;> omega
    · obtain rfl : k = 21 := by omega
      have HI := Lib.hid (own_ints H.out.1)
      have HB := Lib.hid H.out.2
      clear H
      go_wp2
      go_ret
      obtain ⟨a, c, rfl, hi⟩ := HI.out
      exact ⟨a, c, rfl, by rw [← HF.out]; exact hi, HB.out⟩
end Go.Proofs.Ytgjmpjfcnibgmaa
