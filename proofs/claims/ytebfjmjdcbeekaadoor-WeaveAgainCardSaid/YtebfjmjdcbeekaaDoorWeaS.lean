/- What is woven is parted, in numbers. -/
import Derived.Test.YtebfjmjdcbeekaaDoorWeaM
import Derived.Test.YtebfjmjdcbeekaaDoorWeaD
namespace Go.Proofs.YtebfjmjdcbeekaaDoor
open Go
set_option linter.unusedVariables false
set_option linter.unusedSimpArgs false

theorem Q20.run_one (q : Q20) (x : UInt8) : q.run [x] = q.step x := rfl
theorem blk_head (t : List UInt8) (ht : t.length ≤ 60) : ((blkF t).headD 0).toNat = unitsB t := by
  show ((unitsB t).toUInt8).toNat = _
  exact u8_units ht
/-- A title's block on its way. -/
theorem blk_way {q : Q20} {t : List UInt8} (ht : t.length ≤ 60) (hb : q.s.b = []) (hd : 0 < q.s.e ∧ q.s.n = q.s.e) : ∀ i, 1 ≤ i → i < (blkF t).length → q.run ((blkF t).take i) = ⟨q.d, q.c, q.ok, ⟨q.s.e, q.s.n, (blkF t).take i⟩⟩ := by
  have hu := unitsB_pos t
  have hu5 := unitsB_le ht
  have hl := blkF_len t
  intro i h1
  induction i with
  | zero => omega
  | succ i ih =>
    intro hi
    by_cases h0 : i = 0
    · subst h0
      have e : (blkF t).take 1 = [(unitsB t).toUInt8] := rfl
      rw [Nat.zero_add, e, Q20.run_one]
      unfold Q20.step
      rw [if_pos hb, if_pos hd, if_neg]
      intro c
      have := u8_units ht
      rw [c] at this
      simp at this
      omega
    · have ih := ih (by omega) (by omega)
      rw [take_more (b := blkF t) (k := i) (by omega), Q20.run_more, ih]
      have hne : (blkF t).take i ≠ [] := by
        intro c
        have := congrArg List.length c
        rw [List.length_take, List.length_nil] at this
        omega
      have hhd : (((blkF t).take i).headD 0) = (blkF t).headD 0 := by
        cases i with
        | zero => omega
        | succ i => rfl
      unfold Q20.step
      rw [if_neg (by exact hne), if_neg]
      unfold wholeB
      simp only [decide_eq_true_eq]
      rw [headD_app hne, hhd, blk_head t ht, List.length_append, List.length_take, List.length_singleton]
      omega
/-- A title's block is told. -/
theorem blk_told {q : Q20} {t : List UInt8} (htt : titleF t = t) (ht : t.length ≤ 60) (hb : q.s.b = []) (hd : 0 < q.s.e ∧ q.s.n = q.s.e) : q.run (blkF t) = ⟨joinP q.d q.c ++ [.told t], [], q.ok, ⟨q.s.e, 0, []⟩⟩ := by
  have hl := blkF_len t
  have hu := unitsB_pos t
  obtain ⟨m, hm⟩ : ∃ m, (blkF t).length = m + 1 := ⟨(blkF t).length - 1, by omega⟩
  have e : blkF t = (blkF t).take m ++ [(blkF t).getD m 0] := by
    rw [← take_more (b := blkF t) (k := m) (by omega), List.take_of_length_le (by omega)]
  have hw := blk_way (q := q) ht hb hd m (by omega) (by omega)
  have hne : (blkF t).take m ≠ [] := by
    intro c
    have := congrArg List.length c
    rw [List.length_take, List.length_nil] at this
    omega
  have h1 : q.run (blkF t) = (q.run ((blkF t).take m)).step ((blkF t).getD m 0) := by
    conv => lhs; rw [e]
    rw [Q20.run_more]
  rw [h1, hw]
  unfold Q20.step
  rw [if_neg (by exact hne)]
  simp only
  rw [← e, if_pos, tellF_blk htt]
  unfold wholeB
  simp only [decide_eq_true_eq]
  rw [blk_head t ht]
  exact hl
/-- How it stands on the way. -/
structure Again (S : W20) (l : List UInt8) (q : Q20) : Prop where
  s : q.s = ⟨S.e, (S.run l).2.n, []⟩
  ok : q.ok = true
  b : soundP (joinP q.d q.c) = l
  n : (toldP q.d).length + (if (S.run l).2.f then 1 else 0) ≤ if S.f then 1 else 0
  t : ∀ T ∈ toldP q.d, T = S.t ∧ S.f = true ∧ 0 < S.e
theorem W20.run_t (S : W20) (l : List UInt8) : (S.run l).2.t = S.t := by
  induction l using snoc_ind with
  | nil => rfl
  | snoc l c ih => rw [W20.run_more]; simp only [W20.next_t, ih]
theorem again20 (S : W20) {k : Nat} (h : S.Ok k) (l : List UInt8) : Again S l ((⟨S.e, S.n, []⟩ : P20).start.run (S.run l).1) := by
  induction l using snoc_ind with
  | nil => exact ⟨rfl, rfl, rfl, (by show 0 + _ ≤ _; rw [Nat.zero_add]; exact Nat.le_refl _), fun T hT => by simp [P20.start, Q20.run, W20.run, toldP] at hT⟩
  | snoc l c ih =>
    obtain ⟨q, hq⟩ : ∃ q, (⟨S.e, S.n, []⟩ : P20).start.run (S.run l).1 = q := ⟨_, rfl⟩
    rw [hq] at ih
    have hR := h.run l
    have hRe := W20.run_e S l
    have hRt := W20.run_t S l
    rw [W20.run_more]
    simp only
    rw [Q20.run_app, hq]
    obtain ⟨R, hRR⟩ : ∃ R, (S.run l).2 = R := ⟨_, rfl⟩
    rw [hRR] at hR hRe hRt ⊢
    obtain ⟨i1, i2, i3, i4, i5⟩ := ih
    rw [hRR] at i1 i4
    have hdn : ¬ (0 < q.s.e ∧ q.s.n = q.s.e) := by
      rw [i1]
      simp only
      rintro ⟨h0, h1⟩
      have := hR.d (by rw [hRe]; exact h0)
      omega
    have hst1 : q.step c = ⟨q.d, q.c ++ [c], q.ok, ⟨S.e, R.n + 1, []⟩⟩ := by
      unfold Q20.step
      rw [if_pos (by rw [i1]), if_neg hdn, i1]
    have hsj : soundP (joinP q.d (q.c ++ [c])) = l ++ [c] := by
      rw [soundP_join, ← List.append_assoc, ← soundP_join, i3]
    by_cases hd : R.due = true
    · have hdd : 0 < S.e ∧ R.n + 1 = S.e := by
        have h2 := hd
        simp only [W20.due, Bool.and_eq_true, decide_eq_true_eq, hRe] at h2
        exact h2
      have hout : R.out c = [c] ++ (if R.f then blkF R.t else [0]) := by simp [W20.out, hd]
      have hnext : R.next = ⟨S.e, 0, R.t, false⟩ := by simp [W20.next, hd, hRe]
      rw [hout, Q20.run_app, Q20.run_one, hst1]
      cases hf : R.f with
      | true =>
        rw [hf] at i4
        have := blk_told (q := ⟨q.d, q.c ++ [c], q.ok, ⟨S.e, R.n + 1, []⟩⟩) hR.t hR.l rfl ⟨hdd.1, hdd.2⟩
        simp only [if_true]
        rw [this]
        have hS : S.f = true := by
          cases hSf : S.f with
          | true => rfl
          | false => rw [hSf] at i4; simp at i4
        refine ⟨by rw [W20.run_more, hRR, hnext], i2, ?_, ?_, ?_⟩
        · rw [soundP_join, soundP_app]; simp only [soundP, List.append_nil]; exact hsj
        · rw [W20.run_more, hRR, hnext, toldP_app, toldP_join]; simp only [toldP, List.length_append, List.length_singleton]; simpa using i4
        · intro T hT
          simp only [toldP_app, toldP_join, toldP, List.mem_append, List.mem_singleton] at hT
          rcases hT with hT | hT
          · exact i5 T hT
          · exact ⟨by rw [hT, hRt], hS, hdd.1⟩
      | false =>
        rw [hf] at i4
        have h0 := step_empty (q := ⟨q.d, q.c ++ [c], q.ok, ⟨S.e, R.n + 1, []⟩⟩) ⟨hdd.1, hdd.2⟩ rfl
        have h00 : (⟨q.d, q.c ++ [c], q.ok, ⟨S.e, R.n + 1, []⟩⟩ : Q20).run [0] = ⟨q.d, q.c ++ [c], q.ok, ⟨S.e, 0, []⟩⟩ := h0
        simp only [Bool.false_eq_true, if_false]
        rw [h00]
        exact ⟨by rw [W20.run_more, hRR, hnext], i2, hsj, by rw [W20.run_more, hRR, hnext]; simpa using i4, i5⟩
    · have hout : R.out c = [c] := by simp [W20.out, hd]
      have hnext : R.next = ⟨S.e, R.n + 1, R.t, R.f⟩ := by simp [W20.next, hd, hRe]
      rw [hout, Q20.run_one, hst1]
      exact ⟨by rw [W20.run_more, hRR, hnext], i2, hsj, by rw [W20.run_more, hRR, hnext]; exact i4, i5⟩
end Go.Proofs.YtebfjmjdcbeekaaDoor
