/- A parter's state in memory; what it takes. -/
import Derived.Test.YtebfjmjdcbeekaaDoorWeaK
import Derived.Test.YtebfjmjdcbeekaaDoorWeaL
namespace Go.Proofs.YtebfjmjdcbeekaaDoor
open Go.RowKit Go.PlainAid
set_option linter.unusedVariables false
set_option linter.unusedSimpArgs false

/-! ### In numbers -/
theorem Q20.step_d (q : Q20) (x : UInt8) : (q.step x).d.length ≤ q.d.length + 2 ∧ (q.step x).c.length ≤ q.c.length + 1 := by
  have hj : (joinP q.d q.c).length ≤ q.d.length + 1 := by unfold joinP; split <;> simp
  unfold Q20.step
  repeat' split
  all_goals (constructor <;> simp <;> omega)
theorem Q20.run_d (S : P20) (l : List UInt8) : (S.start.run l).d.length ≤ 2 * l.length ∧ (S.start.run l).c.length ≤ l.length := by
  induction l using snoc_ind with
  | nil => exact ⟨Nat.le_refl _, Nat.le_refl _⟩
  | snoc l c ih =>
    rw [Q20.run_more, List.length_append, List.length_singleton]
    have := Q20.step_d (S.start.run l) c
    omega
theorem P20.Ok.b_le {s : P20} {k : Nat} (h : s.Ok k) : s.b.length ≤ 4080 := by
  by_cases hb : s.b = []
  · rw [hb]; simp
  · have h4 := (h.b hb).2.2.2
    have := (s.b.headD 0).toNat_lt
    omega
/-- What a parter does with a byte where no block is due. -/
theorem step_sound {q : Q20} {k : Nat} (h : q.s.Ok k) (x : UInt8) (hd : ¬ (0 < q.s.e ∧ q.s.n = q.s.e)) : q.s.b = [] ∧ q.step x = ⟨q.d, q.c ++ [x], q.ok, ⟨q.s.e, q.s.n + 1, []⟩⟩ := by
  have hb : q.s.b = [] := by
    by_cases hb : q.s.b = []
    · exact hb
    · obtain ⟨b1, b2, _⟩ := h.b hb
      exact absurd ⟨b1, b2⟩ hd
  refine ⟨hb, ?_⟩
  unfold Q20.step
  rw [if_pos hb, if_neg hd]
theorem u8_zero {x : UInt8} (h : x.toNat = 0) : x = 0 := UInt8.toNat_inj.1 h
/-- .. where one is due: more of it is to come. -/
theorem step_wait {q : Q20} {k : Nat} (h : q.s.Ok k) (x : UInt8) (hd : 0 < q.s.e ∧ q.s.n = q.s.e) (hw : q.s.b.length + 1 ≤ 16 * ((q.s.b ++ [x]).headD 0).toNat) : q.step x = ⟨q.d, q.c, q.ok, ⟨q.s.e, q.s.n, q.s.b ++ [x]⟩⟩ := by
  unfold Q20.step
  by_cases hb : q.s.b = []
  · rw [hb] at hw ⊢
    rw [if_pos rfl, if_pos hd, if_neg]
    · rfl
    · rintro rfl
      simp at hw
  · rw [if_neg hb, if_neg]
    unfold wholeB
    simp only [List.length_append, List.length_singleton, decide_eq_true_eq]
    omega
/-- .. it is whole, and empty. -/
theorem step_empty {q : Q20} (hd : 0 < q.s.e ∧ q.s.n = q.s.e) (hb : q.s.b = []) : q.step 0 = ⟨q.d, q.c, q.ok, ⟨q.s.e, 0, []⟩⟩ := by
  unfold Q20.step
  rw [if_pos hb, if_pos hd, if_pos rfl]
/-- .. it is whole. -/
theorem step_whole {q : Q20} {k : Nat} (h : q.s.Ok k) (x : UInt8) (hb : q.s.b ≠ []) (hw : ¬ q.s.b.length + 1 ≤ 16 * ((q.s.b ++ [x]).headD 0).toNat) :
    (q.s.b ++ [x]).length = 16 * ((q.s.b ++ [x]).headD 0).toNat + 1 ∧ (∀ T, tellF (q.s.b ++ [x]) = some T → q.step x = ⟨joinP q.d q.c ++ [.told T], [], q.ok, ⟨q.s.e, 0, []⟩⟩) ∧ (tellF (q.s.b ++ [x]) = none → q.step x = ⟨q.d, q.c, false, ⟨q.s.e, 0, []⟩⟩) := by
  obtain ⟨b1, b2, b3, b4⟩ := h.b hb
  have hl : (q.s.b ++ [x]).length = 16 * ((q.s.b ++ [x]).headD 0).toNat + 1 := by
    rw [headD_app hb] at hw ⊢
    rw [List.length_append, List.length_singleton]
    omega
  have hw2 : wholeB (q.s.b ++ [x]) = true := by unfold wholeB; exact decide_eq_true hl
  refine ⟨hl, fun T hT => ?_, fun hT => ?_⟩
  · unfold Q20.step
    rw [if_neg hb, if_pos hw2, hT]
  · unfold Q20.step
    rw [if_neg hb, if_pos hw2, hT]
/-- Of a whole block its first 81 bytes tell all. -/
theorem kept_tell {b : List UInt8} (h : b.length = 16 * (b.headD 0).toNat + 1) : (tellF b = none ∧ (blkF (titleF (cutB (b.take 81).tail)) == b.take 81) = false) ∨ (∃ T, tellF b = some T ∧ cutB (b.take 81).tail = T ∧ (blkF (titleF (cutB (b.take 81).tail)) == b.take 81) = true ∧ T.length ≤ 60) := by
  by_cases hl : b.length ≤ 81
  · rw [List.take_of_length_le hl]
    by_cases e : blkF (titleF (cutB b.tail)) = b
    · have hT : tellF b = some (cutB b.tail) := by unfold tellF; rw [if_pos e]
      refine .inr ⟨_, hT, rfl, by simpa using e, ?_⟩
      have := (tellF_some hT).1
      rw [← this]
      exact titleF_len _
    · exact .inl ⟨by unfold tellF; rw [if_neg e], by simpa using e⟩
  · cases b with
    | nil => simp at hl
    | cons x t =>
      have hx : t.length = 16 * x.toNat := by simpa using h
      obtain ⟨h1, h2⟩ := tellF_kept hx (by simp only [List.length_cons] at hl; omega)
      exact .inl ⟨h1, by simpa using h2 _⟩

/-! ### In memory -/
/-- Block g is a parter that stands there. -/
def PrAt (w : World) (g : Nat) (S : P20) : Prop := ∃ B, PrC w g S.e S.n B S.b.length ∧ B.length = 81 ∧ B.take (min S.b.length 81) = S.b.take 81
section
variable {w w' : World} {g : Nat} {S : P20}
theorem PrAt.keeps {F : Nat → Prop} (h : PrAt w g S) (hk : Keeps F w w') (hn : ¬ F g) : PrAt w' g S := by
  obtain ⟨B, h1, h2⟩ := h
  exact ⟨B, h1.keeps hk hn, h2⟩
theorem PrAt.below (h : PrAt w g S) (hb : Below w.heap.size w w') : PrAt w' g S := by
  obtain ⟨B, h1, h2⟩ := h
  exact ⟨B, h1.below hb, h2⟩
theorem PrAt.typ (h : PrAt w g S) : Typ19 w g 67 := by
  obtain ⟨B, h1, _⟩ := h
  exact h1.typ
theorem PrAt.cells (h : PrAt w g S) : w.cell? ⟨g, 0, none⟩ = some (.int .i64 (S.e : Int)) ∧ w.cell? ⟨g, 1, none⟩ = some (.int .i64 (S.n : Int)) ∧ w.frozen? ⟨g, 1, none⟩ = false := by
  obtain ⟨B, h1, h2, _⟩ := h
  obtain ⟨a, b, _, c, _⟩ := h1.cells h2
  exact ⟨a, b, c⟩
theorem PrAt.set_n (h : PrAt w g S) (n' : Nat) : PrAt (w.setCell ⟨g, 1, none⟩ (.int .i64 (n' : Int))) g ⟨S.e, n', S.b⟩ := by
  obtain ⟨B, h1, h2⟩ := h
  exact ⟨B, h1.set_n n', h2⟩
end
theorem prNew_at (n : Nat) (w : World) (hn : n ≤ 65536) :
    Calls Tryd.prog 7 #[.int .i64 (n : Int)] w fun e w' => ∃ g, e = .returned (.tuple #[.pointer (some ⟨g, 0, none⟩), .int .i64 0]) ∧ PrAt w' g ⟨n, 0, []⟩ ∧ w.heap.size ≤ g ∧ Below w.heap.size w w' := by
  refine (prNew_ok n w hn).mono ?_
  rintro e w' ⟨g, h1, h2, h3, h4⟩
  exact ⟨g, h1, ⟨_, h2, by decide, rfl⟩, h3, h4⟩
theorem take_rel {B b : List UInt8} (hB : B.length = 81) (h : B.take (min b.length 81) = b.take 81) (c : UInt8) : (takeB B b.length c).take (min (b.length + 1) 81) = (b ++ [c]).take 81 := by
  unfold takeB
  by_cases hl : b.length < 81
  · rw [if_pos hl]
    rw [show min b.length 81 = b.length by omega, List.take_of_length_le (l := b) (by omega)] at h
    rw [show min (b.length + 1) 81 = b.length + 1 by omega, List.take_of_length_le (l := b ++ [c]) (by simp; omega), List.take_add_one, List.take_set_of_le (Nat.le_refl _), h]
    congr 1
    simp [hl, hB]
  · rw [if_neg hl]
    rw [show min b.length 81 = 81 by omega] at h
    rw [show min (b.length + 1) 81 = 81 by omega, h, List.take_append_of_le_length (by omega)]
theorem headD_take {a b : List UInt8} {i j : Nat} (h : a.take i = b.take j) (hi : 0 < i) (hj : 0 < j) : a.headD 0 = b.headD 0 := by
  have : (a.take i).headD 0 = (b.take j).headD 0 := by rw [h]
  cases a <;> cases b <;> cases i <;> cases j <;> simp at * <;> assumption
/-- What a parter takes. -/
def PrTakePost (g : Nat) (S : P20) (c : UInt8) (w : World) (x : Ending) (w' : World) : Prop :=
  if S.b.length + 1 ≤ 16 * ((S.b ++ [c]).headD 0).toNat then x = .returned (.slice none 0 0) ∧ PrAt w' g ⟨S.e, S.n, S.b ++ [c]⟩ ∧ Keeps (· = g) w w'
  else ∃ m, x = .returned (.slice (some ⟨g, 2, none⟩) m 81) ∧ BytA w' (some ⟨g, 2, none⟩) m 81 ((S.b ++ [c]).take 81) ∧ PrAt w' g ⟨S.e, 0, []⟩ ∧ Keeps (· = g) w w'
theorem prTake_any (g : Nat) (S : P20) (c : UInt8) (w : World) (h : PrAt w g S) (hl : S.b.length ≤ 5000) :
    Calls Tryd.prog 20 #[.pointer (some ⟨g, 0, none⟩), .int .u8 (c.toNat : Int)] w (PrTakePost g S c w) := by
  obtain ⟨B, h1, h2, h3⟩ := h
  have hr := take_rel h2 h3 c
  have hh : (takeB B S.b.length c).headD 0 = (S.b ++ [c]).headD 0 := headD_take hr (by omega) (by omega)
  have hB := takeB_len h2 S.b.length c
  refine (take_any g S.e S.n S.b.length B c w h1 h2 hl).mono ?_
  intro x w' hp
  unfold TakePost at hp
  unfold PrTakePost
  rw [hh] at hp
  split
  · rename_i hle
    rw [if_pos hle] at hp
    refine ⟨hp.1, ⟨_, ?_, hB, ?_⟩, hp.2.2⟩
    · simp only [List.length_append, List.length_singleton]; exact hp.2.1
    · simp only [List.length_append, List.length_singleton]; exact hr
  · rename_i hle
    rw [if_neg hle] at hp
    refine ⟨_, hp.1, ?_, ⟨_, hp.2.1, hB, by simp⟩, hp.2.2⟩
    rw [← hr]
    exact hp.2.1.slice hB _ (by omega)
end Go.Proofs.YtebfjmjdcbeekaaDoor
