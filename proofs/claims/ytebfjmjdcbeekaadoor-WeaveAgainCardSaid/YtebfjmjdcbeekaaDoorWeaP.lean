/- Layer 20 in numbers: a title's block, what a weaver weaves, what a parter parts. Nothing here speaks of the program. -/
import Derived.Test.YtebfjmjdcbeekaaDoorWrdP
import Derived.Lib.TrimByte
namespace Go.Proofs.YtebfjmjdcbeekaaDoor
open Go
set_option linter.unusedVariables false

theorem snoc_ind {α : Type} {P : List α → Prop} (nil : P []) (snoc : ∀ l c, P l → P (l ++ [c])) (l : List α) : P l := by
  have : ∀ l : List α, P l.reverse := by
    intro l
    induction l with
    | nil => exact nil
    | cons x t ih => rw [List.reverse_cons]; exact snoc _ _ ih
  have h := this l.reverse
  rwa [List.reverse_reverse] at h
/-- What stands in a block ahead of a title, and behind it. -/
def ahead20 : List UInt8 := [83, 116, 114, 101, 97, 109, 84, 105, 116, 108, 101, 61, 39]
def behind20 : List UInt8 := [39, 59]
def textB (T : List UInt8) : List UInt8 := ahead20 ++ T ++ behind20
theorem textB_len (T : List UInt8) : (textB T).length = T.length + 15 := by simp [textB, ahead20, behind20]
/-- How many times 16 bytes. -/
def unitsB (T : List UInt8) : Nat := (T.length + 30) / 16
theorem unitsB_ge (T : List UInt8) : T.length + 15 ≤ 16 * unitsB T := by unfold unitsB; omega
theorem unitsB_lt (T : List UInt8) : 16 * unitsB T ≤ T.length + 30 := by unfold unitsB; omega
theorem unitsB_le {T : List UInt8} (h : T.length ≤ 60) : unitsB T ≤ 5 := by unfold unitsB; omega
theorem unitsB_pos (T : List UInt8) : 0 < unitsB T := by unfold unitsB; omega
/-- A title's block. -/
def tailB (T : List UInt8) : List UInt8 := textB T ++ List.replicate (16 * unitsB T - (T.length + 15)) 0
def blkF (T : List UInt8) : List UInt8 := (unitsB T).toUInt8 :: tailB T
theorem tailB_len (T : List UInt8) : (tailB T).length = 16 * unitsB T := by
  have := unitsB_ge T
  simp only [tailB, List.length_append, textB_len, List.length_replicate]
  omega
theorem blkF_len (T : List UInt8) : (blkF T).length = 16 * unitsB T + 1 := by simp [blkF, tailB_len]
theorem blkF_le {T : List UInt8} (h : T.length ≤ 60) : (blkF T).length ≤ 81 := by rw [blkF_len]; have := unitsB_le h; omega
/-- What stands between, in a block without its first byte. -/
def cutB (l : List UInt8) : List UInt8 := Lib.trimSuffix (Lib.trimPrefix (Lib.trimRightB l 0) ahead20) behind20
theorem trimR_zeros (l : List UInt8) (x : UInt8) (hx : x ≠ 0) (n : Nat) : Lib.trimRightB (l ++ [x] ++ List.replicate n 0) 0 = l ++ [x] := by
  unfold Lib.trimRightB
  rw [List.reverse_append, List.reverse_append, List.reverse_replicate]
  have : ∀ n, List.dropWhile (fun y : UInt8 => y == 0) (List.replicate n 0 ++ ([x].reverse ++ l.reverse)) = [x].reverse ++ l.reverse := by
    intro n
    induction n with
    | zero =>
      have : (x == 0) = false := by simpa using hx
      simp [this]
    | succ n ih =>
      rw [List.replicate_succ, List.cons_append, List.dropWhile_cons]
      simp only [beq_self_eq_true, if_true]
      exact ih
  rw [this]
  simp
theorem trimP_hit (p l : List UInt8) : Lib.trimPrefix (p ++ l) p = l := by
  unfold Lib.trimPrefix Lib.hasPrefix
  rw [if_pos (by simp)]
  simp
theorem trimS_hit (p l : List UInt8) : Lib.trimSuffix (l ++ p) p = l := by
  unfold Lib.trimSuffix Lib.hasSuffix
  rw [if_pos (by simp)]
  simp
theorem cutB_tail (T : List UInt8) : cutB (tailB T) = T := by
  unfold cutB tailB textB behind20
  have := trimR_zeros (ahead20 ++ T ++ [39]) 59 (by decide) (16 * unitsB T - (T.length + 15))
  have e : ahead20 ++ T ++ [39, 59] = ahead20 ++ T ++ [39] ++ [59] := by simp
  rw [e, this, List.append_assoc, List.append_assoc, trimP_hit]
  exact trimS_hit [39, 59] T
theorem tailB_inj {T U : List UInt8} (h : tailB T = tailB U) : T = U := by rw [← cutB_tail T, ← cutB_tail U, h]
theorem blkF_inj {T U : List UInt8} (h : blkF T = blkF U) : T = U := by
  unfold blkF at h
  injection h with _ h
  exact tailB_inj h
theorem tailB_mid (T : List UInt8) : ((tailB T).drop 13).take T.length = T := by
  unfold tailB textB
  rw [List.append_assoc, List.append_assoc, List.drop_append]
  simp [ahead20]
theorem u8_units {T : List UInt8} (h : T.length ≤ 60) : (unitsB T).toUInt8.toNat = unitsB T := by
  have := unitsB_le h
  simp
  omega
theorem cutB_le (l : List UInt8) : (cutB l).length ≤ l.length := by
  unfold cutB
  have h1 := Lib.trimSuffix_le (Lib.trimPrefix (Lib.trimRightB l 0) ahead20) behind20
  have h2 := Lib.trimPrefix_le (Lib.trimRightB l 0) ahead20
  have h3 : (Lib.trimRightB l 0).length ≤ l.length := by
    unfold Lib.trimRightB
    rw [List.length_reverse]
    exact Nat.le_trans (List.dropWhile_sublist _).length_le (by simp)
  omega
/-- The title whose block it is. -/
def tellF (b : List UInt8) : Option (List UInt8) := if blkF (titleF (cutB b.tail)) = b then some (cutB b.tail) else none
theorem tellF_some {b T : List UInt8} (h : tellF b = some T) : titleF T = T ∧ blkF T = b := by
  unfold tellF at h
  split at h
  · rename_i e
    injection h with h
    obtain ⟨X, hX⟩ : ∃ X, titleF (cutB b.tail) = X := ⟨_, rfl⟩
    rw [hX] at e
    have h2 : b.tail = tailB X := by rw [← e]; rfl
    rw [h2, cutB_tail] at hX h
    rw [← h]
    exact ⟨hX, e⟩
  · cases h
theorem tellF_blk {T : List UInt8} (h : titleF T = T) : tellF (blkF T) = some T := by
  unfold tellF
  have : cutB (blkF T).tail = T := cutB_tail T
  rw [this, h, if_pos rfl]
/-- A block that is too long is no title's: of one of more than 81 bytes the first 81 tell that too. -/
theorem tellF_kept {h : UInt8} {t : List UInt8} (hl : t.length = 16 * h.toNat) (h81 : 81 < t.length + 1) : tellF (h :: t) = none ∧ ∀ T, blkF (titleF T) ≠ (h :: t).take 81 := by
  have h6 : 6 ≤ h.toNat := by omega
  constructor
  · cases e : tellF (h :: t) with
    | none => rfl
    | some T =>
      obtain ⟨h1, h2⟩ := tellF_some e
      have := congrArg List.length h2
      have l := blkF_le (T := T) (by rw [← h1]; exact titleF_len T)
      simp only [List.length_cons] at this
      omega
  · intro T e
    have h1 : (blkF (titleF T)).headD 0 = ((h :: t).take 81).headD 0 := by rw [e]
    have h2 : (unitsB (titleF T)).toUInt8 = h := h1
    have h3 := u8_units (titleF_len T)
    have h4 := unitsB_le (titleF_len T)
    rw [h2] at h3
    omega
/-- What is told of a block that has come. -/
theorem tellF_no {b : List UInt8} (h : ∀ T, titleF T = T → blkF T ≠ b) : tellF b = none := by
  cases e : tellF b with
  | none => rfl
  | some T =>
    obtain ⟨h1, h2⟩ := tellF_some e
    exact absurd h2 (h T h1)

/-! ### A weaver -/
/-- Behind how many bytes, how many there were, the title, is it told at the next block? -/
structure W20 where
  e : Nat
  n : Nat
  t : List UInt8
  f : Bool
def W20.tell (S : W20) (s : List UInt8) : W20 := if titleF s = S.t then S else ⟨S.e, S.n, titleF s, true⟩
def W20.due (S : W20) : Bool := decide (0 < S.e) && decide (S.n + 1 = S.e)
def W20.out (S : W20) (c : UInt8) : List UInt8 := if S.due then c :: (if S.f then blkF S.t else [0]) else [c]
def W20.next (S : W20) : W20 := if S.due then ⟨S.e, 0, S.t, false⟩ else ⟨S.e, S.n + 1, S.t, S.f⟩
/-- What is woven of bytes, and where the weaver stands then. -/
def W20.run (S : W20) (l : List UInt8) : List UInt8 × W20 := l.foldl (fun r c => (r.1 ++ r.2.out c, r.2.next)) ([], S)
theorem W20.run_nil (S : W20) : S.run [] = ([], S) := rfl
theorem W20.run_more (S : W20) (l : List UInt8) (c : UInt8) : S.run (l ++ [c]) = ((S.run l).1 ++ (S.run l).2.out c, (S.run l).2.next) := by
  unfold W20.run
  rw [List.foldl_append]
  rfl
structure W20.Ok (S : W20) (k : Nat) : Prop where
  n : S.n ≤ k
  d : 0 < S.e → S.n < S.e
  t : titleF S.t = S.t
  l : S.t.length ≤ 60
theorem W20.Ok.tell {S : W20} {k : Nat} (h : S.Ok k) (s : List UInt8) : (S.tell s).Ok k := by
  unfold W20.tell
  split
  · exact h
  · exact ⟨h.n, h.d, titleF_again s, titleF_len s⟩
theorem W20.Ok.next {S : W20} {k : Nat} (h : S.Ok k) : S.next.Ok (k + 1) := by
  have := h.n
  unfold W20.next
  split
  · rename_i hd
    simp [W20.due] at hd
    exact ⟨by simp, fun h => h, h.t, h.l⟩
  · rename_i hd
    refine ⟨by simp; omega, fun he => ?_, h.t, h.l⟩
    have := h.d he
    simp [W20.due, he] at hd
    simp only
    omega
theorem W20.next_e (S : W20) : S.next.e = S.e := by unfold W20.next; split <;> rfl
theorem W20.next_t (S : W20) : S.next.t = S.t := by unfold W20.next; split <;> rfl
theorem W20.tell_e (S : W20) (s : List UInt8) : (S.tell s).e = S.e := by unfold W20.tell; split <;> rfl
theorem W20.Ok.run {S : W20} {k : Nat} (h : S.Ok k) (l : List UInt8) : (S.run l).2.Ok (k + l.length) := by
  induction l using snoc_ind with
  | nil => exact h
  | snoc l c ih =>
    rw [W20.run_more]
    have := ih.next
    rw [List.length_append]
    exact this
theorem W20.run_e (S : W20) (l : List UInt8) : (S.run l).2.e = S.e := by
  induction l using snoc_ind with
  | nil => rfl
  | snoc l c ih => rw [W20.run_more]; simp only [W20.next_e, ih]
theorem W20.out_le {S : W20} {k : Nat} (h : S.Ok k) (c : UInt8) : (S.out c).length ≤ 82 := by
  have := blkF_le h.l
  unfold W20.out
  split
  · split <;> simp <;> omega
  · simp
theorem W20.run_le {S : W20} {k : Nat} (h : S.Ok k) (l : List UInt8) : (S.run l).1.length ≤ 82 * l.length := by
  induction l using snoc_ind with
  | nil => simp [W20.run]
  | snoc l c ih =>
    rw [W20.run_more]
    have := W20.out_le (h.run l) c
    simp only [List.length_append, List.length_singleton]
    omega

/-! ### A parter -/
/-- A piece: sound, or a title. -/
inductive Pc where
  | snd (l : List UInt8)
  | told (t : List UInt8)
/-- Sound behind pieces, if there is any. -/
def joinP (d : List Pc) (c : List UInt8) : List Pc := if c = [] then d else d ++ [.snd c]
/-- Behind how many bytes, how many there were; what has come of a block. -/
structure P20 where
  e : Nat
  n : Nat
  b : List UInt8
/-- What bytes brought: pieces, sound behind them, was all fine; where the parter stands. -/
structure Q20 where
  d : List Pc
  c : List UInt8
  ok : Bool
  s : P20
def wholeB (b : List UInt8) : Bool := decide (b.length = 16 * (b.headD 0).toNat + 1)
def Q20.step (q : Q20) (x : UInt8) : Q20 :=
  if q.s.b = [] then
    if 0 < q.s.e ∧ q.s.n = q.s.e then
      if x = 0 then ⟨q.d, q.c, q.ok, ⟨q.s.e, 0, []⟩⟩ else ⟨q.d, q.c, q.ok, ⟨q.s.e, q.s.n, [x]⟩⟩
    else ⟨q.d, q.c ++ [x], q.ok, ⟨q.s.e, q.s.n + 1, []⟩⟩
  else if wholeB (q.s.b ++ [x]) then
    match tellF (q.s.b ++ [x]) with
    | some T => ⟨joinP q.d q.c ++ [.told T], [], q.ok, ⟨q.s.e, 0, []⟩⟩
    | none => ⟨q.d, q.c, false, ⟨q.s.e, 0, []⟩⟩
  else ⟨q.d, q.c, q.ok, ⟨q.s.e, q.s.n, q.s.b ++ [x]⟩⟩
def Q20.run (q : Q20) (l : List UInt8) : Q20 := l.foldl Q20.step q
theorem Q20.run_more (q : Q20) (l : List UInt8) (x : UInt8) : q.run (l ++ [x]) = (q.run l).step x := by
  unfold Q20.run
  rw [List.foldl_append]
  rfl
theorem Q20.run_app (q : Q20) (l m : List UInt8) : q.run (l ++ m) = (q.run l).run m := by
  unfold Q20.run
  rw [List.foldl_append]
def P20.start (s : P20) : Q20 := ⟨[], [], true, s⟩
/-- What a parter keeps. -/
structure P20.Ok (s : P20) (k : Nat) : Prop where
  n : s.n ≤ k
  d : 0 < s.e → s.n ≤ s.e
  b : s.b ≠ [] → 0 < s.e ∧ s.n = s.e ∧ (s.b.headD 0) ≠ 0 ∧ s.b.length ≤ 16 * (s.b.headD 0).toNat
theorem headD_app {b : List UInt8} (h : b ≠ []) (x : UInt8) : (b ++ [x]).headD 0 = b.headD 0 := by
  cases b with
  | nil => exact absurd rfl h
  | cons _ _ => rfl
theorem u8_pos {x : UInt8} (h : x ≠ 0) : 0 < x.toNat := by
  rcases Nat.eq_zero_or_pos x.toNat with h0 | h0
  · exact absurd (UInt8.toNat_inj.1 (by rw [h0]; rfl)) h
  · exact h0
theorem Q20.step_ok {q : Q20} {k : Nat} (h : q.s.Ok k) (x : UInt8) : (q.step x).s.Ok (k + 1) := by
  have hn := h.n
  have hd := h.d
  unfold Q20.step
  by_cases hb : q.s.b = []
  · rw [if_pos hb]
    by_cases h1 : 0 < q.s.e ∧ q.s.n = q.s.e
    · rw [if_pos h1]
      by_cases hx : x = 0
      · rw [if_pos hx]; exact ⟨by simp, by simp, fun h => absurd rfl h⟩
      · rw [if_neg hx]
        refine ⟨by simp; omega, by simp; omega, fun _ => ⟨h1.1, h1.2, hx, ?_⟩⟩
        have := u8_pos hx
        show 1 ≤ 16 * x.toNat
        omega
    · rw [if_neg h1]
      refine ⟨by simp; omega, fun he => ?_, fun h => absurd rfl h⟩
      have := hd he
      simp only at *
      omega
  · rw [if_neg hb]
    obtain ⟨b1, b2, b3, b4⟩ := h.b hb
    by_cases hw : wholeB (q.s.b ++ [x])
    · rw [if_pos hw]
      split
      · exact ⟨by simp, by simp, fun h => absurd rfl h⟩
      · exact ⟨by simp, by simp, fun h => absurd rfl h⟩
    · rw [if_neg hw]
      refine ⟨by simp; omega, by simp; omega, fun _ => ⟨b1, b2, ?_, ?_⟩⟩
      · rw [headD_app hb]; exact b3
      · rw [headD_app hb]
        simp only [wholeB, headD_app hb, List.length_append, List.length_singleton, decide_eq_true_eq] at hw
        simp only [List.length_append, List.length_singleton]
        omega
theorem Q20.step_e (q : Q20) (x : UInt8) : (q.step x).s.e = q.s.e := by
  unfold Q20.step
  repeat' split
  all_goals rfl
theorem Q20.run_ok {q : Q20} {k : Nat} (h : q.s.Ok k) (l : List UInt8) : (q.run l).s.Ok (k + l.length) := by
  induction l using snoc_ind with
  | nil => exact h
  | snoc l c ih =>
    rw [Q20.run_more, List.length_append]
    exact Q20.step_ok ih c
theorem Q20.run_e (q : Q20) (l : List UInt8) : (q.run l).s.e = q.s.e := by
  induction l using snoc_ind with
  | nil => rfl
  | snoc l c ih => rw [Q20.run_more, Q20.step_e, ih]
/-- Pieces end with a title, if there are any. -/
def endsT (d : List Pc) : Prop := d = [] ∨ ∃ d' T, d = d' ++ [.told T]
theorem Q20.step_ends {q : Q20} (h : endsT q.d) (x : UInt8) : endsT (q.step x).d := by
  unfold Q20.step
  repeat' split
  all_goals first | exact h | exact .inr ⟨_, _, rfl⟩
theorem Q20.run_ends {q : Q20} (h : endsT q.d) (l : List UInt8) : endsT (q.run l).d := by
  induction l using snoc_ind with
  | nil => exact h
  | snoc l c ih => rw [Q20.run_more]; exact Q20.step_ends ih c
/-- The bytes of all sound in pieces. -/
def soundP : List Pc → List UInt8
  | [] => []
  | .snd l :: t => l ++ soundP t
  | .told _ :: t => soundP t
theorem soundP_app (a b : List Pc) : soundP (a ++ b) = soundP a ++ soundP b := by
  induction a with
  | nil => rfl
  | cons x t ih => cases x <;> simp [soundP, ih]
theorem soundP_join (d : List Pc) (c : List UInt8) : soundP (joinP d c) = soundP d ++ c := by
  unfold joinP
  split
  · rename_i h; rw [h]; simp
  · rw [soundP_app]; simp [soundP]
/-- The titles in pieces. -/
def toldP : List Pc → List (List UInt8)
  | [] => []
  | .snd _ :: t => toldP t
  | .told T :: t => T :: toldP t
theorem toldP_app (a b : List Pc) : toldP (a ++ b) = toldP a ++ toldP b := by
  induction a with
  | nil => rfl
  | cons x t ih => cases x <;> simp [toldP, ih]
theorem toldP_join (d : List Pc) (c : List UInt8) : toldP (joinP d c) = toldP d := by
  unfold joinP
  split
  · rfl
  · rw [toldP_app]; simp [toldP]
end Go.Proofs.YtebfjmjdcbeekaaDoor
