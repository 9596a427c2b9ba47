/- Plain facts of requests, for the statements of layer 17: texts cut and trimmed, first lines, headers, bytes one by one. Nothing here speaks of the program. -/
import Derived.Test.YtjhihjkhbmbigaaDoorWrdC
import Derived.Test.YtjhihjkhbmbigaaDoorWrdS
import Derived.Test.YtjhihjkhbmbigaaDoorWrdE
import Derived.Lib.CountLaws
import Derived.Lib.SplitLaws
import Derived.Lib.IndexBytes
namespace Go.Proofs.YtjhihjkhbmbigaaDoor
open Go
set_option linter.unusedVariables false

/-! ### Texts cut at a byte -/
def cutA : List UInt8 → UInt8 → List UInt8
  | [], _ => []
  | b :: l, c => if b = c then [] else b :: cutA l c
def cutB : List UInt8 → UInt8 → List UInt8
  | [], _ => []
  | b :: l, c => if b = c then l else cutB l c
def cutY : List UInt8 → UInt8 → Bool
  | [], _ => false
  | b :: l, c => if b = c then true else cutY l c
theorem cut_hit (c : UInt8) : ∀ (i : Nat) (l : List UInt8), i < l.length → l.getD i 0 = c → (∀ j, j < i → l.getD j 0 ≠ c) → cutA l c = l.take i ∧ cutB l c = l.drop (i + 1) ∧ cutY l c = true
  | _, [], h, _, _ => by simp at h
  | 0, b :: l, _, h, _ => by
    have : b = c := by simpa using h
    simp [cutA, cutB, cutY, this]
  | i + 1, b :: l, hi, h, hn => by
    have hb : ¬ b = c := by simpa using hn 0 (by omega)
    have ih := cut_hit c i l (by simpa using hi) (by simpa using h) (fun j hj => by simpa using hn (j + 1) (by omega))
    simp [cutA, cutB, cutY, hb, ih]
theorem cut_miss (c : UInt8) : ∀ (l : List UInt8), (∀ j, j < l.length → l.getD j 0 ≠ c) → cutA l c = l ∧ cutB l c = [] ∧ cutY l c = false
  | [], _ => ⟨rfl, rfl, rfl⟩
  | b :: l, hn => by
    have hb : ¬ b = c := by simpa using hn 0 (by simp)
    have ih := cut_miss c l (fun j hj => by simpa using hn (j + 1) (by simpa using hj))
    simp [cutA, cutB, cutY, hb, ih]
theorem cut_idx (l : List UInt8) (c : UInt8) : (Lib.indexByte l c = -1 ∧ cutA l c = l ∧ cutB l c = [] ∧ cutY l c = false) ∨ ∃ i : Nat, Lib.indexByte l c = i ∧ i < l.length ∧ cutA l c = l.take i ∧ cutB l c = l.drop (i + 1) ∧ cutY l c = true := by
  induction l with
  | nil => exact .inl ⟨rfl, rfl, rfl, rfl⟩
  | cons b l ih =>
    by_cases hb : b = c
    · exact .inr ⟨0, by simp [Lib.indexByte, hb], by simp, by simp [cutA, hb], by simp [cutB, hb], by simp [cutY, hb]⟩
    · rcases ih with ⟨h1, h2, h3, h4⟩ | ⟨i, h1, h2, h3, h4, h5⟩
      · exact .inl ⟨by simp [Lib.indexByte, hb, h1], by simp [cutA, hb, h2], by simp [cutB, hb, h3], by simp [cutY, hb, h4]⟩
      · refine .inr ⟨i + 1, ?_, by simpa using h2, by simp [cutA, hb, h3], by simp [cutB, hb, h4], by simp [cutY, hb, h5]⟩
        have : ¬ ((i : Nat) : Int) = -1 := by omega
        simp [Lib.indexByte, hb, h1, this]
theorem cutA_len (l : List UInt8) (c : UInt8) : (cutA l c).length ≤ l.length := by
  rcases cut_idx l c with ⟨_, h, _⟩ | ⟨i, _, _, h, _⟩ <;> rw [h]
  · omega
  · simp; omega
theorem cutB_len (l : List UInt8) (c : UInt8) : (cutB l c).length ≤ l.length := by
  rcases cut_idx l c with ⟨_, _, h, _⟩ | ⟨i, _, _, _, h, _⟩ <;> rw [h]
  · simp
  · simp
theorem cutY_mem (l : List UInt8) (c : UInt8) : cutY l c = true ↔ c ∈ l := by
  induction l with
  | nil => simp [cutY]
  | cons b l ih =>
    by_cases hb : b = c
    · simp [cutY, hb]
    · simp [cutY, hb, ih, Ne.symm hb]
theorem cut_join (l t : List UInt8) (c : UInt8) (h : c ∉ l) : cutA (l ++ c :: t) c = l ∧ cutB (l ++ c :: t) c = t ∧ cutY (l ++ c :: t) c = true := by
  induction l with
  | nil => simp [cutA, cutB, cutY]
  | cons b l ih =>
    have hb : ¬ b = c := fun e => h (by simp [e])
    have := ih (fun m => h (by simp [m]))
    simp [cutA, cutB, cutY, hb, this]

/-! ### Blanks about -/
def isB (c : UInt8) : Bool := c == 32 || c == 9
def trimL : List UInt8 → List UInt8
  | [] => []
  | b :: t => if isB b then trimL t else b :: t
def trimR : List UInt8 → List UInt8
  | [] => []
  | b :: t => if isB b && (trimR t).isEmpty then [] else b :: trimR t
def trimF (l : List UInt8) : List UInt8 := trimR (trimL l)
theorem trim_comm : ∀ l, trimL (trimR l) = trimF l
  | [] => rfl
  | b :: t => by
    have ih := trim_comm t
    unfold trimF at *
    cases hb : isB b with
    | false => simp [trimR, trimL, hb]
    | true =>
      cases he : trimR t with
      | nil =>
        rw [he] at ih
        simp [trimR, trimL, hb, he, ← ih]
      | cons x y =>
        have : trimR (b :: t) = b :: trimR t := by simp [trimR, hb, he]
        rw [this]
        simp only [trimL, hb, if_true]
        exact ih
theorem trimR_snoc (b : UInt8) : ∀ l, trimR (l ++ [b]) = if isB b then trimR l else l ++ [b]
  | [] => by cases hb : isB b <;> simp [trimR, hb]
  | x :: t => by
    have ih := trimR_snoc b t
    cases hb : isB b with
    | true =>
      simp only [hb, if_true] at ih ⊢
      simp only [List.cons_append, trimR, ih]
    | false =>
      simp only [hb, Bool.false_eq_true, if_false] at ih ⊢
      simp [List.cons_append, trimR, ih]
theorem trimL_len : ∀ l, (trimL l).length ≤ l.length
  | [] => by simp [trimL]
  | b :: t => by
    have := trimL_len t
    unfold trimL
    split <;> simp <;> omega
theorem trimR_len : ∀ l, (trimR l).length ≤ l.length
  | [] => by simp [trimR]
  | b :: t => by
    have := trimR_len t
    unfold trimR
    split <;> simp <;> omega
theorem trimF_len (l : List UInt8) : (trimF l).length ≤ l.length := Nat.le_trans (trimR_len _) (trimL_len _)
theorem last_split (l : List UInt8) (n : Nat) (h : l.length = n + 1) : l = l.take n ++ [l.getD n 0] := by
  have := List.take_succ_eq_append_getElem (show n < l.length by omega)
  rw [List.take_of_length_le (by omega)] at this
  rw [List.getD_eq_getElem?_getD, List.getElem?_eq_getElem (by omega)]
  exact this
theorem trimR_last (l : List UInt8) (n : Nat) (h : l.length = n + 1) : trimR l = if isB (l.getD n 0) then trimR (l.take n) else l := by
  have e := last_split l n h
  conv => lhs; rw [e]
  rw [trimR_snoc]
  split
  · rfl
  · exact e.symm
theorem trimL_head (l : List UInt8) (h : 0 < l.length) : trimL l = if isB (l.getD 0 0) then trimL (l.drop 1) else l := by
  match l, h with
  | b :: t, _ => simp [trimL]

/-! ### What a request asks -/
def met1 : List UInt8 := [71, 69, 84]
def met2 : List UInt8 := [83, 79, 85, 82, 67, 69]
def met3 : List UInt8 := [75, 73, 76, 76]
def met4 : List UInt8 := [83, 84, 65, 84, 83]
def ver1 : List UInt8 := [72, 84, 84, 80, 47, 49, 46, 48]
def ver2 : List UInt8 := [72, 84, 84, 80, 47, 49, 46, 49]
def ver3 : List UInt8 := [73, 67, 69, 47, 49, 46, 48]
def icyN : List UInt8 := [105, 99, 121, 45, 109, 101, 116, 97, 100, 97, 116, 97]
def autN : List UInt8 := [97, 117, 116, 104, 111, 114, 105, 122, 97, 116, 105, 111, 110]
def basN : List UInt8 := [98, 97, 115, 105, 99]
def srcN : List UInt8 := [115, 111, 117, 114, 99, 101]
def metF (l : List UInt8) : Nat := if l = met1 then 1 else if l = met2 then 2 else if l = met3 then 3 else if l = met4 then 4 else 0
def verF (l : List UInt8) : Bool := l == ver1 || (l == ver2 || l == ver3)
theorem metF_le (l : List UInt8) : metF l ≤ 4 := by unfold metF; repeat' split
                                                    all_goals omega
def pathF (m : Nat) (p : List UInt8) : Bool := if m = 4 then p == [47] else mountF p
structure Q17 where
  m : Nat
  path : List UInt8
  icy : Bool
  told : Bool
  pass : List UInt8
/-- Where a reader stands. -/
structure S17 where
  n : Nat
  line : List UInt8
  done : Bool
  err : Nat
  R : Q17
  a : Bool
  b : Bool
def s17Zero : S17 := ⟨0, [], false, 0, ⟨0, [], false, false, []⟩, false, false⟩
def firstF (l : List UInt8) : Option (Nat × List UInt8) :=
  if (cutY l 32 && cutY (cutB l 32) 32) && (verF (cutB (cutB l 32) 32) && (decide (metF (cutA l 32) ≠ 0) && pathF (metF (cutA l 32)) (cutA (cutB l 32) 32)))
  then some (metF (cutA l 32), cutA (cutB l 32) 32) else none
def passO (o : List UInt8) : Option (List UInt8) := if cutY o 58 && cutA o 58 == srcN then some (cutB o 58) else none
noncomputable def passF (v : List UInt8) : Option (List UInt8) :=
  if foldF (cutA v 32) = basN then (openA (cutB v 32)).bind passO else none
def kindF (l : List UInt8) : Nat := if foldF l = icyN then 1 else if foldF l = autN then 2 else 0
noncomputable def headF (S : S17) (l : List UInt8) : Option S17 :=
  if cutY l 58 && nameF (cutA l 58) then
    (if kindF (cutA l 58) = 1 then (if S.a then none else some { S with a := true, R := { S.R with icy := trimF (cutB l 58) == [49] } })
    else if kindF (cutA l 58) = 2 then (if S.b then none else (passF (trimF (cutB l 58))).map fun p => { S with b := true, R := { S.R with told := true, pass := p } })
    else some S)
  else none
noncomputable def lineF (S : S17) (l : List UInt8) : Option S17 :=
  if S.R.m = 0 then (firstF l).map fun q => { S with R := { S.R with m := q.1, path := q.2 } }
  else if l = [] then some { S with done := true } else headF S l
def stripF (l : List UInt8) : List UInt8 := if l.getLast? = some 13 then l.dropLast else l
/-- A byte more. -/
noncomputable def S17.feed (S : S17) (c : UInt8) : S17 :=
  if S.n = 600 then { S with err := 5 }
  else if c = 10 then (lineF { S with n := S.n + 1, line := [] } (stripF S.line)).getD { S with err := 3 }
  else { S with n := S.n + 1, line := S.line ++ [c] }
/-- As the programs go: a whole request, and a wrong one, stay. -/
noncomputable def S17.next (S : S17) (c : UInt8) : S17 := if S.done then S else if S.err ≠ 0 then S else S.feed c
def S17.Ok (S : S17) : Prop := S.n ≤ 600 ∧ S.line.length ≤ S.n
theorem s17Zero_ok : s17Zero.Ok := by refine ⟨?_, ?_⟩ <;> decide
theorem headF_keeps {S U : S17} {L : List UInt8} (h : headF S L = some U) : U.err = S.err ∧ U.line = S.line ∧ U.n = S.n ∧ U.done = S.done := by
  unfold headF at h
  repeat' split at h
  all_goals first
    | (cases h; done)
    | (injection h with h; subst h; exact ⟨rfl, rfl, rfl, rfl⟩)
    | (obtain ⟨p, _, rfl⟩ := Option.map_eq_some_iff.1 h; exact ⟨rfl, rfl, rfl, rfl⟩)
theorem lineF_keeps {S U : S17} {L : List UInt8} (h : lineF S L = some U) : U.err = S.err ∧ U.line = S.line ∧ U.n = S.n := by
  unfold lineF at h
  split at h
  · obtain ⟨p, _, rfl⟩ := Option.map_eq_some_iff.1 h
    exact ⟨rfl, rfl, rfl⟩
  · split at h
    · injection h with h
      subst h
      exact ⟨rfl, rfl, rfl⟩
    · have := headF_keeps h
      exact ⟨this.1, this.2.1, this.2.2.1⟩
theorem feed_ok {S : S17} (h : S.Ok) (c : UInt8) : (S.feed c).Ok := by
  obtain ⟨h1, h2⟩ := h
  unfold S17.feed
  split
  · exact ⟨h1, h2⟩
  · split
    · cases ho : lineF { S with n := S.n + 1, line := [] } (stripF S.line) with
      | none => exact ⟨h1, h2⟩
      | some U =>
        obtain ⟨_, e2, e3⟩ := lineF_keeps ho
        refine ⟨?_, ?_⟩
        · show U.n ≤ 600
          rw [e3]
          show S.n + 1 ≤ 600
          omega
        · show U.line.length ≤ U.n
          rw [e2]
          simp
    · refine ⟨?_, ?_⟩
      · show S.n + 1 ≤ 600
        omega
      · show (S.line ++ [c]).length ≤ S.n + 1
        simp
        omega
theorem next_ok {S : S17} (h : S.Ok) (c : UInt8) : (S.next c).Ok := by
  unfold S17.next
  repeat' split
  · exact h
  · exact h
  · exact feed_ok h c
end Go.Proofs.YtjhihjkhbmbigaaDoor
