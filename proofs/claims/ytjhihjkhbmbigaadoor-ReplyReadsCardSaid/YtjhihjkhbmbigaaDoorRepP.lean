/- Plain facts of replies, for the statements of layer 18: a reply's text, what texts say, and that a text says its own reply. Nothing here speaks of the program. -/
import Derived.Test.YtjhihjkhbmbigaaDoorWrdE
import Derived.Lib.CountLaws
import Derived.Lib.SplitLaws
import Derived.Test.YtjhihjkhbmbigaaDoorWrdN
import Derived.Lib.IndexMore
import Derived.Lib.ItoaLen
namespace Go.Proofs.YtjhihjkhbmbigaaDoor
open Go
set_option linter.unusedVariables false

/-- A reply. -/
structure R18 where
  c : Int
  nm : List UInt8
  ev : Int
/-- A code's words; none: there is no such code. -/
def wordsF (c : Int) : List UInt8 :=
  if c = 200 then [79, 75]
  else if c = 400 then [66, 97, 100, 32, 82, 101, 113, 117, 101, 115, 116]
  else if c = 401 then [85, 110, 97, 117, 116, 104, 111, 114, 105, 122, 101, 100]
  else if c = 403 then [70, 111, 114, 98, 105, 100, 100, 101, 110]
  else if c = 404 then [78, 111, 116, 32, 70, 111, 117, 110, 100]
  else if c = 408 then [82, 101, 113, 117, 101, 115, 116, 32, 84, 105, 109, 101, 111, 117, 116]
  else if c = 413 then [84, 111, 111, 32, 76, 97, 114, 103, 101]
  else if c = 503 then [85, 110, 97, 118, 97, 105, 108, 97, 98, 108, 101]
  else []
def nl18 : List UInt8 := [13, 10]
def nn18 : List UInt8 := [13, 10, 13, 10]
def http18 : List UInt8 := [72, 84, 84, 80, 47, 49, 46, 48]
def icy18 : List UInt8 := [73, 67, 89]
def cont18 : List UInt8 := [67, 111, 110, 116, 101, 110, 116, 45, 76, 101, 110, 103, 116, 104, 58, 32, 48]
def name18 : List UInt8 := [105, 99, 121, 45, 110, 97, 109, 101, 58]
def every18 : List UInt8 := [105, 99, 121, 45, 109, 101, 116, 97, 105, 110, 116, 58]
def saidF (c : Int) : List UInt8 := 32 :: (Lib.itoa c ++ 32 :: wordsF c)
/-- A reply's lines, but for the empty one. -/
def linesF (r : R18) : List (List UInt8) :=
  if r.c ≠ 200 then [http18 ++ saidF r.c, cont18]
  else if r.ev = 0 then [http18 ++ saidF r.c, name18 ++ r.nm]
  else [icy18 ++ saidF r.c, name18 ++ r.nm, every18 ++ Lib.itoa r.ev]
def flowF : List (List UInt8) → List UInt8
  | [] => []
  | l :: ls => l ++ (nl18 ++ flowF ls)
/-- A reply's text. -/
def textF (r : R18) : List UInt8 := flowF (linesF r) ++ nl18
/-- May a reply be? -/
def rightF (r : R18) : Bool := decide (wordsF r.c ≠ [] ∧ 0 ≤ r.ev ∧ r.ev ≤ 65536 ∧ titleF r.nm = r.nm ∧ (r.c = 200 ∨ (r.ev = 0 ∧ r.nm = [])))

theorem flat_append : ∀ a b, flowF (a ++ b) = flowF a ++ flowF b
  | [], b => rfl
  | l :: a, b => by
    show l ++ (nl18 ++ flowF (a ++ b)) = l ++ (nl18 ++ flowF a) ++ flowF b
    rw [flat_append a b]
    simp
/-! ### Codes -/
theorem code_cases (c : Int) : (c = 200 ∨ c = 400 ∨ c = 401 ∨ c = 403 ∨ c = 404 ∨ c = 408 ∨ c = 413 ∨ c = 503) ∨ (wordsF c = [] ∧ c ≠ 200 ∧ c ≠ 400 ∧ c ≠ 401 ∧ c ≠ 403 ∧ c ≠ 404 ∧ c ≠ 408 ∧ c ≠ 413 ∧ c ≠ 503) := by
  by_cases h : c = 200 ∨ c = 400 ∨ c = 401 ∨ c = 403 ∨ c = 404 ∨ c = 408 ∨ c = 413 ∨ c = 503
  · exact .inl h
  · refine .inr ⟨?_, by omega⟩
    unfold wordsF
    repeat rw [if_neg (by omega)]
theorem words_codes {c : Int} (h : wordsF c ≠ []) : c = 200 ∨ c = 400 ∨ c = 401 ∨ c = 403 ∨ c = 404 ∨ c = 408 ∨ c = 413 ∨ c = 503 := by
  rcases code_cases c with h1 | h1
  · exact h1
  · exact absurd h1.1 h
/-! ### Bytes of titles and numbers -/
theorem enc_hi {r : Nat} (h : okR r) (h2 : 32 ≤ r) : ∀ b ∈ Lib.encodeRune (r : Int), b ≠ 13 := by
  have key : ∀ x : Int, 32 ≤ x → x < 256 → x.toNat.toUInt8 ≠ 13 := by
    intro x h0 h1 e
    have := byte_of x (by omega) h1
    rw [e] at this
    have e2 : (13 : UInt8).toNat = 13 := rfl
    omega
  intro b hb
  unfold Lib.encodeRune at hb
  obtain ⟨x, hx, rfl⟩ := List.mem_map.1 hb
  have hr : (r : Int) ≤ 1114111 := by rcases h with h | h <;> omega
  have : 32 ≤ x ∧ x < 256 := by
    unfold Lib.encodeRuneZ at hx
    split at hx
    · simp at hx; omega
    split at hx
    · simp at hx; omega
    split at hx
    · simp at hx; omega
    split at hx
    · simp at hx; omega
    · simp at hx; omega
  exact key x this.1 this.2
theorem enc_his : ∀ rs : List Nat, (∀ r ∈ rs, okR r ∧ 32 ≤ r) → ∀ b ∈ enc rs, b ≠ 13
  | [], _, b, hb => by simp [enc] at hb
  | r :: rs, h, b, hb => by
    rw [enc_cons] at hb
    rcases List.mem_append.1 hb with h1 | h1
    · exact enc_hi (h r (by simp)).1 (h r (by simp)).2 b h1
    · exact enc_his rs (fun x hx => h x (by simp [hx])) b h1
theorem title_hi {l : List UInt8} (h : titleF l = l) : ∀ b ∈ l, b ≠ 13 := by
  rw [← h, titleF_eq]
  exact enc_his _ fun r hr => ⟨(titleR_ok l r hr).1, by have := (titleR_ok l r hr).2.2; omega⟩
theorem dec_hi (u : Nat) : ∀ b ∈ Lib.decDigits u, b ≠ 13 := by
  have key : ∀ (l : List UInt8) (a n : Nat), Lib.decFrom a l = some n → ∀ b ∈ l, b ≠ 13 := by
    intro l
    induction l with
    | nil => intro _ _ _ b hb; simp at hb
    | cons x l ih =>
      intro a n h b hb
      cases hd : Lib.digitVal x with
      | none => simp [Lib.decFrom, hd] at h
      | some d =>
        simp only [Lib.decFrom, hd] at h
        rcases List.mem_cons.1 hb with e | e
        · subst e
          have := (digit_is hd).2.2
          intro e
          rw [e] at this
          have e2 : (13 : UInt8).toNat = 13 := rfl
          omega
        · exact ih _ _ h b e
  exact key _ 0 u (decDigits_read u)
theorem itoa_of {n : Int} (h : 0 ≤ n) : Lib.itoa n = Lib.decDigits n.toNat := by
  unfold Lib.itoa
  rw [if_neg (by omega)]
theorem itoa_hi {n : Int} (h : 0 ≤ n) : ∀ b ∈ Lib.itoa n, b ≠ 13 := by
  rw [itoa_of h]
  exact dec_hi _
theorem itoa_ne {n : Int} (h : 0 ≤ n) : Lib.itoa n ≠ [] := by
  rw [itoa_of h]
  exact decDigits_ne _
theorem itoa_len5 {n : Int} (h : 0 ≤ n) (h1 : n ≤ 65536) : (Lib.itoa n).length ≤ 5 := by
  rw [itoa_of h, Lib.decDigits_length]
  rcases Nat.eq_zero_or_pos n.toNat with e | e
  · rw [e, Lib.nDigits_small (by omega)]; omega
  · have := nDigits_lo _ e
    by_cases k : Lib.nDigits n.toNat ≤ 5
    · exact k
    · exfalso
      have h2 : 10 ^ 5 ≤ 10 ^ (Lib.nDigits n.toNat - 1) := Nat.pow_le_pow_right (by omega) (by omega)
      have h3 : (10 : Nat) ^ 5 = 100000 := rfl
      omega
theorem numF_dec (u : Nat) (most : Int) (h : (u : Int) ≤ most) (hm : u < 9223372036854775808) : numF (Lib.decDigits u) most = u := by
  unfold numF
  rw [if_neg, decDigits_read]
  · simp only
    rw [if_neg (by omega)]
  · have := nDigits_19 u hm
    rintro (h1 | h1 | h1 | h1)
    · exact decDigits_ne u h1
    · exact decDigits_long u h1.1 h1.2
    · rw [Lib.decDigits_length] at h1
      omega
    · omega
theorem numF_itoa {n most : Int} (h : 0 ≤ n) (h1 : n ≤ most) (hm : n < 9223372036854775808) : numF (Lib.itoa n) most = n := by
  rw [itoa_of h, numF_dec _ _ (by omega) (by omega)]
  omega
/-! ### Where two line ends stand -/
def Ln (l : List UInt8) : Prop := l ≠ [] ∧ ∀ b ∈ l, b ≠ 13
theorem occ_no {s sub : List UInt8} {i : Nat} {c : UInt8} {t : List UInt8} (hs : sub = c :: t) (h : s[i]? ≠ some c) : Lib.occAt s sub i = false := by
  unfold Lib.occAt
  rw [hs]
  cases hd : s.drop i with
  | nil => rfl
  | cons b l =>
    have : s[i]? = some b := by
      have := List.getElem?_drop (xs := s) (i := i) (j := 0)
      rw [hd] at this
      simpa using this.symm
    rw [this] at h
    have hb : (c == b) = false := by
      rw [beq_eq_false_iff_ne]
      intro e
      exact h (by rw [e])
    simp [List.isPrefixOf, hb]
theorem occ_drop (a s sub : List UInt8) (i : Nat) : Lib.occAt (a ++ s) sub (a.length + i) = Lib.occAt s sub i := by
  unfold Lib.occAt
  rw [List.drop_append, List.drop_eq_nil_of_le (by omega)]
  simp
theorem occ_in {l x sub : List UInt8} {c : UInt8} {t : List UInt8} (hs : sub = c :: t) (h : ∀ b ∈ l, b ≠ c) {j : Nat} (hj : j < l.length) : Lib.occAt (l ++ x) sub j = false := by
  refine occ_no hs ?_
  rw [List.getElem?_append_left hj]
  intro e
  exact h _ (List.mem_of_getElem? e) rfl
/-- No two line ends stand in lines but behind the last one. -/
theorem flat_no : ∀ (ls : List (List UInt8)) (tail : List UInt8), (∀ l ∈ ls, Ln l) → ∀ j, j + 2 < (flowF ls).length → Lib.occAt (flowF ls ++ (nl18 ++ tail)) nn18 j = false
  | [], _, _, j, h => by simp [flowF] at h
  | l :: ls, tail, hl, j, h => by
    have hlen : (flowF (l :: ls)).length = l.length + (2 + (flowF ls).length) := by simp [flowF, nl18]; omega
    rw [hlen] at h
    have e : flowF (l :: ls) ++ (nl18 ++ tail) = l ++ (13 :: 10 :: (flowF ls ++ (nl18 ++ tail))) := by simp [flowF, nl18]
    rw [e]
    by_cases h1 : j < l.length
    · exact occ_in rfl (hl l (by simp)).2 h1
    obtain ⟨i, rfl⟩ : ∃ i, j = l.length + i := ⟨j - l.length, by omega⟩
    rw [occ_drop]
    match i, h with
    | 0, h =>
      cases ls with
      | nil => simp [flowF] at h
      | cons m ms =>
        have hm := hl m (by simp)
        cases m with
        | nil => exact absurd rfl hm.1
        | cons b m =>
          have hb : b ≠ 13 := hm.2 b (by simp)
          have hb2 : ((13 : UInt8) == b) = false := by rw [beq_eq_false_iff_ne]; exact hb.symm
          show Lib.occAt (13 :: 10 :: (b :: (m ++ (nl18 ++ flowF ms)) ++ (nl18 ++ tail))) nn18 0 = false
          unfold Lib.occAt nn18
          simp [List.isPrefixOf, hb2]
    | 1, h => exact occ_no (c := 13) (t := [10, 13, 10]) rfl (by simp)
    | i + 2, h =>
      have := occ_drop [13, 10] (flowF ls ++ (nl18 ++ tail)) nn18 i
      rw [show ([13, 10] : List UInt8).length + i = i + 2 by simp; omega] at this
      exact this.trans (flat_no ls tail (fun x hx => hl x (by simp [hx])) i (by omega))
theorem flat_yes : ∀ (ls : List (List UInt8)) (tail : List UInt8), ls ≠ [] → 2 ≤ (flowF ls).length ∧ Lib.occAt (flowF ls ++ (nl18 ++ tail)) nn18 ((flowF ls).length - 2) = true
  | [], _, h => absurd rfl h
  | [l], tail, _ => by
    have hlen : (flowF [l]).length = l.length + 2 := by simp [flowF, nl18]
    refine ⟨by omega, ?_⟩
    rw [hlen, show flowF [l] ++ (nl18 ++ tail) = l ++ (13 :: 10 :: 13 :: 10 :: tail) by simp [flowF, nl18], Nat.add_sub_cancel]
    have := occ_drop l (13 :: 10 :: 13 :: 10 :: tail) nn18 0
    rw [Nat.add_zero] at this
    rw [this]
    simp [Lib.occAt, nn18, List.isPrefixOf]
  | l :: m :: ms, tail, _ => by
    obtain ⟨h1, h2⟩ := flat_yes (m :: ms) tail (by simp)
    have hlen : (flowF (l :: m :: ms)).length = l.length + 2 + (flowF (m :: ms)).length := by
      rw [show flowF (l :: m :: ms) = l ++ (nl18 ++ flowF (m :: ms)) from rfl]
      simp [nl18]; omega
    refine ⟨by omega, ?_⟩
    have e : flowF (l :: m :: ms) ++ (nl18 ++ tail) = (l ++ nl18) ++ (flowF (m :: ms) ++ (nl18 ++ tail)) := by
      rw [show flowF (l :: m :: ms) = l ++ (nl18 ++ flowF (m :: ms)) from rfl]
      simp
    have := occ_drop (l ++ nl18) (flowF (m :: ms) ++ (nl18 ++ tail)) nn18 ((flowF (m :: ms)).length - 2)
    rw [e, hlen, show l.length + 2 + (flowF (m :: ms)).length - 2 = (l ++ nl18).length + ((flowF (m :: ms)).length - 2) by simp [nl18]; omega, this, h2]
/-! ### Lines parted -/
def joinF : List (List UInt8) → List UInt8
  | [] => []
  | [l] => l
  | l :: m :: ms => l ++ (nl18 ++ joinF (m :: ms))
theorem flat_join : ∀ ls : List (List UInt8), ls ≠ [] → flowF ls = joinF ls ++ nl18
  | [], h => absurd rfl h
  | [l], _ => by simp [flowF, joinF]
  | l :: m :: ms, _ => by
    rw [show flowF (l :: m :: ms) = l ++ (nl18 ++ flowF (m :: ms)) from rfl, show joinF (l :: m :: ms) = l ++ (nl18 ++ joinF (m :: ms)) from rfl, flat_join (m :: ms) (by simp)]
    simp
def splitL (l : List UInt8) : List ByteArray := Lib.splitB (ba nl18) 0 (Lib.countB (ba l) (ba nl18)) (ba l)
theorem idx_ba (l m : List UInt8) : Lib.indexB (ba l) (ba m) = Lib.index l m := rfl
theorem idx_line {l : List UInt8} (h : ∀ b ∈ l, b ≠ 13) : Lib.index l nl18 = -1 := by
  refine Lib.index_none fun j hj => occ_no (c := 13) (t := [10]) rfl ?_
  intro e
  exact h _ (List.mem_of_getElem? e) rfl
theorem idx_lines {l x : List UInt8} (h : ∀ b ∈ l, b ≠ 13) : Lib.index (l ++ (nl18 ++ x)) nl18 = l.length := by
  refine Lib.index_first (i := l.length) (by simp) ?_ fun j hj => occ_in (c := 13) (t := [10]) rfl h hj
  have := occ_drop l (nl18 ++ x) nl18 0
  rw [Nat.add_zero] at this
  rw [this]
  simp [Lib.occAt, nl18, List.isPrefixOf]
theorem split_join : ∀ ls : List (List UInt8), ls ≠ [] → (∀ l ∈ ls, ∀ b ∈ l, b ≠ 13) → splitL (joinF ls) = ls.map ba
  | [], h, _ => absurd rfl h
  | [l], _, hl => by
    have h := idx_line (hl l (by simp))
    unfold splitL
    rw [show joinF [l] = l from rfl, Lib.splitB_miss _ _ _ _ (by rw [idx_ba]; exact h)]
    rfl
  | l :: m :: ms, _, hl => by
    have ih := split_join (m :: ms) (by simp) (fun x hx => hl x (by simp [hx]))
    have h := idx_lines (x := joinF (m :: ms)) (hl l (by simp))
    have hj : joinF (l :: m :: ms) = l ++ (nl18 ++ joinF (m :: ms)) := rfl
    have hi : Lib.indexB (ba (joinF (l :: m :: ms))) (ba nl18) = l.length := by rw [idx_ba, hj]; exact h
    have hex : (ba (joinF (l :: m :: ms))).extract (l.length + (ba nl18).size) (ba (joinF (l :: m :: ms))).size = ba (joinF (m :: ms)) := by
      refine ba_of ?_
      rw [Lib.extract_data, list_ba, ba_size, ba_size, hj]
      rw [show l ++ (nl18 ++ joinF (m :: ms)) = (l ++ nl18) ++ joinF (m :: ms) by simp, show l.length + nl18.length = (l ++ nl18).length by simp, List.drop_left]
      rw [List.take_of_length_le]
      rw [List.length_append]
      omega
    have h0 : (ba (joinF (l :: m :: ms))).extract 0 (l.length + 0) = ba l := by
      refine ba_of ?_
      rw [Lib.extract_data, list_ba, hj]
      simp
    unfold splitL
    rw [Lib.countB_hit _ _ _ (by decide) hi, hex, Nat.add_comm, Lib.splitB_hit _ _ _ _ _ hi, h0, hex, List.map_cons]
    exact congrArg _ ih
end Go.Proofs.YtjhihjkhbmbigaaDoor
