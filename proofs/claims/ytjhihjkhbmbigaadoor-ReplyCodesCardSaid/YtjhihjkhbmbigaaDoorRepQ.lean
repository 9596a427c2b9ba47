/- What bytes say first: the reply that lines may be, and a reply's own text is read as it. -/
import Derived.Test.YtjhihjkhbmbigaaDoorRepP
import Derived.Test.YtjhihjkhbmbigaaDoorReqP
namespace Go.Proofs.YtjhihjkhbmbigaaDoor
open Go
set_option linter.unusedVariables false

/-- What a line adds to a name and a number. -/
noncomputable def stepF (x : List UInt8 × Int) (l : ByteArray) : List UInt8 × Int :=
  (if Lib.hasPrefix l.data.toList name18 = true then Lib.trimPrefix l.data.toList name18 else x.1,
   if Lib.hasPrefix l.data.toList every18 = true then numF (Lib.trimPrefix l.data.toList every18) 65536 else x.2)
/-- The one reply whose lines these may be. -/
noncomputable def likelyF (ps : List ByteArray) : R18 :=
  ⟨numF (cutA (cutB (ps.getD 0 ⟨#[]⟩).data.toList 32) 32) 503, ((ps.drop 1).foldl stepF ([], 0)).1, ((ps.drop 1).foldl stepF ([], 0)).2⟩
def zero18 : R18 := ⟨0, [], 0⟩

theorem right_iff {r : R18} : rightF r = true ↔ wordsF r.c ≠ [] ∧ 0 ≤ r.ev ∧ r.ev ≤ 65536 ∧ titleF r.nm = r.nm ∧ (r.c = 200 ∨ (r.ev = 0 ∧ r.nm = [])) := by
  unfold rightF
  exact decide_eq_true_iff
theorem dec_32 {n : Int} (h : 0 ≤ n) : (32 : UInt8) ∉ Lib.itoa n := by
  rw [itoa_of h]
  have key : ∀ (l : List UInt8) (a m : Nat), Lib.decFrom a l = some m → (32 : UInt8) ∉ l := by
    intro l
    induction l with
    | nil => intro _ _ _ hb; simp at hb
    | cons x l ih =>
      intro a m h hb
      cases hd : Lib.digitVal x with
      | none => simp [Lib.decFrom, hd] at h
      | some d =>
        simp only [Lib.decFrom, hd] at h
        rcases List.mem_cons.1 hb with e | e
        · have := (digit_is hd).2.2
          rw [← e] at this
          have e2 : (32 : UInt8).toNat = 32 := rfl
          omega
        · exact ih _ _ h e
  exact key _ 0 _ (decDigits_read _)
theorem said_code (p : List UInt8) (c : Int) (hp : (32 : UInt8) ∉ p) (h0 : 0 ≤ c) (h1 : c ≤ 503) : numF (cutA (cutB (p ++ saidF c) 32) 32) 503 = c := by
  unfold saidF
  rw [(cut_join p _ 32 hp).2.1, (cut_join _ _ 32 (dec_32 h0)).1]
  exact numF_itoa h0 h1 (by omega)
theorem pre_self (p x : List UInt8) : Lib.hasPrefix (p ++ x) p = true := by
  unfold Lib.hasPrefix
  rw [List.isPrefixOf_iff_prefix]
  exact List.prefix_append p x
theorem trim_self (p x : List UInt8) : Lib.trimPrefix (p ++ x) p = x := by
  unfold Lib.trimPrefix
  rw [if_pos (pre_self p x)]
  simp
theorem step_name (x : List UInt8 × Int) (nm : List UInt8) : stepF x (ba (name18 ++ nm)) = (nm, x.2) := by
  have h : Lib.hasPrefix (name18 ++ nm) every18 = false := by simp [Lib.hasPrefix, name18, every18, List.isPrefixOf]
  unfold stepF
  rw [list_ba, if_pos (pre_self _ _), trim_self, h, if_neg (by decide)]
theorem step_every (x : List UInt8 × Int) (ev : Int) (h0 : 0 ≤ ev) (h1 : ev ≤ 65536) : stepF x (ba (every18 ++ Lib.itoa ev)) = (x.1, ev) := by
  have h : Lib.hasPrefix (every18 ++ Lib.itoa ev) name18 = false := by simp [Lib.hasPrefix, name18, every18, List.isPrefixOf]
  unfold stepF
  rw [list_ba, if_pos (pre_self _ _), trim_self, h, if_neg (by decide), numF_itoa h0 h1 (by omega)]
theorem step_cont (x : List UInt8 × Int) : stepF x (ba cont18) = x := by
  unfold stepF
  rw [list_ba, if_neg (by decide), if_neg (by decide)]
/-- A reply's own lines say it. -/
theorem likely_lines (r : R18) (h : rightF r = true) : likelyF ((linesF r).map ba) = r := by
  obtain ⟨hw, h0, h1, _, h2⟩ := right_iff.1 h
  have hc := words_codes hw
  obtain ⟨c, nm, ev⟩ := r
  dsimp only at *
  unfold linesF likelyF
  by_cases hc2 : c = 200
  · subst hc2
    simp only [ne_eq, not_true_eq_false, if_false]
    by_cases he : ev = 0
    · subst he
      simp only [if_true, List.map_cons, List.map_nil, List.getD_cons_zero, List.drop_succ_cons, List.drop_zero, List.foldl_cons, List.foldl_nil, list_ba]
      rw [step_name, said_code _ _ (by decide) (by omega) (by omega)]
    · simp only [if_neg he, List.map_cons, List.map_nil, List.getD_cons_zero, List.drop_succ_cons, List.drop_zero, List.foldl_cons, List.foldl_nil, list_ba]
      rw [step_name, step_every _ _ h0 h1, said_code _ _ (by decide) (by omega) (by omega)]
  · obtain ⟨rfl, rfl⟩ : ev = 0 ∧ nm = [] := by
      rcases h2 with e | e
      · exact absurd e hc2
      · exact e
    simp only [ne_eq, hc2, not_false_eq_true, if_true, List.map_cons, List.map_nil, List.getD_cons_zero, List.drop_succ_cons, List.drop_zero, List.foldl_cons, List.foldl_nil, list_ba]
    rw [step_cont, said_code _ _ (by decide) (by omega) (by omega)]
theorem words_hi (c : Int) : ∀ b ∈ wordsF c, b ≠ 13 := by
  rcases code_cases c with h | h
  · rcases h with rfl | rfl | rfl | rfl | rfl | rfl | rfl | rfl <;> decide
  · rw [h.1]
    intro b hb
    simp at hb
theorem words_len (c : Int) : (wordsF c).length ≤ 15 := by
  rcases code_cases c with h | h
  · rcases h with rfl | rfl | rfl | rfl | rfl | rfl | rfl | rfl <;> decide
  · rw [h.1]
    simp
theorem said_hi {c : Int} (h : 0 ≤ c) : ∀ b ∈ saidF c, b ≠ 13 := by
  intro b hb
  unfold saidF at hb
  rcases List.mem_cons.1 hb with e | hb
  · subst e; decide
  rcases List.mem_append.1 hb with hb | hb
  · exact itoa_hi h b hb
  rcases List.mem_cons.1 hb with e | hb
  · subst e; decide
  · exact words_hi c b hb
theorem ln_app {p x : List UInt8} (hp : p ≠ []) (h1 : ∀ b ∈ p, b ≠ 13) (h2 : ∀ b ∈ x, b ≠ 13) : Ln (p ++ x) :=
  ⟨by simp [hp], fun b hb => by rcases List.mem_append.1 hb with h | h; exact h1 b h; exact h2 b h⟩
theorem lines_ln (r : R18) (h : rightF r = true) : ∀ l ∈ linesF r, Ln l := by
  obtain ⟨hw, h0, h1, ht, h2⟩ := right_iff.1 h
  have hc : 0 ≤ r.c := by have := words_codes hw; omega
  have a1 : Ln (http18 ++ saidF r.c) := ln_app (by decide) (by decide) (said_hi hc)
  have a2 : Ln (icy18 ++ saidF r.c) := ln_app (by decide) (by decide) (said_hi hc)
  have a3 : Ln (name18 ++ r.nm) := ln_app (by decide) (by decide) (title_hi ht)
  have a4 : Ln (every18 ++ Lib.itoa r.ev) := ln_app (by decide) (by decide) (itoa_hi h0)
  have a5 : Ln cont18 := ⟨by decide, by decide⟩
  intro l hl
  unfold linesF at hl
  split at hl
  · simp only [List.mem_cons, List.not_mem_nil, or_false] at hl
    rcases hl with rfl | rfl
    · exact a1
    · exact a5
  split at hl
  · simp only [List.mem_cons, List.not_mem_nil, or_false] at hl
    rcases hl with rfl | rfl
    · exact a1
    · exact a3
  · simp only [List.mem_cons, List.not_mem_nil, or_false] at hl
    rcases hl with rfl | rfl | rfl
    · exact a2
    · exact a3
    · exact a4
theorem lines_ne (r : R18) : linesF r ≠ [] := by
  unfold linesF
  split
  · simp
  split <;> simp
theorem name_len {r : R18} (h : rightF r = true) : r.nm.length ≤ 60 := by
  obtain ⟨_, _, _, ht, _⟩ := right_iff.1 h
  rw [← ht]
  exact titleF_len _
theorem code_bd {r : R18} (h : rightF r = true) : 200 ≤ r.c ∧ r.c ≤ 503 := by
  obtain ⟨hw, _⟩ := right_iff.1 h
  have := words_codes hw
  omega
theorem itoa_len21 {n : Int} (h : 0 ≤ n) (h1 : n ≤ 65536) : (Lib.itoa n).length ≤ 5 := itoa_len5 h h1
theorem text_len {r : R18} (h : rightF r = true) : (textF r).length ≤ 200 := by
  have hn := name_len h
  have hc := code_bd h
  obtain ⟨hw, h0, h1, ht, h2⟩ := right_iff.1 h
  have c1 := itoa_len5 (n := r.c) (by omega) (by omega)
  have c2 := itoa_len5 (n := r.ev) h0 h1
  have c3 := words_len r.c
  have l1 : http18.length = 8 := rfl
  have l2 : icy18.length = 3 := rfl
  have l3 : cont18.length = 17 := rfl
  have l4 : name18.length = 9 := rfl
  have l5 : every18.length = 12 := rfl
  have l6 : nl18.length = 2 := rfl
  unfold textF linesF
  split
  · simp only [flowF, saidF, List.length_append, List.length_cons, List.length_nil, l1, l3, l6]; omega
  split
  · simp only [flowF, saidF, List.length_append, List.length_cons, List.length_nil, l1, l4, l6]; omega
  · simp only [flowF, saidF, List.length_append, List.length_cons, List.length_nil, l2, l4, l5, l6]; omega
/-! ### The first two line ends -/
theorem occ_take (l sub : List UInt8) (n i : Nat) : Lib.occAt (l.take n) sub i = true ↔ Lib.occAt l sub i = true ∧ sub.length ≤ n - i := by
  unfold Lib.occAt
  rw [List.drop_take, List.isPrefixOf_iff_prefix, List.isPrefixOf_iff_prefix, List.prefix_take_iff]
theorem occ_room {l sub : List UInt8} {i : Nat} (h : Lib.occAt l sub i = true) (hs : sub ≠ []) : i + sub.length ≤ l.length := by
  unfold Lib.occAt at h
  rw [List.isPrefixOf_iff_prefix] at h
  have h1 := h.length_le
  rw [List.length_drop] at h1
  have h2 : 0 < sub.length := List.length_pos_iff.2 hs
  omega
/-- Whatever stands behind a reply's text: its end is the first one. -/
theorem text_idx {r : R18} (h : rightF r = true) (tail : List UInt8) : 4 ≤ (textF r).length ∧ (∀ j, j + 4 < (textF r).length → Lib.occAt (textF r ++ tail) nn18 j = false) ∧ Lib.occAt (textF r ++ tail) nn18 ((textF r).length - 4) = true := by
  have h1 := flat_no (linesF r) tail (lines_ln r h)
  obtain ⟨h2, h3⟩ := flat_yes (linesF r) tail (lines_ne r)
  have e : textF r ++ tail = flowF (linesF r) ++ (nl18 ++ tail) := by unfold textF; simp
  have hl : (textF r).length = (flowF (linesF r)).length + 2 := by unfold textF; simp [nl18]
  rw [e, hl]
  exact ⟨by omega, fun j hj => h1 j (by omega), by rw [show (flowF (linesF r)).length + 2 - 4 = (flowF (linesF r)).length - 2 by omega]; exact h3⟩
theorem text_split {r : R18} (h : rightF r = true) : splitL ((textF r).take ((textF r).length - 4)) = (linesF r).map ba := by
  have h2 := flat_join (linesF r) (lines_ne r)
  have e : textF r = joinF (linesF r) ++ nn18 := by unfold textF; rw [h2]; simp [nl18, nn18]
  have hl : (textF r).length = (joinF (linesF r)).length + 4 := by rw [e]; simp [nn18]
  rw [hl, Nat.add_sub_cancel, e, List.take_left]
  exact split_join _ (lines_ne r) fun l hl => (lines_ln r h l hl).2
theorem text_likely {r : R18} (h : rightF r = true) : likelyF (splitL ((textF r).take ((textF r).length - 4))) = r := by
  rw [text_split h, likely_lines r h]
/-- The reply that bytes begin with, how many bytes it has, and what is wrong. -/
noncomputable def likeAt (l : List UInt8) (k : Nat) : R18 := likelyF (splitL (l.take k))
open Classical in
noncomputable def readF (l : List UInt8) : R18 × Int × Int :=
  if Lib.index (l.take 400) nn18 < 0 then (zero18, 0, if l.length < 400 then 2 else 5)
  else if rightF (likeAt l (Lib.index (l.take 400) nn18).toNat) = true ∧ textF (likeAt l (Lib.index (l.take 400) nn18).toNat) = l.take ((Lib.index (l.take 400) nn18).toNat + 4)
    then (likeAt l (Lib.index (l.take 400) nn18).toNat, ((Lib.index (l.take 400) nn18).toNat : Int) + 4, 0)
  else (zero18, 0, 3)
theorem index_no {l : List UInt8} (h : ∀ j, Lib.occAt l nn18 j = true → False) : Lib.index l nn18 = -1 :=
  Lib.index_none fun j _ => by cases e : Lib.occAt l nn18 j; rfl; exact (h j e).elim
/-- A reply's text is read as it. -/
theorem read_again {r : R18} (h : rightF r = true) (tail : List UInt8) : readF (textF r ++ tail) = (r, ((textF r).length : Int), 0) := by
  obtain ⟨h4, h1, h2⟩ := text_idx h tail
  have hl := text_len h
  have hi : Lib.index ((textF r ++ tail).take 400) nn18 = (((textF r).length - 4 : Nat) : Int) := by
    refine Lib.index_first ?_ ?_ ?_
    · rw [List.length_take, List.length_append]; omega
    · rw [occ_take]; exact ⟨h2, by show 4 ≤ _; omega⟩
    · intro j hj
      cases e : Lib.occAt ((textF r ++ tail).take 400) nn18 j
      · rfl
      · rw [occ_take, h1 j (by omega)] at e
        cases e.1
  have hk : (textF r ++ tail).take ((textF r).length - 4) = (textF r).take ((textF r).length - 4) := by
    rw [List.take_append_of_le_length (by omega)]
  have ha : likeAt (textF r ++ tail) ((textF r).length - 4) = r := by unfold likeAt; rw [hk, text_likely h]
  unfold readF
  rw [hi, if_neg (by omega), Int.toNat_natCast, ha, if_pos ⟨h, by rw [show (textF r).length - 4 + 4 = (textF r).length by omega, List.take_left]⟩]
  rw [show (((textF r).length - 4 : Nat) : Int) + 4 = ((textF r).length : Int) by omega]
/-- Cut anywhere it isn't whole. -/
theorem read_cut {r : R18} (h : rightF r = true) {k : Nat} (hk : k < (textF r).length) : readF ((textF r).take k) = (zero18, 0, 2) := by
  obtain ⟨h4, h1, h2⟩ := text_idx h []
  rw [List.append_nil] at h1 h2
  have hl := text_len h
  have hi : Lib.index (((textF r).take k).take 400) nn18 = -1 := by
    refine index_no fun j hj => ?_
    rw [List.take_take, occ_take] at hj
    have h3 : nn18.length = 4 := rfl
    rw [h1 j (by omega)] at hj
    cases hj.1
  unfold readF
  rw [hi, if_pos (by decide), if_pos (by rw [List.length_take]; omega)]
/-- The law's own end of a reply. -/
theorem read_none {l : List UInt8} (h : Lib.index l nn18 < 0 ∨ 400 < Lib.index l nn18 + 4) : readF l = (zero18, 0, if l.length < 400 then 2 else 5) := by
  have hi : Lib.index (l.take 400) nn18 = -1 := by
    refine index_no fun j hj => ?_
    rw [occ_take] at hj
    have h3 : nn18.length = 4 := rfl
    have hr := occ_room hj.1 (by decide)
    rcases Lib.index_spec l nn18 with ⟨_, h2⟩ | ⟨i, h1, h2, h4, h5⟩
    · rw [h2 j (by omega)] at hj
      cases hj.1
    · rw [h1] at h
      rw [h5 j (by omega)] at hj
      cases hj.1
  unfold readF
  rw [hi, if_pos (by decide)]
theorem read_some {l : List UInt8} {k : Nat} (h : Lib.index l nn18 = k) (hk : k + 4 ≤ 400) :
    (∃ r, readF l = (r, (k : Int) + 4, 0) ∧ rightF r = true ∧ textF r = l.take (k + 4)) ∨ (readF l = (zero18, 0, 3) ∧ ∀ r, rightF r = true → textF r ≠ l.take (k + 4)) := by
  have hh : Lib.occAt l nn18 k = true ∧ (∀ j, j < k → Lib.occAt l nn18 j = false) ∧ k ≤ l.length := by
    rcases Lib.index_spec l nn18 with ⟨h2, _⟩ | ⟨i, h1, h2, h4, h5⟩
    · omega
    · obtain rfl : i = k := by omega
      exact ⟨h4, h5, h2⟩
  obtain ⟨ho, hn, hkl⟩ := hh
  have hroom := occ_room ho (by decide)
  have h3 : nn18.length = 4 := rfl
  have hi : Lib.index (l.take 400) nn18 = (k : Int) := by
    refine Lib.index_first ?_ ?_ ?_
    · rw [List.length_take]; omega
    · rw [occ_take]; exact ⟨ho, by omega⟩
    · intro j hj
      cases e : Lib.occAt (l.take 400) nn18 j
      · rfl
      · rw [occ_take, hn j hj] at e
        cases e.1
  unfold readF
  rw [hi, if_neg (by omega), Int.toNat_natCast]
  by_cases hr : rightF (likeAt l k) = true ∧ textF (likeAt l k) = l.take (k + 4)
  · rw [if_pos hr]
    exact .inl ⟨_, rfl, hr.1, hr.2⟩
  · rw [if_neg hr]
    refine .inr ⟨rfl, fun r h1 h2 => hr ?_⟩
    have hlen : (textF r).length = k + 4 := by rw [h2, List.length_take]; omega
    have e : l.take k = (textF r).take ((textF r).length - 4) := by rw [hlen, h2, Nat.add_sub_cancel, List.take_take, Nat.min_eq_left (by omega)]
    have ha : likeAt l k = r := by unfold likeAt; rw [e, text_likely h1]
    rw [ha]
    exact ⟨h1, h2⟩
end Go.Proofs.YtjhihjkhbmbigaaDoor
