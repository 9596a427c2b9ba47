/- Plain facts of packets in a stream, for the statements of layer 19: what a reader has of any bytes; bytes behind bytes; a packet's bytes, one by one. -/
import Derived.Test.YtfnmdaoehnafcaaPktP
namespace Go.Proofs.Ytfnmdaoehnafcaa
open Go
set_option linter.unusedVariables false

/-! ### Packets in a stream -/
/-- What was read of bytes: the packets, how many bytes were passed over, those that are left. -/
structure Rd where
  ps : List Pk
  lost : Nat
  left : List Int
noncomputable def scanF : Nat → List Int → Rd
  | 0, b => ⟨[], 0, b⟩
  | f + 1, b => if prsE b = 2 then ⟨[], 0, b⟩ else if prsE b = 0 then ⟨pkOf b :: (scanF f (b.drop (17 + lenP b))).ps, (scanF f (b.drop (17 + lenP b))).lost, (scanF f (b.drop (17 + lenP b))).left⟩
    else ⟨(scanF f (b.drop 1)).ps, (scanF f (b.drop 1)).lost + 1, (scanF f (b.drop 1)).left⟩
noncomputable def scan (b : List Int) : Rd := scanF b.length b
theorem len_pos {b : List Int} (h : prsE b ≠ 2) : 0 < b.length := by
  cases b with
  | nil => exact absurd prsE_nil h
  | cons x b => simp
theorem scanF_more {f : Nat} : ∀ {g : Nat} {b : List Int}, b.length ≤ f → b.length ≤ g → scanF f b = scanF g b := by
  induction f with
  | zero =>
    intro g b hf _
    obtain rfl : b = [] := List.eq_nil_of_length_eq_zero (by omega)
    cases g with
    | zero => rfl
    | succ g => show _ = (if _ then _ else _); rw [if_pos prsE_nil]; rfl
  | succ f ih =>
    intro g b hf hg
    by_cases h2 : prsE b = 2
    · cases g with
      | zero => show (if _ then _ else _) = _; rw [if_pos h2]; rfl
      | succ g => show (if _ then _ else _) = (if _ then _ else _); rw [if_pos h2, if_pos h2]
    · have hp := len_pos h2
      cases g with
      | zero => omega
      | succ g =>
        show (if _ then _ else _) = (if _ then _ else _)
        rw [if_neg h2, if_neg h2]
        by_cases h0 : prsE b = 0
        · rw [if_pos h0, if_pos h0, ih (g := g) (b := b.drop (17 + lenP b)) (by rw [List.length_drop]; omega) (by rw [List.length_drop]; omega)]
        · rw [if_neg h0, if_neg h0, ih (g := g) (b := b.drop 1) (by rw [List.length_drop]; omega) (by rw [List.length_drop]; omega)]
theorem scan_cut {b : List Int} (h : prsE b = 2) : scan b = ⟨[], 0, b⟩ := by
  unfold scan
  cases b with
  | nil => rfl
  | cons x b => show (if _ then _ else _) = _; rw [if_pos h]
theorem scan_ok {b : List Int} (h : prsE b = 0) : scan b = ⟨pkOf b :: (scan (b.drop (17 + lenP b))).ps, (scan (b.drop (17 + lenP b))).lost, (scan (b.drop (17 + lenP b))).left⟩ := by
  have hp := len_pos (b := b) (by omega)
  unfold scan
  rw [show scanF b.length b = scanF (b.length - 1 + 1) b by rw [Nat.sub_add_cancel hp]]
  show (if _ then _ else _) = _
  rw [if_neg (by omega), if_pos h, scanF_more (g := (b.drop (17 + lenP b)).length) (by rw [List.length_drop]; omega) (Nat.le_refl _)]
theorem scan_bad {b : List Int} (h2 : prsE b ≠ 2) (h0 : prsE b ≠ 0) : scan b = ⟨(scan (b.drop 1)).ps, (scan (b.drop 1)).lost + 1, (scan (b.drop 1)).left⟩ := by
  have hp := len_pos h2
  unfold scan
  rw [show scanF b.length b = scanF (b.length - 1 + 1) b by rw [Nat.sub_add_cancel hp]]
  show (if _ then _ else _) = _
  rw [if_neg h2, if_neg h0, scanF_more (g := (b.drop 1).length) (by rw [List.length_drop]; omega) (Nat.le_refl _)]
theorem scan_nil : scan [] = ⟨[], 0, []⟩ := rfl
/-- What is left is cut. -/
theorem scan_left : ∀ (n : Nat) (b : List Int), b.length ≤ n → prsE (scan b).left = 2 := by
  intro n
  induction n with
  | zero =>
    intro b h
    obtain rfl : b = [] := List.eq_nil_of_length_eq_zero (by omega)
    exact prsE_nil
  | succ n ih =>
    intro b h
    by_cases h2 : prsE b = 2
    · rw [scan_cut h2]; exact h2
    · have hp := len_pos h2
      by_cases h0 : prsE b = 0
      · rw [scan_ok h0]; exact ih _ (by rw [List.length_drop]; omega)
      · rw [scan_bad h2 h0]; exact ih _ (by rw [List.length_drop]; omega)
theorem scan_left_len (b : List Int) : (scan b).left.length ≤ 616 := prsE_cut (scan_left b.length b (Nat.le_refl _))
theorem scan_suffix : ∀ (n : Nat) (b : List Int), b.length ≤ n → (scan b).left.length + (scan b).lost + 17 * (scan b).ps.length ≤ b.length ∧ ∃ k, (scan b).left = b.drop k := by
  intro n
  induction n with
  | zero =>
    intro b h
    obtain rfl : b = [] := List.eq_nil_of_length_eq_zero (by omega)
    exact ⟨Nat.le_refl 0, 0, rfl⟩
  | succ n ih =>
    intro b h
    by_cases h2 : prsE b = 2
    · rw [scan_cut h2]; exact ⟨by simp, 0, rfl⟩
    · have hp := len_pos h2
      by_cases h0 : prsE b = 0
      · obtain ⟨i1, k, i2⟩ := ih (b.drop (17 + lenP b)) (by rw [List.length_drop]; omega)
        have := (prsE_ok h0).2.2.2.1
        rw [List.length_drop] at i1
        rw [scan_ok h0]
        refine ⟨?_, _, i2.trans (List.drop_drop)⟩
        simp only [List.length_cons]
        omega
      · obtain ⟨i1, k, i2⟩ := ih (b.drop 1) (by rw [List.length_drop]; omega)
        rw [List.length_drop] at i1
        rw [scan_bad h2 h0]
        exact ⟨by simp only; omega, _, i2.trans (List.drop_drop)⟩
theorem scan_byts {b : List Int} (h : Byts b) : Byts (scan b).left := by
  obtain ⟨_, k, e⟩ := scan_suffix b.length b (Nat.le_refl _)
  rw [e]; exact h.drop k
theorem scan_ok_ps : ∀ (n : Nat) (b : List Int), b.length ≤ n → Byts b → ∀ p ∈ (scan b).ps, p.Ok := by
  intro n
  induction n with
  | zero =>
    intro b h _ p hp
    obtain rfl : b = [] := List.eq_nil_of_length_eq_zero (by omega)
    rw [scan_nil] at hp; simp at hp
  | succ n ih =>
    intro b h hb p hp
    by_cases h2 : prsE b = 2
    · rw [scan_cut h2] at hp; simp at hp
    · have hl := len_pos h2
      by_cases h0 : prsE b = 0
      · rw [scan_ok h0] at hp
        rcases List.mem_cons.1 hp with rfl | hp
        · exact pkOf_ok hb
        · exact ih _ (by rw [List.length_drop]; omega) (hb.drop _) p hp
      · rw [scan_bad h2 h0] at hp
        exact ih _ (by rw [List.length_drop]; omega) (hb.drop _) p hp
/-- Bytes behind bytes: what is left of the first, and the others behind it, are read on. -/
theorem scan_app : ∀ (n : Nat) (a c : List Int), a.length ≤ n → scan (a ++ c) = ⟨(scan a).ps ++ (scan ((scan a).left ++ c)).ps, (scan a).lost + (scan ((scan a).left ++ c)).lost, (scan ((scan a).left ++ c)).left⟩ := by
  intro n
  induction n with
  | zero =>
    intro a c h
    obtain rfl : a = [] := List.eq_nil_of_length_eq_zero (by omega)
    rw [scan_nil]; simp
  | succ n ih =>
    intro a c h
    by_cases h2 : prsE a = 2
    · rw [scan_cut h2]; simp
    · have hl := len_pos h2
      have e := prsE_app (c := c) h2
      by_cases h0 : prsE a = 0
      · obtain ⟨p1, p2⟩ := pkOf_app (c := c) h0
        have q := (prsE_ok h0).2.2.2.1
        rw [scan_ok (e.trans h0), scan_ok h0, p1, p2, List.drop_append_of_le_length (by omega), ih _ c (by rw [List.length_drop]; omega)]
        rfl
      · rw [scan_bad (by omega) (by omega), scan_bad h2 h0, List.drop_append_of_le_length (by omega), ih _ c (by rw [List.length_drop]; omega)]
        simp only [Rd.mk.injEq, true_and, and_true]
        omega
theorem scan_more (a c : List Int) : scan (a ++ c) = ⟨(scan a).ps ++ (scan ((scan a).left ++ c)).ps, (scan a).lost + (scan ((scan a).left ++ c)).lost, (scan ((scan a).left ++ c)).left⟩ := scan_app a.length a c (Nat.le_refl _)
/-- On the way: the packets so far, how many were passed over so far, what is still there. -/
def OnWay (b : List Int) (ps : List Pk) (lost : Nat) (rest : List Int) : Prop := scan b = ⟨ps ++ (scan rest).ps, lost + (scan rest).lost, (scan rest).left⟩
theorem OnWay.start (b : List Int) : OnWay b [] 0 b := by unfold OnWay; simp
theorem OnWay.ok {b rest : List Int} {ps : List Pk} {lost : Nat} (h : OnWay b ps lost rest) (h0 : prsE rest = 0) : OnWay b (ps ++ [pkOf rest]) lost (rest.drop (17 + lenP rest)) := by
  unfold OnWay at h ⊢
  rw [h, scan_ok h0]; simp
theorem OnWay.bad {b rest : List Int} {ps : List Pk} {lost : Nat} (h : OnWay b ps lost rest) (h2 : prsE rest ≠ 2) (h0 : prsE rest ≠ 0) : OnWay b ps (lost + 1) (rest.drop 1) := by
  unfold OnWay at h ⊢
  rw [h, scan_bad h2 h0]
  simp only [Rd.mk.injEq, true_and, and_true]
  omega
theorem OnWay.cut {b rest : List Int} {ps : List Pk} {lost : Nat} (h : OnWay b ps lost rest) (h2 : prsE rest = 2) : scan b = ⟨ps, lost, rest⟩ := by
  unfold OnWay at h
  rw [h, scan_cut h2]; simp
theorem OnWay.nums {b rest : List Int} {ps : List Pk} {lost : Nat} (h : OnWay b ps lost rest) : 17 * ps.length + lost ≤ b.length := by
  have k := (scan_suffix b.length b (Nat.le_refl _)).1
  unfold OnWay at h
  rw [h] at k
  simp only [List.length_append] at k
  omega

/-! ### A packet's bytes, one by one -/
theorem getD_ext {a b : List Int} (hl : a.length = b.length) (h : ∀ i, i < a.length → a.getD i 0 = b.getD i 0) : a = b := by
  apply List.ext_getElem hl
  intro i h1 h2
  have := h i h1
  simpa [List.getD, h1, h2] using this
theorem front_take {b : List Int} (hb : Byts b) (hf : formP b = true) (hl : 13 ≤ b.length) (hn : 13 + lenP b ≤ b.length) : (pkOf b).front = b.take (13 + lenP b) := by
  obtain ⟨f0, f1, f2⟩ := (formP_iff b).1 hf
  have L := (lenP_bd hb).1
  have four : ∀ k, k + 4 ≤ b.length → numL (valL19 ((b.drop k).take 4)) 4 = (b.drop k).take 4 := by
    intro k hk
    have := numL_valL (b := (b.drop k).take 4) ((hb.drop _).take _)
    rwa [show ((b.drop k).take 4).length = 4 by simp; omega] at this
  have two : numL (valL19 ((b.drop 11).take 2)) 2 = (b.drop 11).take 2 := by
    have := numL_valL (b := (b.drop 11).take 2) ((hb.drop _).take _)
    rwa [show ((b.drop 11).take 2).length = 2 by simp; omega] at this
  have hpl : ((b.drop 13).take (lenP b)).length = lenP b := by simp; omega
  have h3 : [83, 66, whI (b.getD 2 0 == 1)] = b.take 3 := by
    have e : whI (b.getD 2 0 == 1) = b.getD 2 0 := by rcases f2 (by omega) with e | e <;> rw [e] <;> rfl
    rw [e]
    refine getD_ext (by simp; omega) fun i hi => ?_
    have hi : i < 3 := hi
    have g : (b.take 3).getD i 0 = b.getD i 0 := by simp [List.getD, hi]
    rw [g]
    match i, hi with
    | 0, _ => exact (f0 (by omega)).symm
    | 1, _ => exact (f1 (by omega)).symm
    | 2, _ => rfl
  unfold Pk.front
  show [83, 66, whI (b.getD 2 0 == 1)] ++ numL (valL19 ((b.drop 3).take 4)) 4 ++ numL (valL19 ((b.drop 7).take 4)) 4 ++ numL (((b.drop 13).take (lenP b)).length : Int) 2 ++ (b.drop 13).take (lenP b) = _
  rw [hpl, L, four 3 (by omega), four 7 (by omega), two, h3, ← List.take_add, ← List.take_add, ← List.take_add, ← List.take_add]
/-- The bytes are those of the packet that they tell, as far as the sum. -/
theorem bytes_agree {b : List Int} (hb : Byts b) (hf : formP b = true) (hl : 13 ≤ b.length) (hn : 17 + lenP b ≤ b.length) :
    (∀ i, i < 17 + lenP b → (pkOf b).bytes.getD i 0 = b.getD i 0) ↔ sumP b = crcP (b.take (13 + lenP b)) := by
  have F := front_take hb hf hl (by omega)
  have Fl : (pkOf b).front.length = 13 + lenP b := by rw [F]; simp; omega
  have S4 : ((b.drop (13 + lenP b)).take 4).length = 4 := by simp; omega
  have S := numL_valL (b := (b.drop (13 + lenP b)).take 4) ((hb.drop _).take _)
  rw [S4] at S
  have z := crcP_bd (b.take (13 + lenP b))
  have hB : (pkOf b).bytes = b.take (13 + lenP b) ++ numL (crcP (b.take (13 + lenP b))) 4 := by unfold Pk.bytes; rw [F]
  have hT : b.take (17 + lenP b) = b.take (13 + lenP b) ++ (b.drop (13 + lenP b)).take 4 := by rw [← List.take_add]; congr 1; omega
  have hlen : (pkOf b).bytes.length = 17 + lenP b := by rw [hB]; simp [numL_len]; omega
  constructor
  · intro h
    have e : (pkOf b).bytes = b.take (17 + lenP b) := by
      refine getD_ext (by rw [hlen]; simp; omega) fun i hi => ?_
      rw [hlen] at hi
      rw [h i hi]
      simp [List.getD, hi]
    rw [hB, hT] at e
    have e2 := List.append_cancel_left e
    unfold sumP
    rw [← e2, valL_numL, P8_four]
    omega
  · intro h i hi
    unfold sumP at h
    have e : (pkOf b).bytes = b.take (17 + lenP b) := by rw [hB, hT, ← h, S]
    rw [e]
    simp [List.getD, hi]
theorem prsE_form {b : List Int} (h : formP b = false) : prsE b = 3 := by unfold prsE; rw [if_neg (by rw [h]; decide)]
theorem prsE_few {b : List Int} (h : formP b = true) (l : b.length < 13) : prsE b = 2 := by unfold prsE; rw [if_pos h, if_pos l]
theorem prsE_long {b : List Int} (h : formP b = true) (l : 13 ≤ b.length) (m : 600 < lenP b) : prsE b = 5 := by unfold prsE; rw [if_pos h, if_neg (by omega), if_pos m]
theorem prsE_part {b : List Int} (h : formP b = true) (l : 13 ≤ b.length) (m : lenP b ≤ 600) (q : b.length < 17 + lenP b) : prsE b = 2 := by unfold prsE; rw [if_pos h, if_neg (by omega), if_neg (by omega), if_pos q]
theorem prsE_sum {b : List Int} (h : formP b = true) (l : 13 ≤ b.length) (m : lenP b ≤ 600) (q : 17 + lenP b ≤ b.length) (s : sumP b ≠ crcP (b.take (13 + lenP b))) : prsE b = 4 := by
  unfold prsE; rw [if_pos h, if_neg (by omega), if_neg (by omega), if_neg (by omega), if_neg s]
theorem prsE_all {b : List Int} (h : formP b = true) (l : 13 ≤ b.length) (m : lenP b ≤ 600) (q : 17 + lenP b ≤ b.length) (s : sumP b = crcP (b.take (13 + lenP b))) : prsE b = 0 := by
  unfold prsE; rw [if_pos h, if_neg (by omega), if_neg (by omega), if_neg (by omega), if_pos s]
end Go.Proofs.Ytfnmdaoehnafcaa
