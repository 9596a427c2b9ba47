/- Plain facts of packets as bytes, for the statements of layer 19: a number's bytes, a packet's bytes, what bytes begin with, packets in a stream. Nothing here speaks of the program. -/
import Derived.Test.YtfnmdaoehnafcaaCheP
namespace Go.Proofs.Ytfnmdaoehnafcaa
open Go
set_option linter.unusedVariables false

/-! ### A number's bytes, the lowest first -/
def numL : Int → Nat → List Int
  | _, 0 => []
  | n, k + 1 => n % 256 :: numL (n / 256) k
/-- The number that bytes are. -/
def valL19 : List Int → Int
  | [] => 0
  | x :: xs => x + 256 * valL19 xs
def P8 (k : Nat) : Int := 256 ^ k
theorem P8_zero : P8 0 = 1 := rfl
theorem P8_succ (k : Nat) : P8 (k + 1) = 256 * P8 k := by unfold P8; rw [Int.pow_succ, Int.mul_comm]
theorem P8_pos (k : Nat) : 0 < P8 k := Int.pow_pos (by decide)
theorem numL_len (n : Int) (k : Nat) : (numL n k).length = k := by
  induction k generalizing n with
  | zero => rfl
  | succ k ih => simp [numL, ih]
theorem numL_snoc (n : Int) (k : Nat) : numL n (k + 1) = numL n k ++ [n / P8 k % 256] := by
  induction k generalizing n with
  | zero => simp [numL, P8_zero]
  | succ k ih =>
    show n % 256 :: numL (n / 256) (k + 1) = (n % 256 :: numL (n / 256) k) ++ [n / P8 (k + 1) % 256]
    rw [ih, P8_succ, Int.ediv_ediv_of_nonneg (by decide)]
    rfl
/-- Bytes: each of 0 to 255. -/
def Byts (b : List Int) : Prop := ∀ x ∈ b, 0 ≤ x ∧ x ≤ 255
theorem Byts.nil : Byts [] := fun x h => by simp at h
theorem Byts.cons {x : Int} {b : List Int} (h : Byts (x :: b)) : (0 ≤ x ∧ x ≤ 255) ∧ Byts b := ⟨h x (by simp), fun y hy => h y (by simp [hy])⟩
theorem Byts.app {b c : List Int} (h : Byts b) (k : Byts c) : Byts (b ++ c) := fun x hx => (List.mem_append.1 hx).elim (h x) (k x)
theorem Byts.drop {b : List Int} (h : Byts b) (k : Nat) : Byts (b.drop k) := fun x hx => h x (List.mem_of_mem_drop hx)
theorem Byts.take {b : List Int} (h : Byts b) (k : Nat) : Byts (b.take k) := fun x hx => h x (List.mem_of_mem_take hx)
theorem Byts.getD {b : List Int} (h : Byts b) (j : Nat) : 0 ≤ b.getD j 0 ∧ b.getD j 0 ≤ 255 := by
  rcases Nat.lt_or_ge j b.length with hj | hj
  · have e : b.getD j 0 = b[j] := by simp [List.getD, hj]
    rw [e]; exact h _ (List.getElem_mem hj)
  · have e : b.getD j 0 = 0 := by simp [List.getD, hj]
    rw [e]; decide
theorem numL_byts (n : Int) (k : Nat) : Byts (numL n k) := by
  induction k generalizing n with
  | zero => exact .nil
  | succ k ih =>
    intro x hx
    rcases List.mem_cons.1 hx with rfl | hx
    · omega
    · exact ih _ x hx
theorem valL_bd {b : List Int} (h : Byts b) : 0 ≤ valL19 b ∧ valL19 b < P8 b.length := by
  induction b with
  | nil => exact ⟨Int.le_refl 0, by show (0 : Int) < 1; decide⟩
  | cons x b ih =>
    obtain ⟨h1, h2⟩ := h.cons
    obtain ⟨i1, i2⟩ := ih h2
    show 0 ≤ x + 256 * valL19 b ∧ x + 256 * valL19 b < P8 (b.length + 1)
    rw [P8_succ]; omega
theorem P8_four : P8 4 = 4294967296 := by decide
theorem P8_two : P8 2 = 65536 := by decide
/-- A number comes back of its bytes. -/
theorem valL_numL (n : Int) (k : Nat) : valL19 (numL n k) = n % P8 k := by
  induction k generalizing n with
  | zero => simp [numL, valL19, P8_zero]
  | succ k ih =>
    show n % 256 + 256 * valL19 (numL (n / 256) k) = n % P8 (k + 1)
    rw [ih, P8_succ]
    have h1 := Int.emod_add_mul_ediv n 256
    have h2 := Int.emod_add_mul_ediv (n / 256) (P8 k)
    have h3 := Int.emod_nonneg (n / 256) (Int.ne_of_gt (P8_pos k))
    have h4 := Int.emod_lt_of_pos (n / 256) (P8_pos k)
    have h5 := P8_pos k
    generalize hq : n / 256 / P8 k = q at h2
    generalize hr : n / 256 % P8 k = r at h2 h3 h4 ⊢
    generalize hp : P8 k = p at h2 h3 h4 h5 ⊢
    have e : n = (n % 256 + 256 * r) + (256 * p) * q := by rw [Int.mul_assoc]; omega
    have hz : 0 ≤ n % 256 + 256 * r := by omega
    have hl : n % 256 + 256 * r < 256 * p := by omega
    generalize n % 256 = z at e hz hl ⊢
    rw [e, Int.add_mul_emod_self_left, Int.emod_eq_of_lt hz hl]
/-- Bytes come back of their number. -/
theorem numL_valL {b : List Int} (h : Byts b) : numL (valL19 b) b.length = b := by
  induction b with
  | nil => rfl
  | cons x b ih =>
    obtain ⟨h1, h2⟩ := h.cons
    show (x + 256 * valL19 b) % 256 :: numL ((x + 256 * valL19 b) / 256) b.length = x :: b
    rw [show (x + 256 * valL19 b) % 256 = x by omega, show (x + 256 * valL19 b) / 256 = valL19 b by omega, ih h2]
theorem valL_drop {b : List Int} {k : Nat} (h : k < b.length) : valL19 (b.drop k) = b.getD k 0 + 256 * valL19 (b.drop (k + 1)) := by
  rw [List.drop_eq_getElem_cons h]
  show b[k] + 256 * valL19 (b.drop (k + 1)) = _
  simp [List.getD, h]
theorem valL_over {b : List Int} {k : Nat} (h : b.length ≤ k) : valL19 (b.drop k) = 0 := by rw [List.drop_eq_nil_of_le h]; rfl

/-! ### A packet -/
structure Pk where
  ep : Int
  nu : Int
  wh : Bool
  pl : List Int
structure Pk.Ok (p : Pk) : Prop where
  e : 0 ≤ p.ep ∧ p.ep ≤ 4294967295
  n : 0 ≤ p.nu ∧ p.nu ≤ 4294967295
  b : Byts p.pl
/-- The third byte. -/
def whI (b : Bool) : Int := if b then 1 else 0
/-- A packet's bytes but for the sum. -/
def Pk.front (p : Pk) : List Int := [83, 66, whI p.wh] ++ numL p.ep 4 ++ numL p.nu 4 ++ numL (p.pl.length : Int) 2 ++ p.pl
noncomputable def Pk.bytes (p : Pk) : List Int := p.front ++ numL (crcP p.front) 4
theorem Pk.front_len (p : Pk) : p.front.length = 13 + p.pl.length := by simp [Pk.front, numL_len]; omega
theorem Pk.bytes_len (p : Pk) : p.bytes.length = 17 + p.pl.length := by simp [Pk.bytes, Pk.front_len, numL_len]; omega
theorem Pk.front_byts {p : Pk} (h : Byts p.pl) : Byts p.front := by
  unfold Pk.front
  refine ((((Byts.app ?_ (numL_byts _ _)).app (numL_byts _ _)).app (numL_byts _ _)).app h)
  intro x hx
  simp only [List.mem_cons, List.not_mem_nil, or_false] at hx
  rcases hx with rfl | rfl | rfl
  · decide
  · decide
  · unfold whI; split <;> decide
theorem Pk.bytes_byts {p : Pk} (h : Byts p.pl) : Byts p.bytes := (Pk.front_byts h).app (numL_byts _ _)

/-! ### What bytes begin with -/
/-- How many bytes the payload has, as it is told. -/
def lenP (b : List Int) : Nat := (valL19 ((b.drop 11).take 2)).toNat
def formP (b : List Int) : Bool := (b.length == 0 || b.getD 0 0 == 83) && ((decide (b.length ≤ 1) || b.getD 1 0 == 66) && (decide (b.length ≤ 2) || (b.getD 2 0 == 0 || b.getD 2 0 == 1)))
/-- The sum that is told. -/
def sumP (b : List Int) : Int := valL19 ((b.drop (13 + lenP b)).take 4)
/-- What is wrong: 0, nothing. -/
noncomputable def prsE (b : List Int) : Int :=
  if formP b = true then if b.length < 13 then 2 else if 600 < lenP b then 5 else if b.length < 17 + lenP b then 2 else if sumP b = crcP (b.take (13 + lenP b)) then 0 else 4
  else 3
/-- The packet, if nothing is wrong. -/
def pkOf (b : List Int) : Pk := ⟨valL19 ((b.drop 3).take 4), valL19 ((b.drop 7).take 4), b.getD 2 0 == 1, (b.drop 13).take (lenP b)⟩
theorem lenP_bd {b : List Int} (h : Byts b) : (lenP b : Int) = valL19 ((b.drop 11).take 2) ∧ lenP b < 65536 := by
  have h1 := valL_bd (b := (b.drop 11).take 2) ((h.drop _).take _)
  have h2 : P8 ((b.drop 11).take 2).length ≤ 65536 := by
    have : ((b.drop 11).take 2).length ≤ 2 := by simp; omega
    have : ((b.drop 11).take 2).length = 0 ∨ ((b.drop 11).take 2).length = 1 ∨ ((b.drop 11).take 2).length = 2 := by omega
    rcases this with e | e | e <;> rw [e] <;> decide
  unfold lenP
  omega
theorem pkOf_ok {b : List Int} (h : Byts b) : (pkOf b).Ok := by
  have four : ∀ k, 0 ≤ valL19 ((b.drop k).take 4) ∧ valL19 ((b.drop k).take 4) ≤ 4294967295 := by
    intro k
    have h1 := valL_bd (b := (b.drop k).take 4) ((h.drop _).take _)
    have h2 : P8 ((b.drop k).take 4).length ≤ 4294967296 := by
      have : ((b.drop k).take 4).length ≤ 4 := by simp; omega
      have : ((b.drop k).take 4).length = 0 ∨ ((b.drop k).take 4).length = 1 ∨ ((b.drop k).take 4).length = 2 ∨ ((b.drop k).take 4).length = 3 ∨ ((b.drop k).take 4).length = 4 := by omega
      rcases this with e | e | e | e | e <;> rw [e] <;> decide
    omega
  exact ⟨four 3, four 7, (h.drop _).take _⟩
theorem formP_nil : formP [] = true := rfl
theorem prsE_nil : prsE [] = 2 := by unfold prsE; rw [if_pos formP_nil, if_pos (by decide)]
theorem prsE_cases (b : List Int) : prsE b = 0 ∨ prsE b = 2 ∨ prsE b = 3 ∨ prsE b = 4 ∨ prsE b = 5 := by
  unfold prsE
  repeat' split
  all_goals simp
theorem prsE_cut {b : List Int} (h : prsE b = 2) : b.length ≤ 616 := by
  unfold prsE at h
  split at h
  · split at h
    · omega
    · split at h
      · omega
      · split at h
        · omega
        · split at h <;> omega
  · omega
theorem prsE_ok {b : List Int} (h : prsE b = 0) : formP b = true ∧ 13 ≤ b.length ∧ lenP b ≤ 600 ∧ 17 + lenP b ≤ b.length ∧ sumP b = crcP (b.take (13 + lenP b)) := by
  unfold prsE at h
  split at h
  · split at h
    · omega
    · split at h
      · omega
      · split at h
        · omega
        · split at h
          · exact ⟨by assumption, by omega, by omega, by omega, by assumption⟩
          · omega
  · omega
theorem lenP_app {a c : List Int} (h : 13 ≤ a.length) : lenP (a ++ c) = lenP a := by
  unfold lenP
  rw [List.drop_append_of_le_length (by omega), List.take_append_of_le_length (by simp; omega)]
theorem getD_app_left {a c : List Int} {j : Nat} (h : j < a.length) : (a ++ c).getD j 0 = a.getD j 0 := by simp [List.getD, List.getElem?_append, h]
theorem formP_iff (b : List Int) : formP b = true ↔ (0 < b.length → b.getD 0 0 = 83) ∧ (1 < b.length → b.getD 1 0 = 66) ∧ (2 < b.length → b.getD 2 0 = 0 ∨ b.getD 2 0 = 1) := by
  unfold formP
  simp only [Bool.and_eq_true, Bool.or_eq_true, beq_iff_eq, decide_eq_true_eq]
  constructor
  · rintro ⟨h1, h2, h3⟩
    exact ⟨fun h => h1.resolve_left (by omega), fun h => h2.resolve_left (by omega), fun h => h3.resolve_left (by omega)⟩
  · rintro ⟨h1, h2, h3⟩
    refine ⟨?_, ?_, ?_⟩
    · by_cases h : b.length = 0
      · exact .inl h
      · exact .inr (h1 (by omega))
    · by_cases h : b.length ≤ 1
      · exact .inl h
      · exact .inr (h2 (by omega))
    · by_cases h : b.length ≤ 2
      · exact .inl h
      · exact .inr (h3 (by omega))
/-- What isn't cut stays so, whatever stands behind it. -/
theorem formP_app {a c : List Int} (h : formP a = false) : formP (a ++ c) = false := by
  rw [Bool.eq_false_iff] at h ⊢
  intro k
  apply h
  rw [formP_iff] at k ⊢
  rw [List.length_append] at k
  refine ⟨fun l => ?_, fun l => ?_, fun l => ?_⟩
  · rw [← getD_app_left (c := c) l]; exact k.1 (by omega)
  · rw [← getD_app_left (c := c) l]; exact k.2.1 (by omega)
  · rw [← getD_app_left (c := c) l]; exact k.2.2 (by omega)
theorem formP_long {a c : List Int} (l : 13 ≤ a.length) : formP (a ++ c) = formP a := by
  rw [Bool.eq_iff_iff, formP_iff, formP_iff, List.length_append, getD_app_left (by omega), getD_app_left (by omega), getD_app_left (by omega)]
  have e0 : (0 < a.length + c.length) = (0 < a.length) := by simp; omega
  have e1 : (1 < a.length + c.length) = (1 < a.length) := by simp; omega
  have e2 : (2 < a.length + c.length) = (2 < a.length) := by simp; omega
  rw [e0, e1, e2]
theorem prsE_app {a c : List Int} (h : prsE a ≠ 2) : prsE (a ++ c) = prsE a := by
  by_cases f : formP a = true
  · unfold prsE at h ⊢
    rw [if_pos f] at h ⊢
    by_cases l : a.length < 13
    · rw [if_pos l] at h; exact absurd rfl h
    · rw [if_neg l] at h ⊢
      have e := lenP_app (a := a) (c := c) (by omega)
      rw [if_pos (by rw [formP_long (by omega)]; exact f), if_neg (by rw [List.length_append]; omega), e]
      by_cases m : 600 < lenP a
      · rw [if_pos m, if_pos m]
      · rw [if_neg m] at h ⊢
        rw [if_neg m]
        by_cases q : a.length < 17 + lenP a
        · rw [if_pos q] at h; exact absurd rfl h
        · rw [if_neg q, if_neg (by rw [List.length_append]; omega)]
          have s : sumP (a ++ c) = sumP a := by
            unfold sumP
            rw [e, List.drop_append_of_le_length (by omega), List.take_append_of_le_length (by simp; omega)]
          rw [s, List.take_append_of_le_length (by omega)]
  · have f' : formP a = false := by simpa using f
    unfold prsE
    rw [if_neg f, if_neg (by rw [formP_app f']; decide)]
theorem pkOf_app {a c : List Int} (h : prsE a = 0) : pkOf (a ++ c) = pkOf a ∧ lenP (a ++ c) = lenP a := by
  obtain ⟨_, l, m, q, _⟩ := prsE_ok h
  have e := lenP_app (a := a) (c := c) l
  refine ⟨?_, e⟩
  unfold pkOf
  rw [e, List.drop_append_of_le_length (by omega), List.drop_append_of_le_length (by omega), List.drop_append_of_le_length (by omega),
    List.take_append_of_le_length (by simp; omega), List.take_append_of_le_length (by simp; omega), List.take_append_of_le_length (by simp; omega), getD_app_left (by omega)]

/-! ### A packet's bytes are read as it -/
theorem part_front (p : Pk) : p.front.getD 0 0 = 83 ∧ p.front.getD 1 0 = 66 ∧ p.front.getD 2 0 = whI p.wh ∧ (p.front.drop 3).take 4 = numL p.ep 4 ∧ (p.front.drop 7).take 4 = numL p.nu 4 ∧ (p.front.drop 11).take 2 = numL (p.pl.length : Int) 2 ∧ p.front.drop 13 = p.pl := by
  unfold Pk.front
  refine ⟨rfl, rfl, rfl, rfl, rfl, rfl, rfl⟩
theorem pk_len {p : Pk} (h : p.pl.length ≤ 600) (c : List Int) : lenP (p.bytes ++ c) = p.pl.length := by
  have f := p.front_len
  rw [Pk.bytes, List.append_assoc, lenP_app (by omega)]
  unfold lenP
  rw [(part_front p).2.2.2.2.2.1, valL_numL, P8_two, Int.emod_eq_of_lt (by omega) (by omega)]
  omega
theorem whI_one (b : Bool) : (whI b == 1) = b := by cases b <;> rfl
theorem pk_reads {p : Pk} (hp : p.Ok) (h : p.pl.length ≤ 600) (c : List Int) : prsE (p.bytes ++ c) = 0 ∧ pkOf (p.bytes ++ c) = p ∧ lenP (p.bytes ++ c) = p.pl.length := by
  have f := p.front_len
  obtain ⟨a0, a1, a2, a3, a4, a5, a6⟩ := part_front p
  have hl := pk_len h c
  have hs : p.bytes ++ c = p.front ++ (numL (crcP p.front) 4 ++ c) := by rw [Pk.bytes, List.append_assoc]
  have z := crcP_bd p.front
  refine ⟨?_, ?_, hl⟩
  · have hf : formP (p.bytes ++ c) = true := by
      rw [hs, formP_long (by omega), formP_iff, a0, a1, a2]
      exact ⟨fun _ => rfl, fun _ => rfl, fun _ => by cases p.wh <;> simp [whI]⟩
    have hb : (p.bytes ++ c).length = 17 + p.pl.length + c.length := by rw [List.length_append, Pk.bytes_len]
    unfold prsE
    rw [if_pos hf, hl, if_neg (by omega), if_neg (by omega), if_neg (by omega), if_pos]
    unfold sumP
    rw [hl, hs, ← f, List.drop_left, List.take_left, List.take_append_of_le_length (by rw [numL_len]; omega), List.take_of_length_le (by rw [numL_len]; omega), valL_numL, P8_four]
    omega
  · unfold pkOf
    rw [hl, hs, List.drop_append_of_le_length (by omega), List.drop_append_of_le_length (by omega), List.drop_append_of_le_length (by omega),
      List.take_append_of_le_length (by simp; omega), List.take_append_of_le_length (by simp; omega), List.take_append_of_le_length (by simp; omega), getD_app_left (by omega),
      a2, a3, a4, a6, valL_numL, valL_numL, whI_one, P8_four]
    have e1 : p.ep % 4294967296 = p.ep := Int.emod_eq_of_lt hp.e.1 (by have := hp.e.2; omega)
    have e2 : p.nu % 4294967296 = p.nu := Int.emod_eq_of_lt hp.n.1 (by have := hp.n.2; omega)
    rw [e1, e2, List.take_of_length_le (Nat.le_refl _)]
end Go.Proofs.Ytfnmdaoehnafcaa
