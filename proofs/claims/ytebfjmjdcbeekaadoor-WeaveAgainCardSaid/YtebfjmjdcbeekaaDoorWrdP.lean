/- Plain facts of texts as runes, for the statements of layer 16: what a text begins with, its title, a text folded. Nothing here speaks of the program. -/
import Derived.Lib.MapLaws
namespace Go.Proofs.YtebfjmjdcbeekaaDoor
open Go
set_option linter.unusedVariables false

/-- What a text begins with: a rune, or a stray byte. -/
def headI (l : List UInt8) : Option Nat := if (Lib.decodeL l).1 = 65533 ∧ (Lib.decodeL l).2 = 1 then none else some (Lib.decodeL l).1
def itemsN : Nat → List UInt8 → List (Option Nat)
  | 0, _ => []
  | n + 1, l => if l = [] then [] else headI l :: itemsN n (l.drop (Lib.decodeL l).2)
/-- The runes of a text, and its stray bytes. -/
def items (l : List UInt8) : List (Option Nat) := itemsN l.length l

theorem itemsN_nil : ∀ n, itemsN n [] = []
  | 0 => rfl
  | _ + 1 => by simp [itemsN]
theorem itemsN_fuel : ∀ (n m : Nat) (l : List UInt8), l.length ≤ n → l.length ≤ m → itemsN n l = itemsN m l
  | 0, m, l, hn, _ => by
    have : l = [] := List.eq_nil_of_length_eq_zero (by omega)
    subst this
    rw [itemsN_nil, itemsN_nil]
  | n + 1, 0, l, _, hm => by
    have : l = [] := List.eq_nil_of_length_eq_zero (by omega)
    subst this
    rw [itemsN_nil, itemsN_nil]
  | n + 1, m + 1, l, hn, hm => by
    by_cases hne : l = []
    · subst hne
      rw [itemsN_nil, itemsN_nil]
    · have hw := Lib.decodeL_width l
      have hl : 0 < l.length := List.length_pos_iff.2 hne
      simp only [itemsN, if_neg hne]
      rw [itemsN_fuel n m _ (by rw [List.length_drop]; omega) (by rw [List.length_drop]; omega)]
theorem items_nil : items [] = [] := rfl
theorem items_step (l : List UInt8) (hne : l ≠ []) : items l = headI l :: items (l.drop (Lib.decodeL l).2) := by
  have hw := Lib.decodeL_width l
  have hl : 0 < l.length := List.length_pos_iff.2 hne
  unfold items
  obtain ⟨n, hn⟩ : ∃ n, l.length = n + 1 := ⟨l.length - 1, by omega⟩
  rw [hn]
  simp only [itemsN, if_neg hne]
  rw [itemsN_fuel n _ _ (by rw [List.length_drop]; omega) (Nat.le_refl _)]

/-- Runes as bytes. -/
def enc (rs : List Nat) : List UInt8 := rs.flatMap (fun r : Nat => Lib.encodeRune (r : Int))
theorem enc_nil : enc [] = [] := rfl
theorem enc_cons (r : Nat) (rs : List Nat) : enc (r :: rs) = Lib.encodeRune (r : Int) ++ enc rs := by simp [enc]
theorem enc_append (a b : List Nat) : enc (a ++ b) = enc a ++ enc b := by simp [enc]
def okR (r : Nat) : Prop := r < 55296 ∨ (57344 ≤ r ∧ r ≤ 1114111)

theorem decN_two (n b0 b1 b2 b3 r : Nat) (hn : 2 ≤ n) (h0 : b0 = 192 + r / 64) (h1 : b1 = 128 + r % 64) (hr : 128 ≤ r) (hr2 : r ≤ 2047) : Lib.decodeN n b0 b1 b2 b3 = (r, 2) := by
  unfold Lib.decodeN
  repeat' split
  all_goals first | (exfalso; omega) | (apply Prod.ext <;> simp only <;> omega)
theorem decN_three (n b0 b1 b2 b3 r : Nat) (hn : 3 ≤ n) (h0 : b0 = 224 + r / 4096) (h1 : b1 = 128 + r / 64 % 64) (h2 : b2 = 128 + r % 64) (hr : 2048 ≤ r) (hr2 : r ≤ 65535) (ho : r < 55296 ∨ 57344 ≤ r) : Lib.decodeN n b0 b1 b2 b3 = (r, 3) := by
  unfold Lib.decodeN
  repeat' split
  all_goals first | (exfalso; omega) | (apply Prod.ext <;> simp only <;> omega)
theorem decN_four (n b0 b1 b2 b3 r : Nat) (hn : 4 ≤ n) (h0 : b0 = 240 + r / 262144) (h1 : b1 = 128 + r / 4096 % 64) (h2 : b2 = 128 + r / 64 % 64) (h3 : b3 = 128 + r % 64) (hr : 65536 ≤ r) (hr2 : r ≤ 1114111) : Lib.decodeN n b0 b1 b2 b3 = (r, 4) := by
  unfold Lib.decodeN
  repeat' split
  all_goals first | (exfalso; omega) | (apply Prod.ext <;> simp only <;> omega)

theorem byte_of (x : Int) (h0 : 0 ≤ x) (h1 : x < 256) : (x.toNat.toUInt8).toNat = x.toNat := by simp; omega

/-- A rune that was encoded is decoded, whatever stands behind. -/
theorem dec_enc (r : Nat) (h : okR r) (t : List UInt8) : Lib.decodeL (Lib.encodeRune (r : Int) ++ t) = (r, (Lib.encodeRune (r : Int)).length) := by
  rw [Lib.decodeL_N]
  unfold okR at h
  rcases Nat.lt_or_ge r 128 with c | c
  · have e : Lib.encodeRune (r : Int) = [((r : Int)).toNat.toUInt8] := by
      unfold Lib.encodeRune; rw [Lib.encodeRuneZ_one (by omega) (by omega)]; rfl
    rw [e]
    have b0 := byte_of (r : Int) (by omega) (by omega)
    simp only [List.cons_append, List.nil_append, List.length_cons, List.length_nil, List.getD_cons_zero, b0]
    rw [Lib.decodeN_ascii _ _ _ _ _ (by omega)]
    simp
  rcases Nat.lt_or_ge r 2048 with c2 | c2
  · have e : Lib.encodeRune (r : Int) = [(192 + (r : Int) / 64).toNat.toUInt8, (128 + (r : Int) % 64).toNat.toUInt8] := by
      unfold Lib.encodeRune; rw [Lib.encodeRuneZ_two (by omega) (by omega)]; rfl
    rw [e]
    have b0 := byte_of (192 + (r : Int) / 64) (by omega) (by omega)
    have b1 := byte_of (128 + (r : Int) % 64) (by omega) (by omega)
    simp only [List.cons_append, List.nil_append, List.length_cons, List.length_nil, List.getD_cons_zero, List.getD_cons_succ, b0, b1]
    exact decN_two _ _ _ _ _ r (by omega) (by omega) (by omega) c (by omega)
  rcases Nat.lt_or_ge r 65536 with c3 | c3
  · have e : Lib.encodeRune (r : Int) = [(224 + (r : Int) / 4096).toNat.toUInt8, (128 + (r : Int) / 64 % 64).toNat.toUInt8, (128 + (r : Int) % 64).toNat.toUInt8] := by
      unfold Lib.encodeRune; rw [Lib.encodeRuneZ_three (by omega)]; rfl
    rw [e]
    have b0 := byte_of (224 + (r : Int) / 4096) (by omega) (by omega)
    have b1 := byte_of (128 + (r : Int) / 64 % 64) (by omega) (by omega)
    have b2 := byte_of (128 + (r : Int) % 64) (by omega) (by omega)
    simp only [List.cons_append, List.nil_append, List.length_cons, List.length_nil, List.getD_cons_zero, List.getD_cons_succ, b0, b1, b2]
    exact decN_three _ _ _ _ _ r (by omega) (by omega) (by omega) (by omega) c2 (by omega) (by omega)
  · have e : Lib.encodeRune (r : Int) = [(240 + (r : Int) / 262144).toNat.toUInt8, (128 + (r : Int) / 4096 % 64).toNat.toUInt8, (128 + (r : Int) / 64 % 64).toNat.toUInt8, (128 + (r : Int) % 64).toNat.toUInt8] := by
      unfold Lib.encodeRune; rw [Lib.encodeRuneZ_four (by omega) (by omega)]; rfl
    rw [e]
    have b0 := byte_of (240 + (r : Int) / 262144) (by omega) (by omega)
    have b1 := byte_of (128 + (r : Int) / 4096 % 64) (by omega) (by omega)
    have b2 := byte_of (128 + (r : Int) / 64 % 64) (by omega) (by omega)
    have b3 := byte_of (128 + (r : Int) % 64) (by omega) (by omega)
    simp only [List.cons_append, List.nil_append, List.length_cons, List.length_nil, List.getD_cons_zero, List.getD_cons_succ, b0, b1, b2, b3]
    exact decN_four _ _ _ _ _ r (by omega) (by omega) (by omega) (by omega) (by omega) c3 (by omega)

theorem enc_len (r : Int) : 1 ≤ (Lib.encodeRune r).length ∧ (Lib.encodeRune r).length ≤ 4 := by
  have := Lib.encodeRuneZ_length r
  simpa [Lib.encodeRune] using this
theorem enc_65533 : (Lib.encodeRune ((65533 : Nat) : Int)).length = 3 := by
  unfold Lib.encodeRune; rw [Lib.encodeRuneZ_three (by omega)]; rfl
theorem headI_enc (r : Nat) (h : okR r) (t : List UInt8) : headI (Lib.encodeRune (r : Int) ++ t) = some r := by
  unfold headI
  rw [dec_enc r h t]
  have : ¬ (r = 65533 ∧ (Lib.encodeRune (r : Int)).length = 1) := by
    rintro ⟨rfl, h1⟩
    rw [enc_65533] at h1
    omega
  rw [if_neg this]
theorem items_enc : ∀ rs : List Nat, (∀ r ∈ rs, okR r) → items (enc rs) = rs.map some
  | [], _ => rfl
  | r :: rs, h => by
    have hr := h r (by simp)
    have e := enc_len (r : Int)
    have hne : enc (r :: rs) ≠ [] := by
      intro c
      have := congrArg List.length c
      rw [enc_cons, List.length_append] at this
      simp at this
      have := e.1
      simp_all
    rw [items_step _ hne, enc_cons, headI_enc r hr, dec_enc r hr]
    simp only [List.drop_left, List.map_cons]
    rw [items_enc rs (fun x hx => h x (by simp [hx]))]

/-- A rune that a text begins with is one, and its bytes are the text's. -/
theorem headI_some {l : List UInt8} {r : Nat} (hne : l ≠ []) (h : headI l = some r) : okR r ∧ (Lib.decodeL l).1 = r ∧ Lib.encodeRune (r : Int) = l.take (Lib.decodeL l).2 ∧ (Lib.decodeL l).2 ≤ l.length ∧ ¬ ((Lib.decodeL l).1 = 65533 ∧ (Lib.decodeL l).2 = 1) := by
  unfold headI at h
  split at h
  · cases h
  · rename_i hs
    injection h with h
    have e := Lib.encode_decode l hne hs
    have w := Lib.decodeL_le l hne
    refine ⟨?_, h, by rw [← h]; exact e, w, hs⟩
    rw [← h]
    rw [Lib.decodeL_N] at hs ⊢
    have k0 := (l.getD 0 0).toNat_lt
    unfold okR
    rcases Lib.decodeN_shape l.length (l.getD 0 0).toNat (l.getD 1 0).toNat (l.getD 2 0).toNat (l.getD 3 0).toNat with ⟨c, e⟩ | ⟨c1, c2, c3, cv, e⟩ | ⟨c1, c2, c3, c4, cv, cs, e⟩ | ⟨c1, c2, c3, c4, c5, cv, cw, e⟩ | e
    all_goals (rw [e] at hs ⊢; dsimp only at hs ⊢)
    all_goals omega
theorem headI_none {l : List UInt8} (h : headI l = none) : (Lib.decodeL l).1 = 65533 ∧ (Lib.decodeL l).2 = 1 := by
  unfold headI at h
  split at h
  · assumption
  · cases h
/-- A rune below 128 is one byte. -/
theorem headI_ascii {l : List UInt8} (hne : l ≠ []) (h : (l.getD 0 0).toNat < 128) : headI l = some (l.getD 0 0).toNat ∧ (Lib.decodeL l).2 = 1 := by
  have e : Lib.decodeL l = ((l.getD 0 0).toNat, 1) := by rw [Lib.decodeL_N, Lib.decodeN_ascii _ _ _ _ _ h]
  unfold headI
  rw [e]
  refine ⟨?_, rfl⟩
  rw [if_neg (by omega)]

/-! ### Titles -/
/-- What is shown of a rune, or of a stray byte. -/
def shownR : Option Nat → Nat
  | none => 32
  | some r => if r < 32 ∨ r = 127 ∨ r = 59 then 32 else if r = 39 then 8217 else r
def titleN (n : Nat) : List (Option Nat) → List Nat
  | [] => []
  | x :: xs => if n + (Lib.encodeRune (shownR x : Int)).length > 60 then [] else shownR x :: titleN (n + (Lib.encodeRune (shownR x : Int)).length) xs
/-- A text's title. -/
def titleF (l : List UInt8) : List UInt8 := enc (titleN 0 (items l))

theorem shownR_ok {x : Option Nat} (h : ∀ r, x = some r → okR r) : okR (shownR x) := by
  cases x with
  | none => exact .inl (by decide)
  | some r =>
    have := h r rfl
    simp only [shownR]
    split
    · exact .inl (by decide)
    · split
      · exact .inl (by decide)
      · exact this
theorem shownR_again (x : Option Nat) : shownR (some (shownR x)) = shownR x := by
  cases x with
  | none => rfl
  | some r =>
    by_cases h1 : r < 32 ∨ r = 127 ∨ r = 59
    · simp [shownR, h1]
    · by_cases h2 : r = 39
      · simp [shownR, h2]
      · simp [shownR, h1, h2]
theorem shownR_good (x : Option Nat) : ¬ (shownR x = 39 ∨ shownR x = 59 ∨ shownR x < 32) := by
  cases x with
  | none => simp [shownR]
  | some r =>
    simp only [shownR]
    split
    · omega
    · split <;> omega
theorem titleN_mem : ∀ (xs : List (Option Nat)) (n r : Nat), r ∈ titleN n xs → ∃ x ∈ xs, r = shownR x
  | [], _, _, h => by simp [titleN] at h
  | x :: xs, n, r, h => by
    simp only [titleN] at h
    split at h
    · simp at h
    · rcases List.mem_cons.1 h with h | h
      · exact ⟨x, by simp, h⟩
      · obtain ⟨y, hy, e⟩ := titleN_mem xs _ r h
        exact ⟨y, by simp [hy], e⟩
theorem titleN_len : ∀ (xs : List (Option Nat)) (n : Nat), n ≤ 60 → n + (enc (titleN n xs)).length ≤ 60
  | [], n, h => by simpa [titleN, enc] using h
  | x :: xs, n, h => by
    simp only [titleN]
    split
    · simpa [enc] using h
    · rw [enc_cons, List.length_append]
      have := titleN_len xs (n + (Lib.encodeRune (shownR x : Int)).length) (by omega)
      omega
theorem titleN_same : ∀ (rs : List Nat) (n : Nat), (∀ r ∈ rs, shownR (some r) = r) → n + (enc rs).length ≤ 60 → titleN n (rs.map some) = rs
  | [], _, _, _ => rfl
  | r :: rs, n, h, hl => by
    have e := h r (by simp)
    rw [enc_cons, List.length_append] at hl
    simp only [List.map_cons, titleN, e]
    rw [if_neg (by omega), titleN_same rs _ (fun x hx => h x (by simp [hx])) (by omega)]
theorem items_ok : ∀ (n : Nat) (l : List UInt8), l.length ≤ n → ∀ r, some r ∈ items l → okR r
  | 0, l, h, r, hr => by
    obtain rfl : l = [] := List.eq_nil_of_length_eq_zero (by omega)
    simp [items_nil] at hr
  | n + 1, l, h, r, hr => by
    by_cases hne : l = []
    · subst hne
      simp [items_nil] at hr
    · rw [items_step l hne] at hr
      have hw := Lib.decodeL_width l
      have hl : 0 < l.length := List.length_pos_iff.2 hne
      rcases List.mem_cons.1 hr with e | e
      · exact (headI_some hne e.symm).1
      · exact items_ok n _ (by rw [List.length_drop]; omega) r e
/-- A text's title, as runes. -/
def titleR (l : List UInt8) : List Nat := titleN 0 (items l)
theorem titleF_eq (l : List UInt8) : titleF l = enc (titleR l) := rfl
theorem titleR_ok (l : List UInt8) : ∀ r ∈ titleR l, okR r ∧ shownR (some r) = r ∧ ¬ (r = 39 ∨ r = 59 ∨ r < 32) := by
  intro r hr
  obtain ⟨x, hx, rfl⟩ := titleN_mem _ _ _ hr
  refine ⟨shownR_ok ?_, shownR_again x, shownR_good x⟩
  intro y hy
  subst hy
  exact items_ok _ l (Nat.le_refl _) y hx
theorem titleF_len (l : List UInt8) : (titleF l).length ≤ 60 := by
  have := titleN_len (items l) 0 (by omega)
  unfold titleF
  omega
/-- A title's title is it. -/
theorem titleF_again (l : List UInt8) : titleF (titleF l) = titleF l := by
  have h := titleR_ok l
  have e : items (titleF l) = (titleR l).map some := by rw [titleF_eq]; exact items_enc _ (fun r hr => (h r hr).1)
  have e2 : titleN 0 (items (titleF l)) = titleR l := by
    rw [e]
    refine titleN_same _ _ (fun r hr => (h r hr).2.1) ?_
    have := titleF_len l
    rw [titleF_eq] at this
    omega
  show enc (titleN 0 (items (titleF l))) = _
  rw [e2, ← titleF_eq]

/-! ### Folding -/
def lowR (r : Nat) : Nat := if 65 ≤ r ∧ r ≤ 90 then r + 32 else r
/-- Runes, each row of stray bytes as one ?. -/
def validN : Bool → List (Option Nat) → List Nat
  | _, [] => []
  | st, none :: xs => (if st then [] else [63]) ++ validN true xs
  | _, some r :: xs => r :: validN false xs
def foldN : Bool → List (Option Nat) → List Nat
  | _, [] => []
  | st, none :: xs => (if st then [] else [63]) ++ foldN true xs
  | _, some r :: xs => lowR r :: foldN false xs
def foldF (l : List UInt8) : List UInt8 := enc (foldN false (items l))
def validF (l : List UInt8) : List UInt8 := enc (validN false (items l))
def lowB (b : UInt8) : UInt8 := if 65 ≤ b.toNat ∧ b.toNat ≤ 90 then (b.toNat + 32).toUInt8 else b

theorem foldN_valid : ∀ (xs : List (Option Nat)) (st : Bool), foldN st xs = (validN st xs).map lowR
  | [], _ => rfl
  | none :: xs, st => by
    simp only [foldN, validN, List.map_append, foldN_valid xs]
    cases st <;> rfl
  | some r :: xs, st => by simp [foldN, validN, foldN_valid xs]
theorem lowB_hi {b : UInt8} (h : 128 ≤ b.toNat) : lowB b = b := by unfold lowB; rw [if_neg (by omega)]
theorem toU_hi (x : Int) (h0 : 128 ≤ x) (h1 : x < 256) : lowB x.toNat.toUInt8 = x.toNat.toUInt8 := lowB_hi (by rw [byte_of x (by omega) h1]; omega)
theorem lowB_enc (r : Nat) (h : okR r) : (Lib.encodeRune (r : Int)).map lowB = Lib.encodeRune (lowR r : Int) := by
  unfold okR at h
  rcases Nat.lt_or_ge r 128 with c | c
  · have e : ∀ q : Nat, q < 128 → Lib.encodeRune (q : Int) = [((q : Int)).toNat.toUInt8] := by
      intro q hq
      unfold Lib.encodeRune; rw [Lib.encodeRuneZ_one (by omega) (by omega)]; rfl
    have hl : lowR r < 128 := by unfold lowR; split <;> omega
    rw [e r c, e (lowR r) hl]
    simp only [List.map_cons, List.map_nil, List.cons.injEq, and_true]
    have b0 := byte_of (r : Int) (by omega) (by omega)
    unfold lowB lowR
    rw [b0, Int.toNat_natCast, Int.toNat_natCast]
    by_cases k : 65 ≤ r ∧ r ≤ 90
    · rw [if_pos k, if_pos k]
    · rw [if_neg k, if_neg k]
  · have hl : lowR r = r := by unfold lowR; rw [if_neg (by omega)]
    rw [hl]
    rcases Nat.lt_or_ge r 2048 with c2 | c2
    · unfold Lib.encodeRune; rw [Lib.encodeRuneZ_two (by omega) (by omega)]
      simp only [List.map_cons, List.map_nil]
      rw [toU_hi _ (by omega) (by omega), toU_hi _ (by omega) (by omega)]
    rcases Nat.lt_or_ge r 65536 with c3 | c3
    · unfold Lib.encodeRune; rw [Lib.encodeRuneZ_three (by omega)]
      simp only [List.map_cons, List.map_nil]
      rw [toU_hi _ (by omega) (by omega), toU_hi _ (by omega) (by omega), toU_hi _ (by omega) (by omega)]
    · unfold Lib.encodeRune; rw [Lib.encodeRuneZ_four (by omega) (by omega)]
      simp only [List.map_cons, List.map_nil]
      rw [toU_hi _ (by omega) (by omega), toU_hi _ (by omega) (by omega), toU_hi _ (by omega) (by omega), toU_hi _ (by omega) (by omega)]
theorem lowB_encs : ∀ rs : List Nat, (∀ r ∈ rs, okR r) → (enc rs).map lowB = enc (rs.map lowR)
  | [], _ => rfl
  | r :: rs, h => by
    rw [enc_cons, List.map_append, List.map_cons, enc_cons, lowB_enc r (h r (by simp)), lowB_encs rs (fun x hx => h x (by simp [hx]))]
theorem validN_ok : ∀ (xs : List (Option Nat)) (st : Bool), (∀ r, some r ∈ xs → okR r) → ∀ r ∈ validN st xs, okR r
  | [], _, _, r, hr => by simp [validN] at hr
  | none :: xs, st, h, r, hr => by
    simp only [validN, List.mem_append] at hr
    rcases hr with hr | hr
    · cases st
      · simp at hr
        subst hr
        exact .inl (by decide)
      · simp at hr
    · exact validN_ok xs true (fun q hq => h q (by simp [hq])) r hr
  | some q :: xs, st, h, r, hr => by
    simp only [validN, List.mem_cons] at hr
    rcases hr with hr | hr
    · subst hr
      exact h _ (by simp)
    · exact validN_ok xs false (fun q hq => h q (by simp [hq])) r hr
theorem lowR_ok {r : Nat} (h : okR r) : okR (lowR r) := by
  unfold okR lowR at *
  split <;> omega
theorem lowR_again (r : Nat) : lowR (lowR r) = lowR r := by
  unfold lowR
  by_cases k : 65 ≤ r ∧ r ≤ 90
  · rw [if_pos k, if_neg (by omega)]
  · rw [if_neg k, if_neg k]
/-- Folded is valid, each byte small. -/
theorem foldF_valid (l : List UInt8) : foldF l = (validF l).map lowB := by
  unfold foldF validF
  rw [foldN_valid, lowB_encs]
  exact validN_ok _ _ (items_ok _ l (Nat.le_refl _))
theorem validN_some : ∀ (rs : List Nat) (st : Bool), validN st (rs.map some) = rs
  | [], _ => rfl
  | r :: rs, st => by simp [validN, validN_some rs]
theorem foldF_again (l : List UInt8) : foldF (foldF l) = foldF l := by
  have hv := validN_ok (items l) false (items_ok _ l (Nat.le_refl _))
  have e : items (foldF l) = (foldN false (items l)).map some := by
    unfold foldF
    refine items_enc _ ?_
    rw [foldN_valid]
    intro r hr
    obtain ⟨q, hq, rfl⟩ := List.mem_map.1 hr
    exact lowR_ok (hv q hq)
  show enc (foldN false (items (foldF l))) = _
  rw [e, foldN_valid, validN_some, foldN_valid, List.map_map]
  have : lowR ∘ lowR = lowR := funext lowR_again
  rw [this, ← foldN_valid]
  rfl
end Go.Proofs.YtebfjmjdcbeekaaDoor
