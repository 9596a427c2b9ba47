/- Plain facts of bytes as texts of sixty-four letters, for the statements of layer 16. Nothing here speaks of the program. -/
import Derived.Lib.Bytealg
import Derived.Lib.TrimByte
namespace Go.Proofs.YtjhihjkhbmbigaaDoor
open Go
set_option linter.unusedVariables false

/-- The sixty-four letters. -/
def L64 : List UInt8 := [65, 66, 67, 68, 69, 70, 71, 72, 73, 74, 75, 76, 77, 78, 79, 80, 81, 82, 83, 84, 85, 86, 87, 88, 89, 90, 97, 98, 99, 100, 101, 102, 103, 104, 105, 106, 107, 108, 109, 110, 111, 112, 113, 114, 115, 116, 117, 118, 119, 120, 121, 122, 48, 49, 50, 51, 52, 53, 54, 55, 56, 57, 43, 47]
def lt (n : Nat) : UInt8 := L64.getD n 0
def valI (c : UInt8) : Int := Lib.indexByte L64 c
theorem val_lt_fin : ∀ n : Fin 64, valI (lt n.val) = (n.val : Int) := by decide +kernel
theorem val_lt (n : Nat) (h : n < 64) : valI (lt n) = n := val_lt_fin ⟨n, h⟩
theorem val_fin : ∀ c : Fin 256, valI (UInt8.ofNat c.val) = -1 ∨ (0 ≤ valI (UInt8.ofNat c.val) ∧ valI (UInt8.ofNat c.val) < 64 ∧ lt (valI (UInt8.ofNat c.val)).toNat = UInt8.ofNat c.val) := by decide +kernel
theorem val_cases (c : UInt8) : valI c = -1 ∨ (0 ≤ valI c ∧ valI c < 64 ∧ lt (valI c).toNat = c) := by
  have := val_fin ⟨c.toNat, c.toNat_lt⟩
  simpa using this
theorem lt_ne_fin : ∀ n : Fin 64, lt n.val ≠ 61 := by decide +kernel
theorem lt_ne (n : Nat) (h : n < 64) : lt n ≠ 61 := lt_ne_fin ⟨n, h⟩
theorem lt_val (c : UInt8) (n : Nat) (h : n < 64) : lt n = c ↔ valI c = n := by
  constructor
  · rintro rfl
    exact val_lt n h
  · intro e
    rcases val_cases c with k | ⟨_, _, k⟩
    · omega
    · rw [e] at k
      simpa using k
theorem val_eq61 : valI 61 = -1 := by decide +kernel

/-- Bytes as letters, none behind. -/
def sealS : List UInt8 → List UInt8
  | [] => []
  | [a] => [lt (a.toNat / 4), lt (a.toNat % 4 * 16)]
  | [a, b] => [lt (a.toNat / 4), lt (a.toNat % 4 * 16 + b.toNat / 16), lt (b.toNat % 16 * 4)]
  | a :: b :: c :: t => lt (a.toNat / 4) :: lt (a.toNat % 4 * 16 + b.toNat / 16) :: lt (b.toNat % 16 * 4 + c.toNat / 64) :: lt (c.toNat % 64) :: sealS t
/-- A sealed text. -/
def sealL : List UInt8 → List UInt8
  | [] => []
  | [a] => [lt (a.toNat / 4), lt (a.toNat % 4 * 16), 61, 61]
  | [a, b] => [lt (a.toNat / 4), lt (a.toNat % 4 * 16 + b.toNat / 16), lt (b.toNat % 16 * 4), 61]
  | a :: b :: c :: t => lt (a.toNat / 4) :: lt (a.toNat % 4 * 16 + b.toNat / 16) :: lt (b.toNat % 16 * 4 + c.toNat / 64) :: lt (c.toNat % 64) :: sealL t
/-- = till there are a multiple of four. -/
def padF (l : List UInt8) : List UInt8 := l ++ List.replicate ((4 - l.length % 4) % 4) 61
theorem padF_four (a b c d : UInt8) (l : List UInt8) : padF (a :: b :: c :: d :: l) = a :: b :: c :: d :: padF l := by
  unfold padF
  have : ((a :: b :: c :: d :: l).length) % 4 = l.length % 4 := by simp only [List.length_cons]; omega
  rw [this]
  rfl
theorem padF_seal : ∀ l : List UInt8, padF (sealS l) = sealL l
  | [] => rfl
  | [a] => rfl
  | [a, b] => rfl
  | a :: b :: c :: t => by
    simp only [sealS, sealL]
    rw [padF_four, padF_seal t]
theorem sealL_len : ∀ l : List UInt8, (sealL l).length = (l.length + 2) / 3 * 4
  | [] => rfl
  | [a] => by simp [sealL]
  | [a, b] => by simp [sealL]
  | a :: b :: c :: t => by
    simp only [sealL, List.length_cons]
    rw [sealL_len t]
    omega
theorem sealS_le : ∀ l : List UInt8, (sealS l).length ≤ 2 * l.length
  | [] => by simp [sealS]
  | [a] => by simp [sealS]
  | [a, b] => by simp [sealS]
  | a :: b :: c :: t => by
    simp only [sealS, List.length_cons]
    have := sealS_le t
    omega
theorem sealS_ltr : ∀ (l : List UInt8) (x : UInt8), x ∈ sealS l → x ≠ 61
  | [], x, h => by simp [sealS] at h
  | [a], x, h => by
    have := a.toNat_lt
    simp only [sealS, List.mem_cons, List.mem_nil_iff, or_false] at h
    rcases h with rfl | rfl
    all_goals exact lt_ne _ (by omega)
  | [a, b], x, h => by
    have := a.toNat_lt
    have := b.toNat_lt
    simp only [sealS, List.mem_cons, List.mem_nil_iff, or_false] at h
    rcases h with rfl | rfl | rfl
    all_goals exact lt_ne _ (by omega)
  | a :: b :: c :: t, x, h => by
    have := a.toNat_lt
    have := b.toNat_lt
    have := c.toNat_lt
    simp only [sealS, List.mem_cons] at h
    rcases h with rfl | rfl | rfl | rfl | h
    · exact lt_ne _ (by omega)
    · exact lt_ne _ (by omega)
    · exact lt_ne _ (by omega)
    · exact lt_ne _ (by omega)
    · exact sealS_ltr t x h
theorem trim_pad (l : List UInt8) (k : Nat) (h : ∀ x ∈ l, x ≠ 61) : Lib.trimRightB (l ++ List.replicate k 61) 61 = l := by
  have e := Lib.trimRightB_take (l ++ List.replicate k 61) 61 l.length (by simp) ?_ ?_
  · rw [e]; simp
  · intro j b hj hb
    rw [List.getElem?_append_right hj] at hb
    have := List.mem_of_getElem? hb
    exact (List.mem_replicate.1 this).2
  · intro b h0 hb
    rw [List.getElem?_append_left (by omega)] at hb
    exact h b (List.mem_of_getElem? hb)

/-! ### Letters as bits come, byte by byte -/
def emit (v w : Nat) : List UInt8 := if h : 6 ≤ w then lt (v / 2 ^ (w - 6) % 64) :: emit v (w - 6) else []
termination_by w
decreasing_by omega
theorem emit_six {v w : Nat} (h : 6 ≤ w) : emit v w = lt (v / 2 ^ (w - 6) % 64) :: emit v (w - 6) := by rw [emit, dif_pos h]
theorem emit_none {v w : Nat} (h : ¬ 6 ≤ w) : emit v w = [] := by rw [emit, dif_neg h]
def sealP (v w : Nat) : List UInt8 → List UInt8
  | [] => if 0 < w then [lt (v * 2 ^ (6 - w) % 64)] else []
  | c :: t => emit ((v * 256 + c.toNat) % 4294967296) (w + 8) ++ sealP ((v * 256 + c.toNat) % 4294967296) ((w + 8) % 6) t
theorem emit8 (v : Nat) : emit v 8 = [lt (v / 4 % 64)] := by rw [emit_six (by omega), emit_none (by omega)]
theorem emit10 (v : Nat) : emit v 10 = [lt (v / 16 % 64)] := by rw [emit_six (by omega), emit_none (by omega)]
theorem emit12 (v : Nat) : emit v 12 = [lt (v / 64 % 64), lt (v % 64)] := by
  rw [emit_six (by omega), emit_six (by omega), emit_none (by omega)]
  simp
theorem ltc {a b : Nat} (h : a = b) : lt a = lt b := by rw [h]
set_option maxRecDepth 100000 in
theorem sealP_any : ∀ (l : List UInt8) (v : Nat), sealP v 0 l = sealS l
  | [], v => by simp [sealP, sealS]
  | [a], v => by
    have := a.toNat_lt
    simp only [sealP, sealS, emit8, Nat.zero_add, List.cons_append, List.nil_append, show 8 % 6 = 2 from rfl, Nat.reducePow, Nat.reduceSub, Nat.reduceLT, if_true]
    rw [ltc (show (v * 256 + a.toNat) % 4294967296 / 4 % 64 = a.toNat / 4 by omega), ltc (show (v * 256 + a.toNat) % 4294967296 * 16 % 64 = a.toNat % 4 * 16 by omega)]
  | [a, b], v => by
    have := a.toNat_lt
    have := b.toNat_lt
    simp only [sealP, sealS, emit8, emit10, Nat.zero_add, List.cons_append, List.nil_append, show 8 % 6 = 2 from rfl, show 10 % 6 = 4 from rfl, show 2 + 8 = 10 from rfl, Nat.reducePow, Nat.reduceSub, Nat.reduceLT, if_true]
    generalize hx : (v * 256 + a.toNat) % 4294967296 = x
    generalize hy : (x * 256 + b.toNat) % 4294967296 = y
    rw [ltc (show x / 4 % 64 = a.toNat / 4 by omega), ltc (show y / 16 % 64 = a.toNat % 4 * 16 + b.toNat / 16 by omega), ltc (show y * 4 % 64 = b.toNat % 16 * 4 by omega)]
  | a :: b :: c :: t, v => by
    have := a.toNat_lt
    have := b.toNat_lt
    have := c.toNat_lt
    simp only [sealP, sealS, emit8, emit10, emit12, Nat.zero_add, List.cons_append, List.nil_append, show 8 % 6 = 2 from rfl, show 10 % 6 = 4 from rfl, show 12 % 6 = 0 from rfl, show 2 + 8 = 10 from rfl, show 4 + 8 = 12 from rfl]
    generalize hx : (v * 256 + a.toNat) % 4294967296 = x
    generalize hy : (x * 256 + b.toNat) % 4294967296 = y
    generalize hz : (y * 256 + c.toNat) % 4294967296 = z
    rw [sealP_any t z, ltc (show x / 4 % 64 = a.toNat / 4 by omega), ltc (show y / 16 % 64 = a.toNat % 4 * 16 + b.toNat / 16 by omega), ltc (show z / 64 % 64 = b.toNat % 16 * 4 + c.toNat / 64 by omega), ltc (show z % 64 = c.toNat % 64 by omega)]
theorem sealP_seal (l : List UInt8) : padF (sealP 0 0 l) = sealL l := by rw [sealP_any, padF_seal]

/-! ### Bytes as letters come -/
def openP (v w : Nat) : List UInt8 → Option (List UInt8)
  | [] => some []
  | c :: t => if valI c < 0 then none
    else if 2 ≤ w then (openP ((v * 64 + (valI c).toNat) % 4294967296) (w - 2) t).map (UInt8.ofNat ((v * 64 + (valI c).toNat) % 4294967296 / 2 ^ (w - 2) % 256) :: ·)
    else openP ((v * 64 + (valI c).toNat) % 4294967296) (w + 6) t
theorem byteEq {n : Nat} {a : UInt8} (h : n % 256 = a.toNat) : UInt8.ofNat n = a := by
  apply UInt8.toNat_inj.1
  simpa using h
theorem openP_none {v w : Nat} {c : UInt8} {t : List UInt8} (h : valI c < 0) : openP v w (c :: t) = none := by simp [openP, h]
theorem openP_more {v w : Nat} {c : UInt8} {t : List UInt8} (h : ¬ valI c < 0) (hw : 2 ≤ w) : openP v w (c :: t) = (openP ((v * 64 + (valI c).toNat) % 4294967296) (w - 2) t).map (UInt8.ofNat ((v * 64 + (valI c).toNat) % 4294967296 / 2 ^ (w - 2) % 256) :: ·) := by simp [openP, h, hw]
theorem openP_less {v w : Nat} {c : UInt8} {t : List UInt8} (h : ¬ valI c < 0) (hw : ¬ 2 ≤ w) : openP v w (c :: t) = openP ((v * 64 + (valI c).toNat) % 4294967296) (w + 6) t := by simp [openP, h, hw]
theorem openP_lt_less {v w n : Nat} (hn : n < 64) {t : List UInt8} (hw : ¬ 2 ≤ w) : openP v w (lt n :: t) = openP ((v * 64 + n) % 4294967296) (w + 6) t := by
  rw [openP_less (by rw [val_lt n hn]; omega) hw, val_lt n hn, Int.toNat_natCast]
theorem openP_lt_more {v w n : Nat} (hn : n < 64) {t : List UInt8} (hw : 2 ≤ w) : openP v w (lt n :: t) = (openP ((v * 64 + n) % 4294967296) (w - 2) t).map (UInt8.ofNat ((v * 64 + n) % 4294967296 / 2 ^ (w - 2) % 256) :: ·) := by
  rw [openP_more (by rw [val_lt n hn]; omega) hw, val_lt n hn, Int.toNat_natCast]
theorem openP_seal : ∀ (l : List UInt8) (v : Nat), openP v 0 (sealS l) = some l
  | [], v => rfl
  | [a], v => by
    have := a.toNat_lt
    simp only [sealS]
    rw [openP_lt_less (by omega) (by omega), openP_lt_more (by omega) (by omega)]
    simp only [openP, Option.map_some, Nat.zero_add, Nat.reduceSub, Nat.reducePow]
    rw [byteEq (a := a) (by omega)]
  | [a, b], v => by
    have := a.toNat_lt
    have := b.toNat_lt
    simp only [sealS]
    rw [openP_lt_less (by omega) (by omega), openP_lt_more (by omega) (by omega), openP_lt_more (by omega) (by omega)]
    simp only [openP, Option.map_some, Nat.zero_add, Nat.reduceSub, Nat.reducePow]
    rw [byteEq (a := a) (by omega), byteEq (a := b) (by omega)]
  | a :: b :: c :: t, v => by
    have := a.toNat_lt
    have := b.toNat_lt
    have := c.toNat_lt
    simp only [sealS]
    rw [openP_lt_less (by omega) (by omega), openP_lt_more (by omega) (by omega), openP_lt_more (by omega) (by omega), openP_lt_more (by omega) (by omega)]
    simp only [Nat.zero_add, Nat.reduceSub, Nat.reducePow]
    rw [openP_seal t]
    simp only [Option.map_some]
    rw [byteEq (a := a) (by omega), byteEq (a := b) (by omega), byteEq (a := c) (by omega)]
/-- The bytes whose sealed text a text is, letter by letter. -/
noncomputable def openA (l : List UInt8) : Option (List UInt8) :=
  match openP 0 0 (Lib.trimRightB l 61) with
  | none => none
  | some b => if sealL b = l then some b else none

/-! ### Bytes as letters come, four at a time -/
def vz (c : UInt8) : Nat := (valI c).toNat
theorem vz_lt (c : UInt8) : vz c < 64 := by
  unfold vz
  rcases val_cases c with k | ⟨_, _, _⟩ <;> omega
def leftF (c d : UInt8) : Nat := if c = 61 then 1 else if d = 61 then 2 else 3
def four (a b c d : UInt8) : Nat := vz a * 262144 + vz b * 4096 + vz c * 64 + vz d
def openR : List UInt8 → List UInt8
  | a :: b :: c :: d :: t => [UInt8.ofNat (four a b c d / 65536), UInt8.ofNat (four a b c d / 256 % 256), UInt8.ofNat (four a b c d % 256)].take (leftF c d) ++ openR t
  | _ => []
theorem vz_of (n : Nat) (h : n < 64) : vz (lt n) = n := by unfold vz; rw [val_lt n h]; simp
theorem vz61 : vz 61 = 0 := by unfold vz; rw [val_eq61]; rfl
theorem openR_seal : ∀ l : List UInt8, openR (sealL l) = l
  | [] => rfl
  | [a] => by
    have := a.toNat_lt
    simp only [sealL, openR, leftF, if_true, List.append_nil, four]
    rw [vz_of _ (by omega), vz_of _ (by omega), vz61, byteEq (a := a) (by omega)]
    rfl
  | [a, b] => by
    have := a.toNat_lt
    have := b.toNat_lt
    have h := lt_ne (b.toNat % 16 * 4) (by omega)
    simp only [sealL, openR, leftF, if_neg h, if_true, List.append_nil, four]
    rw [vz_of _ (by omega), vz_of _ (by omega), vz_of _ (by omega), vz61, byteEq (a := a) (by omega), byteEq (a := b) (by omega)]
    rfl
  | a :: b :: c :: t => by
    have := a.toNat_lt
    have := b.toNat_lt
    have := c.toNat_lt
    have h := lt_ne (b.toNat % 16 * 4 + c.toNat / 64) (by omega)
    have h2 := lt_ne (c.toNat % 64) (by omega)
    simp only [sealL, openR, leftF, if_neg h, if_neg h2, four]
    rw [vz_of _ (by omega), vz_of _ (by omega), vz_of _ (by omega), vz_of _ (by omega), byteEq (a := a) (by omega), byteEq (a := b) (by omega), byteEq (a := c) (by omega), openR_seal t]
    rfl
theorem openA_seal (l : List UInt8) : openA (sealL l) = some l := by
  unfold openA
  have e : sealL l = sealS l ++ List.replicate ((4 - (sealS l).length % 4) % 4) 61 := (padF_seal l).symm
  have t : Lib.trimRightB (sealL l) 61 = sealS l := by rw [e]; exact trim_pad _ _ (sealS_ltr l)
  rw [t, openP_seal]
  simp
/-- Both ways tell the same bytes, or none. -/
theorem openA_eq (l : List UInt8) : openA l = if sealL (openR l) = l then some (openR l) else none := by
  by_cases h : ∃ b, sealL b = l
  · obtain ⟨b, rfl⟩ := h
    rw [openA_seal, openR_seal, if_pos rfl]
  · rw [if_neg (fun k => h ⟨_, k⟩)]
    unfold openA
    split
    · rfl
    · rename_i b hb
      rw [if_neg (fun k => h ⟨_, k⟩)]
theorem openR_len : ∀ (n : Nat) (l : List UInt8), l.length ≤ n → (openR l).length ≤ l.length
  | 0, l, h => by
    obtain rfl : l = [] := List.eq_nil_of_length_eq_zero (by omega)
    simp [openR]
  | n + 1, l, h => by
    match l, h with
    | [], _ => simp [openR]
    | [_], _ => simp [openR]
    | [_, _], _ => simp [openR]
    | [_, _, _], _ => simp [openR]
    | a :: b :: c :: d :: t, h =>
      simp only [openR, List.length_append, List.length_take, List.length_cons] at h ⊢
      have := openR_len n t (by omega)
      have := Nat.min_le_right (leftF c d) 3
      simp only [List.length_nil] at *
      omega
end Go.Proofs.YtjhihjkhbmbigaaDoor
