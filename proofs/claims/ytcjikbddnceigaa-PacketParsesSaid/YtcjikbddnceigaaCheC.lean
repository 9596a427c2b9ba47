/- What the functions of package check give, for whatever bytes. -/
import Derived.Test.YtcjikbddnceigaaCheR
import Derived.Test.YtcjikbddnceigaaMemA
namespace Go.Proofs.Ytcjikbddnceigaa
open Go.RowKit
set_option linter.unusedVariables false

/-! ### A byte at once -/
/-- The register with all bits of a byte against it, k of them gone out. -/
def regA (l : List Int) (j k : Nat) : Nat := regN l (8 * j + k) ^^^ ((l.getD j 0).toNat / 2 ^ k)
theorem regA_lt {l : List Int} {j k : Nat} (h0 : 0 ≤ l.getD j 0) (h1 : l.getD j 0 ≤ 255) : regA l j k < 4294967296 := by
  have := Nat.div_le_self (l.getD j 0).toNat (2 ^ k)
  exact Nat.xor_lt_two_pow (n := 32) (regN_lt _ _) (by omega)
theorem regA_zero (l : List Int) (j : Nat) : regA l j 0 = regN l (8 * j) ^^^ (l.getD j 0).toNat := by unfold regA; simp
theorem regA_succ {l : List Int} {j k : Nat} (hk : k < 8) : regA l j (k + 1) = turnR (regA l j k) := by
  unfold regA
  have e : regN l (8 * j + (k + 1)) = turnR (regN l (8 * j + k) ^^^ bitAt l (8 * j + k)) := rfl
  have b : bitAt l (8 * j + k) = (l.getD j 0).toNat / 2 ^ k % 2 := by
    unfold bitAt
    rw [show (8 * j + k) / 8 = j by omega, show (8 * j + k) % 8 = k by omega]
  have s : (l.getD j 0).toNat / 2 ^ (k + 1) = (l.getD j 0).toNat / 2 ^ k / 2 := by rw [Nat.pow_succ, Nat.div_div_eq_div_mul]
  rw [e, b, s]
  generalize (l.getD j 0).toNat / 2 ^ k = y
  conv => rhs; rw [low_high y, ← Nat.xor_assoc, turnR_xor, turn_double]
theorem regA_eight {l : List Int} {j : Nat} (h0 : 0 ≤ l.getD j 0) (h1 : l.getD j 0 ≤ 255) : regA l j 8 = regN l (8 * (j + 1)) := by
  unfold regA
  rw [show (l.getD j 0).toNat / 2 ^ 8 = 0 by omega, Nat.xor_zero, show 8 * (j + 1) = 8 * j + 8 by omega]
theorem turnA_yes {r : Nat} (hr : r < 4294967296) (h : (bits .and .u32 (r : Int) 1 == 1) = true) : bits .xor .u32 ((r : Int) / 2) 2197175160 = ((turnR r : Nat) : Int) := by
  have e : (r : Int) / 2 = ((r / 2 : Nat) : Int) := by omega
  have a := u32_and_nat r 1 hr (by decide)
  have a' : bits .and .u32 (r : Int) 1 = ((r &&& 1 : Nat) : Int) := a
  rw [a', nat_mask1] at h
  have := eq_of_beq h
  unfold turnR
  rw [e, u32_turn (by omega), if_pos (by omega)]
theorem turnA_no {r : Nat} (hr : r < 4294967296) (h : (bits .and .u32 (r : Int) 1 == 1) = false) : (r : Int) / 2 = ((turnR r : Nat) : Int) := by
  have a := u32_and_nat r 1 hr (by decide)
  have a' : bits .and .u32 (r : Int) 1 = ((r &&& 1 : Nat) : Int) := a
  rw [a', nat_mask1] at h
  have h2 : ¬ r % 2 = 1 := by
    intro c
    rw [c] at h
    simp at h
  unfold turnR
  rw [if_neg h2]
  omega

theorem shift_any (zs : List Int) (j : Nat) (r x : Int) (w : World) (hr : r = (regN zs (8 * j) : Nat)) (hx : x = zs.getD j 0) (h0 : 0 ≤ x) (h1 : x ≤ 255) :
    Calls Try.prog 33 #[.int .u32 r, .int .u8 x] w fun e w' => e = .returned (.int .u32 (regN zs (8 * (j + 1)) : Nat)) ∧ w = w' := by
  have E0 : RowKit.Hid (bits .xor .u32 r x = (regA zs j 0 : Nat)) := by
    show _ = _
    obtain ⟨m, hm⟩ : ∃ m : Nat, x = m := ⟨x.toNat, by omega⟩
    rw [regA_zero, ← hx, hr, hm, Int.toNat_natCast]
    exact u32_xor_nat _ _ (regN_lt _ _) (by omega)
  have E8 : RowKit.Hid (regA zs j 8 = regN zs (8 * (j + 1))) := by
    show _ = _
    exact regA_eight (by omega) (by omega)
  have hlt : ∀ k, regA zs j k < 4294967296 := fun k => regA_lt (by omega) (by omega)
  have HL := Lib.hid hlt
  have r0 : 0 ≤ r := by omega
  have r1 : r ≤ 4294967295 := by have := regN_lt zs (8 * j); omega
  clear hlt hr hx
  go_enter Try.func33, Try.ntmps33
  go_wp2
  rw [E0.out]
  go_loop [0, 5, 10] (fun c u i => ∃ k : Nat, k ≤ 8 ∧ i = .int .i64 k ∧ c = .int .u32 (regA zs j k : Nat)) (fun _ _ i => 8 - (intOf i).toNat)
  case atStart => exact ⟨0, by omega, rfl, rfl⟩
  case round =>
    obtain ⟨k, hk, rfl, rfl⟩ := hrel
    by_cases hk8 : k < 8
    · have hr := HL.out k
      have S := Lib.hid (regA_succ (l := zs) (j := j) hk8)
      generalize regA zs j k = r at hr S
      go_wp2
      · have ht : (bits .and .u32 (r : Int) 1 == 1) = true := by assumption
        go_round
        case rel => exact ⟨k + 1, by omega, by go_num, by rw [S.out, turnA_yes hr ht]⟩
        case measure => simp [intOf] <;> omega
      · have ht : (bits .and .u32 (r : Int) 1 == 1) = false := by assumption
        go_round
        case rel => exact ⟨k + 1, by omega, by go_num, by rw [S.out, turnA_no hr ht]⟩
        case measure => simp [intOf] <;> omega
    · obtain rfl : k = 8 := by omega
      go_wp2
      go_ret
      exact ⟨ret_int (by rw [E8.out]), rfl⟩

/-! ### A sum -/
theorem regN_app (xs ys : List Int) : regN (xs ++ ys) (8 * xs.length) = regN xs (8 * xs.length) := by
  refine regN_same _ fun k hk => ?_
  unfold bitAt
  have : k / 8 < xs.length := by omega
  simp [List.getD, List.getElem?_append, this]
theorem getD_app {xs ys : List Int} {k : Nat} : (xs ++ ys).getD (xs.length + k) 0 = ys.getD k 0 := by
  have e : ¬ xs.length + k < xs.length := by omega
  simp [List.getD, List.getElem?_append, e]
/-- All bits turned. -/
theorem u32_not {c : Int} (h0 : 0 ≤ c) (h1 : c ≤ 4294967295) : bits .xor .u32 4294967295 c = 4294967295 - c := by
  obtain ⟨m, rfl⟩ : ∃ m : Nat, c = m := ⟨c.toNat, by omega⟩
  have a := u32_xor_nat 4294967295 m (by decide) (by omega)
  refine Eq.trans a ?_
  have e : 4294967295 ^^^ m = 4294967295 - m := by
    apply Nat.eq_of_testBit_eq
    intro i
    have s := Nat.testBit_two_pow_sub_succ (n := 32) (x := m) (by omega) i
    rw [show 2 ^ 32 - (m + 1) = 4294967295 - m by omega] at s
    rw [s, Nat.testBit_xor, show (4294967295 : Nat) = 2 ^ 32 - 1 by rfl, Nat.testBit_two_pow_sub_one]
    by_cases hi : i < 32
    · simp [hi]
    · have : m.testBit i = false := Nat.testBit_lt_two_pow (Nat.lt_of_lt_of_le (show m < 2 ^ 32 by omega) (Nat.pow_le_pow_right (by decide) (by omega)))
      simp [hi, this]
  rw [e]; omega
theorem u32_not' {c : Int} (h0 : 0 ≤ c) (h1 : c ≤ 4294967295) : bits .xor .u32 IntKind.u32.max c = 4294967295 - c := u32_not h0 h1
/-- Block g is a sum that had the bytes xs. -/
def SumAt (w : World) (g : Nat) (xs : List Int) : Prop := w.heap[g]? = some (.cells #[.int .u32 (crcP xs), .int .i64 xs.length] 62 (0, 0))
theorem SumAt.blk {w : World} {g : Nat} {xs : List Int} (h : SumAt w g xs) : ∃ cs, w.heap[g]? = some (.cells cs 62 (0, 0)) := ⟨_, h⟩
theorem SumAt.keep {w w' : World} {g : Nat} {xs : List Int} (h : SumAt w g xs) (hk : w'.heap[g]? = w.heap[g]?) : SumAt w' g xs := hk.trans h
theorem SumAt.lt {w : World} {g : Nat} {xs : List Int} (h : SumAt w g xs) : g < w.heap.size := by
  rcases Nat.lt_or_ge g w.heap.size with hlt | hge
  · exact hlt
  · unfold SumAt at h; rw [Array.getElem?_eq_none hge] at h; cases h
theorem SumAt.cell0 {w : World} {g : Nat} {xs : List Int} (h : SumAt w g xs) : w.cell? ⟨g, 0, none⟩ = some (.int .u32 (crcP xs)) := cell_of_row w g 0 _ _ (0, 0) h
theorem SumAt.cell1 {w : World} {g : Nat} {xs : List Int} (h : SumAt w g xs) : w.cell? ⟨g, 1, none⟩ = some (.int .i64 xs.length) := cell_of_row w g 1 _ _ (0, 0) h
theorem SumAt.frozen {w : World} {g : Nat} {xs : List Int} (h : SumAt w g xs) (j : Nat) : w.frozen? ⟨g, j, none⟩ = false := by
  unfold SumAt at h
  simp [World.frozen?, h]
/-- A new sum's cells. -/
abbrev sumZ : Array Value := #[.int .u32 0, .int .i64 0]
theorem crcP_nil : crcP [] = 0 := by rw [crcP_eq]; rfl
theorem sumAt_new (w : World) : SumAt (w.alloc (.cells sumZ 62)) w.heap.size [] := by
  unfold SumAt
  rw [heap_alloc_new, crcP_nil]
  rfl
theorem crcP_app (xs ys : List Int) : (regN (xs ++ ys) (8 * (xs.length + ys.length)) : Int) = 4294967295 - crcP (xs ++ ys) := by
  rw [crcP_eq, List.length_append]; omega
theorem crcP_reg (xs ys : List Int) : 4294967295 - crcP xs = (regN (xs ++ ys) (8 * xs.length) : Nat) := by
  rw [crcP_eq, regN_app]; omega
theorem grown_two {w : World} {g : Nat} (u v : Value) : w.grownBy ((w.setCell ⟨g, 0, none⟩ u).setCell ⟨g, 1, none⟩ v) (some g) := by
  refine ⟨rfl, rfl, rfl, by simp [World.setCell], fun k hk hn => ?_⟩
  have hne : k ≠ g := by rintro rfl; exact hn rfl
  exact (Below.heap_setCell _ ⟨g, 1, none⟩ v k hne).trans (Below.heap_setCell w ⟨g, 0, none⟩ u k hne)
theorem sumAt_two {w : World} {g : Nat} {xs zs : List Int} (h : SumAt w g xs) : SumAt ((w.setCell ⟨g, 0, none⟩ (.int .u32 (crcP zs))).setCell ⟨g, 1, none⟩ (.int .i64 zs.length)) g zs := by
  unfold SumAt at h ⊢
  simp [World.setCell, Array.getElem?_modify, h]

theorem sumWrite_any (g : Nat) (xs : List Int) (a : Option Addr) (len cap : Nat) (ys : List Int) (w : World) (hg : SumAt w g xs) (h : IntsAt w w.heap.size .u8 a len ys) (hb : ∀ j, j < len → 0 ≤ ys.getD j 0 ∧ ys.getD j 0 ≤ 255) (hm : len ≤ 9223372036854775807) (hs : xs.length + len ≤ 9223372036854775807) :
    Calls Try.prog 27 #[.pointer (some ⟨g, 0, none⟩), .slice a len cap] w fun e w' => e = .returned (.tuple #[]) ∧ SumAt w' g (xs ++ ys) ∧ w.grownBy w' (some g) := by
  have H0 := Lib.hid h; clear h
  have HW := Lib.hid hb; clear hb
  have HG := Lib.hid hg; clear hg
  have hc0 := HG.out.cell0
  have hc1 := HG.out.cell1
  have hf0 := HG.out.frozen 0
  have hf1 := HG.out.frozen 1
  have hlen := Lib.hid H0.out.1
  have hcb := crcP_bd xs
  obtain ⟨cb0, cb1⟩ := hcb
  have E0 := Lib.hid (crcP_reg xs ys)
  have EN := Lib.hid (crcP_app xs ys)
  have EL : RowKit.Hid ((xs ++ ys).length = xs.length + len) := by show _ = _; rw [List.length_append, hlen.out]
  have EC := Lib.hid (u32_not' cb0 cb1)
  generalize crcP xs = c at hc0 cb0 cb1 E0 EC
  have hb2 := crcP_bd (xs ++ ys)
  obtain ⟨cc0, cc1⟩ := hb2
  have ED := Lib.hid (u32_not' (c := 4294967295 - crcP (xs ++ ys)) (by omega) (by omega))
  generalize hcq : crcP (xs ++ ys) = q at EN cc0 cc1 ED
  have EQ := Lib.hid hcq
  clear hcq
  go_enter Try.func27, Try.ntmps27
  go_wp2
  rw [EC.out, E0.out]
  go_loop [4, 6, 16] (fun r u i => ∃ k : Nat, k ≤ len ∧ i = .int .i64 k ∧ r = .int .u32 (regN (xs ++ ys) (8 * (xs.length + k)) : Nat)) (fun _ _ i => len - (intOf i).toNat)
  case atStart => exact ⟨0, by omega, rfl, rfl⟩
  case round =>
    obtain ⟨k, hk, rfl, rfl⟩ := hrel
    by_cases hlt : k < len
    · obtain ⟨b, off, rfl, hbB, _, hcell⟩ := H0.out.at_ hlt
      obtain ⟨x0, x1⟩ := HW.out k hlt
      obtain ⟨x, hx⟩ : ∃ x, x = ys.getD k 0 := ⟨_, rfl⟩
      rw [← hx] at hcell x0 x1
      have HX : RowKit.Hid (x = (xs ++ ys).getD (xs.length + k) 0) := by show _ = _; rw [getD_app]; exact hx
      clear hx
      go_wp2_with (go_at_call 33; go_loud (refine (shift_any (xs ++ ys) (xs.length + k) _ x _ rfl HX.out x0 x1).mono ?_); rintro e w' ⟨rfl, rfl⟩)
      go_round
      case rel => exact ⟨k + 1, by omega, by go_num, by rw [Nat.add_assoc]⟩
      case measure => simp [intOf] <;> omega
    · obtain rfl : k = len := by omega
      have ER : RowKit.Hid ((regN (xs ++ ys) (8 * (xs.length + k)) : Int) = 4294967295 - q) := by show _ = _; rw [← EN.out, hlen.out]
      generalize regN (xs ++ ys) (8 * (xs.length + k)) = r at ER
      rw [ER.out]
      go_wp2
      go_end0
      have eq : bits .xor .u32 IntKind.u32.max (4294967295 - q) = crcP (xs ++ ys) := by rw [ED.out, EQ.out]; omega
      have el : (((xs ++ ys).length : Nat) : Int) = (xs.length : Int) + (k : Int) := by rw [EL.out]; omega
      refine ⟨rfl, ?_, grown_two _ _⟩
      rw [eq, ← el]
      exact sumAt_two HG.out
theorem sumWrite_nil (a : Option Addr) (len cap : Nat) (w : World) :
    Calls Try.prog 27 #[.pointer none, .slice a len cap] w fun e w' => e = .returned (.tuple #[]) ∧ Below w.heap.size w w' := by
  go_enter Try.func27, Try.ntmps27
  go_wp2
  exact bodyPost_ret (v := .tuple #[]) (by simp [results, Try.results27]) rfl ⟨rfl, Below.refl _ _⟩
theorem sumValue_any (g : Nat) (xs : List Int) (w : World) (hg : SumAt w g xs) :
    Calls Try.prog 28 #[.pointer (some ⟨g, 0, none⟩)] w fun e w' => e = .returned (.int .u32 (crcP xs)) ∧ Below w.heap.size w w' := by
  have hc0 := hg.cell0
  clear hg
  go_enter Try.func28, Try.ntmps28
  go_wp2
  go_ret
  exact ⟨rfl, Below.refl _ _⟩
theorem sumValue_nil (w : World) :
    Calls Try.prog 28 #[.pointer none] w fun e w' => e = .returned (.int .u32 0) ∧ Below w.heap.size w w' := by
  go_enter Try.func28, Try.ntmps28
  go_wp2
  go_ret
  exact ⟨rfl, Below.refl _ _⟩
theorem checkOf_any (a : Option Addr) (len cap : Nat) (zs : List Int) (w : World) (h : IntsAt w w.heap.size .u8 a len zs) (hb : ∀ j, j < len → 0 ≤ zs.getD j 0 ∧ zs.getD j 0 ≤ 255) (hm : len ≤ 9223372036854775807) :
    Calls Try.prog 18 #[.slice a len cap] w fun e w' => e = .returned (.int .u32 (crcP zs)) ∧ Below w.heap.size w w' := by
  have HS := Lib.hid (sumAt_new w)
  have HI := Lib.hid (h.now (Below.alloc_new w (.cells sumZ 62)) (Nat.le_refl _))
  have HD := Lib.hid hb
  have HB := Lib.hid (Below.alloc_new w (.cells sumZ 62))
  clear h hb
  go_enter Try.func18, Try.ntmps18
  go_wp2_with (first | (go_at_call 27; go_loud (refine (sumWrite_any w.heap.size [] a len _ zs _ HS.out HI.out HD.out hm (by simpa using hm)).mono ?_); rintro e w2 ⟨rfl, hs2, hg2⟩; have HS2 := Lib.hid hs2; have HB2 := Lib.hid (HB.out.grown hg2 HB.out.size (by intro k hk; injection hk with hk; omega)); clear hs2 hg2) | (go_at_call 28; go_loud (refine (sumValue_any w.heap.size _ _ HS2.out).mono ?_); rintro e w3 ⟨rfl, hb⟩; have HB3 := Lib.hid (chain HB2.out hb); clear hb))
  go_ret
  exact ⟨rfl, HB3.out⟩
end Go.Proofs.Ytcjikbddnceigaa
