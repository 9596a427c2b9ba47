/- The walk of the statement on sums in parts, by the contracts of the functions that it calls. -/
import Derived.Test.YthdgldfnpjgjpaaCheL
namespace Go.Proofs.Ythdgldfnpjgjpaa
open Go.RowKit
set_option linter.unusedVariables false

/-- The first r lists, one behind the other. -/
def flatK (Z : Nat → List Int) : Nat → List Int
  | 0 => []
  | r + 1 => flatK Z r ++ Z r
theorem flatK_bd {Z : Nat → List Int} {r : Nat} (h : ∀ j, j < r → ∀ i, i < (Z j).length → 0 ≤ (Z j).getD i 0 ∧ (Z j).getD i 0 ≤ 255) : ∀ i, i < (flatK Z r).length → 0 ≤ (flatK Z r).getD i 0 ∧ (flatK Z r).getD i 0 ≤ 255 := by
  induction r with
  | zero => intro i hi; simp [flatK] at hi
  | succ r ih =>
    intro i hi
    have ih' := ih (fun j hj => h j (by omega))
    unfold flatK at hi ⊢
    rw [List.length_append] at hi
    simp only [List.getD, List.getElem?_append]
    split
    · exact ih' i (by assumption)
    · exact h r (by omega) (i - (flatK Z r).length) (by omega)

/-- What holds between the rounds: 'all' has the bytes, and so has the sum at block g. -/
def SumSt (w wr : World) (g : Nat) (v : Value) (xs : List Int) : Prop :=
  wr.ownsRow w.heap.size 5 1 v xs.length (xs.map (Value.int .u8)) ∧ SumAt wr g xs ∧ Below w.heap.size w wr ∧ g < wr.heap.size ∧ w.heap.size ≤ g
theorem SumSt.below {w wr w' : World} {g : Nat} {v : Value} {xs : List Int} (h : SumSt w wr g v xs) (hb : Below wr.heap.size wr w') : SumSt w w' g v xs := by
  obtain ⟨h1, h2, h3, h4, h5⟩ := h
  exact ⟨own_below h1 hb, h2.keep (hb.block g h4), h3.trans (hb.mono h3.size), Nat.lt_of_lt_of_le h4 hb.size, h5⟩
theorem own_ne_sum {w : World} {base n g : Nat} {v : Value} {xs : List Value} {ys : List Int} (h : w.ownsRow base 5 1 v n xs) (hs : SumAt w g ys) (k : Nat) (hk : v.ownBlock = some k) : k ≠ g := by
  rintro rfl
  obtain ⟨cs, hc⟩ := hs.blk
  rcases h.2 with ⟨rfl, _⟩ | ⟨g', cap, cur, rfl, _, hh, _⟩
  · simp [Value.ownBlock] at hk
  · simp [Value.ownBlock] at hk
    subst hk
    rw [hc] at hh
    injection hh with hh
    injection hh with _ ht
    revert ht; decide
theorem grown_below {w w' : World} {B : Nat} {row : Option Nat} (hg : w.grownBy w' row) (hB : B ≤ w.heap.size) (hr : ∀ k, row = some k → B ≤ k) : Below B w w' := (Below.refl B w).grown hg hB hr

set_option maxRecDepth 100000 in
theorem checkSums_law (a : Option Addr) (len cap : Nat) (A : Nat → Option Addr) (L C : Nat → Nat) (Z : Nat → List Int) (w : World) (h : RowsIn w .u8 a len A L C Z) (hl : len ≤ 30) :
    Calls Try.prog 3 #[.slice a len cap] w fun e w' => e = .returned (.bool true) ∧ Below w.heap.size w w' := by
  have H0 := Lib.hid h; clear h
  have hd1 : decide ((30 : Int) < (len : Int)) = false := by simp; omega
  have hB := Lib.hid (Below.refl w.heap.size w)
  go_enter Try.func3, Try.ntmps3
  go_wp2_with (go_at_call 5; refine (lives03_any _).mono ?_; rintro e w1 ⟨rfl, hb⟩; replace hB := Lib.hid (chain hB.out hb); clear hb)
  have hw1 := hB.out.size
  have hS0 : RowKit.Hid (SumSt w (w1.alloc (.cells sumZ 27)) w1.heap.size (.slice none 0 0) []) :=
    ⟨World.ownsRow_nil _ _ _ _, sumAt_new w1, hB.out.alloc hw1 _, by simp, hw1⟩
  generalize hg : w1.heap.size = g at hw1 hS0 ⊢
  clear hg hB
  go_loopw [3, 6, 7, 19] (fun v _ _ i wr => ∃ r : Nat, r ≤ len ∧ i = .int .i64 r ∧ (flatK Z r).length ≤ 300 * r ∧ (∀ j, j < r → (L j) ≤ 300) ∧ RowKit.Hid (SumSt w wr g v (flatK Z r)))
    (fun _ _ _ i _ => len - (intOf i).toNat)
  case atStart => exact ⟨0, by omega, rfl, by simp [flatK], fun j hj => by omega, hS0.out⟩
  case round =>
    obtain ⟨r, hr, rfl, hfl, hL, HS⟩ := hrel
    clear hS0
    by_cases hlt : r < len
    · obtain ⟨b0, off, rfl, hbB, hrows⟩ := H0.out.2.resolve_left (by omega)
      obtain ⟨hc0, hLm, hnone0, hints, hwf0⟩ := hrows r hlt
      have hcell := HS.out.2.2.1.cell (p := ⟨b0, off + r, none⟩) hbB
      rw [hc0] at hcell
      clear hc0 hrows
      have hlm := H0.out.1
      by_cases h300 : 300 < L r
      · go_wp2
        go_ret
        exact ⟨rfl, HS.out.2.2.1⟩
      · have HI := Lib.hid hints
        have HW := Lib.hid hwf0
        have hnone := Lib.hid hnone0
        have hzl := Lib.hid hints.1
        have hsz := HS.out.2.2.1.size
        have hown0 := Lib.hid (World.ownsRow_lit (base := w.heap.size) (e := 5) (size := 1) wr #[] 0 hsz (by decide) rfl)
        have hb1 := Lib.hid (HS.out.2.2.1.alloc hsz (.cells #[] 5))
        have HZ : RowKit.Hid (flatK Z (r + 1) = flatK Z r ++ Z r) := rfl
        clear hints hwf0 hnone0
        go_wp2_with (at_builtin; go_loud (refine append_ints rfl _ _ 24 rfl w.heap.size 5 .u8 1 Try.underlying24 info_u8 _ 0 [] rfl hown0.out (A r) (L r) (C r) w.heap.size (Z r) rfl (HI.out.below hb1.out) hnone.out ?c1 ?c2 ?c3 ?_))
        case c1 => unfold maxLen; omega
        case c2 => omega
        case c3 => first | omega | (simp; omega)
        intro v1 w2 hown1 hgrow1 hat1
        have hbw : Below wr.heap.size wr w2 := ((Below.refl wr.heap.size wr).alloc (Nat.le_refl _) _).trans (grown_below hgrow1 (by simp) (by intro k hk; simp [Value.ownBlock] at hk; omega))
        have HS2 := Lib.hid (HS.out.below hbw)
        have hfar : ∀ k, v1.ownBlock = some k → wr.heap.size ≤ k := by
          intro k hk
          rcases hat1 with h | h <;> rw [h] at hk <;> simp [Value.ownBlock] at hk <;> omega
        have HF := Lib.hid hfar
        have hold : ∀ k, u3.ownBlock = some k → k < wr.heap.size := own_lt HS.out.1
        have HO := Lib.hid hold
        obtain ⟨a1, c1, rfl⟩ := own_form hown1
        have HO1 := Lib.hid hown1
        have hbd : ∀ j, j < L r → 0 ≤ (Z r).getD j 0 ∧ (Z r).getD j 0 ≤ 255 := fun j _ => by simpa [List.getD] using range_u8 HW.out j
        have HD := Lib.hid hbd
        have hsz2 := HS2.out.2.2.1.size
        clear hbw hfar hold hat1 hgrow1 hown1 hbd hb1 hown0 HS hsz hcell
        go_wp2_with (first | (go_at_call 6; go_loud (refine (sumWrite_any g (flatK Z r) a1 (L r) c1 (Z r) w2 HS2.out.2.1 (own_ints' HO1.out) HD.out (by omega) (by omega)).mono ?_); rintro e w3 ⟨rfl, hs3, hg3⟩; have HA3 := Lib.hid (own_grown HS2.out.1 hg3 (fun k hk c => own_ne_sum HS2.out.1 HS2.out.2.1 k hk (by injection c))); have HO3 := Lib.hid (own_grown HO1.out hg3 (fun k hk c => own_ne_sum HO1.out HS2.out.2.1 k hk (by injection c))); have HB3 := Lib.hid (HS2.out.2.2.1.grown hg3 hsz2 (by intro k hk; injection hk with hk; omega)); have HS3 := Lib.hid hs3; have hsz3 := HB3.out.size; have hgl := Lib.hid (Nat.lt_of_lt_of_le HS2.out.2.2.2.1 hg3.size); clear hs3 hg3 HS2 HO1) | (at_builtin; go_loud (refine append_ints rfl _ _ 24 rfl w.heap.size 5 .u8 1 Try.underlying24 info_u8 _ (flatK Z r).length (flatK Z r) rfl HA3.out (A r) (L r) (C r) w.heap.size (Z r) rfl (HI.out.below HB3.out) hnone.out ?d1 ?d2 ?d3 ?_)))
        case d1 => unfold maxLen; omega
        case d2 => omega
        case d3 => exact hsz3
        intro v3 w4 hown4 hgrow4 _
        have hn : (flatK Z (r + 1)).length = (flatK Z r).length + L r := by rw [HZ.out, List.length_append, hzl.out]
        have hfl1 : (flatK Z (r + 1)).length ≤ 300 * (r + 1) := by omega
        have hS4 : SumSt w w4 g v3 (flatK Z (r + 1)) := by
          refine ⟨?_, ?_, HB3.out.grown hgrow4 hsz3 (own_base HA3.out), Nat.lt_of_lt_of_le hgl.out hgrow4.size, hw1⟩
          · rw [hn, HZ.out, List.map_append]; exact hown4
          · rw [HZ.out]; exact HS3.out.keep (hgrow4.block g hgl.out (fun c => own_ne_sum HA3.out HS3.out g c.symm rfl))
        have hO4 : w4.ownsRow w.heap.size 5 1 (.slice a1 (L r) c1) (L r) ((Z r).map (Value.int .u8)) := by
          refine own_grown HO3.out hgrow4 (fun k hk c => ?_)
          have := HF.out k hk
          have := HO.out k c.symm
          omega
        obtain ⟨T, hT⟩ : ∃ T, T = textOf (Z r) := ⟨_, rfl⟩
        have hc1 : (convert 24 9 (.slice a1 (L r) c1)).run Try.prog w4 = .ok (.string T) w4 := by
          rw [hT]; exact string_of_ints Try.underlying24 Try.underlying5 Try.underlying9 (own_ints' hO4)
        have hc2 : (convert 24 9 (.slice (A r) (L r) (C r))).run Try.prog w4 = .ok (.string T) w4 := by
          rw [hT]; exact string_of_ints Try.underlying24 Try.underlying5 Try.underlying9 (HI.out.below hS4.2.2.1)
        clear hT
        obtain ⟨a3, c3, rfl⟩ := own_form hS4.1
        have hbd : ∀ j, j < (flatK Z (r + 1)).length → 0 ≤ (flatK Z (r + 1)).getD j 0 ∧ (flatK Z (r + 1)).getD j 0 ≤ 255 :=
          flatK_bd (r := r + 1) (fun j hj i _ => by
            obtain ⟨b', o', _, _, hrs⟩ := H0.out.2.resolve_left (by omega)
            obtain ⟨_, _, _, _, hwf⟩ := hrs j (by omega)
            simpa [List.getD] using range_u8 hwf i)
        have HD4 := Lib.hid hbd
        have HS4 := Lib.hid hS4
        have HN := Lib.hid hn
        clear hbd hS4 hO4 hown4 hgrow4 hn HZ
        generalize hm : (flatK Z (r + 1)).length = m at hfl1 HD4 HN ⊢
        have HM := Lib.hid hm
        clear hm
        go_wp2_with (first | (go_at_call 7; go_loud (refine (sumValue_any g (flatK Z (r + 1)) _ HS4.out.2.1).mono ?_); rintro e w5 ⟨rfl, hb⟩; replace HS4 := Lib.hid (HS4.out.below hb); clear hb) | (go_at_call 9; go_loud (refine (sumLen_any g (flatK Z (r + 1)) _ HS4.out.2.1).mono ?_); rw [HM.out]; rintro e w5 ⟨rfl, hb⟩; replace HS4 := Lib.hid (HS4.out.below hb); clear hb) | (go_at_call 8; go_loud (refine (ref03Of_any a3 m c3 (flatK Z (r + 1)) _ (by have := own_ints' HS4.out.1; rw [HM.out] at this; exact this) HD4.out (by omega)).mono ?_); rintro e w5 ⟨rfl, rfl⟩))
        go_roundw
        case rel =>
          refine ⟨r + 1, by omega, by go_num, by rw [HM.out]; exact hfl1, fun j hj => ?_, ?_⟩
          · by_cases hjr : j = r
            · subst hjr; omega
            · exact hL j (by omega)
          · have := HS4.out; rw [HM.out] at this; exact this
        case measure => simp [intOf] <;> omega
    · obtain rfl : r = len := by omega
      obtain ⟨a3, c3, rfl⟩ := own_form HS.out.1
      have hbd : ∀ j, j < (flatK Z r).length → 0 ≤ (flatK Z r).getD j 0 ∧ (flatK Z r).getD j 0 ≤ 255 :=
        flatK_bd (r := r) (fun j hj i _ => by
          obtain ⟨b', o', _, _, hrs⟩ := H0.out.2.resolve_left (by omega)
          obtain ⟨_, _, _, _, hwf⟩ := hrs j (by omega)
          simpa [List.getD] using range_u8 hwf i)
      have HD4 := Lib.hid hbd
      have HS4 := Lib.hid HS.out
      clear hbd HS
      generalize hm : (flatK Z r).length = m at hfl HD4 ⊢
      have HM := Lib.hid hm
      clear hm
      go_wp2_with (first | (go_at_call 6; go_loud (refine (sumWrite_nil _ _ _ _).mono ?_); rintro e w5 ⟨rfl, hb⟩; replace HS4 := Lib.hid (HS4.out.below hb); clear hb) | (go_at_call 7; go_loud (refine (sumValue_nil _).mono ?_); rintro e w5 ⟨rfl, hb⟩; replace HS4 := Lib.hid (HS4.out.below hb); clear hb) | (go_at_call 9; go_loud (refine (sumLen_nil _).mono ?_); rintro e w5 ⟨rfl, hb⟩; replace HS4 := Lib.hid (HS4.out.below hb); clear hb) | (go_at_call 8; go_loud (refine (ref03Of_any a3 m c3 (flatK Z r) _ (by have := own_ints' HS4.out.1; rw [HM.out] at this; exact this) HD4.out (by omega)).mono ?_); rintro e w5 ⟨rfl, rfl⟩) | (go_at_call 10; go_loud (refine (checkOf_any a3 m c3 (flatK Z r) _ (by have := own_ints' HS4.out.1; rw [HM.out] at this; exact this) HD4.out (by omega)).mono ?_); rintro e w5 ⟨rfl, hb⟩; replace HS4 := Lib.hid (HS4.out.below hb); clear hb))
      go_ret
      exact ⟨ret_bool (by simp), HS4.out.2.2.1⟩

set_option maxRecDepth 100000 in
theorem checkSums_out (a : Option Addr) (len cap : Nat) (w : World) (hm : len ≤ 9223372036854775807) (hl : 30 < len) :
    Calls Try.prog 3 #[.slice a len cap] w fun e w' => e = .returned (.bool true) ∧ Below w.heap.size w w' := by
  have hd1 : decide ((30 : Int) < (len : Int)) = true := by simp; omega
  have hB := Lib.hid (Below.refl w.heap.size w)
  go_enter Try.func3, Try.ntmps3
  go_wp2_with (go_at_call 5; refine (lives03_any _).mono ?_; rintro e w1 ⟨rfl, hb⟩; replace hB := Lib.hid (chain hB.out hb); clear hb)
  go_ret
  exact ⟨rfl, hB.out⟩
end Go.Proofs.Ythdgldfnpjgjpaa
