/- What a parter takes of a block, byte by byte. -/
import Derived.Test.YtebfjmjdcbeekaaDoorWeaC
namespace Go.Proofs.YtebfjmjdcbeekaaDoor
open Go.RowKit Go.PlainAid
set_option linter.unusedVariables false
set_option linter.unusedSimpArgs false

/-- A parter's cells. -/
def prArr (e n : Nat) (B : List UInt8) (had : Nat) : List Value := [Value.int .i64 (e : Int), Value.int .i64 (n : Int)] ++ (nz B).map (Value.int .u8) ++ [Value.int .i64 (had : Int)]
theorem PrC.arr {w : World} {g e n had : Nat} {B : List UInt8} (h : PrC w g e n B had) : Cel w g 67 (prArr e n B had).toArray := h
theorem prArr_len (e n : Nat) (B : List UInt8) (had : Nat) : (prArr e n B had).length = B.length + 3 := by simp [prArr, nz_len]
theorem prArr_byte (e n : Nat) (B : List UInt8) (had j : Nat) (h : j < B.length) : (prArr e n B had)[2 + j]? = some (.int .u8 ((B.getD j 0).toNat : Int)) := by
  unfold prArr
  rw [List.append_assoc, List.getElem?_append_right (by simp), List.getElem?_append_left (by simp [nz_len]; omega)]
  simp [nz, h]
theorem prArr_had (e n : Nat) (B : List UInt8) (had : Nat) (h : B.length = 81) : (prArr e n B had)[83]? = some (.int .i64 (had : Int)) := by
  unfold prArr
  rw [List.getElem?_append_right (by simp [nz_len, h])]
  simp [nz_len, h]
theorem prArr_set_n (e n n' : Nat) (B : List UInt8) (had : Nat) : (prArr e n B had).set 1 (.int .i64 (n' : Int)) = prArr e n' B had := rfl
theorem prArr_set_had (e n : Nat) (B : List UInt8) (had had' : Nat) (h : B.length = 81) : (prArr e n B had).set 83 (.int .i64 (had' : Int)) = prArr e n B had' := by
  unfold prArr
  rw [List.set_append_right _ _ (by simp [nz_len, h])]
  simp [nz_len, h]
theorem prArr_set_byte (e n : Nat) (B : List UInt8) (had j : Nat) (c : UInt8) (h : j < B.length) : (prArr e n B had).set (2 + j) (.int .u8 (c.toNat : Int)) = prArr e n (B.set j c) had := by
  unfold prArr
  rw [List.append_assoc, List.set_append_right _ _ (by simp), List.set_append_left _ _ (by simp [nz_len]; omega), ← List.append_assoc]
  congr 2
  simp [nz, List.map_set]
section
variable {w w' : World} {g e n had : Nat} {B : List UInt8}
theorem PrC.keeps {F : Nat → Prop} (h : PrC w g e n B had) (hk : Keeps F w w') (hn : ¬ F g) : PrC w' g e n B had := Cel.keeps h hk hn
theorem PrC.below (h : PrC w g e n B had) (hb : Below w.heap.size w w') : PrC w' g e n B had := Cel.below h hb
theorem PrC.typ (h : PrC w g e n B had) : Typ19 w g 67 := Cel.typ19 h
theorem PrC.set_n (h : PrC w g e n B had) (n' : Nat) : PrC (w.setCell ⟨g, 1, none⟩ (.int .i64 (n' : Int))) g e n' B had := by
  have k := Cel.set_ h.arr 1 (.int .i64 (n' : Int))
  rw [List.setIfInBounds_toArray, prArr_set_n] at k
  exact k
theorem PrC.set_had (h : PrC w g e n B had) (hB : B.length = 81) (had' : Nat) : PrC (w.setCell ⟨g, 83, none⟩ (.int .i64 (had' : Int))) g e n B had' := by
  have k := Cel.set_ h.arr 83 (.int .i64 (had' : Int))
  rw [List.setIfInBounds_toArray, prArr_set_had e n B had had' hB] at k
  exact k
theorem PrC.set_byte (h : PrC w g e n B had) {j : Nat} (hj : j < B.length) (c : UInt8) : PrC (w.setCell ⟨g, 2 + j, none⟩ (.int .u8 (c.toNat : Int))) g e n (B.set j c) had := by
  have k := Cel.set_ h.arr (2 + j) (.int .u8 (c.toNat : Int))
  rw [List.setIfInBounds_toArray, prArr_set_byte e n B had j c hj] at k
  exact k
theorem PrC.cells (h : PrC w g e n B had) (hB : B.length = 81) : w.cell? ⟨g, 0, none⟩ = some (.int .i64 (e : Int)) ∧ w.cell? ⟨g, 1, none⟩ = some (.int .i64 (n : Int)) ∧ w.cell? ⟨g, 83, none⟩ = some (.int .i64 (had : Int)) ∧ w.frozen? ⟨g, 1, none⟩ = false ∧ w.frozen? ⟨g, 83, none⟩ = false := by
  refine ⟨Cel.cell h 0, Cel.cell h 1, ?_, Cel.frozen h 1, Cel.frozen h 83⟩
  rw [Cel.cell h.arr 83]
  simpa using prArr_had e n B had hB
theorem PrC.byte (h : PrC w g e n B had) {j : Nat} (hj : j < B.length) : w.cell? ⟨g, 2 + j, none⟩ = some (.int .u8 ((B.getD j 0).toNat : Int)) ∧ w.frozen? ⟨g, 2 + j, none⟩ = false := by
  refine ⟨?_, Cel.frozen h _⟩
  rw [Cel.cell h.arr (2 + j)]
  simpa using prArr_byte e n B had j hj
/-- What is kept of a block, as a slice. -/
theorem PrC.slice (h : PrC w g e n B had) (hB : B.length = 81) (m : Nat) (hm : m ≤ 81) : BytA w (some ⟨g, 2, none⟩) m 81 (B.take m) := by
  refine ⟨⟨by rw [nz_len, List.length_take]; omega, .inr ⟨g, 2, rfl, Cel.lt h, by omega, fun j hj => ?_⟩⟩, by rw [List.length_take]; omega, hm, fun e => by cases e⟩
  rw [(h.byte (j := j) (by omega)).1, nz_get]
  simp [List.getD_eq_getElem?_getD, List.getElem?_take, hj]
end
/-- What is kept when another byte comes. -/
def takeB (B : List UInt8) (had : Nat) (c : UInt8) : List UInt8 := if had < 81 then B.set had c else B
theorem takeB_len {B : List UInt8} (h : B.length = 81) (had : Nat) (c : UInt8) : (takeB B had c).length = 81 := by unfold takeB; split <;> simp [h]
/-- Where it is written. -/
theorem take_put (g e n had : Nat) (B : List UInt8) (c : UInt8) (w : World) (h : PrC w g e n B had) (hB : B.length = 81) (hh : had < 81) : ∃ W1, w.drew.setCell ⟨g, 2 + had, none⟩ (.int .u8 (c.toNat : Int)) = W1 ∧ PrC W1 g e n (takeB B had c) had ∧ Keeps (· = g) w W1 := by
  refine ⟨_, rfl, ?_, Keeps.setCell (F := (· = g)) (Keeps.drewN (Keeps.refl _ w) 1) (p := ⟨g, 2 + had, none⟩) (.inl rfl) _⟩
  unfold takeB
  rw [if_pos hh]
  have h2 : PrC w.drew g e n B had := h.below (Below.drewN' (Below.refl _ w) 1)
  exact h2.set_byte (by omega) c
theorem take_had (g e n had : Nat) (B : List UInt8) (w : World) (h : PrC w g e n B had) (hB : B.length = 81) (had' : Nat) : ∃ W1, w.setCell ⟨g, 83, none⟩ (.int .i64 (had' : Int)) = W1 ∧ PrC W1 g e n B had' ∧ Keeps (· = g) w W1 :=
  ⟨_, rfl, h.set_had hB had', Keeps.setCell (F := (· = g)) (Keeps.refl _ w) (p := ⟨g, 83, none⟩) (.inl rfl) _⟩
theorem take_end (g e n had : Nat) (B : List UInt8) (w : World) (h : PrC w g e n B had) (hB : B.length = 81) : PrC ((w.setCell ⟨g, 1, none⟩ (.int .i64 0)).setCell ⟨g, 83, none⟩ (.int .i64 0)).drew.drew g e 0 B 0 ∧ Keeps (· = g) w ((w.setCell ⟨g, 1, none⟩ (.int .i64 0)).setCell ⟨g, 83, none⟩ (.int .i64 0)).drew.drew := by
  have k := (h.set_n 0).set_had hB 0
  exact ⟨k.below (Below.drewN' (Below.refl _ _) 2), Keeps.drewN (Keeps.setCell (F := (· = g)) (Keeps.setCell (F := (· = g)) (Keeps.refl _ w) (p := ⟨g, 1, none⟩) (.inl rfl) _) (p := ⟨g, 83, none⟩) (.inl rfl) _) 2⟩
/-- What a byte more of a block brings. -/
def TakePost (g e n had : Nat) (B : List UInt8) (w : World) (x : Ending) (w' : World) : Prop :=
  if had + 1 ≤ 16 * (B.headD 0).toNat then x = .returned (.slice none 0 0) ∧ PrC w' g e n B (had + 1) ∧ Keeps (· = g) w w'
  else x = .returned (.slice (some ⟨g, 2, none⟩) (min (had + 1) 81) 81) ∧ PrC w' g e 0 B 0 ∧ Keeps (· = g) w w'
set_option maxRecDepth 100000 in
set_option maxHeartbeats 2000000 in
theorem take_any (g e n had : Nat) (B : List UInt8) (c : UInt8) (w : World) (h : PrC w g e n B had) (hB : B.length = 81) (hh : had ≤ 5000) :
    Calls Tryd.prog 20 #[.pointer (some ⟨g, 0, none⟩), .int .u8 (c.toNat : Int)] w (TakePost g e n had (takeB B had c) w) := by
  have hB2 := takeB_len hB had c
  obtain ⟨c0, c1, c2, f1, f2⟩ := h.cells hB
  obtain ⟨m, hm⟩ : ∃ m, had + 1 = m := ⟨_, rfl⟩
  have hm1 : (had : Int) + 1 = (m : Int) := by omega
  by_cases hlt : had < 81
  · have q1 : (had : Int) < 81 := by omega
    obtain ⟨W1, hW1, hp1, hk1⟩ := take_put g e n had B c w h hB hlt
    generalize takeB B had c = B2 at *
    obtain ⟨d0, d1, d2, e1, e2⟩ := hp1.cells hB2
    obtain ⟨W2, hW2, hp2, hk2⟩ := take_had g e n had B2 W1 hp1 hB2 m
    have HP2 := Lib.hid hp2
    have HK2 := Lib.hid (hk1.trans hk2)
    have b0 := (h.byte (j := had) (by omega)).1
    have b1 := (h.byte (j := had) (by omega)).2
    clear hp1 hk1 hp2 hk2
    have HW2 : RowKit.Hid (Keeps (· = g) w W2.drew ∧ PrC W2.drew g e n B2 m) := ⟨HK2.out.trans (.of_below (Below.drewN' (Below.refl _ W2) 1)), HP2.out.below (Below.drewN' (Below.refl _ W2) 1)⟩
    obtain ⟨hp3, hk3⟩ := take_end g e n m B2 W2 HP2.out hB2
    have HP3 := Lib.hid (And.intro (HK2.out.trans hk3) hp3)
    obtain ⟨Y, hY⟩ : ∃ Y, (B2.headD 0).toNat = Y := ⟨_, rfl⟩
    have hY255 : Y ≤ 255 := by have := (B2.headD 0).toNat_lt; omega
    have hy0 : W2.cell? ⟨g, 2, none⟩ = some (.int .u8 (Y : Int)) := by
      have k := (HP2.out.byte (j := 0) (by omega)).1
      have e0 : B2.getD 0 0 = B2.headD 0 := by cases B2 <;> rfl
      rw [e0, hY] at k
      exact k
    obtain ⟨z0, z1, z2, g1, g2⟩ := HP2.out.cells hB2
    obtain ⟨K, hK⟩ : ∃ K, min m 81 = K := ⟨_, rfl⟩
    have hK1 : min (m : Int) 81 = (K : Int) := by omega
    have hK2 : (K : Int) ≤ 81 := by omega
    have hK0 : (0 : Int) ≤ (K : Int) := by omega
    have HKm := Lib.hid hK
    have HMh := Lib.hid hm
    have HYy := Lib.hid hY
    clear hp3 hk3 h hK
    by_cases hle : m ≤ 16 * Y
    · have q2 : (m : Int) ≤ 16 * (Y : Int) := by omega
      have HT : RowKit.Hid (TakePost g e n had B2 w (.returned (.slice none 0 0)) W2.drew) := by
        show TakePost g e n had B2 w _ _
        unfold TakePost
        rw [HMh.out, HYy.out, if_pos hle]
        exact ⟨rfl, HW2.out.2, HW2.out.1⟩
      clear hm hY
      go_enter Tryd.func20, Tryd.ntmps20
      go_wp2
      go_region
      go_wp2
      go_region
      go_wp2
      go_ret
      exact HT.out
    · have q2 : ¬ (m : Int) ≤ 16 * (Y : Int) := by omega
      have HT : RowKit.Hid (TakePost g e n had B2 w (.returned (.slice (some ⟨g, 2, none⟩) K 81)) ((W2.setCell ⟨g, 1, none⟩ (.int .i64 0)).setCell ⟨g, 83, none⟩ (.int .i64 0)).drew.drew) := by
        show TakePost g e n had B2 w _ _
        unfold TakePost
        rw [HMh.out, HYy.out, if_neg hle, HKm.out]
        exact ⟨rfl, HP3.out.2, HP3.out.1⟩
      clear hm hY
      go_enter Tryd.func20, Tryd.ntmps20
      go_wp2
      go_region
      go_wp2
      go_region
      go_wp2
      go_region
      go_wp2
      go_ret
      exact HT.out
  · have q1 : ¬ (had : Int) < 81 := by omega
    have hB3 : takeB B had c = B := if_neg hlt
    rw [hB3] at *
    obtain ⟨B2, hBB⟩ : ∃ B2, B = B2 := ⟨_, rfl⟩
    subst hBB
    obtain ⟨W2, hW2, hp2, hk2⟩ := take_had g e n had B w h hB m
    have HP2 := Lib.hid hp2
    have HK2 := Lib.hid hk2
    clear hp2 hk2
    have HW2 : RowKit.Hid (Keeps (· = g) w W2.drew ∧ PrC W2.drew g e n B m) := ⟨HK2.out.trans (.of_below (Below.drewN' (Below.refl _ W2) 1)), HP2.out.below (Below.drewN' (Below.refl _ W2) 1)⟩
    obtain ⟨hp3, hk3⟩ := take_end g e n m B W2 HP2.out hB
    have HP3 := Lib.hid (And.intro (HK2.out.trans hk3) hp3)
    obtain ⟨Y, hY⟩ : ∃ Y, (B.headD 0).toNat = Y := ⟨_, rfl⟩
    have hY255 : Y ≤ 255 := by have := (B.headD 0).toNat_lt; omega
    have hy0 : W2.cell? ⟨g, 2, none⟩ = some (.int .u8 (Y : Int)) := by
      have k := (HP2.out.byte (j := 0) (by omega)).1
      have e0 : B.getD 0 0 = B.headD 0 := by cases B <;> rfl
      rw [e0, hY] at k
      exact k
    obtain ⟨z0, z1, z2, g1, g2⟩ := HP2.out.cells hB
    obtain ⟨K, hK⟩ : ∃ K, min m 81 = K := ⟨_, rfl⟩
    have hK1 : min (m : Int) 81 = (K : Int) := by omega
    have hK2 : (K : Int) ≤ 81 := by omega
    have hK0 : (0 : Int) ≤ (K : Int) := by omega
    have HKm := Lib.hid hK
    have HMh := Lib.hid hm
    have HYy := Lib.hid hY
    clear hp3 hk3 h hK
    by_cases hle : m ≤ 16 * Y
    · have q2 : (m : Int) ≤ 16 * (Y : Int) := by omega
      have HT : RowKit.Hid (TakePost g e n had B w (.returned (.slice none 0 0)) W2.drew) := by
        show TakePost g e n had B w _ _
        unfold TakePost
        rw [HMh.out, HYy.out, if_pos hle]
        exact ⟨rfl, HW2.out.2, HW2.out.1⟩
      clear hm hY
      go_enter Tryd.func20, Tryd.ntmps20
      go_wp2
      go_region
      go_wp2
      go_ret
      exact HT.out
    · have q2 : ¬ (m : Int) ≤ 16 * (Y : Int) := by omega
      have HT : RowKit.Hid (TakePost g e n had B w (.returned (.slice (some ⟨g, 2, none⟩) K 81)) ((W2.setCell ⟨g, 1, none⟩ (.int .i64 0)).setCell ⟨g, 83, none⟩ (.int .i64 0)).drew.drew) := by
        show TakePost g e n had B w _ _
        unfold TakePost
        rw [HMh.out, HYy.out, if_neg hle, HKm.out]
        exact ⟨rfl, HP3.out.2, HP3.out.1⟩
      clear hm hY
      go_enter Tryd.func20, Tryd.ntmps20
      go_wp2
      go_region
      go_wp2
      go_region
      go_wp2
      go_ret
      exact HT.out
end Go.Proofs.YtebfjmjdcbeekaaDoor
