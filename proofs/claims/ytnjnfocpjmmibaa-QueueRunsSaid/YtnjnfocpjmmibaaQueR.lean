/- Acts that came in; whether they are of a size with which this is tried. -/
import Derived.Test.YtnjnfocpjmmibaaQueL
namespace Go.Proofs.Ytnjnfocpjmmibaa
open Go.RowKit
set_option linter.unusedVariables false
set_option linter.unusedSimpArgs false

/-- An act that came in. -/
structure Ac22 where
  k : Int
  wh : Bool
  n : Int
  b : List Int
  a : Option Addr
  c : Nat
structure AcIn22 (w : World) (b o : Nat) (x : Ac22) : Prop where
  c0 : w.cell? ⟨b, o, none⟩ = some (.int .u8 x.k)
  c1 : w.cell? ⟨b, o + 1, none⟩ = some (.bool x.wh)
  c2 : w.cell? ⟨b, o + 2, none⟩ = some (.int .i64 x.n)
  c3 : w.cell? ⟨b, o + 3, none⟩ = some (.slice x.a x.b.length x.c)
  i : IntsAt w w.heap.size .u8 x.a x.b.length x.b
  hn : x.a = none → x.c = 0
  hc : x.b.length ≤ x.c
  hx : x.c ≤ 9223372036854775807
  k0 : 0 ≤ x.k ∧ x.k ≤ 255
  n0 : -9223372036854775808 ≤ x.n ∧ x.n ≤ 9223372036854775807
theorem AcIn22.below {w w' : World} {b o : Nat} {x : Ac22} (h : AcIn22 w b o x) (hb : Below w.heap.size w w') : AcIn22 w' b o x :=
  ⟨(hb.cell (p := ⟨b, o, none⟩) (cell_block h.c0)).trans h.c0, (hb.cell (p := ⟨b, o + 1, none⟩) (cell_block h.c1)).trans h.c1, (hb.cell (p := ⟨b, o + 2, none⟩) (cell_block h.c2)).trans h.c2, (hb.cell (p := ⟨b, o + 3, none⟩) (cell_block h.c3)).trans h.c3, h.i.now hb (Nat.le_refl _), h.hn, h.hc, h.hx, h.k0, h.n0⟩
theorem AcIn22.by_ {w : World} {b o : Nat} {x : Ac22} (h : AcIn22 w b o x) : By22 w (fun j => j < w.heap.size) x.a x.b.length x.c x.b := by
  refine ⟨h.i, h.hn, h.hc, h.hx, fun r off e h0 => ?_⟩
  rcases h.i.2 with h1 | ⟨b', off', e', h2, _⟩
  · omega
  · rw [e] at e'
    injection e' with e'
    injection e' with e'
    omega
def AcsIn22 (w : World) (a : Option Addr) (len : Nat) (X : Nat → Ac22) : Prop := len ≤ 9223372036854775807 ∧ (len = 0 ∨ ∃ b off, a = some ⟨b, off, none⟩ ∧ b < w.heap.size ∧ ∀ i, i < len → AcIn22 w b (off + i * 4) (X i))
theorem AcsIn22.below {w w' : World} {a : Option Addr} {len : Nat} {X : Nat → Ac22} (h : AcsIn22 w a len X) (hb : Below w.heap.size w w') : AcsIn22 w' a len X := by
  refine ⟨h.1, ?_⟩
  rcases h.2 with h0 | ⟨b, off, e, h1, h2⟩
  · exact .inl h0
  · exact .inr ⟨b, off, e, by have := hb.size; omega, fun i hi => (h2 i hi).below hb⟩
/-- Of a size with which this is tried. -/
def Fits22 (X : Nat → Ac22) (len : Nat) : Prop := (∀ i, i < len → (X i).b.length ≤ 100) ∧ len ≤ 80
open Classical in
set_option maxRecDepth 100000 in
set_option maxHeartbeats 1000000 in
theorem fits22_any (a : Option Addr) (len cap : Nat) (X : Nat → Ac22) (w : World) (h : AcsIn22 w a len X) :
    Calls Try.prog 7 #[.slice a len cap] w fun e w' => e = .returned (.bool (decide (Fits22 X len))) ∧ Below w.heap.size w w' := by
  have HX := Lib.hid h
  have HB0 := Lib.hid (Below.refl w.heap.size w)
  clear h
  go_enter Try.func7, Try.ntmps7
  go_wp2
  go_loopw [7] (fun k wr => ∃ j : Nat, j ≤ len ∧ k = .int .i64 j ∧ RowKit.Hid (Below w.heap.size w wr ∧ ∀ i, i < j → (X i).b.length ≤ 100)) (fun k _ => len - (intOf k).toNat)
  case atStart => exact ⟨0, by omega, rfl, HB0.out, fun i hi => by omega⟩
  case round =>
    obtain ⟨j, hj, rfl, H⟩ := hrel
    clear HB0
    have hlm := HX.out.1
    by_cases hlt : j < len
    · have e2 : IntKind.i64.wrap ((j : Int) + 1) = (j : Int) + 1 := IntWalk.i64_in _ (by omega)
      obtain ⟨b, off, rfl, hbl, hin⟩ : ∃ b off, a = some ⟨b, off, none⟩ ∧ b < w.heap.size ∧ ∀ i, i < len → AcIn22 w b (off + i * 4) (X i) := by
        rcases HX.out.2 with h0 | h0
        · omega
        · exact h0
      have hin2 := hin j hlt
      have c0 := (H.out.1.cell (p := ⟨b, off + j * 4, none⟩) hbl).trans hin2.c0
      have c1 := (H.out.1.cell (p := ⟨b, off + j * 4 + 1, none⟩) hbl).trans hin2.c1
      have c2 := (H.out.1.cell (p := ⟨b, off + j * 4 + 2, none⟩) hbl).trans hin2.c2
      have c3 := (H.out.1.cell (p := ⟨b, off + j * 4 + 3, none⟩) hbl).trans hin2.c3
      obtain ⟨m, hm⟩ : ∃ m, (X j).b.length = m := ⟨_, rfl⟩
      have HM := Lib.hid hm
      rw [hm] at c3
      have hb2 := H.out.1.alloc H.out.1.size (.cells #[.int .u8 (X j).k, .bool (X j).wh, .int .i64 (X j).n, .slice (X j).a m (X j).c] 36)
      have HB2 := Lib.hid hb2
      generalize (X j).k = xk at c0 HB2
      generalize (X j).wh = xw at c1 HB2
      generalize (X j).n = xn at c2 HB2
      generalize (X j).a = xa at c3 HB2
      generalize (X j).c = xc at c3 HB2
      clear hin hin2 hm hb2
      by_cases hbig : 100 < m
      · have q1 : decide ((100 : Int) < (m : Int)) = true := by simp; omega
        have HF : RowKit.Hid (decide (Fits22 X len) = false) := Lib.hid (decide_eq_false fun hf => by have := hf.1 j hlt; rw [HM.out] at this; omega)
        go_wp2
        go_ret
        exact ⟨by rw [HF.out]; rfl, HB2.out⟩
      · have q1 : decide ((100 : Int) < (m : Int)) = false := by simp; omega
        have HN : RowKit.Hid (∀ i, i < j + 1 → (X i).b.length ≤ 100) := by
          refine Lib.hid fun i hi => ?_
          by_cases h1 : i < j
          · exact H.out.2 i h1
          · obtain rfl : i = j := by omega
            rw [HM.out]
            omega
        clear H
        go_wp2
        go_roundw
        case rel => exact ⟨j + 1, by omega, by go_num, HB2.out, HN.out⟩
        case measure => simp [intOf]; omega
    · obtain rfl : j = len := by omega
      have HF : RowKit.Hid (decide (Fits22 X j) = decide ((j : Int) ≤ 80)) := by
        refine Lib.hid ?_
        have : Fits22 X j ↔ (j : Int) ≤ 80 := ⟨fun h => by have := h.2; omega, fun h => ⟨H.out.2, by omega⟩⟩
        simp [this]
      have HB := Lib.hid H.out.1
      clear H
      go_wp2
      go_ret
      exact ⟨by rw [HF.out]; first | rfl | simp, HB.out⟩
end Go.Proofs.Ytnjnfocpjmmibaa
