/- What the functions of package rangeenc give: parts put; a new encoder; how many bytes there are at most. -/
import Derived.Test.YtgnmnmjicjcffaaRncE
namespace Go.Proofs.Ytgnmnmjicjcffaa
open Go.RowKit
set_option linter.unusedVariables false

/-- A part, by value. -/
def partA (low own all : Int) : Value := .agg #[.int .u32 low, .int .u32 own, .int .u32 all]

theorem rncMay_yes (low own all : Int) (w : World) (h : OkP low own all) :
    Calls Try.prog 62 #[.agg #[.int .u32 low, .int .u32 own, .int .u32 all]] w fun e w' => e = .returned (.bool true) ∧ Below w.heap.size w w' := by
  obtain ⟨p1, p2, p3, p4, p5⟩ := h
  have HB := Lib.hid (Below.alloc_new w (.cells #[.int .u32 low, .int .u32 own, .int .u32 all] 91))
  have d1 : decide (1 ≤ all) = true := by simpa using p1
  have d2 : decide (all ≤ 8192) = true := by simpa using p2
  have d3 : decide (1 ≤ own) = true := by simpa using p3
  have d4 : decide (low ≤ all) = true := by simp; omega
  have d5 : decide (own ≤ all - low) = true := by simp; omega
  have d6 : IntKind.u32.wrap (all - low) = all - low := IntWalk.u32_in _ (by omega)
  go_enter Try.func62, Try.ntmps62
  go_wp2
  go_ret
  exact ⟨rfl, HB.out⟩
theorem rncMay_no (low own all : Int) (w : World) (l0 : 0 ≤ low) (l1 : low ≤ 4294967295) (o0 : 0 ≤ own) (o1 : own ≤ 4294967295) (a0 : 0 ≤ all) (a1 : all ≤ 4294967295) (h : ¬ OkP low own all) :
    Calls Try.prog 62 #[.agg #[.int .u32 low, .int .u32 own, .int .u32 all]] w fun e w' => e = .returned (.bool false) ∧ Below w.heap.size w w' := by
  have HB := Lib.hid (Below.alloc_new w (.cells #[.int .u32 low, .int .u32 own, .int .u32 all] 91))
  by_cases p1 : 1 ≤ all
  · have d1 : decide (1 ≤ all) = true := by simpa using p1
    by_cases p2 : all ≤ 8192
    · have d2 : decide (all ≤ 8192) = true := by simpa using p2
      by_cases p3 : 1 ≤ own
      · have d3 : decide (1 ≤ own) = true := by simpa using p3
        by_cases p4 : low ≤ all
        · have d4 : decide (low ≤ all) = true := by simpa using p4
          have d5 : decide (own ≤ all - low) = false := by
            simp
            rcases Int.lt_or_le (all - low) own with h5 | h5
            · omega
            · exact absurd ⟨p1, p2, p3, l0, by omega⟩ h
          have d6 : IntKind.u32.wrap (all - low) = all - low := IntWalk.u32_in _ (by omega)
          clear h
          go_enter Try.func62, Try.ntmps62
          go_wp2
          go_ret
          exact ⟨rfl, HB.out⟩
        · have d4 : decide (low ≤ all) = false := by simpa using p4
          clear h
          go_enter Try.func62, Try.ntmps62
          go_wp2
          go_ret
          exact ⟨rfl, HB.out⟩
      · have d3 : decide (1 ≤ own) = false := by simpa using p3
        clear h
        go_enter Try.func62, Try.ntmps62
        go_wp2
        go_ret
        exact ⟨rfl, HB.out⟩
    · have d2 : decide (all ≤ 8192) = false := by simpa using p2
      clear h
      go_enter Try.func62, Try.ntmps62
      go_wp2
      go_ret
      exact ⟨rfl, HB.out⟩
  · have d1 : decide (1 ≤ all) = false := by simpa using p1
    clear h
    go_enter Try.func62, Try.ntmps62
    go_wp2
    go_ret
    exact ⟨rfl, HB.out⟩

/-- Block g is an encoder in the state e. -/
def EncAt (w : World) (base g : Nat) (v : Value) (e : EncS) : Prop := EncR w base g v e.n e.k (4294967295 - e.s)
/-- What putting leaves. -/
def PutPost (base g : Nat) (v : Value) (f : EncS) (r : Value) (w : World) (x : Ending) (w' : World) : Prop :=
  x = .returned r ∧ ∃ v', EncAt w' base g v' f ∧ Keeps (fun j => j = g ∨ v.ownBlock = some j) w w' ∧ (∀ j, v'.ownBlock = some j → v.ownBlock = some j ∨ w.heap.size ≤ j)

theorem rncNew_any (w : World) :
    Calls Try.prog 14 #[] w fun e w' => e = .returned (.pointer (some ⟨w.heap.size, 0, none⟩)) ∧ EncAt w' w.heap.size w.heap.size (.slice none 0 0) encNew ∧ Below w.heap.size w w' := by
  have HC := Lib.hid (Cel.new w 56 #[.slice none 0 0, .int .u32 0, .int .u32 0])
  have HB := Lib.hid (Below.alloc_new w (.cells #[.slice none 0 0, .int .u32 0, .int .u32 0] 56))
  have HO := Lib.hid (World.ownsRow_nil (w.alloc (.cells #[.slice none 0 0, .int .u32 0, .int .u32 0] 56)) w.heap.size 5 1)
  go_enter Try.func14, Try.ntmps14
  go_wp2
  go_ret
  exact ⟨rfl, ⟨[], 0, ⟨HC.out, HO.out, Nat.le_refl _⟩, isDig_nil, rfl, by omega, by omega, rfl⟩, HB.out⟩
theorem rncLen_nil (w : World) :
    Calls Try.prog 34 #[.pointer none] w fun e w' => e = .returned (.int .i64 0) ∧ w = w' := by
  go_enter Try.func34, Try.ntmps34
  go_wp2
  go_ret
  exact ⟨rfl, rfl⟩
theorem rncLen_any (base g : Nat) (v : Value) (n : Int) (k : Nat) (less : Int) (w : World) (h : EncR w base g v n k less) (hk : k ≤ 1000000) :
    Calls Try.prog 34 #[.pointer (some ⟨g, 0, none⟩)] w fun e w' => e = .returned (.int .i64 ((k : Int) + 4)) ∧ w = w' := by
  obtain ⟨D, last, h1, h2, h3, h4, h5, h6⟩ := h
  obtain ⟨c0, _, _⟩ := h1.cells
  have ho := h1.2.1
  rw [h3] at ho
  obtain ⟨a, c, rfl⟩ := own_form ho
  clear h1 h2 h3 h4 h5 h6 ho
  go_enter Try.func34, Try.ntmps34
  go_wp2
  go_ret
  exact ⟨rfl, rfl⟩

theorem rncPut_nil (low own all : Int) (w : World) :
    Calls Try.prog 56 #[.pointer none, .agg #[.int .u32 low, .int .u32 own, .int .u32 all]] w fun e w' => e = .returned (.int .i64 1) ∧ Below w.heap.size w w' := by
  have HB := Lib.hid (Below.alloc_new w (.cells #[.int .u32 low, .int .u32 own, .int .u32 all] 91))
  go_enter Try.func56, Try.ntmps56
  go_wp2
  go_ret
  exact ⟨rfl, HB.out⟩
theorem rncPut_no (g : Nat) (low own all : Int) (w : World) (l0 : 0 ≤ low) (l1 : low ≤ 4294967295) (o0 : 0 ≤ own) (o1 : own ≤ 4294967295) (a0 : 0 ≤ all) (a1 : all ≤ 4294967295) (h : ¬ OkP low own all) :
    Calls Try.prog 56 #[.pointer (some ⟨g, 0, none⟩), .agg #[.int .u32 low, .int .u32 own, .int .u32 all]] w fun e w' => e = .returned (.int .i64 1) ∧ Below w.heap.size w w' := by
  have HB := Lib.hid (Below.alloc_new w (.cells #[.int .u32 low, .int .u32 own, .int .u32 all] 91))
  have H := Lib.hid h
  clear h
  go_enter Try.func56, Try.ntmps56
  go_wp2_with (go_at_call 62; ((with_reducible refine (rncMay_no low own all _ l0 l1 o0 o1 a0 a1 H.out).mono ?_)); rintro e w2 ⟨rfl, hb⟩; replace HB := Lib.hid (HB.out.trans (hb.mono HB.out.size)); clear hb)
  go_ret
  exact ⟨rfl, HB.out⟩
end Go.Proofs.Ytgnmnmjicjcffaa
