/- What the smaller functions of layer 10's laws give. -/
import Derived.Test.YtgjmpjfcnibgmaaEngB
namespace Go.Proofs.Ytgjmpjfcnibgmaa
open Go.RowKit
set_option linter.unusedVariables false

theorem infoE_i32 : (Try.prog.info? 21).map (fun i => (i.zero, i.size, i.bytes)) = some (some (.int .i32 0), 1, 4) := by kernel_rfl
/-! ### One line of five -/
def fiveL (i : Nat) : Int := if i = 9 then -5 else 0
theorem five_2 : ceilF fiveL 2 = 3 := by decide +kernel
theorem five_0 : ceilF fiveL 0 = 0 := by decide +kernel
theorem five_ok : rightB (tabF 21 (ceilF fiveL)) = true := by decide +kernel
theorem IFun.ints {w : World} {g n : Nat} {t : TypeId} {k : IntKind} {f : Nat → Int} (h : IFun w g t k n f) (hn : n ≤ 9223372036854775807) : IntsAt w w.heap.size k (some ⟨g, 0, none⟩) n (tabF n f) :=
  ⟨tabF_len _ _, .inr ⟨g, 0, rfl, h.lt, hn, fun j hj => by rw [Nat.zero_add, h.cell hj, tabF_getD _ hj]⟩⟩
theorem set_new (w : World) (t : TypeId) (cs : Array Value) (i : Nat) (v : Value) : (w.alloc (.cells cs t)).setCell ⟨w.heap.size, i, none⟩ v = w.alloc (.cells (cs.setIfInBounds i v) t) := by
  simp [go_sem]
/-! ### Right ceilings of any numbers -/
def cutF (zs : List Int) (len i : Nat) : Int := if len = 0 then 0 else zs.getD (i % len) 0 % 27
theorem cutF_bd (zs : List Int) (len i : Nat) : 0 ≤ cutF zs len i ∧ cutF zs len i ≤ 26 := by
  unfold cutF; split
  · decide
  · omega
theorem cutF_right (zs : List Int) (len : Nat) : rightB (tabF 21 (cutF zs len)) = true := rightB_of (tabF_len _ _) fun j hj => by rw [tabF_getD _ hj]; exact cutF_bd zs len j
def RowE (n : Nat) (k : IntKind) (t : TypeId) (F : Nat → Int) (w : World) (e : Ending) (w' : World) : Prop :=
  ∃ g, e = .returned (.slice (some ⟨g, 0, none⟩) n n) ∧ IFun w' g t k n F ∧ w.heap.size ≤ g ∧ Below w.heap.size w w'
/-! ### What the frames want -/
theorem wfE_i32 {zs : List Int} (h : ∀ n ∈ zs, (Lit.int .i32 n).wf = true) (j : Nat) : -2147483648 ≤ zs.getD j 0 ∧ zs.getD j 0 ≤ 2147483647 := by
  by_cases hj : j < zs.length
  · have := h (zs.getD j 0) (by simp [List.getD, hj])
    exact bounds_i32 this
  · rw [List.getD, List.getElem?_eq_none (by omega)]; decide
theorem wfE_u8 {zs : List Int} (h : ∀ n ∈ zs, (Lit.int .u8 n).wf = true) (j : Nat) : 0 ≤ zs.getD j 0 ∧ zs.getD j 0 ≤ 255 := by
  by_cases hj : j < zs.length
  · have := h (zs.getD j 0) (by simp [List.getD, hj])
    exact bounds_u8 this
  · rw [List.getD, List.getElem?_eq_none (by omega)]; decide
theorem capsE {w : World} {k : IntKind} {a : Option Addr} {len cap : Nat} {zs : List Int}
    (h : (a = none ∧ len = 0 ∧ cap = 0 ∧ zs = []) ∨ ∃ x, a = some x ∧ len ≤ cap ∧ cap ≤ maxLen ∧ zs.length = cap ∧ (∀ i, i < zs.length → w.cell? (x.add i) = some (.int k (zs.getD i 0))) ∧ ∀ n ∈ zs, (Lit.int k n).wf = true) : len ≤ cap ∧ cap ≤ 9223372036854775807 := by
  rcases h with ⟨rfl, rfl, rfl, rfl⟩ | ⟨x, rfl, hl, hm, _⟩
  · exact ⟨Nat.le_refl _, by decide⟩
  · unfold maxLen at hm; exact ⟨hl, by omega⟩
end Go.Proofs.Ytgjmpjfcnibgmaa
