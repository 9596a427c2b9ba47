/- What the smaller functions of layer 10's laws give. -/
import Derived.Test.YtgnmnmjicjcffaaEngB
namespace Go.Proofs.Ytgnmnmjicjcffaa
open Go.RowKit
set_option linter.unusedVariables false

theorem infoE_i32 : (Try.prog.info? 21).map (fun i => (i.zero, i.size, i.bytes)) = some (some (.int .i32 0), 1, 4) := by kernel_rfl
/-! ### One line of five -/
def fiveL (i : Nat) : Int := if i = 9 then -5 else 0
theorem five_2 : ceilF fiveL 2 = 3 := by decide +kernel
theorem five_0 : ceilF fiveL 0 = 0 := by decide +kernel
theorem five_ok : rightB (tabF 21 (ceilF fiveL)) = true := by decide +kernel
theorem IFun.ints {w : World} {g n : Nat} {t : TypeId} {k : IntKind} {f : Nat → Int} (h : IFun w g t k n f) (hn : n ≤ 9223372036854775807) : IntsAt w w.heap.size k (some ⟨g, 0, none⟩) n (tabF n f) :=
  ⟨tabF_len _ _, .inr ⟨g, 0, rfl, h.lt, hn, fun j hj => by rw [Nat.zero_add, h.cell hj, tabF_getD _ hj]⟩⟩
theorem set_new (w : World) (t : TypeId) (cs : Array Value) (i : Nat) (v : Value) : (w.alloc (.cells cs t)).setCell ⟨w.heap.size, i, none⟩ v = w.alloc (.cells (cs.setIfInBounds i v) t) := by
  simp [go_sem]
set_option maxRecDepth 100000 in
theorem lives10_any (w : World) : Calls Try.prog 7 #[] w fun e w' => e = .returned (.bool true) ∧ Below w.heap.size w w' := by
  have hmk : ∀ w : World, (Instr.makeSlice 22 (.int .i64 512) (.int .i64 512)).run Try.prog w = .ok (.slice (some ⟨w.heap.size, 0, none⟩) 512 512) (w.alloc (.cells (madeCells #[.int .i32 0] 512) 21)) :=
    fun w => make_zeros (P := Try.prog) Try.underlying22 infoE_i32 512 (by decide) (by decide) w
  obtain ⟨w2, hw2⟩ : ∃ w2, w2 = (w.alloc (.cells (madeCells #[.int .i32 0] 512) 21)) := ⟨_, rfl⟩
  have hz := IFun.zeros w 21 .i32 512
  have hb0 := Below.alloc_new w (.cells (madeCells #[.int .i32 0] 512) 21)
  rw [← hw2] at hz hb0
  have HC : RowKit.Hid (IFun (w2.setCell ⟨w.heap.size, 9, none⟩ (.int .i32 (-5))) w.heap.size 21 .i32 512 fiveL) := IFun.ext (hz.set (j := 9) (by decide) (-5)) fun j _ => rfl
  have HB0 : RowKit.Hid (Below w.heap.size w (w2.setCell ⟨w.heap.size, 9, none⟩ (.int .i32 (-5)))) := Below.setCell (p := ⟨w.heap.size, 9, none⟩) hb0 (Nat.le_refl _) _
  have o1 : w2.cell? ⟨w.heap.size, 9, none⟩ = some (.int .i32 0) := hz.cell (j := 9) (by decide)
  have f1 := hz.frozen 9
  have HF2 := Lib.hid five_2
  have HF0 := Lib.hid five_0
  have HOk := Lib.hid five_ok
  have HFb : RowKit.Hid (∀ i, i < 512 → -2147483648 ≤ fiveL i ∧ fiveL i ≤ 2147483647) := fun i _ => by unfold fiveL; split <;> decide
  have hE : w2.setCell ⟨w.heap.size, 9, none⟩ (.int .i32 (-5)) = w.alloc (.cells ((madeCells #[.int .i32 0] 512).setIfInBounds 9 (.int .i32 (-5))) 21) := by rw [hw2]; exact set_new w _ _ _ _
  rw [hE] at HC HB0
  rw [hw2] at o1 f1
  clear hz hb0 hE hw2 w2
  generalize madeCells #[Value.int .i32 0] 512 = mc at hmk HC HB0 o1 f1
  go_enter Try.func7, Try.ntmps7
  go_wp2_with (first
    | (go_at_call 8; go_loud (refine (engCeil_any w.heap.size 0 512 fiveL _ HC.out.lt (fun i hi => by rw [Nat.zero_add]; exact HC.out.cell hi) HFb.out (by decide) (by decide)).mono ?_); rintro e w4 ⟨g, rfl, hi, hg, hb⟩; have HB4 := Lib.hid (HB0.out.trans (hb.mono HB0.out.size)); have HI4 := Lib.hid (hi.ints (by decide)); have c2 := hi.cell (j := 2) (by decide); have c0 := hi.cell (j := 0) (by decide); rw [HF2.out] at c2; rw [HF0.out] at c0; clear hi hg hb)
    | (go_at_call 11; go_loud (refine (engRight_any _ _ _ _ _ HI4.out (by decide)).mono ?_); rintro e1 w5 ⟨rfl, rfl⟩; rw [HOk.out]))
  go_ret
  exact ⟨rfl, HB4.out⟩

/-! ### Right ceilings of any numbers -/
def cutF (zs : List Int) (len i : Nat) : Int := if len = 0 then 0 else zs.getD (i % len) 0 % 27
theorem cutF_bd (zs : List Int) (len i : Nat) : 0 ≤ cutF zs len i ∧ cutF zs len i ≤ 26 := by
  unfold cutF; split
  · decide
  · omega
theorem cutF_right (zs : List Int) (len : Nat) : rightB (tabF 21 (cutF zs len)) = true := rightB_of (tabF_len _ _) fun j hj => by rw [tabF_getD _ hj]; exact cutF_bd zs len j
def RowE (n : Nat) (k : IntKind) (t : TypeId) (F : Nat → Int) (w : World) (e : Ending) (w' : World) : Prop :=
  ∃ g, e = .returned (.slice (some ⟨g, 0, none⟩) n n) ∧ IFun w' g t k n F ∧ w.heap.size ≤ g ∧ Below w.heap.size w w'
set_option maxRecDepth 100000 in
theorem cut10_any (a : Option Addr) (len cap : Nat) (zs : List Int) (w : World) (hl : IntsAt w w.heap.size .u8 a len zs) (hz : ∀ j, 0 ≤ zs.getD j 0 ∧ zs.getD j 0 ≤ 255) (hlen : len ≤ 1000) :
    Calls Try.prog 13 #[.slice a len cap] w (RowE 21 .i64 3 (cutF zs len) w) := by
  have HL := Lib.hid hl
  have HZ := Lib.hid hz
  have hmk : ∀ w : World, (Instr.makeSlice 23 (.int .i64 21) (.int .i64 21)).run Try.prog w = .ok (.slice (some ⟨w.heap.size, 0, none⟩) 21 21) (w.alloc (.cells (madeCells #[.int .i64 0] 21) 3)) :=
    fun w => make_zeros (P := Try.prog) Try.underlying23 infoE_int 21 (by decide) (by decide) w
  have H0 : RowKit.Hid (IFun (w.alloc (.cells (madeCells #[.int .i64 0] 21) 3)) w.heap.size 3 .i64 21 (preF (cutF zs len) 0) ∧ Below w.heap.size w (w.alloc (.cells (madeCells #[.int .i64 0] 21) 3))) :=
    ⟨IFun.ext (IFun.zeros w 3 .i64 21) fun j _ => (preF_zero (cutF zs len) j).symm, Below.alloc_new w _⟩
  clear hl hz
  generalize madeCells #[Value.int .i64 0] 21 = mc at H0 hmk
  go_enter Try.func13, Try.ntmps13
  go_wp2
  clear hmk
  generalize hg : w.heap.size = g at H0 ⊢
  generalize (w.alloc (.cells mc 3)) = w1 at H0 ⊢
  go_loopw [4, 8] (fun _ i wr => ∃ k : Nat, k ≤ 21 ∧ i = .int .i64 (k : Int) ∧ RowKit.Hid (IFun wr g 3 .i64 21 (preF (cutF zs len) k) ∧ Below g w wr)) (fun _ i _ => 21 - (intOf i).toNat)
  case atStart => exact ⟨0, by omega, rfl, H0.out⟩
  case round =>
    obtain ⟨k, hk, rfl, HI⟩ := hrel
    clear H0
    by_cases hlt : k < 21
    · have o1 := HI.out.1.cell (j := k) hlt
      have f1 := HI.out.1.frozen k
      have HS : RowKit.Hid (IFun (wr.setCell ⟨g, k, none⟩ (.int .i64 (cutF zs len k))) g 3 .i64 21 (preF (cutF zs len) (k + 1)) ∧ Below g w (wr.setCell ⟨g, k, none⟩ (.int .i64 (cutF zs len k)))) :=
        ⟨IFun.ext (HI.out.1.set (j := k) hlt (cutF zs len k)) fun j _ => preF_next _ k j, Below.setCell (p := ⟨g, k, none⟩) HI.out.2 (Nat.le_refl _) _⟩
      generalize preF (cutF zs len) k k = old at o1
      have l1 : (k : Int) < 21 := by omega
      by_cases hl0 : len = 0
      · have HN : RowKit.Hid (IFun wr g 3 .i64 21 (preF (cutF zs len) (k + 1)) ∧ Below g w wr) := ⟨IFun.ext HI.out.1 fun i hi => by
          unfold preF cutF
          rw [if_pos hl0]
          split <;> split <;> rfl, HI.out.2⟩
        have ll : ¬ 0 < (len : Int) := by omega
        clear HI HS hl0
        go_wp2
        go_roundw
        case rel => exact ⟨k + 1, by omega, by go_num, HN.out⟩
        case measure => simp [intOf] <;> omega
      · obtain ⟨m, hm⟩ : ∃ m, m = k % len := ⟨_, rfl⟩
        have hml : m < len := by rw [hm]; exact Nat.mod_lt _ (by omega)
        have f3 : (k : Int) % (len : Int) = (m : Int) := by rw [hm]; simp
        have f4 : (k : Int).tmod (len : Int) = (m : Int) := by rw [Int.tmod_eq_emod_of_nonneg (by omega)]; exact f3
        obtain ⟨b, off, rfl, hbl, _, hc⟩ := HL.out.at_ hml
        have k1 := (HI.out.2.cell (p := ⟨b, off + m, none⟩) (by rw [← hg]; exact hbl)).trans hc
        obtain ⟨y0, y1⟩ := HZ.out m
        have HE : zs.getD m 0 % 27 = cutF zs len k := by unfold cutF; rw [if_neg hl0, hm]
        generalize zs.getD m 0 = y at k1 HE y0 y1
        have f5 : y.tmod 27 = cutF zs len k := by rw [Int.tmod_eq_emod_of_nonneg y0]; exact HE
        have f6 : IntKind.i64.wrap y = y := IntWalk.i64_in _ (by omega)
        generalize cutF zs len k = x at HS f5
        clear HI hm hc HE
        have l2 : (m : Int) < (len : Int) := by omega
        have l3 : ¬ (len : Int) = 0 := by omega
        have l4 : 0 < (len : Int) := by omega
        clear hl0
        go_wp2
        go_roundw
        case rel => exact ⟨k + 1, by omega, by go_num, HS.out⟩
        case measure => simp [intOf] <;> omega
    · obtain rfl : k = 21 := by omega
      have Z : RowKit.Hid (IFun wr g 3 .i64 21 (cutF zs len) ∧ Below g w wr) := ⟨IFun.ext HI.out.1 fun i hi => preF_end _ hi, HI.out.2⟩
      go_wp2
      go_ret
      exact ⟨g, rfl, Z.out.1, by omega, by rw [hg]; exact Z.out.2⟩

/-! ### What the frames want -/
theorem wfE_i32 {zs : List Int} (h : ∀ n ∈ zs, (Lit.int .i32 n).wf = true) (j : Nat) : -2147483648 ≤ zs.getD j 0 ∧ zs.getD j 0 ≤ 2147483647 := by
  by_cases hj : j < zs.length
  · have := h (zs.getD j 0) (by simp [List.getD, hj])
    exact bounds_i32 this
  · rw [List.getD, List.getElem?_eq_none (by omega)]; decide
theorem wfE_u8 {zs : List Int} (h : ∀ n ∈ zs, (Lit.int .u8 n).wf = true) (j : Nat) : 0 ≤ zs.getD j 0 ∧ zs.getD j 0 ≤ 255 := by
  by_cases hj : j < zs.length
  · have := h (zs.getD j 0) (by simp [List.getD, hj])
    exact bounds_u8 this
  · rw [List.getD, List.getElem?_eq_none (by omega)]; decide
theorem capsE {w : World} {k : IntKind} {a : Option Addr} {len cap : Nat} {zs : List Int}
    (h : (a = none ∧ len = 0 ∧ cap = 0 ∧ zs = []) ∨ ∃ x, a = some x ∧ len ≤ cap ∧ cap ≤ maxLen ∧ zs.length = cap ∧ (∀ i, i < zs.length → w.cell? (x.add i) = some (.int k (zs.getD i 0))) ∧ ∀ n ∈ zs, (Lit.int k n).wf = true) : len ≤ cap ∧ cap ≤ 9223372036854775807 := by
  rcases h with ⟨rfl, rfl, rfl, rfl⟩ | ⟨x, rfl, hl, hm, _⟩
  · exact ⟨Nat.le_refl _, by decide⟩
  · unfold maxLen at hm; exact ⟨hl, by omega⟩
end Go.Proofs.Ytgnmnmjicjcffaa
