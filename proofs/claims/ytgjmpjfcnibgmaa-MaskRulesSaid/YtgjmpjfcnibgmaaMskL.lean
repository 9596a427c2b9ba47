/- What the smaller functions of layer 11's laws give. -/
import Derived.Test.YtgjmpjfcnibgmaaMskE
import Derived.Lib.SliceRun
namespace Go.Proofs.Ytgjmpjfcnibgmaa
open Go.RowKit
set_option linter.unusedVariables false

/-! ### One band alone -/
def aloneL (i : Nat) : Int := if i = 7 then 20 else 0
theorem alone_7 : stepF (fun j => (tabF 21 aloneL).getD j 0) 8 0 7 = 12 := by decide +kernel
theorem alone_ok : rightB (tabF 21 aloneL) = true := by decide +kernel
set_option maxRecDepth 100000 in
theorem lives11_any (w : World) : Calls Try.prog 6 #[] w fun e w' => e = .returned (.bool true) ∧ Below w.heap.size w w' := by
  have hmk : ∀ w : World, (Instr.makeSlice 24 (.int .i64 21) (.int .i64 21)).run Try.prog w = .ok (.slice (some ⟨w.heap.size, 0, none⟩) 21 21) (w.alloc (.cells (madeCells #[.int .i64 0] 21) 3)) :=
    fun w => make_zeros (P := Try.prog) Try.underlying24 infoE_int 21 (by decide) (by decide) w
  obtain ⟨w2, hw2⟩ : ∃ w2, w2 = (w.alloc (.cells (madeCells #[.int .i64 0] 21) 3)) := ⟨_, rfl⟩
  have hz := IFun.zeros w 3 .i64 21
  have hb0 := Below.alloc_new w (.cells (madeCells #[.int .i64 0] 21) 3)
  rw [← hw2] at hz hb0
  have HC : RowKit.Hid (IFun (w2.setCell ⟨w.heap.size, 7, none⟩ (.int .i64 20)) w.heap.size 3 .i64 21 aloneL) := IFun.ext (hz.set (j := 7) (by decide) 20) fun j _ => rfl
  have HB0 : RowKit.Hid (Below w.heap.size w (w2.setCell ⟨w.heap.size, 7, none⟩ (.int .i64 20))) := Below.setCell (p := ⟨w.heap.size, 7, none⟩) hb0 (Nat.le_refl _) _
  have o1 : w2.cell? ⟨w.heap.size, 7, none⟩ = some (.int .i64 0) := hz.cell (j := 7) (by decide)
  have f1 := hz.frozen 7
  have H7 := Lib.hid alone_7
  have HOk : RowKit.Hid (mayStep (tabF 21 aloneL) 8 0) := ⟨alone_ok, by decide, by decide, by decide, by decide⟩
  have hE : w2.setCell ⟨w.heap.size, 7, none⟩ (.int .i64 20) = w.alloc (.cells ((madeCells #[.int .i64 0] 21).setIfInBounds 7 (.int .i64 20)) 3) := by rw [hw2]; exact set_new w _ _ _ _
  rw [hE] at HC HB0
  rw [hw2] at o1 f1
  clear hz hb0 hE hw2 w2
  generalize madeCells #[Value.int .i64 0] 21 = mc at hmk HC HB0 o1 f1
  go_enter Try.func6, Try.ntmps6
  go_wp2_with (first
    | (go_at_call 9; go_loud (refine (mskSteps_any _ _ (tabF 21 aloneL) 8 0 _ (HC.out.ints (by decide)) HOk.out).mono ?_); rintro e w4 ⟨g, rfl, hi, hg, hb⟩; have HB4 := Lib.hid (HB0.out.trans (hb.mono HB0.out.size)); have c7 := hi.cell (j := 7) (by decide); rw [H7.out] at c7; clear hi hg hb)
    | (go_at_call 14; refine (mskTold_any _ _ _).mono ?_; rintro e1 w5 ⟨rfl, rfl⟩))
  go_ret
  exact ⟨rfl, HB4.out⟩


/-! ### Right ceilings of any numbers -/
set_option maxRecDepth 100000 in
theorem cut11_any (a : Option Addr) (len cap : Nat) (zs : List Int) (w : World) (hl : IntsAt w w.heap.size .u8 a len zs) (hz : ∀ j, 0 ≤ zs.getD j 0 ∧ zs.getD j 0 ≤ 255) (hlen : len ≤ 1000) :
    Calls Try.prog 7 #[.slice a len cap] w (RowE 21 .i64 3 (cutF zs len) w) := by
  have HL := Lib.hid hl
  have HZ := Lib.hid hz
  have hmk : ∀ w : World, (Instr.makeSlice 24 (.int .i64 21) (.int .i64 21)).run Try.prog w = .ok (.slice (some ⟨w.heap.size, 0, none⟩) 21 21) (w.alloc (.cells (madeCells #[.int .i64 0] 21) 3)) :=
    fun w => make_zeros (P := Try.prog) Try.underlying24 infoE_int 21 (by decide) (by decide) w
  have H0 : RowKit.Hid (IFun (w.alloc (.cells (madeCells #[.int .i64 0] 21) 3)) w.heap.size 3 .i64 21 (preF (cutF zs len) 0) ∧ Below w.heap.size w (w.alloc (.cells (madeCells #[.int .i64 0] 21) 3))) :=
    ⟨IFun.ext (IFun.zeros w 3 .i64 21) fun j _ => (preF_zero (cutF zs len) j).symm, Below.alloc_new w _⟩
  clear hl hz
  generalize madeCells #[Value.int .i64 0] 21 = mc at H0 hmk
  go_enter Try.func7, Try.ntmps7
  go_wp2
  clear hmk
  generalize hg : w.heap.size = g at H0 ⊢
  generalize (w.alloc (.cells mc 3)) = w1 at H0 ⊢
  go_loopw [4, 8] (fun _ i wr => ∃ k : Nat, k ≤ 21 ∧ i = .int .i64 (k : Int) ∧ RowKit.Hid (IFun wr g 3 .i64 21 (preF (cutF zs len) k) ∧ Below g w wr)) (fun _ i _ => 21 - (intOf i).toNat)
  case atStart => exact ⟨0, by omega, rfl, H0.out⟩
  case round =>
    obtain ⟨k, hk, rfl, HI⟩ := hrel
    clear H0
    by_cases hlt : k < 21
    · have o1 := HI.out.1.cell (j := k) hlt
      have f1 := HI.out.1.frozen k
      have HS : RowKit.Hid (IFun (wr.setCell ⟨g, k, none⟩ (.int .i64 (cutF zs len k))) g 3 .i64 21 (preF (cutF zs len) (k + 1)) ∧ Below g w (wr.setCell ⟨g, k, none⟩ (.int .i64 (cutF zs len k)))) :=
        ⟨IFun.ext (HI.out.1.set (j := k) hlt (cutF zs len k)) fun j _ => preF_next _ k j, Below.setCell (p := ⟨g, k, none⟩) HI.out.2 (Nat.le_refl _) _⟩
      generalize preF (cutF zs len) k k = old at o1
      have l1 : (k : Int) < 21 := by omega
      by_cases hl0 : len = 0
      · have HN : RowKit.Hid (IFun wr g 3 .i64 21 (preF (cutF zs len) (k + 1)) ∧ Below g w wr) := ⟨IFun.ext HI.out.1 fun i hi => by
          unfold preF cutF
          rw [if_pos hl0]
          split <;> split <;> rfl, HI.out.2⟩
        have ll : ¬ 0 < (len : Int) := by omega
        clear HI HS hl0
        go_wp2
        go_roundw
        case rel => exact ⟨k + 1, by omega, by go_num, HN.out⟩
        case measure => simp [intOf] <;> omega
      · obtain ⟨m, hm⟩ : ∃ m, m = k % len := ⟨_, rfl⟩
        have hml : m < len := by rw [hm]; exact Nat.mod_lt _ (by omega)
        have f3 : (k : Int) % (len : Int) = (m : Int) := by rw [hm]; simp
        have f4 : (k : Int).tmod (len : Int) = (m : Int) := by rw [Int.tmod_eq_emod_of_nonneg (by omega)]; exact f3
        obtain ⟨b, off, rfl, hbl, _, hc⟩ := HL.out.at_ hml
        have k1 := (HI.out.2.cell (p := ⟨b, off + m, none⟩) (by rw [← hg]; exact hbl)).trans hc
        obtain ⟨y0, y1⟩ := HZ.out m
        have HE : zs.getD m 0 % 27 = cutF zs len k := by unfold cutF; rw [if_neg hl0, hm]
        generalize zs.getD m 0 = y at k1 HE y0 y1
        have f5 : y.tmod 27 = cutF zs len k := by rw [Int.tmod_eq_emod_of_nonneg y0]; exact HE
        have f6 : IntKind.i64.wrap y = y := IntWalk.i64_in _ (by omega)
        generalize cutF zs len k = x at HS f5
        clear HI hm hc HE
        have l2 : (m : Int) < (len : Int) := by omega
        have l3 : ¬ (len : Int) = 0 := by omega
        have l4 : 0 < (len : Int) := by omega
        clear hl0
        go_wp2
        go_roundw
        case rel => exact ⟨k + 1, by omega, by go_num, HS.out⟩
        case measure => simp [intOf] <;> omega
    · obtain rfl : k = 21 := by omega
      have Z : RowKit.Hid (IFun wr g 3 .i64 21 (cutF zs len) ∧ Below g w wr) := ⟨IFun.ext HI.out.1 fun i hi => preF_end _ hi, HI.out.2⟩
      go_wp2
      go_ret
      exact ⟨g, rfl, Z.out.1, by omega, by rw [hg]; exact Z.out.2⟩


/-! ### A copy of numbers -/
def ClonePostI (b : List Int) (w : World) (x : Ending) (w' : World) : Prop :=
  ∃ v, x = .returned v ∧ w'.ownsRow w.heap.size 3 1 v b.length (b.map (Value.int .i64)) ∧ Below w.heap.size w w'
set_option maxRecDepth 100000 in
theorem cloneI_any (a : Option Addr) (len cap : Nat) (b : List Int) (w : World) (h : IntsAt w w.heap.size .i64 a len b) (hn : a = none → cap = 0) (hl : len ≤ 1000000) :
    Calls Try.prog 8 #[.slice a len cap] w (ClonePostI b w) := by
  have HI := Lib.hid h
  have HN := Lib.hid hn
  have hbl := Lib.hid h.1
  have hown0 := Lib.hid (World.ownsRow_lit (base := w.heap.size) (e := 3) (size := 1) w #[] 0 (Nat.le_refl _) (by decide) rfl)
  have hbel0 := Lib.hid (Below.alloc_new w (.cells #[] 3))
  cases a with
  | none =>
    obtain rfl := hn rfl
    have hb0 : b = [] := by
      have h0 := h.1
      rcases h.2 with h2 | ⟨_, _, h2, _⟩
      · subst h2; exact List.eq_nil_of_length_eq_zero h0
      · cases h2
    subst hb0
    obtain rfl : len = 0 := h.1.symm
    clear h hn
    have HO := Lib.hid (World.ownsRow_nil w w.heap.size 3 1)
    have qN : ∀ w : World, (binOp .eql 24 (.slice none 0 0) (.slice none 0 0)).run Try.prog w = .ok (.bool true) w := fun w => Lib.run_eql_slice_nil w _ _ _ _ _ _ _ Try.underlying24
    go_enter Try.func8, Try.ntmps8
    go_wp2
    go_ret
    exact ⟨_, rfl, HO.out, Below.refl _ _⟩
  | some ad =>
    clear h hn
    have qN : ∀ w : World, (binOp .eql 24 (.slice (some ad) len cap) (.slice none 0 0)).run Try.prog w = .ok (.bool false) w := fun w => Lib.run_eql_slice_nil w _ _ _ _ _ _ _ Try.underlying24
    go_enter Try.func8, Try.ntmps8
    go_wp2_with (at_builtin; go_loud (refine append_ints rfl _ _ 24 rfl w.heap.size 3 .i64 8 Try.underlying24 infoE_int _ 0 [] rfl hown0.out (some ad) len cap w.heap.size b rfl (HI.out.below hbel0.out) HN.out ?c1 ?c2 (by simp) ?_))
    case c1 => unfold maxLen; omega
    case c2 => omega
    intro v2 w2 hown hgrow _
    have hown2 : w2.ownsRow w.heap.size 3 1 v2 b.length (b.map (Value.int .i64)) := by rw [hbl.out]; simpa using hown
    have HO := Lib.hid hown2
    have HB : RowKit.Hid (Below w.heap.size w w2) := hbel0.out.grown hgrow (by simp) (own_base hown0.out)
    clear hown hown2 hgrow
    go_wp2
    go_ret
    exact ⟨_, rfl, HO.out, HB.out⟩

end Go.Proofs.Ytgjmpjfcnibgmaa
