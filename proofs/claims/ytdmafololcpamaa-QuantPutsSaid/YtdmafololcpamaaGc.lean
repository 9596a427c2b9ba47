/- Plain facts, and what functions give, for the proofs of this seat: several texts in one, each with its own first remark. -/
import Derived.Test.YtdmafololcpamaaGb
import Derived.StillTailTactics
import Derived.Laws.ResultCell
import Derived.Laws.CopyOwn
import Derived.Deep.WholeRow
import Derived.Deep.QuietTactic
import Derived.BigQuiet
import Derived.BigRegion
import Derived.Deep.AppendLies
import Derived.Deep.RegionLaw
import Derived.OwnWalk
import Derived.Deep.RegionHeld3
import Derived.Test.YtdmafololcpamaaGa

/- What the functions of package model give, for whatever arguments. -/
namespace Go.Proofs.Ytdmafololcpamaa
open Go.RowKit
set_option linter.unusedVariables false

/-- A model's cells: how often each symbol comes, noughts behind them, how many there are, does it learn? -/
def modCells (l : List Int) (fx : Bool) : List Value := ((l ++ List.replicate (64 - l.length) 0).map (Value.int .u32)) ++ [.int .i64 l.length, .bool (!fx)]
/-- Block g is a model of the list l; fx: it never learns. -/
def ModAt (w : World) (g : Nat) (l : List Int) (fx : Bool) : Prop := l.length ≤ 64 ∧ Cel w g 109 (modCells l fx).toArray
section
variable {w w' : World} {g : Nat} {l : List Int} {fx : Bool}
theorem modCells_at (h : l.length ≤ 64) {j : Nat} (hj : j < l.length) : (modCells l fx)[j]? = some (.int .u32 (l.getD j 0)) := by
  unfold modCells
  rw [List.getElem?_append_left (by simp; omega), List.getElem?_map, List.getElem?_append_left hj]
  simp [List.getD, hj]
theorem modCells_count (h : l.length ≤ 64) : (modCells l fx)[64]? = some (.int .i64 l.length) := by
  unfold modCells
  rw [List.getElem?_append_right (by simp; omega)]
  simp [show 64 - (l.length + (64 - l.length)) = 0 by omega]
theorem modCells_learns (h : l.length ≤ 64) : (modCells l fx)[65]? = some (.bool (!fx)) := by
  unfold modCells
  rw [List.getElem?_append_right (by simp; omega)]
  simp [show 65 - (l.length + (64 - l.length)) = 1 by omega]
theorem modCells_set (h : l.length ≤ 64) {j : Nat} (hj : j < l.length) (x : Int) : (modCells l fx).set j (.int .u32 x) = modCells (l.set j x) fx := by
  unfold modCells
  rw [List.set_append_left _ _ (by simp; omega), List.length_set, ← List.map_set, List.set_append_left _ _ hj]
theorem ModAt.lt (h : ModAt w g l fx) : g < w.heap.size := h.2.lt
theorem ModAt.at_ (h : ModAt w g l fx) {j : Nat} (hj : j < l.length) : w.cell? ⟨g, j, none⟩ = some (.int .u32 (l.getD j 0)) := by
  rw [h.2.cell j, List.getElem?_toArray, modCells_at h.1 hj]
theorem ModAt.count (h : ModAt w g l fx) : w.cell? ⟨g, 64, none⟩ = some (.int .i64 l.length) := by
  rw [h.2.cell 64, List.getElem?_toArray, modCells_count h.1]
theorem ModAt.learns (h : ModAt w g l fx) : w.cell? ⟨g, 65, none⟩ = some (.bool (!fx)) := by
  rw [h.2.cell 65, List.getElem?_toArray, modCells_learns h.1]
theorem ModAt.frozen (h : ModAt w g l fx) (j : Nat) : w.frozen? ⟨g, j, none⟩ = false := h.2.frozen j
theorem ModAt.drewN (h : ModAt w g l fx) (n : Nat) : ModAt (w.drewN n) g l fx := h
theorem ModAt.keep (h : ModAt w g l fx) (hk : w'.heap[g]? = w.heap[g]?) : ModAt w' g l fx := ⟨h.1, h.2.keep hk⟩
theorem ModAt.keeps {F : Nat → Prop} (h : ModAt w g l fx) (hk : Keeps F w w') (hn : ¬ F g) : ModAt w' g l fx := ⟨h.1, h.2.keeps hk hn⟩
theorem ModAt.below (h : ModAt w g l fx) (hk : Below w.heap.size w w') : ModAt w' g l fx := ⟨h.1, h.2.below hk⟩
theorem ModAt.stored (h : ModAt w g l fx) {j : Nat} (hj : j < l.length) (x : Int) : ModAt (w.setCell ⟨g, j, none⟩ (.int .u32 x)) g (l.set j x) fx := by
  refine ⟨by rw [List.length_set]; exact h.1, ?_⟩
  have := h.2.set_ j (.int .u32 x)
  rw [List.setIfInBounds_toArray, modCells_set h.1 hj] at this
  exact this
theorem ModAt.ints (h : ModAt w g l fx) : IntsAt w w.heap.size .u32 (some ⟨g, 0, none⟩) l.length l :=
  ⟨rfl, .inr ⟨g, 0, rfl, h.lt, by have := h.1; omega, fun j hj => by rw [Nat.zero_add]; exact h.at_ hj⟩⟩
end
theorem IntsAt.drewN {w : World} {B len : Nat} {k : IntKind} {a : Option Addr} {zs : List Int} (h : IntsAt w B k a len zs) (n : Nat) : IntsAt (w.drewN n) B k a len zs := h
theorem IntsAt.take {w : World} {B len : Nat} {k : IntKind} {a : Option Addr} {zs : List Int} (h : IntsAt w B k a len zs) {n : Nat} (hn : n ≤ len) : IntsAt w B k a n (zs.take n) := by
  obtain ⟨h1, h2⟩ := h
  refine ⟨by simp; omega, ?_⟩
  rcases h2 with h2 | ⟨b, off, e, h3, h4, h5⟩
  · exact .inl (by omega)
  · refine .inr ⟨b, off, e, h3, by omega, fun j hj => ?_⟩
    rw [h5 j (by omega)]
    simp [List.getD, hj]

theorem syms_slice (g n : Nat) (hn : n ≤ 64) (w : World) : (Instr.sliceAt 107 (.pointer (some ⟨g, 0, none⟩)) none (some (.int .i64 (n : Int))) none).run Try.prog w = .ok (.slice (some ⟨g, 0, none⟩) n 64) w := by
  have e : Try.prog.arrayLen 107 = 64 := by kernel_rfl
  have e2 : Try.prog.elem 107 = 24 := by kernel_rfl
  have ht : Try.prog.underlying 107 = some (.array (Try.prog.arrayLen 107) (Try.prog.elem 107)) := by kernel_rfl
  have es : (sizeOf 24).run Try.prog w = .ok 1 w := by kernel_rfl
  rw [run_sliceAt_array_h w _ _ ht .i64 n (by omega) (by rw [e]; omega), e, e2, es]
  simp [Result.andThen, slicedAt, Addr.add]
theorem syms_all (g : Nat) (w : World) : (Instr.sliceAt 107 (.pointer (some ⟨g, 0, none⟩)) none none none).run Try.prog w = .ok (.slice (some ⟨g, 0, none⟩) 64 64) w := by
  have e : Try.prog.arrayLen 107 = 64 := by kernel_rfl
  have e2 : Try.prog.elem 107 = 24 := by kernel_rfl
  have ht : Try.prog.underlying 107 = some (.array (Try.prog.arrayLen 107) (Try.prog.elem 107)) := by kernel_rfl
  have es : (sizeOf 24).run Try.prog w = .ok 1 w := by kernel_rfl
  rw [run_sliceAt_array_all w _ _ ht, e, e2, es]
  simp [Result.andThen, slicedAt, Addr.add]

theorem modSyms_nil (w : World) :
    Calls Try.prog 76 #[.pointer none] w fun e w' => e = .returned (.slice none 0 0) ∧ w = w' := by
  go_enter Try.func76, Try.ntmps76
  go_wp2
  go_ret
  exact ⟨rfl, rfl⟩
theorem modSyms_any (g : Nat) (l : List Int) (fx : Bool) (w : World) (h : ModAt w g l fx) :
    Calls Try.prog 76 #[.pointer (some ⟨g, 0, none⟩)] w fun e w' => e = .returned (.slice (some ⟨g, 0, none⟩) l.length 64) ∧ ∃ n, w' = w.drewN n := by
  have c0 := h.count
  have h64 := h.1
  have hsl := fun w => syms_slice g l.length h64 w
  clear h
  go_enter Try.func76, Try.ntmps76
  go_wp2
  go_quiet (fail)
  go_wp2
  go_ret
  exact ⟨rfl, nq, rfl⟩

theorem modLen_nil (w : World) :
    Calls Try.prog 82 #[.pointer none] w fun e w' => e = .returned (.int .i64 0) ∧ w = w' := by
  go_enter Try.func82, Try.ntmps82
  go_wp2_with (go_at_call 76; refine (modSyms_nil _).mono ?_; rintro e w' ⟨rfl, rfl⟩)
  go_ret
  exact ⟨rfl, rfl⟩
theorem modLen_any (g : Nat) (l : List Int) (fx : Bool) (w : World) (h : ModAt w g l fx) :
    Calls Try.prog 82 #[.pointer (some ⟨g, 0, none⟩)] w fun e w' => e = .returned (.int .i64 l.length) ∧ ∃ n, w' = w.drewN n := by
  have H := Lib.hid h
  clear h
  go_enter Try.func82, Try.ntmps82
  go_wp2_with (go_at_call 76; refine (modSyms_any g l fx _ H.out).mono ?_; rintro e w' ⟨rfl, nq, rfl⟩)
  go_ret
  exact ⟨rfl, nq, rfl⟩
theorem modHas_nil (s : Int) (w : World) :
    Calls Try.prog 75 #[.pointer none, .int .i64 s] w fun e w' => e = .returned (.bool false) ∧ w = w' := by
  by_cases h0 : 0 ≤ s
  · go_enter Try.func75, Try.ntmps75
    go_wp2_with (go_at_call 82; refine (modLen_nil _).mono ?_; rintro e w' ⟨rfl, rfl⟩)
    go_ret
    exact ⟨ret_bool (by simp <;> omega), rfl⟩
  · have hd : decide (0 ≤ s) = false := by simp; omega
    go_enter Try.func75, Try.ntmps75
    go_wp2
    go_ret
    exact ⟨rfl, rfl⟩
theorem modHas_any (g : Nat) (l : List Int) (fx : Bool) (s : Int) (w : World) (h : ModAt w g l fx) :
    Calls Try.prog 75 #[.pointer (some ⟨g, 0, none⟩), .int .i64 s] w fun e w' => e = .returned (.bool (decide (0 ≤ s ∧ s < l.length))) ∧ ∃ n, w' = w.drewN n := by
  have H := Lib.hid h
  clear h
  by_cases h0 : 0 ≤ s
  · go_enter Try.func75, Try.ntmps75
    go_wp2_with (go_at_call 82; refine (modLen_any g l fx _ H.out).mono ?_; rintro e w' ⟨rfl, nq, rfl⟩)
    go_ret
    exact ⟨ret_bool (by simp [h0]), nq, rfl⟩
  · have hd : decide (0 ≤ s) = false := by simp; omega
    go_enter Try.func75, Try.ntmps75
    go_wp2
    go_ret
    exact ⟨ret_bool (by simp <;> omega), 0, rfl⟩

theorem modSum_any (a : Option Addr) (len cap B : Nat) (zs : List Int) (w : World) (h : IntsAt w B .u32 a len zs) (hl : len ≤ 64) (hb : ∀ j, j < len → 0 ≤ zs.getD j 0) (hs : sumN zs len ≤ 4294967295) :
    Calls Try.prog 77 #[.slice a len cap] w fun e w' => e = .returned (.int .u32 (sumN zs len)) ∧ w = w' := by
  have H0 := Lib.hid h
  have HB := Lib.hid hb
  have HL := Lib.hid h.1
  have HS := Lib.hid hs
  clear h hb hs
  go_enter Try.func77, Try.ntmps77
  go_wp2
  go_loop [3, 5, 8] (fun s _ i => ∃ k : Nat, k ≤ len ∧ i = .int .i64 k ∧ s = .int .u32 (sumN zs k)) (fun _ _ i => len - (intOf i).toNat)
  case atStart => exact ⟨0, by omega, rfl, by rw [sumN_zero]⟩
  case round =>
    obtain ⟨k, hk, rfl, rfl⟩ := hrel
    by_cases hlt : k < len
    · obtain ⟨b, off, rfl, _, _, hcell⟩ := H0.out.at_ hlt
      have x0 := HB.out k hlt
      have E := Lib.hid (sumN_succ zs k (by rw [HL.out]; exact hlt))
      have m1 := sumN_rise (l := zs) (fun j hj => HB.out j (by rw [← HL.out]; exact hj)) (m := k + 1) (n := len) (by omega) (by rw [HL.out]; exact Nat.le_refl _)
      have m0 := sumN_rise (l := zs) (fun j hj => HB.out j (by rw [← HL.out]; exact hj)) (m := 0) (n := k) (by omega) (by rw [HL.out]; omega)
      rw [sumN_zero] at m0
      rw [E.out] at m1
      have m2 := HS.out
      generalize zs.getD k 0 = x at hcell x0 E m1
      have E2 : RowKit.Hid (sumN zs (k + 1) = sumN zs k + x) := E.out
      clear E
      generalize sumN zs k = y at m0 m1 E2 ⊢
      have u1 : y + x ≤ 4294967295 := by omega
      clear m1 m2
      go_wp2
      go_round
      case rel => exact ⟨k + 1, by omega, by go_num, by rw [E2.out]⟩
      case measure => simp [intOf] <;> omega
    · obtain rfl : k = len := by omega
      go_wp2
      go_ret
      exact ⟨rfl, rfl⟩

/-- A model's part. -/
def partV (l : List Int) (s : Nat) : Value := .agg #[.int .u32 (sumN l s), .int .u32 (l.getD s 0), .int .u32 l.sum]
theorem sumN_take (l : List Int) (n : Nat) : sumN (l.take n) n = sumN l n := by unfold sumN; rw [List.take_take, Nat.min_self]

theorem modSum_at (g : Nat) (l : List Int) (fx : Bool) (n cap : Nat) (w : World) (h : ModAt w g l fx) (hG : GoodL l) (hn : n ≤ l.length) :
    Calls Try.prog 77 #[.slice (some ⟨g, 0, none⟩) n cap] w fun e w' => e = .returned (.int .u32 (sumN l n)) ∧ w = w' := by
  have h64 := h.1
  have b := hG.sum_le hn
  have k := modSum_any (some ⟨g, 0, none⟩) n cap w.heap.size (l.take n) w (h.ints.take hn) (by omega) (fun j hj => ?_) (by rw [sumN_take]; omega)
  · rw [sumN_take] at k
    exact k
  · have := hG.own (j := j) (by omega)
    simp [List.getD, hj] at this ⊢
    omega
set_option maxRecDepth 100000 in
theorem modPart_any (g : Nat) (l : List Int) (fx : Bool) (s : Nat) (w : World) (h : ModAt w g l fx) (hG : GoodL l) (hs : s < l.length) :
    Calls Try.prog 69 #[.pointer (some ⟨g, 0, none⟩), .int .i64 s] w fun e w' => e = .returned (.tuple #[partV l s, .int .i64 0]) ∧ Below w.heap.size w w' := by
  have H := Lib.hid h
  have HG := Lib.hid hG
  have hsl : (s : Int) < (l.length : Int) := by omega
  have hd : decide (0 ≤ (s : Int) ∧ (s : Int) < l.length) = true := by simp; omega
  have h64 := h.1
  have HA := Lib.hid (h.below (Below.alloc_new w (.cells #[.int .u32 0, .int .u32 0, .int .u32 0] 111)))
  have hc := Lib.hid (Cel.new w 111 #[.int .u32 0, .int .u32 0, .int .u32 0])
  have hB := Lib.hid (Below.alloc_new w (.cells #[.int .u32 0, .int .u32 0, .int .u32 0] 111))
  clear h hG
  go_enter Try.func69, Try.ntmps69
  go_wp2_with (first | (go_at_call 75; go_loud (refine (modHas_any g l fx _ _ HA.out).mono ?_); rintro e w' ⟨rfl, n1, rfl⟩; rw [hd]; have HA1 := Lib.hid (HA.out.drewN n1)) | (go_at_call 76; go_loud (refine (modSyms_any g l fx _ HA1.out).mono ?_); rintro e w' ⟨rfl, n2, rfl⟩))
  obtain ⟨w1, hw1⟩ : ∃ w1, w1 = (w.alloc (.cells #[.int .u32 0, .int .u32 0, .int .u32 0] 111)).drewN (n1 + n2) := ⟨_, rfl⟩
  rw [← hw1]
  have HM : RowKit.Hid (ModAt w1.drew g l fx) := by rw [hw1]; exact HA.out
  have hc1 : Cel w1 w.heap.size 111 #[.int .u32 0, .int .u32 0, .int .u32 0] := by rw [hw1]; exact hc.out
  have HB1 : RowKit.Hid (Below w.heap.size w w1.drew) := by rw [hw1]; exact Below.drewN' hB.out (n1 + n2 + 1)
  clear hw1 HA HA1 hc hB
  have x1 : w1.cell? ⟨g, s, none⟩ = some (.int .u32 (l.getD s 0)) := HM.out.at_ hs
  obtain ⟨y0, y1⟩ := HG.out.own hs
  have HV : RowKit.Hid (partV l s = .agg #[.int .u32 (sumN l s), .int .u32 (l.getD s 0), .int .u32 (sumN l l.length)]) := by show _ = _; rw [sumN_all]; exact rfl
  generalize l.getD s 0 = x at x1 y0 y1 HV
  have c0 := hc1.cell 0
  have c1 := hc1.cell 1
  have c2 := hc1.cell 2
  simp only [List.getElem?_toArray, List.getElem?_cons_zero, List.getElem?_cons_succ] at c0 c1 c2
  have f0 := hc1.frozen 0
  have f1 := hc1.frozen 1
  have f2 := hc1.frozen 2
  clear hc1
  have s64 : (s : Int) ≤ 64 := by omega
  go_still_tail 11, (by kernel_rfl)
  still_call ((modSum_at g l fx s _ _ HM.out HG.out (by omega)).mono fun _ _ h => ⟨h.1, h.2.symm⟩)
  repeat still_step
  still_call ((modSum_at g l fx l.length _ _ HM.out HG.out (by omega)).mono fun _ _ h => ⟨h.1, h.2.symm⟩)
  repeat still_step
  refine wpStill_nil ?_
  change wpList _ _ _ _ _ w1.drew
  go_wp2
  refine bodyPost_ret (v := .tuple #[.agg #[.int .u32 (sumN l s), .int .u32 x, .int .u32 (sumN l l.length)], .int .i64 0]) (by simp [results, Try.results69, go_sem, c0, c1, c2]) rfl ⟨by rw [HV.out], ?_⟩
  exact ((HB1.out.setCell (p := ⟨w.heap.size, 0, none⟩) (Nat.le_refl _) _).setCell (p := ⟨w.heap.size, 1, none⟩) (Nat.le_refl _) _).setCell (p := ⟨w.heap.size, 2, none⟩) (Nat.le_refl _) _
/-- No part. -/
def partZ : Value := .agg #[.int .u32 0, .int .u32 0, .int .u32 0]
set_option maxRecDepth 100000 in
theorem modPart_out (g : Nat) (l : List Int) (fx : Bool) (s : Int) (w : World) (h : ModAt w g l fx) (hs : ¬ (0 ≤ s ∧ s < l.length)) :
    Calls Try.prog 69 #[.pointer (some ⟨g, 0, none⟩), .int .i64 s] w fun e w' => e = .returned (.tuple #[partZ, .int .i64 1]) ∧ Below w.heap.size w w' := by
  have hd : decide (0 ≤ s ∧ s < (l.length : Int)) = false := by simpa using hs
  have HA := Lib.hid (h.below (Below.alloc_new w (.cells #[.int .u32 0, .int .u32 0, .int .u32 0] 111)))
  have hB := Lib.hid (Below.alloc_new w (.cells #[.int .u32 0, .int .u32 0, .int .u32 0] 111))
  clear h hs
  go_enter Try.func69, Try.ntmps69
  go_wp2_with (go_at_call 75; go_loud (refine (modHas_any g l fx _ _ HA.out).mono ?_); rintro e w' ⟨rfl, n1, rfl⟩; rw [hd])
  refine bodyPost_ret (v := .tuple #[.agg #[.int .u32 0, .int .u32 0, .int .u32 0], .int .i64 1]) (by simp [results, Try.results69, go_sem]) rfl ⟨rfl, ?_⟩
  exact (((Below.drewN' hB.out n1).setCell (p := ⟨w.heap.size, 0, none⟩) (Nat.le_refl _) _).setCell (p := ⟨w.heap.size, 1, none⟩) (Nat.le_refl _) _).setCell (p := ⟨w.heap.size, 2, none⟩) (Nat.le_refl _) _
set_option maxRecDepth 100000 in
theorem modPart_nil (s : Int) (w : World) :
    Calls Try.prog 69 #[.pointer none, .int .i64 s] w fun e w' => e = .returned (.tuple #[partZ, .int .i64 1]) ∧ Below w.heap.size w w' := by
  have hB := Lib.hid (Below.alloc_new w (.cells #[.int .u32 0, .int .u32 0, .int .u32 0] 111))
  go_enter Try.func69, Try.ntmps69
  go_wp2_with (go_at_call 75; go_loud (refine (modHas_nil _ _).mono ?_); rintro e w' ⟨rfl, rfl⟩)
  refine bodyPost_ret (v := .tuple #[.agg #[.int .u32 0, .int .u32 0, .int .u32 0], .int .i64 1]) (by simp [results, Try.results69, go_sem]) rfl ⟨rfl, ?_⟩
  exact hB.out

/-! ### Find -/
theorem modFind_nil (at' : Int) (w : World) :
    Calls Try.prog 72 #[.pointer none, .int .u32 at'] w fun e w' => e = .returned (.int .i64 0) ∧ w = w' := by
  go_enter Try.func72, Try.ntmps72
  go_wp2_with (go_at_call 76; refine (modSyms_nil _).mono ?_; rintro e w' ⟨rfl, rfl⟩)
  refine wp_loop_rounds 1 ?_
  rw [rounds_succ]
  go_wp2
  go_ret
  exact ⟨rfl, rfl⟩
set_option maxRecDepth 100000 in
theorem modFind_any (g : Nat) (l : List Int) (fx : Bool) (at' : Int) (w : World) (h : ModAt w g l fx) (hG : GoodL l) :
    Calls Try.prog 72 #[.pointer (some ⟨g, 0, none⟩), .int .u32 at'] w fun e w' => e = .returned (.int .i64 (findP l at')) ∧ ∃ n, w' = w.drewN n := by
  have H := Lib.hid h
  have HG := Lib.hid hG
  have h64 := h.1
  have h1 := hG.1
  clear h hG
  go_enter Try.func72, Try.ntmps72
  go_wp2_with (go_at_call 76; go_loud (refine (modSyms_any g l fx _ H.out).mono ?_); rintro e w' ⟨rfl, n2, rfl⟩)
  go_loop [5, 6, 7, 8, 12] (fun f s _ _ i => ∃ k : Nat, k ≤ l.length ∧ i = .int .i64 k ∧ s = .int .u32 (sumN l k) ∧ (f = .int .i64 ((k : Int) - 1) ∨ (k = 0 ∧ f = .int .i64 0)) ∧ RowKit.Hid (findGo l at' k (l.length - k) = findP l at')) (fun _ _ _ _ i => l.length - (intOf i).toNat)
  case atStart => exact ⟨0, by omega, rfl, by rw [sumN_zero], .inr ⟨rfl, rfl⟩, rfl⟩
  case round =>
    obtain ⟨k, hk, rfl, rfl, hf, HF⟩ := hrel
    by_cases hlt : k < l.length
    · have hcell := H.out.at_ hlt
      have x0 := HG.out.own hlt
      have y0 := HG.out.sum_le (n := k) (by omega)
      have y1 := HG.out.sum_le (n := k + 1) (by omega)
      have E := Lib.hid (sumN_succ l k hlt)
      have S : RowKit.Hid (findGo l at' k (l.length - k) = if at' < sumN l (k + 1) then k else findGo l at' (k + 1) (l.length - (k + 1))) := by
        rw [show l.length - k = (l.length - (k + 1)) + 1 by omega]; exact rfl
      rw [E.out] at y1
      have hkl : (k : Int) < (l.length : Int) := by omega
      generalize l.getD k 0 = x at hcell x0 y1 E
      by_cases hs : at' < sumN l (k + 1)
      · have Z : RowKit.Hid (((k : Nat) : Int) = ((findP l at' : Nat) : Int)) := by
          have := S.out
          rw [if_pos hs, HF.out] at this
          show (k : Int) = (findP l at' : Int)
          rw [this]
        rw [E.out] at hs
        clear E S
        generalize sumN l k = y at y0 y1 hs ⊢
        go_wp2
        go_ret
        exact ⟨ret_int Z.out, n2, rfl⟩
      · have Z : RowKit.Hid (findGo l at' (k + 1) (l.length - (k + 1)) = findP l at') := by
          have := S.out
          rw [if_neg hs, HF.out] at this
          exact this.symm
        rw [E.out] at hs
        have E2 : RowKit.Hid (sumN l (k + 1) = sumN l k + x) := E.out
        clear E S
        generalize sumN l k = y at y0 y1 hs E2 ⊢
        go_wp2
        go_round
        case rel => exact ⟨k + 1, by omega, by go_num, by rw [E2.out], .inl (by go_num), Z.out⟩
        case measure => simp [intOf] <;> omega
    · have Z : RowKit.Hid ((k : Int) - 1 = ((findP l at' : Nat) : Int)) := by
        have := HF.out
        rw [show l.length - k = 0 by omega] at this
        show (k : Int) - 1 = (findP l at' : Int)
        rw [← this]
        show (k : Int) - 1 = ((l.length - 1 : Nat) : Int)
        omega
      rcases hf with rfl | ⟨rfl, _⟩
      · go_wp2
        go_ret
        exact ⟨ret_int Z.out, n2, rfl⟩
      · omega

/-! ### Learn -/
theorem modLearn_nil (s : Int) (w : World) :
    Calls Try.prog 71 #[.pointer none, .int .i64 s] w fun e w' => e = .returned (.int .i64 1) ∧ w = w' := by
  go_enter Try.func71, Try.ntmps71
  go_wp2_with (go_at_call 75; go_loud (refine (modHas_nil _ _).mono ?_); rintro e w' ⟨rfl, rfl⟩)
  go_ret
  exact ⟨rfl, rfl⟩
theorem modLearn_out (g : Nat) (l : List Int) (fx : Bool) (s : Int) (w : World) (h : ModAt w g l fx) (hs : ¬ (0 ≤ s ∧ s < l.length)) :
    Calls Try.prog 71 #[.pointer (some ⟨g, 0, none⟩), .int .i64 s] w fun e w' => e = .returned (.int .i64 1) ∧ ∃ n, w' = w.drewN n := by
  have hd : decide (0 ≤ s ∧ s < (l.length : Int)) = false := by simpa using hs
  have H := Lib.hid h
  clear h hs
  go_enter Try.func71, Try.ntmps71
  go_wp2_with (go_at_call 75; go_loud (refine (modHas_any g l fx _ _ H.out).mono ?_); rintro e w' ⟨rfl, n1, rfl⟩; rw [hd])
  go_ret
  exact ⟨rfl, n1, rfl⟩
theorem modLearn_fixed (g : Nat) (l : List Int) (s : Nat) (w : World) (h : ModAt w g l true) (hs : s < l.length) :
    Calls Try.prog 71 #[.pointer (some ⟨g, 0, none⟩), .int .i64 s] w fun e w' => e = .returned (.int .i64 0) ∧ ∃ n, w' = w.drewN n := by
  have hd : decide (0 ≤ (s : Int) ∧ (s : Int) < (l.length : Int)) = true := by simp; omega
  have H := Lib.hid h
  have c1 : w.cell? ⟨g, 65, none⟩ = some (.bool false) := h.learns
  clear h hs
  go_enter Try.func71, Try.ntmps71
  go_wp2_with (go_at_call 75; go_loud (refine (modHas_any g l true _ _ H.out).mono ?_); rintro e w' ⟨rfl, n1, rfl⟩; rw [hd])
  go_ret
  exact ⟨rfl, n1, rfl⟩

set_option maxRecDepth 100000 in
theorem modHalve_any (g : Nat) (l : List Int) (fx : Bool) (w : World) (h : ModAt w g l fx) (hb : ∀ j, j < l.length → 0 ≤ l.getD j 0 ∧ l.getD j 0 ≤ 16384) :
    Calls Try.prog 81 #[.pointer (some ⟨g, 0, none⟩)] w fun e w' => e = .returned (.tuple #[]) ∧ ModAt w' g (halfL l) fx ∧ Keeps (fun k => k = g) w w' := by
  have H := Lib.hid h
  have HB := Lib.hid hb
  have h64 := h.1
  clear h hb
  go_enter Try.func81, Try.ntmps81
  go_wp2_with (go_at_call 76; go_loud (refine (modSyms_any g l fx _ H.out).mono ?_); rintro e w' ⟨rfl, n2, rfl⟩)
  go_loopw [2, 3, 7] (fun _ _ i wr => ∃ k : Nat, k ≤ l.length ∧ i = .int .i64 k ∧ RowKit.Hid (ModAt wr g (halfK l k) fx ∧ Keeps (fun k => k = g) w wr)) (fun _ _ i _ => l.length - (intOf i).toNat)
  case atStart => exact ⟨0, by omega, rfl, by rw [halfK_zero]; exact H.out, (Keeps.refl _ w).drewN n2⟩
  case round =>
    obtain ⟨k, hk, rfl, HW⟩ := hrel
    by_cases hlt : k < l.length
    · have hl := halfK_len l (k := k) (by omega)
      have i1 := HW.out.1.at_ (j := k) (by omega)
      have f1 := HW.out.1.frozen k
      rw [halfK_at l hlt] at i1
      obtain ⟨x0, x1⟩ := HB.out k hlt
      have HN := Lib.hid (halfK_next l hlt)
      generalize l.getD k 0 = x at i1 x0 x1 HN
      have HS : RowKit.Hid (ModAt (wr.setCell ⟨g, k, none⟩ (.int .u32 ((x + 1) / 2))) g (halfK l (k + 1)) fx ∧ Keeps (fun k => k = g) w (wr.setCell ⟨g, k, none⟩ (.int .u32 ((x + 1) / 2)))) :=
        ⟨by rw [← HN.out]; exact HW.out.1.stored (by omega) _, HW.out.2.setCell (.inl rfl) _⟩
      have g2 : (k : Int) < (l.length : Int) := by omega
      have g4 : (k : Int) < 64 := by omega
      clear hl
      go_wp2
      go_roundw
      case rel => exact ⟨k + 1, by omega, by go_num, HS.out.1, HS.out.2⟩
      case measure => simp [intOf] <;> omega
    · obtain rfl : k = l.length := by omega
      go_wp2
      go_end0
      exact ⟨rfl, by rw [← halfK_all]; exact HW.out.1, HW.out.2⟩
theorem modSum_all (g : Nat) (l : List Int) (fx : Bool) (cap : Nat) (w : World) (h : ModAt w g l fx) (hb : ∀ j, j < l.length → 0 ≤ l.getD j 0) (hs : sumN l l.length ≤ 4294967295) :
    Calls Try.prog 77 #[.slice (some ⟨g, 0, none⟩) l.length cap] w fun e w' => e = .returned (.int .u32 (sumN l l.length)) ∧ w = w' :=
  modSum_any (some ⟨g, 0, none⟩) l.length cap w.heap.size l w h.ints h.1 hb hs
theorem modSyms_at (g : Nat) (l : List Int) (fx : Bool) (n : Nat) (w : World) (h : ModAt w g l fx) (hn : l.length = n) :
    Calls Try.prog 76 #[.pointer (some ⟨g, 0, none⟩)] w fun e w' => e = .returned (.slice (some ⟨g, 0, none⟩) n 64) ∧ ∃ n, w' = w.drewN n := by
  subst hn; exact modSyms_any g l fx w h
theorem modSum_n (g : Nat) (l : List Int) (fx : Bool) (n cap : Nat) (w : World) (h : ModAt w g l fx) (hn : l.length = n) (hb : ∀ j, j < l.length → 0 ≤ l.getD j 0) (hs : sumN l l.length ≤ 4294967295) :
    Calls Try.prog 77 #[.slice (some ⟨g, 0, none⟩) n cap] w fun e w' => e = .returned (.int .u32 (sumN l l.length)) ∧ w = w' := by
  subst hn; exact modSum_all g l fx cap w h hb hs
set_option maxRecDepth 100000 in
theorem modLearn_any (g : Nat) (l : List Int) (s : Nat) (w : World) (h : ModAt w g l false) (hG : GoodL l) (hs : s < l.length) :
    Calls Try.prog 71 #[.pointer (some ⟨g, 0, none⟩), .int .i64 s] w fun e w' => e = .returned (.int .i64 0) ∧ ModAt w' g (learnP l s) false ∧ Keeps (fun k => k = g) w w' := by
  have hd : decide (0 ≤ (s : Int) ∧ (s : Int) < (l.length : Int)) = true := by simp; omega
  have H := Lib.hid h
  have HG := Lib.hid hG
  have c1 : w.cell? ⟨g, 65, none⟩ = some (.bool true) := h.learns
  have hcell := h.at_ hs
  have hfz := h.frozen s
  have h64 := h.1
  obtain ⟨x0, x1⟩ := hG.own hs
  have E : RowKit.Hid (riseL l s = l.set s (l.getD s 0 + 32)) := rfl
  clear h hG
  generalize l.getD s 0 = x at hcell x0 x1 E
  have hlen := Lib.hid (riseL_len l s)
  have HS : RowKit.Hid (ModAt (w.setCell ⟨g, s, none⟩ (.int .u32 (x + 32))) g (riseL l s) false) := by
    show ModAt _ _ _ _
    rw [E.out]; exact H.out.stored hs (x + 32)
  have HK := Lib.hid ((Keeps.refl (fun k => k = g) w).setCell (p := ⟨g, s, none⟩) (.inl rfl) (.int .u32 (x + 32)))
  have s64 : (s : Int) < 64 := by omega
  have hb : ∀ j, j < (riseL l s).length → 0 ≤ (riseL l s).getD j 0 ∧ (riseL l s).getD j 0 ≤ 16384 := by
    intro j hj
    rw [hlen.out] at hj
    have := riseL_own HG.out hs hj
    omega
  have HB := Lib.hid hb
  have hsm : sumN (riseL l s) (riseL l s).length ≤ 8224 := by
    have a := riseL_sum hs
    have b := HG.out.2.2.2
    rw [sumN_all]; omega
  have HSM := Lib.hid hsm
  clear hb hsm
  go_enter Try.func71, Try.ntmps71
  go_wp2_with (go_at_call 75; go_loud (refine (modHas_any g l false _ _ H.out).mono ?_); rintro e w' ⟨rfl, n1, rfl⟩; rw [hd])
  have g1 : IntKind.u32.wrap (x + 32) = x + 32 := IntWalk.u32_in _ (by omega)
  go_region
  clear g1 hcell hfz c1
  obtain ⟨w1, hw1⟩ : ∃ w1, w1 = (w.drewN (n1 + 1)).setCell ⟨g, s, none⟩ (.int .u32 (x + 32)) := ⟨_, rfl⟩
  rw [← hw1]
  have HM : RowKit.Hid (ModAt w1 g (riseL l s) false) := by rw [hw1]; exact HS.out.keep rfl
  have HK1 : RowKit.Hid (Keeps (fun k => k = g) w w1) := by
    rw [hw1]; exact ((Keeps.refl (fun k => k = g) w).drewN (n1 + 1)).setCell (p := ⟨g, s, none⟩) (.inl rfl) _
  clear hw1 HS HK H
  have hq := Lib.hid (sumN_all (riseL l s))
  have hy0 : 0 ≤ sumN (riseL l s) (riseL l s).length := by
    have := sumN_rise (l := riseL l s) (fun j hj => (HB.out j hj).1) (m := 0) (n := (riseL l s).length) (by omega) (Nat.le_refl _)
    rw [sumN_zero] at this
    exact this
  have hy1 := HSM.out
  obtain ⟨y, hy⟩ : ∃ y, y = sumN (riseL l s) (riseL l s).length := ⟨_, rfl⟩
  have HY := Lib.hid hy
  rw [← hy] at hy0 hy1
  clear hy
  by_cases hbig : 8192 < y
  · have hln : RowKit.Hid (learnP l s = halfL (riseL l s)) := by
      unfold learnP
      rw [← hq.out, if_pos (by rw [← HY.out]; exact hbig)]; exact rfl
    go_wp2_with (first | (go_at_call 76; go_loud (refine (modSyms_at g (riseL l s) false l.length _ HM.out hlen.out).mono ?_); rintro e w' ⟨rfl, n2, rfl⟩; have HM2 := Lib.hid (HM.out.drewN n2)) | (go_at_call 77; go_loud (refine (modSum_n g (riseL l s) false l.length _ _ HM2.out hlen.out (fun j hj => (HB.out j hj).1) (by have := HSM.out; omega)).mono ?_); rintro e w' ⟨rfl, rfl⟩; rw [← HY.out]) | (go_at_call 81; go_loud (refine (modHalve_any g (riseL l s) false _ HM2.out HB.out).mono ?_); rintro e w3 ⟨rfl, hm, hk⟩; have HR := Lib.hid hm; have HK3 := Lib.hid hk; clear hm hk))
    go_ret
    exact ⟨rfl, by rw [hln.out]; exact HR.out, (HK1.out.drewN n2).trans HK3.out⟩
  · have hln : RowKit.Hid (learnP l s = riseL l s) := by
      unfold learnP
      rw [← hq.out, if_neg (by rw [← HY.out]; exact hbig)]; exact rfl
    go_wp2_with (first | (go_at_call 76; go_loud (refine (modSyms_at g (riseL l s) false l.length _ HM.out hlen.out).mono ?_); rintro e w' ⟨rfl, n2, rfl⟩; have HM2 := Lib.hid (HM.out.drewN n2)) | (go_at_call 77; go_loud (refine (modSum_n g (riseL l s) false l.length _ _ HM2.out hlen.out (fun j hj => (HB.out j hj).1) (by have := HSM.out; omega)).mono ?_); rintro e w' ⟨rfl, rfl⟩; rw [← HY.out]))
    go_ret
    exact ⟨rfl, by rw [hln.out]; exact HM2.out, HK1.out.drewN n2⟩

/-! ### New -/
/-- A new model's cells, where k of n symbols come once. -/
def newCells (k n : Nat) (b : Bool) : List Value := ((List.replicate k (1 : Int) ++ List.replicate (64 - k) 0).map (Value.int .u32)) ++ [.int .i64 n, .bool b]
theorem newCells_done (n : Nat) : newCells n n true = modCells (List.replicate n 1) false := by
  unfold newCells modCells; simp
theorem newCells_next {k n : Nat} (h : k < 64) (b : Bool) : (newCells k n b).set k (.int .u32 1) = newCells (k + 1) n b := by
  unfold newCells
  rw [List.set_append_left _ _ (by simp; omega), ← List.map_set, List.set_append_right _ _ (by simp)]
  simp only [List.length_replicate, Nat.sub_self]
  rw [show 64 - k = (64 - (k + 1)) + 1 by omega, List.replicate_succ, List.set_cons_zero, List.replicate_succ']
  simp
theorem newCells_at {k n : Nat} (h : k < 64) (b : Bool) : (newCells k n b)[k]? = some (.int .u32 0) := by
  unfold newCells
  rw [List.getElem?_append_left (by simp; omega), List.getElem?_map, List.getElem?_append_right (by simp)]
  simp [show 0 < 64 - k by omega]
theorem newCells_size (k n : Nat) (h : k ≤ 64) (b : Bool) : (newCells k n b).length = 66 := by unfold newCells; simp; omega
theorem newCells_one (k n : Nat) (b : Bool) : (newCells k n b).toArray.all (·.oneCell') = true := by
  rw [Array.all_eq_true_iff_forall_mem]
  intro x hx
  simp only [newCells, List.map_append, List.map_replicate, List.append_assoc, List.mem_toArray, List.mem_append, List.mem_replicate, List.mem_cons, List.not_mem_nil, or_false] at hx
  rcases hx with ⟨_, rfl⟩ | ⟨_, rfl⟩ | rfl | rfl <;> rfl
theorem mod_zero (w : World) : (zeroValue 109).run Try.prog w = .ok (.agg (newCells 0 0 false).toArray) w :=
  (zero_of_info (t := 109) (v := .agg (newCells 0 0 false).toArray) (n := 66) (by kernel_rfl)).1 w
theorem mod_size : (Try.prog.info? 109).map (·.size) = some 66 := (zero_of_info (t := 109) (v := .agg (newCells 0 0 false).toArray) (n := 66) (by kernel_rfl)).2
theorem mod_build (n : Nat) : Try.prog.built 109 [(1, .int .i64 n), (2, .bool true)] = some (newCells 0 n true).toArray := by kernel_rfl
theorem mod_build_fixed (n : Nat) : Try.prog.built 109 [(1, .int .i64 n)] = some (newCells 0 n false).toArray := by kernel_rfl
theorem wpList_build_as {P : Program} {ops : Array Oper} {rest : List Oper} {o : Oper} {a : Act} {w : World} {Q : Exit → Act → World → Prop} (hg : o.guard = none) (t : TypeId) (parts : Array (Nat × Operand)) (ho : o.op = .build t parts) (cs : Array Value)
    (vs : List (Nat × Value)) (hv : (parts.map fun (i, x) => (i, a.eval x)).toList = vs) (hf : P.built t vs = some cs) (h : wpList P ops Q rest (a.put o.dst (.agg cs)) w) : wpList P ops Q (o :: rest) a w :=
  wpList_build hg t parts ho (by rw [hv, hf]; rfl) (by rw [hv, hf]; exact h)

theorem modNew_out (n : Int) (w : World) (h : n < 1 ∨ 64 < n) :
    Calls Try.prog 50 #[.int .i64 n] w fun e w' => e = .returned (.tuple #[.pointer none, .int .i64 1]) ∧ w = w' := by
  rcases h with h | h
  · have hd : decide (n < 1) = true := by simp; omega
    go_enter Try.func50, Try.ntmps50
    go_wp2
    go_ret2
    exact ⟨rfl, rfl⟩
  · have hd : decide (n < 1) = false := by simp; omega
    have hd2 : decide (64 < n) = true := by simp; omega
    go_enter Try.func50, Try.ntmps50
    go_wp2
    go_ret2
    exact ⟨rfl, rfl⟩
set_option maxRecDepth 100000 in
theorem modNew_any (n : Nat) (w : World) (h0 : 1 ≤ n) (h1 : n ≤ 64) :
    Calls Try.prog 50 #[.int .i64 n] w fun e w' => ∃ g, e = .returned (.tuple #[.pointer (some ⟨g, 0, none⟩), .int .i64 0]) ∧ w.heap.size ≤ g ∧ ModAt w' g (List.replicate n 1) false ∧ Below w.heap.size w w' := by
  have hd : decide ((n : Int) < 1) = false := by simp; omega
  have hd2 : decide ((64 : Int) < (n : Int)) = false := by simp; omega
  have hz := mod_zero
  have HC := Lib.hid (Cel.new w 109 (newCells 0 n true).toArray)
  have HB := Lib.hid (Below.alloc_new w (.cells (newCells 0 n true).toArray 109))
  have hbd := mod_build n
  have hcs : ∃ c0 c1, c0 = (newCells 0 0 false).toArray ∧ c1 = (newCells 0 n true).toArray := ⟨_, _, rfl, rfl⟩
  obtain ⟨c0, c1, e0, e1⟩ := hcs
  have E1 := Lib.hid e1
  have z0 : c0.size = 66 := by rw [e0, List.size_toArray, newCells_size _ _ (by omega)]
  have z1 : c1.size = 66 := by rw [e1, List.size_toArray, newCells_size _ _ (by omega)]
  have o1 : c1.all (·.oneCell') = true := by rw [e1]; exact newCells_one _ _ _
  have hi : (Try.prog.info? 109).map (·.size) = some c1.size := by rw [z1]; exact mod_size
  rw [← e0] at hz
  rw [← e1] at hbd HC HB
  have HBD := Lib.hid hbd
  have HI := Lib.hid hi
  have HO := Lib.hid o1
  have HZ := Lib.hid (z0.trans z1.symm)
  clear e0 e1 z0 z1 o1 hi hbd
  go_enter Try.func50, Try.ntmps50
  go_wp2_with (first | (refine wpList_build_as rfl 109 _ rfl c1 [(1, .int .i64 n), (2, .bool true)] (by kernel_rfl) HBD.out ?_) | (refine wpList_store_row rfl 109 _ _ rfl w.heap.size c1 rfl rfl 109 c0 (heap_alloc_last w _) HI.out HZ.out HO.out ?_; rw [World.setRow_alloc_new]))
  have HC2 : RowKit.Hid (Cel (w.alloc (.cells c1 109)) w.heap.size 109 (newCells 0 n true).toArray) := by rw [← E1.out]; exact HC.out
  clear HC hz HBD HI HO HZ
  go_loopw [5, 15] (fun _ i wr => ∃ k : Nat, k ≤ n ∧ i = .int .i64 k ∧ RowKit.Hid (Cel wr w.heap.size 109 (newCells k n true).toArray ∧ Below w.heap.size w wr)) (fun _ i _ => n - (intOf i).toNat)
  case atStart => exact ⟨0, by omega, rfl, HC2.out, HB.out⟩
  case round =>
    obtain ⟨k, hk, rfl, HW⟩ := hrel
    clear HC2 HB
    by_cases hlt : k < n
    · have k64 : k < 64 := by omega
      have i1 := HW.out.1.cell k
      rw [List.getElem?_toArray, newCells_at k64] at i1
      have f1 := HW.out.1.frozen k
      have HS : RowKit.Hid (Cel (wr.setCell ⟨w.heap.size, k, none⟩ (.int .u32 1)) w.heap.size 109 (newCells (k + 1) n true).toArray ∧ Below w.heap.size w (wr.setCell ⟨w.heap.size, k, none⟩ (.int .u32 1))) := by
        refine ⟨?_, HW.out.2.setCell (Nat.le_refl _) _⟩
        have := HW.out.1.set_ k (.int .u32 1)
        rw [List.setIfInBounds_toArray, newCells_next k64] at this
        exact this
      have g4 : (k : Int) < 64 := by omega
      go_wp2
      go_roundw
      case rel => exact ⟨k + 1, by omega, by go_num, HS.out⟩
      case measure => simp [intOf] <;> omega
    · obtain rfl : k = n := by omega
      go_wp2
      go_ret2
      exact ⟨w.heap.size, rfl, Nat.le_refl _, ⟨by simp; omega, by rw [← newCells_done]; exact HW.out.1⟩, HW.out.2⟩

/-! ### Fixed -/
theorem splice_fixed {zs : List Int} {k : Nat} (h : zs.length = k) (hk : k ≤ 64) : splice (newCells 0 k false) 0 (zs.map (Value.int .u32)) = modCells zs true := by
  subst h
  unfold splice newCells modCells
  simp only [List.take_zero, List.nil_append, Nat.zero_add, List.length_map, List.replicate_zero, Nat.sub_zero, List.map_append, List.map_replicate]
  rw [List.drop_append_of_le_length (by rw [List.length_replicate]; exact hk), List.drop_replicate, List.append_assoc]
  rfl
/-- May a model be of these? -/
def FixOk (zs : List Int) (len : Nat) : Prop := (∀ j, j < len → 1 ≤ zs.getD j 0) ∧ sumN zs len ≤ 8192
end Go.Proofs.Ytdmafololcpamaa

/- What the functions of package rangeenc give, for whatever arguments: adding, carrying, scaling, parts. -/
namespace Go.Proofs.Ytdmafololcpamaa
open Go.RowKit
set_option linter.unusedVariables false

theorem add32_low (x y : Int) (w : World) (x0 : 0 ≤ x) (y0 : 0 ≤ y) (h : x + y ≤ 4294967295) :
    Calls Try.prog 83 #[.int .u32 x, .int .u32 y, .int .u32 0] w fun e w' => e = .returned (.tuple #[.int .u32 (x + y), .int .u32 0]) ∧ w = w' := by
  have h1 : (x + y) / 4294967296 = 0 := by omega
  go_enter Try.func83, Try.ntmps83
  go_wp2
  go_ret2
  exact ⟨rfl, rfl⟩
theorem add32_high (x y : Int) (w : World) (x0 : 0 ≤ x) (y0 : 0 ≤ y) (x1 : x ≤ 4294967295) (y1 : y ≤ 4294967295) (h : 4294967296 ≤ x + y) :
    Calls Try.prog 83 #[.int .u32 x, .int .u32 y, .int .u32 0] w fun e w' => e = .returned (.tuple #[.int .u32 (x + y - 4294967296), .int .u32 1]) ∧ w = w' := by
  have h1 : (x + y) / 4294967296 = 1 := by omega
  have h2 : (x + y) % 4294967296 = x + y - 4294967296 := by omega
  go_enter Try.func83, Try.ntmps83
  go_wp2
  go_ret2
  refine ⟨?_, rfl⟩
  show Ending.returned (.tuple #[.int .u32 ((x + y) % 4294967296), .int .u32 1]) = _
  rw [h2]

/-- Block g is the program's encoder: digits ahead (in the row of v), the last four, how much less the size is. -/
def EncD (w : World) (base g : Nat) (v : Value) (D : List Int) (last less : Int) : Prop :=
  Cel w g 58 #[v, .int .u32 last, .int .u32 less] ∧ w.ownsRow base 5 1 v D.length (D.map (Value.int .u8)) ∧ base ≤ g
section
variable {w w' : World} {base g : Nat} {v : Value} {D : List Int} {last less : Int}
theorem EncD.lt (h : EncD w base g v D last less) : g < w.heap.size := h.1.lt
theorem EncD.own (h : EncD w base g v D last less) (r : Nat) (hr : v.ownBlock = some r) : r < w.heap.size ∧ base ≤ r ∧ r ≠ g := ⟨own_lt h.2.1 r hr, own_base h.2.1 r hr, own_ne_cel h.2.1 h.1 (by decide) r hr⟩
theorem EncD.cells (h : EncD w base g v D last less) : w.cell? ⟨g, 0, none⟩ = some v ∧ w.cell? ⟨g, 1, none⟩ = some (.int .u32 last) ∧ w.cell? ⟨g, 2, none⟩ = some (.int .u32 less) := ⟨h.1.cell 0, h.1.cell 1, h.1.cell 2⟩
theorem EncD.fz (h : EncD w base g v D last less) : w.frozen? ⟨g, 0, none⟩ = false ∧ w.frozen? ⟨g, 1, none⟩ = false ∧ w.frozen? ⟨g, 2, none⟩ = false := ⟨h.1.frozen 0, h.1.frozen 1, h.1.frozen 2⟩
theorem EncD.drewN (h : EncD w base g v D last less) (n : Nat) : EncD (w.drewN n) base g v D last less := h
theorem EncD.keeps {F : Nat → Prop} (h : EncD w base g v D last less) (hk : Keeps F w w') (h1 : ¬ F g) (h2 : ∀ r, v.ownBlock = some r → ¬ F r) : EncD w' base g v D last less :=
  ⟨h.1.keeps hk h1, own_keeps h.2.1 hk h2, h.2.2⟩
theorem EncD.below (h : EncD w base g v D last less) (hk : Below w.heap.size w w') : EncD w' base g v D last less := h.keeps (F := fun _ => False) (.of_below hk) (fun c => c) (fun _ _ c => c)
theorem EncD.row {r c a : Nat} (h : EncD w base g (.slice (some ⟨r, 0, none⟩) a c) D last less) (ha : D.length = a) {j : Nat} (hj : j < a) : w.cell? ⟨r, j, none⟩ = some (.int .u8 (D.getD j 0)) ∧ w.frozen? ⟨r, j, none⟩ = false := by
  subst ha
  refine ⟨?_, h.2.1.frozenAt j⟩
  rw [h.2.1.cellAt j (by omega), List.getElem?_map, List.getElem?_eq_getElem hj]
  simp [List.getD, hj]
theorem EncD.setRow {r c a : Nat} (h : EncD w base g (.slice (some ⟨r, 0, none⟩) a c) D last less) (ha : D.length = a) (j : Nat) (x : Int) : EncD (w.setCell ⟨r, j, none⟩ (.int .u8 x)) base g (.slice (some ⟨r, 0, none⟩) a c) (D.set j x) last less := by
  subst ha
  have hl := h.own r rfl
  refine ⟨h.1.far (p := ⟨r, j, none⟩) (fun e => hl.2.2 e.symm) _, ?_, h.2.2⟩
  rw [List.length_set, List.map_set]; exact (h.2.1.stored j (.int .u8 x)).1
theorem EncD.setLast (h : EncD w base g v D last less) (x : Int) : EncD (w.setCell ⟨g, 1, none⟩ (.int .u32 x)) base g v D x less :=
  ⟨by simpa using h.1.set_ 1 (.int .u32 x), own_far h.2.1 (fun r hr => (h.own r hr).2.2) _, h.2.2⟩
theorem EncD.setLess (h : EncD w base g v D last less) (x : Int) : EncD (w.setCell ⟨g, 2, none⟩ (.int .u32 x)) base g v D last x :=
  ⟨by simpa using h.1.set_ 2 (.int .u32 x), own_far h.2.1 (fun r hr => (h.own r hr).2.2) _, h.2.2⟩
end
/-- The same, by the number and the scale. -/
def EncR (w : World) (base g : Nat) (v : Value) (n : Int) (k : Nat) (less : Int) : Prop :=
  ∃ D last, EncD w base g v D last less ∧ IsDig D ∧ D.length = k ∧ 0 ≤ last ∧ last ≤ 4294967295 ∧ n = valL D * 4294967296 + last

/-- What carrying leaves. -/
def CarryPost (base g : Nat) (v : Value) (D : List Int) (last less : Int) (w : World) (x : Ending) (w' : World) : Prop :=
  x = .returned (.tuple #[]) ∧ ∃ D', EncD w' base g v D' last less ∧ IsDig D' ∧ D'.length = D.length ∧ valL D' = valL D + 1 ∧ Keeps (fun j => v.ownBlock = some j) w w'

set_option maxRecDepth 100000 in
theorem rncCarry_any (base g : Nat) (v : Value) (D : List Int) (last less : Int) (w : World) (hE : EncD w base g v D last less) (hd : IsDig D) (hv : valL D + 1 < P256 D.length) (hk : D.length ≤ 1000000) :
    Calls Try.prog 84 #[.pointer (some ⟨g, 0, none⟩)] w (CarryPost base g v D last less w) := by
  have hpos : 0 < D.length := by
    rcases Nat.eq_zero_or_pos D.length with h | h
    · have := (valL_lt hd).1
      rw [h] at hv
      have e : P256 0 = 1 := by decide
      omega
    · exact h
  obtain ⟨r, c, rfl, _, _⟩ := World.ownsRow.form hE.2.1 hpos
  obtain ⟨c0, c1, c2⟩ := hE.cells
  have H0 := Lib.hid hE
  have HD := Lib.hid hd
  have HV := Lib.hid hv
  obtain ⟨K, hK⟩ : ∃ K, K = D.length := ⟨_, rfl⟩
  rw [← hK] at c0 hk hpos
  have HK := Lib.hid hK
  clear hE hd hv c1 c2 hK
  go_enter Try.func84, Try.ntmps84
  go_wp2
  go_loopw [2] (fun i wr => ∃ (D2 : List Int) (m : Nat), i = .int .i64 ((m : Int) - 1) ∧ m ≤ K ∧ RowKit.Hid (EncD wr base g (.slice (some ⟨r, 0, none⟩) K c) D2 last less ∧ IsDig D2 ∧ D2.length = K ∧ valL D2 + P256 (K - m) = valL D + 1 ∧ Keeps (fun j => j = r) w wr)) (fun i _ => (intOf i + 1).toNat)
  case atStart => exact ⟨D, K, rfl, Nat.le_refl _, by rw [HK.out]; exact H0.out, HD.out, HK.out.symm, by rw [Nat.sub_self]; exact rfl, Keeps.refl _ _⟩
  case round =>
    obtain ⟨D2, m, rfl, hm, H⟩ := hrel
    clear c0
    obtain ⟨c0, _, _⟩ := H.out.1.cells
    by_cases hz : m = 0
    · exfalso
      have h1 := H.out.2.2.2.1
      have h2 := (valL_lt H.out.2.1).1
      have h3 := HV.out
      rw [hz, Nat.sub_zero] at h1
      rw [← HK.out] at h3
      omega
    · obtain ⟨p, hp⟩ : ∃ p, m = p + 1 := ⟨m - 1, by omega⟩
      have hp0 : (m : Int) - 1 = (p : Int) := by omega
      rw [hp0]
      have hpK : (p : Int) < (K : Int) := by omega
      obtain ⟨i1, f1⟩ := H.out.1.row H.out.2.2.1 (j := p) (by omega)
      have hxd := H.out.2.1 p (by rw [H.out.2.2.1]; omega)
      obtain ⟨x, hx⟩ : ∃ x, x = D2.getD p 0 := ⟨_, rfl⟩
      rw [← hx] at i1 hxd
      obtain ⟨x0, x1⟩ := hxd
      have HX := Lib.hid hx
      have HM := Lib.hid hp
      clear hx
      by_cases hf : x = 255
      · have g1 : IntKind.u8.wrap (x + 1) = 0 := by rw [hf]; decide
        have h1 := Lib.hid (carry_full (V := valL D + 1) H.out.2.1 H.out.2.2.1 (p := p) (by omega) (by rw [← HX.out]; exact hf) (by have := H.out.2.2.2.1; rw [HM.out] at this; exact this))
        have h2 := Lib.hid (H.out.1.setRow H.out.2.2.1 p 0)
        have h3 := Lib.hid (H.out.2.2.2.2.setCell (p := ⟨r, p, none⟩) (.inl rfl) (.int .u8 0))
        obtain ⟨e0, _, _⟩ := h2.out.cells
        obtain ⟨e1, _⟩ := h2.out.row (by rw [List.length_set]; exact H.out.2.2.1) (j := p) (by omega)
        rw [getD_set' D2 p p _ (by rw [H.out.2.2.1]; omega), if_pos rfl] at e1
        clear hf hz hp hp0
        go_wp2
        go_roundw
        case rel => exact ⟨D2.set p 0, p, rfl, by omega, h2.out, h1.out.1, h1.out.2.1, h1.out.2.2, h3.out⟩
        case measure => simp [intOf] <;> omega
      · have g1 : IntKind.u8.wrap (x + 1) = x + 1 := IntWalk.u8_in _ (by omega)
        have g2 : (x + 1 != 0) = true := by simp; omega
        have h1 := Lib.hid (carry_done (V := valL D + 1) H.out.2.1 H.out.2.2.1 (p := p) (by omega) (by rw [← HX.out]; omega) (by have := H.out.2.2.2.1; rw [HM.out] at this; exact this))
        have h2 := Lib.hid (H.out.1.setRow H.out.2.2.1 p (x + 1))
        have h3 := Lib.hid (H.out.2.2.2.2.setCell (p := ⟨r, p, none⟩) (.inl rfl) (.int .u8 (x + 1)))
        obtain ⟨e0, _, _⟩ := h2.out.cells
        obtain ⟨e1, _⟩ := h2.out.row (by rw [List.length_set]; exact H.out.2.2.1) (j := p) (by omega)
        rw [getD_set' D2 p p _ (by rw [H.out.2.2.1]; omega), if_pos rfl] at e1
        clear hf hz hp hp0
        go_wp2
        refine bodyPost_ret (v := .tuple #[]) (by simp [results, Try.results84]) rfl ⟨rfl, D2.set p (x + 1), ?_, ?_, ?_, ?_, ?_⟩
        · rw [← HK.out]; exact h2.out
        · rw [HX.out]; exact h1.out.1
        · rw [HX.out, ← HK.out]; exact h1.out.2.1
        · rw [HX.out]; exact h1.out.2.2
        · exact h3.out.mono fun j hj => by rw [hj]; rfl
end Go.Proofs.Ytdmafololcpamaa

/- What the functions of package rangeenc give: adding, scaling, putting. -/
namespace Go.Proofs.Ytdmafololcpamaa
open Go.RowKit
set_option linter.unusedVariables false

section
variable {w w' : World} {base g k : Nat} {v : Value} {n less : Int}
theorem EncR.lt (h : EncR w base g v n k less) : g < w.heap.size ∧ base ≤ g := by obtain ⟨D, last, h1, _⟩ := h; exact ⟨h1.lt, h1.2.2⟩
theorem EncR.own (h : EncR w base g v n k less) (r : Nat) (hr : v.ownBlock = some r) : r < w.heap.size ∧ base ≤ r ∧ r ≠ g := by obtain ⟨D, last, h1, _⟩ := h; exact h1.own r hr
theorem EncR.drewN (h : EncR w base g v n k less) (i : Nat) : EncR (w.drewN i) base g v n k less := h
theorem EncR.keeps {F : Nat → Prop} (h : EncR w base g v n k less) (hk : Keeps F w w') (h1 : ¬ F g) (h2 : ∀ r, v.ownBlock = some r → ¬ F r) : EncR w' base g v n k less := by
  obtain ⟨D, last, q1, q2⟩ := h
  exact ⟨D, last, q1.keeps hk h1 h2, q2⟩
theorem EncR.below (h : EncR w base g v n k less) (hk : Below w.heap.size w w') : EncR w' base g v n k less := h.keeps (F := fun _ => False) (.of_below hk) (fun c => c) (fun _ _ c => c)
theorem EncR.less_ (h : EncR w base g v n k less) : w.cell? ⟨g, 2, none⟩ = some (.int .u32 less) ∧ w.frozen? ⟨g, 2, none⟩ = false := by
  obtain ⟨D, last, h1, _⟩ := h; exact ⟨h1.cells.2.2, h1.fz.2.2⟩
theorem EncR.setLess (h : EncR w base g v n k less) (x : Int) : EncR (w.setCell ⟨g, 2, none⟩ (.int .u32 x)) base g v n k x := by
  obtain ⟨D, last, h1, h2⟩ := h; exact ⟨D, last, h1.setLess x, h2⟩
theorem EncR.bd (h : EncR w base g v n k less) : 0 ≤ n ∧ n < 4294967296 * P256 k := by
  obtain ⟨D, last, h1, h2, h3, h4, h5, h6⟩ := h
  obtain ⟨a, b⟩ := valL_lt h2
  rw [h3] at b
  omega
end
/-- What writing leaves. -/
def EncWr (base g : Nat) (v : Value) (n : Int) (k : Nat) (less : Int) (r : Value) (w : World) (x : Ending) (w' : World) : Prop :=
  x = .returned r ∧ ∃ v', EncR w' base g v' n k less ∧ Keeps (fun j => j = g ∨ v.ownBlock = some j) w w' ∧ (∀ j, v'.ownBlock = some j → v.ownBlock = some j ∨ w.heap.size ≤ j)

set_option maxRecDepth 100000 in
theorem rncAdd_any (base g : Nat) (v : Value) (n : Int) (k : Nat) (less x : Int) (w : World) (hE : EncR w base g v n k less) (x0 : 0 ≤ x) (x1 : x ≤ 4294967295) (hx : n + x < 4294967296 * P256 k) (hk : k ≤ 1000000) :
    Calls Try.prog 79 #[.pointer (some ⟨g, 0, none⟩), .int .u32 x] w (EncWr base g v (n + x) k less (.tuple #[]) w) := by
  obtain ⟨D, last, h1, h2, h3, h4, h5, h6⟩ := hE
  obtain ⟨c0, c1, c2⟩ := h1.cells
  obtain ⟨z0, z1, z2⟩ := h1.fz
  have H1 := Lib.hid h1
  have H2 := Lib.hid h2
  have H3 := Lib.hid h3
  have H6 := Lib.hid h6
  have HX := Lib.hid hx
  clear h1 h2 h3 h6 hx c2 z2 c0 z0
  by_cases hc : last + x ≤ 4294967295
  · have E2 := Lib.hid (H1.out.setLast (last + x))
    have K2 := Lib.hid ((Keeps.refl (fun j => j = g ∨ v.ownBlock = some j) w).setCell (p := ⟨g, 1, none⟩) (.inl (.inl rfl)) (.int .u32 (last + x)))
    go_enter Try.func79, Try.ntmps79
    go_wp2_with (go_at_call 83; ((with_reducible refine (add32_low last x _ h4 x0 hc).mono ?_)); rintro e w' ⟨rfl, rfl⟩)
    go_end0
    exact ⟨rfl, v, ⟨D, last + x, E2.out, H2.out, H3.out, by omega, hc, by rw [H6.out]; omega⟩, K2.out, fun j hj => .inl hj⟩
  · have E2 := Lib.hid (H1.out.setLast (last + x - 4294967296))
    have K2 := Lib.hid ((Keeps.refl (fun j => j = g ∨ v.ownBlock = some j) w).setCell (p := ⟨g, 1, none⟩) (.inl (.inl rfl)) (.int .u32 (last + x - 4294967296)))
    have HV : RowKit.Hid (valL D + 1 < P256 D.length) := by
      have a := HX.out
      have b := H6.out
      have := H3.out
      show _ < _
      rw [this]
      omega
    have hkl : D.length ≤ 1000000 := by rw [H3.out]; exact hk
    have HKL := Lib.hid hkl
    have hc2 : 4294967296 ≤ last + x := by omega
    clear hkl
    go_enter Try.func79, Try.ntmps79
    go_wp2_with (first | (go_at_call 83; ((with_reducible refine (add32_high last x _ h4 x0 h5 x1 hc2).mono ?_)); rintro e w' ⟨rfl, rfl⟩) | (go_at_call 84; go_loud (refine (rncCarry_any base g v D _ less _ E2.out H2.out HV.out HKL.out).mono ?_); rintro e w3 ⟨rfl, hp⟩; have HP := Lib.hid hp; clear hp))
    go_end0
    obtain ⟨D', q1, q2, q3, q4, q5⟩ := HP.out
    exact ⟨rfl, v, ⟨D', _, q1, q2, by rw [q3]; exact H3.out, by omega, by omega, by rw [q4, H6.out]; omega⟩, K2.out.trans (q5.mono fun j hj => .inr hj), fun j hj => .inl hj⟩

theorem info_u8e : (Try.prog.info? 5).map (fun i => (i.zero, i.size, i.bytes)) = some (some (.int .u8 0), 1, 1) := by kernel_rfl
set_option maxRecDepth 100000 in
theorem rncScale_any (base g : Nat) (v : Value) (n : Int) (k : Nat) (less : Int) (w : World) (hE : EncR w base g v n k less) (hk : k ≤ 1000000) :
    Calls Try.prog 80 #[.pointer (some ⟨g, 0, none⟩)] w (EncWr base g v (n * 256) (k + 1) less (.tuple #[]) w) := by
  obtain ⟨D, last, h1, h2, h3, h4, h5, h6⟩ := hE
  obtain ⟨c0, c1, c2⟩ := h1.cells
  obtain ⟨z0, z1, z2⟩ := h1.fz
  have H1 := Lib.hid h1
  have H2 := Lib.hid h2
  have H3 := Lib.hid h3
  have H6 := Lib.hid h6
  have hgl := h1.lt
  have hbg := h1.2.2
  have hne : v.ownBlock ≠ some g := fun c => (h1.own g c).2.2 rfl
  have hob : ∀ j, v.ownBlock = some j → base ≤ j := fun j hj => (h1.own j hj).2.1
  have HOB := Lib.hid hob
  obtain ⟨q, hq⟩ : ∃ q, q = last / 16777216 := ⟨_, rfl⟩
  have q0 : 0 ≤ q := by omega
  have q1 : q ≤ 255 := by omega
  have HQ := Lib.hid hq
  have hown : w.ownsRow base 5 1 v k (D.map (Value.int .u8)) := by have := h1.2.1; rw [h3] at this; exact this
  have hA := Lib.hid (World.ownsRow.alloc hown (.cells #[.int .u8 q] 5))
  obtain ⟨i0, hi, hzz, hz1, hz2⟩ := info_parts info_u8e
  have e1 : last / 16777216 = q := hq.symm
  have e2 : IntKind.u8.wrap q = q := IntWalk.u8_in _ (by omega)
  clear h1 h2 h3 h6 c2 z2 hob hown hq
  go_enter Try.func80, Try.ntmps80
  go_wp2
  go_region_law ((refine step_append_lies _ (by rfl) _ _ _ (by rfl) base 5 i0 (.int .u8 0) 1 1 Try.underlying23 hi hzz hz1 hz2 rfl (by decide) v k _ (by rfl) hA.out.drew ⟨w.heap.size, 0, none⟩ 1 1 [.int .u8 q] (by rfl) (by rfl) (World.news_of_block (cs := #[.int .u8 q]) (t := 5) (fr := (0, 0)) (heap_alloc_new w _)) (by simp [Value.oneCell']) (by omega) (by unfold maxLen; omega) (by omega) (by simp; omega) (w.heap.size + 1) (by simp) ?_; intro gg cp w2 hown hgrow hat hlt2; have c2 : w2.cell? ⟨g, 0, none⟩ = some v := (hgrow.cell_far ⟨g, 0, none⟩ (by simp; omega) (fun c => hne c.symm)).trans ((H1.out.1.alloc (.cells #[.int .u8 q] 5)).cell 0); have f2 : w2.frozen? ⟨g, 0, none⟩ = false := (hgrow.frozen_far ⟨g, 0, none⟩ (by simp; omega) (fun c => hne c.symm)).trans ((H1.out.1.alloc (.cells #[.int .u8 q] 5)).frozen 0)))
  all_goals
    have hc2 : Cel w2 g 58 #[v, .int .u32 last, .int .u32 less] := (H1.out.1.alloc (.cells #[.int .u8 q] 5)).keep (hgrow.block _ (by simp; omega) (fun c => hne c.symm))
    have hown2 : w2.ownsRow base 5 1 (.slice (some ⟨gg, 0, none⟩) (k + 1) cp) (D ++ [q]).length ((D ++ [q]).map (Value.int .u8)) := by
      have e : (D ++ [q]).length = k + 1 := by rw [List.length_append, H3.out]; rfl
      rw [e]; simpa using hown
    have hk2 : Keeps (fun j => j = g ∨ v.ownBlock = some j) w w2 := by
      have a := ((Keeps.refl (fun j => j = g ∨ v.ownBlock = some j) w).alloc (.cells #[.int .u8 q] 5)).drewN 1
      refine ⟨hgrow.os.trans a.os, hgrow.tape.trans a.tape, hgrow.output.trans a.output, Nat.le_trans a.size hgrow.size, fun i hi hn => ?_⟩
      exact (hgrow.block i (Nat.lt_of_lt_of_le hi a.size) (fun c => hn (.inr c.symm))).trans (a.block i hi hn)
    obtain ⟨w3, hw3⟩ : ∃ w3, w3 = w2.setCell ⟨g, 0, none⟩ (.slice (some ⟨gg, 0, none⟩) (k + 1) cp) := ⟨_, rfl⟩
    have H7 : RowKit.Hid (EncD w3 base g (.slice (some ⟨gg, 0, none⟩) (k + 1) cp) (D ++ [q]) last less ∧ Keeps (fun j => j = g ∨ v.ownBlock = some j) w w3) := by
      rw [hw3]
      refine ⟨⟨by simpa using hc2.set_ 0 (.slice (some ⟨gg, 0, none⟩) (k + 1) cp), ?_, hbg⟩, hk2.setCell (p := ⟨g, 0, none⟩) (.inl (.inl rfl)) _⟩
      exact own_far hown2 (fun j hj => own_ne_cel hown2 hc2 (by decide) j hj) _
    have HA : RowKit.Hid (v.ownBlock = some gg ∨ w.heap.size ≤ gg) := by
      rcases hat with h | h
      · exact .inl h
      · exact .inr (by omega)
    rw [← hw3]
    clear hw3 hc2 hown2 hown hgrow c2 f2 hat hlt2 c0 c1 z0 z1 hk2 hA e1 e2
    obtain ⟨c0, c1, c2⟩ := H7.out.1.cells
    obtain ⟨z0, z1, z2⟩ := H7.out.1.fz
    have H8 := Lib.hid (H7.out.1.setLast (last * 256 % 4294967296))
    have K8 := Lib.hid (H7.out.2.setCell (p := ⟨g, 1, none⟩) (.inl (.inl rfl)) (.int .u32 (last * 256 % 4294967296)))
    go_wp2
    go_end0
    refine ⟨rfl, _, ⟨D ++ [q], _, H8.out, H2.out.snoc q0 q1, by rw [List.length_append, H3.out]; rfl, by omega, by omega, ?_⟩, K8.out, fun j hj => ?_⟩
    · rw [valL_snoc, H6.out, HQ.out]; omega
    · have : gg = j := by simpa [Value.ownBlock] using hj
      rw [← this]; exact HA.out
end Go.Proofs.Ytdmafololcpamaa

/- What the functions of package rangeenc give: parts put; a new encoder; how many bytes there are at most. -/
namespace Go.Proofs.Ytdmafololcpamaa
open Go.RowKit
set_option linter.unusedVariables false

/-- A part, by value. -/
def partA (low own all : Int) : Value := .agg #[.int .u32 low, .int .u32 own, .int .u32 all]

theorem rncMay_yes (low own all : Int) (w : World) (h : OkP low own all) :
    Calls Try.prog 78 #[.agg #[.int .u32 low, .int .u32 own, .int .u32 all]] w fun e w' => e = .returned (.bool true) ∧ Below w.heap.size w w' := by
  obtain ⟨p1, p2, p3, p4, p5⟩ := h
  have HB := Lib.hid (Below.alloc_new w (.cells #[.int .u32 low, .int .u32 own, .int .u32 all] 111))
  have d1 : decide (1 ≤ all) = true := by simpa using p1
  have d2 : decide (all ≤ 8192) = true := by simpa using p2
  have d3 : decide (1 ≤ own) = true := by simpa using p3
  have d4 : decide (low ≤ all) = true := by simp; omega
  have d5 : decide (own ≤ all - low) = true := by simp; omega
  have d6 : IntKind.u32.wrap (all - low) = all - low := IntWalk.u32_in _ (by omega)
  go_enter Try.func78, Try.ntmps78
  go_wp2
  go_ret
  exact ⟨rfl, HB.out⟩
theorem rncMay_no (low own all : Int) (w : World) (l0 : 0 ≤ low) (l1 : low ≤ 4294967295) (o0 : 0 ≤ own) (o1 : own ≤ 4294967295) (a0 : 0 ≤ all) (a1 : all ≤ 4294967295) (h : ¬ OkP low own all) :
    Calls Try.prog 78 #[.agg #[.int .u32 low, .int .u32 own, .int .u32 all]] w fun e w' => e = .returned (.bool false) ∧ Below w.heap.size w w' := by
  have HB := Lib.hid (Below.alloc_new w (.cells #[.int .u32 low, .int .u32 own, .int .u32 all] 111))
  by_cases p1 : 1 ≤ all
  · have d1 : decide (1 ≤ all) = true := by simpa using p1
    by_cases p2 : all ≤ 8192
    · have d2 : decide (all ≤ 8192) = true := by simpa using p2
      by_cases p3 : 1 ≤ own
      · have d3 : decide (1 ≤ own) = true := by simpa using p3
        by_cases p4 : low ≤ all
        · have d4 : decide (low ≤ all) = true := by simpa using p4
          have d5 : decide (own ≤ all - low) = false := by
            simp
            rcases Int.lt_or_le (all - low) own with h5 | h5
            · omega
            · exact absurd ⟨p1, p2, p3, l0, by omega⟩ h
          have d6 : IntKind.u32.wrap (all - low) = all - low := IntWalk.u32_in _ (by omega)
          clear h
          go_enter Try.func78, Try.ntmps78
          go_wp2
          go_ret
          exact ⟨rfl, HB.out⟩
        · have d4 : decide (low ≤ all) = false := by simpa using p4
          clear h
          go_enter Try.func78, Try.ntmps78
          go_wp2
          go_ret
          exact ⟨rfl, HB.out⟩
      · have d3 : decide (1 ≤ own) = false := by simpa using p3
        clear h
        go_enter Try.func78, Try.ntmps78
        go_wp2
        go_ret
        exact ⟨rfl, HB.out⟩
    · have d2 : decide (all ≤ 8192) = false := by simpa using p2
      clear h
      go_enter Try.func78, Try.ntmps78
      go_wp2
      go_ret
      exact ⟨rfl, HB.out⟩
  · have d1 : decide (1 ≤ all) = false := by simpa using p1
    clear h
    go_enter Try.func78, Try.ntmps78
    go_wp2
    go_ret
    exact ⟨rfl, HB.out⟩

/-- Block g is an encoder in the state e. -/
def EncAt (w : World) (base g : Nat) (v : Value) (e : EncS) : Prop := EncR w base g v e.n e.k (4294967295 - e.s)
/-- What putting leaves. -/
def PutPost (base g : Nat) (v : Value) (f : EncS) (r : Value) (w : World) (x : Ending) (w' : World) : Prop :=
  x = .returned r ∧ ∃ v', EncAt w' base g v' f ∧ Keeps (fun j => j = g ∨ v.ownBlock = some j) w w' ∧ (∀ j, v'.ownBlock = some j → v.ownBlock = some j ∨ w.heap.size ≤ j)

theorem rncNew_any (w : World) :
    Calls Try.prog 10 #[] w fun e w' => e = .returned (.pointer (some ⟨w.heap.size, 0, none⟩)) ∧ EncAt w' w.heap.size w.heap.size (.slice none 0 0) encNew ∧ Below w.heap.size w w' := by
  have HC := Lib.hid (Cel.new w 58 #[.slice none 0 0, .int .u32 0, .int .u32 0])
  have HB := Lib.hid (Below.alloc_new w (.cells #[.slice none 0 0, .int .u32 0, .int .u32 0] 58))
  have HO := Lib.hid (World.ownsRow_nil (w.alloc (.cells #[.slice none 0 0, .int .u32 0, .int .u32 0] 58)) w.heap.size 5 1)
  go_enter Try.func10, Try.ntmps10
  go_wp2
  go_ret
  exact ⟨rfl, ⟨[], 0, ⟨HC.out, HO.out, Nat.le_refl _⟩, isDig_nil, rfl, by omega, by omega, rfl⟩, HB.out⟩
theorem rncLen_nil (w : World) :
    Calls Try.prog 38 #[.pointer none] w fun e w' => e = .returned (.int .i64 0) ∧ w = w' := by
  go_enter Try.func38, Try.ntmps38
  go_wp2
  go_ret
  exact ⟨rfl, rfl⟩
theorem rncLen_any (base g : Nat) (v : Value) (n : Int) (k : Nat) (less : Int) (w : World) (h : EncR w base g v n k less) (hk : k ≤ 1000000) :
    Calls Try.prog 38 #[.pointer (some ⟨g, 0, none⟩)] w fun e w' => e = .returned (.int .i64 ((k : Int) + 4)) ∧ w = w' := by
  obtain ⟨D, last, h1, h2, h3, h4, h5, h6⟩ := h
  obtain ⟨c0, _, _⟩ := h1.cells
  have ho := h1.2.1
  rw [h3] at ho
  obtain ⟨a, c, rfl⟩ := own_form ho
  clear h1 h2 h3 h4 h5 h6 ho
  go_enter Try.func38, Try.ntmps38
  go_wp2
  go_ret
  exact ⟨rfl, rfl⟩

theorem rncPut_nil (low own all : Int) (w : World) :
    Calls Try.prog 70 #[.pointer none, .agg #[.int .u32 low, .int .u32 own, .int .u32 all]] w fun e w' => e = .returned (.int .i64 1) ∧ Below w.heap.size w w' := by
  have HB := Lib.hid (Below.alloc_new w (.cells #[.int .u32 low, .int .u32 own, .int .u32 all] 111))
  go_enter Try.func70, Try.ntmps70
  go_wp2
  go_ret
  exact ⟨rfl, HB.out⟩
theorem rncPut_no (g : Nat) (low own all : Int) (w : World) (l0 : 0 ≤ low) (l1 : low ≤ 4294967295) (o0 : 0 ≤ own) (o1 : own ≤ 4294967295) (a0 : 0 ≤ all) (a1 : all ≤ 4294967295) (h : ¬ OkP low own all) :
    Calls Try.prog 70 #[.pointer (some ⟨g, 0, none⟩), .agg #[.int .u32 low, .int .u32 own, .int .u32 all]] w fun e w' => e = .returned (.int .i64 1) ∧ Below w.heap.size w w' := by
  have HB := Lib.hid (Below.alloc_new w (.cells #[.int .u32 low, .int .u32 own, .int .u32 all] 111))
  have H := Lib.hid h
  clear h
  go_enter Try.func70, Try.ntmps70
  go_wp2_with (go_at_call 78; ((with_reducible refine (rncMay_no low own all _ l0 l1 o0 o1 a0 a1 H.out).mono ?_)); rintro e w2 ⟨rfl, hb⟩; replace HB := Lib.hid (HB.out.trans (hb.mono HB.out.size)); clear hb)
  go_ret
  exact ⟨rfl, HB.out⟩
end Go.Proofs.Ytdmafololcpamaa

/- What the functions of package rangeenc give: a part that may be is put. -/
namespace Go.Proofs.Ytdmafololcpamaa
open Go.RowKit
set_option linter.unusedVariables false

theorem u32_not06 {c : Int} (h0 : 0 ≤ c) (h1 : c ≤ 4294967295) : bits .xor .u32 IntKind.u32.max c = 4294967295 - c := by
  obtain ⟨m, rfl⟩ : ∃ m : Nat, c = m := ⟨c.toNat, by omega⟩
  have a := u32_xor_nat 4294967295 m (by decide) (by omega)
  refine Eq.trans a ?_
  have e : 4294967295 ^^^ m = 4294967295 - m := by
    apply Nat.eq_of_testBit_eq
    intro i
    have s := Nat.testBit_two_pow_sub_succ (n := 32) (x := m) (by omega) i
    rw [show 2 ^ 32 - (m + 1) = 4294967295 - m by omega] at s
    rw [s, Nat.testBit_xor, show (4294967295 : Nat) = 2 ^ 32 - 1 by rfl, Nat.testBit_two_pow_sub_one]
    by_cases hi : i < 32
    · simp [hi]
    · have : m.testBit i = false := Nat.testBit_lt_two_pow (Nat.lt_of_lt_of_le (show m < 2 ^ 32 by omega) (Nat.pow_le_pow_right (by decide) (by omega)))
      simp [hi, this]
  rw [e]; omega

set_option maxRecDepth 100000 in
theorem rncPut_any (base g : Nat) (v : Value) (e : EncS) (low own all : Int) (w : World) (hE : EncAt w base g v e) (hG : GoodE e) (hP : OkP low own all) (hk : e.k ≤ 900000) :
    Calls Try.prog 70 #[.pointer (some ⟨g, 0, none⟩), .agg #[.int .u32 low, .int .u32 own, .int .u32 all]] w (PutPost base g v (encPut e low own all) (.int .i64 0) w) := by
  obtain ⟨s0, s1, n0, n1⟩ := hG
  obtain ⟨p1, p2, p3, p4, p5⟩ := hP
  obtain ⟨E0, E1, E2⟩ := each_bd s0 s1 p1 p2
  have HP : RowKit.Hid (OkP low own all) := ⟨p1, p2, p3, p4, p5⟩
  have HG : RowKit.Hid (GoodE e) := ⟨s0, s1, n0, n1⟩
  have HE : RowKit.Hid (EncR w base g v e.n e.k (4294967295 - e.s)) := hE
  have HL := Lib.hid HE.out.lt
  have HOw : RowKit.Hid (∀ r, v.ownBlock = some r → r < w.heap.size ∧ base ≤ r ∧ r ≠ g) := fun r hr => HE.out.own r hr
  clear hE
  have HPre := Lib.hid (encPre_bd HG.out HP.out)
  have a2 : 0 ≤ e.s / all * low := Int.mul_nonneg (by omega) p4
  have a3 : e.s / all * (low + own) ≤ e.s / all * all := Int.mul_le_mul_of_nonneg_left p5 (by omega)
  have a4 : e.s / all * 1 ≤ e.s / all * own := Int.mul_le_mul_of_nonneg_left p3 (by omega)
  rw [Int.mul_add] at a3
  have hput : encPut e low own all = scaleE (encPre e low own all) := rfl
  rw [hput]
  clear hput
  have HN : RowKit.Hid ((encPre e low own all).n = e.n + e.s / all * low ∧ (encPre e low own all).s = e.s / all * own ∧ (encPre e low own all).k = e.k) := ⟨rfl, rfl, rfl⟩
  generalize encPre e low own all = pre at HN HPre ⊢
  obtain ⟨E, hEE⟩ : ∃ E, e.s / all = E := ⟨_, rfl⟩
  rw [hEE] at a2 a3 a4 E0 E1 E2 HN
  obtain ⟨A, hA⟩ : ∃ A, E * low = A := ⟨_, rfl⟩
  obtain ⟨O, hO⟩ : ∃ O, E * own = O := ⟨_, rfl⟩
  rw [hA] at a2 a3 HN
  rw [hO] at a3 a4 HN
  have O0 : 2048 ≤ O := by omega
  have O1 : O ≤ 4294967295 := by omega
  have HAdd : RowKit.Hid (e.n + A < 4294967296 * P256 e.k) := by
    have a := HPre.out
    have b := HN.out
    have c := HG.out.2.2.2
    show _ < _
    omega
  have hnot : bits .xor .u32 (if IntKind.u32.signed = true then -1 else IntKind.u32.max) (4294967295 - e.s) = e.s := by
    show bits .xor .u32 IntKind.u32.max (4294967295 - e.s) = e.s
    rw [u32_not06 (by omega) (by omega)]; omega
  have hall : ¬ all = 0 := by omega
  have HC0 := Lib.hid (Cel.new w 111 #[.int .u32 low, .int .u32 own, .int .u32 all])
  have HB0 := Lib.hid (Below.alloc_new w (.cells #[.int .u32 low, .int .u32 own, .int .u32 all] 111))
  have HE0 := Lib.hid (HE.out.below HB0.out)
  obtain ⟨S, hS⟩ : ∃ S, e.s = S := ⟨_, rfl⟩
  rw [hS] at hnot hEE s0 s1 HE HE0
  have hEE' : S.tdiv all = E := by rw [Int.tdiv_eq_ediv_of_nonneg (by omega)]; exact hEE
  have A1 : A ≤ 4294967295 := by omega
  have HSS := Lib.hid hS
  have hk1 : e.k ≤ 1000000 := by omega
  clear hS hEE p4 p5 a3 a4 E2
  go_enter Try.func70, Try.ntmps70
  go_wp2_with (first | (go_at_call 78; go_loud (refine (rncMay_yes low own all _ HP.out).mono ?_); rintro e1 w1 ⟨rfl, hb⟩; have HB1 := Lib.hid (HB0.out.trans (hb.mono HB0.out.size)); have HE1 := Lib.hid (HE0.out.below hb); have HC1 := Lib.hid (HC0.out.below hb); obtain ⟨ls1, lf1⟩ := HE1.out.less_; have q0 := HC1.out.cell 0; have q2 := HC1.out.cell 2; simp only [List.getElem?_toArray, List.getElem?_cons_zero, List.getElem?_cons_succ] at q0 q2; clear hb) | (go_at_call 79; go_loud (with_reducible refine (rncAdd_any base g v e.n e.k _ A _ HE1.out a2 A1 HAdd.out hk1).mono ?_); rintro e2 w2 ⟨rfl, hp⟩; obtain ⟨v2, hr2, hkp2, ho2⟩ := hp; have HE2 := Lib.hid hr2; have HK2 := Lib.hid hkp2; have HO2 := Lib.hid ho2; have HC2 := Lib.hid (HC1.out.keeps hkp2 (by intro c; rcases c with c | c; have := HL.out.1; omega; have := (HOw.out _ c).1; omega)); have q1 := HC2.out.cell 1; simp only [List.getElem?_toArray, List.getElem?_cons_zero, List.getElem?_cons_succ] at q1; clear hr2 hkp2 ho2))
  clear hnot ls1 lf1 q0 q2
  go_loopw [5] (fun s wr => ∃ (st : EncS) (v3 : Value), s = .int .u32 st.s ∧ 2048 ≤ st.s ∧ st.s ≤ 4294967295 ∧ st.k ≤ e.k + 2 ∧ (e.k + 1 ≤ st.k → 524288 ≤ st.s) ∧ (e.k + 2 ≤ st.k → 16777216 ≤ st.s) ∧ RowKit.Hid (scaleE st = scaleE pre ∧ EncR wr base g v3 st.n st.k (4294967295 - S) ∧ Keeps (fun j => j = g ∨ v.ownBlock = some j) w wr ∧ (∀ j, v3.ownBlock = some j → v.ownBlock = some j ∨ w.heap.size ≤ j))) (fun s _ => (16777216 - intOf s).toNat)
  case atStart =>
    have st1 := HN.out
    refine ⟨pre, v2, by rw [st1.2.1], by omega, by omega, by omega, by omega, by omega, rfl, ?_, ?_, ?_⟩
    · rw [st1.1, st1.2.2]; exact HE2.out
    · exact (Keeps.of_below HB1.out).trans HK2.out
    · intro j hj
      rcases HO2.out j hj with h | h
      · exact .inl h
      · have := HB1.out.size; exact .inr (by omega)
  case round =>
    obtain ⟨st, v3, rfl, b0, b1, b2, b3, b4, H⟩ := hrel
    clear HC2 HE2 HK2 HO2 HC1 HE1
    by_cases hlt : st.s < 16777216
    · have S1 := Lib.hid (scaleE_step (e := st) (by omega) hlt)
      have hk1' : st.k ≤ 1000000 := by omega
      go_wp2_with (go_at_call 80; ((with_reducible refine (rncScale_any base g v3 st.n st.k _ _ H.out.2.1 hk1').mono ?_)); rintro e4 w4 ⟨rfl, hp⟩; have HP4 := Lib.hid hp; clear hp)
      go_roundw
      case rel =>
        obtain ⟨v4, u1, u2, u3⟩ := HP4.out
        refine ⟨⟨st.n * 256, st.s * 256, st.k + 1⟩, v4, rfl, by simp only; omega, by simp only; omega, by simp only; omega, by simp only; omega, by simp only; omega, S1.out.symm.trans H.out.1, u1, H.out.2.2.1.then_ u2 ?_, ?_⟩
        · rintro j (hj | hj)
          · exact .inl (.inl hj)
          · rcases H.out.2.2.2 j hj with h | h
            · exact .inl (.inr h)
            · exact .inr h
        · intro j hj
          rcases u3 j hj with h | h
          · exact H.out.2.2.2 j h
          · have := H.out.2.2.1.size; exact .inr (by omega)
      case measure => simp [intOf] <;> omega
    · have Z : RowKit.Hid (scaleE pre = st) := by rw [← H.out.1]; exact scaleE_end (by omega)
      have hn2 : bits .xor .u32 (if IntKind.u32.signed = true then -1 else IntKind.u32.max) st.s = 4294967295 - st.s := u32_not06 (by omega) (by omega)
      obtain ⟨m2, z2⟩ := H.out.2.1.less_
      have E5 := Lib.hid (H.out.2.1.setLess (4294967295 - st.s))
      have K5 := Lib.hid (H.out.2.2.1.setCell (p := ⟨g, 2, none⟩) (.inl (.inl rfl)) (.int .u32 (4294967295 - st.s)))
      go_wp2
      go_ret
      exact ⟨rfl, v3, by rw [Z.out]; exact E5.out, K5.out, H.out.2.2.2⟩
end Go.Proofs.Ytdmafololcpamaa

/- What the functions of package rangeenc give: bits. -/
namespace Go.Proofs.Ytdmafololcpamaa
open Go.RowKit
set_option linter.unusedVariables false

theorem rncBits_nil (n : Int) (wide : Int) (w : World) :
    Calls Try.prog 55 #[.pointer none, .int .u32 n, .int .i64 wide] w fun e w' => e = .returned (.int .i64 1) ∧ w = w' := by
  go_enter Try.func55, Try.ntmps55
  go_wp2
  go_ret
  exact ⟨rfl, rfl⟩
theorem rncBits_far (g : Nat) (n : Int) (wide : Int) (w : World) (h : wide < 0 ∨ 24 < wide) :
    Calls Try.prog 55 #[.pointer (some ⟨g, 0, none⟩), .int .u32 n, .int .i64 wide] w fun e w' => e = .returned (.int .i64 1) ∧ w = w' := by
  rcases h with h | h
  · have hd : decide (wide < 0) = true := by simpa using h
    go_enter Try.func55, Try.ntmps55
    go_wp2
    go_ret
    exact ⟨rfl, rfl⟩
  · have hd : decide (wide < 0) = false := by simp; omega
    have hd2 : decide (24 < wide) = true := by simpa using h
    go_enter Try.func55, Try.ntmps55
    go_wp2
    go_ret
    exact ⟨rfl, rfl⟩
theorem pow_P2 (k : Nat) : (2 : Int) ^ k = P2 k := rfl
theorem u32_mask {n : Int} {k : Nat} (n0 : 0 ≤ n) (n1 : n ≤ 4294967295) (hk : k ≤ 31) : bits .and .u32 n (P2 k - 1) = n % P2 k := by
  obtain ⟨m, rfl⟩ : ∃ m : Nat, n = m := ⟨n.toNat, by omega⟩
  have p := P2_pos k
  have q := P2_mono (a := k) (b := 31) hk
  rw [show P2 31 = 2147483648 by decide] at q
  have e : P2 k = ((2 ^ k : Nat) : Int) := by unfold P2; rw [Int.natCast_pow]; rfl
  have e2 : P2 k - 1 = ((2 ^ k - 1 : Nat) : Int) := by
    rw [e] at p ⊢
    omega
  have h2 : 2 ^ k - 1 < 4294967296 := by
    rw [e] at q
    omega
  rw [e2, u32_and_nat m (2 ^ k - 1) (by omega) h2, Nat.and_two_pow_sub_one_eq_mod, e, Int.natCast_emod]
theorem encBits_mod (e : EncS) (n : Int) {k : Nat} (hk : k ≤ 12) : encBits e (n % P2 k) k = encBits e n k := by
  by_cases h : k = 0
  · subst h; rfl
  · rw [encBits_low _ _ (by omega) hk, encBits_low _ _ (by omega) hk, Int.emod_emod]
theorem rncBits_over (g : Nat) (n : Int) (wide : Nat) (w : World) (n0 : 0 ≤ n) (n1 : n ≤ 4294967295) (hw : wide ≤ 24) (h : P2 wide ≤ n) :
    Calls Try.prog 55 #[.pointer (some ⟨g, 0, none⟩), .int .u32 n, .int .i64 wide] w fun e w' => e = .returned (.int .i64 1) ∧ w = w' := by
  have hd : decide ((wide : Int) < 0) = false := by simp <;> omega
  have hd2 : decide (24 < (wide : Int)) = false := by simp; omega
  have hq : (n / 2 ^ wide != 0) = true := by
    rw [pow_P2]
    have p := P2_pos wide
    have : 1 ≤ n / P2 wide := by rw [Int.le_ediv_iff_mul_le (by omega)]; omega
    simp; omega
  go_enter Try.func55, Try.ntmps55
  go_wp2
  go_ret
  exact ⟨rfl, rfl⟩
set_option maxRecDepth 100000 in
theorem rncBits_any (base g : Nat) (v : Value) (e : EncS) (n : Int) (wide : Nat) (w : World) (hE : EncAt w base g v e) (hG : GoodE e) (n0 : 0 ≤ n) (n1 : n ≤ 4294967295) (hw : wide ≤ 24) (h : n < P2 wide) (hk : e.k ≤ 800000) :
    Calls Try.prog 55 #[.pointer (some ⟨g, 0, none⟩), .int .u32 n, .int .i64 wide] w (PutPost base g v (encBits e n wide) (.int .i64 0) w) := by
  have hd : decide ((wide : Int) < 0) = false := by simp <;> omega
  have hd2 : decide (24 < (wide : Int)) = false := by simp; omega
  have hq : n / 2 ^ wide = 0 := by rw [pow_P2]; exact Int.ediv_eq_zero_of_lt n0 h
  have HE := Lib.hid hE
  have HG := Lib.hid hG
  clear hE hG
  go_enter Try.func55, Try.ntmps55
  go_wp2
  clear hd hd2 hq
  go_loopw [1, 2, 7] (fun m d _ wr => ∃ (q : Nat) (n2 : Int) (f : EncS) (v2 : Value), q ≤ wide ∧ d = .int .i64 q ∧ m = .int .u32 n2 ∧ 0 ≤ n2 ∧ n2 ≤ 4294967295 ∧ n2 < P2 q ∧ f.k ≤ e.k + 3 * (wide - q) ∧ RowKit.Hid (encBits f n2 q = encBits e n wide ∧ GoodE f ∧ EncAt wr base g v2 f ∧ Keeps (fun j => j = g ∨ v.ownBlock = some j) w wr ∧ (∀ j, v2.ownBlock = some j → v.ownBlock = some j ∨ w.heap.size ≤ j))) (fun _ d _ _ => (intOf d).toNat)
  case atStart => exact ⟨wide, n, e, v, Nat.le_refl _, rfl, rfl, n0, n1, h, by omega, rfl, HG.out, HE.out, Keeps.refl _ _, fun j hj => .inl hj⟩
  case round =>
    obtain ⟨q, n2, f, v2, hq, rfl, rfl, m0, m1, m2, hf, H⟩ := hrel
    clear HE
    by_cases hlt : 0 < q
    · by_cases hq12 : 12 < q
      · obtain ⟨lo, hlo⟩ : ∃ lo, q = lo + 12 := ⟨q - 12, by omega⟩
        subst hlo
        obtain ⟨s1, s2, s3, s4, s5⟩ := H.out
        have HM : RowKit.Hid (EncAt wr.drew base g v2 f) := s3
        have HGf := Lib.hid s2
        have pl := P2_pos lo
        have p12 : P2 (lo + 12) = P2 lo * 4096 := by unfold P2; rw [Int.pow_add]; rfl
        have x0 : 0 ≤ n2 / 2 ^ lo := by rw [pow_P2]; exact Int.ediv_nonneg m0 (by omega)
        have x1 : n2 / 2 ^ lo < 4096 := by rw [pow_P2, Int.ediv_lt_iff_lt_mul (by omega), Int.mul_comm, ← p12]; exact m2
        have xe : n2 / P2 lo % 4096 = n2 / 2 ^ lo := by rw [← pow_P2, Int.emod_eq_of_lt x0 x1]
        have HOk : RowKit.Hid (OkP (n2 / 2 ^ lo) 1 4096) := ⟨by decide, by decide, by decide, x0, by omega⟩
        have HEq : RowKit.Hid (encBits (encPut f (n2 / 2 ^ lo) 1 4096) (n2 % P2 lo) lo = encBits e n wide) := by
          show _ = _
          rw [encBits_mod _ _ (by omega), ← s1, encBits_high f n2 hq12 (by omega), show lo + 12 - 12 = lo by omega, xe]
        have hk1 : f.k ≤ 900000 := by omega
        obtain ⟨y0, y1⟩ := bit_part n2 (k := lo)
        have ylt : P2 lo ≤ 4096 := by have := P2_mono (a := lo) (b := 12) (by omega); rw [show P2 12 = 4096 by decide] at this; exact this
        have hmask : bits .and .u32 n2 ((2 ^ lo - 1) % 4294967296) = n2 % P2 lo := by
          rw [show (2 : Int) ^ lo - 1 = P2 lo - 1 from rfl, Int.emod_eq_of_lt (by omega) (by omega)]; exact u32_mask m0 m1 (by omega)
        have h4096 : IntKind.u32.wrap 4096 = 4096 := by decide
        clear p12 xe x0 x1
        go_wp2
        go_still_tail 7, (by kernel_rfl)
        repeat still_step
        change wpList _ _ _ _ _ wr.drew
        go_wp2_with (go_at_call 70; ((with_reducible refine (rncPut_any base g v2 f (n2 / 2 ^ lo) 1 4096 _ HM.out HGf.out HOk.out hk1).mono ?_)); rintro e5 w5 ⟨rfl, hpost⟩; have HP5 := Lib.hid hpost; clear hpost)
        go_roundw
        case rel =>
          obtain ⟨v5, u1, u2, u3⟩ := HP5.out
          have hk2 := encPut_k f (n2 / 2 ^ lo) 1 4096
          refine ⟨lo, n2 % P2 lo, encPut f (n2 / 2 ^ lo) 1 4096, v5, by omega, rfl, rfl, y0, by omega, y1, by omega, HEq.out, encPut_good HGf.out HOk.out, u1, (s4.drewN 1).then_ u2 ?_, ?_⟩
          · rintro j (hj | hj)
            · exact .inl (.inl hj)
            · rcases s5 j hj with h | h
              · exact .inl (.inr h)
              · exact .inr h
          · intro j hj
            rcases u3 j hj with h | h
            · exact s5 j h
            · have := s4.size
              have h' : wr.heap.size ≤ j := h
              exact .inr (by omega)
        case measure => simp [intOf] <;> omega
      · obtain ⟨s1, s2, s3, s4, s5⟩ := H.out
        have HM : RowKit.Hid (EncAt wr.drew base g v2 f) := s3
        have HGf := Lib.hid s2
        have pl := P2_pos q
        have ql := P2_mono (a := q) (b := 12) (by omega)
        rw [show P2 12 = 4096 by decide] at ql
        have HOk : RowKit.Hid (OkP n2 1 (P2 q)) := okP_bit (by omega) m0 m2
        have HEq : RowKit.Hid (encPut f n2 1 (P2 q) = encBits e n wide) := by
          show _ = _
          rw [← s1, encBits_low f n2 hlt (by omega), Int.emod_eq_of_lt m0 m2]
        have hk1 : f.k ≤ 900000 := by omega
        have hpq : IntKind.u32.wrap (2 ^ q) = P2 q := IntWalk.u32_in _ (by rw [pow_P2]; omega)
        have hmin : min (q : Int) 12 = q := by omega
        have hm0 : bits .and .u32 n2 0 = 0 := by
          have := u32_mask (k := 0) m0 m1 (by omega)
          rw [show P2 0 - 1 = 0 by decide, show P2 0 = 1 by decide] at this
          rw [this]; omega
        clear ql
        go_wp2
        go_still_tail 7, (by kernel_rfl)
        repeat still_step
        change wpList _ _ _ _ _ wr.drew
        go_wp2_with (go_at_call 70; ((with_reducible refine (rncPut_any base g v2 f n2 1 (P2 q) _ HM.out HGf.out HOk.out hk1).mono ?_)); rintro e5 w5 ⟨rfl, hpost⟩; have HP5 := Lib.hid hpost; clear hpost)
        go_roundw
        case rel =>
          obtain ⟨v5, u1, u2, u3⟩ := HP5.out
          have hk2 := encPut_k f n2 1 (P2 q)
          refine ⟨0, 0, encPut f n2 1 (P2 q), v5, by omega, rfl, rfl, by omega, by omega, by decide, by omega, HEq.out, encPut_good HGf.out HOk.out, u1, (s4.drewN 1).then_ u2 ?_, ?_⟩
          · rintro j (hj | hj)
            · exact .inl (.inl hj)
            · rcases s5 j hj with h | h
              · exact .inl (.inr h)
              · exact .inr h
          · intro j hj
            rcases u3 j hj with h | h
            · exact s5 j h
            · have := s4.size
              have h' : wr.heap.size ≤ j := h
              exact .inr (by omega)
        case measure => simp [intOf] <;> omega
    · obtain rfl : q = 0 := by omega
      go_wp2
      go_ret
      obtain ⟨h1, h2, h3, h4, h5⟩ := H.out
      rw [encBits_zero] at h1
      subst h1
      exact ⟨rfl, v2, h3, h4, h5⟩
end Go.Proofs.Ytdmafololcpamaa

/- What the document's Fixed of layer 5 gives. -/
namespace Go.Proofs.Ytdmafololcpamaa
open Go.RowKit
set_option linter.unusedVariables false

end Go.Proofs.Ytdmafololcpamaa

/- The walks of the statements of layer 5, by the contracts of the functions that they call. -/
namespace Go.Proofs.Ytdmafololcpamaa
open Go.RowKit
set_option linter.unusedVariables false

theorem modNew_at (n : Nat) (i : Int) (w : World) (hi : i = n) (h0 : 1 ≤ n) (h1 : n ≤ 64) :
    Calls Try.prog 50 #[.int .i64 i] w fun e w' => ∃ g, e = .returned (.tuple #[.pointer (some ⟨g, 0, none⟩), .int .i64 0]) ∧ w.heap.size ≤ g ∧ ModAt w' g (List.replicate n 1) false ∧ Below w.heap.size w w' := by
  subst hi; exact modNew_any n w h0 h1
theorem modLearn_at (g : Nat) (l : List Int) (s : Nat) (i : Int) (w : World) (hi : i = s) (h : ModAt w g l false) (hG : GoodL l) (hs : s < l.length) :
    Calls Try.prog 71 #[.pointer (some ⟨g, 0, none⟩), .int .i64 i] w fun e w' => e = .returned (.int .i64 0) ∧ ModAt w' g (learnP l s) false ∧ Keeps (fun k => k = g) w w' := by
  subst hi; exact modLearn_any g l s w h hG hs
theorem modPart_at (g : Nat) (l : List Int) (fx : Bool) (s : Nat) (i : Int) (v : Value) (w : World) (hi : i = s) (h : ModAt w g l fx) (hG : GoodL l) (hs : s < l.length) (hv : partV l s = v) :
    Calls Try.prog 69 #[.pointer (some ⟨g, 0, none⟩), .int .i64 i] w fun e w' => e = .returned (.tuple #[v, .int .i64 0]) ∧ Below w.heap.size w w' := by
  subst hi; subst hv; exact modPart_any g l fx s w h hG hs
theorem modFind_at (g : Nat) (l : List Int) (fx : Bool) (at' : Int) (i : Nat) (w : World) (h : ModAt w g l fx) (hG : GoodL l) (hv : findP l at' = i) :
    Calls Try.prog 72 #[.pointer (some ⟨g, 0, none⟩), .int .u32 at'] w fun e w' => e = .returned (.int .i64 i) ∧ ∃ n, w' = w.drewN n := by
  subst hv; exact modFind_any g l fx at' w h hG
theorem refFind_at (base g r : Nat) (l : List Int) (fx : Bool) (at' : Int) (i : Nat) (w : World) (hR : RefMod w base g r l fx) (hG : GoodL l) (hv : findP l at' = i) :
    Calls Try.prog 66 #[.pointer (some ⟨g, 0, none⟩), .int .i64 at'] w fun e w' => e = .returned (.int .i64 i) ∧ w = w' := by
  subst hv; exact refFind_any base g r l fx at' w hR hG.1 hG.2.1 (fun j hj => by have := hG.own hj; omega)

/-! ### The same parts -/
end Go.Proofs.Ytdmafololcpamaa

/- What the functions of package rangeenc give: a model's symbol, the bytes. -/
namespace Go.Proofs.Ytdmafololcpamaa
open Go.RowKit
set_option linter.unusedVariables false

theorem cel_ne {w : World} {g m : Nat} {t u : TypeId} {cs ds : Array Value} (h : Cel w g t cs) (k : Cel w m u ds) (hne : t ≠ u) : g ≠ m := by
  rintro rfl
  unfold Cel at h k
  rw [h] at k
  injection k with k
  injection k with _ k
  exact hne k
theorem EncAt.ne_mod {w : World} {base g m : Nat} {v : Value} {e : EncS} {l : List Int} {fx : Bool} (h : EncAt w base g v e) (k : ModAt w m l fx) : m ≠ g ∧ v.ownBlock ≠ some m := by
  obtain ⟨D, last, q1, q2⟩ := h
  exact ⟨cel_ne k.2 q1.1 (by decide), fun c => own_ne_cel q1.2.1 k.2 (by decide) m c rfl⟩
section
variable {w w' : World} {base g : Nat} {v : Value} {e : EncS}
theorem EncAt.below (h : EncAt w base g v e) (hk : Below w.heap.size w w') : EncAt w' base g v e := EncR.below h hk
theorem EncAt.keeps {F : Nat → Prop} (h : EncAt w base g v e) (hk : Keeps F w w') (h1 : ¬ F g) (h2 : ∀ r, v.ownBlock = some r → ¬ F r) : EncAt w' base g v e := EncR.keeps h hk h1 h2
theorem EncAt.drewN (h : EncAt w base g v e) (n : Nat) : EncAt (w.drewN n) base g v e := h
theorem EncAt.lt (h : EncAt w base g v e) : g < w.heap.size ∧ base ≤ g := EncR.lt h
theorem EncAt.own (h : EncAt w base g v e) (r : Nat) (hr : v.ownBlock = some r) : r < w.heap.size ∧ base ≤ r ∧ r ≠ g := EncR.own h r hr
end
/-- What a symbol's putting leaves. -/
def SymPostP (base g : Nat) (v : Value) (mg : Nat) (f : EncS) (l : List Int) (fx : Bool) (w : World) (x : Ending) (w' : World) : Prop :=
  x = .returned (.int .i64 0) ∧ ∃ v', EncAt w' base g v' f ∧ ModAt w' mg l fx ∧ Keeps (fun j => j = g ∨ v.ownBlock = some j ∨ j = mg) w w' ∧ (∀ j, v'.ownBlock = some j → v.ownBlock = some j ∨ w.heap.size ≤ j)

set_option maxRecDepth 100000 in
theorem rncSymbol_any (base g : Nat) (v : Value) (mg : Nat) (e : EncS) (l : List Int) (fx : Bool) (s : Nat) (w : World) (hE : EncAt w base g v e) (hM : ModAt w mg l fx) (hG : GoodE e) (hL : GoodL l) (hs : s < l.length) (hk : e.k ≤ 800000) :
    Calls Try.prog 54 #[.pointer (some ⟨g, 0, none⟩), .pointer (some ⟨mg, 0, none⟩), .int .i64 s] w (SymPostP base g v mg (encSym e l s) (nextL l fx s) fx w) := by
  have HNe := Lib.hid (hE.ne_mod hM)
  have HE := Lib.hid hE
  have HM := Lib.hid hM
  have HG := Lib.hid hG
  have HL := Lib.hid hL
  have HOk := Lib.hid (okP_sym hL hs)
  have HS : RowKit.Hid (encSym e l s = encPut e (sumN l s) (l.getD s 0) l.sum) := rfl
  have HV : RowKit.Hid (partV l s = .agg #[.int .u32 (sumN l s), .int .u32 (l.getD s 0), .int .u32 l.sum]) := rfl
  have hk1 : e.k ≤ 900000 := by omega
  have hgl := HE.out.lt.1
  have hml := HM.out.lt
  have HOw : RowKit.Hid (∀ r, v.ownBlock = some r → r < w.heap.size ∧ base ≤ r ∧ r ≠ g) := fun r hr => HE.out.own r hr
  rw [HS.out]
  clear hE hM hG hL HS
  generalize l.getD s 0 = x at HOk HV ⊢
  generalize l.sum = t at HOk HV ⊢
  generalize sumN l s = y at HOk HV ⊢
  cases fx with
  | true =>
    go_enter Try.func54, Try.ntmps54
    go_wp2_with (first | (go_at_call 69; go_loud (refine (modPart_at mg l true s _ _ _ rfl HM.out HL.out hs HV.out).mono ?_); rintro e1 w1 ⟨rfl, hb⟩; have HB1 := Lib.hid (hb.trans ((Below.alloc_new w1 (.cells #[.int .u32 y, .int .u32 x, .int .u32 t] 111)).mono hb.size)); have HE1 := Lib.hid (HE.out.below HB1.out); have HM1 := Lib.hid (HM.out.below HB1.out); clear hb) | (go_at_call 70; go_loud (with_reducible refine (rncPut_any base g v e y x t _ HE1.out HG.out HOk.out hk1).mono ?_); rintro e2 w2 ⟨rfl, hp⟩; obtain ⟨v2, p1, p2, p3⟩ := hp; have HP2 := Lib.hid p1; have HK2 := Lib.hid p2; have HO2 := Lib.hid p3; have HM2 := Lib.hid (HM1.out.keeps p2 (by intro c; rcases c with c | c; exact HNe.out.1 c; exact HNe.out.2 c)); clear p1 p2 p3) | (go_at_call 71; go_loud (with_reducible refine (modLearn_fixed mg l s _ HM2.out hs).mono ?_); rintro e3 w3 ⟨rfl, n3, rfl⟩))
    go_ret
    refine ⟨rfl, v2, HP2.out.drewN n3, HM2.out.drewN n3, (((Keeps.of_below HB1.out).trans (HK2.out.mono ?_)).drewN n3), fun j hj => ?_⟩
    · rintro j (h | h)
      · exact .inl h
      · exact .inr (.inl h)
    · rcases HO2.out j hj with h | h
      · exact .inl h
      · have := HB1.out.size; exact .inr (by omega)
  | false =>
    go_enter Try.func54, Try.ntmps54
    go_wp2_with (first | (go_at_call 69; go_loud (refine (modPart_at mg l false s _ _ _ rfl HM.out HL.out hs HV.out).mono ?_); rintro e1 w1 ⟨rfl, hb⟩; have HB1 := Lib.hid (hb.trans ((Below.alloc_new w1 (.cells #[.int .u32 y, .int .u32 x, .int .u32 t] 111)).mono hb.size)); have HE1 := Lib.hid (HE.out.below HB1.out); have HM1 := Lib.hid (HM.out.below HB1.out); clear hb) | (go_at_call 70; go_loud (with_reducible refine (rncPut_any base g v e y x t _ HE1.out HG.out HOk.out hk1).mono ?_); rintro e2 w2 ⟨rfl, hp⟩; obtain ⟨v2, p1, p2, p3⟩ := hp; have HP2 := Lib.hid p1; have HK2 := Lib.hid p2; have HO2 := Lib.hid p3; have HM2 := Lib.hid (HM1.out.keeps p2 (by intro c; rcases c with c | c; exact HNe.out.1 c; exact HNe.out.2 c)); clear p1 p2 p3) | (go_at_call 71; go_loud (with_reducible refine (modLearn_any mg l s _ HM2.out HL.out hs).mono ?_); rintro e3 w3 ⟨rfl, hm, hk3⟩; have HM3 := Lib.hid hm; have HK3 := Lib.hid hk3; clear hm hk3))
    go_ret
    have hnew : ∀ j, v2.ownBlock = some j → j ≠ mg := by
      intro j hj
      rcases HO2.out j hj with h | h
      · rintro rfl; exact HNe.out.2 h
      · have := HB1.out.size; omega
    refine ⟨rfl, v2, HP2.out.keeps HK3.out (fun c => HNe.out.1 c.symm) (fun r hr => hnew r hr), HM3.out, ((Keeps.of_below HB1.out).trans (HK2.out.mono ?_)).trans (HK3.out.mono fun j hj => .inr (.inr hj)), fun j hj => ?_⟩
    · rintro j (h | h)
      · exact .inl h
      · exact .inr (.inl h)
    · rcases HO2.out j hj with h | h
      · exact .inl h
      · have := HB1.out.size; exact .inr (by omega)
end Go.Proofs.Ytdmafololcpamaa

/- What the functions of package rangedec give: a model's symbol. -/
namespace Go.Proofs.Ytdmafololcpamaa
open Go.RowKit
set_option linter.unusedVariables false

theorem DrcAt.ne_mod {w : World} {base g m : Nat} {v : Value} {b : List Int} {d : DecS} {l : List Int} {fx : Bool} (h : DrcAt w base g v b d) (k : ModAt w m l fx) : m ≠ g ∧ v.ownBlock ≠ some m :=
  ⟨cel_ne k.2 h.2.1 (by decide), fun c => own_ne_cel h.2.2.1 k.2 (by decide) m c rfl⟩
def DrcSymPost (base g : Nat) (v : Value) (b : List Int) (mg : Nat) (s : Nat) (d : DecS) (l : List Int) (w : World) (x : Ending) (w' : World) : Prop :=
  x = .returned (.tuple #[.int .i64 s, .int .i64 0]) ∧ DrcAt w' base g v b d ∧ ModAt w' mg l false ∧ Keeps (fun j => j = g ∨ j = mg) w w'

set_option maxHeartbeats 400000 in
set_option maxRecDepth 100000 in
theorem drcSymbol_any (base g : Nat) (v : Value) (b : List Int) (d : DecS) (mg : Nat) (l : List Int) (w : World) (hD : DrcAt w base g v b d) (hM : ModAt w mg l false) (hb : ∀ j, 0 ≤ byteF b j ∧ byteF b j ≤ 255) (hbl : b.length ≤ 1000000) (hi : d.i ≤ 5000000) (hG : GoodD d) (hL : GoodL l) :
    Calls Try.prog 64 #[.pointer (some ⟨g, 0, none⟩), .pointer (some ⟨mg, 0, none⟩)] w (DrcSymPost base g v b mg (decWhich d l) (decSym b d l) (learnP l (decWhich d l)) w) := by
  have HNe := Lib.hid (hD.ne_mod hM)
  have HD := Lib.hid hD
  have HM := Lib.hid hM
  have HG := Lib.hid hG
  have HL := Lib.hid hL
  have HBy := Lib.hid hb
  obtain ⟨v1, v2, v3, v4⟩ := decWhich_is hG hL
  have HWl := Lib.hid v2
  have HW : RowKit.Hid (findP l (decAt d l.sum) = decWhich d l) := rfl
  have HOk := Lib.hid (okP_sym hL v1)
  have HS : RowKit.Hid (decSym b d l = decTake (byteF b) d (sumN l (decWhich d l)) (l.getD (decWhich d l) 0) l.sum) := rfl
  rw [HS.out]
  have h0 : 0 < l.length := hL.1
  have hgl := hD.lt.1
  have hml := hM.lt
  have HOw : RowKit.Hid (∀ r, v.ownBlock = some r → r < w.heap.size ∧ base ≤ r ∧ r ≠ g) := fun r hr => HD.out.own r hr
  have HV0 : RowKit.Hid (partV l 0 = .agg #[.int .u32 (sumN l 0), .int .u32 (l.getD 0 0), .int .u32 l.sum]) := rfl
  have HVs : RowKit.Hid (partV l (decWhich d l) = .agg #[.int .u32 (sumN l (decWhich d l)), .int .u32 (l.getD (decWhich d l) 0), .int .u32 l.sum]) := rfl
  have H00 : RowKit.Hid ((0 : Int) = ((0 : Nat) : Int)) := rfl
  clear hD hM hb hG hL v2 HS
  generalize hs : decWhich d l = s at v1 HWl HW HOk HVs ⊢
  clear hs
  generalize l.getD s 0 = x at HOk HVs ⊢
  generalize l.getD 0 0 = x0 at HV0
  generalize l.sum = t at HOk HV0 HVs HW HWl v3 v4 ⊢
  generalize sumN l s = y at HOk HWl HVs ⊢
  generalize sumN l 0 = y0 at HV0
  go_enter Try.func64, Try.ntmps64
  go_wp2_with (first
    | (go_at_call 69; have hq := HF3.out.1; go_loud (with_reducible refine (modPart_at mg l false s _ _ _ rfl (HS2.out.2.1.drewN _) HL.out v1 HVs.out).mono ?_); rintro e4 w4 ⟨rfl, hb4⟩; have HS4 : RowKit.Hid (DrcAt w4 base g v b d ∧ ModAt w4 mg l false ∧ Cel w4 w1.heap.size 111 #[.int .u32 y0, .int .u32 x0, .int .u32 t] ∧ Below w.heap.size w w4) := ⟨(HS2.out.1.drewN n3).below hb4, (HS2.out.2.1.drewN n3).below hb4, (HS2.out.2.2.1.drewN n3).below hb4, (Below.drewN' HS2.out.2.2.2 n3).trans (hb4.mono (Below.drewN' HS2.out.2.2.2 n3).size)⟩; have q4 := HS4.out.2.2.1; have p0 := q4.cell 0; have p1 := q4.cell 1; have p2 := q4.cell 2; have f0 := q4.frozen 0; have f1 := q4.frozen 1; have f2 := q4.frozen 2; simp only [List.getElem?_toArray, List.getElem?_cons_zero, List.getElem?_cons_succ] at p0 p1 p2; have k5 : Keeps (fun j => j = w1.heap.size) w4 (((w4.setCell ⟨w1.heap.size, 0, none⟩ (.int .u32 y)).setCell ⟨w1.heap.size, 1, none⟩ (.int .u32 x)).setCell ⟨w1.heap.size, 2, none⟩ (.int .u32 t)) := Keeps.setCell (F := fun j => j = w1.heap.size) (p := ⟨w1.heap.size, 2, none⟩) (Keeps.setCell (F := fun j => j = w1.heap.size) (p := ⟨w1.heap.size, 1, none⟩) (Keeps.setCell (F := fun j => j = w1.heap.size) (p := ⟨w1.heap.size, 0, none⟩) (Keeps.refl _ _) (.inl rfl) _) (.inl rfl) _) (.inl rfl) _; have HS5 : RowKit.Hid (DrcAt (((w4.setCell ⟨w1.heap.size, 0, none⟩ (.int .u32 y)).setCell ⟨w1.heap.size, 1, none⟩ (.int .u32 x)).setCell ⟨w1.heap.size, 2, none⟩ (.int .u32 t)) base g v b d ∧ ModAt (((w4.setCell ⟨w1.heap.size, 0, none⟩ (.int .u32 y)).setCell ⟨w1.heap.size, 1, none⟩ (.int .u32 x)).setCell ⟨w1.heap.size, 2, none⟩ (.int .u32 t)) mg l false ∧ Below w.heap.size w (((w4.setCell ⟨w1.heap.size, 0, none⟩ (.int .u32 y)).setCell ⟨w1.heap.size, 1, none⟩ (.int .u32 x)).setCell ⟨w1.heap.size, 2, none⟩ (.int .u32 t))) := ⟨HS4.out.1.keeps k5 (by omega) (by intro r hr c; have := (HOw.out r hr).1; omega), HS4.out.2.1.keeps k5 (by omega), HS4.out.2.2.2.trans (k5.below HS4.out.2.2.2.size (by intro j hj; omega))⟩; clear q4 k5; clear hb4 hq)
    | (go_at_call 69; go_loud (with_reducible refine (modPart_at mg l false 0 0 _ _ H00.out HM.out HL.out h0 HV0.out).mono ?_); rintro e1 w1 ⟨rfl, hb⟩; have hb2 := hb.alloc hb.size (.cells #[.int .u32 y0, .int .u32 x0, .int .u32 t] 111); have HS2 : RowKit.Hid (DrcAt (w1.alloc (.cells #[.int .u32 y0, .int .u32 x0, .int .u32 t] 111)) base g v b d ∧ ModAt (w1.alloc (.cells #[.int .u32 y0, .int .u32 x0, .int .u32 t] 111)) mg l false ∧ Cel (w1.alloc (.cells #[.int .u32 y0, .int .u32 x0, .int .u32 t] 111)) w1.heap.size 111 #[.int .u32 y0, .int .u32 x0, .int .u32 t] ∧ Below w.heap.size w (w1.alloc (.cells #[.int .u32 y0, .int .u32 x0, .int .u32 t] 111))) := ⟨HD.out.below hb2, HM.out.below hb2, Cel.new _ _ _, hb2⟩; have hsz1 := hb.size; clear hb hb2)
    | (go_at_call 73; go_loud (with_reducible refine (drcLies_any base g v b d t _ HS2.out.1 HG.out v3 v4).mono ?_); rintro e2 w2 ⟨rfl, rfl⟩)
    | (go_at_call 72; go_loud (with_reducible refine (modFind_at mg l false _ s _ HS2.out.2.1 HL.out HW.out).mono ?_); rintro e3 w3 ⟨rfl, n3, rfl⟩; have HF3 := Lib.hid (show 0 < l.length ∧ mg < w.heap.size from ⟨h0, hml⟩))
    | (go_at_call 74; go_loud (with_reducible refine (drcTake_any base g v b d y x t _ HS5.out.1 HBy.out hbl hi HG.out HOk.out HWl.out).mono ?_); rintro e5 w5 ⟨rfl, hm, hk⟩; have HD5 := Lib.hid hm; have HK5 := Lib.hid hk; have HM5 := Lib.hid (HS5.out.2.1.keeps hk HNe.out.1); clear hm hk)
    | (go_at_call 71; go_loud (with_reducible refine (modLearn_any mg l s _ HM5.out HL.out v1).mono ?_); rintro e6 w6 ⟨rfl, hm, hk⟩; have HM6 := Lib.hid hm; have HK6 := Lib.hid hk; clear hm hk))
  refine bodyPost_ret (v := .tuple #[.int .i64 s, .int .i64 0]) (by simp [results, Try.results64, go_sem]) rfl ?_
  refine ⟨rfl, HD5.out.keeps HK6.out (fun c => HNe.out.1 c.symm) (fun r hr c => HNe.out.2 (c ▸ hr)), HM6.out, ((Keeps.of_below HS5.out.2.2).trans (HK5.out.mono fun j hj => .inl hj)).trans (HK6.out.mono fun j hj => .inr hj)⟩
theorem drcSymbol_nil (q : Option Addr) (w : World) :
    Calls Try.prog 64 #[.pointer none, .pointer q] w fun e w' => e = .returned (.tuple #[.int .i64 0, .int .i64 1]) ∧ w = w' := by
  go_enter Try.func64, Try.ntmps64
  go_wp2
  exact bodyPost_ret (v := .tuple #[.int .i64 0, .int .i64 1]) (by simp [results, Try.results64, go_sem]) rfl ⟨rfl, rfl⟩
theorem drcSymbol_none (p : Addr) (w : World) :
    Calls Try.prog 64 #[.pointer (some p), .pointer none] w fun e w' => e = .returned (.tuple #[.int .i64 0, .int .i64 1]) ∧ Below w.heap.size w w' := by
  have HZ : RowKit.Hid (partZ = .agg #[.int .u32 0, .int .u32 0, .int .u32 0]) := rfl
  go_enter Try.func64, Try.ntmps64
  go_wp2_with (go_at_call 69; go_loud (refine (modPart_nil _ _).mono ?_); rintro e4 w4 ⟨rfl, hb⟩; rw [HZ.out]; have HB := Lib.hid (hb.alloc hb.size (.cells #[.int .u32 0, .int .u32 0, .int .u32 0] 111)); clear hb)
  exact bodyPost_ret (v := .tuple #[.int .i64 0, .int .i64 1]) (by simp [results, Try.results64, go_sem]) rfl ⟨rfl, HB.out⟩
end Go.Proofs.Ytdmafololcpamaa

/- What the functions of package rangedec give: bits. -/
namespace Go.Proofs.Ytdmafololcpamaa
open Go.RowKit
set_option linter.unusedVariables false

theorem drcBits_nil (wide : Int) (w : World) :
    Calls Try.prog 65 #[.pointer none, .int .i64 wide] w fun e w' => e = .returned (.tuple #[.int .u32 0, .int .i64 1]) ∧ w = w' := by
  go_enter Try.func65, Try.ntmps65
  go_wp2
  exact bodyPost_ret (v := .tuple #[.int .u32 0, .int .i64 1]) (by simp [results, Try.results65, go_sem]) rfl ⟨rfl, rfl⟩
theorem drcBits_far (g : Nat) (wide : Int) (w : World) (h : wide < 0 ∨ 24 < wide) :
    Calls Try.prog 65 #[.pointer (some ⟨g, 0, none⟩), .int .i64 wide] w fun e w' => e = .returned (.tuple #[.int .u32 0, .int .i64 1]) ∧ w = w' := by
  rcases h with h | h
  · have d1 : decide (wide < 0) = true := by simpa using h
    go_enter Try.func65, Try.ntmps65
    go_wp2
    exact bodyPost_ret (v := .tuple #[.int .u32 0, .int .i64 1]) (by simp [results, Try.results65, go_sem]) rfl ⟨rfl, rfl⟩
  · have d1 : decide (wide < 0) = false := by simp; omega
    have d2 : decide (24 < wide) = true := by simpa using h
    go_enter Try.func65, Try.ntmps65
    go_wp2
    exact bodyPost_ret (v := .tuple #[.int .u32 0, .int .i64 1]) (by simp [results, Try.results65, go_sem]) rfl ⟨rfl, rfl⟩
def DrcBitsPost (base g : Nat) (v : Value) (b : List Int) (n : Int) (d : DecS) (w : World) (x : Ending) (w' : World) : Prop :=
  x = .returned (.tuple #[.int .u32 n, .int .i64 0]) ∧ DrcAt w' base g v b d ∧ Keeps (fun j => j = g) w w'

set_option maxHeartbeats 1000000 in
set_option maxRecDepth 100000 in
theorem drcBits_any (base g : Nat) (v : Value) (b : List Int) (d : DecS) (wide : Nat) (w : World) (hD : DrcAt w base g v b d) (hb : ∀ j, 0 ≤ byteF b j ∧ byteF b j ≤ 255) (hbl : b.length ≤ 1000000) (hi : d.i ≤ 4000000) (hG : GoodD d) (hw : wide ≤ 24) :
    Calls Try.prog 65 #[.pointer (some ⟨g, 0, none⟩), .int .i64 wide] w (DrcBitsPost base g v b (decBits b d 0 wide).1 (decBits b d 0 wide).2 w) := by
  have hd : decide ((wide : Int) < 0) = false := by simp <;> omega
  have hd2 : decide (24 < (wide : Int)) = false := by simp; omega
  have HBy := Lib.hid hb
  obtain ⟨R, hR⟩ : ∃ R, R = decBits b d 0 wide := ⟨_, rfl⟩
  rw [← hR]
  have H0 : RowKit.Hid (decBits b d 0 wide = R ∧ GoodD d ∧ DrcAt w base g v b d ∧ Keeps (fun j => j = g) w w ∧ (0 : Int) < P2 (wide - wide)) := ⟨hR.symm, hG, hD, Keeps.refl _ _, by rw [Nat.sub_self]; decide⟩
  clear hD hG hb hR
  go_enter Try.func65, Try.ntmps65
  go_wp2
  clear hd hd2
  go_loopw [1, 6, 7, 8] (fun q n _ _ wr => ∃ (k : Nat) (f : DecS) (m : Int), k ≤ wide ∧ q = .int .i64 k ∧ n = .int .u32 m ∧ 0 ≤ m ∧ f.i ≤ d.i + 3 * (wide - k) ∧ RowKit.Hid (decBits b f m k = R ∧ GoodD f ∧ DrcAt wr base g v b f ∧ Keeps (fun j => j = g) w wr ∧ m < P2 (wide - k))) (fun q _ _ _ _ => (intOf q).toNat)
  case atStart => exact ⟨wide, d, 0, by omega, rfl, rfl, by omega, by omega, H0.out⟩
  case round =>
    obtain ⟨k, f, m, hk, rfl, rfl, hm0, hfi, H⟩ := hrel
    clear H0
    obtain ⟨u1, u2, u3, u4, u5⟩ := H.out
    have HM := Lib.hid u3
    have HGf := Lib.hid u2
    by_cases hlt : 0 < k
    · by_cases hq12 : 12 < k
      · obtain ⟨lo, hlo⟩ : ∃ lo, k = lo + 12 := ⟨k - 12, by omega⟩
        subst hlo
        have hm1 : m ≤ 4095 := by
          have := P2_mono (a := wide - (lo + 12)) (b := 12) (by omega)
          rw [show P2 12 = 4096 by decide] at this
          omega
        obtain ⟨a0, a1, a2⟩ := decAt_bd HGf.out (show (1 : Int) ≤ 4096 by decide) (by decide)
        have HOk : RowKit.Hid (OkP (decAt f 4096) 1 4096) := ⟨by decide, by decide, by decide, a0, by omega⟩
        have HLow := Lib.hid a2
        have HE : RowKit.Hid (decBits b f m (lo + 12) = decBits b (decTake (byteF b) f (decAt f 4096) 1 4096) (m * 4096 + decAt f 4096) lo) := by
          have := decBits_high b f m hq12 (by omega)
          rw [Nat.add_sub_cancel] at this; exact this
        have HT := Lib.hid (decTake_good HBy.out HGf.out HOk.out HLow.out).1
        have HI := Lib.hid (decTake_i (byteF b) f (decAt f 4096) 1 4096)
        have hq5 := u5
        clear a2 u1 u2 u3 u4 u5
        have HP : RowKit.Hid (m * 4096 + decAt f 4096 < P2 (wide - lo)) := by
          show _ < _
          rw [show wide - lo = (wide - (lo + 12)) + 12 by omega, P2_add, show P2 12 = 4096 by decide]; omega
        have HTk : RowKit.Hid (∀ w2, DrcAt w2 base g v b f → Calls Try.prog 74 #[.pointer (some ⟨g, 0, none⟩), .agg #[.int .u32 (decAt f 4096), .int .u32 1, .int .u32 4096]] w2 (DrcPost base g v b (decTake (byteF b) f (decAt f 4096) 1 4096) w2)) :=
          fun w2 h2 => drcTake_any base g v b f _ 1 4096 w2 h2 HBy.out hbl (by omega) HGf.out HOk.out HLow.out
        have HLi : RowKit.Hid (∀ w2, DrcAt w2 base g v b f → Calls Try.prog 73 #[.pointer (some ⟨g, 0, none⟩), .int .u32 4096] w2 fun x w' => x = .returned (.int .u32 (decAt f 4096)) ∧ w2 = w') :=
          fun w2 h2 => drcLies_any base g v b f 4096 w2 h2 HGf.out (by decide) (by decide)
        generalize decTake (byteF b) f (decAt f 4096) 1 4096 = f2 at HE HT HI HTk
        generalize decAt f 4096 = x at a0 a1 HE HI HP HTk HLi HOk HLow
        have hor : bits .or .u32 (m * 4096) x = m * 4096 + x := u32_or_low (k := 12) hm0 a0 (show x < 4096 by omega) (show m * 4096 + 4096 ≤ 4294967296 by omega)
        have f1 : IntKind.u32.wrap (m * 4096) = m * 4096 := IntWalk.u32_in _ (by omega)
        have f2_ : IntKind.u32.wrap 4096 = 4096 := by decide
        clear HOk HLow
        go_wp2_with (first
          | (go_at_call 73; go_loud (with_reducible refine (HLi.out _ HM.out).mono ?_); rintro e2 w2 ⟨rfl, rfl⟩)
          | (go_at_call 74; go_loud (with_reducible refine (HTk.out _ HM.out).mono ?_); rintro e5 w5 ⟨rfl, hm, hk⟩; have HM5 := Lib.hid hm; have HK5 := Lib.hid hk; clear hm hk))
        go_roundw
        case rel => exact ⟨lo, f2, m * 4096 + x, by omega, rfl, rfl, by omega, by have := HI.out; omega, HE.out.symm.trans H.out.1, HT.out, HM5.out, H.out.2.2.2.1.trans HK5.out, HP.out⟩
        case measure => simp [intOf] <;> omega
      · have pk := P2_pos k
        have qk := P2_mono (a := k) (b := 12) (by omega)
        rw [show P2 12 = 4096 by decide] at qk
        have hm1 : m * P2 k + P2 k ≤ 16777216 := by
          have h1 : (m + 1) * P2 k ≤ P2 (wide - k) * P2 k := Int.mul_le_mul_of_nonneg_right (by omega) (by omega)
          rw [← P2_add, show wide - k + k = wide by omega, Int.add_mul, Int.one_mul] at h1
          have := P2_mono (a := wide) (b := 24) hw
          rw [show P2 24 = 16777216 by decide] at this
          omega
        have hm2 : 0 ≤ m * P2 k := Int.mul_nonneg hm0 (by omega)
        obtain ⟨a0, a1, a2⟩ := decAt_bd HGf.out (show 1 ≤ P2 k by omega) (show P2 k ≤ 8192 by omega)
        have HOk : RowKit.Hid (OkP (decAt f (P2 k)) 1 (P2 k)) := ⟨by omega, by omega, by decide, a0, by omega⟩
        have HLow := Lib.hid a2
        have HE : RowKit.Hid (decBits b f m k = (m * P2 k + decAt f (P2 k), decTake (byteF b) f (decAt f (P2 k)) 1 (P2 k))) := decBits_low b f m hlt (by omega)
        have HT := Lib.hid (decTake_good HBy.out HGf.out HOk.out HLow.out).1
        have HI := Lib.hid (decTake_i (byteF b) f (decAt f (P2 k)) 1 (P2 k))
        have hq5 := u5
        clear a2 u1 u2 u3 u4 u5
        have HP : RowKit.Hid (m * P2 k + decAt f (P2 k) < P2 wide) := by
          show _ < _
          have h1 : (m + 1) * P2 k ≤ P2 (wide - k) * P2 k := Int.mul_le_mul_of_nonneg_right (by omega) (by omega)
          rw [← P2_add, show wide - k + k = wide by omega, Int.add_mul, Int.one_mul] at h1
          omega
        have HTk : RowKit.Hid (∀ w2, DrcAt w2 base g v b f → Calls Try.prog 74 #[.pointer (some ⟨g, 0, none⟩), .agg #[.int .u32 (decAt f (P2 k)), .int .u32 1, .int .u32 (P2 k)]] w2 (DrcPost base g v b (decTake (byteF b) f (decAt f (P2 k)) 1 (P2 k)) w2)) :=
          fun w2 h2 => drcTake_any base g v b f _ 1 _ w2 h2 HBy.out hbl (by omega) HGf.out HOk.out HLow.out
        have HLi : RowKit.Hid (∀ w2, DrcAt w2 base g v b f → Calls Try.prog 73 #[.pointer (some ⟨g, 0, none⟩), .int .u32 (P2 k)] w2 fun x w' => x = .returned (.int .u32 (decAt f (P2 k))) ∧ w2 = w') :=
          fun w2 h2 => drcLies_any base g v b f _ w2 h2 HGf.out (by omega) (by omega)
        generalize decTake (byteF b) f (decAt f (P2 k)) 1 (P2 k) = f2 at HE HT HI HTk
        generalize decAt f (P2 k) = x at a0 a1 HE HI HP HTk HLi HOk HLow
        have hor : bits .or .u32 (m * P2 k) x = m * P2 k + x := u32_or_low hm0 a0 a1 (by omega)
        have hpq : IntKind.u32.wrap (2 ^ k) = P2 k := IntWalk.u32_in _ (by rw [pow_P2]; omega)
        have hpm : IntKind.u32.wrap (m * 2 ^ k) = m * P2 k := IntWalk.u32_in _ (by rw [pow_P2]; omega)
        have hmin : min (k : Int) 12 = k := by omega
        clear HOk HLow
        go_wp2_with (first
          | (go_at_call 73; go_loud (with_reducible refine (HLi.out _ HM.out).mono ?_); rintro e2 w2 ⟨rfl, rfl⟩)
          | (go_at_call 74; go_loud (with_reducible refine (HTk.out _ HM.out).mono ?_); rintro e5 w5 ⟨rfl, hm, hk⟩; have HM5 := Lib.hid hm; have HK5 := Lib.hid hk; clear hm hk))
        go_roundw
        case rel => exact ⟨0, f2, m * P2 k + x, by omega, rfl, rfl, by omega, by have := HI.out; omega, by rw [decBits_zero]; exact HE.out.symm.trans H.out.1, HT.out, HM5.out, H.out.2.2.2.1.trans HK5.out, HP.out⟩
        case measure => simp [intOf] <;> omega
    · obtain rfl : k = 0 := by omega
      go_wp2
      rw [decBits_zero] at u1
      subst u1
      exact bodyPost_ret (v := .tuple #[.int .u32 m, .int .i64 0]) (by simp [results, Try.results65, go_sem]) rfl ⟨rfl, u3, u4⟩
end Go.Proofs.Ytdmafololcpamaa

/- What the functions of package rangeenc give: symbols that there aren't, the bytes. -/
namespace Go.Proofs.Ytdmafololcpamaa
open Go.RowKit
set_option linter.unusedVariables false

set_option maxRecDepth 100000 in
theorem rncSymbol_out (p : Option Addr) (mg : Nat) (l : List Int) (fx : Bool) (s : Int) (w : World) (hM : ModAt w mg l fx) (hs : ¬ (0 ≤ s ∧ s < l.length)) :
    Calls Try.prog 54 #[.pointer p, .pointer (some ⟨mg, 0, none⟩), .int .i64 s] w fun e w' => e = .returned (.int .i64 1) ∧ Below w.heap.size w w' := by
  have HZ : RowKit.Hid (partZ = .agg #[.int .u32 0, .int .u32 0, .int .u32 0]) := rfl
  have HM := Lib.hid hM
  have HS := Lib.hid hs
  clear hM hs
  go_enter Try.func54, Try.ntmps54
  go_wp2_with (go_at_call 69; go_loud (refine (modPart_out mg l fx s _ HM.out HS.out).mono ?_); rintro e1 w1 ⟨rfl, hb⟩; rw [HZ.out]; have HB1 := Lib.hid (hb.trans ((Below.alloc_new w1 (.cells #[.int .u32 0, .int .u32 0, .int .u32 0] 111)).mono hb.size)); clear hb)
  go_ret
  exact ⟨rfl, HB1.out⟩
set_option maxRecDepth 100000 in
theorem rncSymbol_none (p : Option Addr) (s : Int) (w : World) :
    Calls Try.prog 54 #[.pointer p, .pointer none, .int .i64 s] w fun e w' => e = .returned (.int .i64 1) ∧ Below w.heap.size w w' := by
  have HZ : RowKit.Hid (partZ = .agg #[.int .u32 0, .int .u32 0, .int .u32 0]) := rfl
  go_enter Try.func54, Try.ntmps54
  go_wp2_with (go_at_call 69; go_loud (refine (modPart_nil s _).mono ?_); rintro e1 w1 ⟨rfl, hb⟩; rw [HZ.out]; have HB1 := Lib.hid (hb.trans ((Below.alloc_new w1 (.cells #[.int .u32 0, .int .u32 0, .int .u32 0] 111)).mono hb.size)); clear hb)
  go_ret
  exact ⟨rfl, HB1.out⟩
set_option maxRecDepth 100000 in
theorem rncSymbol_nil (mg : Nat) (l : List Int) (fx : Bool) (s : Int) (w : World) (hM : ModAt w mg l fx) (hL : GoodL l) :
    Calls Try.prog 54 #[.pointer none, .pointer (some ⟨mg, 0, none⟩), .int .i64 s] w fun e w' => e = .returned (.int .i64 1) ∧ Below w.heap.size w w' := by
  by_cases hs : 0 ≤ s ∧ s < l.length
  · obtain ⟨k, hk⟩ : ∃ k : Nat, s = k := ⟨s.toNat, by omega⟩
    subst hk
    have hk : k < l.length := by omega
    have HV : RowKit.Hid (partV l k = .agg #[.int .u32 (sumN l k), .int .u32 (l.getD k 0), .int .u32 l.sum]) := rfl
    have HM := Lib.hid hM
    have HL := Lib.hid hL
    clear hM hL hs
    generalize l.getD k 0 = x at HV
    generalize l.sum = t at HV
    generalize sumN l k = y at HV
    go_enter Try.func54, Try.ntmps54
    go_wp2_with (first | (go_at_call 69; go_loud (refine (modPart_at mg l fx k _ _ _ rfl HM.out HL.out hk HV.out).mono ?_); rintro e1 w1 ⟨rfl, hb⟩; have HB1 := Lib.hid (hb.trans ((Below.alloc_new w1 (.cells #[.int .u32 y, .int .u32 x, .int .u32 t] 111)).mono hb.size)); clear hb) | (go_at_call 70; go_loud (with_reducible refine (rncPut_nil y x t _).mono ?_); rintro e2 w2 ⟨rfl, hb⟩; have HB2 := Lib.hid (HB1.out.trans (hb.mono HB1.out.size)); clear hb))
    go_ret
    exact ⟨rfl, HB2.out⟩
  · exact rncSymbol_out none mg l fx s w hM hs

theorem make_empty {P : Program} {t e : TypeId} {k : IntKind} {b : Nat} (ht : P.underlying t = some (.slice e)) (hi : (P.info? e).map (fun i => (i.zero, i.size, i.bytes)) = some (some (.int k 0), 1, b))
    (n : Int) (c : Nat) (hn0 : n = c) (hb : b * c ≤ 281474976710656) (hn : c ≤ 9223372036854775807) (w : World) :
    (Instr.makeSlice t (.int .i64 0) (.int .i64 n)).run P w = .ok (.slice (some ⟨w.heap.size, 0, none⟩) 0 c) (w.alloc (.cells (madeCells #[.int k 0] c) e)) := by
  subst hn0
  obtain ⟨i, h1, h2, h3, h4⟩ := info_parts hi
  have hb' : (i.bytes : Int) * (c : Int) ≤ 281474976710656 := by
    have h : ((i.bytes * c : Nat) : Int) ≤ 281474976710656 := by rw [h4]; omega
    rwa [Int.natCast_mul] at h
  have hr := run_make (P := P) w t e i (.int k 0) ht h1 h2 .i64 .i64 0 c (by omega) (by omega) hb' (by omega)
  rw [hr, h3]
  simp [Value.cells]
theorem own_none {w : World} {base e n c : Nat} {a : Option Addr} {xs : List Value} (h : w.ownsRow base e 1 (.slice a n c) n xs) : a = none → c = 0 := by
  rintro rfl
  rcases h.2 with ⟨h1, _⟩ | ⟨g, cap, cur, h1, _⟩
  · injection h1
  · injection h1 with h1; cases h1
theorem rncBytes_nil (w : World) :
    Calls Try.prog 14 #[.pointer none] w fun e w' => e = .returned (.slice none 0 0) ∧ w = w' := by
  go_enter Try.func14, Try.ntmps14
  go_wp2
  go_ret
  exact ⟨rfl, rfl⟩

set_option maxRecDepth 100000 in
theorem rncBytes_any (base g : Nat) (v : Value) (n : Int) (k : Nat) (less : Int) (w : World) (hE : EncR w base g v n k less) (hk : k ≤ 900000) :
    Calls Try.prog 14 #[.pointer (some ⟨g, 0, none⟩)] w (BytesPost (bytesL (digL n (k + 4))) w) := by
  have HR := Lib.hid hE
  obtain ⟨D, last, h1, h2, h3, h4, h5, h6⟩ := hE
  obtain ⟨c0, c1, c2⟩ := h1.cells
  have ho := h1.2.1
  rw [h3] at ho
  obtain ⟨a, c, rfl⟩ := own_form ho
  have HD4 := Lib.hid (four_dig h2 h3 h4 h5 h6)
  have HI := Lib.hid (own_ints' ho)
  have HN := Lib.hid (own_none ho)
  have H1 := Lib.hid h1
  have hgl := h1.lt
  have hmk := make_empty (P := Try.prog) Try.underlying23 info_u806 ((k : Int) + 4) (k + 4) (by omega) (by omega) (by omega) w
  have hsz : (madeCells #[Value.int .u8 0] (k + 4)).size = (k + 4) * 1 := by rw [size_madeCells]; omega
  have HO0 := Lib.hid (World.ownsRow_made (base := w.heap.size) (e := 5) (size := 1) w (madeCells #[Value.int .u8 0] (k + 4)) (k + 4) (Nat.le_refl _) (by unfold maxLen; omega) hsz)
  have HB0 := Lib.hid (Below.alloc_new w (.cells (madeCells #[Value.int .u8 0] (k + 4)) 5))
  have hk1 : k ≤ 1000000 := by omega
  clear h1 h2 h3 h6 ho c2 hsz
  generalize madeCells #[Value.int .u8 0] (k + 4) = mc at hmk HO0 HB0
  go_enter Try.func14, Try.ntmps14
  go_wp2_with (first | (go_at_call 38; ((with_reducible refine (rncLen_any base g _ n k less _ HR.out hk1).mono ?_)); rintro e w' ⟨rfl, rfl⟩) | (at_builtin; go_loud (refine append_ints rfl _ _ 23 rfl w.heap.size 5 .u8 1 Try.underlying23 info_u806 _ 0 [] rfl HO0.out a k c w.heap.size D rfl (HI.out.below HB0.out) HN.out ?c1 ?c2 ?c3 ?_)))
  case c1 => unfold maxLen; omega
  case c2 => omega
  case c3 => simp
  intro v2 w2 hown hgrow _
  have hb2 := HB0.out.grown hgrow (by simp) (own_base HO0.out)
  obtain ⟨a2, cp2, rfl⟩ := own_form hown
  have c1' : w2.cell? ⟨g, 1, none⟩ = some (.int .u32 last) := (hb2.cell (p := ⟨g, 1, none⟩) hgl).trans c1
  have HO2 := Lib.hid hown
  have HB2 := Lib.hid hb2
  clear hown hgrow hb2 c0 c1 hmk
  obtain ⟨q0, hq0⟩ : ∃ q, q = last / 16777216 % 256 := ⟨_, rfl⟩
  obtain ⟨q1, hq1⟩ : ∃ q, q = last / 65536 % 256 := ⟨_, rfl⟩
  obtain ⟨q2, hq2⟩ : ∃ q, q = last / 256 % 256 := ⟨_, rfl⟩
  obtain ⟨q3, hq3⟩ : ∃ q, q = last % 256 := ⟨_, rfl⟩
  have HF : RowKit.Hid (four last = [q0, q1, q2, q3]) := by show _ = _; unfold four; rw [hq0, hq1, hq2, hq3]
  have e0 : IntKind.u8.wrap (last / 16777216) = q0 := by rw [hq0]; rfl
  have e1 : IntKind.u8.wrap (last / 65536) = q1 := by rw [hq1]; rfl
  have e2 : IntKind.u8.wrap (last / 256) = q2 := by rw [hq2]; rfl
  have e3 : IntKind.u8.wrap last = q3 := by rw [hq3]; rfl
  clear hq0 hq1 hq2 hq3
  have ag : some g ≠ (Value.slice a2 k cp2).ownBlock := fun e => by
    have := own_base HO2.out g e.symm
    omega
  obtain ⟨i0, hi, hzz, hz1, hz2⟩ := info_parts info_u806
  have hsz2 := HB2.out.size
  have HO4 := Lib.hid (World.ownsRow.alloc HO2.out (.cells #[.int .u8 q0, .int .u8 q1, .int .u8 q2, .int .u8 q3] 5))
  have HB4 := Lib.hid (HB2.out.alloc hsz2 (.cells #[.int .u8 q0, .int .u8 q1, .int .u8 q2, .int .u8 q3] 5))
  go_wp2
  go_region_held3 (fun w' => w'.cell? ⟨g, 1, none⟩ = some (.int .u32 last))
    (first | go_keep | (rw [hgrow.cell_far _ (by simp; omega) ag]; assumption))
    ((refine step_append_lies _ (by rfl) _ _ _ (by rfl) w.heap.size 5 i0 (.int .u8 0) 1 1 Try.underlying23 hi hzz hz1 hz2 rfl (by decide) (.slice a2 k cp2) k _ (by rfl) HO4.out.drew ⟨w2.heap.size, 0, none⟩ 4 4 [.int .u8 q0, .int .u8 q1, .int .u8 q2, .int .u8 q3] (by rfl) (by rfl) (World.news_of_block (cs := #[.int .u8 q0, .int .u8 q1, .int .u8 q2, .int .u8 q3]) (t := 5) (fr := (0, 0)) (heap_alloc_new w2 _)) (by simp [Value.oneCell']) (by omega) (by unfold maxLen; omega) (by omega) (by simp; omega) (w2.heap.size + 1) (by simp) ?_; intro gg cp w5 hown hgrow hat hlt2))
  have hown5 : w5.ownsRow w.heap.size 5 1 (.slice (some ⟨gg, 0, none⟩) (k + 4) cp) (k + 4) ((digL n (k + 4)).map (Value.int .u8)) := by
    rw [← HD4.out, HF.out]; simpa using hown
  have HB5 : RowKit.Hid (Below w.heap.size w w5) := (Below.drewN' HB4.out 1).grown hgrow (by simp; omega) (own_base HO4.out)
  have hcp : k + 4 ≤ cp ∧ cp ≤ 9223372036854775807 := by
    rcases hown5.2 with ⟨h, _⟩ | ⟨g', cap, cur, h, _, _, h2, h3, _⟩
    · injection h with h; cases h
    · unfold maxLen at h3; injection h with _ _ h; omega
  obtain ⟨hcp, hcpm⟩ := hcp
  have HO5 := Lib.hid hown5
  obtain ⟨L, hL⟩ : ∃ L, L = digL n (k + 4) := ⟨_, rfl⟩
  have HLd : RowKit.Hid (IsDig L ∧ L.length = k + 4) := by rw [hL]; exact ⟨digL_dig _ _, digL_len _ _⟩
  rw [← hL] at HO5
  have HLq : RowKit.Hid (digL n (k + 4) = L) := hL.symm
  clear hown hgrow hown5 hL HO4 HB4 HO2 HB2 HD4 HF hat hlt2 ag HO0 HB0 HI HN H1 HR
  go_wp2
  go_loopw [4] (fun i wr => ∃ j : Nat, j ≤ k + 4 ∧ i = .int .i64 j ∧ RowKit.Hid (lastK L j = lastK L (k + 4)) ∧ wr = w5) (fun i _ => (intOf i).toNat)
  case atStart => exact ⟨k + 4, by omega, by go_num, rfl, rfl⟩
  case round =>
    obtain ⟨j, hj, rfl, H, rfl⟩ := hrel
    by_cases hz : j = 0
    · have hm : lastK L (k + 4) = -1 := by rw [← H.out, hz]; rfl
      have HE : RowKit.Hid (bytesL L = []) := by
        show _ = _
        unfold bytesL; rw [HLd.out.2, hm]; rfl
      subst hz
      clear H hm
      go_wp2
      go_ret
      rw [HLq.out, HE.out]
      exact ⟨some ⟨gg, 0, none⟩, cp, rfl, ⟨rfl, .inl rfl⟩, HB5.out⟩
    · obtain ⟨p, hp⟩ : ∃ p, j = p + 1 := ⟨j - 1, by omega⟩
      subst hp
      have hcell : wr.cell? ⟨gg, p, none⟩ = some (.int .u8 (L.getD p 0)) := by
        rw [HO5.out.cellAt p (by omega), List.getElem?_map, List.getElem?_eq_getElem (by rw [HLd.out.2]; omega)]
        simp [List.getD, show p < L.length by rw [HLd.out.2]; omega]
      have E : RowKit.Hid (lastK L (p + 1) = if L.getD p 0 = 0 then lastK L p else p) := rfl
      generalize L.getD p 0 = x at hcell E
      by_cases hx : x = 0
      · have hq : (x == 0) = true := by simpa using hx
        have E2 : RowKit.Hid (lastK L p = lastK L (k + 4)) := by
          show _ = _
          rw [← H.out, E.out, if_pos hx]
        clear hx
        go_wp2
        go_roundw
        case rel => exact ⟨p, by omega, rfl, E2.out, trivial⟩
        case measure => simp [intOf] <;> omega
      · have hq : (x == 0) = false := by simpa using hx
        have HE : RowKit.Hid (bytesL L = L.take (p + 1)) := by
          have hm : lastK L (k + 4) = p := by rw [← H.out, E.out, if_neg hx]
          show _ = _
          unfold bytesL
          rw [HLd.out.2, hm]
          congr 1
        have HI5 := Lib.hid (own_ints' HO5.out)
        clear hx
        go_wp2
        go_ret
        rw [HLq.out, HE.out]
        have e : (L.take (p + 1)).length = p + 1 := by rw [List.length_take, HLd.out.2]; omega
        refine ⟨some ⟨gg, 0, none⟩, cp, by rw [e]; rfl, ?_, HB5.out⟩
        rw [e]
        exact HI5.out.take hj
end Go.Proofs.Ytdmafololcpamaa

/- The walks of the statements of layer 6: what may be, the example, no encoder. -/
namespace Go.Proofs.Ytdmafololcpamaa
open Go.RowKit
set_option linter.unusedVariables false

theorem rncBits_at (base g : Nat) (v : Value) (e f : EncS) (n : Int) (wide : Nat) (i : Int) (w : World) (hi : i = wide) (hf : encBits e n wide = f) (hE : EncAt w base g v e) (hG : GoodE e) (n0 : 0 ≤ n) (n1 : n ≤ 4294967295) (hw : wide ≤ 24) (h : n < P2 wide) (hk : e.k ≤ 800000) :
    Calls Try.prog 55 #[.pointer (some ⟨g, 0, none⟩), .int .u32 n, .int .i64 i] w (PutPost base g v f (.int .i64 0) w) := by
  subst hi; subst hf; exact rncBits_any base g v e n wide w hE hG n0 n1 hw h hk
theorem rncBytes_at (base g : Nat) (v : Value) (e : EncS) (b : List Int) (w : World) (hE : EncAt w base g v e) (hk : e.k ≤ 900000) (hb : bytesL (digL e.n (e.k + 4)) = b) :
    Calls Try.prog 14 #[.pointer (some ⟨g, 0, none⟩)] w (BytesPost b w) := by
  subst hb; exact rncBytes_any base g v _ _ _ w hE hk

/-- The two encoders of the example. -/
def exA : EncS := ⟨0, 4294967040, 1⟩
def exB : EncS := ⟨549755781120, 4294967040, 1⟩
theorem exA_eq : encBits encNew 0 8 = exA := by kernel_rfl
theorem exB_eq : encBits encNew 128 8 = exB := by kernel_rfl
theorem exA_bytes : bytesL (digL exA.n (exA.k + 4)) = [] := by decide
theorem exB_bytes : bytesL (digL exB.n (exB.k + 4)) = [127, 255, 255, 128] := by decide

theorem enc_two {w w' : World} {b1 g1 b2 g2 : Nat} {v1 v2 : Value} {e1 e2 f : EncS} (h1 : EncAt w b1 g1 v1 e1) (h2 : EncAt w b2 g2 v2 e2) (hne : g1 ≠ g2) (ho1 : v1.ownBlock ≠ some g2) (ho2 : v2.ownBlock ≠ some g1) (ho : ∀ r, v1.ownBlock = some r → v2.ownBlock ≠ some r)
    (hk : Keeps (fun j => j = g1 ∨ v1.ownBlock = some j) w w') : EncAt w' b2 g2 v2 e2 :=
  h2.keeps hk (by rintro (c | c); exact hne c.symm; exact ho1 c) (by rintro r hr (c | c); exact ho2 (c ▸ hr); exact ho r c hr)
end Go.Proofs.Ytdmafololcpamaa

/- The walks of the statements of layer 7: the example, no decoder. -/
namespace Go.Proofs.Ytdmafololcpamaa
open Go.RowKit
set_option linter.unusedVariables false

theorem isDig_of {b : List Int} (h : ∀ x ∈ b, 0 ≤ x ∧ x ≤ 255) : IsDig b := by
  intro j hj
  simp only [List.getD, List.getElem?_eq_getElem hj, Option.getD_some]
  exact h _ (List.getElem_mem hj)
theorem byteF_bd {b : List Int} (h : IsDig b) (j : Nat) : 0 ≤ byteF b j ∧ byteF b j ≤ 255 := by
  unfold byteF
  by_cases hj : j < b.length
  · exact h j hj
  · rw [List.getD, List.getElem?_eq_none (by omega)]; decide
theorem some_of_ints {w : World} {B len : Nat} {k : IntKind} {a : Option Addr} {zs : List Int} {cap : Nat} (h : IntsAt w B k a len zs) (h0 : 0 < len) : a = none → cap = 0 := by
  intro e
  rcases h.2 with h2 | ⟨_, _, h2, _⟩
  · omega
  · rw [e] at h2; cases h2
theorem goodD_new {b : List Int} (h : IsDig b) : GoodD (decNew (byteF b)) := by
  have a := valB_nonneg (fun j => (byteF_bd h j).1) 4
  have b0 := byteF_bd h 0
  have b1 := byteF_bd h 1
  have b2 := byteF_bd h 2
  have b3 := byteF_bd h 3
  refine ⟨by show (16777216 : Int) ≤ 4294967295; decide, by show (4294967295 : Int) ≤ 4294967295; decide, a, ?_⟩
  show (((0 * 256 + byteF b 0) * 256 + byteF b 1) * 256 + byteF b 2) * 256 + byteF b 3 ≤ 4294967295
  omega
theorem drcBits_at (base g : Nat) (v : Value) (b : List Int) (d f : DecS) (n : Int) (wide : Nat) (i : Int) (w : World) (hi' : i = wide) (hf : decBits b d 0 wide = (n, f)) (hD : DrcAt w base g v b d) (hb : ∀ j, 0 ≤ byteF b j ∧ byteF b j ≤ 255) (hbl : b.length ≤ 1000000) (hi : d.i ≤ 4000000) (hG : GoodD d) (hw : wide ≤ 24) :
    Calls Try.prog 65 #[.pointer (some ⟨g, 0, none⟩), .int .i64 i] w (DrcBitsPost base g v b n f w) := by
  subst hi'
  have := drcBits_any base g v b d wide w hD hb hbl hi hG hw
  rw [hf] at this; exact this

/-- The example. -/
def exL : List Int := [18, 253, 14, 208, 47]
def exE : EncS := ⟨20878084550400, 268435200, 2⟩
def exD : DecS := ⟨0, 268435200, 6⟩
def exS : DecS := decNew (byteF exL)
theorem exE_eq : encBits encNew 77777 20 = exE := by kernel_rfl
theorem exE_bytes : bytesL (digL exE.n (exE.k + 4)) = exL := by decide
theorem exD_eq : decBits exL exS 0 20 = (77777, exD) := by kernel_rfl
theorem exL_dig : IsDig exL := isDig_of (by decide)

def ex0S : DecS := decNew (byteF [])
def ex0D : DecS := ⟨0, 2147483392, 5⟩
theorem ex0_eq : decBits [] ex0S 0 9 = (0, ex0D) := by kernel_rfl
theorem dig_nil : IsDig [] := isDig_of (by decide)
theorem ints_nil (w : World) : IntsAt w w.heap.size .u8 none 0 [] := ⟨rfl, .inl rfl⟩
theorem drcNew_nil (w : World) : Calls Try.prog 18 #[.slice none 0 0] w (DrcNewPost [] w) :=
  drcNew_any none 0 0 [] w (ints_nil w) (fun _ => rfl) (byteF_bd dig_nil) (by decide)
end Go.Proofs.Ytdmafololcpamaa

/- The walk of RangedecReads: what is held of memory on the way. -/
namespace Go.Proofs.Ytdmafololcpamaa
open Go.RowKit
set_option linter.unusedVariables false

/-! ### Whatever is read, the state is a good one -/
theorem decSym_good {b : List Int} {d : DecS} {l : List Int} (hb : ∀ j, 0 ≤ byteF b j ∧ byteF b j ≤ 255) (hG : GoodD d) (hL : GoodL l) : GoodD (decSym b d l) ∧ (decSym b d l).i ≤ d.i + 2 := by
  obtain ⟨v1, v2, v3, v4⟩ := decWhich_is hG hL
  exact ⟨(decTake_good hb hG (okP_sym hL v1) v2).1, decTake_i _ _ _ _ _⟩
theorem decOne_good {b : List Int} {d : DecS} {k : Nat} (hb : ∀ j, 0 ≤ byteF b j ∧ byteF b j ≤ 255) (hG : GoodD d) (hk : k ≤ 12) : GoodD (decTake (byteF b) d (decAt d (P2 k)) 1 (P2 k)) ∧ (decTake (byteF b) d (decAt d (P2 k)) 1 (P2 k)).i ≤ d.i + 2 ∧ 0 ≤ decAt d (P2 k) ∧ decAt d (P2 k) < P2 k := by
  have pk := P2_pos k
  have qk := P2_mono (a := k) (b := 12) hk
  rw [show P2 12 = 4096 by decide] at qk
  obtain ⟨a0, a1, a2⟩ := decAt_bd hG (show 1 ≤ P2 k by omega) (show P2 k ≤ 8192 by omega)
  exact ⟨(decTake_good hb hG ⟨by omega, by omega, by decide, a0, by omega⟩ a2).1, decTake_i _ _ _ _ _, a0, a1⟩
theorem decBits_good {b : List Int} {d : DecS} {k : Nat} (hb : ∀ j, 0 ≤ byteF b j ∧ byteF b j ≤ 255) (hG : GoodD d) (hk : k ≤ 24) : GoodD (decBits b d 0 k).2 ∧ (decBits b d 0 k).2.i ≤ d.i + 4 ∧ 0 ≤ (decBits b d 0 k).1 ∧ (decBits b d 0 k).1 ≤ 16777215 := by
  by_cases h0 : k = 0
  · subst h0; rw [decBits_zero]; exact ⟨hG, Nat.le_add_right _ _, by show (0 : Int) ≤ 0; decide, by show (0 : Int) ≤ 16777215; decide⟩
  · by_cases h12 : k ≤ 12
    · rw [decBits_low b d 0 (by omega) h12]
      obtain ⟨g1, g2, g3, g4⟩ := decOne_good hb hG h12
      have qk := P2_mono (a := k) (b := 12) h12
      rw [show P2 12 = 4096 by decide] at qk
      simp only
      exact ⟨g1, by omega, by omega, by omega⟩
    · rw [decBits_high b d 0 (by omega) hk]
      obtain ⟨g1, g2, g3, g4⟩ := decOne_good hb hG (show 12 ≤ 12 by decide)
      have e12 : P2 12 = 4096 := by decide
      rw [e12] at g1 g2 g3 g4
      obtain ⟨f1, f2, f3, f4⟩ := decOne_good hb g1 (show k - 12 ≤ 12 by omega)
      have qk := P2_mono (a := k - 12) (b := 12) (by omega)
      rw [e12] at qk
      have pk := P2_pos (k - 12)
      rw [decBits_low b _ _ (show 0 < k - 12 by omega) (by omega)]
      have m1 : (0 * 4096 + decAt d 4096) * P2 (k - 12) ≤ 4095 * P2 (k - 12) := Int.mul_le_mul_of_nonneg_right (by omega) (by omega)
      have m0 : 0 ≤ (0 * 4096 + decAt d 4096) * P2 (k - 12) := Int.mul_nonneg (by omega) (by omega)
      simp only
      exact ⟨f1, by omega, by omega, by omega⟩

/-! ### The objects -/
structure Obj7 where
  mg : Nat
  xg : Nat
  xr : Nat
  g : Nat
  gf : Nat
  bx : Nat
  bd : Nat
  bf : Nat
  n : Nat
/-- What is held of memory on the way. -/
structure St7 (w0 : World) (o : Obj7) (b : List Int) (v vf : Value) (w : World) (L1 L2 : List Int) (D1 D2 : DecS) : Prop where
  m : ModAt w o.mg L1 false
  x : RefMod w o.bx o.xg o.xr L2 false
  e : DrcAt w o.bd o.g v b D1
  q : DecMem w o.bf o.gf vf b D2
  gm : GoodL L1
  gx : GoodL L2
  ge : GoodD D1
  gq : GoodD D2
  lm : L1.length = o.n
  b : Below w0.heap.size w0 w
  d : w0.heap.size ≤ o.mg ∧ o.mg < o.bx ∧ o.xg < o.bd ∧ o.xr < o.bd ∧ o.g < o.bf
  ov : ∀ k, v.ownBlock = some k → k < o.bf
section
variable {w0 w w' : World} {o : Obj7} {b : List Int} {v vf : Value} {L1 L2 : List Int} {D1 D2 : DecS}
theorem St7.below (h : St7 w0 o b v vf w L1 L2 D1 D2) (hb : Below w.heap.size w w') : St7 w0 o b v vf w' L1 L2 D1 D2 :=
  ⟨h.m.below hb, h.x.below hb, h.e.below hb, h.q.below hb, h.gm, h.gx, h.ge, h.gq, h.lm, h.b.trans (hb.mono h.b.size), h.d, h.ov⟩
theorem St7.drewN (h : St7 w0 o b v vf w L1 L2 D1 D2) (n : Nat) : St7 w0 o b v vf (w.drewN n) L1 L2 D1 D2 := h.below (Below.drewN' (Below.refl _ _) n)
theorem St7.nums (h : St7 w0 o b v vf w L1 L2 D1 D2) : w0.heap.size ≤ o.mg ∧ o.mg < o.bx ∧ o.bx ≤ o.xg ∧ o.bx ≤ o.xr ∧ o.xg < o.bd ∧ o.xr < o.bd ∧ o.bd ≤ o.g ∧ o.g < o.bf ∧ o.bf ≤ o.gf := by
  have a := h.d
  have b := h.x.lt
  have d := h.e.lt
  have e := h.q.2.2
  omega
theorem St7.ownv (h : St7 w0 o b v vf w L1 L2 D1 D2) (j : Nat) (hj : v.ownBlock = some j) : o.bd ≤ j ∧ j < o.bf ∧ j ≠ o.g := by
  have a := h.e.own j hj
  exact ⟨a.2.1, h.ov j hj, a.2.2⟩
theorem St7.ownf (h : St7 w0 o b v vf w L1 L2 D1 D2) (j : Nat) (hj : vf.ownBlock = some j) : o.bf ≤ j ∧ j ≠ o.gf := ⟨own_base h.q.2.1 j hj, h.q.ne j hj⟩
theorem St7.prog {L1' : List Int} {D1' : DecS} (h : St7 w0 o b v vf w L1 L2 D1 D2) (hk : Keeps (fun j => j = o.g ∨ j = o.mg) w w') (he : DrcAt w' o.bd o.g v b D1') (hm : ModAt w' o.mg L1' false) (g1 : GoodL L1') (g2 : GoodD D1') (l1 : L1'.length = o.n) :
    St7 w0 o b v vf w' L1' L2 D1' D2 := by
  have n := h.nums
  exact ⟨hm, h.x.keeps hk (by omega) (by omega), he, h.q.keeps hk (by omega) (fun k hk => by have := h.ownf k hk; omega), g1, h.gx, g2, h.gq, l1, h.b.trans (hk.below h.b.size (by omega)), h.d, h.ov⟩
theorem St7.progE {D1' : DecS} (h : St7 w0 o b v vf w L1 L2 D1 D2) (hk : Keeps (fun j => j = o.g) w w') (he : DrcAt w' o.bd o.g v b D1') (g2 : GoodD D1') : St7 w0 o b v vf w' L1 L2 D1' D2 := by
  have n := h.nums
  exact h.prog (hk.mono fun j hj => .inl hj) he (h.m.keeps hk (by omega)) h.gm g2 h.lm
theorem St7.ref {L2' : List Int} {D2' : DecS} (h : St7 w0 o b v vf w L1 L2 D1 D2) (hk : Keeps (fun j => j = o.gf ∨ j = o.xr) w w') (he : DecMem w' o.bf o.gf vf b D2') (hx : RefMod w' o.bx o.xg o.xr L2' false) (g1 : GoodL L2') (g2 : GoodD D2') : St7 w0 o b v vf w' L1 L2' D1 D2' := by
  have n := h.nums
  exact ⟨h.m.keeps hk (by omega), hx, h.e.keeps hk (by omega) (fun k hk => by have := h.ownv k hk; omega), he, h.gm, g1, h.ge, g2, h.lm, h.b.trans (hk.below h.b.size (by omega)), h.d, h.ov⟩
theorem St7.refE {D2' : DecS} (h : St7 w0 o b v vf w L1 L2 D1 D2) (hk : Keeps (fun j => j = o.gf) w w') (he : DecMem w' o.bf o.gf vf b D2') (g2 : GoodD D2') : St7 w0 o b v vf w' L1 L2 D1 D2' := by
  have n := h.nums
  exact h.ref (hk.mono fun j hj => .inl hj) he (h.x.keeps hk (by omega) (by omega)) h.gx g2
theorem St7.row (h : St7 w0 o b v vf w L1 L2 D1 D2) {r : Nat} (hk : Keeps (fun j => j = r) w w') (h0 : w0.heap.size ≤ r) (h1 : r ≠ o.mg) (h2 : r ≠ o.xg) (h3 : r ≠ o.xr) (h4 : r < o.bd) : St7 w0 o b v vf w' L1 L2 D1 D2 := by
  have n := h.nums
  exact ⟨h.m.keeps hk (by omega), h.x.keeps hk (by omega) (by omega), h.e.keeps hk (by omega) (fun k hk => by have := h.ownv k hk; omega), h.q.keeps hk (by omega) (fun k hk => by have := h.ownf k hk; omega), h.gm, h.gx, h.ge, h.gq, h.lm, h.b.trans (hk.below h.b.size (by omega)), h.d, h.ov⟩
theorem St7.dis (h : St7 w0 o b v vf w L1 L2 D1 D2) : o.xg ≠ o.gf ∧ o.xr ≠ o.gf ∧ ∀ k, vf.ownBlock = some k → k ≠ o.xg ∧ k ≠ o.xr := by
  have n := h.nums
  exact ⟨by omega, by omega, fun k hk => by have := h.ownf k hk; omega⟩
end

/-! ### What the frame of a statement says of a slice of numbers that came in -/
theorem none_cap {w : World} {k : IntKind} {a : Option Addr} {len cap : Nat} {zs : List Int}
    (h : (a = none ∧ len = 0 ∧ cap = 0 ∧ zs = []) ∨ ∃ x, a = some x ∧ len ≤ cap ∧ cap ≤ maxLen ∧ zs.length = cap ∧ (∀ i, i < zs.length → w.cell? (x.add i) = some (.int k (zs.getD i 0))) ∧ ∀ n ∈ zs, (Lit.int k n).wf = true) : a = none → cap = 0 := by
  rintro rfl
  rcases h with ⟨_, _, h, _⟩ | ⟨x, h, _⟩
  · exact h
  · cases h
theorem isDig_wf {zs : List Int} (h : ∀ n ∈ zs, (Lit.int .u8 n).wf = true) : IsDig zs := fun j _ => by simpa [List.getD] using range_u8 h j
theorem u16_wf {zs : List Int} (h : ∀ n ∈ zs, (Lit.int .u16 n).wf = true) (j : Nat) : 0 ≤ zs.getD j 0 ∧ zs.getD j 0 ≤ 65535 := by simpa [List.getD] using range_u16 h j
end Go.Proofs.Ytdmafololcpamaa

/- Plain facts for RangedecAgain: what is put, symbol by symbol, and that it comes back. Nothing here speaks of the program. -/
namespace Go.Proofs.Ytdmafololcpamaa
open Go
set_option linter.unusedVariables false

/-- One number's symbol, and its bits where it is divisible by three. -/
def putC (n : Nat) (E : EncS) (L : List Int) (c : Int) : EncS := if c % 3 = 0 then encBits (encSym E L (c % n).toNat) c 16 else encSym E L (c % n).toNat
def putAll (n : Nat) (zs : List Int) : Nat → EncS × List Int
  | 0 => (encNew, List.replicate n 1)
  | j + 1 => (putC n (putAll n zs j).1 (putAll n zs j).2 (zs.getD j 0), learnP (putAll n zs j).2 (zs.getD j 0 % n).toNat)
theorem putAll_succ (n : Nat) (zs : List Int) (j : Nat) : putAll n zs (j + 1) = (putC n (putAll n zs j).1 (putAll n zs j).2 (zs.getD j 0), learnP (putAll n zs j).2 (zs.getD j 0 % n).toNat) := rfl
theorem P2_16 : P2 16 = 65536 := by decide
theorem sym_lt {n : Nat} (n1 : 1 ≤ n) (c : Int) : (c % n).toNat < n := by
  have := Int.emod_lt_of_pos c (b := (n : Int)) (by omega)
  omega
theorem putC_good {n : Nat} {E : EncS} {L : List Int} {c : Int} (n1 : 1 ≤ n) (hG : GoodE E) (hL : GoodL L) (hl : L.length = n) : GoodE (putC n E L c) ∧ (putC n E L c).k ≤ E.k + 6 ∧ Inside (encSym E L (c % n).toNat) (putC n E L c) := by
  have hs : (c % n).toNat < L.length := by rw [hl]; exact sym_lt n1 c
  have g1 := encSym_good hG hL hs
  have k1 := encSym_k E L (c % n).toNat
  unfold putC
  split
  · have k2 := encBits_k (encSym E L (c % n).toNat) c (wide := 16) (by decide)
    exact ⟨encBits_good g1 (by decide), by omega, encBits_inside g1 (by decide)⟩
  · exact ⟨g1, by omega, Inside.refl _⟩
theorem putAll_good {n : Nat} {zs : List Int} (n1 : 1 ≤ n) (n2 : n ≤ 64) : ∀ j, GoodE (putAll n zs j).1 ∧ GoodL (putAll n zs j).2 ∧ (putAll n zs j).2.length = n ∧ (putAll n zs j).1.k ≤ 6 * j := by
  intro j
  induction j with
  | zero => exact ⟨goodE_new, goodL_ones n1 n2, by show (List.replicate n (1 : Int)).length = n; simp, by show (0 : Nat) ≤ _; omega⟩
  | succ j ih =>
    obtain ⟨a, b, c, d⟩ := ih
    rw [putAll_succ]
    obtain ⟨p, q, r⟩ := putC_good (c := zs.getD j 0) n1 a b c
    have hs : (zs.getD j 0 % n).toNat < (putAll n zs j).2.length := by rw [c]; exact sym_lt n1 _
    exact ⟨p, learnP_good b hs, (learnP_len _ _).trans c, by simp only; omega⟩
theorem putAll_step {n : Nat} {zs : List Int} (n1 : 1 ≤ n) (n2 : n ≤ 64) (j : Nat) : Inside (putAll n zs j).1 (putAll n zs (j + 1)).1 := by
  obtain ⟨a, b, c, d⟩ := putAll_good (zs := zs) n1 n2 j
  rw [putAll_succ]
  exact (encSym_inside a b (by rw [c]; exact sym_lt n1 _)).trans (putC_good n1 a b c).2.2
theorem putAll_inside {n : Nat} {zs : List Int} (n1 : 1 ≤ n) (n2 : n ≤ 64) (j d : Nat) : Inside (putAll n zs j).1 (putAll n zs (j + d)).1 := by
  induction d with
  | zero => exact Inside.refl _
  | succ d ih => exact ih.trans (putAll_step n1 n2 (j + d))
/-- All that was put, and five in four bits. -/
def putEnd (n : Nat) (zs : List Int) (len : Nat) : EncS := encBits (putAll n zs len).1 5 4
theorem putEnd_good {n : Nat} {zs : List Int} (n1 : 1 ≤ n) (n2 : n ≤ 64) (len : Nat) : GoodE (putEnd n zs len) ∧ (putEnd n zs len).k ≤ 6 * len + 4 ∧ 1 ≤ (putEnd n zs len).s ∧ Inside (putAll n zs len).1 (putEnd n zs len) ∧ 1 ≤ (putEnd n zs len).n := by
  obtain ⟨a, b, c, d⟩ := putAll_good (zs := zs) n1 n2 len
  have g := encBits_good (n := 5) a (show 4 ≤ 24 by decide)
  have k2 := encBits_k (putAll n zs len).1 5 (wide := 4) (by decide)
  refine ⟨g, by unfold putEnd; omega, by have := g.1; unfold putEnd; omega, encBits_inside a (by decide), ?_⟩
  unfold putEnd
  rw [encBits_low _ _ (show 0 < 4 by decide) (by decide)]
  have e5 : (5 : Int) % P2 4 = 5 := by decide
  have e16 : P2 4 = 16 := by decide
  rw [e5, e16]
  obtain ⟨_, h, _⟩ := scaleE_inside (encPre (putAll n zs len).1 5 1 16)
  have hp := P256_pos ((scaleE (encPre (putAll n zs len).1 5 1 16)).k - (encPre (putAll n zs len).1 5 1 16).k)
  unfold encPut
  rw [h]
  have : 1 ≤ (encPre (putAll n zs len).1 5 1 16).n := by
    show 1 ≤ (putAll n zs len).1.n + (putAll n zs len).1.s / 16 * 5
    have h1 := a.1
    have h2 := a.2.2.1
    omega
  have := Int.mul_le_mul this hp (by decide) (by omega)
  omega

/-! ### What comes back -/
/-- The bytes, and noughts and others behind. -/
theorem digOf_end {F : EncS} (hG : GoodE F) (m : Nat) (tail : List Int) (hm : (bytesL (digL F.n (F.k + 4))).length + m = F.k + 4) : DigOf (byteF (bytesL (digL F.n (F.k + 4)) ++ List.replicate m 0 ++ tail)) F := by
  refine digOf_bytes hG fun j hj => ?_
  have e : byteF (bytesL (digL F.n (F.k + 4))) j = digB F.n (F.k + 4) j := by
    rw [bytesL_get]; unfold byteF; exact digL_getD F.n hj
  rw [← e]
  generalize bytesL (digL F.n (F.k + 4)) = b at hm
  unfold byteF
  by_cases h1 : j < b.length
  · simp [List.getD, List.getElem?_append, h1]
  · have h2 : b.getD j 0 = 0 := by rw [List.getD, List.getElem?_eq_none (by omega)]; rfl
    rw [h2]
    have h3 : j - b.length < m := by omega
    have h4 : j < b.length + m := by omega
    simp [List.getD, List.getElem?_append, h1, h3]
theorem digOf_only {F : EncS} (hG : GoodE F) : DigOf (byteF (bytesL (digL F.n (F.k + 4)))) F := by
  refine digOf_bytes hG fun j hj => ?_
  rw [bytesL_get]; unfold byteF; exact digL_getD F.n hj
theorem bytesL_le (F : EncS) : (bytesL (digL F.n (F.k + 4))).length ≤ F.k + 4 := by
  have := lastK_bd (digL F.n (F.k + 4)) (digL F.n (F.k + 4)).length
  have hl := digL_len F.n (F.k + 4)
  rw [bytesL_len]; omega
theorem bytesL_some {F : EncS} (hG : GoodE F) (h1 : 1 ≤ F.n) : 0 < (bytesL (digL F.n (F.k + 4))).length := by
  rcases Nat.eq_zero_or_pos (bytesL (digL F.n (F.k + 4))).length with h | h
  · have hb := List.eq_nil_of_length_eq_zero h
    have hd := digOf_only hG (F.k + 4) (Nat.le_refl _)
    rw [hb, Nat.sub_self] at hd
    have hz : ∀ i, valB (byteF []) i = 0 := by
      intro i
      induction i with
      | zero => rfl
      | succ i ih => show valB (byteF []) i * 256 + byteF [] i = 0; rw [ih]; rfl
    rw [hz] at hd
    have e : P256 0 = 1 := rfl
    rw [e, Int.ediv_one] at hd
    omega
  · exact h
theorem bytesL_dig (F : EncS) : IsDig (bytesL (digL F.n (F.k + 4))) := by
  intro j hj
  have e := bytesL_get (digL F.n (F.k + 4)) j
  have hl := bytesL_le F
  unfold byteF at e
  rw [e, digL_getD F.n (by omega)]
  exact digB_bd _ _ _

/-- Where the decoder stands ahead of the j-th number: in step with the encoder. -/
def InStep (n : Nat) (zs : List Int) (b : List Int) (j : Nat) (D : DecS) : Prop := Sync (byteF b) (putAll n zs j).1 D
theorem step_i {n : Nat} {zs b : List Int} {j : Nat} {D : DecS} (n1 : 1 ≤ n) (n2 : n ≤ 64) (h : InStep n zs b j D) : D.i ≤ 6 * j + 4 := by
  have := (putAll_good (zs := zs) n1 n2 j).2.2.2
  have := h.2.1
  omega
theorem step_good {n : Nat} {zs b : List Int} {j len : Nat} {D : DecS} (n1 : 1 ≤ n) (n2 : n ≤ 64) (hj : j ≤ len) (h : InStep n zs b j D) (hd : DigOf (byteF b) (putEnd n zs len)) : GoodD D := by
  obtain ⟨a, _, _, _⟩ := putAll_good (zs := zs) n1 n2 j
  obtain ⟨_, _, p1, p2, _⟩ := putEnd_good (zs := zs) n1 n2 len
  have hi := putAll_inside (zs := zs) n1 n2 j (len - j)
  rw [show j + (len - j) = len by omega] at hi
  exact (sync_good h a (hi.trans p2) p1 hd).1
/-- A symbol comes back; and where bits were put, they too. -/
theorem step_back {n : Nat} {zs b : List Int} {j len : Nat} {D : DecS} (n1 : 1 ≤ n) (n2 : n ≤ 64) (hz : ∀ i, 0 ≤ zs.getD i 0 ∧ zs.getD i 0 ≤ 65535) (hj : j < len) (h : InStep n zs b j D) (hd : DigOf (byteF b) (putEnd n zs len)) :
    decWhich D (putAll n zs j).2 = (zs.getD j 0 % n).toNat ∧ (zs.getD j 0 % 3 ≠ 0 → InStep n zs b (j + 1) (decSym b D (putAll n zs j).2)) ∧
    (zs.getD j 0 % 3 = 0 → GoodD (decSym b D (putAll n zs j).2) ∧ (decBits b (decSym b D (putAll n zs j).2) 0 16).1 = zs.getD j 0 ∧ InStep n zs b (j + 1) (decBits b (decSym b D (putAll n zs j).2) 0 16).2) := by
  obtain ⟨a1, a2, a3, a4⟩ := putAll_good (zs := zs) n1 n2 j
  obtain ⟨_, _, p1, p2, _⟩ := putEnd_good (zs := zs) n1 n2 len
  have hi := putAll_inside (zs := zs) n1 n2 (j + 1) (len - (j + 1))
  rw [show j + 1 + (len - (j + 1)) = len by omega] at hi
  have hi2 := hi.trans p2
  have hs : (zs.getD j 0 % n).toNat < (putAll n zs j).2.length := by rw [a3]; exact sym_lt n1 _
  obtain ⟨c1, c2, c3⟩ := putC_good (c := zs.getD j 0) n1 a1 a2 a3
  rw [putAll_succ] at hi2
  simp only at hi2
  obtain ⟨s1, s2⟩ := sym_back h a1 a2 hs (c3.trans hi2) p1 hd
  have gs := encSym_good a1 a2 hs
  refine ⟨s1, fun h3 => ?_, fun h3 => ?_⟩
  · have e : putC n (putAll n zs j).1 (putAll n zs j).2 (zs.getD j 0) = encSym (putAll n zs j).1 (putAll n zs j).2 (zs.getD j 0 % n).toNat := by unfold putC; rw [if_neg h3]
    unfold InStep
    rw [putAll_succ, e]; exact s2
  · have e : putC n (putAll n zs j).1 (putAll n zs j).2 (zs.getD j 0) = encBits (encSym (putAll n zs j).1 (putAll n zs j).2 (zs.getD j 0 % n).toNat) (zs.getD j 0) 16 := by unfold putC; rw [if_pos h3]
    rw [e] at hi2
    obtain ⟨b1, b2⟩ := bits_back (wide := 16) s2 gs (by decide) (hz j).1 (by rw [P2_16]; have := (hz j).2; omega) hi2 p1 hd
    refine ⟨(sync_good s2 gs (c3.trans (by rw [e]; exact hi2)) p1 hd).1, b1, ?_⟩
    unfold InStep
    rw [putAll_succ, e]; exact b2
/-- At the end five comes. -/
theorem step_end {n : Nat} {zs b : List Int} {len : Nat} {D : DecS} (n1 : 1 ≤ n) (n2 : n ≤ 64) (h : InStep n zs b len D) (hd : DigOf (byteF b) (putEnd n zs len)) : (decBits b D 0 4).1 = 5 := by
  obtain ⟨a1, a2, a3, a4⟩ := putAll_good (zs := zs) n1 n2 len
  obtain ⟨_, _, p1, p2, _⟩ := putEnd_good (zs := zs) n1 n2 len
  exact (bits_back (wide := 4) h a1 (by decide) (by decide) (by decide) (Inside.refl (putEnd n zs len)) p1 hd).1
theorem step_first (n : Nat) (zs b : List Int) : InStep n zs b 0 (decNew (byteF b)) := sync_new _
end Go.Proofs.Ytdmafololcpamaa

/- Plain facts of layer 10: how ceilings are put and got. Nothing here speaks of the program. -/
namespace Go.Proofs.Ytdmafololcpamaa
open Go Go.RowKit
set_option linter.unusedVariables false

/-! ### The model of differences -/
def difL : List Int := [3000, 1500, 500, 10, 10, 10, 10, 10, 10, 10, 10, 10, 10, 10, 10, 10, 10, 10, 10, 10, 10, 10, 10, 10, 10, 10, 10, 10, 10, 10, 500, 1500]
theorem difL_good : GoodL difL := by unfold GoodL; decide
theorem difL_len : difL.length = 32 := rfl
theorem difL_bd : ∀ j, j < 32 → 0 ≤ difL.getD j 0 ∧ difL.getD j 0 ≤ 4294967295 := by decide
theorem difL_one : ∀ j, j < 32 → 1 ≤ difL.getD j 0 := by decide
theorem difL_sum : sumN difL 32 = 7270 := by decide

/-! ### Putting -/
/-- One ceiling put: by itself (q), or by the one ahead. -/
def putW (q : Bool) (e : EncS) (a d : Int) : EncS := if q then encBits e a 5 else encSym e difL ((a - d) % 32).toNat
theorem putW_alone (e : EncS) (a d : Int) : putW true e a d = encBits e a 5 := if_pos rfl
theorem putW_diff (e : EncS) (a d : Int) : putW false e a d = encSym e difL ((a - d) % 32).toNat := if_neg (by decide)
def putN (q : Bool) (e : EncS) (f d : Nat → Int) : Nat → EncS
  | 0 => e
  | n + 1 => putW q (putN q e f d n) (f n) (d n)
theorem putN_succ (q : Bool) (e : EncS) (f d : Nat → Int) (n : Nat) : putN q e f d (n + 1) = putW q (putN q e f d n) (f n) (d n) := rfl
theorem dif_lt (x : Int) : (x % 32).toNat < difL.length := by rw [difL_len]; omega
theorem putW_good {q : Bool} {e : EncS} {a d : Int} (h : GoodE e) : GoodE (putW q e a d) ∧ (putW q e a d).k ≤ e.k + 4 ∧ Inside e (putW q e a d) := by
  cases q with
  | true =>
    rw [putW_alone]
    exact ⟨encBits_good (n := a) (wide := 5) h (by decide), encBits_k e a (wide := 5) (by decide), encBits_inside (n := a) (wide := 5) h (by decide)⟩
  | false =>
    rw [putW_diff]
    have := encSym_k e difL ((a - d) % 32).toNat
    exact ⟨encSym_good h difL_good (dif_lt _), by omega, encSym_inside h difL_good (dif_lt _)⟩
theorem putN_good {q : Bool} {e : EncS} {f d : Nat → Int} (h : GoodE e) : ∀ n, GoodE (putN q e f d n) ∧ (putN q e f d n).k ≤ e.k + 4 * n ∧ Inside e (putN q e f d n) := by
  intro n
  induction n with
  | zero => exact ⟨h, Nat.le_refl _, Inside.refl e⟩
  | succ n ih =>
    obtain ⟨h1, h2, h3⟩ := ih
    obtain ⟨g1, g2, g3⟩ := putW_good (q := q) (a := f n) (d := d n) h1
    rw [putN_succ]
    exact ⟨g1, by omega, h3.trans g3⟩
theorem putN_inside {q : Bool} {e : EncS} {f d : Nat → Int} (h : GoodE e) (j n : Nat) : Inside (putN q e f d j) (putN q e f d (j + n)) := by
  induction n with
  | zero => exact Inside.refl _
  | succ n ih => exact ih.trans (putW_good (putN_good h (j + n)).1).2.2
theorem putN_ext {q : Bool} {e : EncS} {f g d d' : Nat → Int} : ∀ n, (∀ i, i < n → f i = g i ∧ d i = d' i) → putN q e f d n = putN q e g d' n := by
  intro n
  induction n with
  | zero => intro _; rfl
  | succ n ih => intro h; rw [putN_succ, putN_succ, ih fun i hi => h i (by omega), (h n (by omega)).1, (h n (by omega)).2]

/-! ### Getting -/
def getW (q : Bool) (b : List Int) (D : DecS) (d : Int) : Int × DecS := if q then decBits b D 0 5 else ((d + decWhich D difL) % 32, decSym b D difL)
theorem getW_alone (b : List Int) (D : DecS) (d : Int) : getW true b D d = decBits b D 0 5 := if_pos rfl
theorem getW_diff (b : List Int) (D : DecS) (d : Int) : getW false b D d = ((d + decWhich D difL) % 32, decSym b D difL) := if_neg (by decide)
def getN (q : Bool) (b : List Int) (D : DecS) (d : Nat → Int) : Nat → DecS
  | 0 => D
  | n + 1 => (getW q b (getN q b D d n) (d n)).2
theorem getN_succ (q : Bool) (b : List Int) (D : DecS) (d : Nat → Int) (n : Nat) : getN q b D d (n + 1) = (getW q b (getN q b D d n) (d n)).2 := rfl
/-- What is got. -/
def getV (q : Bool) (b : List Int) (D : DecS) (d : Nat → Int) (n : Nat) : Int := (getW q b (getN q b D d n) (d n)).1
theorem decBits5 (b : List Int) (D : DecS) : decBits b D 0 5 = (decAt D 32, decTake (byteF b) D (decAt D 32) 1 32) := by
  rw [decBits_low b D 0 (by decide) (by decide), show P2 5 = 32 by decide]; simp
theorem getW_good {q : Bool} {b : List Int} {D : DecS} {d : Int} (hb : ∀ j, 0 ≤ byteF b j ∧ byteF b j ≤ 255) (h : GoodD D) : GoodD (getW q b D d).2 ∧ (getW q b D d).2.i ≤ D.i + 2 ∧ 0 ≤ (getW q b D d).1 ∧ (getW q b D d).1 ≤ 31 := by
  cases q with
  | true =>
    rw [getW_alone, decBits5]
    obtain ⟨a1, a2, a3⟩ := decAt_bd (all := 32) h (by decide) (by decide)
    exact ⟨(decTake_good hb h ⟨by decide, by decide, by decide, a1, by omega⟩ a3).1, decTake_i _ _ _ _ _, a1, by show decAt D 32 ≤ 31; omega⟩
  | false =>
    rw [getW_diff]
    obtain ⟨a1, a2, a3, a4⟩ := decWhich_is h difL_good
    exact ⟨(decTake_good hb h (okP_sym difL_good a1) a2).1, decTake_i _ _ _ _ _, by show 0 ≤ (d + decWhich D difL) % 32; omega, by show (d + decWhich D difL) % 32 ≤ 31; omega⟩
theorem getN_good {q : Bool} {b : List Int} {D : DecS} {d : Nat → Int} (hb : ∀ j, 0 ≤ byteF b j ∧ byteF b j ≤ 255) (h : GoodD D) : ∀ n, GoodD (getN q b D d n) ∧ (getN q b D d n).i ≤ D.i + 2 * n := by
  intro n
  induction n with
  | zero => exact ⟨h, Nat.le_refl _⟩
  | succ n ih =>
    obtain ⟨g1, g2, _⟩ := getW_good (q := q) (d := d n) hb ih.1
    rw [getN_succ]
    exact ⟨g1, by omega⟩
theorem getV_bd {q : Bool} {b : List Int} {D : DecS} {d : Nat → Int} (hb : ∀ j, 0 ≤ byteF b j ∧ byteF b j ≤ 255) (h : GoodD D) (n : Nat) : 0 ≤ getV q b D d n ∧ getV q b D d n ≤ 31 := (getW_good hb (getN_good hb h n).1).2.2
theorem getN_ext {q : Bool} {b : List Int} {D : DecS} {d d' : Nat → Int} : ∀ n, (∀ i, i < n → d i = d' i) → getN q b D d n = getN q b D d' n := by
  intro n
  induction n with
  | zero => intro _; rfl
  | succ n ih => intro h; rw [getN_succ, getN_succ, ih fun i hi => h i (by omega), h n (by omega)]
theorem getV_ext {q : Bool} {b : List Int} {D : DecS} {d d' : Nat → Int} {n : Nat} (h : ∀ i, i < n + 1 → d i = d' i) : getV q b D d n = getV q b D d' n := by
  unfold getV; rw [getN_ext n fun i hi => h i (by omega), h n (by omega)]

/-! ### What is put is got -/
theorem one_back {q : Bool} {b : List Int} {e F : EncS} {D : DecS} {a d : Int} (hs : Sync (byteF b) e D) (hg : GoodE e) (a0 : 0 ≤ a) (a1 : a ≤ 31) (hi : Inside (putW q e a d) F) (hf : 1 ≤ F.s) (hd : DigOf (byteF b) F) :
    (getW q b D d).1 = a ∧ Sync (byteF b) (putW q e a d) (getW q b D d).2 := by
  cases q with
  | true =>
    rw [putW_alone] at hi ⊢
    rw [getW_alone]
    exact bits_back (wide := 5) hs hg (by decide) a0 (by rw [show P2 5 = 32 by decide]; omega) hi hf hd
  | false =>
    rw [putW_diff] at hi ⊢
    rw [getW_diff]
    obtain ⟨h1, h2⟩ := sym_back hs hg difL_good (dif_lt (a - d)) hi hf hd
    refine ⟨?_, h2⟩
    simp only
    rw [h1]; omega
theorem put_back {q : Bool} {b : List Int} {e F : EncS} {D : DecS} {f d : Nat → Int} {n : Nat} (hs : Sync (byteF b) e D) (hg : GoodE e) (hb : ∀ j, j < n → 0 ≤ f j ∧ f j ≤ 31) (hi : Inside (putN q e f d n) F) (hf : 1 ≤ F.s) (hd : DigOf (byteF b) F) :
    ∀ j, j ≤ n → Sync (byteF b) (putN q e f d j) (getN q b D d j) ∧ ∀ i, i < j → getV q b D d i = f i := by
  intro j
  induction j with
  | zero => intro _; exact ⟨hs, fun i hi => by omega⟩
  | succ j ih =>
    intro hj
    obtain ⟨h1, h2⟩ := ih (by omega)
    have hin := putN_inside (q := q) (f := f) (d := d) hg (j + 1) (n - (j + 1))
    rw [show j + 1 + (n - (j + 1)) = n by omega, putN_succ] at hin
    obtain ⟨h3, h4⟩ := one_back h1 (putN_good hg j).1 (hb j (by omega)).1 (hb j (by omega)).2 (hin.trans hi) hf hd
    refine ⟨by rw [putN_succ, getN_succ]; exact h4, fun i hi => ?_⟩
    by_cases e : i = j
    · rw [e]; exact h3
    · exact h2 i (by omega)
end Go.Proofs.Ytdmafololcpamaa
