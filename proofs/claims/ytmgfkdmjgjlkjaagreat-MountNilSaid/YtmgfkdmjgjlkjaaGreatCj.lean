/- Plain facts, and what functions give, for the proofs of this seat: several texts in one, each with its own first remark. -/
import Derived.Laws.ResultCell
import Derived.Laws.CopyOwn
import Derived.Deep.WholeRow
import Derived.Test.YtmgfkdmjgjlkjaaGreatCh

namespace Go.Proofs.YtmgfkdmjgjlkjaaGreat
open Go.RowKit
set_option linter.unusedVariables false
def modCells (l : List Int) (fx : Bool) : List Value := ((l ++ List.replicate (64 - l.length) 0).map (Value.int .u32)) ++ [.int .i64 l.length, .bool (!fx)]
def ModAt (w : World) (g : Nat) (l : List Int) (fx : Bool) : Prop := l.length ≤ 64 ∧ Cel w g 277 (modCells l fx).toArray
section
variable {w w' : World} {g : Nat} {l : List Int} {fx : Bool}
theorem modCells_at (h : l.length ≤ 64) {j : Nat} (hj : j < l.length) : (modCells l fx)[j]? = some (.int .u32 (l.getD j 0)) := by
  unfold modCells
  rw [List.getElem?_append_left (by simp; omega), List.getElem?_map, List.getElem?_append_left hj]
  simp [List.getD, hj]
theorem modCells_count (h : l.length ≤ 64) : (modCells l fx)[64]? = some (.int .i64 l.length) := by
  unfold modCells
  rw [List.getElem?_append_right (by simp; omega)]
  simp [show 64 - (l.length + (64 - l.length)) = 0 by omega]
theorem modCells_learns (h : l.length ≤ 64) : (modCells l fx)[65]? = some (.bool (!fx)) := by
  unfold modCells
  rw [List.getElem?_append_right (by simp; omega)]
  simp [show 65 - (l.length + (64 - l.length)) = 1 by omega]
theorem modCells_set (h : l.length ≤ 64) {j : Nat} (hj : j < l.length) (x : Int) : (modCells l fx).set j (.int .u32 x) = modCells (l.set j x) fx := by
  unfold modCells
  rw [List.set_append_left _ _ (by simp; omega), List.length_set, ← List.map_set, List.set_append_left _ _ hj]
theorem ModAt.lt (h : ModAt w g l fx) : g < w.heap.size := h.2.lt
theorem ModAt.at_ (h : ModAt w g l fx) {j : Nat} (hj : j < l.length) : w.cell? ⟨g, j, none⟩ = some (.int .u32 (l.getD j 0)) := by
  rw [h.2.cell j, List.getElem?_toArray, modCells_at h.1 hj]
theorem ModAt.count (h : ModAt w g l fx) : w.cell? ⟨g, 64, none⟩ = some (.int .i64 l.length) := by
  rw [h.2.cell 64, List.getElem?_toArray, modCells_count h.1]
theorem ModAt.learns (h : ModAt w g l fx) : w.cell? ⟨g, 65, none⟩ = some (.bool (!fx)) := by
  rw [h.2.cell 65, List.getElem?_toArray, modCells_learns h.1]
theorem ModAt.frozen (h : ModAt w g l fx) (j : Nat) : w.frozen? ⟨g, j, none⟩ = false := h.2.frozen j
theorem ModAt.drewN (h : ModAt w g l fx) (n : Nat) : ModAt (w.drewN n) g l fx := h
theorem ModAt.keep (h : ModAt w g l fx) (hk : w'.heap[g]? = w.heap[g]?) : ModAt w' g l fx := ⟨h.1, h.2.keep hk⟩
theorem ModAt.keeps {F : Nat → Prop} (h : ModAt w g l fx) (hk : Keeps F w w') (hn : ¬ F g) : ModAt w' g l fx := ⟨h.1, h.2.keeps hk hn⟩
theorem ModAt.below (h : ModAt w g l fx) (hk : Below w.heap.size w w') : ModAt w' g l fx := ⟨h.1, h.2.below hk⟩
theorem ModAt.stored (h : ModAt w g l fx) {j : Nat} (hj : j < l.length) (x : Int) : ModAt (w.setCell ⟨g, j, none⟩ (.int .u32 x)) g (l.set j x) fx := by
  refine ⟨by rw [List.length_set]; exact h.1, ?_⟩
  have := h.2.set_ j (.int .u32 x)
  rw [List.setIfInBounds_toArray, modCells_set h.1 hj] at this
  exact this
theorem ModAt.ints (h : ModAt w g l fx) : IntsAt w w.heap.size .u32 (some ⟨g, 0, none⟩) l.length l :=
  ⟨rfl, .inr ⟨g, 0, rfl, h.lt, by have := h.1; omega, fun j hj => by rw [Nat.zero_add]; exact h.at_ hj⟩⟩
end
theorem IntsAt.drewN {w : World} {B len : Nat} {k : IntKind} {a : Option Addr} {zs : List Int} (h : IntsAt w B k a len zs) (n : Nat) : IntsAt (w.drewN n) B k a len zs := h
theorem IntsAt.take {w : World} {B len : Nat} {k : IntKind} {a : Option Addr} {zs : List Int} (h : IntsAt w B k a len zs) {n : Nat} (hn : n ≤ len) : IntsAt w B k a n (zs.take n) := by
  obtain ⟨h1, h2⟩ := h
  refine ⟨by simp; omega, ?_⟩
  rcases h2 with h2 | ⟨b, off, e, h3, h4, h5⟩
  · exact .inl (by omega)
  · refine .inr ⟨b, off, e, h3, by omega, fun j hj => ?_⟩
    rw [h5 j (by omega)]
    simp [List.getD, hj]
theorem syms_slice (g n : Nat) (hn : n ≤ 64) (w : World) : (Instr.sliceAt 275 (.pointer (some ⟨g, 0, none⟩)) none (some (.int .i64 (n : Int))) none).run Tryz.prog w = .ok (.slice (some ⟨g, 0, none⟩) n 64) w := by
  have e : Tryz.prog.arrayLen 275 = 64 := by kernel_rfl
  have e2 : Tryz.prog.elem 275 = 34 := by kernel_rfl
  have ht : Tryz.prog.underlying 275 = some (.array (Tryz.prog.arrayLen 275) (Tryz.prog.elem 275)) := by kernel_rfl
  have es : (sizeOf 34).run Tryz.prog w = .ok 1 w := by kernel_rfl
  rw [run_sliceAt_array_h w _ _ ht .i64 n (by omega) (by rw [e]; omega), e, e2, es]
  simp [Result.andThen, slicedAt, Addr.add]
theorem syms_all (g : Nat) (w : World) : (Instr.sliceAt 275 (.pointer (some ⟨g, 0, none⟩)) none none none).run Tryz.prog w = .ok (.slice (some ⟨g, 0, none⟩) 64 64) w := by
  have e : Tryz.prog.arrayLen 275 = 64 := by kernel_rfl
  have e2 : Tryz.prog.elem 275 = 34 := by kernel_rfl
  have ht : Tryz.prog.underlying 275 = some (.array (Tryz.prog.arrayLen 275) (Tryz.prog.elem 275)) := by kernel_rfl
  have es : (sizeOf 34).run Tryz.prog w = .ok 1 w := by kernel_rfl
  rw [run_sliceAt_array_all w _ _ ht, e, e2, es]
  simp [Result.andThen, slicedAt, Addr.add]
theorem modSyms_any (g : Nat) (l : List Int) (fx : Bool) (w : World) (h : ModAt w g l fx) :
    Calls Tryz.prog 207 #[.pointer (some ⟨g, 0, none⟩)] w fun e w' => e = .returned (.slice (some ⟨g, 0, none⟩) l.length 64) ∧ ∃ n, w' = w.drewN n := by
  have c0 := h.count
  have h64 := h.1
  have hsl := fun w => syms_slice g l.length h64 w
  clear h
  go_enter Tryz.func207, Tryz.ntmps207
  go_wp2
  go_quiet (fail)
  go_wp2
  go_ret
  exact ⟨rfl, nq, rfl⟩
theorem modLen_any (g : Nat) (l : List Int) (fx : Bool) (w : World) (h : ModAt w g l fx) :
    Calls Tryz.prog 210 #[.pointer (some ⟨g, 0, none⟩)] w fun e w' => e = .returned (.int .i64 l.length) ∧ ∃ n, w' = w.drewN n := by
  have H := Lib.hid h
  clear h
  go_enter Tryz.func210, Tryz.ntmps210
  go_wp2_with (go_at_call 207; refine (modSyms_any g l fx _ H.out).mono ?_; rintro e w' ⟨rfl, nq, rfl⟩)
  go_ret
  exact ⟨rfl, nq, rfl⟩
theorem modHas_any (g : Nat) (l : List Int) (fx : Bool) (s : Int) (w : World) (h : ModAt w g l fx) :
    Calls Tryz.prog 206 #[.pointer (some ⟨g, 0, none⟩), .int .i64 s] w fun e w' => e = .returned (.bool (decide (0 ≤ s ∧ s < l.length))) ∧ ∃ n, w' = w.drewN n := by
  have H := Lib.hid h
  clear h
  by_cases h0 : 0 ≤ s
  · go_enter Tryz.func206, Tryz.ntmps206
    go_wp2_with (go_at_call 210; refine (modLen_any g l fx _ H.out).mono ?_; rintro e w' ⟨rfl, nq, rfl⟩)
    go_ret
    exact ⟨ret_bool (by simp [h0]), nq, rfl⟩
  · have hd : decide (0 ≤ s) = false := by simp; omega
    go_enter Tryz.func206, Tryz.ntmps206
    go_wp2
    go_ret
    exact ⟨ret_bool (by simp <;> omega), 0, rfl⟩
theorem modSum_any (a : Option Addr) (len cap B : Nat) (zs : List Int) (w : World) (h : IntsAt w B .u32 a len zs) (hl : len ≤ 64) (hb : ∀ j, j < len → 0 ≤ zs.getD j 0) (hs : sumN zs len ≤ 4294967295) :
    Calls Tryz.prog 208 #[.slice a len cap] w fun e w' => e = .returned (.int .u32 (sumN zs len)) ∧ w = w' := by
  have H0 := Lib.hid h
  have HB := Lib.hid hb
  have HL := Lib.hid h.1
  have HS := Lib.hid hs
  clear h hb hs
  go_enter Tryz.func208, Tryz.ntmps208
  go_wp2
  go_loop [3, 5, 8] (fun s _ i => ∃ k : Nat, k ≤ len ∧ i = .int .i64 k ∧ s = .int .u32 (sumN zs k)) (fun _ _ i => len - (intOf i).toNat)
  case atStart => exact ⟨0, by omega, rfl, by rw [sumN_zero]⟩
  case round =>
    obtain ⟨k, hk, rfl, rfl⟩ := hrel
    by_cases hlt : k < len
    · obtain ⟨b, off, rfl, _, _, hcell⟩ := H0.out.at_ hlt
      have x0 := HB.out k hlt
      have E := Lib.hid (sumN_succ zs k (by rw [HL.out]; exact hlt))
      have m1 := sumN_rise (l := zs) (fun j hj => HB.out j (by rw [← HL.out]; exact hj)) (m := k + 1) (n := len) (by omega) (by rw [HL.out]; exact Nat.le_refl _)
      have m0 := sumN_rise (l := zs) (fun j hj => HB.out j (by rw [← HL.out]; exact hj)) (m := 0) (n := k) (by omega) (by rw [HL.out]; omega)
      rw [sumN_zero] at m0
      rw [E.out] at m1
      have m2 := HS.out
      generalize zs.getD k 0 = x at hcell x0 E m1
      have E2 : RowKit.Hid (sumN zs (k + 1) = sumN zs k + x) := E.out
      clear E
      generalize sumN zs k = y at m0 m1 E2 ⊢
      have u1 : y + x ≤ 4294967295 := by omega
      clear m1 m2
      go_wp2
      go_round
      case rel => exact ⟨k + 1, by omega, by go_num, by rw [E2.out]⟩
      case measure => simp [intOf] <;> omega
    · obtain rfl : k = len := by omega
      go_wp2
      go_ret
      exact ⟨rfl, rfl⟩
def partV (l : List Int) (s : Nat) : Value := .agg #[.int .u32 (sumN l s), .int .u32 (l.getD s 0), .int .u32 l.sum]
theorem sumN_take (l : List Int) (n : Nat) : sumN (l.take n) n = sumN l n := by unfold sumN; rw [List.take_take, Nat.min_self]
theorem modSum_at (g : Nat) (l : List Int) (fx : Bool) (n cap : Nat) (w : World) (h : ModAt w g l fx) (hG : GoodL l) (hn : n ≤ l.length) :
    Calls Tryz.prog 208 #[.slice (some ⟨g, 0, none⟩) n cap] w fun e w' => e = .returned (.int .u32 (sumN l n)) ∧ w = w' := by
  have h64 := h.1
  have b := hG.sum_le hn
  have k := modSum_any (some ⟨g, 0, none⟩) n cap w.heap.size (l.take n) w (h.ints.take hn) (by omega) (fun j hj => ?_) (by rw [sumN_take]; omega)
  · rw [sumN_take] at k
    exact k
  · have := hG.own (j := j) (by omega)
    simp [List.getD, hj] at this ⊢
    omega
set_option maxRecDepth 100000 in
theorem modPart_any (g : Nat) (l : List Int) (fx : Bool) (s : Nat) (w : World) (h : ModAt w g l fx) (hG : GoodL l) (hs : s < l.length) :
    Calls Tryz.prog 202 #[.pointer (some ⟨g, 0, none⟩), .int .i64 s] w fun e w' => e = .returned (.tuple #[partV l s, .int .i64 0]) ∧ Below w.heap.size w w' := by
  have H := Lib.hid h
  have HG := Lib.hid hG
  have hsl : (s : Int) < (l.length : Int) := by omega
  have hd : decide (0 ≤ (s : Int) ∧ (s : Int) < l.length) = true := by simp; omega
  have h64 := h.1
  have HA := Lib.hid (h.below (Below.alloc_new w (.cells #[.int .u32 0, .int .u32 0, .int .u32 0] 263)))
  have hc := Lib.hid (Cel.new w 263 #[.int .u32 0, .int .u32 0, .int .u32 0])
  have hB := Lib.hid (Below.alloc_new w (.cells #[.int .u32 0, .int .u32 0, .int .u32 0] 263))
  clear h hG
  go_enter Tryz.func202, Tryz.ntmps202
  go_wp2_with (first | (go_at_call 206; go_loud (refine (modHas_any g l fx _ _ HA.out).mono ?_); rintro e w' ⟨rfl, n1, rfl⟩; rw [hd]; have HA1 := Lib.hid (HA.out.drewN n1)) | (go_at_call 207; go_loud (refine (modSyms_any g l fx _ HA1.out).mono ?_); rintro e w' ⟨rfl, n2, rfl⟩))
  obtain ⟨w1, hw1⟩ : ∃ w1, w1 = (w.alloc (.cells #[.int .u32 0, .int .u32 0, .int .u32 0] 263)).drewN (n1 + n2) := ⟨_, rfl⟩
  rw [← hw1]
  have HM : RowKit.Hid (ModAt w1.drew g l fx) := by rw [hw1]; exact HA.out
  have hc1 : Cel w1 w.heap.size 263 #[.int .u32 0, .int .u32 0, .int .u32 0] := by rw [hw1]; exact hc.out
  have HB1 : RowKit.Hid (Below w.heap.size w w1.drew) := by rw [hw1]; exact Below.drewN' hB.out (n1 + n2 + 1)
  clear hw1 HA HA1 hc hB
  have x1 : w1.cell? ⟨g, s, none⟩ = some (.int .u32 (l.getD s 0)) := HM.out.at_ hs
  obtain ⟨y0, y1⟩ := HG.out.own hs
  have HV : RowKit.Hid (partV l s = .agg #[.int .u32 (sumN l s), .int .u32 (l.getD s 0), .int .u32 (sumN l l.length)]) := by show _ = _; rw [sumN_all]; exact rfl
  generalize l.getD s 0 = x at x1 y0 y1 HV
  have c0 := hc1.cell 0
  have c1 := hc1.cell 1
  have c2 := hc1.cell 2
  simp only [List.getElem?_toArray, List.getElem?_cons_zero, List.getElem?_cons_succ] at c0 c1 c2
  have f0 := hc1.frozen 0
  have f1 := hc1.frozen 1
  have f2 := hc1.frozen 2
  clear hc1
  have s64 : (s : Int) ≤ 64 := by omega
  go_still_tail 11, (by kernel_rfl)
  still_call ((modSum_at g l fx s _ _ HM.out HG.out (by omega)).mono fun _ _ h => ⟨h.1, h.2.symm⟩)
  repeat still_step
  still_call ((modSum_at g l fx l.length _ _ HM.out HG.out (by omega)).mono fun _ _ h => ⟨h.1, h.2.symm⟩)
  repeat still_step
  refine wpStill_nil ?_
  change wpList _ _ _ _ _ w1.drew
  go_wp2
  refine bodyPost_ret (v := .tuple #[.agg #[.int .u32 (sumN l s), .int .u32 x, .int .u32 (sumN l l.length)], .int .i64 0]) (by simp [results, Tryz.results202, go_sem, c0, c1, c2]) rfl ⟨by rw [HV.out], ?_⟩
  exact ((HB1.out.setCell (p := ⟨w.heap.size, 0, none⟩) (Nat.le_refl _) _).setCell (p := ⟨w.heap.size, 1, none⟩) (Nat.le_refl _) _).setCell (p := ⟨w.heap.size, 2, none⟩) (Nat.le_refl _) _
theorem modLearn_fixed (g : Nat) (l : List Int) (s : Nat) (w : World) (h : ModAt w g l true) (hs : s < l.length) :
    Calls Tryz.prog 203 #[.pointer (some ⟨g, 0, none⟩), .int .i64 s] w fun e w' => e = .returned (.int .i64 0) ∧ ∃ n, w' = w.drewN n := by
  have hd : decide (0 ≤ (s : Int) ∧ (s : Int) < (l.length : Int)) = true := by simp; omega
  have H := Lib.hid h
  have c1 : w.cell? ⟨g, 65, none⟩ = some (.bool false) := h.learns
  clear h hs
  go_enter Tryz.func203, Tryz.ntmps203
  go_wp2_with (go_at_call 206; go_loud (refine (modHas_any g l true _ _ H.out).mono ?_); rintro e w' ⟨rfl, n1, rfl⟩; rw [hd])
  go_ret
  exact ⟨rfl, n1, rfl⟩
set_option maxRecDepth 100000 in
theorem modHalve_any (g : Nat) (l : List Int) (fx : Bool) (w : World) (h : ModAt w g l fx) (hb : ∀ j, j < l.length → 0 ≤ l.getD j 0 ∧ l.getD j 0 ≤ 16384) :
    Calls Tryz.prog 209 #[.pointer (some ⟨g, 0, none⟩)] w fun e w' => e = .returned (.tuple #[]) ∧ ModAt w' g (halfL l) fx ∧ Keeps (fun k => k = g) w w' := by
  have H := Lib.hid h
  have HB := Lib.hid hb
  have h64 := h.1
  clear h hb
  go_enter Tryz.func209, Tryz.ntmps209
  go_wp2_with (go_at_call 207; go_loud (refine (modSyms_any g l fx _ H.out).mono ?_); rintro e w' ⟨rfl, n2, rfl⟩)
  go_loopw [2, 3, 7] (fun _ _ i wr => ∃ k : Nat, k ≤ l.length ∧ i = .int .i64 k ∧ RowKit.Hid (ModAt wr g (halfK l k) fx ∧ Keeps (fun k => k = g) w wr)) (fun _ _ i _ => l.length - (intOf i).toNat)
  case atStart => exact ⟨0, by omega, rfl, by rw [halfK_zero]; exact H.out, (Keeps.refl _ w).drewN n2⟩
  case round =>
    obtain ⟨k, hk, rfl, HW⟩ := hrel
    by_cases hlt : k < l.length
    · have hl := halfK_len l (k := k) (by omega)
      have i1 := HW.out.1.at_ (j := k) (by omega)
      have f1 := HW.out.1.frozen k
      rw [halfK_at l hlt] at i1
      obtain ⟨x0, x1⟩ := HB.out k hlt
      have HN := Lib.hid (halfK_next l hlt)
      generalize l.getD k 0 = x at i1 x0 x1 HN
      have HS : RowKit.Hid (ModAt (wr.setCell ⟨g, k, none⟩ (.int .u32 ((x + 1) / 2))) g (halfK l (k + 1)) fx ∧ Keeps (fun k => k = g) w (wr.setCell ⟨g, k, none⟩ (.int .u32 ((x + 1) / 2)))) :=
        ⟨by rw [← HN.out]; exact HW.out.1.stored (by omega) _, HW.out.2.setCell (.inl rfl) _⟩
      have g2 : (k : Int) < (l.length : Int) := by omega
      have g4 : (k : Int) < 64 := by omega
      clear hl
      go_wp2
      go_roundw
      case rel => exact ⟨k + 1, by omega, by go_num, HS.out.1, HS.out.2⟩
      case measure => simp [intOf] <;> omega
    · obtain rfl : k = l.length := by omega
      go_wp2
      go_end0
      exact ⟨rfl, by rw [← halfK_all]; exact HW.out.1, HW.out.2⟩
theorem modSum_all (g : Nat) (l : List Int) (fx : Bool) (cap : Nat) (w : World) (h : ModAt w g l fx) (hb : ∀ j, j < l.length → 0 ≤ l.getD j 0) (hs : sumN l l.length ≤ 4294967295) :
    Calls Tryz.prog 208 #[.slice (some ⟨g, 0, none⟩) l.length cap] w fun e w' => e = .returned (.int .u32 (sumN l l.length)) ∧ w = w' :=
  modSum_any (some ⟨g, 0, none⟩) l.length cap w.heap.size l w h.ints h.1 hb hs
theorem modSyms_at (g : Nat) (l : List Int) (fx : Bool) (n : Nat) (w : World) (h : ModAt w g l fx) (hn : l.length = n) :
    Calls Tryz.prog 207 #[.pointer (some ⟨g, 0, none⟩)] w fun e w' => e = .returned (.slice (some ⟨g, 0, none⟩) n 64) ∧ ∃ n, w' = w.drewN n := by
  subst hn; exact modSyms_any g l fx w h
theorem modSum_n (g : Nat) (l : List Int) (fx : Bool) (n cap : Nat) (w : World) (h : ModAt w g l fx) (hn : l.length = n) (hb : ∀ j, j < l.length → 0 ≤ l.getD j 0) (hs : sumN l l.length ≤ 4294967295) :
    Calls Tryz.prog 208 #[.slice (some ⟨g, 0, none⟩) n cap] w fun e w' => e = .returned (.int .u32 (sumN l l.length)) ∧ w = w' := by
  subst hn; exact modSum_all g l fx cap w h hb hs
set_option maxRecDepth 100000 in
theorem modLearn_any (g : Nat) (l : List Int) (s : Nat) (w : World) (h : ModAt w g l false) (hG : GoodL l) (hs : s < l.length) :
    Calls Tryz.prog 203 #[.pointer (some ⟨g, 0, none⟩), .int .i64 s] w fun e w' => e = .returned (.int .i64 0) ∧ ModAt w' g (learnP l s) false ∧ Keeps (fun k => k = g) w w' := by
  have hd : decide (0 ≤ (s : Int) ∧ (s : Int) < (l.length : Int)) = true := by simp; omega
  have H := Lib.hid h
  have HG := Lib.hid hG
  have c1 : w.cell? ⟨g, 65, none⟩ = some (.bool true) := h.learns
  have hcell := h.at_ hs
  have hfz := h.frozen s
  have h64 := h.1
  obtain ⟨x0, x1⟩ := hG.own hs
  have E : RowKit.Hid (riseL l s = l.set s (l.getD s 0 + 32)) := rfl
  clear h hG
  generalize l.getD s 0 = x at hcell x0 x1 E
  have hlen := Lib.hid (riseL_len l s)
  have HS : RowKit.Hid (ModAt (w.setCell ⟨g, s, none⟩ (.int .u32 (x + 32))) g (riseL l s) false) := by
    show ModAt _ _ _ _
    rw [E.out]; exact H.out.stored hs (x + 32)
  have HK := Lib.hid ((Keeps.refl (fun k => k = g) w).setCell (p := ⟨g, s, none⟩) (.inl rfl) (.int .u32 (x + 32)))
  have s64 : (s : Int) < 64 := by omega
  have hb : ∀ j, j < (riseL l s).length → 0 ≤ (riseL l s).getD j 0 ∧ (riseL l s).getD j 0 ≤ 16384 := by
    intro j hj
    rw [hlen.out] at hj
    have := riseL_own HG.out hs hj
    omega
  have HB := Lib.hid hb
  have hsm : sumN (riseL l s) (riseL l s).length ≤ 8224 := by
    have a := riseL_sum hs
    have b := HG.out.2.2.2
    rw [sumN_all]; omega
  have HSM := Lib.hid hsm
  clear hb hsm
  go_enter Tryz.func203, Tryz.ntmps203
  go_wp2_with (go_at_call 206; go_loud (refine (modHas_any g l false _ _ H.out).mono ?_); rintro e w' ⟨rfl, n1, rfl⟩; rw [hd])
  have g1 : IntKind.u32.wrap (x + 32) = x + 32 := IntWalk.u32_in _ (by omega)
  go_region
  clear g1 hcell hfz c1
  obtain ⟨w1, hw1⟩ : ∃ w1, w1 = (w.drewN (n1 + 1)).setCell ⟨g, s, none⟩ (.int .u32 (x + 32)) := ⟨_, rfl⟩
  rw [← hw1]
  have HM : RowKit.Hid (ModAt w1 g (riseL l s) false) := by rw [hw1]; exact HS.out.keep rfl
  have HK1 : RowKit.Hid (Keeps (fun k => k = g) w w1) := by
    rw [hw1]; exact ((Keeps.refl (fun k => k = g) w).drewN (n1 + 1)).setCell (p := ⟨g, s, none⟩) (.inl rfl) _
  clear hw1 HS HK H
  have hq := Lib.hid (sumN_all (riseL l s))
  have hy0 : 0 ≤ sumN (riseL l s) (riseL l s).length := by
    have := sumN_rise (l := riseL l s) (fun j hj => (HB.out j hj).1) (m := 0) (n := (riseL l s).length) (by omega) (Nat.le_refl _)
    rw [sumN_zero] at this
    exact this
  have hy1 := HSM.out
  obtain ⟨y, hy⟩ : ∃ y, y = sumN (riseL l s) (riseL l s).length := ⟨_, rfl⟩
  have HY := Lib.hid hy
  rw [← hy] at hy0 hy1
  clear hy
  by_cases hbig : 8192 < y
  · have hln : RowKit.Hid (learnP l s = halfL (riseL l s)) := by
      unfold learnP
      rw [← hq.out, if_pos (by rw [← HY.out]; exact hbig)]; exact rfl
    go_wp2_with (first | (go_at_call 207; go_loud (refine (modSyms_at g (riseL l s) false l.length _ HM.out hlen.out).mono ?_); rintro e w' ⟨rfl, n2, rfl⟩; have HM2 := Lib.hid (HM.out.drewN n2)) | (go_at_call 208; go_loud (refine (modSum_n g (riseL l s) false l.length _ _ HM2.out hlen.out (fun j hj => (HB.out j hj).1) (by have := HSM.out; omega)).mono ?_); rintro e w' ⟨rfl, rfl⟩; rw [← HY.out]) | (go_at_call 209; go_loud (refine (modHalve_any g (riseL l s) false _ HM2.out HB.out).mono ?_); rintro e w3 ⟨rfl, hm, hk⟩; have HR := Lib.hid hm; have HK3 := Lib.hid hk; clear hm hk))
    go_ret
    exact ⟨rfl, by rw [hln.out]; exact HR.out, (HK1.out.drewN n2).trans HK3.out⟩
  · have hln : RowKit.Hid (learnP l s = riseL l s) := by
      unfold learnP
      rw [← hq.out, if_neg (by rw [← HY.out]; exact hbig)]; exact rfl
    go_wp2_with (first | (go_at_call 207; go_loud (refine (modSyms_at g (riseL l s) false l.length _ HM.out hlen.out).mono ?_); rintro e w' ⟨rfl, n2, rfl⟩; have HM2 := Lib.hid (HM.out.drewN n2)) | (go_at_call 208; go_loud (refine (modSum_n g (riseL l s) false l.length _ _ HM2.out hlen.out (fun j hj => (HB.out j hj).1) (by have := HSM.out; omega)).mono ?_); rintro e w' ⟨rfl, rfl⟩; rw [← HY.out]))
    go_ret
    exact ⟨rfl, by rw [hln.out]; exact HM2.out, HK1.out.drewN n2⟩
def newCells (k n : Nat) (b : Bool) : List Value := ((List.replicate k (1 : Int) ++ List.replicate (64 - k) 0).map (Value.int .u32)) ++ [.int .i64 n, .bool b]
theorem newCells_done (n : Nat) : newCells n n true = modCells (List.replicate n 1) false := by
  unfold newCells modCells; simp
theorem newCells_next {k n : Nat} (h : k < 64) (b : Bool) : (newCells k n b).set k (.int .u32 1) = newCells (k + 1) n b := by
  unfold newCells
  rw [List.set_append_left _ _ (by simp; omega), ← List.map_set, List.set_append_right _ _ (by simp)]
  simp only [List.length_replicate, Nat.sub_self]
  rw [show 64 - k = (64 - (k + 1)) + 1 by omega, List.replicate_succ, List.set_cons_zero, List.replicate_succ']
  simp
theorem newCells_at {k n : Nat} (h : k < 64) (b : Bool) : (newCells k n b)[k]? = some (.int .u32 0) := by
  unfold newCells
  rw [List.getElem?_append_left (by simp; omega), List.getElem?_map, List.getElem?_append_right (by simp)]
  simp [show 0 < 64 - k by omega]
theorem newCells_size (k n : Nat) (h : k ≤ 64) (b : Bool) : (newCells k n b).length = 66 := by unfold newCells; simp; omega
theorem newCells_one (k n : Nat) (b : Bool) : (newCells k n b).toArray.all (·.oneCell') = true := by
  rw [Array.all_eq_true_iff_forall_mem]
  intro x hx
  simp only [newCells, List.map_append, List.map_replicate, List.append_assoc, List.mem_toArray, List.mem_append, List.mem_replicate, List.mem_cons, List.not_mem_nil, or_false] at hx
  rcases hx with ⟨_, rfl⟩ | ⟨_, rfl⟩ | rfl | rfl <;> rfl
theorem mod_zero (w : World) : (zeroValue 277).run Tryz.prog w = .ok (.agg (newCells 0 0 false).toArray) w :=
  (zero_of_info (t := 277) (v := .agg (newCells 0 0 false).toArray) (n := 66) (by kernel_rfl)).1 w
theorem mod_size : (Tryz.prog.info? 277).map (·.size) = some 66 := (zero_of_info (t := 277) (v := .agg (newCells 0 0 false).toArray) (n := 66) (by kernel_rfl)).2
theorem mod_build (n : Nat) : Tryz.prog.built 277 [(1, .int .i64 n), (2, .bool true)] = some (newCells 0 n true).toArray := by kernel_rfl
theorem mod_build_fixed (n : Nat) : Tryz.prog.built 277 [(1, .int .i64 n)] = some (newCells 0 n false).toArray := by kernel_rfl
theorem wpList_build_as {P : Program} {ops : Array Oper} {rest : List Oper} {o : Oper} {a : Act} {w : World} {Q : Exit → Act → World → Prop} (hg : o.guard = none) (t : TypeId) (parts : Array (Nat × Operand)) (ho : o.op = .build t parts) (cs : Array Value)
    (vs : List (Nat × Value)) (hv : (parts.map fun (i, x) => (i, a.eval x)).toList = vs) (hf : P.built t vs = some cs) (h : wpList P ops Q rest (a.put o.dst (.agg cs)) w) : wpList P ops Q (o :: rest) a w :=
  wpList_build hg t parts ho (by rw [hv, hf]; rfl) (by rw [hv, hf]; exact h)
set_option maxRecDepth 100000 in
theorem modNew_any (n : Nat) (w : World) (h0 : 1 ≤ n) (h1 : n ≤ 64) :
    Calls Tryz.prog 191 #[.int .i64 n] w fun e w' => ∃ g, e = .returned (.tuple #[.pointer (some ⟨g, 0, none⟩), .int .i64 0]) ∧ w.heap.size ≤ g ∧ ModAt w' g (List.replicate n 1) false ∧ Below w.heap.size w w' := by
  have hd : decide ((n : Int) < 1) = false := by simp; omega
  have hd2 : decide ((64 : Int) < (n : Int)) = false := by simp; omega
  have hz := mod_zero
  have HC := Lib.hid (Cel.new w 277 (newCells 0 n true).toArray)
  have HB := Lib.hid (Below.alloc_new w (.cells (newCells 0 n true).toArray 277))
  have hbd := mod_build n
  have hcs : ∃ c0 c1, c0 = (newCells 0 0 false).toArray ∧ c1 = (newCells 0 n true).toArray := ⟨_, _, rfl, rfl⟩
  obtain ⟨c0, c1, e0, e1⟩ := hcs
  have E1 := Lib.hid e1
  have z0 : c0.size = 66 := by rw [e0, List.size_toArray, newCells_size _ _ (by omega)]
  have z1 : c1.size = 66 := by rw [e1, List.size_toArray, newCells_size _ _ (by omega)]
  have o1 : c1.all (·.oneCell') = true := by rw [e1]; exact newCells_one _ _ _
  have hi : (Tryz.prog.info? 277).map (·.size) = some c1.size := by rw [z1]; exact mod_size
  rw [← e0] at hz
  rw [← e1] at hbd HC HB
  have HBD := Lib.hid hbd
  have HI := Lib.hid hi
  have HO := Lib.hid o1
  have HZ := Lib.hid (z0.trans z1.symm)
  clear e0 e1 z0 z1 o1 hi hbd
  go_enter Tryz.func191, Tryz.ntmps191
  go_wp2_with (first | (refine wpList_build_as rfl 277 _ rfl c1 [(1, .int .i64 n), (2, .bool true)] (by kernel_rfl) HBD.out ?_) | (refine wpList_store_row rfl 277 _ _ rfl w.heap.size c1 rfl rfl 277 c0 (heap_alloc_last w _) HI.out HZ.out HO.out ?_; rw [World.setRow_alloc_new]))
  have HC2 : RowKit.Hid (Cel (w.alloc (.cells c1 277)) w.heap.size 277 (newCells 0 n true).toArray) := by rw [← E1.out]; exact HC.out
  clear HC hz HBD HI HO HZ
  go_loopw [5, 15] (fun _ i wr => ∃ k : Nat, k ≤ n ∧ i = .int .i64 k ∧ RowKit.Hid (Cel wr w.heap.size 277 (newCells k n true).toArray ∧ Below w.heap.size w wr)) (fun _ i _ => n - (intOf i).toNat)
  case atStart => exact ⟨0, by omega, rfl, HC2.out, HB.out⟩
  case round =>
    obtain ⟨k, hk, rfl, HW⟩ := hrel
    clear HC2 HB
    by_cases hlt : k < n
    · have k64 : k < 64 := by omega
      have i1 := HW.out.1.cell k
      rw [List.getElem?_toArray, newCells_at k64] at i1
      have f1 := HW.out.1.frozen k
      have HS : RowKit.Hid (Cel (wr.setCell ⟨w.heap.size, k, none⟩ (.int .u32 1)) w.heap.size 277 (newCells (k + 1) n true).toArray ∧ Below w.heap.size w (wr.setCell ⟨w.heap.size, k, none⟩ (.int .u32 1))) := by
        refine ⟨?_, HW.out.2.setCell (Nat.le_refl _) _⟩
        have := HW.out.1.set_ k (.int .u32 1)
        rw [List.setIfInBounds_toArray, newCells_next k64] at this
        exact this
      have g4 : (k : Int) < 64 := by omega
      go_wp2
      go_roundw
      case rel => exact ⟨k + 1, by omega, by go_num, HS.out⟩
      case measure => simp [intOf] <;> omega
    · obtain rfl : k = n := by omega
      go_wp2
      go_ret2
      exact ⟨w.heap.size, rfl, Nat.le_refl _, ⟨by simp; omega, by rw [← newCells_done]; exact HW.out.1⟩, HW.out.2⟩
theorem splice_fixed {zs : List Int} {k : Nat} (h : zs.length = k) (hk : k ≤ 64) : splice (newCells 0 k false) 0 (zs.map (Value.int .u32)) = modCells zs true := by
  subst h
  unfold splice newCells modCells
  simp only [List.take_zero, List.nil_append, Nat.zero_add, List.length_map, List.replicate_zero, Nat.sub_zero, List.map_append, List.map_replicate]
  rw [List.drop_append_of_le_length (by rw [List.length_replicate]; exact hk), List.drop_replicate, List.append_assoc]
  rfl
def FixOk (zs : List Int) (len : Nat) : Prop := (∀ j, j < len → 1 ≤ zs.getD j 0) ∧ sumN zs len ≤ 8192
set_option maxRecDepth 100000 in
theorem modFixed_any (a : Option Addr) (len cap : Nat) (zs : List Int) (w : World) (h : IntsAt w w.heap.size .u32 a len zs) (hb : ∀ j, j < len → 0 ≤ zs.getD j 0 ∧ zs.getD j 0 ≤ 4294967295) (h0 : 1 ≤ len) (h1 : len ≤ 64) :
    Calls Tryz.prog 201 #[.slice a len cap] w fun e w' => Below w.heap.size w w' ∧
      ((¬ FixOk zs len ∧ e = .returned (.tuple #[.pointer none, .int .i64 1])) ∨
       (FixOk zs len ∧ ∃ g, e = .returned (.tuple #[.pointer (some ⟨g, 0, none⟩), .int .i64 0]) ∧ w.heap.size ≤ g ∧ ModAt w' g zs true)) := by
  obtain ⟨b, off, rfl, hbB, _, _⟩ := h.at_ (j := 0) (by omega)
  have H0 := Lib.hid h
  have HL := Lib.hid h.1
  have HW := Lib.hid hb
  clear h hb
  have hd : decide ((len : Int) < 1) = false := by simp; omega
  have hd2 : decide ((64 : Int) < (len : Int)) = false := by simp; omega
  have hz := mod_zero
  have HC := Lib.hid (Cel.new w 277 (newCells 0 len false).toArray)
  have HB := Lib.hid (Below.alloc_new w (.cells (newCells 0 len false).toArray 277))
  have hbd := mod_build_fixed len
  have hcs : ∃ c0 c1, c0 = (newCells 0 0 false).toArray ∧ c1 = (newCells 0 len false).toArray := ⟨_, _, rfl, rfl⟩
  obtain ⟨c0, c1, e0, e1⟩ := hcs
  have E1 := Lib.hid e1
  have z0 : c0.size = 66 := by rw [e0, List.size_toArray, newCells_size _ _ (by omega)]
  have z1 : c1.size = 66 := by rw [e1, List.size_toArray, newCells_size _ _ (by omega)]
  have o1 : c1.all (·.oneCell') = true := by rw [e1]; exact newCells_one _ _ _
  have hi : (Tryz.prog.info? 277).map (·.size) = some c1.size := by rw [z1]; exact mod_size
  rw [← e0] at hz
  rw [← e1] at hbd HC HB
  have HBD := Lib.hid hbd
  have HI := Lib.hid hi
  have HO := Lib.hid o1
  have HZ := Lib.hid (z0.trans z1.symm)
  clear e0 e1 z0 z1 o1 hi hbd
  go_enter Tryz.func201, Tryz.ntmps201
  go_wp2
  go_loop [4, 6, 18] (fun d _ i => ∃ k : Nat, k ≤ len ∧ i = .int .i64 k ∧ d = .int .u32 (8192 - sumN zs k) ∧ sumN zs k ≤ 8192 ∧ RowKit.Hid (∀ j, j < k → 1 ≤ zs.getD j 0)) (fun _ _ i => len - (intOf i).toNat)
  case atStart => exact ⟨0, by omega, rfl, by rw [sumN_zero]; rfl, by rw [sumN_zero]; decide, fun j hj => by omega⟩
  case round =>
    obtain ⟨k, hk, rfl, rfl, hs, HP⟩ := hrel
    have hs0 : 0 ≤ sumN zs k := by
      have := sumN_rise (l := zs) (fun j hj => (HW.out j (by rw [← HL.out]; exact hj)).1) (m := 0) (n := k) (by omega) (by rw [HL.out]; exact hk)
      rw [sumN_zero] at this
      exact this
    by_cases hlt : k < len
    · obtain ⟨b', off', e', _, _, hcell⟩ := H0.out.at_ hlt
      obtain ⟨rfl, rfl⟩ : b = b' ∧ off = off' := by injection e' with e'; injection e' with e1 e2; exact ⟨e1, e2⟩
      clear e'
      obtain ⟨x0, x1⟩ := HW.out k hlt
      have E := Lib.hid (sumN_succ zs k (by rw [HL.out]; exact hlt))
      have m1 := Lib.hid (fun h => sumN_rise (l := zs) (fun j hj => (HW.out j (by rw [← HL.out]; exact hj)).1) (m := k + 1) (n := len) h (by rw [HL.out]; exact Nat.le_refl _))
      obtain ⟨x, hxd⟩ : ∃ x, x = zs.getD k 0 := ⟨_, rfl⟩
      have HX := Lib.hid hxd
      rw [← hxd] at hcell x0 x1
      have E2 : RowKit.Hid (sumN zs (k + 1) = sumN zs k + x) := by show _ = _; rw [hxd]; exact E.out
      clear hxd E
      generalize hy : sumN zs k = y at hs hs0 E2 ⊢
      clear hy
      have g2 : (k : Int) < (len : Int) := by omega
      by_cases hx1 : x < 1
      · have q1 : decide (x < 1) = true := by simp; omega
        go_wp2
        go_ret2
        exact ⟨Below.refl _ _, .inl ⟨fun c => by have := c.1 k hlt; rw [← HX.out] at this; omega, rfl⟩⟩
      · have q1 : decide (x < 1) = false := by simp; omega
        by_cases hx2 : 8192 - y < x
        · have q2 : decide (8192 - y < x) = true := by simp; omega
          go_wp2
          go_ret2
          refine ⟨Below.refl _ _, .inl ⟨fun c => ?_, rfl⟩⟩
          have a := m1.out (by omega)
          have b := c.2
          rw [E2.out] at a
          omega
        · have q2 : decide (8192 - y < x) = false := by simp; omega
          go_wp2
          go_round
          case rel =>
            refine ⟨k + 1, by omega, by go_num, ?_, by rw [E2.out]; omega, fun j hj => ?_⟩
            · rw [E2.out]; congr 1; omega
            · by_cases hjk : j = k
              · subst hjk; rw [← HX.out]; omega
              · exact HP.out j (by omega)
          case measure => simp [intOf] <;> omega
    · obtain rfl : k = len := by omega
      have HF : RowKit.Hid (FixOk zs k) := ⟨HP.out, hs⟩
      clear hs hs0
      have hsl := syms_all w.heap.size
      have HS : RowKit.Hid ((w.alloc (.cells c1 277)).heap[w.heap.size]? = some (.cells (newCells 0 k false).toArray 277 (0, 0))) := by
        show _ = _
        rw [← E1.out]; exact HC.out
      have HSrc := Lib.hid (H0.out.src HB.out)
      have hcs : ∃ cs cur, cs = zs.map (Value.int .u32) ∧ cur = newCells 0 k false := ⟨_, _, rfl, rfl⟩
      obtain ⟨cs, cur, e0, e1⟩ := hcs
      rw [← e0] at HSrc
      rw [← e1] at HS
      have hn : cs.length = Nat.min k 64 := by rw [e0, List.length_map, HL.out]; exact (Nat.min_eq_left h1).symm
      have hft : 0 + cs.length ≤ cur.length := by rw [e0, e1, newCells_size _ _ (by omega), List.length_map, HL.out]; omega
      have ho1 : ∀ v ∈ cs, v.oneCell' = true := by rw [e0]; exact ints_oneCell _ _
      have HN := Lib.hid hn
      have HFt := Lib.hid hft
      have HO1 := Lib.hid ho1
      have HSp : RowKit.Hid (splice cur 0 cs = modCells zs true) := by show _ = _; rw [e0, e1]; exact splice_fixed HL.out h1
      clear e0 e1 hn hft ho1
      go_wp2_with (first | (refine wpList_build_as rfl 277 _ rfl c1 [(1, .int .i64 k)] (by kernel_rfl) HBD.out ?_) | (refine wpList_store_row rfl 277 _ _ rfl w.heap.size c1 rfl rfl 277 c0 (heap_alloc_last w _) HI.out HZ.out HO.out ?_; rw [World.setRow_alloc_new]) | (refine wpList_copy_splice rfl _ _ 192 192 rfl 34 Tryz.underlying192 (by kernel_rfl) (some ⟨w.heap.size, 0, none⟩) (some ⟨b, off, none⟩) 64 64 k cap rfl rfl w.heap.size 0 cur 277 HS.out cs HN.out (fun _ => ⟨rfl, _, rfl, HSrc.out⟩) HFt.out HO1.out w.heap.size w HB.out (Nat.le_refl _) ?_; intro w2 hg2 hb2; have HB2 := Lib.hid hb2; clear hb2))
      go_ret2
      refine ⟨HB2.out, .inr ⟨HF.out, w.heap.size, rfl, Nat.le_refl _, ?_, ?_⟩⟩
      · rw [HL.out]; exact h1
      · have := hg2.out
        rw [HSp.out] at this
        exact this
end Go.Proofs.YtmgfkdmjgjlkjaaGreat
