/- Flush. -/
import Derived.Test.YtnjnfocpjmmibaaQueF
namespace Go.Proofs.Ytnjnfocpjmmibaa
open Go.RowKit
set_option linter.unusedVariables false
set_option linter.unusedSimpArgs false

/-! ### Many cells are set -/
def setA (cs : Array Value) : Nat → List Value → Array Value
  | _, [] => cs
  | o, v :: r => setA (cs.setIfInBounds o v) (o + 1) r
theorem setA_size (vs : List Value) : ∀ (cs : Array Value) (o : Nat), (setA cs o vs).size = cs.size := by
  induction vs with
  | nil => intro cs o; rfl
  | cons v r ih => intro cs o; unfold setA; rw [ih, Array.size_setIfInBounds]
theorem setA_out (vs : List Value) : ∀ (cs : Array Value) (o i : Nat), (i < o ∨ o + vs.length ≤ i) → (setA cs o vs)[i]? = cs[i]? := by
  induction vs with
  | nil => intro cs o i _; rfl
  | cons v r ih =>
    intro cs o i hi
    simp at hi
    unfold setA
    rw [ih _ _ _ (by omega), Array.getElem?_setIfInBounds_ne (by omega)]
theorem Cel.sets {g : Nat} {t : TypeId} (vs : List Value) : ∀ {w : World} {cs : Array Value} (o : Nat), Cel w g t cs → Cel (w.setCells g o vs) g t (setA cs o vs) := by
  induction vs with
  | nil => intro w cs o h; exact h
  | cons v r ih => intro w cs o h; exact ih (o + 1) (h.set_ o v)
theorem Keeps.sets {F : Nat → Prop} {w0 : World} {g : Nat} (hg : F g) (vs : List Value) : ∀ {w : World} (o : Nat), Keeps F w0 w → Keeps F w0 (w.setCells g o vs) := by
  induction vs with
  | nil => intro w o h; exact h
  | cons v r ih => intro w o h; exact ih (o + 1) (h.setCell (p := ⟨g, o, none⟩) (.inl hg) v)
def nils22 : Array Value := (List.replicate 256 (.slice none 0 0)).toArray
set_option maxRecDepth 100000 in
theorem nils_build : Try.prog.built 50 [] = some nils22 := by kernel_rfl
theorem nils_one : nils22.all (·.oneCell') = true := by
  rw [Array.all_eq_true_iff_forall_mem]
  intro x hx
  simp only [nils22, List.mem_toArray, List.mem_replicate] at hx
  obtain ⟨_, rfl⟩ := hx
  rfl
theorem nils_info : (Try.prog.info? 50).map (·.size) = some 256 := by kernel_rfl
theorem quFlush_nil (w : World) : Calls Try.prog 14 #[.pointer none] w fun e w' => (∃ x, e = .returned x) ∧ w' = w := by
  go_enter Try.func14, Try.ntmps14
  go_wp2
  refine bodyPost_ret (results_none rfl _ _ _) rfl ?_
  exact ⟨⟨_, rfl⟩, rfl⟩
/-- The cells of a queue that is flushed. -/
def flushA (cs : Array Value) (l : Int) : Array Value := ((((setA (cs.setIfInBounds 263 (.int .i64 l)) 4 nils22.toList).setIfInBounds 260 (.int .i64 0)).setIfInBounds 261 (.int .i64 0)).setIfInBounds 262 (.bool true))
theorem nils_len : nils22.toList.length = 256 := by unfold nils22; rw [List.toList_toArray, List.length_replicate]
theorem nils_size : nils22.size = 256 := by unfold nils22; rw [List.size_toArray, List.length_replicate]
theorem Cel.there {w : World} {g : Nat} {t : TypeId} {cs : Array Value} (h : Cel w g t cs) {o n : Nat} (hs : o + n ≤ cs.size) : w.there g o n := fun j hj => ⟨by rw [h.cell, Array.getElem?_eq_getElem (by omega)]; rfl, h.frozen _⟩
theorem QuX.flushed {w w' : World} {D : Nat → Prop} {n f : Nat} {q : Q22} {cs : Array Value} (h : QuX w D n q cs f) {F : Nat → Prop} (hk : Keeps F w w') (hF : ∀ j, F j → ¬ D j) : QuX w' D n q.flush (flushA cs ((q.lost : Int) + (q.l.length : Int))) 0 := by
  have hs := h.size
  have hz : (setA (cs.setIfInBounds 263 (.int .i64 ((q.lost : Int) + (q.l.length : Int)))) 4 nils22.toList).size = 264 := by rw [setA_size]; simp [hs]
  have hlow : ∀ i, i < 4 → (flushA cs ((q.lost : Int) + (q.l.length : Int)))[i]? = cs[i]? := by
    intro i hi
    unfold flushA
    rw [Array.getElem?_setIfInBounds_ne (by omega), Array.getElem?_setIfInBounds_ne (by omega), Array.getElem?_setIfInBounds_ne (by omega), setA_out _ _ _ _ (by omega), Array.getElem?_setIfInBounds_ne (by omega)]
  refine ⟨by unfold flushA; simp [setA_size, hs], (h.must.keeps hk hF).same (hlow 0 (by omega)) (hlow 1 (by omega)) (hlow 2 (by omega)), (hlow 3 (by omega)).trans h.room, ?_, ?_, ?_, ?_, by omega, fun i p hp => by simp [Q22.flush] at hp⟩
  · unfold flushA
    rw [Array.getElem?_setIfInBounds_ne (by omega), Array.getElem?_setIfInBounds_ne (by omega), Array.getElem?_setIfInBounds_self_of_lt (by omega)]
    rfl
  · unfold flushA
    rw [Array.getElem?_setIfInBounds_ne (by omega), Array.getElem?_setIfInBounds_self_of_lt (by simp; omega)]
    rfl
  · unfold flushA
    rw [Array.getElem?_setIfInBounds_self_of_lt (by simp; omega)]
    rfl
  · unfold flushA
    rw [Array.getElem?_setIfInBounds_ne (by omega), Array.getElem?_setIfInBounds_ne (by omega), Array.getElem?_setIfInBounds_ne (by omega), setA_out _ _ _ _ (by rw [nils_len]; omega), Array.getElem?_setIfInBounds_self_of_lt (by omega)]
    simp [Q22.flush]
set_option maxRecDepth 100000 in
set_option maxHeartbeats 1000000 in
theorem quFlush_any (g n : Nat) (q : Q22) (D : Nat → Prop) (w : World) (h : QuAt w g n q D) (hl : q.lost ≤ 1000000) :
    Calls Try.prog 14 #[.pointer (some ⟨g, 0, none⟩)] w fun e w' => (∃ x, e = .returned x) ∧ QuAt w' g n q.flush D ∧ Keeps (fun j => j = g) w w' := by
  obtain ⟨cs, f, h1, h2⟩ := h.c
  have hlen := h.len
  have hn2 := h.n2
  have HX : RowKit.Hid (QuAt w g n q D ∧ Cel w g 52 cs ∧ QuX w D n q cs f) := ⟨h, h1, h2⟩
  have k6 : w.cell? ⟨g, 263, none⟩ = some (.int .i64 q.lost) := (h1.cell 263).trans h2.lost
  have k4 : w.cell? ⟨g, 261, none⟩ = some (.int .i64 q.l.length) := (h1.cell 261).trans h2.count
  have f6 := h1.frozen 263
  obtain ⟨M, hM⟩ : ∃ M, q.l.length = M := ⟨_, rfl⟩
  obtain ⟨L, hL⟩ : ∃ L, q.lost = L := ⟨_, rfl⟩
  have HM : RowKit.Hid (q.l.length = M ∧ q.lost = L) := ⟨hM, hL⟩
  rw [hM] at k4 hlen
  rw [hL] at k6 hl
  have e1 : IntKind.i64.wrap ((L : Int) + (M : Int)) = (L : Int) + (M : Int) := IntWalk.i64_in _ (by omega)
  clear h h1 h2 hM hL
  go_enter Try.func14, Try.ntmps14
  go_wp2
  have HN1 := Lib.hid nils_build
  have HN2 := Lib.hid nils_one
  have HN3 := Lib.hid nils_info
  have HN4 := Lib.hid nils_size
  have HC1 := Lib.hid ((HX.out.2.1.set_ 263 (.int .i64 ((L : Int) + (M : Int)))).drewN 1)
  have HK1 := Lib.hid (((Keeps.refl (fun j => j = g) w).setCell (p := ⟨g, 263, none⟩) (.inl rfl) (.int .i64 ((L : Int) + (M : Int)))).drewN 1)
  obtain ⟨W1, hW1⟩ : ∃ W1, (w.setCell ⟨g, 263, none⟩ (.int .i64 ((L : Int) + (M : Int)))).drewN 1 = W1 := ⟨_, rfl⟩
  have HTh : RowKit.Hid (W1.there g 4 256) := by
    rw [hW1] at HC1
    exact HC1.out.there (by rw [Array.size_setIfInBounds, HX.out.2.2.size]; omega)
  rw [hW1] at HC1 HK1
  have hW1' : (w.setCell ⟨g, 263, none⟩ (.int .i64 ((L : Int) + (M : Int)))).drew = W1 := hW1
  have HW1 := Lib.hid hW1'
  have hF : RowKit.Hid (∃ N, nils22 = N ∧ flushA cs ((L : Int) + (M : Int)) = ((((setA (cs.setIfInBounds 263 (.int .i64 ((L : Int) + (M : Int)))) 4 N.toList).setIfInBounds 260 (.int .i64 0)).setIfInBounds 261 (.int .i64 0)).setIfInBounds 262 (.bool true))) := ⟨_, rfl, rfl⟩
  obtain ⟨N, hN, hF2⟩ := hF.out
  have HF2 := Lib.hid hF2
  have z3 : (setA (cs.setIfInBounds 263 (.int .i64 ((L : Int) + (M : Int)))) 4 N.toList).size = 264 := by rw [setA_size, Array.size_setIfInBounds]; exact HX.out.2.2.size
  rw [hN] at HN1 HN2 HN4
  clear hF hF2 hW1 hW1' hN
  obtain ⟨W2, hW2⟩ : ∃ W2, W1.setCells g 4 N.toList = W2 := ⟨_, rfl⟩
  have HC2 := Lib.hid (hW2 ▸ HC1.out.sets N.toList 4)
  have HK2 : RowKit.Hid (Keeps (fun j => j = g) w W2) := by rw [← hW2]; exact Lib.hid (Keeps.sets (F := fun j => j = g) rfl N.toList 4 HK1.out)
  have HW2 := Lib.hid hW2
  clear hW2
  have y0 : ∃ v, W2.cell? ⟨g, 260, none⟩ = some v := ⟨_, (HC2.out.cell 260).trans (Array.getElem?_eq_getElem (by rw [z3]; omega))⟩
  have y1 : ∃ v, W2.cell? ⟨g, 261, none⟩ = some v := ⟨_, (HC2.out.cell 261).trans (Array.getElem?_eq_getElem (by rw [z3]; omega))⟩
  have y2 : ∃ v, W2.cell? ⟨g, 262, none⟩ = some v := ⟨_, (HC2.out.cell 262).trans (Array.getElem?_eq_getElem (by rw [z3]; omega))⟩
  obtain ⟨v0, y0⟩ := y0
  obtain ⟨v1, y1⟩ := y1
  obtain ⟨v2, y2⟩ := y2
  have x0 := HC2.out.frozen 260
  have x1 := HC2.out.frozen 261
  have x2 := HC2.out.frozen 262
  clear z3
  go_still_tail 11, (by kernel_rfl)
  change wpList _ _ _ _ _ w.drew
  go_wp2_with (first | (refine wpList_build_as22 rfl 50 _ rfl N [] (by kernel_rfl) HN1.out ?_) | (rw [HW1.out]; refine wpList_store_mid rfl 50 _ _ rfl g 4 N rfl rfl (by rw [HN4.out]; exact HTh.out) (by rw [HN4.out]; exact HN3.out) HN2.out ?_; rw [HW2.out]) | fail)
  go_end0
  have hk3 : Keeps (fun j => j = g) w _ := ((HK2.out.setCell (p := ⟨g, 260, none⟩) (.inl rfl) (.int .i64 0)).setCell (p := ⟨g, 261, none⟩) (.inl rfl) (.int .i64 0)).setCell (p := ⟨g, 262, none⟩) (.inl rfl) (.bool true)
  have hc3 := ((HC2.out.set_ 260 (.int .i64 0)).set_ 261 (.int .i64 0)).set_ 262 (.bool true)
  have hq := HX.out.1
  have hx := HX.out.2.2.flushed hk3 (fun j e hj => hq.dg (e ▸ hj))
  rw [HM.out.1, HM.out.2, HF2.out] at hx
  exact ⟨⟨_, rfl⟩, ⟨hq.n1, hq.n2, Nat.zero_le _, hq.dg, _, 0, hc3, hx⟩, hk3⟩
end Go.Proofs.Ytnjnfocpjmmibaa
