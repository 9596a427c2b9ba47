/- What a ring's At and Join give. -/
import Derived.Test.YtfnmdaoehnafcaaRigA
import Derived.OrdersHeld
namespace Go.Proofs.Ytfnmdaoehnafcaa
open Go.RowKit
set_option linter.unusedVariables false
set_option linter.unusedSimpArgs false

theorem results21_2 {fn : Func} {p u : Tmp} {ty : TypeId} {tmps : Array Value} {P : Program} {w : World} {g : Nat} {v v' : Value} (h : fn.results = #[.cell p ty, .tmp u]) (hp : tmps.getD p undef = .pointer (some ⟨g, 0, none⟩)) (hv : tmps.getD u undef = v')
    (e : (loadVar ty ⟨g, 0, none⟩).run P w = .ok v w) : (results fn tmps).run P w = .ok (.tuple #[v, v']) w := by
  have hp' : tmps[p]?.getD undef = .pointer (some ⟨g, 0, none⟩) := by simpa using hp
  have hv' : tmps[u]?.getD undef = v' := by simpa using hv
  simp only [results, h]
  simp [Sem.run_bind, hp', hv', asAddr, Result.andThen, e]
/-- No packet. -/
def pkN : Pk := ⟨0, 0, false, []⟩
set_option maxRecDepth 100000 in
set_option maxHeartbeats 2000000 in
/-- No ring. -/
theorem rgAt_nil (i : Int) (w : World) : Calls Try.prog 8 #[.pointer none, .int .i64 i] w fun e w' => e = .returned (.tuple #[.agg (pkC pkN none 0 0), .bool false]) ∧ Below w.heap.size w w' := by
  have HC := Lib.hid (Cel.new w 32 #[.int .u32 0, .int .u32 0, .bool false, .slice none 0 0])
  have HB := Lib.hid (Below.alloc_new w (.cells #[.int .u32 0, .int .u32 0, .bool false, .slice none 0 0] 32))
  have HE := Lib.hid (fun W => rgEnds_nil W)
  by_cases h0 : i < 0
  · have q : decide (i < 0) = true := by simpa using h0
    go_enter Try.func8, Try.ntmps8
    go_wp2_with (go_at_call 10; go_loud (refine (HE.out _).mono ?_); rintro e w2 ⟨rfl, rfl⟩)
    refine bodyPost_ret (results21_2 rfl rfl rfl (run_loadVar_row _ w.heap.size _ _ _ (0, 0) _ HC.out Try.underlying32 rfl info21_pk)) rfl ?_
    exact ⟨rfl, HB.out⟩
  · have q : decide (i < 0) = false := by simp; omega
    have q2 : decide (0 ≤ i) = true := by simp; omega
    go_enter Try.func8, Try.ntmps8
    go_wp2_with (go_at_call 10; go_loud (refine (HE.out _).mono ?_); rintro e w2 ⟨rfl, rfl⟩)
    refine bodyPost_ret (results21_2 rfl rfl rfl (run_loadVar_row _ w.heap.size _ _ _ (0, 0) _ HC.out Try.underlying32 rfl info21_pk)) rfl ?_
    exact ⟨rfl, HB.out⟩
set_option maxRecDepth 100000 in
set_option maxHeartbeats 2000000 in
/-- A place that isn't kept. -/
theorem rgAt_no (g n m : Nat) (i : Int) (w : World) (h : w.cell? ⟨g, 0, none⟩ = some (.int .i64 n)) (h1 : w.cell? ⟨g, 1, none⟩ = some (.int .i64 m)) (hn2 : n ≤ 1024) (hm : m ≤ 2000000) (hi : i < (firstP n m : Nat) ∨ (m : Int) ≤ i) :
    Calls Try.prog 8 #[.pointer (some ⟨g, 0, none⟩), .int .i64 i] w fun e w' => e = .returned (.tuple #[.agg (pkC pkN none 0 0), .bool false]) ∧ Below w.heap.size w w' := by
  have HC := Lib.hid (Cel.new w 32 #[.int .u32 0, .int .u32 0, .bool false, .slice none 0 0])
  have HB := Lib.hid (Below.alloc_new w (.cells #[.int .u32 0, .int .u32 0, .bool false, .slice none 0 0] 32))
  have HE := Lib.hid (rgEnds_any g n m (w.alloc (.cells #[.int .u32 0, .int .u32 0, .bool false, .slice none 0 0] 32)) ((HB.out.cell (p := ⟨g, 0, none⟩) (cell_block h)).trans h) ((HB.out.cell (p := ⟨g, 1, none⟩) (cell_block h1)).trans h1) hn2 hm)
  generalize firstP n m = f at HE hi
  clear h h1
  by_cases h0 : i < (f : Int)
  · have q : decide (i < (f : Int)) = true := by simpa using h0
    go_enter Try.func8, Try.ntmps8
    go_wp2_with (go_at_call 10; go_loud (refine HE.out.mono ?_); rintro e w2 ⟨rfl, k, rfl⟩)
    refine bodyPost_ret (results21_2 rfl rfl rfl (run_loadVar_row _ w.heap.size _ _ _ (0, 0) _ (cel_set4 (HC.out.drewN k) rfl _ _ _ _) Try.underlying32 rfl info21_pk)) rfl ?_
    exact ⟨rfl, below_set4 (Below.drewN' HB.out k) (Nat.le_refl _) _ _ _ _⟩
  · have q : decide (i < (f : Int)) = false := by simp; omega
    have q2 : decide ((m : Int) ≤ i) = true := by simp; omega
    go_enter Try.func8, Try.ntmps8
    go_wp2_with (go_at_call 10; go_loud (refine HE.out.mono ?_); rintro e w2 ⟨rfl, k, rfl⟩)
    refine bodyPost_ret (results21_2 rfl rfl rfl (run_loadVar_row _ w.heap.size _ _ _ (0, 0) _ (cel_set4 (HC.out.drewN k) rfl _ _ _ _) Try.underlying32 rfl info21_pk)) rfl ?_
    exact ⟨rfl, below_set4 (Below.drewN' HB.out k) (Nat.le_refl _) _ _ _ _⟩
set_option maxRecDepth 100000 in
set_option maxHeartbeats 2000000 in
/-- A place that is kept. -/
theorem rgAt_yes (g n : Nat) (ps : List Pk) (D : Nat → Prop) (i : Nat) (p : Pk) (w : World) (h : RgAt w g n ps D) (hN : ps.length ≤ 1000000) (hp : ps[i]? = some p) (hl : p.pl.length ≤ 1000000) (hi : ps.length ≤ i + n) :
    Calls Try.prog 8 #[.pointer (some ⟨g, 0, none⟩), .int .i64 i] w fun e w' => ∃ a c, e = .returned (.tuple #[.agg (pkC p a p.pl.length c), .bool true]) ∧ w'.ownsRow w.heap.size 5 1 (.slice a p.pl.length c) p.pl.length (p.pl.map (Value.int .u8)) ∧ Below w.heap.size w w' := by
  have hlt : i < ps.length := (List.getElem?_eq_some_iff.1 hp).1
  obtain ⟨k0, k1⟩ := h.head
  obtain ⟨q, a, c, kq, _, hq, ha⟩ := h.at_ hp hi
  have n1 := h.n1
  have n2 := h.n2
  have HC := Lib.hid (Cel.new w 32 #[.int .u32 0, .int .u32 0, .bool false, .slice none 0 0])
  have HB := Lib.hid (Below.alloc_new w (.cells #[.int .u32 0, .int .u32 0, .bool false, .slice none 0 0] 32))
  obtain ⟨m, hm⟩ : ∃ m, ps.length = m := ⟨_, rfl⟩
  rw [hm] at k1 hi hlt hN
  have HE := Lib.hid (rgEnds_any g n m (w.alloc (.cells #[.int .u32 0, .int .u32 0, .bool false, .slice none 0 0] 32)) ((HB.out.cell (p := ⟨g, 0, none⟩) (cell_block k0)).trans k0) ((HB.out.cell (p := ⟨g, 1, none⟩) (cell_block k1)).trans k1) n2 (by omega))
  have HSl : RowKit.Hid (∀ W, W.cell? ⟨g, 0, none⟩ = some (.int .i64 n) → Calls Try.prog 13 #[.pointer (some ⟨g, 0, none⟩), .int .i64 i] W fun e w' => e = .returned (.int .i64 ((i % n : Nat) : Int)) ∧ W = w') := fun W hW => rgSlot_any g n i W hW n1 n2 (by omega)
  have HCp : RowKit.Hid (∀ W, Below w.heap.size w W → Calls Try.prog 12 #[.agg (pkC p a p.pl.length c)] W fun e w' => ∃ a2 c2, e = .returned (.agg (pkC p a2 p.pl.length c2)) ∧ w'.ownsRow W.heap.size 5 1 (.slice a2 p.pl.length c2) p.pl.length (p.pl.map (Value.int .u8)) ∧ Below W.heap.size W w') :=
    fun W hW => rgCopied_any p a c W ((ha.below hW).weaken fun _ _ _ => trivial) hl
  have hsn : i % n < n := Nat.mod_lt _ n1
  obtain ⟨s, hs⟩ : ∃ s, i % n = s := ⟨_, rfl⟩
  rw [hs] at kq hsn HSl
  have qs : (s : Int) < 1024 := by omega
  obtain ⟨f, hf⟩ : ∃ f, firstP n m = f := ⟨_, rfl⟩
  have hf2 : f ≤ i := by rw [← hf]; unfold firstP; omega
  rw [hf] at HE
  have q1 : decide (i < f) = false := by simp; omega
  have q2 : decide (m ≤ i) = false := by simp; omega
  unfold pkC at hq HCp ⊢
  obtain ⟨l, hl2⟩ : ∃ l, p.pl.length = l := ⟨_, rfl⟩
  rw [hl2] at hq HCp ⊢
  have HSS : RowKit.Hid (∀ w' : World, Below w.heap.size w w' → (fun w' => Below w.heap.size w w' ∧ w'.cell? ⟨g, 0, none⟩ = some (.int .i64 n) ∧ w'.cell? ⟨g, 2 + s, none⟩ = some (.pointer (some ⟨q, 0, none⟩)) ∧ w'.cell? ⟨q, 0, none⟩ = some (.int .u32 p.ep) ∧ w'.cell? ⟨q, 1, none⟩ = some (.int .u32 p.nu) ∧ w'.cell? ⟨q, 2, none⟩ = some (.bool p.wh) ∧ w'.cell? ⟨q, 3, none⟩ = some (.slice a l c)) w') := by
    intro w' hb
    obtain ⟨z0, z1, z2, z3⟩ := cel4 (hq.below hb)
    exact ⟨hb, (hb.cell (p := ⟨g, 0, none⟩) (cell_block k0)).trans k0, (hb.cell (p := ⟨g, 2 + s, none⟩) (cell_block kq)).trans kq, z0, z1, z2, z3⟩
  clear h hp ha hq kq k0 k1 hs hf hl2 hm hi
  go_enter Try.func8, Try.ntmps8
  go_wp2_with (go_at_call 10; go_loud (refine HE.out.mono ?_); rintro e w2 ⟨rfl, k, rfl⟩; have HC2 := Lib.hid (HC.out.drewN k); have HB2 := Lib.hid (Below.drewN' HB.out k))
  obtain ⟨w2, hw2⟩ : ∃ w2, (w.alloc (.cells #[.int .u32 0, .int .u32 0, .bool false, .slice none 0 0] 32)).drewN k = w2 := ⟨_, rfl⟩
  rw [hw2] at HC2 HB2 ⊢
  clear HE HC HB
  refine wp_region_held_drew (S := (fun w' => Below w.heap.size w w' ∧ w'.cell? ⟨g, 0, none⟩ = some (.int .i64 n) ∧ w'.cell? ⟨g, 2 + s, none⟩ = some (.pointer (some ⟨q, 0, none⟩)) ∧ w'.cell? ⟨q, 0, none⟩ = some (.int .u32 p.ep) ∧ w'.cell? ⟨q, 1, none⟩ = some (.int .u32 p.nu) ∧ w'.cell? ⟨q, 2, none⟩ = some (.bool p.wh) ∧ w'.cell? ⟨q, 3, none⟩ = some (.slice a l c))) rfl (HSS.out _ (Below.drewN' HB2.out 1)) (fun hS0 => ?_)
  refine wpAnyH_take (i := 0) (v := ?_) rfl (by kernel_rfl) (by kernel_rfl) (by kernel_rfl) (fun _ _ _ h => h) (Or.inl ⟨by rfl, ?_⟩) (by assumption) ?_
  rotate_left 1
  · intro wq hSw
    (try dsimp only at hSw)
    go_simp
    all_goals (with_reducible rfl)
  (try simp only [Act.put, List.setIfInBounds_toArray, List.set_cons_zero, List.set_cons_succ, List.getElem_toArray, List.getElem_cons_zero, List.getElem_cons_succ])
  refine wpAnyH_take (i := 1) (v := ?_) rfl (by kernel_rfl) (by kernel_rfl) (by kernel_rfl) (fun _ _ _ h => h) (Or.inl ⟨by rfl, ?_⟩) (by assumption) ?_
  rotate_left 1
  · intro wq hSw
    (try dsimp only at hSw)
    go_simp
    all_goals (with_reducible rfl)
  (try simp only [Act.put, List.setIfInBounds_toArray, List.set_cons_zero, List.set_cons_succ, List.getElem_toArray, List.getElem_cons_zero, List.getElem_cons_succ])
  refine wpAnyH_take (i := 2) (v := ?_) rfl (by kernel_rfl) (by kernel_rfl) (by kernel_rfl) (fun _ _ _ h => h) (Or.inl ⟨by rfl, ?_⟩) (by assumption) ?_
  rotate_left 1
  · intro wq hSw
    (try dsimp only at hSw)
    go_simp
    all_goals (with_reducible rfl)
  (try simp only [Act.put, List.setIfInBounds_toArray, List.set_cons_zero, List.set_cons_succ, List.getElem_toArray, List.getElem_cons_zero, List.getElem_cons_succ])
  refine wpAnyH_take (i := 4) (v := ?_) rfl (by kernel_rfl) (by kernel_rfl) (by kernel_rfl) (fun _ _ _ h => h) (Or.inl ⟨by rfl, ?_⟩) (by assumption) ?_
  rotate_left 1
  · intro wq hSw
    (try dsimp only at hSw)
    go_simp
    all_goals (with_reducible rfl)
  (try simp only [Act.put, List.setIfInBounds_toArray, List.set_cons_zero, List.set_cons_succ, List.getElem_toArray, List.getElem_cons_zero, List.getElem_cons_succ])
  refine wpAnyH_take (i := 5) (v := ?_) rfl (by kernel_rfl) (by kernel_rfl) (by kernel_rfl) (fun _ _ _ h => h) (Or.inl ⟨by rfl, ?_⟩) (by assumption) ?_
  rotate_left 1
  · intro wq hSw
    (try dsimp only at hSw)
    go_simp
    all_goals (with_reducible rfl)
  (try simp only [Act.put, List.setIfInBounds_toArray, List.set_cons_zero, List.set_cons_succ, List.getElem_toArray, List.getElem_cons_zero, List.getElem_cons_succ])
  refine wpAnyH_ready (rs := [3]) (by kernel_rfl) (by simp) ?_
  refine AllReadyH.cons rfl (fun K hK => ?_) AllReadyH.nil
  go_simp
  go_at_call 13
  go_loud (refine (HSl.out _ hS0.2.1).mono ?_)
  rintro e3 w3 ⟨rfl, rfl⟩
  refine hK.out _ _ hS0 (fun _ => ?_)
  clear hK K
  (try simp only [Act.put, List.setIfInBounds_toArray, List.set_cons_zero, List.set_cons_succ, List.getElem_toArray, List.getElem_cons_zero, List.getElem_cons_succ])
  refine wpAnyH_take (i := 6) (v := ?_) rfl (by kernel_rfl) (by kernel_rfl) (by kernel_rfl) (fun _ _ _ h => h) (Or.inl ⟨by rfl, ?_⟩) (by assumption) ?_
  rotate_left 1
  · intro wq hSw
    (try dsimp only at hSw)
    go_simp
    all_goals (with_reducible rfl)
  (try simp only [Act.put, List.setIfInBounds_toArray, List.set_cons_zero, List.set_cons_succ, List.getElem_toArray, List.getElem_cons_zero, List.getElem_cons_succ])
  refine wpAnyH_take (i := 7) (v := ?_) rfl (by kernel_rfl) (by kernel_rfl) (by kernel_rfl) (fun _ _ _ h => h) (Or.inl ⟨by rfl, ?_⟩) (by assumption) ?_
  rotate_left 1
  · intro wq hSw
    (try dsimp only at hSw)
    go_simp
    all_goals (with_reducible rfl)
  (try simp only [Act.put, List.setIfInBounds_toArray, List.set_cons_zero, List.set_cons_succ, List.getElem_toArray, List.getElem_cons_zero, List.getElem_cons_succ])
  refine wpAnyH_take (i := 8) (v := ?_) rfl (by kernel_rfl) (by kernel_rfl) (by kernel_rfl) (fun _ _ _ h => h) (Or.inl ⟨by rfl, ?_⟩) (by assumption) ?_
  rotate_left 1
  · intro wq hSw
    (try dsimp only at hSw)
    go_simp
    all_goals (with_reducible rfl)
  (try simp only [Act.put, List.setIfInBounds_toArray, List.set_cons_zero, List.set_cons_succ, List.getElem_toArray, List.getElem_cons_zero, List.getElem_cons_succ])
  refine wpAnyH_take (i := 9) (v := ?_) rfl (by kernel_rfl) (by kernel_rfl) (by kernel_rfl) (fun _ _ _ h => h) (Or.inl ⟨by rfl, ?_⟩) (by assumption) ?_
  rotate_left 1
  · intro wq hSw
    (try dsimp only at hSw)
    go_simp
    all_goals (with_reducible rfl)
  (try simp only [Act.put, List.setIfInBounds_toArray, List.set_cons_zero, List.set_cons_succ, List.getElem_toArray, List.getElem_cons_zero, List.getElem_cons_succ])
  refine wpAnyH_ready (rs := [10]) (by kernel_rfl) (by simp) ?_
  refine AllReadyH.cons rfl (fun K hK => ?_) AllReadyH.nil
  go_simp
  go_at_call 12
  go_loud (refine (HCp.out _ hS0.1).mono ?_)
  rintro e4 w4 ⟨a2, c2, rfl, ho, hb⟩
  have HO := Lib.hid ho
  have HC4 := Lib.hid (Cel.below (HC2.out.drewN 1) hb)
  have hb4 := hS0.1.trans (hb.mono hS0.1.size)
  have hS4 := HSS.out _ hb4
  have HS2 := Lib.hid hS0.1.size
  refine hK.out _ _ hS4 (fun _ => ?_)
  clear hK K ho hb hS0
  (try simp only [Act.put, List.setIfInBounds_toArray, List.set_cons_zero, List.set_cons_succ, List.getElem_toArray, List.getElem_cons_zero, List.getElem_cons_succ])
  refine wpAnyH_ready (rs := [11]) (by kernel_rfl) (by simp) ?_
  refine AllReadyH.cons rfl (fun K hK => ?_) AllReadyH.nil
  obtain ⟨z0, z1, z2, z3⟩ := cel4 HC4.out
  obtain ⟨f0, f1, f2, f3⟩ := frz4 HC4.out
  go_simp
  refine hK.out _ _ (HSS.out _ (below_set4 hb4 (Nat.le_refl _) _ _ _ _)) (fun _ => ?_)
  clear hK K
  (try simp only [Act.put, List.setIfInBounds_toArray, List.set_cons_zero, List.set_cons_succ, List.getElem_toArray, List.getElem_cons_zero, List.getElem_cons_succ])
  refine wpAnyH_take (i := 12) (v := ?_) rfl (by kernel_rfl) (by kernel_rfl) (by kernel_rfl) (fun _ _ _ h => h) (Or.inl ⟨by rfl, ?_⟩) (by assumption) ?_
  rotate_left 1
  · intro wq hSw
    (try dsimp only at hSw)
    go_simp
    all_goals (with_reducible rfl)
  (try simp only [Act.put, List.setIfInBounds_toArray, List.set_cons_zero, List.set_cons_succ, List.getElem_toArray, List.getElem_cons_zero, List.getElem_cons_succ])
  refine wpAnyH_done (by kernel_rfl) ?_ _
  go_wp2
  refine bodyPost_ret (results21_2 rfl rfl rfl (run_loadVar_row _ w.heap.size _ _ _ (0, 0) _ (cel_set4 HC4.out rfl _ _ _ _) Try.underlying32 rfl info21_pk)) rfl ?_
  have hs2 := HS2.out
  rw [World.size_drew] at hs2
  have hs3 := HC2.out.lt
  refine ⟨a2, c2, rfl, ?_, below_set4 hb4 (Nat.le_refl _) _ _ _ _⟩
  have ho := own_lower HO.out (b2 := w.heap.size) (by rw [World.size_drew]; omega)
  have hne : ∀ k, (Value.slice a2 l c2).ownBlock = some k → k ≠ w.heap.size := by
    intro k hk
    have := own_base HO.out k hk
    rw [World.size_drew] at this
    omega
  exact own_far (own_far (own_far (own_far ho (fun k hk => hne k hk) _) (fun k hk => hne k hk) _) (fun k hk => hne k hk) _) (fun k hk => hne k hk) _
end Go.Proofs.Ytfnmdaoehnafcaa
