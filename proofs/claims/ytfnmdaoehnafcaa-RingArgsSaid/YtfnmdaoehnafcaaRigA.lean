/- What a ring's small functions give: slot, first, Ends, copied, New. -/
import Derived.Test.YtfnmdaoehnafcaaRigP
import Derived.Deep.QuietTactic
import Derived.BigQuiet
namespace Go.Proofs.Ytfnmdaoehnafcaa
open Go.RowKit
set_option linter.unusedVariables false
set_option linter.unusedSimpArgs false

theorem results21_1 {fn : Func} {p : Tmp} {ty : TypeId} {tmps : Array Value} {P : Program} {w : World} {g : Nat} {v : Value} (h : fn.results = #[.cell p ty]) (hp : tmps.getD p undef = .pointer (some ⟨g, 0, none⟩))
    (e : (loadVar ty ⟨g, 0, none⟩).run P w = .ok v w) : (results fn tmps).run P w = .ok v w := by
  have hp' : tmps[p]?.getD undef = .pointer (some ⟨g, 0, none⟩) := by simpa using hp
  simp only [results, h]
  simp [Sem.run_bind, hp', asAddr, Result.andThen, e]
theorem own_len21 {w : World} {base e n : Nat} {v : Value} {zs : List Int} (h : w.ownsRow base e 1 v n (zs.map (Value.int .u8))) : w.ownsRow base e 1 v zs.length (zs.map (Value.int .u8)) := by
  have h1 := h.1
  rw [List.length_map, Nat.mul_one] at h1
  rw [h1]; exact h
theorem info21_pk : (Try.prog.info? 32).map (·.size) = some 4 := by kernel_rfl
/-- The slot of a place. -/
theorem rgSlot_any (g n i : Nat) (w : World) (h : w.cell? ⟨g, 0, none⟩ = some (.int .i64 n)) (hn : 1 ≤ n) (hn2 : n ≤ 1024) (hi : i ≤ 2000000) :
    Calls Try.prog 13 #[.pointer (some ⟨g, 0, none⟩), .int .i64 i] w fun e w' => e = .returned (.int .i64 ((i % n : Nat) : Int)) ∧ w = w' := by
  have hn0 : ¬ (n : Int) = 0 := by omega
  have he : IntKind.i64.wrap ((i : Int).tmod (n : Int)) = ((i % n : Nat) : Int) := by
    rw [Int.tmod_eq_emod_of_nonneg (by omega), ← Int.natCast_emod]
    have : i % n < n := Nat.mod_lt _ hn
    exact IntWalk.i64_in _ (by omega)
  go_enter Try.func13, Try.ntmps13
  go_wp2
  go_ret
  exact ⟨by first | rfl | simp [he], rfl⟩
/-- A call that only reads, in a drawn region. -/
theorem quietN {P : Program} {f : FuncId} {args : Array Value} {w : World} {n : Nat} {v : Value}
    (h : Calls P f args (w.drewN n) fun e w' => e = .returned v ∧ ∃ k, w' = (w.drewN n).drewN k) : Calls P f args (w.drewN n) fun e w'' => e = .returned v ∧ ∃ m, w'' = w.drewN m := by
  refine h.mono ?_
  rintro e w' ⟨he, k, rfl⟩
  exact ⟨he, n + k, by simp [World.drewN, Nat.add_assoc]⟩
/-- The first place that is kept. -/
theorem rgFirst_any (g n m : Nat) (w : World) (h : w.cell? ⟨g, 0, none⟩ = some (.int .i64 n)) (h1 : w.cell? ⟨g, 1, none⟩ = some (.int .i64 m)) (hn2 : n ≤ 1024) (hm : m ≤ 2000000) :
    Calls Try.prog 14 #[.pointer (some ⟨g, 0, none⟩)] w fun e w' => e = .returned (.int .i64 ((firstP n m : Nat) : Int)) ∧ ∃ k, w' = w.drewN k := by
  have he : IntKind.i64.wrap ((m : Int) - (n : Int)) = (m : Int) - (n : Int) := IntWalk.i64_in _ (by omega)
  go_enter Try.func14, Try.ntmps14
  go_wp2
  go_quiet (fail)
  go_wp2
  all_goals
    go_ret
    exact ⟨ret_int (by unfold firstP; omega), _, rfl⟩
/-- Both ends. -/
theorem rgEnds_any (g n m : Nat) (w : World) (h : w.cell? ⟨g, 0, none⟩ = some (.int .i64 n)) (h1 : w.cell? ⟨g, 1, none⟩ = some (.int .i64 m)) (hn2 : n ≤ 1024) (hm : m ≤ 2000000) :
    Calls Try.prog 10 #[.pointer (some ⟨g, 0, none⟩)] w fun e w' => e = .returned (.tuple #[.int .i64 ((firstP n m : Nat) : Int), .int .i64 m]) ∧ ∃ k, w' = w.drewN k := by
  have HF := Lib.hid (fun nq => quietN (rgFirst_any g n m (w.drewN nq) h h1 hn2 hm))
  go_enter Try.func10, Try.ntmps10
  go_wp2
  go_quiet ((go_at_call 14; exact HF.out _))
  go_wp2
  go_ret2
  exact ⟨rfl, _, rfl⟩
theorem rgEnds_nil (w : World) : Calls Try.prog 10 #[.pointer none] w fun e w' => e = .returned (.tuple #[.int .i64 0, .int .i64 0]) ∧ w' = w := by
  go_enter Try.func10, Try.ntmps10
  go_wp2
  go_ret2
  exact ⟨rfl, rfl⟩
/-- A packet with a payload of its own. -/
theorem rgCopied_any (p : Pk) (a : Option Addr) (c : Nat) (w : World) (h : PlAt w (fun _ => True) a p.pl.length c p.pl) (hl : p.pl.length ≤ 1000000) :
    Calls Try.prog 12 #[.agg (pkC p a p.pl.length c)] w fun e w' => ∃ a2 c2, e = .returned (.agg (pkC p a2 p.pl.length c2)) ∧ w'.ownsRow w.heap.size 5 1 (.slice a2 p.pl.length c2) p.pl.length (p.pl.map (Value.int .u8)) ∧ Below w.heap.size w w' := by
  have HP := Lib.hid h
  have hz : (Try.prog.info? 5).map (fun i => (i.zero, i.size, i.bytes)) = some (some (.int .u8 0), 1, 1) := by kernel_rfl
  have HZ := Lib.hid hz
  obtain ⟨ep, nu, wh, pl⟩ := p
  unfold pkC
  simp only at hl HP ⊢
  obtain ⟨m, hm⟩ : ∃ m, pl.length = m := ⟨_, rfl⟩
  rw [hm] at hl HP ⊢
  have hb0 : Below w.heap.size w ((w.alloc (.cells #[.int .u32 ep, .int .u32 nu, .bool wh, .slice a m c] 32)).alloc (.cells #[.int .u32 0, .int .u32 0, .bool false, .slice none 0 0] 32)) := ((Below.refl _ w).alloc (Nat.le_refl _) _).alloc (by simp) _
  have HB0 := Lib.hid hb0
  have HC0 := Lib.hid ((Cel.new w 32 #[.int .u32 ep, .int .u32 nu, .bool wh, .slice a m c]).alloc (.cells #[.int .u32 0, .int .u32 0, .bool false, .slice none 0 0] 32))
  have HC1 := Lib.hid (Cel.new (w.alloc (.cells #[.int .u32 ep, .int .u32 nu, .bool wh, .slice a m c] 32)) 32 #[.int .u32 0, .int .u32 0, .bool false, .slice none 0 0])
  rw [World.size_alloc] at HC1
  obtain ⟨w2, hw2⟩ : ∃ w2, (w.alloc (.cells #[.int .u32 ep, .int .u32 nu, .bool wh, .slice a m c] 32)).alloc (.cells #[.int .u32 0, .int .u32 0, .bool false, .slice none 0 0] 32) = w2 := ⟨_, rfl⟩
  have HW2 := Lib.hid hw2
  rw [hw2] at HB0 HC0 HC1
  have hs2 : w2.heap.size = w.heap.size + 2 := by rw [← hw2]; simp
  have HS2 := Lib.hid hs2
  clear h hz hb0 hw2 hs2
  go_enter Try.func12, Try.ntmps12
  go_wp2_with (at_builtin; rw [HW2.out]; go_loud (refine append_ints rfl _ _ 30 rfl w2.heap.size 5 .u8 1 Try.underlying30 HZ.out (.slice none 0 0) 0 [] rfl (World.ownsRow_nil w2 w2.heap.size 5 1) a m c w.heap.size pl rfl (HP.out.i.below HB0.out) HP.out.n (by unfold maxLen; omega) (by omega) (Nat.le_refl _) ?_); intro v3 w3 ho hg hv; replace ho := own_len21 ho; rw [List.nil_append] at ho; obtain ⟨a3, m3, c3, rfl, hm3⟩ := own_form_m ho; rw [hm] at hm3; subst hm3; rw [hm] at ho; have HO := Lib.hid ho; have HB3 := Lib.hid ((Below.refl w2.heap.size w2).grown hg (Nat.le_refl _) (fun j e => (by simp [Value.ownBlock] at e))); have HD0 := Lib.hid (HC0.out.below HB3.out); have HD1 := Lib.hid (HC1.out.below HB3.out); obtain ⟨c0, c1, c2, c3'⟩ := cel4 HD0.out; obtain ⟨f0, f1, f2, f3⟩ := frz4 HD0.out; obtain ⟨g0, g1, g2, g3⟩ := frz4 HD1.out; obtain ⟨k0, k1, k2, k3⟩ := cel4 HD1.out; clear ho hg hv)
  refine bodyPost_ret (results21_1 rfl rfl (run_loadVar_row _ (w.heap.size + 1) _ _ _ (0, 0) _ (cel_set4 (HD1.out.far (by simp) _) rfl _ _ _ _) Try.underlying32 rfl info21_pk)) rfl ?_
  have hs2 := HS2.out
  have hb3 := chain HB0.out HB3.out
  have hb4 := below_set4 (hb3.setCell (p := ⟨w.heap.size, 3, none⟩) (Nat.le_refl _) (.slice a3 m3 c3)) (g := w.heap.size + 1) (by omega) (.int .u32 ep) (.int .u32 nu) (.bool wh) (.slice a3 m3 c3)
  refine ⟨a3, c3, rfl, ?_, hb4⟩
  have ho := own_lower HO.out (b2 := w.heap.size) (by omega)
  have hne : ∀ k, (Value.slice a3 m3 c3).ownBlock = some k → k ≠ w.heap.size ∧ k ≠ w.heap.size + 1 := by
    intro k hk
    have := own_base HO.out k hk
    omega
  exact own_far (own_far (own_far (own_far (own_far ho (fun k hk => (hne k hk).1) _) (fun k hk => (hne k hk).2) _) (fun k hk => (hne k hk).2) _) (fun k hk => (hne k hk).2) _) (fun k hk => (hne k hk).2) _
/-! ### A new ring -/
def rgCells (n : Int) : List Value := [.int .i64 n, .int .i64 0] ++ List.replicate 1024 (.pointer none)
theorem rgCells_one (n : Int) : (rgCells n).toArray.all (·.oneCell') = true := by
  rw [Array.all_eq_true_iff_forall_mem]
  intro x hx
  simp only [rgCells, List.mem_toArray, List.mem_append, List.mem_replicate, List.mem_cons, List.not_mem_nil, or_false] at hx
  rcases hx with (rfl | rfl) | ⟨_, rfl⟩ <;> rfl
set_option maxRecDepth 100000 in
theorem rg_build (n : Int) : Try.prog.built 46 [(0, .int .i64 n)] = some (rgCells n).toArray := by kernel_rfl
theorem wpList_build_as {P : Program} {ops : Array Oper} {rest : List Oper} {o : Oper} {a : Act} {w : World} {Q : Exit → Act → World → Prop} (hg : o.guard = none) (t : TypeId) (parts : Array (Nat × Operand)) (ho : o.op = .build t parts) (cs : Array Value)
    (vs : List (Nat × Value)) (hv : (parts.map fun (i, x) => (i, a.eval x)).toList = vs) (hf : P.built t vs = some cs) (h : wpList P ops Q rest (a.put o.dst (.agg cs)) w) : wpList P ops Q (o :: rest) a w :=
  wpList_build hg t parts ho (by rw [hv, hf]; rfl) (by rw [hv, hf]; exact h)
theorem rgNew_out (n : Int) (w : World) (h : n < 1 ∨ 1024 < n) :
    Calls Try.prog 6 #[.int .i64 n] w fun e w' => e = .returned (.tuple #[.pointer none, .int .i64 1]) ∧ w' = w := by
  rcases h with h | h
  · have hd : decide (n < 1) = true := by simp; omega
    go_enter Try.func6, Try.ntmps6
    go_wp2
    go_ret2
    exact ⟨rfl, rfl⟩
  · have hd : decide (n < 1) = false := by simp; omega
    have hd2 : decide (1024 < n) = true := by simp; omega
    go_enter Try.func6, Try.ntmps6
    go_wp2
    go_ret2
    exact ⟨rfl, rfl⟩
set_option maxRecDepth 100000 in
theorem rgNew_any (n : Nat) (w : World) (h1 : 1 ≤ n) (h2 : n ≤ 1024) :
    Calls Try.prog 6 #[.int .i64 n] w fun e w' => ∃ g, e = .returned (.tuple #[.pointer (some ⟨g, 0, none⟩), .int .i64 0]) ∧ w.heap.size ≤ g ∧ RgAt w' g n [] (fun _ => False) ∧ Below w.heap.size w w' := by
  have hd : decide ((n : Int) < 1) = false := by simp; omega
  have hd2 : decide ((1024 : Int) < (n : Int)) = false := by simp; omega
  have HC := Lib.hid (Cel.new w 46 (rgCells n).toArray)
  have HB := Lib.hid (Below.alloc_new w (.cells (rgCells n).toArray 46))
  have hbd := rg_build n
  have HR : RowKit.Hid (RgC (w.alloc (.cells (rgCells n).toArray 46)) (fun _ => False) n [] (rgCells n).toArray) :=
    ⟨by simp [rgCells], by simp [rgCells], by simp [rgCells], fun i p hp _ => by simp at hp⟩
  have o1 := rgCells_one n
  obtain ⟨c1, e1⟩ : ∃ c1, (rgCells n).toArray = c1 := ⟨_, rfl⟩
  have z1 : c1.size = 1026 := by rw [← e1]; simp [rgCells]
  rw [e1] at hbd HC HB HR o1
  have HBD := Lib.hid hbd
  have HO := Lib.hid o1
  clear hbd e1 o1
  go_enter Try.func6, Try.ntmps6
  go_wp2_with (first | (refine wpList_build_as rfl 46 _ rfl c1 [(0, .int .i64 n)] (by kernel_rfl) HBD.out ?_) | fail)
  go_ret2
  exact ⟨w.heap.size, rfl, Nat.le_refl _, ⟨h1, h2, fun h => h, c1, HC.out, HR.out⟩, HB.out⟩
end Go.Proofs.Ytfnmdaoehnafcaa
