/- A queue in memory; New, slot, Lost, Waits, Say, Flush. -/
import Derived.Test.YtnjnfocpjmmibaaQueE
import Derived.Deep.MidRow
namespace Go.Proofs.Ytnjnfocpjmmibaa
open Go.RowKit
set_option linter.unusedVariables false
set_option linter.unusedSimpArgs false

/-- What a queue's cells say. -/
structure QuX (w : World) (D : Nat → Prop) (n : Nat) (q : Q22) (cs : Array Value) (f : Nat) : Prop where
  size : cs.size = 264
  must : DuC w D cs q.head
  room : cs[3]? = some (.int .i64 n)
  first : cs[260]? = some (.int .i64 f)
  count : cs[261]? = some (.int .i64 q.l.length)
  drops : cs[262]? = some (.bool q.drops)
  lost : cs[263]? = some (.int .i64 q.lost)
  f256 : f < 256
  pk : ∀ i p, q.l[i]? = some p → ∃ a c, cs[4 + (f + i) % 256]? = some (.slice a p.length c) ∧ By22 w D a p.length c p
/-- A queue. -/
structure QuAt (w : World) (g n : Nat) (q : Q22) (D : Nat → Prop) : Prop where
  n1 : 1 ≤ n
  n2 : n ≤ 256
  len : q.l.length ≤ n
  dg : ¬ D g
  c : ∃ cs f, Cel w g 52 cs ∧ QuX w D n q cs f
section
variable {w w' : World} {D E F : Nat → Prop} {g n f : Nat} {q : Q22} {cs : Array Value}
theorem QuX.keeps (h : QuX w D n q cs f) (hk : Keeps F w w') (hF : ∀ j, F j → ¬ D j) : QuX w' D n q cs f := by
  refine ⟨h.size, h.must.keeps hk hF, h.room, h.first, h.count, h.drops, h.lost, h.f256, fun i p hp => ?_⟩
  obtain ⟨a, c, h1, h2⟩ := h.pk i p hp
  exact ⟨a, c, h1, h2.keeps hk hF⟩
theorem QuX.weaken (h : QuX w D n q cs f) (hD : ∀ j, D j → j < w.heap.size → E j) : QuX w E n q cs f := by
  refine ⟨h.size, h.must.weaken hD, h.room, h.first, h.count, h.drops, h.lost, h.f256, fun i p hp => ?_⟩
  obtain ⟨a, c, h1, h2⟩ := h.pk i p hp
  exact ⟨a, c, h1, h2.weaken hD⟩
theorem QuAt.keeps (h : QuAt w g n q D) (hk : Keeps F w w') (hF : ∀ j, F j → ¬ D j ∧ j ≠ g) : QuAt w' g n q D := by
  obtain ⟨cs, f, h1, h2⟩ := h.c
  exact ⟨h.n1, h.n2, h.len, h.dg, cs, f, h1.keeps hk fun hf => (hF g hf).2 rfl, h2.keeps hk fun j hj => (hF j hj).1⟩
theorem QuAt.below (h : QuAt w g n q D) (hb : Below w.heap.size w w') : QuAt w' g n q D := h.keeps (F := fun _ => False) (.of_below hb) fun _ c => c.elim
theorem QuAt.weaken (h : QuAt w g n q D) (hD : ∀ j, D j → j < w.heap.size → E j) (hg : ¬ E g) : QuAt w g n q E := by
  obtain ⟨cs, f, h1, h2⟩ := h.c
  exact ⟨h.n1, h.n2, h.len, hg, cs, f, h1, h2.weaken hD⟩
theorem QuAt.lt (h : QuAt w g n q D) : g < w.heap.size := by
  obtain ⟨cs, f, h1, _⟩ := h.c
  exact h1.lt
/-- What must go is another now. -/
theorem QuX.due (h : QuX w D n q cs f) (hg : g < w.heap.size) (hd : ¬ D g) {H : List Int} (hp : DuPost g cs H D w w') : ∃ cs', Cel w' g 52 cs' ∧ QuX w' (fun j => D j ∨ w.heap.size ≤ j) n ⟨H, q.l, q.drops, q.lost⟩ cs' f ∧ Keeps (fun j => j = g) w w' := by
  obtain ⟨cs', d1, d2, d3, d4, d5⟩ := hp
  refine ⟨cs', d1, ⟨d2.trans h.size, d4, (d3 3 (by omega)).trans h.room, (d3 260 (by omega)).trans h.first, (d3 261 (by omega)).trans h.count, (d3 262 (by omega)).trans h.drops, (d3 263 (by omega)).trans h.lost, h.f256, fun i p hp => ?_⟩, d5⟩
  obtain ⟨a, c, h1, h2⟩ := h.pk i p hp
  exact ⟨a, c, (d3 _ (by omega)).trans h1, (h2.keeps d5 fun j e hj => hd (e ▸ hj)).weaken fun j hj _ => .inl hj⟩
theorem QuAt.due (h : QuAt w g n q D) {cs : Array Value} {f : Nat} (hx : QuX w D n q cs f) {H : List Int} (hp : DuPost g cs H D w w') : QuAt w' g n ⟨H, q.l, q.drops, q.lost⟩ (fun j => D j ∨ w.heap.size ≤ j) ∧ Keeps (fun j => j = g) w w' := by
  obtain ⟨cs', d1, d2, d3⟩ := hx.due h.lt h.dg hp
  have hl := h.lt
  exact ⟨⟨h.n1, h.n2, h.len, fun hj => by rcases hj with hj | hj; exact h.dg hj; omega, cs', f, d1, d2⟩, d3⟩
end
/-! ### A new one -/
def quCells (n : Int) : List Value := [.slice none 0 0, .int .i64 0, .pointer none, .int .i64 n] ++ (List.replicate 256 (.slice none 0 0) ++ [.int .i64 0, .int .i64 0, .bool true, .int .i64 0])
theorem quCells_one (n : Int) : (quCells n).toArray.all (·.oneCell') = true := by
  rw [Array.all_eq_true_iff_forall_mem]
  intro x hx
  simp only [quCells, List.mem_toArray, List.mem_append, List.mem_replicate, List.mem_cons, List.not_mem_nil, or_false] at hx
  rcases hx with (rfl | rfl | rfl | rfl) | ⟨_, rfl⟩ | (rfl | rfl | rfl | rfl) <;> rfl
set_option maxRecDepth 100000 in
theorem qu_build (n : Int) : Try.prog.built 52 [(1, .int .i64 n), (5, .bool true)] = some (quCells n).toArray := by kernel_rfl
theorem wpList_build_as22 {P : Program} {ops : Array Oper} {rest : List Oper} {o : Oper} {a : Act} {w : World} {Q : Exit → Act → World → Prop} (hg : o.guard = none) (t : TypeId) (parts : Array (Nat × Operand)) (ho : o.op = .build t parts) (cs : Array Value)
    (vs : List (Nat × Value)) (hv : (parts.map fun (i, x) => (i, a.eval x)).toList = vs) (hf : P.built t vs = some cs) (h : wpList P ops Q rest (a.put o.dst (.agg cs)) w) : wpList P ops Q (o :: rest) a w :=
  wpList_build hg t parts ho (by rw [hv, hf]; rfl) (by rw [hv, hf]; exact h)
theorem quNew_out (n : Int) (w : World) (h : n < 1 ∨ 256 < n) :
    Calls Try.prog 8 #[.int .i64 n] w fun e w' => e = .returned (.tuple #[.pointer none, .int .i64 1]) ∧ w' = w := by
  rcases h with h | h
  · have hd : decide (n < 1) = true := by simp; omega
    go_enter Try.func8, Try.ntmps8
    go_wp2
    go_ret2
    exact ⟨rfl, rfl⟩
  · have hd : decide (n < 1) = false := by simp; omega
    have hd2 : decide (256 < n) = true := by simp; omega
    go_enter Try.func8, Try.ntmps8
    go_wp2
    go_ret2
    exact ⟨rfl, rfl⟩
/-- What it holds at first. -/
def q0_22 : Q22 := ⟨[], [], true, 0⟩
set_option maxRecDepth 100000 in
theorem quNew_any (n : Nat) (w : World) (h1 : 1 ≤ n) (h2 : n ≤ 256) :
    Calls Try.prog 8 #[.int .i64 n] w fun e w' => ∃ g, e = .returned (.tuple #[.pointer (some ⟨g, 0, none⟩), .int .i64 0]) ∧ w.heap.size ≤ g ∧ QuAt w' g n q0_22 (fun _ => False) ∧ Below w.heap.size w w' := by
  have hd : decide ((n : Int) < 1) = false := by simp; omega
  have hd2 : decide ((256 : Int) < (n : Int)) = false := by simp; omega
  have HC := Lib.hid (Cel.new w 52 (quCells n).toArray)
  have HB := Lib.hid (Below.alloc_new w (.cells (quCells n).toArray 52))
  have hbd := qu_build n
  have HR : RowKit.Hid (QuX (w.alloc (.cells (quCells n).toArray 52)) (fun _ => False) n q0_22 (quCells n).toArray 0) := by
    refine Lib.hid ⟨by simp [quCells], ⟨[], 0, none, 0, none, [], ⟨rfl, rfl, rfl, By22.nil _ _, rfl, .inl rfl, Nat.le_refl _⟩, by simp, rfl⟩, rfl, by simp [quCells], by simp [quCells, q0_22], by simp [quCells, q0_22], by simp [quCells, q0_22], by omega, fun i p hp => by simp [q0_22] at hp⟩
  have o1 := quCells_one n
  obtain ⟨c1, e1⟩ : ∃ c1, (quCells n).toArray = c1 := ⟨_, rfl⟩
  have z1 : c1.size = 264 := by rw [← e1]; simp [quCells]
  rw [e1] at hbd HC HB HR o1
  have HBD := Lib.hid hbd
  have HO := Lib.hid o1
  clear hbd e1 o1
  go_enter Try.func8, Try.ntmps8
  go_wp2_with (first | (refine wpList_build_as22 rfl 52 _ rfl c1 [(1, .int .i64 n), (5, .bool true)] (by kernel_rfl) HBD.out ?_) | fail)
  go_ret2
  exact ⟨w.heap.size, rfl, Nat.le_refl _, ⟨h1, h2, Nat.zero_le _, fun h => h, c1, 0, HC.out, HR.out⟩, HB.out⟩
/-! ### Small ones -/
theorem quSlot_any (g f i : Nat) (w : World) (h : w.cell? ⟨g, 260, none⟩ = some (.int .i64 f)) (hf : f < 256) (hi : i ≤ 1000) :
    Calls Try.prog 18 #[.pointer (some ⟨g, 0, none⟩), .int .i64 i] w fun e w' => e = .returned (.int .i64 (((f + i) % 256 : Nat) : Int)) ∧ w = w' := by
  have e1 : IntKind.i64.wrap ((f : Int) + (i : Int)) = (f : Int) + (i : Int) := IntWalk.i64_in _ (by omega)
  have he : IntKind.i64.wrap (((f : Int) + (i : Int)).tmod 256) = (((f + i) % 256 : Nat) : Int) := by
    rw [Int.tmod_eq_emod_of_nonneg (by omega), ← Int.natCast_add]
    have : (f + i) % 256 < 256 := Nat.mod_lt _ (by omega)
    exact (IntWalk.i64_in _ (by omega)).trans (by omega)
  go_enter Try.func18, Try.ntmps18
  go_wp2
  go_ret
  exact ⟨by first | rfl | simp [he] | (simp; omega), rfl⟩
theorem quLost_any (g n : Nat) (q : Q22) (D : Nat → Prop) (w : World) (h : QuAt w g n q D) :
    Calls Try.prog 17 #[.pointer (some ⟨g, 0, none⟩)] w fun e w' => e = .returned (.int .i64 q.lost) ∧ w' = w := by
  obtain ⟨cs, f, h1, h2⟩ := h.c
  have k0 : w.cell? ⟨g, 263, none⟩ = some (.int .i64 q.lost) := (h1.cell 263).trans h2.lost
  clear h h1 h2
  go_enter Try.func17, Try.ntmps17
  go_wp2
  go_ret
  exact ⟨rfl, rfl⟩
theorem quLost_nil (w : World) :
    Calls Try.prog 17 #[.pointer none] w fun e w' => e = .returned (.int .i64 0) ∧ w' = w := by
  go_enter Try.func17, Try.ntmps17
  go_wp2
  go_ret
  exact ⟨rfl, rfl⟩
set_option maxRecDepth 100000 in
theorem quWaits_any (g n : Nat) (q : Q22) (D : Nat → Prop) (w : World) (h : QuAt w g n q D) (hl : q.head.length ≤ 400000) :
    Calls Try.prog 16 #[.pointer (some ⟨g, 0, none⟩)] w fun e w' => e = .returned (.tuple #[.int .i64 q.l.length, .int .i64 q.head.length]) ∧ ∃ k, w' = w.drewN k := by
  obtain ⟨cs, f, h1, h2⟩ := h.c
  have k0 : w.cell? ⟨g, 261, none⟩ = some (.int .i64 q.l.length) := (h1.cell 261).trans h2.count
  have HC : RowKit.Hid (∀ nq, Calls Try.prog 20 #[.pointer (some ⟨g, 0, none⟩)] (w.drewN nq) fun e w' => e = .returned (.int .i64 q.head.length) ∧ ∃ k, w' = (w.drewN nq).drewN k) :=
    fun nq => due_count g cs q.head D (w.drewN nq) (h1.drewN nq) (h2.must.keeps (F := fun _ => False) (.of_below (Below.drewN' (Below.refl _ _) nq)) fun _ c => c.elim) (by omega)
  generalize q.head.length = N at HC
  generalize q.l.length = M at k0
  clear h h1 h2 hl
  go_enter Try.func16, Try.ntmps16
  go_wp2
  go_quiet ((go_at_call 20; exact quiet22 (HC.out _)))
  go_wp2
  go_ret2
  exact ⟨rfl, _, rfl⟩
theorem quWaits_nil (w : World) :
    Calls Try.prog 16 #[.pointer none] w fun e w' => e = .returned (.tuple #[.int .i64 0, .int .i64 0]) ∧ w' = w := by
  go_enter Try.func16, Try.ntmps16
  go_wp2
  go_ret2
  exact ⟨rfl, rfl⟩
theorem quSay_any (g n : Nat) (q : Q22) (D E : Nat → Prop) (a : Option Addr) (m c : Nat) (b : List Int) (w : World) (h : QuAt w g n q D) (hb : By22 w E a m c b) (hl : q.head.length + m ≤ 400000) :
    Calls Try.prog 11 #[.pointer (some ⟨g, 0, none⟩), .slice a m c] w fun e w' => (∃ x, e = .returned x) ∧ QuAt w' g n (q.say b) (fun j => D j ∨ w.heap.size ≤ j) ∧ Keeps (fun j => j = g) w w' := by
  obtain ⟨cs, f, h1, h2⟩ := h.c
  have HS := Lib.hid (due_say g cs q.head D E a m c b w h1 h2.must h.dg hb (by omega) (by have := h2.size; omega))
  have HX : RowKit.Hid (QuAt w g n q D ∧ QuX w D n q cs f) := ⟨h, h2⟩
  clear h h1 h2 hb hl
  go_enter Try.func11, Try.ntmps11
  go_wp2_with (go_at_call 19; go_loud (refine HS.out.mono ?_); rintro e w2 ⟨⟨x, rfl⟩, hp⟩; have HP := Lib.hid hp; clear hp)
  go_end0
  exact ⟨⟨_, rfl⟩, HX.out.1.due HX.out.2 HP.out⟩
theorem quSay_nil (a : Option Addr) (m c : Nat) (w : World) :
    Calls Try.prog 11 #[.pointer none, .slice a m c] w fun e w' => (∃ x, e = .returned x) ∧ w' = w := by
  go_enter Try.func11, Try.ntmps11
  go_wp2
  refine bodyPost_ret (results_none rfl _ _ _) rfl ?_
  exact ⟨⟨_, rfl⟩, rfl⟩
end Go.Proofs.Ytnjnfocpjmmibaa
