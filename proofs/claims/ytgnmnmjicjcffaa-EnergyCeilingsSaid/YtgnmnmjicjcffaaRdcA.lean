/- What the functions of package rangedec give: a byte, in which of so many parts the bytes lie, how many bytes were taken. -/
import Derived.Test.YtgnmnmjicjcffaaRngS
namespace Go.Proofs.Ytgnmnmjicjcffaa
open Go.RowKit
set_option linter.unusedVariables false

/-- Block g is a decoder of the bytes b, whose cells are told. -/
def DrcR (w : World) (base g : Nat) (v : Value) (b : List Int) (m : Nat) (c less : Int) : Prop :=
  Cel w g 69 #[v, .int .i64 m, .int .u32 c, .int .u32 less] ∧ w.ownsRow base 5 1 v b.length (b.map (Value.int .u8)) ∧ base ≤ g
section
variable {w w' : World} {base g : Nat} {v : Value} {b : List Int} {m : Nat} {c less : Int}
theorem DrcR.ne (h : DrcR w base g v b m c less) : ∀ k, v.ownBlock = some k → k ≠ g := fun k hk => own_ne_cel h.2.1 h.1 (by decide) k hk
theorem DrcR.lt (h : DrcR w base g v b m c less) : g < w.heap.size := h.1.lt
theorem DrcR.own (h : DrcR w base g v b m c less) (r : Nat) (hr : v.ownBlock = some r) : r < w.heap.size ∧ base ≤ r ∧ r ≠ g := ⟨own_lt h.2.1 r hr, own_base h.2.1 r hr, h.ne r hr⟩
theorem DrcR.cells (h : DrcR w base g v b m c less) : w.cell? ⟨g, 0, none⟩ = some v ∧ w.cell? ⟨g, 1, none⟩ = some (.int .i64 m) ∧ w.cell? ⟨g, 2, none⟩ = some (.int .u32 c) ∧ w.cell? ⟨g, 3, none⟩ = some (.int .u32 less) := ⟨h.1.cell 0, h.1.cell 1, h.1.cell 2, h.1.cell 3⟩
theorem DrcR.fz (h : DrcR w base g v b m c less) : w.frozen? ⟨g, 1, none⟩ = false ∧ w.frozen? ⟨g, 2, none⟩ = false ∧ w.frozen? ⟨g, 3, none⟩ = false := ⟨h.1.frozen 1, h.1.frozen 2, h.1.frozen 3⟩
theorem DrcR.drewN (h : DrcR w base g v b m c less) (n : Nat) : DrcR (w.drewN n) base g v b m c less := h
theorem DrcR.keeps {F : Nat → Prop} (h : DrcR w base g v b m c less) (hk : Keeps F w w') (h1 : ¬ F g) (h2 : ∀ k, v.ownBlock = some k → ¬ F k) : DrcR w' base g v b m c less := ⟨h.1.keeps hk h1, own_keeps h.2.1 hk h2, h.2.2⟩
theorem DrcR.below (h : DrcR w base g v b m c less) (hk : Below w.heap.size w w') : DrcR w' base g v b m c less := h.keeps (F := fun _ => False) (.of_below hk) (fun c => c) (fun _ _ c => c)
theorem DrcR.setMore (h : DrcR w base g v b m c less) (x : Nat) : DrcR (w.setCell ⟨g, 1, none⟩ (.int .i64 x)) base g v b x c less :=
  ⟨by simpa using h.1.set_ 1 (.int .i64 x), own_far h.2.1 h.ne _, h.2.2⟩
theorem DrcR.setCode (h : DrcR w base g v b m c less) (x : Int) : DrcR (w.setCell ⟨g, 2, none⟩ (.int .u32 x)) base g v b m x less :=
  ⟨by simpa using h.1.set_ 2 (.int .u32 x), own_far h.2.1 h.ne _, h.2.2⟩
theorem DrcR.setLess (h : DrcR w base g v b m c less) (x : Int) : DrcR (w.setCell ⟨g, 3, none⟩ (.int .u32 x)) base g v b m c x :=
  ⟨by simpa using h.1.set_ 3 (.int .u32 x), own_far h.2.1 h.ne _, h.2.2⟩
theorem DrcR.ints (h : DrcR w base g v b m c less) : ∃ a c, v = .slice a b.length c ∧ IntsAt w w.heap.size .u8 a b.length b := own_ints h.2.1
end
/-- Block g is a decoder of the bytes b in the state d. -/
def DrcAt (w : World) (base g : Nat) (v : Value) (b : List Int) (d : DecS) : Prop := 4 ≤ d.i ∧ DrcR w base g v b (d.i - 4) d.c (4294967295 - d.s)
section
variable {w w' : World} {base g : Nat} {v : Value} {b : List Int} {d : DecS}
theorem DrcAt.drewN (h : DrcAt w base g v b d) (n : Nat) : DrcAt (w.drewN n) base g v b d := h
theorem DrcAt.keeps {F : Nat → Prop} (h : DrcAt w base g v b d) (hk : Keeps F w w') (h1 : ¬ F g) (h2 : ∀ k, v.ownBlock = some k → ¬ F k) : DrcAt w' base g v b d := ⟨h.1, h.2.keeps hk h1 h2⟩
theorem DrcAt.below (h : DrcAt w base g v b d) (hk : Below w.heap.size w w') : DrcAt w' base g v b d := ⟨h.1, h.2.below hk⟩
theorem DrcAt.lt (h : DrcAt w base g v b d) : g < w.heap.size ∧ base ≤ g := ⟨h.2.lt, h.2.2.2⟩
theorem DrcAt.own (h : DrcAt w base g v b d) (r : Nat) (hr : v.ownBlock = some r) : r < w.heap.size ∧ base ≤ r ∧ r ≠ g := h.2.own r hr
end
theorem u32_not07 {c : Int} (h0 : 0 ≤ c) (h1 : c ≤ 4294967295) : bits .xor .u32 IntKind.u32.max c = 4294967295 - c := by
  obtain ⟨m, rfl⟩ : ∃ m : Nat, c = m := ⟨c.toNat, by omega⟩
  have a := u32_xor_nat 4294967295 m (by decide) (by omega)
  refine Eq.trans a ?_
  have e : 4294967295 ^^^ m = 4294967295 - m := by
    apply Nat.eq_of_testBit_eq
    intro i
    have s := Nat.testBit_two_pow_sub_succ (n := 32) (x := m) (by omega) i
    rw [show 2 ^ 32 - (m + 1) = 4294967295 - m by omega] at s
    rw [s, Nat.testBit_xor, show (4294967295 : Nat) = 2 ^ 32 - 1 by rfl, Nat.testBit_two_pow_sub_one]
    by_cases hi : i < 32
    · simp [hi]
    · have : m.testBit i = false := Nat.testBit_lt_two_pow (Nat.lt_of_lt_of_le (show m < 2 ^ 32 by omega) (Nat.pow_le_pow_right (by decide) (by omega)))
      simp [hi, this]
  rw [e]; omega
theorem u32_or_low {c x : Int} {k : Nat} (c0 : 0 ≤ c) (x0 : 0 ≤ x) (x1 : x < P2 k) (h : c * P2 k + P2 k ≤ 4294967296) : bits .or .u32 (c * P2 k) x = c * P2 k + x := by
  obtain ⟨m, rfl⟩ : ∃ m : Nat, c = m := ⟨c.toNat, by omega⟩
  obtain ⟨n, rfl⟩ : ∃ n : Nat, x = n := ⟨x.toNat, by omega⟩
  have e : P2 k = ((2 ^ k : Nat) : Int) := by unfold P2; rw [Int.natCast_pow]; rfl
  rw [e] at x1 h ⊢
  have em : (m : Int) * ((2 ^ k : Nat) : Int) = ((m * 2 ^ k : Nat) : Int) := by rw [Int.natCast_mul]
  rw [em] at h ⊢
  rw [u32_or_nat _ _ (by omega) (by omega)]
  have := Nat.shiftLeft_add_eq_or_of_lt (show n < 2 ^ k by omega) m
  rw [Nat.shiftLeft_eq] at this
  rw [← this]; omega
theorem u32_or_byte {c x : Int} (c0 : 0 ≤ c) (c1 : c ≤ 16777215) (x0 : 0 ≤ x) (x1 : x ≤ 255) : bits .or .u32 (c * 256) x = c * 256 + x :=
  u32_or_low (k := 8) c0 x0 (show x < 256 by omega) (show c * 256 + 256 ≤ 4294967296 by omega)

set_option maxRecDepth 100000 in
theorem drcDigit_any (base g : Nat) (v : Value) (b : List Int) (m : Nat) (c less : Int) (j : Nat) (i : Int) (w : World) (hi : i = j) (hD : DrcR w base g v b m c less) (hl : b.length ≤ 1000000) (hj : j ≤ 20000000) :
    Calls Try.prog 36 #[.pointer (some ⟨g, 0, none⟩), .int .i64 i] w fun x w' => x = .returned (.int .u8 (byteF b j)) ∧ w = w' := by
  subst hi
  obtain ⟨a, cp, rfl, hints⟩ := hD.ints
  obtain ⟨m0, m1, m2, m3⟩ := hD.cells
  have HI := Lib.hid hints
  clear hD hints m1 m2 m3
  by_cases hlt : j < b.length
  · obtain ⟨b', off, rfl, hbB, _, hcell⟩ := HI.out.at_ hlt
    have HX : RowKit.Hid (b.getD j 0 = byteF b j) := rfl
    rw [HX.out] at hcell
    generalize byteF b j = x at hcell ⊢
    have g1 : (j : Int) < (b.length : Int) := by omega
    go_enter Try.func36, Try.ntmps36
    go_wp2
    go_ret
    exact ⟨rfl, rfl⟩
  · have hx0 : byteF b j = 0 := by unfold byteF; simp [List.getD, List.getElem?_eq_none (Nat.le_of_not_lt hlt)]
    have g1 : (b.length : Int) ≤ (j : Int) := by omega
    rw [hx0]
    clear hx0
    go_enter Try.func36, Try.ntmps36
    go_wp2
    go_ret
    exact ⟨rfl, rfl⟩

set_option maxRecDepth 100000 in
theorem drcLies_any (base g : Nat) (v : Value) (b : List Int) (d : DecS) (all : Int) (w : World) (hD : DrcAt w base g v b d) (hG : GoodD d) (a0 : 1 ≤ all) (a1 : all ≤ 8192) :
    Calls Try.prog 69 #[.pointer (some ⟨g, 0, none⟩), .int .u32 all] w fun x w' => x = .returned (.int .u32 (decAt d all)) ∧ w = w' := by
  obtain ⟨m0, m1, m2, m3⟩ := hD.2.cells
  obtain ⟨s0, s1, c0, c1⟩ := hG
  obtain ⟨E0, E1, E2⟩ := each_bd s0 s1 a0 a1
  clear hD m0 m1
  obtain ⟨E, hE⟩ : ∃ E, d.s / all = E := ⟨_, rfl⟩
  obtain ⟨q, hq⟩ : ∃ q, d.c / E = q := ⟨_, rfl⟩
  have HA : RowKit.Hid (decAt d all = if all ≤ q then all - 1 else q) := by show _ = _; rw [← hq, ← hE]; rfl
  rw [hE] at E0 E1 E2
  have q0 : 0 ≤ q := by rw [← hq]; exact Int.ediv_nonneg c0 (by omega)
  have q1 : q ≤ d.c := by rw [← hq]; exact Int.ediv_le_self _ c0
  have e1 : d.s.tdiv all = E := by rw [Int.tdiv_eq_ediv_of_nonneg (by omega)]; exact hE
  have e2 : d.c.tdiv E = q := by rw [Int.tdiv_eq_ediv_of_nonneg (by omega)]; exact hq
  have e3 : ¬ all = 0 := by omega
  have e4 : ¬ E = 0 := by omega
  have e5 : IntKind.u32.wrap E = E := IntWalk.u32_in _ (by omega)
  have e6 : IntKind.u32.wrap q = q := IntWalk.u32_in _ (by omega)
  have e7 : IntKind.u32.wrap (all - 1) = all - 1 := IntWalk.u32_in _ (by omega)
  have hnot : bits .xor .u32 (if IntKind.u32.signed = true then -1 else IntKind.u32.max) (4294967295 - d.s) = d.s := by
    show bits .xor .u32 IntKind.u32.max (4294967295 - d.s) = d.s
    rw [u32_not07 (by omega) (by omega)]; omega
  clear hq hE
  go_enter Try.func69, Try.ntmps69
  go_wp2
  all_goals
    go_ret
    exact ⟨ret_int (by rw [HA.out]; split <;> omega), rfl⟩
end Go.Proofs.Ytgnmnmjicjcffaa
