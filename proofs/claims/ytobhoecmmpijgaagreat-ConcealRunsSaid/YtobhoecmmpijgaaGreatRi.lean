/- Plain facts, and what functions give, for the proofs of this seat: several texts in one, each with its own first remark. -/
import Derived.Test.YtobhoecmmpijgaaGreatRg
import Derived.Test.YtobhoecmmpijgaaGreatRh
import Derived.StillTailTactics
import Derived.Lib.SliceRun
import Derived.Test.YtobhoecmmpijgaaGreatRa

/- What the document's encoder of layer 6 gives: a new one, its bytes. -/
namespace Go.Proofs.YtobhoecmmpijgaaGreat
open Go.RowKit
set_option linter.unusedVariables false

theorem refEncNew_any (w : World) :
    Calls Tryz.prog 25 #[] w fun x w' => x = .returned (.pointer (some ⟨w.heap.size + 1, 0, none⟩)) ∧ EncMem w' w.heap.size (w.heap.size + 1) w.heap.size 4 (digL 0 4) 4294967295 0 ∧ Below w.heap.size w w' := by
  have HB := Lib.hid ((Below.alloc_new w (.cells #[.int .i64 0, .int .i64 0, .int .i64 0, .int .i64 0] 3)).alloc (by simp) (.cells #[.slice (some ⟨w.heap.size, 0, none⟩) 4 4, .int .i64 4294967295, .int .i64 0] 124))
  have HO := Lib.hid (World.ownsRow.alloc (World.ownsRow_lit (base := w.heap.size) (e := 3) (size := 1) w #[.int .i64 0, .int .i64 0, .int .i64 0, .int .i64 0] 4 (Nat.le_refl _) (by decide) rfl) (.cells #[.slice (some ⟨w.heap.size, 0, none⟩) 4 4, .int .i64 4294967295, .int .i64 0] 124))
  have hc := Cel.new (w.alloc (.cells #[.int .i64 0, .int .i64 0, .int .i64 0, .int .i64 0] 3)) 124 #[.slice (some ⟨w.heap.size, 0, none⟩) 4 4, .int .i64 4294967295, .int .i64 0]
  have e1 : (w.alloc (.cells #[.int .i64 0, .int .i64 0, .int .i64 0, .int .i64 0] 3)).heap.size = w.heap.size + 1 := by simp
  rw [e1] at hc
  have HC := Lib.hid hc
  clear hc e1
  go_enter Tryz.func25, Tryz.ntmps25
  go_wp2
  go_ret
  exact ⟨rfl, ⟨HC.out, HO.out, Nat.le_succ _⟩, HB.out⟩

/-! ### Bytes -/
/-- The last of the first k digits that isn't 0. -/
def lastK (D : List Int) : Nat → Int
  | 0 => -1
  | k + 1 => if D.getD k 0 = 0 then lastK D k else k
theorem lastK_bd (D : List Int) (k : Nat) : -1 ≤ lastK D k ∧ lastK D k < k := by
  induction k with
  | zero => exact ⟨Int.le_refl _, by show (-1 : Int) < 0; decide⟩
  | succ k ih => unfold lastK; split <;> omega
theorem lastK_over {D : List Int} : ∀ k j : Nat, lastK D k < j → j < k → D.getD j 0 = 0 := by
  intro k
  induction k with
  | zero => intro j _ h; omega
  | succ k ih =>
    intro j h1 h2
    unfold lastK at h1
    by_cases e : D.getD k 0 = 0
    · rw [if_pos e] at h1
      by_cases ej : j = k
      · subst ej; exact e
      · exact ih j h1 (by omega)
    · rw [if_neg e] at h1; omega
/-- Digits as bytes: without noughts behind. -/
def bytesL (D : List Int) : List Int := D.take (lastK D D.length + 1).toNat
theorem bytesL_len (D : List Int) : (bytesL D).length = (lastK D D.length + 1).toNat := by
  have := lastK_bd D D.length
  unfold bytesL; simp; omega
theorem info_u806 : (Tryz.prog.info? 5).map (fun i => (i.zero, i.size, i.bytes)) = some (some (.int .u8 0), 1, 1) := by kernel_rfl

end Go.Proofs.YtobhoecmmpijgaaGreat

/- What the document's coder of layers 6 and 7 gives: a decoder of bytes. -/
namespace Go.Proofs.YtobhoecmmpijgaaGreat
open Go.RowKit
set_option linter.unusedVariables false

/-- With noughts behind them bytes are the digits. -/
theorem bytesL_get (D : List Int) (j : Nat) : byteF (bytesL D) j = byteF D j := by
  unfold byteF
  have hb := lastK_bd D D.length
  by_cases h : j < (lastK D D.length + 1).toNat
  · unfold bytesL
    simp [List.getD, h]
  · have e : (bytesL D).getD j 0 = 0 := by
      rw [List.getD, List.getElem?_eq_none (by rw [bytesL_len]; omega)]; rfl
    rw [e]
    by_cases hj : j < D.length
    · exact (lastK_over D.length j (by omega) hj).symm
    · rw [List.getD, List.getElem?_eq_none (by omega)]; rfl

/-! ### A decoder of bytes -/
def OpenPost (b : List Int) (w : World) (x : Ending) (w' : World) : Prop := ∃ g v, x = .returned (.pointer (some ⟨g, 0, none⟩)) ∧ DecMem w' w.heap.size g v b (decNew (byteF b)) ∧ Below w.heap.size w w'

set_option maxRecDepth 100000 in
theorem refOpen_any (a : Option Addr) (len cap : Nat) (b : List Int) (w : World) (h : IntsAt w w.heap.size .u8 a len b) (hn : a = none → cap = 0) (hb : ∀ j, 0 ≤ byteF b j ∧ byteF b j ≤ 255) (hl : len ≤ 1000000) :
    Calls Tryz.prog 33 #[.slice a len cap] w (OpenPost b w) := by
  have HI := Lib.hid h
  have HN := Lib.hid hn
  have HB := Lib.hid hb
  have hbl := Lib.hid h.1
  have hown0 := Lib.hid (World.ownsRow_lit (base := w.heap.size) (e := 5) (size := 1) w #[] 0 (Nat.le_refl _) (by decide) rfl)
  have hbel0 := Lib.hid (Below.alloc_new w (.cells #[] 5))
  clear h hn hb
  go_enter Tryz.func33, Tryz.ntmps33
  go_wp2_with (at_builtin; go_loud (refine append_ints rfl _ _ 37 rfl w.heap.size 5 .u8 1 Tryz.underlying37 info_u806 _ 0 [] rfl hown0.out a len cap w.heap.size b rfl (HI.out.below hbel0.out) HN.out ?c1 ?c2 (by simp) ?_))
  case c1 => unfold maxLen; omega
  case c2 => omega
  intro v2 w2 hown hgrow _
  obtain ⟨a2, cp2, rfl⟩ := own_form (zs := b) (by simpa using hown)
  have hown2 : w2.ownsRow w.heap.size 5 1 (.slice a2 len cp2) len (b.map (Value.int .u8)) := by simpa using hown
  have hb2 : Below w.heap.size w w2 := hbel0.out.grown hgrow (by simp) (own_base hown0.out)
  have H0 : RowKit.Hid (DecMem (w2.alloc (.cells #[.slice a2 len cp2, .int .i64 0, .int .i64 0, .int .i64 4294967295] 133)) w.heap.size w2.heap.size (.slice a2 len cp2) b ⟨valB (byteF b) 0, 4294967295, 0⟩ ∧ Below w.heap.size w (w2.alloc (.cells #[.slice a2 len cp2, .int .i64 0, .int .i64 0, .int .i64 4294967295] 133))) :=
    ⟨⟨Cel.new w2 _ _, by rw [hbl.out]; exact World.ownsRow.alloc hown2 _, hb2.size⟩, hb2.alloc hb2.size _⟩
  have hsz := hb2.size
  clear hown hown2 hgrow hb2
  go_wp2
  generalize hgg : w2.heap.size = g at H0 hsz ⊢
  clear hgg
  go_loopw [4] (fun i wr => ∃ q : Nat, q ≤ 4 ∧ i = .int .i64 q ∧ RowKit.Hid (DecMem wr w.heap.size g (.slice a2 len cp2) b ⟨valB (byteF b) q, 4294967295, q⟩ ∧ Below w.heap.size w wr ∧ valB (byteF b) q < P256 q ∧ 0 ≤ valB (byteF b) q)) (fun i _ => 4 - (intOf i).toNat)
  case atStart => exact ⟨0, by omega, rfl, H0.out.1, H0.out.2, by show (0 : Int) < 1; decide, Int.le_refl 0⟩
  case round =>
    obtain ⟨q, hq, rfl, H⟩ := hrel
    clear H0
    by_cases hlt : q < 4
    · have hv1 : valB (byteF b) q ≤ 16777215 := by
        have h1 := H.out.2.2.1
        have : q = 0 ∨ q = 1 ∨ q = 2 ∨ q = 3 := by omega
        rcases this with rfl | rfl | rfl | rfl
        · have e : P256 0 = 1 := by decide
          omega
        · have e : P256 1 = 256 := by decide
          omega
        · have e : P256 2 = 65536 := by decide
          omega
        · have e : P256 3 = 16777216 := by decide
          omega
      have hbq := HB.out q
      go_wp2_with (go_at_call 62; go_loud (refine (refDecNext_any w.heap.size g _ b ⟨valB (byteF b) q, 4294967295, q⟩ _ H.out.1 HB.out (by rw [hbl.out]; exact hl) H.out.2.2.2 (by simp only; omega) (by simp only; omega)).mono ?_); rintro e5 w5 ⟨rfl, hm, hk⟩; have HM5 := Lib.hid hm; have HB5 := Lib.hid (H.out.2.1.trans (hk.below H.out.2.1.size (fun k h => by omega))); clear hm hk)
      go_roundw
      case rel =>
        have h1 := H.out.2.2.1
        have h2 := H.out.2.2.2
        refine ⟨q + 1, by omega, by go_num, HM5.out, HB5.out, ?_, ?_⟩
        · show valB (byteF b) q * 256 + byteF b q < P256 (q + 1)
          rw [P256_succ]; omega
        · show 0 ≤ valB (byteF b) q * 256 + byteF b q
          omega
      case measure => simp [intOf] <;> omega
    · obtain rfl : q = 4 := by omega
      go_wp2
      go_ret
      exact ⟨g, _, rfl, H.out.1, H.out.2.1⟩
end Go.Proofs.YtobhoecmmpijgaaGreat

/- What the functions of package rangedec give: a byte, in which of so many parts the bytes lie, how many bytes were taken. -/
namespace Go.Proofs.YtobhoecmmpijgaaGreat
open Go.RowKit
set_option linter.unusedVariables false

/-- Block g is a decoder of the bytes b, whose cells are told. -/
def DrcR (w : World) (base g : Nat) (v : Value) (b : List Int) (m : Nat) (c less : Int) : Prop :=
  Cel w g 210 #[v, .int .i64 m, .int .u32 c, .int .u32 less] ∧ w.ownsRow base 5 1 v b.length (b.map (Value.int .u8)) ∧ base ≤ g
section
variable {w w' : World} {base g : Nat} {v : Value} {b : List Int} {m : Nat} {c less : Int}
theorem DrcR.ne (h : DrcR w base g v b m c less) : ∀ k, v.ownBlock = some k → k ≠ g := fun k hk => own_ne_cel h.2.1 h.1 (by decide) k hk
theorem DrcR.lt (h : DrcR w base g v b m c less) : g < w.heap.size := h.1.lt
theorem DrcR.own (h : DrcR w base g v b m c less) (r : Nat) (hr : v.ownBlock = some r) : r < w.heap.size ∧ base ≤ r ∧ r ≠ g := ⟨own_lt h.2.1 r hr, own_base h.2.1 r hr, h.ne r hr⟩
theorem DrcR.cells (h : DrcR w base g v b m c less) : w.cell? ⟨g, 0, none⟩ = some v ∧ w.cell? ⟨g, 1, none⟩ = some (.int .i64 m) ∧ w.cell? ⟨g, 2, none⟩ = some (.int .u32 c) ∧ w.cell? ⟨g, 3, none⟩ = some (.int .u32 less) := ⟨h.1.cell 0, h.1.cell 1, h.1.cell 2, h.1.cell 3⟩
theorem DrcR.fz (h : DrcR w base g v b m c less) : w.frozen? ⟨g, 1, none⟩ = false ∧ w.frozen? ⟨g, 2, none⟩ = false ∧ w.frozen? ⟨g, 3, none⟩ = false := ⟨h.1.frozen 1, h.1.frozen 2, h.1.frozen 3⟩
theorem DrcR.drewN (h : DrcR w base g v b m c less) (n : Nat) : DrcR (w.drewN n) base g v b m c less := h
theorem DrcR.keeps {F : Nat → Prop} (h : DrcR w base g v b m c less) (hk : Keeps F w w') (h1 : ¬ F g) (h2 : ∀ k, v.ownBlock = some k → ¬ F k) : DrcR w' base g v b m c less := ⟨h.1.keeps hk h1, own_keeps h.2.1 hk h2, h.2.2⟩
theorem DrcR.below (h : DrcR w base g v b m c less) (hk : Below w.heap.size w w') : DrcR w' base g v b m c less := h.keeps (F := fun _ => False) (.of_below hk) (fun c => c) (fun _ _ c => c)
theorem DrcR.setMore (h : DrcR w base g v b m c less) (x : Nat) : DrcR (w.setCell ⟨g, 1, none⟩ (.int .i64 x)) base g v b x c less :=
  ⟨by simpa using h.1.set_ 1 (.int .i64 x), own_far h.2.1 h.ne _, h.2.2⟩
theorem DrcR.setCode (h : DrcR w base g v b m c less) (x : Int) : DrcR (w.setCell ⟨g, 2, none⟩ (.int .u32 x)) base g v b m x less :=
  ⟨by simpa using h.1.set_ 2 (.int .u32 x), own_far h.2.1 h.ne _, h.2.2⟩
theorem DrcR.setLess (h : DrcR w base g v b m c less) (x : Int) : DrcR (w.setCell ⟨g, 3, none⟩ (.int .u32 x)) base g v b m c x :=
  ⟨by simpa using h.1.set_ 3 (.int .u32 x), own_far h.2.1 h.ne _, h.2.2⟩
theorem DrcR.ints (h : DrcR w base g v b m c less) : ∃ a c, v = .slice a b.length c ∧ IntsAt w w.heap.size .u8 a b.length b := own_ints h.2.1
end
/-- Block g is a decoder of the bytes b in the state d. -/
def DrcAt (w : World) (base g : Nat) (v : Value) (b : List Int) (d : DecS) : Prop := 4 ≤ d.i ∧ DrcR w base g v b (d.i - 4) d.c (4294967295 - d.s)
section
variable {w w' : World} {base g : Nat} {v : Value} {b : List Int} {d : DecS}
theorem DrcAt.drewN (h : DrcAt w base g v b d) (n : Nat) : DrcAt (w.drewN n) base g v b d := h
theorem DrcAt.keeps {F : Nat → Prop} (h : DrcAt w base g v b d) (hk : Keeps F w w') (h1 : ¬ F g) (h2 : ∀ k, v.ownBlock = some k → ¬ F k) : DrcAt w' base g v b d := ⟨h.1, h.2.keeps hk h1 h2⟩
theorem DrcAt.below (h : DrcAt w base g v b d) (hk : Below w.heap.size w w') : DrcAt w' base g v b d := ⟨h.1, h.2.below hk⟩
theorem DrcAt.lt (h : DrcAt w base g v b d) : g < w.heap.size ∧ base ≤ g := ⟨h.2.lt, h.2.2.2⟩
theorem DrcAt.own (h : DrcAt w base g v b d) (r : Nat) (hr : v.ownBlock = some r) : r < w.heap.size ∧ base ≤ r ∧ r ≠ g := h.2.own r hr
end
theorem u32_not07 {c : Int} (h0 : 0 ≤ c) (h1 : c ≤ 4294967295) : bits .xor .u32 IntKind.u32.max c = 4294967295 - c := by
  obtain ⟨m, rfl⟩ : ∃ m : Nat, c = m := ⟨c.toNat, by omega⟩
  have a := u32_xor_nat 4294967295 m (by decide) (by omega)
  refine Eq.trans a ?_
  have e : 4294967295 ^^^ m = 4294967295 - m := by
    apply Nat.eq_of_testBit_eq
    intro i
    have s := Nat.testBit_two_pow_sub_succ (n := 32) (x := m) (by omega) i
    rw [show 2 ^ 32 - (m + 1) = 4294967295 - m by omega] at s
    rw [s, Nat.testBit_xor, show (4294967295 : Nat) = 2 ^ 32 - 1 by rfl, Nat.testBit_two_pow_sub_one]
    by_cases hi : i < 32
    · simp [hi]
    · have : m.testBit i = false := Nat.testBit_lt_two_pow (Nat.lt_of_lt_of_le (show m < 2 ^ 32 by omega) (Nat.pow_le_pow_right (by decide) (by omega)))
      simp [hi, this]
  rw [e]; omega
theorem u32_or_low {c x : Int} {k : Nat} (c0 : 0 ≤ c) (x0 : 0 ≤ x) (x1 : x < P2 k) (h : c * P2 k + P2 k ≤ 4294967296) : bits .or .u32 (c * P2 k) x = c * P2 k + x := by
  obtain ⟨m, rfl⟩ : ∃ m : Nat, c = m := ⟨c.toNat, by omega⟩
  obtain ⟨n, rfl⟩ : ∃ n : Nat, x = n := ⟨x.toNat, by omega⟩
  have e : P2 k = ((2 ^ k : Nat) : Int) := by unfold P2; rw [Int.natCast_pow]; rfl
  rw [e] at x1 h ⊢
  have em : (m : Int) * ((2 ^ k : Nat) : Int) = ((m * 2 ^ k : Nat) : Int) := by rw [Int.natCast_mul]
  rw [em] at h ⊢
  rw [u32_or_nat _ _ (by omega) (by omega)]
  have := Nat.shiftLeft_add_eq_or_of_lt (show n < 2 ^ k by omega) m
  rw [Nat.shiftLeft_eq] at this
  rw [← this]; omega
theorem u32_or_byte {c x : Int} (c0 : 0 ≤ c) (c1 : c ≤ 16777215) (x0 : 0 ≤ x) (x1 : x ≤ 255) : bits .or .u32 (c * 256) x = c * 256 + x :=
  u32_or_low (k := 8) c0 x0 (show x < 256 by omega) (show c * 256 + 256 ≤ 4294967296 by omega)

set_option maxRecDepth 100000 in
theorem drcDigit_any (base g : Nat) (v : Value) (b : List Int) (m : Nat) (c less : Int) (j : Nat) (i : Int) (w : World) (hi : i = j) (hD : DrcR w base g v b m c less) (hl : b.length ≤ 1000000) (hj : j ≤ 20000000) :
    Calls Tryz.prog 123 #[.pointer (some ⟨g, 0, none⟩), .int .i64 i] w fun x w' => x = .returned (.int .u8 (byteF b j)) ∧ w = w' := by
  subst hi
  obtain ⟨a, cp, rfl, hints⟩ := hD.ints
  obtain ⟨m0, m1, m2, m3⟩ := hD.cells
  have HI := Lib.hid hints
  clear hD hints m1 m2 m3
  by_cases hlt : j < b.length
  · obtain ⟨b', off, rfl, hbB, _, hcell⟩ := HI.out.at_ hlt
    have HX : RowKit.Hid (b.getD j 0 = byteF b j) := rfl
    rw [HX.out] at hcell
    generalize byteF b j = x at hcell ⊢
    have g1 : (j : Int) < (b.length : Int) := by omega
    go_enter Tryz.func123, Tryz.ntmps123
    go_wp2
    go_ret
    exact ⟨rfl, rfl⟩
  · have hx0 : byteF b j = 0 := by unfold byteF; simp [List.getD, List.getElem?_eq_none (Nat.le_of_not_lt hlt)]
    have g1 : (b.length : Int) ≤ (j : Int) := by omega
    rw [hx0]
    clear hx0
    go_enter Tryz.func123, Tryz.ntmps123
    go_wp2
    go_ret
    exact ⟨rfl, rfl⟩

set_option maxRecDepth 100000 in
theorem drcLies_any (base g : Nat) (v : Value) (b : List Int) (d : DecS) (all : Int) (w : World) (hD : DrcAt w base g v b d) (hG : GoodD d) (a0 : 1 ≤ all) (a1 : all ≤ 8192) :
    Calls Tryz.prog 156 #[.pointer (some ⟨g, 0, none⟩), .int .u32 all] w fun x w' => x = .returned (.int .u32 (decAt d all)) ∧ w = w' := by
  obtain ⟨m0, m1, m2, m3⟩ := hD.2.cells
  obtain ⟨s0, s1, c0, c1⟩ := hG
  obtain ⟨E0, E1, E2⟩ := each_bd s0 s1 a0 a1
  clear hD m0 m1
  obtain ⟨E, hE⟩ : ∃ E, d.s / all = E := ⟨_, rfl⟩
  obtain ⟨q, hq⟩ : ∃ q, d.c / E = q := ⟨_, rfl⟩
  have HA : RowKit.Hid (decAt d all = if all ≤ q then all - 1 else q) := by show _ = _; rw [← hq, ← hE]; rfl
  rw [hE] at E0 E1 E2
  have q0 : 0 ≤ q := by rw [← hq]; exact Int.ediv_nonneg c0 (by omega)
  have q1 : q ≤ d.c := by rw [← hq]; exact Int.ediv_le_self _ c0
  have e1 : d.s.tdiv all = E := by rw [Int.tdiv_eq_ediv_of_nonneg (by omega)]; exact hE
  have e2 : d.c.tdiv E = q := by rw [Int.tdiv_eq_ediv_of_nonneg (by omega)]; exact hq
  have e3 : ¬ all = 0 := by omega
  have e4 : ¬ E = 0 := by omega
  have e5 : IntKind.u32.wrap E = E := IntWalk.u32_in _ (by omega)
  have e6 : IntKind.u32.wrap q = q := IntWalk.u32_in _ (by omega)
  have e7 : IntKind.u32.wrap (all - 1) = all - 1 := IntWalk.u32_in _ (by omega)
  have hnot : bits .xor .u32 (if IntKind.u32.signed = true then -1 else IntKind.u32.max) (4294967295 - d.s) = d.s := by
    show bits .xor .u32 IntKind.u32.max (4294967295 - d.s) = d.s
    rw [u32_not07 (by omega) (by omega)]; omega
  clear hq hE
  go_enter Tryz.func156, Tryz.ntmps156
  go_wp2
  all_goals
    go_ret
    exact ⟨ret_int (by rw [HA.out]; split <;> omega), rfl⟩
end Go.Proofs.YtobhoecmmpijgaaGreat

/- What the functions of package rangedec give: a copy of bytes, a decoder of them, how many bytes were taken that aren't there. -/
namespace Go.Proofs.YtobhoecmmpijgaaGreat
open Go.RowKit
set_option linter.unusedVariables false

theorem info_u807 : (Tryz.prog.info? 5).map (fun i => (i.zero, i.size, i.bytes)) = some (some (.int .u8 0), 1, 1) := by kernel_rfl
/-- A copy of bytes, in memory of its own. -/
def ClonePost (b : List Int) (w : World) (x : Ending) (w' : World) : Prop :=
  ∃ v, x = .returned v ∧ w'.ownsRow w.heap.size 5 1 v b.length (b.map (Value.int .u8)) ∧ Below w.heap.size w w'
set_option maxRecDepth 100000 in
theorem clone8_any (a : Option Addr) (len cap : Nat) (b : List Int) (w : World) (h : IntsAt w w.heap.size .u8 a len b) (hn : a = none → cap = 0) (hl : len ≤ 1000000) :
    Calls Tryz.prog 122 #[.slice a len cap] w (ClonePost b w) := by
  have HI := Lib.hid h
  have HN := Lib.hid hn
  have hbl := Lib.hid h.1
  have hown0 := Lib.hid (World.ownsRow_lit (base := w.heap.size) (e := 5) (size := 1) w #[] 0 (Nat.le_refl _) (by decide) rfl)
  have hbel0 := Lib.hid (Below.alloc_new w (.cells #[] 5))
  cases a with
  | none =>
    obtain rfl := hn rfl
    have hb0 : b = [] := by
      have h0 := h.1
      rcases h.2 with h2 | ⟨_, _, h2, _⟩
      · subst h2; exact List.eq_nil_of_length_eq_zero h0
      · cases h2
    subst hb0
    obtain rfl : len = 0 := h.1.symm
    clear h hn
    have HO := Lib.hid (World.ownsRow_nil w w.heap.size 5 1)
    have qN : ∀ w : World, (binOp .eql 37 (.slice none 0 0) (.slice none 0 0)).run Tryz.prog w = .ok (.bool true) w := fun w => Lib.run_eql_slice_nil w _ _ _ _ _ _ _ Tryz.underlying37
    go_enter Tryz.func122, Tryz.ntmps122
    go_wp2
    go_ret
    exact ⟨_, rfl, HO.out, Below.refl _ _⟩
  | some ad =>
    clear h hn
    have qN : ∀ w : World, (binOp .eql 37 (.slice (some ad) len cap) (.slice none 0 0)).run Tryz.prog w = .ok (.bool false) w := fun w => Lib.run_eql_slice_nil w _ _ _ _ _ _ _ Tryz.underlying37
    go_enter Tryz.func122, Tryz.ntmps122
    go_wp2_with (at_builtin; go_loud (refine append_ints rfl _ _ 37 rfl w.heap.size 5 .u8 1 Tryz.underlying37 info_u807 _ 0 [] rfl hown0.out (some ad) len cap w.heap.size b rfl (HI.out.below hbel0.out) HN.out ?c1 ?c2 (by simp) ?_))
    case c1 => unfold maxLen; omega
    case c2 => omega
    intro v2 w2 hown hgrow _
    have hown2 : w2.ownsRow w.heap.size 5 1 v2 b.length (b.map (Value.int .u8)) := by rw [hbl.out]; simpa using hown
    have HO := Lib.hid hown2
    have HB : RowKit.Hid (Below w.heap.size w w2) := hbel0.out.grown hgrow (by simp) (own_base hown0.out)
    clear hown hown2 hgrow
    go_wp2
    go_ret
    exact ⟨_, rfl, HO.out, HB.out⟩

/-- A new decoder. -/
def DrcNewPost (b : List Int) (w : World) (x : Ending) (w' : World) : Prop :=
  ∃ g v, x = .returned (.pointer (some ⟨g, 0, none⟩)) ∧ DrcAt w' w.heap.size g v b (decNew (byteF b)) ∧ Below w.heap.size w w'
set_option maxRecDepth 100000 in
theorem drcNew_any (a : Option Addr) (len cap : Nat) (b : List Int) (w : World) (h : IntsAt w w.heap.size .u8 a len b) (hn : a = none → cap = 0) (hb : ∀ j, 0 ≤ byteF b j ∧ byteF b j ≤ 255) (hl : len ≤ 1000000) :
    Calls Tryz.prog 82 #[.slice a len cap] w (DrcNewPost b w) := by
  have HI := Lib.hid h
  have HN := Lib.hid hn
  have HBy := Lib.hid hb
  have hbl : b.length ≤ 1000000 := by rw [h.1]; exact hl
  clear h hn hb
  go_enter Tryz.func82, Tryz.ntmps82
  go_wp2_with (go_at_call 122; go_loud (refine (clone8_any a len cap b _ HI.out HN.out hl).mono ?_); rintro e1 w1 ⟨v, rfl, hown, hb⟩; obtain ⟨a2, cp2, rfl⟩ := own_form hown; have HO := Lib.hid hown; have HB := Lib.hid hb; clear hown hb)
  have H0 : RowKit.Hid (DrcR (w1.alloc (.cells #[.slice a2 b.length cp2, .int .i64 0, .int .u32 0, .int .u32 0] 210)) w.heap.size w1.heap.size (.slice a2 b.length cp2) b 0 0 0 ∧ Below w.heap.size w (w1.alloc (.cells #[.slice a2 b.length cp2, .int .i64 0, .int .u32 0, .int .u32 0] 210))) :=
    ⟨⟨Cel.new w1 _ _, World.ownsRow.alloc HO.out _, HB.out.size⟩, HB.out.alloc HB.out.size _⟩
  have hsz := HB.out.size
  clear HO HB
  generalize hgg : w1.heap.size = g at H0 hsz ⊢
  generalize (w1.alloc (.cells #[.slice a2 b.length cp2, .int .i64 0, .int .u32 0, .int .u32 0] 210)) = w2 at H0 ⊢
  clear hgg
  go_loopw [8] (fun i wr => ∃ q : Nat, q ≤ 4 ∧ i = .int .i64 q ∧ RowKit.Hid (DrcR wr w.heap.size g (.slice a2 b.length cp2) b 0 (valB (byteF b) q) 0 ∧ Below w.heap.size w wr ∧ valB (byteF b) q < P256 q ∧ 0 ≤ valB (byteF b) q)) (fun i _ => 4 - (intOf i).toNat)
  case atStart => exact ⟨0, by omega, rfl, H0.out.1, H0.out.2, by show (0 : Int) < 1; decide, Int.le_refl 0⟩
  case round =>
    obtain ⟨q, hq, rfl, H⟩ := hrel
    clear H0
    by_cases hlt : q < 4
    · have hv1 : valB (byteF b) q ≤ 16777215 := by
        have h1 := H.out.2.2.1
        have : q = 0 ∨ q = 1 ∨ q = 2 ∨ q = 3 := by omega
        rcases this with rfl | rfl | rfl | rfl
        · have e : P256 0 = 1 := by decide
          omega
        · have e : P256 1 = 256 := by decide
          omega
        · have e : P256 2 = 65536 := by decide
          omega
        · have e : P256 3 = 16777216 := by decide
          omega
      have hv0 := H.out.2.2.2
      have hbq := HBy.out q
      obtain ⟨y0, y1, y2, y3⟩ := H.out.1.cells
      obtain ⟨x1, x2, x3⟩ := H.out.1.fz
      clear y0 y1 y3 x1 x3
      have HV : RowKit.Hid (valB (byteF b) (q + 1) = valB (byteF b) q * 256 + byteF b q) := rfl
      have HP : RowKit.Hid (valB (byteF b) (q + 1) < P256 (q + 1)) := by
        have h1 := H.out.2.2.1
        show _ < _
        rw [HV.out, P256_succ]; omega
      have T1 := Lib.hid (H.out.1.setCode (valB (byteF b) (q + 1)))
      have K1 := Lib.hid (H.out.2.1.setCell (p := ⟨g, 2, none⟩) hsz (.int .u32 (valB (byteF b) (q + 1))))
      have HD : RowKit.Hid (∀ n, DrcR (wr.drewN n) w.heap.size g (.slice a2 b.length cp2) b 0 (valB (byteF b) q) 0) := fun n => H.out.1
      have hor := u32_or_byte hv0 hv1 hbq.1 hbq.2
      have hwx : IntKind.u32.wrap (byteF b q) = byteF b q := IntWalk.u32_in _ (by omega)
      have hwr : IntKind.u32.wrap (valB (byteF b) q * 256) = valB (byteF b) q * 256 := IntWalk.u32_in _ (by omega)
      have hq1 : (q : Int) < 4 := by omega
      rw [HV.out] at T1 K1
      go_wp2
      go_still_tail 8, (by kernel_rfl)
      repeat still_step
      still_call ((drcDigit_any w.heap.size g (.slice a2 b.length cp2) b 0 _ 0 q _ _ rfl (HD.out 1) hbl (by omega)).mono fun _ _ h => ⟨h.1, h.2.symm⟩)
      repeat still_step
      refine wpStill_nil ?_
      change wpList _ _ _ _ _ wr.drew
      go_wp2
      go_roundw
      case rel => exact ⟨q + 1, by omega, by go_num, T1.out.drewN 1, Below.drewN' K1.out 1, HP.out, by rw [HV.out]; omega⟩
      case measure => simp [intOf] <;> omega
    · obtain rfl : q = 4 := by omega
      go_wp2
      go_ret
      exact ⟨g, _, rfl, ⟨Nat.le_refl 4, H.out.1⟩, H.out.2.1⟩

end Go.Proofs.YtobhoecmmpijgaaGreat

/- What the functions of package rangedec give: a part taken. -/
namespace Go.Proofs.YtobhoecmmpijgaaGreat
open Go.RowKit
set_option linter.unusedVariables false

def DrcPost (base g : Nat) (v : Value) (b : List Int) (d : DecS) (w : World) (x : Ending) (w' : World) : Prop :=
  x = .returned (.tuple #[]) ∧ DrcAt w' base g v b d ∧ Keeps (fun j => j = g) w w'

set_option maxHeartbeats 400000 in
set_option maxRecDepth 100000 in
theorem drcTake_any (base g : Nat) (v : Value) (b : List Int) (d : DecS) (low own all : Int) (w : World) (hD : DrcAt w base g v b d) (hb : ∀ j, 0 ≤ byteF b j ∧ byteF b j ≤ 255) (hl : b.length ≤ 1000000) (hi : d.i ≤ 5000000) (hG : GoodD d) (hP : OkP low own all) (hlow : d.s / all * low ≤ d.c) :
    Calls Tryz.prog 157 #[.pointer (some ⟨g, 0, none⟩), .agg #[.int .u32 low, .int .u32 own, .int .u32 all]] w (DrcPost base g v b (decTake (byteF b) d low own all) w) := by
  have HBy := Lib.hid hb
  have h4 := hD.1
  have HD0 := Lib.hid hD.2
  have hgl := hD.lt.1
  have hpre := decPre_bd hG hP hlow
  obtain ⟨s0, s1, c0, c1⟩ := hG
  obtain ⟨p1, p2, p3, p4, p5⟩ := hP
  obtain ⟨E0, E1, E2⟩ := each_bd s0 s1 p1 p2
  have hput : decTake (byteF b) d low own all = scaleD (byteF b) (decPre d low own all) := rfl
  rw [hput]
  clear hput hD hb
  have HN : RowKit.Hid ((decPre d low own all).c = (if d.s / all * own ≤ d.c - d.s / all * low then d.s / all * own - 1 else d.c - d.s / all * low) ∧ (decPre d low own all).s = d.s / all * own ∧ (decPre d low own all).i = d.i) := ⟨rfl, rfl, rfl⟩
  generalize decPre d low own all = pre at HN hpre ⊢
  obtain ⟨r1, r2, r3, r4⟩ := hpre
  have a2 : 0 ≤ d.s / all * low := Int.mul_nonneg (by omega) p4
  have a3 : d.s / all * (low + own) ≤ d.s / all * all := Int.mul_le_mul_of_nonneg_left p5 (by omega)
  have a4 : d.s / all * 1 ≤ d.s / all * own := Int.mul_le_mul_of_nonneg_left p3 (by omega)
  rw [Int.mul_add] at a3
  have hq : d.s.tdiv all = d.s / all := Int.tdiv_eq_ediv_of_nonneg (by omega)
  have hall : ¬ all = 0 := by omega
  have hall2 : low ≤ 8192 ∧ own ≤ 8192 := by omega
  obtain ⟨E, hE⟩ : ∃ E, d.s / all = E := ⟨_, rfl⟩
  rw [hE] at hq a2 a3 a4 E0 E1 E2 HN hlow
  obtain ⟨A, hA⟩ : ∃ A, E * low = A := ⟨_, rfl⟩
  obtain ⟨O, hO⟩ : ∃ O, E * own = O := ⟨_, rfl⟩
  rw [hA] at a2 a3 HN hlow
  rw [hO] at a3 a4 HN
  have hnot : bits .xor .u32 (if IntKind.u32.signed = true then -1 else IntKind.u32.max) (4294967295 - d.s) = d.s := by
    show bits .xor .u32 IntKind.u32.max (4294967295 - d.s) = d.s
    rw [u32_not07 (by omega) (by omega)]; omega
  obtain ⟨S, hS⟩ : ∃ S, d.s = S := ⟨_, rfl⟩
  rw [hS] at HD0 hnot hq s0 s1 E2 hE
  clear hS
  have HC0 := Lib.hid (Cel.new w 247 #[.int .u32 low, .int .u32 own, .int .u32 all])
  have HB0 := Lib.hid (Below.alloc_new w (.cells #[.int .u32 low, .int .u32 own, .int .u32 all] 247))
  have HD1 := Lib.hid (HD0.out.below HB0.out)
  obtain ⟨w1, hw1⟩ : ∃ w1, w1 = w.alloc (.cells #[.int .u32 low, .int .u32 own, .int .u32 all] 247) := ⟨_, rfl⟩
  rw [← hw1] at HC0 HB0 HD1
  obtain ⟨m0, m1, m2, m3⟩ := HD1.out.cells
  obtain ⟨z1, z2, z3⟩ := HD1.out.fz
  have q0 := HC0.out.cell 0
  have q1 := HC0.out.cell 1
  have q2 := HC0.out.cell 2
  simp only [List.getElem?_toArray, List.getElem?_cons_zero, List.getElem?_cons_succ] at q0 q1 q2
  obtain ⟨X, hX⟩ : ∃ X, X = pre.c := ⟨_, rfl⟩
  have HP : RowKit.Hid (pre = ⟨X, O, d.i⟩) := by
    obtain ⟨c', s', i'⟩ := pre
    obtain ⟨h1, h2, h3⟩ := HN.out
    simp only at h1 h2 h3 hX
    subst h2 h3 hX
    exact rfl
  have HX : RowKit.Hid (X = if O ≤ d.c - A then O - 1 else d.c - A) := by show _ = _; rw [hX]; exact HN.out.1
  have O1 : O ≤ 4294967295 := by omega
  have e1 : IntKind.u32.wrap A = A := IntWalk.u32_in _ (by omega)
  have e2 : IntKind.u32.wrap (d.c - A) = d.c - A := IntWalk.u32_in _ (by omega)
  have e3 : IntKind.u32.wrap (O - 1) = O - 1 := IntWalk.u32_in _ (by omega)
  have e4 : IntKind.u32.wrap O = O := IntWalk.u32_in _ (by omega)
  have e5 : IntKind.u32.wrap E = E := IntWalk.u32_in _ (by omega)
  clear hX E2 a3 a4 m0 m1
  go_enter Tryz.func157, Tryz.ntmps157
  go_wp2
  rw [← hw1]
  clear hw1
  go_quiet (fail)
  go_wp2
  have hmin : (if O - 1 < d.c - A then O - 1 else d.c - A) = X := by
    have hx := HX.out
    rcases Int.lt_or_le (d.c - A) O with hlt | hle
    · rw [if_neg (by omega)] at hx ⊢; exact hx.symm
    · rw [if_pos (by omega)] at hx ⊢; exact hx.symm
  obtain ⟨wq, hwq⟩ : ∃ wq, wq = w1.drewN nq := ⟨_, rfl⟩
  have HD2 : RowKit.Hid (DrcR wq base g v b (d.i - 4) d.c (4294967295 - S)) := by rw [hwq]; exact HD1.out.drewN _
  have HC2 : RowKit.Hid (Cel wq w.heap.size 247 #[.int .u32 low, .int .u32 own, .int .u32 all]) := by rw [hwq]; exact HC0.out.drewN _
  have HB2 : RowKit.Hid (Below w.heap.size w wq) := by rw [hwq]; exact Below.drewN' HB0.out _
  rw [← hwq]
  clear hwq m2 m3 z1 z2 z3 q0 q1 q2 HC0 HB0 HD1
  obtain ⟨m0, m1, m2, m3⟩ := HD2.out.cells
  obtain ⟨z1, z2, z3⟩ := HD2.out.fz
  have q0 := HC2.out.cell 0
  simp only [List.getElem?_toArray, List.getElem?_cons_zero] at q0
  clear m0 m1 z1
  go_still_tail 15, (by kernel_rfl)
  repeat still_step
  change wpList _ _ _ _ _ wq.drew
  have H0 : RowKit.Hid (DrcR ((wq.setCell ⟨g, 2, none⟩ (.int .u32 X)).drew) base g v b (d.i - 4) X (4294967295 - S) ∧ Keeps (fun j => j = g) w ((wq.setCell ⟨g, 2, none⟩ (.int .u32 X)).drew)) :=
    ⟨(HD2.out.setCode X).drewN 1, (Keeps.setCell (F := fun j => j = g) (p := ⟨g, 2, none⟩) (Keeps.of_below HB2.out) (.inl rfl) _).drewN 1⟩
  go_wp2
  generalize (wq.setCell ⟨g, 2, none⟩ (.int .u32 X)).drew = w3 at H0 ⊢
  have r5 := HP.out
  rw [r5] at r1 r2 r3 r4
  simp only at r1 r2 r3 r4
  clear r5 m2 m3 z2 z3 q0 HC2 HD2 HB2 e1 e2 e3 e4 e5 hmin HX hall hnot hq hE hA hO HN hlow
  go_loopw [5] (fun s wr => ∃ st : DecS, s = .int .u32 st.s ∧ RowKit.Hid (DecScale b d.i pre st ∧ DrcR wr base g v b (st.i - 4) st.c (4294967295 - S) ∧ Keeps (fun j => j = g) w wr ∧ 4 ≤ st.i)) (fun s _ => (16777216 - intOf s).toNat)
  case atStart => exact ⟨⟨X, O, d.i⟩, rfl, ⟨by rw [HP.out], r1, r2, r3, r4, by simp only; omega, by simp only; omega, by simp only; omega⟩, H0.out.1, H0.out.2, h4⟩
  case round =>
    obtain ⟨st, rfl, H⟩ := hrel
    clear H0
    obtain ⟨S1, b0, b1, b2, b3, b4, b5, b6⟩ := H.out.1
    have HS1 := Lib.hid S1
    clear S1
    have i4 := H.out.2.2.2
    have HD3 := Lib.hid H.out.2.1
    have HK3 := Lib.hid H.out.2.2.1
    clear H
    obtain ⟨st_c, st_s, st_i⟩ := st
    simp only at b0 b1 b2 b3 b4 b5 b6 i4 HD3 HS1 ⊢
    by_cases hlt : st_s < 16777216
    · obtain ⟨k, rfl⟩ : ∃ k, st_i = k + 4 := ⟨st_i - 4, by omega⟩
      rw [Nat.add_sub_cancel] at HD3
      have S2 := Lib.hid (scaleD_step (byteF b) (d := ⟨st_c, st_s, k + 4⟩) (by simp only; omega) hlt)
      obtain ⟨x, hx⟩ : ∃ x, x = byteF b (k + 4) := ⟨_, rfl⟩
      have x01 : 0 ≤ x ∧ x ≤ 255 := by rw [hx]; exact HBy.out _
      have HXx := Lib.hid hx
      clear hx
      obtain ⟨x0, x1⟩ := x01
      have hor := u32_or_byte b2 (by omega) x0 x1
      have f1 : IntKind.u32.wrap (st_c * 256) = st_c * 256 := IntWalk.u32_in _ (by omega)
      have f2 : IntKind.u32.wrap x = x := IntWalk.u32_in _ (by omega)
      have f3 : IntKind.u32.wrap (st_s * 256) = st_s * 256 := IntWalk.u32_in _ (by omega)
      have f4 : IntKind.i64.wrap (4 + (k : Int)) = 4 + (k : Int) := IntWalk.i64_in _ (by omega)
      have f5 : IntKind.i64.wrap ((k : Int) + 1) = (k : Int) + 1 := IntWalk.i64_in _ (by omega)
      have T5 := Lib.hid ((HD3.out.drewN 1).setCode (st_c * 256 + x))
      have K5 := Lib.hid (Keeps.setCell (F := fun j => j = g) (p := ⟨g, 2, none⟩) (HK3.out.drewN 1) (.inl rfl) (.int .u32 (st_c * 256 + x)))
      have T6 : RowKit.Hid (DrcR ((wr.drew.setCell ⟨g, 2, none⟩ (.int .u32 (st_c * 256 + x))).setCell ⟨g, 1, none⟩ (.int .i64 ((k : Int) + 1))) base g v b (k + 1) (st_c * 256 + x) (4294967295 - S)) := T5.out.setMore (k + 1)
      have K6 : RowKit.Hid (Keeps (fun j => j = g) w ((wr.drew.setCell ⟨g, 2, none⟩ (.int .u32 (st_c * 256 + x))).setCell ⟨g, 1, none⟩ (.int .i64 ((k : Int) + 1)))) := Keeps.setCell (F := fun j => j = g) (p := ⟨g, 1, none⟩) K5.out (.inl rfl) _
      have HDr : RowKit.Hid (Calls Tryz.prog 123 #[.pointer (some ⟨g, 0, none⟩), .int .i64 (4 + (k : Int))] wr.drew fun e w' => e = .returned (.int .u8 x) ∧ w' = wr.drew) := by
        rw [HXx.out]
        exact (drcDigit_any base g v b _ _ _ (k + 4) (4 + (k : Int)) _ (by omega) (HD3.out.drewN 1) hl (by omega)).mono fun _ _ h => ⟨h.1, h.2.symm⟩
      obtain ⟨y0, y1, y2, y3⟩ := HD3.out.cells
      obtain ⟨v1, v2, v3⟩ := HD3.out.fz
      clear y0 y3
      go_wp2
      go_still_tail 17, (by kernel_rfl)
      repeat still_step
      still_call HDr.out
      repeat still_step
      change wpList _ _ _ _ _ wr.drew
      go_wp2
      go_roundw
      case rel => exact ⟨⟨st_c * 256 + x, st_s * 256, k + 5⟩, rfl, ⟨by rw [← HS1.out, S2.out, HXx.out], by simp only; omega, by simp only; omega, by simp only; omega, by simp only; omega, by simp only; omega, by simp only; omega, by simp only; omega⟩, T6.out, K6.out, by simp only; omega⟩
      case measure => simp [intOf] <;> omega
    · have Z : RowKit.Hid (scaleD (byteF b) pre = ⟨st_c, st_s, st_i⟩) := by
        show _ = _
        rw [← HS1.out]; exact scaleD_end _ (by simp only; omega)
      have hn2 : bits .xor .u32 (if IntKind.u32.signed = true then -1 else IntKind.u32.max) st_s = 4294967295 - st_s := u32_not07 (by omega) (by omega)
      obtain ⟨y0, y1, y2, y3⟩ := HD3.out.cells
      obtain ⟨v1, v2, v3⟩ := HD3.out.fz
      have T5 := Lib.hid (HD3.out.setLess (4294967295 - st_s))
      have K5 := Lib.hid (Keeps.setCell (F := fun j => j = g) (p := ⟨g, 3, none⟩) HK3.out (.inl rfl) (.int .u32 (4294967295 - st_s)))
      clear y0 y1
      go_wp2
      go_end0
      exact ⟨rfl, by rw [Z.out]; exact ⟨i4, T5.out⟩, K5.out⟩
end Go.Proofs.YtobhoecmmpijgaaGreat
