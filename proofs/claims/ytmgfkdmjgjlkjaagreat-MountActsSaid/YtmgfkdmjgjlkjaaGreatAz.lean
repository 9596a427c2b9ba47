/- Plain facts, and what functions give, for the proofs of this seat: several texts in one, each with its own first remark. -/
import Derived.Test.YtmgfkdmjgjlkjaaGreatAy

namespace Go.Proofs.YtmgfkdmjgjlkjaaGreat
open Go
set_option linter.unusedVariables false
set_option linter.unusedSimpArgs false
def b2 (b : Bool) : Int := if b then 1 else 0
theorem b2_bd (b : Bool) : 0 ≤ b2 b ∧ b2 b ≤ 1 := by cases b <;> decide
def heldF (f : Nat → Int) (i : Nat) : Int := satP (f i) 26
theorem heldF_bd (f : Nat → Int) (i : Nat) : -33554432 ≤ heldF f i ∧ heldF f i ≤ 33554431 := by
  unfold heldF
  rw [satP_in (by decide) (by decide), show P2 ((26 : Int).toNat - 1) = 33554432 by decide]
  split
  · omega
  · split <;> omega
theorem heldF_max (f : Nat → Int) (i : Nat) : max (-33554432) (min (f i) 33554431) = heldF f i := by
  unfold heldF
  rw [satP_in (by decide) (by decide), show P2 ((26 : Int).toNat - 1) = 33554432 by decide]
  split
  · omega
  · split <;> omega
def c21 (f : Nat → Int) (j : Nat) : Int := if j < 21 then f j else 0
theorem c21_at (f : Nat → Int) {j : Nat} (h : j < 21) : c21 f j = f j := if_pos h
structure CutOk (l : Nat → Int) : Prop where
  bd : ∀ b, 0 ≤ l b ∧ l b ≤ 26
  out : ∀ j, 21 ≤ j → l j = 0
theorem c21_ok {f : Nat → Int} (h : ∀ b, b < 21 → 0 ≤ f b ∧ f b ≤ 26) : CutOk (c21 f) := by
  refine ⟨fun b => ?_, fun j hj => if_neg (by omega)⟩
  unfold c21
  split
  · exact h b (by assumption)
  · omega
theorem CutOk.zero : CutOk (fun _ => 0) := ⟨fun _ => by omega, fun _ _ => rfl⟩
theorem CutOk.tab {l : Nat → Int} (h : CutOk l) : (fun j => (tabF 21 l).getD j 0) = l := by
  funext j
  by_cases hj : j < 21
  · exact tabF_getD l hj
  · rw [List.getD_eq_getElem?_getD, List.getElem?_eq_none (by rw [tabF_len]; omega), h.out j (by omega)]
    rfl
theorem CutOk.step {l : Nat → Int} (h : CutOk l) (q x : Int) : CutOk (stepF l q x) := by
  refine ⟨fun b => ?_, fun j hj => ?_⟩
  · have := h.bd b; have := stepF_bd (l := l) q x this.1; omega
  · have := h.out j hj; have := stepF_bd (l := l) q x (h.bd j).1; omega
theorem CutOk.right {l : Nat → Int} (h : CutOk l) : rightB (tabF 21 l) = true := rightB_of (tabF_len _ _) fun j hj => by rw [tabF_getD _ hj]; exact h.bd j
theorem CutOk.may {l : Nat → Int} (h : CutOk l) (q x : Int) : mayQ (tabF 21 l) (tabF 21 (stepF l q x)) = true :=
  mayQ_of h.right (h.step q x).right fun j hj => by rw [tabF_getD _ hj, tabF_getD _ hj]; have := stepF_bd (l := l) q x (h.bd j).1; omega
theorem bits_26 {x : Int} (h : -33554432 ≤ x ∧ x ≤ 33554431) : bitsI x ≤ 26 := bitLen_le (by omega)
theorem ceil_26 {x : Nat → Int} (hx : ∀ i, -33554432 ≤ x i ∧ x i ≤ 33554431) (b : Nat) : 0 ≤ ceilF x b ∧ ceilF x b ≤ 26 :=
  maxTo_bd (by decide) _ fun i _ => by have := bits_26 (hx (edgeK b + i)); unfold bitF; omega
theorem isLoss_ex {B : Nat} {E : Nat → EncS} (h : (bytesE (E 31)).length ≤ B) : ∃ x, IsLoss B E x := by
  have a : ∀ n, (∃ x, x < n ∧ (bytesE (E x)).length ≤ B ∧ ∀ j, j < x → B < (bytesE (E j)).length) ∨ ∀ j, j < n → B < (bytesE (E j)).length := by
    intro n
    induction n with
    | zero => exact .inr fun j hj => by omega
    | succ n ih =>
      rcases ih with ⟨x, h1, h2, h3⟩ | h4
      · exact .inl ⟨x, by omega, h2, h3⟩
      · by_cases c : (bytesE (E n)).length ≤ B
        · exact .inl ⟨n, by omega, c, h4⟩
        · refine .inr fun j hj => ?_
          by_cases e : j = n
          · subst e; omega
          · exact h4 j (by omega)
  rcases a 32 with ⟨x, h1⟩ | h2
  · exact ⟨x, h1⟩
  · have := h2 31 (by omega); omega
noncomputable def lossF (B : Nat) (E : Nat → EncS) : Nat := Classical.epsilon (IsLoss B E)
theorem lossF_ok {B : Nat} {E : Nat → EncS} (h : ∃ x, IsLoss B E x) : IsLoss B E (lossF B E) := Classical.epsilon_spec h
theorem lossF_is {B : Nat} {E : Nat → EncS} {x : Nat} (h : IsLoss B E x) : lossF B E = x := IsLoss.same (lossF_ok ⟨x, h⟩) h
structure Frm where
  wh : Bool
  br : Bool
  Q : Int
  B : Nat
  x : Nat → Int
  ah : Nat → Int
structure Frm.Ok (F : Frm) : Prop where
  q : 1 ≤ F.Q ∧ F.Q ≤ 10
  b : 32 ≤ F.B ∧ F.B ≤ 600
  x : ∀ i, -33554432 ≤ F.x i ∧ F.x i ≤ 33554431
def Frm.l (F : Frm) : Nat → Int := c21 (ceilF F.x)
def Frm.st (F : Frm) (lo : Nat) : Nat → Int := stepF F.l F.Q lo
def Frm.E (F : Frm) (lo : Nat) : EncS := payE F.wh (b2 F.br) F.Q lo F.l F.ah F.x
def Frm.C (F : Frm) (lo : Nat) : EncS := ceilE F.wh (b2 F.br) F.Q lo F.l F.ah
def Frm.H (F : Frm) (lo : Nat) : EncS := headE (b2 F.wh) (b2 F.br) F.Q lo
noncomputable def Frm.lo (F : Frm) : Nat := lossF F.B F.E
noncomputable def Frm.steps (F : Frm) : Nat → Int := F.st F.lo
noncomputable def Frm.bytes (F : Frm) : List Int := bytesE (F.E F.lo)
noncomputable def Frm.out (F : Frm) (seed : Int) : Nat → Int := outF F.l F.steps (lineQ F.x F.l F.steps) seed
noncomputable def Frm.held (F : Frm) (seed : Int) : Nat → Int := heldF (F.out seed)
noncomputable def Frm.reach (F : Frm) : Int := reachTo F.l F.steps 21
variable {F : Frm}
theorem Frm.Ok.l (h : F.Ok) : CutOk F.l := c21_ok fun b _ => ceil_26 h.x b
theorem Frm.Ok.st (h : F.Ok) (lo : Nat) : CutOk (F.st lo) := h.l.step _ _
theorem Frm.Ok.ends (h : F.Ok) : (bytesE (F.E 31)).length ≤ F.B := isLoss_ends (fun b => (h.l.bd b).1) h.q.2 h.b.1
theorem Frm.Ok.loss (h : F.Ok) : IsLoss F.B F.E F.lo := lossF_ok (isLoss_ex h.ends)
theorem Frm.lo_is {x : Nat} (h : IsLoss F.B F.E x) : F.lo = x := lossF_is h
theorem Frm.Ok.good (h : F.Ok) (lo : Nat) : GoodE (F.E lo) ∧ (F.E lo).k ≤ 5212 := by
  obtain ⟨a, b, _⟩ := payE_good (wh := F.wh) (br := b2 F.br) (qu := F.Q) (lo := lo) (ah := F.ah) (x := F.x) (fun b => (h.l.bd b).1)
  exact ⟨a, b⟩
theorem Frm.goodC (F : Frm) (lo : Nat) : GoodE (F.C lo) ∧ (F.C lo).k ≤ 92 := ceilE_good _ _ _ _ _ _
theorem Frm.goodH (F : Frm) (lo : Nat) : GoodE (F.H lo) ∧ (F.H lo).k ≤ 8 := headE_good _ _ _ _
theorem Frm.Ok.bytes_le (h : F.Ok) : F.bytes.length ≤ F.B := h.loss.2.1
theorem byteF_bdE {D : List Int} (h : IsDig D) (j : Nat) : 0 ≤ byteF D j ∧ byteF D j ≤ 255 := by
  unfold byteF
  by_cases hj : j < D.length
  · exact h j hj
  · rw [List.getD_eq_getElem?_getD, List.getElem?_eq_none (by omega)]; decide
theorem Frm.bytes_bd (F : Frm) : ∀ j, 0 ≤ byteF F.bytes j ∧ byteF F.bytes j ≤ 255 := by
  intro j
  unfold Frm.bytes bytesE
  rw [bytesL_get]
  exact byteF_bdE (digL_dig _ _) j
theorem Frm.Ok.reach (h : F.Ok) : 0 ≤ F.reach ∧ F.reach ≤ 1443109011456 := by
  have := reachTo_bd (l := F.l) (s := F.steps) 21 (by decide) fun j _ => ⟨(h.l.bd j).2, ((h.st F.lo).bd j).2⟩
  unfold Frm.reach
  omega
theorem Frm.held_bd (F : Frm) (seed : Int) (i : Nat) : -33554432 ≤ F.held seed i ∧ F.held seed i ≤ 33554431 := heldF_bd _ _
end Go.Proofs.YtmgfkdmjgjlkjaaGreat

namespace Go.Proofs.YtmgfkdmjgjlkjaaGreat
open Go.RowKit
set_option linter.unusedVariables false
set_option linter.unusedSimpArgs false
theorem cBit_any (b : Bool) (w : World) : Calls Tryz.prog 158 #[.bool b] w fun e w' => e = .returned (.int .u32 (b2 b)) ∧ w = w' := by
  cases b
  all_goals
    go_enter Tryz.func158, Tryz.ntmps158
    go_wp2
    go_ret
    exact ⟨rfl, rfl⟩
theorem refBit_any (b : Bool) (w : World) : Calls Tryz.prog 37 #[.bool b] w fun e w' => e = .returned (.int .i64 (b2 b)) ∧ w = w' := by
  cases b
  all_goals
    go_enter Tryz.func37, Tryz.ntmps37
    go_wp2
    go_ret
    exact ⟨rfl, rfl⟩
theorem cWhole_any (br : Bool) (Q : Int) (la ca aa : Option Addr) (ll lc cl cc al ac : Nat) (w : World) (h : al ≤ 9223372036854775807) :
    Calls Tryz.prog 64 #[.agg #[.bool br, .int .i64 Q, .slice la ll lc, .slice ca cl cc, .slice aa al ac]] w fun e w' => e = .returned (.bool (decide (al = 0))) ∧ Below w.heap.size w w' := by
  have HB := Lib.hid (Below.alloc_new w (.cells #[.bool br, .int .i64 Q, .slice la ll lc, .slice ca cl cc, .slice aa al ac] 120))
  obtain ⟨q, hq⟩ : ∃ q, q = decide (al = 0) := ⟨_, rfl⟩
  have hq2 : ((al : Int) == 0) = q := by rw [hq]; by_cases h : al = 0 <;> simp [h]
  rw [← hq]
  clear hq
  go_enter Tryz.func64, Tryz.ntmps64
  go_wp2
  go_ret
  exact ⟨rfl, HB.out⟩
theorem infoC_i16 : (Tryz.prog.info? 77).map (fun i => (i.zero, i.size, i.bytes)) = some (some (.int .i16 0), 1, 2) := by kernel_rfl
theorem infoC_i32 : (Tryz.prog.info? 21).map (fun i => (i.zero, i.size, i.bytes)) = some (some (.int .i32 0), 1, 4) := by kernel_rfl
def HeldPost (n : Nat) (f : Nat → Int) (w : World) (e : Ending) (w' : World) : Prop :=
  ∃ g, e = .returned (.slice (some ⟨g, 0, none⟩) n n) ∧ IFun w' g 21 .i32 n (heldF f) ∧ w.heap.size ≤ g ∧ Below w.heap.size w w'
theorem cHeld_any (x cap n : Nat) (f : Nat → Int) (w : World) (hf : IFun w x 21 .i32 n f) (hb : ∀ j, j < n → -2147483648 ≤ f j ∧ f j ≤ 2147483647) (hn : n ≤ 1000) :
    Calls Tryz.prog 101 #[.slice (some ⟨x, 0, none⟩) n cap] w (HeldPost n f w) := by
  have HF := Lib.hid hf
  have HFb := Lib.hid hb
  have hmk : ∀ w : World, (Instr.makeSlice 118 (.int .i64 (n : Int)) (.int .i64 (n : Int))).run Tryz.prog w = .ok (.slice (some ⟨w.heap.size, 0, none⟩) n n) (w.alloc (.cells (madeCells #[.int .i32 0] n) 21)) :=
    fun w => make_zeros (P := Tryz.prog) Tryz.underlying118 infoC_i32 n (by omega) (by omega) w
  have H0 : RowKit.Hid (IFun (w.alloc (.cells (madeCells #[.int .i32 0] n) 21)) w.heap.size 21 .i32 n (upTo (heldF f) (fun _ => 0) 0) ∧ Below w.heap.size w (w.alloc (.cells (madeCells #[.int .i32 0] n) 21))) :=
    ⟨IFun.ext (IFun.zeros w 21 .i32 n) fun j _ => (upTo_start (heldF f) (fun _ => 0) j).symm, Below.alloc_new w _⟩
  clear hf hb
  generalize madeCells #[Value.int .i32 0] n = mc at H0 hmk
  go_enter Tryz.func101, Tryz.ntmps101
  go_wp2
  clear hmk
  generalize hg : w.heap.size = g at H0 ⊢
  generalize (w.alloc (.cells mc 21)) = w1 at H0 ⊢
  go_loopw [11] (fun i wr => ∃ k : Nat, k ≤ n ∧ i = .int .i64 (k : Int) ∧ RowKit.Hid (IFun wr g 21 .i32 n (upTo (heldF f) (fun _ => 0) k) ∧ Below g w wr)) (fun i _ => n - (intOf i).toNat)
  case atStart => exact ⟨0, by omega, rfl, H0.out⟩
  case round =>
    obtain ⟨k, hk, rfl, HI⟩ := hrel
    clear H0
    by_cases hlt : k < n
    · have o1 := HI.out.1.cell (j := k) hlt
      rw [upTo_here] at o1
      have f1 := HI.out.1.frozen k
      have HS : RowKit.Hid (∀ v, v = heldF f k → IFun (wr.setCell ⟨g, k, none⟩ (.int .i32 v)) g 21 .i32 n (upTo (heldF f) (fun _ => 0) (k + 1)) ∧ Below g w (wr.setCell ⟨g, k, none⟩ (.int .i32 v))) := fun v hv => by
        rw [hv]; exact ⟨IFun.ext (HI.out.1.set (j := k) hlt (heldF f k)) fun j _ => upTo_next _ _ k j, Below.setCell (p := ⟨g, k, none⟩) HI.out.2 (Nat.le_refl _) _⟩
      have k1 := (HI.out.2.cell (p := ⟨x, k, none⟩) (by rw [← hg]; exact HF.out.lt)).trans (HF.out.cell hlt)
      have HM := Lib.hid (heldF_max f k)
      obtain ⟨y0, y1⟩ := HFb.out k hlt
      generalize f k = y at k1 y0 y1 HM
      have l1 : (k : Int) < (n : Int) := by omega
      clear HI
      go_wp2
      all_goals
        go_roundw
        case rel => exact ⟨k + 1, by omega, by go_num, HS.out _ (by rw [← HM.out]; omega)⟩
        case measure => simp [intOf] <;> omega
    · obtain rfl : k = n := by omega
      have Z : RowKit.Hid (IFun wr g 21 .i32 k (heldF f) ∧ Below g w wr) := ⟨IFun.ext HI.out.1 fun i hi => upTo_end _ _ k i hi, HI.out.2⟩
      go_wp2
      go_ret
      exact ⟨g, rfl, Z.out.1, by omega, by rw [hg]; exact Z.out.2⟩
end Go.Proofs.YtmgfkdmjgjlkjaaGreat

namespace Go.Proofs.YtmgfkdmjgjlkjaaGreat
open Go.RowKit
set_option linter.unusedVariables false
set_option maxRecDepth 100000 in
theorem refFold_any (h n N cap : Nat) (a : Option Addr) (x : Nat → Int) (w : World) (h1 : 1 ≤ h) (h2 : h ≤ 256) (hn : n = 2 * h) (hN : N = 4 * h) (hx : FnAt w w.heap.size .i64 a N x) (hb : ∀ j, j < N → -2147483647 ≤ x j ∧ x j ≤ 2147483647) :
    Calls Tryz.prog 106 #[.slice a N cap] w (RowPost .i64 2 n (foldF n x) w) := by
  have HN := Lib.hid hn
  obtain ⟨b, off, rfl, hbl, hc⟩ := hx
  have HC := Lib.hid hc
  have HB := Lib.hid hb
  clear hc hb
  have hmk : ∀ w : World, (Instr.makeSlice 66 (.int .i64 (n : Int)) (.int .i64 (n : Int))).run Tryz.prog w = .ok (.slice (some ⟨w.heap.size, 0, none⟩) n n) (w.alloc (.cells (madeCells #[.int .i64 0] n) 2)) :=
    fun w => make_zeros (P := Tryz.prog) Tryz.underlying66 info_i64 n (by omega) (by omega) w
  have H0 : RowKit.Hid (IFun (w.alloc (.cells (madeCells #[.int .i64 0] n) 2)) w.heap.size 2 .i64 n (foldA h x 0) ∧ Below w.heap.size w (w.alloc (.cells (madeCells #[.int .i64 0] n) 2))) :=
    ⟨IFun.ext (IFun.zeros w 2 .i64 n) fun j _ => (foldA_start x j).symm, Below.alloc_new w _⟩
  have q1 : (N : Int) / 2 = (n : Int) := by omega
  have q2 : (N : Int).tdiv 2 = (n : Int) := by rw [Int.tdiv_eq_ediv_of_nonneg (by omega)]; exact q1
  have q3 : (n : Int) / 2 = (h : Int) := by omega
  have q4 : (n : Int).tdiv 2 = (h : Int) := by rw [Int.tdiv_eq_ediv_of_nonneg (by omega)]; exact q3
  have n1 : n ≤ 2 * h := by omega
  have n2 : 2 * h ≤ n := by omega
  have N1 : N ≤ 4 * h := by omega
  have N2 : 4 * h ≤ N := by omega
  clear hn hN
  go_enter Tryz.func106, Tryz.ntmps106
  go_wp2
  clear hmk q1 q2 q3 q4
  generalize hg : w.heap.size = g at H0 hbl ⊢
  generalize (w.alloc (.cells (madeCells #[.int .i64 0] n) 2)) = w1 at H0 ⊢
  go_loopw [6] (fun i wr => ∃ q : Nat, q ≤ h ∧ i = .int .i64 (q : Int) ∧ RowKit.Hid (IFun wr g 2 .i64 n (foldA h x q) ∧ Below g w wr)) (fun i _ => h - (intOf i).toNat)
  case atStart => exact ⟨0, by omega, rfl, H0.out⟩
  case round =>
    obtain ⟨q, hq, rfl, HI⟩ := hrel
    clear H0
    by_cases hlt : q < h
    · obtain ⟨p1, hp1⟩ : ∃ p1, p1 + 1 + q = 3 * h := ⟨3 * h - 1 - q, by omega⟩
      obtain ⟨p2, hp2⟩ : ∃ p2, p2 = 3 * h + q := ⟨_, rfl⟩
      obtain ⟨p3, hp3⟩ : ∃ p3, p3 = h + q := ⟨_, rfl⟩
      obtain ⟨p4, hp4⟩ : ∃ p4, p4 + 1 + q = 2 * h := ⟨2 * h - 1 - q, by omega⟩
      have k1 := HC.out p1 (by omega)
      have k2 := HC.out p2 (by omega)
      have k3 := HC.out q (by omega)
      have k4 := HC.out p4 (by omega)
      obtain ⟨x10, x11⟩ := HB.out p1 (by omega)
      obtain ⟨x20, x21⟩ := HB.out p2 (by omega)
      obtain ⟨x30, x31⟩ := HB.out q (by omega)
      obtain ⟨x40, x41⟩ := HB.out p4 (by omega)
      have o1 := HI.out.1.cell (j := q) (by omega)
      have f1 := HI.out.1.frozen q
      have E1 := Lib.hid (foldF_low x hlt hp1 hp2)
      have E2 := Lib.hid (foldF_high x hlt hp3 hp4)
      have HV1 : RowKit.Hid (IFun ((wr.setCell ⟨g, q, none⟩ (.int .i64 (foldF (2 * h) x q))).drew) g 2 .i64 n (fun i => if i = q then foldF (2 * h) x q else foldA h x q i) ∧ Below g w ((wr.setCell ⟨g, q, none⟩ (.int .i64 (foldF (2 * h) x q))).drew)) :=
        ⟨(HI.out.1.set (j := q) (by omega) (foldF (2 * h) x q)).drewN 1, Below.drewN' (Below.setCell (p := ⟨g, q, none⟩) HI.out.2 (Nat.le_refl _) _) 1⟩
      have B2 := HI.out.2
      generalize hY1 : foldF (2 * h) x q = Y1 at HV1 E1
      have c1 := (B2.cell (p := ⟨b, off + p1, none⟩) hbl).trans k1
      have c2 := (B2.cell (p := ⟨b, off + p2, none⟩) hbl).trans k2
      have HYb : RowKit.Hid (Y1 = -(x p1) - x p2) := E1.out
      clear B2 HI E1
      generalize x p1 = y1 at c1 x10 x11 HYb k1
      generalize x p2 = y2 at c2 x20 x21 HYb k2
      generalize foldA h x q q = z1 at o1
      have e1 : 3 * (h : Int) - 1 - (q : Int) = (p1 : Int) := by omega
      have e2 : 3 * (h : Int) + (q : Int) = (p2 : Int) := by omega
      have e3 : (h : Int) + (q : Int) = (p3 : Int) := by omega
      have e4 : (n : Int) - 1 - (q : Int) = (p4 : Int) := by have := HN.out; omega
      have l1 : (p1 : Int) < (N : Int) := by omega
      have l2 : (p2 : Int) < (N : Int) := by omega
      have l3 : (p3 : Int) < (n : Int) := by have := HN.out; omega
      have l4 : (p4 : Int) < (N : Int) := by omega
      have l5 : (q : Int) < (n : Int) := by have := HN.out; omega
      have l6 : (q : Int) < (N : Int) := by omega
      have g1 : IntKind.i64.wrap (3 * (h : Int)) = 3 * (h : Int) := IntWalk.i64_in _ (by omega)
      have g2 : IntKind.i64.wrap (3 * (h : Int) - 1) = 3 * (h : Int) - 1 := IntWalk.i64_in _ (by omega)
      have g3 : IntKind.i64.wrap (p1 : Int) = (p1 : Int) := IntWalk.i64_in _ (by omega)
      have g4 : IntKind.i64.wrap (p2 : Int) = (p2 : Int) := IntWalk.i64_in _ (by omega)
      have g5 : IntKind.i64.wrap (p3 : Int) = (p3 : Int) := IntWalk.i64_in _ (by omega)
      have g6 : IntKind.i64.wrap (p4 : Int) = (p4 : Int) := IntWalk.i64_in _ (by omega)
      have g7 : IntKind.i64.wrap ((n : Int) - 1) = (n : Int) - 1 := IntWalk.i64_in _ (by omega)
      have g8 : IntKind.i64.wrap (-y1) = -y1 := IntWalk.i64_in _ (by omega)
      have g9 : IntKind.i64.wrap (-y1 - y2) = -y1 - y2 := IntWalk.i64_in _ (by omega)
      have HP3 := Lib.hid hp3
      clear hp1 hp2 hp3 hp4
      rw [HYb.out] at HV1
      go_wp2
      go_still_tail 20, (by kernel_rfl)
      repeat still_step
      change wpList _ _ _ _ _ wr.drew
      go_wp2
      clear c1 c2 o1 f1
      generalize (wr.setCell ⟨g, q, none⟩ (Value.int IntKind.i64 (-y1 - y2))).drew = w2 at HV1 ⊢
      have c3 := (HV1.out.2.cell (p := ⟨b, off + q, none⟩) hbl).trans k3
      have c4 := (HV1.out.2.cell (p := ⟨b, off + p4, none⟩) hbl).trans k4
      have o2 := HV1.out.1.cell (j := p3) (by omega)
      have f2 := HV1.out.1.frozen p3
      have HV : RowKit.Hid (IFun ((w2.setCell ⟨g, p3, none⟩ (.int .i64 (foldF (2 * h) x p3))).drew) g 2 .i64 n (foldA h x (q + 1)) ∧ Below g w ((w2.setCell ⟨g, p3, none⟩ (.int .i64 (foldF (2 * h) x p3))).drew)) := by
        refine ⟨IFun.ext ((HV1.out.1.set (j := p3) (by omega) (foldF (2 * h) x p3)).drewN 1) fun i _ => ?_, Below.drewN' (Below.setCell (p := ⟨g, p3, none⟩) HV1.out.2 (Nat.le_refl _) _) 1⟩
        have := foldA_next x hlt HP3.out i
        rw [hY1, HYb.out] at this
        exact this
      rw [E2.out] at HV
      clear HV1 HYb hY1 E2
      generalize x q = y3 at c3 k3 x30 x31 HV
      generalize x p4 = y4 at c4 k4 x40 x41 HV
      generalize (if p3 = q then _ else _) = z2 at o2
      have g10 : IntKind.i64.wrap (y3 - y4) = y3 - y4 := IntWalk.i64_in _ (by omega)
      go_still_tail 17, (by kernel_rfl)
      repeat still_step
      change wpList _ _ _ _ _ w2.drew
      go_wp2
      go_roundw
      case rel => exact ⟨q + 1, by omega, by go_num, HV.out⟩
      case measure => simp [intOf] <;> omega
    · obtain rfl : q = h := by omega
      have Z : RowKit.Hid (IFun wr g 2 .i64 n (foldF n x) ∧ Below g w wr) := ⟨IFun.ext HI.out.1 fun i hi => by rw [HN.out]; exact foldA_end x i (by have := HN.out; omega), HI.out.2⟩
      go_wp2
      go_ret
      exact ⟨g, rfl, Z.out.1, by omega, by rw [hg]; exact Z.out.2⟩
set_option maxRecDepth 100000 in
theorem refUnfold_any (h n N cap : Nat) (a : Option Addr) (u : Nat → Int) (w : World) (h1 : 1 ≤ h) (h2 : h ≤ 256) (hn : n = 2 * h) (hN : N = 4 * h) (hx : FnAt w w.heap.size .i64 a n u) (hb : ∀ j, j < n → -2147483647 ≤ u j ∧ u j ≤ 2147483647) :
    Calls Tryz.prog 193 #[.slice a n cap] w (RowPost .i64 2 N (unfoldF n u) w) := by
  have HN := Lib.hid hn
  have HNN := Lib.hid hN
  obtain ⟨b, off, rfl, hbl, hc⟩ := hx
  have HC := Lib.hid hc
  have HB := Lib.hid hb
  clear hc hb
  have hmk : ∀ w : World, (Instr.makeSlice 66 (.int .i64 (N : Int)) (.int .i64 (N : Int))).run Tryz.prog w = .ok (.slice (some ⟨w.heap.size, 0, none⟩) N N) (w.alloc (.cells (madeCells #[.int .i64 0] N) 2)) :=
    fun w => make_zeros (P := Tryz.prog) Tryz.underlying66 info_i64 N (by omega) (by omega) w
  have H0 : RowKit.Hid (IFun (w.alloc (.cells (madeCells #[.int .i64 0] N) 2)) w.heap.size 2 .i64 N (unfA h u 0) ∧ Below w.heap.size w (w.alloc (.cells (madeCells #[.int .i64 0] N) 2))) :=
    ⟨IFun.ext (IFun.zeros w 2 .i64 N) fun j _ => (unfA_start u j).symm, Below.alloc_new w _⟩
  have q1 : 2 * (n : Int) = (N : Int) := by omega
  have q3 : (n : Int) / 2 = (h : Int) := by omega
  have q4 : (n : Int).tdiv 2 = (h : Int) := by rw [Int.tdiv_eq_ediv_of_nonneg (by omega)]; exact q3
  have n1 : n ≤ 2 * h := by omega
  have n2 : 2 * h ≤ n := by omega
  have N1 : N ≤ 4 * h := by omega
  have N2 : 4 * h ≤ N := by omega
  clear hn hN
  go_enter Tryz.func193, Tryz.ntmps193
  go_wp2
  clear hmk q1 q3 q4
  generalize hg : w.heap.size = g at H0 hbl ⊢
  generalize (w.alloc (.cells (madeCells #[.int .i64 0] N) 2)) = w1 at H0 ⊢
  go_loopw [6] (fun i wr => ∃ q : Nat, q ≤ h ∧ i = .int .i64 (q : Int) ∧ RowKit.Hid (IFun wr g 2 .i64 N (unfA h u q) ∧ Below g w wr)) (fun i _ => h - (intOf i).toNat)
  case atStart => exact ⟨0, by omega, rfl, H0.out⟩
  case round =>
    obtain ⟨q, hq, rfl, HI⟩ := hrel
    clear H0
    by_cases hlt : q < h
    · obtain ⟨p, hp⟩ : ∃ p, p = h + q := ⟨_, rfl⟩
      obtain ⟨r2, hr2⟩ : ∃ r2, r2 + 1 + q = 2 * h := ⟨2 * h - 1 - q, by omega⟩
      obtain ⟨r3, hr3⟩ : ∃ r3, r3 + 1 + q = 3 * h := ⟨3 * h - 1 - q, by omega⟩
      obtain ⟨r4, hr4⟩ : ∃ r4, r4 = 3 * h + q := ⟨_, rfl⟩
      have k1 := HC.out p (by omega)
      have k2 := HC.out q (by omega)
      obtain ⟨x10, x11⟩ := HB.out p (by omega)
      obtain ⟨x20, x21⟩ := HB.out q (by omega)
      have E1 := Lib.hid (unf_1 u hlt hp)
      have E2 := Lib.hid (unf_2 u hlt hp hr2)
      have E3 := Lib.hid (unf_3 u hlt hr3)
      have E4 := Lib.hid (unf_4 u hlt hr4)
      have EN := Lib.hid (unfA_next u hlt hr2 hr3 hr4)
      have e1 : (h : Int) + (q : Int) = (p : Int) := by omega
      have e2 : (n : Int) - 1 - (q : Int) = (r2 : Int) := by have := HN.out; omega
      have e3 : 3 * (h : Int) - 1 - (q : Int) = (r3 : Int) := by omega
      have e4 : 3 * (h : Int) + (q : Int) = (r4 : Int) := by omega
      have l1 : (p : Int) < (n : Int) := by have := HN.out; omega
      have l2 : (r2 : Int) < (N : Int) := by omega
      have l3 : (r3 : Int) < (N : Int) := by omega
      have l4 : (r4 : Int) < (N : Int) := by omega
      have l5 : (q : Int) < (n : Int) := by have := HN.out; omega
      have l6 : (q : Int) < (N : Int) := by omega
      have m1 : q ≠ r2 := by omega
      have m2 : q ≠ r3 := by omega
      have m3 : q ≠ r4 := by omega
      have m4 : r2 ≠ r3 := by omega
      have m5 : r2 ≠ r4 := by omega
      have m6 : r3 ≠ r4 := by omega
      have g1 : IntKind.i64.wrap (3 * (h : Int)) = 3 * (h : Int) := IntWalk.i64_in _ (by omega)
      have g2 : IntKind.i64.wrap (3 * (h : Int) - 1) = 3 * (h : Int) - 1 := IntWalk.i64_in _ (by omega)
      have g3 : IntKind.i64.wrap (p : Int) = (p : Int) := IntWalk.i64_in _ (by omega)
      have g4 : IntKind.i64.wrap (r2 : Int) = (r2 : Int) := IntWalk.i64_in _ (by omega)
      have g5 : IntKind.i64.wrap (r3 : Int) = (r3 : Int) := IntWalk.i64_in _ (by omega)
      have g6 : IntKind.i64.wrap (r4 : Int) = (r4 : Int) := IntWalk.i64_in _ (by omega)
      have g7 : IntKind.i64.wrap ((n : Int) - 1) = (n : Int) - 1 := IntWalk.i64_in _ (by omega)
      clear hp hr2 hr3 hr4
      have o1 := HI.out.1.cell (j := q) (by omega)
      have o2 := HI.out.1.cell (j := r2) (by omega)
      have o3 := HI.out.1.cell (j := r3) (by omega)
      have o4 := HI.out.1.cell (j := r4) (by omega)
      have f1 := HI.out.1.frozen q
      have f2 := HI.out.1.frozen r2
      have f3 := HI.out.1.frozen r3
      have f4 := HI.out.1.frozen r4
      have c1 := (HI.out.2.cell (p := ⟨b, off + p, none⟩) hbl).trans k1
      have c2 := (HI.out.2.cell (p := ⟨b, off + q, none⟩) hbl).trans k2
      have HV : RowKit.Hid (IFun ((((wr.setCell ⟨g, q, none⟩ (.int .i64 (unfoldF (2 * h) u q))).setCell ⟨g, r2, none⟩ (.int .i64 (unfoldF (2 * h) u r2))).setCell ⟨g, r3, none⟩ (.int .i64 (unfoldF (2 * h) u r3))).setCell ⟨g, r4, none⟩ (.int .i64 (unfoldF (2 * h) u r4))) g 2 .i64 N (unfA h u (q + 1)) ∧ Below g w ((((wr.setCell ⟨g, q, none⟩ (.int .i64 (unfoldF (2 * h) u q))).setCell ⟨g, r2, none⟩ (.int .i64 (unfoldF (2 * h) u r2))).setCell ⟨g, r3, none⟩ (.int .i64 (unfoldF (2 * h) u r3))).setCell ⟨g, r4, none⟩ (.int .i64 (unfoldF (2 * h) u r4)))) :=
        ⟨IFun.ext ((((HI.out.1.set (j := q) (by omega) _).set (j := r2) (by omega) _).set (j := r3) (by omega) _).set (j := r4) (by omega) _) fun i _ => EN.out i, Below.setCell (p := ⟨g, r4, none⟩) (Below.setCell (p := ⟨g, r3, none⟩) (Below.setCell (p := ⟨g, r2, none⟩) (Below.setCell (p := ⟨g, q, none⟩) HI.out.2 (Nat.le_refl _) _) (Nat.le_refl _) _) (Nat.le_refl _) _) (Nat.le_refl _) _⟩
      rw [E1.out, E2.out, E3.out, E4.out] at HV
      clear HI E1 E2 E3 E4 EN
      generalize u p = y1 at c1 x10 x11 k1 HV
      generalize u q = y2 at c2 x20 x21 k2 HV
      generalize unfA h u q q = z1 at o1
      generalize unfA h u q r2 = z2 at o2
      generalize unfA h u q r3 = z3 at o3
      generalize unfA h u q r4 = z4 at o4
      have b0 : ¬ b = g := by omega
      go_wp2
      go_roundw
      case rel => exact ⟨q + 1, by omega, by go_num, HV.out⟩
      case measure => simp [intOf] <;> omega
    · obtain rfl : q = h := by omega
      have Z : RowKit.Hid (IFun wr g 2 .i64 N (unfoldF n u) ∧ Below g w wr) := ⟨IFun.ext HI.out.1 fun i hi => by rw [HN.out]; exact unfA_end u i (by have := HNN.out; omega), HI.out.2⟩
      go_wp2
      go_ret
      exact ⟨g, rfl, Z.out.1, by omega, by rw [hg]; exact Z.out.2⟩
end Go.Proofs.YtmgfkdmjgjlkjaaGreat
