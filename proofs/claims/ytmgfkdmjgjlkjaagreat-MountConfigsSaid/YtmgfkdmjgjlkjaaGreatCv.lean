/- Plain facts, and what functions give, for the proofs of this seat: several texts in one, each with its own first remark. -/
import Derived.Test.YtmgfkdmjgjlkjaaGreatCu
import Derived.Deep.MidRow

namespace Go.Proofs.YtmgfkdmjgjlkjaaGreat
open Go
set_option linter.unusedVariables false
set_option linter.unusedSimpArgs false
def b2 (b : Bool) : Int := if b then 1 else 0
theorem b2_bd (b : Bool) : 0 ≤ b2 b ∧ b2 b ≤ 1 := by cases b <;> decide
def heldF (f : Nat → Int) (i : Nat) : Int := satP (f i) 26
theorem heldF_bd (f : Nat → Int) (i : Nat) : -33554432 ≤ heldF f i ∧ heldF f i ≤ 33554431 := by
  unfold heldF
  rw [satP_in (by decide) (by decide), show P2 ((26 : Int).toNat - 1) = 33554432 by decide]
  split
  · omega
  · split <;> omega
theorem heldF_max (f : Nat → Int) (i : Nat) : max (-33554432) (min (f i) 33554431) = heldF f i := by
  unfold heldF
  rw [satP_in (by decide) (by decide), show P2 ((26 : Int).toNat - 1) = 33554432 by decide]
  split
  · omega
  · split <;> omega
def c21 (f : Nat → Int) (j : Nat) : Int := if j < 21 then f j else 0
theorem c21_at (f : Nat → Int) {j : Nat} (h : j < 21) : c21 f j = f j := if_pos h
structure CutOk (l : Nat → Int) : Prop where
  bd : ∀ b, 0 ≤ l b ∧ l b ≤ 26
  out : ∀ j, 21 ≤ j → l j = 0
theorem c21_ok {f : Nat → Int} (h : ∀ b, b < 21 → 0 ≤ f b ∧ f b ≤ 26) : CutOk (c21 f) := by
  refine ⟨fun b => ?_, fun j hj => if_neg (by omega)⟩
  unfold c21
  split
  · exact h b (by assumption)
  · omega
theorem CutOk.zero : CutOk (fun _ => 0) := ⟨fun _ => by omega, fun _ _ => rfl⟩
theorem CutOk.tab {l : Nat → Int} (h : CutOk l) : (fun j => (tabF 21 l).getD j 0) = l := by
  funext j
  by_cases hj : j < 21
  · exact tabF_getD l hj
  · rw [List.getD_eq_getElem?_getD, List.getElem?_eq_none (by rw [tabF_len]; omega), h.out j (by omega)]
    rfl
theorem CutOk.step {l : Nat → Int} (h : CutOk l) (q x : Int) : CutOk (stepF l q x) := by
  refine ⟨fun b => ?_, fun j hj => ?_⟩
  · have := h.bd b; have := stepF_bd (l := l) q x this.1; omega
  · have := h.out j hj; have := stepF_bd (l := l) q x (h.bd j).1; omega
theorem CutOk.right {l : Nat → Int} (h : CutOk l) : rightB (tabF 21 l) = true := rightB_of (tabF_len _ _) fun j hj => by rw [tabF_getD _ hj]; exact h.bd j
theorem CutOk.may {l : Nat → Int} (h : CutOk l) (q x : Int) : mayQ (tabF 21 l) (tabF 21 (stepF l q x)) = true :=
  mayQ_of h.right (h.step q x).right fun j hj => by rw [tabF_getD _ hj, tabF_getD _ hj]; have := stepF_bd (l := l) q x (h.bd j).1; omega
theorem bits_26 {x : Int} (h : -33554432 ≤ x ∧ x ≤ 33554431) : bitsI x ≤ 26 := bitLen_le (by omega)
theorem ceil_26 {x : Nat → Int} (hx : ∀ i, -33554432 ≤ x i ∧ x i ≤ 33554431) (b : Nat) : 0 ≤ ceilF x b ∧ ceilF x b ≤ 26 :=
  maxTo_bd (by decide) _ fun i _ => by have := bits_26 (hx (edgeK b + i)); unfold bitF; omega
theorem isLoss_ex {B : Nat} {E : Nat → EncS} (h : (bytesE (E 31)).length ≤ B) : ∃ x, IsLoss B E x := by
  have a : ∀ n, (∃ x, x < n ∧ (bytesE (E x)).length ≤ B ∧ ∀ j, j < x → B < (bytesE (E j)).length) ∨ ∀ j, j < n → B < (bytesE (E j)).length := by
    intro n
    induction n with
    | zero => exact .inr fun j hj => by omega
    | succ n ih =>
      rcases ih with ⟨x, h1, h2, h3⟩ | h4
      · exact .inl ⟨x, by omega, h2, h3⟩
      · by_cases c : (bytesE (E n)).length ≤ B
        · exact .inl ⟨n, by omega, c, h4⟩
        · refine .inr fun j hj => ?_
          by_cases e : j = n
          · subst e; omega
          · exact h4 j (by omega)
  rcases a 32 with ⟨x, h1⟩ | h2
  · exact ⟨x, h1⟩
  · have := h2 31 (by omega); omega
noncomputable def lossF (B : Nat) (E : Nat → EncS) : Nat := Classical.epsilon (IsLoss B E)
theorem lossF_ok {B : Nat} {E : Nat → EncS} (h : ∃ x, IsLoss B E x) : IsLoss B E (lossF B E) := Classical.epsilon_spec h
theorem lossF_is {B : Nat} {E : Nat → EncS} {x : Nat} (h : IsLoss B E x) : lossF B E = x := IsLoss.same (lossF_ok ⟨x, h⟩) h
structure Frm where
  wh : Bool
  br : Bool
  Q : Int
  B : Nat
  x : Nat → Int
  ah : Nat → Int
structure Frm.Ok (F : Frm) : Prop where
  q : 1 ≤ F.Q ∧ F.Q ≤ 10
  b : 32 ≤ F.B ∧ F.B ≤ 600
  x : ∀ i, -33554432 ≤ F.x i ∧ F.x i ≤ 33554431
def Frm.l (F : Frm) : Nat → Int := c21 (ceilF F.x)
def Frm.st (F : Frm) (lo : Nat) : Nat → Int := stepF F.l F.Q lo
def Frm.E (F : Frm) (lo : Nat) : EncS := payE F.wh (b2 F.br) F.Q lo F.l F.ah F.x
def Frm.C (F : Frm) (lo : Nat) : EncS := ceilE F.wh (b2 F.br) F.Q lo F.l F.ah
def Frm.H (F : Frm) (lo : Nat) : EncS := headE (b2 F.wh) (b2 F.br) F.Q lo
noncomputable def Frm.lo (F : Frm) : Nat := lossF F.B F.E
noncomputable def Frm.steps (F : Frm) : Nat → Int := F.st F.lo
noncomputable def Frm.bytes (F : Frm) : List Int := bytesE (F.E F.lo)
noncomputable def Frm.out (F : Frm) (seed : Int) : Nat → Int := outF F.l F.steps (lineQ F.x F.l F.steps) seed
noncomputable def Frm.held (F : Frm) (seed : Int) : Nat → Int := heldF (F.out seed)
noncomputable def Frm.reach (F : Frm) : Int := reachTo F.l F.steps 21
variable {F : Frm}
theorem Frm.Ok.l (h : F.Ok) : CutOk F.l := c21_ok fun b _ => ceil_26 h.x b
theorem Frm.Ok.st (h : F.Ok) (lo : Nat) : CutOk (F.st lo) := h.l.step _ _
theorem Frm.Ok.ends (h : F.Ok) : (bytesE (F.E 31)).length ≤ F.B := isLoss_ends (fun b => (h.l.bd b).1) h.q.2 h.b.1
theorem Frm.Ok.loss (h : F.Ok) : IsLoss F.B F.E F.lo := lossF_ok (isLoss_ex h.ends)
theorem Frm.lo_is {x : Nat} (h : IsLoss F.B F.E x) : F.lo = x := lossF_is h
theorem Frm.Ok.good (h : F.Ok) (lo : Nat) : GoodE (F.E lo) ∧ (F.E lo).k ≤ 5212 := by
  obtain ⟨a, b, _⟩ := payE_good (wh := F.wh) (br := b2 F.br) (qu := F.Q) (lo := lo) (ah := F.ah) (x := F.x) (fun b => (h.l.bd b).1)
  exact ⟨a, b⟩
theorem Frm.goodC (F : Frm) (lo : Nat) : GoodE (F.C lo) ∧ (F.C lo).k ≤ 92 := ceilE_good _ _ _ _ _ _
theorem Frm.goodH (F : Frm) (lo : Nat) : GoodE (F.H lo) ∧ (F.H lo).k ≤ 8 := headE_good _ _ _ _
theorem Frm.Ok.bytes_le (h : F.Ok) : F.bytes.length ≤ F.B := h.loss.2.1
theorem Frm.Ok.reach (h : F.Ok) : 0 ≤ F.reach ∧ F.reach ≤ 1443109011456 := by
  have := reachTo_bd (l := F.l) (s := F.steps) 21 (by decide) fun j _ => ⟨(h.l.bd j).2, ((h.st F.lo).bd j).2⟩
  unfold Frm.reach
  omega
theorem Frm.held_bd (F : Frm) (seed : Int) (i : Nat) : -33554432 ≤ F.held seed i ∧ F.held seed i ≤ 33554431 := heldF_bd _ _
end Go.Proofs.YtmgfkdmjgjlkjaaGreat

namespace Go.Proofs.YtmgfkdmjgjlkjaaGreat
open Go.RowKit
set_option linter.unusedVariables false
set_option linter.unusedSimpArgs false
theorem cBit_any (b : Bool) (w : World) : Calls Tryz.prog 158 #[.bool b] w fun e w' => e = .returned (.int .u32 (b2 b)) ∧ w = w' := by
  cases b
  all_goals
    go_enter Tryz.func158, Tryz.ntmps158
    go_wp2
    go_ret
    exact ⟨rfl, rfl⟩
theorem cWhole_any (br : Bool) (Q : Int) (la ca aa : Option Addr) (ll lc cl cc al ac : Nat) (w : World) (h : al ≤ 9223372036854775807) :
    Calls Tryz.prog 64 #[.agg #[.bool br, .int .i64 Q, .slice la ll lc, .slice ca cl cc, .slice aa al ac]] w fun e w' => e = .returned (.bool (decide (al = 0))) ∧ Below w.heap.size w w' := by
  have HB := Lib.hid (Below.alloc_new w (.cells #[.bool br, .int .i64 Q, .slice la ll lc, .slice ca cl cc, .slice aa al ac] 120))
  obtain ⟨q, hq⟩ : ∃ q, q = decide (al = 0) := ⟨_, rfl⟩
  have hq2 : ((al : Int) == 0) = q := by rw [hq]; by_cases h : al = 0 <;> simp [h]
  rw [← hq]
  clear hq
  go_enter Tryz.func64, Tryz.ntmps64
  go_wp2
  go_ret
  exact ⟨rfl, HB.out⟩
theorem infoC_i16 : (Tryz.prog.info? 77).map (fun i => (i.zero, i.size, i.bytes)) = some (some (.int .i16 0), 1, 2) := by kernel_rfl
theorem infoC_i32 : (Tryz.prog.info? 21).map (fun i => (i.zero, i.size, i.bytes)) = some (some (.int .i32 0), 1, 4) := by kernel_rfl
def HeldPost (n : Nat) (f : Nat → Int) (w : World) (e : Ending) (w' : World) : Prop :=
  ∃ g, e = .returned (.slice (some ⟨g, 0, none⟩) n n) ∧ IFun w' g 21 .i32 n (heldF f) ∧ w.heap.size ≤ g ∧ Below w.heap.size w w'
theorem cHeld_any (x cap n : Nat) (f : Nat → Int) (w : World) (hf : IFun w x 21 .i32 n f) (hb : ∀ j, j < n → -2147483648 ≤ f j ∧ f j ≤ 2147483647) (hn : n ≤ 1000) :
    Calls Tryz.prog 101 #[.slice (some ⟨x, 0, none⟩) n cap] w (HeldPost n f w) := by
  have HF := Lib.hid hf
  have HFb := Lib.hid hb
  have hmk : ∀ w : World, (Instr.makeSlice 118 (.int .i64 (n : Int)) (.int .i64 (n : Int))).run Tryz.prog w = .ok (.slice (some ⟨w.heap.size, 0, none⟩) n n) (w.alloc (.cells (madeCells #[.int .i32 0] n) 21)) :=
    fun w => make_zeros (P := Tryz.prog) Tryz.underlying118 infoC_i32 n (by omega) (by omega) w
  have H0 : RowKit.Hid (IFun (w.alloc (.cells (madeCells #[.int .i32 0] n) 21)) w.heap.size 21 .i32 n (upTo (heldF f) (fun _ => 0) 0) ∧ Below w.heap.size w (w.alloc (.cells (madeCells #[.int .i32 0] n) 21))) :=
    ⟨IFun.ext (IFun.zeros w 21 .i32 n) fun j _ => (upTo_start (heldF f) (fun _ => 0) j).symm, Below.alloc_new w _⟩
  clear hf hb
  generalize madeCells #[Value.int .i32 0] n = mc at H0 hmk
  go_enter Tryz.func101, Tryz.ntmps101
  go_wp2
  clear hmk
  generalize hg : w.heap.size = g at H0 ⊢
  generalize (w.alloc (.cells mc 21)) = w1 at H0 ⊢
  go_loopw [11] (fun i wr => ∃ k : Nat, k ≤ n ∧ i = .int .i64 (k : Int) ∧ RowKit.Hid (IFun wr g 21 .i32 n (upTo (heldF f) (fun _ => 0) k) ∧ Below g w wr)) (fun i _ => n - (intOf i).toNat)
  case atStart => exact ⟨0, by omega, rfl, H0.out⟩
  case round =>
    obtain ⟨k, hk, rfl, HI⟩ := hrel
    clear H0
    by_cases hlt : k < n
    · have o1 := HI.out.1.cell (j := k) hlt
      rw [upTo_here] at o1
      have f1 := HI.out.1.frozen k
      have HS : RowKit.Hid (∀ v, v = heldF f k → IFun (wr.setCell ⟨g, k, none⟩ (.int .i32 v)) g 21 .i32 n (upTo (heldF f) (fun _ => 0) (k + 1)) ∧ Below g w (wr.setCell ⟨g, k, none⟩ (.int .i32 v))) := fun v hv => by
        rw [hv]; exact ⟨IFun.ext (HI.out.1.set (j := k) hlt (heldF f k)) fun j _ => upTo_next _ _ k j, Below.setCell (p := ⟨g, k, none⟩) HI.out.2 (Nat.le_refl _) _⟩
      have k1 := (HI.out.2.cell (p := ⟨x, k, none⟩) (by rw [← hg]; exact HF.out.lt)).trans (HF.out.cell hlt)
      have HM := Lib.hid (heldF_max f k)
      obtain ⟨y0, y1⟩ := HFb.out k hlt
      generalize f k = y at k1 y0 y1 HM
      have l1 : (k : Int) < (n : Int) := by omega
      clear HI
      go_wp2
      all_goals
        go_roundw
        case rel => exact ⟨k + 1, by omega, by go_num, HS.out _ (by rw [← HM.out]; omega)⟩
        case measure => simp [intOf] <;> omega
    · obtain rfl : k = n := by omega
      have Z : RowKit.Hid (IFun wr g 21 .i32 k (heldF f) ∧ Below g w wr) := ⟨IFun.ext HI.out.1 fun i hi => upTo_end _ _ k i hi, HI.out.2⟩
      go_wp2
      go_ret
      exact ⟨g, rfl, Z.out.1, by omega, by rw [hg]; exact Z.out.2⟩
end Go.Proofs.YtmgfkdmjgjlkjaaGreat

namespace Go.Proofs.YtmgfkdmjgjlkjaaGreat
open Go.RowKit
set_option linter.unusedVariables false
theorem tabF_snoc (f : Nat → Int) (n : Nat) : tabF (n + 1) f = tabF n f ++ [f n] := by simp [tabF, List.range_succ]
theorem info_i32b : (Tryz.prog.info? 21).map (fun i => (i.zero, i.size, i.bytes)) = some (some (.int .i32 0), 1, 4) := by kernel_rfl
theorem fill_fn {w : World} {base e n : Nat} {v : Value} {k : IntKind} {F : Nat → Int} (h : w.ownsRow base e 1 v n ((tabF n F).map (Value.int k))) (hn : 0 < n) : ∃ a c, v = .slice a n c ∧ FnAt w w.heap.size k a n F ∧ (a = none → c = 0) := by
  obtain ⟨a, c, rfl, hi⟩ := own_ints h
  refine ⟨a, c, rfl, (FnAt.of_ints hi hn).ext fun j hj => tabF_getD F hj, ?_⟩
  rintro rfl
  obtain ⟨b, off, e1, _⟩ := hi.at_ hn
  cases e1
end Go.Proofs.YtmgfkdmjgjlkjaaGreat

namespace Go.Proofs.YtmgfkdmjgjlkjaaGreat
open Go.RowKit
set_option linter.unusedVariables false
theorem Cel.ne {w : World} {g g' : Nat} {t t' : TypeId} {cs cs' : Array Value} (h : Cel w g t cs) (h' : Cel w g' t' cs') (hne : t ≠ t') : g ≠ g' := by
  rintro rfl
  unfold Cel at h h'
  rw [h] at h'
  injection h' with h'
  injection h' with _ ht
  exact hne ht
theorem CircAt.cel {w : World} {g : Nat} (h : CircAt w g) : ∃ cs, Cel w g 232 cs := ⟨_, h⟩
theorem IFun.cel {w : World} {g n : Nat} {t : TypeId} {k : IntKind} {f : Nat → Int} (h : IFun w g t k n f) : ∃ cs, Cel w g t cs := ⟨_, h⟩
def toolsV (c p q : Nat) : Value := .agg #[.pointer (some ⟨c, 0, none⟩), .pointer (some ⟨p, 0, none⟩), .pointer (some ⟨q, 0, none⟩)]
def TlAt (w : World) (c p q : Nat) : Prop := TrAt w p c 512 ∧ TrAt w q c 128
theorem TlAt.below {w w' : World} {c p q : Nat} (h : TlAt w c p q) (hb : Below w.heap.size w w') : TlAt w' c p q :=
  ⟨h.1.below hb (Nat.le_refl _), h.2.below hb (Nat.le_refl _)⟩
theorem TrAt.keep {w w' : World} {g c n : Nat} (h : TrAt w g c n) (hk : w'.heap[g]? = w.heap[g]?) (hc : w'.heap[c]? = w.heap[c]?) : TrAt w' g c n := ⟨h.1.keep hk, h.2.keep hc⟩
theorem TrAt.keeps {w w' : World} {g c n : Nat} {F : Nat → Prop} (h : TrAt w g c n) (hk : Keeps F w w') (hg : ¬ F g) (hc : ¬ F c) : TrAt w' g c n :=
  h.keep (hk.block g h.1.lt hg) (hk.block c h.2.lt hc)
theorem TrAt.ne {w : World} {g c n b : Nat} {t : TypeId} {cs : Array Value} (h : TrAt w g c n) (hb : Cel w b t cs) (h1 : t ≠ 234) (h2 : t ≠ 232) : g ≠ b ∧ c ≠ b :=
  ⟨(hb.ne h.1 h1).symm, by obtain ⟨cs', hc⟩ := h.2.cel; exact (hb.ne hc h2).symm⟩
theorem TlAt.keeps {w w' : World} {c p q b : Nat} {t : TypeId} {cs : Array Value} (h : TlAt w c p q) (hb : Cel w b t cs) (h1 : t ≠ 234) (h2 : t ≠ 232) (hk : Keeps (· = b) w w') : TlAt w' c p q := by
  obtain ⟨a1, a2⟩ := h.1.ne hb h1 h2
  obtain ⟨a3, _⟩ := h.2.ne hb h1 h2
  exact ⟨h.1.keeps hk a1 a2, h.2.keeps hk a3 a2⟩
def ToolsPost (w : World) (e : Ending) (w' : World) : Prop := ∃ c p q, e = .returned (toolsV c p q) ∧ TlAt w' c p q ∧ Below w.heap.size w w'
theorem cel3 {w : World} {g : Nat} {t : TypeId} {x y z : Value} (h : Cel w g t #[x, y, z]) : w.cell? ⟨g, 0, none⟩ = some x ∧ w.cell? ⟨g, 1, none⟩ = some y ∧ w.cell? ⟨g, 2, none⟩ = some z := ⟨h.cell 0, h.cell 1, h.cell 2⟩
theorem Keeps.set1 {w : World} {b i : Nat} (u : Value) : Keeps (· = b) w (w.setCell ⟨b, i, none⟩ u) := Keeps.setCell (F := (· = b)) (p := ⟨b, i, none⟩) (Keeps.refl _ w) (.inl rfl) u
set_option maxRecDepth 100000 in
theorem newTools_any (w : World) : Calls Tryz.prog 94 #[] w (ToolsPost w) := by
  have HR0 := Lib.hid (Cel.new w 168 #[.pointer none, .pointer none, .pointer none])
  have HB0 := Lib.hid (Below.alloc_new w (.cells #[.pointer none, .pointer none, .pointer none] 168))
  go_enter Tryz.func94, Tryz.ntmps94
  go_wp2_with (first | (go_at_call 122; go_loud (refine (circNew_any _).mono ?_); rintro e w2 ⟨c, rfl, hc, hb⟩; have HC := Lib.hid hc; have HR2 := Lib.hid (HR0.out.below hb); have HB2 := Lib.hid (chain HB0.out hb); clear hc hb HR0 HB0) | (go_at_call 123; have hq := HP3.out; go_loud (refine (lapNew_any 128 c _ (.inl rfl) HC3.out).mono ?_); rintro e w4 ⟨q, rfl, ht, hb⟩; have HT4 := Lib.hid (show TlAt w4 c p q from ⟨HP3b.out.below hb (Nat.le_refl _), ht⟩); have HU4 := Lib.hid (HU3.out.below hb); have HR4 := Lib.hid (HR3b.out.below hb); have HB4 := Lib.hid (chain HB3.out hb); obtain ⟨t0, t1, t2⟩ := cel3 HU4.out; obtain ⟨r0, r1, r2⟩ := cel3 HR4.out; have ft2 := HU4.out.frozen 2; have fr0 := HR4.out.frozen 0; have fr1 := HR4.out.frozen 1; have fr2 := HR4.out.frozen 2; have HS := Lib.hid HS2.out; have n1 : ¬ w.heap.size = w2.heap.size := HTR.out; have n2 : ¬ w2.heap.size = w.heap.size := (fun e => HTR.out e.symm); clear ht hb hq HP3 HC3 HU3 HR3 HB3 a0 a1 a2 fa1) | (go_at_call 123; go_loud (refine (lapNew_any 512 c _ (.inr rfl) (IFun.alloc HC.out _)).mono ?_); rintro e w3 ⟨p, rfl, ht, hb⟩; have HC0 := Lib.hid (show Cel w3 w2.heap.size 168 #[.pointer (some ⟨c, 0, none⟩), .pointer none, .pointer none] from (Cel.new w2 _ _).below hb); obtain ⟨a0, a1, a2⟩ := cel3 HC0.out; have fa1 := HC0.out.frozen 1; have HP3 := Lib.hid ht; have HR3 := Lib.hid ((HR2.out.alloc (.cells #[.pointer (some ⟨c, 0, none⟩), .pointer none, .pointer none] 168)).below hb); have HS2 : RowKit.Hid (w.heap.size ≤ w2.heap.size) := HB2.out.size; have HTR : RowKit.Hid (w.heap.size ≠ w2.heap.size) := (by have := HR2.out.lt; show _ ≠ _; omega); have HCT := Lib.hid (ht.ne HC0.out (by decide) (by decide)); have HP3b : RowKit.Hid (TrAt (w3.setCell ⟨w2.heap.size, 1, none⟩ (.pointer (some ⟨p, 0, none⟩))) p c 512) := ht.keeps (Keeps.set1 _) HCT.out.1 HCT.out.2; have HC3 := Lib.hid HP3b.out.2; have HU3 : RowKit.Hid (Cel (w3.setCell ⟨w2.heap.size, 1, none⟩ (.pointer (some ⟨p, 0, none⟩))) w2.heap.size 168 #[.pointer (some ⟨c, 0, none⟩), .pointer (some ⟨p, 0, none⟩), .pointer none]) := HC0.out.set_ 1 _; have HR3b : RowKit.Hid (Cel (w3.setCell ⟨w2.heap.size, 1, none⟩ (.pointer (some ⟨p, 0, none⟩))) w.heap.size 168 #[.pointer none, .pointer none, .pointer none]) := HR3.out.far HTR.out _; have HB3 : RowKit.Hid (Below w.heap.size w (w3.setCell ⟨w2.heap.size, 1, none⟩ (.pointer (some ⟨p, 0, none⟩)))) := (chain HB2.out (chain (Below.alloc_new w2 _) hb)).setCell (by have := HB2.out.size; exact this) _; clear ht hb HC HC0 HB2 HR2))
  have Z1 : TlAt (w4.setCell ⟨w2.heap.size, 2, none⟩ (.pointer (some ⟨q, 0, none⟩))) c p q := HT4.out.keeps HU4.out (by decide) (by decide) (Keeps.set1 _)
  have Z2 := HR4.out.far (p := ⟨w2.heap.size, 2, none⟩) HTR.out (.pointer (some ⟨q, 0, none⟩))
  have Z4 := HB4.out.setCell (p := ⟨w2.heap.size, 2, none⟩) (by have := HB4.out.size; have := HU4.out.lt; have := HR4.out.lt; show w.heap.size ≤ w2.heap.size; exact HS.out) (.pointer (some ⟨q, 0, none⟩))
  generalize (w4.setCell ⟨w2.heap.size, 2, none⟩ (.pointer (some ⟨q, 0, none⟩))) = w5 at Z1 Z2 Z4 ⊢
  have Z3 := ((Z2.set_ 0 (.pointer (some ⟨c, 0, none⟩))).set_ 1 (.pointer (some ⟨p, 0, none⟩))).set_ 2 (.pointer (some ⟨q, 0, none⟩))
  obtain ⟨d0, d1, d2⟩ := cel3 (show Cel _ w.heap.size 168 #[.pointer (some ⟨c, 0, none⟩), .pointer (some ⟨p, 0, none⟩), .pointer (some ⟨q, 0, none⟩)] from Z3)
  have Z5 := Z1.keeps Z2 (by decide) (by decide) ((((Keeps.set1 (i := 0) (.pointer (some ⟨c, 0, none⟩))).setCell (p := ⟨w.heap.size, 1, none⟩) (.inl rfl) (.pointer (some ⟨p, 0, none⟩))).setCell (p := ⟨w.heap.size, 2, none⟩) (.inl rfl) (.pointer (some ⟨q, 0, none⟩))))
  have Z6 := ((Z4.setCell (p := ⟨w.heap.size, 0, none⟩) (Nat.le_refl _) (.pointer (some ⟨c, 0, none⟩))).setCell (p := ⟨w.heap.size, 1, none⟩) (Nat.le_refl _) (.pointer (some ⟨p, 0, none⟩))).setCell (p := ⟨w.heap.size, 2, none⟩) (Nat.le_refl _) (.pointer (some ⟨q, 0, none⟩))
  generalize (((w5.setCell _ _).setCell _ _).setCell _ _) = w6 at d0 d1 d2 Z5 Z6 ⊢
  exact bodyPost_ret (v := toolsV c p q) (by simp [results, Tryz.results94, go_sem, d0, d1, d2, toolsV]) rfl ⟨c, p, q, rfl, Z5, Z6⟩
def ovlL (k : IntKind) (c p q : Nat) (f : Nat → Int) : List Value := [.pointer (some ⟨c, 0, none⟩), .pointer (some ⟨p, 0, none⟩), .pointer (some ⟨q, 0, none⟩)] ++ (tabF 128 f).map (Value.int k)
section
variable {k : IntKind} {c p q : Nat} {f f' : Nat → Int}
theorem ovlL_len : (ovlL k c p q f).length = 131 := by simp [ovlL, tabF]
theorem ovlL_at {j : Nat} (h : j < 128) : (ovlL k c p q f)[3 + j]? = some (.int k (f j)) := by
  unfold ovlL tabF
  rw [List.getElem?_append_right (by simp)]
  simp [h]
theorem ovlL_ext (h : ∀ j, j < 128 → f j = f' j) : ovlL k c p q f = ovlL k c p q f' := by unfold ovlL; rw [tabF_ext h]
end
def OvAt (t : TypeId) (k : IntKind) (w : World) (a c p q : Nat) (f : Nat → Int) : Prop := Cel w a t (ovlL k c p q f).toArray ∧ TlAt w c p q
section
variable {t : TypeId} {k : IntKind} {w w' : World} {a c p q : Nat} {f f' : Nat → Int}
theorem OvAt.ptrs (h : OvAt t k w a c p q f) : w.cell? ⟨a, 0, none⟩ = some (.pointer (some ⟨c, 0, none⟩)) ∧ w.cell? ⟨a, 1, none⟩ = some (.pointer (some ⟨p, 0, none⟩)) ∧ w.cell? ⟨a, 2, none⟩ = some (.pointer (some ⟨q, 0, none⟩)) :=
  ⟨h.1.cell 0, h.1.cell 1, h.1.cell 2⟩
theorem OvAt.at_ (h : OvAt t k w a c p q f) {j : Nat} (hj : j < 128) : w.cell? ⟨a, 3 + j, none⟩ = some (.int k (f j)) := by
  rw [h.1.cell, List.getElem?_toArray]; exact ovlL_at hj
theorem OvAt.below (h : OvAt t k w a c p q f) (hb : Below w.heap.size w w') : OvAt t k w' a c p q f := ⟨h.1.below hb, h.2.below hb⟩
theorem OvAt.ext (h : OvAt t k w a c p q f) (he : ∀ j, j < 128 → f j = f' j) : OvAt t k w a c p q f' := ⟨by rw [← ovlL_ext he]; exact h.1, h.2⟩
theorem OvAt.drewN (h : OvAt t k w a c p q f) (n : Nat) : OvAt t k (w.drewN n) a c p q f := h
theorem OvAt.range (h : OvAt t k w a c p q f) : w.rangeAt a 0 (ovlL k c p q f) := fun j v hv => by
  rw [Nat.zero_add, h.1.cell, List.getElem?_toArray]; exact hv
end
def anaZ : List Value := [.pointer none, .pointer none, .pointer none] ++ List.replicate 128 (.int .i16 0)
theorem ana_zero (w : World) : (zeroValue 172).run Tryz.prog w = .ok (.agg anaZ.toArray) w :=
  (zero_of_info (t := 172) (v := .agg anaZ.toArray) (n := 131) (by kernel_rfl)).1 w
def synZ : List Value := [.pointer none, .pointer none, .pointer none] ++ List.replicate 128 (.int .i32 0)
theorem syn_zero (w : World) : (zeroValue 175).run Tryz.prog w = .ok (.agg synZ.toArray) w :=
  (zero_of_info (t := 175) (v := .agg synZ.toArray) (n := 131) (by kernel_rfl)).1 w
def NewPost (t : TypeId) (k : IntKind) (w : World) (e : Ending) (w' : World) : Prop := ∃ a c p q, e = .returned (.pointer (some ⟨a, 0, none⟩)) ∧ OvAt t k w' a c p q (fun _ => 0) ∧ w.heap.size ≤ a ∧ Below w.heap.size w w'
theorem ana_is (c p q : Nat) : ((anaZ.toArray.setIfInBounds 0 (.pointer (some ⟨c, 0, none⟩))).setIfInBounds 1 (.pointer (some ⟨p, 0, none⟩))).setIfInBounds 2 (.pointer (some ⟨q, 0, none⟩)) = (ovlL .i16 c p q fun _ => 0).toArray := by
  have e : tabF 128 (fun _ => (0 : Int)) = List.replicate 128 0 := by decide
  unfold ovlL anaZ
  rw [e, List.map_replicate]
  generalize List.replicate 128 _ = R
  simp
theorem syn_is (c p q : Nat) : ((synZ.toArray.setIfInBounds 0 (.pointer (some ⟨c, 0, none⟩))).setIfInBounds 1 (.pointer (some ⟨p, 0, none⟩))).setIfInBounds 2 (.pointer (some ⟨q, 0, none⟩)) = (ovlL .i32 c p q fun _ => 0).toArray := by
  have e : tabF 128 (fun _ => (0 : Int)) = List.replicate 128 0 := by decide
  unfold ovlL synZ
  rw [e, List.map_replicate]
  generalize List.replicate 128 _ = R
  simp
set_option maxRecDepth 100000 in
theorem newAnalyser_any (w : World) : Calls Tryz.prog 57 #[] w (NewPost 172 .i16 w) := by
  obtain ⟨zz, hzz⟩ : ∃ zz, zz = anaZ.toArray := ⟨_, rfl⟩
  have hz := ana_zero
  rw [← hzz] at hz
  have hzs : zz.size = 131 := by rw [hzz]; rfl
  have HZ := Lib.hid hzz
  clear hzz
  go_enter Tryz.func57, Tryz.ntmps57
  go_wp2_with (go_at_call 94; go_loud (refine (newTools_any _).mono ?_); rintro e w2 ⟨c, p, q, rfl, ht, hb⟩; have HT := Lib.hid ht; have HB := Lib.hid hb; clear ht hb; unfold toolsV)
  go_ret
  refine ⟨_, c, p, q, rfl, ⟨by rw [← ana_is, ← HZ.out]; exact Cel.new _ _ _, HT.out.below (Below.alloc_new _ _)⟩, HB.out.size, chain HB.out (Below.alloc_new _ _)⟩
set_option maxRecDepth 100000 in
theorem newSynth_any (w : World) : Calls Tryz.prog 58 #[] w (NewPost 175 .i32 w) := by
  obtain ⟨zz, hzz⟩ : ∃ zz, zz = synZ.toArray := ⟨_, rfl⟩
  have hz := syn_zero
  rw [← hzz] at hz
  have hzs : zz.size = 131 := by rw [hzz]; rfl
  have HZ := Lib.hid hzz
  clear hzz
  go_enter Tryz.func58, Tryz.ntmps58
  go_wp2_with (go_at_call 94; go_loud (refine (newTools_any _).mono ?_); rintro e w2 ⟨c, p, q, rfl, ht, hb⟩; have HT := Lib.hid ht; have HB := Lib.hid hb; clear ht hb; unfold toolsV)
  go_ret
  refine ⟨_, c, p, q, rfl, ⟨by rw [← syn_is, ← HZ.out]; exact Cel.new _ _ _, HT.out.below (Below.alloc_new _ _)⟩, HB.out.size, chain HB.out (Below.alloc_new _ _)⟩
end Go.Proofs.YtmgfkdmjgjlkjaaGreat
