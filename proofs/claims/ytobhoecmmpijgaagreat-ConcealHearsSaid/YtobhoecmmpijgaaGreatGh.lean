/- Plain facts, and what functions give, for the proofs of this seat: several texts in one, each with its own first remark. -/
import Derived.Test.YtobhoecmmpijgaaGreatGg
import Derived.Test.YtobhoecmmpijgaaGreatRows
import Derived.IntWalk
import Derived.Deep.QuietTactic
import Derived.BigQuiet
import Derived.BigRegion
import Derived.Test.YtobhoecmmpijgaaGreatGb
import Derived.Test.YtobhoecmmpijgaaGreatGe

/- What the document's encoder of layer 6 gives: a model's symbol; its bytes. -/
namespace Go.Proofs.YtobhoecmmpijgaaGreat
open Go.RowKit
set_option linter.unusedVariables false

/-- What an encoder makes of a model's symbol. -/
def encSym (e : EncS) (l : List Int) (s : Nat) : EncS := encPut e (sumN l s) (l.getD s 0) l.sum
theorem okP_sym {l : List Int} (h : GoodL l) {s : Nat} (hs : s < l.length) : OkP (sumN l s) (l.getD s 0) l.sum := by
  have a := h.own hs
  have b := h.sum_le (n := s) (by omega)
  have c := sumN_succ l s hs
  have d := sumN_rise (l := l) (fun j hj => by have := h.2.2.1 j hj; omega) (m := s + 1) (n := l.length) (by omega) (Nat.le_refl _)
  rw [sumN_all] at d
  exact ⟨by omega, h.2.2.2, a.1, b.1, by omega⟩
/-- What a model has learnt then. -/
def nextL (l : List Int) (fx : Bool) (s : Nat) : List Int := if fx then l else learnP l s
/-- What a symbol's putting leaves: the encoder and the model. -/
def SymPost (base b2 g r mg mr : Nat) (f : EncS) (l : List Int) (fx : Bool) (w : World) (x : Ending) (w' : World) : Prop :=
  x = .returned (.tuple #[]) ∧ ∃ r' c', EncMem w' base g r' c' (digL f.n (f.k + 4)) f.s f.k ∧ RefMod w' b2 mg mr l fx ∧ Keeps (fun j => j = g ∨ j = r ∨ j = mr) w w' ∧ (r' = r ∨ w.heap.size ≤ r')

set_option maxRecDepth 100000 in
theorem refEncSymbol_any (base b2 g r c mg mr : Nat) (e : EncS) (l : List Int) (fx : Bool) (s : Nat) (w : World) (hE : EncMem w base g r c (digL e.n (e.k + 4)) e.s e.k) (hR : RefMod w b2 mg mr l fx) (hG : GoodE e) (hL : GoodL l) (hs : s < l.length) (hk : e.k ≤ 900000) (d1 : mg ≠ g) (d2 : mg ≠ r) (d3 : mr ≠ g) (d4 : mr ≠ r) :
    Calls Tryz.prog 58 #[.pointer (some ⟨g, 0, none⟩), .pointer (some ⟨mg, 0, none⟩), .int .i64 s] w (SymPost base b2 g r mg mr (encSym e l s) (nextL l fx s) fx w) := by
  obtain ⟨cm, h1, h2, h3⟩ := hR
  have HR := Lib.hid (show RefMod w b2 mg mr l fx from ⟨cm, h1, h2, h3⟩)
  have HE := Lib.hid hE
  have HG := Lib.hid hG
  have HL := Lib.hid hL
  have hl := hL.2.1
  have c0 := h1.cell 0
  simp only [List.getElem?_toArray, List.getElem?_cons_zero] at c0
  have hcell := HR.out.at_ hs
  have hb : ∀ j, j < l.length → 0 ≤ l.getD j 0 ∧ l.getD j 0 ≤ 4294967295 := fun j hj => by have := HL.out.own hj; omega
  have HB := Lib.hid hb
  have HOk := Lib.hid (okP_sym hL hs)
  have HS : RowKit.Hid (encSym e l s = encPut e (sumN l s) (l.getD s 0) l.sum) := rfl
  have HT := Lib.hid (sumN_all l)
  have hsl : (s : Int) < (l.length : Int) := by omega
  have HRd : RowKit.Hid (RefMod w.drew b2 mg mr l fx) := HR.out
  have HEd : RowKit.Hid (EncMem w.drew base g r c (digL e.n (e.k + 4)) e.s e.k) := HE.out
  clear h1 h2 h3 hE hG hL hb
  rw [HS.out]
  clear HS
  generalize l.getD s 0 = X2 at hcell HOk ⊢
  go_enter Tryz.func58, Tryz.ntmps58
  go_wp2
  go_still_tail 18, (by kernel_rfl)
  still_call ((refSum_at b2 mg mr l fx s _ _ (by omega) HRd.out (by omega) hl HB.out).mono fun _ _ h => ⟨h.1, h.2.symm⟩)
  repeat still_step
  still_call ((refSum_at b2 mg mr l fx l.length _ _ (by omega) HRd.out (by omega) hl HB.out).mono fun _ _ h => ⟨h.1, h.2.symm⟩)
  refine wpStill_nil ?_
  change wpList _ _ _ _ _ w.drew
  rw [HT.out]
  clear c0 hcell
  have hF : ∀ k : Nat, (k = g ∨ k = r) → (k = g ∨ k = r ∨ k = mr) := fun k h => by omega
  cases fx with
  | true =>
    go_wp2_with (first | (go_at_call 55; go_loud (refine (refEncPut_any base g r c e _ _ _ _ HEd.out HG.out HOk.out (by omega)).mono ?_); rintro e5 w5 ⟨rfl, hpost⟩; have HP5 := Lib.hid hpost; obtain ⟨r3, c3, u1, u2, u3⟩ := hpost; have HR5 := Lib.hid (HRd.out.keeps u2 (by omega) (by omega)); clear u1 u2 u3) | (go_at_call 94; go_loud (refine (refLearn_fixed b2 mg mr l _ _ HR5.out).mono ?_); rintro e6 w6 ⟨rfl, rfl⟩))
    go_end0
    obtain ⟨r3, c3, u1, u2, u3⟩ := HP5.out
    exact ⟨rfl, r3, c3, u1, HR5.out, ((Keeps.refl _ w).drewN 1).trans (u2.mono hF), u3⟩
  | false =>
    go_wp2_with (first | (go_at_call 55; go_loud (refine (refEncPut_any base g r c e _ _ _ _ HEd.out HG.out HOk.out (by omega)).mono ?_); rintro e5 w5 ⟨rfl, hpost⟩; have HP5 := Lib.hid hpost; obtain ⟨r3, c3, u1, u2, u3⟩ := hpost; have HR5 := Lib.hid (HRd.out.keeps u2 (by omega) (by omega)); clear u1 u2 u3) | (go_at_call 94; go_loud (refine (refLearn_any b2 mg mr l s _ HR5.out HL.out hs).mono ?_); rintro e6 w6 ⟨rfl, hm, hk6⟩; have HM6 := Lib.hid hm; have HK6 := Lib.hid hk6; clear hm hk6))
    go_end0
    obtain ⟨r3, c3, u1, u2, u3⟩ := HP5.out
    have hr3 := u1.lt
    refine ⟨rfl, r3, c3, u1.keeps HK6.out (by omega) ?_, HM6.out, (((Keeps.refl _ w).drewN 1).trans (u2.mono hF)).trans (HK6.out.mono fun k h => by omega), u3⟩
    intro hc
    have hsz : mr < w.heap.size := HR.out.lt.2.1
    rcases u3 with h | h
    · omega
    · have : w.heap.size ≤ r3 := h
      omega
theorem encSym_good {e : EncS} {l : List Int} {s : Nat} (hg : GoodE e) (hl : GoodL l) (hs : s < l.length) : GoodE (encSym e l s) := encPut_good hg (okP_sym hl hs)
theorem encSym_inside {e : EncS} {l : List Int} {s : Nat} (hg : GoodE e) (hl : GoodL l) (hs : s < l.length) : Inside e (encSym e l s) := encPut_inside hg (okP_sym hl hs)
theorem encSym_k (e : EncS) (l : List Int) (s : Nat) : (encSym e l s).k ≤ e.k + 2 := encPut_k e _ _ _
end Go.Proofs.YtobhoecmmpijgaaGreat

/- What the document's decoder of layer 7 gives: a byte more, in which part it lies, a part taken. -/
namespace Go.Proofs.YtobhoecmmpijgaaGreat
open Go.RowKit
set_option linter.unusedVariables false

/-- The bytes, and noughts behind. -/
def byteF (b : List Int) (j : Nat) : Int := b.getD j 0
/-- Block g is the document's decoder of the bytes b. -/
def DecMem (w : World) (base g : Nat) (v : Value) (b : List Int) (d : DecS) : Prop :=
  Cel w g 133 #[v, .int .i64 d.i, .int .i64 d.c, .int .i64 d.s] ∧ w.ownsRow base 5 1 v b.length (b.map (Value.int .u8)) ∧ base ≤ g
section
variable {w w' : World} {base g : Nat} {v : Value} {b : List Int} {d : DecS}
theorem DecMem.ne (h : DecMem w base g v b d) : ∀ k, v.ownBlock = some k → k ≠ g := fun k hk => own_ne_cel h.2.1 h.1 (by decide) k hk
theorem DecMem.cells (h : DecMem w base g v b d) : w.cell? ⟨g, 0, none⟩ = some v ∧ w.cell? ⟨g, 1, none⟩ = some (.int .i64 d.i) ∧ w.cell? ⟨g, 2, none⟩ = some (.int .i64 d.c) ∧ w.cell? ⟨g, 3, none⟩ = some (.int .i64 d.s) := ⟨h.1.cell 0, h.1.cell 1, h.1.cell 2, h.1.cell 3⟩
theorem DecMem.fz (h : DecMem w base g v b d) : w.frozen? ⟨g, 1, none⟩ = false ∧ w.frozen? ⟨g, 2, none⟩ = false ∧ w.frozen? ⟨g, 3, none⟩ = false := ⟨h.1.frozen 1, h.1.frozen 2, h.1.frozen 3⟩
theorem DecMem.drewN (h : DecMem w base g v b d) (n : Nat) : DecMem (w.drewN n) base g v b d := h
theorem DecMem.keeps {F : Nat → Prop} (h : DecMem w base g v b d) (hk : Keeps F w w') (h1 : ¬ F g) (h2 : ∀ k, v.ownBlock = some k → ¬ F k) : DecMem w' base g v b d := ⟨h.1.keeps hk h1, own_keeps h.2.1 hk h2, h.2.2⟩
theorem DecMem.below (h : DecMem w base g v b d) (hk : Below w.heap.size w w') : DecMem w' base g v b d := h.keeps (F := fun _ => False) (.of_below hk) (fun c => c) (fun _ _ c => c)
theorem DecMem.setI (h : DecMem w base g v b d) (x : Nat) : DecMem (w.setCell ⟨g, 1, none⟩ (.int .i64 x)) base g v b ⟨d.c, d.s, x⟩ :=
  ⟨by simpa using h.1.set_ 1 (.int .i64 x), own_far h.2.1 h.ne _, h.2.2⟩
theorem DecMem.setC (h : DecMem w base g v b d) (x : Int) : DecMem (w.setCell ⟨g, 2, none⟩ (.int .i64 x)) base g v b ⟨x, d.s, d.i⟩ :=
  ⟨by simpa using h.1.set_ 2 (.int .i64 x), own_far h.2.1 h.ne _, h.2.2⟩
theorem DecMem.setS (h : DecMem w base g v b d) (x : Int) : DecMem (w.setCell ⟨g, 3, none⟩ (.int .i64 x)) base g v b ⟨d.c, x, d.i⟩ :=
  ⟨by simpa using h.1.set_ 3 (.int .i64 x), own_far h.2.1 h.ne _, h.2.2⟩
theorem DecMem.ints (h : DecMem w base g v b d) : ∃ a c, v = .slice a b.length c ∧ IntsAt w w.heap.size .u8 a b.length b := own_ints h.2.1
end
def DecPost (base g : Nat) (v : Value) (b : List Int) (d : DecS) (w : World) (x : Ending) (w' : World) : Prop :=
  x = .returned (.tuple #[]) ∧ DecMem w' base g v b d ∧ Keeps (fun j => j = g) w w'

set_option maxRecDepth 100000 in
theorem refDecNext_any (base g : Nat) (v : Value) (b : List Int) (d : DecS) (w : World) (hD : DecMem w base g v b d) (hb : ∀ j, 0 ≤ byteF b j ∧ byteF b j ≤ 255) (hl : b.length ≤ 1000000) (c0 : 0 ≤ d.c) (c1 : d.c ≤ 4294967295) (hi : d.i ≤ 10000000) :
    Calls Tryz.prog 62 #[.pointer (some ⟨g, 0, none⟩)] w (DecPost base g v b ⟨d.c * 256 + byteF b d.i, d.s, d.i + 1⟩ w) := by
  obtain ⟨a, cp, rfl, hints⟩ := hD.ints
  obtain ⟨m0, m1, m2, m3⟩ := hD.cells
  obtain ⟨z1, z2, z3⟩ := hD.fz
  have HD := Lib.hid hD
  have HI := Lib.hid hints
  have HB := Lib.hid hb
  clear hD hints hb
  obtain ⟨x, hx⟩ : ∃ x, x = byteF b d.i := ⟨_, rfl⟩
  have x0 : 0 ≤ x ∧ x ≤ 255 := by rw [hx]; exact HB.out d.i
  have T1 := Lib.hid (HD.out.setC (d.c * 256))
  have T2 : RowKit.Hid (DecMem ((w.setCell ⟨g, 2, none⟩ (.int .i64 (d.c * 256))).setCell ⟨g, 1, none⟩ (.int .i64 ((d.i : Int) + 1))) base g (.slice a b.length cp) b ⟨d.c * 256, d.s, d.i + 1⟩) := T1.out.setI (d.i + 1)
  have K1 := Lib.hid ((Keeps.refl (fun j => j = g) w).setCell (p := ⟨g, 2, none⟩) (.inl rfl) (.int .i64 (d.c * 256)))
  have K2 := Lib.hid (K1.out.setCell (p := ⟨g, 1, none⟩) (.inl rfl) (.int .i64 ((d.i : Int) + 1)))
  have T3 := Lib.hid (T1.out.setC (d.c * 256 + x))
  have T4 : RowKit.Hid (DecMem (((w.setCell ⟨g, 2, none⟩ (.int .i64 (d.c * 256))).setCell ⟨g, 2, none⟩ (.int .i64 (d.c * 256 + x))).setCell ⟨g, 1, none⟩ (.int .i64 ((d.i : Int) + 1))) base g (.slice a b.length cp) b ⟨d.c * 256 + x, d.s, d.i + 1⟩) := T3.out.setI (d.i + 1)
  have K4 := Lib.hid ((K1.out.setCell (p := ⟨g, 2, none⟩) (.inl rfl) (.int .i64 (d.c * 256 + x))).setCell (p := ⟨g, 1, none⟩) (.inl rfl) (.int .i64 ((d.i : Int) + 1)))
  by_cases hlt : d.i < b.length
  · obtain ⟨b', off, rfl, hbB, _, hcell⟩ := HI.out.at_ hlt
    have hne : b' ≠ g := HD.out.ne b' (by simp [Value.ownBlock])
    have hxx : b.getD d.i 0 = x := hx.symm
    rw [hxx] at hcell
    have HX := Lib.hid hx
    clear hx hxx
    have g1 : (d.i : Int) < (b.length : Int) := by omega
    go_enter Tryz.func62, Tryz.ntmps62
    go_wp2
    go_quiet (fail)
    go_wp2
    have e1 : IntKind.i64.wrap x = x := IntWalk.i64_in _ (by omega)
    have e2 : wrap64 x = x := IntWalk.wrap64_in _ (by omega)
    have e3 : IntKind.i64.wrap (d.c * 256 + x) = d.c * 256 + x := IntWalk.i64_in _ (by omega)
    go_region
    clear e1 e2 e3
    go_wp2
    go_end0
    refine ⟨rfl, ?_, K4.out.drewN _⟩
    rw [← HX.out]; exact T4.out.drewN _
  · have hx0 : byteF b d.i = 0 := by unfold byteF; simp [List.getD, List.getElem?_eq_none (Nat.le_of_not_lt hlt)]
    have g1 : (b.length : Int) ≤ (d.i : Int) := by omega
    have HX := Lib.hid hx0
    clear hx0 hx
    go_enter Tryz.func62, Tryz.ntmps62
    go_wp2
    go_quiet (fail)
    go_wp2
    go_end0
    refine ⟨rfl, ?_, K2.out.drewN _⟩
    rw [HX.out, Int.add_zero]; exact T2.out.drewN _

set_option maxRecDepth 100000 in
theorem refDecAt_any (base g : Nat) (v : Value) (b : List Int) (d : DecS) (all : Int) (w : World) (hD : DecMem w base g v b d) (hG : GoodD d) (a0 : 1 ≤ all) (a1 : all ≤ 8192) :
    Calls Tryz.prog 71 #[.pointer (some ⟨g, 0, none⟩), .int .i64 all] w fun x w' => x = .returned (.int .i64 (decAt d all)) ∧ ∃ n, w' = w.drewN n := by
  obtain ⟨m0, m1, m2, m3⟩ := hD.cells
  obtain ⟨s0, s1, c0, c1⟩ := hG
  obtain ⟨E0, E1, E2⟩ := each_bd s0 s1 a0 a1
  clear hD m0 m1
  obtain ⟨q, hq⟩ : ∃ q, q = d.c / (d.s / all) := ⟨_, rfl⟩
  have HA : RowKit.Hid (decAt d all = if all ≤ q then all - 1 else q) := by show _ = _; rw [hq]; rfl
  have q0 : 0 ≤ q := by rw [hq]; exact Int.ediv_nonneg c0 (by omega)
  have q1 : q ≤ d.c := by rw [hq]; exact Int.ediv_le_self _ c0
  have e1 : d.s.tdiv all = d.s / all := Int.tdiv_eq_ediv_of_nonneg (by omega)
  have e2 : d.c.tdiv (d.s / all) = q := by rw [Int.tdiv_eq_ediv_of_nonneg (by omega)]; exact hq.symm
  have e3 : ¬ all = 0 := by omega
  have e4 : ¬ d.s / all = 0 := by omega
  have e5 : IntKind.i64.wrap (d.s / all) = d.s / all := IntWalk.i64_in _ (by omega)
  have e6 : IntKind.i64.wrap q = q := IntWalk.i64_in _ (by omega)
  clear hq
  go_enter Tryz.func71, Tryz.ntmps71
  go_wp2
  go_quiet (fail)
  clear e1 e2 e5 e6
  go_wp2
  · have ht : all ≤ q := by assumption
    go_ret
    exact ⟨ret_int (by rw [HA.out, if_pos ht]), _, rfl⟩
  · have ht : q < all := by assumption
    go_ret
    exact ⟨ret_int (by rw [HA.out, if_neg (by omega)]), _, rfl⟩

/-- How far the size is from where the scaling ends. -/
def leftD (w : World) (g : Nat) : Nat := match w.cell? ⟨g, 3, none⟩ with | some (.int _ s) => (16777216 - s).toNat | _ => 0
theorem leftD_eq {w : World} {g : Nat} {k : IntKind} {s : Int} (h : w.cell? ⟨g, 3, none⟩ = some (.int k s)) : leftD w g = (16777216 - s).toNat := by unfold leftD; rw [h]
/-- On the way of the scaling. -/
def DecScale (b : List Int) (i0 : Nat) (pre st : DecS) : Prop :=
  scaleD (byteF b) st = scaleD (byteF b) pre ∧ 2048 ≤ st.s ∧ st.s ≤ 4294967295 ∧ 0 ≤ st.c ∧ st.c < st.s ∧ st.i ≤ i0 + 2 ∧ (i0 + 1 ≤ st.i → 524288 ≤ st.s) ∧ (i0 + 2 ≤ st.i → 16777216 ≤ st.s)

set_option maxHeartbeats 1000000 in
set_option maxRecDepth 100000 in
theorem refDecTake_any (base g : Nat) (v : Value) (b : List Int) (d : DecS) (low own all : Int) (w : World) (hD : DecMem w base g v b d) (hb : ∀ j, 0 ≤ byteF b j ∧ byteF b j ≤ 255) (hl : b.length ≤ 1000000) (hi : d.i ≤ 5000000) (hG : GoodD d) (hP : OkP low own all) (hlow : d.s / all * low ≤ d.c) :
    Calls Tryz.prog 72 #[.pointer (some ⟨g, 0, none⟩), .int .i64 low, .int .i64 own, .int .i64 all] w (DecPost base g v b (decTake (byteF b) d low own all) w) := by
  obtain ⟨m0, m1, m2, m3⟩ := hD.cells
  obtain ⟨z1, z2, z3⟩ := hD.fz
  have HD := Lib.hid hD
  have HB := Lib.hid hb
  have hpre := decPre_bd hG hP hlow
  obtain ⟨s0, s1, c0, c1⟩ := hG
  obtain ⟨p1, p2, p3, p4, p5⟩ := hP
  obtain ⟨E0, E1, E2⟩ := each_bd s0 s1 p1 p2
  have hput : decTake (byteF b) d low own all = scaleD (byteF b) (decPre d low own all) := rfl
  rw [hput]
  clear hput hD hb m0
  have HN : RowKit.Hid ((decPre d low own all).c = (if d.s / all * own ≤ d.c - d.s / all * low then d.s / all * own - 1 else d.c - d.s / all * low) ∧ (decPre d low own all).s = d.s / all * own ∧ (decPre d low own all).i = d.i) := ⟨rfl, rfl, rfl⟩
  generalize decPre d low own all = pre at HN hpre ⊢
  obtain ⟨r1, r2, r3, r4⟩ := hpre
  have a2 : 0 ≤ d.s / all * low := Int.mul_nonneg (by omega) p4
  have a3 : d.s / all * (low + own) ≤ d.s / all * all := Int.mul_le_mul_of_nonneg_left p5 (by omega)
  have a4 : d.s / all * 1 ≤ d.s / all * own := Int.mul_le_mul_of_nonneg_left p3 (by omega)
  rw [Int.mul_add] at a3
  have hq : d.s.tdiv all = d.s / all := Int.tdiv_eq_ediv_of_nonneg (by omega)
  have hall : ¬ all = 0 := by omega
  obtain ⟨E, hE⟩ : ∃ E, d.s / all = E := ⟨_, rfl⟩
  rw [hE] at hq a2 a3 a4 E0 E1 E2 HN hlow
  obtain ⟨A, hA⟩ : ∃ A, E * low = A := ⟨_, rfl⟩
  obtain ⟨O, hO⟩ : ∃ O, E * own = O := ⟨_, rfl⟩
  rw [hA] at a2 a3 HN hlow
  rw [hO] at a3 a4 HN
  have T2 : RowKit.Hid (DecMem ((w.setCell ⟨g, 2, none⟩ (.int .i64 (d.c - A))).setCell ⟨g, 3, none⟩ (.int .i64 O)) base g v b ⟨d.c - A, O, d.i⟩) := (HD.out.setC (d.c - A)).setS O
  have K2 := Lib.hid (((Keeps.refl (fun j => j = g) w).setCell (p := ⟨g, 2, none⟩) (.inl rfl) (.int .i64 (d.c - A))).setCell (p := ⟨g, 3, none⟩) (.inl rfl) (.int .i64 O))
  have T3 : RowKit.Hid (DecMem (((w.setCell ⟨g, 2, none⟩ (.int .i64 (d.c - A))).setCell ⟨g, 3, none⟩ (.int .i64 O)).setCell ⟨g, 2, none⟩ (.int .i64 (O - 1))) base g v b ⟨O - 1, O, d.i⟩) := T2.out.setC (O - 1)
  have K3 := Lib.hid (K2.out.setCell (p := ⟨g, 2, none⟩) (.inl rfl) (.int .i64 (O - 1)))
  have H0 : RowKit.Hid (∀ w', DecMem w' base g v b pre → Keeps (fun j => j = g) w w' → ∃ st, DecScale b d.i pre st ∧ DecMem w' base g v b st ∧ Keeps (fun j => j = g) w w') := by
    intro w' h1 h2
    have := HN.out.2.2
    exact ⟨pre, ⟨rfl, r1, r2, r3, r4, by omega, by omega, by omega⟩, h1, h2⟩
  go_enter Tryz.func72, Tryz.ntmps72
  go_wp2
  by_cases hbig : O ≤ d.c - A
  · have hdd : decide (O ≤ d.c - A) = true := by simpa using hbig
    go_quiet (fail)
    have HP1 : RowKit.Hid (pre = ⟨O - 1, O, d.i⟩) := by
      obtain ⟨c', s', i'⟩ := pre
      obtain ⟨h1, h2, h3⟩ := HN.out
      rw [if_pos hbig] at h1
      simp only at h1 h2 h3
      subst h1 h2 h3
      exact rfl
    go_wp2
    go_loopw [49] (fun _ wr => ∃ st : DecS, RowKit.Hid (DecScale b d.i pre st ∧ DecMem wr base g v b st ∧ Keeps (fun j => j = g) w wr)) (fun _ wr => leftD wr g)
    case atStart => exact H0.out _ (by rw [HP1.out]; exact T3.out.drewN _) (K3.out.drewN _)
    case round =>
      obtain ⟨st, H⟩ := hrel
      obtain ⟨S1, b0, b1, b2, b3, b4, b5, b6⟩ := H.out.1
      have HS1 := Lib.hid S1
      clear S1
      obtain ⟨y0, y1, y2, y3⟩ := H.out.2.1.cells
      obtain ⟨x1, x2, x3⟩ := H.out.2.1.fz
      clear y0
      by_cases hlt : st.s < 16777216
      · have T5 := Lib.hid (H.out.2.1.setS (st.s * 256))
        have K5 := Lib.hid (H.out.2.2.setCell (p := ⟨g, 3, none⟩) (.inl rfl) (.int .i64 (st.s * 256)))
        have S2 := Lib.hid (scaleD_step (byteF b) (d := st) (by omega) hlt)
        have hbb := HB.out st.i
        go_wp2_with (go_at_call 62; go_loud (refine (refDecNext_any base g v b ⟨st.c, st.s * 256, st.i⟩ _ T5.out HB.out hl (by simp only; omega) (by simp only; omega) (by simp only; omega)).mono ?_); rintro e5 w5 ⟨rfl, hm, hk⟩; have T6 := Lib.hid hm; have K6 := Lib.hid (K5.out.trans hk); clear hm hk)
        go_roundw
        case rel => exact ⟨_, ⟨by rw [← HS1.out, S2.out], by simp only; omega, by simp only; omega, by simp only; omega, by simp only; omega, by simp only; omega, by simp only; omega, by simp only; omega⟩, T6.out, K6.out⟩
        case measure => rw [leftD_eq T6.out.cells.2.2.2, leftD_eq y3]; simp only; omega
      · have Z : RowKit.Hid (scaleD (byteF b) pre = st) := by rw [← HS1.out]; exact scaleD_end _ (by omega)
        go_wp2
        go_end0
        exact ⟨rfl, by rw [Z.out]; exact H.out.2.1, H.out.2.2⟩
  · have hdd : decide (O ≤ d.c - A) = false := by simpa using hbig
    go_quiet (fail)
    have HP1 : RowKit.Hid (pre = ⟨d.c - A, O, d.i⟩) := by
      obtain ⟨c', s', i'⟩ := pre
      obtain ⟨h1, h2, h3⟩ := HN.out
      rw [if_neg hbig] at h1
      simp only at h1 h2 h3
      subst h1 h2 h3
      exact rfl
    go_wp2
    go_loopw [49] (fun _ wr => ∃ st : DecS, RowKit.Hid (DecScale b d.i pre st ∧ DecMem wr base g v b st ∧ Keeps (fun j => j = g) w wr)) (fun _ wr => leftD wr g)
    case atStart => exact H0.out _ (by rw [HP1.out]; exact T2.out.drewN _) (K2.out.drewN _)
    case round =>
      obtain ⟨st, H⟩ := hrel
      obtain ⟨S1, b0, b1, b2, b3, b4, b5, b6⟩ := H.out.1
      have HS1 := Lib.hid S1
      clear S1
      obtain ⟨y0, y1, y2, y3⟩ := H.out.2.1.cells
      obtain ⟨x1, x2, x3⟩ := H.out.2.1.fz
      clear y0
      by_cases hlt : st.s < 16777216
      · have T5 := Lib.hid (H.out.2.1.setS (st.s * 256))
        have K5 := Lib.hid (H.out.2.2.setCell (p := ⟨g, 3, none⟩) (.inl rfl) (.int .i64 (st.s * 256)))
        have S2 := Lib.hid (scaleD_step (byteF b) (d := st) (by omega) hlt)
        have hbb := HB.out st.i
        go_wp2_with (go_at_call 62; go_loud (refine (refDecNext_any base g v b ⟨st.c, st.s * 256, st.i⟩ _ T5.out HB.out hl (by simp only; omega) (by simp only; omega) (by simp only; omega)).mono ?_); rintro e5 w5 ⟨rfl, hm, hk⟩; have T6 := Lib.hid hm; have K6 := Lib.hid (K5.out.trans hk); clear hm hk)
        go_roundw
        case rel => exact ⟨_, ⟨by rw [← HS1.out, S2.out], by simp only; omega, by simp only; omega, by simp only; omega, by simp only; omega, by simp only; omega, by simp only; omega, by simp only; omega⟩, T6.out, K6.out⟩
        case measure => rw [leftD_eq T6.out.cells.2.2.2, leftD_eq y3]; simp only; omega
      · have Z : RowKit.Hid (scaleD (byteF b) pre = st) := by rw [← HS1.out]; exact scaleD_end _ (by omega)
        go_wp2
        go_end0
        exact ⟨rfl, by rw [Z.out]; exact H.out.2.1, H.out.2.2⟩
end Go.Proofs.YtobhoecmmpijgaaGreat
