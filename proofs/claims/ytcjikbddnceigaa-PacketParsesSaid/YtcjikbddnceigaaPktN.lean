/- The walk of PacketParses. -/
import Derived.Test.YtcjikbddnceigaaPktL
namespace Go.Proofs.Ytcjikbddnceigaa
open Go.RowKit
set_option linter.unusedVariables false
set_option linter.unusedSimpArgs false

/-- What is told of any bytes. -/
noncomputable def resP (b : List Int) : Pk := if prsE b = 0 then pkOf b else ⟨0, 0, false, []⟩
noncomputable def resN (b : List Int) : Int := if prsE b = 0 then ((17 + lenP b : Nat) : Int) else 0
theorem parse_all (a : Option Addr) (n cap : Nat) (b : List Int) (w : World) (h : ByL w a n cap b) (hn : n ≤ 1000000) :
    Calls Try.prog 8 #[.slice a n cap] w fun e w' => ∃ a2 c2, e = .returned (.tuple #[pkV19 (resP b) a2 c2, .int .i64 (resN b), .int .i64 (prsE b)]) ∧ w'.ownsRow w.heap.size 5 1 (.slice a2 (resP b).pl.length c2) (resP b).pl.length ((resP b).pl.map (Value.int .u8)) ∧ Below w.heap.size w w' := by
  by_cases h0 : prsE b = 0
  · refine (parse_ok a n cap b w h hn h0).mono ?_
    rintro e w' ⟨v, rfl, ho, hb⟩
    obtain ⟨a2, c2, rfl⟩ := own_form ho
    refine ⟨a2, c2, ?_, ?_, hb⟩
    · unfold resP resN pkV19
      rw [if_pos h0, if_pos h0, h0]
    · unfold resP
      rw [if_pos h0]
      exact ho
  · refine (parse_no a n cap b w h hn h0).mono ?_
    rintro e w' ⟨rfl, hb⟩
    refine ⟨none, 0, ?_, ?_, hb⟩
    · unfold resP resN pkV19 pkZ
      rw [if_neg h0, if_neg h0]
      rfl
    · unfold resP
      rw [if_neg h0]
      exact World.ownsRow_nil _ _ _ _
theorem refParse_all (w0 : World) (a : Option Addr) (n cap : Nat) (b : List Int) (w : World) (h : ByL w0 a n cap b) (hb0 : Below w0.heap.size w0 w) (hn : n ≤ 1000000) :
    Calls Try.prog 12 #[.slice a n cap] w fun e w' => ∃ a2 c2, e = .returned (.tuple #[pkV19 (resP b) a2 c2, .int .i64 (resN b), .int .i64 (prsE b)]) ∧ IntsAt w' w0.heap.size .u8 a2 (resP b).pl.length (resP b).pl ∧ Below w.heap.size w w' := by
  have hw : ByL w a n cap b := h.below hb0
  by_cases h0 : prsE b = 0
  · obtain ⟨f, l, m6, q, hs⟩ := prsE_ok h0
    have hl := h.len
    obtain ⟨r, off, rfl⟩ := h.form (by omega)
    refine (refParse_ok r off n cap b w hw hn h0).mono ?_
    rintro e w' ⟨rfl, hb⟩
    have hpl : (pkOf b).pl.length = lenP b := by show ((b.drop 13).take (lenP b)).length = _; simp; omega
    refine ⟨some ⟨r, off + 13, none⟩, cap - 13, ?_, ?_, hb⟩
    · unfold resP resN pkV19 refPV
      rw [if_pos h0, if_pos h0, h0, hpl]
    · unfold resP
      rw [if_pos h0, hpl]
      exact (h.sub 13 (lenP b) (by omega)).hi.below (hb0.trans (hb.mono hb0.size))
  · refine (refParse_no a n cap b w hw hn h0).mono ?_
    rintro e w' ⟨rfl, hb⟩
    refine ⟨none, 0, ?_, ?_, hb⟩
    · unfold resP resN pkV19 pkZ
      rw [if_neg h0, if_neg h0]
      rfl
    · unfold resP
      rw [if_neg h0]
      exact ⟨rfl, .inl rfl⟩
set_option maxRecDepth 100000 in
set_option maxHeartbeats 2000000 in
/-- Too much comes in. -/
theorem packetParses_out (a : Option Addr) (n cap : Nat) (w : World) (h : 1500 < n) :
    Calls Try.prog 4 #[.slice a n cap] w fun e w' => e = .returned (.bool true) ∧ Below w.heap.size w w' := by
  have q : decide ((1500 : Int) < (n : Int)) = true := by simp; omega
  have HB := Lib.hid (Below.refl w.heap.size w)
  clear h
  go_enter Try.func4, Try.ntmps4
  go_wp2_with (go_at_call 6; go_loud (refine (lives19_any _).mono ?_); rintro e w2 ⟨rfl, hb⟩; replace HB := Lib.hid (chain HB.out hb); clear hb)
  go_ret
  exact ⟨rfl, HB.out⟩
/-- Where the spoiling stands. -/
structure SpSt (w : World) (P : Pk) (pn : Nat) (a3 : Option Addr) (m3 c3 : Nat) (base gp gq : Nat) (a7 : Option Addr) (c7 : Nat) (a8 : Option Addr) (c8 : Nat) (wr : World) : Prop where
  b : Below w.heap.size w wr
  o : ∃ xs : List Int, wr.ownsRow base 5 1 (.slice a3 m3 c3) m3 (xs.map (Value.int .u8))
  p : Cel wr gp 25 #[.int .u32 P.ep, .int .u32 P.nu, .bool P.wh, .slice a7 pn c7]
  q : Cel wr gq 33 #[.int .u32 P.ep, .int .u32 P.nu, .bool P.wh, .slice a8 pn c8]
  i7 : IntsAt wr wr.heap.size .u8 a7 pn P.pl
  i8 : IntsAt wr w.heap.size .u8 a8 pn P.pl
  n1 : w.heap.size ≤ base
  n2 : ∀ r off, a7 = some ⟨r, off, none⟩ → ∀ g, a3 = some ⟨g, 0, none⟩ → g < r
theorem SpSt.spoil {w wr : World} {P : Pk} {pn m3 c3 base gp gq c7 c8 g k : Nat} {a7 a8 : Option Addr} (h : SpSt w P pn (some ⟨g, 0, none⟩) m3 c3 base gp gq a7 c7 a8 c8 wr) (x : Int) : SpSt w P pn (some ⟨g, 0, none⟩) m3 c3 base gp gq a7 c7 a8 c8 (wr.setCell ⟨g, k, none⟩ (.int .u8 x)) := by
  obtain ⟨xs, ho⟩ := h.o
  have hg := own_typ19 ho (g := g) rfl
  have kk : Keeps (· = g) wr (wr.setCell ⟨g, k, none⟩ (.int .u8 x)) := Keeps.setCell (F := (· = g)) (Keeps.refl _ wr) (p := ⟨g, k, none⟩) (.inl rfl) _
  have hgb := hg.2
  have hn1 := h.n1
  refine ⟨h.b.setCell (p := ⟨g, k, none⟩) (by simp only; omega) _, ⟨xs.set k x, ?_⟩, h.p.keeps kk fun e => ?_, h.q.keeps kk fun e => ?_, ?_, ?_, h.n1, h.n2⟩
  · rw [List.map_set]
    exact (ho.stored k (.int .u8 x)).1
  · subst e
    exact h.p.typ19.ne hg.1 (by decide) rfl
  · subst e
    exact h.q.typ19.ne hg.1 (by decide) rfl
  · refine (h.i7.keeps19 kk (Nat.le_refl _) fun r off e _ _ hf => ?_).grow kk.size
    have := h.n2 r off e g rfl
    omega
  · refine h.i8.keeps19 kk h.b.size fun r off e _ hr hf => ?_
    omega
set_option maxRecDepth 100000 in
set_option maxHeartbeats 4000000 in
theorem packetParses_in (a : Option Addr) (n cap : Nat) (b : List Int) (w : World) (h : ByL w a n cap b) (hn : n ≤ 1500) :
    Calls Try.prog 4 #[.slice a n cap] w fun e w' => e = .returned (.bool true) ∧ Below w.heap.size w w' := by
  have q : decide ((1500 : Int) < (n : Int)) = false := by simp; omega
  have HB := Lib.hid (Below.refl w.heap.size w)
  have HM := Lib.hid h
  have HL := Lib.hid h.len
  obtain ⟨P, hP⟩ : ∃ P, resP b = P := ⟨_, rfl⟩
  obtain ⟨y, hy⟩ : ∃ y, resN b = y := ⟨_, rfl⟩
  obtain ⟨z, hz⟩ : ∃ z, prsE b = z := ⟨_, rfl⟩
  have CP : RowKit.Hid (∀ a n cap w (h : ByL w a n cap b) (hn : n ≤ 1000000), Calls Try.prog 8 #[.slice a n cap] w fun e w' => ∃ a2 c2, e = .returned (.tuple #[.agg #[.int .u32 P.ep, .int .u32 P.nu, .bool P.wh, .slice a2 P.pl.length c2], .int .i64 y, .int .i64 z]) ∧ w'.ownsRow w.heap.size 5 1 (.slice a2 P.pl.length c2) P.pl.length (P.pl.map (Value.int .u8)) ∧ Below w.heap.size w w') := by
    intro a n cap w h hn
    have := parse_all a n cap b w h hn
    rw [hP, hy, hz] at this
    exact this
  have CR : RowKit.Hid (∀ W (hb : Below w.heap.size w W), Calls Try.prog 12 #[.slice a n cap] W fun e w' => ∃ a2 c2, e = .returned (.tuple #[.agg #[.int .u32 P.ep, .int .u32 P.nu, .bool P.wh, .slice a2 P.pl.length c2], .int .i64 y, .int .i64 z]) ∧ IntsAt w' w.heap.size .u8 a2 P.pl.length P.pl ∧ Below W.heap.size W w') := by
    intro W hb
    have := refParse_all w a n cap b W h hb (by omega)
    rw [hP, hy, hz] at this
    exact this
  obtain ⟨pn, hpn⟩ : ∃ pn, P.pl.length = pn := ⟨_, rfl⟩
  have HPn := Lib.hid hpn
  rw [hpn] at CP CR
  clear hP hy hz h hpn
  go_enter Try.func4, Try.ntmps4
  go_wp2_with (first
    | (go_at_call 6; go_loud (refine (lives19_any _).mono ?_); rintro e w2 ⟨rfl, hb⟩; replace HB := Lib.hid (chain HB.out hb); obtain ⟨W4, hW4⟩ : ∃ W4, w2.alloc (.cells #[] 5) = W4 := ⟨_, rfl⟩; have HW4 := Lib.hid hW4; have hb4 := Below.alloc_new w2 (.cells #[] 5); have hx4 := World.ownsRow_lit (base := w2.heap.size) (e := 5) (size := 1) w2 #[] 0 (Nat.le_refl _) (by decide) rfl; rw [hW4] at hb4 hx4; have HB4 := Lib.hid hb4; have HX4 : RowKit.Hid (W4.ownsRow w2.heap.size 5 1 (.slice (some ⟨w2.heap.size, 0, none⟩) 0 0) ([] : List Int).length (([] : List Int).map (Value.int .u8))) := hx4; clear hb hb4 hx4 hW4)
    | (at_builtin; rw [HW4.out]; go_loud (refine append_ints rfl _ _ 23 rfl w2.heap.size 5 .u8 1 Try.underlying23 info19_u8 _ _ _ rfl HX4.out a n cap _ b rfl (HM.out.below (chain HB.out HB4.out)).hi HM.out.ha (by unfold maxLen; simp; omega) (by simp; omega) HB4.out.size ?_); intro v5 w5 ho hg _; replace ho := own_len ho; rw [List.nil_append] at ho; obtain ⟨a3, m3, c3, rfl, hm3⟩ := own_form_m ho; rw [HL.out] at hm3; have HX5 := Lib.hid ho; have HM3 := Lib.hid hm3; have HB5 := Lib.hid (HB4.out.grown hg HB4.out.size fun j e => own_base HX4.out j e); clear ho hg HX4 hm3)
    | (go_at_call 8; go_loud (refine (CP.out a3 m3 c3 _ (ByL.own HX5.out HM.out.hb (by rw [HL.out]; omega)) (by rw [HM3.out]; omega)).mono ?_); rintro e w7 ⟨a7, c7, rfl, ho, hb⟩; have HO7 := Lib.hid ho; have HB7 := Lib.hid hb; obtain ⟨W8, hW8⟩ : ∃ W8, w7.alloc (.cells #[.int .u32 P.ep, .int .u32 P.nu, .bool P.wh, .slice a7 pn c7] 25) = W8 := ⟨_, rfl⟩; have HW8 := Lib.hid hW8; have hb8 := Below.alloc_new w7 (.cells #[.int .u32 P.ep, .int .u32 P.nu, .bool P.wh, .slice a7 pn c7] 25); have hc8 := Cel.new w7 25 #[.int .u32 P.ep, .int .u32 P.nu, .bool P.wh, .slice a7 pn c7]; rw [hW8] at hb8 hc8; have HB8 := Lib.hid hb8; have HC8 := Lib.hid hc8; clear ho hb hb8 hc8 hW8)
    | (go_at_call 12; rw [HW8.out]; have HBx := Lib.hid (chain HB.out (HB5.out.trans ((chain HB7.out HB8.out).mono HB5.out.size))); go_loud (refine (CR.out W8 HBx.out).mono ?_); rintro e w9 ⟨a9, c9, rfl, hi9, hb⟩; have HI9 := Lib.hid hi9; have HB9 := Lib.hid hb; clear hb hi9)
    | fail)
  obtain ⟨gp, hgp⟩ : ∃ gp, w7.heap.size = gp := ⟨_, rfl⟩
  obtain ⟨gq, hgq⟩ : ∃ gq, w9.heap.size = gq := ⟨_, rfl⟩
  obtain ⟨W10, hW10⟩ : ∃ W10, w9.alloc (.cells #[.int .u32 P.ep, .int .u32 P.nu, .bool P.wh, .slice a9 pn c9] 33) = W10 := ⟨_, rfl⟩
  have hb10 := Below.alloc_new w9 (.cells #[.int .u32 P.ep, .int .u32 P.nu, .bool P.wh, .slice a9 pn c9] 33)
  have hq10 := Cel.new w9 33 #[.int .u32 P.ep, .int .u32 P.nu, .bool P.wh, .slice a9 pn c9]
  rw [hW10] at hb10 hq10 ⊢
  rw [hgq] at hq10
  have H0 : RowKit.Hid (SpSt w P pn a3 m3 c3 w2.heap.size gp gq a7 c7 a9 c9 W10) := by
    have b78 := chain HB7.out HB8.out
    have b510 := chain (chain b78 HB9.out) hb10
    have b810 := chain HB9.out hb10
    refine ⟨chain HBx.out b810, ⟨b, ?_⟩, ?_, hq10, ?_, ?_, HB.out.size, ?_⟩
    · have := own_below HX5.out b510
      rw [HL.out] at this
      rw [HM3.out]
      rw [HM3.out] at this
      exact this
    · rw [← hgp]; exact HC8.out.below b810
    · have := own_ints_m HO7.out
      exact this.now (chain HB8.out b810) (Nat.le_refl _)
    · exact HI9.out.below (hb10.mono (chain HBx.out HB9.out).size)
    · intro r off e g e3
      subst e
      subst e3
      have h1 := own_base HO7.out r rfl
      have h2 := own_lt HX5.out g rfl
      omega
  rw [hgp, hgq]
  clear hW10 hb10 hq10 hgp hgq HB HB4 HB5 HB7 HB8 HB9 HBx HX5 HO7 HI9 HC8 HW4 HW8 CP CR HM
  go_loopw [36] (fun i wr => ∃ k : Nat, k ≤ m3 ∧ i = .int .i64 k ∧ RowKit.Hid (SpSt w P pn a3 m3 c3 w2.heap.size gp gq a7 c7 a9 c9 wr)) (fun i _ => m3 - (intOf i).toNat)
  case atStart => exact ⟨0, by omega, rfl, H0.out⟩
  case round =>
    obtain ⟨k, hk, rfl, H⟩ := hrel
    clear H0
    by_cases hlt : k < m3
    · obtain ⟨xs, ho⟩ := H.out.o
      obtain ⟨r, off, e3, _, _, hcell⟩ := (own_ints_m ho).at_ hlt
      obtain ⟨g, rfl⟩ : ∃ g, a3 = some ⟨g, 0, none⟩ := by
        rcases ho.2 with ⟨e, hn0⟩ | ⟨g, cap, cur, e, _⟩
        · omega
        · injection e with e; exact ⟨g, e⟩
      injection e3 with e3
      injection e3 with e4 e5
      subst e4
      subst e5
      rw [Nat.zero_add] at hcell
      have hfz := ho.frozenAt k
      have HN : RowKit.Hid (∀ x : Int, SpSt w P pn (some ⟨g, 0, none⟩) m3 c3 w2.heap.size gp gq a7 c7 a9 c9 (wr.setCell ⟨g, k, none⟩ (.int .u8 x))) := fun x => H.out.spoil x
      generalize xs.getD k 0 = x at hcell
      clear ho H
      go_wp2
      go_roundw
      case rel => exact ⟨k + 1, by omega, by go_num, HN.out _⟩
      case measure => simp [intOf]; omega
    · obtain rfl : k = m3 := by omega
      have CS := Lib.hid (lawSame_any P a7 a9 c7 c9 wr (by rw [HPn.out]; exact H.out.i7) (by rw [HPn.out]; exact H.out.i8.grow H.out.b.size))
      unfold pkV19 at CS
      rw [HPn.out] at CS
      obtain ⟨p0, p1, p2, p3⟩ := cel4 H.out.p
      obtain ⟨q0, q1, q2, q3⟩ := cel4 H.out.q
      go_wp2_with (go_at_call 11; go_loud (refine CS.out.mono ?_); rintro e w11 ⟨rfl, hb⟩; have HB11 := Lib.hid (chain H.out.b hb); clear hb)
      go_ret
      exact ⟨rfl, HB11.out⟩
end Go.Proofs.Ytcjikbddnceigaa
