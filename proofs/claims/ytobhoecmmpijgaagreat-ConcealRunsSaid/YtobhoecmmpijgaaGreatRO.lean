/- Plain facts, and what functions give, for the proofs of this seat: several texts in one, each with its own first remark. -/
import Derived.Test.YtobhoecmmpijgaaGreatRN
import Derived.Test.YtobhoecmmpijgaaGreatRK

/- What a player plays of a frame, by the document. -/
namespace Go.Proofs.YtobhoecmmpijgaaGreat
open Go Go.RowKit
set_option linter.unusedVariables false
set_option linter.unusedSimpArgs false

structure PlayB (F : Frm) (b : List Int) (D0 D1 D2 D3 D4 D5 : DecS) : Prop where
  e1 : decBits b D0 0 1 = (b2 F.wh, D1)
  e2 : decBits b D1 0 1 = (b2 F.br, D2)
  e3 : decBits b D2 0 4 = (F.Q, D3)
  e4 : decBits b D3 0 5 = ((F.lo : Int), D4)
  l : ∀ i, i < 21 → getV F.wh b D4 F.ah i = F.l i
  e5 : getN F.wh b D4 F.ah 21 = D5
  o : ∀ seed i, i < 512 → outF F.l F.steps (getQ (toldT F.l F.steps) b D5) seed i = F.out seed i
  k : ∀ i, i < 512 → okG F.l F.steps b D5 i = true
  g : GoodD D0 ∧ GoodD D1 ∧ GoodD D2 ∧ GoodD D3 ∧ GoodD D4 ∧ GoodD D5
  i : D0.i ≤ 100 ∧ D1.i ≤ 100 ∧ D2.i ≤ 100 ∧ D3.i ≤ 100 ∧ D4.i ≤ 100 ∧ D5.i ≤ 100
  bd : ∀ j, 0 ≤ byteF b j ∧ byteF b j ≤ 255
  len : b.length ≤ 600
theorem Frm.Ok.playB {F : Frm} (h : F.Ok) : ∃ D0 D1 D2 D3 D4 D5, decNew (byteF F.bytes) = D0 ∧ PlayB F F.bytes D0 D1 D2 D3 D4 D5 := by
  obtain ⟨a1, a2, a3, a4, a5, a6, a7⟩ := h.back
  have hb := F.bytes_bd
  have hl := h.len
  have g0 := F.good0
  have i0 : (decNew (byteF F.bytes)).i = 4 := rfl
  generalize F.bytes = b at *
  unfold headD at a5 a6 a7
  generalize h0 : decNew (byteF b) = D0 at *
  obtain ⟨g1, i1, _⟩ := decBitsQ_good (k := 1) hb g0 (by decide)
  have e1 : decBits b D0 0 1 = (b2 F.wh, (decBits b D0 0 1).2) := Prod.ext a1 rfl
  generalize (decBits b D0 0 1).2 = D1 at *
  obtain ⟨g2, i2, _⟩ := decBitsQ_good (k := 1) hb g1 (by decide)
  have e2 : decBits b D1 0 1 = (b2 F.br, (decBits b D1 0 1).2) := Prod.ext a2 rfl
  generalize (decBits b D1 0 1).2 = D2 at *
  obtain ⟨g3, i3, _⟩ := decBitsQ_good (k := 4) hb g2 (by decide)
  have e3 : decBits b D2 0 4 = (F.Q, (decBits b D2 0 4).2) := Prod.ext a3 rfl
  generalize (decBits b D2 0 4).2 = D3 at *
  obtain ⟨g4, i4, _⟩ := decBitsQ_good (k := 5) hb g3 (by decide)
  have e4 : decBits b D3 0 5 = ((F.lo : Int), (decBits b D3 0 5).2) := Prod.ext a4 rfl
  generalize (decBits b D3 0 5).2 = D4 at *
  obtain ⟨g5, i5⟩ := getN_good (q := F.wh) (d := F.ah) hb g4 21
  exact ⟨D0, D1, D2, D3, D4, _, rfl, e1, e2, e3, e4, a5, rfl, a6, a7, ⟨g0, g1, g2, g3, g4, g5⟩, ⟨by omega, by omega, by omega, by omega, by omega, by omega⟩, hb, hl⟩
theorem rBits_at (base g : Nat) (v : Value) (b : List Int) (D D' : DecS) (n : Int) (wide : Nat) (w : World) (hD : DecMem w base g v b D) (hb : ∀ j, 0 ≤ byteF b j ∧ byteF b j ≤ 255) (hbl : b.length ≤ 600) (hi : D.i ≤ 100) (hG : GoodD D) (hw : wide ≤ 24) (e : decBits b D 0 wide = (n, D')) :
    Calls Tryz.prog 38 #[.pointer (some ⟨g, 0, none⟩), .int .i64 wide] w (DecBitsPost base g v b n D' w) := by
  have := refDecBits_any base g v b D wide w hD hb (by omega) (by omega) hG hw
  rw [e] at this
  exact this
theorem rGet_any (base gd : Nat) (v : Value) (b : List Int) (D D5 : DecS) (wh : Bool) (o : Option Nat) (ah l : Nat → Int) (cap2 : Nat) (w : World) (hD : DecMem w base gd v b D) (hG : GoodD D) (hb : ∀ j, 0 ≤ byteF b j ∧ byteF b j ≤ 255) (hbl : b.length ≤ 600) (hi : D.i ≤ 100)
    (hA : AhAt w wh o ah) (hl : ∀ i, i < 21 → getV wh b D ah i = l i) (hc : CutOk l) (he : getN wh b D ah 21 = D5) :
    Calls Tryz.prog 63 #[.pointer (some ⟨gd, 0, none⟩), .slice (ahA o) (ahN o) cap2] w fun e w' => ∃ a c, e = .returned (.tuple #[.slice a 21 c, .bool true]) ∧ IntsAt w' w'.heap.size .i64 a 21 (tabF 21 l) ∧ DecMem w' base gd v b D5 ∧ Keeps (fun j => j = gd) w w' := by
  obtain ⟨ds, d1, d2⟩ := hA.at_
  refine (ref10Get_any base gd v b D wh (ahA o) (ahN o) cap2 ds w hD hG hb (by omega) (by omega) d1 (fun hw r off e => ?_)).mono ?_
  · rcases hA with ⟨rfl, _⟩ | ⟨_, _, r', rfl, h4⟩
    · cases hw
    · have e : some (⟨r', 0, none⟩ : Addr) = some ⟨r, off, none⟩ := e
      injection e with e; injection e with e; subst e
      exact Cel.ne h4 hD.1 (by decide)
  · rintro e w' ⟨a, c, rfl, h1, h2, h3⟩
    rw [d2] at h1 h2
    have t : tabF 21 (getV wh b D ah) = tabF 21 l := tabF_ext hl
    rw [d2, t]
    rw [t] at h1
    rw [he] at h2
    exact ⟨a, c, by rw [hc.right], h1, h2, h3⟩
theorem ints_long {w : World} {B r off m n : Nat} {zs : List Int} {t : TypeId} {cs : Array Value} {a : Option Addr} (h : IntsAt w B .i64 a n zs) (k : Cel w m t cs) (hn : cs.size < n) (ha : a = some ⟨r, off, none⟩) : r ≠ m := by
  rintro rfl
  obtain ⟨b', off', e, _, _, hcell⟩ := h.at_ (j := cs.size) hn
  rw [ha] at e
  injection e with e
  injection e with e1 e2
  subst e1
  rw [k.cell, Array.getElem?_eq_none (by omega)] at hcell
  cases hcell
theorem rLines_any (F : Frm) (base gd : Nat) (v : Value) (b : List Int) (D5 : DecS) (a a2 : Option Addr) (cap cap2 : Nat) (seed : Int) (w : World) (hF : F.Ok) (hD : DecMem w base gd v b D5) (hG : GoodD D5) (hb : ∀ j, 0 ≤ byteF b j ∧ byteF b j ≤ 255) (hbl : b.length ≤ 600) (hi : D5.i ≤ 100)
    (h : IntsAt w w.heap.size .i64 a 21 (tabF 21 F.l)) (h2 : IntsAt w w.heap.size .i64 a2 21 (tabF 21 F.steps)) (s0 : 0 ≤ seed) (s1 : seed ≤ 4294967295)
    (ho : ∀ seed i, i < 512 → outF F.l F.steps (getQ (toldT F.l F.steps) b D5) seed i = F.out seed i) (hk : ∀ i, i < 512 → okG F.l F.steps b D5 i = true) :
    Calls Tryz.prog 64 #[.pointer (some ⟨gd, 0, none⟩), .slice a 21 cap, .slice a2 21 cap2, .int .u32 seed] w fun e w' => ∃ x off cp, e = .returned (.tuple #[.slice (some ⟨x, off, none⟩) 512 cp, .bool true]) ∧ x < w'.heap.size ∧ (∀ j, j < 512 → w'.cell? ⟨x, off + j, none⟩ = some (.int .i64 (F.out seed j))) ∧ Keeps (fun j => j = gd) w w' := by
  have := refGetLines_any base gd v b D5 a a2 cap cap2 (tabF 21 F.l) (tabF 21 F.steps) seed w hD hG hb (by omega) (by omega) h h2 (hF.l.may F.Q F.lo) s0 s1 (fun r off e => ints_long h hD.1 (by show 4 < 21; decide) e) (fun r off e => ints_long h2 hD.1 (by show 4 < 21; decide) e)
  rw [hF.l.tab, show (fun j => (tabF 21 F.steps).getD j 0) = F.steps from (hF.st F.lo).tab] at this
  refine this.mono ?_
  rintro e w' ⟨k, ⟨_, a', cp, rfl, i'⟩ | ⟨⟨i, hi1, hi2⟩, _⟩⟩
  · obtain ⟨x, off, rfl, _, _, _⟩ := i'.at_ (j := 0) (by decide)
    refine ⟨x, off, cp, rfl, ?_, fun j hj => ?_, k⟩
    · obtain ⟨x', off', e, hx, _, _⟩ := i'.at_ (j := 0) (by decide)
      cases e; exact hx
    · obtain ⟨x', off', e, hx, _, hc⟩ := i'.at_ hj
      injection e with e; injection e with e1 e2
      subst e1; subst e2
      rw [hc, tabF_getD _ hj, ho seed j hj]
  · have := hk i hi1
    rw [this] at hi2
    cases hi2
def PlayPost (F : Frm) (n : Int) (C p gd : Nat) (left : Nat → Int) (w : World) (e : Ending) (w' : World) : Prop :=
  ∃ b cap x off av vt, e = .returned (.tuple #[.slice (some ⟨b, 0, none⟩) 512 cap, .bool true]) ∧ NumAt w' b 0 512 2 .i64 (samplesF F.br (F.held n) left) ∧ Cel w' p 74 (plC C (.slice (some ⟨x, off, none⟩) 128 128) av true vt F.br) ∧ NumAt w' x off 128 2 .i64 (leftF F.br (F.held n)) ∧ Keeps (fun j => j = p ∨ j = gd) w w'
theorem plC_at {w : World} {C p : Nat} {vl av vt : Value} {has br : Bool} (h : Cel w p 74 (plC C vl av has vt br)) : w.cell? ⟨p, 0, none⟩ = some (.slice (some ⟨C, 0, none⟩) 1025 1025) ∧ w.cell? ⟨p, 1, none⟩ = some vl ∧ w.cell? ⟨p, 2, none⟩ = some av ∧ w.cell? ⟨p, 3, none⟩ = some (.bool has) ∧ w.cell? ⟨p, 4, none⟩ = some vt ∧ w.cell? ⟨p, 5, none⟩ = some (.bool br) :=
  ⟨h.cell 0, h.cell 1, h.cell 2, h.cell 3, h.cell 4, h.cell 5⟩
set_option maxHeartbeats 2000000 in
set_option maxRecDepth 100000 in
theorem rPlay_any (F : Frm) (n : Int) (C p base gd x xo : Nat) (v : Value) (o : Option Nat) (left : Nat → Int) (w : World) (hF : F.Ok) (hC : IFun w C 2 .i64 1025 cosN) (hP : Cel w p 74 (plC C (.slice (some ⟨x, xo, none⟩) 128 128) (.slice (ahA o) (ahN o) (ahN o)) (!F.wh) (.slice none 0 0) false))
    (hx : NumAt w x xo 128 2 .i64 left) (hlb : ∀ j, j < 128 → (left j).natAbs ≤ 1073741000) (hA : AhAt w F.wh o F.ah) (hD : DecMem w base gd v F.bytes (decNew (byteF F.bytes))) (n0 : 0 ≤ n) (n1 : n ≤ 4294967295) :
    Calls Tryz.prog 34 #[.pointer (some ⟨p, 0, none⟩), .pointer (some ⟨gd, 0, none⟩), .int .u32 n] w (PlayPost F n C p gd left w) := by
  obtain ⟨D0, D1, D2, D3, D4, D5, h0, hB⟩ := hF.playB
  rw [h0] at hD
  generalize F.bytes = b at hD hB
  have HF := Lib.hid hF
  have HC := Lib.hid hC
  have HX := Lib.hid hx
  have HLB := Lib.hid hlb
  have HA := Lib.hid hA
  have HD0 := Lib.hid hD
  have HB := Lib.hid hB
  have HN := Lib.hid (And.intro n0 n1)
  have hpg := Lib.hid (hP.ne hD.1 (by decide))
  have HQ := Lib.hid hF.q
  obtain ⟨bb, hbb⟩ : ∃ bb, bb = b2 F.br := ⟨_, rfl⟩
  have HBB : RowKit.Hid (b2 F.br = bb) := hbb.symm
  have hb1 : (bb == 1) = F.br := by rw [hbb]; cases F.br <;> rfl
  obtain ⟨Q, hQ⟩ : ∃ Q, Q = F.Q := ⟨_, rfl⟩
  have HQQ : RowKit.Hid (F.Q = Q) := hQ.symm
  have q0 : 1 ≤ Q := by rw [hQ]; exact hF.q.1
  have q1 : Q ≤ 10 := by rw [hQ]; exact hF.q.2
  obtain ⟨wh, hwh⟩ : ∃ wh, wh = F.wh := ⟨_, rfl⟩
  have HWB : RowKit.Hid (b2 F.wh = b2 wh) := by show _ = _; rw [hwh]
  have HON : RowKit.Hid (wh = true → o = none) := fun e => by
    rcases hA with ⟨_, h, _⟩ | ⟨h, _⟩
    · exact h
    · rw [← hwh, e] at h; cases h
  rw [← hwh] at hP
  have HP := Lib.hid hP
  have HLo := Lib.hid hF.loss.1
  clear hF hC hP hx hlb hA hD hB n0 n1 h0 hbb hQ hwh
  have hb2 : (b2 wh = 1 ∧ wh = true) ∨ (b2 wh = 0 ∧ wh = false) := by cases wh <;> simp [b2]
  obtain ⟨wb, hwb⟩ : ∃ wb, wb = b2 wh := ⟨_, rfl⟩
  rw [← hwb] at HWB hb2
  clear hwb
  rcases hb2 with ⟨rfl, rfl⟩ | ⟨rfl, rfl⟩
  all_goals
    try (obtain rfl := HON.out rfl)
    go_enter Tryz.func34, Tryz.ntmps34
    go_wp2_with (first
      | (go_at_call 38; go_loud (refine (rBits_at base gd v b D3 D4 F.lo 5 _ HD3.out HB.out.bd HB.out.len HB.out.i.2.2.2.1 HB.out.g.2.2.2.1 (by decide) HB.out.e4).mono ?_); rintro e w4 ⟨rfl, d4, k4⟩; have HD4 := Lib.hid d4; have HK4 : RowKit.Hid (Keeps (fun j => j = gd) w w4) := HK3.out.trans k4; clear d4 k4; have HP4 := Lib.hid (HP.out.keeps HK4.out hpg.out); obtain ⟨c0, c1, c2, c3, c4, c5⟩ := plC_at HP4.out)
      | (go_at_call 38; go_loud (refine (rBits_at base gd v b D2 D3 F.Q 4 _ HD2.out HB.out.bd HB.out.len HB.out.i.2.2.1 HB.out.g.2.2.1 (by decide) HB.out.e3).mono ?_); rintro e w3 ⟨rfl, d3, k3⟩; have HD3 := Lib.hid d3; have HK3 : RowKit.Hid (Keeps (fun j => j = gd) w w3) := HK2.out.trans k3; clear d3 k3; rw [HQQ.out])
      | (go_at_call 38; go_loud (refine (rBits_at base gd v b D1 D2 (b2 F.br) 1 _ HD1.out HB.out.bd HB.out.len HB.out.i.2.1 HB.out.g.2.1 (by decide) HB.out.e2).mono ?_); rintro e w2 ⟨rfl, d2, k2⟩; have HD2 := Lib.hid d2; have HK2 : RowKit.Hid (Keeps (fun j => j = gd) w w2) := HK1.out.trans k2; clear d2 k2; rw [HBB.out])
      | (go_at_call 38; go_loud (refine (rBits_at base gd v b D0 D1 (b2 F.wh) 1 _ HD0.out HB.out.bd HB.out.len HB.out.i.1 HB.out.g.1 (by decide) HB.out.e1).mono ?_); rintro e w1 ⟨rfl, d1, k1⟩; have HD1 := Lib.hid d1; have HK1 := Lib.hid k1; clear d1 k1; rw [HWB.out])
      | (go_at_call 63; go_loud (refine (rGet_any base gd v b D4 D5 F.wh _ F.ah F.l _ w4 HD4.out HB.out.g.2.2.2.2.1 HB.out.bd HB.out.len HB.out.i.2.2.2.2.1 (HA.out.keeps HK4.out fun r hr => Cel.ne hr HD0.out.1 (by decide)) HB.out.l HF.out.l HB.out.e5).mono ?_); rintro e w5 ⟨a5, c5', rfl, i5, d5, k5⟩; have HI5 := Lib.hid i5; have HD5 := Lib.hid d5; have HK5 : RowKit.Hid (Keeps (fun j => j = gd) w w5) := HK4.out.trans k5; clear i5 d5 k5)
      | (go_at_call 29; go_loud (refine (ref10Steps_any a5 c5' (tabF 21 F.l) Q F.lo _ HI5.out ⟨HF.out.l.right, q0, q1, by omega, by have := HLo.out; omega⟩).mono ?_); rintro e w6 ⟨a6, c6, rfl, i6, b6⟩; rw [HF.out.l.tab] at i6; have HI6 : RowKit.Hid (IntsAt w6 w6.heap.size .i64 a6 21 (tabF 21 F.steps)) := (by rw [← HQQ.out] at i6; exact i6); have HI5b := Lib.hid (HI5.out.now b6 (Nat.le_refl _)); have HD6 := Lib.hid (HD5.out.below b6); have HK6 : RowKit.Hid (Keeps (fun j => j = gd) w w6) := HK5.out.trans (Keeps.of_below b6); clear i6 b6)
      | (go_at_call 64; go_loud (refine (rLines_any F base gd v b D5 a5 a6 c5' c6 n _ HF.out HD6.out HB.out.g.2.2.2.2.2 HB.out.bd HB.out.len HB.out.i.2.2.2.2.2 HI5b.out HI6.out HN.out.1 HN.out.2 HB.out.o HB.out.k).mono ?_); rintro e w7 ⟨x7, o7, c7, rfl, l7, h7, k7⟩; have HL7 := Lib.hid l7; have HH7 := Lib.hid h7; have HK7 : RowKit.Hid (Keeps (fun j => j = gd) w w7) := HK6.out.trans k7; clear l7 h7 k7)
      | (go_at_call 65; go_loud (refine (rHeld_any x7 o7 c7 (F.out n) _ HL7.out HH7.out (fun j hj => HF.out.out n hj)).mono ?_); rintro e w8 ⟨v8, rfl, o8, b8⟩; obtain ⟨y8, p8, rfl, s8, t8, u8, _⟩ := own_num o8 (by decide); have HU8 : RowKit.Hid (NumAt w8 y8 0 512 2 .i64 (F.held n)) := u8; have HK8 : RowKit.Hid (Keeps (fun j => j = gd) w w8) := HK7.out.trans (Keeps.of_below b8); have HP8 := Lib.hid (HP.out.keeps HK8.out hpg.out); clear o8 b8 u8; obtain ⟨k0, k1, k2, k3, k4, k5⟩ := plC_at HP8.out; have z2 := HP8.out.frozen 2; have z3 := HP8.out.frozen 3; have z4 := HP8.out.frozen 4; have z5 := HP8.out.frozen 5)
      | (go_at_call 66; have KW : RowKit.Hid (Keeps (· = p) w8 ((((w8.setCell ⟨p, 4, none⟩ (.slice (some ⟨y8, 0, none⟩) 512 p8)).setCell ⟨p, 5, none⟩ (.bool F.br)).setCell ⟨p, 2, none⟩ (.slice a5 21 c5')).setCell ⟨p, 3, none⟩ (.bool true))) := ((((Keeps.set1 _).trans (Keeps.set1 _)).trans (Keeps.set1 _)).trans (Keeps.set1 _)); have PW : RowKit.Hid (Cel ((((w8.setCell ⟨p, 4, none⟩ (.slice (some ⟨y8, 0, none⟩) 512 p8)).setCell ⟨p, 5, none⟩ (.bool F.br)).setCell ⟨p, 2, none⟩ (.slice a5 21 c5')).setCell ⟨p, 3, none⟩ (.bool true)) p 74 (plC C (.slice (some ⟨x, xo, none⟩) 128 128) (.slice a5 21 c5') true (.slice (some ⟨y8, 0, none⟩) 512 p8) F.br)) := ((((HP8.out.set_ 4 _).set_ 5 _).set_ 2 _).set_ 3 _); have CW := Lib.hid (Cel.keeps (Cel.keeps HC.out HK8.out (Cel.ne HC.out HD0.out.1 (by decide))) KW.out (Cel.ne (Cel.keeps HC.out HK8.out (Cel.ne HC.out HD0.out.1 (by decide))) HP8.out (by decide))); have YW := Lib.hid (HU8.out.keeps KW.out (HU8.out.1.ne (Cel.typ HP8.out) (by decide))); have XW := Lib.hid ((HX.out.keeps HK8.out (HX.out.1.ne (Cel.typ HD0.out.1) (by decide))).keeps KW.out (HX.out.1.ne (Cel.typ HP.out) (by decide))); go_loud (refine (rSound_any C p y8 0 p8 x xo (.slice a5 21 c5') true F.br (F.held n) left _ CW.out PW.out YW.out XW.out (fun j _ => F.held_bd n j) HLB.out).mono ?_); rintro e w9 ⟨b9, c9, x9, o9, rfl, n9, p9, l9, k9⟩; have HN9 := Lib.hid n9; have HP9 := Lib.hid p9; have HL9 := Lib.hid l9; have HK9 : RowKit.Hid (Keeps (fun j => j = p ∨ j = gd) w w9) := ((HK8.out.mono fun j hj => .inr hj).trans (KW.out.mono fun j hj => .inl hj)).trans (k9.mono fun j hj => .inl hj); clear n9 p9 l9 k9))
    go_ret2
    exact ⟨b9, c9, x9, o9, _, _, rfl, HN9.out, HP9.out, HL9.out, HK9.out⟩
end Go.Proofs.YtobhoecmmpijgaaGreat

/- What a payload of any bytes says, and what comes of it; Play of the document, of any bytes. -/
namespace Go.Proofs.YtobhoecmmpijgaaGreat
open Go Go.RowKit
set_option linter.unusedVariables false
set_option linter.unusedSimpArgs false

/-! ### In numbers -/
def plD0 (b : List Int) : DecS := decNew (byteF b)
def plD1 (b : List Int) : DecS := (decBits b (plD0 b) 0 1).2
def plD2 (b : List Int) : DecS := (decBits b (plD1 b) 0 1).2
def plD3 (b : List Int) : DecS := (decBits b (plD2 b) 0 4).2
def plD4 (b : List Int) : DecS := (decBits b (plD3 b) 0 5).2
def plW (b : List Int) : Int := (decBits b (plD0 b) 0 1).1
def plB (b : List Int) : Int := (decBits b (plD1 b) 0 1).1
def plQ (b : List Int) : Int := (decBits b (plD2 b) 0 4).1
def plLo (b : List Int) : Int := (decBits b (plD3 b) 0 5).1
def plWh (b : List Int) : Bool := plW b == 1
/-- Its head is right, and it is whole, or there are ceilings. -/
def plOk0 (b : List Int) (has : Bool) : Bool := !(plW b == 0 && !has || decide (plQ b < 1) || decide (10 < plQ b))
/-- Its ceilings, by those ahead. -/
def plV (b : List Int) (ah : Nat → Int) : Nat → Int := getV (plWh b) b (plD4 b) ah
def plD5 (b : List Int) (ah : Nat → Int) : DecS := getN (plWh b) b (plD4 b) ah 21
def plOk1 (b : List Int) (ah : Nat → Int) : Bool := rightB (tabF 21 (plV b ah))
def plL (b : List Int) (ah : Nat → Int) : Nat → Int := c21 (plV b ah)
def plS (b : List Int) (ah : Nat → Int) : Nat → Int := stepF (plL b ah) (plQ b) (plLo b)
def plOk2 (b : List Int) (ah : Nat → Int) : Prop := ∀ i, i < 512 → okG (plL b ah) (plS b ah) b (plD5 b ah) i = true
def plOut (b : List Int) (ah : Nat → Int) (seed : Int) : Nat → Int := outF (plL b ah) (plS b ah) (getQ (toldT (plL b ah) (plS b ah)) b (plD5 b ah)) seed
/-- It is played. -/
def plOk (b : List Int) (has : Bool) (ah : Nat → Int) : Prop := plOk0 b has = true ∧ plOk1 b ah = true ∧ plOk2 b ah
theorem plL_ok {b : List Int} {ah : Nat → Int} (h : plOk1 b ah = true) : CutOk (plL b ah) := c21_ok fun i hi => by
  have := (rightB_true h).2 i hi
  rw [tabF_getD _ hi] at this
  exact this
theorem plL_tab (b : List Int) (ah : Nat → Int) : tabF 21 (plV b ah) = tabF 21 (plL b ah) := tabF_ext fun i hi => (c21_at _ hi).symm
structure PlG (b : List Int) : Prop where
  g0 : GoodD (plD0 b)
  g1 : GoodD (plD1 b)
  g2 : GoodD (plD2 b)
  g3 : GoodD (plD3 b)
  g4 : GoodD (plD4 b)
  i : (plD0 b).i ≤ 100 ∧ (plD1 b).i ≤ 100 ∧ (plD2 b).i ≤ 100 ∧ (plD3 b).i ≤ 100 ∧ (plD4 b).i ≤ 30
  w : 0 ≤ plW b ∧ plW b ≤ 1
  r : 0 ≤ plB b ∧ plB b ≤ 1
  q : 0 ≤ plQ b ∧ plQ b ≤ 15
  lo : 0 ≤ plLo b ∧ plLo b ≤ 31
theorem plG {b : List Int} (hb : ∀ j, 0 ≤ byteF b j ∧ byteF b j ≤ 255) : PlG b := by
  have g0 : GoodD (plD0 b) := goodD_new fun j hj => hb j
  have i0 : (plD0 b).i = 4 := rfl
  obtain ⟨g1, i1, a1, b1⟩ := decBitsQ_good (k := 1) hb g0 (by decide)
  obtain ⟨g2, i2, a2, b2⟩ := decBitsQ_good (b := b) (D := plD1 b) (k := 1) hb g1 (by decide)
  obtain ⟨g3, i3, a3, b3⟩ := decBitsQ_good (b := b) (D := plD2 b) (k := 4) hb g2 (by decide)
  obtain ⟨g4, i4, a4, b4⟩ := decBitsQ_good (b := b) (D := plD3 b) (k := 5) hb g3 (by decide)
  rw [show P2 1 = 2 by decide] at b1 b2
  rw [show P2 4 = 16 by decide] at b3
  rw [show P2 5 = 32 by decide] at b4
  change (plD1 b).i ≤ _ at i1
  change (plD2 b).i ≤ _ at i2
  change (plD3 b).i ≤ _ at i3
  change (plD4 b).i ≤ _ at i4
  change plW b < _ at b1
  change plB b < _ at b2
  change plQ b < _ at b3
  change plLo b < _ at b4
  exact ⟨g0, g1, g2, g3, g4, ⟨by omega, by omega, by omega, by omega, by omega⟩, ⟨a1, by omega⟩, ⟨a2, by omega⟩, ⟨a3, by omega⟩, a4, by omega⟩
theorem plG5 {b : List Int} (hb : ∀ j, 0 ≤ byteF b j ∧ byteF b j ≤ 255) (ah : Nat → Int) : GoodD (plD5 b ah) ∧ (plD5 b ah).i ≤ 100 := by
  obtain ⟨h1, h2⟩ := getN_good (q := plWh b) (d := ah) hb (plG hb).g4 21
  have := (plG hb).i
  exact ⟨h1, by unfold plD5; omega⟩
theorem plOut_bd {b : List Int} {ah : Nat → Int} (seed : Int) (hb : ∀ j, 0 ≤ byteF b j ∧ byteF b j ≤ 255) (h1 : plOk1 b ah = true) (h2 : plOk2 b ah) {i : Nat} (hi : i < 512) : -2147483648 ≤ plOut b ah seed i ∧ plOut b ah seed i ≤ 2147483647 := by
  have hl := plL_ok h1
  refine outF_bdC seed (fun b _ => (hl.bd b).2) (fun b _ => ((hl.step _ _).bd b).1) (fun i hi ht => ?_) hi
  have k1 := h2 i hi
  unfold okG at k1
  rw [show toldT (plL b ah) (plS b ah) i = true from ht] at k1
  simp only [Bool.not_true, Bool.false_or, decide_eq_true_eq] at k1
  have k2 := getQ_bd (T := toldT (plL b ah) (plS b ah)) hb (plG5 hb ah).1 i
  have k3 := P2_mono k1
  change -(P2 ((plL b ah) (ofN i) - (plS b ah) (ofN i)).toNat) ≤ _ ∧ _ ≤ P2 ((plL b ah) (ofN i) - (plS b ah) (ofN i)).toNat
  omega

/-! ### The document's player, of any bytes -/
theorem getN_alone (b : List Int) (D : DecS) (d d' : Nat → Int) (n : Nat) : getN true b D d n = getN true b D d' n := by
  induction n with
  | zero => rfl
  | succ n ih => rw [getN_succ, getN_succ, ih, getW_alone, getW_alone]
theorem plV_alone {b : List Int} (h : plWh b = true) (d d' : Nat → Int) : plV b d = plV b d' := by
  funext n
  unfold plV getV
  rw [h, getN_alone b _ d d', getW_alone, getW_alone]
theorem plD5_alone {b : List Int} (h : plWh b = true) (d d' : Nat → Int) : plD5 b d = plD5 b d' := by
  unfold plD5
  rw [h, getN_alone b _ d d']
end Go.Proofs.YtobhoecmmpijgaaGreat

/- What a frame's own payload says to a player. -/
namespace Go.Proofs.YtobhoecmmpijgaaGreat
open Go Go.RowKit
set_option linter.unusedVariables false
set_option linter.unusedSimpArgs false

variable {F : Frm} {ah : Nat → Int}
theorem Frm.Ok.pWh (h : F.Ok) : plWh F.bytes = F.wh := by
  have := h.back.w
  change plW F.bytes = _ at this
  unfold plWh
  rw [this]
  cases F.wh <;> rfl
theorem Frm.Ok.pW (h : F.Ok) : plW F.bytes = b2 F.wh := h.back.w
theorem Frm.Ok.pB (h : F.Ok) : plB F.bytes = b2 F.br := h.back.r
theorem Frm.Ok.pBr (h : F.Ok) : (plB F.bytes == 1) = F.br := by rw [h.pB]; cases F.br <;> rfl
theorem Frm.Ok.pQ (h : F.Ok) : plQ F.bytes = F.Q := h.back.q
theorem Frm.Ok.pLo (h : F.Ok) : plLo F.bytes = (F.lo : Int) := h.back.lo
theorem Frm.Ok.pV (h : F.Ok) (ha : F.wh = true ∨ ah = F.ah) : plV F.bytes ah = getV F.wh F.bytes (headD F.bytes) F.ah := by
  have e : plV F.bytes F.ah = getV F.wh F.bytes (headD F.bytes) F.ah := by
    unfold plV
    rw [h.pWh]
    rfl
  rcases ha with ha | rfl
  · rw [← e]
    exact plV_alone (by rw [h.pWh]; exact ha) _ _
  · exact e
theorem Frm.Ok.pD5 (h : F.Ok) (ha : F.wh = true ∨ ah = F.ah) : plD5 F.bytes ah = getN F.wh F.bytes (headD F.bytes) F.ah 21 := by
  have e : plD5 F.bytes F.ah = getN F.wh F.bytes (headD F.bytes) F.ah 21 := by
    unfold plD5
    rw [h.pWh]
    rfl
  rcases ha with ha | rfl
  · rw [← e]
    exact plD5_alone (by rw [h.pWh]; exact ha) _ _
  · exact e
theorem Frm.Ok.pL (h : F.Ok) (ha : F.wh = true ∨ ah = F.ah) : plL F.bytes ah = F.l := by
  funext j
  unfold plL
  rw [h.pV ha]
  by_cases hj : j < 21
  · rw [c21_at _ hj, h.back.l j hj]
  · rw [h.l.out j (by omega)]
    exact if_neg hj
theorem Frm.Ok.pS (h : F.Ok) (ha : F.wh = true ∨ ah = F.ah) : plS F.bytes ah = F.steps := by
  unfold plS
  rw [h.pL ha, h.pQ, h.pLo]
  rfl
theorem Frm.Ok.pOk0 (h : F.Ok) {has : Bool} (ha : F.wh = true ∨ has = true) : plOk0 F.bytes has = true := by
  unfold plOk0
  rw [h.pW, h.pQ]
  have := h.q
  rcases ha with ha | rfl
  · rw [ha]
    simp only [b2, if_true]
    rw [decide_eq_false (by omega), decide_eq_false (by omega)]
    rfl
  · rw [decide_eq_false (by omega), decide_eq_false (by omega)]
    simp
theorem Frm.Ok.pOk1 (h : F.Ok) (ha : F.wh = true ∨ ah = F.ah) : plOk1 F.bytes ah = true := by
  unfold plOk1
  rw [plL_tab, h.pL ha]
  exact h.l.right
theorem Frm.Ok.pOk2 (h : F.Ok) (ha : F.wh = true ∨ ah = F.ah) : plOk2 F.bytes ah := by
  intro i hi
  rw [h.pL ha, h.pS ha, h.pD5 ha]
  exact h.back.k i hi
theorem Frm.Ok.pOk (h : F.Ok) {has : Bool} (h0 : F.wh = true ∨ has = true) (ha : F.wh = true ∨ ah = F.ah) : plOk F.bytes has ah := ⟨h.pOk0 h0, h.pOk1 ha, h.pOk2 ha⟩
theorem Frm.Ok.pOut (h : F.Ok) (ha : F.wh = true ∨ ah = F.ah) (seed : Int) {i : Nat} (hi : i < 512) : plOut F.bytes ah seed i = F.out seed i := by
  unfold plOut
  rw [h.pL ha, h.pS ha, h.pD5 ha]
  exact h.back.o seed i hi
theorem Frm.Ok.pHeld (h : F.Ok) (ha : F.wh = true ∨ ah = F.ah) (seed : Int) {i : Nat} (hi : i < 512) : heldF (plOut F.bytes ah seed) i = F.held seed i := by
  show heldF _ i = heldF _ i
  unfold heldF
  rw [h.pOut ha seed hi]
end Go.Proofs.YtobhoecmmpijgaaGreat

/- New encoders, by the document. -/
namespace Go.Proofs.YtobhoecmmpijgaaGreat
open Go Go.RowKit
set_option linter.unusedVariables false
set_option linter.unusedSimpArgs false

def NewRPost (Q : Int) (B : Nat) (w : World) (e : Ending) (w' : World) : Prop := ∃ g, e = .returned (.pointer (some ⟨g, 0, none⟩)) ∧ RefAt w' g Q B s13Zero ∧ w.heap.size ≤ g ∧ Below w.heap.size w w'
theorem drew_sizeB (w : World) : w.drew.heap.size = w.heap.size := rfl
theorem cel_new_at {X : World} {g : Nat} {t : TypeId} {cs : Array Value} (h : X.heap.size = g) : Cel (X.alloc (.cells cs t)) g t cs := h ▸ Cel.new X t cs
theorem ifun_new_at {X : World} {g n : Nat} {t : TypeId} {k : IntKind} {f : Nat → Int} {mc : Array Value} (h0 : ∀ w : World, IFun (w.alloc (.cells mc t)) w.heap.size t k n f) (h : X.heap.size = g) : IFun (X.alloc (.cells mc t)) g t k n f := h ▸ h0 X
theorem new_end {w W : World} {g C x1 x2 : Nat} {Q : Int} {B : Nat} (h : Cel W g 76 (rfC C (.slice (some ⟨x1, 0, none⟩) 640 640) (.slice (some ⟨x2, 0, none⟩) 128 128) Q B 0 (.slice none 0 0) (.slice none 0 0) 0))
    (hc : IFun W C 2 .i64 1025 cosN) (h1 : IFun W x1 2 .i64 640 (fun _ => 0)) (h2 : IFun W x2 2 .i64 128 (fun _ => 0)) (hs : w.heap.size ≤ g) (hb : Below w.heap.size w W) : NewRPost Q B w (.returned (.pointer (some ⟨g, 0, none⟩))) W :=
  ⟨g, rfl, ⟨C, _, _, _, none, h, hc, ⟨x1, 640, rfl, by decide, by decide, h1.num 512 128 (by decide)⟩, ⟨x2, 0, rfl, h2.num 0 128 (by decide) |> fun n => ⟨n.1, fun j hj => n.2 j hj⟩⟩, .inl ⟨rfl, rfl, rfl⟩, rfl⟩, hs, hb⟩
set_option maxHeartbeats 1000000 in
theorem rNew_any (Q : Int) (B : Nat) (w : World) : Calls Tryz.prog 9 #[.int .i64 Q, .int .i64 (B : Int)] w (NewRPost Q B w) := by
  have m1 : ∀ w : World, (Instr.makeSlice 50 (.int .i64 640) (.int .i64 640)).run Tryz.prog w = .ok (.slice (some ⟨w.heap.size, 0, none⟩) 640 640) (w.alloc (.cells (madeCells #[.int .i64 0] 640) 2)) :=
    fun w => make_zeros (P := Tryz.prog) Tryz.underlying50 infoC_i64 640 (by omega) (by omega) w
  have m2 : ∀ w : World, (Instr.makeSlice 50 (.int .i64 128) (.int .i64 128)).run Tryz.prog w = .ok (.slice (some ⟨w.heap.size, 0, none⟩) 128 128) (w.alloc (.cells (madeCells #[.int .i64 0] 128) 2)) :=
    fun w => make_zeros (P := Tryz.prog) Tryz.underlying50 infoC_i64 128 (by omega) (by omega) w
  have I1 : RowKit.Hid (∀ w : World, IFun (w.alloc (.cells (madeCells #[.int .i64 0] 640) 2)) w.heap.size 2 .i64 640 (fun _ => 0)) := fun w => IFun.zeros w 2 .i64 640
  have I2 : RowKit.Hid (∀ w : World, IFun (w.alloc (.cells (madeCells #[.int .i64 0] 128) 2)) w.heap.size 2 .i64 128 (fun _ => 0)) := fun w => IFun.zeros w 2 .i64 128
  generalize madeCells #[Value.int .i64 0] 640 = mc1 at m1 I1
  generalize madeCells #[Value.int .i64 0] 128 = mc2 at m2 I2
  go_enter Tryz.func9, Tryz.ntmps9
  go_wp2
  go_region_held3 (fun w' => True) (go_keep) (first | (go_at_call 21; go_loud (refine (ref04Quarter_any _).mono ?_); rintro e w1 ⟨rfl, i1, b1⟩; have HI1 := Lib.hid i1; have HB1 := Lib.hid b1; clear i1 b1) | fail)
  · go_wp2
    go_ret
    have hc := HI1.out
    have hB : Below w.heap.size w w1 := chain (Below.drewN' (Below.refl _ w) 1) HB1.out
    have HBB : Below w.heap.size w w1 := hB
    have hsz := HBB.size
    exact new_end (cel_new_at (by first | rfl | simp [alloc_sizeB])) (((hc.alloc _).alloc _).alloc _) (((ifun_new_at I1.out (by first | rfl | simp [alloc_sizeB])).alloc _).alloc _) ((ifun_new_at I2.out (by first | rfl | simp [alloc_sizeB])).alloc _) (by first | omega | (simp only [alloc_sizeB]; omega)) (chain (chain (chain HBB (Below.alloc_new _ _)) (Below.alloc_new _ _)) (Below.alloc_new _ _))
  · go_wp2
    go_ret
    have hc := HI1.out
    have hB : Below w.heap.size w w1 := chain (Below.drewN' (Below.refl _ w) 1) HB1.out
    have HBB : Below w.heap.size w w1 := hB
    have hsz := HBB.size
    exact new_end (cel_new_at (by first | rfl | simp [alloc_sizeB])) (((hc.alloc _).alloc _).alloc _) ((ifun_new_at I1.out (by first | rfl | simp [alloc_sizeB])).alloc _) (((ifun_new_at I2.out (by first | rfl | simp [alloc_sizeB])).alloc _).alloc _) (by first | omega | (simp only [alloc_sizeB]; omega)) (chain (chain (chain HBB (Below.alloc_new _ _)) (Below.alloc_new _ _)) (Below.alloc_new _ _))
  · go_wp2
    go_ret
    have hc := HI1.out
    simp only [drew_sizeB, alloc_sizeB] at hc
    have hB : Below (w.alloc (.cells mc1 2)).heap.size (w.alloc (.cells mc1 2)) w1 := chain (Below.drewN' (Below.refl _ (w.alloc (.cells mc1 2))) 1) HB1.out
    have HBB : Below w.heap.size w w1 := (chain (Below.alloc_new w _) hB)
    have hsz := HBB.size
    have f1 : IFun (w.alloc (.cells mc1 2)) w.heap.size 2 .i64 640 (fun _ => 0) := by have := (I1.out w); exact this
    exact new_end (cel_new_at (by first | rfl | simp [alloc_sizeB])) ((hc.alloc _).alloc _) (((f1.below hB f1.lt).alloc _).alloc _) ((ifun_new_at I2.out (by first | rfl | simp [alloc_sizeB])).alloc _) (by first | omega | (simp only [alloc_sizeB]; omega)) (chain (chain HBB (Below.alloc_new _ _)) (Below.alloc_new _ _))
  · go_wp2
    go_ret
    have hc := HI1.out
    simp only [drew_sizeB, alloc_sizeB] at hc
    have hB : Below ((w.alloc (.cells mc1 2)).alloc (.cells mc2 2)).heap.size ((w.alloc (.cells mc1 2)).alloc (.cells mc2 2)) w1 := chain (Below.drewN' (Below.refl _ ((w.alloc (.cells mc1 2)).alloc (.cells mc2 2))) 1) HB1.out
    have HBB : Below w.heap.size w w1 := (chain (chain (Below.alloc_new w _) (Below.alloc_new _ _)) hB)
    have hsz := HBB.size
    have f1 : IFun ((w.alloc (.cells mc1 2)).alloc (.cells mc2 2)) w.heap.size 2 .i64 640 (fun _ => 0) := by have := (I1.out w); exact this.alloc _
    have f2 : IFun ((w.alloc (.cells mc1 2)).alloc (.cells mc2 2)) (w.heap.size + 1) 2 .i64 128 (fun _ => 0) := by have := (I2.out (w.alloc (.cells mc1 2))); rw [alloc_sizeB] at this; exact this
    exact new_end (cel_new_at (by first | rfl | simp [alloc_sizeB])) (hc.alloc _) ((f1.below hB f1.lt).alloc _) ((f2.below hB f2.lt).alloc _) (by first | omega | (simp only [alloc_sizeB]; omega)) (chain HBB (Below.alloc_new _ _))
  · go_wp2
    go_ret
    have hc := HI1.out
    simp only [drew_sizeB, alloc_sizeB] at hc
    have hB : Below (w.alloc (.cells mc2 2)).heap.size (w.alloc (.cells mc2 2)) w1 := chain (Below.drewN' (Below.refl _ (w.alloc (.cells mc2 2))) 1) HB1.out
    have HBB : Below w.heap.size w w1 := (chain (Below.alloc_new w _) hB)
    have hsz := HBB.size
    have f2 : IFun (w.alloc (.cells mc2 2)) w.heap.size 2 .i64 128 (fun _ => 0) := by have := (I2.out w); exact this
    exact new_end (cel_new_at (by first | rfl | simp [alloc_sizeB])) ((hc.alloc _).alloc _) ((ifun_new_at I1.out (by first | rfl | simp [alloc_sizeB])).alloc _) (((f2.below hB f2.lt).alloc _).alloc _) (by first | omega | (simp only [alloc_sizeB]; omega)) (chain (chain HBB (Below.alloc_new _ _)) (Below.alloc_new _ _))
  · go_wp2
    go_ret
    have hc := HI1.out
    simp only [drew_sizeB, alloc_sizeB] at hc
    have hB : Below ((w.alloc (.cells mc2 2)).alloc (.cells mc1 2)).heap.size ((w.alloc (.cells mc2 2)).alloc (.cells mc1 2)) w1 := chain (Below.drewN' (Below.refl _ ((w.alloc (.cells mc2 2)).alloc (.cells mc1 2))) 1) HB1.out
    have HBB : Below w.heap.size w w1 := (chain (chain (Below.alloc_new w _) (Below.alloc_new _ _)) hB)
    have hsz := HBB.size
    have f2 : IFun ((w.alloc (.cells mc2 2)).alloc (.cells mc1 2)) w.heap.size 2 .i64 128 (fun _ => 0) := by have := (I2.out w); exact this.alloc _
    have f1 : IFun ((w.alloc (.cells mc2 2)).alloc (.cells mc1 2)) (w.heap.size + 1) 2 .i64 640 (fun _ => 0) := by have := (I1.out (w.alloc (.cells mc2 2))); rw [alloc_sizeB] at this; exact this
    exact new_end (cel_new_at (by first | rfl | simp [alloc_sizeB])) (hc.alloc _) ((f1.below hB f1.lt).alloc _) ((f2.below hB f2.lt).alloc _) (by first | omega | (simp only [alloc_sizeB]; omega)) (chain HBB (Below.alloc_new _ _))
end Go.Proofs.YtobhoecmmpijgaaGreat

/- A player by the document: a new one, and its fade. -/
namespace Go.Proofs.YtobhoecmmpijgaaGreat
open Go Go.RowKit
set_option linter.unusedVariables false
set_option linter.unusedSimpArgs false

def halfF (l : Nat → Int) (j : Nat) : Int := Int.tdiv (l j) 2
theorem halfF_bd {l : Nat → Int} {j : Nat} (h : -33554432 ≤ l j ∧ l j ≤ 33554431) : -33554432 ≤ halfF l j ∧ halfF l j ≤ 33554431 := by
  have h1 := Int.natAbs_tdiv (l j) 2
  have h2 : Int.natAbs 2 = 2 := rfl
  have h3 : halfF l j = (l j).tdiv 2 := rfl
  rw [h2, ← h3] at h1
  have h4 : (l j).natAbs / 2 ≤ (l j).natAbs := Nat.div_le_self _ _
  change _ = (l j).natAbs / 2 at h1
  omega
theorem tdiv2_bd {x : Int} (h : -33554432 ≤ x ∧ x ≤ 33554431) : -33554432 ≤ x.tdiv 2 ∧ x.tdiv 2 ≤ 33554431 := halfF_bd (l := fun _ => x) (j := 0) h
end Go.Proofs.YtobhoecmmpijgaaGreat
