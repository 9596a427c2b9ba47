/- Plain facts, and what functions give, for the proofs of this seat: several texts in one, each with its own first remark. -/
import Derived.Test.YtobhoecmmpijgaaGreatGI

/- What a payload of any bytes says, and what comes of it; Play of the document, of any bytes. -/
namespace Go.Proofs.YtobhoecmmpijgaaGreat
open Go Go.RowKit
set_option linter.unusedVariables false
set_option linter.unusedSimpArgs false

/-! ### In numbers -/
def plD0 (b : List Int) : DecS := decNew (byteF b)
def plD1 (b : List Int) : DecS := (decBits b (plD0 b) 0 1).2
def plD2 (b : List Int) : DecS := (decBits b (plD1 b) 0 1).2
def plD3 (b : List Int) : DecS := (decBits b (plD2 b) 0 4).2
def plD4 (b : List Int) : DecS := (decBits b (plD3 b) 0 5).2
def plW (b : List Int) : Int := (decBits b (plD0 b) 0 1).1
def plB (b : List Int) : Int := (decBits b (plD1 b) 0 1).1
def plQ (b : List Int) : Int := (decBits b (plD2 b) 0 4).1
def plLo (b : List Int) : Int := (decBits b (plD3 b) 0 5).1
def plWh (b : List Int) : Bool := plW b == 1
/-- Its head is right, and it is whole, or there are ceilings. -/
def plOk0 (b : List Int) (has : Bool) : Bool := !(plW b == 0 && !has || decide (plQ b < 1) || decide (10 < plQ b))
/-- Its ceilings, by those ahead. -/
def plV (b : List Int) (ah : Nat → Int) : Nat → Int := getV (plWh b) b (plD4 b) ah
def plD5 (b : List Int) (ah : Nat → Int) : DecS := getN (plWh b) b (plD4 b) ah 21
def plOk1 (b : List Int) (ah : Nat → Int) : Bool := rightB (tabF 21 (plV b ah))
def plL (b : List Int) (ah : Nat → Int) : Nat → Int := c21 (plV b ah)
def plS (b : List Int) (ah : Nat → Int) : Nat → Int := stepF (plL b ah) (plQ b) (plLo b)
def plOk2 (b : List Int) (ah : Nat → Int) : Prop := ∀ i, i < 512 → okG (plL b ah) (plS b ah) b (plD5 b ah) i = true
def plOut (b : List Int) (ah : Nat → Int) (seed : Int) : Nat → Int := outF (plL b ah) (plS b ah) (getQ (toldT (plL b ah) (plS b ah)) b (plD5 b ah)) seed
/-- It is played. -/
def plOk (b : List Int) (has : Bool) (ah : Nat → Int) : Prop := plOk0 b has = true ∧ plOk1 b ah = true ∧ plOk2 b ah
theorem plL_ok {b : List Int} {ah : Nat → Int} (h : plOk1 b ah = true) : CutOk (plL b ah) := c21_ok fun i hi => by
  have := (rightB_true h).2 i hi
  rw [tabF_getD _ hi] at this
  exact this
theorem plL_tab (b : List Int) (ah : Nat → Int) : tabF 21 (plV b ah) = tabF 21 (plL b ah) := tabF_ext fun i hi => (c21_at _ hi).symm
structure PlG (b : List Int) : Prop where
  g0 : GoodD (plD0 b)
  g1 : GoodD (plD1 b)
  g2 : GoodD (plD2 b)
  g3 : GoodD (plD3 b)
  g4 : GoodD (plD4 b)
  i : (plD0 b).i ≤ 100 ∧ (plD1 b).i ≤ 100 ∧ (plD2 b).i ≤ 100 ∧ (plD3 b).i ≤ 100 ∧ (plD4 b).i ≤ 30
  w : 0 ≤ plW b ∧ plW b ≤ 1
  r : 0 ≤ plB b ∧ plB b ≤ 1
  q : 0 ≤ plQ b ∧ plQ b ≤ 15
  lo : 0 ≤ plLo b ∧ plLo b ≤ 31
theorem plG {b : List Int} (hb : ∀ j, 0 ≤ byteF b j ∧ byteF b j ≤ 255) : PlG b := by
  have g0 : GoodD (plD0 b) := goodD_new fun j hj => hb j
  have i0 : (plD0 b).i = 4 := rfl
  obtain ⟨g1, i1, a1, b1⟩ := decBitsQ_good (k := 1) hb g0 (by decide)
  obtain ⟨g2, i2, a2, b2⟩ := decBitsQ_good (b := b) (D := plD1 b) (k := 1) hb g1 (by decide)
  obtain ⟨g3, i3, a3, b3⟩ := decBitsQ_good (b := b) (D := plD2 b) (k := 4) hb g2 (by decide)
  obtain ⟨g4, i4, a4, b4⟩ := decBitsQ_good (b := b) (D := plD3 b) (k := 5) hb g3 (by decide)
  rw [show P2 1 = 2 by decide] at b1 b2
  rw [show P2 4 = 16 by decide] at b3
  rw [show P2 5 = 32 by decide] at b4
  change (plD1 b).i ≤ _ at i1
  change (plD2 b).i ≤ _ at i2
  change (plD3 b).i ≤ _ at i3
  change (plD4 b).i ≤ _ at i4
  change plW b < _ at b1
  change plB b < _ at b2
  change plQ b < _ at b3
  change plLo b < _ at b4
  exact ⟨g0, g1, g2, g3, g4, ⟨by omega, by omega, by omega, by omega, by omega⟩, ⟨a1, by omega⟩, ⟨a2, by omega⟩, ⟨a3, by omega⟩, a4, by omega⟩
theorem plG5 {b : List Int} (hb : ∀ j, 0 ≤ byteF b j ∧ byteF b j ≤ 255) (ah : Nat → Int) : GoodD (plD5 b ah) ∧ (plD5 b ah).i ≤ 100 := by
  obtain ⟨h1, h2⟩ := getN_good (q := plWh b) (d := ah) hb (plG hb).g4 21
  have := (plG hb).i
  exact ⟨h1, by unfold plD5; omega⟩
theorem plOut_bd {b : List Int} {ah : Nat → Int} (seed : Int) (hb : ∀ j, 0 ≤ byteF b j ∧ byteF b j ≤ 255) (h1 : plOk1 b ah = true) (h2 : plOk2 b ah) {i : Nat} (hi : i < 512) : -2147483648 ≤ plOut b ah seed i ∧ plOut b ah seed i ≤ 2147483647 := by
  have hl := plL_ok h1
  refine outF_bdC seed (fun b _ => (hl.bd b).2) (fun b _ => ((hl.step _ _).bd b).1) (fun i hi ht => ?_) hi
  have k1 := h2 i hi
  unfold okG at k1
  rw [show toldT (plL b ah) (plS b ah) i = true from ht] at k1
  simp only [Bool.not_true, Bool.false_or, decide_eq_true_eq] at k1
  have k2 := getQ_bd (T := toldT (plL b ah) (plS b ah)) hb (plG5 hb ah).1 i
  have k3 := P2_mono k1
  change -(P2 ((plL b ah) (ofN i) - (plS b ah) (ofN i)).toNat) ≤ _ ∧ _ ≤ P2 ((plL b ah) (ofN i) - (plS b ah) (ofN i)).toNat
  omega

/-! ### The document's player, of any bytes -/
theorem rGetA_any (base gd : Nat) (v : Value) (b : List Int) (a : Option Addr) (alen acap : Nat) (ds : List Int) (w : World) (hD : DecMem w base gd v b (plD4 b)) (hb : ∀ j, 0 ≤ byteF b j ∧ byteF b j ≤ 255) (hbl : b.length ≤ 100000) (hA : AheadAt w (plWh b) a alen ds) :
    Calls Tryz.prog 63 #[.pointer (some ⟨gd, 0, none⟩), .slice a alen acap] w fun e w' => ∃ a2 c, e = .returned (.tuple #[.slice a2 21 c, .bool (plOk1 b fun j => ds.getD j 0)]) ∧ IntsAt w' w'.heap.size .i64 a2 21 (tabF 21 (plL b fun j => ds.getD j 0)) ∧ DecMem w' base gd v b (plD5 b fun j => ds.getD j 0) ∧ Keeps (fun j => j = gd) w w' := by
  refine (ref10Get_any base gd v b (plD4 b) (plWh b) a alen acap ds w hD (plG hb).g4 hb (by omega) (by have := (plG hb).i; omega) hA (fun hw r off e => ?_)).mono ?_
  · obtain ⟨h1, _, h3⟩ := hA
    rcases h3 with ⟨h3, _⟩ | ⟨_, _, h3⟩
    · rw [hw] at h3; cases h3
    · subst h3
      exact ints_long h1 hD.1 (by show 4 < 21; decide) e
  · rintro e w' ⟨a2, c, rfl, h1, h2, h3⟩
    exact ⟨a2, c, rfl, by rw [← plL_tab]; exact h1, h2, h3⟩
theorem getN_alone (b : List Int) (D : DecS) (d d' : Nat → Int) (n : Nat) : getN true b D d n = getN true b D d' n := by
  induction n with
  | zero => rfl
  | succ n ih => rw [getN_succ, getN_succ, ih, getW_alone, getW_alone]
theorem plV_alone {b : List Int} (h : plWh b = true) (d d' : Nat → Int) : plV b d = plV b d' := by
  funext n
  unfold plV getV
  rw [h, getN_alone b _ d d', getW_alone, getW_alone]
theorem plD5_alone {b : List Int} (h : plWh b = true) (d d' : Nat → Int) : plD5 b d = plD5 b d' := by
  unfold plD5
  rw [h, getN_alone b _ d d']
def GetA (b : List Int) (w : World) (a : Option Addr) (alen : Nat) (ds : List Int) : Prop :=
  (plWh b = true ∧ alen = 0) ∨ (plWh b = false ∧ alen = 21 ∧ IntsAt w w.heap.size .i64 a 21 ds ∧ rightB ds = true)
theorem rGetB_any (base gd : Nat) (v : Value) (b : List Int) (a : Option Addr) (alen acap : Nat) (ds : List Int) (w : World) (hD : DecMem w base gd v b (plD4 b)) (hb : ∀ j, 0 ≤ byteF b j ∧ byteF b j ≤ 255) (hbl : b.length ≤ 100000) (hA : GetA b w a alen ds) :
    Calls Tryz.prog 63 #[.pointer (some ⟨gd, 0, none⟩), .slice a alen acap] w fun e w' => ∃ a2 c, e = .returned (.tuple #[.slice a2 21 c, .bool (plOk1 b fun j => ds.getD j 0)]) ∧ IntsAt w' w'.heap.size .i64 a2 21 (tabF 21 (plL b fun j => ds.getD j 0)) ∧ DecMem w' base gd v b (plD5 b fun j => ds.getD j 0) ∧ Keeps (fun j => j = gd) w w' := by
  rcases hA with ⟨h1, rfl⟩ | ⟨h1, rfl, h2, h3⟩
  · have := rGetA_any base gd v b a 0 acap [] w hD hb hbl ⟨⟨rfl, .inl rfl⟩, by decide, .inl ⟨h1, rfl⟩⟩
    unfold plOk1 plL at this ⊢
    rw [plV_alone h1 (fun j => ([] : List Int).getD j 0) (fun j => ds.getD j 0), plD5_alone h1 (fun j => ([] : List Int).getD j 0) (fun j => ds.getD j 0)] at this
    exact this
  · exact rGetA_any base gd v b a 21 acap ds w hD hb hbl ⟨h2, by decide, .inr ⟨h1, h3, rfl⟩⟩
theorem rLinesA_any (base gd : Nat) (v : Value) (b : List Int) (ah : Nat → Int) (a a2 : Option Addr) (cap cap2 : Nat) (seed : Int) (w : World) (h1 : plOk1 b ah = true) (hD : DecMem w base gd v b (plD5 b ah)) (hb : ∀ j, 0 ≤ byteF b j ∧ byteF b j ≤ 255) (hbl : b.length ≤ 100000)
    (h : IntsAt w w.heap.size .i64 a 21 (tabF 21 (plL b ah))) (h2 : IntsAt w w.heap.size .i64 a2 21 (tabF 21 (plS b ah))) (s0 : 0 ≤ seed) (s1 : seed ≤ 4294967295) :
    Calls Tryz.prog 64 #[.pointer (some ⟨gd, 0, none⟩), .slice a 21 cap, .slice a2 21 cap2, .int .u32 seed] w fun e w' => Keeps (fun j => j = gd) w w' ∧
      ((plOk2 b ah ∧ ∃ x off cp, e = .returned (.tuple #[.slice (some ⟨x, off, none⟩) 512 cp, .bool true]) ∧ x < w'.heap.size ∧ (∀ j, j < 512 → w'.cell? ⟨x, off + j, none⟩ = some (.int .i64 (plOut b ah seed j)))) ∨ (¬ plOk2 b ah ∧ e = .returned (.tuple #[.slice none 0 0, .bool false]))) := by
  have hl := plL_ok h1
  have g5 := plG5 hb ah
  have := refGetLines_any base gd v b (plD5 b ah) a a2 cap cap2 (tabF 21 (plL b ah)) (tabF 21 (plS b ah)) seed w hD g5.1 hb (by omega) (by omega) h h2 (hl.may (plQ b) (plLo b)) s0 s1 (fun r off e => ints_long h hD.1 (by show 4 < 21; decide) e) (fun r off e => ints_long h2 hD.1 (by show 4 < 21; decide) e)
  rw [hl.tab, show (fun j => (tabF 21 (plS b ah)).getD j 0) = plS b ah from (hl.step (plQ b) (plLo b)).tab] at this
  refine this.mono ?_
  rintro e w' ⟨k, ⟨ok, a', cp, rfl, i'⟩ | ⟨⟨i, hi1, hi2⟩, he⟩⟩
  · refine ⟨k, .inl ⟨ok, ?_⟩⟩
    obtain ⟨x, off, rfl, hx, _, _⟩ := i'.at_ (j := 0) (by decide)
    refine ⟨x, off, cp, rfl, hx, fun j hj => ?_⟩
    obtain ⟨x', off', e, hx, _, hc⟩ := i'.at_ hj
    injection e with e; injection e with e1 e2
    subst e1; subst e2
    rw [hc, tabF_getD _ hj]
    rfl
  · exact ⟨k, .inr ⟨fun ok => (by have := ok i hi1; rw [this] at hi2; cases hi2), he⟩⟩
/-- A player's state behind a payload that is played. -/
def PlayAPost (b : List Int) (has : Bool) (ah : Nat → Int) (n : Int) (C p gd x xo : Nat) (av vt : Value) (br0 : Bool) (left : Nat → Int) (w : World) (e : Ending) (w' : World) : Prop :=
  (plOk b has ah ∧ ∃ b1 cap x1 off a2 c2 y p8, e = .returned (.tuple #[.slice (some ⟨b1, 0, none⟩) 512 cap, .bool true]) ∧ NumAt w' b1 0 512 2 .i64 (samplesF (plB b == 1) (heldF (plOut b ah n)) left) ∧
    Cel w' p 74 (plC C (.slice (some ⟨x1, off, none⟩) 128 128) (.slice a2 21 c2) true (.slice (some ⟨y, 0, none⟩) 512 p8) (plB b == 1)) ∧ IntsAt w' w'.heap.size .i64 a2 21 (tabF 21 (plL b ah)) ∧ NumAt w' y 0 512 2 .i64 (heldF (plOut b ah n)) ∧ NumAt w' x1 off 128 2 .i64 (leftF (plB b == 1) (heldF (plOut b ah n))) ∧ Keeps (fun j => j = p ∨ j = gd) w w') ∨
  (¬ plOk b has ah ∧ e = .returned (.tuple #[.slice none 0 0, .bool false]) ∧ Cel w' p 74 (plC C (.slice (some ⟨x, xo, none⟩) 128 128) av has vt br0) ∧ Keeps (fun j => j = gd) w w')
theorem rBitsA (base g : Nat) (v : Value) (b : List Int) (D : DecS) (wide : Nat) (w : World) (hD : DecMem w base g v b D) (hb : ∀ j, 0 ≤ byteF b j ∧ byteF b j ≤ 255) (hbl : b.length ≤ 100000) (hi : D.i ≤ 100) (hG : GoodD D) (hw : wide ≤ 24) :
    Calls Tryz.prog 38 #[.pointer (some ⟨g, 0, none⟩), .int .i64 wide] w (DecBitsPost base g v b (decBits b D 0 wide).1 (decBits b D 0 wide).2 w) :=
  refDecBits_any base g v b D wide w hD hb (by omega) (by omega) hG hw
set_option maxHeartbeats 4000000 in
set_option maxRecDepth 100000 in
theorem rPlayA_any (b : List Int) (has br0 : Bool) (n : Int) (C p base gd x xo : Nat) (v vt : Value) (a : Option Addr) (alen acap : Nat) (ds : List Int) (left : Nat → Int) (w : World) (hb : ∀ j, 0 ≤ byteF b j ∧ byteF b j ≤ 255) (hbl : b.length ≤ 100000) (hC : IFun w C 2 .i64 1025 cosN)
    (hP : Cel w p 74 (plC C (.slice (some ⟨x, xo, none⟩) 128 128) (.slice a alen acap) has vt br0)) (hx : NumAt w x xo 128 2 .i64 left) (hlb : ∀ j, j < 128 → (left j).natAbs ≤ 1073741000)
    (hA : has = true → IntsAt w w.heap.size .i64 a 21 ds ∧ alen = 21 ∧ rightB ds = true) (hD : DecMem w base gd v b (plD0 b)) (n0 : 0 ≤ n) (n1 : n ≤ 4294967295) :
    Calls Tryz.prog 34 #[.pointer (some ⟨p, 0, none⟩), .pointer (some ⟨gd, 0, none⟩), .int .u32 n] w (PlayAPost b has (fun j => ds.getD j 0) n C p gd x xo (.slice a alen acap) vt br0 left w) := by
  have G := plG hb
  have HG := Lib.hid G
  have HBd := Lib.hid hb
  have HC := Lib.hid hC
  have HP := Lib.hid hP
  have HX := Lib.hid hx
  have HLB := Lib.hid hlb
  have HA := Lib.hid hA
  have HD0 := Lib.hid hD
  have HN := Lib.hid (And.intro n0 n1)
  have hpg := Lib.hid (hP.ne hD.1 (by decide))
  obtain ⟨W, hW⟩ : ∃ W, W = plW b := ⟨_, rfl⟩
  obtain ⟨Q, hQ⟩ : ∃ Q, Q = plQ b := ⟨_, rfl⟩
  obtain ⟨bb, hbb⟩ : ∃ bb, bb = plB b := ⟨_, rfl⟩
  obtain ⟨Lo, hLo⟩ : ∃ Lo, Lo = plLo b := ⟨_, rfl⟩
  have HWe : RowKit.Hid ((decBits b (plD0 b) 0 1).1 = W) := hW.symm
  have HBe : RowKit.Hid ((decBits b (plD1 b) 0 1).1 = bb) := hbb.symm
  have HQe : RowKit.Hid ((decBits b (plD2 b) 0 4).1 = Q) := hQ.symm
  have HLe : RowKit.Hid ((decBits b (plD3 b) 0 5).1 = Lo) := hLo.symm
  have hWw : W = 0 ∨ W = 1 := by have := G.w; omega
  have HQb : RowKit.Hid (plQ b = Q) := hQ.symm
  have HLob : RowKit.Hid (plLo b = Lo) := hLo.symm
  have lob := Lib.hid G.lo
  have HWh : RowKit.Hid (plWh b = (W == 1)) := by show _ = _; unfold plWh; rw [hW]
  have HO0 : RowKit.Hid (plOk0 b has = !(W == 0 && !has || decide (Q < 1) || decide (10 < Q))) := by show _ = _; unfold plOk0; rw [hW, hQ]
  have HBb : RowKit.Hid (plB b = bb) := hbb.symm
  clear hb hC hP hx hlb hA hD n0 n1 G hW hQ hbb hLo
  by_cases hr : W = 0 ∧ has = false ∨ Q < 1 ∨ 10 < Q
  · have HNO : RowKit.Hid (¬ plOk0 b has = true) := by
      show ¬ _
      rw [HO0.out]
      rcases hr with ⟨rfl, rfl⟩ | h | h
      · simp
      · simp [h]
      · simp [h]
    by_cases hq1 : Q < 1
    · clear hr
      rcases hWw with rfl | rfl
      all_goals cases has
      all_goals
        go_enter Tryz.func34, Tryz.ntmps34
        go_wp2_with (first
          | (go_at_call 38; go_loud (refine (rBitsA base gd v b (plD3 b) 5 _ HD3.out HBd.out hbl HG.out.i.2.2.2.1 HG.out.g3 (by decide)).mono ?_); rintro e w4 ⟨rfl, d4, k4⟩; have HD4 : RowKit.Hid (DecMem w4 base gd v b (plD4 b)) := d4; have HK4 : RowKit.Hid (Keeps (fun j => j = gd) w w4) := HK3.out.trans k4; clear d4 k4; rw [HLe.out]; have HP4 := Lib.hid (HP.out.keeps HK4.out hpg.out); obtain ⟨c0, c1, c2, c3, c4, c5⟩ := plC_at HP4.out)
          | (go_at_call 38; go_loud (refine (rBitsA base gd v b (plD2 b) 4 _ HD2.out HBd.out hbl HG.out.i.2.2.1 HG.out.g2 (by decide)).mono ?_); rintro e w3 ⟨rfl, d3, k3⟩; have HD3 : RowKit.Hid (DecMem w3 base gd v b (plD3 b)) := d3; have HK3 : RowKit.Hid (Keeps (fun j => j = gd) w w3) := HK2.out.trans k3; clear d3 k3; rw [HQe.out])
          | (go_at_call 38; go_loud (refine (rBitsA base gd v b (plD1 b) 1 _ HD1.out HBd.out hbl HG.out.i.2.1 HG.out.g1 (by decide)).mono ?_); rintro e w2 ⟨rfl, d2, k2⟩; have HD2 : RowKit.Hid (DecMem w2 base gd v b (plD2 b)) := d2; have HK2 : RowKit.Hid (Keeps (fun j => j = gd) w w2) := HK1.out.trans k2; clear d2 k2; rw [HBe.out])
          | (go_at_call 38; go_loud (refine (rBitsA base gd v b (plD0 b) 1 _ HD0.out HBd.out hbl HG.out.i.1 HG.out.g0 (by decide)).mono ?_); rintro e w1 ⟨rfl, d1, k1⟩; have HD1 : RowKit.Hid (DecMem w1 base gd v b (plD1 b)) := d1; have HK1 : RowKit.Hid (Keeps (fun j => j = gd) w w1) := k1; clear d1 k1; rw [HWe.out]))
        go_ret2
        exact .inr ⟨fun h => HNO.out h.1, rfl, HP4.out, HK4.out⟩
    · by_cases hq2 : 10 < Q
      · clear hr
        rcases hWw with rfl | rfl
        all_goals cases has
        all_goals
          go_enter Tryz.func34, Tryz.ntmps34
          go_wp2_with (first
            | (go_at_call 38; go_loud (refine (rBitsA base gd v b (plD3 b) 5 _ HD3.out HBd.out hbl HG.out.i.2.2.2.1 HG.out.g3 (by decide)).mono ?_); rintro e w4 ⟨rfl, d4, k4⟩; have HD4 : RowKit.Hid (DecMem w4 base gd v b (plD4 b)) := d4; have HK4 : RowKit.Hid (Keeps (fun j => j = gd) w w4) := HK3.out.trans k4; clear d4 k4; rw [HLe.out]; have HP4 := Lib.hid (HP.out.keeps HK4.out hpg.out); obtain ⟨c0, c1, c2, c3, c4, c5⟩ := plC_at HP4.out)
            | (go_at_call 38; go_loud (refine (rBitsA base gd v b (plD2 b) 4 _ HD2.out HBd.out hbl HG.out.i.2.2.1 HG.out.g2 (by decide)).mono ?_); rintro e w3 ⟨rfl, d3, k3⟩; have HD3 : RowKit.Hid (DecMem w3 base gd v b (plD3 b)) := d3; have HK3 : RowKit.Hid (Keeps (fun j => j = gd) w w3) := HK2.out.trans k3; clear d3 k3; rw [HQe.out])
            | (go_at_call 38; go_loud (refine (rBitsA base gd v b (plD1 b) 1 _ HD1.out HBd.out hbl HG.out.i.2.1 HG.out.g1 (by decide)).mono ?_); rintro e w2 ⟨rfl, d2, k2⟩; have HD2 : RowKit.Hid (DecMem w2 base gd v b (plD2 b)) := d2; have HK2 : RowKit.Hid (Keeps (fun j => j = gd) w w2) := HK1.out.trans k2; clear d2 k2; rw [HBe.out])
            | (go_at_call 38; go_loud (refine (rBitsA base gd v b (plD0 b) 1 _ HD0.out HBd.out hbl HG.out.i.1 HG.out.g0 (by decide)).mono ?_); rintro e w1 ⟨rfl, d1, k1⟩; have HD1 : RowKit.Hid (DecMem w1 base gd v b (plD1 b)) := d1; have HK1 : RowKit.Hid (Keeps (fun j => j = gd) w w1) := k1; clear d1 k1; rw [HWe.out]))
          go_ret2
          exact .inr ⟨fun h => HNO.out h.1, rfl, HP4.out, HK4.out⟩
      · obtain ⟨rfl, rfl⟩ : W = 0 ∧ has = false := by
          rcases hr with h | h | h
          · exact h
          · exact absurd h hq1
          · exact absurd h hq2
        clear hr
        go_enter Tryz.func34, Tryz.ntmps34
        go_wp2_with (first
          | (go_at_call 38; go_loud (refine (rBitsA base gd v b (plD3 b) 5 _ HD3.out HBd.out hbl HG.out.i.2.2.2.1 HG.out.g3 (by decide)).mono ?_); rintro e w4 ⟨rfl, d4, k4⟩; have HD4 : RowKit.Hid (DecMem w4 base gd v b (plD4 b)) := d4; have HK4 : RowKit.Hid (Keeps (fun j => j = gd) w w4) := HK3.out.trans k4; clear d4 k4; rw [HLe.out]; have HP4 := Lib.hid (HP.out.keeps HK4.out hpg.out); obtain ⟨c0, c1, c2, c3, c4, c5⟩ := plC_at HP4.out)
          | (go_at_call 38; go_loud (refine (rBitsA base gd v b (plD2 b) 4 _ HD2.out HBd.out hbl HG.out.i.2.2.1 HG.out.g2 (by decide)).mono ?_); rintro e w3 ⟨rfl, d3, k3⟩; have HD3 : RowKit.Hid (DecMem w3 base gd v b (plD3 b)) := d3; have HK3 : RowKit.Hid (Keeps (fun j => j = gd) w w3) := HK2.out.trans k3; clear d3 k3; rw [HQe.out])
          | (go_at_call 38; go_loud (refine (rBitsA base gd v b (plD1 b) 1 _ HD1.out HBd.out hbl HG.out.i.2.1 HG.out.g1 (by decide)).mono ?_); rintro e w2 ⟨rfl, d2, k2⟩; have HD2 : RowKit.Hid (DecMem w2 base gd v b (plD2 b)) := d2; have HK2 : RowKit.Hid (Keeps (fun j => j = gd) w w2) := HK1.out.trans k2; clear d2 k2; rw [HBe.out])
          | (go_at_call 38; go_loud (refine (rBitsA base gd v b (plD0 b) 1 _ HD0.out HBd.out hbl HG.out.i.1 HG.out.g0 (by decide)).mono ?_); rintro e w1 ⟨rfl, d1, k1⟩; have HD1 : RowKit.Hid (DecMem w1 base gd v b (plD1 b)) := d1; have HK1 : RowKit.Hid (Keeps (fun j => j = gd) w w1) := k1; clear d1 k1; rw [HWe.out]))
        go_ret2
        exact .inr ⟨fun h => HNO.out h.1, rfl, HP4.out, HK4.out⟩
  · have q1 : ¬ Q < 1 := by omega
    have q2 : ¬ 10 < Q := by omega
    have HYO : RowKit.Hid (plOk0 b has = true) := by
      show _ = _
      rw [HO0.out]
      rcases hWw with rfl | rfl
      · cases has
        · exact absurd (.inl ⟨rfl, rfl⟩) hr
        · simp [q1, q2]
      · simp [q1, q2]
    have hc : (W = 0 ∧ has = true) ∨ (W = 1 ∧ has = true) ∨ (W = 1 ∧ has = false) := by
      rcases hWw with rfl | rfl
      · cases has
        · exact absurd (.inl ⟨rfl, rfl⟩) hr
        · exact .inl ⟨rfl, rfl⟩
      · cases has
        · exact .inr (.inr ⟨rfl, rfl⟩)
        · exact .inr (.inl ⟨rfl, rfl⟩)
    have HLF : RowKit.Hid (plOk1 b (fun j => ds.getD j 0) = true → CutOk (plL b fun j => ds.getD j 0)) := fun h => plL_ok h
    rcases hc with ⟨rfl, rfl⟩ | ⟨rfl, rfl⟩ | ⟨rfl, rfl⟩
    · have HAx : RowKit.Hid (∀ w' : World, Keeps (fun j => j = gd) w w' → GetA b w' a alen ds) := fun w' k => by
        obtain ⟨h1, h2, h3⟩ := HA.out rfl
        exact .inr ⟨by rw [HWh.out]; rfl, h2, (h1.keeps k (Nat.le_refl _) fun r off e _ _ => ints_long h1 HD0.out.1 (by show 4 < 21; decide) e).grow k.size, h3⟩
      obtain ⟨-, rfl, -⟩ := HA.out rfl
      clear hr
      cases hk1 : plOk1 b fun j => ds.getD j 0
      · have HK1b := Lib.hid hk1; clear hk1
        go_enter Tryz.func34, Tryz.ntmps34
        go_wp2_with (first
          | (go_at_call 63; go_loud (refine (rGetB_any base gd v b _ _ _ ds w4 HD4.out HBd.out hbl (HAx.out w4 HK4.out)).mono ?_); rintro e w5 ⟨a5, c5', rfl, i5, d5, k5⟩; rw [HK1b.out]; have HI5 := Lib.hid i5; have HD5 := Lib.hid d5; have HK5 : RowKit.Hid (Keeps (fun j => j = gd) w w5) := HK4.out.trans k5; clear i5 d5 k5)
          | (go_at_call 38; go_loud (refine (rBitsA base gd v b (plD3 b) 5 _ HD3.out HBd.out hbl HG.out.i.2.2.2.1 HG.out.g3 (by decide)).mono ?_); rintro e w4 ⟨rfl, d4, k4⟩; have HD4 : RowKit.Hid (DecMem w4 base gd v b (plD4 b)) := d4; have HK4 : RowKit.Hid (Keeps (fun j => j = gd) w w4) := HK3.out.trans k4; clear d4 k4; rw [HLe.out]; have HP4 := Lib.hid (HP.out.keeps HK4.out hpg.out); obtain ⟨c0, c1, c2, c3, c4, c5⟩ := plC_at HP4.out)
          | (go_at_call 38; go_loud (refine (rBitsA base gd v b (plD2 b) 4 _ HD2.out HBd.out hbl HG.out.i.2.2.1 HG.out.g2 (by decide)).mono ?_); rintro e w3 ⟨rfl, d3, k3⟩; have HD3 : RowKit.Hid (DecMem w3 base gd v b (plD3 b)) := d3; have HK3 : RowKit.Hid (Keeps (fun j => j = gd) w w3) := HK2.out.trans k3; clear d3 k3; rw [HQe.out])
          | (go_at_call 38; go_loud (refine (rBitsA base gd v b (plD1 b) 1 _ HD1.out HBd.out hbl HG.out.i.2.1 HG.out.g1 (by decide)).mono ?_); rintro e w2 ⟨rfl, d2, k2⟩; have HD2 : RowKit.Hid (DecMem w2 base gd v b (plD2 b)) := d2; have HK2 : RowKit.Hid (Keeps (fun j => j = gd) w w2) := HK1.out.trans k2; clear d2 k2; rw [HBe.out])
          | (go_at_call 38; go_loud (refine (rBitsA base gd v b (plD0 b) 1 _ HD0.out HBd.out hbl HG.out.i.1 HG.out.g0 (by decide)).mono ?_); rintro e w1 ⟨rfl, d1, k1⟩; have HD1 : RowKit.Hid (DecMem w1 base gd v b (plD1 b)) := d1; have HK1 : RowKit.Hid (Keeps (fun j => j = gd) w w1) := k1; clear d1 k1; rw [HWe.out]))
        go_ret2
        exact .inr ⟨fun h => (by have := h.2.1; rw [HK1b.out] at this; cases this), rfl, HP.out.keeps HK5.out hpg.out, HK5.out⟩
      · have HK1b := Lib.hid hk1; clear hk1
        have HLk := Lib.hid (HLF.out HK1b.out)
        by_cases hk2 : plOk2 b fun j => ds.getD j 0
        · have HK2b := Lib.hid hk2; clear hk2
          go_enter Tryz.func34, Tryz.ntmps34
          go_wp2_with (first
            | (go_at_call 66; have KW : RowKit.Hid (Keeps (· = p) w8 ((((w8.setCell ⟨p, 4, none⟩ (.slice (some ⟨y8, 0, none⟩) 512 p8)).setCell ⟨p, 5, none⟩ (.bool (bb == 1))).setCell ⟨p, 2, none⟩ (.slice a5 21 c5')).setCell ⟨p, 3, none⟩ (.bool true))) := ((((Keeps.set1 _).trans (Keeps.set1 _)).trans (Keeps.set1 _)).trans (Keeps.set1 _)); have PW : RowKit.Hid (Cel ((((w8.setCell ⟨p, 4, none⟩ (.slice (some ⟨y8, 0, none⟩) 512 p8)).setCell ⟨p, 5, none⟩ (.bool (bb == 1))).setCell ⟨p, 2, none⟩ (.slice a5 21 c5')).setCell ⟨p, 3, none⟩ (.bool true)) p 74 (plC C (.slice (some ⟨x, xo, none⟩) 128 128) (.slice a5 21 c5') true (.slice (some ⟨y8, 0, none⟩) 512 p8) (bb == 1))) := ((((HP8.out.set_ 4 _).set_ 5 _).set_ 2 _).set_ 3 _); have CW := Lib.hid (Cel.keeps (Cel.keeps HC.out HK8.out (Cel.ne HC.out HD0.out.1 (by decide))) KW.out (Cel.ne (Cel.keeps HC.out HK8.out (Cel.ne HC.out HD0.out.1 (by decide))) HP8.out (by decide))); have YW := Lib.hid (HU8.out.keeps KW.out (HU8.out.1.ne (Cel.typ HP8.out) (by decide))); have XW := Lib.hid ((HX.out.keeps HK8.out (HX.out.1.ne (Cel.typ HD0.out.1) (by decide))).keeps KW.out (HX.out.1.ne (Cel.typ HP.out) (by decide))); have IW : RowKit.Hid (IntsAt ((((w8.setCell ⟨p, 4, none⟩ (.slice (some ⟨y8, 0, none⟩) 512 p8)).setCell ⟨p, 5, none⟩ (.bool (bb == 1))).setCell ⟨p, 2, none⟩ (.slice a5 21 c5')).setCell ⟨p, 3, none⟩ (.bool true)) (((((w8.setCell ⟨p, 4, none⟩ (.slice (some ⟨y8, 0, none⟩) 512 p8)).setCell ⟨p, 5, none⟩ (.bool (bb == 1))).setCell ⟨p, 2, none⟩ (.slice a5 21 c5')).setCell ⟨p, 3, none⟩ (.bool true))).heap.size .i64 a5 21 (tabF 21 (plL b (fun j => ds.getD j 0)))) := (HI8.out.keeps KW.out (Nat.le_refl _) fun r off e _ _ => ints_long HI8.out HP8.out (by show 6 < 21; decide) e).grow KW.out.size; go_loud (refine (rSound_any C p y8 0 p8 x xo (.slice a5 21 c5') true (bb == 1) (heldF (plOut b (fun j => ds.getD j 0) n)) left _ CW.out PW.out YW.out XW.out (fun j _ => heldF_bd _ j) HLB.out).mono ?_); rintro e w9 ⟨b9, c9, x9, o9, rfl, n9, p9, l9, k9⟩; have HN9 := Lib.hid n9; have HP9 := Lib.hid p9; have HL9 := Lib.hid l9; have HI9 := Lib.hid ((IW.out.keeps k9 (Nat.le_refl _) fun r off e _ _ => ints_long IW.out PW.out (by show 6 < 21; decide) e).grow k9.size); have HY9 := Lib.hid (YW.out.keeps k9 (YW.out.1.ne (Cel.typ PW.out) (by decide))); have HK9 : RowKit.Hid (Keeps (fun j => j = p ∨ j = gd) w w9) := ((HK8.out.mono fun j hj => .inr hj).trans (KW.out.mono fun j hj => .inl hj)).trans (k9.mono fun j hj => .inl hj); clear n9 p9 l9 k9)
            | (go_at_call 65; go_loud (refine (rHeld_any x7 o7 c7 (plOut b (fun j => ds.getD j 0) n) _ HL7.out HH7.out (fun j hj => plOut_bd n HBd.out HK1b.out HK2b.out hj)).mono ?_); rintro e w8 ⟨v8, rfl, o8, b8⟩; obtain ⟨y8, p8, rfl, s8, t8, u8, _⟩ := own_num o8 (by decide); have HU8 : RowKit.Hid (NumAt w8 y8 0 512 2 .i64 (heldF (plOut b (fun j => ds.getD j 0) n))) := u8; have HI8 := Lib.hid (HI7.out.now b8 (Nat.le_refl _)); have HK8 : RowKit.Hid (Keeps (fun j => j = gd) w w8) := HK7.out.trans (Keeps.of_below b8); have HP8 := Lib.hid (HP.out.keeps HK8.out hpg.out); clear o8 b8 u8; obtain ⟨k0, k1, k2, k3, k4, k5⟩ := plC_at HP8.out; have z2 := HP8.out.frozen 2; have z3 := HP8.out.frozen 3; have z4 := HP8.out.frozen 4; have z5 := HP8.out.frozen 5)
            | (go_at_call 64; go_loud (refine (rLinesA_any base gd v b (fun j => ds.getD j 0) a5 a6 c5' c6 n _ HK1b.out HD6.out HBd.out hbl HI5b.out HI6.out HN.out.1 HN.out.2).mono ?_); rintro e w7 ⟨k7, ⟨_, x7, o7, c7, rfl, l7, h7⟩ | ⟨hh, _⟩⟩; (case inr => exact absurd HK2b.out hh); have HL7 := Lib.hid l7; have HH7 := Lib.hid h7; have HK7 : RowKit.Hid (Keeps (fun j => j = gd) w w7) := HK6.out.trans k7; have HI7 : RowKit.Hid (IntsAt w7 w7.heap.size .i64 a5 21 (tabF 21 (plL b (fun j => ds.getD j 0)))) := (HI5b.out.keeps k7 (Nat.le_refl _) fun r off e _ _ => ints_long HI5b.out HD6.out.1 (by show 4 < 21; decide) e).grow k7.size; clear l7 h7 k7)
            | (go_at_call 29; go_loud (refine (ref10Steps_any a5 c5' (tabF 21 (plL b (fun j => ds.getD j 0))) Q Lo _ HI5.out ⟨HLk.out.right, by omega, by omega, by have := lob.out; rw [HLob.out] at this; omega, by have := lob.out; rw [HLob.out] at this; omega⟩).mono ?_); rintro e w6 ⟨a6, c6, rfl, i6, b6⟩; rw [HLk.out.tab] at i6; have HI6 : RowKit.Hid (IntsAt w6 w6.heap.size .i64 a6 21 (tabF 21 (plS b (fun j => ds.getD j 0)))) := (by unfold plS; rw [HQb.out, HLob.out]; exact i6); have HI5b := Lib.hid (HI5.out.now b6 (Nat.le_refl _)); have HD6 := Lib.hid (HD5.out.below b6); have HK6 : RowKit.Hid (Keeps (fun j => j = gd) w w6) := HK5.out.trans (Keeps.of_below b6); clear i6 b6)
            | (go_at_call 63; go_loud (refine (rGetB_any base gd v b _ _ _ ds w4 HD4.out HBd.out hbl (HAx.out w4 HK4.out)).mono ?_); rintro e w5 ⟨a5, c5', rfl, i5, d5, k5⟩; rw [HK1b.out]; have HI5 := Lib.hid i5; have HD5 := Lib.hid d5; have HK5 : RowKit.Hid (Keeps (fun j => j = gd) w w5) := HK4.out.trans k5; clear i5 d5 k5)
            | (go_at_call 38; go_loud (refine (rBitsA base gd v b (plD3 b) 5 _ HD3.out HBd.out hbl HG.out.i.2.2.2.1 HG.out.g3 (by decide)).mono ?_); rintro e w4 ⟨rfl, d4, k4⟩; have HD4 : RowKit.Hid (DecMem w4 base gd v b (plD4 b)) := d4; have HK4 : RowKit.Hid (Keeps (fun j => j = gd) w w4) := HK3.out.trans k4; clear d4 k4; rw [HLe.out]; have HP4 := Lib.hid (HP.out.keeps HK4.out hpg.out); obtain ⟨c0, c1, c2, c3, c4, c5⟩ := plC_at HP4.out)
            | (go_at_call 38; go_loud (refine (rBitsA base gd v b (plD2 b) 4 _ HD2.out HBd.out hbl HG.out.i.2.2.1 HG.out.g2 (by decide)).mono ?_); rintro e w3 ⟨rfl, d3, k3⟩; have HD3 : RowKit.Hid (DecMem w3 base gd v b (plD3 b)) := d3; have HK3 : RowKit.Hid (Keeps (fun j => j = gd) w w3) := HK2.out.trans k3; clear d3 k3; rw [HQe.out])
            | (go_at_call 38; go_loud (refine (rBitsA base gd v b (plD1 b) 1 _ HD1.out HBd.out hbl HG.out.i.2.1 HG.out.g1 (by decide)).mono ?_); rintro e w2 ⟨rfl, d2, k2⟩; have HD2 : RowKit.Hid (DecMem w2 base gd v b (plD2 b)) := d2; have HK2 : RowKit.Hid (Keeps (fun j => j = gd) w w2) := HK1.out.trans k2; clear d2 k2; rw [HBe.out])
            | (go_at_call 38; go_loud (refine (rBitsA base gd v b (plD0 b) 1 _ HD0.out HBd.out hbl HG.out.i.1 HG.out.g0 (by decide)).mono ?_); rintro e w1 ⟨rfl, d1, k1⟩; have HD1 : RowKit.Hid (DecMem w1 base gd v b (plD1 b)) := d1; have HK1 : RowKit.Hid (Keeps (fun j => j = gd) w w1) := k1; clear d1 k1; rw [HWe.out]))
          go_ret2
          rw [← HBb.out] at HN9 HP9 HL9
          exact .inl ⟨⟨HYO.out, HK1b.out, HK2b.out⟩, b9, c9, x9, o9, a5, c5', y8, p8, rfl, HN9.out, HP9.out, HI9.out, HY9.out, HL9.out, HK9.out⟩
        · have HK2b := Lib.hid hk2; clear hk2
          go_enter Tryz.func34, Tryz.ntmps34
          go_wp2_with (first
            | (go_at_call 64; go_loud (refine (rLinesA_any base gd v b (fun j => ds.getD j 0) a5 a6 c5' c6 n _ HK1b.out HD6.out HBd.out hbl HI5b.out HI6.out HN.out.1 HN.out.2).mono ?_); rintro e w7 ⟨k7, ⟨hh, _⟩ | ⟨_, rfl⟩⟩; (case inl => exact absurd hh HK2b.out); have HK7 : RowKit.Hid (Keeps (fun j => j = gd) w w7) := HK6.out.trans k7; clear k7)
            | (go_at_call 29; go_loud (refine (ref10Steps_any a5 c5' (tabF 21 (plL b (fun j => ds.getD j 0))) Q Lo _ HI5.out ⟨HLk.out.right, by omega, by omega, by have := lob.out; rw [HLob.out] at this; omega, by have := lob.out; rw [HLob.out] at this; omega⟩).mono ?_); rintro e w6 ⟨a6, c6, rfl, i6, b6⟩; rw [HLk.out.tab] at i6; have HI6 : RowKit.Hid (IntsAt w6 w6.heap.size .i64 a6 21 (tabF 21 (plS b (fun j => ds.getD j 0)))) := (by unfold plS; rw [HQb.out, HLob.out]; exact i6); have HI5b := Lib.hid (HI5.out.now b6 (Nat.le_refl _)); have HD6 := Lib.hid (HD5.out.below b6); have HK6 : RowKit.Hid (Keeps (fun j => j = gd) w w6) := HK5.out.trans (Keeps.of_below b6); clear i6 b6)
            | (go_at_call 63; go_loud (refine (rGetB_any base gd v b _ _ _ ds w4 HD4.out HBd.out hbl (HAx.out w4 HK4.out)).mono ?_); rintro e w5 ⟨a5, c5', rfl, i5, d5, k5⟩; rw [HK1b.out]; have HI5 := Lib.hid i5; have HD5 := Lib.hid d5; have HK5 : RowKit.Hid (Keeps (fun j => j = gd) w w5) := HK4.out.trans k5; clear i5 d5 k5)
            | (go_at_call 38; go_loud (refine (rBitsA base gd v b (plD3 b) 5 _ HD3.out HBd.out hbl HG.out.i.2.2.2.1 HG.out.g3 (by decide)).mono ?_); rintro e w4 ⟨rfl, d4, k4⟩; have HD4 : RowKit.Hid (DecMem w4 base gd v b (plD4 b)) := d4; have HK4 : RowKit.Hid (Keeps (fun j => j = gd) w w4) := HK3.out.trans k4; clear d4 k4; rw [HLe.out]; have HP4 := Lib.hid (HP.out.keeps HK4.out hpg.out); obtain ⟨c0, c1, c2, c3, c4, c5⟩ := plC_at HP4.out)
            | (go_at_call 38; go_loud (refine (rBitsA base gd v b (plD2 b) 4 _ HD2.out HBd.out hbl HG.out.i.2.2.1 HG.out.g2 (by decide)).mono ?_); rintro e w3 ⟨rfl, d3, k3⟩; have HD3 : RowKit.Hid (DecMem w3 base gd v b (plD3 b)) := d3; have HK3 : RowKit.Hid (Keeps (fun j => j = gd) w w3) := HK2.out.trans k3; clear d3 k3; rw [HQe.out])
            | (go_at_call 38; go_loud (refine (rBitsA base gd v b (plD1 b) 1 _ HD1.out HBd.out hbl HG.out.i.2.1 HG.out.g1 (by decide)).mono ?_); rintro e w2 ⟨rfl, d2, k2⟩; have HD2 : RowKit.Hid (DecMem w2 base gd v b (plD2 b)) := d2; have HK2 : RowKit.Hid (Keeps (fun j => j = gd) w w2) := HK1.out.trans k2; clear d2 k2; rw [HBe.out])
            | (go_at_call 38; go_loud (refine (rBitsA base gd v b (plD0 b) 1 _ HD0.out HBd.out hbl HG.out.i.1 HG.out.g0 (by decide)).mono ?_); rintro e w1 ⟨rfl, d1, k1⟩; have HD1 : RowKit.Hid (DecMem w1 base gd v b (plD1 b)) := d1; have HK1 : RowKit.Hid (Keeps (fun j => j = gd) w w1) := k1; clear d1 k1; rw [HWe.out]))
          go_ret2
          exact .inr ⟨fun h => HK2b.out h.2.2, rfl, HP.out.keeps HK7.out hpg.out, HK7.out⟩
    · have HAx : RowKit.Hid (∀ w' : World, Keeps (fun j => j = gd) w w' → GetA b w' none 0 ds) := fun w' k => .inl ⟨by rw [HWh.out]; rfl, rfl⟩
      clear hr
      cases hk1 : plOk1 b fun j => ds.getD j 0
      · have HK1b := Lib.hid hk1; clear hk1
        go_enter Tryz.func34, Tryz.ntmps34
        go_wp2_with (first
          | (go_at_call 63; go_loud (refine (rGetB_any base gd v b _ _ _ ds w4 HD4.out HBd.out hbl (HAx.out w4 HK4.out)).mono ?_); rintro e w5 ⟨a5, c5', rfl, i5, d5, k5⟩; rw [HK1b.out]; have HI5 := Lib.hid i5; have HD5 := Lib.hid d5; have HK5 : RowKit.Hid (Keeps (fun j => j = gd) w w5) := HK4.out.trans k5; clear i5 d5 k5)
          | (go_at_call 38; go_loud (refine (rBitsA base gd v b (plD3 b) 5 _ HD3.out HBd.out hbl HG.out.i.2.2.2.1 HG.out.g3 (by decide)).mono ?_); rintro e w4 ⟨rfl, d4, k4⟩; have HD4 : RowKit.Hid (DecMem w4 base gd v b (plD4 b)) := d4; have HK4 : RowKit.Hid (Keeps (fun j => j = gd) w w4) := HK3.out.trans k4; clear d4 k4; rw [HLe.out]; have HP4 := Lib.hid (HP.out.keeps HK4.out hpg.out); obtain ⟨c0, c1, c2, c3, c4, c5⟩ := plC_at HP4.out)
          | (go_at_call 38; go_loud (refine (rBitsA base gd v b (plD2 b) 4 _ HD2.out HBd.out hbl HG.out.i.2.2.1 HG.out.g2 (by decide)).mono ?_); rintro e w3 ⟨rfl, d3, k3⟩; have HD3 : RowKit.Hid (DecMem w3 base gd v b (plD3 b)) := d3; have HK3 : RowKit.Hid (Keeps (fun j => j = gd) w w3) := HK2.out.trans k3; clear d3 k3; rw [HQe.out])
          | (go_at_call 38; go_loud (refine (rBitsA base gd v b (plD1 b) 1 _ HD1.out HBd.out hbl HG.out.i.2.1 HG.out.g1 (by decide)).mono ?_); rintro e w2 ⟨rfl, d2, k2⟩; have HD2 : RowKit.Hid (DecMem w2 base gd v b (plD2 b)) := d2; have HK2 : RowKit.Hid (Keeps (fun j => j = gd) w w2) := HK1.out.trans k2; clear d2 k2; rw [HBe.out])
          | (go_at_call 38; go_loud (refine (rBitsA base gd v b (plD0 b) 1 _ HD0.out HBd.out hbl HG.out.i.1 HG.out.g0 (by decide)).mono ?_); rintro e w1 ⟨rfl, d1, k1⟩; have HD1 : RowKit.Hid (DecMem w1 base gd v b (plD1 b)) := d1; have HK1 : RowKit.Hid (Keeps (fun j => j = gd) w w1) := k1; clear d1 k1; rw [HWe.out]))
        go_ret2
        exact .inr ⟨fun h => (by have := h.2.1; rw [HK1b.out] at this; cases this), rfl, HP.out.keeps HK5.out hpg.out, HK5.out⟩
      · have HK1b := Lib.hid hk1; clear hk1
        have HLk := Lib.hid (HLF.out HK1b.out)
        by_cases hk2 : plOk2 b fun j => ds.getD j 0
        · have HK2b := Lib.hid hk2; clear hk2
          go_enter Tryz.func34, Tryz.ntmps34
          go_wp2_with (first
            | (go_at_call 66; have KW : RowKit.Hid (Keeps (· = p) w8 ((((w8.setCell ⟨p, 4, none⟩ (.slice (some ⟨y8, 0, none⟩) 512 p8)).setCell ⟨p, 5, none⟩ (.bool (bb == 1))).setCell ⟨p, 2, none⟩ (.slice a5 21 c5')).setCell ⟨p, 3, none⟩ (.bool true))) := ((((Keeps.set1 _).trans (Keeps.set1 _)).trans (Keeps.set1 _)).trans (Keeps.set1 _)); have PW : RowKit.Hid (Cel ((((w8.setCell ⟨p, 4, none⟩ (.slice (some ⟨y8, 0, none⟩) 512 p8)).setCell ⟨p, 5, none⟩ (.bool (bb == 1))).setCell ⟨p, 2, none⟩ (.slice a5 21 c5')).setCell ⟨p, 3, none⟩ (.bool true)) p 74 (plC C (.slice (some ⟨x, xo, none⟩) 128 128) (.slice a5 21 c5') true (.slice (some ⟨y8, 0, none⟩) 512 p8) (bb == 1))) := ((((HP8.out.set_ 4 _).set_ 5 _).set_ 2 _).set_ 3 _); have CW := Lib.hid (Cel.keeps (Cel.keeps HC.out HK8.out (Cel.ne HC.out HD0.out.1 (by decide))) KW.out (Cel.ne (Cel.keeps HC.out HK8.out (Cel.ne HC.out HD0.out.1 (by decide))) HP8.out (by decide))); have YW := Lib.hid (HU8.out.keeps KW.out (HU8.out.1.ne (Cel.typ HP8.out) (by decide))); have XW := Lib.hid ((HX.out.keeps HK8.out (HX.out.1.ne (Cel.typ HD0.out.1) (by decide))).keeps KW.out (HX.out.1.ne (Cel.typ HP.out) (by decide))); have IW : RowKit.Hid (IntsAt ((((w8.setCell ⟨p, 4, none⟩ (.slice (some ⟨y8, 0, none⟩) 512 p8)).setCell ⟨p, 5, none⟩ (.bool (bb == 1))).setCell ⟨p, 2, none⟩ (.slice a5 21 c5')).setCell ⟨p, 3, none⟩ (.bool true)) (((((w8.setCell ⟨p, 4, none⟩ (.slice (some ⟨y8, 0, none⟩) 512 p8)).setCell ⟨p, 5, none⟩ (.bool (bb == 1))).setCell ⟨p, 2, none⟩ (.slice a5 21 c5')).setCell ⟨p, 3, none⟩ (.bool true))).heap.size .i64 a5 21 (tabF 21 (plL b (fun j => ds.getD j 0)))) := (HI8.out.keeps KW.out (Nat.le_refl _) fun r off e _ _ => ints_long HI8.out HP8.out (by show 6 < 21; decide) e).grow KW.out.size; go_loud (refine (rSound_any C p y8 0 p8 x xo (.slice a5 21 c5') true (bb == 1) (heldF (plOut b (fun j => ds.getD j 0) n)) left _ CW.out PW.out YW.out XW.out (fun j _ => heldF_bd _ j) HLB.out).mono ?_); rintro e w9 ⟨b9, c9, x9, o9, rfl, n9, p9, l9, k9⟩; have HN9 := Lib.hid n9; have HP9 := Lib.hid p9; have HL9 := Lib.hid l9; have HI9 := Lib.hid ((IW.out.keeps k9 (Nat.le_refl _) fun r off e _ _ => ints_long IW.out PW.out (by show 6 < 21; decide) e).grow k9.size); have HY9 := Lib.hid (YW.out.keeps k9 (YW.out.1.ne (Cel.typ PW.out) (by decide))); have HK9 : RowKit.Hid (Keeps (fun j => j = p ∨ j = gd) w w9) := ((HK8.out.mono fun j hj => .inr hj).trans (KW.out.mono fun j hj => .inl hj)).trans (k9.mono fun j hj => .inl hj); clear n9 p9 l9 k9)
            | (go_at_call 65; go_loud (refine (rHeld_any x7 o7 c7 (plOut b (fun j => ds.getD j 0) n) _ HL7.out HH7.out (fun j hj => plOut_bd n HBd.out HK1b.out HK2b.out hj)).mono ?_); rintro e w8 ⟨v8, rfl, o8, b8⟩; obtain ⟨y8, p8, rfl, s8, t8, u8, _⟩ := own_num o8 (by decide); have HU8 : RowKit.Hid (NumAt w8 y8 0 512 2 .i64 (heldF (plOut b (fun j => ds.getD j 0) n))) := u8; have HI8 := Lib.hid (HI7.out.now b8 (Nat.le_refl _)); have HK8 : RowKit.Hid (Keeps (fun j => j = gd) w w8) := HK7.out.trans (Keeps.of_below b8); have HP8 := Lib.hid (HP.out.keeps HK8.out hpg.out); clear o8 b8 u8; obtain ⟨k0, k1, k2, k3, k4, k5⟩ := plC_at HP8.out; have z2 := HP8.out.frozen 2; have z3 := HP8.out.frozen 3; have z4 := HP8.out.frozen 4; have z5 := HP8.out.frozen 5)
            | (go_at_call 64; go_loud (refine (rLinesA_any base gd v b (fun j => ds.getD j 0) a5 a6 c5' c6 n _ HK1b.out HD6.out HBd.out hbl HI5b.out HI6.out HN.out.1 HN.out.2).mono ?_); rintro e w7 ⟨k7, ⟨_, x7, o7, c7, rfl, l7, h7⟩ | ⟨hh, _⟩⟩; (case inr => exact absurd HK2b.out hh); have HL7 := Lib.hid l7; have HH7 := Lib.hid h7; have HK7 : RowKit.Hid (Keeps (fun j => j = gd) w w7) := HK6.out.trans k7; have HI7 : RowKit.Hid (IntsAt w7 w7.heap.size .i64 a5 21 (tabF 21 (plL b (fun j => ds.getD j 0)))) := (HI5b.out.keeps k7 (Nat.le_refl _) fun r off e _ _ => ints_long HI5b.out HD6.out.1 (by show 4 < 21; decide) e).grow k7.size; clear l7 h7 k7)
            | (go_at_call 29; go_loud (refine (ref10Steps_any a5 c5' (tabF 21 (plL b (fun j => ds.getD j 0))) Q Lo _ HI5.out ⟨HLk.out.right, by omega, by omega, by have := lob.out; rw [HLob.out] at this; omega, by have := lob.out; rw [HLob.out] at this; omega⟩).mono ?_); rintro e w6 ⟨a6, c6, rfl, i6, b6⟩; rw [HLk.out.tab] at i6; have HI6 : RowKit.Hid (IntsAt w6 w6.heap.size .i64 a6 21 (tabF 21 (plS b (fun j => ds.getD j 0)))) := (by unfold plS; rw [HQb.out, HLob.out]; exact i6); have HI5b := Lib.hid (HI5.out.now b6 (Nat.le_refl _)); have HD6 := Lib.hid (HD5.out.below b6); have HK6 : RowKit.Hid (Keeps (fun j => j = gd) w w6) := HK5.out.trans (Keeps.of_below b6); clear i6 b6)
            | (go_at_call 63; go_loud (refine (rGetB_any base gd v b _ _ _ ds w4 HD4.out HBd.out hbl (HAx.out w4 HK4.out)).mono ?_); rintro e w5 ⟨a5, c5', rfl, i5, d5, k5⟩; rw [HK1b.out]; have HI5 := Lib.hid i5; have HD5 := Lib.hid d5; have HK5 : RowKit.Hid (Keeps (fun j => j = gd) w w5) := HK4.out.trans k5; clear i5 d5 k5)
            | (go_at_call 38; go_loud (refine (rBitsA base gd v b (plD3 b) 5 _ HD3.out HBd.out hbl HG.out.i.2.2.2.1 HG.out.g3 (by decide)).mono ?_); rintro e w4 ⟨rfl, d4, k4⟩; have HD4 : RowKit.Hid (DecMem w4 base gd v b (plD4 b)) := d4; have HK4 : RowKit.Hid (Keeps (fun j => j = gd) w w4) := HK3.out.trans k4; clear d4 k4; rw [HLe.out]; have HP4 := Lib.hid (HP.out.keeps HK4.out hpg.out); obtain ⟨c0, c1, c2, c3, c4, c5⟩ := plC_at HP4.out)
            | (go_at_call 38; go_loud (refine (rBitsA base gd v b (plD2 b) 4 _ HD2.out HBd.out hbl HG.out.i.2.2.1 HG.out.g2 (by decide)).mono ?_); rintro e w3 ⟨rfl, d3, k3⟩; have HD3 : RowKit.Hid (DecMem w3 base gd v b (plD3 b)) := d3; have HK3 : RowKit.Hid (Keeps (fun j => j = gd) w w3) := HK2.out.trans k3; clear d3 k3; rw [HQe.out])
            | (go_at_call 38; go_loud (refine (rBitsA base gd v b (plD1 b) 1 _ HD1.out HBd.out hbl HG.out.i.2.1 HG.out.g1 (by decide)).mono ?_); rintro e w2 ⟨rfl, d2, k2⟩; have HD2 : RowKit.Hid (DecMem w2 base gd v b (plD2 b)) := d2; have HK2 : RowKit.Hid (Keeps (fun j => j = gd) w w2) := HK1.out.trans k2; clear d2 k2; rw [HBe.out])
            | (go_at_call 38; go_loud (refine (rBitsA base gd v b (plD0 b) 1 _ HD0.out HBd.out hbl HG.out.i.1 HG.out.g0 (by decide)).mono ?_); rintro e w1 ⟨rfl, d1, k1⟩; have HD1 : RowKit.Hid (DecMem w1 base gd v b (plD1 b)) := d1; have HK1 : RowKit.Hid (Keeps (fun j => j = gd) w w1) := k1; clear d1 k1; rw [HWe.out]))
          go_ret2
          rw [← HBb.out] at HN9 HP9 HL9
          exact .inl ⟨⟨HYO.out, HK1b.out, HK2b.out⟩, b9, c9, x9, o9, a5, c5', y8, p8, rfl, HN9.out, HP9.out, HI9.out, HY9.out, HL9.out, HK9.out⟩
        · have HK2b := Lib.hid hk2; clear hk2
          go_enter Tryz.func34, Tryz.ntmps34
          go_wp2_with (first
            | (go_at_call 64; go_loud (refine (rLinesA_any base gd v b (fun j => ds.getD j 0) a5 a6 c5' c6 n _ HK1b.out HD6.out HBd.out hbl HI5b.out HI6.out HN.out.1 HN.out.2).mono ?_); rintro e w7 ⟨k7, ⟨hh, _⟩ | ⟨_, rfl⟩⟩; (case inl => exact absurd hh HK2b.out); have HK7 : RowKit.Hid (Keeps (fun j => j = gd) w w7) := HK6.out.trans k7; clear k7)
            | (go_at_call 29; go_loud (refine (ref10Steps_any a5 c5' (tabF 21 (plL b (fun j => ds.getD j 0))) Q Lo _ HI5.out ⟨HLk.out.right, by omega, by omega, by have := lob.out; rw [HLob.out] at this; omega, by have := lob.out; rw [HLob.out] at this; omega⟩).mono ?_); rintro e w6 ⟨a6, c6, rfl, i6, b6⟩; rw [HLk.out.tab] at i6; have HI6 : RowKit.Hid (IntsAt w6 w6.heap.size .i64 a6 21 (tabF 21 (plS b (fun j => ds.getD j 0)))) := (by unfold plS; rw [HQb.out, HLob.out]; exact i6); have HI5b := Lib.hid (HI5.out.now b6 (Nat.le_refl _)); have HD6 := Lib.hid (HD5.out.below b6); have HK6 : RowKit.Hid (Keeps (fun j => j = gd) w w6) := HK5.out.trans (Keeps.of_below b6); clear i6 b6)
            | (go_at_call 63; go_loud (refine (rGetB_any base gd v b _ _ _ ds w4 HD4.out HBd.out hbl (HAx.out w4 HK4.out)).mono ?_); rintro e w5 ⟨a5, c5', rfl, i5, d5, k5⟩; rw [HK1b.out]; have HI5 := Lib.hid i5; have HD5 := Lib.hid d5; have HK5 : RowKit.Hid (Keeps (fun j => j = gd) w w5) := HK4.out.trans k5; clear i5 d5 k5)
            | (go_at_call 38; go_loud (refine (rBitsA base gd v b (plD3 b) 5 _ HD3.out HBd.out hbl HG.out.i.2.2.2.1 HG.out.g3 (by decide)).mono ?_); rintro e w4 ⟨rfl, d4, k4⟩; have HD4 : RowKit.Hid (DecMem w4 base gd v b (plD4 b)) := d4; have HK4 : RowKit.Hid (Keeps (fun j => j = gd) w w4) := HK3.out.trans k4; clear d4 k4; rw [HLe.out]; have HP4 := Lib.hid (HP.out.keeps HK4.out hpg.out); obtain ⟨c0, c1, c2, c3, c4, c5⟩ := plC_at HP4.out)
            | (go_at_call 38; go_loud (refine (rBitsA base gd v b (plD2 b) 4 _ HD2.out HBd.out hbl HG.out.i.2.2.1 HG.out.g2 (by decide)).mono ?_); rintro e w3 ⟨rfl, d3, k3⟩; have HD3 : RowKit.Hid (DecMem w3 base gd v b (plD3 b)) := d3; have HK3 : RowKit.Hid (Keeps (fun j => j = gd) w w3) := HK2.out.trans k3; clear d3 k3; rw [HQe.out])
            | (go_at_call 38; go_loud (refine (rBitsA base gd v b (plD1 b) 1 _ HD1.out HBd.out hbl HG.out.i.2.1 HG.out.g1 (by decide)).mono ?_); rintro e w2 ⟨rfl, d2, k2⟩; have HD2 : RowKit.Hid (DecMem w2 base gd v b (plD2 b)) := d2; have HK2 : RowKit.Hid (Keeps (fun j => j = gd) w w2) := HK1.out.trans k2; clear d2 k2; rw [HBe.out])
            | (go_at_call 38; go_loud (refine (rBitsA base gd v b (plD0 b) 1 _ HD0.out HBd.out hbl HG.out.i.1 HG.out.g0 (by decide)).mono ?_); rintro e w1 ⟨rfl, d1, k1⟩; have HD1 : RowKit.Hid (DecMem w1 base gd v b (plD1 b)) := d1; have HK1 : RowKit.Hid (Keeps (fun j => j = gd) w w1) := k1; clear d1 k1; rw [HWe.out]))
          go_ret2
          exact .inr ⟨fun h => HK2b.out h.2.2, rfl, HP.out.keeps HK7.out hpg.out, HK7.out⟩
    · have HAx : RowKit.Hid (∀ w' : World, Keeps (fun j => j = gd) w w' → GetA b w' none 0 ds) := fun w' k => .inl ⟨by rw [HWh.out]; rfl, rfl⟩
      clear hr
      cases hk1 : plOk1 b fun j => ds.getD j 0
      · have HK1b := Lib.hid hk1; clear hk1
        go_enter Tryz.func34, Tryz.ntmps34
        go_wp2_with (first
          | (go_at_call 63; go_loud (refine (rGetB_any base gd v b _ _ _ ds w4 HD4.out HBd.out hbl (HAx.out w4 HK4.out)).mono ?_); rintro e w5 ⟨a5, c5', rfl, i5, d5, k5⟩; rw [HK1b.out]; have HI5 := Lib.hid i5; have HD5 := Lib.hid d5; have HK5 : RowKit.Hid (Keeps (fun j => j = gd) w w5) := HK4.out.trans k5; clear i5 d5 k5)
          | (go_at_call 38; go_loud (refine (rBitsA base gd v b (plD3 b) 5 _ HD3.out HBd.out hbl HG.out.i.2.2.2.1 HG.out.g3 (by decide)).mono ?_); rintro e w4 ⟨rfl, d4, k4⟩; have HD4 : RowKit.Hid (DecMem w4 base gd v b (plD4 b)) := d4; have HK4 : RowKit.Hid (Keeps (fun j => j = gd) w w4) := HK3.out.trans k4; clear d4 k4; rw [HLe.out]; have HP4 := Lib.hid (HP.out.keeps HK4.out hpg.out); obtain ⟨c0, c1, c2, c3, c4, c5⟩ := plC_at HP4.out)
          | (go_at_call 38; go_loud (refine (rBitsA base gd v b (plD2 b) 4 _ HD2.out HBd.out hbl HG.out.i.2.2.1 HG.out.g2 (by decide)).mono ?_); rintro e w3 ⟨rfl, d3, k3⟩; have HD3 : RowKit.Hid (DecMem w3 base gd v b (plD3 b)) := d3; have HK3 : RowKit.Hid (Keeps (fun j => j = gd) w w3) := HK2.out.trans k3; clear d3 k3; rw [HQe.out])
          | (go_at_call 38; go_loud (refine (rBitsA base gd v b (plD1 b) 1 _ HD1.out HBd.out hbl HG.out.i.2.1 HG.out.g1 (by decide)).mono ?_); rintro e w2 ⟨rfl, d2, k2⟩; have HD2 : RowKit.Hid (DecMem w2 base gd v b (plD2 b)) := d2; have HK2 : RowKit.Hid (Keeps (fun j => j = gd) w w2) := HK1.out.trans k2; clear d2 k2; rw [HBe.out])
          | (go_at_call 38; go_loud (refine (rBitsA base gd v b (plD0 b) 1 _ HD0.out HBd.out hbl HG.out.i.1 HG.out.g0 (by decide)).mono ?_); rintro e w1 ⟨rfl, d1, k1⟩; have HD1 : RowKit.Hid (DecMem w1 base gd v b (plD1 b)) := d1; have HK1 : RowKit.Hid (Keeps (fun j => j = gd) w w1) := k1; clear d1 k1; rw [HWe.out]))
        go_ret2
        exact .inr ⟨fun h => (by have := h.2.1; rw [HK1b.out] at this; cases this), rfl, HP.out.keeps HK5.out hpg.out, HK5.out⟩
      · have HK1b := Lib.hid hk1; clear hk1
        have HLk := Lib.hid (HLF.out HK1b.out)
        by_cases hk2 : plOk2 b fun j => ds.getD j 0
        · have HK2b := Lib.hid hk2; clear hk2
          go_enter Tryz.func34, Tryz.ntmps34
          go_wp2_with (first
            | (go_at_call 66; have KW : RowKit.Hid (Keeps (· = p) w8 ((((w8.setCell ⟨p, 4, none⟩ (.slice (some ⟨y8, 0, none⟩) 512 p8)).setCell ⟨p, 5, none⟩ (.bool (bb == 1))).setCell ⟨p, 2, none⟩ (.slice a5 21 c5')).setCell ⟨p, 3, none⟩ (.bool true))) := ((((Keeps.set1 _).trans (Keeps.set1 _)).trans (Keeps.set1 _)).trans (Keeps.set1 _)); have PW : RowKit.Hid (Cel ((((w8.setCell ⟨p, 4, none⟩ (.slice (some ⟨y8, 0, none⟩) 512 p8)).setCell ⟨p, 5, none⟩ (.bool (bb == 1))).setCell ⟨p, 2, none⟩ (.slice a5 21 c5')).setCell ⟨p, 3, none⟩ (.bool true)) p 74 (plC C (.slice (some ⟨x, xo, none⟩) 128 128) (.slice a5 21 c5') true (.slice (some ⟨y8, 0, none⟩) 512 p8) (bb == 1))) := ((((HP8.out.set_ 4 _).set_ 5 _).set_ 2 _).set_ 3 _); have CW := Lib.hid (Cel.keeps (Cel.keeps HC.out HK8.out (Cel.ne HC.out HD0.out.1 (by decide))) KW.out (Cel.ne (Cel.keeps HC.out HK8.out (Cel.ne HC.out HD0.out.1 (by decide))) HP8.out (by decide))); have YW := Lib.hid (HU8.out.keeps KW.out (HU8.out.1.ne (Cel.typ HP8.out) (by decide))); have XW := Lib.hid ((HX.out.keeps HK8.out (HX.out.1.ne (Cel.typ HD0.out.1) (by decide))).keeps KW.out (HX.out.1.ne (Cel.typ HP.out) (by decide))); have IW : RowKit.Hid (IntsAt ((((w8.setCell ⟨p, 4, none⟩ (.slice (some ⟨y8, 0, none⟩) 512 p8)).setCell ⟨p, 5, none⟩ (.bool (bb == 1))).setCell ⟨p, 2, none⟩ (.slice a5 21 c5')).setCell ⟨p, 3, none⟩ (.bool true)) (((((w8.setCell ⟨p, 4, none⟩ (.slice (some ⟨y8, 0, none⟩) 512 p8)).setCell ⟨p, 5, none⟩ (.bool (bb == 1))).setCell ⟨p, 2, none⟩ (.slice a5 21 c5')).setCell ⟨p, 3, none⟩ (.bool true))).heap.size .i64 a5 21 (tabF 21 (plL b (fun j => ds.getD j 0)))) := (HI8.out.keeps KW.out (Nat.le_refl _) fun r off e _ _ => ints_long HI8.out HP8.out (by show 6 < 21; decide) e).grow KW.out.size; go_loud (refine (rSound_any C p y8 0 p8 x xo (.slice a5 21 c5') true (bb == 1) (heldF (plOut b (fun j => ds.getD j 0) n)) left _ CW.out PW.out YW.out XW.out (fun j _ => heldF_bd _ j) HLB.out).mono ?_); rintro e w9 ⟨b9, c9, x9, o9, rfl, n9, p9, l9, k9⟩; have HN9 := Lib.hid n9; have HP9 := Lib.hid p9; have HL9 := Lib.hid l9; have HI9 := Lib.hid ((IW.out.keeps k9 (Nat.le_refl _) fun r off e _ _ => ints_long IW.out PW.out (by show 6 < 21; decide) e).grow k9.size); have HY9 := Lib.hid (YW.out.keeps k9 (YW.out.1.ne (Cel.typ PW.out) (by decide))); have HK9 : RowKit.Hid (Keeps (fun j => j = p ∨ j = gd) w w9) := ((HK8.out.mono fun j hj => .inr hj).trans (KW.out.mono fun j hj => .inl hj)).trans (k9.mono fun j hj => .inl hj); clear n9 p9 l9 k9)
            | (go_at_call 65; go_loud (refine (rHeld_any x7 o7 c7 (plOut b (fun j => ds.getD j 0) n) _ HL7.out HH7.out (fun j hj => plOut_bd n HBd.out HK1b.out HK2b.out hj)).mono ?_); rintro e w8 ⟨v8, rfl, o8, b8⟩; obtain ⟨y8, p8, rfl, s8, t8, u8, _⟩ := own_num o8 (by decide); have HU8 : RowKit.Hid (NumAt w8 y8 0 512 2 .i64 (heldF (plOut b (fun j => ds.getD j 0) n))) := u8; have HI8 := Lib.hid (HI7.out.now b8 (Nat.le_refl _)); have HK8 : RowKit.Hid (Keeps (fun j => j = gd) w w8) := HK7.out.trans (Keeps.of_below b8); have HP8 := Lib.hid (HP.out.keeps HK8.out hpg.out); clear o8 b8 u8; obtain ⟨k0, k1, k2, k3, k4, k5⟩ := plC_at HP8.out; have z2 := HP8.out.frozen 2; have z3 := HP8.out.frozen 3; have z4 := HP8.out.frozen 4; have z5 := HP8.out.frozen 5)
            | (go_at_call 64; go_loud (refine (rLinesA_any base gd v b (fun j => ds.getD j 0) a5 a6 c5' c6 n _ HK1b.out HD6.out HBd.out hbl HI5b.out HI6.out HN.out.1 HN.out.2).mono ?_); rintro e w7 ⟨k7, ⟨_, x7, o7, c7, rfl, l7, h7⟩ | ⟨hh, _⟩⟩; (case inr => exact absurd HK2b.out hh); have HL7 := Lib.hid l7; have HH7 := Lib.hid h7; have HK7 : RowKit.Hid (Keeps (fun j => j = gd) w w7) := HK6.out.trans k7; have HI7 : RowKit.Hid (IntsAt w7 w7.heap.size .i64 a5 21 (tabF 21 (plL b (fun j => ds.getD j 0)))) := (HI5b.out.keeps k7 (Nat.le_refl _) fun r off e _ _ => ints_long HI5b.out HD6.out.1 (by show 4 < 21; decide) e).grow k7.size; clear l7 h7 k7)
            | (go_at_call 29; go_loud (refine (ref10Steps_any a5 c5' (tabF 21 (plL b (fun j => ds.getD j 0))) Q Lo _ HI5.out ⟨HLk.out.right, by omega, by omega, by have := lob.out; rw [HLob.out] at this; omega, by have := lob.out; rw [HLob.out] at this; omega⟩).mono ?_); rintro e w6 ⟨a6, c6, rfl, i6, b6⟩; rw [HLk.out.tab] at i6; have HI6 : RowKit.Hid (IntsAt w6 w6.heap.size .i64 a6 21 (tabF 21 (plS b (fun j => ds.getD j 0)))) := (by unfold plS; rw [HQb.out, HLob.out]; exact i6); have HI5b := Lib.hid (HI5.out.now b6 (Nat.le_refl _)); have HD6 := Lib.hid (HD5.out.below b6); have HK6 : RowKit.Hid (Keeps (fun j => j = gd) w w6) := HK5.out.trans (Keeps.of_below b6); clear i6 b6)
            | (go_at_call 63; go_loud (refine (rGetB_any base gd v b _ _ _ ds w4 HD4.out HBd.out hbl (HAx.out w4 HK4.out)).mono ?_); rintro e w5 ⟨a5, c5', rfl, i5, d5, k5⟩; rw [HK1b.out]; have HI5 := Lib.hid i5; have HD5 := Lib.hid d5; have HK5 : RowKit.Hid (Keeps (fun j => j = gd) w w5) := HK4.out.trans k5; clear i5 d5 k5)
            | (go_at_call 38; go_loud (refine (rBitsA base gd v b (plD3 b) 5 _ HD3.out HBd.out hbl HG.out.i.2.2.2.1 HG.out.g3 (by decide)).mono ?_); rintro e w4 ⟨rfl, d4, k4⟩; have HD4 : RowKit.Hid (DecMem w4 base gd v b (plD4 b)) := d4; have HK4 : RowKit.Hid (Keeps (fun j => j = gd) w w4) := HK3.out.trans k4; clear d4 k4; rw [HLe.out]; have HP4 := Lib.hid (HP.out.keeps HK4.out hpg.out); obtain ⟨c0, c1, c2, c3, c4, c5⟩ := plC_at HP4.out)
            | (go_at_call 38; go_loud (refine (rBitsA base gd v b (plD2 b) 4 _ HD2.out HBd.out hbl HG.out.i.2.2.1 HG.out.g2 (by decide)).mono ?_); rintro e w3 ⟨rfl, d3, k3⟩; have HD3 : RowKit.Hid (DecMem w3 base gd v b (plD3 b)) := d3; have HK3 : RowKit.Hid (Keeps (fun j => j = gd) w w3) := HK2.out.trans k3; clear d3 k3; rw [HQe.out])
            | (go_at_call 38; go_loud (refine (rBitsA base gd v b (plD1 b) 1 _ HD1.out HBd.out hbl HG.out.i.2.1 HG.out.g1 (by decide)).mono ?_); rintro e w2 ⟨rfl, d2, k2⟩; have HD2 : RowKit.Hid (DecMem w2 base gd v b (plD2 b)) := d2; have HK2 : RowKit.Hid (Keeps (fun j => j = gd) w w2) := HK1.out.trans k2; clear d2 k2; rw [HBe.out])
            | (go_at_call 38; go_loud (refine (rBitsA base gd v b (plD0 b) 1 _ HD0.out HBd.out hbl HG.out.i.1 HG.out.g0 (by decide)).mono ?_); rintro e w1 ⟨rfl, d1, k1⟩; have HD1 : RowKit.Hid (DecMem w1 base gd v b (plD1 b)) := d1; have HK1 : RowKit.Hid (Keeps (fun j => j = gd) w w1) := k1; clear d1 k1; rw [HWe.out]))
          go_ret2
          rw [← HBb.out] at HN9 HP9 HL9
          exact .inl ⟨⟨HYO.out, HK1b.out, HK2b.out⟩, b9, c9, x9, o9, a5, c5', y8, p8, rfl, HN9.out, HP9.out, HI9.out, HY9.out, HL9.out, HK9.out⟩
        · have HK2b := Lib.hid hk2; clear hk2
          go_enter Tryz.func34, Tryz.ntmps34
          go_wp2_with (first
            | (go_at_call 64; go_loud (refine (rLinesA_any base gd v b (fun j => ds.getD j 0) a5 a6 c5' c6 n _ HK1b.out HD6.out HBd.out hbl HI5b.out HI6.out HN.out.1 HN.out.2).mono ?_); rintro e w7 ⟨k7, ⟨hh, _⟩ | ⟨_, rfl⟩⟩; (case inl => exact absurd hh HK2b.out); have HK7 : RowKit.Hid (Keeps (fun j => j = gd) w w7) := HK6.out.trans k7; clear k7)
            | (go_at_call 29; go_loud (refine (ref10Steps_any a5 c5' (tabF 21 (plL b (fun j => ds.getD j 0))) Q Lo _ HI5.out ⟨HLk.out.right, by omega, by omega, by have := lob.out; rw [HLob.out] at this; omega, by have := lob.out; rw [HLob.out] at this; omega⟩).mono ?_); rintro e w6 ⟨a6, c6, rfl, i6, b6⟩; rw [HLk.out.tab] at i6; have HI6 : RowKit.Hid (IntsAt w6 w6.heap.size .i64 a6 21 (tabF 21 (plS b (fun j => ds.getD j 0)))) := (by unfold plS; rw [HQb.out, HLob.out]; exact i6); have HI5b := Lib.hid (HI5.out.now b6 (Nat.le_refl _)); have HD6 := Lib.hid (HD5.out.below b6); have HK6 : RowKit.Hid (Keeps (fun j => j = gd) w w6) := HK5.out.trans (Keeps.of_below b6); clear i6 b6)
            | (go_at_call 63; go_loud (refine (rGetB_any base gd v b _ _ _ ds w4 HD4.out HBd.out hbl (HAx.out w4 HK4.out)).mono ?_); rintro e w5 ⟨a5, c5', rfl, i5, d5, k5⟩; rw [HK1b.out]; have HI5 := Lib.hid i5; have HD5 := Lib.hid d5; have HK5 : RowKit.Hid (Keeps (fun j => j = gd) w w5) := HK4.out.trans k5; clear i5 d5 k5)
            | (go_at_call 38; go_loud (refine (rBitsA base gd v b (plD3 b) 5 _ HD3.out HBd.out hbl HG.out.i.2.2.2.1 HG.out.g3 (by decide)).mono ?_); rintro e w4 ⟨rfl, d4, k4⟩; have HD4 : RowKit.Hid (DecMem w4 base gd v b (plD4 b)) := d4; have HK4 : RowKit.Hid (Keeps (fun j => j = gd) w w4) := HK3.out.trans k4; clear d4 k4; rw [HLe.out]; have HP4 := Lib.hid (HP.out.keeps HK4.out hpg.out); obtain ⟨c0, c1, c2, c3, c4, c5⟩ := plC_at HP4.out)
            | (go_at_call 38; go_loud (refine (rBitsA base gd v b (plD2 b) 4 _ HD2.out HBd.out hbl HG.out.i.2.2.1 HG.out.g2 (by decide)).mono ?_); rintro e w3 ⟨rfl, d3, k3⟩; have HD3 : RowKit.Hid (DecMem w3 base gd v b (plD3 b)) := d3; have HK3 : RowKit.Hid (Keeps (fun j => j = gd) w w3) := HK2.out.trans k3; clear d3 k3; rw [HQe.out])
            | (go_at_call 38; go_loud (refine (rBitsA base gd v b (plD1 b) 1 _ HD1.out HBd.out hbl HG.out.i.2.1 HG.out.g1 (by decide)).mono ?_); rintro e w2 ⟨rfl, d2, k2⟩; have HD2 : RowKit.Hid (DecMem w2 base gd v b (plD2 b)) := d2; have HK2 : RowKit.Hid (Keeps (fun j => j = gd) w w2) := HK1.out.trans k2; clear d2 k2; rw [HBe.out])
            | (go_at_call 38; go_loud (refine (rBitsA base gd v b (plD0 b) 1 _ HD0.out HBd.out hbl HG.out.i.1 HG.out.g0 (by decide)).mono ?_); rintro e w1 ⟨rfl, d1, k1⟩; have HD1 : RowKit.Hid (DecMem w1 base gd v b (plD1 b)) := d1; have HK1 : RowKit.Hid (Keeps (fun j => j = gd) w w1) := k1; clear d1 k1; rw [HWe.out]))
          go_ret2
          exact .inr ⟨fun h => HK2b.out h.2.2, rfl, HP.out.keeps HK7.out hpg.out, HK7.out⟩
end Go.Proofs.YtobhoecmmpijgaaGreat
