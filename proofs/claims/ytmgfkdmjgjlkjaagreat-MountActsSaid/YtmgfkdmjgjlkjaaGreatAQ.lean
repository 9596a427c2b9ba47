/- Plain facts, and what functions give, for the proofs of this seat: several texts in one, each with its own first remark. -/
import Derived.Test.YtmgfkdmjgjlkjaaGreatAP
import Derived.Test.YtmgfkdmjgjlkjaaGreatAy

namespace Go.Proofs.YtmgfkdmjgjlkjaaGreat
open Go.RowKit
set_option linter.unusedVariables false
structure GotL (w : World) (B base g mg mr er : Nat) (v : Value) (b : List Int) (S : DecS × List Int) (u : Value) (k : Nat) (V : Nat → Int) (wr : World) : Prop where
  d : DecMem wr base g v b S.1
  m : RefMod wr w.heap.size mg mr S.2 false
  e : ∀ j, j < 22 → wr.cell? ⟨er, j, none⟩ = some (.int .i64 (edgeK j : Int))
  i : wr.ownsRow B 2 1 u k ((tabF k V).map (Value.int .i64))
  k : Keeps (fun j => j = g) w wr
  o : mg < er ∧ mr < er ∧ er < B ∧ w.heap.size ≤ mg ∧ w.heap.size ≤ mr ∧ g < w.heap.size ∧ B ≤ wr.heap.size
  v : ∀ j, v.ownBlock = some j → j < w.heap.size
section
variable {w wr w' : World} {B base g mg mr er k : Nat} {v u : Value} {b : List Int} {S : DecS × List Int} {V : Nat → Int}
theorem GotL.drewN (h : GotL w B base g mg mr er v b S u k V wr) (n : Nat) : GotL w B base g mg mr er v b S u k V (wr.drewN n) :=
  ⟨h.d.drewN n, h.m.drewN n, h.e, own_drewN h.i n, h.k.drewN n, h.o, h.v⟩
theorem GotL.alloc (h : GotL w B base g mg mr er v b S u k V wr) (o : Obj) : GotL w B base g mg mr er v b S u k V (wr.alloc o) := by
  have hb := Below.alloc_new wr o
  have ho := h.o
  have hs := h.k.size
  exact ⟨h.d.below hb, h.m.below hb, fun j hj => (hb.cell (p := ⟨er, j, none⟩) (by show er < _; omega)).trans (h.e j hj), World.ownsRow.alloc h.i o, h.k.alloc o, by have := hb.size; omega, h.v⟩
theorem GotL.app (h : GotL w B base g mg mr er v b S u k V wr) {u' : Value} (ho : w'.ownsRow B 2 1 u' (k + 1) ((tabF (k + 1) V).map (Value.int .i64))) (hg : wr.grownBy w' u.ownBlock) : GotL w B base g mg mr er v b S u' (k + 1) V w' := by
  have hb := h.o
  have hk : Keeps (fun j => u.ownBlock = some j) wr w' := Keeps.of_grown hg fun _ h => h
  have hob := own_base h.i
  have hs := hk.size
  have hsw := h.k.size
  exact ⟨h.d.keeps hk (fun c => by have := hob g c; omega) (fun j hj c => by have := hob j c; have := h.v j hj; omega), h.m.keeps hk (fun c => by have := hob mg c; omega) (fun c => by have := hob mr c; omega),
    fun j hj => (World.cell?_of_block (a := ⟨er, j, none⟩) (hk.block er (by omega) (fun c => by have := hob er c; omega))).trans (h.e j hj), ho,
    h.k.then_ hk (fun j hj => .inr (by have := hob j hj; omega)), by omega, h.v⟩
theorem GotL.sym (h : GotL w B base g mg mr er v b S u k V wr) (hG : GoodD S.1) (hL : GoodL S.2) (hb : ∀ j, 0 ≤ byteF b j ∧ byteF b j ≤ 255) (hbl : b.length ≤ 1000000) (hi : S.1.i ≤ 5000000) :
    Calls Tryz.prog 113 #[.pointer (some ⟨g, 0, none⟩), .pointer (some ⟨mg, 0, none⟩)] wr fun e w' => e = .returned (.int .i64 (decWhich S.1 S.2)) ∧ GotL w B base g mg mr er v b (decSym b S.1 S.2, learnP S.2 (decWhich S.1 S.2)) u k V w' := by
  have ho := h.o
  have hs := h.k.size
  refine (refDecSymbol_any base w.heap.size g v b S.1 mg mr S.2 wr h.d hb hbl hi h.m hG hL (by omega) (by omega) (fun j hj => by have := h.v j hj; omega)).mono ?_
  rintro e w2 ⟨rfl, k1, km, k2⟩
  have hs2 := k2.size
  exact ⟨rfl, k1, km, fun j hj => (World.cell?_of_block (a := ⟨er, j, none⟩) (k2.block er (by omega) (by omega))).trans (h.e j hj), own_keeps h.i k2 (fun j hj => by have := own_base h.i j hj; omega), h.k.then_ k2 (fun j hj => by omega), by omega, h.v⟩
theorem GotL.bits (h : GotL w B base g mg mr er v b S u k V wr) (hG : GoodD S.1) (hb : ∀ j, 0 ≤ byteF b j ∧ byteF b j ≤ 255) (hbl : b.length ≤ 1000000) (hi : S.1.i ≤ 4000000) {n : Nat} (hn : n ≤ 24) :
    Calls Tryz.prog 79 #[.pointer (some ⟨g, 0, none⟩), .int .i64 (n : Int)] wr fun e w' => e = .returned (.int .i64 (decBits b S.1 0 n).1) ∧ GotL w B base g mg mr er v b ((decBits b S.1 0 n).2, S.2) u k V w' := by
  have ho := h.o
  have hs := h.k.size
  have hml := h.m.lt
  refine (refDecBits_any base g v b S.1 n wr h.d hb hbl hi hG hn).mono ?_
  rintro e w2 ⟨rfl, k1, k2⟩
  have hs2 := k2.size
  exact ⟨rfl, k1, h.m.keeps k2 (by omega) (by omega), fun j hj => (World.cell?_of_block (a := ⟨er, j, none⟩) (k2.block er (by omega) (by omega))).trans (h.e j hj), own_keeps h.i k2 (fun j hj => by have := own_base h.i j hj; omega), h.k.then_ k2 (fun j hj => by omega), by omega, h.v⟩
end
def GotPostL (g : Nat) (c s : Nat → Int) (b : List Int) (D : DecS) (seed : Int) (w : World) (e : Ending) (w' : World) : Prop :=
  Keeps (fun j => j = g) w w' ∧ (((∀ i, i < 512 → okG c s b D i = true) ∧ ∃ a cp, e = .returned (.tuple #[.slice a 512 cp, .bool true]) ∧ IntsAt w' w'.heap.size .i64 a 512 (tabF 512 (outF c s (getQ (toldT c s) b D) seed))) ∨
    ((∃ i, i < 512 ∧ okG c s b D i = false) ∧ e = .returned (.tuple #[.slice none 0 0, .bool false])))
set_option maxHeartbeats 2000000 in
set_option maxRecDepth 100000 in
theorem refGetLines_any (base g : Nat) (v : Value) (b : List Int) (D : DecS) (a a2 : Option Addr) (cap cap2 : Nat) (zs ss : List Int) (seed : Int) (w : World) (hD : DecMem w base g v b D) (hG : GoodD D) (hb : ∀ j, 0 ≤ byteF b j ∧ byteF b j ≤ 255) (hbl : b.length ≤ 1000000) (hi : D.i ≤ 1000000)
    (h : IntsAt w w.heap.size .i64 a 21 zs) (h2 : IntsAt w w.heap.size .i64 a2 21 ss) (hmay : mayQ zs ss = true) (sd0 : 0 ≤ seed) (sd1 : seed ≤ 4294967295) (hn1 : ∀ r off, a = some ⟨r, off, none⟩ → r ≠ g) (hn2 : ∀ r off, a2 = some ⟨r, off, none⟩ → r ≠ g) :
    Calls Tryz.prog 81 #[.pointer (some ⟨g, 0, none⟩), .slice a 21 cap, .slice a2 21 cap2, .int .u32 seed] w (GotPostL g (fun j => zs.getD j 0) (fun j => ss.getD j 0) b D seed w) := by
  obtain ⟨hr1, hr2, h12⟩ := mayQ_true hmay
  have HI := Lib.hid h
  have HI2 := Lib.hid h2
  have HN1 := Lib.hid hn1
  have HN2 := Lib.hid hn2
  have HC := Lib.hid (rightB_true hr1).2
  have HSs := Lib.hid (rightB_true hr2).2
  have H12 := Lib.hid h12
  have HBy := Lib.hid hb
  have HD := Lib.hid hD
  have hgl := hD.1.lt
  have HOw : RowKit.Hid (∀ r, v.ownBlock = some r → r < w.heap.size) := fun r hr => own_lt hD.2.1 r hr
  obtain ⟨H, hH⟩ : ∃ H, H = outF (fun j => zs.getD j 0) (fun j => ss.getD j 0) (getQ (toldT (fun j => zs.getD j 0) (fun j => ss.getD j 0)) b D) seed := ⟨_, rfl⟩
  obtain ⟨ok, hok⟩ : ∃ ok, ok = okG (fun j => zs.getD j 0) (fun j => ss.getD j 0) b D := ⟨_, rfl⟩
  obtain ⟨T, hT⟩ : ∃ T, T = toldT (fun j => zs.getD j 0) (fun j => ss.getD j 0) := ⟨_, rfl⟩
  have HT : RowKit.Hid (∀ k i, k < 21 → edgeK k ≤ i → i < edgeK (k + 1) → T i = decide (ss.getD k 0 < zs.getD k 0)) := fun k i hk i0 i1 => by rw [hT]; exact toldT_at hk i0 i1
  have HHt : RowKit.Hid (∀ k i, k < 21 → edgeK k ≤ i → i < edgeK (k + 1) → ss.getD k 0 < zs.getD k 0 → getQ T b D i * P2 (ss.getD k 0).toNat = H i ∧ ok i = decide (getK T b D i ≤ (zs.getD k 0 - ss.getD k 0).toNat)) := fun k i hk i0 i1 ht => by
    refine ⟨by rw [hH, hT]; exact (outF_told (c := fun j => zs.getD j 0) (s := fun j => ss.getD j 0) hk i0 i1 ht).symm, ?_⟩
    rw [hok, hT]
    unfold okG
    rw [toldT_at hk i0 i1, of_band hk i0 i1]
    simp only [decide_eq_true ht, Bool.not_true, Bool.false_or]
  have HHn : RowKit.Hid (∀ k i, k < 21 → edgeK k ≤ i → i < edgeK (k + 1) → zs.getD k 0 ≤ ss.getD k 0 → noiseR seed i (zs.getD k 0) = H i ∧ ok i = true) := fun k i hk i0 i1 ht => by
    refine ⟨by rw [hH, ← noiseP_in _ _ ((rightB_true hr1).2 k hk).2]; exact (outF_not (c := fun j => zs.getD j 0) (s := fun j => ss.getD j 0) hk i0 i1 (by omega)).symm, ?_⟩
    rw [hok]
    unfold okG
    rw [toldT_at hk i0 i1]
    simp only [decide_eq_false (show ¬ ss.getD k 0 < zs.getD k 0 by omega), Bool.not_false, Bool.true_or]
  have HPg : RowKit.Hid (∀ n, GoodD (getL T b D n).1 ∧ GoodL (getL T b D n).2 ∧ (getL T b D n).2.length = 13 ∧ (getL T b D n).1.i ≤ D.i + 6 * n) := getL_good hb hG
  have HPt : RowKit.Hid (∀ n, T n = true → getL T b D (n + 1) = ((getX b (getL T b D n).1 (getL T b D n).2).2, learnP (getL T b D n).2 (decWhich (getL T b D n).1 (getL T b D n).2))) := fun n h => getL_told b D h
  have HPn : RowKit.Hid (∀ n, T n = false → getL T b D (n + 1) = getL T b D n) := fun n h => getL_not b D h
  have HPq : RowKit.Hid (∀ n, getQ T b D n = (getX b (getL T b D n).1 (getL T b D n).2).1 ∧ getK T b D n = decWhich (getL T b D n).1 (getL T b D n).2) := fun n => ⟨rfl, rfl⟩
  have HP0 : RowKit.Hid (getL T b D (edgeK 0) = (D, List.replicate 13 1)) := rfl
  have HPost : RowKit.Hid (∀ e w', Keeps (fun j => j = g) w w' → (((∀ i, i < 512 → ok i = true) ∧ ∃ a cp, e = .returned (.tuple #[.slice a 512 cp, .bool true]) ∧ IntsAt w' w'.heap.size .i64 a 512 (tabF 512 H)) ∨ ((∃ i, i < 512 ∧ ok i = false) ∧ e = .returned (.tuple #[.slice none 0 0, .bool false]))) → GotPostL g (fun j => zs.getD j 0) (fun j => ss.getD j 0) b D seed w e w') := fun e w' hk hor => by
    rw [hok, hH] at hor; exact ⟨hk, hor⟩
  generalize getQ T b D = Q at HHt HPq
  generalize getK T b D = K at HHt HPq
  generalize getL T b D = P at HPg HPt HPn HPq HP0
  obtain ⟨L0, hL0⟩ : ∃ L0 : List Int, L0 = List.replicate 13 1 := ⟨_, rfl⟩
  have HNew : RowKit.Hid (Calls Tryz.prog 75 #[.int .i64 13] w fun e w' => ∃ g r, e = .returned (.tuple #[.pointer (some ⟨g, 0, none⟩), .bool true]) ∧ RefMod w' w.heap.size g r L0 false ∧ Below w.heap.size w w') := by rw [hL0]; exact refNew_any 13 w (by decide) (by decide)
  rw [← hL0] at HP0
  generalize GotPostL g (fun j => zs.getD j 0) (fun j => ss.getD j 0) b D seed w = POST at HPost ⊢
  clear hD hG h h2 hmay hr1 hr2 h12 hb hL0 hn1 hn2 hT hH hok
  go_enter Tryz.func81, Tryz.ntmps81
  go_wp2_with (first
    | (go_at_call 75; refine HNew.out.mono ?_; rintro e1 w1 ⟨mg, mr, rfl, hm, hb⟩; have HM1 := Lib.hid hm; have HB1 := Lib.hid hb; clear hm hb)
    | (go_at_call 69; go_loud (refine (ref04Edges_own w1).mono ?_); rintro e1 w2 ⟨er, ec, rfl, he0, he1, hed, hb⟩; have HEd := Lib.hid hed; have HB2 := Lib.hid (chain HB1.out hb); have HM2 := Lib.hid (HM1.out.below hb); clear hed hb))
  have hml := HM1.out.lt
  have hs1 := HB1.out.size
  have hs2 := HB2.out.size
  obtain ⟨B, hB⟩ : ∃ B, B = w2.heap.size := ⟨_, rfl⟩
  have H0 : RowKit.Hid (GotL w B base g mg mr er v b (P (edgeK 0)) (.slice none 0 0) (edgeK 0) H w2 ∧ ∀ j, j < edgeK 0 → ok j = true) := by
    rw [HP0.out, hB]
    refine ⟨⟨HD.out.below HB2.out, HM2.out, HEd.out, World.ownsRow_nil w2 _ _ _, .of_below HB2.out, by omega, HOw.out⟩, fun j hj => ?_⟩
    rw [edgeK_zero] at hj; omega
  clear HM1 HB1 HM2 HP0 HD HNew HEd hB
  go_loopw [13, 14] (fun u i wr => ∃ k : Nat, k ≤ 21 ∧ i = .int .i64 (k : Int) ∧ RowKit.Hid (GotL w B base g mg mr er v b (P (edgeK k)) u (edgeK k) H wr ∧ ∀ j, j < edgeK k → ok j = true)) (fun _ i _ => 21 - (intOf i).toNat)
  case atStart => exact ⟨0, by omega, rfl, H0.out⟩
  case round =>
    obtain ⟨k, hk, rfl, G0⟩ := hrel
    clear H0
    by_cases hlt : k < 21
    · obtain ⟨zb, zo, rfl, hzb, _, _⟩ := HI.out.at_ hlt
      obtain ⟨sb, so, rfl, hsb, _, _⟩ := HI2.out.at_ hlt
      have nz1 := HN1.out _ _ rfl
      have ns1 := HN2.out _ _ rfl
      have HZc : RowKit.Hid (∀ wx, Keeps (fun j => j = g) w wx → wx.cell? ⟨zb, zo + k, none⟩ = some (.int .i64 (zs.getD k 0)) ∧ wx.cell? ⟨sb, so + k, none⟩ = some (.int .i64 (ss.getD k 0))) := fun wx hkx => by
        obtain ⟨b1, o1, e1, _, _, c1⟩ := HI.out.at_ hlt
        obtain ⟨b2, o2, e2, _, _, c2⟩ := HI2.out.at_ hlt
        injection e1 with e1
        injection e1 with e1 e1'
        injection e2 with e2
        injection e2 with e2 e2'
        subst e1; subst e1'; subst e2; subst e2'
        exact ⟨(World.cell?_of_block (a := ⟨zb, zo + k, none⟩) (hkx.block zb hzb nz1)).trans c1, (World.cell?_of_block (a := ⟨sb, so + k, none⟩) (hkx.block sb hsb ns1)).trans c2⟩
      obtain ⟨c0, c1⟩ := HC.out k hlt
      obtain ⟨s0, s1⟩ := HSs.out k hlt
      have cs := H12.out k hlt
      obtain ⟨ed1, ed2⟩ := edgeK_lt k hlt
      have d1 := G0.out.1.e k (by omega)
      have HTk : RowKit.Hid (∀ i, edgeK k ≤ i → i < edgeK (k + 1) → T i = decide (ss.getD k 0 < zs.getD k 0)) := fun i => HT.out k i hlt
      have HHk : RowKit.Hid (∀ i, edgeK k ≤ i → i < edgeK (k + 1) → ss.getD k 0 < zs.getD k 0 → Q i * P2 (ss.getD k 0).toNat = H i ∧ ok i = decide (K i ≤ (zs.getD k 0 - ss.getD k 0).toNat)) := fun i => HHt.out k i hlt
      have HHm : RowKit.Hid (∀ i, edgeK k ≤ i → i < edgeK (k + 1) → zs.getD k 0 ≤ ss.getD k 0 → noiseR seed i (zs.getD k 0) = H i ∧ ok i = true) := fun i => HHn.out k i hlt
      generalize zs.getD k 0 = c at c0 c1 cs HTk HHk HHm HZc
      generalize ss.getD k 0 = s at s0 s1 cs HTk HHk HHm HZc
      obtain ⟨B2, hB⟩ : ∃ B2, B2 = edgeK (k + 1) := ⟨_, rfl⟩
      have HDk : RowKit.Hid (∀ S u q wx, GotL w B base g mg mr er v b S u q H wx → wx.cell? ⟨er, k + 1, none⟩ = some (.int .i64 (B2 : Int))) := fun S u q wx hx => by rw [hB]; exact hx.e (k + 1) (by omega)
      rw [← hB] at ed1 ed2 HTk HHk HHm
      have HBk := Lib.hid hB
      clear hB
      generalize edgeK k = A at d1 ed1 HTk HHk HHm G0
      have l0 : (k : Int) < 21 := by omega
      have uk : IntKind.i64.wrap ((k : Int) + 1) = (k : Int) + 1 := IntWalk.i64_in _ (by omega)
      obtain ⟨nn, hnn⟩ : ∃ nn, nn = B2 - A := ⟨_, rfl⟩
      have hB2 : B2 = A + nn := by omega
      have HEnd : RowKit.Hid (edgeK (k + 1) = A + nn) := by show _ = _; rw [← HBk.out]; exact hB2
      have HAB : RowKit.Hid (B2 = A + nn ∧ B2 ≤ 512) := ⟨hB2, ed2⟩
      clear hnn HBk hB2 ed2
      go_wp2
      go_loopw [13, 15] (fun u i wx => ∃ m : Nat, m ≤ nn ∧ i = .int .i64 ((A + m : Nat) : Int) ∧ RowKit.Hid (GotL w B base g mg mr er v b (P (A + m)) u (A + m) H wx ∧ ∀ j, j < A + m → ok j = true)) (fun _ i _ => A + nn - (intOf i).toNat)
      case atStart => exact ⟨0, by omega, rfl, G0.out⟩
      case round =>
        obtain ⟨m, hm, rfl, G⟩ := hrel
        clear G0 d1
        have d2 := HDk.out _ _ _ _ G.out.1
        obtain ⟨z1, z2⟩ := HZc.out _ G.out.1.k
        obtain ⟨I, hI⟩ : ∃ I, I = A + m := ⟨_, rfl⟩
        rw [← hI] at G ⊢
        have hAB := HAB.out
        by_cases hmn : m < nn
        · have l1 : (I : Int) < (B2 : Int) := by omega
          have i1 : I < 512 := by omega
          have hAI : A ≤ I := by omega
          have hIB : I < B2 := by omega
          have HI1 : RowKit.Hid (I + 1 = A + (m + 1)) := by show _ = _; omega
          have HIE : RowKit.Hid (I < A + nn) := by show _ < _; omega
          have HTi := HTk.out I hAI hIB
          have HSn : RowKit.Hid (∀ y, H I = y → tabF I H ++ [y] = tabF (I + 1) H) := fun y hy => tabE_snoc H I y hy
          clear hI hAB
          go_wp2
          by_cases htd : s < c
          · have htn : ¬ c ≤ s := by omega
            go_quiet (fail)
            obtain ⟨g1, g2, g3, g4⟩ := HPg.out I
            have hPI := HPt.out I (by rw [HTi]; exact decide_eq_true htd)
            obtain ⟨hqi, hki⟩ := HPq.out I
            obtain ⟨hHi, hoki⟩ := HHk.out I hAI hIB htd
            have hdi : (P I).1.i ≤ 2000000 := by omega
            have G2 := Lib.hid (G.out.1.drewN nq)
            clear z1 z2 d2 HTi htn
            generalize wr.drewN nq = wa at G2 ⊢
            rw [← hki] at hPI
            generalize P I = S at g1 g2 g3 hPI hqi hki hdi G2
            generalize K I = kk at hPI hki hoki
            obtain ⟨s1', s2', s3'⟩ := decSymQ_good HBy.out g1 g2
            rw [← hki] at s3'
            have hk12 : kk ≤ 12 := by omega
            have HSy : RowKit.Hid (∀ u wx, GotL w B base g mg mr er v b S u I H wx → Calls Tryz.prog 113 #[.pointer (some ⟨g, 0, none⟩), .pointer (some ⟨mg, 0, none⟩)] wx fun e w' => e = .returned (.int .i64 (kk : Int)) ∧ GotL w B base g mg mr er v b (decSym b S.1 S.2, learnP S.2 kk) u I H w') := fun u wx hx => by rw [hki]; exact hx.sym g1 g2 HBy.out hbl (by omega)
            have u1 : IntKind.i64.wrap (c - s) = c - s := IntWalk.i64_in _ (by omega)
            obtain ⟨S1, hS1⟩ : ∃ S1 : DecS × List Int, S1 = (decSym b S.1 S.2, learnP S.2 kk) := ⟨_, rfl⟩
            have e1 : decSym b S.1 S.2 = S1.1 := by rw [hS1]
            rw [← hS1] at HSy
            obtain ⟨y, hy⟩ : ∃ y, H I = y := ⟨_, rfl⟩
            have HT1 := Lib.hid (HSn.out y hy)
            rw [hy] at hHi
            have HHid : RowKit.Hid (kk = decWhich S.1 S.2 ∧ S1 = (decSym b S.1 S.2, learnP S.2 kk) ∧ decSym b S.1 S.2 = S1.1 ∧ P (I + 1) = ((getX b S.1 S.2).2, learnP S.2 kk) ∧ Q I = (getX b S.1 S.2).1 ∧ Q I * P2 s.toNat = y ∧ ok I = decide (kk ≤ (c - s).toNat)) := ⟨hki, hS1, e1, hPI, hqi, hHi, hoki⟩
            clear hy hki hS1 e1 hPI hqi hHi hoki
            go_wp2_with (go_at_call 113; refine (HSy.out _ _ G2.out).mono ?_; rintro e1 w5 ⟨rfl, hp⟩; have HP5 := Lib.hid hp; clear hp)
            obtain ⟨z1, z2⟩ := HZc.out _ HP5.out.k
            go_quiet (fail)
            have G6 := Lib.hid (HP5.out.drewN nq)
            clear z1 z2 HP5 G2 HSy
            generalize w5.drewN nq = w6 at G6 ⊢
            obtain ⟨z1, z2⟩ := HZc.out _ G6.out.k
            obtain ⟨hki, hS1, e1, hPI, hqi, hHi, hoki⟩ := HHid.out
            by_cases hbig : (c - s).toNat < kk
            · have HOk : RowKit.Hid (ok I = false) := by show _ = _; rw [hoki]; exact decide_eq_false (by omega)
              have d9 : c - s < (kk : Int) := by omega
              clear hoki hHi hPI hqi hki g1 g2 g3 s1' s2' s3' e1 hS1 hbig
              go_wp2
              exact HPost.out _ _ G6.out.k (.inr ⟨⟨I, i1, HOk.out⟩, rfl⟩)
            · have HOk : RowKit.Hid (ok I = true) := by show _ = _; rw [hoki]; exact decide_eq_true (by omega)
              have d9 : ¬ c - s < (kk : Int) := by omega
              obtain ⟨sn, hsn⟩ : ∃ sn : Nat, s = sn := ⟨s.toNat, by omega⟩
              subst hsn
              rw [Int.toNat_natCast] at hHi
              have hsn26 : sn ≤ 26 := by omega
              clear hoki
              by_cases h0 : kk = 0
              · rw [h0] at hki
                have hE := getX_none b hki.symm
                have HPt2 : RowKit.Hid (S1 = P (I + 1)) := by show _ = _; rw [hPI, hS1, hE]
                have hy0 : y = 0 := by rw [← hHi, hqi, hE]; simp
                subst h0
                subst hy0
                have HA := Lib.hid (G6.out.alloc (.cells #[.int .i64 0] 2))
                have hsrc := Lib.hid (lit_ints w6 2 .i64 [0] #[.int .i64 0] (0, 0) rfl (by simp))
                clear hHi hPI hqi hki g1 g2 g3 s1' s2' s3' e1 hS1 hbig hE
                go_wp2_with (first
                  | (at_builtin; have hB2 := HA.out.o; go_loud (refine append_ints rfl _ _ 66 rfl B 2 .i64 8 Tryz.underlying66 infoE_i64 _ I (tabF I H) rfl HA.out.i (some ⟨w6.heap.size, 0, none⟩) 1 1 _ [0] rfl hsrc.out (by simp) (by unfold maxLen; omega) (by omega) (by omega) ?_); intro v1 w3 hown hgrow _; rw [HT1.out] at hown; have HV := Lib.hid (HA.out.app hown hgrow); rw [HPt2.out] at HV; clear hown hgrow)
                  | fail)
                go_roundw
                case rel => exact ⟨m + 1, by omega, by rw [← HI1.out]; go_num, by rw [← HI1.out]; exact ⟨HV.out, fun j hj => (Nat.lt_or_eq_of_le (Nat.le_of_lt_succ hj)).elim (G.out.2 j) fun e => e ▸ HOk.out⟩⟩
                case measure => have := HIE.out; simp [intOf] <;> omega
              · have hE := getX_some b (D := S.1) (L := S.2) (by rw [← hki]; exact h0)
                rw [← hki] at hE
                obtain ⟨j, hkj⟩ : ∃ j, kk - 1 = j := ⟨kk - 1, rfl⟩
                have hj11 : j ≤ 11 := by omega
                obtain ⟨t1, t2, t3, t4⟩ := decBitsQ_good (k := 1) HBy.out s1' (by decide)
                obtain ⟨v1, v2, v3, v4⟩ := decBitsQ_good (k := j) HBy.out t1 (by omega)
                rw [hkj] at hE
                rw [e1] at hE s1' s2' t1 t2 t3 t4 v1 v2 v3 v4
                obtain ⟨S2, hS2⟩ : ∃ S2 : DecS × List Int, S2 = ((decBits b S1.1 0 1).2, S1.2) := ⟨_, rfl⟩
                have e2 : (decBits b S1.1 0 1).2 = S2.1 := by rw [hS2]
                have HB1 : RowKit.Hid (∀ u wx, GotL w B base g mg mr er v b S1 u I H wx → Calls Tryz.prog 79 #[.pointer (some ⟨g, 0, none⟩), .int .i64 1] wx fun e w' => e = .returned (.int .i64 (decBits b S1.1 0 1).1) ∧ GotL w B base g mg mr er v b S2 u I H w') := fun u wx hx => by rw [hS2]; exact hx.bits (n := 1) s1' HBy.out hbl (by omega) (by decide)
                rw [e2] at hE t1 t2 v1 v2 v3 v4
                obtain ⟨S3, hS3⟩ : ∃ S3 : DecS × List Int, S3 = ((decBits b S2.1 0 j).2, S2.2) := ⟨_, rfl⟩
                have HBj : RowKit.Hid (∀ u wx, GotL w B base g mg mr er v b S2 u I H wx → Calls Tryz.prog 79 #[.pointer (some ⟨g, 0, none⟩), .int .i64 (j : Int)] wx fun e w' => e = .returned (.int .i64 (decBits b S2.1 0 j).1) ∧ GotL w B base g mg mr er v b S3 u I H w') := fun u wx hx => by rw [hS3]; exact hx.bits (n := j) t1 HBy.out hbl (by omega) (by omega)
                have HPt2 : RowKit.Hid (S3 = P (I + 1)) := by show _ = _; rw [hPI, hE, hS3, hS2, hS1]
                have HPw : RowKit.Hid (∀ wx, Calls Tryz.prog 77 #[.int .i64 (j : Int)] wx fun e w' => e = .returned (.int .i64 (P2 j)) ∧ wx = w') := fun wx => ref10Power_any j wx (by omega)
                rw [hqi, hE] at hHi
                simp only at hHi
                have p0 := P2_pos j
                have p1 := P2_12 (k := j) (by omega)
                have q0 := P2_pos sn
                have q1 := P2_mono (a := sn) (b := 26) hsn26
                rw [show P2 26 = 67108864 by decide] at q1
                have hp : (2 : Int) ^ sn = P2 sn := rfl
                rw [show P2 1 = 2 by decide] at t4
                have HR6 := Lib.hid (HZc.out)
                clear hPI hqi hki g1 g2 g3 s1' s2' s3' e1 hS1 hbig hE hS2 hS3 e2 t1 t2 v1 v2
                generalize (decBits b S1.1 0 1).1 = sg at HB1 hHi t3 t4
                generalize (decBits b S2.1 0 j).1 = lw at HBj hHi v3 v4
                generalize P2 j = p at hHi v4 p0 p1 HPw
                generalize P2 sn = ps at hHi q0 q1 hp
                have d0 : 0 < (kk : Int) := by omega
                have c3 : IntKind.i64.wrap ((kk : Int) - 1) = (j : Int) := by rw [show (kk : Int) - 1 = j by omega]; exact IntWalk.i64_in _ (by omega)
                have c4 : IntKind.i64.wrap (lw + p) = lw + p := IntWalk.i64_in _ (by omega)
                have c5 : IntKind.i64.wrap (-(lw + p)) = -(lw + p) := IntWalk.i64_in _ (by omega)
                have hbd : (lw + p) * ps ≤ 8192 * 67108864 := Int.mul_le_mul (by omega) q1 (by omega) (by decide)
                have hbd0 : 0 ≤ (lw + p) * ps := Int.mul_nonneg (by omega) (by omega)
                clear h0 hkj
                by_cases hs : sg = 1
                · subst hs
                  rw [if_pos rfl] at hHi
                  have c6 : IntKind.i64.wrap (-(lw + p) * 2 ^ sn) = y := by rw [hp, hHi]; exact IntWalk.i64_in _ (by rw [← hHi, Int.neg_mul]; omega)
                  clear hHi hp hbd hbd0
                  go_wp2_with (first
                    | (go_at_call 79; have hx := GP2.out; refine (HBj.out _ _ hx).mono ?_; rintro e1 w8 ⟨rfl, hp⟩; have HA := Lib.hid (hp.alloc (.cells #[.int .i64 y] 2)); have hsrc := Lib.hid (lit_ints w8 2 .i64 [y] #[.int .i64 y] (0, 0) rfl (by simp)); obtain ⟨z5, z6⟩ := HR6.out _ hp.k; clear hp hx GP2)
                    | (go_at_call 79; refine (HB1.out _ _ G6.out).mono ?_; rintro e1 w7 ⟨rfl, hp⟩; have GP2 := Lib.hid hp; clear hp)
                    | (go_at_call 77; refine (HPw.out _).mono ?_; rintro e1 w9 ⟨rfl, rfl⟩)
                    | (at_builtin; have hB2 := HA.out.o; go_loud (refine append_ints rfl _ _ 66 rfl B 2 .i64 8 Tryz.underlying66 infoE_i64 _ I (tabF I H) rfl HA.out.i (some ⟨w8.heap.size, 0, none⟩) 1 1 _ [y] rfl hsrc.out (by simp) (by unfold maxLen; omega) (by omega) (by omega) ?_); intro v1 w3 hown hgrow _; rw [HT1.out] at hown; have HV := Lib.hid (HA.out.app hown hgrow); rw [HPt2.out] at HV; clear hown hgrow)
                    | fail)
                  go_roundw
                  case rel => exact ⟨m + 1, by omega, by rw [← HI1.out]; go_num, by rw [← HI1.out]; exact ⟨HV.out, fun j hj => (Nat.lt_or_eq_of_le (Nat.le_of_lt_succ hj)).elim (G.out.2 j) fun e => e ▸ HOk.out⟩⟩
                  case measure => have := HIE.out; simp [intOf] <;> omega
                · rw [if_neg hs] at hHi
                  have dsg : (sg == 1) = false := by simp; omega
                  have c6 : IntKind.i64.wrap ((lw + p) * 2 ^ sn) = y := by rw [hp, hHi]; exact IntWalk.i64_in _ (by rw [← hHi]; omega)
                  clear hHi hp hbd hbd0 hs
                  go_wp2_with (first
                    | (go_at_call 79; have hx := GP2.out; refine (HBj.out _ _ hx).mono ?_; rintro e1 w8 ⟨rfl, hp⟩; have HA := Lib.hid (hp.alloc (.cells #[.int .i64 y] 2)); have hsrc := Lib.hid (lit_ints w8 2 .i64 [y] #[.int .i64 y] (0, 0) rfl (by simp)); obtain ⟨z5, z6⟩ := HR6.out _ hp.k; clear hp hx GP2)
                    | (go_at_call 79; refine (HB1.out _ _ G6.out).mono ?_; rintro e1 w7 ⟨rfl, hp⟩; have GP2 := Lib.hid hp; clear hp)
                    | (go_at_call 77; refine (HPw.out _).mono ?_; rintro e1 w9 ⟨rfl, rfl⟩)
                    | (at_builtin; have hB2 := HA.out.o; go_loud (refine append_ints rfl _ _ 66 rfl B 2 .i64 8 Tryz.underlying66 infoE_i64 _ I (tabF I H) rfl HA.out.i (some ⟨w8.heap.size, 0, none⟩) 1 1 _ [y] rfl hsrc.out (by simp) (by unfold maxLen; omega) (by omega) (by omega) ?_); intro v1 w3 hown hgrow _; rw [HT1.out] at hown; have HV := Lib.hid (HA.out.app hown hgrow); rw [HPt2.out] at HV; clear hown hgrow)
                    | fail)
                  go_roundw
                  case rel => exact ⟨m + 1, by omega, by rw [← HI1.out]; go_num, by rw [← HI1.out]; exact ⟨HV.out, fun j hj => (Nat.lt_or_eq_of_le (Nat.le_of_lt_succ hj)).elim (G.out.2 j) fun e => e ▸ HOk.out⟩⟩
                  case measure => have := HIE.out; simp [intOf] <;> omega
          · have htn : c ≤ s := by omega
            obtain ⟨hHi, hoki⟩ := HHm.out I hAI hIB htn
            have HHi := Lib.hid hHi
            have HOk := Lib.hid hoki
            have HPi := Lib.hid (HPn.out I (by rw [HTi]; simpa using htd))
            have HNz : RowKit.Hid (∀ wx, Calls Tryz.prog 115 #[.int .u32 seed, .int .i64 (I : Int), .int .i64 c] wx fun e w' => e = .returned (.int .i64 (H I)) ∧ wx = w') := fun wx => by rw [← HHi.out]; exact ref10Noise_any seed I c wx sd0 sd1 (by omega) (by omega)
            clear hHi hoki htd HTi
            go_quiet (fail)
            have G2 := Lib.hid (G.out.1.drewN nq)
            clear z1 z2 d2
            generalize wr.drewN nq = wa at G2 ⊢
            obtain ⟨z1, z2⟩ := HZc.out _ G2.out.k
            have HT1 := Lib.hid (HSn.out (H I) rfl)
            generalize hyy : H I = y at HNz HT1
            clear hyy
            go_wp2_with (first
              | (go_at_call 115; refine (HNz.out _).mono ?_; rintro e1 w5 ⟨rfl, rfl⟩; have HA := Lib.hid (G2.out.alloc (.cells #[.int .i64 y] 2)); have hsrc := Lib.hid (lit_ints wa 2 .i64 [y] #[.int .i64 y] (0, 0) rfl (by simp)))
              | (at_builtin; have hB2 := HA.out.o; go_loud (refine append_ints rfl _ _ 66 rfl B 2 .i64 8 Tryz.underlying66 infoE_i64 _ I (tabF I H) rfl HA.out.i (some ⟨wa.heap.size, 0, none⟩) 1 1 _ [y] rfl hsrc.out (by simp) (by unfold maxLen; omega) (by omega) (by omega) ?_); intro v1 w3 hown hgrow _; rw [HT1.out] at hown; have HV := Lib.hid (HA.out.app hown hgrow); clear hown hgrow)
              | fail)
            go_roundw
            case rel => exact ⟨m + 1, by omega, by rw [← HI1.out]; go_num, by rw [← HI1.out, HPi.out]; exact ⟨HV.out, fun j hj => (Nat.lt_or_eq_of_le (Nat.le_of_lt_succ hj)).elim (G.out.2 j) fun e => e ▸ HOk.out⟩⟩
            case measure => have := HIE.out; simp [intOf] <;> omega
        · obtain rfl : m = nn := by omega
          have l1 : ¬ (I : Int) < (B2 : Int) := by omega
          have Z : RowKit.Hid (GotL w B base g mg mr er v b (P (edgeK (k + 1))) u13 (edgeK (k + 1)) H wr ∧ ∀ j, j < edgeK (k + 1) → ok j = true) := by rw [HEnd.out, ← hI]; exact G.out
          clear hI hAB hmn hm
          go_wp2
          go_roundw
          case rel => exact ⟨k + 1, by omega, by go_num, Z.out⟩
          case measure => simp [intOf] <;> omega
    · obtain rfl : k = 21 := by omega
      have Z := Lib.hid G0.out
      rw [edgeK_last] at Z
      obtain ⟨ua, uc, rfl⟩ := own_form Z.out.1.i
      have HIf := Lib.hid (own_ints' Z.out.1.i)
      go_wp2
      exact HPost.out _ _ Z.out.1.k (.inl ⟨Z.out.2, ua, uc, rfl, HIf.out⟩)
end Go.Proofs.YtmgfkdmjgjlkjaaGreat

namespace Go.Proofs.YtmgfkdmjgjlkjaaGreat
open Go.RowKit
set_option linter.unusedVariables false
theorem tabF_snocM (F : Nat → Int) (k : Nat) {y : Int} (h : y = F k) : tabF k F ++ [y] = tabF (k + 1) F := by
  subst h; unfold tabF; rw [List.range_succ, List.map_append]; rfl
def RefStepsPost (l : Nat → Int) (q x : Int) (w : World) (e : Ending) (w' : World) : Prop :=
  ∃ a c, e = .returned (.slice a 21 c) ∧ IntsAt w' w'.heap.size .i64 a 21 (tabF 21 (stepF l q x)) ∧ Below w.heap.size w w'
set_option maxHeartbeats 1000000 in
set_option maxRecDepth 100000 in
theorem ref10Steps_any (a : Option Addr) (cap : Nat) (zs : List Int) (q x : Int) (w : World) (h : IntsAt w w.heap.size .i64 a 21 zs) (hok : mayStep zs q x) :
    Calls Tryz.prog 39 #[.slice a 21 cap, .int .i64 q, .int .i64 x] w (RefStepsPost (fun j => zs.getD j 0) q x w) := by
  obtain ⟨hr, q0, q1, x0, x1⟩ := hok
  have H0 := Lib.hid h
  have HRb := Lib.hid (rightB_true hr).2
  obtain ⟨F, hF⟩ : ∃ F, F = stepF (fun j => zs.getD j 0) q x := ⟨_, rfl⟩
  have HF := Lib.hid hF
  have HE : RowKit.Hid (∀ k, F k = min (max (max (thrTo (fun j => zs.getD j 0) k 21 - q + x) (zs.getD k 0 - 12)) 0) (zs.getD k 0)) := fun k => by rw [hF]; rfl
  have HI0 : RowKit.Hid (w.ownsRow w.heap.size 3 1 (.slice none 0 0) 0 ((tabF 0 F).map (Value.int .i64)) ∧ Below w.heap.size w w) := ⟨World.ownsRow_nil w w.heap.size 3 1, Below.refl _ _⟩
  have HSn := Lib.hid (fun k (y : Int) (h : y = F k) => tabF_snocM F k h)
  clear h hr hF
  go_enter Tryz.func39, Tryz.ntmps39
  go_wp2
  go_loopw [7, 8] (fun v i wr => ∃ (k : Nat) (u : Value), u = v ∧ k ≤ 21 ∧ i = .int .i64 (k : Int) ∧ RowKit.Hid (wr.ownsRow w.heap.size 3 1 u k ((tabF k F).map (Value.int .i64)) ∧ Below w.heap.size w wr)) (fun _ i _ => 21 - (intOf i).toNat)
  case atStart => exact ⟨0, _, rfl, by omega, rfl, HI0.out⟩
  case round =>
    obtain ⟨k, u, rfl, hk, rfl, H⟩ := hrel
    clear HI0
    by_cases hlt : k < 21
    · have HW : RowKit.Hid (IntsAt wr wr.heap.size .i64 a 21 zs) := H0.out.now H.out.2 (Nat.le_refl _)
      have hsz := H.out.2.size
      have HA : RowKit.Hid (∀ y, (wr.alloc (.cells #[.int .i64 y] 3)).ownsRow w.heap.size 3 1 u k ((tabF k F).map (Value.int .i64))) := fun y => World.ownsRow.alloc H.out.1 _
      have HAB : RowKit.Hid (∀ y, Below w.heap.size w (wr.alloc (.cells #[.int .i64 y] 3))) := fun y => H.out.2.alloc hsz _
      have HSr : RowKit.Hid (∀ y, IntsAt (wr.alloc (.cells #[.int .i64 y] 3)) (wr.alloc (.cells #[.int .i64 y] 3)).heap.size .i64 (some ⟨wr.heap.size, 0, none⟩) 1 [y]) := fun y => lit_ints wr 3 .i64 [y] #[.int .i64 y] (0, 0) rfl (by simp)
      have HOB := Lib.hid (own_base H.out.1)
      obtain ⟨T, hT⟩ : ∃ T, T = thrTo (fun j => zs.getD j 0) k := ⟨_, rfl⟩
      have HV := Lib.hid (HE.out k)
      have HB : RowKit.Hid (∀ n, n ≤ 21 → 0 ≤ T n ∧ T n ≤ 26) := fun n hn => by rw [hT]; exact thrTo_bd hlt n hn fun j hj => HRb.out j (by omega)
      have HS : RowKit.Hid (∀ n, T (n + 1) = max (T n) (zs.getD n 0 - fadeF n k)) := fun n => by rw [hT]; rfl
      have HZ : RowKit.Hid (T 0 = 0) := by show _ = _; rw [hT]; rfl
      rw [← hT] at HV
      clear hT H
      have l1 : (k : Int) < 21 := by omega
      go_wp2
      go_loop [9, 10] (fun m i => ∃ j : Nat, j ≤ 21 ∧ i = .int .i64 (j : Int) ∧ m = .int .i64 (T j)) (fun _ i => 21 - (intOf i).toNat)
      case atStart => exact ⟨0, by omega, rfl, by rw [HZ.out]⟩
      case round =>
        obtain ⟨j, hj, rfl, rfl⟩ := hrel
        by_cases hlj : j < 21
        · obtain ⟨bb, off, rfl, _, _, hcell⟩ := HW.out.at_ hlj
          obtain ⟨x0, x1⟩ := HRb.out j hlj
          obtain ⟨t0, t1⟩ := HB.out j (by omega)
          have HN := Lib.hid (HS.out j)
          generalize zs.getD j 0 = x at hcell x0 x1 HN
          generalize T j = t at t0 t1 HN
          have l2 : (j : Int) < 21 := by omega
          by_cases hjk : j < k
          · have HFd := Lib.hid (fadeF_below hjk)
            have l3 : ¬ (k : Int) < (j : Int) := by omega
            go_wp2
            all_goals
              go_round
              case rel => exact ⟨j + 1, by omega, by go_num, by rw [HN.out, HFd.out]; go_num⟩
              case measure => simp [intOf] <;> omega
          · have HFd := Lib.hid (fadeF_above hjk)
            by_cases hjk2 : j = k
            · subst hjk2
              clear hjk
              have l3 : ¬ (j : Int) < (j : Int) := by omega
              go_wp2
              all_goals
                go_round
                case rel => exact ⟨j + 1, by omega, by go_num, by rw [HN.out, HFd.out]; go_num⟩
                case measure => simp [intOf] <;> omega
            · have l3 : (k : Int) < (j : Int) := by omega
              go_wp2
              all_goals
                go_round
                case rel => exact ⟨j + 1, by omega, by go_num, by rw [HN.out, HFd.out]; go_num⟩
                case measure => simp [intOf] <;> omega
        · obtain rfl : j = 21 := by omega
          obtain ⟨bb, off, rfl, _, _, hcell⟩ := HW.out.at_ hlt
          obtain ⟨n0, n1⟩ := HRb.out k hlt
          obtain ⟨t0, t1⟩ := HB.out 21 (by omega)
          generalize zs.getD k 0 = n at hcell n0 n1 HV
          generalize T 21 = t at t0 t1 HV
          go_wp2_with (at_builtin; go_loud (refine append_ints rfl _ _ 68 rfl w.heap.size 3 .i64 8 Tryz.underlying68 infoE_int _ k (tabF k F) rfl (HA.out _) (some ⟨wr.heap.size, 0, none⟩) 1 1 _ [_] rfl (HSr.out _) (by simp) (by unfold maxLen; omega) (by omega) (by simp; omega) ?_); intro v2 w2 hown hgrow _; rw [HSn.out k _ (by rw [HV.out]; omega)] at hown; have H2 : RowKit.Hid (w2.ownsRow w.heap.size 3 1 v2 (k + 1) ((tabF (k + 1) F).map (Value.int .i64)) ∧ Below w.heap.size w w2) := ⟨hown, (HAB.out _).grown hgrow (by simp; omega) HOB.out⟩; clear hown hgrow)
          all_goals
            go_roundw
            case rel => exact ⟨k + 1, v2, rfl, by omega, by go_num, H2.out⟩
            case measure => simp [intOf] <;> omega
    · obtain rfl : k = 21 := by omega
      have HI := Lib.hid (own_ints H.out.1)
      have HB := Lib.hid H.out.2
      clear H
      go_wp2
      go_ret
      obtain ⟨a, c, rfl, hi⟩ := HI.out
      exact ⟨a, c, rfl, by rw [← HF.out]; exact hi, HB.out⟩
end Go.Proofs.YtmgfkdmjgjlkjaaGreat
