/- Plain facts, and what functions give, for the proofs of this seat: several texts in one, each with its own first remark. -/
import Derived.Test.YtmgfkdmjgjlkjaaGreatAx

namespace Go.Proofs.YtmgfkdmjgjlkjaaGreat
open Go.RowKit
set_option linter.unusedVariables false
theorem edges_own {w : World} {B : Nat} {v : Value} (h : w.ownsRow B 3 1 v 22 (edgesL.map (Value.int .i64))) : ∃ r c, v = .slice (some ⟨r, 0, none⟩) 22 c ∧ B ≤ r ∧ r < w.heap.size ∧ ∀ k, k < 22 → w.cell? ⟨r, k, none⟩ = some (.int .i64 (edgeK k : Int)) := by
  obtain ⟨a, c, rfl⟩ := own_form h
  rcases h.2 with ⟨e, _⟩ | ⟨g, cap, cur, e, _⟩
  · cases e
  · injection e with e1
    subst e1
    refine ⟨g, c, rfl, own_base h g rfl, own_lt h g rfl, fun k hk => ?_⟩
    rw [h.cellAt k (by omega), ← edgeK_eq hk]
    unfold edgeN
    rw [List.getElem?_map, List.getElem?_eq_getElem (show k < edgesL.length from hk)]
    simp [List.getD, show k < edgesL.length from hk]
set_option maxRecDepth 100000 in
theorem ref04Edges_own (w : World) :
    Calls Tryz.prog 69 #[] w fun e w' => ∃ r c, e = .returned (.slice (some ⟨r, 0, none⟩) 22 c) ∧ w.heap.size ≤ r ∧ r < w'.heap.size ∧ (∀ k, k < 22 → w'.cell? ⟨r, k, none⟩ = some (.int .i64 (edgeK k : Int))) ∧ Below w.heap.size w w' := by
  have hO := Lib.hid (World.ownsRow_lit (base := w.heap.size) (e := 3) (size := 1) w #[.int .i64 0] 1 (Nat.le_refl _) (by decide) rfl)
  have hB := Lib.hid (Below.alloc_new w (.cells #[.int .i64 0] 3))
  go_enter Tryz.func69, Tryz.ntmps69
  go_wp2
  go_loopw [1, 2, 3, 4] (fun v a i _ wr => ∃ k : Nat, k ≤ 21 ∧ i = .int .i64 k ∧ a = .int .i64 (edgeN k) ∧ RowKit.Hid (wr.ownsRow w.heap.size 3 1 v (k + 1) ((edgesL.take (k + 1)).map (Value.int .i64)) ∧ Below w.heap.size w wr))
    (fun _ _ i _ _ => (21 - intOf i).toNat)
  case atStart => exact ⟨0, by omega, rfl, rfl, hO.out, hB.out⟩
  case round =>
    obtain ⟨k, hk, rfl, rfl, H⟩ := hrel
    clear hO hB
    by_cases hlt : k < 21
    · obtain ⟨e0, e1⟩ := edge_bd k (by omega)
      have HT := Lib.hid (edge_take k hlt)
      have hsz := H.out.2.size
      have cls : ∃ d : Int, 0 ≤ d ∧ d ≤ 160 ∧ edgeN (k + 1) = edgeN k + d ∧ ((k < 8 ∧ d = 4) ∨ (8 ≤ k ∧ k < 12 ∧ d = 8) ∨ (12 ≤ k ∧ k < 16 ∧ d = 16) ∨ (16 ≤ k ∧ k < 18 ∧ d = 32) ∨ (18 ≤ k ∧ k ≤ 18 ∧ d = 64) ∨ (19 ≤ k ∧ k ≤ 19 ∧ d = 96) ∨ (20 ≤ k ∧ k ≤ 20 ∧ d = 160)) := by
        by_cases h1 : k < 8
        · exact ⟨4, by omega, by omega, edge_4 k h1, .inl ⟨h1, rfl⟩⟩
        · by_cases h2 : k < 12
          · exact ⟨8, by omega, by omega, edge_8 k (by omega) h2, .inr (.inl ⟨by omega, h2, rfl⟩)⟩
          · by_cases h3 : k < 16
            · exact ⟨16, by omega, by omega, edge_16 k (by omega) h3, .inr (.inr (.inl ⟨by omega, h3, rfl⟩))⟩
            · by_cases h4 : k < 18
              · exact ⟨32, by omega, by omega, edge_32 k (by omega) h4, .inr (.inr (.inr (.inl ⟨by omega, h4, rfl⟩)))⟩
              · have : k = 18 ∨ k = 19 ∨ k = 20 := by omega
                rcases this with rfl | rfl | rfl
                · exact ⟨64, by omega, by omega, edge_last.1, by omega⟩
                · exact ⟨96, by omega, by omega, edge_last.2.1, by omega⟩
                · exact ⟨160, by omega, by omega, edge_last.2.2, by omega⟩
      obtain ⟨d, d0, d1, hd, cls⟩ := cls
      have HD := Lib.hid hd
      clear hd
      generalize edgeN k = x at e0 e1 HD
      have hrow := Lib.hid H.out.1
      have hbel := Lib.hid (H.out.2.alloc hsz (.cells #[.int .i64 (x + d)] 3))
      have hsrc := Lib.hid (lit_ints wr 3 .i64 [x + d] #[.int .i64 (x + d)] (0, 0) rfl (by simp))
      have hown0 := Lib.hid (World.ownsRow.alloc H.out.1 (.cells #[.int .i64 (x + d)] 3))
      have hob := Lib.hid (own_base H.out.1)
      rcases cls with ⟨k0, rfl⟩ | ⟨k0, k1, rfl⟩ | ⟨k0, k1, rfl⟩ | ⟨k0, k1, rfl⟩ | ⟨k0, k1, rfl⟩ | ⟨k0, k1, rfl⟩ | ⟨k0, k1, rfl⟩
      all_goals
        go_wp2_with (at_builtin; go_loud (refine append_ints rfl _ _ 68 rfl w.heap.size 3 .i64 8 Tryz.underlying68 info_int04 _ (k + 1) (edgesL.take (k + 1)) rfl hown0.out (some ⟨wr.heap.size, 0, none⟩) 1 1 _ [_] rfl hsrc.out (by simp) ?c1 ?c2 ?c3 ?_))
        case c1 => unfold maxLen; omega
        case c2 => omega
        case c3 => first | omega | (simp; omega)
        intro v2 w2 hown hgrow _
        have H2 : RowKit.Hid (w2.ownsRow w.heap.size 3 1 v2 (k + 1 + 1) ((edgesL.take (k + 1 + 1)).map (Value.int .i64)) ∧ Below w.heap.size w w2) := by
          refine ⟨?_, hbel.out.grown hgrow (by simp; omega) hob.out⟩
          rw [HT.out, HD.out]; simpa [List.map_take] using hown
        clear hown hgrow
        go_wp2
        go_roundw
        case rel => exact ⟨k + 1, by omega, by go_num, by rw [HD.out], H2.out⟩
        case measure => simp [intOf] <;> omega
    · obtain rfl : k = 21 := by omega
      have HI := Lib.hid (edges_own H.out.1)
      have HB := Lib.hid H.out.2
      clear H
      go_wp2
      go_ret
      obtain ⟨r, c, rfl, h1, h2, h3⟩ := HI.out
      exact ⟨r, c, rfl, h1, h2, h3, HB.out⟩
structure RefQ (w : World) (B base g r mg mr er : Nat) (S : EncS × List Int) (wr : World) : Prop where
  e : RefSt w B base g r S.1 wr
  m : RefMod wr w.heap.size mg mr S.2 false
  d : ∀ k, k < 22 → wr.cell? ⟨er, k, none⟩ = some (.int .i64 (edgeK k : Int))
  o : mg < er ∧ mr < er ∧ er < B ∧ w.heap.size ≤ mg ∧ w.heap.size ≤ mr ∧ g < w.heap.size ∧ r < w.heap.size
section
variable {w wr w' : World} {B base g r mg mr er : Nat} {S S' : EncS × List Int}
theorem RefQ.drewN (h : RefQ w B base g r mg mr er S wr) (n : Nat) : RefQ w B base g r mg mr er S (wr.drewN n) := by
  obtain ⟨r', c', h1, h2, h3⟩ := h.e
  exact ⟨⟨r', c', h1.drewN n, h2.drewN n, h3⟩, h.m.drewN n, h.d, h.o⟩
theorem RefQ.keep (h : RefQ w B base g r mg mr er S wr) : Keeps (fun j => j = g ∨ j = r) w wr := by
  obtain ⟨r', c', h1, h2, h3⟩ := h.e
  exact h2
theorem RefQ.sym (h : RefQ w B base g r mg mr er S wr) (hG : GoodE S.1) (hL : GoodL S.2) {s : Nat} (hs : s < S.2.length) (hk : S.1.k ≤ 800000) :
    Calls Tryz.prog 74 #[.pointer (some ⟨g, 0, none⟩), .pointer (some ⟨mg, 0, none⟩), .int .i64 s] wr fun e w' => e = .returned (.tuple #[]) ∧ RefQ w B base g r mg mr er (encSym S.1 S.2 s, learnP S.2 s) w' := by
  obtain ⟨r', c', h1, h2, h3⟩ := h.e
  have ho := h.o
  have hs2 := h2.size
  refine (refEncSymbol_any base w.heap.size g r' c' mg mr S.1 S.2 false s wr h1 h.m hG hL hs (by omega) (by omega) (by omega) (by omega) (by omega)).mono ?_
  rintro e w2 ⟨rfl, r2, c2, k1, km, k2, k3⟩
  refine ⟨rfl, RefSt.step h2 h3 k1 (k2.mono fun j hj => by omega) k3, km, fun k hk => ?_, ho⟩
  exact (World.cell?_of_block (a := ⟨er, k, none⟩) (k2.block er (by omega) (by omega))).trans (h.d k hk)
theorem RefQ.bits (h : RefQ w B base g r mg mr er S wr) (hG : GoodE S.1) {n : Int} {wide : Nat} (n0 : 0 ≤ n) (hw24 : wide ≤ 24) (hn : n < P2 wide) (hk : S.1.k ≤ 800000) :
    Calls Tryz.prog 36 #[.pointer (some ⟨g, 0, none⟩), .int .i64 n, .int .i64 wide] wr fun e w' => e = .returned (.tuple #[]) ∧ RefQ w B base g r mg mr er (encBits S.1 n wide, S.2) w' := by
  obtain ⟨r', c', h1, h2, h3⟩ := h.e
  have ho := h.o
  have hs2 := h2.size
  have hp : P2 wide ≤ 16777216 := by
    have := P2_mono (a := wide) (b := 24) hw24
    rw [show P2 24 = 16777216 by decide] at this
    exact this
  have hml := h.m.lt
  refine (refEncBits_any base g r' c' S.1 n wide wr h1 hG (by omega) hw24 n0 (by omega)).mono ?_
  rintro e w2 ⟨rfl, r2, c2, k1, k2, k3⟩
  refine ⟨rfl, RefSt.step h2 h3 k1 (k2.mono fun j hj => by omega) k3, h.m.keeps k2 (by omega) (by omega), fun k hk => ?_, ho⟩
  exact (World.cell?_of_block (a := ⟨er, k, none⟩) (k2.block er (by omega) (by omega))).trans (h.d k hk)
end
set_option maxHeartbeats 1000000 in
set_option maxRecDepth 100000 in
theorem refPutLines_any (base g r c : Nat) (E : EncS) (lb lo lcap : Nat) (x : Nat → Int) (a a2 : Option Addr) (cap cap2 : Nat) (zs ss : List Int) (w : World) (hE : EncMem w base g r c (digL E.n (E.k + 4)) E.s E.k) (hG : GoodE E) (hk : E.k ≤ 600000)
    (hlb : lb < w.heap.size) (hx : ∀ i, i < 512 → w.cell? ⟨lb, lo + i, none⟩ = some (.int .i64 (x i))) (hxb : ∀ i, i < 512 → -2147483648 ≤ x i ∧ x i ≤ 2147483647) (hne : lb ≠ g ∧ lb ≠ r)
    (h : IntsAt w w.heap.size .i64 a 21 zs) (h2 : IntsAt w w.heap.size .i64 a2 21 ss) (hmay : mayQ zs ss = true) (hn1 : ∀ b off, a = some ⟨b, off, none⟩ → b ≠ g ∧ b ≠ r) (hn2 : ∀ b off, a2 = some ⟨b, off, none⟩ → b ≠ g ∧ b ≠ r) :
    Calls Tryz.prog 40 #[.pointer (some ⟨g, 0, none⟩), .slice (some ⟨lb, lo, none⟩) 512 lcap, .slice a 21 cap, .slice a2 21 cap2] w
      (EncPost base g r (putL (toldT (fun j => zs.getD j 0) (fun j => ss.getD j 0)) (lineQ x (fun j => zs.getD j 0) (fun j => ss.getD j 0)) E 512).1 w) := by
  obtain ⟨hr1, hr2, h12⟩ := mayQ_true hmay
  have HI := Lib.hid h
  have HI2 := Lib.hid h2
  have HN1 := Lib.hid hn1
  have HN2 := Lib.hid hn2
  have HC := Lib.hid (rightB_true hr1).2
  have HSt := Lib.hid (rightB_true hr2).2
  have H12 := Lib.hid h12
  have HE := Lib.hid hE
  have HX := Lib.hid hx
  have HXb := Lib.hid hxb
  have hgl := hE.lt
  obtain ⟨T, hT⟩ : ∃ T, T = toldT (fun j => zs.getD j 0) (fun j => ss.getD j 0) := ⟨_, rfl⟩
  obtain ⟨Q, hQ⟩ : ∃ Q, Q = lineQ x (fun j => zs.getD j 0) (fun j => ss.getD j 0) := ⟨_, rfl⟩
  have HT : RowKit.Hid (∀ b i, b < 21 → edgeK b ≤ i → i < edgeK (b + 1) → T i = decide (ss.getD b 0 < zs.getD b 0)) := fun b i hb h0 h1 => by rw [hT]; exact toldT_at hb h0 h1
  have HQ : RowKit.Hid (∀ b i, b < 21 → edgeK b ≤ i → i < edgeK (b + 1) → Q i = numQ (x i) (ss.getD b 0) (zs.getD b 0)) := fun b i hb h0 h1 => by rw [hQ]; exact lineQ_at hb h0 h1
  have HQb : RowKit.Hid (∀ i, -4095 ≤ Q i ∧ Q i ≤ 4095) := fun i => by rw [hQ]; exact lineQ_bd h12 i
  rw [← hT, ← hQ]
  have HPg : RowKit.Hid (∀ n, GoodE (putL T Q E n).1 ∧ GoodL (putL T Q E n).2 ∧ (putL T Q E n).2.length = 13 ∧ (putL T Q E n).1.k ≤ E.k + 10 * n) := putL_good hG HQb.out
  have HPt : RowKit.Hid (∀ n, T n = true → putL T Q E (n + 1) = (putX (putL T Q E n).1 (putL T Q E n).2 (Q n), learnP (putL T Q E n).2 (bitsI (Q n)))) := fun n h => putL_told Q E h
  have HPs : RowKit.Hid (∀ b, b < 21 → ¬ ss.getD b 0 < zs.getD b 0 → putL T Q E (edgeK (b + 1)) = putL T Q E (edgeK b)) := fun b hb hn => putL_skip Q E (by have := edgeK_lt b hb; omega) fun i h0 h1 => by rw [HT.out b i hb h0 h1]; simpa using hn
  have HP0 : RowKit.Hid (putL T Q E (edgeK 0) = (E, List.replicate 13 1)) := rfl
  have HPe : RowKit.Hid (putL T Q E (edgeK 21) = putL T Q E 512) := rfl
  generalize putL T Q E = P at HPg HPt HPs HP0 HPe ⊢
  obtain ⟨L0, hL0⟩ : ∃ L0 : List Int, L0 = List.replicate 13 1 := ⟨_, rfl⟩
  have HNew : RowKit.Hid (Calls Tryz.prog 75 #[.int .i64 13] w fun e w' => ∃ g r, e = .returned (.tuple #[.pointer (some ⟨g, 0, none⟩), .bool true]) ∧ RefMod w' w.heap.size g r L0 false ∧ Below w.heap.size w w') := by rw [hL0]; exact refNew_any 13 w (by decide) (by decide)
  rw [← hL0] at HP0
  clear hE hG hT hQ h h2 hmay hr1 hr2 h12 hx hxb hL0 hn1 hn2
  go_enter Tryz.func40, Tryz.ntmps40
  go_wp2_with (first
    | (go_at_call 75; refine HNew.out.mono ?_; rintro e1 w1 ⟨mg, mr, rfl, hm, hb⟩; have HM1 := Lib.hid hm; have HB1 := Lib.hid hb; clear hm hb)
    | (go_at_call 69; go_loud (refine (ref04Edges_own w1).mono ?_); rintro e1 w2 ⟨er, ec, rfl, he0, he1, hed, hb⟩; have HEd := Lib.hid hed; have HB2 := Lib.hid (chain HB1.out hb); have HM2 := Lib.hid (HM1.out.below hb); clear hed hb))
  have hml := HM1.out.lt
  have hs1 := HB1.out.size
  have hs2 := HB2.out.size
  have H0 : RowKit.Hid (RefQ w w2.heap.size base g r mg mr er (P (edgeK 0)) w2) := by rw [HP0.out]; exact ⟨RefSt.start HE.out HB2.out, HM2.out, HEd.out, by omega⟩
  clear HM1 HB1 HM2 HP0 HE HNew HEd
  generalize w2.heap.size = B at H0
  go_loopw [11] (fun i wr => ∃ k : Nat, k ≤ 21 ∧ i = .int .i64 (k : Int) ∧ RowKit.Hid (RefQ w B base g r mg mr er (P (edgeK k)) wr)) (fun i _ => 21 - (intOf i).toNat)
  case atStart => exact ⟨0, by omega, rfl, H0.out⟩
  case round =>
    obtain ⟨k, hk, rfl, H⟩ := hrel
    clear H0
    by_cases hlt : k < 21
    · obtain ⟨zb, zo, rfl, hzb, _, _⟩ := HI.out.at_ hlt
      obtain ⟨sb, so, rfl, hsb, _, _⟩ := HI2.out.at_ hlt
      obtain ⟨nz1, nz2⟩ := HN1.out _ _ rfl
      obtain ⟨ns1, ns2⟩ := HN2.out _ _ rfl
      have HZc : RowKit.Hid (∀ wx, Keeps (fun j => j = g ∨ j = r) w wx → wx.cell? ⟨zb, zo + k, none⟩ = some (.int .i64 (zs.getD k 0)) ∧ wx.cell? ⟨sb, so + k, none⟩ = some (.int .i64 (ss.getD k 0))) := fun wx hkx => by
        obtain ⟨b1, o1, e1, _, _, c1⟩ := HI.out.at_ hlt
        obtain ⟨b2, o2, e2, _, _, c2⟩ := HI2.out.at_ hlt
        injection e1 with e1
        injection e1 with e1 e1'
        injection e2 with e2
        injection e2 with e2 e2'
        subst e1; subst e1'; subst e2; subst e2'
        exact ⟨(World.cell?_of_block (a := ⟨zb, zo + k, none⟩) (hkx.block zb hzb (by omega))).trans c1, (World.cell?_of_block (a := ⟨sb, so + k, none⟩) (hkx.block sb hsb (by omega))).trans c2⟩
      obtain ⟨c0, c1⟩ := HC.out k hlt
      obtain ⟨s0, s1⟩ := HSt.out k hlt
      have cs := H12.out k hlt
      obtain ⟨ed1, ed2⟩ := edgeK_lt k hlt
      have d1 := H.out.d k (by omega)
      have HTk : RowKit.Hid (∀ i, edgeK k ≤ i → i < edgeK (k + 1) → T i = decide (ss.getD k 0 < zs.getD k 0)) := fun i => HT.out k i hlt
      have HQk : RowKit.Hid (∀ i, edgeK k ≤ i → i < edgeK (k + 1) → Q i = numQ (x i) (ss.getD k 0) (zs.getD k 0)) := fun i => HQ.out k i hlt
      have HPk := Lib.hid (HPs.out k hlt)
      generalize zs.getD k 0 = c at c0 c1 cs HTk HQk HPk HZc
      generalize ss.getD k 0 = s at s0 s1 cs HTk HQk HPk HZc
      obtain ⟨B2, hB⟩ : ∃ B2, B2 = edgeK (k + 1) := ⟨_, rfl⟩
      have HDk : RowKit.Hid (∀ S wx, RefQ w B base g r mg mr er S wx → wx.cell? ⟨er, k + 1, none⟩ = some (.int .i64 (B2 : Int))) := fun S wx hx => by rw [hB]; exact hx.d (k + 1) (by omega)
      rw [← hB] at ed1 ed2 HTk HQk HPk
      have HBk := Lib.hid hB
      clear hB
      generalize edgeK k = A at d1 ed1 HTk HQk HPk H
      have l0 : (k : Int) < 21 := by omega
      have uk : IntKind.i64.wrap ((k : Int) + 1) = (k : Int) + 1 := IntWalk.i64_in _ (by omega)
      by_cases htd : s < c
      · have HTk2 : RowKit.Hid (∀ i, A ≤ i → i < B2 → T i = true) := fun i h0 h1 => by rw [HTk.out i h0 h1]; simpa using htd
        obtain ⟨n, hn⟩ : ∃ n, n = B2 - A := ⟨_, rfl⟩
        have e2 : B2 = A + n := by omega
        have hn512 : A + n ≤ 512 := by omega
        have HXl : RowKit.Hid (∀ m, m < n → -2147483648 ≤ x (A + m) ∧ x (A + m) ≤ 2147483647) := fun m hm => HXb.out _ (by omega)
        have HQm : RowKit.Hid (∀ m, m < n → Q (A + m) = numQ (x (A + m)) s c) := fun m hm => HQk.out (A + m) (by omega) (by omega)
        have HPm : RowKit.Hid (∀ m, m < n → P (A + m + 1) = (putX (P (A + m)).1 (P (A + m)).2 (Q (A + m)), learnP (P (A + m)).2 (bitsI (Q (A + m))))) := fun m hm => HPt.out _ (HTk2.out (A + m) (by omega) (by omega))
        have HEnd : RowKit.Hid (edgeK (k + 1) = A + n) := by show _ = _; rw [← HBk.out]; exact e2
        clear HPk HTk HTk2 HQk HBk hn ed2
        go_wp2
        go_loopw [12] (fun i wx => ∃ m : Nat, m ≤ n ∧ i = .int .i64 ((A + m : Nat) : Int) ∧ RowKit.Hid (RefQ w B base g r mg mr er (P (A + m)) wx)) (fun i _ => A + n - (intOf i).toNat)
        case atStart => exact ⟨0, by omega, rfl, H.out⟩
        case round =>
          obtain ⟨m, hm, rfl, G⟩ := hrel
          clear H d1
          have d2 := HDk.out _ _ G.out
          obtain ⟨z1, z2⟩ := HZc.out _ G.out.keep
          obtain ⟨I, hI⟩ : ∃ I, I = A + m := ⟨_, rfl⟩
          rw [← hI] at G ⊢
          by_cases hmn : m < n
          · obtain ⟨x0, x1⟩ := HXl.out m hmn
            have hq := HQb.out (A + m)
            have HQe := Lib.hid (HQm.out m hmn)
            have HPn := Lib.hid (HPm.out m hmn)
            obtain ⟨pg1, pg2, pg3, pg4⟩ := HPg.out (A + m)
            have HCl : RowKit.Hid (∀ wx, Keeps (fun j => j = g ∨ j = r) w wx → wx.cell? ⟨lb, lo + I, none⟩ = some (.int .i64 (x I))) := fun wx hkx => (World.cell?_of_block (a := ⟨lb, lo + I, none⟩) (hkx.block lb hlb (by omega))).trans (HX.out I (by omega))
            rw [← hI] at x0 x1 hq HQe HPn pg1 pg2 pg3 pg4
            have hpk : (P I).1.k ≤ 700000 := by omega
            have HI1 : RowKit.Hid (I + 1 = A + (m + 1)) := by show _ = _; omega
            have HIE : RowKit.Hid (I < A + n) := by show _ < _; omega
            have i1 : I < 512 := by omega
            have l1 : (I : Int) < (B2 : Int) := by omega
            have HNr : RowKit.Hid (∀ wx, Calls Tryz.prog 76 #[.int .i64 (x I), .int .i64 s, .int .i64 (c - s)] wx fun e w' => e = .returned (.int .i64 (Q I)) ∧ w' = wx) := fun wx => (refNear_any (x I) s c (c - s) wx s0 (by omega) htd cs rfl x0 x1).mono fun _ _ h => ⟨by rw [HQe.out]; exact h.1, h.2.symm⟩
            generalize P I = S at G pg1 pg2 pg3 pg4 hpk HPn
            rw [HI1.out] at HPn
            clear hI pg4
            generalize x I = z at HCl HNr
            generalize Q I = y at hq HPn HNr
            have u1 : IntKind.i64.wrap (c - s) = c - s := IntWalk.i64_in _ (by omega)
            clear e2 hn512
            go_wp2
            go_quiet (fail)
            have G2 := Lib.hid (G.out.drewN nq)
            clear z1 z2 d2
            generalize wr.drewN nq = wa at G2 ⊢
            obtain ⟨z1, z2⟩ := HZc.out _ G2.out.keep
            have z3 := HCl.out _ G2.out.keep
            go_wp2
            go_quiet (first | (go_at_call 76; exact Calls.quiet_of_same (HNr.out _)))
            have G3 := Lib.hid (G2.out.drewN nq)
            clear z1 z2 z3 G2
            generalize wa.drewN nq = wb at G3 ⊢
            have hb12 := bits_12 hq
            have hbl : bitsI y < S.2.length := by omega
            have g1 := encSym_good pg1 pg2 hbl
            have k1 := encSym_k S.1 S.2 (bitsI y)
            have HS : RowKit.Hid (∀ wx, RefQ w B base g r mg mr er S wx → Calls Tryz.prog 74 #[.pointer (some ⟨g, 0, none⟩), .pointer (some ⟨mg, 0, none⟩), .int .i64 (bitsI y)] wx fun e w' => e = .returned (.tuple #[]) ∧ RefQ w B base g r mg mr er (encSym S.1 S.2 (bitsI y), learnP S.2 (bitsI y)) w') := fun wx hx => hx.sym pg1 pg2 hbl (by omega)
            have HBt0 : RowKit.Hid (∀ wx, Calls Tryz.prog 70 #[.int .i64 y] wx fun e w' => e = .returned (.int .i64 (bitsI y)) ∧ wx = w') := fun wx => refBits_any y wx (by omega) (by omega)
            by_cases hq0 : y = 0
            · have HE := Lib.hid (putX_none S.1 S.2 hq0)
              rw [HE.out] at HPn
              generalize encSym S.1 S.2 (bitsI y) = E1 at HS HPn
              generalize learnP S.2 (bitsI y) = L1 at HS HPn
              subst hq0
              have HSz : RowKit.Hid (∀ wx, RefQ w B base g r mg mr er S wx → Calls Tryz.prog 74 #[.pointer (some ⟨g, 0, none⟩), .pointer (some ⟨mg, 0, none⟩), .int .i64 0] wx fun e w' => e = .returned (.tuple #[]) ∧ RefQ w B base g r mg mr er (E1, L1) w') := HS.out
              have HBt : RowKit.Hid (∀ wx, Calls Tryz.prog 70 #[.int .i64 0] wx fun e w' => e = .returned (.int .i64 0) ∧ wx = w') := HBt0.out
              clear hq hb12 hbl g1 k1 HE HS HBt0 HNr
              go_wp2_with (first
                | (go_at_call 70; refine (HBt.out _).mono ?_; rintro e1 w5 ⟨rfl, rfl⟩)
                | (go_at_call 74; refine (HSz.out _ G3.out).mono ?_; rintro e1 w6 ⟨rfl, hp⟩; have HP3 := Lib.hid hp; rw [← HPn.out] at HP3; clear hp)
                | fail)
              go_roundw
              case rel => exact ⟨m + 1, by omega, by rw [← HI1.out]; go_num, HP3.out⟩
              case measure => have := HIE.out; simp [intOf] <;> omega
            · have HE := Lib.hid (putX_some S.1 S.2 hq0)
              obtain ⟨lw0, lw1⟩ := lowQ_bd hq0
              have hn0 : bitsI y ≠ 0 := fun e => hq0 (bits_none.1 e)
              obtain ⟨j, hj⟩ : ∃ j, bitsI y = j + 1 := ⟨bitsI y - 1, by omega⟩
              have hj11 : j ≤ 11 := by omega
              obtain ⟨mm, hmm⟩ : ∃ mm : Int, (y.natAbs : Int) = mm := ⟨_, rfl⟩
              have hm1 : 1 ≤ mm := by omega
              have hm2 : mm ≤ 4095 := by omega
              have hlow : mm - P2 j = lowQ y := by unfold lowQ; rw [hmm, hj]; rfl
              have HBl : RowKit.Hid (∀ w3, RefQ w B base g r mg mr er (encBits (encSym S.1 S.2 (bitsI y)) (signQ y) 1, learnP S.2 (bitsI y)) w3 → Calls Tryz.prog 36 #[.pointer (some ⟨g, 0, none⟩), .int .i64 (lowQ y), .int .i64 j] w3 fun e w' => e = .returned (.tuple #[]) ∧ RefQ w B base g r mg mr er (putX S.1 S.2 y, learnP S.2 (bitsI y)) w') := fun w3 h3 => by
                rw [HE.out]
                have k2 := encBits_k (encSym S.1 S.2 (bitsI y)) (signQ y) (wide := 1) (by decide)
                rw [hj, show j + 1 - 1 = j by omega] at lw1 ⊢
                rw [hj] at h3 g1 k1 k2
                exact h3.bits (encBits_good (n := signQ y) (wide := 1) g1 (by decide)) lw0 (by omega) lw1 (by simp only; omega)
              have HBs : RowKit.Hid (∀ w3, RefQ w B base g r mg mr er (encSym S.1 S.2 (bitsI y), learnP S.2 (bitsI y)) w3 → Calls Tryz.prog 36 #[.pointer (some ⟨g, 0, none⟩), .int .i64 (signQ y), .int .i64 1] w3 fun e w' => e = .returned (.tuple #[]) ∧ RefQ w B base g r mg mr er (encBits (encSym S.1 S.2 (bitsI y)) (signQ y) 1, learnP S.2 (bitsI y)) w') := fun w3 h3 =>
                h3.bits (wide := 1) g1 (signQ_bd y).1 (by decide) (by rw [show P2 1 = 2 by decide]; have := (signQ_bd y).2; omega) (by simp only; omega)
              have HSj : RowKit.Hid (∀ wx, RefQ w B base g r mg mr er S wx → Calls Tryz.prog 74 #[.pointer (some ⟨g, 0, none⟩), .pointer (some ⟨mg, 0, none⟩), .int .i64 ((j : Int) + 1)] wx fun e w' => e = .returned (.tuple #[]) ∧ RefQ w B base g r mg mr er (encSym S.1 S.2 (bitsI y), learnP S.2 (bitsI y)) w') := by
                have := HS.out
                rw [show ((bitsI y : Nat) : Int) = (j : Int) + 1 by omega] at this
                exact this
              have HBt : RowKit.Hid (∀ wx, Calls Tryz.prog 70 #[.int .i64 y] wx fun e w' => e = .returned (.int .i64 ((j : Int) + 1)) ∧ wx = w') := by
                have := HBt0.out
                rw [show ((bitsI y : Nat) : Int) = (j : Int) + 1 by omega] at this
                exact this
              have HPw : RowKit.Hid (∀ wx, Calls Tryz.prog 77 #[.int .i64 (j : Int)] wx fun e w' => e = .returned (.int .i64 (P2 j)) ∧ wx = w') := fun wx => ref10Power_any j wx (by omega)
              have p0 := P2_pos j
              have p1 := P2_12 (k := j) (by omega)
              have hsg : (y < 0 → signQ y = 1) ∧ (¬ y < 0 → signQ y = 0) := ⟨fun h => if_pos h, fun h => if_neg h⟩
              rw [hj, show j + 1 - 1 = j by omega] at lw1
              clear hb12 hbl g1 k1 HE HS hj hn0 HBt0 HNr pg1 pg2 pg3 hpk
              generalize encBits (encSym S.1 S.2 (bitsI y)) (signQ y) 1 = E2 at HBs HBl
              generalize encSym S.1 S.2 (bitsI y) = E1 at HBs HSj
              generalize putX S.1 S.2 y = E3 at HBl HPn
              generalize learnP S.2 (bitsI y) = L1 at HBs HBl HSj HPn
              generalize lowQ y = lw at lw0 lw1 hlow HBl
              generalize signQ y = sg at hsg HBs
              generalize P2 j = p at p0 p1 lw1 hlow HPw
              have u6 : IntKind.i64.wrap (mm - p) = lw := by rw [hlow]; exact IntWalk.i64_in _ (by omega)
              have u7 : IntKind.i64.wrap ((j : Int) + 1 - 1) = (j : Int) := by rw [show (j : Int) + 1 - 1 = j by omega]; exact IntWalk.i64_in _ (by omega)
              have hz : decide (0 < (j : Int) + 1) = true := decide_eq_true (by omega)
              clear hlow
              by_cases hneg : y < 0
              · obtain rfl := hsg.1 hneg
                have u2 : IntKind.i64.wrap (-y) = mm := by rw [show -y = mm by omega]; exact IntWalk.i64_in _ (by omega)
                have d1 : decide (y < 0) = true := by simp; omega
                clear hmm hsg hneg hq0 hq
                go_wp2_with (first
                  | (go_at_call 70; refine (HBt.out _).mono ?_; rintro e1 w5 ⟨rfl, rfl⟩)
                  | (go_at_call 74; refine (HSj.out _ G3.out).mono ?_; rintro e1 w6 ⟨rfl, hp⟩; have HP := Lib.hid hp; clear hp)
                  | (go_at_call 77; refine (HPw.out _).mono ?_; rintro e1 w9 ⟨rfl, rfl⟩)
                  | (go_at_call 36; have hx := HP2.out; refine (HBl.out _ hx).mono ?_; rintro e1 w8 ⟨rfl, hp⟩; have HP3 := Lib.hid hp; rw [← HPn.out] at HP3; clear hp hx HP2)
                  | (go_at_call 36; refine (HBs.out _ HP.out).mono ?_; rintro e1 w7 ⟨rfl, hp⟩; have HP2 := Lib.hid hp; clear hp)
                  | fail)
                go_roundw
                case rel => exact ⟨m + 1, by omega, by rw [← HI1.out]; go_num, HP3.out⟩
                case measure => have := HIE.out; simp [intOf] <;> omega
              · obtain rfl := hsg.2 hneg
                obtain rfl : y = mm := by omega
                have d1 : decide (y < 0) = false := by simp; omega
                clear hmm hsg hneg hq0 hq
                go_wp2_with (first
                  | (go_at_call 70; refine (HBt.out _).mono ?_; rintro e1 w5 ⟨rfl, rfl⟩)
                  | (go_at_call 74; refine (HSj.out _ G3.out).mono ?_; rintro e1 w6 ⟨rfl, hp⟩; have HP := Lib.hid hp; clear hp)
                  | (go_at_call 77; refine (HPw.out _).mono ?_; rintro e1 w9 ⟨rfl, rfl⟩)
                  | (go_at_call 36; have hx := HP2.out; refine (HBl.out _ hx).mono ?_; rintro e1 w8 ⟨rfl, hp⟩; have HP3 := Lib.hid hp; rw [← HPn.out] at HP3; clear hp hx HP2)
                  | (go_at_call 36; refine (HBs.out _ HP.out).mono ?_; rintro e1 w7 ⟨rfl, hp⟩; have HP2 := Lib.hid hp; clear hp)
                  | fail)
                go_roundw
                case rel => exact ⟨m + 1, by omega, by rw [← HI1.out]; go_num, HP3.out⟩
                case measure => have := HIE.out; simp [intOf] <;> omega
          · obtain rfl : m = n := by omega
            have Z : RowKit.Hid (RefQ w B base g r mg mr er (P (edgeK (k + 1))) wr) := by rw [HEnd.out, ← hI]; exact G.out
            have hI512 : I ≤ 512 := by omega
            have l1 : ¬ (I : Int) < (B2 : Int) := by omega
            have l2 : ¬ I < B2 := by omega
            have l3 : decide (I < B2) = false := by simp; omega
            have l4 : decide ((I : Int) < (B2 : Int)) = false := by simp; omega
            have l5 : ((I : Int) < (B2 : Int)) = False := by simp; omega
            clear hI e2 hn512 hmn hm
            go_wp2
            go_quiet (fail)
            have Z2 := Lib.hid (Z.out.drewN nq)
            go_wp2
            go_roundw
            case rel => exact ⟨k + 1, by omega, by go_num, Z2.out⟩
            case measure => simp [intOf] <;> omega
      · have HPn : RowKit.Hid (P (edgeK (k + 1)) = P A) := by show _ = _; rw [← HBk.out]; exact HPk.out (by omega)
        have l1 : (A : Int) < (B2 : Int) := by omega
        clear HPk
        go_wp2
        go_loopw [12] (fun i wx => i = .int .i64 (A : Int) ∧ RowKit.Hid (RefQ w B base g r mg mr er (P A) wx)) (fun i _ => 0)
        case atStart => exact ⟨rfl, H.out⟩
        case round =>
          obtain ⟨rfl, G⟩ := hrel
          clear H d1
          obtain ⟨z1, z2⟩ := HZc.out _ G.out.keep
          have d2 := HDk.out _ _ G.out
          go_wp2
          go_quiet (fail)
          go_wp2
          have HT := Lib.hid (G.out.drewN nq)
          go_roundw
          case rel => exact ⟨k + 1, by omega, by go_num, by rw [HPn.out]; exact HT.out⟩
          case measure => simp [intOf] <;> omega
    · obtain rfl : k = 21 := by omega
      have HK := Lib.hid H.out
      rw [HPe.out] at HK
      have Z := Lib.hid HK.out.e.post
      go_wp2
      go_end0
      exact Z.out
end Go.Proofs.YtmgfkdmjgjlkjaaGreat

namespace Go.Proofs.YtmgfkdmjgjlkjaaGreat
open Go.RowKit
set_option linter.unusedVariables false
theorem infoE_i64 : (Tryz.prog.info? 2).map (fun i => (i.zero, i.size, i.bytes)) = some (some (.int .i64 0), 1, 8) := by kernel_rfl
end Go.Proofs.YtmgfkdmjgjlkjaaGreat
