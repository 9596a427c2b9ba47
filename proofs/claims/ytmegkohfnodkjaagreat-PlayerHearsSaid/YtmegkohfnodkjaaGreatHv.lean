/- Plain facts, and what functions give, for the proofs of this seat: several texts in one, each with its own first remark. -/
import Derived.BigRegion
import Derived.Test.YtmegkohfnodkjaaGreatHu
import Derived.Test.YtmegkohfnodkjaaGreatHt
import Derived.OpenShut
import Derived.Laws.AppendOwnNone
import Derived.Test.YtmegkohfnodkjaaGreatHn

/- What package quant's parts of a frame give. -/
namespace Go.Proofs.YtmegkohfnodkjaaGreat
open Go.RowKit
set_option linter.unusedVariables false

/-- The parts of a frame, number by number: four to a band. -/
def partF (c s : Nat → Int) (k : Nat) : Int := if k % 4 = 0 then (edgeK (k / 4) : Int) else if k % 4 = 1 then (edgeK (k / 4 + 1) : Int) else if k % 4 = 2 then c (k / 4) else s (k / 4)
theorem partF_0 (c s : Nat → Int) (b : Nat) : partF c s (b * 4) = (edgeK b : Int) := by unfold partF; rw [if_pos (by omega), show b * 4 / 4 = b by omega]
theorem partF_1 (c s : Nat → Int) (b : Nat) : partF c s (b * 4 + 1) = (edgeK (b + 1) : Int) := by unfold partF; rw [if_neg (by omega), if_pos (by omega), show (b * 4 + 1) / 4 = b by omega]
theorem partF_2 (c s : Nat → Int) (b : Nat) : partF c s (b * 4 + 2) = c b := by unfold partF; rw [if_neg (by omega), if_neg (by omega), if_pos (by omega), show (b * 4 + 2) / 4 = b by omega]
theorem partF_3 (c s : Nat → Int) (b : Nat) : partF c s (b * 4 + 3) = s b := by unfold partF; rw [if_neg (by omega), if_neg (by omega), if_neg (by omega), show (b * 4 + 3) / 4 = b by omega]
theorem infoQ_part : (Tryz.prog.info? 201).map (fun i => (i.zero, i.size, i.bytes)) = some (some (.agg #[.int .i64 0, .int .i64 0, .int .i64 0, .int .i64 0]), 4, 32) := by kernel_rfl
theorem made_four (z : Value) (n : Nat) : madeCells #[z, z, z, z] n = madeCells #[z] n := by
  apply Array.ext'
  rw [toList_madeCells_one]
  apply List.ext_getElem?
  intro j
  by_cases hj : j < n
  · rcases (show j % 4 = 0 ∨ j % 4 = 1 ∨ j % 4 = 2 ∨ j % 4 = 3 by omega) with h | h | h | h <;> simp [madeCells, hj, h]
  · simp [madeCells, hj]
theorem make_parts (w : World) : (Instr.makeSlice 229 (.int .i64 21) (.int .i64 21)).run Tryz.prog w = .ok (.slice (some ⟨w.heap.size, 0, none⟩) 21 21) (w.alloc (.cells (madeCells #[.int .i64 0] 84) 201)) := by
  obtain ⟨i, h1, h2, h3, h4⟩ := info_parts infoQ_part
  have hr := run_make (P := Tryz.prog) w 229 201 i _ Tryz.underlying229 h1 h2 .i64 .i64 21 21 (by omega) (Int.le_refl _) (by rw [h4]; decide) (by decide)
  rw [hr, h3]
  simp [Value.cells, made_four]
/-- Four cells set. -/
theorem parts_next {w : World} {g k : Nat} {F : Nat → Int} (h : IFun w g 201 .i64 84 (preF F (k * 4))) (hk : k < 21) :
    IFun ((((w.setCell ⟨g, k * 4, none⟩ (.int .i64 (F (k * 4)))).setCell ⟨g, k * 4 + 1, none⟩ (.int .i64 (F (k * 4 + 1)))).setCell ⟨g, k * 4 + 2, none⟩ (.int .i64 (F (k * 4 + 2)))).setCell ⟨g, k * 4 + 3, none⟩ (.int .i64 (F (k * 4 + 3)))) g 201 .i64 84 (preF F ((k + 1) * 4)) := by
  refine IFun.ext ((((h.set (j := k * 4) (by omega) _).set (j := k * 4 + 1) (by omega) _).set (j := k * 4 + 2) (by omega) _).set (j := k * 4 + 3) (by omega) _) fun i _ => ?_
  rw [show (k + 1) * 4 = k * 4 + 1 + 1 + 1 + 1 by omega, ← preF_next, ← preF_next, ← preF_next, ← preF_next]

set_option maxHeartbeats 400000 in
set_option maxRecDepth 100000 in
theorem qParts_any (a a2 : Option Addr) (cap cap2 : Nat) (zs ss : List Int) (w : World) (h : IntsAt w w.heap.size .i64 a 21 zs) (h2 : IntsAt w w.heap.size .i64 a2 21 ss) :
    Calls Tryz.prog 149 #[.slice a 21 cap, .slice a2 21 cap2] w fun e w' =>
      ∃ g, e = .returned (.slice (some ⟨g, 0, none⟩) 21 21) ∧ IFun w' g 201 .i64 84 (partF (fun j => zs.getD j 0) (fun j => ss.getD j 0)) ∧ w.heap.size ≤ g ∧ Below w.heap.size w w' := by
  have HI := Lib.hid h
  have HI2 := Lib.hid h2
  have hmk := make_parts
  obtain ⟨F, hF⟩ : ∃ F, F = partF (fun j => zs.getD j 0) (fun j => ss.getD j 0) := ⟨_, rfl⟩
  have HF : RowKit.Hid (∀ b, F (b * 4) = (edgeK b : Int) ∧ F (b * 4 + 1) = (edgeK (b + 1) : Int) ∧ F (b * 4 + 2) = zs.getD b 0 ∧ F (b * 4 + 3) = ss.getD b 0) := fun b => by rw [hF]; exact ⟨partF_0 _ _ _, partF_1 _ _ _, partF_2 _ _ _, partF_3 _ _ _⟩
  rw [← hF]
  have HZ : RowKit.Hid (∀ wx : World, IFun (wx.alloc (.cells (madeCells #[.int .i64 0] 84) 201)) wx.heap.size 201 .i64 84 (preF F (0 * 4))) := fun wx => IFun.ext (IFun.zeros wx 201 .i64 84) fun j _ => (preF_zero F j).symm
  generalize madeCells #[.int .i64 0] 84 = mc at HZ hmk
  clear h h2 hF
  go_enter Tryz.func149, Tryz.ntmps149
  go_wp2_with (go_at_call 112; go_loud (refine (bandsEdges_any w).mono ?_); rintro e w1 ⟨ea, ec, rfl, he, hb⟩; have HE := Lib.hid he; have HB := Lib.hid hb; clear he hb)
  clear hmk
  have H0 : RowKit.Hid (IFun (w1.alloc (.cells mc 201)) w1.heap.size 201 .i64 84 (preF F (0 * 4)) ∧ Below w.heap.size w (w1.alloc (.cells mc 201)) ∧ Below w1.heap.size w1 (w1.alloc (.cells mc 201))) := ⟨HZ.out w1, HB.out.alloc HB.out.size _, Below.alloc_new w1 _⟩
  generalize (w1.alloc (.cells mc 201)) = w2 at H0 ⊢
  have HS1 := Lib.hid HB.out.size
  clear HZ HB
  obtain ⟨g, hg⟩ : ∃ g, g = w1.heap.size := ⟨_, rfl⟩
  rw [← hg] at H0 HE HS1 ⊢
  clear hg
  go_loopw [7, 8, 13] (fun _ _ i wr => ∃ k : Nat, k ≤ 21 ∧ i = .int .i64 (k : Int) ∧ RowKit.Hid (IFun wr g 201 .i64 84 (preF F (k * 4)) ∧ Below w.heap.size w wr ∧ Below g w1 wr)) (fun _ _ i _ => 21 - (intOf i).toNat)
  case atStart => exact ⟨0, by omega, rfl, H0.out⟩
  case round =>
    obtain ⟨k, hk, rfl, H⟩ := hrel
    clear H0
    by_cases hlt : k < 21
    · obtain ⟨b, off, rfl, hbl, _, hcell⟩ := HI.out.at_ hlt
      obtain ⟨b2, off2, rfl, hbl2, _, hcell2⟩ := HI2.out.at_ hlt
      have k1 := (H.out.2.1.cell (p := ⟨b, off + k, none⟩) hbl).trans hcell
      have k2 := (H.out.2.1.cell (p := ⟨b2, off2 + k, none⟩) hbl2).trans hcell2
      have HEr := Lib.hid (HE.out.below H.out.2.2)
      obtain ⟨eb, eo, rfl, hebl, _, _⟩ := HEr.out.at_ (j := 0) (by decide)
      have e1 := edges_at HEr.out (k := k) (by omega)
      have e2 := edges_at HEr.out (k := k + 1) (by omega)
      obtain ⟨f0, f1, f2, f3⟩ := HF.out k
      have HS := Lib.hid (parts_next H.out.1 hlt)
      rw [f0, f1, f2, f3] at HS
      have o0 := H.out.1.cell (j := k * 4) (by omega)
      have o1 := H.out.1.cell (j := k * 4 + 1) (by omega)
      have o2 := H.out.1.cell (j := k * 4 + 2) (by omega)
      have o3 := H.out.1.cell (j := k * 4 + 3) (by omega)
      have z0 := H.out.1.frozen (k * 4)
      have z1 := H.out.1.frozen (k * 4 + 1)
      have z2 := H.out.1.frozen (k * 4 + 2)
      have z3 := H.out.1.frozen (k * 4 + 3)
      generalize preF F (k * 4) (k * 4) = y0 at o0
      generalize preF F (k * 4) (k * 4 + 1) = y1 at o1
      generalize preF F (k * 4) (k * 4 + 2) = y2 at o2
      generalize preF F (k * 4) (k * 4 + 3) = y3 at o3
      clear f0 f1 f2 f3 hcell hcell2
      generalize zs.getD k 0 = x at k1 HS
      generalize ss.getD k 0 = y at k2 HS
      obtain ⟨q1, q2⟩ := edgeK_lt k hlt
      generalize edgeK k = p at e1 HS q1
      generalize edgeK (k + 1) = q at e2 HS q1 q2
      have l1 : (k : Int) < 21 := by omega
      go_wp2
      go_region
      clear o0 o1 o2 o3 z0 z1 z2 z3 e1 e2 k1 k2
      have HT : RowKit.Hid (IFun ((((wr.setCell ⟨g, k * 4, none⟩ (.int .i64 (p : Int))).setCell ⟨g, k * 4 + 1, none⟩ (.int .i64 (q : Int))).setCell ⟨g, k * 4 + 2, none⟩ (.int .i64 x)).setCell ⟨g, k * 4 + 3, none⟩ (.int .i64 y)).drew g 201 .i64 84 (preF F ((k + 1) * 4)) ∧ Below w.heap.size w ((((wr.setCell ⟨g, k * 4, none⟩ (.int .i64 (p : Int))).setCell ⟨g, k * 4 + 1, none⟩ (.int .i64 (q : Int))).setCell ⟨g, k * 4 + 2, none⟩ (.int .i64 x)).setCell ⟨g, k * 4 + 3, none⟩ (.int .i64 y)).drew ∧ Below g w1 ((((wr.setCell ⟨g, k * 4, none⟩ (.int .i64 (p : Int))).setCell ⟨g, k * 4 + 1, none⟩ (.int .i64 (q : Int))).setCell ⟨g, k * 4 + 2, none⟩ (.int .i64 x)).setCell ⟨g, k * 4 + 3, none⟩ (.int .i64 y)).drew) :=
        ⟨HS.out.drewN 1, Below.drewN' ((((H.out.2.1.setCell (p := ⟨g, k * 4, none⟩) HS1.out _).setCell (p := ⟨g, k * 4 + 1, none⟩) HS1.out _).setCell (p := ⟨g, k * 4 + 2, none⟩) HS1.out _).setCell (p := ⟨g, k * 4 + 3, none⟩) HS1.out _) 1, Below.drewN' ((((H.out.2.2.setCell (p := ⟨g, k * 4, none⟩) (Nat.le_refl _) _).setCell (p := ⟨g, k * 4 + 1, none⟩) (Nat.le_refl _) _).setCell (p := ⟨g, k * 4 + 2, none⟩) (Nat.le_refl _) _).setCell (p := ⟨g, k * 4 + 3, none⟩) (Nat.le_refl _) _) 1⟩
      clear HS H
      go_wp2
      go_roundw
      case rel => exact ⟨k + 1, by omega, by go_num, HT.out⟩
      case measure => simp [intOf] <;> omega
    · obtain rfl : k = 21 := by omega
      go_wp2
      go_ret
      exact ⟨g, rfl, IFun.ext H.out.1 fun i hi => preF_end _ (by omega), HS1.out, H.out.2.1⟩
end Go.Proofs.YtmegkohfnodkjaaGreat

/- What the document's Ceilings gives. -/
namespace Go.Proofs.YtmegkohfnodkjaaGreat
open Go.RowKit
set_option linter.unusedVariables false

/-- What the document's making of ceilings leaves. -/
def CeilPostR (x : Nat → Int) (w : World) (e : Ending) (w' : World) : Prop :=
  ∃ g, e = .returned (.slice (some ⟨g, 0, none⟩) 21 21) ∧ IFun w' g 3 .i64 21 (ceilF x) ∧ w.heap.size ≤ g ∧ Below w.heap.size w w'
set_option maxHeartbeats 1000000 in
set_option maxRecDepth 100000 in
theorem ref10Ceil_any (b off cap : Nat) (x : Nat → Int) (w : World) (hb : b < w.heap.size) (h : ∀ i, i < 512 → w.cell? ⟨b, off + i, none⟩ = some (.int .i64 (x i))) (hx : ∀ i, i < 512 → -2147483648 ≤ x i ∧ x i ≤ 2147483647) :
    Calls Tryz.prog 33 #[.slice (some ⟨b, off, none⟩) 512 cap] w (CeilPostR x w) := by
  have HC := Lib.hid h
  have HX := Lib.hid hx
  clear h hx
  have hmk : ∀ w : World, (Instr.makeSlice 41 (.int .i64 21) (.int .i64 21)).run Tryz.prog w = .ok (.slice (some ⟨w.heap.size, 0, none⟩) 21 21) (w.alloc (.cells (madeCells #[.int .i64 0] 21) 3)) :=
    fun w => make_zeros (P := Tryz.prog) Tryz.underlying41 infoE_int 21 (by decide) (by decide) w
  go_enter Tryz.func33, Tryz.ntmps33
  go_wp2_with (go_at_call 66; go_loud (refine (ref04Edges_any _).mono ?_); rintro e w1 ⟨ea, ec, rfl, hi, hbl⟩; obtain ⟨eb, eo, rfl⟩ := ints_some hi (by decide); have HE1 := Lib.hid hi; have HB1 := Lib.hid hbl; clear hi hbl)
  obtain ⟨g, hg⟩ : ∃ g, g = w1.heap.size := ⟨_, rfl⟩
  obtain ⟨w2, hw2⟩ : ∃ w2, w2 = w1.alloc (.cells (madeCells #[.int .i64 0] 21) 3) := ⟨_, rfl⟩
  have hgs : w.heap.size ≤ g := by rw [hg]; exact HB1.out.size
  have hebg : eb < g := by rw [hg]; obtain ⟨_, _, e, h, _⟩ := HE1.out.at_ (j := 0) (by decide); injection e with e; injection e with e1; omega
  have HE : RowKit.Hid (∀ k, k < 22 → w2.cell? ⟨eb, eo + k, none⟩ = some (.int .i64 (edgeK k : Int))) := fun k hk => by
    rw [hw2]; exact edges_at (HE1.out.below (Below.alloc_new w1 _)) hk
  have HB2 : RowKit.Hid (Below w.heap.size w w2) := by rw [hw2]; exact HB1.out.alloc HB1.out.size _
  have H0 : RowKit.Hid (IFun w2 g 3 .i64 21 (preF (ceilF x) 0)) := by
    rw [hw2, hg]; exact IFun.ext (IFun.zeros w1 3 .i64 21) fun j _ => (preF_zero _ j).symm
  rw [← hw2, ← hg]
  clear hw2 hg HE1 HB1 hmk
  go_loopw [5] (fun i wr => ∃ k : Nat, k ≤ 21 ∧ i = .int .i64 (k : Int) ∧ RowKit.Hid (IFun wr g 3 .i64 21 (preF (ceilF x) k) ∧ Below g w2 wr)) (fun i _ => 21 - (intOf i).toNat)
  case atStart => exact ⟨0, by omega, rfl, H0.out, Below.refl _ _⟩
  case round =>
    obtain ⟨k, hk, rfl, H⟩ := hrel
    clear H0
    by_cases hlt : k < 21
    · have k1 := (H.out.2.cell (p := ⟨eb, eo + k, none⟩) hebg).trans (HE.out k (by omega))
      have K2 := Lib.hid (HE.out (k + 1) (by omega))
      obtain ⟨ed1, ed2⟩ := edgeK_lt k hlt
      obtain ⟨n, hn⟩ : ∃ n, n = edgeK (k + 1) - edgeK k := ⟨_, rfl⟩
      have HEnd : RowKit.Hid (∀ i, accF x k n i = preF (ceilF x) (k + 1) i) := fun i => accF_end x i hn
      have HN : RowKit.Hid (∀ m : Nat, accF x k m k = maxTo (bitF x) (edgeK k) m) := fun m => accF_here x k m
      have HM : RowKit.Hid (∀ m : Nat, maxTo (bitF x) (edgeK k) (m + 1) = max (maxTo (bitF x) (edgeK k) m) (bitsI (x (edgeK k + m)))) := fun m => rfl
      have HAN : RowKit.Hid (∀ (m i : Nat) (y : Int), y = maxTo (bitF x) (edgeK k) (m + 1) → (if i = k then y else accF x k m i) = accF x k (m + 1) i) := fun m i y h => accF_next x k m i h
      have HAS : RowKit.Hid (∀ (m i : Nat), maxTo (bitF x) (edgeK k) m = maxTo (bitF x) (edgeK k) (m + 1) → accF x k m i = accF x k (m + 1) i) := fun m i h => by
        rw [← accF_next x k m i rfl]; split
        · rename_i e; rw [e, accF_here, h]
        · rfl
      have HBd : RowKit.Hid (∀ m : Nat, m ≤ n → 0 ≤ maxTo (bitF x) (edgeK k) m ∧ maxTo (bitF x) (edgeK k) m ≤ 32) := fun m hm => maxTo_bd (by decide) m fun i hi => (bitF_bd HX.out (by omega)).2
      have hn0 : 0 < n := by omega
      have HCl : RowKit.Hid (∀ m, m < n → w2.cell? ⟨b, off + (edgeK k + m), none⟩ = some (.int .i64 (x (edgeK k + m)))) := fun m hm =>
        (HB2.out.cell (p := ⟨b, off + (edgeK k + m), none⟩) hb).trans (HC.out _ (by omega))
      have HXl : RowKit.Hid (∀ m, m < n → -2147483648 ≤ x (edgeK k + m) ∧ x (edgeK k + m) ≤ 2147483647) := fun m hm => HX.out _ (by omega)
      have hEn : edgeK (k + 1) = edgeK k + n := by omega
      rw [hEn] at K2 ed2
      clear hn hEn ed1
      generalize edgeK k = A at k1 K2 ed2 HN HM HAN HAS HBd HCl HXl
      have H1 : RowKit.Hid (IFun wr g 3 .i64 21 (accF x k 0) ∧ Below g w2 wr) := ⟨IFun.ext H.out.1 fun i _ => (accF_zero x k i).symm, H.out.2⟩
      have l0 : (k : Int) < 21 := by omega
      clear H
      go_wp2
      go_loopw [6] (fun i wx => ∃ m : Nat, m ≤ n ∧ i = .int .i64 ((A + m : Nat) : Int) ∧ RowKit.Hid (IFun wx g 3 .i64 21 (accF x k m) ∧ Below g w2 wx)) (fun i _ => A + n - (intOf i).toNat)
      case atStart => exact ⟨0, by omega, rfl, H1.out⟩
      case round =>
        obtain ⟨m, hm, rfl, G⟩ := hrel
        clear H1 k1
        have k2 := (G.out.2.cell (p := ⟨eb, eo + (k + 1), none⟩) hebg).trans K2.out
        obtain ⟨I, hI⟩ : ∃ I, I = A + m := ⟨_, rfl⟩
        obtain ⟨E, hE⟩ : ∃ E, E = A + n := ⟨_, rfl⟩
        rw [← hE] at k2
        rw [← hI]
        by_cases hmn : m < n
        · have c1 := (G.out.2.cell (p := ⟨b, off + (A + m), none⟩) (by show b < g; omega)).trans (HCl.out m hmn)
          obtain ⟨x0, x1⟩ := HXl.out m hmn
          have o1 := G.out.1.cell (j := k) hlt
          rw [HN.out m] at o1
          have f1 := G.out.1.frozen k
          obtain ⟨b0, b1⟩ := HBd.out m hm
          obtain ⟨y, hy⟩ : ∃ y, y = maxTo (bitF x) A (m + 1) := ⟨_, rfl⟩
          have HV : RowKit.Hid (∀ q, IFun ((wr.drewN q).setCell ⟨g, k, none⟩ (.int .i64 y)) g 3 .i64 21 (accF x k (m + 1)) ∧ Below g w2 ((wr.drewN q).setCell ⟨g, k, none⟩ (.int .i64 y))) := fun q =>
            ⟨IFun.ext ((G.out.1.drewN q).set (j := k) hlt y) fun i _ => HAN.out m i y hy, Below.setCell (p := ⟨g, k, none⟩) (Below.drewN' G.out.2 q) (Nat.le_refl _) _⟩
          have HV' : RowKit.Hid (maxTo (bitF x) A m = y → ∀ q, IFun (wr.drewN q) g 3 .i64 21 (accF x k (m + 1)) ∧ Below g w2 (wr.drewN q)) := fun e q =>
            ⟨IFun.ext (G.out.1.drewN q) fun i _ => HAS.out m i (e.trans hy), Below.drewN' G.out.2 q⟩
          have HY := Lib.hid (hy.trans (HM.out m))
          clear hy
          generalize maxTo (bitF x) A m = M at o1 b0 b1 HY HV'
          have hB := bitsI_le x0 (by omega)
          have HQ : RowKit.Hid (∀ i, Calls Tryz.prog 67 #[.int .i64 (x (A + m))] (wr.drewN i) fun e w' => e = .returned (.int .i64 (bitsI (x (A + m)))) ∧ w' = wr.drewN i) := fun i => (refBits_any _ _ x0 x1).mono fun _ _ h => ⟨h.1, h.2.symm⟩
          rw [← hI] at c1 HY HQ hB x0 x1
          generalize x I = z at c1 x0 x1 HY HQ hB
          generalize bitsI z = B at HY HQ hB
          have l1 : (I : Int) < (E : Int) := by omega
          have HI1 : RowKit.Hid (I + 1 = A + (m + 1)) := by show _ = _; omega
          have HIE : RowKit.Hid (I < A + n) := by show _ < _; omega
          have i1 : I < 512 := by omega
          clear hI hE
          by_cases hMB : M < (B : Int)
          · have hyB : y = (B : Int) := by rw [HY.out]; omega
            have g1 : ((B : Int) > M) = True := by simp; omega
            rw [hyB] at HV
            clear HV' HY hyB
            go_wp2
            go_quiet (first | (go_at_call 67; exact Calls.quiet_of_same (HQ.out _)))
            have HV1 := Lib.hid (HV.out nq)
            have o2 : (wr.drewN nq).cell? ⟨g, k, none⟩ = some (.int .i64 M) := o1
            have f2 : (wr.drewN nq).frozen? ⟨g, k, none⟩ = false := f1
            have c2 : (wr.drewN nq).cell? ⟨b, off + I, none⟩ = some (.int .i64 z) := c1
            have HQ1 := Lib.hid (HQ.out nq)
            clear HV o1 f1 c1 k2 HQ
            generalize wr.drewN nq = wq at HV1 o2 f2 c2 HQ1 ⊢
            go_wp2_with (go_at_call 67; refine HQ1.out.mono ?_; rintro e w' ⟨rfl, rfl⟩)
            go_roundw
            case rel => exact ⟨m + 1, by omega, by rw [← HI1.out]; go_num, HV1.out⟩
            case measure => have := HIE.out; simp [intOf] <;> omega
          · have hyM : M = y := by rw [HY.out]; omega
            have HT := Lib.hid (HV'.out hyM)
            clear HV HV' HY hyM
            go_wp2
            go_quiet (first | (go_at_call 67; exact Calls.quiet_of_same (HQ.out _)))
            have HT1 := Lib.hid (HT.out nq)
            clear HT o1 f1 c1 k2 HQ
            generalize wr.drewN nq = wq at HT1 ⊢
            go_wp2
            go_roundw
            case rel => exact ⟨m + 1, by omega, by rw [← HI1.out]; go_num, HT1.out⟩
            case measure => have := HIE.out; simp [intOf] <;> omega
        · obtain rfl : m = n := by omega
          have Z : RowKit.Hid (IFun wr g 3 .i64 21 (preF (ceilF x) (k + 1)) ∧ Below g w2 wr) := ⟨IFun.ext G.out.1 fun i _ => HEnd.out i, G.out.2⟩
          have l1 : ¬ (I : Int) < (E : Int) := by omega
          clear hI hE
          go_wp2
          go_roundw
          case rel => exact ⟨k + 1, by omega, by go_num, Z.out⟩
          case measure => simp [intOf] <;> omega
    · obtain rfl : k = 21 := by omega
      have Z : RowKit.Hid (IFun wr g 3 .i64 21 (ceilF x) ∧ Below w.heap.size w wr) := ⟨IFun.ext H.out.1 fun i hi => preF_end _ hi, HB2.out.trans (H.out.2.mono hgs)⟩
      go_wp2
      go_ret
      exact ⟨g, rfl, Z.out.1, hgs, Z.out.2⟩
end Go.Proofs.YtmegkohfnodkjaaGreat

/- The walks of ModelLearns and ModelFixed, by the contracts of the functions that they call. -/
namespace Go.Proofs.YtmegkohfnodkjaaGreat
open Go.RowKit
set_option linter.unusedVariables false

/-! ### ModelLearns -/
/-! ### ModelFixed -/
theorem modFixed_ok (a : Option Addr) (len cap : Nat) (zs : List Int) (w : World) (h : IntsAt w w.heap.size .u32 a len zs) (hb : ∀ j, j < len → 0 ≤ zs.getD j 0 ∧ zs.getD j 0 ≤ 4294967295) (h0 : 1 ≤ len) (h1 : len ≤ 64) (hf : FixOk zs len) :
    Calls Tryz.prog 175 #[.slice a len cap] w fun e w' => ∃ g, e = .returned (.tuple #[.pointer (some ⟨g, 0, none⟩), .int .i64 0]) ∧ w.heap.size ≤ g ∧ ModAt w' g zs true ∧ Below w.heap.size w w' :=
  (modFixed_any a len cap zs w h hb h0 h1).mono fun e w' k => by
    obtain ⟨k1, ⟨k2, _⟩ | ⟨_, g, k3, k4, k5⟩⟩ := k
    · exact absurd hf k2
    · exact ⟨g, k3, k4, k5, k1⟩
theorem refFixed_ok (a : Option Addr) (len cap : Nat) (zs : List Int) (w : World) (h : IntsAt w w.heap.size .u32 a len zs) (hb : ∀ j, j < len → 0 ≤ zs.getD j 0 ∧ zs.getD j 0 ≤ 4294967295) (h0 : 1 ≤ len) (h1 : len ≤ 64) (hf : FixOk zs len) :
    Calls Tryz.prog 100 #[.slice a len cap] w fun e w' => ∃ g r, e = .returned (.tuple #[.pointer (some ⟨g, 0, none⟩), .bool true]) ∧ RefMod w' w.heap.size g r zs true ∧ Below w.heap.size w w' :=
  (refFixed_any a len cap zs w h hb h0 h1).mono fun e w' k => by
    obtain ⟨k1, ⟨⟨j, hj, hz⟩, _⟩ | ⟨_, g, r, k3, k4⟩⟩ := k
    · have := hf.1 j hj; omega
    · refine ⟨g, r, ?_, k4, k1⟩
      rw [k3]
      simp [hf.2]
end Go.Proofs.YtmegkohfnodkjaaGreat
