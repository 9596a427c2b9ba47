/- Plain facts, and what functions give, for the proofs of this seat: several texts in one, each with its own first remark. -/
import Derived.Test.YtgnmnmjicjcffaaGc
import Derived.OpenShut
import Derived.Laws.AppendOwnNone
import Derived.Test.YtgnmnmjicjcffaaGb
import Derived.Deep.CutBlock
import Derived.Test.YtgnmnmjicjcffaaGa
import Derived.Deep.RegionHeld3
import Derived.Deep.AppendLies

/- What Ceilings of package energy gives, and the document's. -/
namespace Go.Proofs.Ytgnmnmjicjcffaa
open Go.RowKit
set_option linter.unusedVariables false

theorem infoE_int : (Try.prog.info? 3).map (fun i => (i.zero, i.size, i.bytes)) = some (some (.int .i64 0), 1, 8) := by kernel_rfl
theorem edges_at {w : World} {B b off : Nat} (h : IntsAt w B .i64 (some ⟨b, off, none⟩) 22 edgesL) {k : Nat} (hk : k < 22) : w.cell? ⟨b, off + k, none⟩ = some (.int .i64 (edgeK k : Int)) := by
  rw [ints_cell h hk, ← edgeK_eq hk]; rfl
/-- What ceilings' making leaves. -/
def CeilPost (x : Nat → Int) (w : World) (e : Ending) (w' : World) : Prop :=
  ∃ g, e = .returned (.tuple #[.slice (some ⟨g, 0, none⟩) 21 21, .int .i64 0]) ∧ IFun w' g 3 .i64 21 (ceilF x) ∧ w.heap.size ≤ g ∧ Below w.heap.size w w'
theorem engCeil_out (a : Option Addr) (len cap : Nat) (w : World) (hm : len ≤ 9223372036854775807) (h : len ≠ 512) :
    Calls Try.prog 8 #[.slice a len cap] w fun e w' => e = .returned (.tuple #[.slice none 0 0, .int .i64 1]) ∧ w = w' := by
  have q1 : ((len : Int) == 512) = false := by simp; omega
  clear h
  go_enter Try.func8, Try.ntmps8
  go_wp2
  go_ret2
  exact ⟨rfl, rfl⟩
set_option maxHeartbeats 1000000 in
set_option maxRecDepth 100000 in
theorem engCeil_any (b off cap : Nat) (x : Nat → Int) (w : World) (hb : b < w.heap.size) (h : ∀ i, i < 512 → w.cell? ⟨b, off + i, none⟩ = some (.int .i32 (x i))) (hx : ∀ i, i < 512 → -2147483648 ≤ x i ∧ x i ≤ 2147483647) (hc : 512 ≤ cap) (hc' : cap ≤ 9223372036854775807) :
    Calls Try.prog 8 #[.slice (some ⟨b, off, none⟩) 512 cap] w (CeilPost x w) := by
  have HC := Lib.hid h
  have HX := Lib.hid hx
  clear h hx
  have hmk : ∀ w : World, (Instr.makeSlice 23 (.int .i64 21) (.int .i64 21)).run Try.prog w = .ok (.slice (some ⟨w.heap.size, 0, none⟩) 21 21) (w.alloc (.cells (madeCells #[.int .i64 0] 21) 3)) :=
    fun w => make_zeros (P := Try.prog) Try.underlying23 infoE_int 21 (by decide) (by decide) w
  go_enter Try.func8, Try.ntmps8
  go_wp2_with (go_at_call 24; go_loud (refine (bandsEdges_any _).mono ?_); rintro e w1 ⟨ea, ec, rfl, hi, hbl⟩; obtain ⟨eb, eo, rfl⟩ := ints_some hi (by decide); have HE1 := Lib.hid hi; have HB1 := Lib.hid hbl; clear hi hbl)
  obtain ⟨g, hg⟩ : ∃ g, g = w1.heap.size := ⟨_, rfl⟩
  obtain ⟨w2, hw2⟩ : ∃ w2, w2 = w1.alloc (.cells (madeCells #[.int .i64 0] 21) 3) := ⟨_, rfl⟩
  have hgs : w.heap.size ≤ g := by rw [hg]; exact HB1.out.size
  have hebg : eb < g := by rw [hg]; obtain ⟨_, _, e, h, _⟩ := HE1.out.at_ (j := 0) (by decide); injection e with e; injection e with e1; omega
  have HE : RowKit.Hid (∀ k, k < 22 → w2.cell? ⟨eb, eo + k, none⟩ = some (.int .i64 (edgeK k : Int))) := fun k hk => by
    rw [hw2]; exact edges_at (HE1.out.below (Below.alloc_new w1 _)) hk
  have HB2 : RowKit.Hid (Below w.heap.size w w2) := by rw [hw2]; exact HB1.out.alloc HB1.out.size _
  have H0 : RowKit.Hid (IFun w2 g 3 .i64 21 (preF (ceilF x) 0)) := by
    rw [hw2, hg]; exact IFun.ext (IFun.zeros w1 3 .i64 21) fun j _ => (preF_zero _ j).symm
  rw [← hw2, ← hg]
  clear hw2 hg HE1 HB1 hmk
  go_loopw [16] (fun i wr => ∃ k : Nat, k ≤ 21 ∧ i = .int .i64 (k : Int) ∧ RowKit.Hid (IFun wr g 3 .i64 21 (preF (ceilF x) k) ∧ Below g w2 wr)) (fun i _ => 21 - (intOf i).toNat)
  case atStart => exact ⟨0, by omega, rfl, H0.out, Below.refl _ _⟩
  case round =>
    obtain ⟨k, hk, rfl, H⟩ := hrel
    clear H0
    by_cases hlt : k < 21
    · have k1 := (H.out.2.cell (p := ⟨eb, eo + k, none⟩) hebg).trans (HE.out k (by omega))
      have k2 := (H.out.2.cell (p := ⟨eb, eo + (k + 1), none⟩) hebg).trans (HE.out (k + 1) (by omega))
      obtain ⟨ed1, ed2⟩ := edgeK_lt k hlt
      obtain ⟨n, hn⟩ : ∃ n, n = edgeK (k + 1) - edgeK k := ⟨_, rfl⟩
      have HEnd : RowKit.Hid (∀ i, accF x k n i = preF (ceilF x) (k + 1) i) := fun i => accF_end x i hn
      have Hk := Lib.hid (rfl : edgeK k = edgeK k)
      have HN : RowKit.Hid (∀ m : Nat, accF x k m k = maxTo (bitF x) (edgeK k) m) := fun m => accF_here x k m
      have HM : RowKit.Hid (∀ m : Nat, maxTo (bitF x) (edgeK k) (m + 1) = max (maxTo (bitF x) (edgeK k) m) (bitsI (x (edgeK k + m)))) := fun m => rfl
      have HAN : RowKit.Hid (∀ (m i : Nat) (y : Int), y = maxTo (bitF x) (edgeK k) (m + 1) → (if i = k then y else accF x k m i) = accF x k (m + 1) i) := fun m i y h => accF_next x k m i h
      have HBd : RowKit.Hid (∀ m : Nat, m ≤ n → 0 ≤ maxTo (bitF x) (edgeK k) m ∧ maxTo (bitF x) (edgeK k) m ≤ 32) := fun m hm => maxTo_bd (by decide) m fun i hi => (bitF_bd HX.out (by omega)).2
      have e2 : edgeK (k + 1) = edgeK k + n := by omega
      have hn0 : 0 < n := by omega
      obtain ⟨E, hE⟩ : ∃ E, E = edgeK (k + 1) := ⟨_, rfl⟩
      rw [← hE] at k2 ed1 ed2 hn e2
      clear hE Hk
      have HCl : RowKit.Hid (∀ m, m < n → w2.cell? ⟨b, off + edgeK k + m, none⟩ = some (.int .i32 (x (edgeK k + m)))) := fun m hm => by
        rw [Nat.add_assoc]; exact (HB2.out.cell (p := ⟨b, off + (edgeK k + m), none⟩) hb).trans (HC.out _ (by omega))
      have HXl : RowKit.Hid (∀ m, m < n → -2147483648 ≤ x (edgeK k + m) ∧ x (edgeK k + m) ≤ 2147483647) := fun m hm => HX.out _ (by omega)
      generalize edgeK k = A at k1 ed1 ed2 hn e2 HN HM HAN HBd HCl HXl
      have hca : ¬ cap = A := by omega
      have e3 : E - A = n := hn.symm
      clear hn e2
      have H1 : RowKit.Hid (∀ q, IFun (wr.drewN q) g 3 .i64 21 (accF x k 0) ∧ Below g w2 (wr.drewN q)) := fun q => ⟨IFun.ext (H.out.1.drewN q) fun i _ => (accF_zero x k i).symm, Below.drewN' H.out.2 q⟩
      have l0 : (k : Int) < 21 := by omega
      go_wp2
      go_quiet (fail)
      have H2 := Lib.hid (H1.out nq)
      clear H1 k1 k2 H
      generalize wr.drewN nq = wq at H2 ⊢
      go_wp2
      go_loopw [8, 31] (fun _ i wx => ∃ m : Nat, m ≤ n ∧ i = .int .i64 (m : Int) ∧ RowKit.Hid (IFun wx g 3 .i64 21 (accF x k m) ∧ Below g w2 wx)) (fun _ i _ => n - (intOf i).toNat)
      case atStart => exact ⟨0, by omega, rfl, H2.out⟩
      case round =>
        obtain ⟨m, hm, rfl, G⟩ := hrel
        clear H2
        by_cases hmn : m < n
        · have c1 := (G.out.2.cell (p := ⟨b, off + A + m, none⟩) (by show b < g; omega)).trans (HCl.out m hmn)
          obtain ⟨x0, x1⟩ := HXl.out m hmn
          have o1 := G.out.1.cell (j := k) hlt
          rw [HN.out m] at o1
          have f1 := G.out.1.frozen k
          obtain ⟨b0, b1⟩ := HBd.out m hm
          obtain ⟨y, hy⟩ : ∃ y, y = maxTo (bitF x) A (m + 1) := ⟨_, rfl⟩
          have HV : RowKit.Hid (∀ q, IFun ((wr.drewN q).setCell ⟨g, k, none⟩ (.int .i64 y)) g 3 .i64 21 (accF x k (m + 1)) ∧ Below g w2 ((wr.drewN q).setCell ⟨g, k, none⟩ (.int .i64 y))) := fun q =>
            ⟨IFun.ext ((G.out.1.drewN q).set (j := k) hlt y) fun i _ => HAN.out m i y hy, Below.setCell (p := ⟨g, k, none⟩) (Below.drewN' G.out.2 q) (Nat.le_refl _) _⟩
          have HY := Lib.hid (hy.trans (HM.out m))
          clear hy
          generalize maxTo (bitF x) A m = M at o1 b0 b1 HY
          have hB := bitsI_le x0 (by omega)
          have HQ : RowKit.Hid (∀ i, Calls Try.prog 25 #[.int .i32 (x (A + m))] (wr.drewN i) fun e w' => e = .returned (.int .i64 (bitsI (x (A + m)))) ∧ w' = wr.drewN i) := fun i => (engBits_any _ _ x0 x1).mono fun _ _ h => ⟨h.1, h.2.symm⟩
          generalize x (A + m) = z at c1 x0 x1 HY HQ hB
          generalize bitsI z = B at HY HQ hB
          have l1 : (m : Int) < (n : Int) := by omega
          go_wp2
          go_still_tail 10, (by kernel_rfl)
          repeat still_step
          still_call (HQ.out 1)
          repeat still_step
          refine wpStill_nil ?_
          change wpList _ _ _ _ _ wr.drew
          have hE : (if M < (B : Int) then (B : Int) else M) = y := by rw [HY.out]; split <;> omega
          rw [hE]
          have HV1 := Lib.hid (HV.out 1)
          have o2 : wr.drew.cell? ⟨g, k, none⟩ = some (.int .i64 M) := o1
          have f2 : wr.drew.frozen? ⟨g, k, none⟩ = false := f1
          change RowKit.Hid (IFun (wr.drew.setCell ⟨g, k, none⟩ (.int .i64 y)) g 3 .i64 21 (accF x k (m + 1)) ∧ Below g w2 (wr.drew.setCell ⟨g, k, none⟩ (.int .i64 y))) at HV1
          clear HV HQ o1 f1 c1 hE
          generalize wr.drew = wq at HV1 o2 f2 ⊢
          go_wp2
          go_roundw
          case rel => exact ⟨m + 1, by omega, by go_num, HV1.out⟩
          case measure => simp [intOf] <;> omega
        · obtain rfl : m = n := by omega
          have Z : RowKit.Hid (IFun wr g 3 .i64 21 (preF (ceilF x) (k + 1)) ∧ Below g w2 wr) := ⟨IFun.ext G.out.1 fun i _ => HEnd.out i, G.out.2⟩
          have l1 : ¬ (m : Int) < (m : Int) := by omega
          go_wp2
          go_roundw
          case rel => exact ⟨k + 1, by omega, by go_num, Z.out⟩
          case measure => simp [intOf] <;> omega
    · obtain rfl : k = 21 := by omega
      have Z : RowKit.Hid (IFun wr g 3 .i64 21 (ceilF x) ∧ Below w.heap.size w wr) := ⟨IFun.ext H.out.1 fun i hi => preF_end _ hi, HB2.out.trans (H.out.2.mono hgs)⟩
      go_wp2
      go_ret2
      exact ⟨g, rfl, Z.out.1, hgs, Z.out.2⟩
end Go.Proofs.Ytgnmnmjicjcffaa

/- What the document's Ceilings gives. -/
namespace Go.Proofs.Ytgnmnmjicjcffaa
open Go.RowKit
set_option linter.unusedVariables false

/-- What the document's making of ceilings leaves. -/
def CeilPostR (x : Nat → Int) (w : World) (e : Ending) (w' : World) : Prop :=
  ∃ g, e = .returned (.slice (some ⟨g, 0, none⟩) 21 21) ∧ IFun w' g 3 .i64 21 (ceilF x) ∧ w.heap.size ≤ g ∧ Below w.heap.size w w'
set_option maxHeartbeats 1000000 in
set_option maxRecDepth 100000 in
theorem ref10Ceil_any (b off cap : Nat) (x : Nat → Int) (w : World) (hb : b < w.heap.size) (h : ∀ i, i < 512 → w.cell? ⟨b, off + i, none⟩ = some (.int .i64 (x i))) (hx : ∀ i, i < 512 → -2147483648 ≤ x i ∧ x i ≤ 2147483647) :
    Calls Try.prog 10 #[.slice (some ⟨b, off, none⟩) 512 cap] w (CeilPostR x w) := by
  have HC := Lib.hid h
  have HX := Lib.hid hx
  clear h hx
  have hmk : ∀ w : World, (Instr.makeSlice 23 (.int .i64 21) (.int .i64 21)).run Try.prog w = .ok (.slice (some ⟨w.heap.size, 0, none⟩) 21 21) (w.alloc (.cells (madeCells #[.int .i64 0] 21) 3)) :=
    fun w => make_zeros (P := Try.prog) Try.underlying23 infoE_int 21 (by decide) (by decide) w
  go_enter Try.func10, Try.ntmps10
  go_wp2_with (go_at_call 26; go_loud (refine (ref04Edges_any _).mono ?_); rintro e w1 ⟨ea, ec, rfl, hi, hbl⟩; obtain ⟨eb, eo, rfl⟩ := ints_some hi (by decide); have HE1 := Lib.hid hi; have HB1 := Lib.hid hbl; clear hi hbl)
  obtain ⟨g, hg⟩ : ∃ g, g = w1.heap.size := ⟨_, rfl⟩
  obtain ⟨w2, hw2⟩ : ∃ w2, w2 = w1.alloc (.cells (madeCells #[.int .i64 0] 21) 3) := ⟨_, rfl⟩
  have hgs : w.heap.size ≤ g := by rw [hg]; exact HB1.out.size
  have hebg : eb < g := by rw [hg]; obtain ⟨_, _, e, h, _⟩ := HE1.out.at_ (j := 0) (by decide); injection e with e; injection e with e1; omega
  have HE : RowKit.Hid (∀ k, k < 22 → w2.cell? ⟨eb, eo + k, none⟩ = some (.int .i64 (edgeK k : Int))) := fun k hk => by
    rw [hw2]; exact edges_at (HE1.out.below (Below.alloc_new w1 _)) hk
  have HB2 : RowKit.Hid (Below w.heap.size w w2) := by rw [hw2]; exact HB1.out.alloc HB1.out.size _
  have H0 : RowKit.Hid (IFun w2 g 3 .i64 21 (preF (ceilF x) 0)) := by
    rw [hw2, hg]; exact IFun.ext (IFun.zeros w1 3 .i64 21) fun j _ => (preF_zero _ j).symm
  rw [← hw2, ← hg]
  clear hw2 hg HE1 HB1 hmk
  go_loopw [5] (fun i wr => ∃ k : Nat, k ≤ 21 ∧ i = .int .i64 (k : Int) ∧ RowKit.Hid (IFun wr g 3 .i64 21 (preF (ceilF x) k) ∧ Below g w2 wr)) (fun i _ => 21 - (intOf i).toNat)
  case atStart => exact ⟨0, by omega, rfl, H0.out, Below.refl _ _⟩
  case round =>
    obtain ⟨k, hk, rfl, H⟩ := hrel
    clear H0
    by_cases hlt : k < 21
    · have k1 := (H.out.2.cell (p := ⟨eb, eo + k, none⟩) hebg).trans (HE.out k (by omega))
      have K2 := Lib.hid (HE.out (k + 1) (by omega))
      obtain ⟨ed1, ed2⟩ := edgeK_lt k hlt
      obtain ⟨n, hn⟩ : ∃ n, n = edgeK (k + 1) - edgeK k := ⟨_, rfl⟩
      have HEnd : RowKit.Hid (∀ i, accF x k n i = preF (ceilF x) (k + 1) i) := fun i => accF_end x i hn
      have HN : RowKit.Hid (∀ m : Nat, accF x k m k = maxTo (bitF x) (edgeK k) m) := fun m => accF_here x k m
      have HM : RowKit.Hid (∀ m : Nat, maxTo (bitF x) (edgeK k) (m + 1) = max (maxTo (bitF x) (edgeK k) m) (bitsI (x (edgeK k + m)))) := fun m => rfl
      have HAN : RowKit.Hid (∀ (m i : Nat) (y : Int), y = maxTo (bitF x) (edgeK k) (m + 1) → (if i = k then y else accF x k m i) = accF x k (m + 1) i) := fun m i y h => accF_next x k m i h
      have HAS : RowKit.Hid (∀ (m i : Nat), maxTo (bitF x) (edgeK k) m = maxTo (bitF x) (edgeK k) (m + 1) → accF x k m i = accF x k (m + 1) i) := fun m i h => by
        rw [← accF_next x k m i rfl]; split
        · rename_i e; rw [e, accF_here, h]
        · rfl
      have HBd : RowKit.Hid (∀ m : Nat, m ≤ n → 0 ≤ maxTo (bitF x) (edgeK k) m ∧ maxTo (bitF x) (edgeK k) m ≤ 32) := fun m hm => maxTo_bd (by decide) m fun i hi => (bitF_bd HX.out (by omega)).2
      have hn0 : 0 < n := by omega
      have HCl : RowKit.Hid (∀ m, m < n → w2.cell? ⟨b, off + (edgeK k + m), none⟩ = some (.int .i64 (x (edgeK k + m)))) := fun m hm =>
        (HB2.out.cell (p := ⟨b, off + (edgeK k + m), none⟩) hb).trans (HC.out _ (by omega))
      have HXl : RowKit.Hid (∀ m, m < n → -2147483648 ≤ x (edgeK k + m) ∧ x (edgeK k + m) ≤ 2147483647) := fun m hm => HX.out _ (by omega)
      have hEn : edgeK (k + 1) = edgeK k + n := by omega
      rw [hEn] at K2 ed2
      clear hn hEn ed1
      generalize edgeK k = A at k1 K2 ed2 HN HM HAN HAS HBd HCl HXl
      have H1 : RowKit.Hid (IFun wr g 3 .i64 21 (accF x k 0) ∧ Below g w2 wr) := ⟨IFun.ext H.out.1 fun i _ => (accF_zero x k i).symm, H.out.2⟩
      have l0 : (k : Int) < 21 := by omega
      clear H
      go_wp2
      go_loopw [6] (fun i wx => ∃ m : Nat, m ≤ n ∧ i = .int .i64 ((A + m : Nat) : Int) ∧ RowKit.Hid (IFun wx g 3 .i64 21 (accF x k m) ∧ Below g w2 wx)) (fun i _ => A + n - (intOf i).toNat)
      case atStart => exact ⟨0, by omega, rfl, H1.out⟩
      case round =>
        obtain ⟨m, hm, rfl, G⟩ := hrel
        clear H1 k1
        have k2 := (G.out.2.cell (p := ⟨eb, eo + (k + 1), none⟩) hebg).trans K2.out
        obtain ⟨I, hI⟩ : ∃ I, I = A + m := ⟨_, rfl⟩
        obtain ⟨E, hE⟩ : ∃ E, E = A + n := ⟨_, rfl⟩
        rw [← hE] at k2
        rw [← hI]
        by_cases hmn : m < n
        · have c1 := (G.out.2.cell (p := ⟨b, off + (A + m), none⟩) (by show b < g; omega)).trans (HCl.out m hmn)
          obtain ⟨x0, x1⟩ := HXl.out m hmn
          have o1 := G.out.1.cell (j := k) hlt
          rw [HN.out m] at o1
          have f1 := G.out.1.frozen k
          obtain ⟨b0, b1⟩ := HBd.out m hm
          obtain ⟨y, hy⟩ : ∃ y, y = maxTo (bitF x) A (m + 1) := ⟨_, rfl⟩
          have HV : RowKit.Hid (∀ q, IFun ((wr.drewN q).setCell ⟨g, k, none⟩ (.int .i64 y)) g 3 .i64 21 (accF x k (m + 1)) ∧ Below g w2 ((wr.drewN q).setCell ⟨g, k, none⟩ (.int .i64 y))) := fun q =>
            ⟨IFun.ext ((G.out.1.drewN q).set (j := k) hlt y) fun i _ => HAN.out m i y hy, Below.setCell (p := ⟨g, k, none⟩) (Below.drewN' G.out.2 q) (Nat.le_refl _) _⟩
          have HV' : RowKit.Hid (maxTo (bitF x) A m = y → ∀ q, IFun (wr.drewN q) g 3 .i64 21 (accF x k (m + 1)) ∧ Below g w2 (wr.drewN q)) := fun e q =>
            ⟨IFun.ext (G.out.1.drewN q) fun i _ => HAS.out m i (e.trans hy), Below.drewN' G.out.2 q⟩
          have HY := Lib.hid (hy.trans (HM.out m))
          clear hy
          generalize maxTo (bitF x) A m = M at o1 b0 b1 HY HV'
          have hB := bitsI_le x0 (by omega)
          have HQ : RowKit.Hid (∀ i, Calls Try.prog 27 #[.int .i64 (x (A + m))] (wr.drewN i) fun e w' => e = .returned (.int .i64 (bitsI (x (A + m)))) ∧ w' = wr.drewN i) := fun i => (refBits_any _ _ x0 x1).mono fun _ _ h => ⟨h.1, h.2.symm⟩
          rw [← hI] at c1 HY HQ hB x0 x1
          generalize x I = z at c1 x0 x1 HY HQ hB
          generalize bitsI z = B at HY HQ hB
          have l1 : (I : Int) < (E : Int) := by omega
          have HI1 : RowKit.Hid (I + 1 = A + (m + 1)) := by show _ = _; omega
          have HIE : RowKit.Hid (I < A + n) := by show _ < _; omega
          have i1 : I < 512 := by omega
          clear hI hE
          by_cases hMB : M < (B : Int)
          · have hyB : y = (B : Int) := by rw [HY.out]; omega
            have g1 : ((B : Int) > M) = True := by simp; omega
            rw [hyB] at HV
            clear HV' HY hyB
            go_wp2
            go_quiet (first | (go_at_call 27; exact Calls.quiet_of_same (HQ.out _)))
            have HV1 := Lib.hid (HV.out nq)
            have o2 : (wr.drewN nq).cell? ⟨g, k, none⟩ = some (.int .i64 M) := o1
            have f2 : (wr.drewN nq).frozen? ⟨g, k, none⟩ = false := f1
            have c2 : (wr.drewN nq).cell? ⟨b, off + I, none⟩ = some (.int .i64 z) := c1
            have HQ1 := Lib.hid (HQ.out nq)
            clear HV o1 f1 c1 k2 HQ
            generalize wr.drewN nq = wq at HV1 o2 f2 c2 HQ1 ⊢
            go_wp2_with (go_at_call 27; refine HQ1.out.mono ?_; rintro e w' ⟨rfl, rfl⟩)
            go_roundw
            case rel => exact ⟨m + 1, by omega, by rw [← HI1.out]; go_num, HV1.out⟩
            case measure => have := HIE.out; simp [intOf] <;> omega
          · have hyM : M = y := by rw [HY.out]; omega
            have HT := Lib.hid (HV'.out hyM)
            clear HV HV' HY hyM
            go_wp2
            go_quiet (first | (go_at_call 27; exact Calls.quiet_of_same (HQ.out _)))
            have HT1 := Lib.hid (HT.out nq)
            clear HT o1 f1 c1 k2 HQ
            generalize wr.drewN nq = wq at HT1 ⊢
            go_wp2
            go_roundw
            case rel => exact ⟨m + 1, by omega, by rw [← HI1.out]; go_num, HT1.out⟩
            case measure => have := HIE.out; simp [intOf] <;> omega
        · obtain rfl : m = n := by omega
          have Z : RowKit.Hid (IFun wr g 3 .i64 21 (preF (ceilF x) (k + 1)) ∧ Below g w2 wr) := ⟨IFun.ext G.out.1 fun i _ => HEnd.out i, G.out.2⟩
          have l1 : ¬ (I : Int) < (E : Int) := by omega
          clear hI hE
          go_wp2
          go_roundw
          case rel => exact ⟨k + 1, by omega, by go_num, Z.out⟩
          case measure => simp [intOf] <;> omega
    · obtain rfl : k = 21 := by omega
      have Z : RowKit.Hid (IFun wr g 3 .i64 21 (ceilF x) ∧ Below w.heap.size w wr) := ⟨IFun.ext H.out.1 fun i hi => preF_end _ hi, HB2.out.trans (H.out.2.mono hgs)⟩
      go_wp2
      go_ret
      exact ⟨g, rfl, Z.out.1, hgs, Z.out.2⟩
end Go.Proofs.Ytgnmnmjicjcffaa

/- The walks of ModelLearns and ModelFixed, by the contracts of the functions that they call. -/
namespace Go.Proofs.Ytgnmnmjicjcffaa
open Go.RowKit
set_option linter.unusedVariables false

/-! ### ModelLearns -/
/-! ### ModelFixed -/
theorem fixOk_dec (zs : List Int) (len : Nat) : FixOk zs len ∨ ¬ FixOk zs len := Classical.em _
theorem modFixed_ok (a : Option Addr) (len cap : Nat) (zs : List Int) (w : World) (h : IntsAt w w.heap.size .u32 a len zs) (hb : ∀ j, j < len → 0 ≤ zs.getD j 0 ∧ zs.getD j 0 ≤ 4294967295) (h0 : 1 ≤ len) (h1 : len ≤ 64) (hf : FixOk zs len) :
    Calls Try.prog 57 #[.slice a len cap] w fun e w' => ∃ g, e = .returned (.tuple #[.pointer (some ⟨g, 0, none⟩), .int .i64 0]) ∧ w.heap.size ≤ g ∧ ModAt w' g zs true ∧ Below w.heap.size w w' :=
  (modFixed_any a len cap zs w h hb h0 h1).mono fun e w' k => by
    obtain ⟨k1, ⟨k2, _⟩ | ⟨_, g, k3, k4, k5⟩⟩ := k
    · exact absurd hf k2
    · exact ⟨g, k3, k4, k5, k1⟩
theorem modFixed_no (a : Option Addr) (len cap : Nat) (zs : List Int) (w : World) (h : IntsAt w w.heap.size .u32 a len zs) (hb : ∀ j, j < len → 0 ≤ zs.getD j 0 ∧ zs.getD j 0 ≤ 4294967295) (h0 : 1 ≤ len) (h1 : len ≤ 64) (hf : ¬ FixOk zs len) :
    Calls Try.prog 57 #[.slice a len cap] w fun e w' => e = .returned (.tuple #[.pointer none, .int .i64 1]) ∧ Below w.heap.size w w' :=
  (modFixed_any a len cap zs w h hb h0 h1).mono fun e w' k => by
    obtain ⟨k1, ⟨_, k3⟩ | ⟨k2, _⟩⟩ := k
    · exact ⟨k3, k1⟩
    · exact absurd k2 hf
theorem refFixed_ok (a : Option Addr) (len cap : Nat) (zs : List Int) (w : World) (h : IntsAt w w.heap.size .u32 a len zs) (hb : ∀ j, j < len → 0 ≤ zs.getD j 0 ∧ zs.getD j 0 ≤ 4294967295) (h0 : 1 ≤ len) (h1 : len ≤ 64) (hf : FixOk zs len) :
    Calls Try.prog 46 #[.slice a len cap] w fun e w' => ∃ g r, e = .returned (.tuple #[.pointer (some ⟨g, 0, none⟩), .bool true]) ∧ RefMod w' w.heap.size g r zs true ∧ Below w.heap.size w w' :=
  (refFixed_any a len cap zs w h hb h0 h1).mono fun e w' k => by
    obtain ⟨k1, ⟨⟨j, hj, hz⟩, _⟩ | ⟨_, g, r, k3, k4⟩⟩ := k
    · have := hf.1 j hj; omega
    · refine ⟨g, r, ?_, k4, k1⟩
      rw [k3]
      simp [hf.2]
theorem refFixed_no (a : Option Addr) (len cap : Nat) (zs : List Int) (w : World) (h : IntsAt w w.heap.size .u32 a len zs) (hb : ∀ j, j < len → 0 ≤ zs.getD j 0 ∧ zs.getD j 0 ≤ 4294967295) (h0 : 1 ≤ len) (h1 : len ≤ 64) (hf : ¬ FixOk zs len) :
    Calls Try.prog 46 #[.slice a len cap] w fun e w' => ∃ p, e = .returned (.tuple #[.pointer p, .bool false]) ∧ Below w.heap.size w w' :=
  (refFixed_any a len cap zs w h hb h0 h1).mono fun e w' k => by
    obtain ⟨k1, ⟨_, k3⟩ | ⟨k2, g, r, k3, k4⟩⟩ := k
    · exact ⟨none, k3, k1⟩
    · refine ⟨some ⟨g, 0, none⟩, ?_, k1⟩
      rw [k3]
      have : ¬ sumN zs len ≤ 8192 := fun c => hf ⟨k2, c⟩
      simp [this]

theorem info_u32 : (Try.prog.info? 54).map (fun i => (i.zero, i.size, i.bytes)) = some (some (.int .u32 0), 1, 4) := by kernel_rfl

end Go.Proofs.Ytgnmnmjicjcffaa

/- The models of differences: the program's and the document's. -/
namespace Go.Proofs.Ytgnmnmjicjcffaa
open Go.RowKit
set_option linter.unusedVariables false

theorem IRow.ints {w : World} {g n : Nat} {t : TypeId} {k : IntKind} {zs : List Int} (h : IRow w g t k zs) (hn : zs.length = n) (hm : n ≤ 9223372036854775807) : IntsAt w w.heap.size k (some ⟨g, 0, none⟩) n zs :=
  ⟨hn, .inr ⟨g, 0, rfl, h.lt, hm, fun j hj => by rw [Nat.zero_add]; exact h.cell (by omega)⟩⟩
theorem difE_fix : FixOk difL 32 := ⟨difL_one, by rw [difL_sum]; decide⟩
theorem made32 : (#[Value.int .u32 0, Value.int .u32 0, Value.int .u32 0, Value.int .u32 0, Value.int .u32 0, Value.int .u32 0, Value.int .u32 0, Value.int .u32 0, Value.int .u32 0, Value.int .u32 0, Value.int .u32 0, Value.int .u32 0, Value.int .u32 0, Value.int .u32 0, Value.int .u32 0, Value.int .u32 0, Value.int .u32 0, Value.int .u32 0, Value.int .u32 0, Value.int .u32 0, Value.int .u32 0, Value.int .u32 0, Value.int .u32 0, Value.int .u32 0, Value.int .u32 0, Value.int .u32 0, Value.int .u32 0, Value.int .u32 0, Value.int .u32 0, Value.int .u32 0, Value.int .u32 0, Value.int .u32 0] : Array Value) = madeCells #[.int .u32 0] 32 := by rw [made_rep]; rfl
theorem dif_tab : tabF 32 (fun i => if i = 30 then 500 else if i = 2 then 500 else if i = 31 then 1500 else if i = 1 then 1500 else if i = 0 then 3000 else preF (fun _ => 10) 32 i) = difL := by decide
theorem all32 (g : Nat) (w : World) : (Instr.sliceAt 92 (.pointer (some ⟨g, 0, none⟩)) none none none).run Try.prog w = .ok (.slice (some ⟨g, 0, none⟩) 32 32) w := by
  have e : Try.prog.arrayLen 92 = 32 := by kernel_rfl
  have e2 : Try.prog.elem 92 = 54 := by kernel_rfl
  have ht : Try.prog.underlying 92 = some (.array (Try.prog.arrayLen 92) (Try.prog.elem 92)) := by kernel_rfl
  have es : (sizeOf 54).run Try.prog w = .ok 1 w := by kernel_rfl
  rw [run_sliceAt_array_all w _ _ ht, e, e2, es]
  simp [Result.andThen, slicedAt, Addr.add]
set_option maxRecDepth 100000 in
theorem engDiff_any (w : World) : Calls Try.prog 43 #[] w fun e w' => ∃ g, e = .returned (.pointer (some ⟨g, 0, none⟩)) ∧ w.heap.size ≤ g ∧ ModAt w' g difL true ∧ Below w.heap.size w w' := by
  have HF := Lib.hid difE_fix
  have HBd := Lib.hid difL_bd
  have H0 : RowKit.Hid (IFun (w.alloc (.cells (madeCells #[.int .u32 0] 32) 92)) w.heap.size 92 .u32 32 (preF (fun _ => 10) 0) ∧ Below w.heap.size w (w.alloc (.cells (madeCells #[.int .u32 0] 32) 92))) :=
    ⟨IFun.ext (IFun.zeros w 92 .u32 32) fun j _ => (preF_zero _ j).symm, Below.alloc_new w _⟩
  go_enter Try.func43, Try.ntmps43
  go_wp2
  rw [made32]
  generalize (w.alloc (.cells (madeCells #[.int .u32 0] 32) 92)) = w1 at H0 ⊢
  generalize hg : w.heap.size = g at H0 ⊢
  go_loopw [2, 5] (fun _ i wr => ∃ k : Nat, k ≤ 32 ∧ i = .int .i64 (k : Int) ∧ RowKit.Hid (IFun wr g 92 .u32 32 (preF (fun _ => 10) k) ∧ Below g w wr)) (fun _ i _ => 32 - (intOf i).toNat)
  case atStart => exact ⟨0, by omega, rfl, H0.out⟩
  case round =>
    obtain ⟨k, hk, rfl, H⟩ := hrel
    clear H0
    by_cases hlt : k < 32
    · have o1 := H.out.1.cell (j := k) hlt
      have f1 := H.out.1.frozen k
      have HV : RowKit.Hid (IFun (wr.setCell ⟨g, k, none⟩ (.int .u32 10)) g 92 .u32 32 (preF (fun _ => 10) (k + 1)) ∧ Below g w (wr.setCell ⟨g, k, none⟩ (.int .u32 10))) :=
        ⟨IFun.ext (H.out.1.set (j := k) hlt 10) fun i _ => preF_next (fun _ => 10) k i, Below.setCell (p := ⟨g, k, none⟩) H.out.2 (Nat.le_refl _) _⟩
      generalize preF (fun _ => (10 : Int)) k k = old at o1
      go_wp2
      go_roundw
      case rel => exact ⟨k + 1, by omega, by go_num, HV.out⟩
      case measure => simp [intOf] <;> omega
    · obtain rfl : k = 32 := by omega
      obtain ⟨c0, c1, c2, c30, c31⟩ : wr.cell? ⟨g, 0, none⟩ = some (.int .u32 10) ∧ wr.cell? ⟨g, 1, none⟩ = some (.int .u32 10) ∧ wr.cell? ⟨g, 2, none⟩ = some (.int .u32 10) ∧ wr.cell? ⟨g, 30, none⟩ = some (.int .u32 10) ∧ wr.cell? ⟨g, 31, none⟩ = some (.int .u32 10) :=
        ⟨H.out.1.cell (j := 0) (by decide), H.out.1.cell (j := 1) (by decide), H.out.1.cell (j := 2) (by decide), H.out.1.cell (j := 30) (by decide), H.out.1.cell (j := 31) (by decide)⟩
      have f0 := H.out.1.frozen 0
      have f1 := H.out.1.frozen 1
      have f2 := H.out.1.frozen 2
      have f30 := H.out.1.frozen 30
      have f31 := H.out.1.frozen 31
      have HI : RowKit.Hid (IRow (((((wr.setCell ⟨g, 0, none⟩ (.int .u32 3000)).setCell ⟨g, 1, none⟩ (.int .u32 1500)).setCell ⟨g, 31, none⟩ (.int .u32 1500)).setCell ⟨g, 2, none⟩ (.int .u32 500)).setCell ⟨g, 30, none⟩ (.int .u32 500)) g 92 .u32 difL) := by
        have := ((((H.out.1.set (j := 0) (by decide) 3000).set (j := 1) (by decide) 1500).set (j := 31) (by decide) 1500).set (j := 2) (by decide) 500).set (j := 30) (by decide) 500
        unfold IFun at this
        rw [dif_tab] at this
        exact this
      have HB : RowKit.Hid (Below g w (((((wr.setCell ⟨g, 0, none⟩ (.int .u32 3000)).setCell ⟨g, 1, none⟩ (.int .u32 1500)).setCell ⟨g, 31, none⟩ (.int .u32 1500)).setCell ⟨g, 2, none⟩ (.int .u32 500)).setCell ⟨g, 30, none⟩ (.int .u32 500))) :=
        Below.setCell (p := ⟨g, 30, none⟩) (Below.setCell (p := ⟨g, 2, none⟩) (Below.setCell (p := ⟨g, 31, none⟩) (Below.setCell (p := ⟨g, 1, none⟩) (Below.setCell (p := ⟨g, 0, none⟩) H.out.2 (Nat.le_refl _) _) (Nat.le_refl _) _) (Nat.le_refl _) _) (Nat.le_refl _) _) (Nat.le_refl _) _
      have hsl := fun w => all32 g w
      have HSz : RowKit.Hid (g ≤ (((((wr.setCell ⟨g, 0, none⟩ (.int .u32 3000)).setCell ⟨g, 1, none⟩ (.int .u32 1500)).setCell ⟨g, 31, none⟩ (.int .u32 1500)).setCell ⟨g, 2, none⟩ (.int .u32 500)).setCell ⟨g, 30, none⟩ (.int .u32 500)).heap.size) := Nat.le_trans (Nat.le_of_eq hg.symm) HB.out.size
      have HIn : RowKit.Hid (IntsAt (((((wr.setCell ⟨g, 0, none⟩ (.int .u32 3000)).setCell ⟨g, 1, none⟩ (.int .u32 1500)).setCell ⟨g, 31, none⟩ (.int .u32 1500)).setCell ⟨g, 2, none⟩ (.int .u32 500)).setCell ⟨g, 30, none⟩ (.int .u32 500)) (((((wr.setCell ⟨g, 0, none⟩ (.int .u32 3000)).setCell ⟨g, 1, none⟩ (.int .u32 1500)).setCell ⟨g, 31, none⟩ (.int .u32 1500)).setCell ⟨g, 2, none⟩ (.int .u32 500)).setCell ⟨g, 30, none⟩ (.int .u32 500)).heap.size .u32 (some ⟨g, 0, none⟩) 32 difL) := IRow.ints HI.out rfl (by decide)
      clear H
      go_wp2_with (go_at_call 57; go_loud (refine (modFixed_ok _ _ _ difL _ HIn.out HBd.out (by decide) (by decide) HF.out).mono ?_); rintro e w6 ⟨m, rfl, hm, hM, hb⟩; have HM := Lib.hid hM; have HB6 := Lib.hid (HB.out.trans (hb.mono HSz.out)); have hm2 := Nat.le_trans HSz.out hm; clear hM hb hm)
      go_ret
      exact ⟨m, rfl, by rw [hg]; exact hm2, HM.out, by rw [hg]; exact HB6.out⟩
theorem RefMod.grow {w : World} {base base' g r : Nat} {l : List Int} {fx : Bool} (h : RefMod w base g r l fx) (hb : base' ≤ base) : RefMod w base' g r l fx := by
  obtain ⟨cm, h1, h2, h3⟩ := h
  exact ⟨cm, h1, ⟨h2.1, h2.2.imp_right fun ⟨g', cap, cur, e, h, k⟩ => ⟨g', cap, cur, e, Nat.le_trans hb h, k⟩⟩, by omega⟩
/-- How long a slice is. -/
def lenV (v : Value) : Nat := match v with | .slice _ n _ => n | _ => 0
theorem lenV_eq (a : Option Addr) (n c : Nat) : lenV (.slice a n c) = n := rfl
theorem dif_snoc0 : ∀ k : Nat, k < 30 → 3 ≤ k → difL.take k ++ [10] = difL.take (k + 1) := by decide
theorem dif_snoc (k : Nat) (h : 3 ≤ k) (h' : k < 30) : difL.take k ++ [10] = difL.take (k + 1) := dif_snoc0 k h' h
theorem infoE_u32 : (Try.prog.info? 54).map (fun i => (i.zero, i.size, i.bytes)) = some (some (.int .u32 0), 1, 4) := by kernel_rfl
set_option maxRecDepth 100000 in
theorem refApart_any (w : World) : Calls Try.prog 31 #[] w fun e w' => ∃ g r, e = .returned (.pointer (some ⟨g, 0, none⟩)) ∧ RefMod w' w.heap.size g r difL true ∧ Below w.heap.size w w' := by
  have HF := Lib.hid difE_fix
  have HBd := Lib.hid difL_bd
  have H0 : RowKit.Hid ((w.alloc (.cells #[.int .u32 3000, .int .u32 1500, .int .u32 500] 54)).ownsRow w.heap.size 54 1 (.slice (some ⟨w.heap.size, 0, none⟩) 3 3) 3 ((difL.take 3).map (Value.int .u32)) ∧ Below w.heap.size w (w.alloc (.cells #[.int .u32 3000, .int .u32 1500, .int .u32 500] 54))) :=
    ⟨World.ownsRow_lit (base := w.heap.size) (e := 54) (size := 1) w #[.int .u32 3000, .int .u32 1500, .int .u32 500] 3 (Nat.le_refl _) (by decide) rfl, Below.alloc_new w _⟩
  go_enter Try.func31, Try.ntmps31
  go_wp2
  generalize (w.alloc (.cells #[.int .u32 3000, .int .u32 1500, .int .u32 500] 54)) = w1 at H0 ⊢
  go_loopw [1] (fun v wr => ∃ (k c : Nat) (a : Option Addr), 3 ≤ k ∧ k ≤ 30 ∧ v = .slice a k c ∧ RowKit.Hid (wr.ownsRow w.heap.size 54 1 (.slice a k c) k ((difL.take k).map (Value.int .u32)) ∧ Below w.heap.size w wr)) (fun v _ => 30 - lenV v)
  case atStart => exact ⟨3, 3, _, by omega, by omega, rfl, H0.out⟩
  case round =>
    obtain ⟨k, c, a, hk0, hk, rfl, H⟩ := hrel
    clear H0
    have hsz := H.out.2.size
    have HA := Lib.hid (World.ownsRow.alloc H.out.1 (.cells #[.int .u32 10] 54))
    have HAB := Lib.hid (H.out.2.alloc hsz (.cells #[.int .u32 10] 54))
    have hsrc := Lib.hid (lit_ints wr 54 .u32 [10] #[.int .u32 10] (0, 0) rfl (by simp))
    by_cases hlt : k < 30
    · have HE := Lib.hid (dif_snoc k hk0 hlt)
      have l1 : (k : Int) < 30 := by omega
      go_upto_block 1 with fail
      generalize Value.slice a k c = v at HA ⊢
      go_wp2_with (at_builtin; go_loud (refine append_ints rfl _ _ 81 rfl w.heap.size 54 .u32 4 Try.underlying81 infoE_u32 v k (difL.take k) rfl HA.out (some ⟨wr.heap.size, 0, none⟩) 1 1 _ [10] rfl hsrc.out (by simp) (by unfold maxLen; omega) (by omega) (by simp; omega) ?_); intro v1 w2 hown hgrow _; rw [HE.out] at hown; obtain ⟨a1, c1, rfl⟩ := own_form hown; have HO := Lib.hid hown; have HB1 : RowKit.Hid (Below w.heap.size w w2) := HAB.out.grown hgrow (by simp; omega) (own_base HA.out); clear hown hgrow)
      go_roundw
      case rel => exact ⟨k + 1, c1, a1, by omega, by omega, by go_num, HO.out, HB1.out⟩
      case measure => rw [lenV_eq, lenV_eq]; omega
    · obtain rfl : k = 30 := by omega
      clear HA HAB hsrc
      have HA := Lib.hid (World.ownsRow.alloc H.out.1 (.cells #[.int .u32 500] 54))
      have HAB := Lib.hid (H.out.2.alloc hsz (.cells #[.int .u32 500] 54))
      have hsrc := Lib.hid (lit_ints wr 54 .u32 [500] #[.int .u32 500] (0, 0) rfl (by simp))
      have HE1 : RowKit.Hid (difL.take 30 ++ [500] = difL.take 31) := by show _ = _; decide
      have HE2 : RowKit.Hid (difL.take 31 ++ [1500] = difL) := by show _ = _; decide
      go_wp2_with (first
        | (at_builtin; have hz2 := HZ2.out; go_loud (refine append_ints rfl _ _ 81 rfl w.heap.size 54 .u32 4 Try.underlying81 infoE_u32 v2 31 (difL.take 31) rfl HA2.out (some ⟨w2.heap.size, 0, none⟩) 1 1 _ [1500] rfl hsrc2.out (by simp) (by unfold maxLen; omega) (by omega) (by simp; omega) ?_); intro v3 w3 hown hgrow _; rw [HE2.out] at hown; obtain ⟨a3, c3, rfl⟩ := own_form hown; have HI3 := Lib.hid (own_ints' hown); have HB3 : RowKit.Hid (Below w.heap.size w w3) := HAB2.out.grown hgrow (by simp; omega) (own_base HA2.out); clear hown hgrow)
        | (at_builtin; go_loud (refine append_ints rfl _ _ 81 rfl w.heap.size 54 .u32 4 Try.underlying81 infoE_u32 (.slice a 30 c) 30 (difL.take 30) rfl HA.out (some ⟨wr.heap.size, 0, none⟩) 1 1 _ [500] rfl hsrc.out (by simp) (by unfold maxLen; omega) (by omega) (by simp; omega) ?_); intro v2 w2 hown hgrow _; rw [HE1.out] at hown; have HB2 : RowKit.Hid (Below w.heap.size w w2) := HAB.out.grown hgrow (by simp; omega) (own_base HA.out); have hz2 := HB2.out.size; have HZ2 := Lib.hid hz2; have HA2 := Lib.hid (World.ownsRow.alloc hown (.cells #[.int .u32 1500] 54)); have HAB2 := Lib.hid (HB2.out.alloc hz2 (.cells #[.int .u32 1500] 54)); have hsrc2 := Lib.hid (lit_ints w2 54 .u32 [1500] #[.int .u32 1500] (0, 0) rfl (by simp)); clear hown hgrow HA HAB hsrc)
        | (go_at_call 46; go_loud (refine (refFixed_ok _ _ _ difL _ HI3.out HBd.out (by decide) (by decide) HF.out).mono ?_); rintro e w6 ⟨m, r, rfl, hM, hb⟩; have HM := Lib.hid hM; have HB6 := Lib.hid (HB3.out.trans (hb.mono HB3.out.size)); have HS3 := Lib.hid HB3.out.size; clear hM hb))
      go_ret
      exact ⟨m, r, rfl, HM.out.grow HS3.out, HB6.out⟩
end Go.Proofs.Ytgnmnmjicjcffaa

/- The walk of RangedecAgain: what is held of memory on the way. -/
namespace Go.Proofs.Ytgnmnmjicjcffaa
open Go.RowKit
set_option linter.unusedVariables false

theorem modCells_no8 {l : List Int} {fx : Bool} {i : Nat} {y : Int} (h : (modCells l fx)[i]? = some (.int .u8 y)) : False := by
  have := List.mem_of_getElem? h
  unfold modCells at this
  simp at this
theorem IntsAt.ne_mod {w : World} {B len r off m : Nat} {b l : List Int} {fx : Bool} (h : IntsAt w B .u8 (some ⟨r, off, none⟩) len b) (h0 : 0 < len) (k : ModAt w m l fx) : r ≠ m := by
  rintro rfl
  obtain ⟨b', off', e, _, _, hc⟩ := h.at_ h0
  injection e with e
  injection e with e1 e2
  subst e1; subst e2
  rw [k.2.cell] at hc
  simp only [List.getElem?_toArray] at hc
  exact modCells_no8 hc
theorem IntsAt.keeps {F : Nat → Prop} {w w' : World} {B len : Nat} {k : IntKind} {a : Option Addr} {zs : List Int} (h : IntsAt w B k a len zs) (hk : Keeps F w w') (hB : B ≤ w.heap.size) (hF : ∀ r off, a = some ⟨r, off, none⟩ → 0 < len → r < B → ¬ F r) : IntsAt w' B k a len zs := by
  obtain ⟨h1, h2⟩ := h
  refine ⟨h1, ?_⟩
  rcases h2 with h2 | ⟨b, off, e, h3, h4, h5⟩
  · exact .inl h2
  · by_cases h0 : 0 < len
    · exact .inr ⟨b, off, e, h3, h4, fun j hj => (World.cell?_of_block (a := ⟨b, off + j, none⟩) (hk.block b (by omega) (hF b off e h0 h3))).trans (h5 j hj)⟩
    · exact .inl (by omega)

/-! ### While it is put -/
structure StE (w0 : World) (mg og be g n : Nat) (v : Value) (w : World) (L : List Int) (E : EncS) : Prop where
  m : ModAt w mg L false
  o : ModAt w og (List.replicate n 1) false
  e : EncAt w be g v E
  gm : GoodL L
  ge : GoodE E
  lm : L.length = n
  b : Below w0.heap.size w0 w
  d : w0.heap.size ≤ mg ∧ mg ≠ og ∧ mg < be ∧ w0.heap.size ≤ og ∧ og < be
section
variable {w0 w w' : World} {mg og be g n : Nat} {v : Value} {L : List Int} {E : EncS}
theorem StE.drewN (h : StE w0 mg og be g n v w L E) (i : Nat) : StE w0 mg og be g n v (w.drewN i) L E :=
  ⟨h.m.drewN i, h.o.drewN i, h.e.drewN i, h.gm, h.ge, h.lm, Below.drewN' h.b i, h.d⟩
theorem StE.prog {L' : List Int} {E' : EncS} {v' : Value} (h : StE w0 mg og be g n v w L E) (hk : Keeps (fun j => j = g ∨ v.ownBlock = some j ∨ j = mg) w w') (he : EncAt w' be g v' E') (hm : ModAt w' mg L' false) (g1 : GoodL L') (g2 : GoodE E') (l1 : L'.length = n) : StE w0 mg og be g n v' w' L' E' := by
  obtain ⟨d1, d2, d3, d4, d5⟩ := h.d
  have hl := h.e.lt
  have ho : ∀ j, v.ownBlock = some j → be ≤ j := fun j hj => (h.e.own j hj).2.1
  refine ⟨hm, h.o.keeps hk ?_, he, g1, g2, l1, h.b.trans (hk.below h.b.size ?_), h.d⟩
  · rintro (c | c | c)
    · omega
    · have := ho _ c; omega
    · omega
  · rintro j (c | c | c)
    · omega
    · have := ho _ c; omega
    · omega
theorem StE.progE {E' : EncS} {v' : Value} (h : StE w0 mg og be g n v w L E) (hk : Keeps (fun j => j = g ∨ v.ownBlock = some j) w w') (he : EncAt w' be g v' E') (g2 : GoodE E') : StE w0 mg og be g n v' w' L E' := by
  obtain ⟨d1, d2, d3, d4, d5⟩ := h.d
  have hl := h.e.lt
  have ho : ∀ j, v.ownBlock = some j → be ≤ j := fun j hj => (h.e.own j hj).2.1
  refine h.prog (hk.mono ?_) he (h.m.keeps hk ?_) h.gm g2 h.lm
  · rintro j (c | c)
    · exact .inl c
    · exact .inr (.inl c)
  · rintro (c | c)
    · omega
    · have := ho _ c; omega
end

/-! ### While it is read -/
structure StD (w0 : World) (mg bd g n : Nat) (v : Value) (b : List Int) (w : World) (L : List Int) (D : DecS) : Prop where
  m : ModAt w mg L false
  e : DrcAt w bd g v b D
  gm : GoodL L
  lm : L.length = n
  b : Below w0.heap.size w0 w
  d : w0.heap.size ≤ mg ∧ w0.heap.size ≤ bd
section
variable {w0 w w' : World} {mg bd g n : Nat} {v : Value} {b : List Int} {L : List Int} {D : DecS}
theorem StD.drewN (h : StD w0 mg bd g n v b w L D) (i : Nat) : StD w0 mg bd g n v b (w.drewN i) L D :=
  ⟨h.m.drewN i, h.e.drewN i, h.gm, h.lm, Below.drewN' h.b i, h.d⟩
theorem StD.prog {L' : List Int} {D' : DecS} (h : StD w0 mg bd g n v b w L D) (hk : Keeps (fun j => j = g ∨ j = mg) w w') (he : DrcAt w' bd g v b D') (hm : ModAt w' mg L' false) (g1 : GoodL L') (l1 : L'.length = n) : StD w0 mg bd g n v b w' L' D' := by
  have hl := h.e.lt
  have hd := h.d
  exact ⟨hm, he, g1, l1, h.b.trans (hk.below h.b.size (by omega)), h.d⟩
theorem StD.progE {D' : DecS} (h : StD w0 mg bd g n v b w L D) (hk : Keeps (fun j => j = g) w w') (he : DrcAt w' bd g v b D') : StD w0 mg bd g n v b w' L D' :=
  h.prog (hk.mono fun j hj => .inl hj) he (h.m.keeps hk (h.e.ne_mod h.m).1) h.gm h.lm
end
/-- What is still wanted of the encoder and of its bytes. -/
structure StB (be g bd len : Nat) (v : Value) (a : Option Addr) (b : List Int) (F : EncS) (w : World) : Prop where
  e : EncAt w be g v F
  i : IntsAt w bd .u8 a len b
  s : bd ≤ w.heap.size
  o : g < bd ∧ ∀ r, v.ownBlock = some r → r < bd
section
variable {w w' : World} {be g bd len og gd : Nat} {v : Value} {a : Option Addr} {b : List Int} {F : EncS} {L : List Int} {fx : Bool}
theorem StB.drewN (h : StB be g bd len v a b F w) (i : Nat) : StB be g bd len v a b F (w.drewN i) := ⟨h.e.drewN i, h.i.drewN i, h.s, h.o⟩
theorem StB.below (h : StB be g bd len v a b F w) (hb : Below w.heap.size w w') : StB be g bd len v a b F w' :=
  ⟨h.e.below hb, h.i.below (hb.mono h.s), Nat.le_trans h.s hb.size, h.o⟩
theorem StB.read (h : StB be g bd len v a b F w) (hm : ModAt w og L fx) (hd : bd ≤ gd) (hk : Keeps (fun j => j = gd ∨ j = og) w w') : StB be g bd len v a b F w' := by
  obtain ⟨o1, o2⟩ := h.o
  obtain ⟨n1, n2⟩ := h.e.ne_mod hm
  refine ⟨h.e.keeps hk ?_ ?_, h.i.keeps hk h.s ?_, Nat.le_trans h.s hk.size, h.o⟩
  · rintro (c | c)
    · omega
    · exact n1 c.symm
  · rintro r hr (c | c)
    · have := o2 r hr; omega
    · exact n2 (c ▸ hr)
  · intro r off e h0 hr
    rintro (c | c)
    · omega
    · have hi := h.i
      rw [e] at hi
      exact hi.ne_mod h0 hm c
theorem StB.readE (h : StB be g bd len v a b F w) (hm : ModAt w og L fx) (hd : bd ≤ gd) (hk : Keeps (fun j => j = gd) w w') : StB be g bd len v a b F w' := h.read hm hd (hk.mono fun j hj => .inl hj)
end
end Go.Proofs.Ytgnmnmjicjcffaa

/- What Put of package energy gives. -/
namespace Go.Proofs.Ytgnmnmjicjcffaa
open Go.RowKit
set_option linter.unusedVariables false

/-- What is held while something is put: the encoder's state, and what else was written. -/
def PutSt (w : World) (base g : Nat) (v : Value) (E : EncS) (wr : World) : Prop :=
  ∃ v', EncAt wr base g v' E ∧ Keeps (fun j => j = g ∨ v.ownBlock = some j) w wr ∧ (∀ j, v'.ownBlock = some j → v.ownBlock = some j ∨ w.heap.size ≤ j)
theorem PutSt.start {w : World} {base g : Nat} {v : Value} {E : EncS} (h : EncAt w base g v E) : PutSt w base g v E w := ⟨v, h, Keeps.refl _ w, fun _ h => .inl h⟩
theorem PutSt.below {w wr w' : World} {base g : Nat} {v : Value} {E : EncS} (h : PutSt w base g v E wr) (hb : Below wr.heap.size wr w') : PutSt w base g v E w' := by
  obtain ⟨v', h1, h2, h3⟩ := h
  exact ⟨v', h1.below hb, h2.trans (.of_below hb), h3⟩
theorem PutSt.drewN {w wr : World} {base g : Nat} {v : Value} {E : EncS} (h : PutSt w base g v E wr) (n : Nat) : PutSt w base g v E (wr.drewN n) := by
  obtain ⟨v', h1, h2, h3⟩ := h
  exact ⟨v', h1.drewN n, h2.drewN n, h3⟩
/-- What stands elsewhere stays. -/
theorem PutSt.ints {w wr : World} {base g len : Nat} {v : Value} {E : EncS} {a : Option Addr} {zs : List Int} (h : PutSt w base g v E wr) (hi : IntsAt w w.heap.size .i64 a len zs) (hne : ∀ r off, a = some ⟨r, off, none⟩ → r ≠ g ∧ v.ownBlock ≠ some r) : IntsAt wr w.heap.size .i64 a len zs := by
  obtain ⟨v', h1, h2, h3⟩ := h
  exact hi.keeps h2 (Nat.le_refl _) fun r off e _ _ c => by
    obtain ⟨n1, n2⟩ := hne r off e
    rcases c with c | c
    · exact n1 c
    · exact n2 c
/-- Where something more is put. -/
theorem PutSt.step {w wr w' : World} {base g : Nat} {v v' v2 : Value} {E E' : EncS} (h1 : EncAt wr base g v' E) (h2 : Keeps (fun j => j = g ∨ v.ownBlock = some j) w wr) (h3 : ∀ j, v'.ownBlock = some j → v.ownBlock = some j ∨ w.heap.size ≤ j)
    (k1 : EncAt w' base g v2 E') (k2 : Keeps (fun j => j = g ∨ v'.ownBlock = some j ∨ w.heap.size ≤ j) wr w') (k3 : ∀ j, v2.ownBlock = some j → v'.ownBlock = some j ∨ wr.heap.size ≤ j) : PutSt w base g v E' w' := by
  refine ⟨v2, k1, h2.then_ k2 fun j hj => ?_, fun j hj => ?_⟩
  · rcases hj with hj | hj | hj
    · exact .inl (.inl hj)
    · rcases h3 j hj with c | c
      · exact .inl (.inr c)
      · exact .inr c
    · exact .inr hj
  · rcases k3 j hj with c | c
    · exact h3 j c
    · exact .inr (Nat.le_trans h2.size c)

set_option maxRecDepth 100000 in
theorem engAlone_any (base g : Nat) (v : Value) (e : EncS) (a : Option Addr) (cap : Nat) (zs : List Int) (d : Nat → Int) (w : World) (hE : EncAt w base g v e) (hG : GoodE e) (hk : e.k ≤ 700000)
    (hi : IntsAt w w.heap.size .i64 a 21 zs) (hr : rightB zs = true) (hne : ∀ r off, a = some ⟨r, off, none⟩ → r ≠ g ∧ v.ownBlock ≠ some r) :
    Calls Try.prog 29 #[.pointer (some ⟨g, 0, none⟩), .slice a 21 cap] w (PutPost base g v (putN true e (fun j => zs.getD j 0) d 21) (.int .i64 0) w) := by
  have H0 : RowKit.Hid (PutSt w base g v (putN true e (fun j => zs.getD j 0) d 0) w) := PutSt.start hE
  have HI := Lib.hid hi
  have HN := Lib.hid hne
  have HR := Lib.hid (rightB_true hr).2
  have HG := Lib.hid (fun n => putN_good (q := true) (f := fun j => zs.getD j 0) (d := d) hG n)
  have HS : RowKit.Hid (∀ n, putN true e (fun j => zs.getD j 0) d (n + 1) = encBits (putN true e (fun j => zs.getD j 0) d n) (zs.getD n 0) 5) := fun n => by rw [putN_succ, putW_alone]
  generalize putN true e (fun j => zs.getD j 0) d = P at H0 HG HS ⊢
  clear hE hi hr hne hG
  go_enter Try.func29, Try.ntmps29
  go_wp2
  go_loopw [6, 7, 10] (fun _ _ i wr => ∃ k : Nat, k ≤ 21 ∧ i = .int .i64 (k : Int) ∧ RowKit.Hid (PutSt w base g v (P k) wr)) (fun _ _ i _ => 21 - (intOf i).toNat)
  case atStart => exact ⟨0, by omega, rfl, H0.out⟩
  case round =>
    obtain ⟨k, hk2, rfl, H⟩ := hrel
    clear H0
    by_cases hlt : k < 21
    · obtain ⟨b, off, rfl, _, _, hcell⟩ := (H.out.ints HI.out HN.out).at_ hlt
      obtain ⟨x0, x1⟩ := HR.out k hlt
      obtain ⟨v', he, hke, hv⟩ := H.out
      have HE := Lib.hid he
      have HK := Lib.hid hke
      have HV := Lib.hid hv
      obtain ⟨g1, g2, _⟩ := HG.out k
      have HG1 := Lib.hid g1
      have HP := Lib.hid (HS.out k)
      clear he hke hv H g1
      generalize zs.getD k 0 = x at hcell x0 x1 HP
      have hx : x < P2 5 := by rw [show P2 5 = 32 by decide]; omega
      have HX := Lib.hid hx
      have u1 : IntKind.u32.wrap x = x := IntWalk.u32_in _ (by omega)
      clear hx
      go_wp2_with (go_at_call 42; go_loud (refine (rncBits_any base g v' (P k) x 5 _ HE.out HG1.out x0 (by omega) (by decide) HX.out (by omega)).mono ?_); rintro e2 w2 ⟨rfl, v2, k1, k2, k3⟩; have HT : RowKit.Hid (PutSt w base g v (P (k + 1)) w2) := (by rw [HP.out]; exact PutSt.step HE.out HK.out HV.out k1 (k2.mono fun j hj => hj.elim .inl fun c => .inr (.inl c)) k3); clear k1 k2 k3)
      go_roundw
      case rel => exact ⟨k + 1, by omega, by go_num, HT.out⟩
      case measure => simp [intOf] <;> omega
    · obtain rfl : k = 21 := by omega
      go_wp2
      go_ret
      exact ⟨rfl, H.out⟩
theorem u32_5 : P2 5 = 32 := by decide
set_option maxHeartbeats 400000 in
set_option maxRecDepth 100000 in
theorem engDiffs_any (base g : Nat) (v : Value) (e : EncS) (a a2 : Option Addr) (cap cap2 : Nat) (zs ds : List Int) (w : World) (hE : EncAt w base g v e) (hG : GoodE e) (hk : e.k ≤ 700000)
    (hi : IntsAt w w.heap.size .i64 a 21 zs) (hr : rightB zs = true) (hne : ∀ r off, a = some ⟨r, off, none⟩ → r ≠ g ∧ v.ownBlock ≠ some r)
    (hi2 : IntsAt w w.heap.size .i64 a2 21 ds) (hr2 : rightB ds = true) (hne2 : ∀ r off, a2 = some ⟨r, off, none⟩ → r ≠ g ∧ v.ownBlock ≠ some r) :
    Calls Try.prog 30 #[.pointer (some ⟨g, 0, none⟩), .slice a 21 cap, .slice a2 21 cap2] w (PutPost base g v (putN false e (fun j => zs.getD j 0) (fun j => ds.getD j 0) 21) (.int .i64 0) w) := by
  have H00 : RowKit.Hid (PutSt w base g v (putN false e (fun j => zs.getD j 0) (fun j => ds.getD j 0) 0) w) := PutSt.start hE
  have HI := Lib.hid hi
  have HN := Lib.hid hne
  have HR := Lib.hid (rightB_true hr).2
  have HI2 := Lib.hid hi2
  have HN2 := Lib.hid hne2
  have HR2 := Lib.hid (rightB_true hr2).2
  have HL := Lib.hid difL_good
  have HG := Lib.hid (fun n => putN_good (q := false) (f := fun j => zs.getD j 0) (d := fun j => ds.getD j 0) hG n)
  have HS : RowKit.Hid (∀ n, putN false e (fun j => zs.getD j 0) (fun j => ds.getD j 0) (n + 1) = encSym (putN false e (fun j => zs.getD j 0) (fun j => ds.getD j 0) n) difL ((zs.getD n 0 - ds.getD n 0) % 32).toNat) := fun n => by rw [putN_succ, putW_diff]
  generalize putN false e (fun j => zs.getD j 0) (fun j => ds.getD j 0) = P at H00 HG HS ⊢
  clear hE hi hr hne hG hi2 hr2 hne2
  go_enter Try.func30, Try.ntmps30
  go_wp2_with (go_at_call 43; go_loud (refine (engDiff_any _).mono ?_); rintro e w1 ⟨m, rfl, hm, hM, hb⟩; have H0 : RowKit.Hid (PutSt w base g v (P 0) w1 ∧ ModAt w1 m difL true) := ⟨H00.out.below hb, hM⟩; clear hM hb)
  clear H00
  go_loopw [8, 9, 10, 14] (fun _ _ _ i wr => ∃ k : Nat, k ≤ 21 ∧ i = .int .i64 (k : Int) ∧ RowKit.Hid (PutSt w base g v (P k) wr ∧ ModAt wr m difL true)) (fun _ _ _ i _ => 21 - (intOf i).toNat)
  case atStart => exact ⟨0, by omega, rfl, H0.out⟩
  case round =>
    obtain ⟨k, hk2, rfl, H⟩ := hrel
    clear H0
    by_cases hlt : k < 21
    · obtain ⟨b, off, rfl, _, _, hcell⟩ := (H.out.1.ints HI.out HN.out).at_ hlt
      obtain ⟨b2, off2, rfl, _, _, hcell2⟩ := (H.out.1.ints HI2.out HN2.out).at_ hlt
      obtain ⟨x0, x1⟩ := HR.out k hlt
      obtain ⟨y0, y1⟩ := HR2.out k hlt
      have HM := Lib.hid H.out.2
      obtain ⟨v', he, hke, hv⟩ := H.out.1
      have HE := Lib.hid he
      have HK := Lib.hid hke
      have HV := Lib.hid hv
      have HKs := Lib.hid hke.size
      obtain ⟨g1, g2, _⟩ := HG.out k
      have HG1 := Lib.hid g1
      have HP := Lib.hid (HS.out k)
      clear he hke hv H g1
      generalize zs.getD k 0 = x at hcell x0 x1 HP
      generalize ds.getD k 0 = y at hcell2 y0 y1 HP
      have u1 : IntKind.i64.wrap (x - y) = x - y := IntWalk.i64_in _ (by omega)
      obtain ⟨s, hs⟩ : ∃ s : Nat, (x - y) % 32 = s := ⟨((x - y) % 32).toNat, by omega⟩
      have hs2 : s < difL.length := by rw [difL_len]; omega
      have HSs := Lib.hid hs
      have HSl := Lib.hid hs2
      have HSn : RowKit.Hid (((x - y) % 32).toNat = s) := by show _ = _; omega
      rw [HSn.out] at HP
      clear hs hs2
      go_wp2_with (first
        | (go_at_call 45; go_loud (refine (engWrap_any (x - y) _).mono ?_); rintro e1 w1' ⟨rfl, rfl⟩; rw [HSs.out])
        | (go_at_call 44; go_loud (refine (rncSymbol_any base g v' m (P k) difL true s _ HE.out HM.out HG1.out HL.out HSl.out (by omega)).mono ?_); rintro e2 w2 ⟨rfl, v2, k1, km, k2, k3⟩; have HT : RowKit.Hid (PutSt w base g v (P (k + 1)) w2 ∧ ModAt w2 m difL true) := ⟨(by rw [HP.out]; exact PutSt.step HE.out HK.out HV.out k1 (k2.mono fun j hj => hj.elim .inl fun c => .inr (c.elim .inl fun c => .inr (by omega))) k3), km⟩; clear k1 k2 k3 km))
      go_roundw
      case rel => exact ⟨k + 1, by omega, by go_num, HT.out⟩
      case measure => simp [intOf] <;> omega
    · obtain rfl : k = 21 := by omega
      go_wp2
      go_ret
      exact ⟨rfl, H.out.1⟩
/-- Ceilings ahead: none (q), or right ones. -/
def AheadAt (w : World) (q : Bool) (a : Option Addr) (len : Nat) (ds : List Int) : Prop := IntsAt w w.heap.size .i64 a len ds ∧ len ≤ 9223372036854775807 ∧ ((q = true ∧ len = 0) ∨ (q = false ∧ rightB ds = true ∧ len = 21))
theorem AheadAt.may {w : World} {q : Bool} {a : Option Addr} {len : Nat} {ds : List Int} (h : AheadAt w q a len ds) : (decide (len = 0) || rightB ds) = true := by
  obtain ⟨_, _, ⟨_, h⟩ | ⟨_, h, _⟩⟩ := h <;> simp [h]
theorem engPut_any (base g : Nat) (v : Value) (e : EncS) (q : Bool) (a a2 : Option Addr) (len2 cap cap2 : Nat) (zs ds : List Int) (w : World) (hE : EncAt w base g v e) (hG : GoodE e) (hk : e.k ≤ 700000)
    (hi : IntsAt w w.heap.size .i64 a 21 zs) (hr : rightB zs = true) (hne : ∀ r off, a = some ⟨r, off, none⟩ → r ≠ g ∧ v.ownBlock ≠ some r)
    (hA : AheadAt w q a2 len2 ds) (hne2 : q = false → ∀ r off, a2 = some ⟨r, off, none⟩ → r ≠ g ∧ v.ownBlock ≠ some r) :
    Calls Try.prog 16 #[.pointer (some ⟨g, 0, none⟩), .slice a 21 cap, .slice a2 len2 cap2] w (PutPost base g v (putN q e (fun j => zs.getD j 0) (fun j => ds.getD j 0) 21) (.int .i64 0) w) := by
  have HE := Lib.hid hE
  have HG := Lib.hid hG
  have HI := Lib.hid hi
  have HN := Lib.hid hne
  have HR := Lib.hid hr
  have HA := Lib.hid hA.1
  have HM := Lib.hid hA.may
  have hl2 := hA.2.1
  rcases hA with ⟨_, _, ⟨rfl, hl0⟩ | ⟨rfl, hr2, rfl⟩⟩
  · have q0 : ((len2 : Int) == 0) = true := by simp; omega
    clear hl0
    clear hE hG hi hne hr hne2
    go_enter Try.func16, Try.ntmps16
    go_wp2_with (first
      | (go_at_call 11; go_loud (refine (engRight_any _ _ _ _ _ HI.out (by decide)).mono ?_); rintro e1 w1 ⟨rfl, rfl⟩; rw [HR.out])
      | (go_at_call 28; go_loud (refine (engAhead_any _ _ _ _ _ HA.out hl2).mono ?_); rintro e1 w1 ⟨rfl, rfl⟩; rw [HM.out])
      | (go_at_call 29; go_loud (refine (engAlone_any base g v e a cap zs (fun j => ds.getD j 0) _ HE.out HG.out hk HI.out HR.out HN.out).mono ?_); rintro e1 w1 ⟨rfl, hp⟩; have HP := Lib.hid hp; clear hp))
    go_ret
    exact ⟨rfl, HP.out⟩
  · have HR2 := Lib.hid hr2
    have HN2 := Lib.hid (hne2 rfl)
    clear hE hG hi hne hr hne2 hr2
    go_enter Try.func16, Try.ntmps16
    go_wp2_with (first
      | (go_at_call 11; go_loud (refine (engRight_any _ _ _ _ _ HI.out (by decide)).mono ?_); rintro e1 w1 ⟨rfl, rfl⟩; rw [HR.out])
      | (go_at_call 28; go_loud (refine (engAhead_any _ _ _ _ _ HA.out (by decide)).mono ?_); rintro e1 w1 ⟨rfl, rfl⟩; rw [HM.out])
      | (go_at_call 30; go_loud (refine (engDiffs_any base g v e a a2 cap cap2 zs ds _ HE.out HG.out hk HI.out HR.out HN.out HA.out HR2.out HN2.out).mono ?_); rintro e1 w1 ⟨rfl, hp⟩; have HP := Lib.hid hp; clear hp))
    go_ret
    exact ⟨rfl, HP.out⟩
/-- Ceilings that aren't right, or wrong ones ahead. -/
theorem engPut_no (g : Nat) (a a2 : Option Addr) (len len2 cap cap2 : Nat) (zs ds : List Int) (w : World) (hi : IntsAt w w.heap.size .i64 a len zs) (hl : len ≤ 9223372036854775807)
    (hi2 : IntsAt w w.heap.size .i64 a2 len2 ds) (hl2 : len2 ≤ 9223372036854775807) (hno : rightB zs = false ∨ (decide (len2 = 0) || rightB ds) = false) :
    Calls Try.prog 16 #[.pointer (some ⟨g, 0, none⟩), .slice a len cap, .slice a2 len2 cap2] w fun e w' => e = .returned (.int .i64 1) ∧ w = w' := by
  have HI := Lib.hid hi
  have HI2 := Lib.hid hi2
  clear hi hi2
  cases hr : rightB zs with
  | false =>
    have HR := Lib.hid hr
    clear hno hr
    go_enter Try.func16, Try.ntmps16
    go_wp2_with (go_at_call 11; go_loud (refine (engRight_any _ _ _ _ _ HI.out hl).mono ?_); rintro e1 w1 ⟨rfl, rfl⟩; rw [HR.out])
    go_ret
    exact ⟨rfl, rfl⟩
  | true =>
    have HR := Lib.hid hr
    have HM := Lib.hid (hno.resolve_left (by rw [hr]; decide))
    clear hno hr
    go_enter Try.func16, Try.ntmps16
    go_wp2_with (first
      | (go_at_call 11; go_loud (refine (engRight_any _ _ _ _ _ HI.out hl).mono ?_); rintro e1 w1 ⟨rfl, rfl⟩; rw [HR.out])
      | (go_at_call 28; go_loud (refine (engAhead_any _ _ _ _ _ HI2.out hl2).mono ?_); rintro e1 w1 ⟨rfl, rfl⟩; rw [HM.out]))
    go_ret
    exact ⟨rfl, rfl⟩
theorem engPut_nil (a a2 : Option Addr) (len len2 cap cap2 : Nat) (w : World) :
    Calls Try.prog 16 #[.pointer none, .slice a len cap, .slice a2 len2 cap2] w fun e w' => e = .returned (.int .i64 1) ∧ w = w' := by
  go_enter Try.func16, Try.ntmps16
  go_wp2
  go_ret
  exact ⟨rfl, rfl⟩
end Go.Proofs.Ytgnmnmjicjcffaa

/- What the decoders give of a symbol of a model that never learns: the program's and the document's. -/
namespace Go.Proofs.Ytgnmnmjicjcffaa
open Go.RowKit
set_option linter.unusedVariables false

def DrcSymPostF (base g : Nat) (v : Value) (b : List Int) (mg : Nat) (s : Nat) (d : DecS) (l : List Int) (w : World) (x : Ending) (w' : World) : Prop :=
  x = .returned (.tuple #[.int .i64 s, .int .i64 0]) ∧ DrcAt w' base g v b d ∧ ModAt w' mg l true ∧ Keeps (fun j => j = g) w w'
set_option maxHeartbeats 400000 in
set_option maxRecDepth 100000 in
theorem drcSymbol_fixed (base g : Nat) (v : Value) (b : List Int) (d : DecS) (mg : Nat) (l : List Int) (w : World) (hD : DrcAt w base g v b d) (hM : ModAt w mg l true) (hb : ∀ j, 0 ≤ byteF b j ∧ byteF b j ≤ 255) (hbl : b.length ≤ 1000000) (hi : d.i ≤ 5000000) (hG : GoodD d) (hL : GoodL l) :
    Calls Try.prog 61 #[.pointer (some ⟨g, 0, none⟩), .pointer (some ⟨mg, 0, none⟩)] w (DrcSymPostF base g v b mg (decWhich d l) (decSym b d l) l w) := by
  have HNe := Lib.hid (hD.ne_mod hM)
  have HD := Lib.hid hD
  have HM := Lib.hid hM
  have HG := Lib.hid hG
  have HL := Lib.hid hL
  have HBy := Lib.hid hb
  obtain ⟨v1, v2, v3, v4⟩ := decWhich_is hG hL
  have HWl := Lib.hid v2
  have HW : RowKit.Hid (findP l (decAt d l.sum) = decWhich d l) := rfl
  have HOk := Lib.hid (okP_sym hL v1)
  have HS : RowKit.Hid (decSym b d l = decTake (byteF b) d (sumN l (decWhich d l)) (l.getD (decWhich d l) 0) l.sum) := rfl
  rw [HS.out]
  have h0 : 0 < l.length := hL.1
  have hgl := hD.lt.1
  have hml := hM.lt
  have HOw : RowKit.Hid (∀ r, v.ownBlock = some r → r < w.heap.size ∧ base ≤ r ∧ r ≠ g) := fun r hr => HD.out.own r hr
  have HV0 : RowKit.Hid (partV l 0 = .agg #[.int .u32 (sumN l 0), .int .u32 (l.getD 0 0), .int .u32 l.sum]) := rfl
  have HVs : RowKit.Hid (partV l (decWhich d l) = .agg #[.int .u32 (sumN l (decWhich d l)), .int .u32 (l.getD (decWhich d l) 0), .int .u32 l.sum]) := rfl
  have H00 : RowKit.Hid ((0 : Int) = ((0 : Nat) : Int)) := rfl
  clear hD hM hb hG hL v2 HS
  generalize hs : decWhich d l = s at v1 HWl HW HOk HVs ⊢
  clear hs
  generalize l.getD s 0 = x at HOk HVs ⊢
  generalize l.getD 0 0 = x0 at HV0
  generalize l.sum = t at HOk HV0 HVs HW HWl v3 v4 ⊢
  generalize sumN l s = y at HOk HWl HVs ⊢
  generalize sumN l 0 = y0 at HV0
  go_enter Try.func61, Try.ntmps61
  go_wp2_with (first
    | (go_at_call 58; have hq := HF3.out.1; go_loud (with_reducible refine (modPart_at mg l true s _ _ _ rfl (HS2.out.2.1.drewN _) HL.out v1 HVs.out).mono ?_); rintro e4 w4 ⟨rfl, hb4⟩; have HS4 : RowKit.Hid (DrcAt w4 base g v b d ∧ ModAt w4 mg l true ∧ Cel w4 w1.heap.size 91 #[.int .u32 y0, .int .u32 x0, .int .u32 t] ∧ Below w.heap.size w w4) := ⟨(HS2.out.1.drewN n3).below hb4, (HS2.out.2.1.drewN n3).below hb4, (HS2.out.2.2.1.drewN n3).below hb4, (Below.drewN' HS2.out.2.2.2 n3).trans (hb4.mono (Below.drewN' HS2.out.2.2.2 n3).size)⟩; have q4 := HS4.out.2.2.1; have p0 := q4.cell 0; have p1 := q4.cell 1; have p2 := q4.cell 2; have f0 := q4.frozen 0; have f1 := q4.frozen 1; have f2 := q4.frozen 2; simp only [List.getElem?_toArray, List.getElem?_cons_zero, List.getElem?_cons_succ] at p0 p1 p2; have k5 : Keeps (fun j => j = w1.heap.size) w4 (((w4.setCell ⟨w1.heap.size, 0, none⟩ (.int .u32 y)).setCell ⟨w1.heap.size, 1, none⟩ (.int .u32 x)).setCell ⟨w1.heap.size, 2, none⟩ (.int .u32 t)) := Keeps.setCell (F := fun j => j = w1.heap.size) (p := ⟨w1.heap.size, 2, none⟩) (Keeps.setCell (F := fun j => j = w1.heap.size) (p := ⟨w1.heap.size, 1, none⟩) (Keeps.setCell (F := fun j => j = w1.heap.size) (p := ⟨w1.heap.size, 0, none⟩) (Keeps.refl _ _) (.inl rfl) _) (.inl rfl) _) (.inl rfl) _; have HS5 : RowKit.Hid (DrcAt (((w4.setCell ⟨w1.heap.size, 0, none⟩ (.int .u32 y)).setCell ⟨w1.heap.size, 1, none⟩ (.int .u32 x)).setCell ⟨w1.heap.size, 2, none⟩ (.int .u32 t)) base g v b d ∧ ModAt (((w4.setCell ⟨w1.heap.size, 0, none⟩ (.int .u32 y)).setCell ⟨w1.heap.size, 1, none⟩ (.int .u32 x)).setCell ⟨w1.heap.size, 2, none⟩ (.int .u32 t)) mg l true ∧ Below w.heap.size w (((w4.setCell ⟨w1.heap.size, 0, none⟩ (.int .u32 y)).setCell ⟨w1.heap.size, 1, none⟩ (.int .u32 x)).setCell ⟨w1.heap.size, 2, none⟩ (.int .u32 t))) := ⟨HS4.out.1.keeps k5 (by omega) (by intro r hr c; have := (HOw.out r hr).1; omega), HS4.out.2.1.keeps k5 (by omega), HS4.out.2.2.2.trans (k5.below HS4.out.2.2.2.size (by intro j hj; omega))⟩; clear q4 k5; clear hb4 hq)
    | (go_at_call 58; go_loud (with_reducible refine (modPart_at mg l true 0 0 _ _ H00.out HM.out HL.out h0 HV0.out).mono ?_); rintro e1 w1 ⟨rfl, hb⟩; have hb2 := hb.alloc hb.size (.cells #[.int .u32 y0, .int .u32 x0, .int .u32 t] 91); have HS2 : RowKit.Hid (DrcAt (w1.alloc (.cells #[.int .u32 y0, .int .u32 x0, .int .u32 t] 91)) base g v b d ∧ ModAt (w1.alloc (.cells #[.int .u32 y0, .int .u32 x0, .int .u32 t] 91)) mg l true ∧ Cel (w1.alloc (.cells #[.int .u32 y0, .int .u32 x0, .int .u32 t] 91)) w1.heap.size 91 #[.int .u32 y0, .int .u32 x0, .int .u32 t] ∧ Below w.heap.size w (w1.alloc (.cells #[.int .u32 y0, .int .u32 x0, .int .u32 t] 91))) := ⟨HD.out.below hb2, HM.out.below hb2, Cel.new _ _ _, hb2⟩; have hsz1 := hb.size; clear hb hb2)
    | (go_at_call 69; go_loud (with_reducible refine (drcLies_any base g v b d t _ HS2.out.1 HG.out v3 v4).mono ?_); rintro e2 w2 ⟨rfl, rfl⟩)
    | (go_at_call 71; go_loud (with_reducible refine (modFind_at mg l true _ s _ HS2.out.2.1 HL.out HW.out).mono ?_); rintro e3 w3 ⟨rfl, n3, rfl⟩; have HF3 := Lib.hid (show 0 < l.length ∧ mg < w.heap.size from ⟨h0, hml⟩))
    | (go_at_call 70; go_loud (with_reducible refine (drcTake_any base g v b d y x t _ HS5.out.1 HBy.out hbl hi HG.out HOk.out HWl.out).mono ?_); rintro e5 w5 ⟨rfl, hm, hk⟩; have HD5 := Lib.hid hm; have HK5 := Lib.hid hk; have HM5 := Lib.hid (HS5.out.2.1.keeps hk HNe.out.1); clear hm hk)
    | (go_at_call 59; go_loud (with_reducible refine (modLearn_fixed mg l s _ HM5.out v1).mono ?_); rintro e6 w6 ⟨rfl, n6, rfl⟩))
  refine bodyPost_ret (v := .tuple #[.int .i64 s, .int .i64 0]) (by simp [results, Try.results61, go_sem]) rfl ?_
  exact ⟨rfl, HD5.out.drewN n6, HM5.out.drewN n6, ((Keeps.of_below HS5.out.2.2).trans HK5.out).drewN n6⟩
set_option maxHeartbeats 1000000 in
set_option maxRecDepth 100000 in
theorem refDecSymbol_fixed (base b2 g : Nat) (v : Value) (b : List Int) (d : DecS) (mg mr : Nat) (l : List Int) (w : World) (hD : DecMem w base g v b d) (hb : ∀ j, 0 ≤ byteF b j ∧ byteF b j ≤ 255) (hbl : b.length ≤ 1000000) (hi : d.i ≤ 5000000) (hR : RefMod w b2 mg mr l true) (hG : GoodD d) (hL : GoodL l) (d1 : mg ≠ g) (d3 : mr ≠ g) (d2 : ∀ k, v.ownBlock = some k → k ≠ mg ∧ k ≠ mr) :
    Calls Try.prog 39 #[.pointer (some ⟨g, 0, none⟩), .pointer (some ⟨mg, 0, none⟩)] w (DecSymPost base b2 g v b mg mr (decWhich d l) (decSym b d l) l true w) := by
  obtain ⟨cm, h1, h2, h3⟩ := hR
  have HR := Lib.hid (show RefMod w b2 mg mr l true from ⟨cm, h1, h2, h3⟩)
  have HD := Lib.hid hD
  have HG := Lib.hid hG
  have HL := Lib.hid hL
  have HBy := Lib.hid hb
  have H2 := Lib.hid d2
  have hl0 := hL.1
  have hl := hL.2.1
  have c0 := h1.cell 0
  simp only [List.getElem?_toArray, List.getElem?_cons_zero] at c0
  obtain ⟨w1, w2, w3, w4⟩ := decWhich_is hG hL
  have HWl := Lib.hid w2
  have HW : RowKit.Hid (findP l (decAt d l.sum) = decWhich d l) := rfl
  have hbd : ∀ j, j < l.length → 0 ≤ l.getD j 0 ∧ l.getD j 0 ≤ 4294967295 := fun j hj => by have := HL.out.own hj; omega
  have HB := Lib.hid hbd
  have HOk := Lib.hid (okP_sym hL w1)
  have HT := Lib.hid (sumN_all l)
  have hcell := HR.out.at_ w1
  have HS : RowKit.Hid (decSym b d l = decTake (byteF b) d (sumN l (decWhich d l)) (l.getD (decWhich d l) 0) l.sum) := rfl
  rw [HS.out]
  clear h1 h2 h3 hD hG hL hb hbd d2 w2 HS
  generalize l.getD (decWhich d l) 0 = X2 at hcell HOk ⊢
  generalize hs : decWhich d l = s at w1 HWl HW HOk hcell ⊢
  clear hs
  have hsl : (s : Int) < (l.length : Int) := by omega
  go_enter Try.func39, Try.ntmps39
  go_wp2_with (first | (go_at_call 49; go_loud (refine (refSum_at b2 mg mr l true l.length _ _ (by omega) HR.out (by omega) hl HB.out).mono ?_); rintro e5 w5 ⟨rfl, rfl⟩; rw [HT.out]) | (go_at_call 53; go_loud (refine (refDecAt_any base g v b d _ _ HD.out HG.out w3 w4).mono ?_); rintro e5 w5 ⟨rfl, n5, rfl⟩) | (go_at_call 55; go_loud (refine (refFind_any b2 mg mr l true _ _ (HR.out.drewN _) hl0 hl HB.out).mono ?_); rintro e6 w6 ⟨rfl, rfl⟩; rw [HW.out]))
  have hcell2 : (w.drewN n5).cell? ⟨mr, s, none⟩ = some (.int .i64 X2) := hcell
  have c02 : (w.drewN n5).cell? ⟨mg, 0, none⟩ = some (.slice (some ⟨mr, 0, none⟩) l.length cm) := c0
  have HDq := Lib.hid (HD.out.drewN n5)
  have HRq := Lib.hid (HR.out.drewN n5)
  have HKq := Lib.hid ((Keeps.refl (fun j => j = g ∨ j = mr) w).drewN n5)
  clear c0 hcell
  generalize w.drewN n5 = wq at hcell2 c02 HDq HRq HKq ⊢
  go_still_tail 12, (by kernel_rfl)
  still_call ((refSum_at b2 mg mr l true s _ _ (by omega) (HRq.out.drewN 1) (by omega) hl HB.out).mono fun _ _ h => ⟨h.1, h.2.symm⟩)
  repeat still_step
  refine wpStill_nil ?_
  change wpList _ _ _ _ _ wq.drew
  clear c02 hcell2
  have HDd : RowKit.Hid (DecMem wq.drew base g v b d) := HDq.out.drewN 1
  have HRd : RowKit.Hid (RefMod wq.drew b2 mg mr l true) := HRq.out.drewN 1
  generalize hX1 : sumN l s = X1 at HWl HOk ⊢
  have HX1 := Lib.hid hX1
  clear hX1
  go_wp2_with (first | (go_at_call 54; go_loud (refine (refDecTake_any base g v b d _ _ _ _ HDd.out HBy.out hbl hi HG.out HOk.out HWl.out).mono ?_); rintro e5 w5 ⟨rfl, hm, hk⟩; have HM5 := Lib.hid hm; have HK5 := Lib.hid hk; have HR5 := Lib.hid (HRd.out.keeps hk d1 d3); clear hm hk) | (go_at_call 50; go_loud (refine (refLearn_fixed b2 mg mr l _ _ HR5.out).mono ?_); rintro e6 w6 ⟨rfl, rfl⟩))
  go_ret
  rw [HX1.out]
  exact ⟨rfl, HM5.out, HR5.out, (HKq.out.drewN 1).trans (HK5.out.mono fun k h => by omega)⟩
end Go.Proofs.Ytgnmnmjicjcffaa

/- What Get of package energy gives. -/
namespace Go.Proofs.Ytgnmnmjicjcffaa
open Go.RowKit
set_option linter.unusedVariables false

theorem IFun.keeps {w w' : World} {g n : Nat} {t : TypeId} {k : IntKind} {f : Nat → Int} {F : Nat → Prop} (h : IFun w g t k n f) (hk : Keeps F w w') (hn : ¬ F g) : IFun w' g t k n f := (hk.block g h.lt hn).trans h
/-- What is held while ceilings are got: the decoder's state, the row that is filled, what else was written. -/
structure GetSt (w : World) (base g : Nat) (v : Value) (b : List Int) (D : DecS) (r : Nat) (f : Nat → Int) (wr : World) : Prop where
  d : DrcAt wr base g v b D
  i : IFun wr r 3 .i64 21 f
  k : Keeps (fun j => j = g) w wr
  rs : w.heap.size ≤ r
  gs : g < w.heap.size ∧ ∀ j, v.ownBlock = some j → j < w.heap.size
section
variable {w wr w' : World} {base g r : Nat} {v : Value} {b : List Int} {D D' : DecS} {f f' : Nat → Int}
theorem GetSt.dec (h : GetSt w base g v b D r f wr) (hd : DrcAt w' base g v b D') (hk : Keeps (fun j => j = g) wr w') : GetSt w base g v b D' r f w' :=
  ⟨hd, h.i.keeps hk (by have := h.gs.1; have := h.rs; omega), h.k.trans hk, h.rs, h.gs⟩
theorem GetSt.set (h : GetSt w base g v b D r f wr) {j : Nat} (hj : j < 21) (x : Int) : GetSt w base g v b D r (fun i => if i = j then x else f i) (wr.setCell ⟨r, j, none⟩ (.int .i64 x)) :=
  ⟨h.d.keeps (F := fun k => k = r) (Keeps.setCell (F := fun k => k = r) (p := ⟨r, j, none⟩) (Keeps.refl _ wr) (.inl rfl) _) (by have := h.gs.1; have := h.rs; omega) (fun k hk c => by have := h.gs.2 k hk; have := h.rs; omega),
    h.i.set hj x, Keeps.setCell (p := ⟨r, j, none⟩) h.k (.inr h.rs) _, h.rs, h.gs⟩
theorem GetSt.ext (h : GetSt w base g v b D r f wr) (he : ∀ j, j < 21 → f j = f' j) : GetSt w base g v b D r f' wr := ⟨h.d, h.i.ext he, h.k, h.rs, h.gs⟩
theorem GetSt.below (h : GetSt w base g v b D r f wr) (hb : Below wr.heap.size wr w') : GetSt w base g v b D r f w' :=
  ⟨h.d.below hb, h.i.below hb h.i.lt, h.k.trans (.of_below hb), h.rs, h.gs⟩
end
/-- A number of each band got. -/
def GotPost (base g : Nat) (v : Value) (b : List Int) (D : DecS) (V : Nat → Int) (w : World) (e : Ending) (w' : World) : Prop :=
  ∃ r, e = .returned (.tuple #[.slice (some ⟨r, 0, none⟩) 21 21, .int .i64 0]) ∧ GetSt w base g v b D r V w'

set_option maxRecDepth 100000 in
theorem engGetAlone_any (base g : Nat) (v : Value) (b : List Int) (D : DecS) (d : Nat → Int) (w : World) (hD : DrcAt w base g v b D) (hG : GoodD D) (hb : ∀ j, 0 ≤ byteF b j ∧ byteF b j ≤ 255) (hbl : b.length ≤ 1000000) (hi : D.i ≤ 3000000) :
    Calls Try.prog 51 #[.pointer (some ⟨g, 0, none⟩)] w (GotPost base g v b (getN true b D d 21) (getV true b D d) w) := by
  have hmk : ∀ w : World, (Instr.makeSlice 23 (.int .i64 21) (.int .i64 21)).run Try.prog w = .ok (.slice (some ⟨w.heap.size, 0, none⟩) 21 21) (w.alloc (.cells (madeCells #[.int .i64 0] 21) 3)) :=
    fun w => make_zeros (P := Try.prog) Try.underlying23 infoE_int 21 (by decide) (by decide) w
  have H0 : RowKit.Hid (GetSt w base g v b (getN true b D d 0) w.heap.size (preF (getV true b D d) 0) (w.alloc (.cells (madeCells #[.int .i64 0] 21) 3))) :=
    ⟨hD.below (Below.alloc_new w _), IFun.ext (IFun.zeros w 3 .i64 21) fun j _ => (preF_zero _ j).symm, .of_below (Below.alloc_new w _), Nat.le_refl _, hD.lt.1, fun j hj => (hD.own j hj).1⟩
  have HG := Lib.hid (fun n => getN_good (q := true) (d := d) hb hG n)
  have HBd := Lib.hid (fun n => getV_bd (q := true) (d := d) hb hG n)
  have HS : RowKit.Hid (∀ n, getN true b D d (n + 1) = (decBits b (getN true b D d n) 0 5).2 ∧ getV true b D d n = (decBits b (getN true b D d n) 0 5).1) := fun n => by rw [getN_succ]; unfold getV; rw [getW_alone]; exact ⟨rfl, rfl⟩
  have HBy := Lib.hid hb
  generalize getN true b D d = N at H0 HG HS ⊢
  generalize getV true b D d = V at H0 HBd HS ⊢
  clear hD hG hb
  go_enter Try.func51, Try.ntmps51
  go_wp2
  clear hmk
  generalize (w.alloc (.cells (madeCells #[.int .i64 0] 21) 3)) = w1 at H0 ⊢
  generalize hr : w.heap.size = r at H0 ⊢
  clear hr
  go_loopw [5, 6, 7, 11] (fun _ _ _ i wr => ∃ k : Nat, k ≤ 21 ∧ i = .int .i64 (k : Int) ∧ RowKit.Hid (GetSt w base g v b (N k) r (preF V k) wr)) (fun _ _ _ i _ => 21 - (intOf i).toNat)
  case atStart => exact ⟨0, by omega, rfl, H0.out⟩
  case round =>
    obtain ⟨k, hk2, rfl, H⟩ := hrel
    clear H0
    by_cases hlt : k < 21
    · obtain ⟨g1, g2⟩ := HG.out k
      have HG1 := Lib.hid g1
      obtain ⟨n0, n1⟩ := HBd.out k
      obtain ⟨s1, s2⟩ := HS.out k
      have HS1 := Lib.hid s1
      have HS2 := Lib.hid s2
      have HV : RowKit.Hid (∀ w2, GetSt w base g v b (N (k + 1)) r (preF V k) w2 → GetSt w base g v b (N (k + 1)) r (preF V (k + 1)) (w2.setCell ⟨r, k, none⟩ (.int .i64 (V k)))) := fun w2 h => (h.set hlt (V k)).ext fun j _ => preF_next V k j
      clear g1 s1 s2
      generalize V k = x at n0 n1 HS2 HV
      have u1 : IntKind.i64.wrap x = x := IntWalk.i64_in _ (by omega)
      go_wp2_with (go_at_call 60; go_loud (refine (drcBits_any base g v b (N k) 5 _ H.out.d HBy.out hbl (by omega) HG1.out (by decide)).mono ?_); rintro e2 w2 ⟨rfl, k1, k2⟩; rw [← HS2.out]; rw [← HS1.out] at k1; have HT := Lib.hid (H.out.dec k1 k2); have o1 := HT.out.i.cell (j := k) hlt; have f1 := HT.out.i.frozen k; have HT2 := Lib.hid (HV.out _ HT.out); clear k1 k2)
      go_roundw
      case rel => exact ⟨k + 1, by omega, by go_num, HT2.out⟩
      case measure => simp [intOf] <;> omega
    · obtain rfl : k = 21 := by omega
      have Z := Lib.hid (H.out.ext fun j hj => preF_end V hj)
      go_wp2
      go_ret2
      exact ⟨r, rfl, Z.out⟩
set_option maxHeartbeats 400000 in
set_option maxRecDepth 100000 in
theorem engGetDiffs_any (base g : Nat) (v : Value) (b : List Int) (D : DecS) (a2 : Option Addr) (cap2 : Nat) (ds : List Int) (w : World) (hD : DrcAt w base g v b D) (hG : GoodD D) (hb : ∀ j, 0 ≤ byteF b j ∧ byteF b j ≤ 255) (hbl : b.length ≤ 1000000) (hi : D.i ≤ 3000000)
    (hi2 : IntsAt w w.heap.size .i64 a2 21 ds) (hr2 : rightB ds = true) (hne2 : ∀ r off, a2 = some ⟨r, off, none⟩ → r ≠ g) :
    Calls Try.prog 52 #[.pointer (some ⟨g, 0, none⟩), .slice a2 21 cap2] w (GotPost base g v b (getN false b D (fun j => ds.getD j 0) 21) (getV false b D (fun j => ds.getD j 0)) w) := by
  have hmk : ∀ w : World, (Instr.makeSlice 23 (.int .i64 21) (.int .i64 21)).run Try.prog w = .ok (.slice (some ⟨w.heap.size, 0, none⟩) 21 21) (w.alloc (.cells (madeCells #[.int .i64 0] 21) 3)) :=
    fun w => make_zeros (P := Try.prog) Try.underlying23 infoE_int 21 (by decide) (by decide) w
  have H00 : RowKit.Hid (∀ w1, Below w.heap.size w w1 → GetSt w base g v b (getN false b D (fun j => ds.getD j 0) 0) w1.heap.size (preF (getV false b D (fun j => ds.getD j 0)) 0) (w1.alloc (.cells (madeCells #[.int .i64 0] 21) 3))) := fun w1 hb1 =>
    ⟨hD.below (hb1.alloc hb1.size _), IFun.ext (IFun.zeros w1 3 .i64 21) fun j _ => (preF_zero _ j).symm, .of_below (hb1.alloc hb1.size _), hb1.size, hD.lt.1, fun j hj => (hD.own j hj).1⟩
  have HG := Lib.hid (fun n => getN_good (q := false) (d := fun j => ds.getD j 0) hb hG n)
  have HBd := Lib.hid (fun n => getV_bd (q := false) (d := fun j => ds.getD j 0) hb hG n)
  have HS : RowKit.Hid (∀ n, getN false b D (fun j => ds.getD j 0) (n + 1) = decSym b (getN false b D (fun j => ds.getD j 0) n) difL ∧ getV false b D (fun j => ds.getD j 0) n = (ds.getD n 0 + decWhich (getN false b D (fun j => ds.getD j 0) n) difL) % 32) := fun n => by rw [getN_succ]; unfold getV; rw [getW_diff]; exact ⟨rfl, rfl⟩
  have HBy := Lib.hid hb
  have HL := Lib.hid difL_good
  have HI2 := Lib.hid hi2
  have HN2 := Lib.hid hne2
  have HR2 := Lib.hid (rightB_true hr2).2
  generalize getN false b D (fun j => ds.getD j 0) = N at H00 HG HS ⊢
  generalize getV false b D (fun j => ds.getD j 0) = V at H00 HBd HS ⊢
  clear hD hG hb hi2 hr2 hne2
  go_enter Try.func52, Try.ntmps52
  go_wp2_with (go_at_call 43; go_loud (refine (engDiff_any _).mono ?_); rintro e w1 ⟨m, rfl, hm, hM, hb⟩; have H01 := Lib.hid (H00.out w1 hb); have HM1 := Lib.hid (hM.below (Below.alloc_new w1 (.cells (madeCells #[.int .i64 0] 21) 3))); clear hM hb)
  clear hmk H00
  have H0 : RowKit.Hid (GetSt w base g v b (N 0) w1.heap.size (preF V 0) (w1.alloc (.cells (madeCells #[.int .i64 0] 21) 3)) ∧ ModAt (w1.alloc (.cells (madeCells #[.int .i64 0] 21) 3)) m difL true ∧ m ≠ w1.heap.size) := ⟨H01.out, HM1.out, cel_ne HM1.out.2 H01.out.i (by decide)⟩
  clear H01 HM1
  generalize (w1.alloc (.cells (madeCells #[.int .i64 0] 21) 3)) = w2 at H0 ⊢
  generalize w1.heap.size = r at H0 ⊢
  go_loopw [8, 9, 10, 15] (fun _ _ _ i wr => ∃ k : Nat, k ≤ 21 ∧ i = .int .i64 (k : Int) ∧ RowKit.Hid (GetSt w base g v b (N k) r (preF V k) wr ∧ ModAt wr m difL true ∧ m ≠ r)) (fun _ _ _ i _ => 21 - (intOf i).toNat)
  case atStart => exact ⟨0, by omega, rfl, H0.out⟩
  case round =>
    obtain ⟨k, hk2, rfl, H⟩ := hrel
    clear H0
    by_cases hlt : k < 21
    · obtain ⟨g1, g2⟩ := HG.out k
      have HG1 := Lib.hid g1
      obtain ⟨n0, n1⟩ := HBd.out k
      obtain ⟨s1, s2⟩ := HS.out k
      have HS1 := Lib.hid s1
      have HS2 := Lib.hid s2
      obtain ⟨y0, y1⟩ := HR2.out k hlt
      have HJ : RowKit.Hid (IntsAt wr w.heap.size .i64 a2 21 ds) := HI2.out.keeps H.out.1.k (Nat.le_refl _) fun r off e _ _ c => HN2.out r off e c
      obtain ⟨b2, off2, rfl, hb2l, _, hcell0⟩ := HJ.out.at_ hlt
      have hnr : b2 ≠ g := HN2.out _ _ rfl
      have hws := H.out.1.k.size
      have HV : RowKit.Hid (∀ w2, GetSt w base g v b (N (k + 1)) r (preF V k) w2 ∧ ModAt w2 m difL true ∧ m ≠ r → GetSt w base g v b (N (k + 1)) r (preF V (k + 1)) (w2.setCell ⟨r, k, none⟩ (.int .i64 (V k))) ∧ ModAt (w2.setCell ⟨r, k, none⟩ (.int .i64 (V k))) m difL true ∧ m ≠ r) := fun w2 h =>
        ⟨(h.1.set hlt (V k)).ext fun j _ => preF_next V k j, h.2.1.keeps (F := fun k => k = r) (Keeps.setCell (F := fun k => k = r) (p := ⟨r, k, none⟩) (Keeps.refl _ w2) (.inl rfl) _) h.2.2, h.2.2⟩
      obtain ⟨s, hs⟩ : ∃ s, s = decWhich (N k) difL := ⟨_, rfl⟩
      have hs32 : s < 32 := by rw [hs, ← difL_len]; exact (decWhich_is g1 difL_good).1
      rw [← hs] at s2
      have HSs := Lib.hid hs
      have HS3 := Lib.hid s2
      clear g1 s1 s2 hs HS2 hcell0
      have HCl : RowKit.Hid (∀ w2, Keeps (fun j => j = g) wr w2 → w2.cell? ⟨b2, off2 + k, none⟩ = some (.int .i64 (ds.getD k 0))) := fun w2 hk => by
        obtain ⟨b3, off3, e, _, _, h⟩ := HJ.out.at_ hlt
        injection e with e
        injection e with e1 e2
        subst e1; subst e2
        exact (World.cell?_of_block (a := ⟨b2, off2 + k, none⟩) (hk.block b2 (by omega) hnr)).trans h
      generalize ds.getD k 0 = y at y0 y1 HS3 HCl
      generalize V k = x at n0 n1 HS3 HV
      have u1 : IntKind.i64.wrap (y + s) = y + s := IntWalk.i64_in _ (by omega)
      go_wp2_with (first
        | (go_at_call 61; go_loud (refine (drcSymbol_fixed base g v b (N k) m difL _ H.out.1.d H.out.2.1 HBy.out hbl (by omega) HG1.out HL.out).mono ?_); rintro e2 w2 ⟨rfl, k1, km, k2⟩; rw [← HSs.out]; rw [← HS1.out] at k1; have HT : RowKit.Hid (GetSt w base g v b (N (k + 1)) r (preF V k) w2 ∧ ModAt w2 m difL true ∧ m ≠ r) := ⟨H.out.1.dec k1 k2, km, H.out.2.2⟩; have o1 := HT.out.1.i.cell (j := k) hlt; have f1 := HT.out.1.i.frozen k; have c1 := HCl.out w2 k2; have HT2 := Lib.hid (HV.out _ HT.out); clear k1 k2 km)
        | (go_at_call 45; go_loud (refine (engWrap_any (y + s) _).mono ?_); rintro e1 w1' ⟨rfl, rfl⟩; rw [← HS3.out]))
      go_roundw
      case rel => exact ⟨k + 1, by omega, by go_num, HT2.out⟩
      case measure => simp [intOf] <;> omega
    · obtain rfl : k = 21 := by omega
      have Z := Lib.hid (H.out.1.ext fun j hj => preF_end V hj)
      go_wp2
      go_ret2
      exact ⟨r, rfl, Z.out⟩
set_option maxRecDepth 100000 in
theorem engGet0_any (base g : Nat) (v : Value) (b : List Int) (D : DecS) (q : Bool) (a2 : Option Addr) (len2 cap2 : Nat) (ds : List Int) (w : World) (hD : DrcAt w base g v b D) (hG : GoodD D) (hb : ∀ j, 0 ≤ byteF b j ∧ byteF b j ≤ 255) (hbl : b.length ≤ 1000000) (hi : D.i ≤ 3000000)
    (hA : AheadAt w q a2 len2 ds) (hne2 : q = false → ∀ r off, a2 = some ⟨r, off, none⟩ → r ≠ g) :
    Calls Try.prog 37 #[.pointer (some ⟨g, 0, none⟩), .slice a2 len2 cap2] w (GotPost base g v b (getN q b D (fun j => ds.getD j 0) 21) (getV q b D (fun j => ds.getD j 0)) w) := by
  have HD := Lib.hid hD
  have HG := Lib.hid hG
  have HB := Lib.hid hb
  have HI2 := Lib.hid hA.1
  rcases hA with ⟨_, hl2, ⟨rfl, hl0⟩ | ⟨rfl, hr2, rfl⟩⟩
  · have q0 : ((len2 : Int) == 0) = true := by simp; omega
    clear hD hG hb hne2 hl0
    go_enter Try.func37, Try.ntmps37
    go_wp2_with (go_at_call 51; go_loud (refine (engGetAlone_any base g v b D (fun j => ds.getD j 0) _ HD.out HG.out HB.out hbl hi).mono ?_); rintro e1 w1 ⟨r, rfl, hp⟩; have HP := Lib.hid hp; clear hp)
    go_ret2
    exact ⟨r, rfl, HP.out⟩
  · have HR2 := Lib.hid hr2
    have HN2 := Lib.hid (hne2 rfl)
    clear hD hG hb hne2 hr2
    go_enter Try.func37, Try.ntmps37
    go_wp2_with (go_at_call 52; go_loud (refine (engGetDiffs_any base g v b D a2 cap2 ds _ HD.out HG.out HB.out hbl hi HI2.out HR2.out HN2.out).mono ?_); rintro e1 w1 ⟨r, rfl, hp⟩; have HP := Lib.hid hp; clear hp)
    go_ret2
    exact ⟨r, rfl, HP.out⟩
theorem GetSt.ints {w wr : World} {base g r : Nat} {v : Value} {b : List Int} {D : DecS} {f : Nat → Int} (h : GetSt w base g v b D r f wr) : IntsAt wr wr.heap.size .i64 (some ⟨r, 0, none⟩) 21 (tabF 21 f) :=
  ⟨tabF_len _ _, .inr ⟨r, 0, rfl, h.i.lt, by decide, fun j hj => by rw [Nat.zero_add, h.i.cell hj, tabF_getD _ hj]⟩⟩
/-- What is got: ceilings, or that none are. -/
def GetPost (base g : Nat) (v : Value) (b : List Int) (D : DecS) (V : Nat → Int) (w : World) (e : Ending) (w' : World) : Prop :=
  ∃ r, GetSt w base g v b D r V w' ∧ e = .returned (if rightB (tabF 21 V) then .tuple #[.slice (some ⟨r, 0, none⟩) 21 21, .int .i64 0] else .tuple #[.slice none 0 0, .int .i64 3])
set_option maxRecDepth 100000 in
theorem engGet_any (base g : Nat) (v : Value) (b : List Int) (D : DecS) (q : Bool) (a2 : Option Addr) (len2 cap2 : Nat) (ds : List Int) (w : World) (hD : DrcAt w base g v b D) (hG : GoodD D) (hb : ∀ j, 0 ≤ byteF b j ∧ byteF b j ≤ 255) (hbl : b.length ≤ 1000000) (hi : D.i ≤ 3000000)
    (hA : AheadAt w q a2 len2 ds) (hne2 : q = false → ∀ r off, a2 = some ⟨r, off, none⟩ → r ≠ g) :
    Calls Try.prog 21 #[.pointer (some ⟨g, 0, none⟩), .slice a2 len2 cap2] w (GetPost base g v b (getN q b D (fun j => ds.getD j 0) 21) (getV q b D (fun j => ds.getD j 0)) w) := by
  have HM := Lib.hid hA.may
  have HA := Lib.hid hA.1
  have hl2 := hA.2.1
  have HQ := Lib.hid (engGet0_any base g v b D q a2 len2 cap2 ds w hD hG hb hbl hi hA hne2)
  generalize getV q b D (fun j => ds.getD j 0) = V at HQ ⊢
  generalize getN q b D (fun j => ds.getD j 0) 21 = D' at HQ ⊢
  clear hD hG hb hA hne2
  cases hR : rightB (tabF 21 V) with
  | true =>
    have HR := Lib.hid hR
    clear hR
    go_enter Try.func21, Try.ntmps21
    go_wp2_with (first
      | (go_at_call 28; go_loud (refine (engAhead_any _ _ _ _ _ HA.out hl2).mono ?_); rintro e1 w1 ⟨rfl, rfl⟩; rw [HM.out])
      | (go_at_call 37; go_loud (refine HQ.out.mono ?_); rintro e1 w1 ⟨r, rfl, hp⟩; have HP := Lib.hid hp; clear hp)
      | (go_at_call 11; go_loud (refine (engRight_any _ _ _ _ _ HP.out.ints (by decide)).mono ?_); rintro e1 w1 ⟨rfl, rfl⟩; rw [HR.out]))
    go_ret2
    exact ⟨r, HP.out, by rw [HR.out]; rfl⟩
  | false =>
    have HR := Lib.hid hR
    clear hR
    go_enter Try.func21, Try.ntmps21
    go_wp2_with (first
      | (go_at_call 28; go_loud (refine (engAhead_any _ _ _ _ _ HA.out hl2).mono ?_); rintro e1 w1 ⟨rfl, rfl⟩; rw [HM.out])
      | (go_at_call 37; go_loud (refine HQ.out.mono ?_); rintro e1 w1 ⟨r, rfl, hp⟩; have HP := Lib.hid hp; clear hp)
      | (go_at_call 11; go_loud (refine (engRight_any _ _ _ _ _ HP.out.ints (by decide)).mono ?_); rintro e1 w1 ⟨rfl, rfl⟩; rw [HR.out]))
    go_ret2
    exact ⟨r, HP.out, by rw [HR.out]; rfl⟩
/-- Wrong ones ahead. -/
theorem engGet_no (g : Nat) (a2 : Option Addr) (len2 cap2 : Nat) (ds : List Int) (w : World) (hi2 : IntsAt w w.heap.size .i64 a2 len2 ds) (hl2 : len2 ≤ 9223372036854775807) (hno : (decide (len2 = 0) || rightB ds) = false) :
    Calls Try.prog 21 #[.pointer (some ⟨g, 0, none⟩), .slice a2 len2 cap2] w fun e w' => e = .returned (.tuple #[.slice none 0 0, .int .i64 1]) ∧ w = w' := by
  have HM := Lib.hid hno
  have HA := Lib.hid hi2
  clear hno hi2
  go_enter Try.func21, Try.ntmps21
  go_wp2_with (go_at_call 28; go_loud (refine (engAhead_any _ _ _ _ _ HA.out hl2).mono ?_); rintro e1 w1 ⟨rfl, rfl⟩; rw [HM.out])
  go_ret2
  exact ⟨rfl, rfl⟩
theorem engGet_nil (a2 : Option Addr) (len2 cap2 : Nat) (w : World) :
    Calls Try.prog 21 #[.pointer none, .slice a2 len2 cap2] w fun e w' => e = .returned (.tuple #[.slice none 0 0, .int .i64 1]) ∧ w = w' := by
  go_enter Try.func21, Try.ntmps21
  go_wp2
  go_ret2
  exact ⟨rfl, rfl⟩
end Go.Proofs.Ytgnmnmjicjcffaa

/- What the document's Put of ceilings gives. -/
namespace Go.Proofs.Ytgnmnmjicjcffaa
open Go.RowKit
set_option linter.unusedVariables false

/-- What is held while the document's encoder puts: its state, what else was written; its row is the first, or one from block B on. -/
def RefSt (w : World) (B base g r : Nat) (E : EncS) (wr : World) : Prop :=
  ∃ r' c', EncMem wr base g r' c' (digL E.n (E.k + 4)) E.s E.k ∧ Keeps (fun j => j = g ∨ j = r) w wr ∧ (r' = r ∨ B ≤ r') ∧ w.heap.size ≤ B ∧ B ≤ wr.heap.size
theorem RefSt.start {w w1 : World} {base g r c : Nat} {E : EncS} (h : EncMem w base g r c (digL E.n (E.k + 4)) E.s E.k) (hb : Below w.heap.size w w1) : RefSt w w1.heap.size base g r E w1 :=
  ⟨r, c, h.below hb, .of_below hb, .inl rfl, hb.size, Nat.le_refl _⟩
theorem RefSt.ints {w wr : World} {B base g r len : Nat} {E : EncS} {a : Option Addr} {zs : List Int} (h : RefSt w B base g r E wr) (hi : IntsAt w w.heap.size .i64 a len zs) (hne : ∀ b off, a = some ⟨b, off, none⟩ → b ≠ g ∧ b ≠ r) : IntsAt wr w.heap.size .i64 a len zs := by
  obtain ⟨r', c', h1, h2, h3⟩ := h
  exact hi.keeps h2 (Nat.le_refl _) fun b off e _ _ c => by
    obtain ⟨n1, n2⟩ := hne b off e
    omega
theorem RefSt.step {w wr w' : World} {B base g r r' r2 c2 : Nat} {E' : EncS} (h2 : Keeps (fun j => j = g ∨ j = r) w wr) (h3 : (r' = r ∨ B ≤ r') ∧ w.heap.size ≤ B ∧ B ≤ wr.heap.size)
    (k1 : EncMem w' base g r2 c2 (digL E'.n (E'.k + 4)) E'.s E'.k) (k2 : Keeps (fun j => j = g ∨ j = r' ∨ w.heap.size ≤ j) wr w') (k3 : r2 = r' ∨ wr.heap.size ≤ r2) : RefSt w B base g r E' w' := by
  have hs := k2.size
  exact ⟨r2, c2, k1, h2.then_ k2 fun j hj => by omega, by omega, h3.2.1, by omega⟩
theorem RefSt.post {w wr : World} {B base g r : Nat} {E : EncS} (h : RefSt w B base g r E wr) : EncPost base g r E w (.returned (.tuple #[])) wr := by
  obtain ⟨r', c', h1, h2, h3, h4, h5⟩ := h
  exact ⟨rfl, r', c', h1, h2, by omega⟩

set_option maxRecDepth 100000 in
theorem ref10Put_alone (base g r c : Nat) (e : EncS) (a a2 : Option Addr) (len cap cap2 : Nat) (zs : List Int) (d : Nat → Int) (w : World) (hE : EncMem w base g r c (digL e.n (e.k + 4)) e.s e.k) (hG : GoodE e) (hk : e.k ≤ 700000)
    (hi : IntsAt w w.heap.size .i64 a len zs) (hl : len = 21) (hr : rightB zs = true) (hne : ∀ b off, a = some ⟨b, off, none⟩ → b ≠ g ∧ b ≠ r) :
    Calls Try.prog 17 #[.pointer (some ⟨g, 0, none⟩), .slice a len cap, .slice a2 0 cap2] w (EncPost base g r (putN true e (fun j => zs.getD j 0) d 21) w) := by
  have HE0 := Lib.hid hE
  have HI := Lib.hid hi
  have HN := Lib.hid hne
  have HR := Lib.hid (rightB_true hr).2
  have HG := Lib.hid (fun n => putN_good (q := true) (f := fun j => zs.getD j 0) (d := d) hG n)
  have HS : RowKit.Hid (∀ n, putN true e (fun j => zs.getD j 0) d (n + 1) = encBits (putN true e (fun j => zs.getD j 0) d n) (zs.getD n 0) 5) := fun n => by rw [putN_succ, putW_alone]
  have H00 : RowKit.Hid (∀ w1, Below w.heap.size w w1 → RefSt w w1.heap.size base g r (putN true e (fun j => zs.getD j 0) d 0) w1) := fun w1 hb => RefSt.start hE hb
  generalize putN true e (fun j => zs.getD j 0) d = P at H00 HG HS ⊢
  clear hE hi hr hne hG
  go_enter Try.func17, Try.ntmps17
  go_wp2_with (go_at_call 31; go_loud (refine (refApart_any _).mono ?_); rintro e w1 ⟨mg, mr, rfl, hM, hb⟩; have HB := Lib.hid hb; have H0 := Lib.hid (H00.out w1 hb); clear hM hb)
  clear H00
  go_loopw [7] (fun i wr => ∃ k : Nat, k ≤ 21 ∧ i = .int .i64 (k : Int) ∧ RowKit.Hid (RefSt w w1.heap.size base g r (P k) wr)) (fun i _ => 21 - (intOf i).toNat)
  case atStart => exact ⟨0, by omega, rfl, H0.out⟩
  case round =>
    obtain ⟨k, hk2, rfl, H⟩ := hrel
    clear H0
    by_cases hlt : k < 21
    · obtain ⟨b, off, rfl, _, _, hcell⟩ := (H.out.ints HI.out HN.out).at_ (j := k) (by omega)
      obtain ⟨x0, x1⟩ := HR.out k hlt
      obtain ⟨r', c', he, hke, hv⟩ := H.out
      have HE := Lib.hid he
      have HK := Lib.hid hke
      have HV := Lib.hid hv
      obtain ⟨g1, g2, _⟩ := HG.out k
      have HG1 := Lib.hid g1
      have HP := Lib.hid (HS.out k)
      clear he hke hv H g1
      generalize zs.getD k 0 = x at hcell x0 x1 HP
      have hkl : k < len := by omega
      go_wp2_with (go_at_call 32; go_loud (refine (refEncBits_any base g r' c' (P k) x 5 _ HE.out HG1.out (by omega) (by decide) x0 (by omega)).mono ?_); rintro e2 w2 ⟨rfl, r2, c2, k1, k2, k3⟩; have HT : RowKit.Hid (RefSt w w1.heap.size base g r (P (k + 1)) w2) := (by rw [HP.out]; exact RefSt.step HK.out HV.out k1 (k2.mono fun j hj => hj.elim .inl fun c => .inr (.inl c)) k3); clear k1 k2 k3)
      go_roundw
      case rel => exact ⟨k + 1, by omega, by go_num, HT.out⟩
      case measure => simp [intOf] <;> omega
    · obtain rfl : k = 21 := by omega
      have Z := Lib.hid (H.out.post)
      go_wp2
      go_end0
      exact Z.out
set_option maxHeartbeats 400000 in
set_option maxRecDepth 100000 in
theorem ref10Put_diffs (base g r c : Nat) (e : EncS) (a a2 : Option Addr) (cap cap2 : Nat) (zs ds : List Int) (w : World) (hE : EncMem w base g r c (digL e.n (e.k + 4)) e.s e.k) (hG : GoodE e) (hk : e.k ≤ 700000)
    (hi : IntsAt w w.heap.size .i64 a 21 zs) (hr : rightB zs = true) (hne : ∀ b off, a = some ⟨b, off, none⟩ → b ≠ g ∧ b ≠ r)
    (hi2 : IntsAt w w.heap.size .i64 a2 21 ds) (hr2 : rightB ds = true) (hne2 : ∀ b off, a2 = some ⟨b, off, none⟩ → b ≠ g ∧ b ≠ r) :
    Calls Try.prog 17 #[.pointer (some ⟨g, 0, none⟩), .slice a 21 cap, .slice a2 21 cap2] w (EncPost base g r (putN false e (fun j => zs.getD j 0) (fun j => ds.getD j 0) 21) w) := by
  have HE0 := Lib.hid hE
  have HI := Lib.hid hi
  have HN := Lib.hid hne
  have HR := Lib.hid (rightB_true hr).2
  have HI2 := Lib.hid hi2
  have HN2 := Lib.hid hne2
  have HR2 := Lib.hid (rightB_true hr2).2
  have HL := Lib.hid difL_good
  have HG := Lib.hid (fun n => putN_good (q := false) (f := fun j => zs.getD j 0) (d := fun j => ds.getD j 0) hG n)
  have HS : RowKit.Hid (∀ n, putN false e (fun j => zs.getD j 0) (fun j => ds.getD j 0) (n + 1) = encSym (putN false e (fun j => zs.getD j 0) (fun j => ds.getD j 0) n) difL ((zs.getD n 0 - ds.getD n 0) % 32).toNat) := fun n => by rw [putN_succ, putW_diff]
  have H00 : RowKit.Hid (∀ w1, Below w.heap.size w w1 → RefSt w w1.heap.size base g r (putN false e (fun j => zs.getD j 0) (fun j => ds.getD j 0) 0) w1) := fun w1 hb => RefSt.start hE hb
  have HLt := Lib.hid hE.lt
  generalize putN false e (fun j => zs.getD j 0) (fun j => ds.getD j 0) = P at H00 HG HS ⊢
  clear hE hi hr hne hG hi2 hr2 hne2
  go_enter Try.func17, Try.ntmps17
  go_wp2_with (go_at_call 31; go_loud (refine (refApart_any _).mono ?_); rintro e w1 ⟨mg, mr, rfl, hM, hb⟩; have HB := Lib.hid hb; have H0 : RowKit.Hid (RefSt w w1.heap.size base g r (P 0) w1 ∧ RefMod w1 w.heap.size mg mr difL true) := ⟨H00.out w1 hb, hM⟩; have HBs := Lib.hid hb.size; have HMl := Lib.hid hM.lt; clear hM hb)
  clear H00
  go_loopw [7] (fun i wr => ∃ k : Nat, k ≤ 21 ∧ i = .int .i64 (k : Int) ∧ RowKit.Hid (RefSt w w1.heap.size base g r (P k) wr ∧ RefMod wr w.heap.size mg mr difL true)) (fun i _ => 21 - (intOf i).toNat)
  case atStart => exact ⟨0, by omega, rfl, H0.out⟩
  case round =>
    obtain ⟨k, hk2, rfl, H⟩ := hrel
    clear H0
    by_cases hlt : k < 21
    · obtain ⟨b, off, rfl, _, _, hcell⟩ := (H.out.1.ints HI.out HN.out).at_ hlt
      obtain ⟨b2, off2, rfl, _, _, hcell2⟩ := (H.out.1.ints HI2.out HN2.out).at_ hlt
      obtain ⟨x0, x1⟩ := HR.out k hlt
      obtain ⟨y0, y1⟩ := HR2.out k hlt
      have HM := Lib.hid (H.out.2.drewN 1)
      obtain ⟨r', c', he, hke, hv⟩ := H.out.1
      have HE := Lib.hid (he.drewN 1)
      have HK := Lib.hid (hke.drewN 1)
      have HV := Lib.hid hv
      have HD : RowKit.Hid (mg ≠ g ∧ mg ≠ r' ∧ mr ≠ g ∧ mr ≠ r') := by
        have := HLt.out; have := HMl.out; have := HV.out
        refine ⟨?_, ?_, ?_, ?_⟩ <;> omega
      obtain ⟨g1, g2, _⟩ := HG.out k
      have HG1 := Lib.hid g1
      have HP := Lib.hid (HS.out k)
      clear he hke hv H g1
      generalize zs.getD k 0 = x at hcell x0 x1 HP
      generalize ds.getD k 0 = y at hcell2 y0 y1 HP
      have u0 : IntKind.i64.wrap (x + 32) = x + 32 := IntWalk.i64_in _ (by omega)
      have u1 : IntKind.i64.wrap (x + 32 - y) = x + 32 - y := IntWalk.i64_in _ (by omega)
      obtain ⟨s, hs⟩ : ∃ s : Nat, (x - y) % 32 = s := ⟨((x - y) % 32).toNat, by omega⟩
      have hs2 : s < difL.length := by rw [difL_len]; omega
      have HSl := Lib.hid hs2
      have HSn : RowKit.Hid (((x - y) % 32).toNat = s) := by show _ = _; omega
      have u2 : (x + 32 - y).tmod 32 = (s : Int) := by rw [Int.tmod_eq_emod_of_nonneg (by omega)]; omega
      rw [HSn.out] at HP
      clear hs hs2
      go_wp2
      go_still_tail 13, (by kernel_rfl)
      repeat still_step
      change wpList _ _ _ _ _ wr.drew
      go_wp2_with (go_at_call 33; go_loud (refine (refEncSymbol_any base w.heap.size g r' c' mg mr (P k) difL true s _ HE.out HM.out HG1.out HL.out HSl.out (by omega) HD.out.1 HD.out.2.1 HD.out.2.2.1 HD.out.2.2.2).mono ?_); rintro e2 w2 ⟨rfl, r2, c2, k1, km, k2, k3⟩; have HT : RowKit.Hid (RefSt w w1.heap.size base g r (P (k + 1)) w2 ∧ RefMod w2 w.heap.size mg mr difL true) := ⟨(by rw [HP.out]; exact RefSt.step HK.out HV.out k1 (k2.mono fun j hj => hj.elim .inl fun c => .inr (c.elim .inl fun c => .inr (by have := HMl.out; omega))) k3), km⟩; clear k1 k2 k3 km)
      go_roundw
      case rel => exact ⟨k + 1, by omega, by go_num, HT.out⟩
      case measure => simp [intOf] <;> omega
    · obtain rfl : k = 21 := by omega
      have Z := Lib.hid (H.out.1.post)
      go_wp2
      go_end0
      exact Z.out
end Go.Proofs.Ytgnmnmjicjcffaa

/- What the document's Get of ceilings gives. -/
namespace Go.Proofs.Ytgnmnmjicjcffaa
open Go.RowKit
set_option linter.unusedVariables false

theorem tabE_snoc (f : Nat → Int) (n : Nat) (x : Int) (h : f n = x) : tabF n f ++ [x] = tabF (n + 1) f := by subst h; simp [tabF, List.range_succ]
/-- What is got by the document. -/
def GetPostR (base g : Nat) (v : Value) (b : List Int) (D : DecS) (V : Nat → Int) (w : World) (e : Ending) (w' : World) : Prop :=
  ∃ a c, e = .returned (.tuple #[.slice a 21 c, .bool (rightB (tabF 21 V))]) ∧ IntsAt w' w'.heap.size .i64 a 21 (tabF 21 V) ∧ DecMem w' base g v b D ∧ Keeps (fun j => j = g) w w'
/-- What is held on the way. -/
structure GotR (w : World) (B base g : Nat) (v : Value) (b : List Int) (D : DecS) (u : Value) (k : Nat) (V : Nat → Int) (wr : World) : Prop where
  d : DecMem wr base g v b D
  i : wr.ownsRow B 3 1 u k ((tabF k V).map (Value.int .i64))
  k : Keeps (fun j => j = g) w wr
  B : w.heap.size ≤ B ∧ B ≤ wr.heap.size
  gs : g < w.heap.size ∧ ∀ j, v.ownBlock = some j → j < w.heap.size
section
variable {w wr w' : World} {B base g k : Nat} {v u : Value} {b : List Int} {D D' : DecS} {V : Nat → Int}
theorem GotR.dec (h : GotR w B base g v b D u k V wr) (hd : DecMem w' base g v b D') (hk : Keeps (fun j => j = g) wr w') : GotR w B base g v b D' u k V w' :=
  ⟨hd, own_keeps h.i hk (fun j hj c => by have := own_base h.i j hj; have := h.B.1; have := h.gs.1; omega), h.k.trans hk, ⟨h.B.1, Nat.le_trans h.B.2 hk.size⟩, h.gs⟩
theorem GotR.decM {mg : Nat} (h : GotR w B base g v b D u k V wr) (hd : DecMem w' base g v b D') (hk : Keeps (fun j => j = g ∨ j = mg) wr w') (hm : w.heap.size ≤ mg ∧ mg < B) : GotR w B base g v b D' u k V w' :=
  ⟨hd, own_keeps h.i hk (fun j hj c => by have := own_base h.i j hj; have := h.B.1; have := h.gs.1; omega), h.k.then_ hk (fun j hj => by omega), ⟨h.B.1, Nat.le_trans h.B.2 hk.size⟩, h.gs⟩
theorem GotR.alloc (h : GotR w B base g v b D u k V wr) (o : Obj) : GotR w B base g v b D u k V (wr.alloc o) :=
  ⟨h.d.below (Below.alloc_new wr o), World.ownsRow.alloc h.i o, h.k.alloc o, ⟨h.B.1, Nat.le_trans h.B.2 (Below.alloc_new wr o).size⟩, h.gs⟩
theorem GotR.drewN (h : GotR w B base g v b D u k V wr) (n : Nat) : GotR w B base g v b D u k V (wr.drewN n) := ⟨h.d.drewN n, own_drewN h.i n, h.k.drewN n, h.B, h.gs⟩
theorem GotR.app (h : GotR w B base g v b D u k V wr) {u' : Value} (ho : w'.ownsRow B 3 1 u' (k + 1) ((tabF (k + 1) V).map (Value.int .i64))) (hg : wr.grownBy w' u.ownBlock) : GotR w B base g v b D u' (k + 1) V w' := by
  have hb := h.B
  have hgs := h.gs
  have hk : Keeps (fun j => u.ownBlock = some j) wr w' := Keeps.of_grown hg fun _ h => h
  exact ⟨h.d.keeps hk (fun c => by have := own_base h.i g c; omega) (fun j hj c => by have := own_base h.i j c; have := hgs.2 j hj; omega), ho,
    h.k.then_ hk (fun j hj => .inr (by have := own_base h.i j hj; omega)), ⟨hb.1, Nat.le_trans hb.2 hk.size⟩, hgs⟩
theorem GotR.post (h : GotR w B base g v b D u 21 V wr) : ∃ a c, u = .slice a 21 c ∧ IntsAt wr wr.heap.size .i64 a 21 (tabF 21 V) ∧ DecMem wr base g v b D ∧ Keeps (fun j => j = g) w wr := by
  obtain ⟨a, c, e⟩ := own_form h.i
  subst e
  exact ⟨a, c, rfl, own_ints' h.i, h.d, h.k⟩
end

set_option maxHeartbeats 400000 in
set_option maxRecDepth 100000 in
theorem ref10Get_alone (base g : Nat) (v : Value) (b : List Int) (D : DecS) (a2 : Option Addr) (cap2 : Nat) (d : Nat → Int) (w : World) (hD : DecMem w base g v b D) (hG : GoodD D) (hb : ∀ j, 0 ≤ byteF b j ∧ byteF b j ≤ 255) (hbl : b.length ≤ 1000000) (hi : D.i ≤ 3000000) :
    Calls Try.prog 22 #[.pointer (some ⟨g, 0, none⟩), .slice a2 0 cap2] w (GetPostR base g v b (getN true b D d 21) (getV true b D d) w) := by
  have H00 : RowKit.Hid (∀ w1, Below w.heap.size w w1 → GotR w w1.heap.size base g v b (getN true b D d 0) (.slice none 0 0) 0 (getV true b D d) w1) := fun w1 hb1 =>
    ⟨hD.below hb1, World.ownsRow_nil w1 _ _ _, .of_below hb1, ⟨hb1.size, Nat.le_refl _⟩, hD.1.lt, fun j hj => own_lt hD.2.1 j hj⟩
  have HG := Lib.hid (fun n => getN_good (q := true) (d := d) hb hG n)
  have HBd := Lib.hid (fun n => getV_bd (q := true) (d := d) hb hG n)
  have HS : RowKit.Hid (∀ n, getN true b D d (n + 1) = (decBits b (getN true b D d n) 0 5).2 ∧ getV true b D d n = (decBits b (getN true b D d n) 0 5).1) := fun n => by rw [getN_succ]; unfold getV; rw [getW_alone]; exact ⟨rfl, rfl⟩
  have HBy := Lib.hid hb
  generalize getN true b D d = N at H00 HG HS ⊢
  generalize getV true b D d = V at H00 HBd HS ⊢
  clear hD hG hb
  go_enter Try.func22, Try.ntmps22
  go_wp2_with (go_at_call 31; go_loud (refine (refApart_any _).mono ?_); rintro e w1 ⟨mg, mr, rfl, hM, hb⟩; have H0 := Lib.hid (H00.out w1 hb); clear hM hb)
  clear H00
  generalize w1.heap.size = B at H0
  go_loopw [7, 8] (fun u i wr => ∃ k : Nat, k ≤ 21 ∧ i = .int .i64 (k : Int) ∧ RowKit.Hid (GotR w B base g v b (N k) u k V wr)) (fun _ i _ => 21 - (intOf i).toNat)
  case atStart => exact ⟨0, by omega, rfl, H0.out⟩
  case round =>
    obtain ⟨k, hk2, rfl, H⟩ := hrel
    clear H0
    by_cases hlt : k < 21
    · obtain ⟨g1, g2⟩ := HG.out k
      have HG1 := Lib.hid g1
      obtain ⟨n0, n1⟩ := HBd.out k
      obtain ⟨s1, s2⟩ := HS.out k
      have HS1 := Lib.hid s1
      have HS2 := Lib.hid s2
      have HT := Lib.hid (tabE_snoc V k (V k) rfl)
      clear g1 s1 s2
      generalize V k = x at n0 n1 HS2 HT
      go_wp2_with (first
        | (go_at_call 38; go_loud (refine (refDecBits_any base g v b (N k) 5 _ H.out.d HBy.out hbl (by omega) HG1.out (by decide)).mono ?_); rintro e2 w2 ⟨rfl, k1, k2⟩; rw [← HS2.out]; rw [← HS1.out] at k1; have HA := Lib.hid ((H.out.dec k1 k2).alloc (.cells #[.int .i64 x] 3)); have hsrc := Lib.hid (lit_ints w2 3 .i64 [x] #[.int .i64 x] (0, 0) rfl (by simp)); clear k1 k2)
        | (at_builtin; have hB2 := HA.out.B.2; go_loud (refine append_ints rfl _ _ 23 rfl B 3 .i64 8 Try.underlying23 infoE_int u7 k (tabF k V) rfl HA.out.i (some ⟨w2.heap.size, 0, none⟩) 1 1 _ [x] rfl hsrc.out (by simp) (by unfold maxLen; omega) (by omega) hB2 ?_); intro v1 w3 hown hgrow _; rw [HT.out] at hown; have HV := Lib.hid (HA.out.app hown hgrow); clear hown hgrow))
      go_roundw
      case rel => exact ⟨k + 1, by omega, by go_num, HV.out⟩
      case measure => simp [intOf] <;> omega
    · obtain rfl : k = 21 := by omega
      obtain ⟨a, c, rfl, hI, hD, hK⟩ := H.out.post
      have HI := Lib.hid hI
      have HD := Lib.hid hD
      have HK := Lib.hid hK
      clear hI hD hK
      go_wp2_with (go_at_call 12; go_loud (refine (ref10Right_any _ _ _ _ _ HI.out (by decide)).mono ?_); rintro e1 w1 ⟨rfl, rfl⟩)
      go_ret2
      exact ⟨a, c, rfl, HI.out, HD.out, HK.out⟩
set_option maxHeartbeats 1000000 in
set_option maxRecDepth 100000 in
theorem ref10Get_diffs (base g : Nat) (v : Value) (b : List Int) (D : DecS) (a2 : Option Addr) (cap2 : Nat) (ds : List Int) (w : World) (hD : DecMem w base g v b D) (hG : GoodD D) (hb : ∀ j, 0 ≤ byteF b j ∧ byteF b j ≤ 255) (hbl : b.length ≤ 1000000) (hi : D.i ≤ 3000000)
    (hi2 : IntsAt w w.heap.size .i64 a2 21 ds) (hr2 : rightB ds = true) (hne2 : ∀ r off, a2 = some ⟨r, off, none⟩ → r ≠ g) :
    Calls Try.prog 22 #[.pointer (some ⟨g, 0, none⟩), .slice a2 21 cap2] w (GetPostR base g v b (getN false b D (fun j => ds.getD j 0) 21) (getV false b D (fun j => ds.getD j 0)) w) := by
  have H00 : RowKit.Hid (∀ w1, Below w.heap.size w w1 → GotR w w1.heap.size base g v b (getN false b D (fun j => ds.getD j 0) 0) (.slice none 0 0) 0 (getV false b D (fun j => ds.getD j 0)) w1) := fun w1 hb1 =>
    ⟨hD.below hb1, World.ownsRow_nil w1 _ _ _, .of_below hb1, ⟨hb1.size, Nat.le_refl _⟩, hD.1.lt, fun j hj => own_lt hD.2.1 j hj⟩
  have HG := Lib.hid (fun n => getN_good (q := false) (d := fun j => ds.getD j 0) hb hG n)
  have HBd := Lib.hid (fun n => getV_bd (q := false) (d := fun j => ds.getD j 0) hb hG n)
  have HS : RowKit.Hid (∀ n, getN false b D (fun j => ds.getD j 0) (n + 1) = decSym b (getN false b D (fun j => ds.getD j 0) n) difL ∧ getV false b D (fun j => ds.getD j 0) n = (ds.getD n 0 + decWhich (getN false b D (fun j => ds.getD j 0) n) difL) % 32) := fun n => by rw [getN_succ]; unfold getV; rw [getW_diff]; exact ⟨rfl, rfl⟩
  have HBy := Lib.hid hb
  have HL := Lib.hid difL_good
  have HLn := Lib.hid difL_len
  have HI2 := Lib.hid hi2
  have HN2 := Lib.hid hne2
  have HR2 := Lib.hid (rightB_true hr2).2
  generalize getN false b D (fun j => ds.getD j 0) = N at H00 HG HS ⊢
  generalize getV false b D (fun j => ds.getD j 0) = V at H00 HBd HS ⊢
  obtain ⟨L, hL⟩ : ∃ L, L = difL := ⟨_, rfl⟩
  have HLd := Lib.hid hL
  rw [← hL] at HS HL HLn
  clear hD hG hb hi2 hr2 hne2 hL
  go_enter Try.func22, Try.ntmps22
  go_wp2_with (go_at_call 31; go_loud (refine (refApart_any _).mono ?_); rintro e w1 ⟨mg, mr, rfl, hM, hb⟩; have H0 : RowKit.Hid (GotR w w1.heap.size base g v b (N 0) (.slice none 0 0) 0 V w1 ∧ RefMod w1 w.heap.size mg mr L true) := ⟨H00.out w1 hb, (by rw [HLd.out]; exact hM)⟩; have HMl := Lib.hid hM.lt; clear hM hb)
  clear H00
  generalize w1.heap.size = B at H0 HMl
  go_loopw [7, 8] (fun u i wr => ∃ k : Nat, k ≤ 21 ∧ i = .int .i64 (k : Int) ∧ RowKit.Hid (GotR w B base g v b (N k) u k V wr ∧ RefMod wr w.heap.size mg mr L true)) (fun _ i _ => 21 - (intOf i).toNat)
  case atStart => exact ⟨0, by omega, rfl, H0.out⟩
  case round =>
    obtain ⟨k, hk2, rfl, H⟩ := hrel
    clear H0
    by_cases hlt : k < 21
    · obtain ⟨g1, g2⟩ := HG.out k
      have HG1 := Lib.hid g1
      obtain ⟨n0, n1⟩ := HBd.out k
      obtain ⟨s1, s2⟩ := HS.out k
      have HS1 := Lib.hid s1
      obtain ⟨y0, y1⟩ := HR2.out k hlt
      have HT := Lib.hid (tabE_snoc V k (V k) rfl)
      have HJ : RowKit.Hid (IntsAt wr w.heap.size .i64 a2 21 ds) := HI2.out.keeps H.out.1.k (Nat.le_refl _) fun r off e _ _ c => HN2.out r off e c
      obtain ⟨b2, off2, rfl, hb2l, _, hcell⟩ := HJ.out.at_ hlt
      have hnr : b2 ≠ g := HN2.out _ _ rfl
      have hws := H.out.1.k.size
      obtain ⟨s, hs⟩ : ∃ s, s = decWhich (N k) L := ⟨_, rfl⟩
      have hs32 : s < 32 := by rw [hs, ← HLn.out]; exact (decWhich_is g1 HL.out).1
      rw [← hs] at s2
      have HSs := Lib.hid hs
      have HS3 := Lib.hid s2
      have HD : RowKit.Hid (mg ≠ g ∧ mr ≠ g ∧ (∀ j, v.ownBlock = some j → j ≠ mg ∧ j ≠ mr) ∧ b2 ≠ mr) := by
        have := HMl.out; have := H.out.1.gs
        exact ⟨by omega, by omega, fun j hj => by have := this.2 j hj; omega, by omega⟩
      have hik : RowKit.Hid ((N k).i ≤ 5000000) := by show _ ≤ _; omega
      have HMB : RowKit.Hid (w.heap.size ≤ mr ∧ mr < B) := ⟨HMl.out.2.2.2, HMl.out.2.1⟩
      clear g1 s1 s2 hs
      have HCl : RowKit.Hid (∀ w2, Keeps (fun j => j = g ∨ j = mr) wr w2 → w2.cell? ⟨b2, off2 + k, none⟩ = some (.int .i64 (ds.getD k 0))) := fun w2 hk => by
        exact (World.cell?_of_block (a := ⟨b2, off2 + k, none⟩) (hk.block b2 (by omega) (by have := HD.out.2.2.2; omega))).trans hcell
      have hCw : RowKit.Hid (∀ w2, Keeps (fun j => j = g) w w2 → w2.cell? ⟨b2, off2 + k, none⟩ = some (.int .i64 (ds.getD k 0))) := fun w2 hk => by
        obtain ⟨b3, off3, e, _, _, h⟩ := (HI2.out.keeps hk (Nat.le_refl _) fun r off e _ _ c => HN2.out r off e c).at_ hlt
        injection e with e
        injection e with e1 e2
        subst e1; subst e2
        exact h
      generalize ds.getD k 0 = y at y0 y1 HS3 HCl hcell hCw
      generalize V k = x at n0 n1 HS3 HT
      have u1 : IntKind.i64.wrap (y + s) = y + s := IntWalk.i64_in _ (by omega)
      have u2 : (y + (s : Int)).tmod 32 = x := by rw [Int.tmod_eq_emod_of_nonneg (by omega)]; exact HS3.out.symm
      obtain ⟨i0, hi0, hzz, hz1, hz2⟩ := info_parts infoE_int
      go_wp2
      have H1 : RowKit.Hid (GotR w B base g v b (N k) u7 k V wr.drew ∧ RefMod wr.drew w.heap.size mg mr L true) := ⟨H.out.1.drewN 1, H.out.2.drewN 1⟩
      have HCw : RowKit.Hid (∀ w2, Keeps (fun j => j = g) w w2 → w2.cell? ⟨b2, off2 + k, none⟩ = some (.int .i64 y)) := hCw
      have HCd : RowKit.Hid (∀ w2, Keeps (fun j => j = g ∨ j = mr) wr.drew w2 → w2.cell? ⟨b2, off2 + k, none⟩ = some (.int .i64 y)) := fun w2 hk => HCl.out w2 (((Keeps.refl _ wr).drewN 1).trans hk)
      go_region_held3 (fun w' => w'.cell? ⟨b2, off2 + k, none⟩ = some (.int .i64 y)) (go_keep) (first
        | (go_at_call 39; go_loud (refine (refDecSymbol_fixed base w.heap.size g v b (N k) mg mr L wr.drew H1.out.1.d HBy.out hbl hik.out H1.out.2 HG1.out HL.out HD.out.1 HD.out.2.1 HD.out.2.2.1).mono ?_); rintro e2 w2 ⟨rfl, k1, km, k2⟩; rw [← HSs.out]; rw [← HS1.out] at k1; have m0 := HCd.out w2 k2; have HK2 : Keeps (fun j => j = g ∨ j = mr) wr.drew w2 := k2; have HA0 := Lib.hid (H1.out.1.decM k1 HK2 HMB.out); have HAM := Lib.hid (km.below (Below.alloc_new w2 (.cells #[.int .i64 x] 3))); have HA := Lib.hid (HA0.out.alloc (.cells #[.int .i64 x] 3)); have hB2 := HA.out.B.2; clear k1 k2 km HK2)
        | (refine step_append_lies _ (by rfl) _ _ _ (by rfl) B 3 i0 (.int .i64 0) 1 8 Try.underlying23 hi0 hzz hz1 hz2 rfl (by decide) u7 k _ (by rfl) HA.out.i ⟨w2.heap.size, 0, none⟩ 1 1 [.int .i64 x] (by rfl) (by rfl) (World.news_of_block (cs := #[.int .i64 x]) (t := 3) (fr := (0, 0)) (heap_alloc_new w2 _)) (by simp [Value.oneCell']) (by omega) (by unfold maxLen; omega) (by omega) hB2 (w2.heap.size + 1) (by simp) ?_; intro gg cp w5 hown hgrow hat hlt2; have hown' : w5.ownsRow B 3 1 (.slice (some ⟨gg, 0, none⟩) (k + 1) cp) (k + 1) ((tabF (k + 1) V).map (Value.int .i64)) := (by rw [← HT.out, List.map_append]; exact hown); have HV : RowKit.Hid (GotR w B base g v b (N (k + 1)) (.slice (some ⟨gg, 0, none⟩) (k + 1) cp) (k + 1) V w5 ∧ RefMod w5 w.heap.size mg mr L true) := ⟨HA.out.app hown' hgrow, HAM.out.keeps (Keeps.of_grown (F := fun j => u7.ownBlock = some j) hgrow fun _ h => h) (fun c => by have := own_base HA.out.i mg c; have := HMl.out; omega) (fun c => by have := own_base HA.out.i mr c; have := HMl.out; omega)⟩; have m5 := HCw.out w5 HV.out.1.k; clear hown hgrow hat hlt2 hown')
        | fail)
      clear HA HAM hB2 m0 m5 H1 HCd HCw HCl
      go_wp2
      go_roundw
      case rel => exact ⟨k + 1, by omega, by go_num, HV.out⟩
      case measure => simp [intOf] <;> omega
    · obtain rfl : k = 21 := by omega
      obtain ⟨a, c, rfl, hI, hD, hK⟩ := H.out.1.post
      have HI := Lib.hid hI
      have HD := Lib.hid hD
      have HK := Lib.hid hK
      clear hI hD hK
      go_wp2_with (go_at_call 12; go_loud (refine (ref10Right_any _ _ _ _ _ HI.out (by decide)).mono ?_); rintro e1 w1 ⟨rfl, rfl⟩)
      go_ret2
      exact ⟨a, c, rfl, HI.out, HD.out, HK.out⟩
theorem ref10Get_any (base g : Nat) (v : Value) (b : List Int) (D : DecS) (q : Bool) (a2 : Option Addr) (len2 cap2 : Nat) (ds : List Int) (w : World) (hD : DecMem w base g v b D) (hG : GoodD D) (hb : ∀ j, 0 ≤ byteF b j ∧ byteF b j ≤ 255) (hbl : b.length ≤ 1000000) (hi : D.i ≤ 3000000)
    (hA : AheadAt w q a2 len2 ds) (hne2 : q = false → ∀ r off, a2 = some ⟨r, off, none⟩ → r ≠ g) :
    Calls Try.prog 22 #[.pointer (some ⟨g, 0, none⟩), .slice a2 len2 cap2] w (GetPostR base g v b (getN q b D (fun j => ds.getD j 0) 21) (getV q b D (fun j => ds.getD j 0)) w) := by
  rcases hA with ⟨h1, _, ⟨rfl, rfl⟩ | ⟨rfl, hr2, rfl⟩⟩
  · exact ref10Get_alone base g v b D a2 cap2 _ w hD hG hb hbl hi
  · exact ref10Get_diffs base g v b D a2 cap2 ds w hD hG hb hbl hi h1 hr2 (hne2 rfl)
theorem ref10Put_any (base g r c : Nat) (e : EncS) (q : Bool) (a a2 : Option Addr) (len2 cap cap2 : Nat) (zs ds : List Int) (w : World) (hE : EncMem w base g r c (digL e.n (e.k + 4)) e.s e.k) (hG : GoodE e) (hk : e.k ≤ 700000)
    (hi : IntsAt w w.heap.size .i64 a 21 zs) (hr : rightB zs = true) (hne : ∀ b off, a = some ⟨b, off, none⟩ → b ≠ g ∧ b ≠ r)
    (hA : AheadAt w q a2 len2 ds) (hne2 : q = false → ∀ b off, a2 = some ⟨b, off, none⟩ → b ≠ g ∧ b ≠ r) :
    Calls Try.prog 17 #[.pointer (some ⟨g, 0, none⟩), .slice a 21 cap, .slice a2 len2 cap2] w (EncPost base g r (putN q e (fun j => zs.getD j 0) (fun j => ds.getD j 0) 21) w) := by
  rcases hA with ⟨h1, _, ⟨rfl, rfl⟩ | ⟨rfl, hr2, rfl⟩⟩
  · exact ref10Put_alone base g r c e a a2 21 cap cap2 zs _ w hE hG hk hi rfl hr hne
  · exact ref10Put_diffs base g r c e a a2 cap cap2 zs ds w hE hG hk hi hr hne h1 hr2 (hne2 rfl)
end Go.Proofs.Ytgnmnmjicjcffaa

/- What the smaller functions of layer 10's laws give. -/
namespace Go.Proofs.Ytgnmnmjicjcffaa
open Go.RowKit
set_option linter.unusedVariables false

theorem infoE_i32 : (Try.prog.info? 21).map (fun i => (i.zero, i.size, i.bytes)) = some (some (.int .i32 0), 1, 4) := by kernel_rfl
/-! ### One line of five -/
def fiveL (i : Nat) : Int := if i = 9 then -5 else 0
theorem five_2 : ceilF fiveL 2 = 3 := by decide +kernel
theorem five_0 : ceilF fiveL 0 = 0 := by decide +kernel
theorem five_ok : rightB (tabF 21 (ceilF fiveL)) = true := by decide +kernel
theorem IFun.ints {w : World} {g n : Nat} {t : TypeId} {k : IntKind} {f : Nat → Int} (h : IFun w g t k n f) (hn : n ≤ 9223372036854775807) : IntsAt w w.heap.size k (some ⟨g, 0, none⟩) n (tabF n f) :=
  ⟨tabF_len _ _, .inr ⟨g, 0, rfl, h.lt, hn, fun j hj => by rw [Nat.zero_add, h.cell hj, tabF_getD _ hj]⟩⟩
theorem set_new (w : World) (t : TypeId) (cs : Array Value) (i : Nat) (v : Value) : (w.alloc (.cells cs t)).setCell ⟨w.heap.size, i, none⟩ v = w.alloc (.cells (cs.setIfInBounds i v) t) := by
  simp [go_sem]
set_option maxRecDepth 100000 in
theorem lives10_any (w : World) : Calls Try.prog 7 #[] w fun e w' => e = .returned (.bool true) ∧ Below w.heap.size w w' := by
  have hmk : ∀ w : World, (Instr.makeSlice 22 (.int .i64 512) (.int .i64 512)).run Try.prog w = .ok (.slice (some ⟨w.heap.size, 0, none⟩) 512 512) (w.alloc (.cells (madeCells #[.int .i32 0] 512) 21)) :=
    fun w => make_zeros (P := Try.prog) Try.underlying22 infoE_i32 512 (by decide) (by decide) w
  obtain ⟨w2, hw2⟩ : ∃ w2, w2 = (w.alloc (.cells (madeCells #[.int .i32 0] 512) 21)) := ⟨_, rfl⟩
  have hz := IFun.zeros w 21 .i32 512
  have hb0 := Below.alloc_new w (.cells (madeCells #[.int .i32 0] 512) 21)
  rw [← hw2] at hz hb0
  have HC : RowKit.Hid (IFun (w2.setCell ⟨w.heap.size, 9, none⟩ (.int .i32 (-5))) w.heap.size 21 .i32 512 fiveL) := IFun.ext (hz.set (j := 9) (by decide) (-5)) fun j _ => rfl
  have HB0 : RowKit.Hid (Below w.heap.size w (w2.setCell ⟨w.heap.size, 9, none⟩ (.int .i32 (-5)))) := Below.setCell (p := ⟨w.heap.size, 9, none⟩) hb0 (Nat.le_refl _) _
  have o1 : w2.cell? ⟨w.heap.size, 9, none⟩ = some (.int .i32 0) := hz.cell (j := 9) (by decide)
  have f1 := hz.frozen 9
  have HF2 := Lib.hid five_2
  have HF0 := Lib.hid five_0
  have HOk := Lib.hid five_ok
  have HFb : RowKit.Hid (∀ i, i < 512 → -2147483648 ≤ fiveL i ∧ fiveL i ≤ 2147483647) := fun i _ => by unfold fiveL; split <;> decide
  have hE : w2.setCell ⟨w.heap.size, 9, none⟩ (.int .i32 (-5)) = w.alloc (.cells ((madeCells #[.int .i32 0] 512).setIfInBounds 9 (.int .i32 (-5))) 21) := by rw [hw2]; exact set_new w _ _ _ _
  rw [hE] at HC HB0
  rw [hw2] at o1 f1
  clear hz hb0 hE hw2 w2
  generalize madeCells #[Value.int .i32 0] 512 = mc at hmk HC HB0 o1 f1
  go_enter Try.func7, Try.ntmps7
  go_wp2_with (first
    | (go_at_call 8; go_loud (refine (engCeil_any w.heap.size 0 512 fiveL _ HC.out.lt (fun i hi => by rw [Nat.zero_add]; exact HC.out.cell hi) HFb.out (by decide) (by decide)).mono ?_); rintro e w4 ⟨g, rfl, hi, hg, hb⟩; have HB4 := Lib.hid (HB0.out.trans (hb.mono HB0.out.size)); have HI4 := Lib.hid (hi.ints (by decide)); have c2 := hi.cell (j := 2) (by decide); have c0 := hi.cell (j := 0) (by decide); rw [HF2.out] at c2; rw [HF0.out] at c0; clear hi hg hb)
    | (go_at_call 11; go_loud (refine (engRight_any _ _ _ _ _ HI4.out (by decide)).mono ?_); rintro e1 w5 ⟨rfl, rfl⟩; rw [HOk.out]))
  go_ret
  exact ⟨rfl, HB4.out⟩

/-! ### Right ceilings of any numbers -/
def cutF (zs : List Int) (len i : Nat) : Int := if len = 0 then 0 else zs.getD (i % len) 0 % 27
theorem cutF_bd (zs : List Int) (len i : Nat) : 0 ≤ cutF zs len i ∧ cutF zs len i ≤ 26 := by
  unfold cutF; split
  · decide
  · omega
theorem cutF_right (zs : List Int) (len : Nat) : rightB (tabF 21 (cutF zs len)) = true := rightB_of (tabF_len _ _) fun j hj => by rw [tabF_getD _ hj]; exact cutF_bd zs len j
def RowE (n : Nat) (k : IntKind) (t : TypeId) (F : Nat → Int) (w : World) (e : Ending) (w' : World) : Prop :=
  ∃ g, e = .returned (.slice (some ⟨g, 0, none⟩) n n) ∧ IFun w' g t k n F ∧ w.heap.size ≤ g ∧ Below w.heap.size w w'
set_option maxRecDepth 100000 in
theorem cut10_any (a : Option Addr) (len cap : Nat) (zs : List Int) (w : World) (hl : IntsAt w w.heap.size .u8 a len zs) (hz : ∀ j, 0 ≤ zs.getD j 0 ∧ zs.getD j 0 ≤ 255) (hlen : len ≤ 1000) :
    Calls Try.prog 13 #[.slice a len cap] w (RowE 21 .i64 3 (cutF zs len) w) := by
  have HL := Lib.hid hl
  have HZ := Lib.hid hz
  have hmk : ∀ w : World, (Instr.makeSlice 23 (.int .i64 21) (.int .i64 21)).run Try.prog w = .ok (.slice (some ⟨w.heap.size, 0, none⟩) 21 21) (w.alloc (.cells (madeCells #[.int .i64 0] 21) 3)) :=
    fun w => make_zeros (P := Try.prog) Try.underlying23 infoE_int 21 (by decide) (by decide) w
  have H0 : RowKit.Hid (IFun (w.alloc (.cells (madeCells #[.int .i64 0] 21) 3)) w.heap.size 3 .i64 21 (preF (cutF zs len) 0) ∧ Below w.heap.size w (w.alloc (.cells (madeCells #[.int .i64 0] 21) 3))) :=
    ⟨IFun.ext (IFun.zeros w 3 .i64 21) fun j _ => (preF_zero (cutF zs len) j).symm, Below.alloc_new w _⟩
  clear hl hz
  generalize madeCells #[Value.int .i64 0] 21 = mc at H0 hmk
  go_enter Try.func13, Try.ntmps13
  go_wp2
  clear hmk
  generalize hg : w.heap.size = g at H0 ⊢
  generalize (w.alloc (.cells mc 3)) = w1 at H0 ⊢
  go_loopw [4, 8] (fun _ i wr => ∃ k : Nat, k ≤ 21 ∧ i = .int .i64 (k : Int) ∧ RowKit.Hid (IFun wr g 3 .i64 21 (preF (cutF zs len) k) ∧ Below g w wr)) (fun _ i _ => 21 - (intOf i).toNat)
  case atStart => exact ⟨0, by omega, rfl, H0.out⟩
  case round =>
    obtain ⟨k, hk, rfl, HI⟩ := hrel
    clear H0
    by_cases hlt : k < 21
    · have o1 := HI.out.1.cell (j := k) hlt
      have f1 := HI.out.1.frozen k
      have HS : RowKit.Hid (IFun (wr.setCell ⟨g, k, none⟩ (.int .i64 (cutF zs len k))) g 3 .i64 21 (preF (cutF zs len) (k + 1)) ∧ Below g w (wr.setCell ⟨g, k, none⟩ (.int .i64 (cutF zs len k)))) :=
        ⟨IFun.ext (HI.out.1.set (j := k) hlt (cutF zs len k)) fun j _ => preF_next _ k j, Below.setCell (p := ⟨g, k, none⟩) HI.out.2 (Nat.le_refl _) _⟩
      generalize preF (cutF zs len) k k = old at o1
      have l1 : (k : Int) < 21 := by omega
      by_cases hl0 : len = 0
      · have HN : RowKit.Hid (IFun wr g 3 .i64 21 (preF (cutF zs len) (k + 1)) ∧ Below g w wr) := ⟨IFun.ext HI.out.1 fun i hi => by
          unfold preF cutF
          rw [if_pos hl0]
          split <;> split <;> rfl, HI.out.2⟩
        have ll : ¬ 0 < (len : Int) := by omega
        clear HI HS hl0
        go_wp2
        go_roundw
        case rel => exact ⟨k + 1, by omega, by go_num, HN.out⟩
        case measure => simp [intOf] <;> omega
      · obtain ⟨m, hm⟩ : ∃ m, m = k % len := ⟨_, rfl⟩
        have hml : m < len := by rw [hm]; exact Nat.mod_lt _ (by omega)
        have f3 : (k : Int) % (len : Int) = (m : Int) := by rw [hm]; simp
        have f4 : (k : Int).tmod (len : Int) = (m : Int) := by rw [Int.tmod_eq_emod_of_nonneg (by omega)]; exact f3
        obtain ⟨b, off, rfl, hbl, _, hc⟩ := HL.out.at_ hml
        have k1 := (HI.out.2.cell (p := ⟨b, off + m, none⟩) (by rw [← hg]; exact hbl)).trans hc
        obtain ⟨y0, y1⟩ := HZ.out m
        have HE : zs.getD m 0 % 27 = cutF zs len k := by unfold cutF; rw [if_neg hl0, hm]
        generalize zs.getD m 0 = y at k1 HE y0 y1
        have f5 : y.tmod 27 = cutF zs len k := by rw [Int.tmod_eq_emod_of_nonneg y0]; exact HE
        have f6 : IntKind.i64.wrap y = y := IntWalk.i64_in _ (by omega)
        generalize cutF zs len k = x at HS f5
        clear HI hm hc HE
        have l2 : (m : Int) < (len : Int) := by omega
        have l3 : ¬ (len : Int) = 0 := by omega
        have l4 : 0 < (len : Int) := by omega
        clear hl0
        go_wp2
        go_roundw
        case rel => exact ⟨k + 1, by omega, by go_num, HS.out⟩
        case measure => simp [intOf] <;> omega
    · obtain rfl : k = 21 := by omega
      have Z : RowKit.Hid (IFun wr g 3 .i64 21 (cutF zs len) ∧ Below g w wr) := ⟨IFun.ext HI.out.1 fun i hi => preF_end _ hi, HI.out.2⟩
      go_wp2
      go_ret
      exact ⟨g, rfl, Z.out.1, by omega, by rw [hg]; exact Z.out.2⟩

/-! ### What the frames want -/
theorem wfE_i32 {zs : List Int} (h : ∀ n ∈ zs, (Lit.int .i32 n).wf = true) (j : Nat) : -2147483648 ≤ zs.getD j 0 ∧ zs.getD j 0 ≤ 2147483647 := by
  by_cases hj : j < zs.length
  · have := h (zs.getD j 0) (by simp [List.getD, hj])
    exact bounds_i32 this
  · rw [List.getD, List.getElem?_eq_none (by omega)]; decide
theorem wfE_u8 {zs : List Int} (h : ∀ n ∈ zs, (Lit.int .u8 n).wf = true) (j : Nat) : 0 ≤ zs.getD j 0 ∧ zs.getD j 0 ≤ 255 := by
  by_cases hj : j < zs.length
  · have := h (zs.getD j 0) (by simp [List.getD, hj])
    exact bounds_u8 this
  · rw [List.getD, List.getElem?_eq_none (by omega)]; decide
theorem capsE {w : World} {k : IntKind} {a : Option Addr} {len cap : Nat} {zs : List Int}
    (h : (a = none ∧ len = 0 ∧ cap = 0 ∧ zs = []) ∨ ∃ x, a = some x ∧ len ≤ cap ∧ cap ≤ maxLen ∧ zs.length = cap ∧ (∀ i, i < zs.length → w.cell? (x.add i) = some (.int k (zs.getD i 0))) ∧ ∀ n ∈ zs, (Lit.int k n).wf = true) : len ≤ cap ∧ cap ≤ 9223372036854775807 := by
  rcases h with ⟨rfl, rfl, rfl, rfl⟩ | ⟨x, rfl, hl, hm, _⟩
  · exact ⟨Nat.le_refl _, by decide⟩
  · unfold maxLen at hm; exact ⟨hl, by omega⟩
end Go.Proofs.Ytgnmnmjicjcffaa

/- The walk of EnergyArgs. -/
namespace Go.Proofs.Ytgnmnmjicjcffaa
open Go.RowKit
set_option linter.unusedVariables false

/-! ### An encoder that the law made -/
/-- What is held: all from before the encoder as it was, the encoder's state. -/
structure EncLaw (w3 wr : World) (v : Value) (E : EncS) : Prop where
  b : Below w3.heap.size w3 wr
  e : EncAt wr w3.heap.size w3.heap.size v E
  o : ∀ j, v.ownBlock = some j → w3.heap.size ≤ j
section
variable {w3 wr w' : World} {v : Value} {E E' : EncS} {a : Option Addr} {len : Nat} {zs : List Int} {r : Value} {x : Ending}
theorem EncLaw.start (h : EncAt wr w3.heap.size w3.heap.size (.slice none 0 0) E) (hb : Below w3.heap.size w3 wr) : EncLaw w3 wr (.slice none 0 0) E := ⟨hb, h, fun j hj => by simp [Value.ownBlock] at hj⟩
theorem EncLaw.below (h : EncLaw w3 wr v E) (hb : Below wr.heap.size wr w') : EncLaw w3 w' v E := ⟨h.b.trans (hb.mono h.b.size), h.e.below hb, h.o⟩
theorem EncLaw.put (h : EncLaw w3 wr v E) (hp : PutPost w3.heap.size w3.heap.size v E' r wr x w') : x = .returned r ∧ ∃ v', EncLaw w3 w' v' E' := by
  obtain ⟨e, v', h1, h2, h3⟩ := hp
  have hs := h.b.size
  refine ⟨e, v', h.b.trans (h2.below hs fun k hk => ?_), h1, fun j hj => ?_⟩
  · rcases hk with c | c
    · omega
    · exact h.o k c
  · rcases h3 j hj with c | c
    · exact h.o j c
    · omega
theorem EncLaw.ints (h : EncLaw w3 wr v E) (hi : IntsAt w3 w3.heap.size .i64 a len zs) : IntsAt wr wr.heap.size .i64 a len zs := hi.now h.b (Nat.le_refl _)
theorem EncLaw.ne (h : EncLaw w3 wr v E) (hi : IntsAt w3 w3.heap.size .i64 a len zs) (hl : 0 < len) : ∀ r off, a = some ⟨r, off, none⟩ → r ≠ w3.heap.size ∧ v.ownBlock ≠ some r := fun r off e => by
  obtain ⟨b', off', e', h1, _⟩ := hi.at_ hl
  rw [e] at e'
  injection e' with e'
  injection e' with e1
  exact ⟨by omega, fun c => by have := h.o r c; omega⟩
end
theorem none_ne {a : Option Addr} (h : a = none) {P : Nat → Nat → Prop} : ∀ r off, a = some ⟨r, off, none⟩ → P r off := fun r off e => by rw [h] at e; cases e
theorem ahead_none (w : World) : AheadAt w true none 0 [] := ⟨⟨rfl, .inl rfl⟩, by decide, .inl ⟨rfl, rfl⟩⟩
theorem ahead_zero (w : World) (a : Option Addr) : AheadAt w true a 0 [] := ⟨⟨rfl, .inl rfl⟩, by decide, .inl ⟨rfl, rfl⟩⟩
theorem ahead_right {w : World} {a : Option Addr} {zs : List Int} (h : IntsAt w w.heap.size .i64 a 21 zs) (hr : rightB zs = true) : AheadAt w false a 21 zs := ⟨h, by decide, .inr ⟨rfl, hr, rfl⟩⟩
theorem zero_right : rightB (tabF 21 fun _ => 0) = true := by decide
/-- What is got, as a code alone. -/
theorem engGet_code (base g : Nat) (v : Value) (b : List Int) (D : DecS) (q : Bool) (a2 : Option Addr) (len2 cap2 : Nat) (ds : List Int) (w : World) (hD : DrcAt w base g v b D) (hG : GoodD D) (hb : ∀ j, 0 ≤ byteF b j ∧ byteF b j ≤ 255) (hbl : b.length ≤ 1000000) (hi : D.i ≤ 3000000)
    (hA : AheadAt w q a2 len2 ds) (hne2 : q = false → ∀ r off, a2 = some ⟨r, off, none⟩ → r ≠ g) :
    Calls Try.prog 21 #[.pointer (some ⟨g, 0, none⟩), .slice a2 len2 cap2] w fun e w' => ∃ v' c, e = .returned (.tuple #[v', .int .i64 c]) ∧ (c == 1) = false ∧ Keeps (fun j => j = g) w w' := by
  refine (engGet_any base g v b D q a2 len2 cap2 ds w hD hG hb hbl hi hA hne2).mono ?_
  rintro e w' ⟨r, h, rfl⟩
  cases rightB (tabF 21 (getV q b D fun j => ds.getD j 0)) with
  | true => exact ⟨_, 0, rfl, by decide, h.k⟩
  | false => exact ⟨_, 3, rfl, by decide, h.k⟩
theorem energyArgs_many (a : Option Addr) (len cap : Nat) (w : World) (hm : len ≤ 9223372036854775807) (h : 60 < len) :
    Calls Try.prog 6 #[.slice a len cap] w fun e w' => e = .returned (.bool true) ∧ Below w.heap.size w w' := by
  have HB := Lib.hid (Below.refl w.heap.size w)
  have hd : decide ((60 : Int) < (len : Int)) = true := by simp; omega
  clear h
  go_enter Try.func6, Try.ntmps6
  go_wp2_with (go_at_call 7; go_loud (refine (lives10_any _).mono ?_); rintro e w1 ⟨rfl, hb⟩; replace HB := Lib.hid (chain HB.out hb); clear hb)
  go_ret
  exact ⟨rfl, HB.out⟩
/-- Any numbers put. -/
theorem argPut1 (W2 wr : World) (a : Option Addr) (len cap : Nat) (ns : List Int) (v : Value) (E : EncS) (hn : IntsAt W2 W2.heap.size .i64 a len ns) (hl : len ≤ 60) (h : EncLaw W2 wr v E) (hg : GoodE E) (hk : E.k ≤ 200) :
    Calls Try.prog 16 #[.pointer (some ⟨W2.heap.size, 0, none⟩), .slice a len cap, .slice none 0 0] wr fun e w' => e = .returned (.int .i64 (if rightB ns then 0 else 1)) ∧ ∃ v' E', EncLaw W2 w' v' E' ∧ GoodE E' ∧ E'.k ≤ E.k + 84 := by
  cases hr : rightB ns with
  | true =>
    obtain rfl : len = 21 := by rw [← hn.1]; exact (rightB_true hr).1
    refine (engPut_any _ _ v E true a none 0 cap 0 ns [] wr h.e hg (by omega) (h.ints hn) hr (h.ne hn (by decide)) (ahead_none wr) (fun c => by cases c)).mono ?_
    intro e w' hp
    obtain ⟨rfl, v', h'⟩ := h.put hp
    have := putN_good (q := true) (f := fun j => ns.getD j 0) (d := fun j => ([] : List Int).getD j 0) hg 21
    exact ⟨rfl, v', _, h', this.1, by omega⟩
  | false =>
    refine (engPut_no _ a none len 0 cap 0 ns [] wr (h.ints hn) (by omega) ⟨rfl, .inl rfl⟩ (by decide) (.inl hr)).mono ?_
    rintro e w' ⟨rfl, rfl⟩
    exact ⟨rfl, v, E, h, hg, by omega⟩
/-- Right ceilings put, any numbers ahead. -/
theorem argPut2 (W2 wr : World) (rb : Nat) (a : Option Addr) (len cap : Nat) (ns : List Int) (v : Value) (E : EncS) (hz : IntsAt W2 W2.heap.size .i64 (some ⟨rb, 0, none⟩) 21 (tabF 21 fun _ => 0)) (hn : IntsAt W2 W2.heap.size .i64 a len ns) (hl : len ≤ 60) (h : EncLaw W2 wr v E) (hg : GoodE E) (hk : E.k ≤ 200) :
    Calls Try.prog 16 #[.pointer (some ⟨W2.heap.size, 0, none⟩), .slice (some ⟨rb, 0, none⟩) 21 21, .slice a len cap] wr fun e w' => e = .returned (.int .i64 (if decide (len = 0) || rightB ns then 0 else 1)) ∧ ∃ v' E', EncLaw W2 w' v' E' ∧ GoodE E' ∧ E'.k ≤ E.k + 84 := by
  cases hr : rightB ns with
  | true =>
    obtain rfl : len = 21 := by rw [← hn.1]; exact (rightB_true hr).1
    refine (engPut_any _ _ v E false (some ⟨rb, 0, none⟩) a 21 21 cap _ ns wr h.e hg (by omega) (h.ints hz) zero_right (h.ne hz (by decide)) (ahead_right (h.ints hn) hr) (fun _ => h.ne hn (by decide))).mono ?_
    intro e w' hp
    obtain ⟨rfl, v', h'⟩ := h.put hp
    have := putN_good (q := false) (f := fun j => (tabF 21 fun _ => 0).getD j 0) (d := fun j => ns.getD j 0) hg 21
    exact ⟨rfl, v', _, h', this.1, by omega⟩
  | false =>
    by_cases h0 : len = 0
    · subst h0
      refine (engPut_any _ _ v E true (some ⟨rb, 0, none⟩) a 0 21 cap _ [] wr h.e hg (by omega) (h.ints hz) zero_right (h.ne hz (by decide)) (ahead_zero wr a) (fun c => by cases c)).mono ?_
      intro e w' hp
      obtain ⟨rfl, v', h'⟩ := h.put hp
      have := putN_good (q := true) (f := fun j => (tabF 21 fun _ => 0).getD j 0) (d := fun j => ([] : List Int).getD j 0) hg 21
      exact ⟨rfl, v', _, h', this.1, by omega⟩
    · refine (engPut_no _ (some ⟨rb, 0, none⟩) a 21 len 21 cap _ ns wr (h.ints hz) (by decide) (h.ints hn) (by omega) (.inr (by rw [hr]; simp [h0]))).mono ?_
      rintro e w' ⟨rfl, rfl⟩
      exact ⟨by simp [h0], v, E, h, hg, by omega⟩
theorem argGet (W2 wr : World) (base g : Nat) (v : Value) (a : Option Addr) (len cap : Nat) (ns : List Int) (hn : IntsAt W2 W2.heap.size .i64 a len ns) (hl : len ≤ 60) (h : DrcAt wr base g v [] (decNew (byteF []))) (hb : Below W2.heap.size W2 wr) (hgs : W2.heap.size ≤ g) :
    Calls Try.prog 21 #[.pointer (some ⟨g, 0, none⟩), .slice a len cap] wr fun e w' => ∃ v' c, e = .returned (.tuple #[v', .int .i64 c]) ∧ (c == 1) = (!(decide (len = 0) || rightB ns)) ∧ Below W2.heap.size W2 w' := by
  have hnw : IntsAt wr wr.heap.size .i64 a len ns := hn.now hb (Nat.le_refl _)
  have hbk : ∀ w', Keeps (fun j => j = g) wr w' → Below W2.heap.size W2 w' := fun w' hk => hb.trans (hk.below hb.size fun k hk => by omega)
  cases hr : rightB ns with
  | true =>
    obtain rfl : len = 21 := by rw [← hn.1]; exact (rightB_true hr).1
    refine (engGet_code base g v [] _ false a 21 cap ns wr h (goodD_new isDig_nil) (byteF_bd isDig_nil) (by decide) (by decide) (ahead_right hnw hr) fun _ r off e => ?_).mono ?_
    · obtain ⟨b', off', e', h1, _⟩ := hn.at_ (j := 0) (by decide)
      rw [e] at e'; injection e' with e'; injection e' with e1; omega
    · rintro e w' ⟨v', c, rfl, hc, hk⟩
      exact ⟨v', c, rfl, by rw [hc]; rfl, hbk w' hk⟩
  | false =>
    by_cases h0 : len = 0
    · subst h0
      refine (engGet_code base g v [] _ true a 0 cap [] wr h (goodD_new isDig_nil) (byteF_bd isDig_nil) (by decide) (by decide) (ahead_zero wr a) (fun c => by cases c)).mono ?_
      rintro e w' ⟨v', c, rfl, hc, hk⟩
      exact ⟨v', c, rfl, by rw [hc]; rfl, hbk w' hk⟩
    · refine (engGet_no g a len cap ns wr hnw (by omega) (by rw [hr]; simp [h0])).mono ?_
      rintro e w' ⟨rfl, rfl⟩
      exact ⟨_, 1, rfl, by simp [h0], hb⟩

set_option maxHeartbeats 1000000 in
set_option maxRecDepth 100000 in
theorem energyArgs_law (a : Option Addr) (len cap : Nat) (ns : List Int) (w : World) (hn : IntsAt w w.heap.size .i64 a len ns) (hl : len ≤ 60) :
    Calls Try.prog 6 #[.slice a len cap] w fun e w' => e = .returned (.bool true) ∧ Below w.heap.size w w' := by
  have HB := Lib.hid (Below.refl w.heap.size w)
  have HN := Lib.hid hn
  have hd : decide ((60 : Int) < (len : Int)) = false := by simp; omega
  have hmk : ∀ w : World, (Instr.makeSlice 23 (.int .i64 21) (.int .i64 21)).run Try.prog w = .ok (.slice (some ⟨w.heap.size, 0, none⟩) 21 21) (w.alloc (.cells (madeCells #[.int .i64 0] 21) 3)) :=
    fun w => make_zeros (P := Try.prog) Try.underlying23 infoE_int 21 (by decide) (by decide) w
  have HZ := Lib.hid (fun w => (IFun.zeros w 3 .i64 21).ints (by decide))
  obtain ⟨c1, c2, c3, R, hR, h1, h2, h3, hcs⟩ : ∃ (c1 c2 : Int) (c3 R : Bool), rightB ns = R ∧ (if rightB ns then (0 : Int) else 1) = c1 ∧ (if decide (len = 0) || rightB ns then (0 : Int) else 1) = c2 ∧ (!(decide (len = 0) || rightB ns)) = c3 ∧
      ((c1 = 0 ∧ c2 = 0 ∧ c3 = false ∧ R = true ∧ ((len : Int) == 0) = false ∧ decide ((0 : Int) < (len : Int)) = true) ∨ (c1 = 1 ∧ c2 = 0 ∧ c3 = false ∧ R = false ∧ ((len : Int) == 0) = true ∧ decide ((0 : Int) < (len : Int)) = false) ∨ (c1 = 1 ∧ c2 = 1 ∧ c3 = true ∧ R = false ∧ ((len : Int) == 0) = false ∧ decide ((0 : Int) < (len : Int)) = true)) := by
    refine ⟨_, _, _, _, rfl, rfl, rfl, rfl, ?_⟩
    cases hr : rightB ns with
    | true =>
      have : len = 21 := by rw [← hn.1]; exact (rightB_true hr).1
      left; simp [this]
    | false =>
      by_cases h0 : len = 0
      · right; left; simp [h0]
      · right; right; simp [h0]; omega
  have HR := Lib.hid hR
  have H1 := Lib.hid h1
  have H2 := Lib.hid h2
  have H3 := Lib.hid h3
  clear hn hR h1 h2 h3
  generalize madeCells #[Value.int .i64 0] 21 = mc at HZ hmk
  rcases hcs with ⟨rfl, rfl, rfl, rfl, q1, q2⟩ | ⟨rfl, rfl, rfl, rfl, q1, q2⟩ | ⟨rfl, rfl, rfl, rfl, q1, q2⟩
  all_goals
    go_enter Try.func6, Try.ntmps6
    go_wp2_with (first
      | (go_at_call 7; go_loud (refine (lives10_any _).mono ?_); rintro e w1 ⟨rfl, hb⟩; replace HB := Lib.hid (chain HB.out hb); clear hb; have HN1 := Lib.hid (HN.out.now HB.out (Nat.le_refl _)))
      | (go_at_call 12; go_loud (refine (ref10Right_any _ _ _ _ w1 HN1.out (by omega)).mono ?_); rintro e w1' ⟨rfl, rfl⟩; rw [HR.out])
      | (go_at_call 14; go_loud (refine (rncNew_any _).mono ?_); rintro e w3 ⟨rfl, he, hb⟩; have hz := HZ.out w1; have hn2 := HN1.out.now (Below.alloc_new w1 (.cells mc 3)) (Nat.le_refl _); have hb2 := HB.out.alloc HB.out.size (.cells mc 3); generalize w1.alloc (.cells mc 3) = W2 at he hb hz hn2 hb2 ⊢; have HZ2 := Lib.hid hz; have HN2 := Lib.hid hn2; have HB2 := Lib.hid hb2; have HS3 := Lib.hid (EncLaw.start he hb); clear he hb hz hn2 hb2 HN1 HB)
      | (go_at_call 16; have hs := HS4.out; go_loud (refine (argPut2 W2 w4 w1.heap.size a len cap ns v4 E4 HZ2.out HN2.out hl HS4.out.1 HS4.out.2.1 HS4.out.2.2).mono ?_); rintro e w5 ⟨rfl, v5, E5, h5, _, _⟩; rw [H2.out]; have HS5 := Lib.hid h5; clear h5 HS4 hs)
      | (go_at_call 16; have hs := HS3.out; go_loud (refine (argPut1 W2 w3 a len cap ns _ encNew HN2.out hl HS3.out goodE_new (by decide)).mono ?_); rintro e w4 ⟨rfl, v4, E4, h4, h4g, h4k⟩; rw [H1.out]; have HS4 : RowKit.Hid (EncLaw W2 w4 v4 E4 ∧ GoodE E4 ∧ E4.k ≤ 200) := ⟨h4, h4g, by have : encNew.k = 0 := rfl; omega⟩; clear h4 h4g h4k HS3 hs)
      | (go_at_call 16; go_loud (refine (engPut_nil _ _ _ _ _ _ _).mono ?_); rintro e w9 ⟨rfl, rfl⟩)
      | (go_at_call 20; go_loud (refine (drcNew_any none 0 0 [] w5 ⟨rfl, .inl rfl⟩ (fun _ => rfl) (byteF_bd isDig_nil) (by decide)).mono ?_); rintro e w6 ⟨g6, v6, rfl, h6, b6⟩; have HS6 : RowKit.Hid (DrcAt w6 w5.heap.size g6 v6 [] (decNew (byteF [])) ∧ Below W2.heap.size W2 w6 ∧ W2.heap.size ≤ g6) := ⟨h6, HS5.out.b.trans (b6.mono HS5.out.b.size), Nat.le_trans HS5.out.b.size h6.lt.2⟩; clear h6 b6)
      | (go_at_call 21; have hs := HS6.out; go_loud (refine (argGet W2 w6 _ g6 v6 a len cap ns HN2.out hl hs.1 hs.2.1 hs.2.2).mono ?_); rintro e w7 ⟨v7, c7, rfl, hc7, b7⟩; rw [H3.out] at hc7; have HB7 := Lib.hid (HB2.out.trans (b7.mono HB2.out.size)); clear b7 HS6 hs)
      | (go_at_call 21; go_loud (refine (engGet_nil _ _ _ _).mono ?_); rintro e w8 ⟨rfl, rfl⟩)
      | fail)
    all_goals first
      | (go_ret; exact ⟨rfl, HB7.out⟩)
      | (exfalso; simp at q1 q2; omega)
end Go.Proofs.Ytgnmnmjicjcffaa

/- The walk of EnergyGets. -/
namespace Go.Proofs.Ytgnmnmjicjcffaa
open Go.RowKit
set_option linter.unusedVariables false

theorem energyGets_many (a a2 : Option Addr) (len cap len2 cap2 : Nat) (w : World) (hm : len ≤ 9223372036854775807) (hm2 : len2 ≤ 9223372036854775807) (h : 300 < len ∨ 60 < len2) :
    Calls Try.prog 5 #[.slice a len cap, .slice a2 len2 cap2] w fun e w' => e = .returned (.bool true) ∧ Below w.heap.size w w' := by
  have HB := Lib.hid (Below.refl w.heap.size w)
  by_cases hl : 300 < len
  · have hd : decide ((300 : Int) < (len : Int)) = true := by simp; omega
    clear h
    go_enter Try.func5, Try.ntmps5
    go_wp2_with (go_at_call 7; go_loud (refine (lives10_any _).mono ?_); rintro e w1 ⟨rfl, hb⟩; replace HB := Lib.hid (chain HB.out hb); clear hb)
    go_ret
    exact ⟨rfl, HB.out⟩
  · have hd : decide ((300 : Int) < (len : Int)) = false := by simp; omega
    have hd2 : decide ((60 : Int) < (len2 : Int)) = true := by simp; omega
    clear h
    go_enter Try.func5, Try.ntmps5
    go_wp2_with (go_at_call 7; go_loud (refine (lives10_any _).mono ?_); rintro e w1 ⟨rfl, hb⟩; replace HB := Lib.hid (chain HB.out hb); clear hb)
    go_ret
    exact ⟨rfl, HB.out⟩
theorem AheadAt.now {w w' : World} {len : Nat} {q : Bool} {a : Option Addr} {ds : List Int} (h : AheadAt w q a len ds) (hb : Below w.heap.size w w') : AheadAt w' q a len ds := ⟨h.1.now hb (Nat.le_refl _), h.2⟩
theorem AheadAt.lt {w : World} {len r off : Nat} {a : Option Addr} {ds : List Int} (h : AheadAt w false a len ds) (e : a = some ⟨r, off, none⟩) : r < w.heap.size := by
  obtain ⟨h1, _, ⟨h, _⟩ | ⟨_, _, rfl⟩⟩ := h
  · cases h
  · obtain ⟨b', off', e', h2, _⟩ := h1.at_ (j := 0) (by decide)
    rw [e] at e'; injection e' with e'; injection e' with e1; omega
set_option maxHeartbeats 1000000 in
set_option maxRecDepth 100000 in
theorem energyGets_law (a a2 : Option Addr) (len cap len2 cap2 : Nat) (bs zs : List Int) (w : World) (hb : IntsAt w w.heap.size .u8 a len bs) (hbd : IsDig bs) (hnone : a = none → cap = 0) (hz : IntsAt w w.heap.size .u8 a2 len2 zs) (hzb : ∀ j, 0 ≤ zs.getD j 0 ∧ zs.getD j 0 ≤ 255) (hl : len ≤ 300) (hl2 : len2 ≤ 60) :
    Calls Try.prog 5 #[.slice a len cap, .slice a2 len2 cap2] w fun e w' => e = .returned (.bool true) ∧ Below w.heap.size w w' := by
  have HB := Lib.hid (Below.refl w.heap.size w)
  have HX := Lib.hid hb
  have HZ := Lib.hid hz
  have HZb := Lib.hid hzb
  have HBd := Lib.hid (byteF_bd hbd)
  have HGd := Lib.hid (goodD_new hbd)
  have HNn := Lib.hid hnone
  have hd : decide ((300 : Int) < (len : Int)) = false := by simp; omega
  have hd2 : decide ((60 : Int) < (len2 : Int)) = false := by simp; omega
  have hbl : bs.length ≤ 1000000 := by have := hb.1; omega
  clear hb hz hzb hbd hnone
  go_enter Try.func5, Try.ntmps5
  go_wp2_with (first
    | (go_at_call 7; go_loud (refine (lives10_any _).mono ?_); rintro e w1 ⟨rfl, hb⟩; replace HB := Lib.hid (chain HB.out hb); clear hb)
    | (go_at_call 13; go_loud (refine (cut10_any a2 len2 cap2 zs w1 (HZ.out.now HB.out (Nat.le_refl _)) HZb.out (by omega)).mono ?_); rintro e w2 ⟨ca, rfl, hi, hg, hb2⟩; have HB2 := Lib.hid (chain HB.out hb2); have HC2 := Lib.hid (hi.ints (by decide)); clear hi hg hb2 HB)
    | fail)
  have hb4 := Below.alloc_new w2 (.cells #[.slice none 0 0, .slice (some ⟨ca, 0, none⟩) 21 21] 23)
  have hcel := Cel.new w2 23 #[.slice none 0 0, .slice (some ⟨ca, 0, none⟩) 21 21]
  generalize w2.alloc (.cells #[.slice none 0 0, .slice (some ⟨ca, 0, none⟩) 21 21] 23) = W at hb4 hcel ⊢
  generalize w2.heap.size = lb at hcel ⊢
  have HC0 : RowKit.Hid (W.cell? ⟨lb, 0, none⟩ = some (.slice none 0 0)) := hcel.cell 0
  have HC1 : RowKit.Hid (W.cell? ⟨lb, 1, none⟩ = some (.slice (some ⟨ca, 0, none⟩) 21 21)) := hcel.cell 1
  have hlb : lb < W.heap.size := hcel.lt
  have HA1 : RowKit.Hid (AheadAt W false (some ⟨ca, 0, none⟩) 21 (tabF 21 (cutF zs len2))) := ahead_right (HC2.out.now hb4 (Nat.le_refl _)) (cutF_right zs len2)
  have HBW : RowKit.Hid (Below w.heap.size w W) := HB2.out.trans (hb4.mono HB2.out.size)
  have HXW : RowKit.Hid (IntsAt W W.heap.size .u8 a len bs) := HX.out.now HBW.out (Nat.le_refl _)
  clear hb4 hcel HB2 HC2 HX HZ HZb hd hd2
  go_loopw [7, 8, 9, 10, 11, 30] (fun _ _ _ _ _ i wr => ∃ k : Nat, k ≤ 2 ∧ i = .int .i64 (k : Int) ∧ RowKit.Hid (Below W.heap.size W wr)) (fun _ _ _ _ _ i _ => 2 - (intOf i).toNat)
  case atStart => exact ⟨0, by omega, rfl, Below.refl _ _⟩
  case round =>
    obtain ⟨k, hk, rfl, HK⟩ := hrel
    by_cases hlt : k < 2
    · obtain ⟨q, al, ln, ac, ds, hcell, hA⟩ : ∃ (q : Bool) (al : Option Addr) (ln ac : Nat) (ds : List Int), wr.cell? ⟨lb, k, none⟩ = some (.slice al ln ac) ∧ AheadAt W q al ln ds := by
        by_cases h0 : k = 0
        · subst h0
          exact ⟨true, none, 0, 0, [], (HK.out.cell (p := ⟨lb, 0, none⟩) hlb).trans HC0.out, ahead_none W⟩
        · obtain rfl : k = 1 := by omega
          exact ⟨false, some ⟨ca, 0, none⟩, 21, 21, _, (HK.out.cell (p := ⟨lb, 1, none⟩) hlb).trans HC1.out, HA1.out⟩
      have HA := Lib.hid hA
      obtain ⟨V, hV⟩ : ∃ V, V = getV q bs (decNew (byteF bs)) (fun j => ds.getD j 0) := ⟨_, rfl⟩
      obtain ⟨D, hD⟩ : ∃ D, D = getN q bs (decNew (byteF bs)) (fun j => ds.getD j 0) 21 := ⟨_, rfl⟩
      have hi4 : (decNew (byteF bs)).i ≤ 3000000 := by show 4 ≤ 3000000; decide
      have HG1 : RowKit.Hid (∀ (w5 : World) (base g : Nat) (v : Value), DrcAt w5 base g v bs (decNew (byteF bs)) → Below W.heap.size W w5 → W.heap.size ≤ g → Calls Try.prog 21 #[.pointer (some ⟨g, 0, none⟩), .slice al ln ac] w5 (GetPost base g v bs D V w5)) := fun w5 base g v h hb hg => by
        rw [hV, hD]
        exact engGet_any base g v bs _ q al ln ac ds w5 h HGd.out HBd.out hbl hi4 (hA.now hb) fun e r off e' => by subst e; have := hA.lt e'; omega
      have HG2 : RowKit.Hid (∀ (w5 : World) (base g : Nat) (v : Value), DecMem w5 base g v bs (decNew (byteF bs)) → Below W.heap.size W w5 → W.heap.size ≤ g → Calls Try.prog 22 #[.pointer (some ⟨g, 0, none⟩), .slice al ln ac] w5 (GetPostR base g v bs D V w5)) := fun w5 base g v h hb hg => by
        rw [hV, hD]
        exact ref10Get_any base g v bs _ q al ln ac ds w5 h HGd.out HBd.out hbl hi4 (hA.now hb) fun e r off e' => by subst e; have := hA.lt e'; omega
      clear hV hD hA hi4 HA
      have HKs := Lib.hid HK.out.size
      have l1 : (k : Int) < 2 := by omega
      obtain ⟨G, hG⟩ : ∃ G, rightB (tabF 21 V) = G := ⟨_, rfl⟩
      have HGv := Lib.hid hG
      clear hG
      cases G
      all_goals
        go_wp2_with (first
          | (go_at_call 20; go_loud (refine (drcNew_any a len cap bs wr (HXW.out.now HK.out (Nat.le_refl _)) HNn.out HBd.out (by omega)).mono ?_); rintro e w5 ⟨g5, v5, rfl, h5, b5⟩; have HS5 : RowKit.Hid (DrcAt w5 wr.heap.size g5 v5 bs (decNew (byteF bs)) ∧ Below W.heap.size W w5 ∧ W.heap.size ≤ g5) := ⟨h5, HK.out.trans (b5.mono HKs.out), Nat.le_trans HKs.out h5.lt.2⟩; clear h5 b5)
          | (go_at_call 21; go_loud (refine (HG1.out w5 _ g5 v5 HS5.out.1 HS5.out.2.1 HS5.out.2.2).mono ?_); rintro e w6 ⟨r6, h6, rfl⟩; rw [HGv.out]; have HS6 : RowKit.Hid (Below W.heap.size W w6 ∧ IFun w6 r6 3 .i64 21 V) := ⟨HS5.out.2.1.trans (h6.k.below HS5.out.2.1.size fun k hk => (by have := HS5.out.2.2; omega)), h6.i⟩; clear h6 HS5)
          | (go_at_call 23; go_loud (refine (refOpen_any a len cap bs w6 (HXW.out.now HS6.out.1 (Nat.le_refl _)) HNn.out HBd.out (by omega)).mono ?_); rintro e w7 ⟨g7, v7, rfl, h7, b7⟩; have HS7 : RowKit.Hid (DecMem w7 w6.heap.size g7 v7 bs (decNew (byteF bs)) ∧ Below W.heap.size W w7 ∧ W.heap.size ≤ g7 ∧ IFun w7 r6 3 .i64 21 V ∧ r6 ≠ g7) := ⟨h7, HS6.out.1.trans (b7.mono HS6.out.1.size), Nat.le_trans HS6.out.1.size h7.2.2, HS6.out.2.below b7 HS6.out.2.lt, (by have := HS6.out.2.lt; have := h7.2.2; omega)⟩; clear h7 b7 HS6)
          | (go_at_call 22; go_loud (refine (HG2.out w7 _ g7 v7 HS7.out.1 HS7.out.2.1 HS7.out.2.2.1).mono ?_); rintro e w8 ⟨a8, c8, rfl, i8, h8, k8⟩; rw [HGv.out]; have HS8 : RowKit.Hid (Below W.heap.size W w8 ∧ IntsAt w8 w8.heap.size .i64 (some ⟨r6, 0, none⟩) 21 (tabF 21 V) ∧ IntsAt w8 w8.heap.size .i64 a8 21 (tabF 21 V)) := ⟨HS7.out.2.1.trans (k8.below HS7.out.2.1.size fun k hk => (by have := HS7.out.2.2.1; omega)), (HS7.out.2.2.2.1.keeps k8 HS7.out.2.2.2.2).ints (by decide), i8⟩; clear i8 h8 k8 HS7)
          | (go_at_call 9; go_loud (refine (equal_same _ _ 21 21 c8 _ w8 HS8.out.2.1 HS8.out.2.2 (by decide)).mono ?_); rintro e w9 ⟨rfl, i9, hw9⟩; have HT : RowKit.Hid (Below W.heap.size W w9) := (by rw [hw9]; exact Below.drewN' HS8.out.1 i9); clear hw9)
          | fail)
        go_roundw
        case rel => exact ⟨k + 1, by omega, by go_num, by first | exact HT.out | exact HS8.out.1⟩
        case measure => simp [intOf] <;> omega
    · obtain rfl : k = 2 := by omega
      have HT : RowKit.Hid (Below w.heap.size w wr) := HBW.out.trans (HK.out.mono HBW.out.size)
      go_wp2
      go_ret
      exact ⟨rfl, HT.out⟩
end Go.Proofs.Ytgnmnmjicjcffaa

/- The bytes of an encoder: they lie in a row, also where there are none. -/
namespace Go.Proofs.Ytgnmnmjicjcffaa
open Go.RowKit
set_option linter.unusedVariables false

/-- Bytes that lie in a row. -/
def BytesPostS (b : List Int) (w : World) (x : Ending) (w' : World) : Prop := ∃ g c, x = .returned (.slice (some ⟨g, 0, none⟩) b.length c) ∧ IntsAt w' w'.heap.size .u8 (some ⟨g, 0, none⟩) b.length b ∧ Below w.heap.size w w'
set_option maxHeartbeats 1000000 in
set_option maxRecDepth 100000 in
theorem rncBytes_some (base g : Nat) (v : Value) (n : Int) (k : Nat) (less : Int) (w : World) (hE : EncR w base g v n k less) (hk : k ≤ 900000) :
    Calls Try.prog 18 #[.pointer (some ⟨g, 0, none⟩)] w (BytesPostS (bytesL (digL n (k + 4))) w) := by
  have HR := Lib.hid hE
  obtain ⟨D, last, h1, h2, h3, h4, h5, h6⟩ := hE
  obtain ⟨c0, c1, c2⟩ := h1.cells
  have ho := h1.2.1
  rw [h3] at ho
  obtain ⟨a, c, rfl⟩ := own_form ho
  have HD4 := Lib.hid (four_dig h2 h3 h4 h5 h6)
  have HI := Lib.hid (own_ints' ho)
  have HN := Lib.hid (own_none ho)
  have H1 := Lib.hid h1
  have hgl := h1.lt
  have hmk := make_empty (P := Try.prog) Try.underlying33 info_u806 ((k : Int) + 4) (k + 4) (by omega) (by omega) (by omega) w
  have hsz : (madeCells #[Value.int .u8 0] (k + 4)).size = (k + 4) * 1 := by rw [size_madeCells]; omega
  have HO0 := Lib.hid (World.ownsRow_made (base := w.heap.size) (e := 5) (size := 1) w (madeCells #[Value.int .u8 0] (k + 4)) (k + 4) (Nat.le_refl _) (by unfold maxLen; omega) hsz)
  have HB0 := Lib.hid (Below.alloc_new w (.cells (madeCells #[Value.int .u8 0] (k + 4)) 5))
  have hk1 : k ≤ 1000000 := by omega
  clear h1 h2 h3 h6 ho c2 hsz
  generalize madeCells #[Value.int .u8 0] (k + 4) = mc at hmk HO0 HB0
  go_enter Try.func18, Try.ntmps18
  go_wp2_with (first | (go_at_call 34; ((with_reducible refine (rncLen_any base g _ n k less _ HR.out hk1).mono ?_)); rintro e w' ⟨rfl, rfl⟩) | (at_builtin; go_loud (refine append_ints rfl _ _ 33 rfl w.heap.size 5 .u8 1 Try.underlying33 info_u806 _ 0 [] rfl HO0.out a k c w.heap.size D rfl (HI.out.below HB0.out) HN.out ?c1 ?c2 ?c3 ?_)))
  case c1 => unfold maxLen; omega
  case c2 => omega
  case c3 => simp
  intro v2 w2 hown hgrow _
  have hb2 := HB0.out.grown hgrow (by simp) (own_base HO0.out)
  obtain ⟨a2, cp2, rfl⟩ := own_form hown
  have c1' : w2.cell? ⟨g, 1, none⟩ = some (.int .u32 last) := (hb2.cell (p := ⟨g, 1, none⟩) hgl).trans c1
  have HO2 := Lib.hid hown
  have HB2 := Lib.hid hb2
  clear hown hgrow hb2 c0 c1 hmk
  obtain ⟨q0, hq0⟩ : ∃ q, q = last / 16777216 % 256 := ⟨_, rfl⟩
  obtain ⟨q1, hq1⟩ : ∃ q, q = last / 65536 % 256 := ⟨_, rfl⟩
  obtain ⟨q2, hq2⟩ : ∃ q, q = last / 256 % 256 := ⟨_, rfl⟩
  obtain ⟨q3, hq3⟩ : ∃ q, q = last % 256 := ⟨_, rfl⟩
  have HF : RowKit.Hid (four last = [q0, q1, q2, q3]) := by show _ = _; unfold four; rw [hq0, hq1, hq2, hq3]
  have e0 : IntKind.u8.wrap (last / 16777216) = q0 := by rw [hq0]; rfl
  have e1 : IntKind.u8.wrap (last / 65536) = q1 := by rw [hq1]; rfl
  have e2 : IntKind.u8.wrap (last / 256) = q2 := by rw [hq2]; rfl
  have e3 : IntKind.u8.wrap last = q3 := by rw [hq3]; rfl
  clear hq0 hq1 hq2 hq3
  have ag : some g ≠ (Value.slice a2 k cp2).ownBlock := fun e => by
    have := own_base HO2.out g e.symm
    omega
  obtain ⟨i0, hi, hzz, hz1, hz2⟩ := info_parts info_u806
  have hsz2 := HB2.out.size
  have HO4 := Lib.hid (World.ownsRow.alloc HO2.out (.cells #[.int .u8 q0, .int .u8 q1, .int .u8 q2, .int .u8 q3] 5))
  have HB4 := Lib.hid (HB2.out.alloc hsz2 (.cells #[.int .u8 q0, .int .u8 q1, .int .u8 q2, .int .u8 q3] 5))
  go_wp2
  go_region_held3 (fun w' => w'.cell? ⟨g, 1, none⟩ = some (.int .u32 last))
    (first | go_keep | (rw [hgrow.cell_far _ (by simp; omega) ag]; assumption))
    ((refine step_append_lies _ (by rfl) _ _ _ (by rfl) w.heap.size 5 i0 (.int .u8 0) 1 1 Try.underlying33 hi hzz hz1 hz2 rfl (by decide) (.slice a2 k cp2) k _ (by rfl) HO4.out.drew ⟨w2.heap.size, 0, none⟩ 4 4 [.int .u8 q0, .int .u8 q1, .int .u8 q2, .int .u8 q3] (by rfl) (by rfl) (World.news_of_block (cs := #[.int .u8 q0, .int .u8 q1, .int .u8 q2, .int .u8 q3]) (t := 5) (fr := (0, 0)) (heap_alloc_new w2 _)) (by simp [Value.oneCell']) (by omega) (by unfold maxLen; omega) (by omega) (by simp; omega) (w2.heap.size + 1) (by simp) ?_; intro gg cp w5 hown hgrow hat hlt2))
  have hown5 : w5.ownsRow w.heap.size 5 1 (.slice (some ⟨gg, 0, none⟩) (k + 4) cp) (k + 4) ((digL n (k + 4)).map (Value.int .u8)) := by
    rw [← HD4.out, HF.out]; simpa using hown
  have HB5 : RowKit.Hid (Below w.heap.size w w5) := (Below.drewN' HB4.out 1).grown hgrow (by simp; omega) (own_base HO4.out)
  have hcp : k + 4 ≤ cp ∧ cp ≤ 9223372036854775807 := by
    rcases hown5.2 with ⟨h, _⟩ | ⟨g', cap, cur, h, _, _, h2, h3, _⟩
    · injection h with h; cases h
    · unfold maxLen at h3; injection h with _ _ h; omega
  obtain ⟨hcp, hcpm⟩ := hcp
  have HO5 := Lib.hid hown5
  obtain ⟨L, hL⟩ : ∃ L, L = digL n (k + 4) := ⟨_, rfl⟩
  have HLd : RowKit.Hid (IsDig L ∧ L.length = k + 4) := by rw [hL]; exact ⟨digL_dig _ _, digL_len _ _⟩
  rw [← hL] at HO5
  have HLq : RowKit.Hid (digL n (k + 4) = L) := hL.symm
  clear hown hgrow hown5 hL HO4 HB4 HO2 HB2 HD4 HF hat hlt2 ag HO0 HB0 HI HN H1 HR
  go_wp2
  go_loopw [4] (fun i wr => ∃ j : Nat, j ≤ k + 4 ∧ i = .int .i64 j ∧ RowKit.Hid (lastK L j = lastK L (k + 4)) ∧ wr = w5) (fun i _ => (intOf i).toNat)
  case atStart => exact ⟨k + 4, by omega, by go_num, rfl, rfl⟩
  case round =>
    obtain ⟨j, hj, rfl, H, rfl⟩ := hrel
    by_cases hz : j = 0
    · have hm : lastK L (k + 4) = -1 := by rw [← H.out, hz]; rfl
      have HE : RowKit.Hid (bytesL L = []) := by
        show _ = _
        unfold bytesL; rw [HLd.out.2, hm]; rfl
      subst hz
      clear H hm
      go_wp2
      go_ret
      rw [HLq.out, HE.out]
      exact ⟨gg, cp, rfl, ⟨rfl, .inl rfl⟩, HB5.out⟩
    · obtain ⟨p, hp⟩ : ∃ p, j = p + 1 := ⟨j - 1, by omega⟩
      subst hp
      have hcell : wr.cell? ⟨gg, p, none⟩ = some (.int .u8 (L.getD p 0)) := by
        rw [HO5.out.cellAt p (by omega), List.getElem?_map, List.getElem?_eq_getElem (by rw [HLd.out.2]; omega)]
        simp [List.getD, show p < L.length by rw [HLd.out.2]; omega]
      have E : RowKit.Hid (lastK L (p + 1) = if L.getD p 0 = 0 then lastK L p else p) := rfl
      generalize L.getD p 0 = x at hcell E
      by_cases hx : x = 0
      · have hq : (x == 0) = true := by simpa using hx
        have E2 : RowKit.Hid (lastK L p = lastK L (k + 4)) := by
          show _ = _
          rw [← H.out, E.out, if_pos hx]
        clear hx
        go_wp2
        go_roundw
        case rel => exact ⟨p, by omega, rfl, E2.out, trivial⟩
        case measure => simp [intOf] <;> omega
      · have hq : (x == 0) = false := by simpa using hx
        have HE : RowKit.Hid (bytesL L = L.take (p + 1)) := by
          have hm : lastK L (k + 4) = p := by rw [← H.out, E.out, if_neg hx]
          show _ = _
          unfold bytesL
          rw [HLd.out.2, hm]
          congr 1
        have HI5 := Lib.hid (own_ints' HO5.out)
        clear hx
        go_wp2
        go_ret
        rw [HLq.out, HE.out]
        have e : (L.take (p + 1)).length = p + 1 := by rw [List.length_take, HLd.out.2]; omega
        refine ⟨gg, cp, by rw [e]; rfl, ?_, HB5.out⟩
        rw [e]
        exact HI5.out.take hj
end Go.Proofs.Ytgnmnmjicjcffaa
