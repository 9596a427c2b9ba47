/- What the document's Ceilings gives. -/
import Derived.Test.YtgnmnmjicjcffaaEngB
namespace Go.Proofs.Ytgnmnmjicjcffaa
open Go.RowKit
set_option linter.unusedVariables false

/-- What the document's making of ceilings leaves. -/
def CeilPostR (x : Nat → Int) (w : World) (e : Ending) (w' : World) : Prop :=
  ∃ g, e = .returned (.slice (some ⟨g, 0, none⟩) 21 21) ∧ IFun w' g 3 .i64 21 (ceilF x) ∧ w.heap.size ≤ g ∧ Below w.heap.size w w'
set_option maxHeartbeats 1000000 in
set_option maxRecDepth 100000 in
theorem ref10Ceil_any (b off cap : Nat) (x : Nat → Int) (w : World) (hb : b < w.heap.size) (h : ∀ i, i < 512 → w.cell? ⟨b, off + i, none⟩ = some (.int .i64 (x i))) (hx : ∀ i, i < 512 → -2147483648 ≤ x i ∧ x i ≤ 2147483647) :
    Calls Try.prog 10 #[.slice (some ⟨b, off, none⟩) 512 cap] w (CeilPostR x w) := by
  have HC := Lib.hid h
  have HX := Lib.hid hx
  clear h hx
  have hmk : ∀ w : World, (Instr.makeSlice 23 (.int .i64 21) (.int .i64 21)).run Try.prog w = .ok (.slice (some ⟨w.heap.size, 0, none⟩) 21 21) (w.alloc (.cells (madeCells #[.int .i64 0] 21) 3)) :=
    fun w => make_zeros (P := Try.prog) Try.underlying23 infoE_int 21 (by decide) (by decide) w
  go_enter Try.func10, Try.ntmps10
  go_wp2_with (go_at_call 26; go_loud (refine (ref04Edges_any _).mono ?_); rintro e w1 ⟨ea, ec, rfl, hi, hbl⟩; obtain ⟨eb, eo, rfl⟩ := ints_some hi (by decide); have HE1 := Lib.hid hi; have HB1 := Lib.hid hbl; clear hi hbl)
  obtain ⟨g, hg⟩ : ∃ g, g = w1.heap.size := ⟨_, rfl⟩
  obtain ⟨w2, hw2⟩ : ∃ w2, w2 = w1.alloc (.cells (madeCells #[.int .i64 0] 21) 3) := ⟨_, rfl⟩
  have hgs : w.heap.size ≤ g := by rw [hg]; exact HB1.out.size
  have hebg : eb < g := by rw [hg]; obtain ⟨_, _, e, h, _⟩ := HE1.out.at_ (j := 0) (by decide); injection e with e; injection e with e1; omega
  have HE : RowKit.Hid (∀ k, k < 22 → w2.cell? ⟨eb, eo + k, none⟩ = some (.int .i64 (edgeK k : Int))) := fun k hk => by
    rw [hw2]; exact edges_at (HE1.out.below (Below.alloc_new w1 _)) hk
  have HB2 : RowKit.Hid (Below w.heap.size w w2) := by rw [hw2]; exact HB1.out.alloc HB1.out.size _
  have H0 : RowKit.Hid (IFun w2 g 3 .i64 21 (preF (ceilF x) 0)) := by
    rw [hw2, hg]; exact IFun.ext (IFun.zeros w1 3 .i64 21) fun j _ => (preF_zero _ j).symm
  rw [← hw2, ← hg]
  clear hw2 hg HE1 HB1 hmk
  go_loopw [5] (fun i wr => ∃ k : Nat, k ≤ 21 ∧ i = .int .i64 (k : Int) ∧ RowKit.Hid (IFun wr g 3 .i64 21 (preF (ceilF x) k) ∧ Below g w2 wr)) (fun i _ => 21 - (intOf i).toNat)
  case atStart => exact ⟨0, by omega, rfl, H0.out, Below.refl _ _⟩
  case round =>
    obtain ⟨k, hk, rfl, H⟩ := hrel
    clear H0
    by_cases hlt : k < 21
    · have k1 := (H.out.2.cell (p := ⟨eb, eo + k, none⟩) hebg).trans (HE.out k (by omega))
      have K2 := Lib.hid (HE.out (k + 1) (by omega))
      obtain ⟨ed1, ed2⟩ := edgeK_lt k hlt
      obtain ⟨n, hn⟩ : ∃ n, n = edgeK (k + 1) - edgeK k := ⟨_, rfl⟩
      have HEnd : RowKit.Hid (∀ i, accF x k n i = preF (ceilF x) (k + 1) i) := fun i => accF_end x i hn
      have HN : RowKit.Hid (∀ m : Nat, accF x k m k = maxTo (bitF x) (edgeK k) m) := fun m => accF_here x k m
      have HM : RowKit.Hid (∀ m : Nat, maxTo (bitF x) (edgeK k) (m + 1) = max (maxTo (bitF x) (edgeK k) m) (bitsI (x (edgeK k + m)))) := fun m => rfl
      have HAN : RowKit.Hid (∀ (m i : Nat) (y : Int), y = maxTo (bitF x) (edgeK k) (m + 1) → (if i = k then y else accF x k m i) = accF x k (m + 1) i) := fun m i y h => accF_next x k m i h
      have HAS : RowKit.Hid (∀ (m i : Nat), maxTo (bitF x) (edgeK k) m = maxTo (bitF x) (edgeK k) (m + 1) → accF x k m i = accF x k (m + 1) i) := fun m i h => by
        rw [← accF_next x k m i rfl]; split
        · rename_i e; rw [e, accF_here, h]
        · rfl
      have HBd : RowKit.Hid (∀ m : Nat, m ≤ n → 0 ≤ maxTo (bitF x) (edgeK k) m ∧ maxTo (bitF x) (edgeK k) m ≤ 32) := fun m hm => maxTo_bd (by decide) m fun i hi => (bitF_bd HX.out (by omega)).2
      have hn0 : 0 < n := by omega
      have HCl : RowKit.Hid (∀ m, m < n → w2.cell? ⟨b, off + (edgeK k + m), none⟩ = some (.int .i64 (x (edgeK k + m)))) := fun m hm =>
        (HB2.out.cell (p := ⟨b, off + (edgeK k + m), none⟩) hb).trans (HC.out _ (by omega))
      have HXl : RowKit.Hid (∀ m, m < n → -2147483648 ≤ x (edgeK k + m) ∧ x (edgeK k + m) ≤ 2147483647) := fun m hm => HX.out _ (by omega)
      have hEn : edgeK (k + 1) = edgeK k + n := by omega
      rw [hEn] at K2 ed2
      clear hn hEn ed1
      generalize edgeK k = A at k1 K2 ed2 HN HM HAN HAS HBd HCl HXl
      have H1 : RowKit.Hid (IFun wr g 3 .i64 21 (accF x k 0) ∧ Below g w2 wr) := ⟨IFun.ext H.out.1 fun i _ => (accF_zero x k i).symm, H.out.2⟩
      have l0 : (k : Int) < 21 := by omega
      clear H
      go_wp2
      go_loopw [6] (fun i wx => ∃ m : Nat, m ≤ n ∧ i = .int .i64 ((A + m : Nat) : Int) ∧ RowKit.Hid (IFun wx g 3 .i64 21 (accF x k m) ∧ Below g w2 wx)) (fun i _ => A + n - (intOf i).toNat)
      case atStart => exact ⟨0, by omega, rfl, H1.out⟩
      case round =>
        obtain ⟨m, hm, rfl, G⟩ := hrel
        clear H1 k1
        have k2 := (G.out.2.cell (p := ⟨eb, eo + (k + 1), none⟩) hebg).trans K2.out
        obtain ⟨I, hI⟩ : ∃ I, I = A + m := ⟨_, rfl⟩
        obtain ⟨E, hE⟩ : ∃ E, E = A + n := ⟨_, rfl⟩
        rw [← hE] at k2
        rw [← hI]
        by_cases hmn : m < n
        · have c1 := (G.out.2.cell (p := ⟨b, off + (A + m), none⟩) (by show b < g; omega)).trans (HCl.out m hmn)
          obtain ⟨x0, x1⟩ := HXl.out m hmn
          have o1 := G.out.1.cell (j := k) hlt
          rw [HN.out m] at o1
          have f1 := G.out.1.frozen k
          obtain ⟨b0, b1⟩ := HBd.out m hm
          obtain ⟨y, hy⟩ : ∃ y, y = maxTo (bitF x) A (m + 1) := ⟨_, rfl⟩
          have HV : RowKit.Hid (∀ q, IFun ((wr.drewN q).setCell ⟨g, k, none⟩ (.int .i64 y)) g 3 .i64 21 (accF x k (m + 1)) ∧ Below g w2 ((wr.drewN q).setCell ⟨g, k, none⟩ (.int .i64 y))) := fun q =>
            ⟨IFun.ext ((G.out.1.drewN q).set (j := k) hlt y) fun i _ => HAN.out m i y hy, Below.setCell (p := ⟨g, k, none⟩) (Below.drewN' G.out.2 q) (Nat.le_refl _) _⟩
          have HV' : RowKit.Hid (maxTo (bitF x) A m = y → ∀ q, IFun (wr.drewN q) g 3 .i64 21 (accF x k (m + 1)) ∧ Below g w2 (wr.drewN q)) := fun e q =>
            ⟨IFun.ext (G.out.1.drewN q) fun i _ => HAS.out m i (e.trans hy), Below.drewN' G.out.2 q⟩
          have HY := Lib.hid (hy.trans (HM.out m))
          clear hy
          generalize maxTo (bitF x) A m = M at o1 b0 b1 HY HV'
          have hB := bitsI_le x0 (by omega)
          have HQ : RowKit.Hid (∀ i, Calls Try.prog 27 #[.int .i64 (x (A + m))] (wr.drewN i) fun e w' => e = .returned (.int .i64 (bitsI (x (A + m)))) ∧ w' = wr.drewN i) := fun i => (refBits_any _ _ x0 x1).mono fun _ _ h => ⟨h.1, h.2.symm⟩
          rw [← hI] at c1 HY HQ hB x0 x1
          generalize x I = z at c1 x0 x1 HY HQ hB
          generalize bitsI z = B at HY HQ hB
          have l1 : (I : Int) < (E : Int) := by omega
          have HI1 : RowKit.Hid (I + 1 = A + (m + 1)) := by show _ = _; omega
          have HIE : RowKit.Hid (I < A + n) := by show _ < _; omega
          have i1 : I < 512 := by omega
          clear hI hE
          by_cases hMB : M < (B : Int)
          · have hyB : y = (B : Int) := by rw [HY.out]; omega
            have g1 : ((B : Int) > M) = True := by simp; omega
            rw [hyB] at HV
            clear HV' HY hyB
            go_wp2
            go_quiet (first | (go_at_call 27; exact Calls.quiet_of_same (HQ.out _)))
            have HV1 := Lib.hid (HV.out nq)
            have o2 : (wr.drewN nq).cell? ⟨g, k, none⟩ = some (.int .i64 M) := o1
            have f2 : (wr.drewN nq).frozen? ⟨g, k, none⟩ = false := f1
            have c2 : (wr.drewN nq).cell? ⟨b, off + I, none⟩ = some (.int .i64 z) := c1
            have HQ1 := Lib.hid (HQ.out nq)
            clear HV o1 f1 c1 k2 HQ
            generalize wr.drewN nq = wq at HV1 o2 f2 c2 HQ1 ⊢
            go_wp2_with (go_at_call 27; refine HQ1.out.mono ?_; rintro e w' ⟨rfl, rfl⟩)
            go_roundw
            case rel => exact ⟨m + 1, by omega, by rw [← HI1.out]; go_num, HV1.out⟩
            case measure => have := HIE.out; simp [intOf] <;> omega
          · have hyM : M = y := by rw [HY.out]; omega
            have HT := Lib.hid (HV'.out hyM)
            clear HV HV' HY hyM
            go_wp2
            go_quiet (first | (go_at_call 27; exact Calls.quiet_of_same (HQ.out _)))
            have HT1 := Lib.hid (HT.out nq)
            clear HT o1 f1 c1 k2 HQ
            generalize wr.drewN nq = wq at HT1 ⊢
            go_wp2
            go_roundw
            case rel => exact ⟨m + 1, by omega, by rw [← HI1.out]; go_num, HT1.out⟩
            case measure => have := HIE.out; simp [intOf] <;> omega
        · obtain rfl : m = n := by omega
          have Z : RowKit.Hid (IFun wr g 3 .i64 21 (preF (ceilF x) (k + 1)) ∧ Below g w2 wr) := ⟨IFun.ext G.out.1 fun i _ => HEnd.out i, G.out.2⟩
          have l1 : ¬ (I : Int) < (E : Int) := by omega
          clear hI hE
          go_wp2
          go_roundw
          case rel => exact ⟨k + 1, by omega, by go_num, Z.out⟩
          case measure => simp [intOf] <;> omega
    · obtain rfl : k = 21 := by omega
      have Z : RowKit.Hid (IFun wr g 3 .i64 21 (ceilF x) ∧ Below w.heap.size w wr) := ⟨IFun.ext H.out.1 fun i hi => preF_end _ hi, HB2.out.trans (H.out.2.mono hgs)⟩
      go_wp2
      go_ret
      exact ⟨g, rfl, Z.out.1, hgs, Z.out.2⟩
end Go.Proofs.Ytgnmnmjicjcffaa
