/- Plain facts, and what functions give, for the proofs of this seat: several texts in one, each with its own first remark. -/
import Derived.Test.YtmgfkdmjgjlkjaaGreatAs
import Derived.Deep.CutBlock

namespace Go.Proofs.YtmgfkdmjgjlkjaaGreat
open Go.RowKit
set_option linter.unusedVariables false
def CeilPostR (x : Nat → Int) (w : World) (e : Ending) (w' : World) : Prop :=
  ∃ g, e = .returned (.slice (some ⟨g, 0, none⟩) 21 21) ∧ IFun w' g 3 .i64 21 (ceilF x) ∧ w.heap.size ≤ g ∧ Below w.heap.size w w'
set_option maxHeartbeats 1000000 in
set_option maxRecDepth 100000 in
theorem ref10Ceil_any (b off cap : Nat) (x : Nat → Int) (w : World) (hb : b < w.heap.size) (h : ∀ i, i < 512 → w.cell? ⟨b, off + i, none⟩ = some (.int .i64 (x i))) (hx : ∀ i, i < 512 → -2147483648 ≤ x i ∧ x i ≤ 2147483647) :
    Calls Tryz.prog 34 #[.slice (some ⟨b, off, none⟩) 512 cap] w (CeilPostR x w) := by
  have HC := Lib.hid h
  have HX := Lib.hid hx
  clear h hx
  have hmk : ∀ w : World, (Instr.makeSlice 68 (.int .i64 21) (.int .i64 21)).run Tryz.prog w = .ok (.slice (some ⟨w.heap.size, 0, none⟩) 21 21) (w.alloc (.cells (madeCells #[.int .i64 0] 21) 3)) :=
    fun w => make_zeros (P := Tryz.prog) Tryz.underlying68 infoE_int 21 (by decide) (by decide) w
  go_enter Tryz.func34, Tryz.ntmps34
  go_wp2_with (go_at_call 69; go_loud (refine (ref04Edges_any _).mono ?_); rintro e w1 ⟨ea, ec, rfl, hi, hbl⟩; obtain ⟨eb, eo, rfl⟩ := ints_some hi (by decide); have HE1 := Lib.hid hi; have HB1 := Lib.hid hbl; clear hi hbl)
  obtain ⟨g, hg⟩ : ∃ g, g = w1.heap.size := ⟨_, rfl⟩
  obtain ⟨w2, hw2⟩ : ∃ w2, w2 = w1.alloc (.cells (madeCells #[.int .i64 0] 21) 3) := ⟨_, rfl⟩
  have hgs : w.heap.size ≤ g := by rw [hg]; exact HB1.out.size
  have hebg : eb < g := by rw [hg]; obtain ⟨_, _, e, h, _⟩ := HE1.out.at_ (j := 0) (by decide); injection e with e; injection e with e1; omega
  have HE : RowKit.Hid (∀ k, k < 22 → w2.cell? ⟨eb, eo + k, none⟩ = some (.int .i64 (edgeK k : Int))) := fun k hk => by
    rw [hw2]; exact edges_at (HE1.out.below (Below.alloc_new w1 _)) hk
  have HB2 : RowKit.Hid (Below w.heap.size w w2) := by rw [hw2]; exact HB1.out.alloc HB1.out.size _
  have H0 : RowKit.Hid (IFun w2 g 3 .i64 21 (preF (ceilF x) 0)) := by
    rw [hw2, hg]; exact IFun.ext (IFun.zeros w1 3 .i64 21) fun j _ => (preF_zero _ j).symm
  rw [← hw2, ← hg]
  clear hw2 hg HE1 HB1 hmk
  go_loopw [5] (fun i wr => ∃ k : Nat, k ≤ 21 ∧ i = .int .i64 (k : Int) ∧ RowKit.Hid (IFun wr g 3 .i64 21 (preF (ceilF x) k) ∧ Below g w2 wr)) (fun i _ => 21 - (intOf i).toNat)
  case atStart => exact ⟨0, by omega, rfl, H0.out, Below.refl _ _⟩
  case round =>
    obtain ⟨k, hk, rfl, H⟩ := hrel
    clear H0
    by_cases hlt : k < 21
    · have k1 := (H.out.2.cell (p := ⟨eb, eo + k, none⟩) hebg).trans (HE.out k (by omega))
      have K2 := Lib.hid (HE.out (k + 1) (by omega))
      obtain ⟨ed1, ed2⟩ := edgeK_lt k hlt
      obtain ⟨n, hn⟩ : ∃ n, n = edgeK (k + 1) - edgeK k := ⟨_, rfl⟩
      have HEnd : RowKit.Hid (∀ i, accF x k n i = preF (ceilF x) (k + 1) i) := fun i => accF_end x i hn
      have HN : RowKit.Hid (∀ m : Nat, accF x k m k = maxTo (bitF x) (edgeK k) m) := fun m => accF_here x k m
      have HM : RowKit.Hid (∀ m : Nat, maxTo (bitF x) (edgeK k) (m + 1) = max (maxTo (bitF x) (edgeK k) m) (bitsI (x (edgeK k + m)))) := fun m => rfl
      have HAN : RowKit.Hid (∀ (m i : Nat) (y : Int), y = maxTo (bitF x) (edgeK k) (m + 1) → (if i = k then y else accF x k m i) = accF x k (m + 1) i) := fun m i y h => accF_next x k m i h
      have HAS : RowKit.Hid (∀ (m i : Nat), maxTo (bitF x) (edgeK k) m = maxTo (bitF x) (edgeK k) (m + 1) → accF x k m i = accF x k (m + 1) i) := fun m i h => by
        rw [← accF_next x k m i rfl]; split
        · rename_i e; rw [e, accF_here, h]
        · rfl
      have HBd : RowKit.Hid (∀ m : Nat, m ≤ n → 0 ≤ maxTo (bitF x) (edgeK k) m ∧ maxTo (bitF x) (edgeK k) m ≤ 32) := fun m hm => maxTo_bd (by decide) m fun i hi => (bitF_bd HX.out (by omega)).2
      have hn0 : 0 < n := by omega
      have HCl : RowKit.Hid (∀ m, m < n → w2.cell? ⟨b, off + (edgeK k + m), none⟩ = some (.int .i64 (x (edgeK k + m)))) := fun m hm =>
        (HB2.out.cell (p := ⟨b, off + (edgeK k + m), none⟩) hb).trans (HC.out _ (by omega))
      have HXl : RowKit.Hid (∀ m, m < n → -2147483648 ≤ x (edgeK k + m) ∧ x (edgeK k + m) ≤ 2147483647) := fun m hm => HX.out _ (by omega)
      have hEn : edgeK (k + 1) = edgeK k + n := by omega
      rw [hEn] at K2 ed2
      clear hn hEn ed1
      generalize edgeK k = A at k1 K2 ed2 HN HM HAN HAS HBd HCl HXl
      have H1 : RowKit.Hid (IFun wr g 3 .i64 21 (accF x k 0) ∧ Below g w2 wr) := ⟨IFun.ext H.out.1 fun i _ => (accF_zero x k i).symm, H.out.2⟩
      have l0 : (k : Int) < 21 := by omega
      clear H
      go_wp2
      go_loopw [6] (fun i wx => ∃ m : Nat, m ≤ n ∧ i = .int .i64 ((A + m : Nat) : Int) ∧ RowKit.Hid (IFun wx g 3 .i64 21 (accF x k m) ∧ Below g w2 wx)) (fun i _ => A + n - (intOf i).toNat)
      case atStart => exact ⟨0, by omega, rfl, H1.out⟩
      case round =>
        obtain ⟨m, hm, rfl, G⟩ := hrel
        clear H1 k1
        have k2 := (G.out.2.cell (p := ⟨eb, eo + (k + 1), none⟩) hebg).trans K2.out
        obtain ⟨I, hI⟩ : ∃ I, I = A + m := ⟨_, rfl⟩
        obtain ⟨E, hE⟩ : ∃ E, E = A + n := ⟨_, rfl⟩
        rw [← hE] at k2
        rw [← hI]
        by_cases hmn : m < n
        · have c1 := (G.out.2.cell (p := ⟨b, off + (A + m), none⟩) (by show b < g; omega)).trans (HCl.out m hmn)
          obtain ⟨x0, x1⟩ := HXl.out m hmn
          have o1 := G.out.1.cell (j := k) hlt
          rw [HN.out m] at o1
          have f1 := G.out.1.frozen k
          obtain ⟨b0, b1⟩ := HBd.out m hm
          obtain ⟨y, hy⟩ : ∃ y, y = maxTo (bitF x) A (m + 1) := ⟨_, rfl⟩
          have HV : RowKit.Hid (∀ q, IFun ((wr.drewN q).setCell ⟨g, k, none⟩ (.int .i64 y)) g 3 .i64 21 (accF x k (m + 1)) ∧ Below g w2 ((wr.drewN q).setCell ⟨g, k, none⟩ (.int .i64 y))) := fun q =>
            ⟨IFun.ext ((G.out.1.drewN q).set (j := k) hlt y) fun i _ => HAN.out m i y hy, Below.setCell (p := ⟨g, k, none⟩) (Below.drewN' G.out.2 q) (Nat.le_refl _) _⟩
          have HV' : RowKit.Hid (maxTo (bitF x) A m = y → ∀ q, IFun (wr.drewN q) g 3 .i64 21 (accF x k (m + 1)) ∧ Below g w2 (wr.drewN q)) := fun e q =>
            ⟨IFun.ext (G.out.1.drewN q) fun i _ => HAS.out m i (e.trans hy), Below.drewN' G.out.2 q⟩
          have HY := Lib.hid (hy.trans (HM.out m))
          clear hy
          generalize maxTo (bitF x) A m = M at o1 b0 b1 HY HV'
          have hB := bitsI_le x0 (by omega)
          have HQ : RowKit.Hid (∀ i, Calls Tryz.prog 70 #[.int .i64 (x (A + m))] (wr.drewN i) fun e w' => e = .returned (.int .i64 (bitsI (x (A + m)))) ∧ w' = wr.drewN i) := fun i => (refBits_any _ _ x0 x1).mono fun _ _ h => ⟨h.1, h.2.symm⟩
          rw [← hI] at c1 HY HQ hB x0 x1
          generalize x I = z at c1 x0 x1 HY HQ hB
          generalize bitsI z = B at HY HQ hB
          have l1 : (I : Int) < (E : Int) := by omega
          have HI1 : RowKit.Hid (I + 1 = A + (m + 1)) := by show _ = _; omega
          have HIE : RowKit.Hid (I < A + n) := by show _ < _; omega
          have i1 : I < 512 := by omega
          clear hI hE
          by_cases hMB : M < (B : Int)
          · have hyB : y = (B : Int) := by rw [HY.out]; omega
            have g1 : ((B : Int) > M) = True := by simp; omega
            rw [hyB] at HV
            clear HV' HY hyB
            go_wp2
            go_quiet (first | (go_at_call 70; exact Calls.quiet_of_same (HQ.out _)))
            have HV1 := Lib.hid (HV.out nq)
            have o2 : (wr.drewN nq).cell? ⟨g, k, none⟩ = some (.int .i64 M) := o1
            have f2 : (wr.drewN nq).frozen? ⟨g, k, none⟩ = false := f1
            have c2 : (wr.drewN nq).cell? ⟨b, off + I, none⟩ = some (.int .i64 z) := c1
            have HQ1 := Lib.hid (HQ.out nq)
            clear HV o1 f1 c1 k2 HQ
            generalize wr.drewN nq = wq at HV1 o2 f2 c2 HQ1 ⊢
            go_wp2_with (go_at_call 70; refine HQ1.out.mono ?_; rintro e w' ⟨rfl, rfl⟩)
            go_roundw
            case rel => exact ⟨m + 1, by omega, by rw [← HI1.out]; go_num, HV1.out⟩
            case measure => have := HIE.out; simp [intOf] <;> omega
          · have hyM : M = y := by rw [HY.out]; omega
            have HT := Lib.hid (HV'.out hyM)
            clear HV HV' HY hyM
            go_wp2
            go_quiet (first | (go_at_call 70; exact Calls.quiet_of_same (HQ.out _)))
            have HT1 := Lib.hid (HT.out nq)
            clear HT o1 f1 c1 k2 HQ
            generalize wr.drewN nq = wq at HT1 ⊢
            go_wp2
            go_roundw
            case rel => exact ⟨m + 1, by omega, by rw [← HI1.out]; go_num, HT1.out⟩
            case measure => have := HIE.out; simp [intOf] <;> omega
        · obtain rfl : m = n := by omega
          have Z : RowKit.Hid (IFun wr g 3 .i64 21 (preF (ceilF x) (k + 1)) ∧ Below g w2 wr) := ⟨IFun.ext G.out.1 fun i _ => HEnd.out i, G.out.2⟩
          have l1 : ¬ (I : Int) < (E : Int) := by omega
          clear hI hE
          go_wp2
          go_roundw
          case rel => exact ⟨k + 1, by omega, by go_num, Z.out⟩
          case measure => simp [intOf] <;> omega
    · obtain rfl : k = 21 := by omega
      have Z : RowKit.Hid (IFun wr g 3 .i64 21 (ceilF x) ∧ Below w.heap.size w wr) := ⟨IFun.ext H.out.1 fun i hi => preF_end _ hi, HB2.out.trans (H.out.2.mono hgs)⟩
      go_wp2
      go_ret
      exact ⟨g, rfl, Z.out.1, hgs, Z.out.2⟩
end Go.Proofs.YtmgfkdmjgjlkjaaGreat

namespace Go.Proofs.YtmgfkdmjgjlkjaaGreat
open Go.RowKit
set_option linter.unusedVariables false
theorem modFixed_ok (a : Option Addr) (len cap : Nat) (zs : List Int) (w : World) (h : IntsAt w w.heap.size .u32 a len zs) (hb : ∀ j, j < len → 0 ≤ zs.getD j 0 ∧ zs.getD j 0 ≤ 4294967295) (h0 : 1 ≤ len) (h1 : len ≤ 64) (hf : FixOk zs len) :
    Calls Tryz.prog 201 #[.slice a len cap] w fun e w' => ∃ g, e = .returned (.tuple #[.pointer (some ⟨g, 0, none⟩), .int .i64 0]) ∧ w.heap.size ≤ g ∧ ModAt w' g zs true ∧ Below w.heap.size w w' :=
  (modFixed_any a len cap zs w h hb h0 h1).mono fun e w' k => by
    obtain ⟨k1, ⟨k2, _⟩ | ⟨_, g, k3, k4, k5⟩⟩ := k
    · exact absurd hf k2
    · exact ⟨g, k3, k4, k5, k1⟩
theorem refFixed_ok (a : Option Addr) (len cap : Nat) (zs : List Int) (w : World) (h : IntsAt w w.heap.size .u32 a len zs) (hb : ∀ j, j < len → 0 ≤ zs.getD j 0 ∧ zs.getD j 0 ≤ 4294967295) (h0 : 1 ≤ len) (h1 : len ≤ 64) (hf : FixOk zs len) :
    Calls Tryz.prog 108 #[.slice a len cap] w fun e w' => ∃ g r, e = .returned (.tuple #[.pointer (some ⟨g, 0, none⟩), .bool true]) ∧ RefMod w' w.heap.size g r zs true ∧ Below w.heap.size w w' :=
  (refFixed_any a len cap zs w h hb h0 h1).mono fun e w' k => by
    obtain ⟨k1, ⟨⟨j, hj, hz⟩, _⟩ | ⟨_, g, r, k3, k4⟩⟩ := k
    · have := hf.1 j hj; omega
    · refine ⟨g, r, ?_, k4, k1⟩
      rw [k3]
      simp [hf.2]
end Go.Proofs.YtmgfkdmjgjlkjaaGreat

namespace Go.Proofs.YtmgfkdmjgjlkjaaGreat
open Go.RowKit
set_option linter.unusedVariables false
theorem IRow.ints {w : World} {g n : Nat} {t : TypeId} {k : IntKind} {zs : List Int} (h : IRow w g t k zs) (hn : zs.length = n) (hm : n ≤ 9223372036854775807) : IntsAt w w.heap.size k (some ⟨g, 0, none⟩) n zs :=
  ⟨hn, .inr ⟨g, 0, rfl, h.lt, hm, fun j hj => by rw [Nat.zero_add]; exact h.cell (by omega)⟩⟩
theorem difE_fix : FixOk difL 32 := ⟨difL_one, by rw [difL_sum]; decide⟩
theorem made32 : (#[Value.int .u32 0, Value.int .u32 0, Value.int .u32 0, Value.int .u32 0, Value.int .u32 0, Value.int .u32 0, Value.int .u32 0, Value.int .u32 0, Value.int .u32 0, Value.int .u32 0, Value.int .u32 0, Value.int .u32 0, Value.int .u32 0, Value.int .u32 0, Value.int .u32 0, Value.int .u32 0, Value.int .u32 0, Value.int .u32 0, Value.int .u32 0, Value.int .u32 0, Value.int .u32 0, Value.int .u32 0, Value.int .u32 0, Value.int .u32 0, Value.int .u32 0, Value.int .u32 0, Value.int .u32 0, Value.int .u32 0, Value.int .u32 0, Value.int .u32 0, Value.int .u32 0, Value.int .u32 0] : Array Value) = madeCells #[.int .u32 0] 32 := by rw [made_rep]; rfl
theorem dif_tab : tabF 32 (fun i => if i = 30 then 500 else if i = 2 then 500 else if i = 31 then 1500 else if i = 1 then 1500 else if i = 0 then 3000 else preF (fun _ => 10) 32 i) = difL := by decide
theorem all32 (g : Nat) (w : World) : (Instr.sliceAt 270 (.pointer (some ⟨g, 0, none⟩)) none none none).run Tryz.prog w = .ok (.slice (some ⟨g, 0, none⟩) 32 32) w := by
  have e : Tryz.prog.arrayLen 270 = 32 := by kernel_rfl
  have e2 : Tryz.prog.elem 270 = 34 := by kernel_rfl
  have ht : Tryz.prog.underlying 270 = some (.array (Tryz.prog.arrayLen 270) (Tryz.prog.elem 270)) := by kernel_rfl
  have es : (sizeOf 34).run Tryz.prog w = .ok 1 w := by kernel_rfl
  rw [run_sliceAt_array_all w _ _ ht, e, e2, es]
  simp [Result.andThen, slicedAt, Addr.add]
set_option maxRecDepth 100000 in
theorem engDiff_any (w : World) : Calls Tryz.prog 188 #[] w fun e w' => ∃ g, e = .returned (.pointer (some ⟨g, 0, none⟩)) ∧ w.heap.size ≤ g ∧ ModAt w' g difL true ∧ Below w.heap.size w w' := by
  have HF := Lib.hid difE_fix
  have HBd := Lib.hid difL_bd
  have H0 : RowKit.Hid (IFun (w.alloc (.cells (madeCells #[.int .u32 0] 32) 270)) w.heap.size 270 .u32 32 (preF (fun _ => 10) 0) ∧ Below w.heap.size w (w.alloc (.cells (madeCells #[.int .u32 0] 32) 270))) :=
    ⟨IFun.ext (IFun.zeros w 270 .u32 32) fun j _ => (preF_zero _ j).symm, Below.alloc_new w _⟩
  go_enter Tryz.func188, Tryz.ntmps188
  go_wp2
  rw [made32]
  generalize (w.alloc (.cells (madeCells #[.int .u32 0] 32) 270)) = w1 at H0 ⊢
  generalize hg : w.heap.size = g at H0 ⊢
  go_loopw [2, 5] (fun _ i wr => ∃ k : Nat, k ≤ 32 ∧ i = .int .i64 (k : Int) ∧ RowKit.Hid (IFun wr g 270 .u32 32 (preF (fun _ => 10) k) ∧ Below g w wr)) (fun _ i _ => 32 - (intOf i).toNat)
  case atStart => exact ⟨0, by omega, rfl, H0.out⟩
  case round =>
    obtain ⟨k, hk, rfl, H⟩ := hrel
    clear H0
    by_cases hlt : k < 32
    · have o1 := H.out.1.cell (j := k) hlt
      have f1 := H.out.1.frozen k
      have HV : RowKit.Hid (IFun (wr.setCell ⟨g, k, none⟩ (.int .u32 10)) g 270 .u32 32 (preF (fun _ => 10) (k + 1)) ∧ Below g w (wr.setCell ⟨g, k, none⟩ (.int .u32 10))) :=
        ⟨IFun.ext (H.out.1.set (j := k) hlt 10) fun i _ => preF_next (fun _ => 10) k i, Below.setCell (p := ⟨g, k, none⟩) H.out.2 (Nat.le_refl _) _⟩
      generalize preF (fun _ => (10 : Int)) k k = old at o1
      go_wp2
      go_roundw
      case rel => exact ⟨k + 1, by omega, by go_num, HV.out⟩
      case measure => simp [intOf] <;> omega
    · obtain rfl : k = 32 := by omega
      obtain ⟨c0, c1, c2, c30, c31⟩ : wr.cell? ⟨g, 0, none⟩ = some (.int .u32 10) ∧ wr.cell? ⟨g, 1, none⟩ = some (.int .u32 10) ∧ wr.cell? ⟨g, 2, none⟩ = some (.int .u32 10) ∧ wr.cell? ⟨g, 30, none⟩ = some (.int .u32 10) ∧ wr.cell? ⟨g, 31, none⟩ = some (.int .u32 10) :=
        ⟨H.out.1.cell (j := 0) (by decide), H.out.1.cell (j := 1) (by decide), H.out.1.cell (j := 2) (by decide), H.out.1.cell (j := 30) (by decide), H.out.1.cell (j := 31) (by decide)⟩
      have f0 := H.out.1.frozen 0
      have f1 := H.out.1.frozen 1
      have f2 := H.out.1.frozen 2
      have f30 := H.out.1.frozen 30
      have f31 := H.out.1.frozen 31
      have HI : RowKit.Hid (IRow (((((wr.setCell ⟨g, 0, none⟩ (.int .u32 3000)).setCell ⟨g, 1, none⟩ (.int .u32 1500)).setCell ⟨g, 31, none⟩ (.int .u32 1500)).setCell ⟨g, 2, none⟩ (.int .u32 500)).setCell ⟨g, 30, none⟩ (.int .u32 500)) g 270 .u32 difL) := by
        have := ((((H.out.1.set (j := 0) (by decide) 3000).set (j := 1) (by decide) 1500).set (j := 31) (by decide) 1500).set (j := 2) (by decide) 500).set (j := 30) (by decide) 500
        unfold IFun at this
        rw [dif_tab] at this
        exact this
      have HB : RowKit.Hid (Below g w (((((wr.setCell ⟨g, 0, none⟩ (.int .u32 3000)).setCell ⟨g, 1, none⟩ (.int .u32 1500)).setCell ⟨g, 31, none⟩ (.int .u32 1500)).setCell ⟨g, 2, none⟩ (.int .u32 500)).setCell ⟨g, 30, none⟩ (.int .u32 500))) :=
        Below.setCell (p := ⟨g, 30, none⟩) (Below.setCell (p := ⟨g, 2, none⟩) (Below.setCell (p := ⟨g, 31, none⟩) (Below.setCell (p := ⟨g, 1, none⟩) (Below.setCell (p := ⟨g, 0, none⟩) H.out.2 (Nat.le_refl _) _) (Nat.le_refl _) _) (Nat.le_refl _) _) (Nat.le_refl _) _) (Nat.le_refl _) _
      have hsl := fun w => all32 g w
      have HSz : RowKit.Hid (g ≤ (((((wr.setCell ⟨g, 0, none⟩ (.int .u32 3000)).setCell ⟨g, 1, none⟩ (.int .u32 1500)).setCell ⟨g, 31, none⟩ (.int .u32 1500)).setCell ⟨g, 2, none⟩ (.int .u32 500)).setCell ⟨g, 30, none⟩ (.int .u32 500)).heap.size) := Nat.le_trans (Nat.le_of_eq hg.symm) HB.out.size
      have HIn : RowKit.Hid (IntsAt (((((wr.setCell ⟨g, 0, none⟩ (.int .u32 3000)).setCell ⟨g, 1, none⟩ (.int .u32 1500)).setCell ⟨g, 31, none⟩ (.int .u32 1500)).setCell ⟨g, 2, none⟩ (.int .u32 500)).setCell ⟨g, 30, none⟩ (.int .u32 500)) (((((wr.setCell ⟨g, 0, none⟩ (.int .u32 3000)).setCell ⟨g, 1, none⟩ (.int .u32 1500)).setCell ⟨g, 31, none⟩ (.int .u32 1500)).setCell ⟨g, 2, none⟩ (.int .u32 500)).setCell ⟨g, 30, none⟩ (.int .u32 500)).heap.size .u32 (some ⟨g, 0, none⟩) 32 difL) := IRow.ints HI.out rfl (by decide)
      clear H
      go_wp2_with (go_at_call 201; go_loud (refine (modFixed_ok _ _ _ difL _ HIn.out HBd.out (by decide) (by decide) HF.out).mono ?_); rintro e w6 ⟨m, rfl, hm, hM, hb⟩; have HM := Lib.hid hM; have HB6 := Lib.hid (HB.out.trans (hb.mono HSz.out)); have hm2 := Nat.le_trans HSz.out hm; clear hM hb hm)
      go_ret
      exact ⟨m, rfl, by rw [hg]; exact hm2, HM.out, by rw [hg]; exact HB6.out⟩
theorem RefMod.grow {w : World} {base base' g r : Nat} {l : List Int} {fx : Bool} (h : RefMod w base g r l fx) (hb : base' ≤ base) : RefMod w base' g r l fx := by
  obtain ⟨cm, h1, h2, h3⟩ := h
  exact ⟨cm, h1, ⟨h2.1, h2.2.imp_right fun ⟨g', cap, cur, e, h, k⟩ => ⟨g', cap, cur, e, Nat.le_trans hb h, k⟩⟩, by omega⟩
def lenV (v : Value) : Nat := match v with | .slice _ n _ => n | _ => 0
theorem lenV_eq (a : Option Addr) (n c : Nat) : lenV (.slice a n c) = n := rfl
theorem dif_snoc0 : ∀ k : Nat, k < 30 → 3 ≤ k → difL.take k ++ [10] = difL.take (k + 1) := by decide
theorem dif_snoc (k : Nat) (h : 3 ≤ k) (h' : k < 30) : difL.take k ++ [10] = difL.take (k + 1) := dif_snoc0 k h' h
theorem infoE_u32 : (Tryz.prog.info? 34).map (fun i => (i.zero, i.size, i.bytes)) = some (some (.int .u32 0), 1, 4) := by kernel_rfl
set_option maxRecDepth 100000 in
theorem refApart_any (w : World) : Calls Tryz.prog 73 #[] w fun e w' => ∃ g r, e = .returned (.pointer (some ⟨g, 0, none⟩)) ∧ RefMod w' w.heap.size g r difL true ∧ Below w.heap.size w w' := by
  have HF := Lib.hid difE_fix
  have HBd := Lib.hid difL_bd
  have H0 : RowKit.Hid ((w.alloc (.cells #[.int .u32 3000, .int .u32 1500, .int .u32 500] 34)).ownsRow w.heap.size 34 1 (.slice (some ⟨w.heap.size, 0, none⟩) 3 3) 3 ((difL.take 3).map (Value.int .u32)) ∧ Below w.heap.size w (w.alloc (.cells #[.int .u32 3000, .int .u32 1500, .int .u32 500] 34))) :=
    ⟨World.ownsRow_lit (base := w.heap.size) (e := 34) (size := 1) w #[.int .u32 3000, .int .u32 1500, .int .u32 500] 3 (Nat.le_refl _) (by decide) rfl, Below.alloc_new w _⟩
  go_enter Tryz.func73, Tryz.ntmps73
  go_wp2
  generalize (w.alloc (.cells #[.int .u32 3000, .int .u32 1500, .int .u32 500] 34)) = w1 at H0 ⊢
  go_loopw [1] (fun v wr => ∃ (k c : Nat) (a : Option Addr), 3 ≤ k ∧ k ≤ 30 ∧ v = .slice a k c ∧ RowKit.Hid (wr.ownsRow w.heap.size 34 1 (.slice a k c) k ((difL.take k).map (Value.int .u32)) ∧ Below w.heap.size w wr)) (fun v _ => 30 - lenV v)
  case atStart => exact ⟨3, 3, _, by omega, by omega, rfl, H0.out⟩
  case round =>
    obtain ⟨k, c, a, hk0, hk, rfl, H⟩ := hrel
    clear H0
    have hsz := H.out.2.size
    have HA := Lib.hid (World.ownsRow.alloc H.out.1 (.cells #[.int .u32 10] 34))
    have HAB := Lib.hid (H.out.2.alloc hsz (.cells #[.int .u32 10] 34))
    have hsrc := Lib.hid (lit_ints wr 34 .u32 [10] #[.int .u32 10] (0, 0) rfl (by simp))
    by_cases hlt : k < 30
    · have HE := Lib.hid (dif_snoc k hk0 hlt)
      have l1 : (k : Int) < 30 := by omega
      go_upto_block 1 with fail
      generalize Value.slice a k c = v at HA ⊢
      go_wp2_with (at_builtin; go_loud (refine append_ints rfl _ _ 192 rfl w.heap.size 34 .u32 4 Tryz.underlying192 infoE_u32 v k (difL.take k) rfl HA.out (some ⟨wr.heap.size, 0, none⟩) 1 1 _ [10] rfl hsrc.out (by simp) (by unfold maxLen; omega) (by omega) (by simp; omega) ?_); intro v1 w2 hown hgrow _; rw [HE.out] at hown; obtain ⟨a1, c1, rfl⟩ := own_form hown; have HO := Lib.hid hown; have HB1 : RowKit.Hid (Below w.heap.size w w2) := HAB.out.grown hgrow (by simp; omega) (own_base HA.out); clear hown hgrow)
      go_roundw
      case rel => exact ⟨k + 1, c1, a1, by omega, by omega, by go_num, HO.out, HB1.out⟩
      case measure => rw [lenV_eq, lenV_eq]; omega
    · obtain rfl : k = 30 := by omega
      clear HA HAB hsrc
      have HA := Lib.hid (World.ownsRow.alloc H.out.1 (.cells #[.int .u32 500] 34))
      have HAB := Lib.hid (H.out.2.alloc hsz (.cells #[.int .u32 500] 34))
      have hsrc := Lib.hid (lit_ints wr 34 .u32 [500] #[.int .u32 500] (0, 0) rfl (by simp))
      have HE1 : RowKit.Hid (difL.take 30 ++ [500] = difL.take 31) := by show _ = _; decide
      have HE2 : RowKit.Hid (difL.take 31 ++ [1500] = difL) := by show _ = _; decide
      go_wp2_with (first
        | (at_builtin; have hz2 := HZ2.out; go_loud (refine append_ints rfl _ _ 192 rfl w.heap.size 34 .u32 4 Tryz.underlying192 infoE_u32 v2 31 (difL.take 31) rfl HA2.out (some ⟨w2.heap.size, 0, none⟩) 1 1 _ [1500] rfl hsrc2.out (by simp) (by unfold maxLen; omega) (by omega) (by simp; omega) ?_); intro v3 w3 hown hgrow _; rw [HE2.out] at hown; obtain ⟨a3, c3, rfl⟩ := own_form hown; have HI3 := Lib.hid (own_ints' hown); have HB3 : RowKit.Hid (Below w.heap.size w w3) := HAB2.out.grown hgrow (by simp; omega) (own_base HA2.out); clear hown hgrow)
        | (at_builtin; go_loud (refine append_ints rfl _ _ 192 rfl w.heap.size 34 .u32 4 Tryz.underlying192 infoE_u32 (.slice a 30 c) 30 (difL.take 30) rfl HA.out (some ⟨wr.heap.size, 0, none⟩) 1 1 _ [500] rfl hsrc.out (by simp) (by unfold maxLen; omega) (by omega) (by simp; omega) ?_); intro v2 w2 hown hgrow _; rw [HE1.out] at hown; have HB2 : RowKit.Hid (Below w.heap.size w w2) := HAB.out.grown hgrow (by simp; omega) (own_base HA.out); have hz2 := HB2.out.size; have HZ2 := Lib.hid hz2; have HA2 := Lib.hid (World.ownsRow.alloc hown (.cells #[.int .u32 1500] 34)); have HAB2 := Lib.hid (HB2.out.alloc hz2 (.cells #[.int .u32 1500] 34)); have hsrc2 := Lib.hid (lit_ints w2 34 .u32 [1500] #[.int .u32 1500] (0, 0) rfl (by simp)); clear hown hgrow HA HAB hsrc)
        | (go_at_call 108; go_loud (refine (refFixed_ok _ _ _ difL _ HI3.out HBd.out (by decide) (by decide) HF.out).mono ?_); rintro e w6 ⟨m, r, rfl, hM, hb⟩; have HM := Lib.hid hM; have HB6 := Lib.hid (HB3.out.trans (hb.mono HB3.out.size)); have HS3 := Lib.hid HB3.out.size; clear hM hb))
      go_ret
      exact ⟨m, r, rfl, HM.out.grow HS3.out, HB6.out⟩
end Go.Proofs.YtmgfkdmjgjlkjaaGreat

namespace Go.Proofs.YtmgfkdmjgjlkjaaGreat
open Go.RowKit
set_option linter.unusedVariables false
theorem modCells_no8 {l : List Int} {fx : Bool} {i : Nat} {y : Int} (h : (modCells l fx)[i]? = some (.int .u8 y)) : False := by
  have := List.mem_of_getElem? h
  unfold modCells at this
  simp at this
theorem IntsAt.ne_mod {w : World} {B len r off m : Nat} {b l : List Int} {fx : Bool} (h : IntsAt w B .u8 (some ⟨r, off, none⟩) len b) (h0 : 0 < len) (k : ModAt w m l fx) : r ≠ m := by
  rintro rfl
  obtain ⟨b', off', e, _, _, hc⟩ := h.at_ h0
  injection e with e
  injection e with e1 e2
  subst e1; subst e2
  rw [k.2.cell] at hc
  simp only [List.getElem?_toArray] at hc
  exact modCells_no8 hc
theorem IntsAt.keeps {F : Nat → Prop} {w w' : World} {B len : Nat} {k : IntKind} {a : Option Addr} {zs : List Int} (h : IntsAt w B k a len zs) (hk : Keeps F w w') (hB : B ≤ w.heap.size) (hF : ∀ r off, a = some ⟨r, off, none⟩ → 0 < len → r < B → ¬ F r) : IntsAt w' B k a len zs := by
  obtain ⟨h1, h2⟩ := h
  refine ⟨h1, ?_⟩
  rcases h2 with h2 | ⟨b, off, e, h3, h4, h5⟩
  · exact .inl h2
  · by_cases h0 : 0 < len
    · exact .inr ⟨b, off, e, h3, h4, fun j hj => (World.cell?_of_block (a := ⟨b, off + j, none⟩) (hk.block b (by omega) (hF b off e h0 h3))).trans (h5 j hj)⟩
    · exact .inl (by omega)
structure StE (w0 : World) (mg og be g n : Nat) (v : Value) (w : World) (L : List Int) (E : EncS) : Prop where
  m : ModAt w mg L false
  o : ModAt w og (List.replicate n 1) false
  e : EncAt w be g v E
  gm : GoodL L
  ge : GoodE E
  lm : L.length = n
  b : Below w0.heap.size w0 w
  d : w0.heap.size ≤ mg ∧ mg ≠ og ∧ mg < be ∧ w0.heap.size ≤ og ∧ og < be
section
variable {w0 w w' : World} {mg og be g n : Nat} {v : Value} {L : List Int} {E : EncS}
theorem StE.drewN (h : StE w0 mg og be g n v w L E) (i : Nat) : StE w0 mg og be g n v (w.drewN i) L E :=
  ⟨h.m.drewN i, h.o.drewN i, h.e.drewN i, h.gm, h.ge, h.lm, Below.drewN' h.b i, h.d⟩
theorem StE.prog {L' : List Int} {E' : EncS} {v' : Value} (h : StE w0 mg og be g n v w L E) (hk : Keeps (fun j => j = g ∨ v.ownBlock = some j ∨ j = mg) w w') (he : EncAt w' be g v' E') (hm : ModAt w' mg L' false) (g1 : GoodL L') (g2 : GoodE E') (l1 : L'.length = n) : StE w0 mg og be g n v' w' L' E' := by
  obtain ⟨d1, d2, d3, d4, d5⟩ := h.d
  have hl := h.e.lt
  have ho : ∀ j, v.ownBlock = some j → be ≤ j := fun j hj => (h.e.own j hj).2.1
  refine ⟨hm, h.o.keeps hk ?_, he, g1, g2, l1, h.b.trans (hk.below h.b.size ?_), h.d⟩
  · rintro (c | c | c)
    · omega
    · have := ho _ c; omega
    · omega
  · rintro j (c | c | c)
    · omega
    · have := ho _ c; omega
    · omega
end
section
variable {w0 w w' : World} {mg bd g n : Nat} {v : Value} {b : List Int} {L : List Int} {D : DecS}
end
structure StB (be g bd len : Nat) (v : Value) (a : Option Addr) (b : List Int) (F : EncS) (w : World) : Prop where
  e : EncAt w be g v F
  i : IntsAt w bd .u8 a len b
  s : bd ≤ w.heap.size
  o : g < bd ∧ ∀ r, v.ownBlock = some r → r < bd
section
variable {w w' : World} {be g bd len og gd : Nat} {v : Value} {a : Option Addr} {b : List Int} {F : EncS} {L : List Int} {fx : Bool}
theorem StB.drewN (h : StB be g bd len v a b F w) (i : Nat) : StB be g bd len v a b F (w.drewN i) := ⟨h.e.drewN i, h.i.drewN i, h.s, h.o⟩
theorem StB.below (h : StB be g bd len v a b F w) (hb : Below w.heap.size w w') : StB be g bd len v a b F w' :=
  ⟨h.e.below hb, h.i.below (hb.mono h.s), Nat.le_trans h.s hb.size, h.o⟩
end
end Go.Proofs.YtmgfkdmjgjlkjaaGreat
