/- Plain facts, and what functions give, for the proofs of this seat: several texts in one, each with its own first remark. -/
import Derived.Test.YtmgfkdmjgjlkjaaGreatAE

namespace Go.Proofs.YtmgfkdmjgjlkjaaGreat
open Go.RowKit
set_option linter.unusedVariables false
set_option maxRecDepth 100000 in
theorem ref9Lines_brief (c cap : Nat) (a : Option Addr) (all : Nat → Int) (w : World) (hC : IFun w c 2 .i64 1025 cosN) (ha : FnAt w w.heap.size .i64 a 640 all) (hb : ∀ j, j < 640 → (all j).natAbs ≤ 524288) (hc : 640 ≤ cap) (hc' : cap ≤ 9223372036854775807) :
    Calls Tryz.prog 33 #[.slice (some ⟨c, 0, none⟩) 1025 1025, .slice a 640 cap, .bool true] w (RowPost .i64 2 512 (linesF true all) w) := by
  have HB := Lib.hid hb
  obtain ⟨b, off, rfl, _, _⟩ := id ha
  have HX0 : RowKit.Hid (IFun (w.alloc (.cells (madeCells #[.int .i64 0] 512) 2)) w.heap.size 2 .i64 512 (briefA all 0 0)) := IFun.ext (IFun.zeros w 2 .i64 512) fun j _ => (briefA_start all j).symm
  have HB0 := Lib.hid (Below.alloc_new w (.cells (madeCells #[.int .i64 0] 512) 2))
  have HC0 := Lib.hid (hC.below HB0.out hC.lt)
  have HCl := Lib.hid hC.lt
  have HA := Lib.hid ha
  have hmk : ∀ w : World, (Instr.makeSlice 66 (.int .i64 512) (.int .i64 512)).run Tryz.prog w = .ok (.slice (some ⟨w.heap.size, 0, none⟩) 512 512) (w.alloc (.cells (madeCells #[.int .i64 0] 512) 2)) :=
    fun w => make_zeros (P := Tryz.prog) Tryz.underlying66 info_i64 512 (by decide) (by decide) w
  clear hC ha hb
  generalize madeCells #[Value.int .i64 0] 512 = mc at HX0 HB0 HC0 hmk
  go_enter Tryz.func33, Tryz.ntmps33
  go_wp2
  clear hmk
  generalize w.alloc (.cells mc 2) = w2 at HX0 HB0 HC0 ⊢
  go_loopw [11] (fun i wr => ∃ m : Nat, m ≤ 4 ∧ i = .int .i64 (m : Int) ∧ RowKit.Hid (IFun wr w.heap.size 2 .i64 512 (briefA all m 0) ∧ IFun wr c 2 .i64 1025 cosN ∧ Below w.heap.size w wr)) (fun i _ => 4 - (intOf i).toNat)
  case atStart => exact ⟨0, by omega, rfl, HX0.out, HC0.out, HB0.out⟩
  case round =>
    obtain ⟨m, hm, rfl, HI⟩ := hrel
    clear HX0 HC0 HB0
    by_cases hlt : m < 4
    · obtain ⟨A, hA⟩ : ∃ A, A = 128 * m := ⟨_, rfl⟩
      obtain ⟨D, hD⟩ : ∃ D, D = 128 * m + 256 := ⟨_, rfl⟩
      have e1 : 128 * (m : Int) = (A : Int) := by omega
      have e2 : (A : Int) + 256 = (D : Int) := by omega
      have b1 : (0 : Int) ≤ (A : Int) := by omega
      have b2 : (A : Int) ≤ (D : Int) := by omega
      have b3 : (D : Int) ≤ (cap : Int) := by omega
      have l1 : (m : Int) < 4 := by omega
      have HAr : RowKit.Hid (FnAt wr wr.heap.size .i64 (some ⟨b, off + A, none⟩) 256 (fun j => all (128 * m + j))) := ((HA.out.now HI.out.2.2).sub A 256 (by omega)).ext fun j _ => by rw [show A + j = 128 * m + j by omega]
      have q1 : D - A = 256 := by omega
      have q2 : ¬ cap = A := by omega
      clear hA hD
      go_wp2_with (first | (go_at_call 67; go_loud (refine (ref9Shape_any c 256 _ (some ⟨b, off + A, none⟩) (fun j => all (128 * m + j)) wr HI.out.2.1 (by decide) (by decide) HAr.out (fun j hj => by have := HB.out (128 * m + j) (by omega); omega)).mono ?_); rintro e w3 ⟨G3, rfl, i3, s3, z3⟩; have HI3 : RowKit.Hid (IFun w3 G3 2 .i64 256 (blkF all m)) := i3; have HX3 := Lib.hid (HI.out.1.below z3 HI.out.1.lt); have HC3 := Lib.hid (HI.out.2.1.below z3 HI.out.2.1.lt); have HB3 := Lib.hid (chain HI.out.2.2 z3); clear i3 s3 z3) | (go_at_call 68; go_loud (refine (refForward_any c 128 256 256 _ (blkF all m) w3 HC3.out (.inl rfl) rfl (FnAt.of_ifun HI3.out) (fun j hj => by have := blkF_abs HB.out hlt hj; omega)).mono ?_); rintro e w5 ⟨g5, rfl, i5, s5, z5⟩; have HI5 := Lib.hid i5; have HS5 : RowKit.Hid (w.heap.size < g5) := Nat.lt_of_lt_of_le HX3.out.lt s5; have HX5 := Lib.hid (HX3.out.below z5 HX3.out.lt); have HC5 := Lib.hid (HC3.out.below z5 HC3.out.lt); have HB5 := Lib.hid (chain HB3.out z5); clear i5 s5 z5))
      clear HX3 HC3 HB3 HI3 HI HAr b1 b2 b3 e1 e2 q1 q2
      go_loopw [13] (fun i wx => ∃ k : Nat, k ≤ 128 ∧ i = .int .i64 (k : Int) ∧ RowKit.Hid (IFun wx w.heap.size 2 .i64 512 (briefA all m k) ∧ IFun wx c 2 .i64 1025 cosN ∧ Below w.heap.size w wx ∧ IFun wx g5 2 .i64 128 (fwdF 128 (blkF all m)))) (fun i _ => 128 - (intOf i).toNat)
      case atStart => exact ⟨0, by omega, rfl, HX5.out, HC5.out, HB5.out, HI5.out⟩
      case round =>
        obtain ⟨k, hk, rfl, HJ⟩ := hrel
        clear HX5 HC5 HB5 HI5
        by_cases hlk : k < 128
        · obtain ⟨P, hP⟩ : ∃ P, P = 4 * k + m := ⟨_, rfl⟩
          have eP : 4 * (k : Int) + (m : Int) = (P : Int) := by omega
          have P1 : P < 512 := by omega
          have k1 := HJ.out.2.2.2.cell hlk
          have o1 := HJ.out.1.cell (j := P) P1
          have f1 := HJ.out.1.frozen P
          have HS : RowKit.Hid (IFun (wr.setCell ⟨w.heap.size, P, none⟩ (.int .i64 (fwdF 128 (blkF all m) k))) w.heap.size 2 .i64 512 (briefA all m (k + 1)) ∧ IFun (wr.setCell ⟨w.heap.size, P, none⟩ (.int .i64 (fwdF 128 (blkF all m) k))) c 2 .i64 1025 cosN ∧ Below w.heap.size w (wr.setCell ⟨w.heap.size, P, none⟩ (.int .i64 (fwdF 128 (blkF all m) k))) ∧ IFun (wr.setCell ⟨w.heap.size, P, none⟩ (.int .i64 (fwdF 128 (blkF all m) k))) g5 2 .i64 128 (fwdF 128 (blkF all m))) :=
            ⟨IFun.ext (HJ.out.1.set (j := P) P1 (fwdF 128 (blkF all m) k)) fun i _ => briefA_next all hlt hP i, HJ.out.2.1.far (by have := HCl.out; show c ≠ w.heap.size; omega) _, HJ.out.2.2.1.setCell (Nat.le_refl _) _, HJ.out.2.2.2.far (by have := HS5.out; show g5 ≠ w.heap.size; omega) _⟩
          generalize fwdF 128 (blkF all m) k = x at k1 HS
          generalize briefA all m k P = old at o1
          have l2 : (k : Int) < 128 := by omega
          have l3 : (P : Int) < 512 := by omega
          clear HJ hP
          go_wp2
          go_roundw
          case rel => exact ⟨k + 1, by omega, by go_num, HS.out⟩
          case measure => simp [intOf] <;> omega
        · have l2 : ¬ (k : Int) < 128 := by omega
          have HS : RowKit.Hid (IFun wr w.heap.size 2 .i64 512 (briefA all (m + 1) 0) ∧ IFun wr c 2 .i64 1025 cosN ∧ Below w.heap.size w wr) :=
            ⟨IFun.ext HJ.out.1 fun i hi => by rw [show k = 128 by omega]; exact briefA_block all m i hi, HJ.out.2.1, HJ.out.2.2.1⟩
          clear HJ
          go_wp2
          go_roundw
          case rel => exact ⟨m + 1, by omega, by go_num, HS.out⟩
          case measure => simp [intOf] <;> omega
    · obtain rfl : m = 4 := by omega
      have Z : RowKit.Hid (IFun wr w.heap.size 2 .i64 512 (linesF true all) ∧ Below w.heap.size w wr) := ⟨IFun.ext HI.out.1 fun i _ => briefA_end all i, HI.out.2.2⟩
      go_wp2
      go_ret
      exact ⟨_, rfl, Z.out.1, Nat.le_refl _, Z.out.2⟩
theorem ref9Lines_any (c cap : Nat) (a : Option Addr) (all : Nat → Int) (b : Bool) (w : World) (hC : IFun w c 2 .i64 1025 cosN) (ha : FnAt w w.heap.size .i64 a 640 all) (hb : ∀ j, j < 640 → (all j).natAbs ≤ 524288) (hc : 640 ≤ cap) (hc' : cap ≤ 9223372036854775807) :
    Calls Tryz.prog 33 #[.slice (some ⟨c, 0, none⟩) 1025 1025, .slice a 640 cap, .bool b] w (RowPost .i64 2 512 (linesF b all) w) := by
  cases b with
  | false => exact ref9Lines_long c cap a all w hC ha hb
  | true => exact ref9Lines_brief c cap a all w hC ha hb hc hc'
set_option maxRecDepth 100000 in
theorem ref9Sound_long (c cap : Nat) (a : Option Addr) (l : Nat → Int) (w : World) (hC : IFun w c 2 .i64 1025 cosN) (ha : FnAt w w.heap.size .i64 a 512 l) (hb : ∀ j, j < 512 → -33554432 ≤ l j ∧ l j ≤ 33554431) :
    Calls Tryz.prog 146 #[.slice (some ⟨c, 0, none⟩) 1025 1025, .slice a 512 cap, .bool false] w (RowPost .i64 2 640 (soundF false l) w) := by
  have HB := Lib.hid hb
  have HC := Lib.hid hC
  have HA := Lib.hid ha
  have HXb : RowKit.Hid (∀ j, j < 640 → (backF 512 l (192 + j)).natAbs ≤ 2147483647) := fun j hj => by
    have := backF_512 (l := l) (fun j hj => by have := hb j hj; omega) (i := 192 + j) (by omega); omega
  clear hC ha hb
  go_enter Tryz.func146, Tryz.ntmps146
  go_wp2_with (first | (go_at_call 177; go_loud (refine (refBack_any c 512 1024 cap a l w HC.out (.inr rfl) rfl HA.out HB.out).mono ?_); rintro e w3 ⟨g3, rfl, i3, s3, z3⟩; have HI3 := Lib.hid i3; have HC3 := Lib.hid (HC.out.below z3 HC.out.lt); have HB3 := Lib.hid z3; clear i3 s3 z3) | (go_at_call 67; go_loud (refine (ref9Shape_any c 640 _ (some ⟨g3, 192, none⟩) (fun j => backF 512 l (192 + j)) w3 HC3.out (by decide) (by decide) ⟨g3, 192, rfl, HI3.out.lt, fun j hj => HI3.out.cell (by omega)⟩ HXb.out).mono ?_); rintro e w5 ⟨g5, rfl, i5, s5, z5⟩; have HI5 : RowKit.Hid (IFun w5 g5 2 .i64 640 (soundF false l)) := i5; have HS5 : RowKit.Hid (w.heap.size ≤ g5) := Nat.le_trans HB3.out.size s5; have HB5 := Lib.hid (chain HB3.out z5); clear i5 s5 z5))
  go_ret
  exact ⟨g5, rfl, HI5.out, HS5.out, HB5.out⟩
end Go.Proofs.YtmgfkdmjgjlkjaaGreat

namespace Go.Proofs.YtmgfkdmjgjlkjaaGreat
open Go.RowKit
set_option linter.unusedVariables false
set_option maxHeartbeats 1000000 in
set_option maxRecDepth 100000 in
theorem ref9Sound_brief (c cap : Nat) (a : Option Addr) (l : Nat → Int) (w : World) (hC : IFun w c 2 .i64 1025 cosN) (ha : FnAt w w.heap.size .i64 a 512 l) (hb : ∀ j, j < 512 → -33554432 ≤ l j ∧ l j ≤ 33554431) :
    Calls Tryz.prog 146 #[.slice (some ⟨c, 0, none⟩) 1025 1025, .slice a 512 cap, .bool true] w (RowPost .i64 2 640 (soundF true l) w) := by
  have HB := Lib.hid hb
  obtain ⟨b, off, rfl, hbl, hcl⟩ := id ha
  have HCC := Lib.hid hcl
  have HX0 : RowKit.Hid (IFun (w.alloc (.cells (madeCells #[.int .i64 0] 640) 2)) w.heap.size 2 .i64 640 (soundA l 0)) := IFun.zeros w 2 .i64 640
  have HB0 := Lib.hid (Below.alloc_new w (.cells (madeCells #[.int .i64 0] 640) 2))
  have HC0 := Lib.hid (hC.below HB0.out hC.lt)
  have HCl := Lib.hid hC.lt
  have hmk : ∀ w : World, (Instr.makeSlice 66 (.int .i64 640) (.int .i64 640)).run Tryz.prog w = .ok (.slice (some ⟨w.heap.size, 0, none⟩) 640 640) (w.alloc (.cells (madeCells #[.int .i64 0] 640) 2)) :=
    fun w => make_zeros (P := Tryz.prog) Tryz.underlying66 info_i64 640 (by decide) (by decide) w
  have hmk2 : ∀ w : World, (Instr.makeSlice 66 (.int .i64 128) (.int .i64 128)).run Tryz.prog w = .ok (.slice (some ⟨w.heap.size, 0, none⟩) 128 128) (w.alloc (.cells (madeCells #[.int .i64 0] 128) 2)) :=
    fun w => make_zeros (P := Tryz.prog) Tryz.underlying66 info_i64 128 (by decide) (by decide) w
  have HZ : RowKit.Hid (∀ w : World, IFun (w.alloc (.cells (madeCells #[.int .i64 0] 128) 2)) w.heap.size 2 .i64 128 (fun _ => 0)) := fun w => IFun.zeros w 2 .i64 128
  clear hC ha hb hcl
  generalize madeCells #[Value.int .i64 0] 640 = mc at HX0 HB0 HC0 hmk
  generalize madeCells #[Value.int .i64 0] 128 = md at HZ hmk2
  go_enter Tryz.func146, Tryz.ntmps146
  go_wp2
  clear hmk
  generalize w.alloc (.cells mc 2) = w2 at HX0 HB0 HC0 ⊢
  go_loopw [8] (fun i wr => ∃ m : Nat, m ≤ 4 ∧ i = .int .i64 (m : Int) ∧ RowKit.Hid (IFun wr w.heap.size 2 .i64 640 (soundA l m) ∧ IFun wr c 2 .i64 1025 cosN ∧ Below w.heap.size w wr)) (fun i _ => 4 - (intOf i).toNat)
  case atStart => exact ⟨0, by omega, rfl, HX0.out, HC0.out, HB0.out⟩
  case round =>
    obtain ⟨m, hm, rfl, HI⟩ := hrel
    clear HX0 HC0 HB0
    by_cases hlt : m < 4
    · have l1 : (m : Int) < 4 := by omega
      have H0 : RowKit.Hid (IFun (wr.alloc (.cells md 2)) w.heap.size 2 .i64 640 (soundA l m) ∧ IFun (wr.alloc (.cells md 2)) c 2 .i64 1025 cosN ∧ Below w.heap.size w (wr.alloc (.cells md 2)) ∧ IFun (wr.alloc (.cells md 2)) wr.heap.size 2 .i64 128 (upTo (pickF l m) (fun _ => 0) 0)) :=
        ⟨HI.out.1.alloc _, HI.out.2.1.alloc _, chain HI.out.2.2 (Below.alloc_new _ _), IFun.ext (HZ.out wr) fun j _ => (upTo_start (pickF l m) (fun _ => 0) j).symm⟩
      have HY : RowKit.Hid (w.heap.size < wr.heap.size ∧ c < wr.heap.size) := ⟨HI.out.1.lt, HI.out.2.1.lt⟩
      clear HI
      go_wp2
      generalize wr.heap.size = Y at H0 HY ⊢
      generalize wr.alloc (.cells md 2) = w3 at H0 ⊢
      go_loopw [10] (fun i wx => ∃ k : Nat, k ≤ 128 ∧ i = .int .i64 (k : Int) ∧ RowKit.Hid (IFun wx w.heap.size 2 .i64 640 (soundA l m) ∧ IFun wx c 2 .i64 1025 cosN ∧ Below w.heap.size w wx ∧ IFun wx Y 2 .i64 128 (upTo (pickF l m) (fun _ => 0) k))) (fun i _ => 128 - (intOf i).toNat)
      case atStart => exact ⟨0, by omega, rfl, H0.out⟩
      case round =>
        obtain ⟨k, hk, rfl, HJ⟩ := hrel
        clear H0
        by_cases hlk : k < 128
        · obtain ⟨P, hP⟩ : ∃ P, P = 4 * k + m := ⟨_, rfl⟩
          have eP : 4 * (k : Int) + (m : Int) = (P : Int) := by omega
          have P1 : P < 512 := by omega
          have k1 := (HJ.out.2.2.1.cell (p := ⟨b, off + P, none⟩) hbl).trans (HCC.out P P1)
          have o1 := HJ.out.2.2.2.cell hlk
          have f1 := HJ.out.2.2.2.frozen k
          have HS : RowKit.Hid (IFun (wr.setCell ⟨Y, k, none⟩ (.int .i64 (l P))) w.heap.size 2 .i64 640 (soundA l m) ∧ IFun (wr.setCell ⟨Y, k, none⟩ (.int .i64 (l P))) c 2 .i64 1025 cosN ∧ Below w.heap.size w (wr.setCell ⟨Y, k, none⟩ (.int .i64 (l P))) ∧ IFun (wr.setCell ⟨Y, k, none⟩ (.int .i64 (l P))) Y 2 .i64 128 (upTo (pickF l m) (fun _ => 0) (k + 1))) := by
            obtain ⟨hy, hy2⟩ := HY.out
            refine ⟨HJ.out.1.far (by show w.heap.size ≠ Y; omega) _, HJ.out.2.1.far (by show c ≠ Y; omega) _, HJ.out.2.2.1.setCell (by show w.heap.size ≤ Y; omega) _, IFun.ext (HJ.out.2.2.2.set (j := k) hlk (l P)) fun i _ => ?_⟩
            rw [show l P = pickF l m k by unfold pickF; rw [hP]]; exact upTo_next (pickF l m) _ k i
          have hlb := HB.out P P1
          generalize l P = x at k1 HS hlb
          generalize upTo (pickF l m) (fun _ => 0) k k = old at o1
          have l2 : (k : Int) < 128 := by omega
          have l3 : (P : Int) < 512 := by omega
          clear HJ hP
          go_wp2
          go_roundw
          case rel => exact ⟨k + 1, by omega, by go_num, HS.out⟩
          case measure => simp [intOf] <;> omega
        · have l2 : ¬ (k : Int) < 128 := by omega
          have HL : RowKit.Hid (IFun wr Y 2 .i64 128 (pickF l m)) := IFun.ext HJ.out.2.2.2 fun i hi => by rw [show k = 128 by omega]; exact upTo_end _ _ 128 i hi
          have HX := Lib.hid HJ.out.1
          have HC := Lib.hid HJ.out.2.1
          have HBw := Lib.hid HJ.out.2.2.1
          clear HJ HZ hmk2
          have HPb : RowKit.Hid (∀ j, j < 128 → -33554432 ≤ pickF l m j ∧ pickF l m j ≤ 33554431) := fun j hj => HB.out (4 * j + m) (by omega)
          have HVb : RowKit.Hid (∀ j, j < 256 → (backF 128 (pickF l m) j).natAbs ≤ 536870500) := fun j hj => backF_128 (fun j hj => by have := HPb.out j hj; omega) hj
          go_wp2_with (first | (go_at_call 177; go_loud (refine (refBack_any c 128 256 128 _ (pickF l m) _ HC.out (.inl rfl) rfl (FnAt.of_ifun HL.out) HPb.out).mono ?_); rintro e w5 ⟨g5, rfl, i5, s5, z5⟩; have HI5 := Lib.hid i5; have HX5 := Lib.hid (HX.out.below z5 HX.out.lt); have HC5 := Lib.hid (HC.out.below z5 HC.out.lt); have HB5 := Lib.hid (chain HBw.out z5); clear i5 s5 z5) | (go_at_call 67; go_loud (refine (ref9Shape_any c 256 _ (some ⟨g5, 0, none⟩) (backF 128 (pickF l m)) w5 HC5.out (by decide) (by decide) (FnAt.of_ifun HI5.out) (fun j hj => by have := HVb.out j hj; omega)).mono ?_); rintro e w7 ⟨g7, rfl, i7, s7, z7⟩; have HI7 := Lib.hid i7; have HX7 := Lib.hid (HX5.out.below z7 HX5.out.lt); have HC7 := Lib.hid (HC5.out.below z7 HC5.out.lt); have HB7 := Lib.hid (chain HB5.out z7); have HN7 : RowKit.Hid (w.heap.size < g7) := Nat.lt_of_lt_of_le HX5.out.lt s7; clear i7 s7 z7))
          clear HL HX HC HBw HPb HI5 HX5 HC5 HB5
          obtain ⟨A, hA⟩ : ∃ A, A = 128 * m := ⟨_, rfl⟩
          have HM := Lib.hid hA
          have e1 : 128 * (m : Int) = (A : Int) := by omega
          have g1 : IntKind.i64.wrap (A : Int) = (A : Int) := IntWalk.i64_in _ (by omega)
          have HS0 : RowKit.Hid (IFun w7 w.heap.size 2 .i64 640 (addF (soundA l m) (shapeF 256 (backF 128 (pickF l m))) A 0)) := IFun.ext HX7.out fun j _ => (addF_start _ _ A j).symm
          clear HX7 hA
          go_loopw [12] (fun i wx => ∃ k : Nat, k ≤ 256 ∧ i = .int .i64 (k : Int) ∧ RowKit.Hid (IFun wx w.heap.size 2 .i64 640 (addF (soundA l m) (shapeF 256 (backF 128 (pickF l m))) A k) ∧ IFun wx c 2 .i64 1025 cosN ∧ Below w.heap.size w wx ∧ IFun wx g7 2 .i64 256 (shapeF 256 (backF 128 (pickF l m))))) (fun i _ => 256 - (intOf i).toNat)
          case atStart => exact ⟨0, by omega, rfl, HS0.out, HC7.out, HB7.out, HI7.out⟩
          case round =>
            obtain ⟨k, hk, rfl, HJ⟩ := hrel
            clear HS0 HC7 HB7 HI7
            by_cases hlk : k < 256
            · obtain ⟨P, hP⟩ : ∃ P, P = A + k := ⟨_, rfl⟩
              have eP : (A : Int) + (k : Int) = (P : Int) := by omega
              have P1 : P < 640 := by omega
              have k1 := HJ.out.2.2.2.cell hlk
              have o1 := HJ.out.1.cell (j := P) P1
              rw [hP, addF_here, ← hP] at o1
              have f1 := HJ.out.1.frozen P
              have hx := soundA_abs (l := l) (fun j hj => by have := HB.out j hj; omega) (m := m) (by omega) P
              have hy := shapeF_abs (N := 256) (HVb.out k hlk)
              have HS : RowKit.Hid (∀ i, IFun ((wr.setCell ⟨w.heap.size, P, none⟩ (.int .i64 (soundA l m P + shapeF 256 (backF 128 (pickF l m)) k))).drewN i) w.heap.size 2 .i64 640 (addF (soundA l m) (shapeF 256 (backF 128 (pickF l m))) A (k + 1)) ∧ IFun ((wr.setCell ⟨w.heap.size, P, none⟩ (.int .i64 (soundA l m P + shapeF 256 (backF 128 (pickF l m)) k))).drewN i) c 2 .i64 1025 cosN ∧ Below w.heap.size w ((wr.setCell ⟨w.heap.size, P, none⟩ (.int .i64 (soundA l m P + shapeF 256 (backF 128 (pickF l m)) k))).drewN i) ∧ IFun ((wr.setCell ⟨w.heap.size, P, none⟩ (.int .i64 (soundA l m P + shapeF 256 (backF 128 (pickF l m)) k))).drewN i) g7 2 .i64 256 (shapeF 256 (backF 128 (pickF l m)))) := fun i =>
                ⟨(IFun.ext (HJ.out.1.set (j := P) P1 (soundA l m P + shapeF 256 (backF 128 (pickF l m)) k)) fun j _ => by rw [hP]; exact addF_next _ _ A k j).drewN i, (HJ.out.2.1.far (by have := HCl.out; show c ≠ w.heap.size; omega) _).drewN i, Below.drewN' (HJ.out.2.2.1.setCell (Nat.le_refl _) _) i, (HJ.out.2.2.2.far (by have := HN7.out; show g7 ≠ w.heap.size; omega) _).drewN i⟩
              generalize soundA l m P = x at o1 hx HS
              generalize shapeF 256 (backF 128 (pickF l m)) k = y at k1 hy HS
              have l2 : (k : Int) < 256 := by omega
              have l3 : (P : Int) < 640 := by omega
              have g2 : IntKind.i64.wrap (P : Int) = (P : Int) := IntWalk.i64_in _ (by omega)
              have x0 : -2147483647 ≤ x := by omega
              have x1 : x ≤ 2147483647 := by omega
              have y0 : -2147483647 ≤ y := by omega
              have y1 : y ≤ 2147483647 := by omega
              have g3 : IntKind.i64.wrap (x + y) = x + y := IntWalk.i64_in _ (by omega)
              clear HJ hP hx hy
              go_wp2
              go_region
              all_goals
                go_wp2
                go_roundw
                case rel => exact ⟨k + 1, by omega, by go_num, HS.out 1⟩
                case measure => simp [intOf] <;> omega
            · have l2 : ¬ (k : Int) < 256 := by omega
              have HS : RowKit.Hid (IFun wr w.heap.size 2 .i64 640 (soundA l (m + 1)) ∧ IFun wr c 2 .i64 1025 cosN ∧ Below w.heap.size w wr) :=
                ⟨IFun.ext HJ.out.1 fun i _ => by rw [show k = 256 by omega, HM.out]; exact addF_sound l m i, HJ.out.2.1, HJ.out.2.2.1⟩
              clear HJ
              go_wp2
              go_roundw
              case rel => exact ⟨m + 1, by omega, by go_num, HS.out⟩
              case measure => simp [intOf] <;> omega
    · obtain rfl : m = 4 := by omega
      have Z : RowKit.Hid (IFun wr w.heap.size 2 .i64 640 (soundF true l) ∧ Below w.heap.size w wr) := ⟨HI.out.1, HI.out.2.2⟩
      go_wp2
      go_ret
      exact ⟨_, rfl, Z.out.1, Nat.le_refl _, Z.out.2⟩
theorem ref9Sound_any (c cap : Nat) (a : Option Addr) (l : Nat → Int) (b : Bool) (w : World) (hC : IFun w c 2 .i64 1025 cosN) (ha : FnAt w w.heap.size .i64 a 512 l) (hb : ∀ j, j < 512 → -33554432 ≤ l j ∧ l j ≤ 33554431) :
    Calls Tryz.prog 146 #[.slice (some ⟨c, 0, none⟩) 1025 1025, .slice a 512 cap, .bool b] w (RowPost .i64 2 640 (soundF b l) w) := by
  cases b with
  | false => exact ref9Sound_long c cap a l w hC ha hb
  | true => exact ref9Sound_brief c cap a l w hC ha hb
end Go.Proofs.YtmgfkdmjgjlkjaaGreat

namespace Go.Proofs.YtmgfkdmjgjlkjaaGreat
open Go.RowKit
set_option linter.unusedVariables false
theorem info_i649 : (Tryz.prog.info? 2).map (fun i => (i.zero, i.size, i.bytes)) = some (some (.int .i64 0), 1, 8) := by kernel_rfl
def Ref9Post (b : Bool) (l left : Nat → Int) (w : World) (e : Ending) (w' : World) : Prop :=
  ∃ v g, e = .returned (.tuple #[v, .slice (some ⟨g, 512, none⟩) 128 128]) ∧ w'.ownsRow w.heap.size 2 1 v 512 ((tabF 512 (samplesF b l left)).map (Value.int .i64)) ∧ IFun w' g 2 .i64 640 (bothF b l left) ∧ w.heap.size ≤ g ∧ Below w.heap.size w w'
set_option maxHeartbeats 400000 in
set_option maxRecDepth 100000 in
theorem ref9Samples_any (c cap cap4 : Nat) (a a4 : Option Addr) (l left : Nat → Int) (b : Bool) (w : World) (hC : IFun w c 2 .i64 1025 cosN) (ha : FnAt w w.heap.size .i64 a 512 l) (h4 : FnAt w w.heap.size .i64 a4 128 left) (hb : ∀ j, j < 512 → -33554432 ≤ l j ∧ l j ≤ 33554431) (hl : ∀ j, j < 128 → (left j).natAbs ≤ 1073741000) :
    Calls Tryz.prog 116 #[.slice (some ⟨c, 0, none⟩) 1025 1025, .slice a 512 cap, .bool b, .slice a4 128 cap4] w (Ref9Post b l left w) := by
  obtain ⟨x, off, rfl, hxl, hcl⟩ := id h4
  have H4 := Lib.hid hcl
  have HK := Lib.hid (ref9Sound_any c cap a l b w hC ha hb)
  have HBa : RowKit.Hid (∀ j, j < 512 → (l j).natAbs ≤ 33554432) := fun j hj => by have := hb j hj; omega
  have HL := Lib.hid hl
  clear hC ha h4 hcl hb hl
  go_enter Tryz.func116, Tryz.ntmps116
  go_wp2_with (go_at_call 146; go_loud (refine (HK.out).mono ?_); rintro e w3 ⟨g3, rfl, i3, s3, z3⟩; have HI3 : RowKit.Hid (IFun w3 g3 2 .i64 640 (addF (soundF b l) left 0 0)) := IFun.ext i3 fun j _ => (addF_start _ _ 0 j).symm; have HS3 : RowKit.Hid (w.heap.size ≤ g3) := s3; have HB3 := Lib.hid z3; clear i3 s3 z3 HK)
  go_loopw [11] (fun i wx => ∃ k : Nat, k ≤ 128 ∧ i = .int .i64 (k : Int) ∧ RowKit.Hid (IFun wx g3 2 .i64 640 (addF (soundF b l) left 0 k) ∧ Below w.heap.size w wx)) (fun i _ => 128 - (intOf i).toNat)
  case atStart => exact ⟨0, by omega, rfl, HI3.out, HB3.out⟩
  case round =>
    obtain ⟨k, hk, rfl, HJ⟩ := hrel
    clear HI3 HB3
    by_cases hlk : k < 128
    · have k1 := (HJ.out.2.cell (p := ⟨x, off + k, none⟩) hxl).trans (H4.out k hlk)
      have o1 := HJ.out.1.cell (j := 0 + k) (by omega)
      rw [addF_here, Nat.zero_add] at o1
      have f1 := HJ.out.1.frozen k
      have hx := soundF_edge (l := l) HBa.out b (i := k) (.inl hlk)
      have hy := HL.out k hlk
      have HS : RowKit.Hid (∀ i, IFun ((wr.setCell ⟨g3, k, none⟩ (.int .i64 (soundF b l k + left k))).drewN i) g3 2 .i64 640 (addF (soundF b l) left 0 (k + 1)) ∧ Below w.heap.size w ((wr.setCell ⟨g3, k, none⟩ (.int .i64 (soundF b l k + left k))).drewN i)) := fun i =>
        ⟨(IFun.ext (HJ.out.1.set (j := k) (by omega) (soundF b l k + left k)) fun j _ => by have := addF_next (soundF b l) left 0 k j; rw [Nat.zero_add] at this; exact this).drewN i, Below.drewN' (HJ.out.2.setCell HS3.out _) i⟩
      generalize soundF b l k = x1 at o1 hx HS
      generalize left k = y1 at k1 hy HS
      have l2 : (k : Int) < 128 := by omega
      have x2 : -2147483647 ≤ x1 := by omega
      have x3 : x1 ≤ 2147483647 := by omega
      have y2 : -2147483647 ≤ y1 := by omega
      have y3 : y1 ≤ 2147483647 := by omega
      have g3' : IntKind.i64.wrap (x1 + y1) = x1 + y1 := IntWalk.i64_in _ (by omega)
      clear HJ hx hy
      go_wp2
      go_region
      all_goals
        go_wp2
        go_roundw
        case rel => exact ⟨k + 1, by omega, by go_num, HS.out 1⟩
        case measure => simp [intOf] <;> omega
    · have l2 : ¬ (k : Int) < 128 := by omega
      have HX : RowKit.Hid (IFun wr g3 2 .i64 640 (bothF b l left)) := IFun.ext HJ.out.1 fun i _ => by rw [show k = 128 by omega]; exact addF_both b l left i
      have HB3 := Lib.hid HJ.out.2
      have hgl := HJ.out.1.lt
      clear HJ
      obtain ⟨wm, rfl⟩ : ∃ wm, wm = wr := ⟨_, rfl⟩
      have H0 : RowKit.Hid (wm.ownsRow wm.heap.size 2 1 (.slice none 0 0) 0 ((tabF 0 (samplesF b l left)).map (Value.int .i64)) ∧ Below wm.heap.size wm wm) := ⟨World.ownsRow_nil wm wm.heap.size 2 1, Below.refl _ _⟩
      go_wp2
      go_loopw [12, 13] (fun v i wx => ∃ j : Nat, j ≤ 512 ∧ i = .int .i64 (j : Int) ∧ RowKit.Hid (wx.ownsRow wm.heap.size 2 1 v j ((tabF j (samplesF b l left)).map (Value.int .i64)) ∧ Below wm.heap.size wm wx)) (fun _ i _ => 512 - (intOf i).toNat)
      case atStart => exact ⟨0, by omega, rfl, H0.out⟩
      case round =>
        obtain ⟨j, hj, rfl, HH⟩ := hrel
        clear H0
        have hsz := HH.out.2.size
        by_cases hlj : j < 512
        · have k1 := (HH.out.2.cell (p := ⟨g3, j, none⟩) hgl).trans (HX.out.cell (j := j) (by omega))
          have hx := bothF_abs (left := left) HBa.out HL.out b (i := j) (by omega)
          have HE : RowKit.Hid (tabF j (samplesF b l left) ++ [samplesF b l left j] = tabF (j + 1) (samplesF b l left)) := tab_snoc _ _ _ rfl
          have HR : RowKit.Hid (satP (rndP (bothF b l left j) 4) 16 = samplesF b l left j) := rfl
          generalize samplesF b l left j = y at HE HR
          generalize bothF b l left j = X at k1 hx HR
          have hr := rnd4 X
          obtain ⟨r, hrr⟩ : ∃ r, r = rndP X 4 := ⟨_, rfl⟩
          have HRR := Lib.hid hrr.symm
          rw [← hrr] at HR hr
          clear hrr
          have hy := satP_bd r 16
          rw [HR.out] at hy
          obtain ⟨y0, y1⟩ := hy
          have x0 : -2147483647 ≤ X := by omega
          have x1 : X ≤ 2147483647 := by omega
          have r0 : -9223372036854775808 ≤ r := by omega
          have r1 : r ≤ 9223372036854775807 := by omega
          clear hx hr
          have l3 : (j : Int) < 512 := by omega
          have HA := Lib.hid (World.ownsRow.alloc HH.out.1 (.cells #[.int .i64 y] 2))
          have HAB := Lib.hid (HH.out.2.alloc hsz (.cells #[.int .i64 y] 2))
          have hsrc := Lib.hid (lit_ints wr 2 .i64 [y] #[.int .i64 y] (0, 0) rfl (by simp))
          go_wp2_with (first | (go_at_call 104; refine (refRound_any X 4 _ (by omega) (by omega)).mono ?_; rintro e w' ⟨rfl, rfl⟩; rw [HRR.out]) | (go_at_call 107; refine (refSat_any r 16 _ r0 r1).mono ?_; rintro e w' ⟨rfl, rfl⟩; rw [HR.out]) | (at_builtin; go_loud (refine append_ints rfl _ _ 66 rfl wm.heap.size 2 .i64 8 Tryz.underlying66 info_i649 u12 j (tabF j (samplesF b l left)) rfl HA.out (some ⟨wr.heap.size, 0, none⟩) 1 1 _ [y] rfl hsrc.out (by simp) (by unfold maxLen; omega) (by omega) (by simp; omega) ?_); intro v1 w5 hown hgrow _; have HO : RowKit.Hid (w5.ownsRow wm.heap.size 2 1 v1 (j + 1) ((tabF (j + 1) (samplesF b l left)).map (Value.int .i64))) := (by rw [← HE.out]; exact hown); have HB1 : RowKit.Hid (Below wm.heap.size wm w5) := HAB.out.grown hgrow (by simp; omega) (own_base HA.out); clear hown hgrow))
          go_roundw
          case rel => exact ⟨j + 1, by omega, by go_num, HO.out, HB1.out⟩
          case measure => simp [intOf] <;> omega
        · obtain rfl : j = 512 := by omega
          have HZ : RowKit.Hid (∀ i, (wr.drewN i).ownsRow w.heap.size 2 1 u12 512 ((tabF 512 (samplesF b l left)).map (Value.int .i64)) ∧ IFun (wr.drewN i) g3 2 .i64 640 (bothF b l left) ∧ Below w.heap.size w (wr.drewN i)) := fun i => by
            refine ⟨?_, ?_, Below.drewN' (chain HB3.out HH.out.2) i⟩
            · refine own_drewN ⟨HH.out.1.1, ?_⟩ i
              rcases HH.out.1.2 with h0 | ⟨g, cp, cur, h1, h2, h3, h5⟩
              · exact .inl h0
              · exact .inr ⟨g, cp, cur, h1, Nat.le_trans HB3.out.size h2, h3, h5⟩
            · exact IFun.drewN (HX.out.below HH.out.2 hgl) i
          clear HH
          go_wp2
          go_quiet (fail)
          go_wp2
          go_ret2
          exact ⟨_, g3, rfl, (HZ.out _).1, (HZ.out _).2.1, HS3.out, (HZ.out _).2.2⟩
end Go.Proofs.YtmgfkdmjgjlkjaaGreat

namespace Go.Proofs.YtmgfkdmjgjlkjaaGreat
open Go.RowKit
set_option linter.unusedVariables false
def frmF (zs : List Int) (len fr i : Nat) : Int := if len = 0 then 0 else zs.getD ((fr + i) % len) 0
section
variable {zs : List Int} {len : Nat}
theorem frmF_bd (hz : ∀ j, -32768 ≤ zs.getD j 0 ∧ zs.getD j 0 ≤ 32767) (fr i : Nat) : -32768 ≤ frmF zs len fr i ∧ frmF zs len fr i ≤ 32767 := by
  unfold frmF
  split
  · omega
  · exact hz _
end
theorem OvAt.keeps {t t' : TypeId} {k : IntKind} {w w' : World} {s b c p q : Nat} {f : Nat → Int} {cs : Array Value} (h : OvAt t k w s c p q f) (hb : Cel w b t' cs) (hne : s ≠ b) (h1 : t' ≠ 234) (h2 : t' ≠ 232) (hk : Keeps (· = b) w w') : OvAt t k w' s c p q f :=
  ⟨h.1.keep (hk.block _ h.1.lt hne), h.2.keeps hb h1 h2 hk⟩
end Go.Proofs.YtmgfkdmjgjlkjaaGreat
