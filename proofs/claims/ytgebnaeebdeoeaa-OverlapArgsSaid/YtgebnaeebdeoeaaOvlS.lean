/- What the document's answers for layer 9 give: lines, brief; sound. -/
import Derived.Test.YtgebnaeebdeoeaaOvlR
namespace Go.Proofs.Ytgebnaeebdeoeaa
open Go.RowKit
set_option linter.unusedVariables false

set_option maxRecDepth 100000 in
theorem ref9Lines_brief (c cap : Nat) (a : Option Addr) (all : Nat → Int) (w : World) (hC : IFun w c 2 .i64 1025 cosN) (ha : FnAt w w.heap.size .i64 a 640 all) (hb : ∀ j, j < 640 → (all j).natAbs ≤ 524288) (hc : 640 ≤ cap) (hc' : cap ≤ 9223372036854775807) :
    Calls Try.prog 12 #[.slice (some ⟨c, 0, none⟩) 1025 1025, .slice a 640 cap, .bool true] w (RowPost .i64 2 512 (linesF true all) w) := by
  have HB := Lib.hid hb
  obtain ⟨b, off, rfl, _, _⟩ := id ha
  have HX0 : RowKit.Hid (IFun (w.alloc (.cells (madeCells #[.int .i64 0] 512) 2)) w.heap.size 2 .i64 512 (briefA all 0 0)) := IFun.ext (IFun.zeros w 2 .i64 512) fun j _ => (briefA_start all j).symm
  have HB0 := Lib.hid (Below.alloc_new w (.cells (madeCells #[.int .i64 0] 512) 2))
  have HC0 := Lib.hid (hC.below HB0.out hC.lt)
  have HCl := Lib.hid hC.lt
  have HA := Lib.hid ha
  have hmk : ∀ w : World, (Instr.makeSlice 25 (.int .i64 512) (.int .i64 512)).run Try.prog w = .ok (.slice (some ⟨w.heap.size, 0, none⟩) 512 512) (w.alloc (.cells (madeCells #[.int .i64 0] 512) 2)) :=
    fun w => make_zeros (P := Try.prog) Try.underlying25 info_i64 512 (by decide) (by decide) w
  clear hC ha hb
  generalize madeCells #[Value.int .i64 0] 512 = mc at HX0 HB0 HC0 hmk
  go_enter Try.func12, Try.ntmps12
  go_wp2
  clear hmk
  generalize w.alloc (.cells mc 2) = w2 at HX0 HB0 HC0 ⊢
  go_loopw [11] (fun i wr => ∃ m : Nat, m ≤ 4 ∧ i = .int .i64 (m : Int) ∧ RowKit.Hid (IFun wr w.heap.size 2 .i64 512 (briefA all m 0) ∧ IFun wr c 2 .i64 1025 cosN ∧ Below w.heap.size w wr)) (fun i _ => 4 - (intOf i).toNat)
  case atStart => exact ⟨0, by omega, rfl, HX0.out, HC0.out, HB0.out⟩
  case round =>
    obtain ⟨m, hm, rfl, HI⟩ := hrel
    clear HX0 HC0 HB0
    by_cases hlt : m < 4
    · obtain ⟨A, hA⟩ : ∃ A, A = 128 * m := ⟨_, rfl⟩
      obtain ⟨D, hD⟩ : ∃ D, D = 128 * m + 256 := ⟨_, rfl⟩
      have e1 : 128 * (m : Int) = (A : Int) := by omega
      have e2 : (A : Int) + 256 = (D : Int) := by omega
      have b1 : (0 : Int) ≤ (A : Int) := by omega
      have b2 : (A : Int) ≤ (D : Int) := by omega
      have b3 : (D : Int) ≤ (cap : Int) := by omega
      have l1 : (m : Int) < 4 := by omega
      have HAr : RowKit.Hid (FnAt wr wr.heap.size .i64 (some ⟨b, off + A, none⟩) 256 (fun j => all (128 * m + j))) := ((HA.out.now HI.out.2.2).sub A 256 (by omega)).ext fun j _ => by rw [show A + j = 128 * m + j by omega]
      have q1 : D - A = 256 := by omega
      have q2 : ¬ cap = A := by omega
      clear hA hD
      go_wp2_with (first | (go_at_call 21; go_loud (refine (ref9Shape_any c 256 _ (some ⟨b, off + A, none⟩) (fun j => all (128 * m + j)) wr HI.out.2.1 (by decide) (by decide) HAr.out (fun j hj => by have := HB.out (128 * m + j) (by omega); omega)).mono ?_); rintro e w3 ⟨G3, rfl, i3, s3, z3⟩; have HI3 : RowKit.Hid (IFun w3 G3 2 .i64 256 (blkF all m)) := i3; have HX3 := Lib.hid (HI.out.1.below z3 HI.out.1.lt); have HC3 := Lib.hid (HI.out.2.1.below z3 HI.out.2.1.lt); have HB3 := Lib.hid (chain HI.out.2.2 z3); clear i3 s3 z3) | (go_at_call 22; go_loud (refine (refForward_any c 128 256 256 _ (blkF all m) w3 HC3.out (.inl rfl) rfl (FnAt.of_ifun HI3.out) (fun j hj => by have := blkF_abs HB.out hlt hj; omega)).mono ?_); rintro e w5 ⟨g5, rfl, i5, s5, z5⟩; have HI5 := Lib.hid i5; have HS5 : RowKit.Hid (w.heap.size < g5) := Nat.lt_of_lt_of_le HX3.out.lt s5; have HX5 := Lib.hid (HX3.out.below z5 HX3.out.lt); have HC5 := Lib.hid (HC3.out.below z5 HC3.out.lt); have HB5 := Lib.hid (chain HB3.out z5); clear i5 s5 z5))
      clear HX3 HC3 HB3 HI3 HI HAr b1 b2 b3 e1 e2 q1 q2
      go_loopw [13] (fun i wx => ∃ k : Nat, k ≤ 128 ∧ i = .int .i64 (k : Int) ∧ RowKit.Hid (IFun wx w.heap.size 2 .i64 512 (briefA all m k) ∧ IFun wx c 2 .i64 1025 cosN ∧ Below w.heap.size w wx ∧ IFun wx g5 2 .i64 128 (fwdF 128 (blkF all m)))) (fun i _ => 128 - (intOf i).toNat)
      case atStart => exact ⟨0, by omega, rfl, HX5.out, HC5.out, HB5.out, HI5.out⟩
      case round =>
        obtain ⟨k, hk, rfl, HJ⟩ := hrel
        clear HX5 HC5 HB5 HI5
        by_cases hlk : k < 128
        · obtain ⟨P, hP⟩ : ∃ P, P = 4 * k + m := ⟨_, rfl⟩
          have eP : 4 * (k : Int) + (m : Int) = (P : Int) := by omega
          have P1 : P < 512 := by omega
          have k1 := HJ.out.2.2.2.cell hlk
          have o1 := HJ.out.1.cell (j := P) P1
          have f1 := HJ.out.1.frozen P
          have HS : RowKit.Hid (IFun (wr.setCell ⟨w.heap.size, P, none⟩ (.int .i64 (fwdF 128 (blkF all m) k))) w.heap.size 2 .i64 512 (briefA all m (k + 1)) ∧ IFun (wr.setCell ⟨w.heap.size, P, none⟩ (.int .i64 (fwdF 128 (blkF all m) k))) c 2 .i64 1025 cosN ∧ Below w.heap.size w (wr.setCell ⟨w.heap.size, P, none⟩ (.int .i64 (fwdF 128 (blkF all m) k))) ∧ IFun (wr.setCell ⟨w.heap.size, P, none⟩ (.int .i64 (fwdF 128 (blkF all m) k))) g5 2 .i64 128 (fwdF 128 (blkF all m))) :=
            ⟨IFun.ext (HJ.out.1.set (j := P) P1 (fwdF 128 (blkF all m) k)) fun i _ => briefA_next all hlt hP i, HJ.out.2.1.far (by have := HCl.out; show c ≠ w.heap.size; omega) _, HJ.out.2.2.1.setCell (Nat.le_refl _) _, HJ.out.2.2.2.far (by have := HS5.out; show g5 ≠ w.heap.size; omega) _⟩
          generalize fwdF 128 (blkF all m) k = x at k1 HS
          generalize briefA all m k P = old at o1
          have l2 : (k : Int) < 128 := by omega
          have l3 : (P : Int) < 512 := by omega
          clear HJ hP
          go_wp2
          go_roundw
          case rel => exact ⟨k + 1, by omega, by go_num, HS.out⟩
          case measure => simp [intOf] <;> omega
        · have l2 : ¬ (k : Int) < 128 := by omega
          have HS : RowKit.Hid (IFun wr w.heap.size 2 .i64 512 (briefA all (m + 1) 0) ∧ IFun wr c 2 .i64 1025 cosN ∧ Below w.heap.size w wr) :=
            ⟨IFun.ext HJ.out.1 fun i hi => by rw [show k = 128 by omega]; exact briefA_block all m i hi, HJ.out.2.1, HJ.out.2.2.1⟩
          clear HJ
          go_wp2
          go_roundw
          case rel => exact ⟨m + 1, by omega, by go_num, HS.out⟩
          case measure => simp [intOf] <;> omega
    · obtain rfl : m = 4 := by omega
      have Z : RowKit.Hid (IFun wr w.heap.size 2 .i64 512 (linesF true all) ∧ Below w.heap.size w wr) := ⟨IFun.ext HI.out.1 fun i _ => briefA_end all i, HI.out.2.2⟩
      go_wp2
      go_ret
      exact ⟨_, rfl, Z.out.1, Nat.le_refl _, Z.out.2⟩
theorem ref9Lines_any (c cap : Nat) (a : Option Addr) (all : Nat → Int) (b : Bool) (w : World) (hC : IFun w c 2 .i64 1025 cosN) (ha : FnAt w w.heap.size .i64 a 640 all) (hb : ∀ j, j < 640 → (all j).natAbs ≤ 524288) (hc : 640 ≤ cap) (hc' : cap ≤ 9223372036854775807) :
    Calls Try.prog 12 #[.slice (some ⟨c, 0, none⟩) 1025 1025, .slice a 640 cap, .bool b] w (RowPost .i64 2 512 (linesF b all) w) := by
  cases b with
  | false => exact ref9Lines_long c cap a all w hC ha hb
  | true => exact ref9Lines_brief c cap a all w hC ha hb hc hc'

set_option maxRecDepth 100000 in
theorem ref9Sound_long (c cap : Nat) (a : Option Addr) (l : Nat → Int) (w : World) (hC : IFun w c 2 .i64 1025 cosN) (ha : FnAt w w.heap.size .i64 a 512 l) (hb : ∀ j, j < 512 → -33554432 ≤ l j ∧ l j ≤ 33554431) :
    Calls Try.prog 26 #[.slice (some ⟨c, 0, none⟩) 1025 1025, .slice a 512 cap, .bool false] w (RowPost .i64 2 640 (soundF false l) w) := by
  have HB := Lib.hid hb
  have HC := Lib.hid hC
  have HA := Lib.hid ha
  have HXb : RowKit.Hid (∀ j, j < 640 → (backF 512 l (192 + j)).natAbs ≤ 2147483647) := fun j hj => by
    have := backF_512 (l := l) (fun j hj => by have := hb j hj; omega) (i := 192 + j) (by omega); omega
  clear hC ha hb
  go_enter Try.func26, Try.ntmps26
  go_wp2_with (first | (go_at_call 42; go_loud (refine (refBack_any c 512 1024 cap a l w HC.out (.inr rfl) rfl HA.out HB.out).mono ?_); rintro e w3 ⟨g3, rfl, i3, s3, z3⟩; have HI3 := Lib.hid i3; have HC3 := Lib.hid (HC.out.below z3 HC.out.lt); have HB3 := Lib.hid z3; clear i3 s3 z3) | (go_at_call 21; go_loud (refine (ref9Shape_any c 640 _ (some ⟨g3, 192, none⟩) (fun j => backF 512 l (192 + j)) w3 HC3.out (by decide) (by decide) ⟨g3, 192, rfl, HI3.out.lt, fun j hj => HI3.out.cell (by omega)⟩ HXb.out).mono ?_); rintro e w5 ⟨g5, rfl, i5, s5, z5⟩; have HI5 : RowKit.Hid (IFun w5 g5 2 .i64 640 (soundF false l)) := i5; have HS5 : RowKit.Hid (w.heap.size ≤ g5) := Nat.le_trans HB3.out.size s5; have HB5 := Lib.hid (chain HB3.out z5); clear i5 s5 z5))
  go_ret
  exact ⟨g5, rfl, HI5.out, HS5.out, HB5.out⟩
end Go.Proofs.Ytgebnaeebdeoeaa
