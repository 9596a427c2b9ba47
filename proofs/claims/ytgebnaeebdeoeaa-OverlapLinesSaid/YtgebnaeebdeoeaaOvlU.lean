/- What the document's answers for layer 9 give: sound, brief; samples, and what is left. -/
import Derived.Test.YtgebnaeebdeoeaaOvlS
namespace Go.Proofs.Ytgebnaeebdeoeaa
open Go.RowKit
set_option linter.unusedVariables false

set_option maxHeartbeats 1000000 in
set_option maxRecDepth 100000 in
theorem ref9Sound_brief (c cap : Nat) (a : Option Addr) (l : Nat → Int) (w : World) (hC : IFun w c 2 .i64 1025 cosN) (ha : FnAt w w.heap.size .i64 a 512 l) (hb : ∀ j, j < 512 → -33554432 ≤ l j ∧ l j ≤ 33554431) :
    Calls Try.prog 26 #[.slice (some ⟨c, 0, none⟩) 1025 1025, .slice a 512 cap, .bool true] w (RowPost .i64 2 640 (soundF true l) w) := by
  have HB := Lib.hid hb
  obtain ⟨b, off, rfl, hbl, hcl⟩ := id ha
  have HCC := Lib.hid hcl
  have HX0 : RowKit.Hid (IFun (w.alloc (.cells (madeCells #[.int .i64 0] 640) 2)) w.heap.size 2 .i64 640 (soundA l 0)) := IFun.zeros w 2 .i64 640
  have HB0 := Lib.hid (Below.alloc_new w (.cells (madeCells #[.int .i64 0] 640) 2))
  have HC0 := Lib.hid (hC.below HB0.out hC.lt)
  have HCl := Lib.hid hC.lt
  have hmk : ∀ w : World, (Instr.makeSlice 25 (.int .i64 640) (.int .i64 640)).run Try.prog w = .ok (.slice (some ⟨w.heap.size, 0, none⟩) 640 640) (w.alloc (.cells (madeCells #[.int .i64 0] 640) 2)) :=
    fun w => make_zeros (P := Try.prog) Try.underlying25 info_i64 640 (by decide) (by decide) w
  have hmk2 : ∀ w : World, (Instr.makeSlice 25 (.int .i64 128) (.int .i64 128)).run Try.prog w = .ok (.slice (some ⟨w.heap.size, 0, none⟩) 128 128) (w.alloc (.cells (madeCells #[.int .i64 0] 128) 2)) :=
    fun w => make_zeros (P := Try.prog) Try.underlying25 info_i64 128 (by decide) (by decide) w
  have HZ : RowKit.Hid (∀ w : World, IFun (w.alloc (.cells (madeCells #[.int .i64 0] 128) 2)) w.heap.size 2 .i64 128 (fun _ => 0)) := fun w => IFun.zeros w 2 .i64 128
  clear hC ha hb hcl
  generalize madeCells #[Value.int .i64 0] 640 = mc at HX0 HB0 HC0 hmk
  generalize madeCells #[Value.int .i64 0] 128 = md at HZ hmk2
  go_enter Try.func26, Try.ntmps26
  go_wp2
  clear hmk
  generalize w.alloc (.cells mc 2) = w2 at HX0 HB0 HC0 ⊢
  go_loopw [8] (fun i wr => ∃ m : Nat, m ≤ 4 ∧ i = .int .i64 (m : Int) ∧ RowKit.Hid (IFun wr w.heap.size 2 .i64 640 (soundA l m) ∧ IFun wr c 2 .i64 1025 cosN ∧ Below w.heap.size w wr)) (fun i _ => 4 - (intOf i).toNat)
  case atStart => exact ⟨0, by omega, rfl, HX0.out, HC0.out, HB0.out⟩
  case round =>
    obtain ⟨m, hm, rfl, HI⟩ := hrel
    clear HX0 HC0 HB0
    by_cases hlt : m < 4
    · have l1 : (m : Int) < 4 := by omega
      have H0 : RowKit.Hid (IFun (wr.alloc (.cells md 2)) w.heap.size 2 .i64 640 (soundA l m) ∧ IFun (wr.alloc (.cells md 2)) c 2 .i64 1025 cosN ∧ Below w.heap.size w (wr.alloc (.cells md 2)) ∧ IFun (wr.alloc (.cells md 2)) wr.heap.size 2 .i64 128 (upTo (pickF l m) (fun _ => 0) 0)) :=
        ⟨HI.out.1.alloc _, HI.out.2.1.alloc _, chain HI.out.2.2 (Below.alloc_new _ _), IFun.ext (HZ.out wr) fun j _ => (upTo_start (pickF l m) (fun _ => 0) j).symm⟩
      have HY : RowKit.Hid (w.heap.size < wr.heap.size ∧ c < wr.heap.size) := ⟨HI.out.1.lt, HI.out.2.1.lt⟩
      clear HI
      go_wp2
      generalize wr.heap.size = Y at H0 HY ⊢
      generalize wr.alloc (.cells md 2) = w3 at H0 ⊢
      go_loopw [10] (fun i wx => ∃ k : Nat, k ≤ 128 ∧ i = .int .i64 (k : Int) ∧ RowKit.Hid (IFun wx w.heap.size 2 .i64 640 (soundA l m) ∧ IFun wx c 2 .i64 1025 cosN ∧ Below w.heap.size w wx ∧ IFun wx Y 2 .i64 128 (upTo (pickF l m) (fun _ => 0) k))) (fun i _ => 128 - (intOf i).toNat)
      case atStart => exact ⟨0, by omega, rfl, H0.out⟩
      case round =>
        obtain ⟨k, hk, rfl, HJ⟩ := hrel
        clear H0
        by_cases hlk : k < 128
        · obtain ⟨P, hP⟩ : ∃ P, P = 4 * k + m := ⟨_, rfl⟩
          have eP : 4 * (k : Int) + (m : Int) = (P : Int) := by omega
          have P1 : P < 512 := by omega
          have k1 := (HJ.out.2.2.1.cell (p := ⟨b, off + P, none⟩) hbl).trans (HCC.out P P1)
          have o1 := HJ.out.2.2.2.cell hlk
          have f1 := HJ.out.2.2.2.frozen k
          have HS : RowKit.Hid (IFun (wr.setCell ⟨Y, k, none⟩ (.int .i64 (l P))) w.heap.size 2 .i64 640 (soundA l m) ∧ IFun (wr.setCell ⟨Y, k, none⟩ (.int .i64 (l P))) c 2 .i64 1025 cosN ∧ Below w.heap.size w (wr.setCell ⟨Y, k, none⟩ (.int .i64 (l P))) ∧ IFun (wr.setCell ⟨Y, k, none⟩ (.int .i64 (l P))) Y 2 .i64 128 (upTo (pickF l m) (fun _ => 0) (k + 1))) := by
            obtain ⟨hy, hy2⟩ := HY.out
            refine ⟨HJ.out.1.far (by show w.heap.size ≠ Y; omega) _, HJ.out.2.1.far (by show c ≠ Y; omega) _, HJ.out.2.2.1.setCell (by show w.heap.size ≤ Y; omega) _, IFun.ext (HJ.out.2.2.2.set (j := k) hlk (l P)) fun i _ => ?_⟩
            rw [show l P = pickF l m k by unfold pickF; rw [hP]]; exact upTo_next (pickF l m) _ k i
          have hlb := HB.out P P1
          generalize l P = x at k1 HS hlb
          generalize upTo (pickF l m) (fun _ => 0) k k = old at o1
          have l2 : (k : Int) < 128 := by omega
          have l3 : (P : Int) < 512 := by omega
          clear HJ hP
          go_wp2
          go_roundw
          case rel => exact ⟨k + 1, by omega, by go_num, HS.out⟩
          case measure => simp [intOf] <;> omega
        · have l2 : ¬ (k : Int) < 128 := by omega
          have HL : RowKit.Hid (IFun wr Y 2 .i64 128 (pickF l m)) := IFun.ext HJ.out.2.2.2 fun i hi => by rw [show k = 128 by omega]; exact upTo_end _ _ 128 i hi
          have HX := Lib.hid HJ.out.1
          have HC := Lib.hid HJ.out.2.1
          have HBw := Lib.hid HJ.out.2.2.1
          clear HJ HZ hmk2
          have HPb : RowKit.Hid (∀ j, j < 128 → -33554432 ≤ pickF l m j ∧ pickF l m j ≤ 33554431) := fun j hj => HB.out (4 * j + m) (by omega)
          have HVb : RowKit.Hid (∀ j, j < 256 → (backF 128 (pickF l m) j).natAbs ≤ 536870500) := fun j hj => backF_128 (fun j hj => by have := HPb.out j hj; omega) hj
          go_wp2_with (first | (go_at_call 42; go_loud (refine (refBack_any c 128 256 128 _ (pickF l m) _ HC.out (.inl rfl) rfl (FnAt.of_ifun HL.out) HPb.out).mono ?_); rintro e w5 ⟨g5, rfl, i5, s5, z5⟩; have HI5 := Lib.hid i5; have HX5 := Lib.hid (HX.out.below z5 HX.out.lt); have HC5 := Lib.hid (HC.out.below z5 HC.out.lt); have HB5 := Lib.hid (chain HBw.out z5); clear i5 s5 z5) | (go_at_call 21; go_loud (refine (ref9Shape_any c 256 _ (some ⟨g5, 0, none⟩) (backF 128 (pickF l m)) w5 HC5.out (by decide) (by decide) (FnAt.of_ifun HI5.out) (fun j hj => by have := HVb.out j hj; omega)).mono ?_); rintro e w7 ⟨g7, rfl, i7, s7, z7⟩; have HI7 := Lib.hid i7; have HX7 := Lib.hid (HX5.out.below z7 HX5.out.lt); have HC7 := Lib.hid (HC5.out.below z7 HC5.out.lt); have HB7 := Lib.hid (chain HB5.out z7); have HN7 : RowKit.Hid (w.heap.size < g7) := Nat.lt_of_lt_of_le HX5.out.lt s7; clear i7 s7 z7))
          clear HL HX HC HBw HPb HI5 HX5 HC5 HB5
          obtain ⟨A, hA⟩ : ∃ A, A = 128 * m := ⟨_, rfl⟩
          have HM := Lib.hid hA
          have e1 : 128 * (m : Int) = (A : Int) := by omega
          have g1 : IntKind.i64.wrap (A : Int) = (A : Int) := IntWalk.i64_in _ (by omega)
          have HS0 : RowKit.Hid (IFun w7 w.heap.size 2 .i64 640 (addF (soundA l m) (shapeF 256 (backF 128 (pickF l m))) A 0)) := IFun.ext HX7.out fun j _ => (addF_start _ _ A j).symm
          clear HX7 hA
          go_loopw [12] (fun i wx => ∃ k : Nat, k ≤ 256 ∧ i = .int .i64 (k : Int) ∧ RowKit.Hid (IFun wx w.heap.size 2 .i64 640 (addF (soundA l m) (shapeF 256 (backF 128 (pickF l m))) A k) ∧ IFun wx c 2 .i64 1025 cosN ∧ Below w.heap.size w wx ∧ IFun wx g7 2 .i64 256 (shapeF 256 (backF 128 (pickF l m))))) (fun i _ => 256 - (intOf i).toNat)
          case atStart => exact ⟨0, by omega, rfl, HS0.out, HC7.out, HB7.out, HI7.out⟩
          case round =>
            obtain ⟨k, hk, rfl, HJ⟩ := hrel
            clear HS0 HC7 HB7 HI7
            by_cases hlk : k < 256
            · obtain ⟨P, hP⟩ : ∃ P, P = A + k := ⟨_, rfl⟩
              have eP : (A : Int) + (k : Int) = (P : Int) := by omega
              have P1 : P < 640 := by omega
              have k1 := HJ.out.2.2.2.cell hlk
              have o1 := HJ.out.1.cell (j := P) P1
              rw [hP, addF_here, ← hP] at o1
              have f1 := HJ.out.1.frozen P
              have hx := soundA_abs (l := l) (fun j hj => by have := HB.out j hj; omega) (m := m) (by omega) P
              have hy := shapeF_abs (N := 256) (HVb.out k hlk)
              have HS : RowKit.Hid (∀ i, IFun ((wr.setCell ⟨w.heap.size, P, none⟩ (.int .i64 (soundA l m P + shapeF 256 (backF 128 (pickF l m)) k))).drewN i) w.heap.size 2 .i64 640 (addF (soundA l m) (shapeF 256 (backF 128 (pickF l m))) A (k + 1)) ∧ IFun ((wr.setCell ⟨w.heap.size, P, none⟩ (.int .i64 (soundA l m P + shapeF 256 (backF 128 (pickF l m)) k))).drewN i) c 2 .i64 1025 cosN ∧ Below w.heap.size w ((wr.setCell ⟨w.heap.size, P, none⟩ (.int .i64 (soundA l m P + shapeF 256 (backF 128 (pickF l m)) k))).drewN i) ∧ IFun ((wr.setCell ⟨w.heap.size, P, none⟩ (.int .i64 (soundA l m P + shapeF 256 (backF 128 (pickF l m)) k))).drewN i) g7 2 .i64 256 (shapeF 256 (backF 128 (pickF l m)))) := fun i =>
                ⟨(IFun.ext (HJ.out.1.set (j := P) P1 (soundA l m P + shapeF 256 (backF 128 (pickF l m)) k)) fun j _ => by rw [hP]; exact addF_next _ _ A k j).drewN i, (HJ.out.2.1.far (by have := HCl.out; show c ≠ w.heap.size; omega) _).drewN i, Below.drewN' (HJ.out.2.2.1.setCell (Nat.le_refl _) _) i, (HJ.out.2.2.2.far (by have := HN7.out; show g7 ≠ w.heap.size; omega) _).drewN i⟩
              generalize soundA l m P = x at o1 hx HS
              generalize shapeF 256 (backF 128 (pickF l m)) k = y at k1 hy HS
              have l2 : (k : Int) < 256 := by omega
              have l3 : (P : Int) < 640 := by omega
              have g2 : IntKind.i64.wrap (P : Int) = (P : Int) := IntWalk.i64_in _ (by omega)
              have x0 : -2147483647 ≤ x := by omega
              have x1 : x ≤ 2147483647 := by omega
              have y0 : -2147483647 ≤ y := by omega
              have y1 : y ≤ 2147483647 := by omega
              have g3 : IntKind.i64.wrap (x + y) = x + y := IntWalk.i64_in _ (by omega)
              clear HJ hP hx hy
              go_wp2
              go_region
              all_goals
                go_wp2
                go_roundw
                case rel => exact ⟨k + 1, by omega, by go_num, HS.out 1⟩
                case measure => simp [intOf] <;> omega
            · have l2 : ¬ (k : Int) < 256 := by omega
              have HS : RowKit.Hid (IFun wr w.heap.size 2 .i64 640 (soundA l (m + 1)) ∧ IFun wr c 2 .i64 1025 cosN ∧ Below w.heap.size w wr) :=
                ⟨IFun.ext HJ.out.1 fun i _ => by rw [show k = 256 by omega, HM.out]; exact addF_sound l m i, HJ.out.2.1, HJ.out.2.2.1⟩
              clear HJ
              go_wp2
              go_roundw
              case rel => exact ⟨m + 1, by omega, by go_num, HS.out⟩
              case measure => simp [intOf] <;> omega
    · obtain rfl : m = 4 := by omega
      have Z : RowKit.Hid (IFun wr w.heap.size 2 .i64 640 (soundF true l) ∧ Below w.heap.size w wr) := ⟨HI.out.1, HI.out.2.2⟩
      go_wp2
      go_ret
      exact ⟨_, rfl, Z.out.1, Nat.le_refl _, Z.out.2⟩
theorem ref9Sound_any (c cap : Nat) (a : Option Addr) (l : Nat → Int) (b : Bool) (w : World) (hC : IFun w c 2 .i64 1025 cosN) (ha : FnAt w w.heap.size .i64 a 512 l) (hb : ∀ j, j < 512 → -33554432 ≤ l j ∧ l j ≤ 33554431) :
    Calls Try.prog 26 #[.slice (some ⟨c, 0, none⟩) 1025 1025, .slice a 512 cap, .bool b] w (RowPost .i64 2 640 (soundF b l) w) := by
  cases b with
  | false => exact ref9Sound_long c cap a l w hC ha hb
  | true => exact ref9Sound_brief c cap a l w hC ha hb
end Go.Proofs.Ytgebnaeebdeoeaa
