/- Plain facts, and what functions give, for the proofs of this seat: several texts in one, each with its own first remark. -/
import Derived.Test.YtobhoecmmpijgaaGreatRF
import Derived.Test.YtobhoecmmpijgaaGreatRB
import Derived.Test.YtobhoecmmpijgaaGreatRs
import Derived.Test.YtobhoecmmpijgaaGreatRv
import Derived.Test.YtobhoecmmpijgaaGreatRt
import Derived.Test.YtobhoecmmpijgaaGreatRy

/- What the functions of package overlap give: the sound of lines. -/
namespace Go.Proofs.YtobhoecmmpijgaaGreat
open Go.RowKit
set_option linter.unusedVariables false

set_option maxRecDepth 100000 in
theorem ovSound_long (c p q cap : Nat) (a : Option Addr) (l : Nat → Int) (w : World) (hT : TlAt w c p q) (ha : FnAt w w.heap.size .i32 a 512 l) (hb : ∀ j, j < 512 → -33554432 ≤ l j ∧ l j ≤ 33554431) :
    Calls Tryz.prog 118 #[toolsV c p q, .slice a 512 cap, .bool false] w (RowsPost 640 (soundF false l) w) := by
  have HB := Lib.hid hb
  have HR0 := Lib.hid (Cel.new w 148 #[.pointer (some ⟨c, 0, none⟩), .pointer (some ⟨p, 0, none⟩), .pointer (some ⟨q, 0, none⟩)])
  have HB0 := Lib.hid (Below.alloc_new w (.cells #[.pointer (some ⟨c, 0, none⟩), .pointer (some ⟨p, 0, none⟩), .pointer (some ⟨q, 0, none⟩)] 148))
  have HT0 := Lib.hid (hT.below HB0.out)
  have HA0 := Lib.hid (ha.now HB0.out)
  have HXb : RowKit.Hid (∀ j, j < 640 → (backF 512 l (192 + j)).natAbs ≤ 2147483647) := fun j hj => by
    have := backF_512 (l := l) (fun j hj => by have := hb j hj; omega) (i := 192 + j) (by omega); omega
  clear hT ha hb
  unfold toolsV
  go_enter Tryz.func118, Tryz.ntmps118
  go_wp2_with (go_at_call 153; go_loud (refine (lapBack_any p c 512 1024 cap a l _ HT0.out.1 (.inr rfl) rfl HA0.out HB.out).mono ?_); rintro e w3 ⟨g3, rfl, i3, s3, b3⟩; have HI3 := Lib.hid i3; have HR3 : RowKit.Hid (Cel w3 w.heap.size 148 #[.pointer (some ⟨c, 0, none⟩), .pointer (some ⟨p, 0, none⟩), .pointer (some ⟨q, 0, none⟩)]) := HR0.out.below b3; have HT3 : RowKit.Hid (TlAt w3 c p q) := HT0.out.below b3; have HB3 : RowKit.Hid (Below w.heap.size w w3) := chain HB0.out b3; obtain ⟨m0, m1, m2⟩ := cel3 HR3.out; clear i3 s3 b3)
  go_region_held3 (fun w' => w'.cell? ⟨w.heap.size, 0, none⟩ = some (.pointer (some ⟨c, 0, none⟩)) ∧ w'.cell? ⟨w.heap.size, 1, none⟩ = some (.pointer (some ⟨p, 0, none⟩)) ∧ w'.cell? ⟨w.heap.size, 2, none⟩ = some (.pointer (some ⟨q, 0, none⟩))) (go_keep) (first | (go_at_call 134; go_loud (refine (ovShape_any c p q 640 _ (some ⟨g3, 192, none⟩) (fun j => backF 512 l (192 + j)) w3.drew HT3.out.1.2 (by decide) (by decide) ⟨g3, 192, rfl, HI3.out.lt, fun j hj => HI3.out.cell (by omega)⟩ HXb.out).mono ?_); rintro e w5 ⟨g5, rfl, i5, s5, b5⟩; have HI5 : RowKit.Hid (IFun w5 g5 21 .i32 640 (soundF false l)) := i5; have HS5 : RowKit.Hid (w3.heap.size ≤ g5) := s5; have HB5 : RowKit.Hid (Below w.heap.size w w5) := chain (show Below w.heap.size w w3.drew from Below.drewN' HB3.out 1) b5; have HR5 : RowKit.Hid (Cel w5 w.heap.size 148 #[.pointer (some ⟨c, 0, none⟩), .pointer (some ⟨p, 0, none⟩), .pointer (some ⟨q, 0, none⟩)]) := HR3.out.keep (b5.block _ HR3.out.lt); obtain ⟨n0, n1, n2⟩ := cel3 HR5.out; clear i5 s5 b5) | fail)
  go_wp2
  go_ret2
  exact ⟨g5, rfl, HI5.out, Nat.le_trans HB3.out.size HS5.out, HB5.out⟩
/-- The lines of block m up to k. -/
theorem addF_sound (l : Nat → Int) (m i : Nat) : addF (soundA l m) (shapeF 256 (backF 128 (pickF l m))) (128 * m) 256 i = soundA l (m + 1) i := by
  show _ = soundA l m i + soundB l m i
  unfold addF soundB
  by_cases c : 128 * m ≤ i ∧ i < 128 * m + 256
  · rw [if_pos c, if_pos c]
  · rw [if_neg c, if_neg c]; omega
set_option maxRecDepth 100000 in
theorem ovSound_brief (c p q cap : Nat) (a : Option Addr) (l : Nat → Int) (w : World) (hT : TlAt w c p q) (ha : FnAt w w.heap.size .i32 a 512 l) (hb : ∀ j, j < 512 → -33554432 ≤ l j ∧ l j ≤ 33554431) :
    Calls Tryz.prog 152 #[toolsV c p q, .slice a 512 cap] w (RowsPost 640 (soundF true l) w) := by
  have HB := Lib.hid hb
  obtain ⟨b, off, rfl, hbl, hcl⟩ := id ha
  have HC := Lib.hid hcl
  have HR0 := Lib.hid ((Cel.new w 148 #[.pointer (some ⟨c, 0, none⟩), .pointer (some ⟨p, 0, none⟩), .pointer (some ⟨q, 0, none⟩)]).alloc (.cells (madeCells #[.int .i32 0] 640) 21))
  have HX0 : RowKit.Hid (IFun ((w.alloc (.cells #[.pointer (some ⟨c, 0, none⟩), .pointer (some ⟨p, 0, none⟩), .pointer (some ⟨q, 0, none⟩)] 148)).alloc (.cells (madeCells #[.int .i32 0] 640) 21)) (w.heap.size + 1) 21 .i32 640 (soundA l 0)) := by
    have := IFun.zeros (w.alloc (.cells #[.pointer (some ⟨c, 0, none⟩), .pointer (some ⟨p, 0, none⟩), .pointer (some ⟨q, 0, none⟩)] 148)) 21 .i32 640
    rw [alloc_size] at this
    exact this
  have HB0 := Lib.hid (chain (Below.alloc_new w (.cells #[.pointer (some ⟨c, 0, none⟩), .pointer (some ⟨p, 0, none⟩), .pointer (some ⟨q, 0, none⟩)] 148)) (Below.alloc_new _ (.cells (madeCells #[.int .i32 0] 640) 21)))
  have HT0 := Lib.hid (hT.below HB0.out)
  have hmk : ∀ w : World, (Instr.makeSlice 101 (.int .i64 640) (.int .i64 640)).run Tryz.prog w = .ok (.slice (some ⟨w.heap.size, 0, none⟩) 640 640) (w.alloc (.cells (madeCells #[.int .i32 0] 640) 21)) :=
    fun w => make_zeros (P := Tryz.prog) Tryz.underlying101 info_i32 640 (by decide) (by decide) w
  have hmk2 : ∀ w : World, (Instr.makeSlice 101 (.int .i64 128) (.int .i64 128)).run Tryz.prog w = .ok (.slice (some ⟨w.heap.size, 0, none⟩) 128 128) (w.alloc (.cells (madeCells #[.int .i32 0] 128) 21)) :=
    fun w => make_zeros (P := Tryz.prog) Tryz.underlying101 info_i32 128 (by decide) (by decide) w
  clear hT ha hb hcl
  have HZ : RowKit.Hid (∀ w : World, IFun (w.alloc (.cells (madeCells #[.int .i32 0] 128) 21)) w.heap.size 21 .i32 128 (fun _ => 0)) := fun w => IFun.zeros w 21 .i32 128
  generalize madeCells #[Value.int .i32 0] 640 = mc at HR0 HX0 HB0 HT0 hmk
  generalize madeCells #[Value.int .i32 0] 128 = md at HZ hmk2
  unfold toolsV
  go_enter Tryz.func152, Tryz.ntmps152
  go_wp2
  clear hmk
  generalize (w.alloc (.cells #[.pointer (some ⟨c, 0, none⟩), .pointer (some ⟨p, 0, none⟩), .pointer (some ⟨q, 0, none⟩)] 148)).alloc (.cells mc 21) = w2 at HR0 HX0 HB0 HT0 ⊢
  go_loopw [13] (fun i wr => ∃ m : Nat, m ≤ 4 ∧ i = .int .i64 (m : Int) ∧ RowKit.Hid (IFun wr (w.heap.size + 1) 21 .i32 640 (soundA l m) ∧ Cel wr w.heap.size 148 #[.pointer (some ⟨c, 0, none⟩), .pointer (some ⟨p, 0, none⟩), .pointer (some ⟨q, 0, none⟩)] ∧ TlAt wr c p q ∧ Below w.heap.size w wr)) (fun i _ => 4 - (intOf i).toNat)
  case atStart => exact ⟨0, by omega, rfl, HX0.out, HR0.out, HT0.out, HB0.out⟩
  case round =>
    obtain ⟨m, hm, rfl, HI⟩ := hrel
    clear HX0 HR0 HT0 HB0
    by_cases hlt : m < 4
    · have l1 : (m : Int) < 4 := by omega
      have hRl := HI.out.2.1.lt
      have H0 : RowKit.Hid (IFun (wr.alloc (.cells md 21)) (w.heap.size + 1) 21 .i32 640 (soundA l m) ∧ Cel (wr.alloc (.cells md 21)) w.heap.size 148 #[.pointer (some ⟨c, 0, none⟩), .pointer (some ⟨p, 0, none⟩), .pointer (some ⟨q, 0, none⟩)] ∧ TlAt (wr.alloc (.cells md 21)) c p q ∧ Below w.heap.size w (wr.alloc (.cells md 21)) ∧ IFun (wr.alloc (.cells md 21)) wr.heap.size 21 .i32 128 (upTo (pickF l m) (fun _ => 0) 0)) :=
        ⟨HI.out.1.alloc _, HI.out.2.1.alloc _, HI.out.2.2.1.below (Below.alloc_new _ _), chain HI.out.2.2.2 (Below.alloc_new _ _), IFun.ext (HZ.out wr) fun j _ => (upTo_start (pickF l m) (fun _ => 0) j).symm⟩
      have HY : RowKit.Hid (w.heap.size + 1 < wr.heap.size) := HI.out.1.lt
      clear HI
      go_wp2
      generalize wr.heap.size = Y at H0 HY hRl ⊢
      generalize wr.alloc (.cells md 21) = w3 at H0 ⊢
      go_loopw [19] (fun i wx => ∃ k : Nat, k ≤ 128 ∧ i = .int .i64 (k : Int) ∧ RowKit.Hid (IFun wx (w.heap.size + 1) 21 .i32 640 (soundA l m) ∧ Cel wx w.heap.size 148 #[.pointer (some ⟨c, 0, none⟩), .pointer (some ⟨p, 0, none⟩), .pointer (some ⟨q, 0, none⟩)] ∧ TlAt wx c p q ∧ Below w.heap.size w wx ∧ IFun wx Y 21 .i32 128 (upTo (pickF l m) (fun _ => 0) k))) (fun i _ => 128 - (intOf i).toNat)
      case atStart => exact ⟨0, by omega, rfl, H0.out⟩
      case round =>
        obtain ⟨k, hk, rfl, HJ⟩ := hrel
        clear H0
        by_cases hlk : k < 128
        · obtain ⟨P, hP⟩ : ∃ P, P = 4 * k + m := ⟨_, rfl⟩
          have eP : 4 * (k : Int) + (m : Int) = (P : Int) := by omega
          have P1 : P < 512 := by omega
          have k1 := (HJ.out.2.2.2.1.cell (p := ⟨b, off + P, none⟩) hbl).trans (HC.out P P1)
          have o1 := HJ.out.2.2.2.2.cell hlk
          have f1 := HJ.out.2.2.2.2.frozen k
          have HS : RowKit.Hid (IFun (wr.setCell ⟨Y, k, none⟩ (.int .i32 (l P))) (w.heap.size + 1) 21 .i32 640 (soundA l m) ∧ Cel (wr.setCell ⟨Y, k, none⟩ (.int .i32 (l P))) w.heap.size 148 #[.pointer (some ⟨c, 0, none⟩), .pointer (some ⟨p, 0, none⟩), .pointer (some ⟨q, 0, none⟩)] ∧ TlAt (wr.setCell ⟨Y, k, none⟩ (.int .i32 (l P))) c p q ∧ Below w.heap.size w (wr.setCell ⟨Y, k, none⟩ (.int .i32 (l P))) ∧ IFun (wr.setCell ⟨Y, k, none⟩ (.int .i32 (l P))) Y 21 .i32 128 (upTo (pickF l m) (fun _ => 0) (k + 1))) := by
            have hy := HY.out
            refine ⟨HJ.out.1.far (by show w.heap.size + 1 ≠ Y; omega) _, HJ.out.2.1.far (by show w.heap.size ≠ Y; omega) _, ?_, Below.setCell (p := ⟨Y, k, none⟩) HJ.out.2.2.2.1 (by show w.heap.size ≤ Y; omega) _, IFun.ext (HJ.out.2.2.2.2.set (j := k) hlk (l P)) fun i _ => ?_⟩
            · obtain ⟨cs, hcs⟩ := HJ.out.2.2.2.2.cel
              exact HJ.out.2.2.1.keeps hcs (by decide) (by decide) (Keeps.set1 _)
            · rw [show l P = pickF l m k by unfold pickF; rw [hP]]; exact upTo_next (pickF l m) _ k i
          generalize l P = x at k1 HS
          generalize upTo (pickF l m) (fun _ => 0) k k = old at o1
          have l2 : (k : Int) < 128 := by omega
          have l3 : (P : Int) < 512 := by omega
          clear HJ hP
          go_wp2
          go_roundw
          case rel => exact ⟨k + 1, by omega, by go_num, HS.out⟩
          case measure => simp [intOf] <;> omega
        · have l2 : ¬ (k : Int) < 128 := by omega
          have HL : RowKit.Hid (IFun wr Y 21 .i32 128 (pickF l m)) := IFun.ext HJ.out.2.2.2.2 fun i hi => by rw [show k = 128 by omega]; exact upTo_end _ _ 128 i hi
          have HX := Lib.hid HJ.out.1
          have HR := Lib.hid HJ.out.2.1
          have HT := Lib.hid HJ.out.2.2.1
          have HBw := Lib.hid HJ.out.2.2.2.1
          obtain ⟨r0, r1, r2⟩ := cel3 HR.out
          have hRl := HR.out.lt
          clear HJ HZ hmk2
          obtain ⟨A, hA⟩ : ∃ A, A = 128 * m := ⟨_, rfl⟩
          have e1 : (m : Int) * 128 = (A : Int) := by omega
          have g1 : IntKind.i64.wrap (A : Int) = (A : Int) := IntWalk.i64_in _ (by omega)
          have b1 : (0 : Int) ≤ (A : Int) := by omega
          have b2 : (A : Int) ≤ 640 := by omega
          have q2 : ¬ 640 = A := by omega
          have HPb : RowKit.Hid (∀ j, j < 128 → -33554432 ≤ pickF l m j ∧ pickF l m j ≤ 33554431) := fun j hj => HB.out (4 * j + m) (by omega)
          have HVb : RowKit.Hid (∀ j, j < 256 → (backF 128 (pickF l m) j).natAbs ≤ 536870500) := fun j hj => backF_128 (fun j hj => by have := HPb.out j hj; omega) hj
          have HAb : RowKit.Hid (∀ j, j < 256 → (soundA l m (128 * m + j)).natAbs ≤ 2147483647 ∧ (shapeF 256 (backF 128 (pickF l m)) j).natAbs ≤ 2147483647 ∧ (soundA l m (128 * m + j) + shapeF 256 (backF 128 (pickF l m)) j).natAbs ≤ 2147483647) := fun j hj => by
            have h1 := soundA_abs (l := l) (fun j hj => by have := HB.out j hj; omega) (m := m) (by omega) (128 * m + j)
            have h2 := shapeF_abs (N := 256) (HVb.out j hj)
            omega
          have HM := Lib.hid hA
          clear hA
          go_wp2_with (go_at_call 153; go_loud (refine (lapBack_any q c 128 256 128 _ (pickF l m) _ HT.out.2 (.inl rfl) rfl (FnAt.of_ifun HL.out) HPb.out).mono ?_); rintro e w5 ⟨g5, rfl, i5, s5, b5⟩; have HI5 := Lib.hid i5; have HR5 : RowKit.Hid (Cel w5 w.heap.size 148 #[.pointer (some ⟨c, 0, none⟩), .pointer (some ⟨p, 0, none⟩), .pointer (some ⟨q, 0, none⟩)]) := HR.out.below b5; have HX5 : RowKit.Hid (IFun w5 (w.heap.size + 1) 21 .i32 640 (soundA l m)) := HX.out.below b5 HX.out.lt; have HT5 : RowKit.Hid (TlAt w5 c p q) := HT.out.below b5; have HB5 : RowKit.Hid (Below w.heap.size w w5) := chain HBw.out b5; obtain ⟨m0, m1, m2⟩ := cel3 HR5.out; have hRl5 := HR5.out.lt; clear i5 s5 b5)
          clear r0 r1 r2 HR HX HT HBw HL
          go_region_held3 (fun w' => w'.cell? ⟨w.heap.size, 0, none⟩ = some (.pointer (some ⟨c, 0, none⟩)) ∧ w'.cell? ⟨w.heap.size, 1, none⟩ = some (.pointer (some ⟨p, 0, none⟩)) ∧ w'.cell? ⟨w.heap.size, 2, none⟩ = some (.pointer (some ⟨q, 0, none⟩))) (go_keep) (first | (go_at_call 134; go_loud (refine (ovShape_any c p q 256 _ (some ⟨g5, 0, none⟩) (backF 128 (pickF l m)) w5.drew HT5.out.1.2 (by decide) (by decide) (FnAt.of_ifun HI5.out) (fun j hj => by have := HVb.out j hj; omega)).mono ?_); rintro e w7 ⟨g7, rfl, i7, s7, z7⟩; have HI7 := Lib.hid i7; have HR7 : RowKit.Hid (Cel w7 w.heap.size 148 #[.pointer (some ⟨c, 0, none⟩), .pointer (some ⟨p, 0, none⟩), .pointer (some ⟨q, 0, none⟩)]) := HR5.out.keep (z7.block _ hRl5); have HX7 : RowKit.Hid (IFun w7 (w.heap.size + 1) 21 .i32 640 (soundA l m)) := (show IFun w5.drew (w.heap.size + 1) 21 .i32 640 (soundA l m) from HX5.out).below z7 HX5.out.lt; have HT7 : RowKit.Hid (TlAt w7 c p q) := (show TlAt w5.drew c p q from HT5.out).below z7; have HB7 : RowKit.Hid (Below w.heap.size w w7) := chain (show Below w.heap.size w w5.drew from Below.drewN' HB5.out 1) z7; have HN7 : RowKit.Hid (g7 ≠ w.heap.size + 1) := (by have h1 := HX5.out.lt; have h2 : w5.heap.size ≤ g7 := s7; show g7 ≠ _; omega); obtain ⟨n0, n1, n2⟩ := cel3 HR7.out; clear i7 s7 z7) | (go_at_call 119; go_loud (refine (ovAdd_any (w.heap.size + 1) A 640 256 g7 0 (640 - A) _ _ (soundA l m) (shapeF 256 (backF 128 (pickF l m))) w7 HX7.out (by decide) (by omega) (by omega) HN7.out (fun j hj => by rw [Nat.zero_add]; exact HI7.out.cell hj) (by rw [HM.out]; exact HAb.out)).mono ?_); rintro e w9 ⟨rfl, i9, k9⟩; have HX9 : RowKit.Hid (IFun w9 (w.heap.size + 1) 21 .i32 640 (soundA l (m + 1))) := (by rw [HM.out] at i9; exact IFun.ext i9 fun i _ => addF_sound l m i); have HR9 : RowKit.Hid (Cel w9 w.heap.size 148 #[.pointer (some ⟨c, 0, none⟩), .pointer (some ⟨p, 0, none⟩), .pointer (some ⟨q, 0, none⟩)]) := HR7.out.keep (k9.block _ HR7.out.lt (by show ¬ w.heap.size = w.heap.size + 1; omega)); have HT9 : RowKit.Hid (TlAt w9 c p q) := HT7.out.keeps HX7.out.cel.choose_spec (by decide) (by decide) k9; have HB9 : RowKit.Hid (Below w.heap.size w w9) := HB7.out.trans (k9.below HB7.out.size (fun k hk => by subst hk; omega)); obtain ⟨s0, s1, s2⟩ := cel3 HR9.out; clear i9 k9) | fail)
          clear m0 m1 m2 n0 n1 n2 s0 s1 s2 HR5 HX5 HT5 HB5 HI5 HR7 HX7 HT7 HB7 HI7 HN7 HVb HPb HAb
          go_wp2
          go_roundw
          case rel => exact ⟨m + 1, by omega, by go_num, HX9.out, HR9.out, HT9.out, HB9.out⟩
          case measure => simp [intOf] <;> omega
    · obtain rfl : m = 4 := by omega
      have Z : RowKit.Hid (IFun wr (w.heap.size + 1) 21 .i32 640 (soundF true l) ∧ Below w.heap.size w wr) := ⟨HI.out.1, HI.out.2.2.2⟩
      go_wp2
      go_ret2
      exact ⟨_, rfl, Z.out.1, by omega, Z.out.2⟩
theorem ovSound_any (c p q cap : Nat) (a : Option Addr) (l : Nat → Int) (b : Bool) (w : World) (hT : TlAt w c p q) (ha : FnAt w w.heap.size .i32 a 512 l) (hb : ∀ j, j < 512 → -33554432 ≤ l j ∧ l j ≤ 33554431) :
    Calls Tryz.prog 118 #[toolsV c p q, .slice a 512 cap, .bool b] w (RowsPost 640 (soundF b l) w) := by
  cases b with
  | false => exact ovSound_long c p q cap a l w hT ha hb
  | true =>
    have HB := Lib.hid hb
    have HB0 := Lib.hid (Below.alloc_new w (.cells #[.pointer (some ⟨c, 0, none⟩), .pointer (some ⟨p, 0, none⟩), .pointer (some ⟨q, 0, none⟩)] 148))
    have HT0 := Lib.hid (hT.below HB0.out)
    have HA0 := Lib.hid (ha.now HB0.out)
    clear hT ha hb
    unfold toolsV
    go_enter Tryz.func118, Tryz.ntmps118
    go_wp2_with (go_at_call 152; go_loud (refine (ovSound_brief c p q cap a l _ HT0.out HA0.out HB.out).mono ?_); rintro e w5 ⟨g5, rfl, i5, s5, b5⟩; have HI5 := Lib.hid i5; have S5 := Lib.hid s5; have HB5 := Lib.hid (chain HB0.out b5); clear i5 s5 b5)
    go_ret2
    exact ⟨g5, rfl, HI5.out, Nat.le_trans HB0.out.size S5.out, HB5.out⟩
end Go.Proofs.YtobhoecmmpijgaaGreat

/- What the functions of package overlap give: a synth's samples. -/
namespace Go.Proofs.YtobhoecmmpijgaaGreat
open Go.RowKit
set_option linter.unusedVariables false

theorem syn_slice (g : Nat) (w : World) : (Instr.sliceAt 153 (.pointer (some ⟨g, 3, none⟩)) none none none).run Tryz.prog w = .ok (.slice (some ⟨g, 3, none⟩) 128 128) w := by
  have e : Tryz.prog.arrayLen 153 = 128 := by kernel_rfl
  have e2 : Tryz.prog.elem 153 = 21 := by kernel_rfl
  have ht : Tryz.prog.underlying 153 = some (.array (Tryz.prog.arrayLen 153) (Tryz.prog.elem 153)) := by kernel_rfl
  have es : (sizeOf 21).run Tryz.prog w = .ok 1 w := by kernel_rfl
  rw [run_sliceAt_array_all w _ _ ht, e, e2, es]
  simp [Result.andThen, slicedAt, Addr.add]
def SynPost (b : Bool) (s c p q : Nat) (left l : Nat → Int) (w : World) (e : Ending) (w' : World) : Prop :=
  ∃ g, e = .returned (.tuple #[.slice (some ⟨g, 0, none⟩) 512 512, .int .i64 0]) ∧ IFun w' g 51 .i16 512 (samplesF b l left) ∧ w.heap.size ≤ g ∧ OvAt 155 .i32 w' s c p q (leftF b l) ∧ Keeps (· = s) w w'
theorem addF_both (b : Bool) (l left : Nat → Int) (i : Nat) : addF (soundF b l) left 0 128 i = bothF b l left i := by
  unfold addF bothF
  by_cases c : i < 128
  · rw [if_pos (by omega), if_pos c, Nat.sub_zero]
  · rw [if_neg (by omega), if_neg c, Int.add_zero]
set_option maxRecDepth 100000 in
theorem synSamples_any (s c p q x : Nat) (left l : Nat → Int) (b : Bool) (w : World) (hS : OvAt 155 .i32 w s c p q left) (hf : IFun w x 21 .i32 512 l)
    (hb : ∀ j, j < 512 → -33554432 ≤ l j ∧ l j ≤ 33554431) (hl : ∀ j, j < 128 → (left j).natAbs ≤ 1073741000) :
    Calls Tryz.prog 79 #[.pointer (some ⟨s, 0, none⟩), .slice (some ⟨x, 0, none⟩) 512 512, .bool b] w (SynPost b s c p q left l w) := by
  have HS := Lib.hid hS
  have HF := Lib.hid hf
  have HB := Lib.hid hb
  have HLf := Lib.hid hl
  have HBa : RowKit.Hid (∀ j, j < 512 → (l j).natAbs ≤ 33554432) := fun j hj => by have := hb j hj; omega
  obtain ⟨a0, a1, a2⟩ := hS.ptrs
  have hsl := syn_slice s
  clear hS hf hb hl
  go_enter Tryz.func79, Tryz.ntmps79
  go_wp2_with (first | (go_at_call 118; go_loud (refine (ovSound_any c p q 512 (some ⟨x, 0, none⟩) l b w HS.out.2 (FnAt.of_ifun HF.out) HB.out).mono ?_); rintro e w3 ⟨g3, rfl, i3, s3, z3⟩; have HI3 := Lib.hid i3; have HS3 : RowKit.Hid (w.heap.size ≤ g3) := s3; have HO3 : RowKit.Hid (OvAt 155 .i32 w3 s c p q left) := HS.out.below z3; have HB3 := Lib.hid z3; clear i3 s3 z3) | (go_at_call 119; go_loud (refine (ovAdd_any g3 0 640 128 s 3 640 _ _ (soundF b l) left w3 HI3.out (by decide) (by decide) (by decide) (by obtain ⟨cs, hcs⟩ := HI3.out.cel; exact (HO3.out.1.ne hcs (by decide))) (fun j hj => HO3.out.at_ hj) (fun j hj => by rw [Nat.zero_add]; have h1 := soundF_edge (l := l) HBa.out b (i := j) (.inl hj); have h2 := HLf.out j hj; omega)).mono ?_); rintro e w5 ⟨rfl, i5, k5⟩; have HI5 : RowKit.Hid (IFun w5 g3 21 .i32 640 (bothF b l left)) := IFun.ext i5 fun i _ => addF_both b l left i; have HN5 : RowKit.Hid (s ≠ g3) := (by obtain ⟨cs, hcs⟩ := HI3.out.cel; exact (HO3.out.1.ne hcs (by decide))); have HO5 : RowKit.Hid (OvAt 155 .i32 w5 s c p q left) := ⟨HO3.out.1.keep (k5.block _ HO3.out.1.lt HN5.out), HO3.out.2.keeps HI3.out.cel.choose_spec (by decide) (by decide) k5⟩; have HB5 : RowKit.Hid (Below w.heap.size w w5) := HB3.out.trans (k5.below HB3.out.size (fun k hk => by subst hk; exact HS3.out)); clear i5 k5))
  clear a0 a1 a2 HB3 HI3 HO3 HS HF HB
  go_region_held3 (fun w' => True) (go_keep) (first | (refine step_copy_cells (by rfl) _ _ _ _ (by rfl) 21 Tryz.underlying101 info_i32s s 3 128 128 ⟨g3, 512, none⟩ 128 128 (by rfl) (by rfl) _ 155 HO5.out.1 ((tabF 128 fun j => bothF b l left (512 + j)).map (Value.int .i32)) (by rw [List.length_map, tabF_len]; rfl) (tab_src fun j hj => HI5.out.cell (by omega)) (by rw [List.length_map, tabF_len, ovlL_len]; decide) (tab_one _) ?_; intro w6 hx6 hk6; have HC6 : RowKit.Hid (Cel w6 s 155 (ovlL .i32 c p q fun j => bothF b l left (512 + j)).toArray) := (by have := hx6.out; rw [splice_ovl] at this; exact this); have HK6 := Lib.hid hk6; clear hx6 hk6) | fail)
  have HO6 : RowKit.Hid (OvAt 155 .i32 w6 s c p q (leftF b l)) := OvAt.ext (f := fun j => bothF b l left (512 + j)) ⟨HC6.out, TlAt.keeps (w := w5.drew) HO5.out.2 HO5.out.1 (by decide) (by decide) HK6.out⟩ fun j _ => by
    show bothF b l left (512 + j) = leftF b l j
    unfold bothF leftF
    rw [if_neg (by omega), Int.add_zero]
  have HI6 : RowKit.Hid (IFun w6 g3 21 .i32 640 (bothF b l left)) := Cel.keeps (w := w5.drew) HI5.out HK6.out HN5.out.symm
  have HKK : RowKit.Hid (Keeps (· = s) w w6) := ((Keeps.of_below HB5.out).drewN 1).trans HK6.out
  clear HC6 HK6 HO5 HI5 HB5
  go_wp2_with (go_at_call 120; go_loud (refine (ovSamples_any 512 _ g3 0 (bothF b l left) w6 (by decide) (fun j hj => by rw [Nat.zero_add]; exact HI6.out.cell (by omega)) HI6.out.lt (fun j hj => by have := bothF_abs (left := left) HBa.out HLf.out b (i := j) (by omega); omega)).mono ?_); rintro e w7 ⟨g7, rfl, i7, s7, z7⟩; have HI7 : RowKit.Hid (IFun w7 g7 51 .i16 512 (samplesF b l left)) := i7; have HS7 : RowKit.Hid (w.heap.size ≤ g7) := Nat.le_trans HKK.out.size s7; have HO7 : RowKit.Hid (OvAt 155 .i32 w7 s c p q (leftF b l)) := HO6.out.below z7; have HK7 : RowKit.Hid (Keeps (· = s) w w7) := HKK.out.trans (Keeps.of_below z7); clear i7 s7 z7)
  go_ret2
  exact ⟨g7, rfl, HI7.out, HS7.out, HO7.out, HK7.out⟩
end Go.Proofs.YtobhoecmmpijgaaGreat

/- What the layers below give, as package coder asks it: rows of twenty-one numbers as functions. -/
namespace Go.Proofs.YtobhoecmmpijgaaGreat
open Go Go.RowKit
set_option linter.unusedVariables false
set_option linter.unusedSimpArgs false

/-- A row of ceilings or steps. -/
abbrev CutAt (w : World) (r : Nat) (l : Nat → Int) : Prop := IFun w r 3 .i64 21 l
theorem CutAt.ints {w : World} {r : Nat} {l : Nat → Int} (h : CutAt w r l) : IntsAt w w.heap.size .i64 (some ⟨r, 0, none⟩) 21 (tabF 21 l) := IFun.ints h (by decide)
/-- Ceilings ahead, or none. -/
def ahA : Option Nat → Option Addr
  | none => none
  | some r => some ⟨r, 0, none⟩
def ahN : Option Nat → Nat
  | none => 0
  | some _ => 21
def AhAt (w : World) (wh : Bool) (o : Option Nat) (ah : Nat → Int) : Prop :=
  (wh = true ∧ o = none ∧ ah = fun _ => 0) ∨ (wh = false ∧ CutOk ah ∧ ∃ r, o = some r ∧ CutAt w r ah)
theorem AhAt.below {w w' : World} {wh : Bool} {o : Option Nat} {ah : Nat → Int} (h : AhAt w wh o ah) (hb : Below w.heap.size w w') : AhAt w' wh o ah := by
  rcases h with h | ⟨h1, h2, r, h3, h4⟩
  · exact .inl h
  · exact .inr ⟨h1, h2, r, h3, h4.below hb h4.lt⟩
theorem AhAt.keeps {F : Nat → Prop} {w w' : World} {wh : Bool} {o : Option Nat} {ah : Nat → Int} (h : AhAt w wh o ah) (hk : Keeps F w w') (hn : ∀ r, CutAt w r ah → ¬ F r) : AhAt w' wh o ah := by
  rcases h with h | ⟨h1, h2, r, h3, h4⟩
  · exact .inl h
  · exact .inr ⟨h1, h2, r, h3, Cel.keeps h4 hk (hn r h4)⟩
theorem AhAt.len {w : World} {wh : Bool} {o : Option Nat} {ah : Nat → Int} (h : AhAt w wh o ah) : decide (ahN o = 0) = wh := by
  rcases h with ⟨rfl, rfl, _⟩ | ⟨rfl, _, r, rfl, _⟩ <;> rfl
theorem AhAt.at_ {w : World} {wh : Bool} {o : Option Nat} {ah : Nat → Int} (h : AhAt w wh o ah) : ∃ ds : List Int, AheadAt w wh (ahA o) (ahN o) ds ∧ (fun j => ds.getD j 0) = ah := by
  rcases h with ⟨rfl, rfl, rfl⟩ | ⟨rfl, h2, r, rfl, h4⟩
  · exact ⟨[], ⟨⟨rfl, .inl rfl⟩, by decide, .inl ⟨rfl, rfl⟩⟩, rfl⟩
  · exact ⟨tabF 21 ah, ⟨h4.ints, (by decide : (21 : Nat) ≤ 9223372036854775807), .inr ⟨rfl, h2.right, rfl⟩⟩, h2.tab⟩
theorem AhAt.ok {w : World} {wh : Bool} {o : Option Nat} {ah : Nat → Int} (h : AhAt w wh o ah) : CutOk ah := by
  rcases h with ⟨_, _, rfl⟩ | ⟨_, h2, _⟩
  · exact CutOk.zero
  · exact h2

theorem fSteps_any (c cap : Nat) (l : Nat → Int) (q x : Int) (w : World) (h : CutAt w c l) (hl : CutOk l) (q0 : 1 ≤ q) (q1 : q ≤ 10) (x0 : 0 ≤ x) (x1 : x ≤ 31) :
    Calls Tryz.prog 76 #[.slice (some ⟨c, 0, none⟩) 21 cap, .int .i64 q, .int .i64 x] w (StepsPost l q x w) := by
  have := mskSteps_any (some ⟨c, 0, none⟩) cap (tabF 21 l) q x w h.ints ⟨hl.right, q0, q1, x0, x1⟩
  rw [hl.tab] at this
  exact this
theorem fReach_any (c s cap cap2 : Nat) (l st : Nat → Int) (w : World) (h : CutAt w c l) (hl : CutOk l) (h2 : CutAt w s st) (hs : CutOk st) :
    Calls Tryz.prog 81 #[.slice (some ⟨c, 0, none⟩) 21 cap, .slice (some ⟨s, 0, none⟩) 21 cap2] w fun e w' => e = .returned (.tuple #[.int .i64 (reachTo l st 21), .int .i64 0]) ∧ Below w.heap.size w w' := by
  have := mskReach_any (some ⟨c, 0, none⟩) (some ⟨s, 0, none⟩) cap cap2 (tabF 21 l) (tabF 21 st) w h.ints h2.ints hl.right hs.right
  rw [hl.tab, hs.tab] at this
  exact this
theorem fCeil_any (b cap : Nat) (x : Nat → Int) (w : World) (h : IFun w b 21 .i32 512 x) (hx : ∀ i, -33554432 ≤ x i ∧ x i ≤ 33554431) (hc : 512 ≤ cap) (hc' : cap ≤ 9223372036854775807) :
    Calls Tryz.prog 75 #[.slice (some ⟨b, 0, none⟩) 512 cap] w (CeilPost (fun i => x i) w) :=
  engCeil_any b 0 cap x w h.lt (fun i hi => by rw [Nat.zero_add]; exact h.cell hi) (fun i _ => by have := hx i; omega) hc hc'
theorem ceil_cut {w : World} {g : Nat} {x : Nat → Int} (h : CutAt w g (ceilF x)) : CutAt w g (c21 (ceilF x)) := IFun.ext h fun j hj => (c21_at _ hj).symm
theorem CutAt.enc {w : World} {base g c : Nat} {v : Value} {e : EncS} {l : Nat → Int} (hE : EncAt w base g v e) (h : CutAt w c l) : c ≠ g ∧ v.ownBlock ≠ some c := by
  obtain ⟨cs, hcs⟩ := h.cel
  exact hE.ne_cel hcs (by decide) (by decide)
theorem fPut_any (base g : Nat) (v : Value) (e : EncS) (wh : Bool) (c cap cap2 : Nat) (o : Option Nat) (l ah : Nat → Int) (w : World) (hE : EncAt w base g v e) (hG : GoodE e) (hk : e.k ≤ 700000)
    (h : CutAt w c l) (hl : CutOk l) (hA : AhAt w wh o ah) :
    Calls Tryz.prog 111 #[.pointer (some ⟨g, 0, none⟩), .slice (some ⟨c, 0, none⟩) 21 cap, .slice (ahA o) (ahN o) cap2] w (PutPost base g v (putN wh e l ah 21) (.int .i64 0) w) := by
  obtain ⟨ds, d1, d2⟩ := hA.at_
  have := engPut_any base g v e wh (some ⟨c, 0, none⟩) (ahA o) (ahN o) cap cap2 (tabF 21 l) ds w hE hG hk h.ints hl.right (fun r off e => by injection e with e; injection e with e; subst e; exact h.enc hE) d1 (fun hw r off e => by
    rcases hA with ⟨rfl, _⟩ | ⟨_, _, r', rfl, h4⟩
    · cases hw
    · have e : some (⟨r', 0, none⟩ : Addr) = some ⟨r, off, none⟩ := e
      injection e with e; injection e with e; subst e; exact CutAt.enc hE h4)
  rw [hl.tab, d2] at this
  exact this
theorem fQPut_any (base g : Nat) (v : Value) (E : EncS) (b c s cap cap2 : Nat) (x l : Nat → Int) (q lo : Int) (w : World) (hE : EncAt w base g v E) (hG : GoodE E) (hk : E.k ≤ 600000)
    (hx : IFun w b 21 .i32 512 x) (hb : ∀ i, -33554432 ≤ x i ∧ x i ≤ 33554431) (h : CutAt w c l) (hl : CutOk l) (h2 : CutAt w s (stepF l q lo)) :
    Calls Tryz.prog 112 #[.pointer (some ⟨g, 0, none⟩), .slice (some ⟨b, 0, none⟩) 512 512, .slice (some ⟨c, 0, none⟩) 21 cap, .slice (some ⟨s, 0, none⟩) 21 cap2] w
      (PutPost base g v (putL (toldT l (stepF l q lo)) (lineQ x l (stepF l q lo)) E 512).1 (.int .i64 0) w) := by
  have := qPut_any base g v E b 0 512 x (some ⟨c, 0, none⟩) (some ⟨s, 0, none⟩) cap cap2 (tabF 21 l) (tabF 21 (stepF l q lo)) w hE hG hk hx.lt (fun i hi => by rw [Nat.zero_add]; exact hx.cell hi) (fun i _ => by have := hb i; omega) (by decide) (by decide)
    (by obtain ⟨cs, hcs⟩ := hx.cel; exact hE.ne_cel hcs (by decide) (by decide)) h.ints h2.ints (hl.may q lo)
  rw [hl.tab, (hl.step q lo).tab] at this
  exact this
theorem fHeard_any (b c s cap cap2 : Nat) (x l : Nat → Int) (q lo seed : Int) (w : World) (hx : IFun w b 21 .i32 512 x) (hb : ∀ i, -33554432 ≤ x i ∧ x i ≤ 33554431) (h : CutAt w c l) (hl : CutOk l) (h2 : CutAt w s (stepF l q lo))
    (s0 : 0 ≤ seed) (s1 : seed ≤ 4294967295) :
    Calls Tryz.prog 78 #[.slice (some ⟨b, 0, none⟩) 512 512, .slice (some ⟨c, 0, none⟩) 21 cap, .slice (some ⟨s, 0, none⟩) 21 cap2, .int .u32 seed] w
      (HeardPost (outF l (stepF l q lo) (lineQ x l (stepF l q lo)) seed) w) := by
  have := qHeard_any b 0 512 x (some ⟨c, 0, none⟩) (some ⟨s, 0, none⟩) cap cap2 (tabF 21 l) (tabF 21 (stepF l q lo)) seed w hx.lt (fun i hi => by rw [Nat.zero_add]; exact hx.cell hi) (fun i _ => by have := hb i; omega) h.ints h2.ints (hl.may q lo) s0 s1
  rw [hl.tab, (hl.step q lo).tab] at this
  exact this
end Go.Proofs.YtobhoecmmpijgaaGreat
