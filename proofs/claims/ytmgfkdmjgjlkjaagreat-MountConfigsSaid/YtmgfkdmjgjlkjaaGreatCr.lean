/- Plain facts, and what functions give, for the proofs of this seat: several texts in one, each with its own first remark. -/
import Derived.Deep.CutBlock
import Derived.Test.YtmgfkdmjgjlkjaaGreatCq

namespace Go.Proofs.YtmgfkdmjgjlkjaaGreat
open Go.RowKit
set_option linter.unusedVariables false
theorem IRow.ints {w : World} {g n : Nat} {t : TypeId} {k : IntKind} {zs : List Int} (h : IRow w g t k zs) (hn : zs.length = n) (hm : n ≤ 9223372036854775807) : IntsAt w w.heap.size k (some ⟨g, 0, none⟩) n zs :=
  ⟨hn, .inr ⟨g, 0, rfl, h.lt, hm, fun j hj => by rw [Nat.zero_add]; exact h.cell (by omega)⟩⟩
theorem difE_fix : FixOk difL 32 := ⟨difL_one, by rw [difL_sum]; decide⟩
theorem made32 : (#[Value.int .u32 0, Value.int .u32 0, Value.int .u32 0, Value.int .u32 0, Value.int .u32 0, Value.int .u32 0, Value.int .u32 0, Value.int .u32 0, Value.int .u32 0, Value.int .u32 0, Value.int .u32 0, Value.int .u32 0, Value.int .u32 0, Value.int .u32 0, Value.int .u32 0, Value.int .u32 0, Value.int .u32 0, Value.int .u32 0, Value.int .u32 0, Value.int .u32 0, Value.int .u32 0, Value.int .u32 0, Value.int .u32 0, Value.int .u32 0, Value.int .u32 0, Value.int .u32 0, Value.int .u32 0, Value.int .u32 0, Value.int .u32 0, Value.int .u32 0, Value.int .u32 0, Value.int .u32 0] : Array Value) = madeCells #[.int .u32 0] 32 := by rw [made_rep]; rfl
theorem dif_tab : tabF 32 (fun i => if i = 30 then 500 else if i = 2 then 500 else if i = 31 then 1500 else if i = 1 then 1500 else if i = 0 then 3000 else preF (fun _ => 10) 32 i) = difL := by decide
theorem all32 (g : Nat) (w : World) : (Instr.sliceAt 270 (.pointer (some ⟨g, 0, none⟩)) none none none).run Tryz.prog w = .ok (.slice (some ⟨g, 0, none⟩) 32 32) w := by
  have e : Tryz.prog.arrayLen 270 = 32 := by kernel_rfl
  have e2 : Tryz.prog.elem 270 = 34 := by kernel_rfl
  have ht : Tryz.prog.underlying 270 = some (.array (Tryz.prog.arrayLen 270) (Tryz.prog.elem 270)) := by kernel_rfl
  have es : (sizeOf 34).run Tryz.prog w = .ok 1 w := by kernel_rfl
  rw [run_sliceAt_array_all w _ _ ht, e, e2, es]
  simp [Result.andThen, slicedAt, Addr.add]
set_option maxRecDepth 100000 in
theorem engDiff_any (w : World) : Calls Tryz.prog 188 #[] w fun e w' => ∃ g, e = .returned (.pointer (some ⟨g, 0, none⟩)) ∧ w.heap.size ≤ g ∧ ModAt w' g difL true ∧ Below w.heap.size w w' := by
  have HF := Lib.hid difE_fix
  have HBd := Lib.hid difL_bd
  have H0 : RowKit.Hid (IFun (w.alloc (.cells (madeCells #[.int .u32 0] 32) 270)) w.heap.size 270 .u32 32 (preF (fun _ => 10) 0) ∧ Below w.heap.size w (w.alloc (.cells (madeCells #[.int .u32 0] 32) 270))) :=
    ⟨IFun.ext (IFun.zeros w 270 .u32 32) fun j _ => (preF_zero _ j).symm, Below.alloc_new w _⟩
  go_enter Tryz.func188, Tryz.ntmps188
  go_wp2
  rw [made32]
  generalize (w.alloc (.cells (madeCells #[.int .u32 0] 32) 270)) = w1 at H0 ⊢
  generalize hg : w.heap.size = g at H0 ⊢
  go_loopw [2, 5] (fun _ i wr => ∃ k : Nat, k ≤ 32 ∧ i = .int .i64 (k : Int) ∧ RowKit.Hid (IFun wr g 270 .u32 32 (preF (fun _ => 10) k) ∧ Below g w wr)) (fun _ i _ => 32 - (intOf i).toNat)
  case atStart => exact ⟨0, by omega, rfl, H0.out⟩
  case round =>
    obtain ⟨k, hk, rfl, H⟩ := hrel
    clear H0
    by_cases hlt : k < 32
    · have o1 := H.out.1.cell (j := k) hlt
      have f1 := H.out.1.frozen k
      have HV : RowKit.Hid (IFun (wr.setCell ⟨g, k, none⟩ (.int .u32 10)) g 270 .u32 32 (preF (fun _ => 10) (k + 1)) ∧ Below g w (wr.setCell ⟨g, k, none⟩ (.int .u32 10))) :=
        ⟨IFun.ext (H.out.1.set (j := k) hlt 10) fun i _ => preF_next (fun _ => 10) k i, Below.setCell (p := ⟨g, k, none⟩) H.out.2 (Nat.le_refl _) _⟩
      generalize preF (fun _ => (10 : Int)) k k = old at o1
      go_wp2
      go_roundw
      case rel => exact ⟨k + 1, by omega, by go_num, HV.out⟩
      case measure => simp [intOf] <;> omega
    · obtain rfl : k = 32 := by omega
      obtain ⟨c0, c1, c2, c30, c31⟩ : wr.cell? ⟨g, 0, none⟩ = some (.int .u32 10) ∧ wr.cell? ⟨g, 1, none⟩ = some (.int .u32 10) ∧ wr.cell? ⟨g, 2, none⟩ = some (.int .u32 10) ∧ wr.cell? ⟨g, 30, none⟩ = some (.int .u32 10) ∧ wr.cell? ⟨g, 31, none⟩ = some (.int .u32 10) :=
        ⟨H.out.1.cell (j := 0) (by decide), H.out.1.cell (j := 1) (by decide), H.out.1.cell (j := 2) (by decide), H.out.1.cell (j := 30) (by decide), H.out.1.cell (j := 31) (by decide)⟩
      have f0 := H.out.1.frozen 0
      have f1 := H.out.1.frozen 1
      have f2 := H.out.1.frozen 2
      have f30 := H.out.1.frozen 30
      have f31 := H.out.1.frozen 31
      have HI : RowKit.Hid (IRow (((((wr.setCell ⟨g, 0, none⟩ (.int .u32 3000)).setCell ⟨g, 1, none⟩ (.int .u32 1500)).setCell ⟨g, 31, none⟩ (.int .u32 1500)).setCell ⟨g, 2, none⟩ (.int .u32 500)).setCell ⟨g, 30, none⟩ (.int .u32 500)) g 270 .u32 difL) := by
        have := ((((H.out.1.set (j := 0) (by decide) 3000).set (j := 1) (by decide) 1500).set (j := 31) (by decide) 1500).set (j := 2) (by decide) 500).set (j := 30) (by decide) 500
        unfold IFun at this
        rw [dif_tab] at this
        exact this
      have HB : RowKit.Hid (Below g w (((((wr.setCell ⟨g, 0, none⟩ (.int .u32 3000)).setCell ⟨g, 1, none⟩ (.int .u32 1500)).setCell ⟨g, 31, none⟩ (.int .u32 1500)).setCell ⟨g, 2, none⟩ (.int .u32 500)).setCell ⟨g, 30, none⟩ (.int .u32 500))) :=
        Below.setCell (p := ⟨g, 30, none⟩) (Below.setCell (p := ⟨g, 2, none⟩) (Below.setCell (p := ⟨g, 31, none⟩) (Below.setCell (p := ⟨g, 1, none⟩) (Below.setCell (p := ⟨g, 0, none⟩) H.out.2 (Nat.le_refl _) _) (Nat.le_refl _) _) (Nat.le_refl _) _) (Nat.le_refl _) _) (Nat.le_refl _) _
      have hsl := fun w => all32 g w
      have HSz : RowKit.Hid (g ≤ (((((wr.setCell ⟨g, 0, none⟩ (.int .u32 3000)).setCell ⟨g, 1, none⟩ (.int .u32 1500)).setCell ⟨g, 31, none⟩ (.int .u32 1500)).setCell ⟨g, 2, none⟩ (.int .u32 500)).setCell ⟨g, 30, none⟩ (.int .u32 500)).heap.size) := Nat.le_trans (Nat.le_of_eq hg.symm) HB.out.size
      have HIn : RowKit.Hid (IntsAt (((((wr.setCell ⟨g, 0, none⟩ (.int .u32 3000)).setCell ⟨g, 1, none⟩ (.int .u32 1500)).setCell ⟨g, 31, none⟩ (.int .u32 1500)).setCell ⟨g, 2, none⟩ (.int .u32 500)).setCell ⟨g, 30, none⟩ (.int .u32 500)) (((((wr.setCell ⟨g, 0, none⟩ (.int .u32 3000)).setCell ⟨g, 1, none⟩ (.int .u32 1500)).setCell ⟨g, 31, none⟩ (.int .u32 1500)).setCell ⟨g, 2, none⟩ (.int .u32 500)).setCell ⟨g, 30, none⟩ (.int .u32 500)).heap.size .u32 (some ⟨g, 0, none⟩) 32 difL) := IRow.ints HI.out rfl (by decide)
      clear H
      go_wp2_with (go_at_call 201; go_loud (refine (modFixed_ok _ _ _ difL _ HIn.out HBd.out (by decide) (by decide) HF.out).mono ?_); rintro e w6 ⟨m, rfl, hm, hM, hb⟩; have HM := Lib.hid hM; have HB6 := Lib.hid (HB.out.trans (hb.mono HSz.out)); have hm2 := Nat.le_trans HSz.out hm; clear hM hb hm)
      go_ret
      exact ⟨m, rfl, by rw [hg]; exact hm2, HM.out, by rw [hg]; exact HB6.out⟩
theorem RefMod.grow {w : World} {base base' g r : Nat} {l : List Int} {fx : Bool} (h : RefMod w base g r l fx) (hb : base' ≤ base) : RefMod w base' g r l fx := by
  obtain ⟨cm, h1, h2, h3⟩ := h
  exact ⟨cm, h1, ⟨h2.1, h2.2.imp_right fun ⟨g', cap, cur, e, h, k⟩ => ⟨g', cap, cur, e, Nat.le_trans hb h, k⟩⟩, by omega⟩
def lenV (v : Value) : Nat := match v with | .slice _ n _ => n | _ => 0
theorem lenV_eq (a : Option Addr) (n c : Nat) : lenV (.slice a n c) = n := rfl
theorem dif_snoc0 : ∀ k : Nat, k < 30 → 3 ≤ k → difL.take k ++ [10] = difL.take (k + 1) := by decide
theorem dif_snoc (k : Nat) (h : 3 ≤ k) (h' : k < 30) : difL.take k ++ [10] = difL.take (k + 1) := dif_snoc0 k h' h
theorem infoE_u32 : (Tryz.prog.info? 34).map (fun i => (i.zero, i.size, i.bytes)) = some (some (.int .u32 0), 1, 4) := by kernel_rfl
set_option maxRecDepth 100000 in
theorem refApart_any (w : World) : Calls Tryz.prog 73 #[] w fun e w' => ∃ g r, e = .returned (.pointer (some ⟨g, 0, none⟩)) ∧ RefMod w' w.heap.size g r difL true ∧ Below w.heap.size w w' := by
  have HF := Lib.hid difE_fix
  have HBd := Lib.hid difL_bd
  have H0 : RowKit.Hid ((w.alloc (.cells #[.int .u32 3000, .int .u32 1500, .int .u32 500] 34)).ownsRow w.heap.size 34 1 (.slice (some ⟨w.heap.size, 0, none⟩) 3 3) 3 ((difL.take 3).map (Value.int .u32)) ∧ Below w.heap.size w (w.alloc (.cells #[.int .u32 3000, .int .u32 1500, .int .u32 500] 34))) :=
    ⟨World.ownsRow_lit (base := w.heap.size) (e := 34) (size := 1) w #[.int .u32 3000, .int .u32 1500, .int .u32 500] 3 (Nat.le_refl _) (by decide) rfl, Below.alloc_new w _⟩
  go_enter Tryz.func73, Tryz.ntmps73
  go_wp2
  generalize (w.alloc (.cells #[.int .u32 3000, .int .u32 1500, .int .u32 500] 34)) = w1 at H0 ⊢
  go_loopw [1] (fun v wr => ∃ (k c : Nat) (a : Option Addr), 3 ≤ k ∧ k ≤ 30 ∧ v = .slice a k c ∧ RowKit.Hid (wr.ownsRow w.heap.size 34 1 (.slice a k c) k ((difL.take k).map (Value.int .u32)) ∧ Below w.heap.size w wr)) (fun v _ => 30 - lenV v)
  case atStart => exact ⟨3, 3, _, by omega, by omega, rfl, H0.out⟩
  case round =>
    obtain ⟨k, c, a, hk0, hk, rfl, H⟩ := hrel
    clear H0
    have hsz := H.out.2.size
    have HA := Lib.hid (World.ownsRow.alloc H.out.1 (.cells #[.int .u32 10] 34))
    have HAB := Lib.hid (H.out.2.alloc hsz (.cells #[.int .u32 10] 34))
    have hsrc := Lib.hid (lit_ints wr 34 .u32 [10] #[.int .u32 10] (0, 0) rfl (by simp))
    by_cases hlt : k < 30
    · have HE := Lib.hid (dif_snoc k hk0 hlt)
      have l1 : (k : Int) < 30 := by omega
      go_upto_block 1 with fail
      generalize Value.slice a k c = v at HA ⊢
      go_wp2_with (at_builtin; go_loud (refine append_ints rfl _ _ 192 rfl w.heap.size 34 .u32 4 Tryz.underlying192 infoE_u32 v k (difL.take k) rfl HA.out (some ⟨wr.heap.size, 0, none⟩) 1 1 _ [10] rfl hsrc.out (by simp) (by unfold maxLen; omega) (by omega) (by simp; omega) ?_); intro v1 w2 hown hgrow _; rw [HE.out] at hown; obtain ⟨a1, c1, rfl⟩ := own_form hown; have HO := Lib.hid hown; have HB1 : RowKit.Hid (Below w.heap.size w w2) := HAB.out.grown hgrow (by simp; omega) (own_base HA.out); clear hown hgrow)
      go_roundw
      case rel => exact ⟨k + 1, c1, a1, by omega, by omega, by go_num, HO.out, HB1.out⟩
      case measure => rw [lenV_eq, lenV_eq]; omega
    · obtain rfl : k = 30 := by omega
      clear HA HAB hsrc
      have HA := Lib.hid (World.ownsRow.alloc H.out.1 (.cells #[.int .u32 500] 34))
      have HAB := Lib.hid (H.out.2.alloc hsz (.cells #[.int .u32 500] 34))
      have hsrc := Lib.hid (lit_ints wr 34 .u32 [500] #[.int .u32 500] (0, 0) rfl (by simp))
      have HE1 : RowKit.Hid (difL.take 30 ++ [500] = difL.take 31) := by show _ = _; decide
      have HE2 : RowKit.Hid (difL.take 31 ++ [1500] = difL) := by show _ = _; decide
      go_wp2_with (first
        | (at_builtin; have hz2 := HZ2.out; go_loud (refine append_ints rfl _ _ 192 rfl w.heap.size 34 .u32 4 Tryz.underlying192 infoE_u32 v2 31 (difL.take 31) rfl HA2.out (some ⟨w2.heap.size, 0, none⟩) 1 1 _ [1500] rfl hsrc2.out (by simp) (by unfold maxLen; omega) (by omega) (by simp; omega) ?_); intro v3 w3 hown hgrow _; rw [HE2.out] at hown; obtain ⟨a3, c3, rfl⟩ := own_form hown; have HI3 := Lib.hid (own_ints' hown); have HB3 : RowKit.Hid (Below w.heap.size w w3) := HAB2.out.grown hgrow (by simp; omega) (own_base HA2.out); clear hown hgrow)
        | (at_builtin; go_loud (refine append_ints rfl _ _ 192 rfl w.heap.size 34 .u32 4 Tryz.underlying192 infoE_u32 (.slice a 30 c) 30 (difL.take 30) rfl HA.out (some ⟨wr.heap.size, 0, none⟩) 1 1 _ [500] rfl hsrc.out (by simp) (by unfold maxLen; omega) (by omega) (by simp; omega) ?_); intro v2 w2 hown hgrow _; rw [HE1.out] at hown; have HB2 : RowKit.Hid (Below w.heap.size w w2) := HAB.out.grown hgrow (by simp; omega) (own_base HA.out); have hz2 := HB2.out.size; have HZ2 := Lib.hid hz2; have HA2 := Lib.hid (World.ownsRow.alloc hown (.cells #[.int .u32 1500] 34)); have HAB2 := Lib.hid (HB2.out.alloc hz2 (.cells #[.int .u32 1500] 34)); have hsrc2 := Lib.hid (lit_ints w2 34 .u32 [1500] #[.int .u32 1500] (0, 0) rfl (by simp)); clear hown hgrow HA HAB hsrc)
        | (go_at_call 108; go_loud (refine (refFixed_ok _ _ _ difL _ HI3.out HBd.out (by decide) (by decide) HF.out).mono ?_); rintro e w6 ⟨m, r, rfl, hM, hb⟩; have HM := Lib.hid hM; have HB6 := Lib.hid (HB3.out.trans (hb.mono HB3.out.size)); have HS3 := Lib.hid HB3.out.size; clear hM hb))
      go_ret
      exact ⟨m, r, rfl, HM.out.grow HS3.out, HB6.out⟩
end Go.Proofs.YtmgfkdmjgjlkjaaGreat

namespace Go.Proofs.YtmgfkdmjgjlkjaaGreat
open Go.RowKit
set_option linter.unusedVariables false
theorem modCells_no8 {l : List Int} {fx : Bool} {i : Nat} {y : Int} (h : (modCells l fx)[i]? = some (.int .u8 y)) : False := by
  have := List.mem_of_getElem? h
  unfold modCells at this
  simp at this
theorem IntsAt.ne_mod {w : World} {B len r off m : Nat} {b l : List Int} {fx : Bool} (h : IntsAt w B .u8 (some ⟨r, off, none⟩) len b) (h0 : 0 < len) (k : ModAt w m l fx) : r ≠ m := by
  rintro rfl
  obtain ⟨b', off', e, _, _, hc⟩ := h.at_ h0
  injection e with e
  injection e with e1 e2
  subst e1; subst e2
  rw [k.2.cell] at hc
  simp only [List.getElem?_toArray] at hc
  exact modCells_no8 hc
theorem IntsAt.keeps {F : Nat → Prop} {w w' : World} {B len : Nat} {k : IntKind} {a : Option Addr} {zs : List Int} (h : IntsAt w B k a len zs) (hk : Keeps F w w') (hB : B ≤ w.heap.size) (hF : ∀ r off, a = some ⟨r, off, none⟩ → 0 < len → r < B → ¬ F r) : IntsAt w' B k a len zs := by
  obtain ⟨h1, h2⟩ := h
  refine ⟨h1, ?_⟩
  rcases h2 with h2 | ⟨b, off, e, h3, h4, h5⟩
  · exact .inl h2
  · by_cases h0 : 0 < len
    · exact .inr ⟨b, off, e, h3, h4, fun j hj => (World.cell?_of_block (a := ⟨b, off + j, none⟩) (hk.block b (by omega) (hF b off e h0 h3))).trans (h5 j hj)⟩
    · exact .inl (by omega)
structure StE (w0 : World) (mg og be g n : Nat) (v : Value) (w : World) (L : List Int) (E : EncS) : Prop where
  m : ModAt w mg L false
  o : ModAt w og (List.replicate n 1) false
  e : EncAt w be g v E
  gm : GoodL L
  ge : GoodE E
  lm : L.length = n
  b : Below w0.heap.size w0 w
  d : w0.heap.size ≤ mg ∧ mg ≠ og ∧ mg < be ∧ w0.heap.size ≤ og ∧ og < be
section
variable {w0 w w' : World} {mg og be g n : Nat} {v : Value} {L : List Int} {E : EncS}
theorem StE.drewN (h : StE w0 mg og be g n v w L E) (i : Nat) : StE w0 mg og be g n v (w.drewN i) L E :=
  ⟨h.m.drewN i, h.o.drewN i, h.e.drewN i, h.gm, h.ge, h.lm, Below.drewN' h.b i, h.d⟩
theorem StE.prog {L' : List Int} {E' : EncS} {v' : Value} (h : StE w0 mg og be g n v w L E) (hk : Keeps (fun j => j = g ∨ v.ownBlock = some j ∨ j = mg) w w') (he : EncAt w' be g v' E') (hm : ModAt w' mg L' false) (g1 : GoodL L') (g2 : GoodE E') (l1 : L'.length = n) : StE w0 mg og be g n v' w' L' E' := by
  obtain ⟨d1, d2, d3, d4, d5⟩ := h.d
  have hl := h.e.lt
  have ho : ∀ j, v.ownBlock = some j → be ≤ j := fun j hj => (h.e.own j hj).2.1
  refine ⟨hm, h.o.keeps hk ?_, he, g1, g2, l1, h.b.trans (hk.below h.b.size ?_), h.d⟩
  · rintro (c | c | c)
    · omega
    · have := ho _ c; omega
    · omega
  · rintro j (c | c | c)
    · omega
    · have := ho _ c; omega
    · omega
end
section
variable {w0 w w' : World} {mg bd g n : Nat} {v : Value} {b : List Int} {L : List Int} {D : DecS}
end
structure StB (be g bd len : Nat) (v : Value) (a : Option Addr) (b : List Int) (F : EncS) (w : World) : Prop where
  e : EncAt w be g v F
  i : IntsAt w bd .u8 a len b
  s : bd ≤ w.heap.size
  o : g < bd ∧ ∀ r, v.ownBlock = some r → r < bd
section
variable {w w' : World} {be g bd len og gd : Nat} {v : Value} {a : Option Addr} {b : List Int} {F : EncS} {L : List Int} {fx : Bool}
theorem StB.drewN (h : StB be g bd len v a b F w) (i : Nat) : StB be g bd len v a b F (w.drewN i) := ⟨h.e.drewN i, h.i.drewN i, h.s, h.o⟩
theorem StB.below (h : StB be g bd len v a b F w) (hb : Below w.heap.size w w') : StB be g bd len v a b F w' :=
  ⟨h.e.below hb, h.i.below (hb.mono h.s), Nat.le_trans h.s hb.size, h.o⟩
end
end Go.Proofs.YtmgfkdmjgjlkjaaGreat

namespace Go.Proofs.YtmgfkdmjgjlkjaaGreat
open Go.RowKit
set_option linter.unusedVariables false
def PutSt (w : World) (base g : Nat) (v : Value) (E : EncS) (wr : World) : Prop :=
  ∃ v', EncAt wr base g v' E ∧ Keeps (fun j => j = g ∨ v.ownBlock = some j) w wr ∧ (∀ j, v'.ownBlock = some j → v.ownBlock = some j ∨ w.heap.size ≤ j)
theorem PutSt.start {w : World} {base g : Nat} {v : Value} {E : EncS} (h : EncAt w base g v E) : PutSt w base g v E w := ⟨v, h, Keeps.refl _ w, fun _ h => .inl h⟩
theorem PutSt.below {w wr w' : World} {base g : Nat} {v : Value} {E : EncS} (h : PutSt w base g v E wr) (hb : Below wr.heap.size wr w') : PutSt w base g v E w' := by
  obtain ⟨v', h1, h2, h3⟩ := h
  exact ⟨v', h1.below hb, h2.trans (.of_below hb), h3⟩
theorem PutSt.drewN {w wr : World} {base g : Nat} {v : Value} {E : EncS} (h : PutSt w base g v E wr) (n : Nat) : PutSt w base g v E (wr.drewN n) := by
  obtain ⟨v', h1, h2, h3⟩ := h
  exact ⟨v', h1.drewN n, h2.drewN n, h3⟩
theorem PutSt.ints {w wr : World} {base g len : Nat} {v : Value} {E : EncS} {a : Option Addr} {zs : List Int} (h : PutSt w base g v E wr) (hi : IntsAt w w.heap.size .i64 a len zs) (hne : ∀ r off, a = some ⟨r, off, none⟩ → r ≠ g ∧ v.ownBlock ≠ some r) : IntsAt wr w.heap.size .i64 a len zs := by
  obtain ⟨v', h1, h2, h3⟩ := h
  exact hi.keeps h2 (Nat.le_refl _) fun r off e _ _ c => by
    obtain ⟨n1, n2⟩ := hne r off e
    rcases c with c | c
    · exact n1 c
    · exact n2 c
theorem PutSt.step {w wr w' : World} {base g : Nat} {v v' v2 : Value} {E E' : EncS} (h1 : EncAt wr base g v' E) (h2 : Keeps (fun j => j = g ∨ v.ownBlock = some j) w wr) (h3 : ∀ j, v'.ownBlock = some j → v.ownBlock = some j ∨ w.heap.size ≤ j)
    (k1 : EncAt w' base g v2 E') (k2 : Keeps (fun j => j = g ∨ v'.ownBlock = some j ∨ w.heap.size ≤ j) wr w') (k3 : ∀ j, v2.ownBlock = some j → v'.ownBlock = some j ∨ wr.heap.size ≤ j) : PutSt w base g v E' w' := by
  refine ⟨v2, k1, h2.then_ k2 fun j hj => ?_, fun j hj => ?_⟩
  · rcases hj with hj | hj | hj
    · exact .inl (.inl hj)
    · rcases h3 j hj with c | c
      · exact .inl (.inr c)
      · exact .inr c
    · exact .inr hj
  · rcases k3 j hj with c | c
    · exact h3 j c
    · exact .inr (Nat.le_trans h2.size c)
set_option maxRecDepth 100000 in
theorem engAlone_any (base g : Nat) (v : Value) (e : EncS) (a : Option Addr) (cap : Nat) (zs : List Int) (d : Nat → Int) (w : World) (hE : EncAt w base g v e) (hG : GoodE e) (hk : e.k ≤ 700000)
    (hi : IntsAt w w.heap.size .i64 a 21 zs) (hr : rightB zs = true) (hne : ∀ r off, a = some ⟨r, off, none⟩ → r ≠ g ∧ v.ownBlock ≠ some r) :
    Calls Tryz.prog 161 #[.pointer (some ⟨g, 0, none⟩), .slice a 21 cap] w (PutPost base g v (putN true e (fun j => zs.getD j 0) d 21) (.int .i64 0) w) := by
  have H0 : RowKit.Hid (PutSt w base g v (putN true e (fun j => zs.getD j 0) d 0) w) := PutSt.start hE
  have HI := Lib.hid hi
  have HN := Lib.hid hne
  have HR := Lib.hid (rightB_true hr).2
  have HG := Lib.hid (fun n => putN_good (q := true) (f := fun j => zs.getD j 0) (d := d) hG n)
  have HS : RowKit.Hid (∀ n, putN true e (fun j => zs.getD j 0) d (n + 1) = encBits (putN true e (fun j => zs.getD j 0) d n) (zs.getD n 0) 5) := fun n => by rw [putN_succ, putW_alone]
  generalize putN true e (fun j => zs.getD j 0) d = P at H0 HG HS ⊢
  clear hE hi hr hne hG
  go_enter Tryz.func161, Tryz.ntmps161
  go_wp2
  go_loopw [6, 7, 10] (fun _ _ i wr => ∃ k : Nat, k ≤ 21 ∧ i = .int .i64 (k : Int) ∧ RowKit.Hid (PutSt w base g v (P k) wr)) (fun _ _ i _ => 21 - (intOf i).toNat)
  case atStart => exact ⟨0, by omega, rfl, H0.out⟩
  case round =>
    obtain ⟨k, hk2, rfl, H⟩ := hrel
    clear H0
    by_cases hlt : k < 21
    · obtain ⟨b, off, rfl, _, _, hcell⟩ := (H.out.ints HI.out HN.out).at_ hlt
      obtain ⟨x0, x1⟩ := HR.out k hlt
      obtain ⟨v', he, hke, hv⟩ := H.out
      have HE := Lib.hid he
      have HK := Lib.hid hke
      have HV := Lib.hid hv
      obtain ⟨g1, g2, _⟩ := HG.out k
      have HG1 := Lib.hid g1
      have HP := Lib.hid (HS.out k)
      clear he hke hv H g1
      generalize zs.getD k 0 = x at hcell x0 x1 HP
      have hx : x < P2 5 := by rw [show P2 5 = 32 by decide]; omega
      have HX := Lib.hid hx
      have u1 : IntKind.u32.wrap x = x := IntWalk.u32_in _ (by omega)
      clear hx
      go_wp2_with (go_at_call 159; go_loud (refine (rncBits_any base g v' (P k) x 5 _ HE.out HG1.out x0 (by omega) (by decide) HX.out (by omega)).mono ?_); rintro e2 w2 ⟨rfl, v2, k1, k2, k3⟩; have HT : RowKit.Hid (PutSt w base g v (P (k + 1)) w2) := (by rw [HP.out]; exact PutSt.step HE.out HK.out HV.out k1 (k2.mono fun j hj => hj.elim .inl fun c => .inr (.inl c)) k3); clear k1 k2 k3)
      go_roundw
      case rel => exact ⟨k + 1, by omega, by go_num, HT.out⟩
      case measure => simp [intOf] <;> omega
    · obtain rfl : k = 21 := by omega
      go_wp2
      go_ret
      exact ⟨rfl, H.out⟩
set_option maxHeartbeats 400000 in
set_option maxRecDepth 100000 in
theorem engDiffs_any (base g : Nat) (v : Value) (e : EncS) (a a2 : Option Addr) (cap cap2 : Nat) (zs ds : List Int) (w : World) (hE : EncAt w base g v e) (hG : GoodE e) (hk : e.k ≤ 700000)
    (hi : IntsAt w w.heap.size .i64 a 21 zs) (hr : rightB zs = true) (hne : ∀ r off, a = some ⟨r, off, none⟩ → r ≠ g ∧ v.ownBlock ≠ some r)
    (hi2 : IntsAt w w.heap.size .i64 a2 21 ds) (hr2 : rightB ds = true) (hne2 : ∀ r off, a2 = some ⟨r, off, none⟩ → r ≠ g ∧ v.ownBlock ≠ some r) :
    Calls Tryz.prog 162 #[.pointer (some ⟨g, 0, none⟩), .slice a 21 cap, .slice a2 21 cap2] w (PutPost base g v (putN false e (fun j => zs.getD j 0) (fun j => ds.getD j 0) 21) (.int .i64 0) w) := by
  have H00 : RowKit.Hid (PutSt w base g v (putN false e (fun j => zs.getD j 0) (fun j => ds.getD j 0) 0) w) := PutSt.start hE
  have HI := Lib.hid hi
  have HN := Lib.hid hne
  have HR := Lib.hid (rightB_true hr).2
  have HI2 := Lib.hid hi2
  have HN2 := Lib.hid hne2
  have HR2 := Lib.hid (rightB_true hr2).2
  have HL := Lib.hid difL_good
  have HG := Lib.hid (fun n => putN_good (q := false) (f := fun j => zs.getD j 0) (d := fun j => ds.getD j 0) hG n)
  have HS : RowKit.Hid (∀ n, putN false e (fun j => zs.getD j 0) (fun j => ds.getD j 0) (n + 1) = encSym (putN false e (fun j => zs.getD j 0) (fun j => ds.getD j 0) n) difL ((zs.getD n 0 - ds.getD n 0) % 32).toNat) := fun n => by rw [putN_succ, putW_diff]
  generalize putN false e (fun j => zs.getD j 0) (fun j => ds.getD j 0) = P at H00 HG HS ⊢
  clear hE hi hr hne hG hi2 hr2 hne2
  go_enter Tryz.func162, Tryz.ntmps162
  go_wp2_with (go_at_call 188; go_loud (refine (engDiff_any _).mono ?_); rintro e w1 ⟨m, rfl, hm, hM, hb⟩; have H0 : RowKit.Hid (PutSt w base g v (P 0) w1 ∧ ModAt w1 m difL true) := ⟨H00.out.below hb, hM⟩; clear hM hb)
  clear H00
  go_loopw [8, 9, 10, 14] (fun _ _ _ i wr => ∃ k : Nat, k ≤ 21 ∧ i = .int .i64 (k : Int) ∧ RowKit.Hid (PutSt w base g v (P k) wr ∧ ModAt wr m difL true)) (fun _ _ _ i _ => 21 - (intOf i).toNat)
  case atStart => exact ⟨0, by omega, rfl, H0.out⟩
  case round =>
    obtain ⟨k, hk2, rfl, H⟩ := hrel
    clear H0
    by_cases hlt : k < 21
    · obtain ⟨b, off, rfl, _, _, hcell⟩ := (H.out.1.ints HI.out HN.out).at_ hlt
      obtain ⟨b2, off2, rfl, _, _, hcell2⟩ := (H.out.1.ints HI2.out HN2.out).at_ hlt
      obtain ⟨x0, x1⟩ := HR.out k hlt
      obtain ⟨y0, y1⟩ := HR2.out k hlt
      have HM := Lib.hid H.out.2
      obtain ⟨v', he, hke, hv⟩ := H.out.1
      have HE := Lib.hid he
      have HK := Lib.hid hke
      have HV := Lib.hid hv
      have HKs := Lib.hid hke.size
      obtain ⟨g1, g2, _⟩ := HG.out k
      have HG1 := Lib.hid g1
      have HP := Lib.hid (HS.out k)
      clear he hke hv H g1
      generalize zs.getD k 0 = x at hcell x0 x1 HP
      generalize ds.getD k 0 = y at hcell2 y0 y1 HP
      have u1 : IntKind.i64.wrap (x - y) = x - y := IntWalk.i64_in _ (by omega)
      obtain ⟨s, hs⟩ : ∃ s : Nat, (x - y) % 32 = s := ⟨((x - y) % 32).toNat, by omega⟩
      have hs2 : s < difL.length := by rw [difL_len]; omega
      have HSs := Lib.hid hs
      have HSl := Lib.hid hs2
      have HSn : RowKit.Hid (((x - y) % 32).toNat = s) := by show _ = _; omega
      rw [HSn.out] at HP
      clear hs hs2
      go_wp2_with (first
        | (go_at_call 190; go_loud (refine (engWrap_any (x - y) _).mono ?_); rintro e1 w1' ⟨rfl, rfl⟩; rw [HSs.out])
        | (go_at_call 189; go_loud (refine (rncSymbol_any base g v' m (P k) difL true s _ HE.out HM.out HG1.out HL.out HSl.out (by omega)).mono ?_); rintro e2 w2 ⟨rfl, v2, k1, km, k2, k3⟩; have HT : RowKit.Hid (PutSt w base g v (P (k + 1)) w2 ∧ ModAt w2 m difL true) := ⟨(by rw [HP.out]; exact PutSt.step HE.out HK.out HV.out k1 (k2.mono fun j hj => hj.elim .inl fun c => .inr (c.elim .inl fun c => .inr (by omega))) k3), km⟩; clear k1 k2 k3 km))
      go_roundw
      case rel => exact ⟨k + 1, by omega, by go_num, HT.out⟩
      case measure => simp [intOf] <;> omega
    · obtain rfl : k = 21 := by omega
      go_wp2
      go_ret
      exact ⟨rfl, H.out.1⟩
def AheadAt (w : World) (q : Bool) (a : Option Addr) (len : Nat) (ds : List Int) : Prop := IntsAt w w.heap.size .i64 a len ds ∧ len ≤ 9223372036854775807 ∧ ((q = true ∧ len = 0) ∨ (q = false ∧ rightB ds = true ∧ len = 21))
theorem AheadAt.may {w : World} {q : Bool} {a : Option Addr} {len : Nat} {ds : List Int} (h : AheadAt w q a len ds) : (decide (len = 0) || rightB ds) = true := by
  obtain ⟨_, _, ⟨_, h⟩ | ⟨_, h, _⟩⟩ := h <;> simp [h]
theorem engPut_any (base g : Nat) (v : Value) (e : EncS) (q : Bool) (a a2 : Option Addr) (len2 cap cap2 : Nat) (zs ds : List Int) (w : World) (hE : EncAt w base g v e) (hG : GoodE e) (hk : e.k ≤ 700000)
    (hi : IntsAt w w.heap.size .i64 a 21 zs) (hr : rightB zs = true) (hne : ∀ r off, a = some ⟨r, off, none⟩ → r ≠ g ∧ v.ownBlock ≠ some r)
    (hA : AheadAt w q a2 len2 ds) (hne2 : q = false → ∀ r off, a2 = some ⟨r, off, none⟩ → r ≠ g ∧ v.ownBlock ≠ some r) :
    Calls Tryz.prog 132 #[.pointer (some ⟨g, 0, none⟩), .slice a 21 cap, .slice a2 len2 cap2] w (PutPost base g v (putN q e (fun j => zs.getD j 0) (fun j => ds.getD j 0) 21) (.int .i64 0) w) := by
  have HE := Lib.hid hE
  have HG := Lib.hid hG
  have HI := Lib.hid hi
  have HN := Lib.hid hne
  have HR := Lib.hid hr
  have HA := Lib.hid hA.1
  have HM := Lib.hid hA.may
  have hl2 := hA.2.1
  rcases hA with ⟨_, _, ⟨rfl, hl0⟩ | ⟨rfl, hr2, rfl⟩⟩
  · have q0 : ((len2 : Int) == 0) = true := by simp; omega
    clear hl0
    clear hE hG hi hne hr hne2
    go_enter Tryz.func132, Tryz.ntmps132
    go_wp2_with (first
      | (go_at_call 128; go_loud (refine (engRight_any _ _ _ _ _ HI.out (by decide)).mono ?_); rintro e1 w1 ⟨rfl, rfl⟩; rw [HR.out])
      | (go_at_call 160; go_loud (refine (engAhead_any _ _ _ _ _ HA.out hl2).mono ?_); rintro e1 w1 ⟨rfl, rfl⟩; rw [HM.out])
      | (go_at_call 161; go_loud (refine (engAlone_any base g v e a cap zs (fun j => ds.getD j 0) _ HE.out HG.out hk HI.out HR.out HN.out).mono ?_); rintro e1 w1 ⟨rfl, hp⟩; have HP := Lib.hid hp; clear hp))
    go_ret
    exact ⟨rfl, HP.out⟩
  · have HR2 := Lib.hid hr2
    have HN2 := Lib.hid (hne2 rfl)
    clear hE hG hi hne hr hne2 hr2
    go_enter Tryz.func132, Tryz.ntmps132
    go_wp2_with (first
      | (go_at_call 128; go_loud (refine (engRight_any _ _ _ _ _ HI.out (by decide)).mono ?_); rintro e1 w1 ⟨rfl, rfl⟩; rw [HR.out])
      | (go_at_call 160; go_loud (refine (engAhead_any _ _ _ _ _ HA.out (by decide)).mono ?_); rintro e1 w1 ⟨rfl, rfl⟩; rw [HM.out])
      | (go_at_call 162; go_loud (refine (engDiffs_any base g v e a a2 cap cap2 zs ds _ HE.out HG.out hk HI.out HR.out HN.out HA.out HR2.out HN2.out).mono ?_); rintro e1 w1 ⟨rfl, hp⟩; have HP := Lib.hid hp; clear hp))
    go_ret
    exact ⟨rfl, HP.out⟩
end Go.Proofs.YtmgfkdmjgjlkjaaGreat

namespace Go.Proofs.YtmgfkdmjgjlkjaaGreat
open Go.RowKit
set_option linter.unusedVariables false
theorem IFun.keeps {w w' : World} {g n : Nat} {t : TypeId} {k : IntKind} {f : Nat → Int} {F : Nat → Prop} (h : IFun w g t k n f) (hk : Keeps F w w') (hn : ¬ F g) : IFun w' g t k n f := (hk.block g h.lt hn).trans h
section
variable {w wr w' : World} {base g r : Nat} {v : Value} {b : List Int} {D D' : DecS} {f f' : Nat → Int}
end
end Go.Proofs.YtmgfkdmjgjlkjaaGreat
