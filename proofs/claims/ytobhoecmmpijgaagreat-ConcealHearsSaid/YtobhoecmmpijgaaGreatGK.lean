/- Plain facts, and what functions give, for the proofs of this seat: several texts in one, each with its own first remark. -/
import Derived.Test.YtobhoecmmpijgaaGreatGJ
import Derived.Test.YtobhoecmmpijgaaGreatGE
import Derived.Test.YtobhoecmmpijgaaGreatGH
import Derived.Test.YtobhoecmmpijgaaGreatGD

/- What a frame's own payload says to a player. -/
namespace Go.Proofs.YtobhoecmmpijgaaGreat
open Go Go.RowKit
set_option linter.unusedVariables false
set_option linter.unusedSimpArgs false

variable {F : Frm} {ah : Nat → Int}
theorem Frm.Ok.pWh (h : F.Ok) : plWh F.bytes = F.wh := by
  have := h.back.w
  change plW F.bytes = _ at this
  unfold plWh
  rw [this]
  cases F.wh <;> rfl
theorem Frm.Ok.pW (h : F.Ok) : plW F.bytes = b2 F.wh := h.back.w
theorem Frm.Ok.pB (h : F.Ok) : plB F.bytes = b2 F.br := h.back.r
theorem Frm.Ok.pBr (h : F.Ok) : (plB F.bytes == 1) = F.br := by rw [h.pB]; cases F.br <;> rfl
theorem Frm.Ok.pQ (h : F.Ok) : plQ F.bytes = F.Q := h.back.q
theorem Frm.Ok.pLo (h : F.Ok) : plLo F.bytes = (F.lo : Int) := h.back.lo
theorem Frm.Ok.pV (h : F.Ok) (ha : F.wh = true ∨ ah = F.ah) : plV F.bytes ah = getV F.wh F.bytes (headD F.bytes) F.ah := by
  have e : plV F.bytes F.ah = getV F.wh F.bytes (headD F.bytes) F.ah := by
    unfold plV
    rw [h.pWh]
    rfl
  rcases ha with ha | rfl
  · rw [← e]
    exact plV_alone (by rw [h.pWh]; exact ha) _ _
  · exact e
theorem Frm.Ok.pD5 (h : F.Ok) (ha : F.wh = true ∨ ah = F.ah) : plD5 F.bytes ah = getN F.wh F.bytes (headD F.bytes) F.ah 21 := by
  have e : plD5 F.bytes F.ah = getN F.wh F.bytes (headD F.bytes) F.ah 21 := by
    unfold plD5
    rw [h.pWh]
    rfl
  rcases ha with ha | rfl
  · rw [← e]
    exact plD5_alone (by rw [h.pWh]; exact ha) _ _
  · exact e
theorem Frm.Ok.pL (h : F.Ok) (ha : F.wh = true ∨ ah = F.ah) : plL F.bytes ah = F.l := by
  funext j
  unfold plL
  rw [h.pV ha]
  by_cases hj : j < 21
  · rw [c21_at _ hj, h.back.l j hj]
  · rw [h.l.out j (by omega)]
    exact if_neg hj
theorem Frm.Ok.pS (h : F.Ok) (ha : F.wh = true ∨ ah = F.ah) : plS F.bytes ah = F.steps := by
  unfold plS
  rw [h.pL ha, h.pQ, h.pLo]
  rfl
theorem Frm.Ok.pOk0 (h : F.Ok) {has : Bool} (ha : F.wh = true ∨ has = true) : plOk0 F.bytes has = true := by
  unfold plOk0
  rw [h.pW, h.pQ]
  have := h.q
  rcases ha with ha | rfl
  · rw [ha]
    simp only [b2, if_true]
    rw [decide_eq_false (by omega), decide_eq_false (by omega)]
    rfl
  · rw [decide_eq_false (by omega), decide_eq_false (by omega)]
    simp
theorem Frm.Ok.pOk1 (h : F.Ok) (ha : F.wh = true ∨ ah = F.ah) : plOk1 F.bytes ah = true := by
  unfold plOk1
  rw [plL_tab, h.pL ha]
  exact h.l.right
theorem Frm.Ok.pOk2 (h : F.Ok) (ha : F.wh = true ∨ ah = F.ah) : plOk2 F.bytes ah := by
  intro i hi
  rw [h.pL ha, h.pS ha, h.pD5 ha]
  exact h.back.k i hi
theorem Frm.Ok.pOk (h : F.Ok) {has : Bool} (h0 : F.wh = true ∨ has = true) (ha : F.wh = true ∨ ah = F.ah) : plOk F.bytes has ah := ⟨h.pOk0 h0, h.pOk1 ha, h.pOk2 ha⟩
theorem Frm.Ok.pOut (h : F.Ok) (ha : F.wh = true ∨ ah = F.ah) (seed : Int) {i : Nat} (hi : i < 512) : plOut F.bytes ah seed i = F.out seed i := by
  unfold plOut
  rw [h.pL ha, h.pS ha, h.pD5 ha]
  exact h.back.o seed i hi
theorem Frm.Ok.pHeld (h : F.Ok) (ha : F.wh = true ∨ ah = F.ah) (seed : Int) {i : Nat} (hi : i < 512) : heldF (plOut F.bytes ah seed) i = F.held seed i := by
  show heldF _ i = heldF _ i
  unfold heldF
  rw [h.pOut ha seed hi]
end Go.Proofs.YtobhoecmmpijgaaGreat

/- New encoders, by the document. -/
namespace Go.Proofs.YtobhoecmmpijgaaGreat
open Go Go.RowKit
set_option linter.unusedVariables false
set_option linter.unusedSimpArgs false

def NewRPost (Q : Int) (B : Nat) (w : World) (e : Ending) (w' : World) : Prop := ∃ g, e = .returned (.pointer (some ⟨g, 0, none⟩)) ∧ RefAt w' g Q B s13Zero ∧ w.heap.size ≤ g ∧ Below w.heap.size w w'
theorem drew_sizeB (w : World) : w.drew.heap.size = w.heap.size := rfl
theorem cel_new_at {X : World} {g : Nat} {t : TypeId} {cs : Array Value} (h : X.heap.size = g) : Cel (X.alloc (.cells cs t)) g t cs := h ▸ Cel.new X t cs
theorem ifun_new_at {X : World} {g n : Nat} {t : TypeId} {k : IntKind} {f : Nat → Int} {mc : Array Value} (h0 : ∀ w : World, IFun (w.alloc (.cells mc t)) w.heap.size t k n f) (h : X.heap.size = g) : IFun (X.alloc (.cells mc t)) g t k n f := h ▸ h0 X
theorem new_end {w W : World} {g C x1 x2 : Nat} {Q : Int} {B : Nat} (h : Cel W g 76 (rfC C (.slice (some ⟨x1, 0, none⟩) 640 640) (.slice (some ⟨x2, 0, none⟩) 128 128) Q B 0 (.slice none 0 0) (.slice none 0 0) 0))
    (hc : IFun W C 2 .i64 1025 cosN) (h1 : IFun W x1 2 .i64 640 (fun _ => 0)) (h2 : IFun W x2 2 .i64 128 (fun _ => 0)) (hs : w.heap.size ≤ g) (hb : Below w.heap.size w W) : NewRPost Q B w (.returned (.pointer (some ⟨g, 0, none⟩))) W :=
  ⟨g, rfl, ⟨C, _, _, _, none, h, hc, ⟨x1, 640, rfl, by decide, by decide, h1.num 512 128 (by decide)⟩, ⟨x2, 0, rfl, h2.num 0 128 (by decide) |> fun n => ⟨n.1, fun j hj => n.2 j hj⟩⟩, .inl ⟨rfl, rfl, rfl⟩, rfl⟩, hs, hb⟩
set_option maxHeartbeats 1000000 in
theorem rNew_any (Q : Int) (B : Nat) (w : World) : Calls Tryz.prog 9 #[.int .i64 Q, .int .i64 (B : Int)] w (NewRPost Q B w) := by
  have m1 : ∀ w : World, (Instr.makeSlice 50 (.int .i64 640) (.int .i64 640)).run Tryz.prog w = .ok (.slice (some ⟨w.heap.size, 0, none⟩) 640 640) (w.alloc (.cells (madeCells #[.int .i64 0] 640) 2)) :=
    fun w => make_zeros (P := Tryz.prog) Tryz.underlying50 infoC_i64 640 (by omega) (by omega) w
  have m2 : ∀ w : World, (Instr.makeSlice 50 (.int .i64 128) (.int .i64 128)).run Tryz.prog w = .ok (.slice (some ⟨w.heap.size, 0, none⟩) 128 128) (w.alloc (.cells (madeCells #[.int .i64 0] 128) 2)) :=
    fun w => make_zeros (P := Tryz.prog) Tryz.underlying50 infoC_i64 128 (by omega) (by omega) w
  have I1 : RowKit.Hid (∀ w : World, IFun (w.alloc (.cells (madeCells #[.int .i64 0] 640) 2)) w.heap.size 2 .i64 640 (fun _ => 0)) := fun w => IFun.zeros w 2 .i64 640
  have I2 : RowKit.Hid (∀ w : World, IFun (w.alloc (.cells (madeCells #[.int .i64 0] 128) 2)) w.heap.size 2 .i64 128 (fun _ => 0)) := fun w => IFun.zeros w 2 .i64 128
  generalize madeCells #[Value.int .i64 0] 640 = mc1 at m1 I1
  generalize madeCells #[Value.int .i64 0] 128 = mc2 at m2 I2
  go_enter Tryz.func9, Tryz.ntmps9
  go_wp2
  go_region_held3 (fun w' => True) (go_keep) (first | (go_at_call 21; go_loud (refine (ref04Quarter_any _).mono ?_); rintro e w1 ⟨rfl, i1, b1⟩; have HI1 := Lib.hid i1; have HB1 := Lib.hid b1; clear i1 b1) | fail)
  · go_wp2
    go_ret
    have hc := HI1.out
    have hB : Below w.heap.size w w1 := chain (Below.drewN' (Below.refl _ w) 1) HB1.out
    have HBB : Below w.heap.size w w1 := hB
    have hsz := HBB.size
    exact new_end (cel_new_at (by first | rfl | simp [alloc_sizeB])) (((hc.alloc _).alloc _).alloc _) (((ifun_new_at I1.out (by first | rfl | simp [alloc_sizeB])).alloc _).alloc _) ((ifun_new_at I2.out (by first | rfl | simp [alloc_sizeB])).alloc _) (by first | omega | (simp only [alloc_sizeB]; omega)) (chain (chain (chain HBB (Below.alloc_new _ _)) (Below.alloc_new _ _)) (Below.alloc_new _ _))
  · go_wp2
    go_ret
    have hc := HI1.out
    have hB : Below w.heap.size w w1 := chain (Below.drewN' (Below.refl _ w) 1) HB1.out
    have HBB : Below w.heap.size w w1 := hB
    have hsz := HBB.size
    exact new_end (cel_new_at (by first | rfl | simp [alloc_sizeB])) (((hc.alloc _).alloc _).alloc _) ((ifun_new_at I1.out (by first | rfl | simp [alloc_sizeB])).alloc _) (((ifun_new_at I2.out (by first | rfl | simp [alloc_sizeB])).alloc _).alloc _) (by first | omega | (simp only [alloc_sizeB]; omega)) (chain (chain (chain HBB (Below.alloc_new _ _)) (Below.alloc_new _ _)) (Below.alloc_new _ _))
  · go_wp2
    go_ret
    have hc := HI1.out
    simp only [drew_sizeB, alloc_sizeB] at hc
    have hB : Below (w.alloc (.cells mc1 2)).heap.size (w.alloc (.cells mc1 2)) w1 := chain (Below.drewN' (Below.refl _ (w.alloc (.cells mc1 2))) 1) HB1.out
    have HBB : Below w.heap.size w w1 := (chain (Below.alloc_new w _) hB)
    have hsz := HBB.size
    have f1 : IFun (w.alloc (.cells mc1 2)) w.heap.size 2 .i64 640 (fun _ => 0) := by have := (I1.out w); exact this
    exact new_end (cel_new_at (by first | rfl | simp [alloc_sizeB])) ((hc.alloc _).alloc _) (((f1.below hB f1.lt).alloc _).alloc _) ((ifun_new_at I2.out (by first | rfl | simp [alloc_sizeB])).alloc _) (by first | omega | (simp only [alloc_sizeB]; omega)) (chain (chain HBB (Below.alloc_new _ _)) (Below.alloc_new _ _))
  · go_wp2
    go_ret
    have hc := HI1.out
    simp only [drew_sizeB, alloc_sizeB] at hc
    have hB : Below ((w.alloc (.cells mc1 2)).alloc (.cells mc2 2)).heap.size ((w.alloc (.cells mc1 2)).alloc (.cells mc2 2)) w1 := chain (Below.drewN' (Below.refl _ ((w.alloc (.cells mc1 2)).alloc (.cells mc2 2))) 1) HB1.out
    have HBB : Below w.heap.size w w1 := (chain (chain (Below.alloc_new w _) (Below.alloc_new _ _)) hB)
    have hsz := HBB.size
    have f1 : IFun ((w.alloc (.cells mc1 2)).alloc (.cells mc2 2)) w.heap.size 2 .i64 640 (fun _ => 0) := by have := (I1.out w); exact this.alloc _
    have f2 : IFun ((w.alloc (.cells mc1 2)).alloc (.cells mc2 2)) (w.heap.size + 1) 2 .i64 128 (fun _ => 0) := by have := (I2.out (w.alloc (.cells mc1 2))); rw [alloc_sizeB] at this; exact this
    exact new_end (cel_new_at (by first | rfl | simp [alloc_sizeB])) (hc.alloc _) ((f1.below hB f1.lt).alloc _) ((f2.below hB f2.lt).alloc _) (by first | omega | (simp only [alloc_sizeB]; omega)) (chain HBB (Below.alloc_new _ _))
  · go_wp2
    go_ret
    have hc := HI1.out
    simp only [drew_sizeB, alloc_sizeB] at hc
    have hB : Below (w.alloc (.cells mc2 2)).heap.size (w.alloc (.cells mc2 2)) w1 := chain (Below.drewN' (Below.refl _ (w.alloc (.cells mc2 2))) 1) HB1.out
    have HBB : Below w.heap.size w w1 := (chain (Below.alloc_new w _) hB)
    have hsz := HBB.size
    have f2 : IFun (w.alloc (.cells mc2 2)) w.heap.size 2 .i64 128 (fun _ => 0) := by have := (I2.out w); exact this
    exact new_end (cel_new_at (by first | rfl | simp [alloc_sizeB])) ((hc.alloc _).alloc _) ((ifun_new_at I1.out (by first | rfl | simp [alloc_sizeB])).alloc _) (((f2.below hB f2.lt).alloc _).alloc _) (by first | omega | (simp only [alloc_sizeB]; omega)) (chain (chain HBB (Below.alloc_new _ _)) (Below.alloc_new _ _))
  · go_wp2
    go_ret
    have hc := HI1.out
    simp only [drew_sizeB, alloc_sizeB] at hc
    have hB : Below ((w.alloc (.cells mc2 2)).alloc (.cells mc1 2)).heap.size ((w.alloc (.cells mc2 2)).alloc (.cells mc1 2)) w1 := chain (Below.drewN' (Below.refl _ ((w.alloc (.cells mc2 2)).alloc (.cells mc1 2))) 1) HB1.out
    have HBB : Below w.heap.size w w1 := (chain (chain (Below.alloc_new w _) (Below.alloc_new _ _)) hB)
    have hsz := HBB.size
    have f2 : IFun ((w.alloc (.cells mc2 2)).alloc (.cells mc1 2)) w.heap.size 2 .i64 128 (fun _ => 0) := by have := (I2.out w); exact this.alloc _
    have f1 : IFun ((w.alloc (.cells mc2 2)).alloc (.cells mc1 2)) (w.heap.size + 1) 2 .i64 640 (fun _ => 0) := by have := (I1.out (w.alloc (.cells mc2 2))); rw [alloc_sizeB] at this; exact this
    exact new_end (cel_new_at (by first | rfl | simp [alloc_sizeB])) (hc.alloc _) ((f1.below hB f1.lt).alloc _) ((f2.below hB f2.lt).alloc _) (by first | omega | (simp only [alloc_sizeB]; omega)) (chain HBB (Below.alloc_new _ _))
end Go.Proofs.YtobhoecmmpijgaaGreat

/- A player by the document: a new one, and its fade. -/
namespace Go.Proofs.YtobhoecmmpijgaaGreat
open Go Go.RowKit
set_option linter.unusedVariables false
set_option linter.unusedSimpArgs false

def halfF (l : Nat → Int) (j : Nat) : Int := Int.tdiv (l j) 2
theorem halfF_bd {l : Nat → Int} {j : Nat} (h : -33554432 ≤ l j ∧ l j ≤ 33554431) : -33554432 ≤ halfF l j ∧ halfF l j ≤ 33554431 := by
  have h1 := Int.natAbs_tdiv (l j) 2
  have h2 : Int.natAbs 2 = 2 := rfl
  have h3 : halfF l j = (l j).tdiv 2 := rfl
  rw [h2, ← h3] at h1
  have h4 : (l j).natAbs / 2 ≤ (l j).natAbs := Nat.div_le_self _ _
  change _ = (l j).natAbs / 2 at h1
  omega
theorem tdiv2_bd {x : Int} (h : -33554432 ≤ x ∧ x ≤ 33554431) : -33554432 ≤ x.tdiv 2 ∧ x.tdiv 2 ≤ 33554431 := halfF_bd (l := fun _ => x) (j := 0) h
def FadeRPost (C p : Nat) (av : Value) (has br : Bool) (l left : Nat → Int) (w : World) (e : Ending) (w' : World) : Prop :=
  ∃ b cap x off y c8, e = .returned (.slice (some ⟨b, 0, none⟩) 512 cap) ∧ NumAt w' b 0 512 2 .i64 (samplesF br (halfF l) left) ∧ Cel w' p 74 (plC C (.slice (some ⟨x, off, none⟩) 128 128) av has (.slice (some ⟨y, 0, none⟩) 512 c8) br) ∧ NumAt w' y 0 512 2 .i64 (halfF l) ∧ NumAt w' x off 128 2 .i64 (leftF br (halfF l)) ∧ Keeps (· = p) w w'
set_option maxHeartbeats 1000000 in
set_option maxRecDepth 100000 in
theorem rFade_any (C p b off cap x xo : Nat) (av : Value) (has br : Bool) (l left : Nat → Int) (w : World) (hC : IFun w C 2 .i64 1025 cosN) (hP : Cel w p 74 (plC C (.slice (some ⟨x, xo, none⟩) 128 128) av has (.slice (some ⟨b, off, none⟩) 512 cap) br))
    (hl : NumAt w b off 512 2 .i64 l) (hx : NumAt w x xo 128 2 .i64 left) (hb : ∀ j, j < 512 → -33554432 ≤ l j ∧ l j ≤ 33554431) (hlb : ∀ j, j < 128 → (left j).natAbs ≤ 1073741000) :
    Calls Tryz.prog 39 #[.pointer (some ⟨p, 0, none⟩)] w (FadeRPost C p av has br l left w) := by
  have HC := Lib.hid hC
  have HP := Lib.hid hP
  have HL := Lib.hid hl
  have HX := Lib.hid hx
  have HB := Lib.hid hb
  have HLB := Lib.hid hlb
  have c4 : w.cell? ⟨p, 4, none⟩ = some (.slice (some ⟨b, off, none⟩) 512 cap) := hP.cell 4
  have H0 : RowKit.Hid (w.ownsRow w.heap.size 2 1 (.slice none 0 0) 0 ((tabF 0 (halfF l)).map (Value.int .i64)) ∧ Below w.heap.size w w) := ⟨World.ownsRow_nil w w.heap.size 2 1, Below.refl _ _⟩
  clear hC hP hl hx hb hlb
  go_enter Tryz.func39, Tryz.ntmps39
  go_wp2
  go_loopw [3, 4] (fun v i wr => ∃ (k : Nat) (u : Value), u = v ∧ k ≤ 512 ∧ i = .int .i64 (k : Int) ∧ RowKit.Hid (wr.ownsRow w.heap.size 2 1 u k ((tabF k (halfF l)).map (Value.int .i64)) ∧ Below w.heap.size w wr)) (fun _ i _ => 512 - (intOf i).toNat)
  case atStart => exact ⟨0, _, rfl, by omega, rfl, H0.out⟩
  case round =>
    obtain ⟨k, u, rfl, hk, rfl, H⟩ := hrel
    clear H0
    have hsz := H.out.2.size
    have d4 := (H.out.2.cell (p := ⟨p, 4, none⟩) HP.out.lt).trans c4
    by_cases hlt : k < 512
    · have k1 := (H.out.2.cell (p := ⟨b, off + k, none⟩) (HL.out.1.lt)).trans (HL.out.2 k hlt)
      obtain ⟨y0, y1⟩ := HB.out k hlt
      have HE : RowKit.Hid (tabF k (halfF l) ++ [halfF l k] = tabF (k + 1) (halfF l)) := tab_snoc _ _ _ rfl
      have HM : RowKit.Hid (halfF l k = Int.tdiv (l k) 2) := rfl
      generalize halfF l k = y at HE HM
      generalize l k = z at k1 y0 y1 HM
      have u1 : IntKind.i64.wrap (Int.tdiv z 2) = y := by rw [HM.out]; exact IntWalk.i64_in _ (by have := tdiv2_bd ⟨y0, y1⟩; omega)
      have l1 : (k : Int) < 512 := by omega
      have HA : RowKit.Hid (∀ y, (wr.alloc (.cells #[.int .i64 y] 2)).ownsRow w.heap.size 2 1 u k ((tabF k (halfF l)).map (Value.int .i64))) := fun y => World.ownsRow.alloc H.out.1 _
      have HAB : RowKit.Hid (∀ y, Below w.heap.size w (wr.alloc (.cells #[.int .i64 y] 2))) := fun y => H.out.2.alloc hsz _
      have HSr : RowKit.Hid (∀ y, IntsAt (wr.alloc (.cells #[.int .i64 y] 2)) (wr.alloc (.cells #[.int .i64 y] 2)).heap.size .i64 (some ⟨wr.heap.size, 0, none⟩) 1 [y]) := fun y => lit_ints wr 2 .i64 [y] #[.int .i64 y] (0, 0) rfl (by simp)
      have HOB := Lib.hid (own_base H.out.1)
      clear H
      go_wp2_with (at_builtin; go_loud (refine append_ints rfl _ _ 50 rfl w.heap.size 2 .i64 8 Tryz.underlying50 infoC_i64 _ k (tabF k (halfF l)) rfl (HA.out _) (some ⟨wr.heap.size, 0, none⟩) 1 1 _ [_] rfl (HSr.out _) (by simp) (by unfold maxLen; omega) (by omega) (by simp; omega) ?_); intro v2 w2 hown hgrow _; have H2 : RowKit.Hid (w2.ownsRow w.heap.size 2 1 v2 (k + 1) ((tabF (k + 1) (halfF l)).map (Value.int .i64)) ∧ Below w.heap.size w w2) := ⟨by rw [← HE.out]; exact hown, (HAB.out _).grown hgrow (by simp; omega) HOB.out⟩; clear hown hgrow)
      go_roundw
      case rel => exact ⟨k + 1, v2, rfl, by omega, by go_num, H2.out⟩
      case measure => simp [intOf] <;> omega
    · obtain rfl : k = 512 := by omega
      obtain ⟨y8, p8, rfl, s8, t8, u8, _⟩ := own_num H.out.1 (by decide)
      have HU8 : RowKit.Hid (NumAt wr y8 0 512 2 .i64 (halfF l)) := u8
      have HK8 : RowKit.Hid (Keeps (· = p) w wr) := Keeps.of_below H.out.2
      have HP8 := Lib.hid (HP.out.below H.out.2)
      clear u8 H
      have KW : RowKit.Hid (Keeps (· = p) wr (wr.setCell ⟨p, 4, none⟩ (.slice (some ⟨y8, 0, none⟩) 512 p8))) := Keeps.set1 _
      have PW : RowKit.Hid (Cel (wr.setCell ⟨p, 4, none⟩ (.slice (some ⟨y8, 0, none⟩) 512 p8)) p 74 (plC C (.slice (some ⟨x, xo, none⟩) 128 128) av has (.slice (some ⟨y8, 0, none⟩) 512 p8) br)) := HP8.out.set_ 4 _
      have z4 := HP8.out.frozen 4
      have CW := Lib.hid (Cel.keeps (Cel.keeps HC.out HK8.out (Cel.ne HC.out HP.out (by decide))) KW.out (Cel.ne HC.out HP.out (by decide)))
      have YW := Lib.hid (HU8.out.keeps KW.out (HU8.out.1.ne (Cel.typ HP8.out) (by decide)))
      have XW := Lib.hid ((HX.out.keeps HK8.out (HX.out.1.ne (Cel.typ HP.out) (by decide))).keeps KW.out (HX.out.1.ne (Cel.typ HP.out) (by decide)))
      go_wp2_with (go_at_call 66; go_loud (refine (rSound_any C p y8 0 p8 x xo av has br (halfF l) left _ CW.out PW.out YW.out XW.out (fun j hj => halfF_bd (HB.out j hj)) HLB.out).mono ?_); rintro e w9 ⟨b9, c9, x9, o9, rfl, n9, p9, l9, k9⟩; have HN9 := Lib.hid n9; have HP9 := Lib.hid p9; have HL9 := Lib.hid l9; have HY9 := Lib.hid (YW.out.keeps k9 (YW.out.1.ne (Cel.typ PW.out) (by decide))); have HK9 : RowKit.Hid (Keeps (· = p) w w9) := (HK8.out.trans KW.out).trans k9; clear n9 p9 l9 k9)
      go_ret
      exact ⟨b9, c9, x9, o9, y8, p8, rfl, HN9.out, HP9.out, HY9.out, HL9.out, HK9.out⟩

def NewPPost (w : World) (e : Ending) (w' : World) : Prop := ∃ p C x, e = .returned (.pointer (some ⟨p, 0, none⟩)) ∧ Cel w' p 74 (plC C (.slice (some ⟨x, 0, none⟩) 128 128) (.slice none 0 0) false (.slice none 0 0) false) ∧ IFun w' C 2 .i64 1025 cosN ∧ NumAt w' x 0 128 2 .i64 (fun _ => 0) ∧ w.heap.size ≤ p ∧ Below w.heap.size w w'
theorem newP_end {w W : World} {p C x : Nat} (h : Cel W p 74 (plC C (.slice (some ⟨x, 0, none⟩) 128 128) (.slice none 0 0) false (.slice none 0 0) false)) (hc : IFun W C 2 .i64 1025 cosN) (h2 : IFun W x 2 .i64 128 (fun _ => 0)) (hs : w.heap.size ≤ p) (hb : Below w.heap.size w W) :
    NewPPost w (.returned (.pointer (some ⟨p, 0, none⟩))) W := ⟨p, C, x, rfl, h, hc, (h2.num 0 128 (by decide) |> fun n => ⟨n.1, fun j hj => n.2 j hj⟩), hs, hb⟩
set_option maxHeartbeats 1000000 in
theorem rNewPlayer_any (w : World) : Calls Tryz.prog 8 #[] w (NewPPost w) := by
  have m2 : ∀ w : World, (Instr.makeSlice 50 (.int .i64 128) (.int .i64 128)).run Tryz.prog w = .ok (.slice (some ⟨w.heap.size, 0, none⟩) 128 128) (w.alloc (.cells (madeCells #[.int .i64 0] 128) 2)) :=
    fun w => make_zeros (P := Tryz.prog) Tryz.underlying50 infoC_i64 128 (by omega) (by omega) w
  have I2 : RowKit.Hid (∀ w : World, IFun (w.alloc (.cells (madeCells #[.int .i64 0] 128) 2)) w.heap.size 2 .i64 128 (fun _ => 0)) := fun w => IFun.zeros w 2 .i64 128
  generalize madeCells #[Value.int .i64 0] 128 = mc2 at m2 I2
  go_enter Tryz.func8, Tryz.ntmps8
  go_wp2
  go_region_held3 (fun w' => True) (go_keep) (first | (go_at_call 21; go_loud (refine (ref04Quarter_any _).mono ?_); rintro e w1 ⟨rfl, i1, b1⟩; have HI1 := Lib.hid i1; have HB1 := Lib.hid b1; clear i1 b1) | fail)
  · go_wp2
    go_ret
    have hc := HI1.out
    have hB : Below w.heap.size w w1 := chain (Below.drewN' (Below.refl _ w) 1) HB1.out
    have hsz := hB.size
    exact newP_end (cel_new_at (by first | rfl | simp [alloc_sizeB])) ((hc.alloc _).alloc _) ((ifun_new_at I2.out (by first | rfl | simp [alloc_sizeB])).alloc _) (by first | omega | (simp only [alloc_sizeB]; omega)) (chain (chain hB (Below.alloc_new _ _)) (Below.alloc_new _ _))
  · go_wp2
    go_ret
    have e1 : (w.alloc (.cells mc2 2)).drew.heap.size = w.heap.size + 1 := Array.size_push _
    have hc := HI1.out
    rw [e1] at hc
    have hB : Below w.heap.size w w1 := chain (Below.drewN' (Below.alloc_new w (.cells mc2 2)) 1) HB1.out
    have i2 : IFun (w.alloc (.cells mc2 2)).drew w.heap.size 2 .i64 128 (fun _ => 0) := I2.out w
    have hsz := hB.size
    exact newP_end (cel_new_at (by first | rfl | simp [alloc_sizeB])) (hc.alloc _) ((i2.below HB1.out (by omega)).alloc _) (by first | omega | (simp only [alloc_sizeB]; omega)) (chain hB (Below.alloc_new _ _))
end Go.Proofs.YtobhoecmmpijgaaGreat

/- New encoders, and frames that aren't such: the walks of package coder. -/
namespace Go.Proofs.YtobhoecmmpijgaaGreat
open Go Go.RowKit
set_option linter.unusedVariables false
set_option linter.unusedSimpArgs false

theorem CodAt.below {w w' : World} {g a s : Nat} {Q : Int} {B : Nat} {S : S13} (h : CodAt w g a s Q B S) (b : Below w.heap.size w w') : CodAt w' g a s Q B S := by
  obtain ⟨ca, pa, qa, cs, ps, qs, o, hv, h⟩ := h
  refine ⟨ca, pa, qa, cs, ps, qs, o, hv, h.e.below b, h.a.below b, h.s.below b, h.h.below b, ?_⟩
  have hd := h.d
  cases hh : S.hd with
  | none => rw [hh] at hd; exact hd
  | some H => rw [hh] at hd; obtain ⟨r, e, i⟩ := hd; exact ⟨r, e, i.below b i.lt⟩
theorem CodAt.drewN {w : World} {g a s : Nat} {Q : Int} {B : Nat} {S : S13} (h : CodAt w g a s Q B S) (n : Nat) : CodAt (w.drewN n) g a s Q B S := h.below (Below.drewN' (Below.refl _ _) n)
/-- What is written elsewhere. -/
theorem CodAt.keeps {w w' : World} {g a s : Nat} {Q : Int} {B : Nat} {S : S13} {F : Nat → Prop} (h : CodAt w g a s Q B S) (hk : Keeps F w w')
    (hF : ∀ j, F j → ∃ t cs, Cel w j t cs ∧ t ≠ 222 ∧ t ≠ 220 ∧ t ≠ 100 ∧ t ≠ 152 ∧ t ≠ 155 ∧ t ≠ 3 ∧ t ≠ 51) : CodAt w' g a s Q B S := by
  obtain ⟨ca, pa, qa, cs, ps, qs, o, hv, h⟩ := h
  have nt : ∀ {j : Nat} {t : TypeId} {vs : Array Value}, Cel w j t vs → (∀ t', (t' ≠ 222 ∧ t' ≠ 220 ∧ t' ≠ 100 ∧ t' ≠ 152 ∧ t' ≠ 155 ∧ t' ≠ 3 ∧ t' ≠ 51) → t ≠ t') → ¬ F j := by
    intro j t vs hc ht hf
    obtain ⟨t', cs', c', x⟩ := hF j hf
    exact hc.ne c' (ht t' x) rfl
  have ty : ∀ j, F j → ∃ t' vs, Cel w j t' vs ∧ t' ≠ 222 ∧ t' ≠ 220 := fun j hj => by
    obtain ⟨t', cs', c', x⟩ := hF j hj
    exact ⟨t', cs', c', x.1, x.2.1⟩
  refine ⟨ca, pa, qa, cs, ps, qs, o, hv, h.e.keeps hk (nt h.e fun t' x => (x.2.2.1).symm), h.a.keepsF hk (nt h.a.1 fun t' x => (x.2.2.2.1).symm) ty, h.s.keepsF hk (nt h.s.1 fun t' x => (x.2.2.2.2.1).symm) ty, h.h.keeps hk (fun r hr => nt hr fun t' x => (x.2.2.2.2.2.1).symm), ?_⟩
  have hd := h.d
  cases hh : S.hd with
  | none => rw [hh] at hd; exact hd
  | some H => rw [hh] at hd; obtain ⟨r, e, i⟩ := hd; exact ⟨r, e, Cel.keeps i hk (nt i fun t' x => (x.2.2.2.2.2.2).symm)⟩
/-! ### What was heard, and how far it may be -/
end Go.Proofs.YtobhoecmmpijgaaGreat
