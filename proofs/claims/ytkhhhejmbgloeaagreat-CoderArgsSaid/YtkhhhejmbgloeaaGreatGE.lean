/- Plain facts, and what functions give, for the proofs of this seat: several texts in one, each with its own first remark. -/
import Derived.Test.YtkhhhejmbgloeaaGreatRows
import Derived.Test.YtkhhhejmbgloeaaGreatGy
import Derived.Test.YtkhhhejmbgloeaaGreatGc
import Derived.Test.YtkhhhejmbgloeaaGreatGe
import Derived.IntWalk
import Derived.Deep.QuietTactic
import Derived.BigQuiet
import Derived.StillTailTactics
import Derived.BigRegion
import Derived.Deep.MidRow
import Derived.Deep.WholeRow
import Derived.Laws.ResultCell
import Derived.Test.YtkhhhejmbgloeaaGreatGk
import Derived.Test.YtkhhhejmbgloeaaGreatGD

/- When a frame knocks: the walks of package coder. -/
namespace Go.Proofs.YtkhhhejmbgloeaaGreat
open Go Go.RowKit
set_option linter.unusedVariables false
set_option linter.unusedSimpArgs false

/-- Four greatest samples. -/
def pkV (p : Nat → Int) : Value := .agg #[.int .i64 (p 0), .int .i64 (p 1), .int .i64 (p 2), .int .i64 (p 3)]
theorem pk_next {w : World} {g k q : Nat} {f : Nat → Int} (h : IFun w g 60 .i64 4 (pkF f k)) (hq : k / 128 = q) (h4 : q < 4) {v : Int} (hv : v = max (pkF f k q) (absI (f k))) :
    IFun (w.setCell ⟨g, q, none⟩ (.int .i64 v)) g 60 .i64 4 (pkF f (k + 1)) := by
  refine IFun.ext (h.set h4 v) fun j _ => ?_
  by_cases e : j = q
  · rw [if_pos e, e, hv, pkF_next f hq]
  · rw [if_neg e, pkF_other f (fun c => e (by omega))]
/-- A result that lies in memory. -/
theorem results_cell1 {fn : Func} {p : Tmp} {ty : TypeId} {tmps : Array Value} {P : Program} {w : World} {g : Nat} {v : Value} (h : fn.results = #[.cell p ty]) (hp : tmps.getD p undef = .pointer (some ⟨g, 0, none⟩))
    (e : (loadVar ty ⟨g, 0, none⟩).run P w = .ok v w) : (results fn tmps).run P w = .ok v w := by
  have hp' : tmps[p]?.getD undef = .pointer (some ⟨g, 0, none⟩) := by simpa using hp
  simp only [results, h]
  simp [Sem.run_bind, hp', asAddr, Result.andThen, e]
theorem results_cell2 {fn : Func} {p u : Tmp} {ty : TypeId} {tmps : Array Value} {P : Program} {w : World} {g : Nat} {v v' : Value} (h : fn.results = #[.cell p ty, .tmp u]) (hp : tmps.getD p undef = .pointer (some ⟨g, 0, none⟩)) (hv : tmps.getD u undef = v')
    (e : (loadVar ty ⟨g, 0, none⟩).run P w = .ok v w) : (results fn tmps).run P w = .ok (.tuple #[v, v']) w := by
  rw [results_cell_tmp h, hp, hv]
  simp [asAddr, Result.andThen, e]
theorem info_4 : (Tryz.prog.info? 60).map (·.size) = some 4 := by kernel_rfl
theorem kn_cases {a p : Int} {b : Bool} (h : knB a p = b) : (1000 < p ∧ 8 * a < p ∧ b = true) ∨ (¬ 1000 < p ∧ b = false) ∨ (1000 < p ∧ ¬ 8 * a < p ∧ b = false) := by
  unfold knB at h
  by_cases c : 1000 < p
  · by_cases d : 8 * a < p
    · exact .inl ⟨c, d, by rw [← h]; simp [c, d]⟩
    · exact .inr (.inr ⟨c, d, by rw [← h]; simp [c, d]⟩)
  · exact .inr (.inl ⟨c, by rw [← h]; simp [c]⟩)
theorem alloc_sizeB (w : World) (o : Obj) : (w.alloc o).heap.size = w.heap.size + 1 := Array.size_push _
set_option maxRecDepth 100000 in
theorem cPeaks_any (x cap : Nat) (f : Nat → Int) (w : World) (h : IFun w x 48 .i16 512 f) (hb : ∀ i, i < 512 → -32768 ≤ f i ∧ f i ≤ 32767) :
    Calls Tryz.prog 20 #[.slice (some ⟨x, 0, none⟩) 512 cap] w fun e w' => e = .returned (pkV (peakQ f)) ∧ Below w.heap.size w w' := by
  have HF := Lib.hid h
  have HFb := Lib.hid hb
  clear h hb
  have HS : RowKit.Hid (IFun ((w.alloc (.cells #[.int .i64 0, .int .i64 0, .int .i64 0, .int .i64 0] 60)).alloc (.cells #[.int .i64 0, .int .i64 0, .int .i64 0, .int .i64 0] 60)) (w.heap.size + 1) 60 .i64 4 (pkF f 0) ∧ Cel ((w.alloc (.cells #[.int .i64 0, .int .i64 0, .int .i64 0, .int .i64 0] 60)).alloc (.cells #[.int .i64 0, .int .i64 0, .int .i64 0, .int .i64 0] 60)) w.heap.size 60 #[.int .i64 0, .int .i64 0, .int .i64 0, .int .i64 0] ∧ Below w.heap.size w ((w.alloc (.cells #[.int .i64 0, .int .i64 0, .int .i64 0, .int .i64 0] 60)).alloc (.cells #[.int .i64 0, .int .i64 0, .int .i64 0, .int .i64 0] 60))) := by
    refine ⟨?_, (Cel.new w _ _).alloc _, chain (Below.alloc_new w _) (Below.alloc_new _ _)⟩
    have e := Cel.new (w.alloc (.cells #[.int .i64 0, .int .i64 0, .int .i64 0, .int .i64 0] 60)) 60 #[.int .i64 0, .int .i64 0, .int .i64 0, .int .i64 0]
    rw [alloc_sizeB] at e
    exact IFun.ext (f := fun _ => 0) e fun j _ => (pkF_zero f j).symm
  go_enter Tryz.func20, Tryz.ntmps20
  go_wp2
  generalize ((w.alloc (.cells #[.int .i64 0, .int .i64 0, .int .i64 0, .int .i64 0] 60)).alloc (.cells #[.int .i64 0, .int .i64 0, .int .i64 0, .int .i64 0] 60)) = w1 at HS ⊢
  obtain ⟨g, hg⟩ : ∃ g, g = w.heap.size + 1 := ⟨_, rfl⟩
  obtain ⟨g0, hg0⟩ : ∃ g, g = w.heap.size := ⟨_, rfl⟩
  rw [← hg] at HS ⊢
  rw [← hg0] at HS ⊢
  have xl : x < g0 := by rw [hg0]; exact HF.out.lt
  have ng : g0 ≠ g := by omega
  have HG0 : RowKit.Hid (w.heap.size = g0) := hg0.symm
  have HGG : RowKit.Hid (g0 ≤ g) := by show g0 ≤ g; omega
  clear hg hg0
  go_loopw [9] (fun i wr => ∃ k : Nat, k ≤ 512 ∧ i = .int .i64 (k : Int) ∧ RowKit.Hid (IFun wr g 60 .i64 4 (pkF f k) ∧ Cel wr g0 60 #[.int .i64 0, .int .i64 0, .int .i64 0, .int .i64 0] ∧ Below g0 w wr)) (fun i _ => 512 - (intOf i).toNat)
  case atStart => exact ⟨0, by omega, rfl, HS.out⟩
  case round =>
    obtain ⟨k, hk, rfl, HI⟩ := hrel
    clear HS
    by_cases hlt : k < 512
    · obtain ⟨q, hq⟩ : ∃ q, k / 128 = q := ⟨_, rfl⟩
      have h4 : q < 4 := by omega
      have hqi : ((k : Int)).tdiv 128 = (q : Int) := by rw [← hq]; rfl
      have hqj : ((k : Int)) / 128 = (q : Int) := by rw [← hq]; rfl
      have k1 := (HI.out.2.2.cell (p := ⟨x, k, none⟩) xl).trans (HF.out.cell hlt)
      have o1 := HI.out.1.cell h4
      have f1 := HI.out.1.frozen q
      have HX : RowKit.Hid (∀ v, v = max (pkF f k q) (absI (f k)) → IFun (wr.setCell ⟨g, q, none⟩ (.int .i64 v)) g 60 .i64 4 (pkF f (k + 1)) ∧ Cel (wr.setCell ⟨g, q, none⟩ (.int .i64 v)) g0 60 #[.int .i64 0, .int .i64 0, .int .i64 0, .int .i64 0] ∧ Below g0 w (wr.setCell ⟨g, q, none⟩ (.int .i64 v))) :=
        fun v hv => ⟨pk_next HI.out.1 hq h4 hv, HI.out.2.1.far (p := ⟨g, q, none⟩) ng _, HI.out.2.2.setCell (p := ⟨g, q, none⟩) HGG.out _⟩
      have HM := Lib.hid (absI_max (f k) (pkF f k q))
      obtain ⟨y0, y1⟩ := HFb.out k hlt
      have HP : RowKit.Hid (0 ≤ pkF f k q ∧ pkF f k q ≤ 32768) := by
        show _ ∧ _
        unfold pkF
        exact peakTo_bd fun i hi => HFb.out _ (by omega)
      obtain ⟨z0, z1⟩ := HP.out
      generalize f k = y at k1 y0 y1 HM HX
      generalize pkF f k q = z at o1 z0 z1 HM HX
      have u1 : IntKind.i64.wrap (-y) = -y := IntWalk.i64_in _ (by omega)
      have u2 : IntKind.i64.wrap y = y := IntWalk.i64_in _ (by omega)
      have l1 : (k : Int) < 512 := by omega
      clear hq HI HP
      go_wp2
      go_roundw
      case rel => exact ⟨k + 1, by omega, by go_num, HX.out _ (by rw [← HM.out]; omega)⟩
      case measure => simp [intOf] <;> omega
    · obtain rfl : k = 512 := by omega
      have c0 := HI.out.1.cell (j := 0) (by decide)
      have c1 := HI.out.1.cell (j := 1) (by decide)
      have c2 := HI.out.1.cell (j := 2) (by decide)
      have c3 := HI.out.1.cell (j := 3) (by decide)
      rw [pkF_all f (by decide)] at c0 c1 c2 c3
      have d0 := HI.out.2.1.cell 0
      have d1 := HI.out.2.1.cell 1
      have d2 := HI.out.2.1.cell 2
      have d3 := HI.out.2.1.cell 3
      have e0 := HI.out.2.1.frozen 0
      have e1 := HI.out.2.1.frozen 1
      have e2 := HI.out.2.1.frozen 2
      have e3 := HI.out.2.1.frozen 3
      go_wp2
      refine bodyPost_ret (results_cell1 rfl rfl (run_loadVar_row _ g0 _ _ _ (0, 0) _ ((((HI.out.2.1.set_ 0 _).set_ 1 _).set_ 2 _).set_ 3 _) Tryz.underlying60 rfl info_4)) rfl ⟨rfl, ?_⟩
      rw [HG0.out]
      exact (((HI.out.2.2.setCell (p := ⟨g0, 0, none⟩) (Nat.le_refl _) _).setCell (p := ⟨g0, 1, none⟩) (Nat.le_refl _) _).setCell (p := ⟨g0, 2, none⟩) (Nat.le_refl _) _).setCell (p := ⟨g0, 3, none⟩) (Nat.le_refl _) _
theorem infoC_int : (Tryz.prog.info? 3).map (fun i => (i.zero, i.size, i.bytes)) = some (some (.int .i64 0), 1, 8) := by kernel_rfl
theorem index_4 (zs : Array Value) (k : Nat) (v : Value) (hk : k < 4) (hz : zs[k]? = some v) (hv : v.oneCell' = true) (w : World) : (Instr.index 60 (.agg zs) (.int .i64 (k : Int))).run Tryz.prog w = .ok v w := by
  have hu := Tryz.underlying60
  have he := Tryz.underlying3
  obtain ⟨i, h3, _, h5, _⟩ := info_parts infoC_int
  have h1 : 0 ≤ (k : Int) ∧ (k : Int) < ((4 : Nat) : Int) := by omega
  simp only [Instr.index, asIntOf, Sem.run_bind, Sem.run_pure, Result.andThen_ok, run_underlying hu]
  rw [if_pos h1]
  simp only [part, isAgg, sizeOf, typeInfo, Sem.run_bind, Sem.run_pure, Result.andThen_ok, run_underlying he]
  simp [h3, h5, hz]
set_option maxRecDepth 100000 in
theorem cBrief_any (A p0 p1 p2 p3 : Int) (w : World) (hA : 0 ≤ A ∧ A ≤ 32768) (h0 : 0 ≤ p0 ∧ p0 ≤ 32768) (h1 : 0 ≤ p1 ∧ p1 ≤ 32768) (h2 : 0 ≤ p2 ∧ p2 ≤ 32768) :
    Calls Tryz.prog 22 #[.int .i64 A, .agg #[.int .i64 p0, .int .i64 p1, .int .i64 p2, .int .i64 p3]] w fun e w' => e = .returned (.bool (briefB A p0 p1 p2 p3)) ∧ Below w.heap.size w w' := by
  have HB := Lib.hid (Below.alloc_new w (.cells #[.int .i64 p0, .int .i64 p1, .int .i64 p2, .int .i64 p3] 60))
  obtain ⟨b0, hb0⟩ : ∃ b, b = knB A p0 := ⟨_, rfl⟩
  obtain ⟨b1, hb1⟩ : ∃ b, b = knB p0 p1 := ⟨_, rfl⟩
  obtain ⟨b2, hb2⟩ : ∃ b, b = knB p1 p2 := ⟨_, rfl⟩
  obtain ⟨b3, hb3⟩ : ∃ b, b = knB p2 p3 := ⟨_, rfl⟩
  have HR : RowKit.Hid (briefB A p0 p1 p2 p3 = (b0 || b1 || b2 || b3)) := by show _ = _; rw [hb0, hb1, hb2, hb3]; rfl
  generalize briefB A p0 p1 p2 p3 = R at HR ⊢
  have HK0 : RowKit.Hid (knB A p0 = b0) := hb0.symm
  have HK1 : RowKit.Hid (knB p0 p1 = b1) := hb1.symm
  have HK2 : RowKit.Hid (knB p1 p2 = b2) := hb2.symm
  have HK3 : RowKit.Hid (knB p2 p3 = b3) := hb3.symm
  clear hb0 hb1 hb2 hb3
  have u0 : IntKind.i64.wrap (8 * A) = 8 * A := IntWalk.i64_in _ (by omega)
  have u1 : IntKind.i64.wrap (8 * p0) = 8 * p0 := IntWalk.i64_in _ (by omega)
  have u2 : IntKind.i64.wrap (8 * p1) = 8 * p1 := IntWalk.i64_in _ (by omega)
  have u3 : IntKind.i64.wrap (8 * p2) = 8 * p2 := IntWalk.i64_in _ (by omega)
  have i0 : ∀ w : World, (Instr.index 60 (.agg #[.int .i64 p0, .int .i64 p1, .int .i64 p2, .int .i64 p3]) (.int .i64 0)).run Tryz.prog w = .ok (.int .i64 p0) w := fun w => index_4 _ 0 _ (by decide) rfl rfl w
  have i1 : ∀ w : World, (Instr.index 60 (.agg #[.int .i64 p0, .int .i64 p1, .int .i64 p2, .int .i64 p3]) (.int .i64 1)).run Tryz.prog w = .ok (.int .i64 p1) w := fun w => index_4 _ 1 _ (by decide) rfl rfl w
  have i2 : ∀ w : World, (Instr.index 60 (.agg #[.int .i64 p0, .int .i64 p1, .int .i64 p2, .int .i64 p3]) (.int .i64 2)).run Tryz.prog w = .ok (.int .i64 p2) w := fun w => index_4 _ 2 _ (by decide) rfl rfl w
  have i3 : ∀ w : World, (Instr.index 60 (.agg #[.int .i64 p0, .int .i64 p1, .int .i64 p2, .int .i64 p3]) (.int .i64 3)).run Tryz.prog w = .ok (.int .i64 p3) w := fun w => index_4 _ 3 _ (by decide) rfl rfl w
  go_enter Tryz.func22, Tryz.ntmps22
  go_wp2
  generalize (w.alloc (.cells #[.int .i64 p0, .int .i64 p1, .int .i64 p2, .int .i64 p3] 60)) = w1 at HB ⊢
  go_loopw [0, 4, 8] (fun v _ i wr => ∃ k : Nat, k ≤ 4 ∧ i = .int .i64 (k : Int) ∧ wr = w1 ∧ ((k = 0 ∧ v = .int .i64 A) ∨ (k = 1 ∧ v = .int .i64 p0 ∧ b0 = false) ∨ (k = 2 ∧ v = .int .i64 p1 ∧ b0 = false ∧ b1 = false) ∨ (k = 3 ∧ v = .int .i64 p2 ∧ b0 = false ∧ b1 = false ∧ b2 = false) ∨ (k = 4 ∧ b0 = false ∧ b1 = false ∧ b2 = false ∧ b3 = false))) (fun _ _ i _ => 4 - (intOf i).toNat)
  case atStart => exact ⟨0, by omega, rfl, rfl, .inl ⟨rfl, rfl⟩⟩
  case round =>
    obtain ⟨k, hk, rfl, rfl, ⟨rfl, rfl⟩ | ⟨rfl, rfl, r0⟩ | ⟨rfl, rfl, r0, r1⟩ | ⟨rfl, rfl, r0, r1, r2⟩ | ⟨rfl, r0, r1, r2, r3⟩⟩ := hrel
    · rcases kn_cases HK0.out with ⟨t1, t2, e⟩ | ⟨t1, e⟩ | ⟨t1, t2, e⟩
      · have HE : RowKit.Hid (R = true) := by show _ = _; rw [HR.out, e]; simp
        clear e HK0 HK1 HK2 HK3
        go_wp2
        go_ret
        exact ⟨by rw [HE.out]; rfl, HB.out⟩
      · go_wp2
        go_roundw
        case rel => exact ⟨1, by decide, by go_num, trivial, .inr (.inl ⟨rfl, rfl, e⟩)⟩
        case measure => simp [intOf] <;> omega
      · go_wp2
        go_roundw
        case rel => exact ⟨1, by decide, by go_num, trivial, .inr (.inl ⟨rfl, rfl, e⟩)⟩
        case measure => simp [intOf] <;> omega
    · rcases kn_cases HK1.out with ⟨t1, t2, e⟩ | ⟨t1, e⟩ | ⟨t1, t2, e⟩
      · have HE : RowKit.Hid (R = true) := by show _ = _; rw [HR.out, e]; simp
        clear e HK0 HK1 HK2 HK3
        go_wp2
        go_ret
        exact ⟨by rw [HE.out]; rfl, HB.out⟩
      · go_wp2
        go_roundw
        case rel => exact ⟨2, by decide, by go_num, trivial, .inr (.inr (.inl ⟨rfl, rfl, r0, e⟩))⟩
        case measure => simp [intOf] <;> omega
      · go_wp2
        go_roundw
        case rel => exact ⟨2, by decide, by go_num, trivial, .inr (.inr (.inl ⟨rfl, rfl, r0, e⟩))⟩
        case measure => simp [intOf] <;> omega
    · rcases kn_cases HK2.out with ⟨t1, t2, e⟩ | ⟨t1, e⟩ | ⟨t1, t2, e⟩
      · have HE : RowKit.Hid (R = true) := by show _ = _; rw [HR.out, e]; simp
        clear e HK0 HK1 HK2 HK3
        go_wp2
        go_ret
        exact ⟨by rw [HE.out]; rfl, HB.out⟩
      · go_wp2
        go_roundw
        case rel => exact ⟨3, by decide, by go_num, trivial, .inr (.inr (.inr (.inl ⟨rfl, rfl, r0, r1, e⟩)))⟩
        case measure => simp [intOf] <;> omega
      · go_wp2
        go_roundw
        case rel => exact ⟨3, by decide, by go_num, trivial, .inr (.inr (.inr (.inl ⟨rfl, rfl, r0, r1, e⟩)))⟩
        case measure => simp [intOf] <;> omega
    · rcases kn_cases HK3.out with ⟨t1, t2, e⟩ | ⟨t1, e⟩ | ⟨t1, t2, e⟩
      · have HE : RowKit.Hid (R = true) := by show _ = _; rw [HR.out, e]; simp
        clear e HK0 HK1 HK2 HK3
        go_wp2
        go_ret
        exact ⟨by rw [HE.out]; rfl, HB.out⟩
      · go_wp2
        go_roundw
        case rel => exact ⟨4, by decide, by go_num, trivial, .inr (.inr (.inr (.inr ⟨rfl, r0, r1, r2, e⟩)))⟩
        case measure => simp [intOf] <;> omega
      · go_wp2
        go_roundw
        case rel => exact ⟨4, by decide, by go_num, trivial, .inr (.inr (.inr (.inr ⟨rfl, r0, r1, r2, e⟩)))⟩
        case measure => simp [intOf] <;> omega
    · have HE : RowKit.Hid (R = false) := by show _ = _; rw [HR.out, r0, r1, r2, r3]; rfl
      go_wp2
      go_ret
      exact ⟨by rw [HE.out]; rfl, HB.out⟩
end Go.Proofs.YtkhhhejmbgloeaaGreat

/- The bytes of an encoder: they lie in a row, also where there are none. -/
namespace Go.Proofs.YtkhhhejmbgloeaaGreat
open Go.RowKit
set_option linter.unusedVariables false

/-- Bytes that lie in a row. -/
def BytesPostS (b : List Int) (w : World) (x : Ending) (w' : World) : Prop := ∃ g c, x = .returned (.slice (some ⟨g, 0, none⟩) b.length c) ∧ IntsAt w' w'.heap.size .u8 (some ⟨g, 0, none⟩) b.length b ∧ Below w.heap.size w w'
set_option maxHeartbeats 1000000 in
set_option maxRecDepth 100000 in
theorem rncBytes_some (base g : Nat) (v : Value) (n : Int) (k : Nat) (less : Int) (w : World) (hE : EncR w base g v n k less) (hk : k ≤ 900000) :
    Calls Tryz.prog 77 #[.pointer (some ⟨g, 0, none⟩)] w (BytesPostS (bytesL (digL n (k + 4))) w) := by
  have HR := Lib.hid hE
  obtain ⟨D, last, h1, h2, h3, h4, h5, h6⟩ := hE
  obtain ⟨c0, c1, c2⟩ := h1.cells
  have ho := h1.2.1
  rw [h3] at ho
  obtain ⟨a, c, rfl⟩ := own_form ho
  have HD4 := Lib.hid (four_dig h2 h3 h4 h5 h6)
  have HI := Lib.hid (own_ints' ho)
  have HN := Lib.hid (own_none ho)
  have H1 := Lib.hid h1
  have hgl := h1.lt
  have hmk := make_empty (P := Tryz.prog) Tryz.underlying37 info_u806 ((k : Int) + 4) (k + 4) (by omega) (by omega) (by omega) w
  have hsz : (madeCells #[Value.int .u8 0] (k + 4)).size = (k + 4) * 1 := by rw [size_madeCells]; omega
  have HO0 := Lib.hid (World.ownsRow_made (base := w.heap.size) (e := 5) (size := 1) w (madeCells #[Value.int .u8 0] (k + 4)) (k + 4) (Nat.le_refl _) (by unfold maxLen; omega) hsz)
  have HB0 := Lib.hid (Below.alloc_new w (.cells (madeCells #[Value.int .u8 0] (k + 4)) 5))
  have hk1 : k ≤ 1000000 := by omega
  clear h1 h2 h3 h6 ho c2 hsz
  generalize madeCells #[Value.int .u8 0] (k + 4) = mc at hmk HO0 HB0
  go_enter Tryz.func77, Tryz.ntmps77
  go_wp2_with (first | (go_at_call 115; ((with_reducible refine (rncLen_any base g _ n k less _ HR.out hk1).mono ?_)); rintro e w' ⟨rfl, rfl⟩) | (at_builtin; go_loud (refine append_ints rfl _ _ 37 rfl w.heap.size 5 .u8 1 Tryz.underlying37 info_u806 _ 0 [] rfl HO0.out a k c w.heap.size D rfl (HI.out.below HB0.out) HN.out ?c1 ?c2 ?c3 ?_)))
  case c1 => unfold maxLen; omega
  case c2 => omega
  case c3 => simp
  intro v2 w2 hown hgrow _
  have hb2 := HB0.out.grown hgrow (by simp) (own_base HO0.out)
  obtain ⟨a2, cp2, rfl⟩ := own_form hown
  have c1' : w2.cell? ⟨g, 1, none⟩ = some (.int .u32 last) := (hb2.cell (p := ⟨g, 1, none⟩) hgl).trans c1
  have HO2 := Lib.hid hown
  have HB2 := Lib.hid hb2
  clear hown hgrow hb2 c0 c1 hmk
  obtain ⟨q0, hq0⟩ : ∃ q, q = last / 16777216 % 256 := ⟨_, rfl⟩
  obtain ⟨q1, hq1⟩ : ∃ q, q = last / 65536 % 256 := ⟨_, rfl⟩
  obtain ⟨q2, hq2⟩ : ∃ q, q = last / 256 % 256 := ⟨_, rfl⟩
  obtain ⟨q3, hq3⟩ : ∃ q, q = last % 256 := ⟨_, rfl⟩
  have HF : RowKit.Hid (four last = [q0, q1, q2, q3]) := by show _ = _; unfold four; rw [hq0, hq1, hq2, hq3]
  have e0 : IntKind.u8.wrap (last / 16777216) = q0 := by rw [hq0]; rfl
  have e1 : IntKind.u8.wrap (last / 65536) = q1 := by rw [hq1]; rfl
  have e2 : IntKind.u8.wrap (last / 256) = q2 := by rw [hq2]; rfl
  have e3 : IntKind.u8.wrap last = q3 := by rw [hq3]; rfl
  clear hq0 hq1 hq2 hq3
  have ag : some g ≠ (Value.slice a2 k cp2).ownBlock := fun e => by
    have := own_base HO2.out g e.symm
    omega
  obtain ⟨i0, hi, hzz, hz1, hz2⟩ := info_parts info_u806
  have hsz2 := HB2.out.size
  have HO4 := Lib.hid (World.ownsRow.alloc HO2.out (.cells #[.int .u8 q0, .int .u8 q1, .int .u8 q2, .int .u8 q3] 5))
  have HB4 := Lib.hid (HB2.out.alloc hsz2 (.cells #[.int .u8 q0, .int .u8 q1, .int .u8 q2, .int .u8 q3] 5))
  go_wp2
  go_region_held3 (fun w' => w'.cell? ⟨g, 1, none⟩ = some (.int .u32 last))
    (first | go_keep | (rw [hgrow.cell_far _ (by simp; omega) ag]; assumption))
    ((refine step_append_lies _ (by rfl) _ _ _ (by rfl) w.heap.size 5 i0 (.int .u8 0) 1 1 Tryz.underlying37 hi hzz hz1 hz2 rfl (by decide) (.slice a2 k cp2) k _ (by rfl) HO4.out.drew ⟨w2.heap.size, 0, none⟩ 4 4 [.int .u8 q0, .int .u8 q1, .int .u8 q2, .int .u8 q3] (by rfl) (by rfl) (World.news_of_block (cs := #[.int .u8 q0, .int .u8 q1, .int .u8 q2, .int .u8 q3]) (t := 5) (fr := (0, 0)) (heap_alloc_new w2 _)) (by simp [Value.oneCell']) (by omega) (by unfold maxLen; omega) (by omega) (by simp; omega) (w2.heap.size + 1) (by simp) ?_; intro gg cp w5 hown hgrow hat hlt2))
  have hown5 : w5.ownsRow w.heap.size 5 1 (.slice (some ⟨gg, 0, none⟩) (k + 4) cp) (k + 4) ((digL n (k + 4)).map (Value.int .u8)) := by
    rw [← HD4.out, HF.out]; simpa using hown
  have HB5 : RowKit.Hid (Below w.heap.size w w5) := (Below.drewN' HB4.out 1).grown hgrow (by simp; omega) (own_base HO4.out)
  have hcp : k + 4 ≤ cp ∧ cp ≤ 9223372036854775807 := by
    rcases hown5.2 with ⟨h, _⟩ | ⟨g', cap, cur, h, _, _, h2, h3, _⟩
    · injection h with h; cases h
    · unfold maxLen at h3; injection h with _ _ h; omega
  obtain ⟨hcp, hcpm⟩ := hcp
  have HO5 := Lib.hid hown5
  obtain ⟨L, hL⟩ : ∃ L, L = digL n (k + 4) := ⟨_, rfl⟩
  have HLd : RowKit.Hid (IsDig L ∧ L.length = k + 4) := by rw [hL]; exact ⟨digL_dig _ _, digL_len _ _⟩
  rw [← hL] at HO5
  have HLq : RowKit.Hid (digL n (k + 4) = L) := hL.symm
  clear hown hgrow hown5 hL HO4 HB4 HO2 HB2 HD4 HF hat hlt2 ag HO0 HB0 HI HN H1 HR
  go_wp2
  go_loopw [4] (fun i wr => ∃ j : Nat, j ≤ k + 4 ∧ i = .int .i64 j ∧ RowKit.Hid (lastK L j = lastK L (k + 4)) ∧ wr = w5) (fun i _ => (intOf i).toNat)
  case atStart => exact ⟨k + 4, by omega, by go_num, rfl, rfl⟩
  case round =>
    obtain ⟨j, hj, rfl, H, rfl⟩ := hrel
    by_cases hz : j = 0
    · have hm : lastK L (k + 4) = -1 := by rw [← H.out, hz]; rfl
      have HE : RowKit.Hid (bytesL L = []) := by
        show _ = _
        unfold bytesL; rw [HLd.out.2, hm]; rfl
      subst hz
      clear H hm
      go_wp2
      go_ret
      rw [HLq.out, HE.out]
      exact ⟨gg, cp, rfl, ⟨rfl, .inl rfl⟩, HB5.out⟩
    · obtain ⟨p, hp⟩ : ∃ p, j = p + 1 := ⟨j - 1, by omega⟩
      subst hp
      have hcell : wr.cell? ⟨gg, p, none⟩ = some (.int .u8 (L.getD p 0)) := by
        rw [HO5.out.cellAt p (by omega), List.getElem?_map, List.getElem?_eq_getElem (by rw [HLd.out.2]; omega)]
        simp [List.getD, show p < L.length by rw [HLd.out.2]; omega]
      have E : RowKit.Hid (lastK L (p + 1) = if L.getD p 0 = 0 then lastK L p else p) := rfl
      generalize L.getD p 0 = x at hcell E
      by_cases hx : x = 0
      · have hq : (x == 0) = true := by simpa using hx
        have E2 : RowKit.Hid (lastK L p = lastK L (k + 4)) := by
          show _ = _
          rw [← H.out, E.out, if_pos hx]
        clear hx
        go_wp2
        go_roundw
        case rel => exact ⟨p, by omega, rfl, E2.out, trivial⟩
        case measure => simp [intOf] <;> omega
      · have hq : (x == 0) = false := by simpa using hx
        have HE : RowKit.Hid (bytesL L = L.take (p + 1)) := by
          have hm : lastK L (k + 4) = p := by rw [← H.out, E.out, if_neg hx]
          show _ = _
          unfold bytesL
          rw [HLd.out.2, hm]
          congr 1
        have HI5 := Lib.hid (own_ints' HO5.out)
        clear hx
        go_wp2
        go_ret
        rw [HLq.out, HE.out]
        have e : (L.take (p + 1)).length = p + 1 := by rw [List.length_take, HLd.out.2]; omega
        refine ⟨gg, cp, by rw [e]; rfl, ?_, HB5.out⟩
        rw [e]
        exact HI5.out.take hj
end Go.Proofs.YtkhhhejmbgloeaaGreat

/- A frame as bytes: the walks of package coder. -/
namespace Go.Proofs.YtkhhhejmbgloeaaGreat
open Go Go.RowKit
set_option linter.unusedVariables false
set_option linter.unusedSimpArgs false

theorem head_good0 : GoodE encNew ∧ encNew.k = 0 := ⟨goodE_new, rfl⟩
/-- What is held on the way. -/
def HdSt (w : World) (base g : Nat) (v : Value) (h : Nat) (ph : Array Value) (E : EncS) (wr : World) : Prop := PutSt w base g v E wr ∧ Cel wr h 177 ph
theorem HdSt.bits {w wr : World} {base g h : Nat} {v : Value} {ph : Array Value} {E : EncS} (H : HdSt w base g v h ph E wr) (hG : GoodE E) (hk : E.k ≤ 1000) {n : Int} {wide : Nat} (n0 : 0 ≤ n) (h12 : wide ≤ 12) (hn : n < P2 wide) (o : Obj) :
    Calls Tryz.prog 107 #[.pointer (some ⟨g, 0, none⟩), .int .u32 n, .int .i64 wide] (wr.alloc o) fun e w' => e = .returned (.int .i64 0) ∧ HdSt w base g v h ph (encBits E n wide) w' := by
  obtain ⟨⟨v', h1, h2, h3⟩, hc⟩ := H
  have b := Below.alloc_new wr o
  have p := P2_12 h12
  refine (rncBits_any base g v' E n wide _ (h1.below b) hG n0 (by omega) (by omega) hn (by omega)).mono ?_
  rintro e w2 ⟨rfl, v2, k1, k2, k3⟩
  obtain ⟨n1, n2⟩ := EncAt.ne_cel h1 hc (by decide) (by decide)
  have s := b.size
  refine ⟨rfl, PutSt.step h1 h2 h3 k1 ((Keeps.of_below b).trans (k2.mono fun j hj => hj.elim .inl fun c => .inr (.inl c))) (fun j hj => (k3 j hj).elim .inl fun c => .inr (by omega)), ?_⟩
  exact (hc.below b).keeps k2 fun c => c.elim n1 n2
/-- The head, part by part. -/
def hdE (wh br Q lo : Int) : Nat → EncS
  | 0 => encNew
  | 1 => encBits encNew wh 1
  | 2 => encBits (encBits encNew wh 1) br 1
  | 3 => encBits (encBits (encBits encNew wh 1) br 1) Q 4
  | _ + 4 => headE wh br Q lo
def frV (br : Bool) (Q : Int) (la ca aa : Option Addr) (ll lc cl cc al ac : Nat) : Value := .agg #[.bool br, .int .i64 Q, .slice la ll lc, .slice ca cl cc, .slice aa al ac]
set_option maxRecDepth 100000 in
theorem cHead_any (base g : Nat) (v : Value) (wh br : Bool) (Q lo : Int) (la ca aa : Option Addr) (ll lc cl cc al ac : Nat) (w : World) (hE : EncAt w base g v encNew) (hw : wh = decide (al = 0)) (hal : al ≤ 9223372036854775807) (q0 : 0 ≤ Q) (q1 : Q ≤ 15) (lo0 : 0 ≤ lo) (lo1 : lo ≤ 31) :
    Calls Tryz.prog 74 #[.agg #[.bool br, .int .i64 Q, .slice la ll lc, .slice ca cl cc, .slice aa al ac], .pointer (some ⟨g, 0, none⟩), .int .i64 lo] w (PutPost base g v (headE (b2 wh) (b2 br) Q lo) (.int .i64 0) w) := by
  have HE := Lib.hid hE
  have HW : RowKit.Hid (decide (al = 0) = wh) := hw.symm
  have HB0 := Lib.hid (Below.alloc_new w (.cells #[.bool br, .int .i64 Q, .slice la ll lc, .slice ca cl cc, .slice aa al ac] 63))
  clear hE hw
  go_enter Tryz.func74, Tryz.ntmps74
  go_wp2
  have u1 : IntKind.u32.wrap Q = Q := IntWalk.u32_in _ (by omega)
  have u2 : IntKind.u32.wrap lo = lo := IntWalk.u32_in _ (by omega)
  have HC0 := Lib.hid (Cel.new w 63 #[.bool br, .int .i64 Q, .slice la ll lc, .slice ca cl cc, .slice aa al ac])
  generalize (w.alloc (.cells #[.bool br, .int .i64 Q, .slice la ll lc, .slice ca cl cc, .slice aa al ac] 63)) = w0 at HB0 HC0 ⊢
  obtain ⟨f, hf⟩ : ∃ f, f = w.heap.size := ⟨_, rfl⟩
  have HF : RowKit.Hid (f = w.heap.size) := hf
  rw [← hf] at HC0 ⊢
  clear hf
  have c0 : w0.cell? ⟨f, 0, none⟩ = some (.bool br) := HC0.out.cell 0
  have c1 : w0.cell? ⟨f, 1, none⟩ = some (.int .i64 Q) := HC0.out.cell 1
  have c2 : w0.cell? ⟨f, 2, none⟩ = some (.slice la ll lc) := HC0.out.cell 2
  have c3 : w0.cell? ⟨f, 3, none⟩ = some (.slice ca cl cc) := HC0.out.cell 3
  have c4 : w0.cell? ⟨f, 4, none⟩ = some (.slice aa al ac) := HC0.out.cell 4
  go_region_held3 (fun w' => w'.cell? ⟨f, 0, none⟩ = some (.bool br) ∧ w'.cell? ⟨f, 1, none⟩ = some (.int .i64 Q) ∧ w'.cell? ⟨f, 2, none⟩ = some (.slice la ll lc) ∧ w'.cell? ⟨f, 3, none⟩ = some (.slice ca cl cc) ∧ w'.cell? ⟨f, 4, none⟩ = some (.slice aa al ac)) (go_keep) (first | (go_at_call 25; go_loud (refine (cWhole_any br Q la ca aa ll lc cl cc al ac _ hal).mono ?_); rintro e w1 ⟨rfl, b1⟩; have HC1 := Lib.hid (Cel.below (w := w0.drew) HC0.out b1); have HB1 := Lib.hid b1; clear b1; have m0 : w1.cell? ⟨f, 0, none⟩ = some (.bool br) := HC1.out.cell 0; have m1 : w1.cell? ⟨f, 1, none⟩ = some (.int .i64 Q) := HC1.out.cell 1; have m2 : w1.cell? ⟨f, 2, none⟩ = some (.slice la ll lc) := HC1.out.cell 2; have m3 : w1.cell? ⟨f, 3, none⟩ = some (.slice ca cl cc) := HC1.out.cell 3; have m4 : w1.cell? ⟨f, 4, none⟩ = some (.slice aa al ac) := HC1.out.cell 4; rw [HW.out]) | (go_at_call 106; go_loud (refine (cBit_any _ _).mono ?_); rintro e w2 ⟨rfl, rfl⟩) | fail)
  go_wp2
  clear m0 m1 m2 m3 m4 c0 c1 c2 c3 c4 HC0
  obtain ⟨ph, hph⟩ : ∃ ph : Array Value, ph = #[.int .u32 (b2 wh), .int .i64 1, .int .u32 (b2 br), .int .i64 1, .int .u32 Q, .int .i64 4, .int .u32 lo, .int .i64 5] := ⟨_, rfl⟩
  rw [← hph]
  have HB2 : RowKit.Hid (Below w.heap.size w (w1.alloc (.cells ph 177))) := chain (chain (chain HB0.out (Below.drewN' (Below.refl _ w0) 1)) HB1.out) (Below.alloc_new w1 _)
  have HS : RowKit.Hid (HdSt w base g v w1.heap.size ph encNew (w1.alloc (.cells ph 177))) := ⟨(PutSt.start HE.out).below HB2.out, Cel.new _ _ _⟩
  generalize (w1.alloc (.cells ph 177)) = w2 at HS HB2 ⊢
  generalize w1.heap.size = h at HS ⊢
  have HPH := Lib.hid hph
  clear HB1 HC1 HB0 HF hph
  obtain ⟨z1, _, _⟩ := bits_good12 (n := b2 wh) (wide := 1) goodE_new (by decide)
  obtain ⟨z2, _, y2⟩ := bits_good12 (n := b2 br) (wide := 1) z1 (by decide)
  obtain ⟨z3, _, y3⟩ := bits_good12 (n := Q) (wide := 4) z2 (by decide)
  have hn0 : encNew.k = 0 := rfl
  have Z1 := Lib.hid z1
  have Z2 := Lib.hid z2
  have Z3 := Lib.hid z3
  have HZ : RowKit.Hid ((encBits encNew (b2 wh) 1).k ≤ 1000 ∧ (encBits (encBits encNew (b2 wh) 1) (b2 br) 1).k ≤ 1000 ∧ (encBits (encBits (encBits encNew (b2 wh) 1) (b2 br) 1) Q 4).k ≤ 1000) := by
    have := encBits_k encNew (b2 wh) (wide := 1) (by decide)
    exact ⟨by omega, by omega, by omega⟩
  have Hwh := Lib.hid (b2_bd wh)
  have Hbr := Lib.hid (b2_bd br)
  clear z1 z2 z3 y2 y3 hn0
  go_loopw [6, 27] (fun _ i wr => ∃ k : Nat, k ≤ 4 ∧ i = .int .i64 (k : Int) ∧ RowKit.Hid (HdSt w base g v h ph (hdE (b2 wh) (b2 br) Q lo k) wr)) (fun _ i _ => 4 - (intOf i).toNat)
  case atStart => exact ⟨0, by omega, rfl, HS.out⟩
  case round =>
    obtain ⟨k, hk, rfl, H⟩ := hrel
    clear HS
    have HCC := Lib.hid H.out.2
    rw [HPH.out] at HCC
    by_cases e0 : k = 4
    · subst e0
      go_wp2
      go_ret
      exact ⟨rfl, H.out.1⟩
    · have e4 : k = 0 ∨ k = 1 ∨ k = 2 ∨ k = 3 := by omega
      clear e0
      rcases e4 with rfl | rfl | rfl | rfl
      · have c0 : wr.cell? ⟨h, 0, none⟩ = some (.int .u32 (b2 wh)) := HCC.out.cell 0
        have c1 : wr.cell? ⟨h, 1, none⟩ = some (.int .i64 1) := HCC.out.cell 1
        go_wp2_with (go_at_call 107; go_loud (refine (HdSt.bits (wide := 1) H.out goodE_new (Nat.zero_le 1000) Hwh.out.1 (by decide) (by rw [show P2 1 = 2 by decide]; have := Hwh.out.2; omega) _).mono ?_); rintro e w3 ⟨rfl, h3⟩; have H3 := Lib.hid h3; clear h3)
        go_roundw
        case rel => exact ⟨1, by decide, by go_num, H3.out⟩
        case measure => simp [intOf] <;> omega
      · have c0 : wr.cell? ⟨h, 2, none⟩ = some (.int .u32 (b2 br)) := HCC.out.cell 2
        have c1 : wr.cell? ⟨h, 3, none⟩ = some (.int .i64 1) := HCC.out.cell 3
        go_wp2_with (go_at_call 107; go_loud (refine (HdSt.bits (wide := 1) H.out Z1.out HZ.out.1 Hbr.out.1 (by decide) (by rw [show P2 1 = 2 by decide]; have := Hbr.out.2; omega) _).mono ?_); rintro e w3 ⟨rfl, h3⟩; have H3 := Lib.hid h3; clear h3)
        go_roundw
        case rel => exact ⟨2, by decide, by go_num, H3.out⟩
        case measure => simp [intOf] <;> omega
      · have c0 : wr.cell? ⟨h, 4, none⟩ = some (.int .u32 (Q)) := HCC.out.cell 4
        have c1 : wr.cell? ⟨h, 5, none⟩ = some (.int .i64 4) := HCC.out.cell 5
        go_wp2_with (go_at_call 107; go_loud (refine (HdSt.bits (wide := 4) H.out Z2.out HZ.out.2.1 q0 (by decide) (by rw [show P2 4 = 16 by decide]; omega) _).mono ?_); rintro e w3 ⟨rfl, h3⟩; have H3 := Lib.hid h3; clear h3)
        go_roundw
        case rel => exact ⟨3, by decide, by go_num, H3.out⟩
        case measure => simp [intOf] <;> omega
      · have c0 : wr.cell? ⟨h, 6, none⟩ = some (.int .u32 (lo)) := HCC.out.cell 6
        have c1 : wr.cell? ⟨h, 7, none⟩ = some (.int .i64 5) := HCC.out.cell 7
        go_wp2_with (go_at_call 107; go_loud (refine (HdSt.bits (wide := 5) H.out Z3.out HZ.out.2.2 lo0 (by decide) (by rw [show P2 5 = 32 by decide]; omega) _).mono ?_); rintro e w3 ⟨rfl, h3⟩; have H3 := Lib.hid h3; clear h3)
        go_roundw
        case rel => exact ⟨4, by decide, by go_num, H3.out⟩
        case measure => simp [intOf] <;> omega
end Go.Proofs.YtkhhhejmbgloeaaGreat

/- A frame's payload: the walks of package coder. -/
namespace Go.Proofs.YtkhhhejmbgloeaaGreat
open Go Go.RowKit
set_option linter.unusedVariables false
set_option linter.unusedSimpArgs false

/-- A frame's parts in memory. -/
structure FrAt (F : Frm) (w : World) (lb c : Nat) (o : Option Nat) : Prop where
  ok : F.Ok
  x : IFun w lb 21 .i32 512 F.x
  l : CutAt w c F.l
  a : AhAt w F.wh o F.ah
theorem FrAt.below {F : Frm} {w w' : World} {lb c : Nat} {o : Option Nat} (h : FrAt F w lb c o) (hb : Below w.heap.size w w') : FrAt F w' lb c o := ⟨h.ok, h.x.below hb h.x.lt, h.l.below hb h.l.lt, h.a.below hb⟩
def FrmV (F : Frm) (lb c : Nat) (o : Option Nat) : Value := .agg #[.bool F.br, .int .i64 F.Q, .slice (some ⟨lb, 0, none⟩) 512 512, .slice (some ⟨c, 0, none⟩) 21 21, .slice (ahA o) (ahN o) (ahN o)]
theorem ahN_le (o : Option Nat) : ahN o ≤ 21 := by cases o with
  | none => exact Nat.zero_le _
  | some r => exact Nat.le_refl _
def PayPost (F : Frm) (lo : Nat) (w : World) (e : Ending) (w' : World) : Prop :=
  ∃ r cp, e = .returned (.tuple #[.slice (some ⟨r, 0, none⟩) (bytesE (F.E lo)).length cp, .int .i64 0]) ∧ IntsAt w' w'.heap.size .u8 (some ⟨r, 0, none⟩) (bytesE (F.E lo)).length (bytesE (F.E lo)) ∧ Below w.heap.size w w'
/-- A frame's cells. -/
def frC (F : Frm) (lb c : Nat) (o : Option Nat) : Array Value := #[.bool F.br, .int .i64 F.Q, .slice (some ⟨lb, 0, none⟩) 512 512, .slice (some ⟨c, 0, none⟩) 21 21, .slice (ahA o) (ahN o) (ahN o)]
theorem frC_at {F : Frm} {lb c g : Nat} {o : Option Nat} {w : World} (h : Cel w g 63 (frC F lb c o)) : w.cell? ⟨g, 0, none⟩ = some (.bool F.br) ∧ w.cell? ⟨g, 1, none⟩ = some (.int .i64 F.Q) ∧ w.cell? ⟨g, 2, none⟩ = some (.slice (some ⟨lb, 0, none⟩) 512 512) ∧ w.cell? ⟨g, 3, none⟩ = some (.slice (some ⟨c, 0, none⟩) 21 21) ∧ w.cell? ⟨g, 4, none⟩ = some (.slice (ahA o) (ahN o) (ahN o)) :=
  ⟨h.cell 0, h.cell 1, h.cell 2, h.cell 3, h.cell 4⟩
/-- An encoder on the way. -/
structure PaySt (F : Frm) (lb c : Nat) (o : Option Nat) (w : World) (base g : Nat) (E : EncS) (v : Value) (wr : World) : Prop where
  e : EncAt wr base g v E
  b : Below w.heap.size w wr
  s : w.heap.size < base
  f : Cel wr w.heap.size 63 (frC F lb c o)
theorem PaySt.next {F : Frm} {lb c : Nat} {o : Option Nat} {w wr w' : World} {base g : Nat} {E E' : EncS} {v v' : Value} (h : PaySt F lb c o w base g E v wr) (k1 : EncAt w' base g v' E') (k2 : Keeps (fun j => j = g ∨ v.ownBlock = some j) wr w') : PaySt F lb c o w base g E' v' w' := by
  have hb : ∀ j, (j = g ∨ v.ownBlock = some j) → base ≤ j := fun j hj => hj.elim (fun e => by rw [e]; exact h.e.lt.2) fun e => (h.e.own j e).2.1
  exact ⟨k1, h.b.trans (k2.below h.b.size fun j hj => Nat.le_trans (Nat.le_of_lt h.s) (hb j hj)), h.s, h.f.keeps k2 fun c => by have := hb _ c; have := h.s; omega⟩
set_option maxRecDepth 100000 in
theorem cPay_any (F : Frm) (lb c s : Nat) (o : Option Nat) (lo : Nat) (w : World) (h : FrAt F w lb c o) (hlo : lo ≤ 31) (hs : CutAt w s (F.st lo)) :
    Calls Tryz.prog 44 #[.agg #[.bool F.br, .int .i64 F.Q, .slice (some ⟨lb, 0, none⟩) 512 512, .slice (some ⟨c, 0, none⟩) 21 21, .slice (ahA o) (ahN o) (ahN o)], .int .i64 (lo : Int), .slice (some ⟨s, 0, none⟩) 21 21] w (PayPost F lo w) := by
  have HF := Lib.hid h
  have HS := Lib.hid hs
  have HL := Lib.hid (ahN_le o)
  obtain ⟨q0, q1⟩ := h.ok.q
  have HW := Lib.hid h.a.len
  clear h hs
  go_enter Tryz.func44, Tryz.ntmps44
  have HB0 := Lib.hid (Below.alloc_new w (.cells #[.bool F.br, .int .i64 F.Q, .slice (some ⟨lb, 0, none⟩) 512 512, .slice (some ⟨c, 0, none⟩) 21 21, .slice (ahA o) (ahN o) (ahN o)] 63))
  have HC0 : RowKit.Hid (Cel (w.alloc (.cells #[.bool F.br, .int .i64 F.Q, .slice (some ⟨lb, 0, none⟩) 512 512, .slice (some ⟨c, 0, none⟩) 21 21, .slice (ahA o) (ahN o) (ahN o)] 63)) w.heap.size 63 (frC F lb c o)) := Cel.new w _ _
  go_wp2_with (first
    | (go_at_call 73; go_loud (refine (rncNew_any _).mono ?_); rintro e w1 ⟨rfl, h1, b1⟩; rw [alloc_sizeB] at h1; have H1 : RowKit.Hid (PaySt F lb c o w (w.heap.size + 1) (w.heap.size + 1) encNew (.slice none 0 0) w1) := ⟨h1, chain HB0.out b1, Nat.lt_succ_self _, HC0.out.below b1⟩; clear h1 b1; obtain ⟨d10, d11, d12, d13, d14⟩ := frC_at H1.out.f)
    | (go_at_call 74; go_loud (refine (cHead_any (w.heap.size + 1) (w.heap.size + 1) _ F.wh F.br F.Q lo _ _ (ahA o) 512 512 21 21 (ahN o) (ahN o) w1 H1.out.e HW.out.symm (by have := HL.out; omega) (by omega) (by omega) (by omega) (by omega)).mono ?_); rintro e w2 ⟨rfl, v2, k2, l2, _⟩; have H2 := Lib.hid (PaySt.next H1.out k2 l2); clear k2 l2; obtain ⟨d20, d21, d22, d23, d24⟩ := frC_at H2.out.f)
    | (go_at_call 75; go_loud (refine (fPut_any (w.heap.size + 1) (w.heap.size + 1) v2 (F.H lo) F.wh c 21 (ahN o) o F.l F.ah w2 H2.out.e (F.goodH lo).1 (by have := (F.goodH lo).2; omega) (HF.out.l.below H2.out.b HF.out.l.lt) HF.out.ok.l (HF.out.a.below H2.out.b)).mono ?_); rintro e w3 ⟨rfl, v3, k3, l3, _⟩; have H3 := Lib.hid (PaySt.next H2.out k3 l3); clear k3 l3; obtain ⟨d30, d31, d32, d33, d34⟩ := frC_at H3.out.f)
    | (go_at_call 76; go_loud (refine (fQPut_any (w.heap.size + 1) (w.heap.size + 1) v3 (F.C lo) lb c s 21 21 F.x F.l F.Q lo w3 H3.out.e (F.goodC lo).1 (by have := (F.goodC lo).2; omega) (HF.out.x.below H3.out.b HF.out.x.lt) HF.out.ok.x (HF.out.l.below H3.out.b HF.out.l.lt) HF.out.ok.l (HS.out.below H3.out.b HS.out.lt)).mono ?_); rintro e w4 ⟨rfl, v4, k4, l4, _⟩; have H4 := Lib.hid (PaySt.next H3.out k4 l4); clear k4 l4; obtain ⟨d40, d41, d42, d43, d44⟩ := frC_at H4.out.f)
    | (go_at_call 77; go_loud (refine (rncBytes_some (w.heap.size + 1) (w.heap.size + 1) v4 (F.E lo).n (F.E lo).k _ w4 H4.out.e (by have := (HF.out.ok.good lo).2; omega)).mono ?_); rintro e w5 ⟨r5, c5, rfl, i5, b5⟩; have HI5 := Lib.hid i5; have HB5 := Lib.hid (chain H4.out.b b5); clear i5 b5))


  go_ret2
  exact ⟨r5, c5, rfl, HI5.out, HB5.out⟩
end Go.Proofs.YtkhhhejmbgloeaaGreat
