/- Plain facts, and what functions give, for the proofs of this seat: several texts in one, each with its own first remark. -/
import Derived.Test.YtobhoecmmpijgaaGreatRQ

/- A frame of a payload: the walks of package player. -/
namespace Go.Proofs.YtobhoecmmpijgaaGreat
open Go Go.RowKit
set_option linter.unusedVariables false
set_option linter.unusedSimpArgs false

def ReadPost (b : List Int) (w : World) (e : Ending) (w' : World) : Prop :=
  Below w.heap.size w w' ∧ ((headR b = true ∧ e = .returned (.tuple #[headV b, .int .i64 0])) ∨ (headR b = false ∧ e = .returned (.tuple #[headZ, .int .i64 3])))
theorem pThere_any (ca la : Option Addr) (cl cc ll lc : Nat) (br : Bool) (w : World) (h : cl ≤ 9223372036854775807) :
    Calls Tryz.prog 84 #[.agg #[.slice ca cl cc, .slice la ll lc, .bool br]] w fun e w' => e = .returned (.bool (!decide (cl = 0))) ∧ Below w.heap.size w w' := by
  have HB := Lib.hid (Below.alloc_new w (.cells #[.slice ca cl cc, .slice la ll lc, .bool br] 103))
  obtain ⟨q, hq⟩ : ∃ q, q = !decide (cl = 0) := ⟨_, rfl⟩
  have hq2 : ((cl : Int) != 0) = q := by rw [hq]; by_cases h : cl = 0 <;> simp [h]
  rw [← hq]
  clear hq
  go_enter Tryz.func84, Tryz.ntmps84
  go_wp2
  go_ret
  exact ⟨rfl, HB.out⟩
theorem infoC_pframe : (Tryz.prog.info? 103).map (·.size) = some 3 := by kernel_rfl
structure HfSt (w : World) (f z y : Nat) (cv lv : Value) (br : Bool) (l : Nat → Int) (k : Nat) (wr : World) : Prop where
  b : Below w.heap.size w wr
  f : Cel wr f 103 #[cv, lv, .bool br]
  z : Cel wr z 103 #[.slice none 0 0, .slice none 0 0, .bool false]
  y : IFun wr y 21 .i32 512 (upTo (halfF l) (fun _ => 0) k)
theorem HfSt.next {w wr : World} {f z y k : Nat} {cv lv : Value} {br : Bool} {l : Nat → Int} (h : HfSt w f z y cv lv br l k wr) (hk : k < 512) (hy : w.heap.size ≤ y) : HfSt w f z y cv lv br l (k + 1) (wr.setCell ⟨y, k, none⟩ (.int .i32 (halfF l k))) := by
  obtain ⟨cs, hc⟩ := IFun.cel h.y
  exact ⟨h.b.setCell (p := ⟨y, k, none⟩) hy _, h.f.far (p := ⟨y, k, none⟩) (h.f.ne hc (by decide)) _, h.z.far (p := ⟨y, k, none⟩) (h.z.ne hc (by decide)) _, IFun.ext (h.y.set (j := k) hk (halfF l k)) fun j _ => upTo_next _ _ k j⟩
theorem half_end {w wr : World} {f z y k : Nat} {cv lv u0 u1 u2 u3 : Value} {br : Bool} {l : Nat → Int} (h : HfSt w f z y cv lv br l k wr) (hn : ¬ z = f) :
    Cel ((((wr.setCell ⟨f, 1, none⟩ u3).setCell ⟨z, 0, none⟩ u0).setCell ⟨z, 1, none⟩ u1).setCell ⟨z, 2, none⟩ u2) z 103 #[u0, u1, u2] ∧
    IFun ((((wr.setCell ⟨f, 1, none⟩ u3).setCell ⟨z, 0, none⟩ u0).setCell ⟨z, 1, none⟩ u1).setCell ⟨z, 2, none⟩ u2) y 21 .i32 512 (upTo (halfF l) (fun _ => 0) k) ∧
    (w.heap.size ≤ f → w.heap.size ≤ z → Below w.heap.size w ((((wr.setCell ⟨f, 1, none⟩ u3).setCell ⟨z, 0, none⟩ u0).setCell ⟨z, 1, none⟩ u1).setCell ⟨z, 2, none⟩ u2)) := by
  obtain ⟨cs, hc⟩ := IFun.cel h.y
  have n1 := hc.ne h.f (by decide)
  have n2 := hc.ne h.z (by decide)
  exact ⟨((((h.z.far (p := ⟨f, 1, none⟩) hn _).set_ 0 _).set_ 1 _).set_ 2 _), Cel.far (p := ⟨z, 2, none⟩) (Cel.far (p := ⟨z, 1, none⟩) (Cel.far (p := ⟨z, 0, none⟩) (Cel.far (p := ⟨f, 1, none⟩) h.y n1 _) n2 _) n2 _) n2 _, fun h1 h2 => (((h.b.setCell (p := ⟨f, 1, none⟩) h1 _).setCell (p := ⟨z, 0, none⟩) h2 _).setCell (p := ⟨z, 1, none⟩) h2 _).setCell (p := ⟨z, 2, none⟩) h2 _⟩
/-- Half as loud. -/
def HalfPost (cv : Value) (br : Bool) (l : Nat → Int) (w : World) (e : Ending) (w' : World) : Prop :=
  ∃ y, e = .returned (.agg #[cv, .slice (some ⟨y, 0, none⟩) 512 512, .bool br]) ∧ IFun w' y 21 .i32 512 (halfF l) ∧ w.heap.size ≤ y ∧ Below w.heap.size w w'
set_option maxHeartbeats 1000000 in
set_option maxRecDepth 100000 in
theorem pHalf_any (c x : Nat) (br : Bool) (l : Nat → Int) (w : World) (hx : IFun w x 21 .i32 512 l) (hb : ∀ j, j < 512 → -33554432 ≤ l j ∧ l j ≤ 33554431) :
    Calls Tryz.prog 100 #[.agg #[.slice (some ⟨c, 0, none⟩) 21 21, .slice (some ⟨x, 0, none⟩) 512 512, .bool br]] w (HalfPost (.slice (some ⟨c, 0, none⟩) 21 21) br l w) := by
  have HF := Lib.hid hx
  have HFb := Lib.hid hb
  have hmk : ∀ w : World, (Instr.makeSlice 101 (.int .i64 512) (.int .i64 512)).run Tryz.prog w = .ok (.slice (some ⟨w.heap.size, 0, none⟩) 512 512) (w.alloc (.cells (madeCells #[.int .i32 0] 512) 21)) :=
    fun w => make_zeros (P := Tryz.prog) Tryz.underlying101 infoC_i32 512 (by decide) (by decide) w
  have HM0 : RowKit.Hid (∀ w : World, IFun (w.alloc (.cells (madeCells #[.int .i32 0] 512) 21)) w.heap.size 21 .i32 512 (upTo (halfF l) (fun _ => 0) 0)) :=
    fun w => IFun.ext (IFun.zeros w 21 .i32 512) fun j _ => (upTo_start (halfF l) (fun _ => 0) j).symm
  clear hx hb
  generalize madeCells #[Value.int .i32 0] 512 = mc at HM0 hmk
  obtain ⟨f, hf⟩ : ∃ f, f = w.heap.size := ⟨_, rfl⟩
  obtain ⟨z, hz⟩ : ∃ z, z = w.heap.size + 1 := ⟨_, rfl⟩
  obtain ⟨y, hy⟩ : ∃ y, y = w.heap.size + 1 + 1 := ⟨_, rfl⟩
  have HFZ : RowKit.Hid (f = w.heap.size ∧ z = w.heap.size + 1 ∧ y = w.heap.size + 1 + 1) := ⟨hf, hz, hy⟩
  have H0 : RowKit.Hid (HfSt w f z y (.slice (some ⟨c, 0, none⟩) 21 21) (.slice (some ⟨x, 0, none⟩) 512 512) br l 0 (((w.alloc (.cells #[.slice (some ⟨c, 0, none⟩) 21 21, .slice (some ⟨x, 0, none⟩) 512 512, .bool br] 103)).alloc (.cells #[.slice none 0 0, .slice none 0 0, .bool false] 103)).alloc (.cells mc 21))) := by
    have b1 := Below.alloc_new w (.cells #[.slice (some ⟨c, 0, none⟩) 21 21, .slice (some ⟨x, 0, none⟩) 512 512, .bool br] 103)
    have c1 := Cel.new w 103 #[.slice (some ⟨c, 0, none⟩) 21 21, .slice (some ⟨x, 0, none⟩) 512 512, .bool br]
    have s1 := alloc_sizeB w (.cells #[.slice (some ⟨c, 0, none⟩) 21 21, .slice (some ⟨x, 0, none⟩) 512 512, .bool br] 103)
    generalize w.alloc (.cells #[.slice (some ⟨c, 0, none⟩) 21 21, .slice (some ⟨x, 0, none⟩) 512 512, .bool br] 103) = w1 at b1 c1 s1 ⊢
    have b2 := Below.alloc_new w1 (.cells #[.slice none 0 0, .slice none 0 0, .bool false] 103)
    have c2 := Cel.new w1 103 #[.slice none 0 0, .slice none 0 0, .bool false]
    have s2 := alloc_sizeB w1 (.cells #[.slice none 0 0, .slice none 0 0, .bool false] 103)
    generalize w1.alloc (.cells #[.slice none 0 0, .slice none 0 0, .bool false] 103) = w2 at b2 c2 s2 ⊢
    have b3 := Below.alloc_new w2 (.cells mc 21)
    have c3 := HM0.out w2
    rw [s1] at c2 s2
    rw [s2] at c3
    exact ⟨chain (chain b1 b2) b3, by rw [hf]; exact (c1.below b2).below b3, by rw [hz]; exact c2.below b3, by rw [hy]; exact c3⟩
  go_enter Tryz.func100, Tryz.ntmps100
  go_wp2
  clear hmk
  generalize (((w.alloc (.cells #[.slice (some ⟨c, 0, none⟩) 21 21, .slice (some ⟨x, 0, none⟩) 512 512, .bool br] 103)).alloc (.cells #[.slice none 0 0, .slice none 0 0, .bool false] 103)).alloc (.cells mc 21)) = w1 at H0 ⊢
  try rw [← hy]
  try rw [← hz]
  try rw [← hf]
  clear hf hz hy
  go_loopw [4, 5, 13] (fun _ _ i wr => ∃ k : Nat, k ≤ 512 ∧ i = .int .i64 (k : Int) ∧ RowKit.Hid (HfSt w f z y (.slice (some ⟨c, 0, none⟩) 21 21) (.slice (some ⟨x, 0, none⟩) 512 512) br l k wr)) (fun _ _ i _ => 512 - (intOf i).toNat)
  case atStart => exact ⟨0, by omega, rfl, H0.out⟩
  case round =>
    obtain ⟨k, hk, rfl, HI⟩ := hrel
    clear H0
    by_cases hlt : k < 512
    · have o1 := HI.out.y.cell (j := k) hlt
      rw [upTo_here] at o1
      have f1 := HI.out.y.frozen k
      have HS : RowKit.Hid (HfSt w f z y (.slice (some ⟨c, 0, none⟩) 21 21) (.slice (some ⟨x, 0, none⟩) 512 512) br l (k + 1) (wr.setCell ⟨y, k, none⟩ (.int .i32 (halfF l k)))) := HI.out.next hlt (by have := HFZ.out; omega)
      have k1 := (HI.out.b.cell (p := ⟨x, k, none⟩) HF.out.lt).trans (HF.out.cell hlt)
      obtain ⟨y0, y1⟩ := HFb.out k hlt
      have HM : RowKit.Hid (halfF l k = Int.tdiv (l k) 2) := rfl
      generalize halfF l k = u at HS HM
      generalize l k = v at k1 y0 y1 HM
      have u1 : IntKind.i32.wrap (Int.tdiv v 2) = u := by rw [HM.out]; exact IntWalk.i32_in _ (by have := tdiv2_bd ⟨y0, y1⟩; omega)
      have l1 : (k : Int) < 512 := by omega
      clear HI
      go_wp2
      go_roundw
      case rel => exact ⟨k + 1, by omega, by go_num, HS.out⟩
      case measure => simp [intOf] <;> omega
    · obtain rfl : k = 512 := by omega
      have p0 : wr.cell? ⟨f, 0, none⟩ = some (.slice (some ⟨c, 0, none⟩) 21 21) := HI.out.f.cell 0
      have p1 : wr.cell? ⟨f, 1, none⟩ = some (.slice (some ⟨x, 0, none⟩) 512 512) := HI.out.f.cell 1
      have p2 : wr.cell? ⟨f, 2, none⟩ = some (.bool br) := HI.out.f.cell 2
      have q0 : wr.cell? ⟨z, 0, none⟩ = some (.slice none 0 0) := HI.out.z.cell 0
      have q1 : wr.cell? ⟨z, 1, none⟩ = some (.slice none 0 0) := HI.out.z.cell 1
      have q2 : wr.cell? ⟨z, 2, none⟩ = some (.bool false) := HI.out.z.cell 2
      have fz1 := HI.out.f.frozen 1
      have zz0 := HI.out.z.frozen 0
      have zz1 := HI.out.z.frozen 1
      have zz2 := HI.out.z.frozen 2
      have nfz : ¬ f = z := by have := HFZ.out; omega
      have nzf : ¬ z = f := by have := HFZ.out; omega
      go_wp2
      refine bodyPost_ret (results_cell1 rfl rfl (run_loadVar_row _ z _ _ _ (0, 0) _ (half_end HI.out nzf).1 Tryz.underlying103 rfl infoC_pframe)) rfl ?_
      exact ⟨y, rfl, IFun.ext (half_end HI.out nzf).2.1 fun i hi => upTo_end _ _ 512 i hi, by have := HFZ.out; omega, (half_end HI.out nzf).2.2 (by have := HFZ.out; omega) (by have := HFZ.out; omega)⟩

/-! ### What the layers below give -/
theorem fGet_any (base g : Nat) (v : Value) (b : List Int) (o : Option Nat) (ah : Nat → Int) (cap2 : Nat) (w : World) (hD : DrcAt w base g v b (plD4 b)) (hb : ∀ j, 0 ≤ byteF b j ∧ byteF b j ≤ 255) (hbl : b.length ≤ 100000)
    (hA : (plWh b = true ∧ o = none) ∨ (plWh b = false ∧ CutOk ah ∧ ∃ r, o = some r ∧ CutAt w r ah)) :
    Calls Tryz.prog 85 #[.pointer (some ⟨g, 0, none⟩), .slice (ahA o) (ahN o) cap2] w fun e w' => ∃ r, e = .returned (if plOk1 b ah then .tuple #[.slice (some ⟨r, 0, none⟩) 21 21, .int .i64 0] else .tuple #[.slice none 0 0, .int .i64 3]) ∧
      CutAt w' r (plL b ah) ∧ DrcAt w' base g v b (plD5 b ah) ∧ Keeps (fun j => j = g) w w' ∧ w.heap.size ≤ r := by
  have key : ∀ ds : List Int, AheadAt w (plWh b) (ahA o) (ahN o) ds → plV b (fun j => ds.getD j 0) = plV b ah → plD5 b (fun j => ds.getD j 0) = plD5 b ah → (plWh b = false → ∀ r off, ahA o = some ⟨r, off, none⟩ → r ≠ g) →
      Calls Tryz.prog 85 #[.pointer (some ⟨g, 0, none⟩), .slice (ahA o) (ahN o) cap2] w fun e w' => ∃ r, e = .returned (if plOk1 b ah then .tuple #[.slice (some ⟨r, 0, none⟩) 21 21, .int .i64 0] else .tuple #[.slice none 0 0, .int .i64 3]) ∧
      CutAt w' r (plL b ah) ∧ DrcAt w' base g v b (plD5 b ah) ∧ Keeps (fun j => j = g) w w' ∧ w.heap.size ≤ r := fun ds h1 h2 h3 h4 => by
    refine (engGet_any base g v b (plD4 b) (plWh b) (ahA o) (ahN o) cap2 ds w hD (plG hb).g4 hb (by omega) (by have := (plG hb).i; omega) h1 h4).mono ?_
    rintro e w' ⟨r, h, rfl⟩
    change GetSt w base g v b (plD5 b (fun j => ds.getD j 0)) r (plV b (fun j => ds.getD j 0)) w' at h
    rw [h2, h3] at h
    have e1 : rightB (tabF 21 (getV (plWh b) b (plD4 b) (fun j => ds.getD j 0))) = plOk1 b ah := by
      show rightB (tabF 21 (plV b (fun j => ds.getD j 0))) = _
      rw [h2]
      rfl
    exact ⟨r, by rw [e1], IFun.ext h.i fun j hj => (c21_at _ hj).symm, h.d, h.k, h.rs⟩
  rcases hA with ⟨h1, rfl⟩ | ⟨h1, h2, r, rfl, h3⟩
  · exact key [] ⟨⟨rfl, .inl rfl⟩, by decide, .inl ⟨h1, rfl⟩⟩ (plV_alone h1 _ _) (plD5_alone h1 _ _) (fun e => by rw [h1] at e; cases e)
  · refine key (tabF 21 ah) ⟨h3.ints, (by decide : (21 : Nat) ≤ 9223372036854775807), .inr ⟨h1, h2.right, rfl⟩⟩ (by rw [h2.tab]) (by rw [h2.tab]) fun _ r' off e => ?_
    injection e with e
    injection e with e _
    subst e
    obtain ⟨cs, hc⟩ := h3.cel
    exact hc.ne hD.2.1 (by decide)
theorem fQGet_any (base g : Nat) (v : Value) (b : List Int) (ah : Nat → Int) (c s cap cap2 : Nat) (n : Int) (w : World) (h1 : plOk1 b ah = true) (hD : DrcAt w base g v b (plD5 b ah)) (hb : ∀ j, 0 ≤ byteF b j ∧ byteF b j ≤ 255) (hbl : b.length ≤ 100000)
    (hc : CutAt w c (plL b ah)) (hs : CutAt w s (plS b ah)) (n0 : 0 ≤ n) (n1 : n ≤ 4294967295) :
    Calls Tryz.prog 127 #[.pointer (some ⟨g, 0, none⟩), .slice (some ⟨c, 0, none⟩) 21 cap, .slice (some ⟨s, 0, none⟩) 21 cap2, .int .u32 n] w fun e w' => Keeps (fun j => j = g) w w' ∧
      ((plOk2 b ah ∧ ∃ r, e = .returned (.tuple #[.slice (some ⟨r, 0, none⟩) 512 512, .int .i64 0]) ∧ IFun w' r 21 .i32 512 (plOut b ah n) ∧ w.heap.size ≤ r) ∨ (¬ plOk2 b ah ∧ e = .returned (.tuple #[.slice none 0 0, .int .i64 3]))) := by
  have hl := plL_ok h1
  have g5 := plG5 hb ah
  have := qGet_any base g v b (plD5 b ah) (some ⟨c, 0, none⟩) (some ⟨s, 0, none⟩) cap cap2 (tabF 21 (plL b ah)) (tabF 21 (plS b ah)) n w hD g5.1 hb (by omega) (by omega) hc.ints hs.ints (hl.may (plQ b) (plLo b)) n0 n1
  rw [hl.tab, show (fun j => (tabF 21 (plS b ah)).getD j 0) = plS b ah from (hl.step (plQ b) (plLo b)).tab] at this
  refine this.mono ?_
  rintro e w' ⟨k, ⟨ok, r, rfl, i, s⟩ | ⟨⟨i, hi1, hi2⟩, rfl⟩⟩
  · exact ⟨k, .inl ⟨ok, r, rfl, i, s⟩⟩
  · exact ⟨k, .inr ⟨fun ok => (by have := ok i hi1; rw [this] at hi2; cases hi2), rfl⟩⟩
/-- The lines of a payload. -/
def LinesPost (b : List Int) (ah : Nat → Int) (n : Int) (g : Nat) (w : World) (e : Ending) (w' : World) : Prop :=
  Keeps (fun j => j = g) w w' ∧ ((plOk2 b ah ∧ ∃ r, e = .returned (.tuple #[.slice (some ⟨r, 0, none⟩) 512 512, .int .i64 0]) ∧ IFun w' r 21 .i32 512 (heldF (plOut b ah n)) ∧ w.heap.size ≤ r) ∨ (¬ plOk2 b ah ∧ e = .returned (.tuple #[.slice none 0 0, .int .i64 3])))
set_option maxRecDepth 100000 in
theorem pGetLines_any (base g : Nat) (v : Value) (b : List Int) (ah : Nat → Int) (c : Nat) (n : Int) (w : World) (h0 : headR b = true) (h1 : plOk1 b ah = true) (hD : DrcAt w base g v b (plD5 b ah)) (hb : ∀ j, 0 ≤ byteF b j ∧ byteF b j ≤ 255) (hbl : b.length ≤ 100000)
    (hc : CutAt w c (plL b ah)) (n0 : 0 ≤ n) (n1 : n ≤ 4294967295) :
    Calls Tryz.prog 86 #[.pointer (some ⟨g, 0, none⟩), headV b, .slice (some ⟨c, 0, none⟩) 21 21, .int .u32 n] w (LinesPost b ah n g w) := by
  have HG := Lib.hid (plG hb)
  have HBy := Lib.hid hb
  have HK := Lib.hid (plL_ok h1)
  have H1 := Lib.hid h1
  have HQ := Lib.hid (headR_true h0)
  unfold headV
  obtain ⟨Q, hQ⟩ : ∃ Q, Q = plQ b := ⟨_, rfl⟩
  obtain ⟨L, hL⟩ : ∃ L, L = plLo b := ⟨_, rfl⟩
  have HL := Lib.hid HG.out.lo
  have HS : RowKit.Hid (plS b ah = stepF (plL b ah) Q L) := by show _ = _; rw [hQ, hL]; rfl
  rw [← hQ] at HQ ⊢
  rw [← hL] at HL ⊢
  generalize (plW b == 1) = wh
  generalize (plB b == 1) = br
  have HB0 := Lib.hid (Below.alloc_new w (.cells #[.bool wh, .bool br, .int .i64 Q, .int .i64 L] 139))
  have HD := Lib.hid (hD.below HB0.out)
  have HC := Lib.hid (hc.below HB0.out hc.lt)
  have HBo := Lib.hid (fun i (hi : i < 512) (ok : plOk2 b ah) => plOut_bd n hb h1 ok hi)
  clear hb hD hc h0 h1 hQ hL
  by_cases hk2 : plOk2 b ah
  · have HK2 := Lib.hid hk2; clear hk2
    go_enter Tryz.func86, Tryz.ntmps86
    go_wp2_with (first
      | (go_at_call 76; go_loud (refine (fSteps_any c 21 (plL b ah) Q L _ HC.out HK.out HQ.out.1 HQ.out.2 HL.out.1 HL.out.2).mono ?_); rintro e w1 ⟨s, rfl, i1, s1, b1⟩; have HS1 : RowKit.Hid (CutAt w1 s (plS b ah)) := (by rw [HS.out]; exact i1); have HC1 := Lib.hid (HC.out.below b1 HC.out.lt); have HD1 := Lib.hid (HD.out.below b1); have HB1 := Lib.hid (chain HB0.out b1); clear i1 s1 b1)
      | (go_at_call 127; go_loud (refine (fQGet_any base g v b ah c s 21 21 n _ H1.out HD1.out HBy.out hbl HC1.out HS1.out n0 n1).mono ?_); rintro e w2 ⟨k2, ⟨_, r, rfl, i2, s2⟩ | ⟨hh, _⟩⟩; (case inr => exact absurd HK2.out hh); have HI2 := Lib.hid i2; have HK2b : RowKit.Hid (Keeps (fun j => j = g) w w2) := (Keeps.of_below HB1.out).trans k2; clear i2 s2 k2)
      | (go_at_call 80; go_loud (refine (cHeld_any r 512 512 (plOut b ah n) _ HI2.out (fun j hj => HBo.out j hj HK2.out) (by decide)).mono ?_); rintro e w3 ⟨r3, rfl, i3, s3, b3⟩; have HI3 := Lib.hid i3; have HS3 : RowKit.Hid (w.heap.size ≤ r3) := Nat.le_trans HK2b.out.size s3; have HK3 : RowKit.Hid (Keeps (fun j => j = g) w w3) := HK2b.out.trans (Keeps.of_below b3); clear i3 s3 b3))
    go_ret2
    exact ⟨HK3.out, .inl ⟨HK2.out, r3, rfl, HI3.out, HS3.out⟩⟩
  · have HK2 := Lib.hid hk2; clear hk2
    go_enter Tryz.func86, Tryz.ntmps86
    go_wp2_with (first
      | (go_at_call 76; go_loud (refine (fSteps_any c 21 (plL b ah) Q L _ HC.out HK.out HQ.out.1 HQ.out.2 HL.out.1 HL.out.2).mono ?_); rintro e w1 ⟨s, rfl, i1, s1, b1⟩; have HS1 : RowKit.Hid (CutAt w1 s (plS b ah)) := (by rw [HS.out]; exact i1); have HC1 := Lib.hid (HC.out.below b1 HC.out.lt); have HD1 := Lib.hid (HD.out.below b1); have HB1 := Lib.hid (chain HB0.out b1); clear i1 s1 b1)
      | (go_at_call 127; go_loud (refine (fQGet_any base g v b ah c s 21 21 n _ H1.out HD1.out HBy.out hbl HC1.out HS1.out n0 n1).mono ?_); rintro e w2 ⟨k2, ⟨hh, _⟩ | ⟨_, rfl⟩⟩; (case inl => exact absurd hh HK2.out); have HK2b : RowKit.Hid (Keeps (fun j => j = g) w w2) := (Keeps.of_below HB1.out).trans k2; clear k2))
    go_ret2
    exact ⟨HK2b.out, .inr ⟨HK2.out, rfl⟩⟩

/-! ### The frame of a payload -/
def frmZ : Value := .agg #[.slice none 0 0, .slice none 0 0, .bool false]
def NextPost (S : P14) (b : List Int) (n : Int) (w : World) (e : Ending) (w' : World) : Prop :=
  Below w.heap.size w w' ∧ ((S.may b ∧ ∃ c x, e = .returned (.tuple #[.agg #[.slice (some ⟨c, 0, none⟩) 21 21, .slice (some ⟨x, 0, none⟩) 512 512, .bool (plB b == 1)], .int .i64 0]) ∧ CutAt w' c (plL b S.ah) ∧ IFun w' x 21 .i32 512 (heldF (plOut b S.ah n))) ∨
    (¬ S.may b ∧ ∃ er, e = .returned (.tuple #[frmZ, .int .i64 er]) ∧ (er = 3 ∨ er = 8) ∧ (headR b = false → er = 3) ∧ (headR b = true → plWh b = false → S.has = false → er = 8)))
structure NxSt (w : World) (z f : Nat) (fc : Array Value) (base g : Nat) (v : Value) (b : List Int) (D : DecS) (wx : World) : Prop where
  hb : Below w.heap.size w wx
  hz : Cel wx z 103 #[.slice none 0 0, .slice none 0 0, .bool false]
  hf : Cel wx f 103 fc
  hd : DrcAt wx base g v b D
  hg : w.heap.size ≤ base ∧ w.heap.size ≤ z
theorem NxSt.dec {w wx w' : World} {z f base g : Nat} {fc : Array Value} {v : Value} {b : List Int} {D D' : DecS} (h : NxSt w z f fc base g v b D wx) (d : DrcAt w' base g v b D') (k : Keeps (fun j => j = g) wx w') : NxSt w z f fc base g v b D' w' :=
  ⟨h.hb.trans (k.below h.hb.size fun j hj => by have := h.hd.lt.2; have := h.hg.1; omega), h.hz.keeps k (fun e => h.hz.ne h.hd.2.1 (by decide) e), h.hf.keeps k (fun e => h.hf.ne h.hd.2.1 (by decide) e), d, h.hg⟩
theorem NxSt.now {w wx w' : World} {z f base g : Nat} {fc : Array Value} {v : Value} {b : List Int} {D : DecS} (h : NxSt w z f fc base g v b D wx) (k : Below wx.heap.size wx w') : NxSt w z f fc base g v b D w' :=
  ⟨chain h.hb k, h.hz.below k, h.hf.below k, h.hd.below k, h.hg⟩
/-- What is put into a result that lies in memory. -/
theorem nx_end {w5 : World} {z : Nat} {w : World} {cv lv : Value} {br : Bool} (hz : Cel w5 z 103 #[.slice none 0 0, .slice none 0 0, .bool false]) (hb : Below w.heap.size w w5) (hw : w.heap.size ≤ z) :
    Cel (((w5.setCell ⟨z, 0, none⟩ cv).setCell ⟨z, 1, none⟩ lv).setCell ⟨z, 2, none⟩ (.bool br)) z 103 #[cv, lv, .bool br] ∧ Below w.heap.size w (((w5.setCell ⟨z, 0, none⟩ cv).setCell ⟨z, 1, none⟩ lv).setCell ⟨z, 2, none⟩ (.bool br)) ∧ Keeps (· = z) w5 (((w5.setCell ⟨z, 0, none⟩ cv).setCell ⟨z, 1, none⟩ lv).setCell ⟨z, 2, none⟩ (.bool br)) :=
  ⟨((hz.set_ 0 _).set_ 1 _).set_ 2 _, ((hb.setCell (p := ⟨z, 0, none⟩) hw _).setCell (p := ⟨z, 1, none⟩) hw _).setCell (p := ⟨z, 2, none⟩) hw _, ((Keeps.set1 _).trans (Keeps.set1 _)).trans (Keeps.set1 _)⟩
theorem plW_zero {b : List Int} (hb : ∀ j, 0 ≤ byteF b j ∧ byteF b j ≤ 255) (h : plWh b = false) : plW b = 0 := by
  have h1 := (plG hb).w
  unfold plWh at h
  have h2 : plW b ≠ 1 := by simpa using h
  omega

set_option maxHeartbeats 2000000 in
set_option maxRecDepth 100000 in
theorem pNext_any (S : P14) (b : List Int) (n : Int) (o : Option Nat) (la a : Option Addr) (ll lc len cap : Nat) (br0 : Bool) (w : World) (hO : (S.has = false ∧ o = none) ∨ (S.has = true ∧ ∃ c, o = some c ∧ CutAt w c S.ah)) (hS : CutOk S.ah)
    (hI : IntsAt w w.heap.size .u8 a len b) (hn : a = none → cap = 0) (hb : ∀ j, 0 ≤ byteF b j ∧ byteF b j ≤ 255) (hl : len ≤ 100000) (n0 : 0 ≤ n) (n1 : n ≤ 4294967295) :
    Calls Tryz.prog 48 #[.agg #[.slice (ahA o) (ahN o) (ahN o), .slice la ll lc, .bool br0], .int .u32 n, .slice a len cap] w (NextPost S b n w) := by
  have HBy := Lib.hid hb
  have HNn := Lib.hid hn
  have hbl : b.length ≤ 100000 := by rw [hI.1]; exact hl
  have HSa := Lib.hid hS
  obtain ⟨f, hf⟩ : ∃ f, f = w.heap.size := ⟨_, rfl⟩
  obtain ⟨z, hz⟩ : ∃ z, z = w.heap.size + 1 := ⟨_, rfl⟩
  obtain ⟨w0, hw0⟩ : ∃ w0, w0 = (w.alloc (.cells #[.slice (ahA o) (ahN o) (ahN o), .slice la ll lc, .bool br0] 103)).alloc (.cells #[.slice none 0 0, .slice none 0 0, .bool false] 103) := ⟨_, rfl⟩
  have hb0 : Below w.heap.size w w0 := by rw [hw0]; exact chain (Below.alloc_new w _) (Below.alloc_new _ _)
  have HF0 : RowKit.Hid (Cel w0 f 103 #[.slice (ahA o) (ahN o) (ahN o), .slice la ll lc, .bool br0]) := by show Cel _ _ _ _; rw [hw0, hf]; exact (Cel.new w _ _).alloc _
  have HZ0 : RowKit.Hid (Cel w0 z 103 #[.slice none 0 0, .slice none 0 0, .bool false]) := by
    have e := Cel.new (w.alloc (.cells #[.slice (ahA o) (ahN o) (ahN o), .slice la ll lc, .bool br0] 103)) 103 #[.slice none 0 0, .slice none 0 0, .bool false]
    rw [alloc_sizeB] at e
    show Cel _ _ _ _
    rw [hw0, hz]
    exact e
  have HB0 := Lib.hid hb0
  have HI0 := Lib.hid (hI.now hb0 (Nat.le_refl _))
  have HZf : RowKit.Hid (w.heap.size ≤ z ∧ w.heap.size ≤ w0.heap.size) := ⟨by omega, hb0.size⟩
  have HW0 : RowKit.Hid (w0 = (w.alloc (.cells #[.slice (ahA o) (ahN o) (ahN o), .slice la ll lc, .bool br0] 103)).alloc (.cells #[.slice none 0 0, .slice none 0 0, .bool false] 103)) := hw0
  obtain ⟨wh, hwh⟩ : ∃ wh, wh = plWh b := ⟨_, rfl⟩
  obtain ⟨R, hR⟩ : ∃ R, R = (plB b == 1) := ⟨_, rfl⟩
  obtain ⟨Q, hQ⟩ : ∃ Q, Q = plQ b := ⟨_, rfl⟩
  obtain ⟨L, hL⟩ : ∃ L, L = plLo b := ⟨_, rfl⟩
  have HV : RowKit.Hid (headV b = .agg #[.bool wh, .bool R, .int .i64 Q, .int .i64 L]) := by show _ = _; rw [hwh, hR, hQ, hL]; rfl
  have HWh : RowKit.Hid (plWh b = wh) := hwh.symm
  have HRb : RowKit.Hid ((plB b == 1) = R) := hR.symm
  have HFf : RowKit.Hid (f = w.heap.size ∧ z = w.heap.size + 1) := ⟨hf, hz⟩
  clear hwh hR hQ hL hw0 hb0 hI hb hn hS hf hz
  cases hHr : headR b with
  | false =>
    have HHr := Lib.hid hHr
    have HVz : RowKit.Hid (headZ = .agg #[.bool false, .bool false, .int .i64 0, .int .i64 0]) := rfl
    clear hHr hO
    go_enter Tryz.func48, Tryz.ntmps48
    go_wp2_with (first
      | (go_at_call 83; go_loud (refine (pReadHead_any _ g v b _ H1.out.hd HBy.out hbl).mono ?_); rintro e w2 ⟨d2, k2, ⟨hh, _⟩ | ⟨_, rfl⟩⟩; (case inl => exact absurd (HHr.out.symm.trans hh) (by decide)); rw [HVz.out]; have H2 := Lib.hid (H1.out.dec d2 k2); clear d2 k2; have q0 : w2.cell? ⟨z, 0, none⟩ = some (.slice none 0 0) := H2.out.hz.cell 0; have q1 : w2.cell? ⟨z, 1, none⟩ = some (.slice none 0 0) := H2.out.hz.cell 1; have q2 : w2.cell? ⟨z, 2, none⟩ = some (.bool false) := H2.out.hz.cell 2; have zz0 := H2.out.hz.frozen 0; have zz1 := H2.out.hz.frozen 1; have zz2 := H2.out.hz.frozen 2; have zl := H2.out.hz.lt)
      | (go_at_call 82; rw [← HW0.out, ← HFf.out.2, ← HFf.out.1]; go_loud (refine (drcNew_any a len cap b _ HI0.out HNn.out HBy.out (by omega)).mono ?_); rintro e w1 ⟨g, v, rfl, d1, b1⟩; have H1 : RowKit.Hid (NxSt w z f #[.slice (ahA o) (ahN o) (ahN o), .slice la ll lc, .bool br0] w0.heap.size g v b (plD0 b) w1) := ⟨chain HB0.out b1, HZ0.out.below b1, HF0.out.below b1, d1, HZf.out.2, HZf.out.1⟩; clear d1 b1))
    refine bodyPost_ret (results_cell2 rfl rfl rfl (run_loadVar_row _ z _ _ _ (0, 0) _ ((nx_end H2.out.hz H2.out.hb H2.out.hg.2).1.alloc _) Tryz.underlying103 rfl infoC_pframe)) rfl ?_
    exact ⟨(nx_end H2.out.hz H2.out.hb H2.out.hg.2).2.1.alloc (nx_end H2.out.hz H2.out.hb H2.out.hg.2).2.1.size _, .inr ⟨fun hm => (by have := hm.1; rw [headR_ok0 HHr.out] at this; cases this), 3, rfl, .inl rfl, fun _ => rfl, fun h => (by rw [HHr.out] at h; cases h)⟩⟩
  | true =>
    have HHr := Lib.hid hHr
    clear hHr
    cases wh with
    | true =>
      cases hk1 : plOk1 b S.ah with
      | false =>
        have HK1 := Lib.hid hk1
        clear hk1
        go_enter Tryz.func48, Tryz.ntmps48
        go_wp2_with (first
          | (go_at_call 85; go_loud (refine (fGet_any _ g v b none S.ah _ _ H2b.out.hd HBy.out hbl (.inl ⟨HWh.out, rfl⟩)).mono ?_); rintro e w4 ⟨r4, rfl, c4, d4, k4, s4⟩; rw [HK1.out, if_neg (by decide)]; have H4 := Lib.hid (H2b.out.dec d4 k4); clear c4 d4 k4 s4; have q0 : w4.cell? ⟨z, 0, none⟩ = some (.slice none 0 0) := H4.out.hz.cell 0; have q1 : w4.cell? ⟨z, 1, none⟩ = some (.slice none 0 0) := H4.out.hz.cell 1; have q2 : w4.cell? ⟨z, 2, none⟩ = some (.bool false) := H4.out.hz.cell 2; have zz0 := H4.out.hz.frozen 0; have zz1 := H4.out.hz.frozen 1; have zz2 := H4.out.hz.frozen 2; have zl := H4.out.hz.lt)
          | (go_at_call 83; go_loud (refine (pReadHead_any _ g v b _ H1.out.hd HBy.out hbl).mono ?_); rintro e w2 ⟨d2, k2, ⟨_, rfl⟩ | ⟨hh, _⟩⟩; (case inr => exact absurd (HHr.out.symm.trans hh) (by decide)); rw [HV.out]; have H2 := Lib.hid (H1.out.dec d2 k2); have H2b := Lib.hid (H2.out.now (Below.alloc_new w2 (.cells #[.bool true, .bool R, .int .i64 Q, .int .i64 L] 139))); clear d2 k2; have HH2 := Lib.hid (Cel.new w2 139 #[.bool true, .bool R, .int .i64 Q, .int .i64 L]); have p0 : w2.cell? ⟨f, 0, none⟩ = some (.slice (ahA o) (ahN o) (ahN o)) := H2.out.hf.cell 0; have p1 : w2.cell? ⟨f, 1, none⟩ = some (.slice la ll lc) := H2.out.hf.cell 1; have p2 : w2.cell? ⟨f, 2, none⟩ = some (.bool br0) := H2.out.hf.cell 2; have pl := H2.out.hf.lt)
          | (go_at_call 82; rw [← HW0.out, ← HFf.out.2, ← HFf.out.1]; go_loud (refine (drcNew_any a len cap b _ HI0.out HNn.out HBy.out (by omega)).mono ?_); rintro e w1 ⟨g, v, rfl, d1, b1⟩; have H1 : RowKit.Hid (NxSt w z f #[.slice (ahA o) (ahN o) (ahN o), .slice la ll lc, .bool br0] w0.heap.size g v b (plD0 b) w1) := ⟨chain HB0.out b1, HZ0.out.below b1, HF0.out.below b1, d1, HZf.out.2, HZf.out.1⟩; clear d1 b1))
        refine bodyPost_ret (results_cell2 rfl rfl rfl (run_loadVar_row _ z _ _ _ (0, 0) _ ((nx_end H4.out.hz H4.out.hb H4.out.hg.2).1) Tryz.underlying103 rfl infoC_pframe)) rfl ?_
        exact ⟨(nx_end H4.out.hz H4.out.hb H4.out.hg.2).2.1, .inr ⟨fun hm => (by have := hm.2.1; rw [HK1.out] at this; cases this), 3, rfl, .inl rfl, fun _ => rfl, fun _ h => (by rw [HWh.out] at h; cases h)⟩⟩
      | true =>
        have HK1 := Lib.hid hk1
        clear hk1
        have HGL : RowKit.Hid (∀ (bs g : Nat) (v : Value) (c : Nat) (wx : World), DrcAt wx bs g v b (plD5 b S.ah) → CutAt wx c (plL b S.ah) → Calls Tryz.prog 86 #[.pointer (some ⟨g, 0, none⟩), .agg #[.bool true, .bool R, .int .i64 Q, .int .i64 L], .slice (some ⟨c, 0, none⟩) 21 21, .int .u32 n] wx (LinesPost b S.ah n g wx)) := fun bs g v c wx h1 h2 => by
          have := pGetLines_any bs g v b S.ah c n wx HHr.out HK1.out h1 HBy.out hbl h2 n0 n1
          rw [HV.out] at this
          exact this
        by_cases hk2 : plOk2 b S.ah
        · have HK2 := Lib.hid hk2; clear hk2
          go_enter Tryz.func48, Tryz.ntmps48
          go_wp2_with (first
            | (go_at_call 86; go_loud (refine (HGL.out _ g v r4 _ H4.out.hd HC4.out).mono ?_); rintro e w5 ⟨k5, ⟨_, x5, rfl, i5, s5⟩ | ⟨hh, _⟩⟩; (case inr => exact absurd HK2.out hh); have m5 : w5.cell? ⟨w2.heap.size, 1, none⟩ = some (.bool R) := (HH4.out.keeps k5 (fun e => HH4.out.ne H4.out.hd.2.1 (by decide) e)).cell 1; have hgd : ∃ cs, Cel w4 g 210 cs := ⟨_, H4.out.hd.2.1⟩; have hg1 := H4.out.hd.lt; have H5 : RowKit.Hid (Below w.heap.size w w5 ∧ Cel w5 z 103 #[.slice none 0 0, .slice none 0 0, .bool false]) := ⟨H4.out.hb.trans (k5.below H4.out.hb.size fun j hj => by have := H4.out.hg.1; omega), H4.out.hz.keeps k5 fun e => by obtain ⟨cs, hc⟩ := hgd; exact H4.out.hz.ne hc (by decide) e⟩; have HI5 := Lib.hid i5; have HC5 : RowKit.Hid (CutAt w5 r4 (plL b S.ah)) := Cel.keeps HC4.out k5 (fun e => by obtain ⟨cs, hc⟩ := hgd; exact Cel.ne HC4.out hc (by decide) e); clear i5 s5; clear k5 hgd hg1; have q0 : w5.cell? ⟨z, 0, none⟩ = some (.slice none 0 0) := H5.out.2.cell 0; have q1 : w5.cell? ⟨z, 1, none⟩ = some (.slice none 0 0) := H5.out.2.cell 1; have q2 : w5.cell? ⟨z, 2, none⟩ = some (.bool false) := H5.out.2.cell 2; have zz0 := H5.out.2.frozen 0; have zz1 := H5.out.2.frozen 1; have zz2 := H5.out.2.frozen 2; have zl := H5.out.2.lt)
            | (go_at_call 85; go_loud (refine (fGet_any _ g v b none S.ah _ _ H2b.out.hd HBy.out hbl (.inl ⟨HWh.out, rfl⟩)).mono ?_); rintro e w4 ⟨r4, rfl, c4, d4, k4, s4⟩; rw [HK1.out, if_pos rfl]; have H4 := Lib.hid (H2b.out.dec d4 k4); have HC4 := Lib.hid c4; have HH4 := Lib.hid (HH2.out.keeps k4 (fun e => HH2.out.ne H2b.out.hd.2.1 (by decide) e)); clear c4 d4 k4 s4; have m0 : w4.cell? ⟨w2.heap.size, 0, none⟩ = some (.bool true) := HH4.out.cell 0; have m1 : w4.cell? ⟨w2.heap.size, 1, none⟩ = some (.bool R) := HH4.out.cell 1; have m2 : w4.cell? ⟨w2.heap.size, 2, none⟩ = some (.int .i64 Q) := HH4.out.cell 2; have m3 : w4.cell? ⟨w2.heap.size, 3, none⟩ = some (.int .i64 L) := HH4.out.cell 3)
            | (go_at_call 83; go_loud (refine (pReadHead_any _ g v b _ H1.out.hd HBy.out hbl).mono ?_); rintro e w2 ⟨d2, k2, ⟨_, rfl⟩ | ⟨hh, _⟩⟩; (case inr => exact absurd (HHr.out.symm.trans hh) (by decide)); rw [HV.out]; have H2 := Lib.hid (H1.out.dec d2 k2); have H2b := Lib.hid (H2.out.now (Below.alloc_new w2 (.cells #[.bool true, .bool R, .int .i64 Q, .int .i64 L] 139))); clear d2 k2; have HH2 := Lib.hid (Cel.new w2 139 #[.bool true, .bool R, .int .i64 Q, .int .i64 L]); have p0 : w2.cell? ⟨f, 0, none⟩ = some (.slice (ahA o) (ahN o) (ahN o)) := H2.out.hf.cell 0; have p1 : w2.cell? ⟨f, 1, none⟩ = some (.slice la ll lc) := H2.out.hf.cell 1; have p2 : w2.cell? ⟨f, 2, none⟩ = some (.bool br0) := H2.out.hf.cell 2; have pl := H2.out.hf.lt)
            | (go_at_call 82; rw [← HW0.out, ← HFf.out.2, ← HFf.out.1]; go_loud (refine (drcNew_any a len cap b _ HI0.out HNn.out HBy.out (by omega)).mono ?_); rintro e w1 ⟨g, v, rfl, d1, b1⟩; have H1 : RowKit.Hid (NxSt w z f #[.slice (ahA o) (ahN o) (ahN o), .slice la ll lc, .bool br0] w0.heap.size g v b (plD0 b) w1) := ⟨chain HB0.out b1, HZ0.out.below b1, HF0.out.below b1, d1, HZf.out.2, HZf.out.1⟩; clear d1 b1))
          refine bodyPost_ret (results_cell2 rfl rfl rfl (run_loadVar_row _ z _ _ _ (0, 0) _ (nx_end H5.out.2 H5.out.1 HZf.out.1).1 Tryz.underlying103 rfl infoC_pframe)) rfl ?_
          refine ⟨(nx_end H5.out.2 H5.out.1 HZf.out.1).2.1, .inl ⟨⟨headR_ok HHr.out (.inl HWh.out), HK1.out, HK2.out⟩, r4, x5, by rw [HRb.out]; rfl, ?_, ?_⟩⟩
          · exact Cel.keeps HC5.out (nx_end H5.out.2 H5.out.1 HZf.out.1).2.2 (Cel.ne HC5.out H5.out.2 (by decide))
          · exact Cel.keeps HI5.out (nx_end H5.out.2 H5.out.1 HZf.out.1).2.2 (Cel.ne HI5.out H5.out.2 (by decide))
        · have HK2 := Lib.hid hk2; clear hk2
          go_enter Tryz.func48, Tryz.ntmps48
          go_wp2_with (first
            | (go_at_call 86; go_loud (refine (HGL.out _ g v r4 _ H4.out.hd HC4.out).mono ?_); rintro e w5 ⟨k5, ⟨hh, _⟩ | ⟨_, rfl⟩⟩; (case inl => exact absurd hh HK2.out); have m5 : w5.cell? ⟨w2.heap.size, 1, none⟩ = some (.bool R) := (HH4.out.keeps k5 (fun e => HH4.out.ne H4.out.hd.2.1 (by decide) e)).cell 1; have hgd : ∃ cs, Cel w4 g 210 cs := ⟨_, H4.out.hd.2.1⟩; have hg1 := H4.out.hd.lt; have H5 : RowKit.Hid (Below w.heap.size w w5 ∧ Cel w5 z 103 #[.slice none 0 0, .slice none 0 0, .bool false]) := ⟨H4.out.hb.trans (k5.below H4.out.hb.size fun j hj => by have := H4.out.hg.1; omega), H4.out.hz.keeps k5 fun e => by obtain ⟨cs, hc⟩ := hgd; exact H4.out.hz.ne hc (by decide) e⟩; clear k5 hgd hg1; have q0 : w5.cell? ⟨z, 0, none⟩ = some (.slice none 0 0) := H5.out.2.cell 0; have q1 : w5.cell? ⟨z, 1, none⟩ = some (.slice none 0 0) := H5.out.2.cell 1; have q2 : w5.cell? ⟨z, 2, none⟩ = some (.bool false) := H5.out.2.cell 2; have zz0 := H5.out.2.frozen 0; have zz1 := H5.out.2.frozen 1; have zz2 := H5.out.2.frozen 2; have zl := H5.out.2.lt)
            | (go_at_call 85; go_loud (refine (fGet_any _ g v b none S.ah _ _ H2b.out.hd HBy.out hbl (.inl ⟨HWh.out, rfl⟩)).mono ?_); rintro e w4 ⟨r4, rfl, c4, d4, k4, s4⟩; rw [HK1.out, if_pos rfl]; have H4 := Lib.hid (H2b.out.dec d4 k4); have HC4 := Lib.hid c4; have HH4 := Lib.hid (HH2.out.keeps k4 (fun e => HH2.out.ne H2b.out.hd.2.1 (by decide) e)); clear c4 d4 k4 s4; have m0 : w4.cell? ⟨w2.heap.size, 0, none⟩ = some (.bool true) := HH4.out.cell 0; have m1 : w4.cell? ⟨w2.heap.size, 1, none⟩ = some (.bool R) := HH4.out.cell 1; have m2 : w4.cell? ⟨w2.heap.size, 2, none⟩ = some (.int .i64 Q) := HH4.out.cell 2; have m3 : w4.cell? ⟨w2.heap.size, 3, none⟩ = some (.int .i64 L) := HH4.out.cell 3)
            | (go_at_call 83; go_loud (refine (pReadHead_any _ g v b _ H1.out.hd HBy.out hbl).mono ?_); rintro e w2 ⟨d2, k2, ⟨_, rfl⟩ | ⟨hh, _⟩⟩; (case inr => exact absurd (HHr.out.symm.trans hh) (by decide)); rw [HV.out]; have H2 := Lib.hid (H1.out.dec d2 k2); have H2b := Lib.hid (H2.out.now (Below.alloc_new w2 (.cells #[.bool true, .bool R, .int .i64 Q, .int .i64 L] 139))); clear d2 k2; have HH2 := Lib.hid (Cel.new w2 139 #[.bool true, .bool R, .int .i64 Q, .int .i64 L]); have p0 : w2.cell? ⟨f, 0, none⟩ = some (.slice (ahA o) (ahN o) (ahN o)) := H2.out.hf.cell 0; have p1 : w2.cell? ⟨f, 1, none⟩ = some (.slice la ll lc) := H2.out.hf.cell 1; have p2 : w2.cell? ⟨f, 2, none⟩ = some (.bool br0) := H2.out.hf.cell 2; have pl := H2.out.hf.lt)
            | (go_at_call 82; rw [← HW0.out, ← HFf.out.2, ← HFf.out.1]; go_loud (refine (drcNew_any a len cap b _ HI0.out HNn.out HBy.out (by omega)).mono ?_); rintro e w1 ⟨g, v, rfl, d1, b1⟩; have H1 : RowKit.Hid (NxSt w z f #[.slice (ahA o) (ahN o) (ahN o), .slice la ll lc, .bool br0] w0.heap.size g v b (plD0 b) w1) := ⟨chain HB0.out b1, HZ0.out.below b1, HF0.out.below b1, d1, HZf.out.2, HZf.out.1⟩; clear d1 b1))
          refine bodyPost_ret (results_cell2 rfl rfl rfl (run_loadVar_row _ z _ _ _ (0, 0) _ (nx_end H5.out.2 H5.out.1 HZf.out.1).1 Tryz.underlying103 rfl infoC_pframe)) rfl ?_
          exact ⟨(nx_end H5.out.2 H5.out.1 HZf.out.1).2.1, .inr ⟨fun hm => HK2.out hm.2.2, 3, rfl, .inl rfl, fun _ => rfl, fun _ h => (by rw [HWh.out] at h; cases h)⟩⟩
    | false =>
      rcases hO with ⟨hh, rfl⟩ | ⟨hh, c, rfl, hc⟩
      · have HHas := Lib.hid hh; clear hh
        go_enter Tryz.func48, Tryz.ntmps48
        go_wp2_with (first
          | (go_at_call 84; go_loud (refine (pThere_any (ahA none) la 0 0 ll lc br0 _ (by decide)).mono ?_); rintro e w3 ⟨rfl, b3⟩; rw [show (!decide ((0 : Nat) = 0)) = false from rfl]; have H3 := Lib.hid (H2b.out.now b3); have HH3 := Lib.hid (HH2.out.below b3); clear b3; have q0 : w3.cell? ⟨z, 0, none⟩ = some (.slice none 0 0) := H3.out.hz.cell 0; have q1 : w3.cell? ⟨z, 1, none⟩ = some (.slice none 0 0) := H3.out.hz.cell 1; have q2 : w3.cell? ⟨z, 2, none⟩ = some (.bool false) := H3.out.hz.cell 2; have zz0 := H3.out.hz.frozen 0; have zz1 := H3.out.hz.frozen 1; have zz2 := H3.out.hz.frozen 2; have zl := H3.out.hz.lt)
          | (go_at_call 83; go_loud (refine (pReadHead_any _ g v b _ H1.out.hd HBy.out hbl).mono ?_); rintro e w2 ⟨d2, k2, ⟨_, rfl⟩ | ⟨hh, _⟩⟩; (case inr => exact absurd (HHr.out.symm.trans hh) (by decide)); rw [HV.out]; have H2 := Lib.hid (H1.out.dec d2 k2); have H2b := Lib.hid (H2.out.now (Below.alloc_new w2 (.cells #[.bool false, .bool R, .int .i64 Q, .int .i64 L] 139))); clear d2 k2; have HH2 := Lib.hid (Cel.new w2 139 #[.bool false, .bool R, .int .i64 Q, .int .i64 L]); have p0 : w2.cell? ⟨f, 0, none⟩ = some (.slice (ahA none) (ahN none) (ahN none)) := H2.out.hf.cell 0; have p1 : w2.cell? ⟨f, 1, none⟩ = some (.slice la ll lc) := H2.out.hf.cell 1; have p2 : w2.cell? ⟨f, 2, none⟩ = some (.bool br0) := H2.out.hf.cell 2; have pl := H2.out.hf.lt)
          | (go_at_call 82; rw [← HW0.out, ← HFf.out.2, ← HFf.out.1]; go_loud (refine (drcNew_any a len cap b _ HI0.out HNn.out HBy.out (by omega)).mono ?_); rintro e w1 ⟨g, v, rfl, d1, b1⟩; have H1 : RowKit.Hid (NxSt w z f #[.slice (ahA none) (ahN none) (ahN none), .slice la ll lc, .bool br0] w0.heap.size g v b (plD0 b) w1) := ⟨chain HB0.out b1, HZ0.out.below b1, HF0.out.below b1, d1, HZf.out.2, HZf.out.1⟩; clear d1 b1))
        refine bodyPost_ret (results_cell2 rfl rfl rfl (run_loadVar_row _ z _ _ _ (0, 0) _ ((nx_end H3.out.hz H3.out.hb H3.out.hg.2).1) Tryz.underlying103 rfl infoC_pframe)) rfl ?_
        exact ⟨(nx_end H3.out.hz H3.out.hb H3.out.hg.2).2.1, .inr ⟨fun hm => (by have := hm.1; unfold plOk0 at this; rw [HHas.out, plW_zero HBy.out HWh.out] at this; simp at this), 8, rfl, .inr rfl, fun h => (by rw [HHr.out] at h; cases h), fun _ _ _ => rfl⟩⟩
      · have HHas := Lib.hid hh; have HC := Lib.hid hc; clear hh hc
        cases hk1 : plOk1 b S.ah with
        | false =>
          have HK1 := Lib.hid hk1
          clear hk1
          go_enter Tryz.func48, Tryz.ntmps48
          go_wp2_with (first
            | (go_at_call 85; go_loud (refine (fGet_any _ g v b (some c) S.ah _ _ H3.out.hd HBy.out hbl (.inr ⟨HWh.out, HSa.out, c, rfl, HC.out.below H3.out.hb HC.out.lt⟩)).mono ?_); rintro e w4 ⟨r4, rfl, c4, d4, k4, s4⟩; rw [HK1.out, if_neg (by decide)]; have H4 := Lib.hid (H3.out.dec d4 k4); clear c4 d4 k4 s4; have q0 : w4.cell? ⟨z, 0, none⟩ = some (.slice none 0 0) := H4.out.hz.cell 0; have q1 : w4.cell? ⟨z, 1, none⟩ = some (.slice none 0 0) := H4.out.hz.cell 1; have q2 : w4.cell? ⟨z, 2, none⟩ = some (.bool false) := H4.out.hz.cell 2; have zz0 := H4.out.hz.frozen 0; have zz1 := H4.out.hz.frozen 1; have zz2 := H4.out.hz.frozen 2; have zl := H4.out.hz.lt)
            | (go_at_call 84; go_loud (refine (pThere_any (ahA (some c)) la 21 21 ll lc br0 _ (by decide)).mono ?_); rintro e w3 ⟨rfl, b3⟩; rw [show (!decide ((21 : Nat) = 0)) = true from rfl]; have H3 := Lib.hid (H2b.out.now b3); have HH3 := Lib.hid (HH2.out.below b3); clear b3)
            | (go_at_call 83; go_loud (refine (pReadHead_any _ g v b _ H1.out.hd HBy.out hbl).mono ?_); rintro e w2 ⟨d2, k2, ⟨_, rfl⟩ | ⟨hh, _⟩⟩; (case inr => exact absurd (HHr.out.symm.trans hh) (by decide)); rw [HV.out]; have H2 := Lib.hid (H1.out.dec d2 k2); have H2b := Lib.hid (H2.out.now (Below.alloc_new w2 (.cells #[.bool false, .bool R, .int .i64 Q, .int .i64 L] 139))); clear d2 k2; have HH2 := Lib.hid (Cel.new w2 139 #[.bool false, .bool R, .int .i64 Q, .int .i64 L]); have p0 : w2.cell? ⟨f, 0, none⟩ = some (.slice (ahA (some c)) (ahN (some c)) (ahN (some c))) := H2.out.hf.cell 0; have p1 : w2.cell? ⟨f, 1, none⟩ = some (.slice la ll lc) := H2.out.hf.cell 1; have p2 : w2.cell? ⟨f, 2, none⟩ = some (.bool br0) := H2.out.hf.cell 2; have pl := H2.out.hf.lt)
            | (go_at_call 82; rw [← HW0.out, ← HFf.out.2, ← HFf.out.1]; go_loud (refine (drcNew_any a len cap b _ HI0.out HNn.out HBy.out (by omega)).mono ?_); rintro e w1 ⟨g, v, rfl, d1, b1⟩; have H1 : RowKit.Hid (NxSt w z f #[.slice (ahA (some c)) (ahN (some c)) (ahN (some c)), .slice la ll lc, .bool br0] w0.heap.size g v b (plD0 b) w1) := ⟨chain HB0.out b1, HZ0.out.below b1, HF0.out.below b1, d1, HZf.out.2, HZf.out.1⟩; clear d1 b1))
          refine bodyPost_ret (results_cell2 rfl rfl rfl (run_loadVar_row _ z _ _ _ (0, 0) _ ((nx_end H4.out.hz H4.out.hb H4.out.hg.2).1) Tryz.underlying103 rfl infoC_pframe)) rfl ?_
          exact ⟨(nx_end H4.out.hz H4.out.hb H4.out.hg.2).2.1, .inr ⟨fun hm => (by have := hm.2.1; rw [HK1.out] at this; cases this), 3, rfl, .inl rfl, fun _ => rfl, fun _ _ h => (by rw [HHas.out] at h; cases h)⟩⟩
        | true =>
          have HK1 := Lib.hid hk1
          clear hk1
          have HGL : RowKit.Hid (∀ (bs g : Nat) (v : Value) (c : Nat) (wx : World), DrcAt wx bs g v b (plD5 b S.ah) → CutAt wx c (plL b S.ah) → Calls Tryz.prog 86 #[.pointer (some ⟨g, 0, none⟩), .agg #[.bool false, .bool R, .int .i64 Q, .int .i64 L], .slice (some ⟨c, 0, none⟩) 21 21, .int .u32 n] wx (LinesPost b S.ah n g wx)) := fun bs g v c wx h1 h2 => by
            have := pGetLines_any bs g v b S.ah c n wx HHr.out HK1.out h1 HBy.out hbl h2 n0 n1
            rw [HV.out] at this
            exact this
          by_cases hk2 : plOk2 b S.ah
          · have HK2 := Lib.hid hk2; clear hk2
            go_enter Tryz.func48, Tryz.ntmps48
            go_wp2_with (first
              | (go_at_call 86; go_loud (refine (HGL.out _ g v r4 _ H4.out.hd HC4.out).mono ?_); rintro e w5 ⟨k5, ⟨_, x5, rfl, i5, s5⟩ | ⟨hh, _⟩⟩; (case inr => exact absurd HK2.out hh); have m5 : w5.cell? ⟨w2.heap.size, 1, none⟩ = some (.bool R) := (HH4.out.keeps k5 (fun e => HH4.out.ne H4.out.hd.2.1 (by decide) e)).cell 1; have hgd : ∃ cs, Cel w4 g 210 cs := ⟨_, H4.out.hd.2.1⟩; have hg1 := H4.out.hd.lt; have H5 : RowKit.Hid (Below w.heap.size w w5 ∧ Cel w5 z 103 #[.slice none 0 0, .slice none 0 0, .bool false]) := ⟨H4.out.hb.trans (k5.below H4.out.hb.size fun j hj => by have := H4.out.hg.1; omega), H4.out.hz.keeps k5 fun e => by obtain ⟨cs, hc⟩ := hgd; exact H4.out.hz.ne hc (by decide) e⟩; have HI5 := Lib.hid i5; have HC5 : RowKit.Hid (CutAt w5 r4 (plL b S.ah)) := Cel.keeps HC4.out k5 (fun e => by obtain ⟨cs, hc⟩ := hgd; exact Cel.ne HC4.out hc (by decide) e); clear i5 s5; clear k5 hgd hg1; have q0 : w5.cell? ⟨z, 0, none⟩ = some (.slice none 0 0) := H5.out.2.cell 0; have q1 : w5.cell? ⟨z, 1, none⟩ = some (.slice none 0 0) := H5.out.2.cell 1; have q2 : w5.cell? ⟨z, 2, none⟩ = some (.bool false) := H5.out.2.cell 2; have zz0 := H5.out.2.frozen 0; have zz1 := H5.out.2.frozen 1; have zz2 := H5.out.2.frozen 2; have zl := H5.out.2.lt)
              | (go_at_call 85; go_loud (refine (fGet_any _ g v b (some c) S.ah _ _ H3.out.hd HBy.out hbl (.inr ⟨HWh.out, HSa.out, c, rfl, HC.out.below H3.out.hb HC.out.lt⟩)).mono ?_); rintro e w4 ⟨r4, rfl, c4, d4, k4, s4⟩; rw [HK1.out, if_pos rfl]; have H4 := Lib.hid (H3.out.dec d4 k4); have HC4 := Lib.hid c4; have HH4 := Lib.hid (HH3.out.keeps k4 (fun e => HH3.out.ne H3.out.hd.2.1 (by decide) e)); clear c4 d4 k4 s4; have m0 : w4.cell? ⟨w2.heap.size, 0, none⟩ = some (.bool false) := HH4.out.cell 0; have m1 : w4.cell? ⟨w2.heap.size, 1, none⟩ = some (.bool R) := HH4.out.cell 1; have m2 : w4.cell? ⟨w2.heap.size, 2, none⟩ = some (.int .i64 Q) := HH4.out.cell 2; have m3 : w4.cell? ⟨w2.heap.size, 3, none⟩ = some (.int .i64 L) := HH4.out.cell 3)
              | (go_at_call 84; go_loud (refine (pThere_any (ahA (some c)) la 21 21 ll lc br0 _ (by decide)).mono ?_); rintro e w3 ⟨rfl, b3⟩; rw [show (!decide ((21 : Nat) = 0)) = true from rfl]; have H3 := Lib.hid (H2b.out.now b3); have HH3 := Lib.hid (HH2.out.below b3); clear b3)
              | (go_at_call 83; go_loud (refine (pReadHead_any _ g v b _ H1.out.hd HBy.out hbl).mono ?_); rintro e w2 ⟨d2, k2, ⟨_, rfl⟩ | ⟨hh, _⟩⟩; (case inr => exact absurd (HHr.out.symm.trans hh) (by decide)); rw [HV.out]; have H2 := Lib.hid (H1.out.dec d2 k2); have H2b := Lib.hid (H2.out.now (Below.alloc_new w2 (.cells #[.bool false, .bool R, .int .i64 Q, .int .i64 L] 139))); clear d2 k2; have HH2 := Lib.hid (Cel.new w2 139 #[.bool false, .bool R, .int .i64 Q, .int .i64 L]); have p0 : w2.cell? ⟨f, 0, none⟩ = some (.slice (ahA (some c)) (ahN (some c)) (ahN (some c))) := H2.out.hf.cell 0; have p1 : w2.cell? ⟨f, 1, none⟩ = some (.slice la ll lc) := H2.out.hf.cell 1; have p2 : w2.cell? ⟨f, 2, none⟩ = some (.bool br0) := H2.out.hf.cell 2; have pl := H2.out.hf.lt)
              | (go_at_call 82; rw [← HW0.out, ← HFf.out.2, ← HFf.out.1]; go_loud (refine (drcNew_any a len cap b _ HI0.out HNn.out HBy.out (by omega)).mono ?_); rintro e w1 ⟨g, v, rfl, d1, b1⟩; have H1 : RowKit.Hid (NxSt w z f #[.slice (ahA (some c)) (ahN (some c)) (ahN (some c)), .slice la ll lc, .bool br0] w0.heap.size g v b (plD0 b) w1) := ⟨chain HB0.out b1, HZ0.out.below b1, HF0.out.below b1, d1, HZf.out.2, HZf.out.1⟩; clear d1 b1))
            refine bodyPost_ret (results_cell2 rfl rfl rfl (run_loadVar_row _ z _ _ _ (0, 0) _ (nx_end H5.out.2 H5.out.1 HZf.out.1).1 Tryz.underlying103 rfl infoC_pframe)) rfl ?_
            refine ⟨(nx_end H5.out.2 H5.out.1 HZf.out.1).2.1, .inl ⟨⟨headR_ok HHr.out (.inr HHas.out), HK1.out, HK2.out⟩, r4, x5, by rw [HRb.out]; rfl, ?_, ?_⟩⟩
            · exact Cel.keeps HC5.out (nx_end H5.out.2 H5.out.1 HZf.out.1).2.2 (Cel.ne HC5.out H5.out.2 (by decide))
            · exact Cel.keeps HI5.out (nx_end H5.out.2 H5.out.1 HZf.out.1).2.2 (Cel.ne HI5.out H5.out.2 (by decide))
          · have HK2 := Lib.hid hk2; clear hk2
            go_enter Tryz.func48, Tryz.ntmps48
            go_wp2_with (first
              | (go_at_call 86; go_loud (refine (HGL.out _ g v r4 _ H4.out.hd HC4.out).mono ?_); rintro e w5 ⟨k5, ⟨hh, _⟩ | ⟨_, rfl⟩⟩; (case inl => exact absurd hh HK2.out); have m5 : w5.cell? ⟨w2.heap.size, 1, none⟩ = some (.bool R) := (HH4.out.keeps k5 (fun e => HH4.out.ne H4.out.hd.2.1 (by decide) e)).cell 1; have hgd : ∃ cs, Cel w4 g 210 cs := ⟨_, H4.out.hd.2.1⟩; have hg1 := H4.out.hd.lt; have H5 : RowKit.Hid (Below w.heap.size w w5 ∧ Cel w5 z 103 #[.slice none 0 0, .slice none 0 0, .bool false]) := ⟨H4.out.hb.trans (k5.below H4.out.hb.size fun j hj => by have := H4.out.hg.1; omega), H4.out.hz.keeps k5 fun e => by obtain ⟨cs, hc⟩ := hgd; exact H4.out.hz.ne hc (by decide) e⟩; clear k5 hgd hg1; have q0 : w5.cell? ⟨z, 0, none⟩ = some (.slice none 0 0) := H5.out.2.cell 0; have q1 : w5.cell? ⟨z, 1, none⟩ = some (.slice none 0 0) := H5.out.2.cell 1; have q2 : w5.cell? ⟨z, 2, none⟩ = some (.bool false) := H5.out.2.cell 2; have zz0 := H5.out.2.frozen 0; have zz1 := H5.out.2.frozen 1; have zz2 := H5.out.2.frozen 2; have zl := H5.out.2.lt)
              | (go_at_call 85; go_loud (refine (fGet_any _ g v b (some c) S.ah _ _ H3.out.hd HBy.out hbl (.inr ⟨HWh.out, HSa.out, c, rfl, HC.out.below H3.out.hb HC.out.lt⟩)).mono ?_); rintro e w4 ⟨r4, rfl, c4, d4, k4, s4⟩; rw [HK1.out, if_pos rfl]; have H4 := Lib.hid (H3.out.dec d4 k4); have HC4 := Lib.hid c4; have HH4 := Lib.hid (HH3.out.keeps k4 (fun e => HH3.out.ne H3.out.hd.2.1 (by decide) e)); clear c4 d4 k4 s4; have m0 : w4.cell? ⟨w2.heap.size, 0, none⟩ = some (.bool false) := HH4.out.cell 0; have m1 : w4.cell? ⟨w2.heap.size, 1, none⟩ = some (.bool R) := HH4.out.cell 1; have m2 : w4.cell? ⟨w2.heap.size, 2, none⟩ = some (.int .i64 Q) := HH4.out.cell 2; have m3 : w4.cell? ⟨w2.heap.size, 3, none⟩ = some (.int .i64 L) := HH4.out.cell 3)
              | (go_at_call 84; go_loud (refine (pThere_any (ahA (some c)) la 21 21 ll lc br0 _ (by decide)).mono ?_); rintro e w3 ⟨rfl, b3⟩; rw [show (!decide ((21 : Nat) = 0)) = true from rfl]; have H3 := Lib.hid (H2b.out.now b3); have HH3 := Lib.hid (HH2.out.below b3); clear b3)
              | (go_at_call 83; go_loud (refine (pReadHead_any _ g v b _ H1.out.hd HBy.out hbl).mono ?_); rintro e w2 ⟨d2, k2, ⟨_, rfl⟩ | ⟨hh, _⟩⟩; (case inr => exact absurd (HHr.out.symm.trans hh) (by decide)); rw [HV.out]; have H2 := Lib.hid (H1.out.dec d2 k2); have H2b := Lib.hid (H2.out.now (Below.alloc_new w2 (.cells #[.bool false, .bool R, .int .i64 Q, .int .i64 L] 139))); clear d2 k2; have HH2 := Lib.hid (Cel.new w2 139 #[.bool false, .bool R, .int .i64 Q, .int .i64 L]); have p0 : w2.cell? ⟨f, 0, none⟩ = some (.slice (ahA (some c)) (ahN (some c)) (ahN (some c))) := H2.out.hf.cell 0; have p1 : w2.cell? ⟨f, 1, none⟩ = some (.slice la ll lc) := H2.out.hf.cell 1; have p2 : w2.cell? ⟨f, 2, none⟩ = some (.bool br0) := H2.out.hf.cell 2; have pl := H2.out.hf.lt)
              | (go_at_call 82; rw [← HW0.out, ← HFf.out.2, ← HFf.out.1]; go_loud (refine (drcNew_any a len cap b _ HI0.out HNn.out HBy.out (by omega)).mono ?_); rintro e w1 ⟨g, v, rfl, d1, b1⟩; have H1 : RowKit.Hid (NxSt w z f #[.slice (ahA (some c)) (ahN (some c)) (ahN (some c)), .slice la ll lc, .bool br0] w0.heap.size g v b (plD0 b) w1) := ⟨chain HB0.out b1, HZ0.out.below b1, HF0.out.below b1, d1, HZf.out.2, HZf.out.1⟩; clear d1 b1))
            refine bodyPost_ret (results_cell2 rfl rfl rfl (run_loadVar_row _ z _ _ _ (0, 0) _ (nx_end H5.out.2 H5.out.1 HZf.out.1).1 Tryz.underlying103 rfl infoC_pframe)) rfl ?_
            exact ⟨(nx_end H5.out.2 H5.out.1 HZf.out.1).2.1, .inr ⟨fun hm => HK2.out hm.2.2, 3, rfl, .inl rfl, fun _ => rfl, fun _ _ h => (by rw [HHas.out] at h; cases h)⟩⟩
end Go.Proofs.YtobhoecmmpijgaaGreat
