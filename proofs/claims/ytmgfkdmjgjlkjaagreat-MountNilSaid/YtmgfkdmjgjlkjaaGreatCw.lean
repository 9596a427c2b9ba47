/- Plain facts, and what functions give, for the proofs of this seat: several texts in one, each with its own first remark. -/
import Derived.Test.YtmgfkdmjgjlkjaaGreatCv

namespace Go.Proofs.YtmgfkdmjgjlkjaaGreat
open Go.RowKit
set_option linter.unusedVariables false
theorem alloc_size (w : World) (o : Obj) : (w.alloc o).heap.size = w.heap.size + 1 := Array.size_push _
theorem circRise_same (g : Nat) (i : Int) (w : World) (hg : CircAt w g) (h0 : 0 ≤ i) (hi' : i ≤ 1000000) :
    Calls Tryz.prog 181 #[.pointer (some ⟨g, 0, none⟩), .int .i64 i] w fun e w' => e = .returned (.int .i32 (riseP i)) ∧ w = w' := by
  have HG := Lib.hid hg; clear hg
  by_cases h1 : 128 ≤ i
  · rw [riseP_big h1]
    go_enter Tryz.func181, Tryz.ntmps181
    go_wp2
    go_ret
    exact ⟨rfl, rfl⟩
  · rw [riseP_in (by omega) (by omega)]
    go_enter Tryz.func181, Tryz.ntmps181
    go_wp2_with (go_at_call 195; refine (circCos_same g _ _ HG.out (by omega) (by omega)).mono ?_; rintro e w' ⟨rfl, rfl⟩)
    go_ret
    exact ⟨rfl, rfl⟩
theorem mulP_24 {x r : Int} (h : x.natAbs ≤ 2147483647) (h0 : 0 ≤ r) (h1 : r ≤ 16777216) : mulP x r 24 = rndP (x * r) 24 := by
  have h2 := rnd24 (x * r)
  have h3 : (x * r).natAbs ≤ 2147483647 * 16777216 := mul_abs h (by omega)
  unfold mulP
  exact satP_self (by decide) (by decide) (by rw [show P2 ((32 : Int).toNat - 1) = 2147483648 by decide]; omega) (by rw [show P2 ((32 : Int).toNat - 1) = 2147483648 by decide]; omega)
set_option maxRecDepth 100000 in
theorem ovShape_any (c p q N cap : Nat) (a : Option Addr) (x : Nat → Int) (w : World) (hT : CircAt w c) (h1 : 1 ≤ N) (h2 : N ≤ 1000) (hx : FnAt w w.heap.size .i32 a N x) (hb : ∀ j, j < N → (x j).natAbs ≤ 2147483647) :
    Calls Tryz.prog 154 #[toolsV c p q, .slice a N cap] w (RowPost .i32 21 N (shapeF N x) w) := by
  obtain ⟨b, off, rfl, hbl, hc⟩ := hx
  have HC := Lib.hid hc
  have HB := Lib.hid hb
  have HT := Lib.hid hT
  have tl := hT.lt
  have hmk : ∀ w : World, (Instr.makeSlice 118 (.int .i64 (N : Int)) (.int .i64 (N : Int))).run Tryz.prog w = .ok (.slice (some ⟨w.heap.size, 0, none⟩) N N) (w.alloc (.cells (madeCells #[.int .i32 0] N) 21)) :=
    fun w => make_zeros (P := Tryz.prog) Tryz.underlying118 info_i32 N (by omega) (by omega) w
  have H0 : RowKit.Hid (IFun ((w.alloc (.cells #[.pointer (some ⟨c, 0, none⟩), .pointer (some ⟨p, 0, none⟩), .pointer (some ⟨q, 0, none⟩)] 168)).alloc (.cells (madeCells #[.int .i32 0] N) 21)) (w.heap.size + 1) 21 .i32 N (upTo (shapeF N x) (fun _ => 0) 0)
      ∧ Cel ((w.alloc (.cells #[.pointer (some ⟨c, 0, none⟩), .pointer (some ⟨p, 0, none⟩), .pointer (some ⟨q, 0, none⟩)] 168)).alloc (.cells (madeCells #[.int .i32 0] N) 21)) w.heap.size 168 #[.pointer (some ⟨c, 0, none⟩), .pointer (some ⟨p, 0, none⟩), .pointer (some ⟨q, 0, none⟩)]
      ∧ Below w.heap.size w ((w.alloc (.cells #[.pointer (some ⟨c, 0, none⟩), .pointer (some ⟨p, 0, none⟩), .pointer (some ⟨q, 0, none⟩)] 168)).alloc (.cells (madeCells #[.int .i32 0] N) 21))) := by
    refine ⟨?_, (Cel.new w _ _).alloc _, chain (Below.alloc_new w _) (Below.alloc_new _ _)⟩
    have := IFun.zeros (w.alloc (.cells #[.pointer (some ⟨c, 0, none⟩), .pointer (some ⟨p, 0, none⟩), .pointer (some ⟨q, 0, none⟩)] 168)) 21 .i32 N
    rw [show (w.alloc (.cells #[.pointer (some ⟨c, 0, none⟩), .pointer (some ⟨p, 0, none⟩), .pointer (some ⟨q, 0, none⟩)] 168)).heap.size = w.heap.size + 1 from alloc_size _ _] at this
    exact IFun.ext this fun j _ => (upTo_start (shapeF N x) (fun _ => 0) j).symm
  clear hc hb hT
  unfold toolsV
  go_enter Tryz.func154, Tryz.ntmps154
  go_wp2
  clear hmk
  generalize hg : w.heap.size = g at H0 hbl tl ⊢
  generalize ((w.alloc (.cells #[.pointer (some ⟨c, 0, none⟩), .pointer (some ⟨p, 0, none⟩), .pointer (some ⟨q, 0, none⟩)] 168)).alloc (.cells (madeCells #[.int .i32 0] N) 21)) = w1 at H0 ⊢
  go_loopw [14] (fun i wr => ∃ k : Nat, k ≤ N ∧ i = .int .i64 (k : Int) ∧ RowKit.Hid (IFun wr (g + 1) 21 .i32 N (upTo (shapeF N x) (fun _ => 0) k) ∧ Cel wr g 168 #[.pointer (some ⟨c, 0, none⟩), .pointer (some ⟨p, 0, none⟩), .pointer (some ⟨q, 0, none⟩)] ∧ Below g w wr)) (fun i _ => N - (intOf i).toNat)
  case atStart => exact ⟨0, by omega, rfl, H0.out⟩
  case round =>
    obtain ⟨k, hk, rfl, HI⟩ := hrel
    clear H0
    by_cases hlt : k < N
    · obtain ⟨m, hm⟩ : ∃ m, m = N - 1 - k := ⟨_, rfl⟩
      have k1 := (HI.out.2.2.cell (p := ⟨b, off + k, none⟩) hbl).trans (HC.out k hlt)
      have t0 := (cel3 HI.out.2.1).1
      have o1 := HI.out.1.cell (j := k) (by omega)
      have f1 := HI.out.1.frozen k
      obtain ⟨R, hR⟩ : ∃ R : Int → Int, R = riseP := ⟨_, rfl⟩
      have HX : RowKit.Hid (∀ i (z : Int), 0 ≤ z → z ≤ 1000 → Calls Tryz.prog 181 #[.pointer (some ⟨c, 0, none⟩), .int .i64 z] (wr.drewN i) fun e w' => e = .returned (.int .i32 (R z)) ∧ w' = wr.drewN i) := fun i z h0 h1 => by
        rw [hR]
        exact (circRise_same c z (wr.drewN i) ((HT.out.keep (HI.out.2.2.block c tl))) h0 (by omega)).mono fun _ _ h => ⟨h.1, h.2.symm⟩
      have hmin : RowKit.Hid ((if R (m : Int) < R (k : Int) then R (m : Int) else R (k : Int)) = slopeF N k) := by show _ = _; rw [hm, hR]; rfl
      obtain ⟨s0, s1⟩ := slopeF_bd N k
      have hx := HB.out k hlt
      have HS : RowKit.Hid (∀ i, IFun ((wr.drewN i).setCell ⟨g + 1, k, none⟩ (.int .i32 (shapeF N x k))) (g + 1) 21 .i32 N (upTo (shapeF N x) (fun _ => 0) (k + 1)) ∧ Cel ((wr.drewN i).setCell ⟨g + 1, k, none⟩ (.int .i32 (shapeF N x k))) g 168 #[.pointer (some ⟨c, 0, none⟩), .pointer (some ⟨p, 0, none⟩), .pointer (some ⟨q, 0, none⟩)] ∧ Below g w ((wr.drewN i).setCell ⟨g + 1, k, none⟩ (.int .i32 (shapeF N x k)))) := fun i =>
        ⟨IFun.ext ((HI.out.1.drewN i).set (j := k) (by omega) (shapeF N x k)) fun j _ => upTo_next _ _ k j, (HI.out.2.1.drewN i).far (by show g ≠ g + 1; omega) _, Below.setCell (p := ⟨g + 1, k, none⟩) (Below.drewN' HI.out.2.2 i) (by show g ≤ g + 1; omega) _⟩
      have HM : RowKit.Hid (mulP (x k) (slopeF N k) 24 = shapeF N x k) := mulP_24 hx s0 s1
      have e1 : (N : Int) - 1 - (k : Int) = (m : Int) := by omega
      have g1 : IntKind.i64.wrap ((N : Int) - 1) = (N : Int) - 1 := IntWalk.i64_in _ (by omega)
      have g2 : IntKind.i64.wrap (m : Int) = (m : Int) := IntWalk.i64_in _ (by omega)
      have r1 : 0 ≤ R (k : Int) ∧ R (k : Int) ≤ 16777216 := by rw [hR]; exact riseP_bd (k : Int) (by omega)
      have r2 : 0 ≤ R (m : Int) ∧ R (m : Int) ≤ 16777216 := by rw [hR]; exact riseP_bd (m : Int) (by omega)
      clear hm HI hR
      generalize slopeF N k = sl at hmin HM s0 s1
      generalize shapeF N x k = y at HS HM
      generalize x k = xk at k1 hx HM
      generalize upTo (shapeF N x) (fun _ => 0) k k = old at o1
      have l1 : (k : Int) < (N : Int) := by omega
      have x0 : -2147483648 ≤ xk := by omega
      have x1 : xk ≤ 2147483647 := by omega
      clear hx
      go_wp2
      go_quiet (first | (go_at_call 181; exact Calls.quiet_of_same (HX.out _ _ (by omega) (by omega))))
      have hm2 := hmin.out
      have o2 : (wr.drewN nq).cell? ⟨g + 1, k, none⟩ = some (.int .i32 old) := o1
      have f2 : (wr.drewN nq).frozen? ⟨g + 1, k, none⟩ = false := f1
      have HV := Lib.hid (HS.out nq)
      generalize wr.drewN nq = wq at HV o2 f2 ⊢
      clear HS HX o1 f1 k1 t0 g1 g2 e1
      go_wp2_with (go_at_call 182; refine (mul_any xk sl 24 _ x0 x1 (by omega) (by omega)).mono ?_; rintro e w' ⟨rfl, rfl⟩; rw [HM.out])
      go_roundw
      case rel => exact ⟨k + 1, by omega, by go_num, HV.out⟩
      case measure => simp [intOf] <;> omega
    · obtain rfl : k = N := by omega
      have Z : RowKit.Hid (IFun wr (g + 1) 21 .i32 k (shapeF k x) ∧ Below g w wr) := ⟨IFun.ext HI.out.1 fun i hi => upTo_end _ _ k i hi, HI.out.2.2⟩
      go_wp2
      go_ret
      exact ⟨g + 1, rfl, Z.out.1, by omega, by rw [hg]; exact Z.out.2⟩
def addF (tz l : Nat → Int) (off n i : Nat) : Int := if off ≤ i ∧ i < off + n then tz i + l (i - off) else tz i
theorem addF_start (tz l : Nat → Int) (off i : Nat) : addF tz l off 0 i = tz i := by unfold addF; rw [if_neg (by omega)]
theorem addF_here (tz l : Nat → Int) (off n : Nat) : addF tz l off n (off + n) = tz (off + n) := by unfold addF; rw [if_neg (by omega)]
theorem addF_next (tz l : Nat → Int) (off n i : Nat) : (if i = off + n then tz (off + n) + l n else addF tz l off n i) = addF tz l off (n + 1) i := by
  unfold addF
  by_cases e : i = off + n
  · subst e; rw [if_pos rfl, if_pos (by omega), show off + n - off = n by omega]
  · rw [if_neg e]
    by_cases c : off ≤ i ∧ i < off + n
    · rw [if_pos c, if_pos (by omega)]
    · rw [if_neg c, if_neg (by omega)]
def AddPost (g N : Nat) (f : Nat → Int) (w : World) (e : Ending) (w' : World) : Prop := e = .returned (.tuple #[]) ∧ IFun w' g 21 .i32 N f ∧ Keeps (· = g) w w'
set_option maxRecDepth 100000 in
theorem ovAdd_any (g off N n b bo len cap cap2 : Nat) (tz l : Nat → Int) (w : World) (hg : IFun w g 21 .i32 N tz) (hN : N ≤ 1000) (hfit : off + n ≤ N) (hlen : off + len = N) (hb : b ≠ g) (hl : ∀ j, j < n → w.cell? ⟨b, bo + j, none⟩ = some (.int .i32 (l j)))
    (h1 : ∀ j, j < n → (tz (off + j)).natAbs ≤ 2147483647 ∧ (l j).natAbs ≤ 2147483647 ∧ (tz (off + j) + l j).natAbs ≤ 2147483647) :
    Calls Tryz.prog 140 #[.slice (some ⟨g, off, none⟩) len cap, .slice (some ⟨b, bo, none⟩) n cap2] w (AddPost g N (addF tz l off n) w) := by
  have HL := Lib.hid hl
  have H1 := Lib.hid h1
  have H0 : RowKit.Hid (IFun w g 21 .i32 N (addF tz l off 0) ∧ Keeps (· = g) w w) := ⟨IFun.ext hg fun j _ => (addF_start tz l off j).symm, Keeps.refl _ _⟩
  have bl : 0 < n → b < w.heap.size := fun h => cell_block (hl 0 h)
  clear hl h1 hg
  go_enter Tryz.func140, Tryz.ntmps140
  go_wp2
  go_loopw [8] (fun i wr => ∃ k : Nat, k ≤ n ∧ i = .int .i64 (k : Int) ∧ RowKit.Hid (IFun wr g 21 .i32 N (addF tz l off k) ∧ Keeps (· = g) w wr)) (fun i _ => n - (intOf i).toNat)
  case atStart => exact ⟨0, by omega, rfl, H0.out⟩
  case round =>
    obtain ⟨k, hk, rfl, HI⟩ := hrel
    clear H0
    by_cases hlt : k < n
    · have k1 := (show wr.cell? ⟨b, bo + k, none⟩ = w.cell? ⟨b, bo + k, none⟩ from (by simp only [World.cell?, HI.out.2.block b (bl (by omega)) hb])).trans (HL.out k hlt)
      obtain ⟨x0, x1, x2⟩ := H1.out k hlt
      have o1 := HI.out.1.cell (j := off + k) (by omega)
      rw [addF_here] at o1
      have f1 := HI.out.1.frozen (off + k)
      have HS : RowKit.Hid (IFun (wr.setCell ⟨g, off + k, none⟩ (.int .i32 (tz (off + k) + l k))) g 21 .i32 N (addF tz l off (k + 1)) ∧ Keeps (· = g) w (wr.setCell ⟨g, off + k, none⟩ (.int .i32 (tz (off + k) + l k)))) :=
        ⟨IFun.ext (HI.out.1.set (j := off + k) (by omega) (tz (off + k) + l k)) fun i _ => addF_next _ _ _ k i, HI.out.2.setCell (p := ⟨g, off + k, none⟩) (.inl rfl) _⟩
      generalize tz (off + k) = x at o1 x0 x2 HS
      generalize l k = y at k1 x1 x2 HS
      have l1 : (k : Int) < (n : Int) := by omega
      have l2 : (k : Int) < (len : Int) := by omega
      have y0 : -2147483647 ≤ x + y := by omega
      have y1 : x + y ≤ 2147483647 := by omega
      clear HI x0 x1 x2
      go_wp2
      go_roundw
      case rel => exact ⟨k + 1, by omega, by go_num, HS.out⟩
      case measure => simp [intOf] <;> omega
    · obtain rfl : k = n := by omega
      have Z := Lib.hid HI.out
      go_wp2
      go_end0
      exact ⟨rfl, Z.out.1, Z.out.2⟩
def smpP (x : Int) : Int := satP (rndP x 4) 16
theorem smpP_bd (x : Int) : -32768 ≤ smpP x ∧ smpP x ≤ 32767 := by
  unfold smpP
  rw [satP_in (by decide) (by decide), show P2 ((16 : Int).toNat - 1) = 32768 by decide]
  split
  · omega
  · split <;> omega
theorem info_i169 : (Tryz.prog.info? 77).map (fun i => (i.zero, i.size, i.bytes)) = some (some (.int .i16 0), 1, 2) := by kernel_rfl
set_option maxRecDepth 100000 in
theorem ovSamples_any (N cap b off : Nat) (x : Nat → Int) (w : World) (h2 : N ≤ 1000) (hc : ∀ j, j < N → w.cell? ⟨b, off + j, none⟩ = some (.int .i32 (x j))) (hbl : b < w.heap.size) (hb : ∀ j, j < N → (x j).natAbs ≤ 2147483647) :
    Calls Tryz.prog 141 #[.slice (some ⟨b, off, none⟩) N cap] w (RowPost .i16 77 N (fun i => smpP (x i)) w) := by
  have HC := Lib.hid hc
  have HB := Lib.hid hb
  have hmk : ∀ w : World, (Instr.makeSlice 22 (.int .i64 (N : Int)) (.int .i64 (N : Int))).run Tryz.prog w = .ok (.slice (some ⟨w.heap.size, 0, none⟩) N N) (w.alloc (.cells (madeCells #[.int .i16 0] N) 77)) :=
    fun w => make_zeros (P := Tryz.prog) Tryz.underlying22 info_i169 N (by omega) (by omega) w
  have H0 : RowKit.Hid (IFun (w.alloc (.cells (madeCells #[.int .i16 0] N) 77)) w.heap.size 77 .i16 N (upTo (fun i => smpP (x i)) (fun _ => 0) 0) ∧ Below w.heap.size w (w.alloc (.cells (madeCells #[.int .i16 0] N) 77))) :=
    ⟨IFun.ext (IFun.zeros w 77 .i16 N) fun j _ => (upTo_start (fun i => smpP (x i)) (fun _ => 0) j).symm, Below.alloc_new w _⟩
  clear hc hb
  go_enter Tryz.func141, Tryz.ntmps141
  go_wp2
  clear hmk
  generalize hg : w.heap.size = g at H0 hbl ⊢
  generalize (w.alloc (.cells (madeCells #[.int .i16 0] N) 77)) = w1 at H0 ⊢
  go_loopw [11] (fun i wr => ∃ k : Nat, k ≤ N ∧ i = .int .i64 (k : Int) ∧ RowKit.Hid (IFun wr g 77 .i16 N (upTo (fun i => smpP (x i)) (fun _ => 0) k) ∧ Below g w wr)) (fun i _ => N - (intOf i).toNat)
  case atStart => exact ⟨0, by omega, rfl, H0.out⟩
  case round =>
    obtain ⟨k, hk, rfl, HI⟩ := hrel
    clear H0
    by_cases hlt : k < N
    · have k1 := (HI.out.2.cell (p := ⟨b, off + k, none⟩) hbl).trans (HC.out k hlt)
      have hx := HB.out k hlt
      have o1 := HI.out.1.cell (j := k) (by omega)
      have f1 := HI.out.1.frozen k
      have HS : RowKit.Hid (IFun (wr.setCell ⟨g, k, none⟩ (.int .i16 (smpP (x k)))) g 77 .i16 N (upTo (fun i => smpP (x i)) (fun _ => 0) (k + 1)) ∧ Below g w (wr.setCell ⟨g, k, none⟩ (.int .i16 (smpP (x k))))) :=
        ⟨IFun.ext (HI.out.1.set (j := k) (by omega) (smpP (x k))) fun j _ => upTo_next (fun i => smpP (x i)) _ k j, Below.setCell (p := ⟨g, k, none⟩) HI.out.2 (Nat.le_refl _) _⟩
      generalize upTo (fun i => smpP (x i)) (fun _ => 0) k k = old at o1
      generalize x k = xk at k1 hx HS
      have HR : RowKit.Hid (satP (rndP xk 4) 16 = smpP xk) := rfl
      have hy := smpP_bd xk
      have hr := rnd4 xk
      generalize smpP xk = y at HS HR hy
      obtain ⟨r, hrr⟩ : ∃ r, r = rndP xk 4 := ⟨_, rfl⟩
      have HRR := Lib.hid hrr.symm
      rw [← hrr] at HR hr
      clear hrr
      have l1 : (k : Int) < (N : Int) := by omega
      have x0 : -2147483648 ≤ xk := by omega
      have x1 : xk ≤ 2147483647 := by omega
      obtain ⟨y0, y1⟩ := hy
      have g1 : IntKind.i16.wrap y = y := IntWalk.i16_in _ (by omega)
      have r0 : -9223372036854775808 ≤ r := by omega
      have r1 : r ≤ 9223372036854775807 := by omega
      go_wp2_with (first | (go_at_call 172; refine (wide32_any xk _ x0 x1).mono ?_; rintro e w' ⟨rfl, rfl⟩) | (go_at_call 171; refine (round_any xk 4 _ (by omega) (by omega)).mono ?_; rintro e w' ⟨rfl, rfl⟩; rw [HRR.out]) | (go_at_call 175; refine (sat_any r 16 _ r0 r1).mono ?_; rintro e w' ⟨rfl, rfl⟩; rw [HR.out]))
      go_roundw
      case rel => exact ⟨k + 1, by omega, by go_num, HS.out⟩
      case measure => simp [intOf] <;> omega
    · obtain rfl : k = N := by omega
      have Z : RowKit.Hid (IFun wr g 77 .i16 k (fun i => smpP (x i)) ∧ Below g w wr) := ⟨IFun.ext HI.out.1 fun i hi => upTo_end (fun i => smpP (x i)) _ k i hi, HI.out.2⟩
      go_wp2
      go_ret
      exact ⟨g, rfl, Z.out.1, by omega, by rw [hg]; exact Z.out.2⟩
def allF (ah f : Nat → Int) (i : Nat) : Int := (if i < 128 then ah i else f (i - 128)) * 16
theorem tab_snoc (f : Nat → Int) (n : Nat) (x : Int) (h : f n = x) : (tabF n f ++ [x]) = tabF (n + 1) f := by rw [tabF_snoc, h]
def AllPost (f : Nat → Int) (w : World) (e : Ending) (w' : World) : Prop := ∃ v, e = .returned v ∧ w'.ownsRow w.heap.size 21 1 v 640 ((tabF 640 f).map (Value.int .i32)) ∧ Below w.heap.size w w'
theorem ahead_info : (Tryz.prog.info? 170).map (·.size) = some 128 := (zero_of_info (t := 170) (v := .agg (List.replicate 128 (Value.int .i16 0)).toArray) (n := 128) (by kernel_rfl)).2
theorem make_room {P : Program} {t e : TypeId} {k : IntKind} {b : Nat} (ht : P.underlying t = some (.slice e)) (hi : (P.info? e).map (fun i => (i.zero, i.size, i.bytes)) = some (some (.int k 0), 1, b))
    (n : Int) (c : Nat) (hn0 : n = c) (hb : b * c ≤ 281474976710656) (hn : c ≤ 9223372036854775807) (w : World) :
    (Instr.makeSlice t (.int .i64 0) (.int .i64 n)).run P w = .ok (.slice (some ⟨w.heap.size, 0, none⟩) 0 c) (w.alloc (.cells (madeCells #[.int k 0] c) e)) := by
  subst hn0
  obtain ⟨i, h1, h2, h3, h4⟩ := info_parts hi
  have hb' : (i.bytes : Int) * (c : Int) ≤ 281474976710656 := by
    have h : ((i.bytes * c : Nat) : Int) ≤ 281474976710656 := by rw [h4]; omega
    rwa [Int.natCast_mul] at h
  have hr := run_make (P := P) w t e i (.int k 0) ht h1 h2 .i64 .i64 0 c (by omega) (by omega) hb' (by omega)
  simpa [h3, Value.cells] using hr
set_option maxRecDepth 100000 in
theorem index_128 (zs : List Int) (k : Nat) (hk : k < 128) (hz : zs.length = 128) (w : World) : (Instr.index 170 (.agg (zs.map (Value.int .i16)).toArray) (.int .i64 (k : Int))).run Tryz.prog w = .ok (.int .i16 (zs.getD k 0)) w := by
  have hu := Tryz.underlying170
  have he := Tryz.underlying77
  obtain ⟨i, h3, _, h5, _⟩ := info_parts info_i169
  have h1 : 0 ≤ (k : Int) ∧ (k : Int) < ((128 : Nat) : Int) := by omega
  have h4 : (zs.map (Value.int .i16)).toArray[k]? = some (.int .i16 (zs.getD k 0)) := by simp [List.getD, show k < zs.length by omega]
  generalize (zs.map (Value.int .i16)).toArray = A at h4 ⊢
  simp only [Instr.index, asIntOf, Sem.run_bind, Sem.run_pure, Result.andThen_ok, run_underlying hu]
  rw [if_pos h1]
  simp only [part, isAgg, sizeOf, typeInfo, Sem.run_bind, Sem.run_pure, Result.andThen_ok, run_underlying he]
  simp [h3, h5, h4]
set_option maxRecDepth 100000 in
theorem ovAll_any (a c p q b cap : Nat) (ah f : Nat → Int) (w : World) (hA : OvAt 172 .i16 w a c p q ah) (hf : IFun w b 77 .i16 512 f)
    (h0 : ∀ j, j < 128 → -32768 ≤ ah j ∧ ah j ≤ 32767) (h1 : ∀ j, j < 512 → -32768 ≤ f j ∧ f j ≤ 32767) :
    Calls Tryz.prog 125 #[.pointer (some ⟨a, 0, none⟩), .slice (some ⟨b, 0, none⟩) 512 cap] w (AllPost (allF ah f) w) := by
  obtain ⟨L, hL⟩ : ∃ L, L = tabF 128 ah := ⟨_, rfl⟩
  have hRA : RowKit.Hid (w.rangeAt a 3 (L.map (Value.int .i16))) := fun j v hv => by
    rw [hL] at hv
    have hj : j < 128 := by have := (List.getElem?_eq_some_iff.1 hv).1; simpa [tabF] using this
    rw [hA.at_ hj]
    have : ((tabF 128 ah).map (Value.int .i16))[j]? = some (.int .i16 (ah j)) := by simp [tabF, hj]
    rw [this] at hv; exact hv
  have HLL : RowKit.Hid (L.length = 128) := by rw [hL]; exact tabF_len _ _
  have HLg : RowKit.Hid (∀ j, j < 128 → L.getD j 0 = ah j) := fun j hj => by rw [hL, tabF_getD _ hj]
  clear hL
  obtain ⟨V, hV⟩ : ∃ V, V = L.map (Value.int .i16) := ⟨_, rfl⟩
  have HVI : RowKit.Hid (∀ (k : Nat), k < 128 → ∀ w : World, (Instr.index 170 (.agg V.toArray) (.int .i64 (k : Int))).run Tryz.prog w = .ok (.int .i16 (ah k)) w) := fun k hk w => by
    rw [hV, index_128 L k hk HLL.out w, HLg.out k hk]
  have HVL : RowKit.Hid ((Tryz.prog.info? 170).map (·.size) = some V.length) := by rw [hV, List.length_map, HLL.out]; exact ahead_info
  rw [← hV] at hRA
  have Hb := Lib.hid hf.lt
  have HF := Lib.hid hf
  have HA0 := Lib.hid h0
  have HA1 := Lib.hid h1
  have al := hA.1.lt
  have bl := hf.lt
  clear hV HLL HLg h0 h1 hf hA
  have hmk := fun w => make_room (P := Tryz.prog) Tryz.underlying118 info_i32b 640 640 rfl (by decide) (by decide) w
  have hsz : (madeCells #[Value.int .i32 0] 640).size = 640 * 1 := by rw [size_madeCells]
  have HO0 := Lib.hid (World.ownsRow_made (base := w.heap.size) (e := 21) (size := 1) w (madeCells #[Value.int .i32 0] 640) 640 (Nat.le_refl _) (by unfold maxLen; omega) hsz)
  have HB0 := Lib.hid (Below.alloc_new w (.cells (madeCells #[Value.int .i32 0] 640) 21))
  have HR1 := Lib.hid (show (w.alloc (.cells (madeCells #[Value.int .i32 0] 640) 21)).rangeAt a 3 V from World.rangeAt_alloc hRA.out _)
  clear hsz
  generalize madeCells #[Value.int .i32 0] 640 = mc at hmk HO0 HB0 HR1
  go_enter Tryz.func125, Tryz.ntmps125
  go_wp2_with (refine wpList_load_mid rfl 170 _ rfl a 3 rfl V _ HR1.out Tryz.underlying170 rfl HVL.out ?_)
  have H0 : RowKit.Hid ((w.alloc (.cells mc 21)).ownsRow w.heap.size 21 1 (.slice (some ⟨w.heap.size, 0, none⟩) 0 640) 0 ((tabF 0 (allF ah f)).map (Value.int .i32)) ∧ Below w.heap.size w (w.alloc (.cells mc 21))) := ⟨HO0.out, HB0.out⟩
  clear HO0 HB0 HR1 hmk
  generalize (w.alloc (.cells mc 21)) = w1 at H0 ⊢
  go_loopw [5, 15] (fun v i wr => ∃ k : Nat, k ≤ 128 ∧ i = .int .i64 (k : Int) ∧ RowKit.Hid (wr.ownsRow w.heap.size 21 1 v k ((tabF k (allF ah f)).map (Value.int .i32)) ∧ Below w.heap.size w wr)) (fun _ i _ => 128 - (intOf i).toNat)
  case atStart => exact ⟨0, by omega, rfl, H0.out⟩
  case round =>
    obtain ⟨k, hk, rfl, H⟩ := hrel
    clear H0
    have hsz := H.out.2.size
    by_cases hlt : k < 128
    · have hidx := HVI.out k hlt
      obtain ⟨x0, x1⟩ := HA0.out k hlt
      have HE : RowKit.Hid (tabF k (allF ah f) ++ [ah k * 16] = tabF (k + 1) (allF ah f)) := tab_snoc _ _ _ (by unfold allF; rw [if_pos hlt])
      generalize ah k = x at hidx x0 x1 HE
      have l1 : (k : Int) < 128 := by omega
      have HA := Lib.hid (World.ownsRow.alloc H.out.1 (.cells #[.int .i32 (x * 16)] 21))
      have HAB := Lib.hid (H.out.2.alloc hsz (.cells #[.int .i32 (x * 16)] 21))
      have hsrc := Lib.hid (lit_ints wr 21 .i32 [x * 16] #[.int .i32 (x * 16)] (0, 0) rfl (by simp))
      go_wp2_with (at_builtin; go_loud (refine append_ints rfl _ _ 118 rfl w.heap.size 21 .i32 4 Tryz.underlying118 info_i32b u5 k (tabF k (allF ah f)) rfl HA.out (some ⟨wr.heap.size, 0, none⟩) 1 1 _ [x * 16] rfl hsrc.out (by simp) (by unfold maxLen; omega) (by omega) (by simp; omega) ?_); intro v1 w2 hown hgrow _; have HO : RowKit.Hid (w2.ownsRow w.heap.size 21 1 v1 (k + 1) ((tabF (k + 1) (allF ah f)).map (Value.int .i32))) := (by rw [← HE.out]; exact hown); have HB1 : RowKit.Hid (Below w.heap.size w w2) := HAB.out.grown hgrow (by simp; omega) (own_base HA.out); clear hown hgrow)
      go_roundw
      case rel => exact ⟨k + 1, by omega, by go_num, HO.out, HB1.out⟩
      case measure => simp [intOf] <;> omega
    · have l1 : ¬ (k : Int) < 128 := by omega
      have H2 : RowKit.Hid (wr.ownsRow w.heap.size 21 1 u5 (128 + 0) ((tabF (128 + 0) (allF ah f)).map (Value.int .i32)) ∧ Below w.heap.size w wr) := by
        have := H.out
        rw [show k = 128 + 0 by omega] at this
        exact this
      clear HVI HVL hRA HA0 H hk hlt hsz
      go_wp2
      go_loopw [5, 27] (fun v i wr => ∃ k : Nat, k ≤ 512 ∧ i = .int .i64 (k : Int) ∧ RowKit.Hid (wr.ownsRow w.heap.size 21 1 v (128 + k) ((tabF (128 + k) (allF ah f)).map (Value.int .i32)) ∧ Below w.heap.size w wr)) (fun _ i _ => 512 - (intOf i).toNat)
      case atStart => exact ⟨0, by omega, rfl, H2.out⟩
      case round =>
        obtain ⟨j, hj, rfl, HH⟩ := hrel
        clear H2
        have hsz := HH.out.2.size
        by_cases hlt : j < 512
        · have k1 := (HH.out.2.cell (p := ⟨b, j, none⟩) bl).trans (HF.out.cell hlt)
          obtain ⟨x0, x1⟩ := HA1.out j hlt
          have HE : RowKit.Hid (tabF (128 + j) (allF ah f) ++ [f j * 16] = tabF (128 + j + 1) (allF ah f)) := tab_snoc _ _ _ (by unfold allF; rw [if_neg (by omega), show 128 + j - 128 = j by omega])
          generalize f j = x at k1 x0 x1 HE
          have l1 : (j : Int) < 512 := by omega
          have HA := Lib.hid (World.ownsRow.alloc HH.out.1 (.cells #[.int .i32 (x * 16)] 21))
          have HAB := Lib.hid (HH.out.2.alloc hsz (.cells #[.int .i32 (x * 16)] 21))
          have hsrc := Lib.hid (lit_ints wr 21 .i32 [x * 16] #[.int .i32 (x * 16)] (0, 0) rfl (by simp))
          go_wp2_with (at_builtin; go_loud (refine append_ints rfl _ _ 118 rfl w.heap.size 21 .i32 4 Tryz.underlying118 info_i32b u5 (128 + j) (tabF (128 + j) (allF ah f)) rfl HA.out (some ⟨wr.heap.size, 0, none⟩) 1 1 _ [x * 16] rfl hsrc.out (by simp) (by unfold maxLen; omega) (by omega) (by simp; omega) ?_); intro v1 w2 hown hgrow _; have HO : RowKit.Hid (w2.ownsRow w.heap.size 21 1 v1 (128 + j + 1) ((tabF (128 + j + 1) (allF ah f)).map (Value.int .i32))) := (by rw [← HE.out]; exact hown); have HB1 : RowKit.Hid (Below w.heap.size w w2) := HAB.out.grown hgrow (by simp; omega) (own_base HA.out); clear hown hgrow)
          go_roundw
          case rel => exact ⟨j + 1, by omega, by go_num, by rw [← Nat.add_assoc]; exact HO.out, HB1.out⟩
          case measure => simp [intOf] <;> omega
        · obtain rfl : j = 512 := by omega
          have Z := Lib.hid HH.out
          go_wp2
          go_ret
          exact ⟨_, rfl, Z.out.1, Z.out.2⟩
end Go.Proofs.YtmgfkdmjgjlkjaaGreat

namespace Go.Proofs.YtmgfkdmjgjlkjaaGreat
open Go.RowKit
set_option linter.unusedVariables false
theorem Keeps.setRow1 {w : World} {g : Nat} (cs : Array Value) : Keeps (· = g) w (w.setRow g cs) :=
  ⟨rfl, rfl, rfl, by simp [World.setRow], fun k _ hn => setRow_other w g k cs hn⟩
theorem step_copy_cells {P : Program} {ops : Array Oper} {o : Oper} {a : Act} {w : World} {K : Act → World → Prop} {Q : Exit → Act → World → Prop} {E : Prop} (hgd : o.guard = none) (d s : Operand) (dT sT : TypeId)
    (ho : o.op = .call { callee := .builtin .copy, args := #[d, s], argTypes := #[dT, sT] }) (elem : TypeId) (hu : P.underlying dT = some (.slice elem)) (hsz : (P.info? elem).map (·.size) = some 1)
    (g off dLen dCap : Nat) (ad : Addr) (sLen sCap : Nat) (hd : a.eval d = .slice (some ⟨g, off, none⟩) dLen dCap) (hs : a.eval s = .slice (some ad) sLen sCap)
    (cur : List Value) (t : TypeId) (hg : Cel w g t cur.toArray) (cs : List Value) (hn : cs.length = Nat.min sLen dLen)
    (hsrc : ∀ j v, cs[j]? = some v → w.cell? (ad.add j) = some v) (hfit : off + cs.length ≤ cur.length) (h1 : ∀ v ∈ cs, v.oneCell' = true)
    (h : ∀ w', Hid (Cel w' g t (splice cur off cs).toArray) → Keeps (· = g) w w' → K (a.put o.dst (goInt cs.length)) w') :
    if Region.wanted o (yielded ops a.tmps) = true then Oper.wp P o a w K Q else E := by
  have hw : Region.wanted o (yielded ops a.tmps) = true := by simp [Region.wanted, hgd]
  rw [if_pos hw]
  have hrun := run_copy_row (P := P) w dT sT o.type elem g off dLen dCap ad sLen sCap cur.toArray t cs hu hsz hg hn hsrc (by simpa using hfit) h1
  unfold Oper.wp
  simp [execOp, ho, resolve, invoke, builtin, hd, hs, hrun, Result.andThen]
  exact h _ (show _ = _ by simpa [splice] using setRow_heap w g _ _ t _ hg) (Keeps.setRow1 _)
def cpyF (f l : Nat → Int) (off m i : Nat) : Int := if off ≤ i ∧ i < off + m then l (i - off) else f i
theorem splice_tab {k : IntKind} {n off m : Nat} (f l : Nat → Int) (h : off + m ≤ n) : splice ((tabF n f).map (Value.int k)) off ((tabF m l).map (Value.int k)) = (tabF n (cpyF f l off m)).map (Value.int k) := by
  apply List.ext_getElem?
  intro i
  have e1 : ∀ (N : Nat) (F : Nat → Int) (j : Nat), ((tabF N F).map (Value.int k))[j]? = if j < N then some (.int k (F j)) else none := by
    intro N F j
    by_cases hj : j < N
    · simp [tabF, hj]
    · simp [tabF, hj]
  unfold splice
  rw [e1, List.getElem?_append, List.getElem?_append, List.getElem?_take, List.getElem?_drop, e1, e1, e1]
  simp only [List.length_take, List.length_map, tabF_len]
  unfold cpyF
  rw [show min off n = off by omega]
  by_cases c1 : i < off
  · rw [if_pos c1, if_pos c1, if_pos (by omega), if_pos (by omega), if_neg (by omega)]
  · rw [if_neg c1]
    by_cases c2 : i - off < m
    · rw [if_pos c2, if_pos c2, if_pos (by omega), if_pos (by omega)]
    · rw [if_neg c2]
      by_cases c3 : i < n
      · rw [if_pos (by omega), if_pos c3, if_neg (by omega), show off + m + (i - off - m) = i by omega]
      · rw [if_neg (by omega), if_neg c3]
theorem tab_one {k : IntKind} {m : Nat} (l : Nat → Int) : ∀ v ∈ (tabF m l).map (Value.int k), v.oneCell' = true := by
  intro v hv
  obtain ⟨x, _, rfl⟩ := List.mem_map.1 hv
  rfl
theorem tab_src {w : World} {k : IntKind} {m b o : Nat} {l : Nat → Int} (h : ∀ j, j < m → w.cell? ⟨b, o + j, none⟩ = some (.int k (l j))) (j : Nat) (v : Value) (hv : ((tabF m l).map (Value.int k))[j]? = some v) : w.cell? ((⟨b, o, none⟩ : Addr).add j) = some v := by
  have hj : j < m := by have := (List.getElem?_eq_some_iff.1 hv).1; simpa [tabF] using this
  rw [Addr.add_mid, h j hj, ← hv]
  simp [tabF, hj]
theorem info_i32s : (Tryz.prog.info? 21).map (·.size) = some 1 := by
  obtain ⟨i, h1, _, h3, _⟩ := info_parts info_i32b
  rw [h1]; simp [h3]
theorem win_all (all : Nat → Int) (i : Nat) : cpyF (fun _ => 0) (shapeF 640 all) 192 640 i = winF all i := by
  unfold cpyF winF
  by_cases c1 : i < 192
  · rw [if_neg (by omega), if_pos c1]
  · rw [if_neg c1]
    by_cases c2 : i < 832
    · rw [if_pos (by omega), if_pos c2]
    · rw [if_neg (by omega), if_neg c2]
set_option maxRecDepth 100000 in
theorem ovLines_long (c p q cap : Nat) (a : Option Addr) (all : Nat → Int) (w : World) (hT : TlAt w c p q) (ha : FnAt w w.heap.size .i32 a 640 all) (hb : ∀ j, j < 640 → (all j).natAbs ≤ 524288) :
    Calls Tryz.prog 124 #[toolsV c p q, .slice a 640 cap, .bool false] w (RowsPost 512 (linesF false all) w) := by
  have HB := Lib.hid hb
  have HR0 := Lib.hid ((Cel.new w 168 #[.pointer (some ⟨c, 0, none⟩), .pointer (some ⟨p, 0, none⟩), .pointer (some ⟨q, 0, none⟩)]).alloc (.cells (madeCells #[.int .i32 0] 1024) 21))
  have HX0 : RowKit.Hid (IFun ((w.alloc (.cells #[.pointer (some ⟨c, 0, none⟩), .pointer (some ⟨p, 0, none⟩), .pointer (some ⟨q, 0, none⟩)] 168)).alloc (.cells (madeCells #[.int .i32 0] 1024) 21)) (w.heap.size + 1) 21 .i32 1024 (fun _ => 0)) := by
    have := IFun.zeros (w.alloc (.cells #[.pointer (some ⟨c, 0, none⟩), .pointer (some ⟨p, 0, none⟩), .pointer (some ⟨q, 0, none⟩)] 168)) 21 .i32 1024
    rw [alloc_size] at this
    exact this
  have HB0 := Lib.hid (chain (Below.alloc_new w (.cells #[.pointer (some ⟨c, 0, none⟩), .pointer (some ⟨p, 0, none⟩), .pointer (some ⟨q, 0, none⟩)] 168)) (Below.alloc_new _ (.cells (madeCells #[.int .i32 0] 1024) 21)))
  have HT0 := Lib.hid (hT.below HB0.out)
  have HA0 := Lib.hid (ha.now HB0.out)
  have hmk : ∀ w : World, (Instr.makeSlice 118 (.int .i64 1024) (.int .i64 1024)).run Tryz.prog w = .ok (.slice (some ⟨w.heap.size, 0, none⟩) 1024 1024) (w.alloc (.cells (madeCells #[.int .i32 0] 1024) 21)) :=
    fun w => make_zeros (P := Tryz.prog) Tryz.underlying118 info_i32 1024 (by decide) (by decide) w
  clear hT ha hb
  generalize madeCells #[Value.int .i32 0] 1024 = mc at HR0 HX0 HB0 HT0 HA0 hmk
  unfold toolsV
  go_enter Tryz.func124, Tryz.ntmps124
  go_wp2
  clear hmk
  generalize (w.alloc (.cells #[.pointer (some ⟨c, 0, none⟩), .pointer (some ⟨p, 0, none⟩), .pointer (some ⟨q, 0, none⟩)] 168)).alloc (.cells mc 21) = w2 at HR0 HX0 HB0 HT0 HA0 ⊢
  obtain ⟨r0, r1, r2⟩ := cel3 HR0.out
  have hRl := HR0.out.lt
  go_region_held3 (fun w' => w'.cell? ⟨w.heap.size, 0, none⟩ = some (.pointer (some ⟨c, 0, none⟩)) ∧ w'.cell? ⟨w.heap.size, 1, none⟩ = some (.pointer (some ⟨p, 0, none⟩)) ∧ w'.cell? ⟨w.heap.size, 2, none⟩ = some (.pointer (some ⟨q, 0, none⟩)))
    (go_keep)
    (first | (go_at_call 154; go_loud (refine (ovShape_any c p q 640 cap a all w2.drew HT0.out.1.2 (by decide) (by decide) HA0.out (fun j hj => by have := HB.out j hj; omega)).mono ?_); rintro e w3 ⟨g3, rfl, i3, s3, b3⟩; have HI3 := Lib.hid i3; have HR3 : RowKit.Hid (Cel w3 w.heap.size 168 #[.pointer (some ⟨c, 0, none⟩), .pointer (some ⟨p, 0, none⟩), .pointer (some ⟨q, 0, none⟩)]) := HR0.out.keep (b3.block _ hRl); have HX3 : RowKit.Hid (IFun w3 (w.heap.size + 1) 21 .i32 1024 (fun _ => 0)) := (show IFun w2.drew (w.heap.size + 1) 21 .i32 1024 (fun _ => 0) from HX0.out).below b3 HX0.out.lt; have HT3 : RowKit.Hid (TlAt w3 c p q) := (show TlAt w2.drew c p q from HT0.out).below b3; have HB3 : RowKit.Hid (Below w.heap.size w w3) := chain (show Below w.heap.size w w2.drew from Below.drewN' HB0.out 1) b3; obtain ⟨m0, m1, m2⟩ := cel3 HR3.out; clear i3 s3 b3) | (refine step_copy_cells (by rfl) _ _ _ _ (by rfl) 21 Tryz.underlying118 info_i32s (w.heap.size + 1) 192 832 832 ⟨g3, 0, none⟩ 640 640 (by rfl) (by rfl) _ 21 HX3.out ((tabF 640 (shapeF 640 all)).map (Value.int .i32)) (by rw [List.length_map, tabF_len]; rfl) (tab_src fun j hj => by rw [Nat.zero_add]; exact HI3.out.cell hj) (by rw [List.length_map, List.length_map, tabF_len, tabF_len]; decide) (tab_one _) ?_; intro w4 hx4 hk4; have HX4 : RowKit.Hid (IFun w4 (w.heap.size + 1) 21 .i32 1024 (winF all)) := (IFun.ext (f := cpyF (fun _ => 0) (shapeF 640 all) 192 640) (by have := hx4.out; rw [splice_tab _ _ (by decide)] at this; exact this) fun j _ => win_all all j); have HR4 : RowKit.Hid (Cel w4 w.heap.size 168 #[.pointer (some ⟨c, 0, none⟩), .pointer (some ⟨p, 0, none⟩), .pointer (some ⟨q, 0, none⟩)]) := HR3.out.keep (hk4.block _ HR3.out.lt (by show ¬ w.heap.size = w.heap.size + 1; omega)); have HT4 : RowKit.Hid (TlAt w4 c p q) := HT3.out.keeps HX3.out.cel.choose_spec (by decide) (by decide) hk4; have HB4 : RowKit.Hid (Below w.heap.size w w4) := HB3.out.trans (hk4.below HB3.out.size (fun k hk => by subst hk; omega)); obtain ⟨n0, n1, n2⟩ := cel3 HR4.out; clear hx4 hk4))
  have hAb : RowKit.Hid (∀ j, j < 1024 → -1048576 ≤ winF all j ∧ winF all j ≤ 1048575) := fun j _ => by have := winF_abs HB.out j; omega
  go_wp2_with (go_at_call 155; go_loud (refine (lapForward_any p c 512 1024 1024 _ (winF all) w4 HT4.out.1 (.inr rfl) rfl (FnAt.of_ifun HX4.out) hAb.out).mono ?_); rintro e w5 ⟨g5, rfl, i5, s5, b5⟩; have HI5 := Lib.hid i5; have S5 := Lib.hid s5; have HB5 := Lib.hid (chain HB4.out b5); clear i5 s5 b5)
  go_ret2
  exact ⟨g5, rfl, by rw [linesF_long]; exact HI5.out, Nat.le_trans HB4.out.size S5.out, HB5.out⟩
end Go.Proofs.YtmgfkdmjgjlkjaaGreat
