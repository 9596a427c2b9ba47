/- Plain facts, and what functions give, for the proofs of this seat: several texts in one, each with its own first remark. -/
import Derived.Test.YtmgfkdmjgjlkjaaGreatAG

namespace Go.Proofs.YtmgfkdmjgjlkjaaGreat
open Go Go.RowKit
set_option linter.unusedVariables false
set_option linter.unusedSimpArgs false
set_option maxHeartbeats 2000000 in
set_option maxRecDepth 100000 in
theorem cEncode_any (g a s x : Nat) (Q : Int) (B : Nat) (S : S13) (f : Nat → Int) (n : Int) (r : Bool) (w : World) (h : CodAt w g a s Q B S) (hS : S.Ok) (hq : 1 ≤ Q ∧ Q ≤ 10) (hB : 32 ≤ B ∧ B ≤ 600) (hf : IFun w x 77 .i16 512 f) (hb : ∀ i, i < 512 → -32768 ≤ f i ∧ f i ≤ 32767) (n0 : 0 ≤ n) (n1 : n ≤ 4294967295) :
    Calls Tryz.prog 29 #[.pointer (some ⟨g, 0, none⟩), .int .u32 n, .slice (some ⟨x, 0, none⟩) 512 512, .bool r] w (EncodePost g a s Q B S f n r w) := by
  obtain ⟨ca, pa, qa, cs, ps, qs, o, hv, h⟩ := h
  have H := Lib.hid h
  have HS := Lib.hid hS
  have HQ := Lib.hid hq
  have HB := Lib.hid hB
  have HX := Lib.hid hf
  have HXb := Lib.hid hb
  have HN := Lib.hid (And.intro n0 n1)
  clear h hS hq hB hf hb n0 n1
  obtain ⟨p0, hp0⟩ : ∃ p, p = peakQ f 0 := ⟨_, rfl⟩
  obtain ⟨p1, hp1⟩ : ∃ p, p = peakQ f 1 := ⟨_, rfl⟩
  obtain ⟨p2, hp2⟩ : ∃ p, p = peakQ f 2 := ⟨_, rfl⟩
  obtain ⟨p3, hp3⟩ : ∃ p, p = peakQ f 3 := ⟨_, rfl⟩
  obtain ⟨b, hb⟩ : ∃ b, b = briefF S.P f := ⟨_, rfl⟩
  have HP0 : RowKit.Hid (peakQ f 0 = p0) := hp0.symm
  have HP1 : RowKit.Hid (peakQ f 1 = p1) := hp1.symm
  have HP2 : RowKit.Hid (peakQ f 2 = p2) := hp2.symm
  have HP3 : RowKit.Hid (peakQ f 3 = p3) := hp3.symm
  have HBr : RowKit.Hid (briefB S.P p0 p1 p2 p3 = b) := by show _ = _; rw [hb, hp0, hp1, hp2, hp3]; rfl
  have HBb : RowKit.Hid (briefF S.P f = b) := hb.symm
  have HPb : RowKit.Hid ((0 ≤ S.P ∧ S.P ≤ 32768) ∧ (0 ≤ p0 ∧ p0 ≤ 32768) ∧ (0 ≤ p1 ∧ p1 ≤ 32768) ∧ (0 ≤ p2 ∧ p2 ≤ 32768)) := by
    rw [hp0, hp1, hp2]
    exact ⟨HS.out.P, peakQ_bd HXb.out (by decide), peakQ_bd HXb.out (by decide), peakQ_bd HXb.out (by decide)⟩
  clear hp0 hp1 hp2 hp3 hb
  go_enter Tryz.func29, Tryz.ntmps29
  go_wp2_with (go_at_call 59; go_loud (refine (cPeaks_any x 512 f w HX.out HXb.out).mono ?_); rintro e w1 ⟨rfl, b1⟩; have HB1 := Lib.hid b1; clear b1; unfold pkV; rw [HP0.out, HP1.out, HP2.out, HP3.out])
  have HC2 : RowKit.Hid (Cel (w1.alloc (.cells #[.int .i64 p0, .int .i64 p1, .int .i64 p2, .int .i64 p3] 116)) w1.heap.size 116 #[.int .i64 p0, .int .i64 p1, .int .i64 p2, .int .i64 p3]) := Cel.new w1 _ _
  have HB2 : RowKit.Hid (Below w.heap.size w (w1.alloc (.cells #[.int .i64 p0, .int .i64 p1, .int .i64 p2, .int .i64 p3] 116)) ∧ w.heap.size ≤ w1.heap.size) := ⟨chain HB1.out (Below.alloc_new w1 _), HB1.out.size⟩
  generalize (w1.alloc (.cells #[.int .i64 p0, .int .i64 p1, .int .i64 p2, .int .i64 p3] 116)) = w2 at HC2 HB2 ⊢
  generalize w1.heap.size = k at HC2 HB2 ⊢
  clear HB1
  have HE2 := Lib.hid (H.out.e.below HB2.out.1)
  have c24 : w2.cell? ⟨g, 4, none⟩ = some (.int .i64 S.P) := HE2.out.cell 4
  have c20 : w2.cell? ⟨k, 0, none⟩ = some (.int .i64 p0) := HC2.out.cell 0
  have c21 : w2.cell? ⟨k, 1, none⟩ = some (.int .i64 p1) := HC2.out.cell 1
  have c22 : w2.cell? ⟨k, 2, none⟩ = some (.int .i64 p2) := HC2.out.cell 2
  have c23 : w2.cell? ⟨k, 3, none⟩ = some (.int .i64 p3) := HC2.out.cell 3
  have ng2 : w2.heap.size ≠ g := Nat.ne_of_gt HE2.out.lt
  have nk2 : w2.heap.size ≠ k := Nat.ne_of_gt HC2.out.lt
  go_region_held3 (fun w' => w'.cell? ⟨g, 4, none⟩ = some (.int .i64 S.P) ∧ w'.cell? ⟨k, 0, none⟩ = some (.int .i64 p0) ∧ w'.cell? ⟨k, 1, none⟩ = some (.int .i64 p1) ∧ w'.cell? ⟨k, 2, none⟩ = some (.int .i64 p2) ∧ w'.cell? ⟨k, 3, none⟩ = some (.int .i64 p3)) (go_keep) (first
    | (go_at_call 61; have HW2 : RowKit.Hid (Below w.heap.size w w2.drew) := Below.drewN' HB2.out.1 1; have HP2 : RowKit.Hid (Cel w2.drew k 116 #[.int .i64 p0, .int .i64 p1, .int .i64 p2, .int .i64 p3]) := HC2.out; go_loud (refine (cBrief_any S.P p0 p1 p2 p3 w2.drew HPb.out.1 HPb.out.2.1 HPb.out.2.2.1 HPb.out.2.2.2).mono ?_); rintro e w3 ⟨rfl, b3⟩; rw [HBr.out]; have HC3 : RowKit.Hid (Cel w3 k 116 #[.int .i64 p0, .int .i64 p1, .int .i64 p2, .int .i64 p3]) := HP2.out.below b3; have HB3 : RowKit.Hid (Below w.heap.size w w3) := chain HW2.out b3; clear b3 HW2 HP2; have HE3 : RowKit.Hid (Cel w3 g 115 (codC Q B a s S.P (.slice (ahA o) (ahN o) (ahN o)) hv S.R)) := H.out.e.below HB3.out; have c34 : w3.cell? ⟨g, 4, none⟩ = some (.int .i64 S.P) := HE3.out.cell 4; have c30 : w3.cell? ⟨k, 0, none⟩ = some (.int .i64 p0) := HC3.out.cell 0; have c31 : w3.cell? ⟨k, 1, none⟩ = some (.int .i64 p1) := HC3.out.cell 1; have c32 : w3.cell? ⟨k, 2, none⟩ = some (.int .i64 p2) := HC3.out.cell 2; have c33 : w3.cell? ⟨k, 3, none⟩ = some (.int .i64 p3) := HC3.out.cell 3; have ng3 : w3.heap.size ≠ g := Nat.ne_of_gt HE3.out.lt; have nk3 : w3.heap.size ≠ k := Nat.ne_of_gt HC3.out.lt)
    | (go_at_call 61; have HW2 : RowKit.Hid (Below w.heap.size w (w2.drew.alloc (.cells #[.bool false, .int .i64 0, .slice none 0 0, .slice none 0 0, .slice none 0 0] 120))) := chain (Below.drewN' HB2.out.1 1) (Below.alloc_new w2.drew _); have HP2 : RowKit.Hid (Cel (w2.drew.alloc (.cells #[.bool false, .int .i64 0, .slice none 0 0, .slice none 0 0, .slice none 0 0] 120)) k 116 #[.int .i64 p0, .int .i64 p1, .int .i64 p2, .int .i64 p3]) := (show Cel w2.drew k _ _ from HC2.out).alloc _; go_loud (refine (cBrief_any S.P p0 p1 p2 p3 (w2.drew.alloc (.cells #[.bool false, .int .i64 0, .slice none 0 0, .slice none 0 0, .slice none 0 0] 120)) HPb.out.1 HPb.out.2.1 HPb.out.2.2.1 HPb.out.2.2.2).mono ?_); rintro e w3 ⟨rfl, b3⟩; rw [HBr.out]; have HC3 : RowKit.Hid (Cel w3 k 116 #[.int .i64 p0, .int .i64 p1, .int .i64 p2, .int .i64 p3]) := HP2.out.below b3; have HB3 : RowKit.Hid (Below w.heap.size w w3) := chain HW2.out b3; have HZ3 : RowKit.Hid (Cel w3 w2.heap.size 120 #[.bool false, .int .i64 0, .slice none 0 0, .slice none 0 0, .slice none 0 0]) := (show Cel (w2.drew.alloc (.cells #[.bool false, .int .i64 0, .slice none 0 0, .slice none 0 0, .slice none 0 0] 120)) w2.heap.size 120 #[.bool false, .int .i64 0, .slice none 0 0, .slice none 0 0, .slice none 0 0] from Cel.new w2.drew _ _).below b3; clear b3 HW2 HP2; have HE3 : RowKit.Hid (Cel w3 g 115 (codC Q B a s S.P (.slice (ahA o) (ahN o) (ahN o)) hv S.R)) := H.out.e.below HB3.out; have c34 : w3.cell? ⟨g, 4, none⟩ = some (.int .i64 S.P) := HE3.out.cell 4; have c30 : w3.cell? ⟨k, 0, none⟩ = some (.int .i64 p0) := HC3.out.cell 0; have c31 : w3.cell? ⟨k, 1, none⟩ = some (.int .i64 p1) := HC3.out.cell 1; have c32 : w3.cell? ⟨k, 2, none⟩ = some (.int .i64 p2) := HC3.out.cell 2; have c33 : w3.cell? ⟨k, 3, none⟩ = some (.int .i64 p3) := HC3.out.cell 3; have ng3 : w3.heap.size ≠ g := Nat.ne_of_gt HE3.out.lt; have nk3 : w3.heap.size ≠ k := Nat.ne_of_gt HC3.out.lt)
    | (go_at_call 60; have HZW := Lib.hid HZ3.out; have HBW : RowKit.Hid (Below w.heap.size w w3) := HB3.out; have HCW : RowKit.Hid (Cel w3 k 116 #[.int .i64 p0, .int .i64 p1, .int .i64 p2, .int .i64 p3]) := HC3.out; go_loud (refine (cFrame_any r S.fs b Q B g a s x ca pa qa S.P S.R B o hv S.al f S.ah w3 HQ.out HB.out (H.out.e.below HBW.out) (H.out.a.below HBW.out) (H.out.h.below HBW.out) (HX.out.below HBW.out HX.out.lt) HS.out.al HXb.out).mono ?_); rintro e w4 ⟨lb, c, o', rfl, f4, a4, k4⟩; have HF4 := Lib.hid f4; have HA4 := Lib.hid a4; have HK4 : RowKit.Hid (Keeps (· = a) w w4) := (Keeps.of_below HBW.out).trans k4; have HC4 : RowKit.Hid (Cel w4 k 116 #[.int .i64 p0, .int .i64 p1, .int .i64 p2, .int .i64 p3]) := HCW.out.keeps k4 (HCW.out.ne (H.out.a.below HBW.out).1 (by decide)); have HE4 : RowKit.Hid (Cel w4 g 115 (codC Q B a s S.P (.slice (ahA o) (ahN o) (ahN o)) hv S.R)) := H.out.e.keeps HK4.out (H.out.e.ne H.out.a.1 (by decide)); have c44 : w4.cell? ⟨g, 4, none⟩ = some (.int .i64 S.P) := HE4.out.cell 4; have c40 : w4.cell? ⟨k, 0, none⟩ = some (.int .i64 p0) := HC4.out.cell 0; have c41 : w4.cell? ⟨k, 1, none⟩ = some (.int .i64 p1) := HC4.out.cell 1; have c42 : w4.cell? ⟨k, 2, none⟩ = some (.int .i64 p2) := HC4.out.cell 2; have c43 : w4.cell? ⟨k, 3, none⟩ = some (.int .i64 p3) := HC4.out.cell 3; have HZ4 : RowKit.Hid (Cel w4 w2.heap.size 120 #[.bool false, .int .i64 0, .slice none 0 0, .slice none 0 0, .slice none 0 0]) := HZW.out.keeps k4 (HZW.out.ne (H.out.a.below HBW.out).1 (by decide)); have y0 : w4.cell? ⟨w2.heap.size, 0, none⟩ = some (.bool false) := HZ4.out.cell 0; have y1 : w4.cell? ⟨w2.heap.size, 1, none⟩ = some (.int .i64 0) := HZ4.out.cell 1; have y2 : w4.cell? ⟨w2.heap.size, 2, none⟩ = some (.slice none 0 0) := HZ4.out.cell 2; have y3 : w4.cell? ⟨w2.heap.size, 3, none⟩ = some (.slice none 0 0) := HZ4.out.cell 3; have y4 : w4.cell? ⟨w2.heap.size, 4, none⟩ = some (.slice none 0 0) := HZ4.out.cell 4; have x0 := HZ4.out.frozen 0; have x1 := HZ4.out.frozen 1; have x2 := HZ4.out.frozen 2; have x3 := HZ4.out.frozen 3; have x4 := HZ4.out.frozen 4; have gne : w2.heap.size ≠ g := HZ4.out.ne HE4.out (by decide); have kne : w2.heap.size ≠ k := HZ4.out.ne HC4.out (by decide); have HQ4 : RowKit.Hid (w.heap.size ≤ w2.heap.size) := HB2.out.1.size; clear f4 a4 k4 HBW HCW HZW)
    | (go_at_call 60; have HBW : RowKit.Hid (Below w.heap.size w w3) := HB3.out; have HCW : RowKit.Hid (Cel w3 k 116 #[.int .i64 p0, .int .i64 p1, .int .i64 p2, .int .i64 p3]) := HC3.out; go_loud (refine (cFrame_any r S.fs b Q B g a s x ca pa qa S.P S.R B o hv S.al f S.ah w3 HQ.out HB.out (H.out.e.below HBW.out) (H.out.a.below HBW.out) (H.out.h.below HBW.out) (HX.out.below HBW.out HX.out.lt) HS.out.al HXb.out).mono ?_); rintro e w4 ⟨lb, c, o', rfl, f4, a4, k4⟩; have HF4 := Lib.hid f4; have HA4 := Lib.hid a4; have HK4 : RowKit.Hid (Keeps (· = a) w w4) := (Keeps.of_below HBW.out).trans k4; have HC4 : RowKit.Hid (Cel w4 k 116 #[.int .i64 p0, .int .i64 p1, .int .i64 p2, .int .i64 p3]) := HCW.out.keeps k4 (HCW.out.ne (H.out.a.below HBW.out).1 (by decide)); have HE4 : RowKit.Hid (Cel w4 g 115 (codC Q B a s S.P (.slice (ahA o) (ahN o) (ahN o)) hv S.R)) := H.out.e.keeps HK4.out (H.out.e.ne H.out.a.1 (by decide)); have c44 : w4.cell? ⟨g, 4, none⟩ = some (.int .i64 S.P) := HE4.out.cell 4; have c40 : w4.cell? ⟨k, 0, none⟩ = some (.int .i64 p0) := HC4.out.cell 0; have c41 : w4.cell? ⟨k, 1, none⟩ = some (.int .i64 p1) := HC4.out.cell 1; have c42 : w4.cell? ⟨k, 2, none⟩ = some (.int .i64 p2) := HC4.out.cell 2; have c43 : w4.cell? ⟨k, 3, none⟩ = some (.int .i64 p3) := HC4.out.cell 3; have gne : w4.heap.size ≠ g := Nat.ne_of_gt HE4.out.lt; have kne : w4.heap.size ≠ k := Nat.ne_of_gt HC4.out.lt; clear f4 a4 k4 HBW HCW)
    | (go_at_call 60; have HZW : RowKit.Hid (Cel (w3.alloc (.cells #[.bool false, .int .i64 0, .slice none 0 0, .slice none 0 0, .slice none 0 0] 120)) w3.heap.size 120 #[.bool false, .int .i64 0, .slice none 0 0, .slice none 0 0, .slice none 0 0]) := Cel.new w3 _ _; have HBW : RowKit.Hid (Below w.heap.size w (w3.alloc (.cells #[.bool false, .int .i64 0, .slice none 0 0, .slice none 0 0, .slice none 0 0] 120))) := chain HB3.out (Below.alloc_new w3 _); have HCW : RowKit.Hid (Cel (w3.alloc (.cells #[.bool false, .int .i64 0, .slice none 0 0, .slice none 0 0, .slice none 0 0] 120)) k 116 #[.int .i64 p0, .int .i64 p1, .int .i64 p2, .int .i64 p3]) := HC3.out.alloc _; go_loud (refine (cFrame_any r S.fs b Q B g a s x ca pa qa S.P S.R B o hv S.al f S.ah (w3.alloc (.cells #[.bool false, .int .i64 0, .slice none 0 0, .slice none 0 0, .slice none 0 0] 120)) HQ.out HB.out (H.out.e.below HBW.out) (H.out.a.below HBW.out) (H.out.h.below HBW.out) (HX.out.below HBW.out HX.out.lt) HS.out.al HXb.out).mono ?_); rintro e w4 ⟨lb, c, o', rfl, f4, a4, k4⟩; have HF4 := Lib.hid f4; have HA4 := Lib.hid a4; have HK4 : RowKit.Hid (Keeps (· = a) w w4) := (Keeps.of_below HBW.out).trans k4; have HC4 : RowKit.Hid (Cel w4 k 116 #[.int .i64 p0, .int .i64 p1, .int .i64 p2, .int .i64 p3]) := HCW.out.keeps k4 (HCW.out.ne (H.out.a.below HBW.out).1 (by decide)); have HE4 : RowKit.Hid (Cel w4 g 115 (codC Q B a s S.P (.slice (ahA o) (ahN o) (ahN o)) hv S.R)) := H.out.e.keeps HK4.out (H.out.e.ne H.out.a.1 (by decide)); have c44 : w4.cell? ⟨g, 4, none⟩ = some (.int .i64 S.P) := HE4.out.cell 4; have c40 : w4.cell? ⟨k, 0, none⟩ = some (.int .i64 p0) := HC4.out.cell 0; have c41 : w4.cell? ⟨k, 1, none⟩ = some (.int .i64 p1) := HC4.out.cell 1; have c42 : w4.cell? ⟨k, 2, none⟩ = some (.int .i64 p2) := HC4.out.cell 2; have c43 : w4.cell? ⟨k, 3, none⟩ = some (.int .i64 p3) := HC4.out.cell 3; have HZ4 : RowKit.Hid (Cel w4 w3.heap.size 120 #[.bool false, .int .i64 0, .slice none 0 0, .slice none 0 0, .slice none 0 0]) := HZW.out.keeps k4 (HZW.out.ne (H.out.a.below HBW.out).1 (by decide)); have y0 : w4.cell? ⟨w3.heap.size, 0, none⟩ = some (.bool false) := HZ4.out.cell 0; have y1 : w4.cell? ⟨w3.heap.size, 1, none⟩ = some (.int .i64 0) := HZ4.out.cell 1; have y2 : w4.cell? ⟨w3.heap.size, 2, none⟩ = some (.slice none 0 0) := HZ4.out.cell 2; have y3 : w4.cell? ⟨w3.heap.size, 3, none⟩ = some (.slice none 0 0) := HZ4.out.cell 3; have y4 : w4.cell? ⟨w3.heap.size, 4, none⟩ = some (.slice none 0 0) := HZ4.out.cell 4; have x0 := HZ4.out.frozen 0; have x1 := HZ4.out.frozen 1; have x2 := HZ4.out.frozen 2; have x3 := HZ4.out.frozen 3; have x4 := HZ4.out.frozen 4; have gne : w3.heap.size ≠ g := HZ4.out.ne HE4.out (by decide); have kne : w3.heap.size ≠ k := HZ4.out.ne HC4.out (by decide); have HQ4 : RowKit.Hid (w.heap.size ≤ w3.heap.size) := HB3.out.size; clear f4 a4 k4 HBW HCW HZW)
    | fail)
  all_goals
    have HSy : RowKit.Hid (OvAt 175 .i32 w4 s cs ps qs S.left) := H.out.s.keeps H.out.a.1 (H.out.s.1.ne H.out.a.1 (by decide)) (by decide) (by decide) HK4.out
    first
      | (have KO : Keeps (· = w2.heap.size) w4 (((((w4.setCell ⟨w2.heap.size, 0, none⟩ (.bool b)).setCell ⟨w2.heap.size, 1, none⟩ (.int .i64 Q)).setCell ⟨w2.heap.size, 2, none⟩ (.slice (some ⟨lb, 0, none⟩) 512 512)).setCell ⟨w2.heap.size, 3, none⟩ (.slice (some ⟨c, 0, none⟩) 21 21)).setCell ⟨w2.heap.size, 4, none⟩ (.slice (ahA o') (ahN o') (ahN o'))) := ((((Keeps.set1 _).trans (Keeps.set1 _)).trans (Keeps.set1 _)).trans (Keeps.set1 _)).trans (Keeps.set1 _); have HM : RowKit.Hid (EcMid g a s ca pa qa cs ps qs k lb c o' (.slice (ahA o) (ahN o) (ahN o)) hv Q B S.P S.R S.left (mkFrm r S.fs b Q B S.al f S.ah) (fun j => f (384 + j)) #[.int .i64 p0, .int .i64 p1, .int .i64 p2, .int .i64 p3] w w2.heap.size (((((w4.setCell ⟨w2.heap.size, 0, none⟩ (.bool b)).setCell ⟨w2.heap.size, 1, none⟩ (.int .i64 Q)).setCell ⟨w2.heap.size, 2, none⟩ (.slice (some ⟨lb, 0, none⟩) 512 512)).setCell ⟨w2.heap.size, 3, none⟩ (.slice (some ⟨c, 0, none⟩) 21 21)).setCell ⟨w2.heap.size, 4, none⟩ (.slice (ahA o') (ahN o') (ahN o')))) := ec_mid HF4.out HA4.out HE4.out HC4.out HSy.out (ec_old HZ4.out KO).1 (ec_old HZ4.out KO).2 (show Cel (((((w4.setCell ⟨w2.heap.size, 0, none⟩ (.bool b)).setCell ⟨w2.heap.size, 1, none⟩ (.int .i64 Q)).setCell ⟨w2.heap.size, 2, none⟩ (.slice (some ⟨lb, 0, none⟩) 512 512)).setCell ⟨w2.heap.size, 3, none⟩ (.slice (some ⟨c, 0, none⟩) 21 21)).setCell ⟨w2.heap.size, 4, none⟩ (.slice (ahA o') (ahN o') (ahN o'))) w2.heap.size 120 (frC (mkFrm r S.fs b Q B S.al f S.ah) lb c o') from ((((HZ4.out.set_ 0 _).set_ 1 _).set_ 2 _).set_ 3 _).set_ 4 _) (HK4.out.then_ KO fun j hj => .inr (by rw [hj]; exact HQ4.out)); clear KO; generalize (((((w4.setCell ⟨w2.heap.size, 0, none⟩ (.bool b)).setCell ⟨w2.heap.size, 1, none⟩ (.int .i64 Q)).setCell ⟨w2.heap.size, 2, none⟩ (.slice (some ⟨lb, 0, none⟩) 512 512)).setCell ⟨w2.heap.size, 3, none⟩ (.slice (some ⟨c, 0, none⟩) 21 21)).setCell ⟨w2.heap.size, 4, none⟩ (.slice (ahA o') (ahN o') (ahN o'))) = W at HM ⊢; generalize w2.heap.size = q at HM ⊢)
      | (have KO : Keeps (· = w3.heap.size) w4 (((((w4.setCell ⟨w3.heap.size, 0, none⟩ (.bool b)).setCell ⟨w3.heap.size, 1, none⟩ (.int .i64 Q)).setCell ⟨w3.heap.size, 2, none⟩ (.slice (some ⟨lb, 0, none⟩) 512 512)).setCell ⟨w3.heap.size, 3, none⟩ (.slice (some ⟨c, 0, none⟩) 21 21)).setCell ⟨w3.heap.size, 4, none⟩ (.slice (ahA o') (ahN o') (ahN o'))) := ((((Keeps.set1 _).trans (Keeps.set1 _)).trans (Keeps.set1 _)).trans (Keeps.set1 _)).trans (Keeps.set1 _); have HM : RowKit.Hid (EcMid g a s ca pa qa cs ps qs k lb c o' (.slice (ahA o) (ahN o) (ahN o)) hv Q B S.P S.R S.left (mkFrm r S.fs b Q B S.al f S.ah) (fun j => f (384 + j)) #[.int .i64 p0, .int .i64 p1, .int .i64 p2, .int .i64 p3] w w3.heap.size (((((w4.setCell ⟨w3.heap.size, 0, none⟩ (.bool b)).setCell ⟨w3.heap.size, 1, none⟩ (.int .i64 Q)).setCell ⟨w3.heap.size, 2, none⟩ (.slice (some ⟨lb, 0, none⟩) 512 512)).setCell ⟨w3.heap.size, 3, none⟩ (.slice (some ⟨c, 0, none⟩) 21 21)).setCell ⟨w3.heap.size, 4, none⟩ (.slice (ahA o') (ahN o') (ahN o')))) := ec_mid HF4.out HA4.out HE4.out HC4.out HSy.out (ec_old HZ4.out KO).1 (ec_old HZ4.out KO).2 (show Cel (((((w4.setCell ⟨w3.heap.size, 0, none⟩ (.bool b)).setCell ⟨w3.heap.size, 1, none⟩ (.int .i64 Q)).setCell ⟨w3.heap.size, 2, none⟩ (.slice (some ⟨lb, 0, none⟩) 512 512)).setCell ⟨w3.heap.size, 3, none⟩ (.slice (some ⟨c, 0, none⟩) 21 21)).setCell ⟨w3.heap.size, 4, none⟩ (.slice (ahA o') (ahN o') (ahN o'))) w3.heap.size 120 (frC (mkFrm r S.fs b Q B S.al f S.ah) lb c o') from ((((HZ4.out.set_ 0 _).set_ 1 _).set_ 2 _).set_ 3 _).set_ 4 _) (HK4.out.then_ KO fun j hj => .inr (by rw [hj]; exact HQ4.out)); clear KO; generalize (((((w4.setCell ⟨w3.heap.size, 0, none⟩ (.bool b)).setCell ⟨w3.heap.size, 1, none⟩ (.int .i64 Q)).setCell ⟨w3.heap.size, 2, none⟩ (.slice (some ⟨lb, 0, none⟩) 512 512)).setCell ⟨w3.heap.size, 3, none⟩ (.slice (some ⟨c, 0, none⟩) 21 21)).setCell ⟨w3.heap.size, 4, none⟩ (.slice (ahA o') (ahN o') (ahN o'))) = W at HM ⊢; generalize w3.heap.size = q at HM ⊢)
      | (have HM : RowKit.Hid (EcMid g a s ca pa qa cs ps qs k lb c o' (.slice (ahA o) (ahN o) (ahN o)) hv Q B S.P S.R S.left (mkFrm r S.fs b Q B S.al f S.ah) (fun j => f (384 + j)) #[.int .i64 p0, .int .i64 p1, .int .i64 p2, .int .i64 p3] w w4.heap.size (w4.alloc (.cells #[.bool b, .int .i64 Q, .slice (some ⟨lb, 0, none⟩) 512 512, .slice (some ⟨c, 0, none⟩) 21 21, .slice (ahA o') (ahN o') (ahN o')] 120))) := ec_mid HF4.out HA4.out HE4.out HC4.out HSy.out (ec_new (Below.alloc_new w4 _)).1 (ec_new (Below.alloc_new w4 _)).2 (Cel.new w4 _ _) (HK4.out.trans (Keeps.of_below (Below.alloc_new w4 _))); generalize (w4.alloc (.cells #[.bool b, .int .i64 Q, .slice (some ⟨lb, 0, none⟩) 512 512, .slice (some ⟨c, 0, none⟩) 21 21, .slice (ahA o') (ahN o') (ahN o')] 120)) = W at HM ⊢; generalize w4.heap.size = q at HM ⊢)
    have HNE : RowKit.Hid (g ≠ a ∧ g ≠ s ∧ a ≠ s) := ⟨H.out.e.ne H.out.a.1 (by decide), H.out.e.ne H.out.s.1 (by decide), H.out.a.1.ne H.out.s.1 (by decide)⟩
    clear c44 c40 c41 c42 c43 c34 c30 c31 c32 c33 c24 c20 c21 c22 c23 gne kne ng2 nk2 ng3 nk3
    try clear y0 y1 y2 y3 y4 x0 x1 x2 x3 x4
    have q00 : W.cell? ⟨q, 0, none⟩ = some (.bool b) := HM.out.mf.cell 0
    have q01 : W.cell? ⟨q, 1, none⟩ = some (.int .i64 Q) := HM.out.mf.cell 1
    have q02 : W.cell? ⟨q, 2, none⟩ = some (.slice (some ⟨lb, 0, none⟩) 512 512) := HM.out.mf.cell 2
    have q03 : W.cell? ⟨q, 3, none⟩ = some (.slice (some ⟨c, 0, none⟩) 21 21) := HM.out.mf.cell 3
    have q04 : W.cell? ⟨q, 4, none⟩ = some (.slice (ahA o') (ahN o') (ahN o')) := HM.out.mf.cell 4
    have cB : W.cell? ⟨g, 1, none⟩ = some (.int .i64 B) := HM.out.me.cell 1
    go_wp2
    go_region_held3 (fun w' => w'.cell? ⟨q, 0, none⟩ = some (.bool b) ∧ w'.cell? ⟨q, 1, none⟩ = some (.int .i64 Q) ∧ w'.cell? ⟨q, 2, none⟩ = some (.slice (some ⟨lb, 0, none⟩) 512 512) ∧ w'.cell? ⟨q, 3, none⟩ = some (.slice (some ⟨c, 0, none⟩) 21 21) ∧ w'.cell? ⟨q, 4, none⟩ = some (.slice (ahA o') (ahN o') (ahN o')) ∧ w'.cell? ⟨g, 1, none⟩ = some (.int .i64 B)) (go_keep) (first
      | (go_at_call 62; go_loud (refine (cFit_any (mkFrm r S.fs b Q B S.al f S.ah) lb c o' B W.drew HM.out.drew.mF rfl).mono ?_); rintro e w5 ⟨r5, cp5, s5, rfl, i5, t5, b5⟩; have HI5 := Lib.hid i5; have HT5 := Lib.hid t5; have HM5 := Lib.hid (HM.out.drew.now b5); clear i5 t5 b5; have q50 : w5.cell? ⟨q, 0, none⟩ = some (.bool b) := HM5.out.mf.cell 0; have q51 : w5.cell? ⟨q, 1, none⟩ = some (.int .i64 Q) := HM5.out.mf.cell 1; have q52 : w5.cell? ⟨q, 2, none⟩ = some (.slice (some ⟨lb, 0, none⟩) 512 512) := HM5.out.mf.cell 2; have q53 : w5.cell? ⟨q, 3, none⟩ = some (.slice (some ⟨c, 0, none⟩) 21 21) := HM5.out.mf.cell 3; have q54 : w5.cell? ⟨q, 4, none⟩ = some (.slice (ahA o') (ahN o') (ahN o')) := HM5.out.mf.cell 4; have cB5 : w5.cell? ⟨g, 1, none⟩ = some (.int .i64 B) := HM5.out.me.cell 1)
      | fail)
    clear q00 q01 q02 q03 q04 cB
    go_wp2_with (go_at_call 63; go_loud (refine (cHear_any (mkFrm r S.fs b Q B S.al f S.ah) lb c s5 o' g a s cs ps qs Q B S.P S.R n _ hv S.left w5 HM5.out.mF HT5.out HM5.out.me HM5.out.ms HS.out.left HN.out.1 HN.out.2).mono ?_); rintro e w6 ⟨hd, rfl, e6, i6, o6, z6, k6⟩; have HE6 := Lib.hid e6; have HI6 := Lib.hid i6; have HO6 := Lib.hid o6; have HK6 := Lib.hid k6; have HQ6 : RowKit.Hid (Cel w6 q 120 (frC (mkFrm r S.fs b Q B S.al f S.ah) lb c o')) := HM5.out.mf.keeps k6 (by rintro (e | e); exact HM5.out.mf.ne HM5.out.me (by decide) e; exact HM5.out.mf.ne HM5.out.ms.1 (by decide) e); have HP6 : RowKit.Hid (Cel w6 k 116 #[.int .i64 p0, .int .i64 p1, .int .i64 p2, .int .i64 p3]) := HM5.out.mp.keeps k6 (by rintro (e | e); exact HM5.out.mp.ne HM5.out.me (by decide) e; exact HM5.out.mp.ne HM5.out.ms.1 (by decide) e); have gq : g ≠ q := e6.ne HQ6.out (by decide); have gk : g ≠ k := e6.ne HP6.out (by decide); clear e6 i6 o6 z6 k6; have q60 : w6.cell? ⟨q, 0, none⟩ = some (.bool b) := HQ6.out.cell 0; have q61 : w6.cell? ⟨q, 1, none⟩ = some (.int .i64 Q) := HQ6.out.cell 1; have q62 : w6.cell? ⟨q, 2, none⟩ = some (.slice (some ⟨lb, 0, none⟩) 512 512) := HQ6.out.cell 2; have q63 : w6.cell? ⟨q, 3, none⟩ = some (.slice (some ⟨c, 0, none⟩) 21 21) := HQ6.out.cell 3; have q64 : w6.cell? ⟨q, 4, none⟩ = some (.slice (ahA o') (ahN o') (ahN o')) := HQ6.out.cell 4; have y63 : w6.cell? ⟨k, 3, none⟩ = some (.int .i64 p3) := HP6.out.cell 3; have x4 : w6.cell? ⟨g, 4, none⟩ = some (.int .i64 S.P) := HE6.out.cell 4; have x5 : w6.cell? ⟨g, 5, none⟩ = some (.slice (ahA o) (ahN o) (ahN o)) := HE6.out.cell 5; have v4 := HE6.out.frozen 4; have v5 := HE6.out.frozen 5)
    clear q50 q51 q52 q53 q54 cB5
    go_region_held3 (fun w' => w'.cell? ⟨q, 3, none⟩ = some (.slice (some ⟨c, 0, none⟩) 21 21) ∧ w'.cell? ⟨k, 3, none⟩ = some (.int .i64 p3)) (go_keep) (fail)
    have HLn : RowKit.Hid (decide (ahN o' = 0) = (r || S.fs)) := HM5.out.mF.a.len
    have HLl := Lib.hid (ahN_le o')
    go_wp2_with (go_at_call 64; go_loud (refine (cWhole_any b Q (some ⟨lb, 0, none⟩) (some ⟨c, 0, none⟩) (ahA o') 512 512 21 21 (ahN o') (ahN o') _ (Nat.le_trans HLl.out (by decide))).mono ?_); rintro e w7 ⟨rfl, b7⟩; have HB7 := Lib.hid b7; clear b7; rw [HLn.out])
    go_ret3
    exact ec_end HBb.out HP3.out HM5.out HNE.out HE6.out HI6.out HO6.out HK6.out HI5.out (chain (Below.drewN' (Below.refl _ _) 1) HB7.out) rfl
end Go.Proofs.YtmgfkdmjgjlkjaaGreat

namespace Go.Proofs.YtmgfkdmjgjlkjaaGreat
open Go Go.RowKit
set_option linter.unusedVariables false
set_option linter.unusedSimpArgs false
theorem CodAt.below {w w' : World} {g a s : Nat} {Q : Int} {B : Nat} {S : S13} (h : CodAt w g a s Q B S) (b : Below w.heap.size w w') : CodAt w' g a s Q B S := by
  obtain ⟨ca, pa, qa, cs, ps, qs, o, hv, h⟩ := h
  refine ⟨ca, pa, qa, cs, ps, qs, o, hv, h.e.below b, h.a.below b, h.s.below b, h.h.below b, ?_⟩
  have hd := h.d
  cases hh : S.hd with
  | none => rw [hh] at hd; exact hd
  | some H => rw [hh] at hd; obtain ⟨r, e, i⟩ := hd; exact ⟨r, e, i.below b i.lt⟩
theorem CodAt.drewN {w : World} {g a s : Nat} {Q : Int} {B : Nat} {S : S13} (h : CodAt w g a s Q B S) (n : Nat) : CodAt (w.drewN n) g a s Q B S := h.below (Below.drewN' (Below.refl _ _) n)
theorem CodAt.keeps {w w' : World} {g a s : Nat} {Q : Int} {B : Nat} {S : S13} {F : Nat → Prop} (h : CodAt w g a s Q B S) (hk : Keeps F w w')
    (hF : ∀ j, F j → ∃ t cs, Cel w j t cs ∧ t ≠ 234 ∧ t ≠ 232 ∧ t ≠ 115 ∧ t ≠ 172 ∧ t ≠ 175 ∧ t ≠ 3 ∧ t ≠ 77) : CodAt w' g a s Q B S := by
  obtain ⟨ca, pa, qa, cs, ps, qs, o, hv, h⟩ := h
  have nt : ∀ {j : Nat} {t : TypeId} {vs : Array Value}, Cel w j t vs → (∀ t', (t' ≠ 234 ∧ t' ≠ 232 ∧ t' ≠ 115 ∧ t' ≠ 172 ∧ t' ≠ 175 ∧ t' ≠ 3 ∧ t' ≠ 77) → t ≠ t') → ¬ F j := by
    intro j t vs hc ht hf
    obtain ⟨t', cs', c', x⟩ := hF j hf
    exact hc.ne c' (ht t' x) rfl
  have ty : ∀ j, F j → ∃ t' vs, Cel w j t' vs ∧ t' ≠ 234 ∧ t' ≠ 232 := fun j hj => by
    obtain ⟨t', cs', c', x⟩ := hF j hj
    exact ⟨t', cs', c', x.1, x.2.1⟩
  refine ⟨ca, pa, qa, cs, ps, qs, o, hv, h.e.keeps hk (nt h.e fun t' x => (x.2.2.1).symm), h.a.keepsF hk (nt h.a.1 fun t' x => (x.2.2.2.1).symm) ty, h.s.keepsF hk (nt h.s.1 fun t' x => (x.2.2.2.2.1).symm) ty, h.h.keeps hk (fun r hr => nt hr fun t' x => (x.2.2.2.2.2.1).symm), ?_⟩
  have hd := h.d
  cases hh : S.hd with
  | none => rw [hh] at hd; exact hd
  | some H => rw [hh] at hd; obtain ⟨r, e, i⟩ := hd; exact ⟨r, e, Cel.keeps i hk (nt i fun t' x => (x.2.2.2.2.2.2).symm)⟩
def NewCPost (Q : Int) (B : Nat) (w : World) (e : Ending) (w' : World) : Prop :=
  ∃ g a s, e = .returned (.tuple #[.pointer (some ⟨g, 0, none⟩), .int .i64 0]) ∧ CodAt w' g a s Q B s13Zero ∧ w.heap.size ≤ g ∧ w.heap.size ≤ a ∧ w.heap.size ≤ s ∧ Below w.heap.size w w'
set_option maxRecDepth 100000 in
theorem cNew_any (Q : Int) (B : Nat) (w : World) (q0 : 1 ≤ Q) (q1 : Q ≤ 10) (b0 : 32 ≤ B) (b1 : B ≤ 600) : Calls Tryz.prog 28 #[.int .i64 Q, .int .i64 (B : Int)] w (NewCPost Q B w) := by
  have x0 : (32 : Int) ≤ (B : Int) := by omega
  have x1 : (B : Int) ≤ 600 := by omega
  clear b0 b1
  go_enter Tryz.func28, Tryz.ntmps28
  go_wp2_with (first
    | (go_at_call 57; go_loud (refine (newAnalyser_any _).mono ?_); rintro e w1 ⟨a, ca, pa, qa, rfl, o1, s1, b1⟩; have HO1 := Lib.hid o1; have HS1 := Lib.hid s1; have HB1 := Lib.hid b1; clear o1 s1 b1)
    | (go_at_call 58; go_loud (refine (newSynth_any _).mono ?_); rintro e w2 ⟨s, cs, ps, qs, rfl, o2, s2, b2⟩; have HO2 := Lib.hid o2; have HO1b := Lib.hid (HO1.out.below b2); have HS2 : RowKit.Hid (w.heap.size ≤ s) := Nat.le_trans HB1.out.size s2; have HB2 := Lib.hid (chain HB1.out b2); clear o2 s2 b2))
  go_ret2
  have ba := Below.alloc_new w2 (.cells (codC Q B a s 0 (.slice none 0 0) (.slice none 0 0) 0) 115)
  exact ⟨_, a, s, rfl, ⟨ca, pa, qa, cs, ps, qs, none, .slice none 0 0, Cel.new w2 _ _, HO1b.out.below ba, HO2.out.below ba, .inl ⟨rfl, rfl, rfl⟩, rfl⟩, HB2.out.size, HS1.out, HS2.out, chain HB2.out ba⟩
end Go.Proofs.YtmgfkdmjgjlkjaaGreat

namespace Go.Proofs.YtmgfkdmjgjlkjaaGreat
open Go Go.RowKit
set_option linter.unusedVariables false
set_option linter.unusedSimpArgs false
def mtC (c : Cfg) (rv ev : Value) (ep nu : Int) (tv : Value) : Array Value := #[.string c.path, .string c.name, .string c.pass, .string c.fall, .int .i64 c.q, .int .i64 c.b, .int .i64 c.p, .int .i64 c.r, .int .i64 c.e, rv, ev, .int .u32 ep, .int .u32 nu, tv]
def Dm (g r : Nat) (eb : List Nat) (X : Nat → Prop) (j : Nat) : Prop := j ≠ r ∧ j ≠ g ∧ j ∉ eb ∧ ¬ X j
def EnoAt (w : World) (c : Cfg) (ev : Value) (eb : List Nat) : Option S13 → Prop
  | none => ev = .pointer none ∧ eb = []
  | some S => ∃ ge ae se, ev = .pointer (some ⟨ge, 0, none⟩) ∧ eb = [ge, ae, se] ∧ CodAt w ge ae se c.q c.b.toNat S ∧ S.Ok
structure MtIn (w : World) (B g r : Nat) (eb : List Nat) (ev : Value) (a : Option Addr) (n cc : Nat) (nu : Int) (X : Nat → Prop) (c : Cfg) (ep : Int) (o : Option S13) (ps : List Pk) (T : List ByteArray) : Prop where
  ce : Cel w g 64 (mtC c (.pointer (some ⟨r, 0, none⟩)) ev ep nu (.slice a n cc))
  cr : RgAt w r c.r.toNat ps (Dm g r eb X)
  ck : EnoAt w c ev eb o
  ct : TxAt w a n cc T
  n5 : n ≤ 5
  cz : n = 0 → a = none
  cx : ∀ b off, a = some ⟨b, off, none⟩ → ¬ X b
  lo : B ≤ g ∧ B ≤ r ∧ ∀ j, j ∈ eb → B ≤ j
  nn : ∀ S, o = some S → nu = ps.length
  ok : c.Ok
def MtAt (w : World) (B g : Nat) (X : Nat → Prop) (c : Cfg) (ep : Int) (o : Option S13) (ps : List Pk) (T : List ByteArray) : Prop := ∃ r eb ev a n cc nu, MtIn w B g r eb ev a n cc nu X c ep o ps T
def MtF (w : World) (B j : Nat) : Prop := B ≤ j ∧ ∃ t, Typ19 w j t ∧ (t = 64 ∨ t = 130 ∨ t = 115 ∨ t = 172 ∨ t = 175)
def MtO (w : World) (X : Nat → Prop) (j : Nat) : Prop := X j ∧ ∃ t cs, Cel w j t cs ∧ t ≠ 234 ∧ t ≠ 232 ∧ t ≠ 115 ∧ t ≠ 172 ∧ t ≠ 175 ∧ t ≠ 3 ∧ t ≠ 77 ∧ t ≠ 64 ∧ t ≠ 130
section
variable {w w' : World} {B g r n cc : Nat} {eb : List Nat} {ev : Value} {a : Option Addr} {nu ep : Int} {X Y F : Nat → Prop} {c : Cfg} {o : Option S13} {ps : List Pk} {T : List ByteArray}
theorem TxAt.keepsB {F : Nat → Prop} (h : TxAt w a n cc T) (hk : Keeps F w w') (hF : ∀ b off, a = some ⟨b, off, none⟩ → ¬ F b) : TxAt w' a n cc T := by
  refine ⟨h.len, h.no, h.cap, ?_⟩
  rcases h.in_ with h0 | ⟨b, off, e, h2, h3, h4⟩
  · exact .inl h0
  · have hb := hk.block b h2.lt (hF b off e)
    exact .inr ⟨b, off, e, h2.keep hb, h3, fun j hj => (World.cell?_of_block (a := ⟨b, off + j, none⟩) hb).trans (h4 j hj)⟩
theorem EnoAt.keeps (h : EnoAt w c ev eb o) (hk : Keeps F w w')
    (hF : ∀ j, F j → ∃ t cs, Cel w j t cs ∧ t ≠ 234 ∧ t ≠ 232 ∧ t ≠ 115 ∧ t ≠ 172 ∧ t ≠ 175 ∧ t ≠ 3 ∧ t ≠ 77) : EnoAt w' c ev eb o := by
  cases o with
  | none => exact h
  | some S =>
    obtain ⟨ge, ae, se, h1, h2, h3, h4⟩ := h
    exact ⟨ge, ae, se, h1, h2, h3.keeps hk hF, h4⟩
theorem MtIn.keeps (h : MtIn w B g r eb ev a n cc nu X c ep o ps T) (hk : Keeps F w w') (hF : ∀ j, F j → MtO w X j) : MtIn w' B g r eb ev a n cc nu X c ep o ps T := by
  obtain ⟨rs, hr1, hr2⟩ := h.cr.c
  refine ⟨h.ce.keeps hk fun hf => ?_, h.cr.keeps hk fun j hj => ⟨fun hd => hd.2.2.2 (hF j hj).1, ?_⟩, h.ck.keeps hk fun j hj => ?_, h.ct.keepsB hk fun b off e hf => h.cx b off e (hF b hf).1, h.n5, h.cz, h.cx, h.lo, h.nn, h.ok⟩
  · obtain ⟨_, t, cs, hc, x⟩ := hF g hf
    exact h.ce.ne hc (fun e => x.2.2.2.2.2.2.2.1 e.symm) rfl
  · obtain ⟨_, t, cs, hc, x⟩ := hF j hj
    exact hc.ne hr1 x.2.2.2.2.2.2.2.2
  · obtain ⟨_, t, cs, hc, x⟩ := hF j hj
    exact ⟨t, cs, hc, x.1, x.2.1, x.2.2.1, x.2.2.2.1, x.2.2.2.2.1, x.2.2.2.2.2.1, x.2.2.2.2.2.2.1⟩
theorem MtIn.below (h : MtIn w B g r eb ev a n cc nu X c ep o ps T) (hb : Below w.heap.size w w') : MtIn w' B g r eb ev a n cc nu X c ep o ps T := h.keeps (F := fun _ => False) (.of_below hb) fun _ c => c.elim
theorem MtIn.weaken (h : MtIn w B g r eb ev a n cc nu X c ep o ps T) (hX : ∀ j, j < w.heap.size → Y j → X j) : MtIn w B g r eb ev a n cc nu Y c ep o ps T := by
  refine ⟨h.ce, h.cr.weaken (fun j hj hl => ⟨hj.1, hj.2.1, hj.2.2.1, fun hy => hj.2.2.2 (hX j hl hy)⟩) fun e => e.1 rfl, h.ck, h.ct, h.n5, h.cz, fun b off e hy => ?_, h.lo, h.nn, h.ok⟩
  rcases h.ct.in_ with h0 | ⟨b', off', e', h2, _⟩
  · rw [h.cz h0] at e
    cases e
  · rw [e] at e'
    injection e' with e'
    injection e' with e1 e2
    subst e1
    exact h.cx b off e (hX b h2.lt hy)
theorem MtAt.keeps (h : MtAt w B g X c ep o ps T) (hk : Keeps F w w') (hF : ∀ j, F j → MtO w X j) : MtAt w' B g X c ep o ps T := by
  obtain ⟨r, eb, ev, a, n, cc, nu, h⟩ := h
  exact ⟨r, eb, ev, a, n, cc, nu, h.keeps hk hF⟩
theorem MtAt.below (h : MtAt w B g X c ep o ps T) (hb : Below w.heap.size w w') : MtAt w' B g X c ep o ps T := h.keeps (F := fun _ => False) (.of_below hb) fun _ c => c.elim
theorem MtAt.weaken (h : MtAt w B g X c ep o ps T) (hX : ∀ j, j < w.heap.size → Y j → X j) : MtAt w B g Y c ep o ps T := by
  obtain ⟨r, eb, ev, a, n, cc, nu, h⟩ := h
  exact ⟨r, eb, ev, a, n, cc, nu, h.weaken hX⟩
theorem MtAt.lt (h : MtAt w B g X c ep o ps T) : g < w.heap.size := by
  obtain ⟨r, eb, ev, a, n, cc, nu, h⟩ := h
  exact h.ce.lt
theorem MtAt.ok (h : MtAt w B g X c ep o ps T) : c.Ok := by
  obtain ⟨r, eb, ev, a, n, cc, nu, h⟩ := h
  exact h.ok
theorem MtIn.ne_r (h : MtIn w B g r eb ev a n cc nu X c ep o ps T) : r ≠ g := by
  obtain ⟨rs, hr1, hr2⟩ := h.cr.c
  exact hr1.ne h.ce (by decide)
theorem EnoAt.typ (h : EnoAt w c ev eb o) {j : Nat} (hj : j ∈ eb) : ∃ t cs, Cel w j t cs ∧ (t = 115 ∨ t = 172 ∨ t = 175) := by
  cases o with
  | none =>
    rw [h.2] at hj
    simp at hj
  | some S =>
    obtain ⟨ge, ae, se, h1, h2, h3, h4⟩ := h
    subst h2
    obtain ⟨ca, pa, qa, cs, ps, qs, oo, hv, hi⟩ := h3
    simp only [List.mem_cons, List.not_mem_nil, or_false] at hj
    rcases hj with rfl | rfl | rfl
    · exact ⟨_, _, hi.e, .inl rfl⟩
    · exact ⟨_, _, hi.a.1, .inr (.inl rfl)⟩
    · exact ⟨_, _, hi.s.1, .inr (.inr rfl)⟩
theorem MtIn.f_g (h : MtIn w B g r eb ev a n cc nu X c ep o ps T) : MtF w B g := ⟨h.lo.1, _, h.ce.typ19, .inl rfl⟩
theorem MtIn.f_r (h : MtIn w B g r eb ev a n cc nu X c ep o ps T) : MtF w B r := by
  obtain ⟨rs, hr1, hr2⟩ := h.cr.c
  exact ⟨h.lo.2.1, _, hr1.typ19, .inr (.inl rfl)⟩
theorem MtIn.f_e (h : MtIn w B g r eb ev a n cc nu X c ep o ps T) {j : Nat} (hj : j ∈ eb) : MtF w B j := by
  obtain ⟨t, cs, hc, x⟩ := h.ck.typ hj
  refine ⟨h.lo.2.2 j hj, t, hc.typ19, ?_⟩
  rcases x with rfl | rfl | rfl <;> simp
end
end Go.Proofs.YtmgfkdmjgjlkjaaGreat
