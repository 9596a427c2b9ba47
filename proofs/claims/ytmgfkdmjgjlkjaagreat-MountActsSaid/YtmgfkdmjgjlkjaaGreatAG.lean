/- Plain facts, and what functions give, for the proofs of this seat: several texts in one, each with its own first remark. -/
import Derived.Test.YtmgfkdmjgjlkjaaGreatAF

namespace Go.Proofs.YtmgfkdmjgjlkjaaGreat
open Go Go.RowKit
set_option linter.unusedVariables false
set_option linter.unusedSimpArgs false
theorem outF_bdC {c s n : Nat → Int} (seed : Int) (hc : ∀ b, b < 21 → c b ≤ 26) (hs : ∀ b, b < 21 → 0 ≤ s b) (hn : ∀ i, i < 512 → toldT c s i = true → -(P2 (c (ofN i) - s (ofN i)).toNat) ≤ n i ∧ n i ≤ P2 (c (ofN i) - s (ofN i)).toNat) {i : Nat} (hi : i < 512) : -2147483648 ≤ outF c s n seed i ∧ outF c s n seed i ≤ 2147483647 := by
  have hb := of_lt hi
  unfold outF
  split
  · rename_i ht
    have h1 := hn i hi ht
    unfold toldT at ht
    have h2 := scaled_bd (q := n i) (hs _ hb) (of_decide_eq_true ht) (hc _ hb) h1.1 h1.2
    omega
  · have := noiseP_bd (n := c (ofN i)) seed i
    omega
theorem outL_bdC {c s x : Nat → Int} (seed : Int) (hc : ∀ b, b < 21 → c b ≤ 26) (hs : ∀ b, b < 21 → 0 ≤ s b) {i : Nat} (hi : i < 512) : -2147483648 ≤ outF c s (lineQ x c s) seed i ∧ outF c s (lineQ x c s) seed i ≤ 2147483647 := by
  refine outF_bdC seed hc hs (fun i hi ht => ?_) hi
  unfold lineQ
  rw [if_pos hi]
  have h2 := numQ_bd (x i) (s (ofN i)) (c (ofN i))
  omega
theorem Frm.Ok.out {F : Frm} (h : F.Ok) (seed : Int) {i : Nat} (hi : i < 512) : -2147483648 ≤ F.out seed i ∧ F.out seed i ≤ 2147483647 :=
  outL_bdC seed (fun b _ => (h.l.bd b).2) (fun b _ => ((h.st F.lo).bd b).1) hi
def codC (Q B : Int) (a s : Nat) (P : Int) (cv hv : Value) (R : Int) : Array Value := #[.int .i64 Q, .int .i64 B, .pointer (some ⟨a, 0, none⟩), .pointer (some ⟨s, 0, none⟩), .int .i64 P, cv, hv, .int .i64 R]
theorem codC_at {w : World} {g a s : Nat} {Q B P R : Int} {cv hv : Value} (h : Cel w g 115 (codC Q B a s P cv hv R)) :
    w.cell? ⟨g, 0, none⟩ = some (.int .i64 Q) ∧ w.cell? ⟨g, 1, none⟩ = some (.int .i64 B) ∧ w.cell? ⟨g, 2, none⟩ = some (.pointer (some ⟨a, 0, none⟩)) ∧ w.cell? ⟨g, 3, none⟩ = some (.pointer (some ⟨s, 0, none⟩)) ∧ w.cell? ⟨g, 4, none⟩ = some (.int .i64 P) ∧ w.cell? ⟨g, 5, none⟩ = some cv ∧ w.cell? ⟨g, 6, none⟩ = some hv ∧ w.cell? ⟨g, 7, none⟩ = some (.int .i64 R) :=
  ⟨h.cell 0, h.cell 1, h.cell 2, h.cell 3, h.cell 4, h.cell 5, h.cell 6, h.cell 7⟩
def HearPost (F : Frm) (n : Int) (g a s cs ps qs : Nat) (Q B P : Int) (cv : Value) (left : Nat → Int) (w : World) (e : Ending) (w' : World) : Prop :=
  ∃ hd, e = .returned (.int .i64 0) ∧ Cel w' g 115 (codC Q B a s P cv (.slice (some ⟨hd, 0, none⟩) 512 512) F.reach) ∧ IFun w' hd 77 .i16 512 (samplesF F.br (F.held n) left) ∧ OvAt 175 .i32 w' s cs ps qs (leftF F.br (F.held n)) ∧ w.heap.size ≤ hd ∧ Keeps (fun j => j = g ∨ j = s) w w'
set_option maxRecDepth 100000 in
theorem cHear_any (F : Frm) (lb c so : Nat) (o : Option Nat) (g a s cs ps qs : Nat) (Q B P R n : Int) (cv hv : Value) (left : Nat → Int) (w : World) (h : FrAt F w lb c o) (hs : CutAt w so F.steps) (hE : Cel w g 115 (codC Q B a s P cv hv R))
    (hS : OvAt 175 .i32 w s cs ps qs left) (hl : ∀ j, j < 128 → (left j).natAbs ≤ 1073741000) (n0 : 0 ≤ n) (n1 : n ≤ 4294967295) :
    Calls Tryz.prog 63 #[.pointer (some ⟨g, 0, none⟩), .agg #[.bool F.br, .int .i64 F.Q, .slice (some ⟨lb, 0, none⟩) 512 512, .slice (some ⟨c, 0, none⟩) 21 21, .slice (ahA o) (ahN o) (ahN o)], .slice (some ⟨so, 0, none⟩) 21 21, .int .u32 n] w (HearPost F n g a s cs ps qs Q B P cv left w) := by
  have HF := Lib.hid h
  have HSo := Lib.hid hs
  have HE := Lib.hid hE
  have HS := Lib.hid hS
  have HL := Lib.hid hl
  have hgs := Lib.hid (hE.ne hS.1 (by decide))
  clear h hs hE hS hl
  go_enter Tryz.func63, Tryz.ntmps63
  have HB0 := Lib.hid (Below.alloc_new w (.cells #[.bool F.br, .int .i64 F.Q, .slice (some ⟨lb, 0, none⟩) 512 512, .slice (some ⟨c, 0, none⟩) 21 21, .slice (ahA o) (ahN o) (ahN o)] 120))
  have HC0 : RowKit.Hid (Cel (w.alloc (.cells #[.bool F.br, .int .i64 F.Q, .slice (some ⟨lb, 0, none⟩) 512 512, .slice (some ⟨c, 0, none⟩) 21 21, .slice (ahA o) (ahN o) (ahN o)] 120)) w.heap.size 120 (frC F lb c o)) := Cel.new w _ _
  go_wp2_with (go_at_call 99; go_loud (refine (fHeard_any lb c so 21 21 F.x F.l F.Q F.lo n _ (HF.out.x.below HB0.out HF.out.x.lt) HF.out.ok.x (HF.out.l.below HB0.out HF.out.l.lt) HF.out.ok.l (HSo.out.below HB0.out HSo.out.lt) n0 n1).mono ?_); rintro e w1 ⟨r1, rfl, i1, s1, b1⟩; have HI1 : RowKit.Hid (IFun w1 r1 21 .i32 512 (F.out n)) := i1; have HC1 := Lib.hid (HC0.out.below b1); have HB1 := Lib.hid (chain HB0.out b1); clear i1 s1 b1; obtain ⟨d0, d1, d2, d3, d4⟩ := frC_at HC1.out; obtain ⟨e0, e1, e2, e3, e4, e5, e6, e7⟩ := codC_at (HE.out.below HB1.out))
  go_region_held3 (fun w' => w'.cell? ⟨w.heap.size, 0, none⟩ = some (.bool F.br) ∧ w'.cell? ⟨g, 3, none⟩ = some (.pointer (some ⟨s, 0, none⟩))) (go_keep) (first
    | (go_at_call 101; go_loud (refine (cHeld_any r1 512 512 (F.out n) w1.drew HI1.out (fun j hj => HF.out.ok.out n hj) (by decide)).mono ?_); rintro e w2 ⟨r2, rfl, i2, s2, b2⟩; have HI2 : RowKit.Hid (IFun w2 r2 21 .i32 512 (F.held n)) := i2; have HC2 : RowKit.Hid (Cel w2 w.heap.size 120 (frC F lb c o)) := Cel.below (w := w1.drew) HC1.out b2; have HB2 : RowKit.Hid (Below w.heap.size w w2) := chain (Below.drewN' HB1.out 1) b2; clear i2 s2 b2; obtain ⟨f0, f1, f2, f3, f4⟩ := frC_at HC2.out; obtain ⟨h0, h1, h2, h3, h4, h5, h6, h7⟩ := codC_at (HE.out.below HB2.out))
    | (go_at_call 100; go_loud (refine (synSamples_any s cs ps qs r2 left (F.held n) F.br w2 (HS.out.below HB2.out) HI2.out (fun j _ => F.held_bd n j) HL.out).mono ?_); rintro e w3 ⟨r3, rfl, i3, s3, o3, k3⟩; have HI3 : RowKit.Hid (IFun w3 r3 77 .i16 512 (samplesF F.br (F.held n) left)) := i3; have HS3 : RowKit.Hid (w.heap.size ≤ r3) := Nat.le_trans HB2.out.size s3; have HO3 : RowKit.Hid (OvAt 175 .i32 w3 s cs ps qs (leftF F.br (F.held n))) := o3; have HK3 : RowKit.Hid (Keeps (· = s) w w3) := (Keeps.of_below HB2.out).trans k3; have HC3 : RowKit.Hid (Cel w3 w.heap.size 120 (frC F lb c o)) := HC2.out.keeps k3 (fun e => by have := HS.out.1.lt; omega); have HE3 : RowKit.Hid (Cel w3 g 115 (codC Q B a s P cv hv R)) := HE.out.keeps HK3.out hgs.out; have HX3 : RowKit.Hid (CutAt w3 c F.l ∧ CutAt w3 so F.steps) := (by obtain ⟨x1, y1⟩ := HF.out.l.cel; obtain ⟨x2, y2⟩ := HSo.out.cel; exact ⟨Cel.keeps HF.out.l HK3.out (y1.ne HS.out.1 (by decide)), Cel.keeps HSo.out HK3.out (y2.ne HS.out.1 (by decide))⟩); clear i3 s3 o3 k3; obtain ⟨f0, f1, f2, f3, f4⟩ := frC_at HC3.out; obtain ⟨h0, h1, h2, h3, h4, h5, h6, h7⟩ := codC_at HE3.out)
    | fail)
  go_wp2_with (go_at_call 102; go_loud (refine (fReach_any c so 21 21 F.l F.steps _ HX3.out.1 HF.out.ok.l HX3.out.2 (HF.out.ok.st F.lo)).mono ?_); rintro e w4 ⟨rfl, b4⟩; have HB4 := Lib.hid b4; have HE4 := Lib.hid (HE3.out.below b4); clear b4; have z6 := HE4.out.frozen 6; have z7 := HE4.out.frozen 7; obtain ⟨_, _, _, _, _, _, y6, y7⟩ := codC_at HE4.out)
  go_ret
  have E : Cel ((w4.setCell ⟨g, 6, none⟩ (.slice (some ⟨r3, 0, none⟩) 512 512)).setCell ⟨g, 7, none⟩ (.int .i64 F.reach)) g 115 (codC Q B a s P cv (.slice (some ⟨r3, 0, none⟩) 512 512) F.reach) := (HE4.out.set_ 6 _).set_ 7 _
  have K : Keeps (· = g) w4 ((w4.setCell ⟨g, 6, none⟩ (.slice (some ⟨r3, 0, none⟩) 512 512)).setCell ⟨g, 7, none⟩ (.int .i64 F.reach)) := (Keeps.set1 _).trans (Keeps.set1 _)
  refine ⟨r3, rfl, E, ?_, ?_, HS3.out, ?_⟩
  · exact Cel.keeps (HI3.out.below HB4.out HI3.out.lt) K (by obtain ⟨x1, y1⟩ := (HI3.out.below HB4.out HI3.out.lt).cel; exact y1.ne HE4.out (by decide))
  · exact (HO3.out.below HB4.out).keeps HE4.out (fun e => hgs.out e.symm) (by decide) (by decide) K
  · exact ((HK3.out.mono fun j hj => .inr hj).trans (Keeps.of_below HB4.out)).trans (K.mono fun j hj => .inl hj)
end Go.Proofs.YtmgfkdmjgjlkjaaGreat

namespace Go.Proofs.YtmgfkdmjgjlkjaaGreat
open Go Go.RowKit
set_option linter.unusedVariables false
set_option linter.unusedSimpArgs false
noncomputable def mkFrm (r fs b : Bool) (Q : Int) (B : Nat) (al f ah : Nat → Int) : Frm := ⟨r || fs, b, Q, B, linesF b (allF al f), if r || fs then fun _ => 0 else ah⟩
theorem mkFrm_ok {r fs b : Bool} {Q : Int} {B : Nat} {al f ah : Nat → Int} (hq : 1 ≤ Q ∧ Q ≤ 10) (hB : 32 ≤ B ∧ B ≤ 600) : (mkFrm r fs b Q B al f ah).Ok := ⟨hq, hB, fun i => linesF_bd _ _ i⟩
theorem AhAt.turn {w : World} {fs : Bool} {o : Option Nat} {ah : Nat → Int} (h : AhAt w fs o ah) (r : Bool) : AhAt w (r || fs) (if r then none else o) (if r || fs then fun _ => 0 else ah) := by
  cases r with
  | true => exact .inl ⟨rfl, rfl, rfl⟩
  | false =>
    rcases h with ⟨rfl, rfl, rfl⟩ | ⟨rfl, h2, r, rfl, h4⟩
    · exact .inl ⟨rfl, rfl, rfl⟩
    · exact .inr ⟨rfl, h2, r, rfl, h4⟩
def MadePost (r fs b : Bool) (Q : Int) (B : Nat) (a ca pa qa : Nat) (al f ah : Nat → Int) (w : World) (e : Ending) (w' : World) : Prop :=
  ∃ lb c o, e = .returned (.tuple #[.agg #[.bool b, .int .i64 Q, .slice (some ⟨lb, 0, none⟩) 512 512, .slice (some ⟨c, 0, none⟩) 21 21, .slice (ahA o) (ahN o) (ahN o)], .int .i64 0]) ∧ FrAt (mkFrm r fs b Q B al f ah) w' lb c o ∧ OvAt 172 .i16 w' a ca pa qa (fun j => f (384 + j)) ∧ Keeps (· = a) w w'
theorem infoC_frame : (Tryz.prog.info? 120).map (·.size) = some 5 := by kernel_rfl
theorem made_end {r fs b : Bool} {Q : Int} {B a ca pa qa r1 r2 : Nat} {o : Option Nat} {al f ah : Nat → Int} {w w2 W : World} {zc : Array Value} {v : Value} (hA : OvAt 172 .i16 w a ca pa qa al) (hh : AhAt w fs o ah)
    (hx : IFun w2 r1 21 .i32 512 (linesF b (allF al f))) (hl : CutAt w2 r2 (mkFrm r fs b Q B al f ah).l) (ho : OvAt 172 .i16 w2 a ca pa qa (fun j => f (384 + j))) (hk : Keeps (· = a) w w2) (hc : Cel w2 w.heap.size 120 zc)
    (hok : (mkFrm r fs b Q B al f ah).Ok) (hv : v = .tuple #[.agg #[.bool b, .int .i64 Q, .slice (some ⟨r1, 0, none⟩) 512 512, .slice (some ⟨r2, 0, none⟩) 21 21, .slice (ahA (if r then none else o)) (ahN (if r then none else o)) (ahN (if r then none else o))], .int .i64 0])
    (K : Keeps (· = w.heap.size) w2 W) : MadePost r fs b Q B a ca pa qa al f ah w (.returned v) W := by
  have KK : Keeps (· = a) w W := hk.then_ K fun j hj => .inr (by omega)
  refine ⟨r1, r2, if r then none else o, by rw [hv], ⟨hok, ?_, ?_, ?_⟩, ?_, KK⟩
  · obtain ⟨cs, y⟩ := hx.cel
    exact Cel.keeps hx K (y.ne hc (by decide))
  · obtain ⟨cs, y⟩ := hl.cel
    exact Cel.keeps hl K (y.ne hc (by decide))
  · refine (hh.turn r).keeps KK fun q hq => ?_
    obtain ⟨cs, y⟩ := IFun.cel hq
    exact y.ne hA.1 (by decide)
  · exact ho.keeps hc (fun e => by have := hA.1.lt; omega) (by decide) (by decide) K
set_option maxHeartbeats 2000000 in
set_option maxRecDepth 100000 in
theorem cFrame_any (r fs b : Bool) (Q : Int) (B : Nat) (g a s x ca pa qa : Nat) (P R BB : Int) (o : Option Nat) (hv : Value) (al f ah : Nat → Int) (w : World) (hq : 1 ≤ Q ∧ Q ≤ 10) (hB : 32 ≤ B ∧ B ≤ 600) (hE : Cel w g 115 (codC Q BB a s P (.slice (ahA o) (ahN o) (ahN o)) hv R))
    (hA : OvAt 172 .i16 w a ca pa qa al) (hah : AhAt w fs o ah) (hf : IFun w x 77 .i16 512 f) (h0 : ∀ j, j < 128 → -32768 ≤ al j ∧ al j ≤ 32767) (h1 : ∀ j, j < 512 → -32768 ≤ f j ∧ f j ≤ 32767) :
    Calls Tryz.prog 60 #[.pointer (some ⟨g, 0, none⟩), .slice (some ⟨x, 0, none⟩) 512 512, .bool b, .bool r] w (MadePost r fs b Q B a ca pa qa al f ah w) := by
  cases r
  all_goals
    have HE := Lib.hid hE
    have HA := Lib.hid hA
    have HH := Lib.hid hah
    have HF := Lib.hid hf
    have H0 := Lib.hid h0
    have H1 := Lib.hid h1
    have HO : RowKit.Hid (∀ r', (mkFrm r' fs b Q B al f ah).Ok) := fun _ => mkFrm_ok hq hB
    have hga := Lib.hid (hE.ne hA.1 (by decide))
    have d2 : w.cell? ⟨g, 2, none⟩ = some (.pointer (some ⟨a, 0, none⟩)) := hE.cell 2
    have gl := hE.lt
    clear hE hA hah hf h0 h1
    obtain ⟨zc, hz⟩ : ∃ zc : Array Value, zc = #[.bool false, .int .i64 0, .slice none 0 0, .slice none 0 0, .slice none 0 0] := ⟨_, rfl⟩
    have HZ : RowKit.Hid (zc = #[.bool false, .int .i64 0, .slice none 0 0, .slice none 0 0, .slice none 0 0]) := hz
    have HB0 := Lib.hid (Below.alloc_new w (.cells #[.bool false, .int .i64 0, .slice none 0 0, .slice none 0 0, .slice none 0 0] 120))
    have HC0 : RowKit.Hid (Cel (w.alloc (.cells #[.bool false, .int .i64 0, .slice none 0 0, .slice none 0 0, .slice none 0 0] 120)) w.heap.size 120 zc) := by rw [hz]; exact Cel.new w _ _
    clear hz
    go_enter Tryz.func60, Tryz.ntmps60
    go_wp2_with (first
      | (go_at_call 95; go_loud (refine (anaLines_any a ca pa qa x al f b _ (HA.out.below HB0.out) (HF.out.below HB0.out HF.out.lt) H0.out H1.out).mono ?_); rintro e w1 ⟨r1, rfl, i1, s1, o1, k1⟩; have HI1 := Lib.hid i1; have HS1 : RowKit.Hid (w.heap.size ≤ r1) := Nat.le_trans HB0.out.size s1; have HO1 := Lib.hid o1; have HK1 : RowKit.Hid (Keeps (· = a) w w1) := (Keeps.of_below HB0.out).trans k1; have HC1 : RowKit.Hid (Cel w1 w.heap.size 120 zc) := HC0.out.keeps k1 (fun e => by have := HA.out.1.lt; omega); clear i1 s1 o1 k1; clear d2)
      | (go_at_call 96; go_loud (refine (fCeil_any r1 512 (linesF b (allF al f)) _ HI1.out (fun i => linesF_bd _ _ i) (by decide) (by decide)).mono ?_); rintro e w2 ⟨r2, rfl, i2, s2, b2⟩; have HI2 : RowKit.Hid (∀ r', CutAt w2 r2 (mkFrm r' fs b Q B al f ah).l) := fun _ => ceil_cut i2; have HI1b := Lib.hid (HI1.out.below b2 HI1.out.lt); have HO2 := Lib.hid (HO1.out.below b2); have HK2 : RowKit.Hid (Keeps (· = a) w w2) := HK1.out.trans (Keeps.of_below b2); have HC2 := Lib.hid (HC1.out.below b2); clear i2 s2 b2; have f0 : w2.cell? ⟨g, 0, none⟩ = some (.int .i64 Q) := (HE.out.keeps HK2.out hga.out).cell 0; have f5 : w2.cell? ⟨g, 5, none⟩ = some (.slice (ahA o) (ahN o) (ahN o)) := (HE.out.keeps HK2.out hga.out).cell 5; have gl2 : g < w2.heap.size := Nat.lt_of_lt_of_le gl HK2.out.size; have HCz : RowKit.Hid (Cel w2 w.heap.size 120 #[.bool false, .int .i64 0, .slice none 0 0, .slice none 0 0, .slice none 0 0]) := (by rw [← HZ.out]; exact HC2.out); have cl2 := HCz.out.lt; have p0 : w2.cell? ⟨w.heap.size, 0, none⟩ = some (.bool false) := HCz.out.cell 0; have p1 : w2.cell? ⟨w.heap.size, 1, none⟩ = some (.int .i64 0) := HCz.out.cell 1; have p2 : w2.cell? ⟨w.heap.size, 2, none⟩ = some (.slice none 0 0) := HCz.out.cell 2; have p3 : w2.cell? ⟨w.heap.size, 3, none⟩ = some (.slice none 0 0) := HCz.out.cell 3; have p4 : w2.cell? ⟨w.heap.size, 4, none⟩ = some (.slice none 0 0) := HCz.out.cell 4; have z0 := HCz.out.frozen 0; have z1 := HCz.out.frozen 1; have z2 := HCz.out.frozen 2; have z3 := HCz.out.frozen 3; have z4 := HCz.out.frozen 4))
    refine bodyPost_ret (results_cell2 rfl rfl rfl (run_loadVar_row _ w.heap.size _ _ _ (0, 0) _ ((((((HCz.out.set_ 0 _).set_ 1 _).set_ 2 _).set_ 3 _).set_ 4 _).alloc _) Tryz.underlying120 rfl infoC_frame)) rfl ?_
    exact made_end HA.out HH.out HI1b.out (HI2.out _) HO2.out HK2.out HCz.out (HO.out _) rfl ((((((Keeps.set1 _).trans (Keeps.set1 _)).trans (Keeps.set1 _)).trans (Keeps.set1 _)).trans (Keeps.set1 _)).alloc _)
end Go.Proofs.YtmgfkdmjgjlkjaaGreat

namespace Go.Proofs.YtmgfkdmjgjlkjaaGreat
open Go Go.RowKit
set_option linter.unusedVariables false
set_option linter.unusedSimpArgs false
structure S13 where
  P : Int
  fs : Bool
  ah : Nat → Int
  al : Nat → Int
  left : Nat → Int
  hd : Option (Nat → Int)
  R : Int
structure S13.Ok (S : S13) : Prop where
  P : 0 ≤ S.P ∧ S.P ≤ 32768
  al : ∀ j, j < 128 → -32768 ≤ S.al j ∧ S.al j ≤ 32767
  left : ∀ j, j < 128 → (S.left j).natAbs ≤ 1073741000
noncomputable def S13.F (S : S13) (Q : Int) (B : Nat) (f : Nat → Int) (r : Bool) : Frm := mkFrm r S.fs (briefF S.P f) Q B S.al f S.ah
noncomputable def S13.next (S : S13) (Q : Int) (B : Nat) (f : Nat → Int) (n : Int) (r : Bool) : S13 :=
  ⟨peakQ f 3, false, (S.F Q B f r).l, fun j => f (384 + j), leftF (briefF S.P f) ((S.F Q B f r).held n), some (samplesF (briefF S.P f) ((S.F Q B f r).held n) S.left), (S.F Q B f r).reach⟩
def s13Zero : S13 := ⟨0, true, fun _ => 0, fun _ => 0, fun _ => 0, none, 0⟩
theorem s13Zero_ok : s13Zero.Ok := ⟨by decide, fun _ _ => by show (-32768 : Int) ≤ 0 ∧ (0 : Int) ≤ 32767; decide, fun _ _ => by show (0 : Int).natAbs ≤ 1073741000; decide⟩
theorem S13.F_ok (S : S13) {Q : Int} {B : Nat} (hq : 1 ≤ Q ∧ Q ≤ 10) (hB : 32 ≤ B ∧ B ≤ 600) (f : Nat → Int) (r : Bool) : (S.F Q B f r).Ok := mkFrm_ok hq hB
theorem S13.Ok.next {S : S13} {f : Nat → Int} (Q : Int) (B : Nat) (hf : ∀ i, i < 512 → -32768 ≤ f i ∧ f i ≤ 32767) (n : Int) (r : Bool) : (S.next Q B f n r).Ok :=
  ⟨peakQ_bd hf (by decide), fun j hj => hf _ (by omega), fun j hj => leftF_abs (fun i _ => by have := (S.F Q B f r).held_bd n i; omega) _ hj⟩
def HdAt (w : World) (hv : Value) : Option (Nat → Int) → Prop
  | none => hv = .slice none 0 0
  | some H => ∃ r, hv = .slice (some ⟨r, 0, none⟩) 512 512 ∧ IFun w r 77 .i16 512 H
structure CodIn (w : World) (g a s ca pa qa cs ps qs : Nat) (o : Option Nat) (hv : Value) (Q : Int) (B : Nat) (S : S13) : Prop where
  e : Cel w g 115 (codC Q B a s S.P (.slice (ahA o) (ahN o) (ahN o)) hv S.R)
  a : OvAt 172 .i16 w a ca pa qa S.al
  s : OvAt 175 .i32 w s cs ps qs S.left
  h : AhAt w S.fs o S.ah
  d : HdAt w hv S.hd
def CodAt (w : World) (g a s : Nat) (Q : Int) (B : Nat) (S : S13) : Prop := ∃ ca pa qa cs ps qs o hv, CodIn w g a s ca pa qa cs ps qs o hv Q B S
def EncodePost (g a s : Nat) (Q : Int) (B : Nat) (S : S13) (f : Nat → Int) (n : Int) (r : Bool) (w : World) (e : Ending) (w' : World) : Prop :=
  ∃ rr cp, e = .returned (.tuple #[.slice (some ⟨rr, 0, none⟩) (S.F Q B f r).bytes.length cp, .bool (r || S.fs), .int .i64 0]) ∧ IntsAt w' w'.heap.size .u8 (some ⟨rr, 0, none⟩) (S.F Q B f r).bytes.length (S.F Q B f r).bytes ∧
    CodAt w' g a s Q B (S.next Q B f n r) ∧ Keeps (fun j => j = g ∨ j = a ∨ j = s) w w'
structure EcMid (g a s ca pa qa cs ps qs k lb c : Nat) (o' : Option Nat) (cv hv : Value) (Q : Int) (B : Nat) (P R : Int) (left : Nat → Int) (F : Frm) (al' : Nat → Int) (pk : Array Value) (w : World) (q : Nat) (W : World) : Prop where
  mf : Cel W q 120 (frC F lb c o')
  mF : FrAt F W lb c o'
  ma : OvAt 172 .i16 W a ca pa qa al'
  me : Cel W g 115 (codC Q B a s P cv hv R)
  mp : Cel W k 116 pk
  ms : OvAt 175 .i32 W s cs ps qs left
  mw : Keeps (· = a) w W
theorem EcMid.now {g a s ca pa qa cs ps qs k lb c : Nat} {o' : Option Nat} {cv hv : Value} {Q : Int} {B : Nat} {P R : Int} {left : Nat → Int} {F : Frm} {al' : Nat → Int} {pk : Array Value} {w : World} {q : Nat} {W W' : World}
    (h : EcMid g a s ca pa qa cs ps qs k lb c o' cv hv Q B P R left F al' pk w q W) (b : Below W.heap.size W W') : EcMid g a s ca pa qa cs ps qs k lb c o' cv hv Q B P R left F al' pk w q W' :=
  ⟨h.mf.below b, h.mF.below b, h.ma.below b, h.me.below b, h.mp.below b, h.ms.below b, h.mw.trans (Keeps.of_below b)⟩
theorem EcMid.drew {g a s ca pa qa cs ps qs k lb c : Nat} {o' : Option Nat} {cv hv : Value} {Q : Int} {B : Nat} {P R : Int} {left : Nat → Int} {F : Frm} {al' : Nat → Int} {pk : Array Value} {w : World} {q : Nat} {W : World}
    (h : EcMid g a s ca pa qa cs ps qs k lb c o' cv hv Q B P R left F al' pk w q W) : EcMid g a s ca pa qa cs ps qs k lb c o' cv hv Q B P R left F al' pk w q W.drew :=
  ⟨h.mf, ⟨h.mF.ok, h.mF.x, h.mF.l, h.mF.a⟩, h.ma, h.me, h.mp, h.ms, h.mw.drewN 1⟩
theorem ec_mid {g a s ca pa qa cs ps qs k lb c : Nat} {o' : Option Nat} {cv hv : Value} {Q : Int} {B : Nat} {P R : Int} {left : Nat → Int} {F : Frm} {al' : Nat → Int} {pk : Array Value} {w : World} {q : Nat} {w4 W : World}
    (hF : FrAt F w4 lb c o') (hA : OvAt 172 .i16 w4 a ca pa qa al') (hE : Cel w4 g 115 (codC Q B a s P cv hv R)) (hP : Cel w4 k 116 pk) (hS : OvAt 175 .i32 w4 s cs ps qs left)
    (hI : ∀ (j : Nat) (t : TypeId) (vs : Array Value), Cel w4 j t vs → t ≠ 120 → Cel W j t vs) (hO : ∀ (t : TypeId) (kk : IntKind) (a c p q : Nat) (f : Nat → Int), OvAt t kk w4 a c p q f → t ≠ 120 → OvAt t kk W a c p q f)
    (hfr : Cel W q 120 (frC F lb c o')) (hK : Keeps (· = a) w W) : EcMid g a s ca pa qa cs ps qs k lb c o' cv hv Q B P R left F al' pk w q W := by
  refine ⟨hfr, ⟨hF.ok, hI _ _ _ hF.x (by decide), hI _ _ _ hF.l (by decide), ?_⟩, hO _ _ _ _ _ _ _ hA (by decide), hI _ _ _ hE (by decide), hI _ _ _ hP (by decide), hO _ _ _ _ _ _ _ hS (by decide), hK⟩
  rcases hF.a with h | ⟨h1, h2, r, h3, h4⟩
  · exact .inl h
  · exact .inr ⟨h1, h2, r, h3, hI _ _ _ h4 (by decide)⟩
theorem ec_old {w4 W : World} {q : Nat} {zc : Array Value} (hz : Cel w4 q 120 zc) (K : Keeps (· = q) w4 W) :
    (∀ (j : Nat) (t : TypeId) (vs : Array Value), Cel w4 j t vs → t ≠ 120 → Cel W j t vs) ∧ (∀ (t : TypeId) (kk : IntKind) (a c p q : Nat) (f : Nat → Int), OvAt t kk w4 a c p q f → t ≠ 120 → OvAt t kk W a c p q f) :=
  ⟨fun j t vs h ht => h.keeps K (h.ne hz ht), fun t kk a c p q' f h ht => h.keeps hz (h.1.ne hz ht) (by decide) (by decide) K⟩
theorem ec_new {w4 W : World} (b : Below w4.heap.size w4 W) :
    (∀ (j : Nat) (t : TypeId) (vs : Array Value), Cel w4 j t vs → t ≠ 120 → Cel W j t vs) ∧ (∀ (t : TypeId) (kk : IntKind) (a c p q : Nat) (f : Nat → Int), OvAt t kk w4 a c p q f → t ≠ 120 → OvAt t kk W a c p q f) :=
  ⟨fun j t vs h _ => h.below b, fun t kk a c p q' f h _ => h.below b⟩
theorem OvAt.keepsF {t : TypeId} {k : IntKind} {w w' : World} {s c p q : Nat} {f : Nat → Int} {F : Nat → Prop} (h : OvAt t k w s c p q f) (hk : Keeps F w w') (hs : ¬ F s) (hF : ∀ j, F j → ∃ t' cs, Cel w j t' cs ∧ t' ≠ 234 ∧ t' ≠ 232) : OvAt t k w' s c p q f := by
  have n : ∀ {g c m : Nat}, TrAt w g c m → ¬ F g ∧ ¬ F c := fun ht => ⟨fun e => by obtain ⟨t', cs, y, h1, h2⟩ := hF _ e; exact (ht.ne y h1 h2).1 rfl, fun e => by obtain ⟨t', cs, y, h1, h2⟩ := hF _ e; exact (ht.ne y h1 h2).2 rfl⟩
  exact ⟨h.1.keeps hk hs, h.2.1.keeps hk (n h.2.1).1 (n h.2.1).2, h.2.2.keeps hk (n h.2.2).1 (n h.2.2).2⟩
theorem ints_ne8 {w : World} {B len r m : Nat} {b : List Int} {t : TypeId} {cs : Array Value} {v0 : Value} (h : IntsAt w B .u8 (some ⟨r, 0, none⟩) len b) (h0 : 0 < len) (k : Cel w m t cs) (hc : cs[0]? = some v0) (hv : ∀ x, v0 ≠ .int .u8 x) : r ≠ m := by
  rintro rfl
  obtain ⟨b', off, e, _, _, hcell⟩ := h.at_ h0
  injection e with e
  injection e with e1 e2
  subst e1
  subst e2
  have c := k.cell 0
  rw [hc] at c
  rw [show 0 + 0 = 0 from rfl, c] at hcell
  injection hcell with e
  exact hv _ e
theorem ec_end {g a s ca pa qa cs ps qs k lb c q hd rr cp : Nat} {o o' : Option Nat} {hv : Value} {Q : Int} {B : Nat} {S : S13} {f : Nat → Int} {n : Int} {r b : Bool} {pk : Array Value} {w W w6 w7 : World} {p3 : Int} {v : Value}
    (hb : briefF S.P f = b) (hp : peakQ f 3 = p3) (hM : EcMid g a s ca pa qa cs ps qs k lb c o' (.slice (ahA o) (ahN o) (ahN o)) hv Q B S.P S.R S.left (mkFrm r S.fs b Q B S.al f S.ah) (fun j => f (384 + j)) pk w q W) (hne : g ≠ a ∧ g ≠ s ∧ a ≠ s)
    (hE : Cel w6 g 115 (codC Q B a s S.P (.slice (ahA o) (ahN o) (ahN o)) (.slice (some ⟨hd, 0, none⟩) 512 512) (mkFrm r S.fs b Q B S.al f S.ah).reach)) (hd6 : IFun w6 hd 77 .i16 512 (samplesF b ((mkFrm r S.fs b Q B S.al f S.ah).held n) S.left)) (hS6 : OvAt 175 .i32 w6 s cs ps qs (leftF b ((mkFrm r S.fs b Q B S.al f S.ah).held n)))
    (hK6 : Keeps (fun j => j = g ∨ j = s) W w6) (hi : IntsAt W W.heap.size .u8 (some ⟨rr, 0, none⟩) (mkFrm r S.fs b Q B S.al f S.ah).bytes.length (mkFrm r S.fs b Q B S.al f S.ah).bytes)
    (b7 : Below ((w6.setCell ⟨g, 4, none⟩ (.int .i64 p3)).setCell ⟨g, 5, none⟩ (.slice (some ⟨c, 0, none⟩) 21 21)).heap.size ((w6.setCell ⟨g, 4, none⟩ (.int .i64 p3)).setCell ⟨g, 5, none⟩ (.slice (some ⟨c, 0, none⟩) 21 21)) w7)
    (hv7 : v = .tuple #[.slice (some ⟨rr, 0, none⟩) (mkFrm r S.fs b Q B S.al f S.ah).bytes.length cp, .bool (r || S.fs), .int .i64 0]) : EncodePost g a s Q B S f n r w (.returned v) w7 := by
  have eF : S.F Q B f r = mkFrm r S.fs b Q B S.al f S.ah := by unfold S13.F; rw [hb]
  have eN : S.next Q B f n r = ⟨p3, false, (mkFrm r S.fs b Q B S.al f S.ah).l, fun j => f (384 + j), leftF b ((mkFrm r S.fs b Q B S.al f S.ah).held n), some (samplesF b ((mkFrm r S.fs b Q B S.al f S.ah).held n) S.left), (mkFrm r S.fs b Q B S.al f S.ah).reach⟩ := by unfold S13.next; rw [eF, hb, hp]
  have KG6 : Keeps (· = g) w6 w7 := ((Keeps.set1 _).trans (Keeps.set1 _)).trans (Keeps.of_below b7)
  have KG : Keeps (fun j => j = g ∨ j = s) W w7 := hK6.trans (KG6.mono fun j hj => .inl hj)
  obtain ⟨n1, n2, n3⟩ := hne
  have ty : ∀ j, (j = g ∨ j = s) → ∃ t' vs, Cel W j t' vs ∧ t' ≠ 234 ∧ t' ≠ 232 := by
    rintro j (rfl | rfl)
    · exact ⟨_, _, hM.me, by decide, by decide⟩
    · exact ⟨_, _, hM.ms.1, by decide, by decide⟩
  have nt : ∀ {j : Nat} {t : TypeId} {vs : Array Value}, Cel W j t vs → t ≠ 115 → t ≠ 175 → ¬ (j = g ∨ j = s) := by
    rintro j t vs h h1 h2 (rfl | rfl)
    · exact h.ne hM.me h1 rfl
    · exact h.ne hM.ms.1 h2 rfl
  refine ⟨rr, cp, by rw [hv7, eF], ?_, ?_, ?_⟩
  · rw [eF]
    refine (hi.keeps KG (Nat.le_refl _) fun r off e h0 _ c => ?_).grow KG.size
    injection e with e
    injection e with e
    subst e
    rcases c with c | c
    · exact ints_ne8 hi h0 hM.me (v0 := .int .i64 Q) rfl (by intro x e; injection e with e; cases e) c
    · exact ints_ne8 hi h0 hM.ms.1 (v0 := .pointer (some ⟨cs, 0, none⟩)) rfl (by intro x e; cases e) c
  · rw [eN]
    refine ⟨ca, pa, qa, cs, ps, qs, some c, .slice (some ⟨hd, 0, none⟩) 512 512, ⟨Cel.below ((hE.set_ 4 _).set_ 5 _) b7, hM.ma.keepsF KG (by rintro (e | e) <;> omega) ty, hS6.keeps hE (fun e => n2 e.symm) (by decide) (by decide) KG6, .inr ⟨rfl, hM.mF.ok.l, c, rfl, ?_⟩, hd, rfl, ?_⟩⟩
    · exact Cel.keeps hM.mF.l KG (nt hM.mF.l (by decide) (by decide))
    · exact Cel.keeps hd6 KG6 (Cel.ne hd6 hE (by decide))
  · exact (hM.mw.mono fun j hj => .inr (.inl hj)).trans (KG.mono fun j hj => hj.elim .inl fun c => .inr (.inr c))
end Go.Proofs.YtmgfkdmjgjlkjaaGreat
