/- Plain facts, and what functions give, for the proofs of this seat: several texts in one, each with its own first remark. -/
import Derived.Test.YtobhoecmmpijgaaGreatRJ
import Derived.Test.YtobhoecmmpijgaaGreatRH

/- What a payload is made of: the walk of package coder. -/
namespace Go.Proofs.YtobhoecmmpijgaaGreat
open Go Go.RowKit
set_option linter.unusedVariables false
set_option linter.unusedSimpArgs false

/-- A frame, of samples. -/
noncomputable def mkFrm (r fs b : Bool) (Q : Int) (B : Nat) (al f ah : Nat → Int) : Frm := ⟨r || fs, b, Q, B, linesF b (allF al f), if r || fs then fun _ => 0 else ah⟩
theorem mkFrm_ok {r fs b : Bool} {Q : Int} {B : Nat} {al f ah : Nat → Int} (hq : 1 ≤ Q ∧ Q ≤ 10) (hB : 32 ≤ B ∧ B ≤ 600) : (mkFrm r fs b Q B al f ah).Ok := ⟨hq, hB, fun i => linesF_bd _ _ i⟩
theorem AhAt.turn {w : World} {fs : Bool} {o : Option Nat} {ah : Nat → Int} (h : AhAt w fs o ah) (r : Bool) : AhAt w (r || fs) (if r then none else o) (if r || fs then fun _ => 0 else ah) := by
  cases r with
  | true => exact .inl ⟨rfl, rfl, rfl⟩
  | false =>
    rcases h with ⟨rfl, rfl, rfl⟩ | ⟨rfl, h2, r, rfl, h4⟩
    · exact .inl ⟨rfl, rfl, rfl⟩
    · exact .inr ⟨rfl, h2, r, rfl, h4⟩
def MadePost (r fs b : Bool) (Q : Int) (B : Nat) (a ca pa qa : Nat) (al f ah : Nat → Int) (w : World) (e : Ending) (w' : World) : Prop :=
  ∃ lb c o, e = .returned (.tuple #[.agg #[.bool b, .int .i64 Q, .slice (some ⟨lb, 0, none⟩) 512 512, .slice (some ⟨c, 0, none⟩) 21 21, .slice (ahA o) (ahN o) (ahN o)], .int .i64 0]) ∧ FrAt (mkFrm r fs b Q B al f ah) w' lb c o ∧ OvAt 152 .i16 w' a ca pa qa (fun j => f (384 + j)) ∧ Keeps (· = a) w w'
theorem infoC_frame : (Tryz.prog.info? 109).map (·.size) = some 5 := by kernel_rfl
theorem made_end {r fs b : Bool} {Q : Int} {B a ca pa qa r1 r2 : Nat} {o : Option Nat} {al f ah : Nat → Int} {w w2 W : World} {zc : Array Value} {v : Value} (hA : OvAt 152 .i16 w a ca pa qa al) (hh : AhAt w fs o ah)
    (hx : IFun w2 r1 21 .i32 512 (linesF b (allF al f))) (hl : CutAt w2 r2 (mkFrm r fs b Q B al f ah).l) (ho : OvAt 152 .i16 w2 a ca pa qa (fun j => f (384 + j))) (hk : Keeps (· = a) w w2) (hc : Cel w2 w.heap.size 109 zc)
    (hok : (mkFrm r fs b Q B al f ah).Ok) (hv : v = .tuple #[.agg #[.bool b, .int .i64 Q, .slice (some ⟨r1, 0, none⟩) 512 512, .slice (some ⟨r2, 0, none⟩) 21 21, .slice (ahA (if r then none else o)) (ahN (if r then none else o)) (ahN (if r then none else o))], .int .i64 0])
    (K : Keeps (· = w.heap.size) w2 W) : MadePost r fs b Q B a ca pa qa al f ah w (.returned v) W := by
  have KK : Keeps (· = a) w W := hk.then_ K fun j hj => .inr (by omega)
  refine ⟨r1, r2, if r then none else o, by rw [hv], ⟨hok, ?_, ?_, ?_⟩, ?_, KK⟩
  · obtain ⟨cs, y⟩ := hx.cel
    exact Cel.keeps hx K (y.ne hc (by decide))
  · obtain ⟨cs, y⟩ := hl.cel
    exact Cel.keeps hl K (y.ne hc (by decide))
  · refine (hh.turn r).keeps KK fun q hq => ?_
    obtain ⟨cs, y⟩ := IFun.cel hq
    exact y.ne hA.1 (by decide)
  · exact ho.keeps hc (fun e => by have := hA.1.lt; omega) (by decide) (by decide) K
set_option maxHeartbeats 2000000 in
set_option maxRecDepth 100000 in
theorem cFrame_any (r fs b : Bool) (Q : Int) (B : Nat) (g a s x ca pa qa : Nat) (P R BB : Int) (o : Option Nat) (hv : Value) (al f ah : Nat → Int) (w : World) (hq : 1 ≤ Q ∧ Q ≤ 10) (hB : 32 ≤ B ∧ B ≤ 600) (hE : Cel w g 100 (codC Q BB a s P (.slice (ahA o) (ahN o) (ahN o)) hv R))
    (hA : OvAt 152 .i16 w a ca pa qa al) (hah : AhAt w fs o ah) (hf : IFun w x 51 .i16 512 f) (h0 : ∀ j, j < 128 → -32768 ≤ al j ∧ al j ≤ 32767) (h1 : ∀ j, j < 512 → -32768 ≤ f j ∧ f j ≤ 32767) :
    Calls Tryz.prog 43 #[.pointer (some ⟨g, 0, none⟩), .slice (some ⟨x, 0, none⟩) 512 512, .bool b, .bool r] w (MadePost r fs b Q B a ca pa qa al f ah w) := by
  cases r
  all_goals
    have HE := Lib.hid hE
    have HA := Lib.hid hA
    have HH := Lib.hid hah
    have HF := Lib.hid hf
    have H0 := Lib.hid h0
    have H1 := Lib.hid h1
    have HO : RowKit.Hid (∀ r', (mkFrm r' fs b Q B al f ah).Ok) := fun _ => mkFrm_ok hq hB
    have hga := Lib.hid (hE.ne hA.1 (by decide))
    have d2 : w.cell? ⟨g, 2, none⟩ = some (.pointer (some ⟨a, 0, none⟩)) := hE.cell 2
    have gl := hE.lt
    clear hE hA hah hf h0 h1
    obtain ⟨zc, hz⟩ : ∃ zc : Array Value, zc = #[.bool false, .int .i64 0, .slice none 0 0, .slice none 0 0, .slice none 0 0] := ⟨_, rfl⟩
    have HZ : RowKit.Hid (zc = #[.bool false, .int .i64 0, .slice none 0 0, .slice none 0 0, .slice none 0 0]) := hz
    have HB0 := Lib.hid (Below.alloc_new w (.cells #[.bool false, .int .i64 0, .slice none 0 0, .slice none 0 0, .slice none 0 0] 109))
    have HC0 : RowKit.Hid (Cel (w.alloc (.cells #[.bool false, .int .i64 0, .slice none 0 0, .slice none 0 0, .slice none 0 0] 109)) w.heap.size 109 zc) := by rw [hz]; exact Cel.new w _ _
    clear hz
    go_enter Tryz.func43, Tryz.ntmps43
    go_wp2_with (first
      | (go_at_call 74; go_loud (refine (anaLines_any a ca pa qa x al f b _ (HA.out.below HB0.out) (HF.out.below HB0.out HF.out.lt) H0.out H1.out).mono ?_); rintro e w1 ⟨r1, rfl, i1, s1, o1, k1⟩; have HI1 := Lib.hid i1; have HS1 : RowKit.Hid (w.heap.size ≤ r1) := Nat.le_trans HB0.out.size s1; have HO1 := Lib.hid o1; have HK1 : RowKit.Hid (Keeps (· = a) w w1) := (Keeps.of_below HB0.out).trans k1; have HC1 : RowKit.Hid (Cel w1 w.heap.size 109 zc) := HC0.out.keeps k1 (fun e => by have := HA.out.1.lt; omega); clear i1 s1 o1 k1; clear d2)
      | (go_at_call 75; go_loud (refine (fCeil_any r1 512 (linesF b (allF al f)) _ HI1.out (fun i => linesF_bd _ _ i) (by decide) (by decide)).mono ?_); rintro e w2 ⟨r2, rfl, i2, s2, b2⟩; have HI2 : RowKit.Hid (∀ r', CutAt w2 r2 (mkFrm r' fs b Q B al f ah).l) := fun _ => ceil_cut i2; have HI1b := Lib.hid (HI1.out.below b2 HI1.out.lt); have HO2 := Lib.hid (HO1.out.below b2); have HK2 : RowKit.Hid (Keeps (· = a) w w2) := HK1.out.trans (Keeps.of_below b2); have HC2 := Lib.hid (HC1.out.below b2); clear i2 s2 b2; have f0 : w2.cell? ⟨g, 0, none⟩ = some (.int .i64 Q) := (HE.out.keeps HK2.out hga.out).cell 0; have f5 : w2.cell? ⟨g, 5, none⟩ = some (.slice (ahA o) (ahN o) (ahN o)) := (HE.out.keeps HK2.out hga.out).cell 5; have gl2 : g < w2.heap.size := Nat.lt_of_lt_of_le gl HK2.out.size; have HCz : RowKit.Hid (Cel w2 w.heap.size 109 #[.bool false, .int .i64 0, .slice none 0 0, .slice none 0 0, .slice none 0 0]) := (by rw [← HZ.out]; exact HC2.out); have cl2 := HCz.out.lt; have p0 : w2.cell? ⟨w.heap.size, 0, none⟩ = some (.bool false) := HCz.out.cell 0; have p1 : w2.cell? ⟨w.heap.size, 1, none⟩ = some (.int .i64 0) := HCz.out.cell 1; have p2 : w2.cell? ⟨w.heap.size, 2, none⟩ = some (.slice none 0 0) := HCz.out.cell 2; have p3 : w2.cell? ⟨w.heap.size, 3, none⟩ = some (.slice none 0 0) := HCz.out.cell 3; have p4 : w2.cell? ⟨w.heap.size, 4, none⟩ = some (.slice none 0 0) := HCz.out.cell 4; have z0 := HCz.out.frozen 0; have z1 := HCz.out.frozen 1; have z2 := HCz.out.frozen 2; have z3 := HCz.out.frozen 3; have z4 := HCz.out.frozen 4))
    refine bodyPost_ret (results_cell2 rfl rfl rfl (run_loadVar_row _ w.heap.size _ _ _ (0, 0) _ ((((((HCz.out.set_ 0 _).set_ 1 _).set_ 2 _).set_ 3 _).set_ 4 _).alloc _) Tryz.underlying109 rfl infoC_frame)) rfl ?_
    exact made_end HA.out HH.out HI1b.out (HI2.out _) HO2.out HK2.out HCz.out (HO.out _) rfl ((((((Keeps.set1 _).trans (Keeps.set1 _)).trans (Keeps.set1 _)).trans (Keeps.set1 _)).trans (Keeps.set1 _)).alloc _)
end Go.Proofs.YtobhoecmmpijgaaGreat

/- An encoder's state, and how a frame leaves it. -/
namespace Go.Proofs.YtobhoecmmpijgaaGreat
open Go Go.RowKit
set_option linter.unusedVariables false
set_option linter.unusedSimpArgs false

/-- What an encoder keeps. -/
structure S13 where
  P : Int
  fs : Bool
  ah : Nat → Int
  al : Nat → Int
  left : Nat → Int
  hd : Option (Nat → Int)
  R : Int
structure S13.Ok (S : S13) : Prop where
  P : 0 ≤ S.P ∧ S.P ≤ 32768
  al : ∀ j, j < 128 → -32768 ≤ S.al j ∧ S.al j ≤ 32767
  left : ∀ j, j < 128 → (S.left j).natAbs ≤ 1073741000
noncomputable def S13.F (S : S13) (Q : Int) (B : Nat) (f : Nat → Int) (r : Bool) : Frm := mkFrm r S.fs (briefF S.P f) Q B S.al f S.ah
noncomputable def S13.next (S : S13) (Q : Int) (B : Nat) (f : Nat → Int) (n : Int) (r : Bool) : S13 :=
  ⟨peakQ f 3, false, (S.F Q B f r).l, fun j => f (384 + j), leftF (briefF S.P f) ((S.F Q B f r).held n), some (samplesF (briefF S.P f) ((S.F Q B f r).held n) S.left), (S.F Q B f r).reach⟩
def s13Zero : S13 := ⟨0, true, fun _ => 0, fun _ => 0, fun _ => 0, none, 0⟩
theorem s13Zero_ok : s13Zero.Ok := ⟨by decide, fun _ _ => by show (-32768 : Int) ≤ 0 ∧ (0 : Int) ≤ 32767; decide, fun _ _ => by show (0 : Int).natAbs ≤ 1073741000; decide⟩
theorem S13.F_ok (S : S13) {Q : Int} {B : Nat} (hq : 1 ≤ Q ∧ Q ≤ 10) (hB : 32 ≤ B ∧ B ≤ 600) (f : Nat → Int) (r : Bool) : (S.F Q B f r).Ok := mkFrm_ok hq hB
theorem S13.Ok.next {S : S13} {f : Nat → Int} (Q : Int) (B : Nat) (hf : ∀ i, i < 512 → -32768 ≤ f i ∧ f i ≤ 32767) (n : Int) (r : Bool) : (S.next Q B f n r).Ok :=
  ⟨peakQ_bd hf (by decide), fun j hj => hf _ (by omega), fun j hj => leftF_abs (fun i _ => by have := (S.F Q B f r).held_bd n i; omega) _ hj⟩
def HdAt (w : World) (hv : Value) : Option (Nat → Int) → Prop
  | none => hv = .slice none 0 0
  | some H => ∃ r, hv = .slice (some ⟨r, 0, none⟩) 512 512 ∧ IFun w r 51 .i16 512 H
structure CodIn (w : World) (g a s ca pa qa cs ps qs : Nat) (o : Option Nat) (hv : Value) (Q : Int) (B : Nat) (S : S13) : Prop where
  e : Cel w g 100 (codC Q B a s S.P (.slice (ahA o) (ahN o) (ahN o)) hv S.R)
  a : OvAt 152 .i16 w a ca pa qa S.al
  s : OvAt 155 .i32 w s cs ps qs S.left
  h : AhAt w S.fs o S.ah
  d : HdAt w hv S.hd
def CodAt (w : World) (g a s : Nat) (Q : Int) (B : Nat) (S : S13) : Prop := ∃ ca pa qa cs ps qs o hv, CodIn w g a s ca pa qa cs ps qs o hv Q B S
def EncodePost (g a s : Nat) (Q : Int) (B : Nat) (S : S13) (f : Nat → Int) (n : Int) (r : Bool) (w : World) (e : Ending) (w' : World) : Prop :=
  ∃ rr cp, e = .returned (.tuple #[.slice (some ⟨rr, 0, none⟩) (S.F Q B f r).bytes.length cp, .bool (r || S.fs), .int .i64 0]) ∧ IntsAt w' w'.heap.size .u8 (some ⟨rr, 0, none⟩) (S.F Q B f r).bytes.length (S.F Q B f r).bytes ∧
    CodAt w' g a s Q B (S.next Q B f n r) ∧ Keeps (fun j => j = g ∨ j = a ∨ j = s) w w'
structure EcMid (g a s ca pa qa cs ps qs k lb c : Nat) (o' : Option Nat) (cv hv : Value) (Q : Int) (B : Nat) (P R : Int) (left : Nat → Int) (F : Frm) (al' : Nat → Int) (pk : Array Value) (w : World) (q : Nat) (W : World) : Prop where
  mf : Cel W q 109 (frC F lb c o')
  mF : FrAt F W lb c o'
  ma : OvAt 152 .i16 W a ca pa qa al'
  me : Cel W g 100 (codC Q B a s P cv hv R)
  mp : Cel W k 106 pk
  ms : OvAt 155 .i32 W s cs ps qs left
  mw : Keeps (· = a) w W
theorem EcMid.now {g a s ca pa qa cs ps qs k lb c : Nat} {o' : Option Nat} {cv hv : Value} {Q : Int} {B : Nat} {P R : Int} {left : Nat → Int} {F : Frm} {al' : Nat → Int} {pk : Array Value} {w : World} {q : Nat} {W W' : World}
    (h : EcMid g a s ca pa qa cs ps qs k lb c o' cv hv Q B P R left F al' pk w q W) (b : Below W.heap.size W W') : EcMid g a s ca pa qa cs ps qs k lb c o' cv hv Q B P R left F al' pk w q W' :=
  ⟨h.mf.below b, h.mF.below b, h.ma.below b, h.me.below b, h.mp.below b, h.ms.below b, h.mw.trans (Keeps.of_below b)⟩
theorem EcMid.drew {g a s ca pa qa cs ps qs k lb c : Nat} {o' : Option Nat} {cv hv : Value} {Q : Int} {B : Nat} {P R : Int} {left : Nat → Int} {F : Frm} {al' : Nat → Int} {pk : Array Value} {w : World} {q : Nat} {W : World}
    (h : EcMid g a s ca pa qa cs ps qs k lb c o' cv hv Q B P R left F al' pk w q W) : EcMid g a s ca pa qa cs ps qs k lb c o' cv hv Q B P R left F al' pk w q W.drew :=
  ⟨h.mf, ⟨h.mF.ok, h.mF.x, h.mF.l, h.mF.a⟩, h.ma, h.me, h.mp, h.ms, h.mw.drewN 1⟩
theorem ec_mid {g a s ca pa qa cs ps qs k lb c : Nat} {o' : Option Nat} {cv hv : Value} {Q : Int} {B : Nat} {P R : Int} {left : Nat → Int} {F : Frm} {al' : Nat → Int} {pk : Array Value} {w : World} {q : Nat} {w4 W : World}
    (hF : FrAt F w4 lb c o') (hA : OvAt 152 .i16 w4 a ca pa qa al') (hE : Cel w4 g 100 (codC Q B a s P cv hv R)) (hP : Cel w4 k 106 pk) (hS : OvAt 155 .i32 w4 s cs ps qs left)
    (hI : ∀ (j : Nat) (t : TypeId) (vs : Array Value), Cel w4 j t vs → t ≠ 109 → Cel W j t vs) (hO : ∀ (t : TypeId) (kk : IntKind) (a c p q : Nat) (f : Nat → Int), OvAt t kk w4 a c p q f → t ≠ 109 → OvAt t kk W a c p q f)
    (hfr : Cel W q 109 (frC F lb c o')) (hK : Keeps (· = a) w W) : EcMid g a s ca pa qa cs ps qs k lb c o' cv hv Q B P R left F al' pk w q W := by
  refine ⟨hfr, ⟨hF.ok, hI _ _ _ hF.x (by decide), hI _ _ _ hF.l (by decide), ?_⟩, hO _ _ _ _ _ _ _ hA (by decide), hI _ _ _ hE (by decide), hI _ _ _ hP (by decide), hO _ _ _ _ _ _ _ hS (by decide), hK⟩
  rcases hF.a with h | ⟨h1, h2, r, h3, h4⟩
  · exact .inl h
  · exact .inr ⟨h1, h2, r, h3, hI _ _ _ h4 (by decide)⟩
theorem ec_old {w4 W : World} {q : Nat} {zc : Array Value} (hz : Cel w4 q 109 zc) (K : Keeps (· = q) w4 W) :
    (∀ (j : Nat) (t : TypeId) (vs : Array Value), Cel w4 j t vs → t ≠ 109 → Cel W j t vs) ∧ (∀ (t : TypeId) (kk : IntKind) (a c p q : Nat) (f : Nat → Int), OvAt t kk w4 a c p q f → t ≠ 109 → OvAt t kk W a c p q f) :=
  ⟨fun j t vs h ht => h.keeps K (h.ne hz ht), fun t kk a c p q' f h ht => h.keeps hz (h.1.ne hz ht) (by decide) (by decide) K⟩
theorem ec_new {w4 W : World} (b : Below w4.heap.size w4 W) :
    (∀ (j : Nat) (t : TypeId) (vs : Array Value), Cel w4 j t vs → t ≠ 109 → Cel W j t vs) ∧ (∀ (t : TypeId) (kk : IntKind) (a c p q : Nat) (f : Nat → Int), OvAt t kk w4 a c p q f → t ≠ 109 → OvAt t kk W a c p q f) :=
  ⟨fun j t vs h _ => h.below b, fun t kk a c p q' f h _ => h.below b⟩
theorem OvAt.keepsF {t : TypeId} {k : IntKind} {w w' : World} {s c p q : Nat} {f : Nat → Int} {F : Nat → Prop} (h : OvAt t k w s c p q f) (hk : Keeps F w w') (hs : ¬ F s) (hF : ∀ j, F j → ∃ t' cs, Cel w j t' cs ∧ t' ≠ 222 ∧ t' ≠ 220) : OvAt t k w' s c p q f := by
  have n : ∀ {g c m : Nat}, TrAt w g c m → ¬ F g ∧ ¬ F c := fun ht => ⟨fun e => by obtain ⟨t', cs, y, h1, h2⟩ := hF _ e; exact (ht.ne y h1 h2).1 rfl, fun e => by obtain ⟨t', cs, y, h1, h2⟩ := hF _ e; exact (ht.ne y h1 h2).2 rfl⟩
  exact ⟨h.1.keeps hk hs, h.2.1.keeps hk (n h.2.1).1 (n h.2.1).2, h.2.2.keeps hk (n h.2.2).1 (n h.2.2).2⟩
theorem ints_ne8 {w : World} {B len r m : Nat} {b : List Int} {t : TypeId} {cs : Array Value} {v0 : Value} (h : IntsAt w B .u8 (some ⟨r, 0, none⟩) len b) (h0 : 0 < len) (k : Cel w m t cs) (hc : cs[0]? = some v0) (hv : ∀ x, v0 ≠ .int .u8 x) : r ≠ m := by
  rintro rfl
  obtain ⟨b', off, e, _, _, hcell⟩ := h.at_ h0
  injection e with e
  injection e with e1 e2
  subst e1
  subst e2
  have c := k.cell 0
  rw [hc] at c
  rw [show 0 + 0 = 0 from rfl, c] at hcell
  injection hcell with e
  exact hv _ e
/-- The end. -/
theorem ec_end {g a s ca pa qa cs ps qs k lb c q hd rr cp : Nat} {o o' : Option Nat} {hv : Value} {Q : Int} {B : Nat} {S : S13} {f : Nat → Int} {n : Int} {r b : Bool} {pk : Array Value} {w W w6 w7 : World} {p3 : Int} {v : Value}
    (hb : briefF S.P f = b) (hp : peakQ f 3 = p3) (hM : EcMid g a s ca pa qa cs ps qs k lb c o' (.slice (ahA o) (ahN o) (ahN o)) hv Q B S.P S.R S.left (mkFrm r S.fs b Q B S.al f S.ah) (fun j => f (384 + j)) pk w q W) (hne : g ≠ a ∧ g ≠ s ∧ a ≠ s)
    (hE : Cel w6 g 100 (codC Q B a s S.P (.slice (ahA o) (ahN o) (ahN o)) (.slice (some ⟨hd, 0, none⟩) 512 512) (mkFrm r S.fs b Q B S.al f S.ah).reach)) (hd6 : IFun w6 hd 51 .i16 512 (samplesF b ((mkFrm r S.fs b Q B S.al f S.ah).held n) S.left)) (hS6 : OvAt 155 .i32 w6 s cs ps qs (leftF b ((mkFrm r S.fs b Q B S.al f S.ah).held n)))
    (hK6 : Keeps (fun j => j = g ∨ j = s) W w6) (hi : IntsAt W W.heap.size .u8 (some ⟨rr, 0, none⟩) (mkFrm r S.fs b Q B S.al f S.ah).bytes.length (mkFrm r S.fs b Q B S.al f S.ah).bytes)
    (b7 : Below ((w6.setCell ⟨g, 4, none⟩ (.int .i64 p3)).setCell ⟨g, 5, none⟩ (.slice (some ⟨c, 0, none⟩) 21 21)).heap.size ((w6.setCell ⟨g, 4, none⟩ (.int .i64 p3)).setCell ⟨g, 5, none⟩ (.slice (some ⟨c, 0, none⟩) 21 21)) w7)
    (hv7 : v = .tuple #[.slice (some ⟨rr, 0, none⟩) (mkFrm r S.fs b Q B S.al f S.ah).bytes.length cp, .bool (r || S.fs), .int .i64 0]) : EncodePost g a s Q B S f n r w (.returned v) w7 := by
  have eF : S.F Q B f r = mkFrm r S.fs b Q B S.al f S.ah := by unfold S13.F; rw [hb]
  have eN : S.next Q B f n r = ⟨p3, false, (mkFrm r S.fs b Q B S.al f S.ah).l, fun j => f (384 + j), leftF b ((mkFrm r S.fs b Q B S.al f S.ah).held n), some (samplesF b ((mkFrm r S.fs b Q B S.al f S.ah).held n) S.left), (mkFrm r S.fs b Q B S.al f S.ah).reach⟩ := by unfold S13.next; rw [eF, hb, hp]
  have KG6 : Keeps (· = g) w6 w7 := ((Keeps.set1 _).trans (Keeps.set1 _)).trans (Keeps.of_below b7)
  have KG : Keeps (fun j => j = g ∨ j = s) W w7 := hK6.trans (KG6.mono fun j hj => .inl hj)
  obtain ⟨n1, n2, n3⟩ := hne
  have ty : ∀ j, (j = g ∨ j = s) → ∃ t' vs, Cel W j t' vs ∧ t' ≠ 222 ∧ t' ≠ 220 := by
    rintro j (rfl | rfl)
    · exact ⟨_, _, hM.me, by decide, by decide⟩
    · exact ⟨_, _, hM.ms.1, by decide, by decide⟩
  have nt : ∀ {j : Nat} {t : TypeId} {vs : Array Value}, Cel W j t vs → t ≠ 100 → t ≠ 155 → ¬ (j = g ∨ j = s) := by
    rintro j t vs h h1 h2 (rfl | rfl)
    · exact h.ne hM.me h1 rfl
    · exact h.ne hM.ms.1 h2 rfl
  refine ⟨rr, cp, by rw [hv7, eF], ?_, ?_, ?_⟩
  · rw [eF]
    refine (hi.keeps KG (Nat.le_refl _) fun r off e h0 _ c => ?_).grow KG.size
    injection e with e
    injection e with e
    subst e
    rcases c with c | c
    · exact ints_ne8 hi h0 hM.me (v0 := .int .i64 Q) rfl (by intro x e; injection e with e; cases e) c
    · exact ints_ne8 hi h0 hM.ms.1 (v0 := .pointer (some ⟨cs, 0, none⟩)) rfl (by intro x e; cases e) c
  · rw [eN]
    refine ⟨ca, pa, qa, cs, ps, qs, some c, .slice (some ⟨hd, 0, none⟩) 512 512, ⟨Cel.below ((hE.set_ 4 _).set_ 5 _) b7, hM.ma.keepsF KG (by rintro (e | e) <;> omega) ty, hS6.keeps hE (fun e => n2 e.symm) (by decide) (by decide) KG6, .inr ⟨rfl, hM.mF.ok.l, c, rfl, ?_⟩, hd, rfl, ?_⟩⟩
    · exact Cel.keeps hM.mF.l KG (nt hM.mF.l (by decide) (by decide))
    · exact Cel.keeps hd6 KG6 (Cel.ne hd6 hE (by decide))
  · exact (hM.mw.mono fun j hj => .inr (.inl hj)).trans (KG.mono fun j hj => hj.elim .inl fun c => .inr (.inr c))
end Go.Proofs.YtobhoecmmpijgaaGreat

/- An encoder by the document: its state; New; lines held. -/
namespace Go.Proofs.YtobhoecmmpijgaaGreat
open Go Go.RowKit
set_option linter.unusedVariables false
set_option linter.unusedSimpArgs false

/-- A block of a type. -/
def Typ (w : World) (b : Nat) (t : TypeId) : Prop := ∃ cs fr, w.heap[b]? = some (.cells cs t fr)
theorem Typ.lt {w : World} {b : Nat} {t : TypeId} (h : Typ w b t) : b < w.heap.size := by
  obtain ⟨cs, fr, h⟩ := h
  exact (Array.getElem?_eq_some_iff.1 h).1
theorem Typ.ne {w : World} {b b' : Nat} {t t' : TypeId} (h : Typ w b t) (h' : Typ w b' t') (hne : t ≠ t') : b ≠ b' := by
  rintro rfl
  obtain ⟨cs, fr, h⟩ := h
  obtain ⟨cs', fr', h'⟩ := h'
  rw [h] at h'
  injection h' with h'
  injection h' with _ e
  exact hne e
theorem Cel.typ {w : World} {b : Nat} {t : TypeId} {cs : Array Value} (h : Cel w b t cs) : Typ w b t := ⟨cs, (0, 0), h⟩
theorem Typ.keep {w w' : World} {b : Nat} {t : TypeId} (h : Typ w b t) (hk : w'.heap[b]? = w.heap[b]?) : Typ w' b t := by
  obtain ⟨cs, fr, h⟩ := h
  exact ⟨cs, fr, hk.trans h⟩
theorem own_typ {w : World} {base e n : Nat} {v : Value} {xs : List Value} (h : w.ownsRow base e 1 v n xs) (h0 : 0 < n) : ∃ b cap, v = .slice (some ⟨b, 0, none⟩) n cap ∧ n ≤ cap ∧ cap ≤ 9223372036854775807 ∧ Typ w b e ∧ base ≤ b := by
  rcases h.2 with ⟨rfl, hn⟩ | ⟨g', cap, cur, rfl, hb, hh, h2, h3, h4⟩
  · omega
  · exact ⟨g', cap, rfl, h2, by unfold maxLen at h3; omega, ⟨_, _, hh⟩, hb⟩
/-- Numbers that lie in a row of a type. -/
def NumAt (w : World) (b off n : Nat) (t : TypeId) (k : IntKind) (f : Nat → Int) : Prop := Typ w b t ∧ ∀ j, j < n → w.cell? ⟨b, off + j, none⟩ = some (.int k (f j))
theorem NumAt.keep {w w' : World} {b off n : Nat} {t : TypeId} {k : IntKind} {f : Nat → Int} (h : NumAt w b off n t k f) (hk : w'.heap[b]? = w.heap[b]?) : NumAt w' b off n t k f :=
  ⟨h.1.keep hk, fun j hj => (World.cell?_of_block (a := ⟨b, off + j, none⟩) hk).trans (h.2 j hj)⟩
theorem NumAt.below {w w' : World} {b off n : Nat} {t : TypeId} {k : IntKind} {f : Nat → Int} (h : NumAt w b off n t k f) (hb : Below w.heap.size w w') : NumAt w' b off n t k f := h.keep (hb.block b h.1.lt)
theorem NumAt.keeps {F : Nat → Prop} {w w' : World} {b off n : Nat} {t : TypeId} {k : IntKind} {f : Nat → Int} (h : NumAt w b off n t k f) (hk : Keeps F w w') (hn : ¬ F b) : NumAt w' b off n t k f := h.keep (hk.block b h.1.lt hn)
theorem NumAt.fn {w : World} {b off n : Nat} {t : TypeId} {k : IntKind} {f : Nat → Int} (h : NumAt w b off n t k f) : FnAt w w.heap.size k (some ⟨b, off, none⟩) n f := ⟨b, off, rfl, h.1.lt, h.2⟩
theorem NumAt.ints {w : World} {b off n : Nat} {t : TypeId} {k : IntKind} {f : Nat → Int} (h : NumAt w b off n t k f) (hn : n ≤ 9223372036854775807) : IntsAt w w.heap.size k (some ⟨b, off, none⟩) n (tabF n f) :=
  ⟨tabF_len _ _, .inr ⟨b, off, rfl, h.1.lt, hn, fun j hj => by rw [h.2 j hj, tabF_getD _ hj]⟩⟩
theorem own_num {w : World} {base e n : Nat} {v : Value} {k : IntKind} {f : Nat → Int} (h : w.ownsRow base e 1 v n ((tabF n f).map (Value.int k))) (h0 : 0 < n) : ∃ b cap, v = .slice (some ⟨b, 0, none⟩) n cap ∧ n ≤ cap ∧ cap ≤ 9223372036854775807 ∧ NumAt w b 0 n e k f ∧ base ≤ b := by
  obtain ⟨b, cap, rfl, h1, h2, h3, h4⟩ := own_typ h h0
  refine ⟨b, cap, rfl, h1, h2, ⟨h3, fun j hj => ?_⟩, h4⟩
  obtain ⟨b', off, e1, _, _, hc⟩ := (own_ints' h).at_ hj
  injection e1 with e1
  injection e1 with e1 e2
  subst e1
  subst e2
  rw [hc, tabF_getD _ hj]
theorem IFun.num {w : World} {g n : Nat} {t : TypeId} {k : IntKind} {f : Nat → Int} (h : IFun w g t k n f) (off m : Nat) (hm : off + m ≤ n) : NumAt w g off m t k (fun j => f (off + j)) := ⟨⟨_, _, h⟩, fun j hj => h.cell (by omega)⟩

/-! ### The state -/
/-- The samples ahead, each sixteen times. -/
def AllAt (w : World) (va : Value) (al : Nat → Int) : Prop := ∃ b cap, va = .slice (some ⟨b, 0, none⟩) 640 cap ∧ 640 ≤ cap ∧ cap ≤ 9223372036854775807 ∧ NumAt w b 512 128 2 .i64 (fun j => al j * 16)
def LeftAt (w : World) (vl : Value) (left : Nat → Int) : Prop := ∃ b off, vl = .slice (some ⟨b, off, none⟩) 128 128 ∧ NumAt w b off 128 2 .i64 left
def HrAt (w : World) (vh : Value) : Option (Nat → Int) → Prop
  | none => vh = .slice none 0 0
  | some H => ∃ b cap, vh = .slice (some ⟨b, 0, none⟩) 512 cap ∧ NumAt w b 0 512 2 .i64 H
structure RefIn (w : World) (g C : Nat) (va vl vh : Value) (o : Option Nat) (Q : Int) (B : Nat) (S : S13) : Prop where
  e : Cel w g 76 (rfC C va vl Q B S.P (.slice (ahA o) (ahN o) (ahN o)) vh S.R)
  c : IFun w C 2 .i64 1025 cosN
  a : AllAt w va S.al
  l : LeftAt w vl S.left
  h : AhAt w S.fs o S.ah
  d : HrAt w vh S.hd
def RefAt (w : World) (g : Nat) (Q : Int) (B : Nat) (S : S13) : Prop := ∃ C va vl vh o, RefIn w g C va vl vh o Q B S
/-- What is written elsewhere. -/
theorem RefAt.keeps {w w' : World} {g : Nat} {Q : Int} {B : Nat} {S : S13} {F : Nat → Prop} (h : RefAt w g Q B S) (hk : Keeps F w w')
    (hF : ∀ j, F j → ∃ t, Typ w j t ∧ t ≠ 76 ∧ t ≠ 2 ∧ t ≠ 3) : RefAt w' g Q B S := by
  obtain ⟨C, va, vl, vh, o, h⟩ := h
  have n1 : ∀ {j : Nat}, Typ w j 76 → ¬ F j := fun hc hf => by obtain ⟨t', c', x⟩ := hF _ hf; exact hc.ne c' x.1.symm rfl
  have n2 : ∀ {j : Nat}, Typ w j 2 → ¬ F j := fun hc hf => by obtain ⟨t', c', x⟩ := hF _ hf; exact hc.ne c' x.2.1.symm rfl
  have n3 : ∀ {j : Nat}, Typ w j 3 → ¬ F j := fun hc hf => by obtain ⟨t', c', x⟩ := hF _ hf; exact hc.ne c' x.2.2.symm rfl
  refine ⟨C, va, vl, vh, o, h.e.keeps hk (n1 (Cel.typ h.e)), Cel.keeps h.c hk (n2 (Cel.typ h.c)), ?_, ?_, h.h.keeps hk (fun r hr => n3 (Cel.typ hr)), ?_⟩
  · obtain ⟨b, cap, e1, e2, e3, e4⟩ := h.a
    exact ⟨b, cap, e1, e2, e3, e4.keeps hk (n2 e4.1)⟩
  · obtain ⟨b, off, e1, e4⟩ := h.l
    exact ⟨b, off, e1, e4.keeps hk (n2 e4.1)⟩
  · have hd := h.d
    cases hh : S.hd with
    | none => rw [hh] at hd; exact hd
    | some H => rw [hh] at hd; obtain ⟨b, cap, e1, e4⟩ := hd; exact ⟨b, cap, e1, e4.keeps hk (n2 e4.1)⟩
theorem RefAt.below {w w' : World} {g : Nat} {Q : Int} {B : Nat} {S : S13} (h : RefAt w g Q B S) (b : Below w.heap.size w w') : RefAt w' g Q B S := h.keeps (F := fun _ => False) (Keeps.of_below b) fun _ c => c.elim
theorem RefAt.drewN {w : World} {g : Nat} {Q : Int} {B : Nat} {S : S13} (h : RefAt w g Q B S) (n : Nat) : RefAt (w.drewN n) g Q B S := h.below (Below.drewN' (Below.refl _ _) n)
theorem RefAt.typ {w : World} {g : Nat} {Q : Int} {B : Nat} {S : S13} (h : RefAt w g Q B S) : ∃ cs, Cel w g 76 cs := by
  obtain ⟨C, va, vl, vh, o, h⟩ := h
  exact ⟨_, h.e⟩

/-! ### Lines held -/
theorem infoC_i64 : (Tryz.prog.info? 2).map (fun i => (i.zero, i.size, i.bytes)) = some (some (.int .i64 0), 1, 8) := by kernel_rfl
def HeldRPost (f : Nat → Int) (w : World) (e : Ending) (w' : World) : Prop := ∃ v, e = .returned v ∧ w'.ownsRow w.heap.size 2 1 v 512 ((tabF 512 (heldF f)).map (Value.int .i64)) ∧ Below w.heap.size w w'
set_option maxHeartbeats 1000000 in
set_option maxRecDepth 100000 in
theorem rHeld_any (x off cap : Nat) (f : Nat → Int) (w : World) (hx : x < w.heap.size) (hf : ∀ j, j < 512 → w.cell? ⟨x, off + j, none⟩ = some (.int .i64 (f j))) (hb : ∀ j, j < 512 → -2147483648 ≤ f j ∧ f j ≤ 2147483647) :
    Calls Tryz.prog 65 #[.slice (some ⟨x, off, none⟩) 512 cap] w (HeldRPost f w) := by
  have HF := Lib.hid hf
  have HFb := Lib.hid hb
  have H0 : RowKit.Hid (w.ownsRow w.heap.size 2 1 (.slice none 0 0) 0 ((tabF 0 (heldF f)).map (Value.int .i64)) ∧ Below w.heap.size w w) := ⟨World.ownsRow_nil w w.heap.size 2 1, Below.refl _ _⟩
  clear hf hb
  go_enter Tryz.func65, Tryz.ntmps65
  go_wp2
  go_loopw [3, 4] (fun v i wr => ∃ (k : Nat) (u : Value), u = v ∧ k ≤ 512 ∧ i = .int .i64 (k : Int) ∧ RowKit.Hid (wr.ownsRow w.heap.size 2 1 u k ((tabF k (heldF f)).map (Value.int .i64)) ∧ Below w.heap.size w wr)) (fun _ i _ => 512 - (intOf i).toNat)
  case atStart => exact ⟨0, _, rfl, by omega, rfl, H0.out⟩
  case round =>
    obtain ⟨k, u, rfl, hk, rfl, H⟩ := hrel
    clear H0
    by_cases hlt : k < 512
    · have hsz := H.out.2.size
      have k1 := (H.out.2.cell (p := ⟨x, off + k, none⟩) hx).trans (HF.out k hlt)
      obtain ⟨y0, y1⟩ := HFb.out k hlt
      have HE : RowKit.Hid (tabF k (heldF f) ++ [heldF f k] = tabF (k + 1) (heldF f)) := tab_snoc _ _ _ rfl
      have HM := Lib.hid (heldF_max f k)
      generalize heldF f k = y at HE HM
      generalize f k = z at k1 y0 y1 HM
      have l1 : (k : Int) < 512 := by omega
      have HA : RowKit.Hid (∀ y, (wr.alloc (.cells #[.int .i64 y] 2)).ownsRow w.heap.size 2 1 u k ((tabF k (heldF f)).map (Value.int .i64))) := fun y => World.ownsRow.alloc H.out.1 _
      have HAB : RowKit.Hid (∀ y, Below w.heap.size w (wr.alloc (.cells #[.int .i64 y] 2))) := fun y => H.out.2.alloc hsz _
      have HSr : RowKit.Hid (∀ y, IntsAt (wr.alloc (.cells #[.int .i64 y] 2)) (wr.alloc (.cells #[.int .i64 y] 2)).heap.size .i64 (some ⟨wr.heap.size, 0, none⟩) 1 [y]) := fun y => lit_ints wr 2 .i64 [y] #[.int .i64 y] (0, 0) rfl (by simp)
      have HOB := Lib.hid (own_base H.out.1)
      clear H
      by_cases c1 : 33554431 < z
      · have e1 : RowKit.Hid (33554431 = y) := by show _ = _; have := HM.out; omega
        go_wp2_with (at_builtin; go_loud (refine append_ints rfl _ _ 50 rfl w.heap.size 2 .i64 8 Tryz.underlying50 infoC_i64 _ k (tabF k (heldF f)) rfl (HA.out _) (some ⟨wr.heap.size, 0, none⟩) 1 1 _ [_] rfl (HSr.out _) (by simp) (by unfold maxLen; omega) (by omega) (by simp; omega) ?_); intro v2 w2 hown hgrow _; have H2 : RowKit.Hid (w2.ownsRow w.heap.size 2 1 v2 (k + 1) ((tabF (k + 1) (heldF f)).map (Value.int .i64)) ∧ Below w.heap.size w w2) := ⟨by rw [← HE.out, ← e1.out]; exact hown, (HAB.out _).grown hgrow (by simp; omega) HOB.out⟩; clear hown hgrow)
        go_roundw
        case rel => exact ⟨k + 1, v2, rfl, by omega, by go_num, H2.out⟩
        case measure => simp [intOf] <;> omega
      · by_cases c2 : z < -33554432
        · have e1 : RowKit.Hid (-33554432 = y) := by show _ = _; have := HM.out; omega
          go_wp2_with (at_builtin; go_loud (refine append_ints rfl _ _ 50 rfl w.heap.size 2 .i64 8 Tryz.underlying50 infoC_i64 _ k (tabF k (heldF f)) rfl (HA.out _) (some ⟨wr.heap.size, 0, none⟩) 1 1 _ [_] rfl (HSr.out _) (by simp) (by unfold maxLen; omega) (by omega) (by simp; omega) ?_); intro v2 w2 hown hgrow _; have H2 : RowKit.Hid (w2.ownsRow w.heap.size 2 1 v2 (k + 1) ((tabF (k + 1) (heldF f)).map (Value.int .i64)) ∧ Below w.heap.size w w2) := ⟨by rw [← HE.out, ← e1.out]; exact hown, (HAB.out _).grown hgrow (by simp; omega) HOB.out⟩; clear hown hgrow)
          go_roundw
          case rel => exact ⟨k + 1, v2, rfl, by omega, by go_num, H2.out⟩
          case measure => simp [intOf] <;> omega
        · have e1 : RowKit.Hid (z = y) := by show _ = _; have := HM.out; omega
          go_wp2_with (at_builtin; go_loud (refine append_ints rfl _ _ 50 rfl w.heap.size 2 .i64 8 Tryz.underlying50 infoC_i64 _ k (tabF k (heldF f)) rfl (HA.out _) (some ⟨wr.heap.size, 0, none⟩) 1 1 _ [_] rfl (HSr.out _) (by simp) (by unfold maxLen; omega) (by omega) (by simp; omega) ?_); intro v2 w2 hown hgrow _; have H2 : RowKit.Hid (w2.ownsRow w.heap.size 2 1 v2 (k + 1) ((tabF (k + 1) (heldF f)).map (Value.int .i64)) ∧ Below w.heap.size w w2) := ⟨by rw [← HE.out, ← e1.out]; exact hown, (HAB.out _).grown hgrow (by simp; omega) HOB.out⟩; clear hown hgrow)
          go_roundw
          case rel => exact ⟨k + 1, v2, rfl, by omega, by go_num, H2.out⟩
          case measure => simp [intOf] <;> omega
    · obtain rfl : k = 512 := by omega
      go_wp2
      go_ret
      exact ⟨_, rfl, H.out⟩
end Go.Proofs.YtobhoecmmpijgaaGreat
