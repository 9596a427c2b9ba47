/- Plain facts, and what functions give, for the proofs of this seat: several texts in one, each with its own first remark. -/
import Derived.Test.YtmgfkdmjgjlkjaaGreatCz

namespace Go.Proofs.YtmgfkdmjgjlkjaaGreat
open Go Go.RowKit
set_option linter.unusedVariables false
set_option linter.unusedSimpArgs false
structure S13 where
  P : Int
  fs : Bool
  ah : Nat → Int
  al : Nat → Int
  left : Nat → Int
  hd : Option (Nat → Int)
  R : Int
structure S13.Ok (S : S13) : Prop where
  P : 0 ≤ S.P ∧ S.P ≤ 32768
  al : ∀ j, j < 128 → -32768 ≤ S.al j ∧ S.al j ≤ 32767
  left : ∀ j, j < 128 → (S.left j).natAbs ≤ 1073741000
noncomputable def S13.F (S : S13) (Q : Int) (B : Nat) (f : Nat → Int) (r : Bool) : Frm := mkFrm r S.fs (briefF S.P f) Q B S.al f S.ah
noncomputable def S13.next (S : S13) (Q : Int) (B : Nat) (f : Nat → Int) (n : Int) (r : Bool) : S13 :=
  ⟨peakQ f 3, false, (S.F Q B f r).l, fun j => f (384 + j), leftF (briefF S.P f) ((S.F Q B f r).held n), some (samplesF (briefF S.P f) ((S.F Q B f r).held n) S.left), (S.F Q B f r).reach⟩
def s13Zero : S13 := ⟨0, true, fun _ => 0, fun _ => 0, fun _ => 0, none, 0⟩
theorem s13Zero_ok : s13Zero.Ok := ⟨by decide, fun _ _ => by show (-32768 : Int) ≤ 0 ∧ (0 : Int) ≤ 32767; decide, fun _ _ => by show (0 : Int).natAbs ≤ 1073741000; decide⟩
theorem S13.F_ok (S : S13) {Q : Int} {B : Nat} (hq : 1 ≤ Q ∧ Q ≤ 10) (hB : 32 ≤ B ∧ B ≤ 600) (f : Nat → Int) (r : Bool) : (S.F Q B f r).Ok := mkFrm_ok hq hB
theorem S13.Ok.next {S : S13} {f : Nat → Int} (Q : Int) (B : Nat) (hf : ∀ i, i < 512 → -32768 ≤ f i ∧ f i ≤ 32767) (n : Int) (r : Bool) : (S.next Q B f n r).Ok :=
  ⟨peakQ_bd hf (by decide), fun j hj => hf _ (by omega), fun j hj => leftF_abs (fun i _ => by have := (S.F Q B f r).held_bd n i; omega) _ hj⟩
def HdAt (w : World) (hv : Value) : Option (Nat → Int) → Prop
  | none => hv = .slice none 0 0
  | some H => ∃ r, hv = .slice (some ⟨r, 0, none⟩) 512 512 ∧ IFun w r 77 .i16 512 H
structure CodIn (w : World) (g a s ca pa qa cs ps qs : Nat) (o : Option Nat) (hv : Value) (Q : Int) (B : Nat) (S : S13) : Prop where
  e : Cel w g 115 (codC Q B a s S.P (.slice (ahA o) (ahN o) (ahN o)) hv S.R)
  a : OvAt 172 .i16 w a ca pa qa S.al
  s : OvAt 175 .i32 w s cs ps qs S.left
  h : AhAt w S.fs o S.ah
  d : HdAt w hv S.hd
def CodAt (w : World) (g a s : Nat) (Q : Int) (B : Nat) (S : S13) : Prop := ∃ ca pa qa cs ps qs o hv, CodIn w g a s ca pa qa cs ps qs o hv Q B S
def EncodePost (g a s : Nat) (Q : Int) (B : Nat) (S : S13) (f : Nat → Int) (n : Int) (r : Bool) (w : World) (e : Ending) (w' : World) : Prop :=
  ∃ rr cp, e = .returned (.tuple #[.slice (some ⟨rr, 0, none⟩) (S.F Q B f r).bytes.length cp, .bool (r || S.fs), .int .i64 0]) ∧ IntsAt w' w'.heap.size .u8 (some ⟨rr, 0, none⟩) (S.F Q B f r).bytes.length (S.F Q B f r).bytes ∧
    CodAt w' g a s Q B (S.next Q B f n r) ∧ Keeps (fun j => j = g ∨ j = a ∨ j = s) w w'
structure EcMid (g a s ca pa qa cs ps qs k lb c : Nat) (o' : Option Nat) (cv hv : Value) (Q : Int) (B : Nat) (P R : Int) (left : Nat → Int) (F : Frm) (al' : Nat → Int) (pk : Array Value) (w : World) (q : Nat) (W : World) : Prop where
  mf : Cel W q 120 (frC F lb c o')
  mF : FrAt F W lb c o'
  ma : OvAt 172 .i16 W a ca pa qa al'
  me : Cel W g 115 (codC Q B a s P cv hv R)
  mp : Cel W k 116 pk
  ms : OvAt 175 .i32 W s cs ps qs left
  mw : Keeps (· = a) w W
theorem EcMid.now {g a s ca pa qa cs ps qs k lb c : Nat} {o' : Option Nat} {cv hv : Value} {Q : Int} {B : Nat} {P R : Int} {left : Nat → Int} {F : Frm} {al' : Nat → Int} {pk : Array Value} {w : World} {q : Nat} {W W' : World}
    (h : EcMid g a s ca pa qa cs ps qs k lb c o' cv hv Q B P R left F al' pk w q W) (b : Below W.heap.size W W') : EcMid g a s ca pa qa cs ps qs k lb c o' cv hv Q B P R left F al' pk w q W' :=
  ⟨h.mf.below b, h.mF.below b, h.ma.below b, h.me.below b, h.mp.below b, h.ms.below b, h.mw.trans (Keeps.of_below b)⟩
theorem EcMid.drew {g a s ca pa qa cs ps qs k lb c : Nat} {o' : Option Nat} {cv hv : Value} {Q : Int} {B : Nat} {P R : Int} {left : Nat → Int} {F : Frm} {al' : Nat → Int} {pk : Array Value} {w : World} {q : Nat} {W : World}
    (h : EcMid g a s ca pa qa cs ps qs k lb c o' cv hv Q B P R left F al' pk w q W) : EcMid g a s ca pa qa cs ps qs k lb c o' cv hv Q B P R left F al' pk w q W.drew :=
  ⟨h.mf, ⟨h.mF.ok, h.mF.x, h.mF.l, h.mF.a⟩, h.ma, h.me, h.mp, h.ms, h.mw.drewN 1⟩
theorem ec_mid {g a s ca pa qa cs ps qs k lb c : Nat} {o' : Option Nat} {cv hv : Value} {Q : Int} {B : Nat} {P R : Int} {left : Nat → Int} {F : Frm} {al' : Nat → Int} {pk : Array Value} {w : World} {q : Nat} {w4 W : World}
    (hF : FrAt F w4 lb c o') (hA : OvAt 172 .i16 w4 a ca pa qa al') (hE : Cel w4 g 115 (codC Q B a s P cv hv R)) (hP : Cel w4 k 116 pk) (hS : OvAt 175 .i32 w4 s cs ps qs left)
    (hI : ∀ (j : Nat) (t : TypeId) (vs : Array Value), Cel w4 j t vs → t ≠ 120 → Cel W j t vs) (hO : ∀ (t : TypeId) (kk : IntKind) (a c p q : Nat) (f : Nat → Int), OvAt t kk w4 a c p q f → t ≠ 120 → OvAt t kk W a c p q f)
    (hfr : Cel W q 120 (frC F lb c o')) (hK : Keeps (· = a) w W) : EcMid g a s ca pa qa cs ps qs k lb c o' cv hv Q B P R left F al' pk w q W := by
  refine ⟨hfr, ⟨hF.ok, hI _ _ _ hF.x (by decide), hI _ _ _ hF.l (by decide), ?_⟩, hO _ _ _ _ _ _ _ hA (by decide), hI _ _ _ hE (by decide), hI _ _ _ hP (by decide), hO _ _ _ _ _ _ _ hS (by decide), hK⟩
  rcases hF.a with h | ⟨h1, h2, r, h3, h4⟩
  · exact .inl h
  · exact .inr ⟨h1, h2, r, h3, hI _ _ _ h4 (by decide)⟩
theorem ec_old {w4 W : World} {q : Nat} {zc : Array Value} (hz : Cel w4 q 120 zc) (K : Keeps (· = q) w4 W) :
    (∀ (j : Nat) (t : TypeId) (vs : Array Value), Cel w4 j t vs → t ≠ 120 → Cel W j t vs) ∧ (∀ (t : TypeId) (kk : IntKind) (a c p q : Nat) (f : Nat → Int), OvAt t kk w4 a c p q f → t ≠ 120 → OvAt t kk W a c p q f) :=
  ⟨fun j t vs h ht => h.keeps K (h.ne hz ht), fun t kk a c p q' f h ht => h.keeps hz (h.1.ne hz ht) (by decide) (by decide) K⟩
theorem ec_new {w4 W : World} (b : Below w4.heap.size w4 W) :
    (∀ (j : Nat) (t : TypeId) (vs : Array Value), Cel w4 j t vs → t ≠ 120 → Cel W j t vs) ∧ (∀ (t : TypeId) (kk : IntKind) (a c p q : Nat) (f : Nat → Int), OvAt t kk w4 a c p q f → t ≠ 120 → OvAt t kk W a c p q f) :=
  ⟨fun j t vs h _ => h.below b, fun t kk a c p q' f h _ => h.below b⟩
theorem OvAt.keepsF {t : TypeId} {k : IntKind} {w w' : World} {s c p q : Nat} {f : Nat → Int} {F : Nat → Prop} (h : OvAt t k w s c p q f) (hk : Keeps F w w') (hs : ¬ F s) (hF : ∀ j, F j → ∃ t' cs, Cel w j t' cs ∧ t' ≠ 234 ∧ t' ≠ 232) : OvAt t k w' s c p q f := by
  have n : ∀ {g c m : Nat}, TrAt w g c m → ¬ F g ∧ ¬ F c := fun ht => ⟨fun e => by obtain ⟨t', cs, y, h1, h2⟩ := hF _ e; exact (ht.ne y h1 h2).1 rfl, fun e => by obtain ⟨t', cs, y, h1, h2⟩ := hF _ e; exact (ht.ne y h1 h2).2 rfl⟩
  exact ⟨h.1.keeps hk hs, h.2.1.keeps hk (n h.2.1).1 (n h.2.1).2, h.2.2.keeps hk (n h.2.2).1 (n h.2.2).2⟩
theorem ints_ne8 {w : World} {B len r m : Nat} {b : List Int} {t : TypeId} {cs : Array Value} {v0 : Value} (h : IntsAt w B .u8 (some ⟨r, 0, none⟩) len b) (h0 : 0 < len) (k : Cel w m t cs) (hc : cs[0]? = some v0) (hv : ∀ x, v0 ≠ .int .u8 x) : r ≠ m := by
  rintro rfl
  obtain ⟨b', off, e, _, _, hcell⟩ := h.at_ h0
  injection e with e
  injection e with e1 e2
  subst e1
  subst e2
  have c := k.cell 0
  rw [hc] at c
  rw [show 0 + 0 = 0 from rfl, c] at hcell
  injection hcell with e
  exact hv _ e
theorem ec_end {g a s ca pa qa cs ps qs k lb c q hd rr cp : Nat} {o o' : Option Nat} {hv : Value} {Q : Int} {B : Nat} {S : S13} {f : Nat → Int} {n : Int} {r b : Bool} {pk : Array Value} {w W w6 w7 : World} {p3 : Int} {v : Value}
    (hb : briefF S.P f = b) (hp : peakQ f 3 = p3) (hM : EcMid g a s ca pa qa cs ps qs k lb c o' (.slice (ahA o) (ahN o) (ahN o)) hv Q B S.P S.R S.left (mkFrm r S.fs b Q B S.al f S.ah) (fun j => f (384 + j)) pk w q W) (hne : g ≠ a ∧ g ≠ s ∧ a ≠ s)
    (hE : Cel w6 g 115 (codC Q B a s S.P (.slice (ahA o) (ahN o) (ahN o)) (.slice (some ⟨hd, 0, none⟩) 512 512) (mkFrm r S.fs b Q B S.al f S.ah).reach)) (hd6 : IFun w6 hd 77 .i16 512 (samplesF b ((mkFrm r S.fs b Q B S.al f S.ah).held n) S.left)) (hS6 : OvAt 175 .i32 w6 s cs ps qs (leftF b ((mkFrm r S.fs b Q B S.al f S.ah).held n)))
    (hK6 : Keeps (fun j => j = g ∨ j = s) W w6) (hi : IntsAt W W.heap.size .u8 (some ⟨rr, 0, none⟩) (mkFrm r S.fs b Q B S.al f S.ah).bytes.length (mkFrm r S.fs b Q B S.al f S.ah).bytes)
    (b7 : Below ((w6.setCell ⟨g, 4, none⟩ (.int .i64 p3)).setCell ⟨g, 5, none⟩ (.slice (some ⟨c, 0, none⟩) 21 21)).heap.size ((w6.setCell ⟨g, 4, none⟩ (.int .i64 p3)).setCell ⟨g, 5, none⟩ (.slice (some ⟨c, 0, none⟩) 21 21)) w7)
    (hv7 : v = .tuple #[.slice (some ⟨rr, 0, none⟩) (mkFrm r S.fs b Q B S.al f S.ah).bytes.length cp, .bool (r || S.fs), .int .i64 0]) : EncodePost g a s Q B S f n r w (.returned v) w7 := by
  have eF : S.F Q B f r = mkFrm r S.fs b Q B S.al f S.ah := by unfold S13.F; rw [hb]
  have eN : S.next Q B f n r = ⟨p3, false, (mkFrm r S.fs b Q B S.al f S.ah).l, fun j => f (384 + j), leftF b ((mkFrm r S.fs b Q B S.al f S.ah).held n), some (samplesF b ((mkFrm r S.fs b Q B S.al f S.ah).held n) S.left), (mkFrm r S.fs b Q B S.al f S.ah).reach⟩ := by unfold S13.next; rw [eF, hb, hp]
  have KG6 : Keeps (· = g) w6 w7 := ((Keeps.set1 _).trans (Keeps.set1 _)).trans (Keeps.of_below b7)
  have KG : Keeps (fun j => j = g ∨ j = s) W w7 := hK6.trans (KG6.mono fun j hj => .inl hj)
  obtain ⟨n1, n2, n3⟩ := hne
  have ty : ∀ j, (j = g ∨ j = s) → ∃ t' vs, Cel W j t' vs ∧ t' ≠ 234 ∧ t' ≠ 232 := by
    rintro j (rfl | rfl)
    · exact ⟨_, _, hM.me, by decide, by decide⟩
    · exact ⟨_, _, hM.ms.1, by decide, by decide⟩
  have nt : ∀ {j : Nat} {t : TypeId} {vs : Array Value}, Cel W j t vs → t ≠ 115 → t ≠ 175 → ¬ (j = g ∨ j = s) := by
    rintro j t vs h h1 h2 (rfl | rfl)
    · exact h.ne hM.me h1 rfl
    · exact h.ne hM.ms.1 h2 rfl
  refine ⟨rr, cp, by rw [hv7, eF], ?_, ?_, ?_⟩
  · rw [eF]
    refine (hi.keeps KG (Nat.le_refl _) fun r off e h0 _ c => ?_).grow KG.size
    injection e with e
    injection e with e
    subst e
    rcases c with c | c
    · exact ints_ne8 hi h0 hM.me (v0 := .int .i64 Q) rfl (by intro x e; injection e with e; cases e) c
    · exact ints_ne8 hi h0 hM.ms.1 (v0 := .pointer (some ⟨cs, 0, none⟩)) rfl (by intro x e; cases e) c
  · rw [eN]
    refine ⟨ca, pa, qa, cs, ps, qs, some c, .slice (some ⟨hd, 0, none⟩) 512 512, ⟨Cel.below ((hE.set_ 4 _).set_ 5 _) b7, hM.ma.keepsF KG (by rintro (e | e) <;> omega) ty, hS6.keeps hE (fun e => n2 e.symm) (by decide) (by decide) KG6, .inr ⟨rfl, hM.mF.ok.l, c, rfl, ?_⟩, hd, rfl, ?_⟩⟩
    · exact Cel.keeps hM.mF.l KG (nt hM.mF.l (by decide) (by decide))
    · exact Cel.keeps hd6 KG6 (Cel.ne hd6 hE (by decide))
  · exact (hM.mw.mono fun j hj => .inr (.inl hj)).trans (KG.mono fun j hj => hj.elim .inl fun c => .inr (.inr c))
end Go.Proofs.YtmgfkdmjgjlkjaaGreat

namespace Go.Proofs.YtmgfkdmjgjlkjaaGreat
open Go Go.RowKit
set_option linter.unusedVariables false
set_option linter.unusedSimpArgs false
set_option maxHeartbeats 2000000 in
set_option maxRecDepth 100000 in
theorem cEncode_any (g a s x : Nat) (Q : Int) (B : Nat) (S : S13) (f : Nat → Int) (n : Int) (r : Bool) (w : World) (h : CodAt w g a s Q B S) (hS : S.Ok) (hq : 1 ≤ Q ∧ Q ≤ 10) (hB : 32 ≤ B ∧ B ≤ 600) (hf : IFun w x 77 .i16 512 f) (hb : ∀ i, i < 512 → -32768 ≤ f i ∧ f i ≤ 32767) (n0 : 0 ≤ n) (n1 : n ≤ 4294967295) :
    Calls Tryz.prog 29 #[.pointer (some ⟨g, 0, none⟩), .int .u32 n, .slice (some ⟨x, 0, none⟩) 512 512, .bool r] w (EncodePost g a s Q B S f n r w) := by
  obtain ⟨ca, pa, qa, cs, ps, qs, o, hv, h⟩ := h
  have H := Lib.hid h
  have HS := Lib.hid hS
  have HQ := Lib.hid hq
  have HB := Lib.hid hB
  have HX := Lib.hid hf
  have HXb := Lib.hid hb
  have HN := Lib.hid (And.intro n0 n1)
  clear h hS hq hB hf hb n0 n1
  obtain ⟨p0, hp0⟩ : ∃ p, p = peakQ f 0 := ⟨_, rfl⟩
  obtain ⟨p1, hp1⟩ : ∃ p, p = peakQ f 1 := ⟨_, rfl⟩
  obtain ⟨p2, hp2⟩ : ∃ p, p = peakQ f 2 := ⟨_, rfl⟩
  obtain ⟨p3, hp3⟩ : ∃ p, p = peakQ f 3 := ⟨_, rfl⟩
  obtain ⟨b, hb⟩ : ∃ b, b = briefF S.P f := ⟨_, rfl⟩
  have HP0 : RowKit.Hid (peakQ f 0 = p0) := hp0.symm
  have HP1 : RowKit.Hid (peakQ f 1 = p1) := hp1.symm
  have HP2 : RowKit.Hid (peakQ f 2 = p2) := hp2.symm
  have HP3 : RowKit.Hid (peakQ f 3 = p3) := hp3.symm
  have HBr : RowKit.Hid (briefB S.P p0 p1 p2 p3 = b) := by show _ = _; rw [hb, hp0, hp1, hp2, hp3]; rfl
  have HBb : RowKit.Hid (briefF S.P f = b) := hb.symm
  have HPb : RowKit.Hid ((0 ≤ S.P ∧ S.P ≤ 32768) ∧ (0 ≤ p0 ∧ p0 ≤ 32768) ∧ (0 ≤ p1 ∧ p1 ≤ 32768) ∧ (0 ≤ p2 ∧ p2 ≤ 32768)) := by
    rw [hp0, hp1, hp2]
    exact ⟨HS.out.P, peakQ_bd HXb.out (by decide), peakQ_bd HXb.out (by decide), peakQ_bd HXb.out (by decide)⟩
  clear hp0 hp1 hp2 hp3 hb
  go_enter Tryz.func29, Tryz.ntmps29
  go_wp2_with (go_at_call 59; go_loud (refine (cPeaks_any x 512 f w HX.out HXb.out).mono ?_); rintro e w1 ⟨rfl, b1⟩; have HB1 := Lib.hid b1; clear b1; unfold pkV; rw [HP0.out, HP1.out, HP2.out, HP3.out])
  have HC2 : RowKit.Hid (Cel (w1.alloc (.cells #[.int .i64 p0, .int .i64 p1, .int .i64 p2, .int .i64 p3] 116)) w1.heap.size 116 #[.int .i64 p0, .int .i64 p1, .int .i64 p2, .int .i64 p3]) := Cel.new w1 _ _
  have HB2 : RowKit.Hid (Below w.heap.size w (w1.alloc (.cells #[.int .i64 p0, .int .i64 p1, .int .i64 p2, .int .i64 p3] 116)) ∧ w.heap.size ≤ w1.heap.size) := ⟨chain HB1.out (Below.alloc_new w1 _), HB1.out.size⟩
  generalize (w1.alloc (.cells #[.int .i64 p0, .int .i64 p1, .int .i64 p2, .int .i64 p3] 116)) = w2 at HC2 HB2 ⊢
  generalize w1.heap.size = k at HC2 HB2 ⊢
  clear HB1
  have HE2 := Lib.hid (H.out.e.below HB2.out.1)
  have c24 : w2.cell? ⟨g, 4, none⟩ = some (.int .i64 S.P) := HE2.out.cell 4
  have c20 : w2.cell? ⟨k, 0, none⟩ = some (.int .i64 p0) := HC2.out.cell 0
  have c21 : w2.cell? ⟨k, 1, none⟩ = some (.int .i64 p1) := HC2.out.cell 1
  have c22 : w2.cell? ⟨k, 2, none⟩ = some (.int .i64 p2) := HC2.out.cell 2
  have c23 : w2.cell? ⟨k, 3, none⟩ = some (.int .i64 p3) := HC2.out.cell 3
  have ng2 : w2.heap.size ≠ g := Nat.ne_of_gt HE2.out.lt
  have nk2 : w2.heap.size ≠ k := Nat.ne_of_gt HC2.out.lt
  go_region_held3 (fun w' => w'.cell? ⟨g, 4, none⟩ = some (.int .i64 S.P) ∧ w'.cell? ⟨k, 0, none⟩ = some (.int .i64 p0) ∧ w'.cell? ⟨k, 1, none⟩ = some (.int .i64 p1) ∧ w'.cell? ⟨k, 2, none⟩ = some (.int .i64 p2) ∧ w'.cell? ⟨k, 3, none⟩ = some (.int .i64 p3)) (go_keep) (first
    | (go_at_call 61; have HW2 : RowKit.Hid (Below w.heap.size w w2.drew) := Below.drewN' HB2.out.1 1; have HP2 : RowKit.Hid (Cel w2.drew k 116 #[.int .i64 p0, .int .i64 p1, .int .i64 p2, .int .i64 p3]) := HC2.out; go_loud (refine (cBrief_any S.P p0 p1 p2 p3 w2.drew HPb.out.1 HPb.out.2.1 HPb.out.2.2.1 HPb.out.2.2.2).mono ?_); rintro e w3 ⟨rfl, b3⟩; rw [HBr.out]; have HC3 : RowKit.Hid (Cel w3 k 116 #[.int .i64 p0, .int .i64 p1, .int .i64 p2, .int .i64 p3]) := HP2.out.below b3; have HB3 : RowKit.Hid (Below w.heap.size w w3) := chain HW2.out b3; clear b3 HW2 HP2; have HE3 : RowKit.Hid (Cel w3 g 115 (codC Q B a s S.P (.slice (ahA o) (ahN o) (ahN o)) hv S.R)) := H.out.e.below HB3.out; have c34 : w3.cell? ⟨g, 4, none⟩ = some (.int .i64 S.P) := HE3.out.cell 4; have c30 : w3.cell? ⟨k, 0, none⟩ = some (.int .i64 p0) := HC3.out.cell 0; have c31 : w3.cell? ⟨k, 1, none⟩ = some (.int .i64 p1) := HC3.out.cell 1; have c32 : w3.cell? ⟨k, 2, none⟩ = some (.int .i64 p2) := HC3.out.cell 2; have c33 : w3.cell? ⟨k, 3, none⟩ = some (.int .i64 p3) := HC3.out.cell 3; have ng3 : w3.heap.size ≠ g := Nat.ne_of_gt HE3.out.lt; have nk3 : w3.heap.size ≠ k := Nat.ne_of_gt HC3.out.lt)
    | (go_at_call 61; have HW2 : RowKit.Hid (Below w.heap.size w (w2.drew.alloc (.cells #[.bool false, .int .i64 0, .slice none 0 0, .slice none 0 0, .slice none 0 0] 120))) := chain (Below.drewN' HB2.out.1 1) (Below.alloc_new w2.drew _); have HP2 : RowKit.Hid (Cel (w2.drew.alloc (.cells #[.bool false, .int .i64 0, .slice none 0 0, .slice none 0 0, .slice none 0 0] 120)) k 116 #[.int .i64 p0, .int .i64 p1, .int .i64 p2, .int .i64 p3]) := (show Cel w2.drew k _ _ from HC2.out).alloc _; go_loud (refine (cBrief_any S.P p0 p1 p2 p3 (w2.drew.alloc (.cells #[.bool false, .int .i64 0, .slice none 0 0, .slice none 0 0, .slice none 0 0] 120)) HPb.out.1 HPb.out.2.1 HPb.out.2.2.1 HPb.out.2.2.2).mono ?_); rintro e w3 ⟨rfl, b3⟩; rw [HBr.out]; have HC3 : RowKit.Hid (Cel w3 k 116 #[.int .i64 p0, .int .i64 p1, .int .i64 p2, .int .i64 p3]) := HP2.out.below b3; have HB3 : RowKit.Hid (Below w.heap.size w w3) := chain HW2.out b3; have HZ3 : RowKit.Hid (Cel w3 w2.heap.size 120 #[.bool false, .int .i64 0, .slice none 0 0, .slice none 0 0, .slice none 0 0]) := (show Cel (w2.drew.alloc (.cells #[.bool false, .int .i64 0, .slice none 0 0, .slice none 0 0, .slice none 0 0] 120)) w2.heap.size 120 #[.bool false, .int .i64 0, .slice none 0 0, .slice none 0 0, .slice none 0 0] from Cel.new w2.drew _ _).below b3; clear b3 HW2 HP2; have HE3 : RowKit.Hid (Cel w3 g 115 (codC Q B a s S.P (.slice (ahA o) (ahN o) (ahN o)) hv S.R)) := H.out.e.below HB3.out; have c34 : w3.cell? ⟨g, 4, none⟩ = some (.int .i64 S.P) := HE3.out.cell 4; have c30 : w3.cell? ⟨k, 0, none⟩ = some (.int .i64 p0) := HC3.out.cell 0; have c31 : w3.cell? ⟨k, 1, none⟩ = some (.int .i64 p1) := HC3.out.cell 1; have c32 : w3.cell? ⟨k, 2, none⟩ = some (.int .i64 p2) := HC3.out.cell 2; have c33 : w3.cell? ⟨k, 3, none⟩ = some (.int .i64 p3) := HC3.out.cell 3; have ng3 : w3.heap.size ≠ g := Nat.ne_of_gt HE3.out.lt; have nk3 : w3.heap.size ≠ k := Nat.ne_of_gt HC3.out.lt)
    | (go_at_call 60; have HZW := Lib.hid HZ3.out; have HBW : RowKit.Hid (Below w.heap.size w w3) := HB3.out; have HCW : RowKit.Hid (Cel w3 k 116 #[.int .i64 p0, .int .i64 p1, .int .i64 p2, .int .i64 p3]) := HC3.out; go_loud (refine (cFrame_any r S.fs b Q B g a s x ca pa qa S.P S.R B o hv S.al f S.ah w3 HQ.out HB.out (H.out.e.below HBW.out) (H.out.a.below HBW.out) (H.out.h.below HBW.out) (HX.out.below HBW.out HX.out.lt) HS.out.al HXb.out).mono ?_); rintro e w4 ⟨lb, c, o', rfl, f4, a4, k4⟩; have HF4 := Lib.hid f4; have HA4 := Lib.hid a4; have HK4 : RowKit.Hid (Keeps (· = a) w w4) := (Keeps.of_below HBW.out).trans k4; have HC4 : RowKit.Hid (Cel w4 k 116 #[.int .i64 p0, .int .i64 p1, .int .i64 p2, .int .i64 p3]) := HCW.out.keeps k4 (HCW.out.ne (H.out.a.below HBW.out).1 (by decide)); have HE4 : RowKit.Hid (Cel w4 g 115 (codC Q B a s S.P (.slice (ahA o) (ahN o) (ahN o)) hv S.R)) := H.out.e.keeps HK4.out (H.out.e.ne H.out.a.1 (by decide)); have c44 : w4.cell? ⟨g, 4, none⟩ = some (.int .i64 S.P) := HE4.out.cell 4; have c40 : w4.cell? ⟨k, 0, none⟩ = some (.int .i64 p0) := HC4.out.cell 0; have c41 : w4.cell? ⟨k, 1, none⟩ = some (.int .i64 p1) := HC4.out.cell 1; have c42 : w4.cell? ⟨k, 2, none⟩ = some (.int .i64 p2) := HC4.out.cell 2; have c43 : w4.cell? ⟨k, 3, none⟩ = some (.int .i64 p3) := HC4.out.cell 3; have HZ4 : RowKit.Hid (Cel w4 w2.heap.size 120 #[.bool false, .int .i64 0, .slice none 0 0, .slice none 0 0, .slice none 0 0]) := HZW.out.keeps k4 (HZW.out.ne (H.out.a.below HBW.out).1 (by decide)); have y0 : w4.cell? ⟨w2.heap.size, 0, none⟩ = some (.bool false) := HZ4.out.cell 0; have y1 : w4.cell? ⟨w2.heap.size, 1, none⟩ = some (.int .i64 0) := HZ4.out.cell 1; have y2 : w4.cell? ⟨w2.heap.size, 2, none⟩ = some (.slice none 0 0) := HZ4.out.cell 2; have y3 : w4.cell? ⟨w2.heap.size, 3, none⟩ = some (.slice none 0 0) := HZ4.out.cell 3; have y4 : w4.cell? ⟨w2.heap.size, 4, none⟩ = some (.slice none 0 0) := HZ4.out.cell 4; have x0 := HZ4.out.frozen 0; have x1 := HZ4.out.frozen 1; have x2 := HZ4.out.frozen 2; have x3 := HZ4.out.frozen 3; have x4 := HZ4.out.frozen 4; have gne : w2.heap.size ≠ g := HZ4.out.ne HE4.out (by decide); have kne : w2.heap.size ≠ k := HZ4.out.ne HC4.out (by decide); have HQ4 : RowKit.Hid (w.heap.size ≤ w2.heap.size) := HB2.out.1.size; clear f4 a4 k4 HBW HCW HZW)
    | (go_at_call 60; have HBW : RowKit.Hid (Below w.heap.size w w3) := HB3.out; have HCW : RowKit.Hid (Cel w3 k 116 #[.int .i64 p0, .int .i64 p1, .int .i64 p2, .int .i64 p3]) := HC3.out; go_loud (refine (cFrame_any r S.fs b Q B g a s x ca pa qa S.P S.R B o hv S.al f S.ah w3 HQ.out HB.out (H.out.e.below HBW.out) (H.out.a.below HBW.out) (H.out.h.below HBW.out) (HX.out.below HBW.out HX.out.lt) HS.out.al HXb.out).mono ?_); rintro e w4 ⟨lb, c, o', rfl, f4, a4, k4⟩; have HF4 := Lib.hid f4; have HA4 := Lib.hid a4; have HK4 : RowKit.Hid (Keeps (· = a) w w4) := (Keeps.of_below HBW.out).trans k4; have HC4 : RowKit.Hid (Cel w4 k 116 #[.int .i64 p0, .int .i64 p1, .int .i64 p2, .int .i64 p3]) := HCW.out.keeps k4 (HCW.out.ne (H.out.a.below HBW.out).1 (by decide)); have HE4 : RowKit.Hid (Cel w4 g 115 (codC Q B a s S.P (.slice (ahA o) (ahN o) (ahN o)) hv S.R)) := H.out.e.keeps HK4.out (H.out.e.ne H.out.a.1 (by decide)); have c44 : w4.cell? ⟨g, 4, none⟩ = some (.int .i64 S.P) := HE4.out.cell 4; have c40 : w4.cell? ⟨k, 0, none⟩ = some (.int .i64 p0) := HC4.out.cell 0; have c41 : w4.cell? ⟨k, 1, none⟩ = some (.int .i64 p1) := HC4.out.cell 1; have c42 : w4.cell? ⟨k, 2, none⟩ = some (.int .i64 p2) := HC4.out.cell 2; have c43 : w4.cell? ⟨k, 3, none⟩ = some (.int .i64 p3) := HC4.out.cell 3; have gne : w4.heap.size ≠ g := Nat.ne_of_gt HE4.out.lt; have kne : w4.heap.size ≠ k := Nat.ne_of_gt HC4.out.lt; clear f4 a4 k4 HBW HCW)
    | (go_at_call 60; have HZW : RowKit.Hid (Cel (w3.alloc (.cells #[.bool false, .int .i64 0, .slice none 0 0, .slice none 0 0, .slice none 0 0] 120)) w3.heap.size 120 #[.bool false, .int .i64 0, .slice none 0 0, .slice none 0 0, .slice none 0 0]) := Cel.new w3 _ _; have HBW : RowKit.Hid (Below w.heap.size w (w3.alloc (.cells #[.bool false, .int .i64 0, .slice none 0 0, .slice none 0 0, .slice none 0 0] 120))) := chain HB3.out (Below.alloc_new w3 _); have HCW : RowKit.Hid (Cel (w3.alloc (.cells #[.bool false, .int .i64 0, .slice none 0 0, .slice none 0 0, .slice none 0 0] 120)) k 116 #[.int .i64 p0, .int .i64 p1, .int .i64 p2, .int .i64 p3]) := HC3.out.alloc _; go_loud (refine (cFrame_any r S.fs b Q B g a s x ca pa qa S.P S.R B o hv S.al f S.ah (w3.alloc (.cells #[.bool false, .int .i64 0, .slice none 0 0, .slice none 0 0, .slice none 0 0] 120)) HQ.out HB.out (H.out.e.below HBW.out) (H.out.a.below HBW.out) (H.out.h.below HBW.out) (HX.out.below HBW.out HX.out.lt) HS.out.al HXb.out).mono ?_); rintro e w4 ⟨lb, c, o', rfl, f4, a4, k4⟩; have HF4 := Lib.hid f4; have HA4 := Lib.hid a4; have HK4 : RowKit.Hid (Keeps (· = a) w w4) := (Keeps.of_below HBW.out).trans k4; have HC4 : RowKit.Hid (Cel w4 k 116 #[.int .i64 p0, .int .i64 p1, .int .i64 p2, .int .i64 p3]) := HCW.out.keeps k4 (HCW.out.ne (H.out.a.below HBW.out).1 (by decide)); have HE4 : RowKit.Hid (Cel w4 g 115 (codC Q B a s S.P (.slice (ahA o) (ahN o) (ahN o)) hv S.R)) := H.out.e.keeps HK4.out (H.out.e.ne H.out.a.1 (by decide)); have c44 : w4.cell? ⟨g, 4, none⟩ = some (.int .i64 S.P) := HE4.out.cell 4; have c40 : w4.cell? ⟨k, 0, none⟩ = some (.int .i64 p0) := HC4.out.cell 0; have c41 : w4.cell? ⟨k, 1, none⟩ = some (.int .i64 p1) := HC4.out.cell 1; have c42 : w4.cell? ⟨k, 2, none⟩ = some (.int .i64 p2) := HC4.out.cell 2; have c43 : w4.cell? ⟨k, 3, none⟩ = some (.int .i64 p3) := HC4.out.cell 3; have HZ4 : RowKit.Hid (Cel w4 w3.heap.size 120 #[.bool false, .int .i64 0, .slice none 0 0, .slice none 0 0, .slice none 0 0]) := HZW.out.keeps k4 (HZW.out.ne (H.out.a.below HBW.out).1 (by decide)); have y0 : w4.cell? ⟨w3.heap.size, 0, none⟩ = some (.bool false) := HZ4.out.cell 0; have y1 : w4.cell? ⟨w3.heap.size, 1, none⟩ = some (.int .i64 0) := HZ4.out.cell 1; have y2 : w4.cell? ⟨w3.heap.size, 2, none⟩ = some (.slice none 0 0) := HZ4.out.cell 2; have y3 : w4.cell? ⟨w3.heap.size, 3, none⟩ = some (.slice none 0 0) := HZ4.out.cell 3; have y4 : w4.cell? ⟨w3.heap.size, 4, none⟩ = some (.slice none 0 0) := HZ4.out.cell 4; have x0 := HZ4.out.frozen 0; have x1 := HZ4.out.frozen 1; have x2 := HZ4.out.frozen 2; have x3 := HZ4.out.frozen 3; have x4 := HZ4.out.frozen 4; have gne : w3.heap.size ≠ g := HZ4.out.ne HE4.out (by decide); have kne : w3.heap.size ≠ k := HZ4.out.ne HC4.out (by decide); have HQ4 : RowKit.Hid (w.heap.size ≤ w3.heap.size) := HB3.out.size; clear f4 a4 k4 HBW HCW HZW)
    | fail)
  all_goals
    have HSy : RowKit.Hid (OvAt 175 .i32 w4 s cs ps qs S.left) := H.out.s.keeps H.out.a.1 (H.out.s.1.ne H.out.a.1 (by decide)) (by decide) (by decide) HK4.out
    first
      | (have KO : Keeps (· = w2.heap.size) w4 (((((w4.setCell ⟨w2.heap.size, 0, none⟩ (.bool b)).setCell ⟨w2.heap.size, 1, none⟩ (.int .i64 Q)).setCell ⟨w2.heap.size, 2, none⟩ (.slice (some ⟨lb, 0, none⟩) 512 512)).setCell ⟨w2.heap.size, 3, none⟩ (.slice (some ⟨c, 0, none⟩) 21 21)).setCell ⟨w2.heap.size, 4, none⟩ (.slice (ahA o') (ahN o') (ahN o'))) := ((((Keeps.set1 _).trans (Keeps.set1 _)).trans (Keeps.set1 _)).trans (Keeps.set1 _)).trans (Keeps.set1 _); have HM : RowKit.Hid (EcMid g a s ca pa qa cs ps qs k lb c o' (.slice (ahA o) (ahN o) (ahN o)) hv Q B S.P S.R S.left (mkFrm r S.fs b Q B S.al f S.ah) (fun j => f (384 + j)) #[.int .i64 p0, .int .i64 p1, .int .i64 p2, .int .i64 p3] w w2.heap.size (((((w4.setCell ⟨w2.heap.size, 0, none⟩ (.bool b)).setCell ⟨w2.heap.size, 1, none⟩ (.int .i64 Q)).setCell ⟨w2.heap.size, 2, none⟩ (.slice (some ⟨lb, 0, none⟩) 512 512)).setCell ⟨w2.heap.size, 3, none⟩ (.slice (some ⟨c, 0, none⟩) 21 21)).setCell ⟨w2.heap.size, 4, none⟩ (.slice (ahA o') (ahN o') (ahN o')))) := ec_mid HF4.out HA4.out HE4.out HC4.out HSy.out (ec_old HZ4.out KO).1 (ec_old HZ4.out KO).2 (show Cel (((((w4.setCell ⟨w2.heap.size, 0, none⟩ (.bool b)).setCell ⟨w2.heap.size, 1, none⟩ (.int .i64 Q)).setCell ⟨w2.heap.size, 2, none⟩ (.slice (some ⟨lb, 0, none⟩) 512 512)).setCell ⟨w2.heap.size, 3, none⟩ (.slice (some ⟨c, 0, none⟩) 21 21)).setCell ⟨w2.heap.size, 4, none⟩ (.slice (ahA o') (ahN o') (ahN o'))) w2.heap.size 120 (frC (mkFrm r S.fs b Q B S.al f S.ah) lb c o') from ((((HZ4.out.set_ 0 _).set_ 1 _).set_ 2 _).set_ 3 _).set_ 4 _) (HK4.out.then_ KO fun j hj => .inr (by rw [hj]; exact HQ4.out)); clear KO; generalize (((((w4.setCell ⟨w2.heap.size, 0, none⟩ (.bool b)).setCell ⟨w2.heap.size, 1, none⟩ (.int .i64 Q)).setCell ⟨w2.heap.size, 2, none⟩ (.slice (some ⟨lb, 0, none⟩) 512 512)).setCell ⟨w2.heap.size, 3, none⟩ (.slice (some ⟨c, 0, none⟩) 21 21)).setCell ⟨w2.heap.size, 4, none⟩ (.slice (ahA o') (ahN o') (ahN o'))) = W at HM ⊢; generalize w2.heap.size = q at HM ⊢)
      | (have KO : Keeps (· = w3.heap.size) w4 (((((w4.setCell ⟨w3.heap.size, 0, none⟩ (.bool b)).setCell ⟨w3.heap.size, 1, none⟩ (.int .i64 Q)).setCell ⟨w3.heap.size, 2, none⟩ (.slice (some ⟨lb, 0, none⟩) 512 512)).setCell ⟨w3.heap.size, 3, none⟩ (.slice (some ⟨c, 0, none⟩) 21 21)).setCell ⟨w3.heap.size, 4, none⟩ (.slice (ahA o') (ahN o') (ahN o'))) := ((((Keeps.set1 _).trans (Keeps.set1 _)).trans (Keeps.set1 _)).trans (Keeps.set1 _)).trans (Keeps.set1 _); have HM : RowKit.Hid (EcMid g a s ca pa qa cs ps qs k lb c o' (.slice (ahA o) (ahN o) (ahN o)) hv Q B S.P S.R S.left (mkFrm r S.fs b Q B S.al f S.ah) (fun j => f (384 + j)) #[.int .i64 p0, .int .i64 p1, .int .i64 p2, .int .i64 p3] w w3.heap.size (((((w4.setCell ⟨w3.heap.size, 0, none⟩ (.bool b)).setCell ⟨w3.heap.size, 1, none⟩ (.int .i64 Q)).setCell ⟨w3.heap.size, 2, none⟩ (.slice (some ⟨lb, 0, none⟩) 512 512)).setCell ⟨w3.heap.size, 3, none⟩ (.slice (some ⟨c, 0, none⟩) 21 21)).setCell ⟨w3.heap.size, 4, none⟩ (.slice (ahA o') (ahN o') (ahN o')))) := ec_mid HF4.out HA4.out HE4.out HC4.out HSy.out (ec_old HZ4.out KO).1 (ec_old HZ4.out KO).2 (show Cel (((((w4.setCell ⟨w3.heap.size, 0, none⟩ (.bool b)).setCell ⟨w3.heap.size, 1, none⟩ (.int .i64 Q)).setCell ⟨w3.heap.size, 2, none⟩ (.slice (some ⟨lb, 0, none⟩) 512 512)).setCell ⟨w3.heap.size, 3, none⟩ (.slice (some ⟨c, 0, none⟩) 21 21)).setCell ⟨w3.heap.size, 4, none⟩ (.slice (ahA o') (ahN o') (ahN o'))) w3.heap.size 120 (frC (mkFrm r S.fs b Q B S.al f S.ah) lb c o') from ((((HZ4.out.set_ 0 _).set_ 1 _).set_ 2 _).set_ 3 _).set_ 4 _) (HK4.out.then_ KO fun j hj => .inr (by rw [hj]; exact HQ4.out)); clear KO; generalize (((((w4.setCell ⟨w3.heap.size, 0, none⟩ (.bool b)).setCell ⟨w3.heap.size, 1, none⟩ (.int .i64 Q)).setCell ⟨w3.heap.size, 2, none⟩ (.slice (some ⟨lb, 0, none⟩) 512 512)).setCell ⟨w3.heap.size, 3, none⟩ (.slice (some ⟨c, 0, none⟩) 21 21)).setCell ⟨w3.heap.size, 4, none⟩ (.slice (ahA o') (ahN o') (ahN o'))) = W at HM ⊢; generalize w3.heap.size = q at HM ⊢)
      | (have HM : RowKit.Hid (EcMid g a s ca pa qa cs ps qs k lb c o' (.slice (ahA o) (ahN o) (ahN o)) hv Q B S.P S.R S.left (mkFrm r S.fs b Q B S.al f S.ah) (fun j => f (384 + j)) #[.int .i64 p0, .int .i64 p1, .int .i64 p2, .int .i64 p3] w w4.heap.size (w4.alloc (.cells #[.bool b, .int .i64 Q, .slice (some ⟨lb, 0, none⟩) 512 512, .slice (some ⟨c, 0, none⟩) 21 21, .slice (ahA o') (ahN o') (ahN o')] 120))) := ec_mid HF4.out HA4.out HE4.out HC4.out HSy.out (ec_new (Below.alloc_new w4 _)).1 (ec_new (Below.alloc_new w4 _)).2 (Cel.new w4 _ _) (HK4.out.trans (Keeps.of_below (Below.alloc_new w4 _))); generalize (w4.alloc (.cells #[.bool b, .int .i64 Q, .slice (some ⟨lb, 0, none⟩) 512 512, .slice (some ⟨c, 0, none⟩) 21 21, .slice (ahA o') (ahN o') (ahN o')] 120)) = W at HM ⊢; generalize w4.heap.size = q at HM ⊢)
    have HNE : RowKit.Hid (g ≠ a ∧ g ≠ s ∧ a ≠ s) := ⟨H.out.e.ne H.out.a.1 (by decide), H.out.e.ne H.out.s.1 (by decide), H.out.a.1.ne H.out.s.1 (by decide)⟩
    clear c44 c40 c41 c42 c43 c34 c30 c31 c32 c33 c24 c20 c21 c22 c23 gne kne ng2 nk2 ng3 nk3
    try clear y0 y1 y2 y3 y4 x0 x1 x2 x3 x4
    have q00 : W.cell? ⟨q, 0, none⟩ = some (.bool b) := HM.out.mf.cell 0
    have q01 : W.cell? ⟨q, 1, none⟩ = some (.int .i64 Q) := HM.out.mf.cell 1
    have q02 : W.cell? ⟨q, 2, none⟩ = some (.slice (some ⟨lb, 0, none⟩) 512 512) := HM.out.mf.cell 2
    have q03 : W.cell? ⟨q, 3, none⟩ = some (.slice (some ⟨c, 0, none⟩) 21 21) := HM.out.mf.cell 3
    have q04 : W.cell? ⟨q, 4, none⟩ = some (.slice (ahA o') (ahN o') (ahN o')) := HM.out.mf.cell 4
    have cB : W.cell? ⟨g, 1, none⟩ = some (.int .i64 B) := HM.out.me.cell 1
    go_wp2
    go_region_held3 (fun w' => w'.cell? ⟨q, 0, none⟩ = some (.bool b) ∧ w'.cell? ⟨q, 1, none⟩ = some (.int .i64 Q) ∧ w'.cell? ⟨q, 2, none⟩ = some (.slice (some ⟨lb, 0, none⟩) 512 512) ∧ w'.cell? ⟨q, 3, none⟩ = some (.slice (some ⟨c, 0, none⟩) 21 21) ∧ w'.cell? ⟨q, 4, none⟩ = some (.slice (ahA o') (ahN o') (ahN o')) ∧ w'.cell? ⟨g, 1, none⟩ = some (.int .i64 B)) (go_keep) (first
      | (go_at_call 62; go_loud (refine (cFit_any (mkFrm r S.fs b Q B S.al f S.ah) lb c o' B W.drew HM.out.drew.mF rfl).mono ?_); rintro e w5 ⟨r5, cp5, s5, rfl, i5, t5, b5⟩; have HI5 := Lib.hid i5; have HT5 := Lib.hid t5; have HM5 := Lib.hid (HM.out.drew.now b5); clear i5 t5 b5; have q50 : w5.cell? ⟨q, 0, none⟩ = some (.bool b) := HM5.out.mf.cell 0; have q51 : w5.cell? ⟨q, 1, none⟩ = some (.int .i64 Q) := HM5.out.mf.cell 1; have q52 : w5.cell? ⟨q, 2, none⟩ = some (.slice (some ⟨lb, 0, none⟩) 512 512) := HM5.out.mf.cell 2; have q53 : w5.cell? ⟨q, 3, none⟩ = some (.slice (some ⟨c, 0, none⟩) 21 21) := HM5.out.mf.cell 3; have q54 : w5.cell? ⟨q, 4, none⟩ = some (.slice (ahA o') (ahN o') (ahN o')) := HM5.out.mf.cell 4; have cB5 : w5.cell? ⟨g, 1, none⟩ = some (.int .i64 B) := HM5.out.me.cell 1)
      | fail)
    clear q00 q01 q02 q03 q04 cB
    go_wp2_with (go_at_call 63; go_loud (refine (cHear_any (mkFrm r S.fs b Q B S.al f S.ah) lb c s5 o' g a s cs ps qs Q B S.P S.R n _ hv S.left w5 HM5.out.mF HT5.out HM5.out.me HM5.out.ms HS.out.left HN.out.1 HN.out.2).mono ?_); rintro e w6 ⟨hd, rfl, e6, i6, o6, z6, k6⟩; have HE6 := Lib.hid e6; have HI6 := Lib.hid i6; have HO6 := Lib.hid o6; have HK6 := Lib.hid k6; have HQ6 : RowKit.Hid (Cel w6 q 120 (frC (mkFrm r S.fs b Q B S.al f S.ah) lb c o')) := HM5.out.mf.keeps k6 (by rintro (e | e); exact HM5.out.mf.ne HM5.out.me (by decide) e; exact HM5.out.mf.ne HM5.out.ms.1 (by decide) e); have HP6 : RowKit.Hid (Cel w6 k 116 #[.int .i64 p0, .int .i64 p1, .int .i64 p2, .int .i64 p3]) := HM5.out.mp.keeps k6 (by rintro (e | e); exact HM5.out.mp.ne HM5.out.me (by decide) e; exact HM5.out.mp.ne HM5.out.ms.1 (by decide) e); have gq : g ≠ q := e6.ne HQ6.out (by decide); have gk : g ≠ k := e6.ne HP6.out (by decide); clear e6 i6 o6 z6 k6; have q60 : w6.cell? ⟨q, 0, none⟩ = some (.bool b) := HQ6.out.cell 0; have q61 : w6.cell? ⟨q, 1, none⟩ = some (.int .i64 Q) := HQ6.out.cell 1; have q62 : w6.cell? ⟨q, 2, none⟩ = some (.slice (some ⟨lb, 0, none⟩) 512 512) := HQ6.out.cell 2; have q63 : w6.cell? ⟨q, 3, none⟩ = some (.slice (some ⟨c, 0, none⟩) 21 21) := HQ6.out.cell 3; have q64 : w6.cell? ⟨q, 4, none⟩ = some (.slice (ahA o') (ahN o') (ahN o')) := HQ6.out.cell 4; have y63 : w6.cell? ⟨k, 3, none⟩ = some (.int .i64 p3) := HP6.out.cell 3; have x4 : w6.cell? ⟨g, 4, none⟩ = some (.int .i64 S.P) := HE6.out.cell 4; have x5 : w6.cell? ⟨g, 5, none⟩ = some (.slice (ahA o) (ahN o) (ahN o)) := HE6.out.cell 5; have v4 := HE6.out.frozen 4; have v5 := HE6.out.frozen 5)
    clear q50 q51 q52 q53 q54 cB5
    go_region_held3 (fun w' => w'.cell? ⟨q, 3, none⟩ = some (.slice (some ⟨c, 0, none⟩) 21 21) ∧ w'.cell? ⟨k, 3, none⟩ = some (.int .i64 p3)) (go_keep) (fail)
    have HLn : RowKit.Hid (decide (ahN o' = 0) = (r || S.fs)) := HM5.out.mF.a.len
    have HLl := Lib.hid (ahN_le o')
    go_wp2_with (go_at_call 64; go_loud (refine (cWhole_any b Q (some ⟨lb, 0, none⟩) (some ⟨c, 0, none⟩) (ahA o') 512 512 21 21 (ahN o') (ahN o') _ (Nat.le_trans HLl.out (by decide))).mono ?_); rintro e w7 ⟨rfl, b7⟩; have HB7 := Lib.hid b7; clear b7; rw [HLn.out])
    go_ret3
    exact ec_end HBb.out HP3.out HM5.out HNE.out HE6.out HI6.out HO6.out HK6.out HI5.out (chain (Below.drewN' (Below.refl _ _) 1) HB7.out) rfl
end Go.Proofs.YtmgfkdmjgjlkjaaGreat
