/- Plain facts, and what functions give, for the proofs of this seat: several texts in one, each with its own first remark. -/
import Derived.Deep.CutBlock
import Derived.Deep.DeepCutAuto
import Derived.BigRegion
import Derived.Test.YtobhoecmmpijgaaGreatGS

/- The law's own ear, by the document: hear. -/
namespace Go.Proofs.YtobhoecmmpijgaaGreat
open Go Go.RowKit
set_option linter.unusedVariables false
set_option linter.unusedSimpArgs false
set_option maxRecDepth 100000

def mdlK (x : Nat) (E : E15) : Array Value := #[.pointer (some ⟨x, 0, none⟩), .int .u32 E.ep, .int .u32 E.nu, .bool E.run, .bool E.ever]
structure MdlAt (w : World) (m x : Nat) (E : E15) : Prop where
  hm : Cel w m 32 (mdlK x E)
  hx : RlyAt w x E.T
theorem mdlK_at {w : World} {m x : Nat} {E : E15} (h : Cel w m 32 (mdlK x E)) :
    w.cell? ⟨m, 0, none⟩ = some (.pointer (some ⟨x, 0, none⟩)) ∧ w.cell? ⟨m, 1, none⟩ = some (.int .u32 E.ep) ∧ w.cell? ⟨m, 2, none⟩ = some (.int .u32 E.nu) ∧ w.cell? ⟨m, 3, none⟩ = some (.bool E.run) ∧ w.cell? ⟨m, 4, none⟩ = some (.bool E.ever) :=
  ⟨h.cell 0, h.cell 1, h.cell 2, h.cell 3, h.cell 4⟩
theorem MdlAt.below {w w' : World} {m x : Nat} {E : E15} (h : MdlAt w m x E) (b : Below w.heap.size w w') : MdlAt w' m x E := ⟨h.hm.below b, h.hx.below b⟩
theorem MdlAt.keeps {w w' : World} {m x : Nat} {E : E15} {F : Nat → Prop} (h : MdlAt w m x E) (hk : Keeps F w w')
    (hF : ∀ j, F j → ∃ t cs, Cel w j t cs ∧ t ≠ 32 ∧ t ≠ 74 ∧ t ≠ 2 ∧ OddC cs) : MdlAt w' m x E :=
  ⟨h.hm.keeps hk fun hj => by
    obtain ⟨t, cs, hc, n, _⟩ := hF _ hj
    exact (Cel.typ h.hm).ne (Cel.typ hc) n.symm rfl, h.hx.keeps hk fun j hj => by
    obtain ⟨t, cs, hc, _, n⟩ := hF _ hj
    exact ⟨t, cs, hc, n⟩⟩
/-- A player by value. -/
theorem RlyIn.copy {w : World} {p C x xo : Nat} {a : Option Addr} {alen acap : Nat} {vt : Value} {br : Bool} {S : P14} (h : RlyIn w p C x xo a alen acap vt br S) :
    RlyAt (w.alloc (.cells (plC C (.slice (some ⟨x, xo, none⟩) 128 128) (.slice a alen acap) S.has vt br) 74)) w.heap.size S := by
  have b := Below.alloc_new w (.cells (plC C (.slice (some ⟨x, xo, none⟩) 128 128) (.slice a alen acap) S.has vt br) 74)
  refine ⟨C, x, xo, a, alen, acap, vt, br, Cel.new w _ _, Cel.below h.c b, h.x.below b, fun e => ?_, h.t⟩
  obtain ⟨h1, h2, h3, y, c8, h4, h5⟩ := h.h e
  exact ⟨h1.now b (Nat.le_refl _), h2, h3, y, c8, h4, h5.below b⟩
def MHearPost (E : E15) (ep nu : Int) (wh : Bool) (b : List Int) (m : Nat) (w : World) (en : Ending) (w' : World) : Prop :=
  (E.may ep nu wh b ∧ ∃ v x, en = .returned (.tuple #[v, .bool true]) ∧ RowsAt w' w.heap.size 50 2 .i64 v (E.frames ep nu b) ∧ MdlAt w' m x (E.hear ep nu b) ∧ w.heap.size ≤ x ∧ Keeps (fun j => j = m) w w') ∨
  (¬ E.may ep nu wh b ∧ en = .returned (.tuple #[.slice none 0 0, .bool false]) ∧ Below w.heap.size w w')
/-- What is held ahead of the playing. -/
structure MhSt (E : E15) (m x f base g : Nat) (v : Value) (b : List Int) (D : DecS) (a : Option Addr) (len : Nat) (pk : Array Value) (w wr : World) : Prop where
  hb : Below w.heap.size w wr
  hm : MdlAt wr m x E
  hp : Cel wr f 42 pk
  hd : DecMem wr base g v b D
  hg : w.heap.size ≤ base
  hi : IntsAt wr wr.heap.size .u8 a len b
section
variable {E : E15} {m x f base g : Nat} {v : Value} {b : List Int} {D D' : DecS} {a : Option Addr} {len : Nat} {pk : Array Value} {w wr w' : World}
theorem DecMem.odd8 (h : DecMem w base g v b D) : Odd8 #[v, .int .i64 D.i, .int .i64 D.c, .int .i64 D.s] := by
  obtain ⟨a, c, rfl⟩ := own_form h.2.1
  refine odd8_list (l := [_, _, _, _]) fun v hv x e => ?_
  subst e
  simp at hv
theorem MhSt.dec (h : MhSt E m x f base g v b D a len pk w wr) (hd : DecMem w' base g v b D') (k : Keeps (fun j => j = g) wr w') : MhSt E m x f base g v b D' a len pk w w' :=
  ⟨h.hb.trans (k.below h.hb.size fun j hj => by subst hj; exact Nat.le_trans h.hg h.hd.2.2), h.hm.keeps k (fun j hj => by subst hj; exact ⟨_, _, h.hd.1, by decide, by decide, by decide, .inl (by show 4 < 21; decide)⟩), h.hp.keeps k (fun e => (Cel.typ h.hp).ne (Cel.typ h.hd.1) (by decide) e), hd, h.hg, bytes_far h.hi k fun j hj => by subst hj; exact ⟨_, _, h.hd.1, h.hd.odd8⟩⟩
theorem MhSt.drewN (h : MhSt E m x f base g v b D a len pk w wr) (n : Nat) : MhSt E m x f base g v b D a len pk w (wr.drewN n) :=
  ⟨Below.drewN' h.hb n, h.hm.below (Below.drewN' (Below.refl _ _) n), h.hp, h.hd, h.hg, h.hi⟩
end
theorem infoE_fr64 : (Tryz.prog.info? 50).map (fun i => (i.zero, i.size, i.bytes)) = some (some (.slice none 0 0), 1, 24) := by kernel_rfl
theorem SlCs.odd8 {cs : Array Value} (h : SlCs cs) : Odd8 cs := fun i x e => by
  rw [← Array.getElem?_toList] at e
  obtain ⟨a, n, c, h⟩ := h _ (List.mem_of_getElem? e)
  cases h
theorem RlyAt.odd8 {w : World} {p : Nat} {S : P14} (h : RlyAt w p S) : ∃ cs, Cel w p 74 cs ∧ OddC cs ∧ Odd8 cs := by
  obtain ⟨C, x, xo, a, alen, acap, vt, br, h⟩ := h
  obtain ⟨ta, tn, tc, rfl⟩ := h.t
  refine ⟨_, h.e, .inl (by show 6 < 21; decide), odd8_list (l := [_, _, _, _, _, _]) fun v hv x e => ?_⟩
  subst e
  simp at hv
/-- What is held where frames fade. -/
structure MoSt (E : E15) (m x f o : Nat) (b : List Int) (a : Option Addr) (len : Nat) (pk : Array Value) (k kp : Nat) (v : Value) (w wr : World) : Prop where
  hb : Below w.heap.size w wr
  hm : Cel wr m 32 (mdlK x E)
  ho : RlyAt wr o (E.T.fadeN kp)
  hp : Cel wr f 42 pk
  hi : IntsAt wr wr.heap.size .u8 a len b
  hr : RowsAt wr w.heap.size 50 2 .i64 v (fadeL E.T k)
  hn : w.heap.size ≤ o
section
variable {E : E15} {m x f o : Nat} {b : List Int} {a : Option Addr} {len : Nat} {pk : Array Value} {k kp : Nat} {v : Value} {w wr w' : World}
theorem MoSt.now (h : MoSt E m x f o b a len pk k kp v w wr) (q : Below wr.heap.size wr w') : MoSt E m x f o b a len pk k kp v w w' :=
  ⟨chain h.hb q, h.hm.below q, h.ho.below q, h.hp.below q, h.hi.now q (Nat.le_refl _), h.hr.below q, h.hn⟩
theorem MoSt.drewN (h : MoSt E m x f o b a len pk k kp v w wr) (n : Nat) : MoSt E m x f o b a len pk k kp v w (wr.drewN n) := h.now (Below.drewN' (Below.refl _ _) n)
theorem MoSt.fade (h : MoSt E m x f o b a len pk k k v w wr) (hx : RlyAt w' o (E.T.fadeN k).fade) (q : Keeps (· = o) wr w') : MoSt E m x f o b a len pk k (k + 1) v w w' := by
  obtain ⟨cs, hc, o1, o2⟩ := h.ho.odd8
  exact ⟨h.hb.trans (q.below h.hb.size fun j hj => by subst hj; exact h.hn), h.hm.keeps q (fun e => (Cel.typ h.hm).ne (Cel.typ hc) (by decide) e), hx, h.hp.keeps q (fun e => (Cel.typ h.hp).ne (Cel.typ hc) (by decide) e), bytes_far h.hi q fun j hj => by subst hj; exact ⟨_, _, hc, o2⟩, h.hr.keeps q fun j hj => by subst hj; exact ⟨_, Cel.typ hc, by decide, by decide⟩, h.hn⟩
theorem MoSt.app {v' : Value} (h : MoSt E m x f o b a len pk k (k + 1) v w wr) (hr : RowsAt w' w.heap.size 50 2 .i64 v' (fadeL E.T k ++ [(E.T.fadeN k).fades])) (q : Keeps (fun j => w.heap.size ≤ j ∧ OwnSl wr 50 j) wr w') : MoSt E m x f o b a len pk (k + 1) (k + 1) v' w w' :=
  ⟨h.hb.trans (q.below h.hb.size fun j hj => hj.1), h.hm.keeps q (fun e => (Cel.typ h.hm).ne e.2.typ (by decide) rfl), h.ho.keeps q fun j hj => by
    obtain ⟨cs, hc, o1⟩ := hj.2.odd
    exact ⟨_, _, hc, by decide, by decide, o1⟩, h.hp.keeps q (fun e => (Cel.typ h.hp).ne e.2.typ (by decide) rfl), bytes_far h.hi q fun j hj => by
    obtain ⟨cs, hc, hs⟩ := hj.2
    exact ⟨_, _, hc, hs.odd8⟩, by rw [fadeL_succ]; exact hr, h.hn⟩
end
/-- What is held behind Play, and behind the stores. -/
structure MpSt (E : E15) (m x f o M r : Nat) (b : List Int) (nu : Int) (pk : Array Value) (v : Value) (w wr : World) : Prop where
  hb : Below w.heap.size w wr
  hm : Cel wr m 32 (mdlK x E)
  ho : RlyAt wr o ((E.T.fadeN M).play b nu)
  hp : Cel wr f 42 pk
  hr : RowsAt wr w.heap.size 50 2 .i64 v (fadeL E.T M)
  hx : NumAt wr r 0 512 2 .i64 ((E.T.fadeN M).plays b nu)
  hn : w.heap.size ≤ o
structure MqSt (E : E15) (m o M r : Nat) (b : List Int) (ep nu : Int) (v : Value) (w wr : World) : Prop where
  hm : MdlAt wr m o ⟨(E.T.fadeN M).play b nu, true, ep, nu, true⟩
  hr : RowsAt wr w.heap.size 50 2 .i64 v (fadeL E.T M)
  hx : NumAt wr r 0 512 2 .i64 ((E.T.fadeN M).plays b nu)
  hn : w.heap.size ≤ o
  hk : Keeps (· = m) w wr
theorem MoSt.play {E : E15} {m x f o base g r M : Nat} {b : List Int} {D : DecS} {nu : Int} {a : Option Addr} {len : Nat} {pk : Array Value} {u v : Value} {w wr w' : World} (h : MoSt E m x f o b a len pk M M u w wr) (hd : DecMem wr base g v b D) (hg : w.heap.size ≤ base)
    (ho : RlyAt w' o ((E.T.fadeN M).play b nu)) (hx : NumAt w' r 0 512 2 .i64 ((E.T.fadeN M).plays b nu)) (q : Keeps (fun j => j = o ∨ j = g) wr w') : MpSt E m x f o M r b nu pk u w w' := by
  obtain ⟨cs, hc, _⟩ := h.ho.odd8
  have n1 : ∀ {j : Nat} {t : TypeId} {cs : Array Value}, Cel wr j t cs → t ≠ 74 → t ≠ 133 → ¬ (j = o ∨ j = g) := fun hj h1 h2 e => by
    rcases e with rfl | rfl
    · exact (Cel.typ hj).ne (Cel.typ hc) h1 rfl
    · exact (Cel.typ hj).ne (Cel.typ hd.1) h2 rfl
  exact ⟨h.hb.trans (q.below h.hb.size fun j hj => by
    rcases hj with rfl | rfl
    · exact h.hn
    · exact Nat.le_trans hg hd.2.2), h.hm.keeps q (n1 h.hm (by decide) (by decide)), ho, h.hp.keeps q (n1 h.hp (by decide) (by decide)), h.hr.keeps q (fun j hj => by
    rcases hj with rfl | rfl
    · exact ⟨_, Cel.typ hc, by decide, by decide⟩
    · exact ⟨_, Cel.typ hd.1, by decide, by decide⟩), hx, h.hn⟩
theorem MoSt.fail {E : E15} {m x f o base g M : Nat} {b : List Int} {D : DecS} {a : Option Addr} {len : Nat} {pk : Array Value} {u v : Value} {w wr w' : World} (h : MoSt E m x f o b a len pk M M u w wr) (hd : DecMem wr base g v b D) (hg : w.heap.size ≤ base) (q : Keeps (fun j => j = o ∨ j = g) wr w') : Below w.heap.size w w' ∧ Cel w' f 42 pk := by
  obtain ⟨cs, hc, _⟩ := h.ho.odd8
  exact ⟨h.hb.trans (q.below h.hb.size fun j hj => by
    rcases hj with rfl | rfl
    · exact h.hn
    · exact Nat.le_trans hg hd.2.2), h.hp.keeps q fun e => by
    rcases e with rfl | rfl
    · exact (Cel.typ h.hp).ne (Cel.typ hc) (by decide) rfl
    · exact (Cel.typ h.hp).ne (Cel.typ hd.1) (by decide) rfl⟩
theorem MpSt.drewN {E : E15} {m x f o M r : Nat} {b : List Int} {nu : Int} {pk : Array Value} {v : Value} {w wr : World} (h : MpSt E m x f o M r b nu pk v w wr) (n : Nat) : MpSt E m x f o M r b nu pk v w (wr.drewN n) :=
  have q := Below.drewN' (Below.refl wr.heap.size wr) n
  ⟨chain h.hb q, h.hm.below q, h.ho.below q, h.hp.below q, h.hr.below q, h.hx.below q, h.hn⟩
theorem MpSt.set {E : E15} {m x f o M r : Nat} {b : List Int} {ep nu : Int} {pk : Array Value} {v : Value} {w wr : World} (h : MpSt E m x f o M r b nu pk v w wr) :
    MqSt E m o M r b ep nu v w (((((wr.setCell ⟨m, 0, none⟩ (.pointer (some ⟨o, 0, none⟩))).setCell ⟨m, 1, none⟩ (.int .u32 ep)).setCell ⟨m, 2, none⟩ (.int .u32 nu)).setCell ⟨m, 3, none⟩ (.bool true)).setCell ⟨m, 4, none⟩ (.bool true)) := by
  have K : Keeps (· = m) wr (((((wr.setCell ⟨m, 0, none⟩ (.pointer (some ⟨o, 0, none⟩))).setCell ⟨m, 1, none⟩ (.int .u32 ep)).setCell ⟨m, 2, none⟩ (.int .u32 nu)).setCell ⟨m, 3, none⟩ (.bool true)).setCell ⟨m, 4, none⟩ (.bool true)) := ((((Keeps.set1 _).trans (Keeps.set1 _)).trans (Keeps.set1 _)).trans (Keeps.set1 _)).trans (Keeps.set1 _)
  have ht := Cel.typ h.hm
  refine ⟨⟨((((h.hm.set_ 0 _).set_ 1 _).set_ 2 _).set_ 3 _).set_ 4 _, h.ho.keeps K fun j hj => ?_⟩, h.hr.keeps K fun j hj => by subst hj; exact ⟨_, ht, by decide, by decide⟩, h.hx.keeps K fun hj => ht.ne h.hx.1 (by decide) hj.symm, h.hn, (Keeps.of_below h.hb).trans K⟩
  subst hj
  exact ⟨_, _, h.hm, by decide, by decide, .inl (by show 5 < 21; decide)⟩
theorem MqSt.now {E : E15} {m o M r : Nat} {b : List Int} {ep nu : Int} {v : Value} {w wr w' : World} (h : MqSt E m o M r b ep nu v w wr) (q : Below wr.heap.size wr w') : MqSt E m o M r b ep nu v w w' :=
  ⟨h.hm.below q, h.hr.below q, h.hx.below q, h.hn, h.hk.trans (.of_below q)⟩
theorem MqSt.done {E : E15} {m o M r : Nat} {b : List Int} {ep nu : Int} {wh : Bool} {v v' : Value} {w W W' : World} (h : MqSt E m o M r b ep nu v w W) (hM : E.miss ep nu = M)
    (hr : RowsAt W' w.heap.size 50 2 .i64 v' (fadeL E.T M ++ [(E.T.fadeN M).plays b nu])) (q : Keeps (fun j => w.heap.size ≤ j ∧ OwnSl W 50 j) W W') (hm : E.may ep nu wh b) : MHearPost E ep nu wh b m w (.returned (.tuple #[v', .bool true])) W' := by
  refine .inl ⟨hm, v', o, rfl, ?_, ?_, h.hn, h.hk.then_ q fun j hj => .inr hj.1⟩
  · unfold E15.frames
    rw [hM]
    exact hr
  · unfold E15.hear
    rw [hM]
    exact h.hm.keeps q fun j hj => by
      obtain ⟨cs, hc, o1⟩ := hj.2.odd
      exact ⟨_, _, hc, by decide, by decide, by decide, o1⟩
set_option maxHeartbeats 4000000 in
theorem mHear_any (m x : Nat) (E : E15) (ep nu : Int) (wh : Bool) (b : List Int) (a : Option Addr) (len cap : Nat) (w : World) (h : MdlAt w m x E) (hE : E.Ok)
    (hI : IntsAt w w.heap.size .u8 a len b) (hn : a = none → cap = 0) (hb : ∀ j, 0 ≤ byteF b j ∧ byteF b j ≤ 255) (hl : b.length ≤ 100000) (n0 : 0 ≤ nu) (n1 : nu ≤ 4294967295) :
    Calls Tryz.prog 14 #[.pointer (some ⟨m, 0, none⟩), .agg #[.int .u32 ep, .int .u32 nu, .bool wh, .slice a len cap]] w (MHearPost E ep nu wh b m w) := by
  have hlen : b.length = len := hI.1
  have HL : RowKit.Hid (b.length ≤ 100000 ∧ len ≤ 1000000) := ⟨hl, by omega⟩
  have ba := Below.alloc_new w (.cells #[.int .u32 ep, .int .u32 nu, .bool wh, .slice a len cap] 42)
  obtain ⟨pk, hpk⟩ : ∃ pk : Array Value, pk = #[.int .u32 ep, .int .u32 nu, .bool wh, .slice a len cap] := ⟨_, rfl⟩
  have HPK : RowKit.Hid (pk = #[.int .u32 ep, .int .u32 nu, .bool wh, .slice a len cap]) := hpk
  have HE := Lib.hid (h.below ba)
  have HP : RowKit.Hid (Cel (w.alloc (.cells #[.int .u32 ep, .int .u32 nu, .bool wh, .slice a len cap] 42)) w.heap.size 42 pk) := by rw [hpk]; exact Cel.new w _ _
  have HB0 := Lib.hid ba
  have HI := Lib.hid (hI.now ba (Nat.le_refl _))
  have HOk := Lib.hid hE
  have HNn := Lib.hid hn
  have HBy := Lib.hid hb
  have HPG := Lib.hid (plG hb)
  clear h hI hn hb hl ba hE hpk hlen
  obtain ⟨W, hW⟩ : ∃ W, W = plW b := ⟨_, rfl⟩
  obtain ⟨R, hR⟩ : ∃ R, R = plB b := ⟨_, rfl⟩
  obtain ⟨Z, hZ⟩ : ∃ Z, Z = plQ b := ⟨_, rfl⟩
  obtain ⟨q, hq⟩ : ∃ q, q = (W == 1) := ⟨_, rfl⟩
  have HWD : RowKit.Hid ((decBits b (plD0 b) 0 1).1 = W ∧ (decBits b (plD1 b) 0 1).1 = R ∧ (decBits b (plD2 b) 0 4).1 = Z) := ⟨hW.symm, hR.symm, hZ.symm⟩
  have HQ : RowKit.Hid (plWh b = q) := by show _ = _; rw [hq, hW]; rfl
  have HHr : RowKit.Hid (headR b = (decide (1 ≤ Z) && decide (Z ≤ 10))) := by show _ = _; rw [hZ]; rfl
  have hq1 : (W == 1) = q := hq.symm
  clear hW hR hZ hq
  obtain ⟨fo, hfo⟩ : ∃ fo, fo = E.follows ep nu := ⟨_, rfl⟩
  have HFo : RowKit.Hid (E.follows ep nu = fo) := hfo.symm
  clear hfo
  go_enter Tryz.func14, Tryz.ntmps14
  go_upto_region 5 with (first
    | (go_at_call 38; have h3 := H3.out; clear h3; go_loud (refine (rBitsA _ g v b (plD2 b) 4 _ H3.out.hd HBy.out HL.out.1 HPG.out.i.2.2.1 HPG.out.g2 (by decide)).mono ?_); rintro e w4 ⟨rfl, d4, k4⟩; rw [HWD.out.2.2]; have H4 : RowKit.Hid (MhSt E m x f (w.heap.size + 1) g v b (plD3 b) a len pk w w4) := H3.out.dec d4 k4; clear d4 k4)
    | (go_at_call 38; have h2 := H2.out; clear h2; go_loud (refine (rBitsA _ g v b (plD1 b) 1 _ H2.out.hd HBy.out HL.out.1 HPG.out.i.2.1 HPG.out.g1 (by decide)).mono ?_); rintro e w3 ⟨rfl, d3, k3⟩; rw [HWD.out.2.1]; have H3 : RowKit.Hid (MhSt E m x f (w.heap.size + 1) g v b (plD2 b) a len pk w w3) := H2.out.dec d3 k3; clear d3 k3)
    | (go_at_call 38; have h1 := H1.out; clear h1; go_loud (refine (rBitsA _ g v b (plD0 b) 1 _ H1.out.hd HBy.out HL.out.1 HPG.out.i.1 HPG.out.g0 (by decide)).mono ?_); rintro e w2 ⟨rfl, d2, k2⟩; rw [HWD.out.1]; have H2 : RowKit.Hid (MhSt E m x f (w.heap.size + 1) g v b (plD1 b) a len pk w w2) := H1.out.dec d2 k2; clear d2 k2)
    | (go_at_call 33; go_loud (refine (refOpen_any a len cap b _ HI.out HNn.out HBy.out HL.out.2).mono ?_); rintro e w1 ⟨g, v, rfl, d1, b1⟩; rw [alloc_sizeB] at d1; obtain ⟨f, hf⟩ : ∃ f, f = w.heap.size := ⟨_, rfl⟩; have HF := Lib.hid hf; have H1 : RowKit.Hid (MhSt E m x f (w.heap.size + 1) g v b (plD0 b) a len pk w w1) := ⟨chain HB0.out b1, HE.out.below b1, (by rw [hf]; exact HP.out.below b1), d1, Nat.le_succ _, HI.out.now b1 (Nat.le_refl _)⟩; clear d1 b1 hf))
  rw [← HF.out]
  go_cut [9] (fun v wx => v = .bool fo ∧ ∃ n, w4.drewN n = wx)
  case first =>
    obtain ⟨c0, c1, c2, c3, c4⟩ := mdlK_at H4.out.hm.hm
    have p0 : w4.cell? ⟨f, 0, none⟩ = some (.int .u32 ep) := by rw [H4.out.hp.cell 0, HPK.out]; rfl
    have p1 : w4.cell? ⟨f, 1, none⟩ = some (.int .u32 nu) := by rw [H4.out.hp.cell 1, HPK.out]; rfl
    have HD : RowKit.Hid (∀ n, ∃ i, w4.drewN i = w4.drewN n) := fun n => ⟨n, rfl⟩
    have HFo' : RowKit.Hid ((E.run && (ep == E.ep && nu == (E.nu + 1) % 4294967296)) = fo) := HFo.out
    generalize E.run = ru at c3 HFo'
    generalize E.ep = lp at c1 HFo'
    generalize E.nu = ln at c2 HFo'
    obtain ⟨y, hy⟩ : ∃ y, y = (ln + 1) % 4294967296 := ⟨_, rfl⟩
    rw [← hy] at HFo'
    have hy1 : (ln + 1) % 4294967296 = y := hy.symm
    have hy2 : IntKind.u32.wrap (ln + 1) = y := by rw [IntKind.wrap_u32]; exact hy.symm
    clear hy
    cases ru with
    | false =>
      go_quiet (fail)
      go_wp2
      go_meet
      exact ⟨by rw [← HFo'.out]; rfl, HD.out _⟩
    | true =>
      obtain ⟨u1, hu1⟩ : ∃ u1, (ep == lp) = u1 := ⟨_, rfl⟩
      obtain ⟨u2, hu2⟩ : ∃ u2, (nu == y) = u2 := ⟨_, rfl⟩
      have HU : RowKit.Hid ((u1 && u2) = fo) := by show _ = _; rw [← hu1, ← hu2]; exact HFo'.out
      cases u1 with
      | false =>
        go_quiet (fail)
        go_wp2
        go_meet
        exact ⟨by rw [← HU.out]; rfl, HD.out _⟩
      | true =>
        go_quiet (fail)
        go_wp2
        go_meet
        exact ⟨by rw [← HU.out]; rfl, HD.out _⟩
  case rest =>
    obtain ⟨rfl, nq, hw5⟩ := hcut
    obtain ⟨w5, rfl⟩ : ∃ w5 : World, w5 = wc := ⟨_, rfl⟩
    have H5 : RowKit.Hid (MhSt E m x f (w.heap.size + 1) g v b (plD3 b) a len pk w w5) := by show MhSt _ _ _ _ _ _ _ _ _ _ _ _ _ _; rw [← hw5]; exact H4.out.drewN nq
    clear hw5 H1 H2 H3 H4 HE HP HB0 HI
    have p2 : w5.cell? ⟨f, 2, none⟩ = some (.bool wh) := by rw [H5.out.hp.cell 2, HPK.out]; rfl
    by_cases hz : 1 ≤ Z ∧ Z ≤ 10
    rotate_left
    · have HNm : RowKit.Hid (¬ E.may ep nu wh b) := fun hm => hz (by
        have h := HHr.out.symm.trans hm.1
        rw [Bool.and_eq_true, decide_eq_true_eq, decide_eq_true_eq] at h
        exact h)
      by_cases hz1 : Z < 1
      · go_wp2
        go_ret2
        exact .inr ⟨HNm.out, rfl, H5.out.hb⟩
      · have hz2 : 10 < Z := by omega
        go_wp2
        go_ret2
        exact .inr ⟨HNm.out, rfl, H5.out.hb⟩
    · have hz1 : ¬ Z < 1 := by omega
      have hz2 : ¬ 10 < Z := by omega
      have HHd : RowKit.Hid (headR b = true) := by show _ = _; rw [HHr.out, decide_eq_true hz.1, decide_eq_true hz.2]; rfl
      clear hz
      by_cases hqw : q = wh
      rotate_left
      · have HNm : RowKit.Hid (¬ E.may ep nu wh b) := fun hm => hqw (HQ.out.symm.trans hm.2.1)
        cases q <;> cases wh
        all_goals first | exact absurd rfl hqw | skip
        all_goals go_wp2
        all_goals go_ret2
        all_goals exact .inr ⟨HNm.out, rfl, H5.out.hb⟩
      · subst hqw
        by_cases hwf : q = true ∨ fo = true
        rotate_left
        · have HNm : RowKit.Hid (¬ E.may ep nu q b) := fun hm => hwf (hm.2.2.1.imp id fun h => HFo.out.symm.trans h)
          cases q <;> cases fo
          all_goals first | exact absurd (.inl rfl) hwf | exact absurd (.inr rfl) hwf | skip
          go_wp2
          go_ret2
          exact .inr ⟨HNm.out, rfl, H5.out.hb⟩
        · have HWf := Lib.hid hwf
          clear hwf
          go_upto_region 6 with fail
          go_cut [67] (fun v wx => v = .bool false ∧ w5 = wx)
          case first =>
            cases fo with
            | true =>
              go_wp2
              go_meet
              exact ⟨rfl, rfl⟩
            | false =>
              have hq : q = true := HWf.out.resolve_right (by decide)
              subst hq
              go_wp2
              go_meet
              exact ⟨rfl, rfl⟩
          case rest =>
            obtain ⟨rfl, hcw⟩ := hcut
            obtain ⟨w6, rfl⟩ : ∃ w6 : World, w6 = wc := ⟨_, rfl⟩
            subst hcw
            obtain ⟨C, xl, xo, aa, alen, acap, vt, br, hi⟩ := H5.out.hm.hx
            obtain ⟨ta, tn, tc, rfl⟩ := hi.t
            obtain ⟨y0, y1, y2, y3, y4, y5⟩ := plC_at hi.e
            have c0 := (mdlK_at H5.out.hm.hm).1
            obtain ⟨M, hM⟩ : ∃ M, M = E.miss ep nu := ⟨_, rfl⟩
            have HM : RowKit.Hid (E.miss ep nu = M) := hM.symm
            have HM4 : M ≤ 4 := by rw [hM]; exact E.miss_le ep nu
            clear hM
            have ba := Below.alloc_new w5 (.cells (plC C (.slice (some ⟨xl, xo, none⟩) 128 128) (.slice aa alen acap) E.T.has (.slice ta tn tc) br) 74)
            have H7 : RowKit.Hid (MoSt E m x f w5.heap.size b a len pk 0 0 (.slice none 0 0) w (w5.alloc (.cells #[.slice (some ⟨C, 0, none⟩) 1025 1025, .slice (some ⟨xl, xo, none⟩) 128 128, .slice aa alen acap, .bool E.T.has, .slice ta tn tc, .bool br] 74))) :=
              ⟨chain H5.out.hb ba, H5.out.hm.hm.below ba, hi.copy, H5.out.hp.below ba, H5.out.hi.now ba (Nat.le_refl _), RowsAt.nil _ _ _ _ _, H5.out.hb.size⟩
            clear hi ba
            generalize E.T.has = hs at y3 H7
            go_upto_region 10 with fail
            generalize (w5.alloc (.cells #[.slice (some ⟨C, 0, none⟩) 1025 1025, .slice (some ⟨xl, xo, none⟩) 128 128, .slice aa alen acap, .bool hs, .slice ta tn tc, .bool br] 74)) = w7 at H7 ⊢
            generalize w5.heap.size = o at H7 ⊢
            clear H5 y0 y1 y2 y3 y4 y5 c0 p2
            obtain ⟨c, hc⟩ : ∃ c, c = (!fo && E.ever) := ⟨_, rfl⟩
            have HC : RowKit.Hid ((!fo && E.ever) = c) := hc.symm
            clear hc
            go_cut [81] (fun v wx => v = .bool c ∧ w7 = wx)
            case first =>
              have c4 := (mdlK_at H7.out.hm).2.2.2.2
              have HC' : RowKit.Hid ((!fo && E.ever) = c) := HC.out
              generalize E.ever = ev at c4 HC'
              cases fo with
              | true =>
                go_wp2
                go_meet
                exact ⟨by rw [← HC'.out]; rfl, rfl⟩
              | false =>
                go_wp2
                go_meet
                exact ⟨by rw [← HC'.out]; rfl, rfl⟩
            case rest =>
              obtain ⟨rfl, hcw⟩ := hcut
              obtain ⟨w8, rfl⟩ : ∃ w8 : World, w8 = wc := ⟨_, rfl⟩
              subst hcw
              go_upto_if 81 with fail
              go_cut [11] (fun v wx => ∃ u, u = v ∧ RowKit.Hid (MoSt E m x f o b a len pk M M u w wx))
              case first =>
                cases c with
                | false =>
                  have HZ : RowKit.Hid (M = 0) := by
                    cases fo with
                    | true => exact HM.out.symm.trans (HOk.out.follows HFo.out).2.2.2.2
                    | false =>
                      have e : E.ever = false := HC.out
                      show M = 0
                      rw [← HM.out]
                      unfold E15.miss missF
                      rw [e]
                      rfl
                  go_wp2
                  go_meet
                  exact ⟨_, rfl, by rw [HZ.out]; exact H7.out⟩
                | true =>
                  have hfv : fo = false ∧ E.ever = true := by
                    have := HC.out
                    cases fo with
                    | true => cases this
                    | false => exact ⟨rfl, this⟩
                  obtain ⟨rfl, hev⟩ := hfv
                  have HHas : RowKit.Hid (E.T.has = true) := HOk.out.e.trans hev
                  have HMM : RowKit.Hid (missF true E.ep E.nu ep nu = M) := by
                    have := HM.out
                    unfold E15.miss at this
                    rw [hev] at this
                    exact this
                  have p0 : w7.cell? ⟨f, 0, none⟩ = some (.int .u32 ep) := by rw [H7.out.hp.cell 0, HPK.out]; rfl
                  have p1 : w7.cell? ⟨f, 1, none⟩ = some (.int .u32 nu) := by rw [H7.out.hp.cell 1, HPK.out]; rfl
                  obtain ⟨m0, m1, m2, m3, m4⟩ := mdlK_at H7.out.hm
                  clear hev m0 m3 m4
                  generalize E.ep = lp at m1 HMM
                  generalize E.nu = ln at m2 HMM
                  obtain ⟨D1, hD1⟩ : ∃ D1, D1 = (nu - ln) % 4294967296 := ⟨_, rfl⟩
                  have hw1 : IntKind.u32.wrap (nu - ln) = D1 := by rw [IntKind.wrap_u32, hD1]
                  obtain ⟨D, hD⟩ : ∃ D, D = (D1 - 1) % 4294967296 := ⟨_, rfl⟩
                  have hw2 : IntKind.u32.wrap (D1 - 1) = D := by rw [IntKind.wrap_u32, hD]
                  have hw3 : (nu - ln) % 4294967296 = D1 := hD1.symm
                  have hw4 : (D1 - 1) % 4294967296 = D := hD.symm
                  have HG : RowKit.Hid (gap32 nu ln = D) := by show _ = _; rw [hD, hD1]; unfold gap32; omega
                  have hD0 : 0 ≤ D ∧ D ≤ 4294967295 := by omega
                  clear hD hD1
                  have HCs : RowKit.Hid (∀ n, MoSt E m x f o b a len pk 0 0 (.slice none 0 0) w (w7.drewN n) ∧ (w7.drewN n).cell? ⟨f, 0, none⟩ = some (.int .u32 ep) ∧ (w7.drewN n).cell? ⟨m, 1, none⟩ = some (.int .u32 lp)) := fun n => ⟨H7.out.drewN n, p0, m1⟩
                  go_wp2
                  go_quiet (fail)
                  obtain ⟨H10, q0, q1⟩ := HCs.out nq
                  generalize w7.drewN nq = w10 at H10 q0 q1 ⊢
                  have H10 := Lib.hid H10
                  clear HCs p0 p1 m1 m2 H7
                  go_upto_region 12 with fail
                  obtain ⟨sl, hsl⟩ : ∃ sl, sl = (!(ep == lp) || decide (4 < D)) := ⟨_, rfl⟩
                  have HSl : RowKit.Hid ((!(ep == lp) || decide (4 < D)) = sl) := hsl.symm
                  clear hsl
                  go_cut [100] (fun v wx => v = .bool sl ∧ ∃ n, w10.drewN n = wx)
                  case first =>
                    have HD' : RowKit.Hid (∀ n, ∃ i, w10.drewN i = w10.drewN n) := fun n => ⟨n, rfl⟩
                    by_cases hx : ep = lp
                    · subst hx
                      obtain ⟨d4, hd4⟩ : ∃ d4, decide (4 < D) = d4 := ⟨_, rfl⟩
                      have HS' : RowKit.Hid (d4 = sl) := by show _ = _; rw [← hd4, ← HSl.out]; simp
                      go_quiet (fail)
                      go_wp2
                      go_meet
                      exact ⟨by rw [← HS'.out], HD'.out _⟩
                    · have hx1 : (ep == lp) = false := by simpa using hx
                      have HS' : RowKit.Hid (true = sl) := by show _ = _; rw [← HSl.out, hx1]; rfl
                      go_quiet (fail)
                      go_wp2
                      go_meet
                      exact ⟨by rw [← HS'.out], HD'.out _⟩
                  case rest =>
                    obtain ⟨rfl, n2, hcw⟩ := hcut
                    obtain ⟨w11, rfl⟩ : ∃ w11 : World, w11 = wc := ⟨_, rfl⟩
                    have H11 : RowKit.Hid (MoSt E m x f o b a len pk 0 0 (.slice none 0 0) w w11) := by show MoSt _ _ _ _ _ _ _ _ _ _ _ _ _ _; rw [← hcw]; exact H10.out.drewN n2
                    clear hcw H10 q0 q1
                    have HSM : RowKit.Hid ((sl = true → M = 4) ∧ (sl = false → D = (M : Int))) := by
                      have hs := HSl.out
                      have hm := HMM.out
                      by_cases hx : ep = lp
                      · subst hx
                        have h2 := missF_same (lp := ep) HG.out
                        rw [hm] at h2
                        rw [show (ep == ep) = true by simp] at hs
                        refine ⟨fun e => ?_, fun e => ?_⟩
                        · rw [e] at hs
                          have : 4 < D := by simpa using hs
                          rw [if_pos this] at h2
                          omega
                        · rw [e] at hs
                          have : ¬ 4 < D := by simpa using hs
                          rw [if_neg this] at h2
                          omega
                      · rw [show (ep == lp) = false by simpa using hx] at hs
                        have e : sl = true := by rw [← hs]; rfl
                        unfold missF at hm
                        rw [if_pos rfl, if_neg hx] at hm
                        exact ⟨fun _ => hm.symm, fun e2 => by rw [e] at e2; cases e2⟩
                    go_upto_if 100 with fail
                    go_cut [12] (fun v wx => v = .int .u32 (M : Int) ∧ w11 = wx)
                    case first =>
                      cases sl with
                      | true =>
                        have e := HSM.out.1 rfl
                        go_wp2
                        go_meet
                        exact ⟨by rw [e]; rfl, rfl⟩
                      | false =>
                        have e := Lib.hid (HSM.out.2 rfl)
                        go_wp2
                        go_meet
                        exact ⟨by rw [e.out], rfl⟩
                    case rest =>
                      obtain ⟨rfl, hcw⟩ := hcut
                      obtain ⟨w12, rfl⟩ : ∃ w12 : World, w12 = wc := ⟨_, rfl⟩
                      subst hcw
                      clear hw1 hw2 hw3 hw4 HSM HSl HMM HG hD0
                      go_wp2
                      go_loopw [11, 102] (fun v i wr => ∃ (k : Nat) (u : Value), u = v ∧ k ≤ M ∧ i = .int .u32 ((k : Nat) : Int) ∧ RowKit.Hid (MoSt E m x f o b a len pk k k u w wr)) (fun _ i _ => M - (intOf i).toNat)
                      case atStart => exact ⟨0, _, rfl, by omega, rfl, H11.out⟩
                      case round =>
                        obtain ⟨k, u, rfl, hk, rfl, H⟩ := hrel
                        clear H11
                        by_cases hlt : k < M
                        · have l1 : (k : Int) < (M : Int) := by omega
                          have v1 : IntKind.u32.wrap ((k : Int) + 1) = (k : Int) + 1 := IntWalk.u32_in _ (by omega)
                          have v2 : ((k : Int) + 1) % 4294967296 = (k : Int) + 1 := by omega
                          go_wp2_with (first
                            | (at_builtin; go_loud (refine append_frame rfl _ _ 47 rfl w.heap.size 50 2 .i64 Tryz.underlying47 infoE_fr64 (by decide) u (fadeL E.T k) rfl HR5.out.1 (by rw [fadeL_len]; omega) w15.heap.size b1 cp (E.T.fadeN k).fades rfl HR5.out.2.1 HR5.out.2.2 HS5.out ?_); intro v6 w16 hr6 hk6; have H6 : RowKit.Hid (MoSt E m x f o b a len pk (k + 1) (k + 1) v6 w w16) := HC5.out.app hr6 hk6; clear hr6 hk6)
                            | (go_at_call 39; go_loud (refine (rlyFade_any o (E.T.fadeN k) _ H.out.ho (HOk.out.t.fadeN k) (P14.fadeN_has HHas.out k)).mono ?_); rintro e' w15 ⟨x4, ⟨b1, cp, rfl, n4⟩, k4⟩; have HX := H.out.fade x4 k4; have b5 := Below.alloc_new w15 (.cells #[.slice (some ⟨b1, 0, none⟩) 512 cp] 50); have HC5 := Lib.hid (HX.now b5); have HR5 := Lib.hid (And.intro (HX.now b5).hr (And.intro (Cel.new w15 50 #[.slice (some ⟨b1, 0, none⟩) 512 cp]) (n4.below b5))); have HS5 := Lib.hid (HX.now b5).hb.size; clear x4 n4 k4 HX b5))
                          go_roundw
                          case rel => exact ⟨k + 1, v6, rfl, by omega, by go_num, H6.out⟩
                          case measure => simp [intOf] <;> omega
                        · obtain rfl : k = M := by omega
                          have l1 : ¬ (k : Int) < (k : Int) := by omega
                          go_wp2
                          go_meet
                          exact ⟨u, rfl, H.out⟩
              case rest =>
                obtain ⟨u, rfl, H9⟩ := hcut
                obtain ⟨w9, rfl⟩ : ∃ w9 : World, w9 = wc := ⟨_, rfl⟩
                clear H7 HC
                go_upto_region 18 with fail
                have c1 : w9.cell? ⟨f, 1, none⟩ = some (.int .u32 nu) := by rw [H9.out.hp.cell 1, HPK.out]; rfl
                have c3 : w9.cell? ⟨f, 3, none⟩ = some (.slice a len cap) := by rw [H9.out.hp.cell 3, HPK.out]; rfl
                have H9d := Lib.hid (H9.out.drewN 1)
                have HPKn : RowKit.Hid (∀ wx : World, Cel wx f 42 pk → wx.cell? ⟨f, 1, none⟩ = some (.int .u32 nu) ∧ wx.cell? ⟨f, 3, none⟩ = some (.slice a len cap)) := fun wx hx => ⟨by rw [hx.cell 1, HPK.out]; rfl, by rw [hx.cell 3, HPK.out]; rfl⟩
                by_cases hm : E.T.may b
                · have HY : RowKit.Hid (E.may ep nu q b) := ⟨HHd.out, HQ.out, HWf.out.imp id fun h => HFo.out.trans h, hm⟩
                  have HTN : RowKit.Hid ((E.T.fadeN M).may b) := by have := (HOk.out.mayN (ep := ep) (nu := nu)).2 hm; rw [HM.out] at this; exact this
                  clear hm
                  go_region_held3 (fun w' => w'.cell? ⟨f, 1, none⟩ = some (.int .u32 nu) ∧ w'.cell? ⟨f, 3, none⟩ = some (.slice a len cap)) (go_keep) (first
                    | (go_at_call 34; have h10 := H10.out; clear h10; go_loud (refine (rlyPlay_any b nu o _ g8 v8 (E.T.fadeN M) _ H10.out.1.ho (HOk.out.t.fadeN M) HBy.out HL.out.1 H10.out.2 n0 n1).mono ?_); rintro e' w11 ⟨⟨_, x11, r11, cp11, rfl, n11⟩ | ⟨hh, _⟩, k11⟩; (case inr => exact absurd HTN.out hh); have H11 : RowKit.Hid (MpSt E m x f o M r11 b nu pk u w w11) := H10.out.1.play H10.out.2 HS9.out x11 n11 k11; obtain ⟨m1, m3⟩ := HPKn.out w11 H11.out.hp; clear x11 n11 k11)
                    | (go_at_call 33; go_loud (refine (refOpen_any a len cap b _ H9d.out.hi HNn.out HBy.out HL.out.2).mono ?_); rintro e' w10 ⟨g8, v8, rfl, d8, b8⟩; have H10 := Lib.hid (And.intro (H9d.out.now b8) d8); have HS9 : RowKit.Hid (w.heap.size ≤ w9.drew.heap.size) := H9d.out.hb.size; obtain ⟨m1, m3⟩ := HPKn.out w10 H10.out.1.hp; clear d8 b8)
                    | fail)
                  go_wp2
                  have p0 : w11.cell? ⟨f, 0, none⟩ = some (.int .u32 ep) := by rw [H11.out.hp.cell 0, HPK.out]; rfl
                  obtain ⟨y0, y1, y2, y3, y4⟩ := mdlK_at H11.out.hm
                  have f0 := H11.out.hm.frozen 0
                  have f1 := H11.out.hm.frozen 1
                  have f2 := H11.out.hm.frozen 2
                  have f3 := H11.out.hm.frozen 3
                  have f4 := H11.out.hm.frozen 4
                  have hfm : ¬ f = m := fun e => (Cel.typ H11.out.hp).ne (Cel.typ H11.out.hm) (by decide) e
                  have hmf : ¬ m = f := fun e => hfm e.symm
                  go_region
                  have H12 : RowKit.Hid (MqSt E m o M r11 b ep nu u w ((((((w11.setCell ⟨m, 0, none⟩ (.pointer (some ⟨o, 0, none⟩))).setCell ⟨m, 1, none⟩ (.int .u32 ep)).setCell ⟨m, 2, none⟩ (.int .u32 nu)).setCell ⟨m, 3, none⟩ (.bool true)).setCell ⟨m, 4, none⟩ (.bool true)).drew)) := H11.out.set.now (Below.drewN' (Below.refl _ _) 1)
                  generalize ((((((w11.setCell ⟨m, 0, none⟩ (.pointer (some ⟨o, 0, none⟩))).setCell ⟨m, 1, none⟩ (.int .u32 ep)).setCell ⟨m, 2, none⟩ (.int .u32 nu)).setCell ⟨m, 3, none⟩ (.bool true)).setCell ⟨m, 4, none⟩ (.bool true)).drew) = w12 at H12 ⊢
                  have b13 := Below.alloc_new w12 (.cells #[.slice (some ⟨r11, 0, none⟩) 512 cp11] 50)
                  have H13 := Lib.hid (H12.out.now b13)
                  have HR13 := Lib.hid (And.intro (Cel.new w12 50 #[.slice (some ⟨r11, 0, none⟩) 512 cp11]) H13.out.hk.size)
                  clear b13 p0 y0 y1 y2 y3 y4 f0 f1 f2 f3 f4 hfm hmf
                  go_wp2_with (at_builtin; go_loud (refine append_frame rfl _ _ 47 rfl w.heap.size 50 2 .i64 Tryz.underlying47 infoE_fr64 (by decide) u (fadeL E.T M) rfl H13.out.hr (by rw [fadeL_len]; omega) w12.heap.size r11 cp11 ((E.T.fadeN M).plays b nu) rfl HR13.out.1 H13.out.hx HR13.out.2 ?_); intro v6 w16 hr6 hk6; have H16 : RowKit.Hid (MHearPost E ep nu q b m w (.returned (.tuple #[v6, .bool true])) w16) := H13.out.done HM.out hr6 hk6 HY.out; clear hr6 hk6)
                  go_ret2
                  exact H16.out
                · have HY : RowKit.Hid (¬ E.may ep nu q b) := fun h => hm h.2.2.2
                  have HTN : RowKit.Hid (¬ (E.T.fadeN M).may b) := fun h => hm ((HOk.out.mayN (ep := ep) (nu := nu)).1 (by rw [HM.out]; exact h))
                  clear hm
                  go_region_held3 (fun w' => w'.cell? ⟨f, 1, none⟩ = some (.int .u32 nu) ∧ w'.cell? ⟨f, 3, none⟩ = some (.slice a len cap)) (go_keep) (first
                    | (go_at_call 34; have h10 := H10.out; clear h10; go_loud (refine (rlyPlay_any b nu o _ g8 v8 (E.T.fadeN M) _ H10.out.1.ho (HOk.out.t.fadeN M) HBy.out HL.out.1 H10.out.2 n0 n1).mono ?_); rintro e' w11 ⟨⟨hh, _⟩ | ⟨_, _, rfl⟩, k11⟩; (case inl => exact absurd hh HTN.out); have HQ11 := Lib.hid (H10.out.1.fail H10.out.2 HS9.out k11); obtain ⟨m1, m3⟩ := HPKn.out w11 HQ11.out.2; clear k11)
                    | (go_at_call 33; go_loud (refine (refOpen_any a len cap b _ H9d.out.hi HNn.out HBy.out HL.out.2).mono ?_); rintro e' w10 ⟨g8, v8, rfl, d8, b8⟩; have H10 := Lib.hid (And.intro (H9d.out.now b8) d8); have HS9 : RowKit.Hid (w.heap.size ≤ w9.drew.heap.size) := H9d.out.hb.size; obtain ⟨m1, m3⟩ := HPKn.out w10 H10.out.1.hp; clear d8 b8)
                    | fail)
                  go_wp2
                  go_ret2
                  exact .inr ⟨HY.out, rfl, HQ11.out.1⟩
end Go.Proofs.YtobhoecmmpijgaaGreat
