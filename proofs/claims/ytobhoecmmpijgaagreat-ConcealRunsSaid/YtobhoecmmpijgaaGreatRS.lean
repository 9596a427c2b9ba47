/- Plain facts, and what functions give, for the proofs of this seat: several texts in one, each with its own first remark. -/
import Derived.Test.YtobhoecmmpijgaaGreatRQ
import Derived.Test.YtobhoecmmpijgaaGreatRR

/- A player that goes on with an encoder. -/
namespace Go.Proofs.YtobhoecmmpijgaaGreat
open Go Go.RowKit
set_option linter.unusedVariables false
set_option linter.unusedSimpArgs false

/-- It has what the encoder has behind the last frame. -/
structure Goes (S : S13) (T : P14) : Prop where
  ok : T.Ok
  has : T.has = !S.fs
  ah : T.has = true → T.ah = S.ah
  left : ∀ j, j < 128 → T.left j = S.left j
theorem goes_zero : Goes s13Zero p14Zero := ⟨p14Zero_ok, rfl, fun e => (by cases e), fun _ _ => rfl⟩
theorem S13.F_wh (S : S13) (Q : Int) (B : Nat) (f : Nat → Int) (r : Bool) : (S.F Q B f r).wh = (r || S.fs) := by unfold S13.F mkFrm; rfl
theorem S13.F_ah (S : S13) (Q : Int) (B : Nat) (f : Nat → Int) (r : Bool) : (S.F Q B f r).ah = if r || S.fs then fun _ => 0 else S.ah := by unfold S13.F mkFrm; rfl
theorem S13.next_left (S : S13) (Q : Int) (B : Nat) (f : Nat → Int) (n : Int) (r : Bool) : (S.next Q B f n r).left = leftF (briefF S.P f) ((S.F Q B f r).held n) := by unfold S13.next; rfl
theorem P14.play_left (T : P14) (b : List Int) (n : Int) : (T.play b n).left = leftF (plB b == 1) (heldF (plOut b T.ah n)) := by unfold P14.play; rfl
theorem P14.plays_is (T : P14) (b : List Int) (n : Int) : T.plays b n = samplesF (plB b == 1) (heldF (plOut b T.ah n)) T.left := by unfold P14.plays; rfl
/-- A frame's payload is played, if it is whole, or the player goes on; then it goes on, and hears, behind the same, what is heard. -/
theorem goes_play {S : S13} {T : P14} {Q : Int} {B : Nat} {f : Nat → Int} {r : Bool} (n : Int) (hF : (S.F Q B f r).Ok) (h : (r || S.fs) = true ∨ (T.has = true ∧ T.ah = S.ah)) :
    T.may (S.F Q B f r).bytes ∧ Goes (S.next Q B f n r) (T.play (S.F Q B f r).bytes n) ∧ ((∀ j, j < 128 → T.left j = S.left j) → T.plays (S.F Q B f r).bytes n = samplesF (briefF S.P f) ((S.F Q B f r).held n) S.left) := by
  have h0 : (S.F Q B f r).wh = true ∨ T.has = true := h.imp (fun e => by rw [S13.F_wh]; exact e) fun e => e.1
  have ha : (S.F Q B f r).wh = true ∨ T.ah = (S.F Q B f r).ah := by
    rcases h with e | ⟨_, e⟩
    · exact .inl (by rw [S13.F_wh]; exact e)
    · by_cases c : (r || S.fs) = true
      · exact .inl (by rw [S13.F_wh]; exact c)
      · right
        rw [S13.F_ah, if_neg c, e]
  have hm : T.may (S.F Q B f r).bytes := hF.pOk h0 ha
  have hh : ∀ i, i < 512 → heldF (plOut (S.F Q B f r).bytes T.ah n) i = (S.F Q B f r).held n i := fun i hi => hF.pHeld ha n hi
  have hb : (plB (S.F Q B f r).bytes == 1) = briefF S.P f := hF.pBr
  refine ⟨hm, ⟨P14.Ok.play hm n, rfl, fun _ => hF.pL ha, fun j _ => ?_⟩, fun hl => ?_⟩
  · rw [P14.play_left, S13.next_left, hb, leftF_ext hh]
  · rw [P14.plays_is, hb, samplesF_ext hh hl]
theorem Goes.next {S : S13} {T : P14} (h : Goes S T) {Q : Int} {B : Nat} {f : Nat → Int} {r : Bool} (n : Int) (hF : (S.F Q B f r).Ok) :
    T.may (S.F Q B f r).bytes ∧ Goes (S.next Q B f n r) (T.play (S.F Q B f r).bytes n) ∧ T.plays (S.F Q B f r).bytes n = samplesF (briefF S.P f) ((S.F Q B f r).held n) S.left := by
  obtain ⟨h1, h2, h3⟩ := goes_play (T := T) n hF (by
    cases hf : S.fs with
    | true => exact .inl (by simp)
    | false =>
      have e : T.has = true := by rw [h.has, hf]; rfl
      exact .inr ⟨e, h.ah e⟩)
  exact ⟨h1, h2, h3 h.left⟩
/-- A frame's own head is right; it says whether it is whole. -/
theorem Frm.Ok.headQ {F : Frm} (h : F.Ok) : 1 ≤ plQ F.bytes ∧ plQ F.bytes ≤ 10 := by rw [h.pQ]; exact h.q
end Go.Proofs.YtobhoecmmpijgaaGreat

/- What is held on the way of layer 14's laws. -/
namespace Go.Proofs.YtobhoecmmpijgaaGreat
open Go Go.RowKit
set_option linter.unusedVariables false
set_option linter.unusedSimpArgs false

/-- A row of bytes of one's own. -/
def BRow (w : World) (base : Nat) (v : Value) (b : List Int) : Prop := ∃ a cap, v = .slice a b.length cap ∧ (a = none → cap = 0) ∧ IntsAt w w.heap.size .u8 a b.length b ∧ (0 < b.length → ∃ r cs, a = some ⟨r, 0, none⟩ ∧ Cel w r 5 cs ∧ base ≤ r)
theorem BRow.keeps {F : Nat → Prop} {w w' : World} {base : Nat} {v : Value} {b : List Int} (h : BRow w base v b) (hk : Keeps F w w') (hF : ∀ j, F j → ∃ t, Typ w j t ∧ t ≠ 5) : BRow w' base v b := by
  obtain ⟨a, cap, h1, h2, h3, h4⟩ := h
  have hn : ∀ r cs, Cel w r 5 cs → ¬ F r := fun r cs hr hf => by obtain ⟨t, ht, hne⟩ := hF r hf; exact (Cel.typ hr).ne ht hne.symm rfl
  refine ⟨a, cap, h1, h2, (h3.keeps hk (Nat.le_refl _) fun r off e h0 _ hf => ?_).grow hk.size, fun h0 => ?_⟩
  · obtain ⟨r', cs, e', h5, _⟩ := h4 h0
    rw [e] at e'
    injection e' with e'
    injection e' with e1 e2
    subst e1
    exact hn _ _ h5 hf
  · obtain ⟨r, cs, e, h5, h6⟩ := h4 h0
    exact ⟨r, cs, e, h5.keeps hk (hn _ _ h5), h6⟩
theorem BRow.below {w w' : World} {base : Nat} {v : Value} {b : List Int} (h : BRow w base v b) (hb : Below w.heap.size w w') : BRow w' base v b := h.keeps (F := fun _ => False) (.of_below hb) fun _ c => c.elim
theorem BRow.own {w : World} {base : Nat} {v : Value} {b : List Int} (h : w.ownsRow base 5 1 v b.length (b.map (Value.int .u8))) : BRow w base v b := by
  obtain ⟨a, c, rfl⟩ := own_form h
  have h3 := own_ints' h
  rcases h.2 with ⟨e, hn⟩ | ⟨g, cap, cur, e, hb, hh, _⟩
  · injection e with e1 e2 e3
    subst e1
    subst e3
    exact ⟨_, _, rfl, fun _ => rfl, h3, fun h0 => by omega⟩
  · injection e with e1 e2 e3
    subst e1
    exact ⟨_, _, rfl, fun e => (by cases e), h3, fun _ => ⟨g, cur, rfl, hh, hb⟩⟩
/-- One byte is put. -/
theorem BRow.set {w : World} {base r i : Nat} {a : Option Addr} {cap : Nat} {b : List Int} (h : BRow w base (.slice a b.length cap) b) (ha : a = some ⟨r, 0, none⟩) (hi : i < b.length) (x : Int) : BRow (w.setCell ⟨r, i, none⟩ (.int .u8 x)) base (.slice a (b.set i x).length cap) (b.set i x) := by
  obtain ⟨a', cap', h1, h2, h3, h4⟩ := h
  injection h1 with e1 e2 e3
  subst e1
  subst e3
  subst ha
  obtain ⟨r', cs, e, h5, h6⟩ := h4 (by omega)
  injection e with e
  injection e with e _
  subst e
  have h7 := h5.set_ i (.int .u8 x)
  refine ⟨_, _, rfl, fun e => (by cases e), ⟨rfl, .inr ⟨r, 0, rfl, h7.lt, ?_, fun j hj => ?_⟩⟩, fun _ => ⟨r, _, rfl, h7, h6⟩⟩
  · rcases h3.2 with h | ⟨_, _, _, _, h, _⟩
    · omega
    · rw [List.length_set]; exact h
  · rw [List.length_set] at hj
    obtain ⟨b', off, e, _, _, hc⟩ := h3.at_ hj
    injection e with e
    injection e with e1 e2
    subst e1
    subst e2
    rw [Nat.zero_add] at hc ⊢
    rw [h7.cell]
    rw [h5.cell] at hc
    have hl : j < cs.size := by
      rcases Nat.lt_or_ge j cs.size with c | c
      · exact c
      · rw [Array.getElem?_eq_none c] at hc; cases hc
    by_cases c : j = i
    · subst c
      rw [Array.getElem?_setIfInBounds_self_of_lt hl]
      simp [List.getD, hi]
    · rw [Array.getElem?_setIfInBounds_ne (by omega), hc]
      simp [List.getD, List.getElem?_set_ne (show i ≠ j by omega)]
/-! ### All that is held -/
structure PaSt (w : World) (gm p s x : Nat) (Q : Int) (B : Nat) (S : S13) (T : P14) (wr : World) : Prop where
  hb : Below w.heap.size w wr
  hr : RefAt wr gm Q B S
  hp : PlyAt wr p s T
  hx : RlyAt wr x T
  ho : w.heap.size ≤ gm ∧ w.heap.size ≤ p ∧ w.heap.size ≤ s ∧ w.heap.size ≤ x
section
variable {w wr w' : World} {gm p s x : Nat} {Q : Int} {B : Nat} {S S' : S13} {T T' : P14}
theorem PaSt.now (h : PaSt w gm p s x Q B S T wr) (k : Below wr.heap.size wr w') : PaSt w gm p s x Q B S T w' := ⟨chain h.hb k, h.hr.below k, h.hp.below k, h.hx.below k, h.ho⟩
theorem PlyAt.odd (h : PlyAt wr p s T) : (∃ cs, Cel wr p 105 cs ∧ OddC cs) ∧ ∃ cs, Cel wr s 155 cs ∧ OddC cs := by
  obtain ⟨cs, ps, qs, cv, lv, br, h⟩ := h
  exact ⟨⟨_, h.e, .inl (by show 4 < 21; decide)⟩, _, h.s.1, oddC_syn⟩
/-- The program's player goes on. -/
theorem PaSt.prog (h : PaSt w gm p s x Q B S T wr) (hp : PlyAt w' p s T') (k : Keeps (fun j => j = p ∨ j = s) wr w') : Below w.heap.size w w' ∧ RefAt w' gm Q B S ∧ PlyAt w' p s T' ∧ RlyAt w' x T := by
  obtain ⟨⟨c1, k1, o1⟩, c2, k2, o2⟩ := h.hp.odd
  refine ⟨h.hb.trans (k.below h.hb.size fun j hj => by have := h.ho; rcases hj with rfl | rfl <;> omega), h.hr.keeps k (fun j hj => ?_), hp, h.hx.keeps k fun j hj => ?_⟩
  · rcases hj with rfl | rfl
    · exact ⟨_, Cel.typ k1, by decide, by decide, by decide⟩
    · exact ⟨_, Cel.typ k2, by decide, by decide, by decide⟩
  · rcases hj with rfl | rfl
    · exact ⟨_, _, k1, by decide, by decide, o1⟩
    · exact ⟨_, _, k2, by decide, by decide, o2⟩
end
/-- Where both players are. -/
structure PbSt (w : World) (gm p s x : Nat) (Q : Int) (B : Nat) (S : S13) (T T' : P14) (wr : World) : Prop where
  hb : Below w.heap.size w wr
  hr : RefAt wr gm Q B S
  hp : PlyAt wr p s T
  hx : RlyAt wr x T'
  ho : w.heap.size ≤ gm ∧ w.heap.size ≤ p ∧ w.heap.size ≤ s ∧ w.heap.size ≤ x
theorem PaSt.prog' {w wr w' : World} {gm p s x : Nat} {Q : Int} {B : Nat} {S : S13} {T T' : P14} (h : PaSt w gm p s x Q B S T wr) (hp : PlyAt w' p s T') (k : Keeps (fun j => j = p ∨ j = s) wr w') : PbSt w gm p s x Q B S T' T w' := by
  obtain ⟨h1, h2, h3, h4⟩ := h.prog hp k
  exact ⟨h1, h2, h3, h4, h.ho⟩
theorem PbSt.now {w wr w' : World} {gm p s x : Nat} {Q : Int} {B : Nat} {S : S13} {T T' : P14} (h : PbSt w gm p s x Q B S T T' wr) (k : Below wr.heap.size wr w') : PbSt w gm p s x Q B S T T' w' := ⟨chain h.hb k, h.hr.below k, h.hp.below k, h.hx.below k, h.ho⟩
theorem PbSt.done {w wr : World} {gm p s x : Nat} {Q : Int} {B : Nat} {S : S13} {T : P14} (h : PbSt w gm p s x Q B S T T wr) : PaSt w gm p s x Q B S T wr := ⟨h.hb, h.hr, h.hp, h.hx, h.ho⟩
end Go.Proofs.YtobhoecmmpijgaaGreat

/- Play, Fade, Lose, New: the walks of package player. -/
namespace Go.Proofs.YtobhoecmmpijgaaGreat
open Go Go.RowKit
set_option linter.unusedVariables false
set_option linter.unusedSimpArgs false

/-! ### The sound of a frame -/
def SndPost (p s : Nat) (ah l left : Nat → Int) (br : Bool) (w : World) (e : Ending) (w' : World) : Prop :=
  ∃ r, e = .returned (.tuple #[.slice (some ⟨r, 0, none⟩) 512 512, .int .i64 0]) ∧ IFun w' r 51 .i16 512 (samplesF br l left) ∧ w.heap.size ≤ r ∧ PlyAt w' p s ⟨true, ah, l, br, leftF br l⟩ ∧ Keeps (fun j => j = p ∨ j = s) w w'
theorem plyC_z {w : World} {g s : Nat} {cv lv : Value} {br : Bool} (h : Cel w g 105 (plyC s cv lv br)) :
    w.frozen? ⟨g, 1, none⟩ = false ∧ w.frozen? ⟨g, 2, none⟩ = false ∧ w.frozen? ⟨g, 3, none⟩ = false := ⟨h.frozen 1, h.frozen 2, h.frozen 3⟩
set_option maxHeartbeats 1000000 in
set_option maxRecDepth 100000 in
theorem pSound_any (p s c x : Nat) (S : P14) (ah l : Nat → Int) (br : Bool) (w : World) (hP : PlyAt w p s S) (hc : CutAt w c ah) (hx : IFun w x 21 .i32 512 l) (hb : ∀ j, j < 512 → -33554432 ≤ l j ∧ l j ≤ 33554431) (hl : ∀ j, j < 128 → (S.left j).natAbs ≤ 1073741000) :
    Calls Tryz.prog 49 #[.pointer (some ⟨p, 0, none⟩), .agg #[.slice (some ⟨c, 0, none⟩) 21 21, .slice (some ⟨x, 0, none⟩) 512 512, .bool br]] w (SndPost p s ah l S.left br w) := by
  obtain ⟨cs, ps, qs, cv, lv, br0, h⟩ := hP
  have HP := Lib.hid h.e
  have HS := Lib.hid h.s
  have HC := Lib.hid hc
  have HX := Lib.hid hx
  have HBd := Lib.hid hb
  have HLf := Lib.hid hl
  have hps := Lib.hid (h.e.ne h.s.1 (by decide))
  have HB0 := Lib.hid (Below.alloc_new w (.cells #[.slice (some ⟨c, 0, none⟩) 21 21, .slice (some ⟨x, 0, none⟩) 512 512, .bool br] 103))
  have HF0 := Lib.hid (Cel.new w 103 #[.slice (some ⟨c, 0, none⟩) 21 21, .slice (some ⟨x, 0, none⟩) 512 512, .bool br])
  have HP0 := Lib.hid (h.e.below HB0.out)
  clear h hc hx hb hl
  go_enter Tryz.func49, Tryz.ntmps49
  go_wp2
  generalize hw0 : (w.alloc (.cells #[.slice (some ⟨c, 0, none⟩) 21 21, .slice (some ⟨x, 0, none⟩) 512 512, .bool br] 103)) = w0 at HB0 HF0 HP0 ⊢
  obtain ⟨f, hf⟩ : ∃ f, f = w.heap.size := ⟨_, rfl⟩
  rw [← hf] at HF0 ⊢
  have HF := Lib.hid hf
  clear hw0 hf
  obtain ⟨d0, _, _, _⟩ := plyC_at HP0.out
  have f0 : w0.cell? ⟨f, 0, none⟩ = some (.slice (some ⟨c, 0, none⟩) 21 21) := HF0.out.cell 0
  have f1 : w0.cell? ⟨f, 1, none⟩ = some (.slice (some ⟨x, 0, none⟩) 512 512) := HF0.out.cell 1
  have f2 : w0.cell? ⟨f, 2, none⟩ = some (.bool br) := HF0.out.cell 2
  have p0 : w0.cell? ⟨p, 0, none⟩ = some (.pointer (some ⟨s, 0, none⟩)) := HP0.out.cell 0
  clear d0
  go_region_held3 (fun w' => w'.cell? ⟨p, 0, none⟩ = some (.pointer (some ⟨s, 0, none⟩)) ∧ w'.cell? ⟨f, 1, none⟩ = some (.slice (some ⟨x, 0, none⟩) 512 512) ∧ w'.cell? ⟨f, 2, none⟩ = some (.bool br)) (go_keep) (first
    | (go_at_call 79; go_loud (refine (synSamples_any s cs ps qs x S.left l br w0.drew (HS.out.below (Below.drewN' HB0.out 1)) (HX.out.below (Below.drewN' HB0.out 1) HX.out.lt) HBd.out HLf.out).mono ?_); rintro e w1 ⟨r1, rfl, i1, s1, o1, k1⟩; have HI1 := Lib.hid i1; have HS1 : RowKit.Hid (w.heap.size ≤ r1) := Nat.le_trans HB0.out.size s1; have HO1 := Lib.hid o1; have HK1 : RowKit.Hid (Keeps (· = s) w w1) := (Keeps.of_below (Below.drewN' HB0.out 1)).trans k1; have HP1 : RowKit.Hid (Cel w1 p 105 (plyC s cv lv br0)) := Cel.keeps (w := w0.drew) HP0.out k1 hps.out; have HF1 : RowKit.Hid (Cel w1 f 103 #[.slice (some ⟨c, 0, none⟩) 21 21, .slice (some ⟨x, 0, none⟩) 512 512, .bool br]) := Cel.keeps (w := w0.drew) HF0.out k1 (fun e => HF0.out.ne (HS.out.1.below HB0.out) (by decide) e); clear i1 s1 o1 k1; have f0 : w1.cell? ⟨f, 0, none⟩ = some (.slice (some ⟨c, 0, none⟩) 21 21) := HF1.out.cell 0; have f1 : w1.cell? ⟨f, 1, none⟩ = some (.slice (some ⟨x, 0, none⟩) 512 512) := HF1.out.cell 1; have f2 : w1.cell? ⟨f, 2, none⟩ = some (.bool br) := HF1.out.cell 2; obtain ⟨e0, e1, e2, e3⟩ := plyC_at HP1.out; obtain ⟨z1, z2, z3⟩ := plyC_z HP1.out)
    | fail)
  go_wp2
  go_ret2
  have K : Keeps (· = p) w1 (((w1.setCell ⟨p, 1, none⟩ (.slice (some ⟨c, 0, none⟩) 21 21)).setCell ⟨p, 2, none⟩ (.slice (some ⟨x, 0, none⟩) 512 512)).setCell ⟨p, 3, none⟩ (.bool br)) := ((Keeps.set1 _).trans (Keeps.set1 _)).trans (Keeps.set1 _)
  have E : Cel (((w1.setCell ⟨p, 1, none⟩ (.slice (some ⟨c, 0, none⟩) 21 21)).setCell ⟨p, 2, none⟩ (.slice (some ⟨x, 0, none⟩) 512 512)).setCell ⟨p, 3, none⟩ (.bool br)) p 105 (plyC s (.slice (some ⟨c, 0, none⟩) 21 21) (.slice (some ⟨x, 0, none⟩) 512 512) br) := ((HP1.out.set_ 1 _).set_ 2 _).set_ 3 _
  have c1 := Cel.keeps HC.out HK1.out (Cel.ne HC.out HS.out.1 (by decide))
  have x1 := Cel.keeps HX.out HK1.out (Cel.ne HX.out HS.out.1 (by decide))
  exact ⟨r1, rfl, Cel.keeps HI1.out K (Cel.ne HI1.out HP1.out (by decide)), HS1.out, ⟨cs, ps, qs, _, _, br, E, HO1.out.keeps HP1.out (fun e => hps.out e.symm) (by decide) (by decide) K, .inr ⟨rfl, rfl, c, x, rfl, rfl, Cel.keeps c1 K (Cel.ne c1 HP1.out (by decide)), Cel.keeps x1 K (Cel.ne x1 HP1.out (by decide))⟩⟩, (HK1.out.mono fun j hj => .inr hj).trans (K.mono fun j hj => .inl hj)⟩

/-! ### Read -/
set_option maxRecDepth 100000 in
theorem pRead_any (a : Option Addr) (len cap : Nat) (b : List Int) (w : World) (hI : IntsAt w w.heap.size .u8 a len b) (hn : a = none → cap = 0) (hb : ∀ j, 0 ≤ byteF b j ∧ byteF b j ≤ 255) (hl : len ≤ 100000) :
    Calls Tryz.prog 67 #[.slice a len cap] w (ReadPost b w) := by
  have HBy := Lib.hid hb
  have HNn := Lib.hid hn
  have hbl : b.length ≤ 100000 := by rw [hI.1]; exact hl
  obtain ⟨z, hz⟩ : ∃ z, z = w.heap.size := ⟨_, rfl⟩
  obtain ⟨w0, hw0⟩ : ∃ w0, w0 = w.alloc (.cells #[.bool false, .bool false, .int .i64 0, .int .i64 0] 139) := ⟨_, rfl⟩
  have hb0 : Below w.heap.size w w0 := by rw [hw0]; exact Below.alloc_new w _
  have HZ0 : RowKit.Hid (Cel w0 z 139 hdZ) := by show Cel _ _ _ _; rw [hw0, hz]; exact Cel.new w _ _
  have HB0 := Lib.hid hb0
  have HI0 := Lib.hid (hI.now hb0 (Nat.le_refl _))
  have HW0 : RowKit.Hid (w0 = w.alloc (.cells #[.bool false, .bool false, .int .i64 0, .int .i64 0] 139)) := hw0
  have HZz : RowKit.Hid (z = w.heap.size) := hz
  have HV : RowKit.Hid (headV b = .agg #[.bool (plW b == 1), .bool (plB b == 1), .int .i64 (plQ b), .int .i64 (plLo b)]) := rfl
  generalize (plW b == 1) = wh at HV
  generalize (plB b == 1) = br at HV
  generalize plQ b = Q at HV
  generalize plLo b = L at HV
  clear hw0 hb0 hI hb hn hz
  go_enter Tryz.func67, Tryz.ntmps67
  cases hHr : headR b with
  | false =>
    have HHr := Lib.hid hHr
    have HVz : RowKit.Hid (headZ = .agg #[.bool false, .bool false, .int .i64 0, .int .i64 0]) := rfl
    clear hHr
    go_wp2_with (first
      | (go_at_call 83; go_loud (refine (pReadHead_any _ g v b _ H1.out.1 HBy.out hbl).mono ?_); rintro e w2 ⟨d2, k2, ⟨hh, _⟩ | ⟨_, rfl⟩⟩; (case inl => exact absurd (HHr.out.symm.trans hh) (by decide)); rw [HVz.out]; have hg := H1.out.1.lt.2; have H2 : RowKit.Hid (Cel w2 z 139 hdZ ∧ Below w.heap.size w w2) := ⟨H1.out.2.1.keeps k2 (fun e => H1.out.2.1.ne H1.out.1.2.1 (by decide) e), H1.out.2.2.trans (k2.below H1.out.2.2.size fun j hj => by have := HB0.out.size; omega)⟩; clear d2 k2 hg; have q0 : w2.cell? ⟨z, 0, none⟩ = some (.bool false) := H2.out.1.cell 0; have q1 : w2.cell? ⟨z, 1, none⟩ = some (.bool false) := H2.out.1.cell 1; have q2 : w2.cell? ⟨z, 2, none⟩ = some (.int .i64 0) := H2.out.1.cell 2; have q3 : w2.cell? ⟨z, 3, none⟩ = some (.int .i64 0) := H2.out.1.cell 3; have z0 := H2.out.1.frozen 0; have z1 := H2.out.1.frozen 1; have z2 := H2.out.1.frozen 2; have z3 := H2.out.1.frozen 3)
      | (go_at_call 82; rw [← HW0.out, ← HZz.out]; go_loud (refine (drcNew_any a len cap b _ HI0.out HNn.out HBy.out (by omega)).mono ?_); rintro e w1 ⟨g, v, rfl, d1, b1⟩; have H1 : RowKit.Hid (DrcAt w1 w0.heap.size g v b (plD0 b) ∧ Cel w1 z 139 hdZ ∧ Below w.heap.size w w1) := ⟨d1, HZ0.out.below b1, chain HB0.out b1⟩; clear d1 b1))
    refine bodyPost_ret (results_cell2 rfl rfl rfl (run_loadVar_row _ z _ _ _ (0, 0) _ ((((H2.out.1.set_ 0 _).set_ 1 _).set_ 2 _).set_ 3 _) Tryz.underlying139 rfl infoC_head)) rfl ?_
    exact ⟨(((H2.out.2.setCell (p := ⟨z, 0, none⟩) (Nat.le_of_eq HZz.out.symm) _).setCell (p := ⟨z, 1, none⟩) (Nat.le_of_eq HZz.out.symm) _).setCell (p := ⟨z, 2, none⟩) (Nat.le_of_eq HZz.out.symm) _).setCell (p := ⟨z, 3, none⟩) (Nat.le_of_eq HZz.out.symm) _, .inr ⟨HHr.out, rfl⟩⟩
  | true =>
    have HHr := Lib.hid hHr
    clear hHr
    go_wp2_with (first
      | (go_at_call 83; go_loud (refine (pReadHead_any _ g v b _ H1.out.1 HBy.out hbl).mono ?_); rintro e w2 ⟨d2, k2, ⟨_, rfl⟩ | ⟨hh, _⟩⟩; (case inr => exact absurd (HHr.out.symm.trans hh) (by decide)); rw [HV.out]; have hg := H1.out.1.lt.2; have H2 : RowKit.Hid (Cel w2 z 139 hdZ ∧ Below w.heap.size w w2) := ⟨H1.out.2.1.keeps k2 (fun e => H1.out.2.1.ne H1.out.1.2.1 (by decide) e), H1.out.2.2.trans (k2.below H1.out.2.2.size fun j hj => by have := HB0.out.size; omega)⟩; clear d2 k2 hg; have q0 : w2.cell? ⟨z, 0, none⟩ = some (.bool false) := H2.out.1.cell 0; have q1 : w2.cell? ⟨z, 1, none⟩ = some (.bool false) := H2.out.1.cell 1; have q2 : w2.cell? ⟨z, 2, none⟩ = some (.int .i64 0) := H2.out.1.cell 2; have q3 : w2.cell? ⟨z, 3, none⟩ = some (.int .i64 0) := H2.out.1.cell 3; have z0 := H2.out.1.frozen 0; have z1 := H2.out.1.frozen 1; have z2 := H2.out.1.frozen 2; have z3 := H2.out.1.frozen 3)
      | (go_at_call 82; rw [← HW0.out, ← HZz.out]; go_loud (refine (drcNew_any a len cap b _ HI0.out HNn.out HBy.out (by omega)).mono ?_); rintro e w1 ⟨g, v, rfl, d1, b1⟩; have H1 : RowKit.Hid (DrcAt w1 w0.heap.size g v b (plD0 b) ∧ Cel w1 z 139 hdZ ∧ Below w.heap.size w w1) := ⟨d1, HZ0.out.below b1, chain HB0.out b1⟩; clear d1 b1))
    refine bodyPost_ret (results_cell2 rfl rfl rfl (run_loadVar_row _ z _ _ _ (0, 0) _ ((((H2.out.1.set_ 0 _).set_ 1 _).set_ 2 _).set_ 3 _) Tryz.underlying139 rfl infoC_head)) rfl ?_
    exact ⟨(((H2.out.2.setCell (p := ⟨z, 0, none⟩) (Nat.le_of_eq HZz.out.symm) _).setCell (p := ⟨z, 1, none⟩) (Nat.le_of_eq HZz.out.symm) _).setCell (p := ⟨z, 2, none⟩) (Nat.le_of_eq HZz.out.symm) _).setCell (p := ⟨z, 3, none⟩) (Nat.le_of_eq HZz.out.symm) _, .inl ⟨HHr.out, by rw [HV.out]; rfl⟩⟩

/-! ### Play -/
def PPlayPost (S : P14) (b : List Int) (n : Int) (p s : Nat) (w : World) (e : Ending) (w' : World) : Prop :=
  (S.may b ∧ ∃ r, e = .returned (.tuple #[.slice (some ⟨r, 0, none⟩) 512 512, .int .i64 0]) ∧ IFun w' r 51 .i16 512 (S.plays b n) ∧ w.heap.size ≤ r ∧ PlyAt w' p s (S.play b n) ∧ Keeps (fun j => j = p ∨ j = s) w w') ∨
  (¬ S.may b ∧ ∃ er, e = .returned (.tuple #[.slice none 0 0, .int .i64 er]) ∧ (er = 3 ∨ er = 8) ∧ (headR b = false → er = 3) ∧ (headR b = true → plWh b = false → S.has = false → er = 8) ∧ Below w.heap.size w w')
set_option maxHeartbeats 1000000 in
set_option maxRecDepth 100000 in
theorem pPlay_any (S : P14) (b : List Int) (n : Int) (p s : Nat) (a : Option Addr) (len cap : Nat) (w : World) (hP : PlyAt w p s S) (hS : S.Ok)
    (hI : IntsAt w w.heap.size .u8 a len b) (hn : a = none → cap = 0) (hb : ∀ j, 0 ≤ byteF b j ∧ byteF b j ≤ 255) (hl : len ≤ 100000) (n0 : 0 ≤ n) (n1 : n ≤ 4294967295) :
    Calls Tryz.prog 18 #[.pointer (some ⟨p, 0, none⟩), .int .u32 n, .slice a len cap] w (PPlayPost S b n p s w) := by
  have HPl := Lib.hid hP
  have HOk := Lib.hid hS
  have HI := Lib.hid hI
  have HNn := Lib.hid hn
  have HBy := Lib.hid hb
  obtain ⟨cs, ps, qs, cv, lv, br, h⟩ := hP
  obtain ⟨o, la, ll, lc, hcv, hlv, hO⟩ : ∃ (o : Option Nat) (la : Option Addr) (ll lc : Nat), cv = .slice (ahA o) (ahN o) (ahN o) ∧ lv = .slice la ll lc ∧ ((S.has = false ∧ o = none) ∨ (S.has = true ∧ ∃ c, o = some c ∧ CutAt w c S.ah)) := by
    rcases h.f with ⟨h1, h2, h3, _⟩ | ⟨h1, _, c, x, h2, h3, h4, _⟩
    · exact ⟨none, none, 0, 0, h2, h3, .inl ⟨h1, rfl⟩⟩
    · exact ⟨some c, some ⟨x, 0, none⟩, 512, 512, h2, h3, .inr ⟨h1, c, rfl, h4⟩⟩
  subst hcv
  subst hlv
  have HO := Lib.hid hO
  obtain ⟨d0, d1, d2, d3⟩ := plyC_at h.e
  clear h hS hI hn hb hO
  have HFz : RowKit.Hid (frmZ = .agg #[.slice none 0 0, .slice none 0 0, .bool false]) := rfl
  by_cases hm : S.may b
  · have HM := Lib.hid hm
    clear hm
    go_enter Tryz.func18, Tryz.ntmps18
    go_wp2_with (first
      | (go_at_call 48; go_loud (refine (pNext_any S b n o la a ll lc len cap br w HO.out HOk.out.ah HI.out HNn.out HBy.out hl n0 n1).mono ?_); rintro e w1 ⟨b1, ⟨_, c, x, rfl, hc, hx⟩ | ⟨hh, _⟩⟩; (case inr => exact absurd HM.out hh); have HB1 := Lib.hid b1; have HC1 := Lib.hid hc; have HX1 := Lib.hid hx; have HA := Lib.hid (Below.alloc_new w1 (.cells #[.slice (some ⟨c, 0, none⟩) 21 21, .slice (some ⟨x, 0, none⟩) 512 512, .bool (plB b == 1)] 103)); clear b1 hc hx)
      | (go_at_call 49; go_loud (refine (pSound_any p s c x S (plL b S.ah) (heldF (plOut b S.ah n)) (plB b == 1) _ ((HPl.out.below HB1.out).below HA.out) (HC1.out.below HA.out HC1.out.lt) (HX1.out.below HA.out HX1.out.lt) (fun j _ => heldF_bd _ j) HOk.out.left).mono ?_); rintro e w2 ⟨r, rfl, i2, s2, p2, k2⟩; have HI2 := Lib.hid i2; have HS2 : RowKit.Hid (w.heap.size ≤ r) := Nat.le_trans (chain HB1.out HA.out).size s2; have HP2 := Lib.hid p2; have HK2 : RowKit.Hid (Keeps (fun j => j = p ∨ j = s) w w2) := (Keeps.of_below (chain HB1.out HA.out)).trans k2; clear i2 s2 p2 k2))
    go_ret2
    exact .inl ⟨HM.out, r, rfl, HI2.out, HS2.out, HP2.out, HK2.out⟩
  · have HM := Lib.hid hm
    clear hm
    go_enter Tryz.func18, Tryz.ntmps18
    go_wp2_with (go_at_call 48; go_loud (refine (pNext_any S b n o la a ll lc len cap br w HO.out HOk.out.ah HI.out HNn.out HBy.out hl n0 n1).mono ?_); rintro e w1 ⟨b1, ⟨hh, _⟩ | ⟨_, er, rfl, h3, h4, h5⟩⟩; (case inl => exact absurd hh HM.out); rw [HFz.out]; have HB1 := Lib.hid b1; have HE := Lib.hid (And.intro h3 (And.intro h4 h5)); have her : (er != 0) = true := (by rcases h3 with e | e <;> rw [e] <;> rfl); clear b1 h3 h4 h5)
    go_ret2
    exact .inr ⟨HM.out, er, rfl, HE.out.1, HE.out.2.1, HE.out.2.2, chain HB1.out (Below.alloc_new w1 _)⟩

/-! ### Fade, Lose, New -/
def PFadePost (S : P14) (p s : Nat) (w : World) (e : Ending) (w' : World) : Prop :=
  ∃ r, e = .returned (.tuple #[.slice (some ⟨r, 0, none⟩) 512 512, .int .i64 0]) ∧ IFun w' r 51 .i16 512 S.fades ∧ w.heap.size ≤ r ∧ PlyAt w' p s S.fade ∧ Keeps (fun j => j = p ∨ j = s) w w'
set_option maxRecDepth 100000 in
theorem pFade_any (S : P14) (p s : Nat) (w : World) (hP : PlyAt w p s S) (hS : S.Ok) (hh : S.has = true) : Calls Tryz.prog 70 #[.pointer (some ⟨p, 0, none⟩)] w (PFadePost S p s w) := by
  have HPl := Lib.hid hP
  have HOk := Lib.hid hS
  obtain ⟨cs, ps, qs, cv, lv, br, h⟩ := hP
  rcases h.f with ⟨h1, _⟩ | ⟨_, rfl, c, x, rfl, rfl, hc, hx⟩
  · rw [hh] at h1
    cases h1
  · obtain ⟨d0, d1, d2, d3⟩ := plyC_at h.e
    have HE := Lib.hid h.e
    have HC := Lib.hid hc
    have HX := Lib.hid hx
    clear h hc hx hS hh
    go_enter Tryz.func70, Tryz.ntmps70
    go_wp2_with (first
      | (go_at_call 84; go_loud (refine (pThere_any (some ⟨c, 0, none⟩) (some ⟨x, 0, none⟩) 21 21 512 512 S.br _ (by decide)).mono ?_); rintro e w3 ⟨rfl, b3⟩; rw [show (!decide ((21 : Nat) = 0)) = true from rfl]; have HB3 := Lib.hid b3; clear b3; obtain ⟨e0, e1, e2, e3⟩ := plyC_at (HE.out.below HB3.out))
      | (go_at_call 100; go_loud (refine (pHalf_any c x S.br S.l _ (HX.out.below HB3.out HX.out.lt) HOk.out.l).mono ?_); rintro e w4 ⟨y, rfl, i4, s4, b4⟩; have HI4 := Lib.hid i4; have HB4 := Lib.hid (chain HB3.out b4); clear i4 s4 b4)
      | (go_at_call 49; go_loud (refine (pSound_any p s c y S S.ah (halfF S.l) S.br _ (HPl.out.below HB4.out) (HC.out.below HB4.out HC.out.lt) HI4.out (fun j hj => halfF_bd (HOk.out.l j hj)) HOk.out.left).mono ?_); rintro e w2 ⟨r, rfl, i2, s2, p2, k2⟩; have HI2 := Lib.hid i2; have HS2 : RowKit.Hid (w.heap.size ≤ r) := Nat.le_trans HB4.out.size s2; have HP2 := Lib.hid p2; have HK2 : RowKit.Hid (Keeps (fun j => j = p ∨ j = s) w w2) := (Keeps.of_below HB4.out).trans k2; clear i2 s2 p2 k2))
    go_ret2
    exact ⟨r, rfl, HI2.out, HS2.out, HP2.out, HK2.out⟩
def PNewPost (w : World) (e : Ending) (w' : World) : Prop := ∃ p s, e = .returned (.pointer (some ⟨p, 0, none⟩)) ∧ PlyAt w' p s p14Zero ∧ w.heap.size ≤ p ∧ w.heap.size ≤ s ∧ Below w.heap.size w w'
theorem pNew_any (w : World) : Calls Tryz.prog 16 #[] w (PNewPost w) := by
  go_enter Tryz.func16, Tryz.ntmps16
  go_wp2_with (go_at_call 41; go_loud (refine (newSynth_any _).mono ?_); rintro e w2 ⟨s, cs, ps, qs, rfl, o2, s2, b2⟩; have HO2 := Lib.hid o2; have HS2 := Lib.hid s2; have HB2 := Lib.hid b2; clear o2 s2 b2)
  go_ret
  have ba := Below.alloc_new w2 (.cells (plyC s (.slice none 0 0) (.slice none 0 0) false) 105)
  exact ⟨_, s, rfl, ⟨cs, ps, qs, _, _, _, Cel.new w2 _ _, HO2.out.below ba, .inl ⟨rfl, rfl, rfl, rfl⟩⟩, HB2.out.size, HS2.out, chain HB2.out ba⟩
end Go.Proofs.YtobhoecmmpijgaaGreat
