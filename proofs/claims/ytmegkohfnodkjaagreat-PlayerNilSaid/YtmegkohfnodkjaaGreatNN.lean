/- Plain facts, and what functions give, for the proofs of this seat: several texts in one, each with its own first remark. -/
import Derived.Test.YtmegkohfnodkjaaGreatNL

/- A player that goes on with an encoder. -/
namespace Go.Proofs.YtmegkohfnodkjaaGreat
open Go Go.RowKit
set_option linter.unusedVariables false
set_option linter.unusedSimpArgs false

/-- It has what the encoder has behind the last frame. -/
structure Goes (S : S13) (T : P14) : Prop where
  ok : T.Ok
  has : T.has = !S.fs
  ah : T.has = true → T.ah = S.ah
  left : ∀ j, j < 128 → T.left j = S.left j
theorem S13.F_wh (S : S13) (Q : Int) (B : Nat) (f : Nat → Int) (r : Bool) : (S.F Q B f r).wh = (r || S.fs) := by unfold S13.F mkFrm; rfl
theorem S13.F_ah (S : S13) (Q : Int) (B : Nat) (f : Nat → Int) (r : Bool) : (S.F Q B f r).ah = if r || S.fs then fun _ => 0 else S.ah := by unfold S13.F mkFrm; rfl
theorem S13.next_left (S : S13) (Q : Int) (B : Nat) (f : Nat → Int) (n : Int) (r : Bool) : (S.next Q B f n r).left = leftF (briefF S.P f) ((S.F Q B f r).held n) := by unfold S13.next; rfl
theorem P14.play_left (T : P14) (b : List Int) (n : Int) : (T.play b n).left = leftF (plB b == 1) (heldF (plOut b T.ah n)) := by unfold P14.play; rfl
theorem P14.plays_is (T : P14) (b : List Int) (n : Int) : T.plays b n = samplesF (plB b == 1) (heldF (plOut b T.ah n)) T.left := by unfold P14.plays; rfl
/-- A frame's payload is played, if it is whole, or the player goes on; then it goes on, and hears, behind the same, what is heard. -/
theorem goes_play {S : S13} {T : P14} {Q : Int} {B : Nat} {f : Nat → Int} {r : Bool} (n : Int) (hF : (S.F Q B f r).Ok) (h : (r || S.fs) = true ∨ (T.has = true ∧ T.ah = S.ah)) :
    T.may (S.F Q B f r).bytes ∧ Goes (S.next Q B f n r) (T.play (S.F Q B f r).bytes n) ∧ ((∀ j, j < 128 → T.left j = S.left j) → T.plays (S.F Q B f r).bytes n = samplesF (briefF S.P f) ((S.F Q B f r).held n) S.left) := by
  have h0 : (S.F Q B f r).wh = true ∨ T.has = true := h.imp (fun e => by rw [S13.F_wh]; exact e) fun e => e.1
  have ha : (S.F Q B f r).wh = true ∨ T.ah = (S.F Q B f r).ah := by
    rcases h with e | ⟨_, e⟩
    · exact .inl (by rw [S13.F_wh]; exact e)
    · by_cases c : (r || S.fs) = true
      · exact .inl (by rw [S13.F_wh]; exact c)
      · right
        rw [S13.F_ah, if_neg c, e]
  have hm : T.may (S.F Q B f r).bytes := hF.pOk h0 ha
  have hh : ∀ i, i < 512 → heldF (plOut (S.F Q B f r).bytes T.ah n) i = (S.F Q B f r).held n i := fun i hi => hF.pHeld ha n hi
  have hb : (plB (S.F Q B f r).bytes == 1) = briefF S.P f := hF.pBr
  refine ⟨hm, ⟨P14.Ok.play hm n, rfl, fun _ => hF.pL ha, fun j _ => ?_⟩, fun hl => ?_⟩
  · rw [P14.play_left, S13.next_left, hb, leftF_ext hh]
  · rw [P14.plays_is, hb, samplesF_ext hh hl]
theorem Goes.next {S : S13} {T : P14} (h : Goes S T) {Q : Int} {B : Nat} {f : Nat → Int} {r : Bool} (n : Int) (hF : (S.F Q B f r).Ok) :
    T.may (S.F Q B f r).bytes ∧ Goes (S.next Q B f n r) (T.play (S.F Q B f r).bytes n) ∧ T.plays (S.F Q B f r).bytes n = samplesF (briefF S.P f) ((S.F Q B f r).held n) S.left := by
  obtain ⟨h1, h2, h3⟩ := goes_play (T := T) n hF (by
    cases hf : S.fs with
    | true => exact .inl (by simp)
    | false =>
      have e : T.has = true := by rw [h.has, hf]; rfl
      exact .inr ⟨e, h.ah e⟩)
  exact ⟨h1, h2, h3 h.left⟩
/-- A frame's own head is right; it says whether it is whole. -/
theorem Frm.Ok.headQ {F : Frm} (h : F.Ok) : 1 ≤ plQ F.bytes ∧ plQ F.bytes ≤ 10 := by rw [h.pQ]; exact h.q
theorem Frm.Ok.not_may {F : Frm} (h : F.Ok) (hw : F.wh = false) (T : P14) (hT : T.has = false) : ¬ T.may F.bytes := fun hm => by
  have h0 := hm.1
  rw [hT] at h0
  unfold plOk0 at h0
  rw [h.pW, hw] at h0
  simp [b2] at h0
end Go.Proofs.YtmegkohfnodkjaaGreat

/- What is held on the way of layer 14's laws. -/
namespace Go.Proofs.YtmegkohfnodkjaaGreat
open Go Go.RowKit
set_option linter.unusedVariables false
set_option linter.unusedSimpArgs false

/-- A row of bytes of one's own. -/
def BRow (w : World) (base : Nat) (v : Value) (b : List Int) : Prop := ∃ a cap, v = .slice a b.length cap ∧ (a = none → cap = 0) ∧ IntsAt w w.heap.size .u8 a b.length b ∧ (0 < b.length → ∃ r cs, a = some ⟨r, 0, none⟩ ∧ Cel w r 5 cs ∧ base ≤ r)
theorem BRow.keeps {F : Nat → Prop} {w w' : World} {base : Nat} {v : Value} {b : List Int} (h : BRow w base v b) (hk : Keeps F w w') (hF : ∀ j, F j → ∃ t, Typ w j t ∧ t ≠ 5) : BRow w' base v b := by
  obtain ⟨a, cap, h1, h2, h3, h4⟩ := h
  have hn : ∀ r cs, Cel w r 5 cs → ¬ F r := fun r cs hr hf => by obtain ⟨t, ht, hne⟩ := hF r hf; exact (Cel.typ hr).ne ht hne.symm rfl
  refine ⟨a, cap, h1, h2, (h3.keeps hk (Nat.le_refl _) fun r off e h0 _ hf => ?_).grow hk.size, fun h0 => ?_⟩
  · obtain ⟨r', cs, e', h5, _⟩ := h4 h0
    rw [e] at e'
    injection e' with e'
    injection e' with e1 e2
    subst e1
    exact hn _ _ h5 hf
  · obtain ⟨r, cs, e, h5, h6⟩ := h4 h0
    exact ⟨r, cs, e, h5.keeps hk (hn _ _ h5), h6⟩
theorem BRow.below {w w' : World} {base : Nat} {v : Value} {b : List Int} (h : BRow w base v b) (hb : Below w.heap.size w w') : BRow w' base v b := h.keeps (F := fun _ => False) (.of_below hb) fun _ c => c.elim
theorem BRow.own {w : World} {base : Nat} {v : Value} {b : List Int} (h : w.ownsRow base 5 1 v b.length (b.map (Value.int .u8))) : BRow w base v b := by
  obtain ⟨a, c, rfl⟩ := own_form h
  have h3 := own_ints' h
  rcases h.2 with ⟨e, hn⟩ | ⟨g, cap, cur, e, hb, hh, _⟩
  · injection e with e1 e2 e3
    subst e1
    subst e3
    exact ⟨_, _, rfl, fun _ => rfl, h3, fun h0 => by omega⟩
  · injection e with e1 e2 e3
    subst e1
    exact ⟨_, _, rfl, fun e => (by cases e), h3, fun _ => ⟨g, cur, rfl, hh, hb⟩⟩
/-- One byte is put. -/
theorem BRow.set {w : World} {base r i : Nat} {a : Option Addr} {cap : Nat} {b : List Int} (h : BRow w base (.slice a b.length cap) b) (ha : a = some ⟨r, 0, none⟩) (hi : i < b.length) (x : Int) : BRow (w.setCell ⟨r, i, none⟩ (.int .u8 x)) base (.slice a (b.set i x).length cap) (b.set i x) := by
  obtain ⟨a', cap', h1, h2, h3, h4⟩ := h
  injection h1 with e1 e2 e3
  subst e1
  subst e3
  subst ha
  obtain ⟨r', cs, e, h5, h6⟩ := h4 (by omega)
  injection e with e
  injection e with e _
  subst e
  have h7 := h5.set_ i (.int .u8 x)
  refine ⟨_, _, rfl, fun e => (by cases e), ⟨rfl, .inr ⟨r, 0, rfl, h7.lt, ?_, fun j hj => ?_⟩⟩, fun _ => ⟨r, _, rfl, h7, h6⟩⟩
  · rcases h3.2 with h | ⟨_, _, _, _, h, _⟩
    · omega
    · rw [List.length_set]; exact h
  · rw [List.length_set] at hj
    obtain ⟨b', off, e, _, _, hc⟩ := h3.at_ hj
    injection e with e
    injection e with e1 e2
    subst e1
    subst e2
    rw [Nat.zero_add] at hc ⊢
    rw [h7.cell]
    rw [h5.cell] at hc
    have hl : j < cs.size := by
      rcases Nat.lt_or_ge j cs.size with c | c
      · exact c
      · rw [Array.getElem?_eq_none c] at hc; cases hc
    by_cases c : j = i
    · subst c
      rw [Array.getElem?_setIfInBounds_self_of_lt hl]
      simp [List.getD, hi]
    · rw [Array.getElem?_setIfInBounds_ne (by omega), hc]
      simp [List.getD, List.getElem?_set_ne (show i ≠ j by omega)]
theorem byte_set {b : List Int} {i : Nat} {x : Int} (hb : ∀ j, 0 ≤ byteF b j ∧ byteF b j ≤ 255) (hx : 0 ≤ x ∧ x ≤ 255) (j : Nat) : 0 ≤ byteF (b.set i x) j ∧ byteF (b.set i x) j ≤ 255 := by
  unfold byteF
  by_cases c : j = i
  · subst c
    by_cases d : j < b.length
    · simp [List.getD, d]; exact hx
    · simp [List.getD, List.getElem?_eq_none (show (b.set j x).length ≤ j by rw [List.length_set]; omega)]
  · have e : (b.set i x).getD j 0 = b.getD j 0 := by simp [List.getD, List.getElem?_set_ne (show i ≠ j by omega)]
    rw [e]
    exact hb j
theorem byte_wf {b : List Int} (h : ∀ n ∈ b, (Lit.int .u8 n).wf = true) (j : Nat) : 0 ≤ byteF b j ∧ byteF b j ≤ 255 := wfE_u8 h j

/-! ### All that is held -/
structure PaSt (w : World) (gm p s x : Nat) (Q : Int) (B : Nat) (S : S13) (T : P14) (wr : World) : Prop where
  hb : Below w.heap.size w wr
  hr : RefAt wr gm Q B S
  hp : PlyAt wr p s T
  hx : RlyAt wr x T
  ho : w.heap.size ≤ gm ∧ w.heap.size ≤ p ∧ w.heap.size ≤ s ∧ w.heap.size ≤ x
section
variable {w wr w' : World} {gm p s x : Nat} {Q : Int} {B : Nat} {S S' : S13} {T T' : P14}
theorem PaSt.now (h : PaSt w gm p s x Q B S T wr) (k : Below wr.heap.size wr w') : PaSt w gm p s x Q B S T w' := ⟨chain h.hb k, h.hr.below k, h.hp.below k, h.hx.below k, h.ho⟩
/-- The document's encoder goes on. -/
theorem PaSt.ref (h : PaSt w gm p s x Q B S T wr) (r : RefAt w' gm Q B S') (k : Keeps (· = gm) wr w') : PaSt w gm p s x Q B S' T w' := by
  obtain ⟨cs, hc⟩ := h.hr.typ
  have hl : cs.size < 21 := by
    obtain ⟨C, va, vl, vh, o, he⟩ := h.hr
    have e := he.e.symm.trans hc
    injection e with e
    injection e with e _ _
    subst e
    show 9 < 21
    decide
  exact ⟨h.hb.trans (k.below h.hb.size fun j hj => by subst hj; exact h.ho.1), r, h.hp.keeps k (fun j hj => by subst hj; exact ⟨_, Cel.typ hc, by decide, by decide, by decide, by decide, by decide, by decide⟩), h.hx.keeps k (fun j hj => by subst hj; exact ⟨_, _, hc, by decide, by decide, .inl hl⟩), h.ho⟩
theorem PlyAt.odd (h : PlyAt wr p s T) : (∃ cs, Cel wr p 80 cs ∧ OddC cs) ∧ ∃ cs, Cel wr s 130 cs ∧ OddC cs := by
  obtain ⟨cs, ps, qs, cv, lv, br, h⟩ := h
  exact ⟨⟨_, h.e, .inl (by show 4 < 21; decide)⟩, _, h.s.1, oddC_syn⟩
/-- The program's player goes on. -/
theorem PaSt.prog (h : PaSt w gm p s x Q B S T wr) (hp : PlyAt w' p s T') (k : Keeps (fun j => j = p ∨ j = s) wr w') : Below w.heap.size w w' ∧ RefAt w' gm Q B S ∧ PlyAt w' p s T' ∧ RlyAt w' x T := by
  obtain ⟨⟨c1, k1, o1⟩, c2, k2, o2⟩ := h.hp.odd
  refine ⟨h.hb.trans (k.below h.hb.size fun j hj => by have := h.ho; rcases hj with rfl | rfl <;> omega), h.hr.keeps k (fun j hj => ?_), hp, h.hx.keeps k fun j hj => ?_⟩
  · rcases hj with rfl | rfl
    · exact ⟨_, Cel.typ k1, by decide, by decide, by decide⟩
    · exact ⟨_, Cel.typ k2, by decide, by decide, by decide⟩
  · rcases hj with rfl | rfl
    · exact ⟨_, _, k1, by decide, by decide, o1⟩
    · exact ⟨_, _, k2, by decide, by decide, o2⟩
end
/-- Where both players are. -/
structure PbSt (w : World) (gm p s x : Nat) (Q : Int) (B : Nat) (S : S13) (T T' : P14) (wr : World) : Prop where
  hb : Below w.heap.size w wr
  hr : RefAt wr gm Q B S
  hp : PlyAt wr p s T
  hx : RlyAt wr x T'
  ho : w.heap.size ≤ gm ∧ w.heap.size ≤ p ∧ w.heap.size ≤ s ∧ w.heap.size ≤ x
theorem PaSt.prog' {w wr w' : World} {gm p s x : Nat} {Q : Int} {B : Nat} {S : S13} {T T' : P14} (h : PaSt w gm p s x Q B S T wr) (hp : PlyAt w' p s T') (k : Keeps (fun j => j = p ∨ j = s) wr w') : PbSt w gm p s x Q B S T' T w' := by
  obtain ⟨h1, h2, h3, h4⟩ := h.prog hp k
  exact ⟨h1, h2, h3, h4, h.ho⟩
theorem PbSt.now {w wr w' : World} {gm p s x : Nat} {Q : Int} {B : Nat} {S : S13} {T T' : P14} (h : PbSt w gm p s x Q B S T T' wr) (k : Below wr.heap.size wr w') : PbSt w gm p s x Q B S T T' w' := ⟨chain h.hb k, h.hr.below k, h.hp.below k, h.hx.below k, h.ho⟩
/-- The document's player goes on, by a decoder. -/
theorem PbSt.doc {w wr w' : World} {gm p s x gd : Nat} {Q : Int} {B : Nat} {S : S13} {T T' T2 : P14} (h : PbSt w gm p s x Q B S T T' wr) (hx : RlyAt w' x T2) (hd : (∃ cs, Cel wr gd 99 cs) ∧ w.heap.size ≤ gd) (k : Keeps (fun j => j = x ∨ j = gd) wr w') : PbSt w gm p s x Q B S T T2 w' := by
  obtain ⟨c1, k1, _⟩ := h.hx.cel
  obtain ⟨⟨c2, k2⟩, hg⟩ := hd
  refine ⟨h.hb.trans (k.below h.hb.size fun j hj => by have := h.ho; rcases hj with rfl | rfl <;> omega), h.hr.keeps k (fun j hj => ?_), h.hp.keeps k (fun j hj => ?_), hx, h.ho⟩
  · rcases hj with rfl | rfl
    · exact ⟨_, Cel.typ k1, by decide, by decide, by decide⟩
    · exact ⟨_, Cel.typ k2, by decide, by decide, by decide⟩
  · rcases hj with rfl | rfl
    · exact ⟨_, Cel.typ k1, by decide, by decide, by decide, by decide, by decide, by decide⟩
    · exact ⟨_, Cel.typ k2, by decide, by decide, by decide, by decide, by decide, by decide⟩
theorem PbSt.done {w wr : World} {gm p s x : Nat} {Q : Int} {B : Nat} {S : S13} {T : P14} (h : PbSt w gm p s x Q B S T T wr) : PaSt w gm p s x Q B S T wr := ⟨h.hb, h.hr, h.hp, h.hx, h.ho⟩
end Go.Proofs.YtmegkohfnodkjaaGreat
