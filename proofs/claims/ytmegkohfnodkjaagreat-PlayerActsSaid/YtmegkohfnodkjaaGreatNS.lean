/- Plain facts, and what functions give, for the proofs of this seat: several texts in one, each with its own first remark. -/
import Derived.Deep.Slices
import Derived.Test.YtmegkohfnodkjaaGreatNa
import Derived.Test.YtmegkohfnodkjaaGreatNR
import Derived.Test.YtmegkohfnodkjaaGreatNN
import Derived.Test.YtmegkohfnodkjaaGreatNr

/- From a reading of an argument to what the walks are told of it: slices of structs of plain values and slices of numbers, whatever structs lie in them. -/
namespace Go.Proofs.YtmegkohfnodkjaaGreat
open Go.ChangeShapes Go.WideShapes Go.ChangeAt Go.RowKit Go.Deep
set_option linter.unusedVariables false

/-- A plain cell's kind. -/
inductive PT where
  | int (k : IntKind)
  | bool
  | str
  | ints (k : IntKind)
/-- A slice of numbers that came in. -/
def RowIn (w : World) (k : IntKind) (v : Value) : Prop := ∃ (a : Option Addr) (len cap : Nat) (zs : List Int), v = .slice a len cap ∧ len ≤ cap ∧ cap ≤ 9223372036854775807 ∧ (a = none → len = 0 ∧ cap = 0) ∧ IntsAt w w.heap.size k a len zs ∧ ∀ n ∈ zs, (Lit.int k n).wf = true
def PT.ok (w : World) : PT → Value → Prop
  | .int k, v => ∃ n, v = .int k n ∧ (Lit.int k n).wf = true
  | .bool, v => ∃ b, v = .bool b
  | .str, v => ∃ s : ByteArray, v = .string s ∧ s.size ≤ maxLen
  | .ints k, v => RowIn w k v
/-- Kind by kind, value by value. -/
def OkAllT (w : World) (ks : List PT) (cs : List Value) : Prop := cs.length = ks.length ∧ ∀ (j : Nat) (k : PT), ks[j]? = some k → ∃ v, cs[j]? = some v ∧ PT.ok w k v
theorem OkAllT.nil (w : World) : OkAllT w [] [] := ⟨rfl, fun j k h => by simp at h⟩
theorem OkAllT.append {w : World} {a b : List PT} {c d : List Value} (h : OkAllT w a c) (k : OkAllT w b d) : OkAllT w (a ++ b) (c ++ d) := by
  refine ⟨by simp [h.1, k.1], fun j q hq => ?_⟩
  rw [List.getElem?_append] at hq ⊢
  rw [h.1]
  split at hq
  · rw [if_pos (by assumption)]; exact h.2 j q hq
  · rw [if_neg (by assumption)]; exact k.2 _ q hq
mutual
/-- The kinds of a type's cells, if it is plain. -/
def flatKT (P : Program) : Nat → TypeId → Option (List PT)
  | 0, _ => none
  | n + 1, t => match P.underlying t with
    | some (.int k) => some [.int k]
    | some .bool => some [.bool]
    | some .string => some [.str]
    | some (.slice q) => match P.underlying q with
      | some (.int k) => if P.cellsOf q = 1 then some [.ints k] else none
      | _ => none
    | some (.struct fs) => (flatFT P n 0 fs.toList).bind fun ks => if ks.length = P.cellsOf t then some ks else none
    | _ => none
/-- The kinds of fields one behind the other, from an offset on. -/
def flatFT (P : Program) : Nat → Nat → List Field → Option (List PT)
  | _, _, [] => some []
  | 0, _, _ :: _ => none
  | n + 1, off, f :: fs => if f.offset = off then
      (flatKT P n f.type).bind fun a => if a.length = P.cellsOf f.type then (flatFT P n (off + a.length) fs).map fun b => a ++ b else none
    else none
end
section
variable {H : Type} {enc : TypeId × Value → H} {P : Program} {w : World} {base : Nat} {spare : Nat → Bool} {held : Bool}
theorem ints_part {t q : TypeId} {k : IntKind} {fuel : Nat} {cs : List Value} {x : DataW H × List MemPlace} (ht : P.underlying t = some (.slice q)) (hq : P.underlying q = some (.int k)) (cq : P.cellsOf q = 1)
    (h : DataW.trod enc P w base spare held fuel t cs = some x) : ∃ v, cs = [v] ∧ RowIn w k v := by
  rcases open_slice1 ht cq h with ⟨rfl, _⟩ | ⟨a, len, cap, m, n, V, D, Pl, rfl, _, hl, hm, hmm, _, hi⟩
  · exact ⟨_, rfl, none, 0, 0, [], rfl, by omega, by omega, fun _ => ⟨rfl, rfl⟩, ⟨rfl, .inl rfl⟩, fun n hn => by cases hn⟩
  · unfold maxLen at hm
    have hlm : len ≤ m := by rw [hmm]; split <;> omega
    have hz : ∀ i : Nat, ∃ z : Int, i < len → w.cell? (a.add i) = some (.int k z) ∧ (Lit.int k z).wf = true := by
      intro i
      by_cases h1 : i < len
      · obtain ⟨h2, h3⟩ := hi i (by omega)
        obtain ⟨z, hz, _, hw⟩ := DataW.trod_int hq h3
        simp only [List.cons.injEq, and_true] at hz
        exact ⟨z, fun _ => ⟨by rw [h2, hz], hw⟩⟩
      · exact ⟨0, fun c => absurd c h1⟩
    obtain ⟨Z, hZ⟩ : ∃ Z : Nat → Int, ∀ i, i < len → w.cell? (a.add i) = some (.int k (Z i)) ∧ (Lit.int k (Z i)).wf = true := ⟨fun i => Classical.choose (hz i), fun i => Classical.choose_spec (hz i)⟩
    refine ⟨_, rfl, some a, len, cap, (List.range len).map Z, rfl, hl, hm, fun e => (by cases e), ⟨by simp, ?_⟩, fun n hn => ?_⟩
    · by_cases h0 : len = 0
      · exact .inl h0
      · obtain ⟨b, off, rfl⟩ := addr_plain (hZ 0 (by omega)).1
        refine .inr ⟨b, off, rfl, ?_, by omega, fun j hj => ?_⟩
        · have := (hZ 0 (by omega)).1
          rw [Go.WideShapes.add_plain] at this
          exact cell_block this
        · have := (hZ j hj).1
          rw [Go.WideShapes.add_plain] at this
          rw [this]
          simp [List.getD, hj]
    · obtain ⟨i, hi2, rfl⟩ := List.mem_map.1 hn
      exact (hZ i (by simpa using hi2)).2
theorem flatT_both (n : Nat) : (∀ t ks fuel cs x, flatKT P n t = some ks → DataW.trod enc P w base spare held fuel t cs = some x → OkAllT w ks cs) ∧
    (∀ off fs ks m (cs : List Value) (xs : List (DataW H × List MemPlace)), flatFT P n off fs = some ks → off + ks.length ≤ cs.length → xs.length = fs.length →
      (∀ (i : Nat) (f : Field), fs[i]? = some f → DataW.trod enc P w base spare held m f.type ((cs.drop f.offset).take (P.cellsOf f.type)) = xs[i]?) → OkAllT w ks ((cs.drop off).take ks.length)) := by
  induction n with
  | zero =>
    refine ⟨fun t ks fuel cs x h => by simp [flatKT] at h, fun off fs ks m cs xs h hl hx hf => ?_⟩
    cases fs with
    | nil => simp [flatFT] at h; subst h; simpa using OkAllT.nil _
    | cons f fs => simp [flatFT] at h
  | succ n ih =>
    constructor
    · intro t ks fuel cs x h ht
      unfold flatKT at h
      split at h
      · next k hu =>
        obtain ⟨v, hc, _, hw⟩ := DataW.trod_int hu ht
        injection h with h; subst h; subst hc
        refine ⟨rfl, fun j q hq => ?_⟩
        match j, hq with
        | 0, hq => simp at hq; subst hq; exact ⟨_, rfl, v, rfl, hw⟩
        | j + 1, hq => simp at hq
      · next hu =>
        obtain ⟨v, hc, _⟩ := DataW.trod_bool hu ht
        injection h with h; subst h; subst hc
        refine ⟨rfl, fun j q hq => ?_⟩
        match j, hq with
        | 0, hq => simp at hq; subst hq; exact ⟨_, rfl, v, rfl⟩
        | j + 1, hq => simp at hq
      · next hu =>
        obtain ⟨v, hc, _, hw⟩ := DataW.trod_string hu ht
        injection h with h; subst h; subst hc
        refine ⟨rfl, fun j q hq => ?_⟩
        match j, hq with
        | 0, hq => simp at hq; subst hq; exact ⟨_, rfl, v, rfl, hw⟩
        | j + 1, hq => simp at hq
      · next q hu =>
        split at h
        · next k hq =>
          split at h
          · next hcq =>
            injection h with h; subst h
            obtain ⟨v, rfl, hv⟩ := ints_part hu hq hcq ht
            refine ⟨rfl, fun j q hq => ?_⟩
            match j, hq with
            | 0, hq => simp at hq; subst hq; exact ⟨_, rfl, hv⟩
            | j + 1, hq => simp at hq
          · cases h
        · cases h
      · next fs hu =>
        obtain ⟨ks', hk, h⟩ := Option.bind_eq_some_iff.1 h
        split at h
        · next hl =>
          injection h with h; subst h
          obtain ⟨xs, m, _, _, hcl, hxl, hf⟩ := DataW.trod_struct hu ht
          have := ih.2 0 fs.toList ks' m cs xs hk (by omega) (by simpa using hxl) (fun i f hi => hf i f (by simpa using hi))
          rw [List.drop_zero, List.take_of_length_le (by omega)] at this
          exact this
        · cases h
      · cases h
    · intro off fs ks m cs xs h hl hx hf
      cases fs with
      | nil => simp [flatFT] at h; subst h; simpa using OkAllT.nil _
      | cons f fs =>
        unfold flatFT at h
        split at h
        · next ho =>
          obtain ⟨a, ha, h⟩ := Option.bind_eq_some_iff.1 h
          split at h
          · next hal =>
            obtain ⟨b, hb, rfl⟩ := Option.map_eq_some_iff.1 h
            rw [List.length_append] at hl
            cases xs with
            | nil => simp at hx
            | cons x xs =>
              have h0 := hf 0 f rfl
              rw [ho, ← hal] at h0
              have g0 := ih.1 f.type a m _ x ha (by simpa using h0)
              have g1 := ih.2 (off + a.length) fs b m cs xs hb (by omega) (by simpa using hx) (fun i q hi => by simpa using hf (i + 1) q (by simpa using hi))
              have e : (cs.drop off).take (a ++ b).length = (cs.drop off).take a.length ++ (cs.drop (off + a.length)).take b.length := by
                rw [List.length_append, List.take_add, List.drop_drop]
              rw [e]
              exact g0.append g1
          · cases h
        · cases h
theorem flatT_ok {n : Nat} {t : TypeId} {ks : List PT} {fuel : Nat} {cs : List Value} {x : DataW H × List MemPlace} (h : flatKT P n t = some ks) (ht : DataW.trod enc P w base spare held fuel t cs = some x) : OkAllT w ks cs := (flatT_both n).1 t ks fuel cs x h ht
end

/-- What is known of a slice of plain structs that came in: row i's cells. -/
def StructsT (w : World) (ks : List PT) (a : Option Addr) (len : Nat) (Z : Nat → List Value) : Prop :=
  len ≤ 9223372036854775807 ∧ (∀ i, i < len → OkAllT w ks (Z i)) ∧ (len = 0 ∨ ∃ b off, a = some ⟨b, off, none⟩ ∧ b < w.heap.size ∧
    ∀ i, i < len → ∀ j v, (Z i)[j]? = some v → w.cell? ⟨b, off + (i * ks.length + j), none⟩ = some v)
theorem structs_inT {P : Program} {H : Type} {enc : TypeId × Value → H} {w : World} {base : Nat} {held : Bool} {t e : TypeId} {fuel n : Nat} {a : Option Addr} {len cap : Nat} {x : DataW H × List MemPlace} {ks : List PT}
    (ht : P.underlying t = some (.slice e)) (hk : flatKT P n e = some ks) (hc : P.cellsOf e = ks.length) (hpos : 0 < ks.length)
    (h : DataW.trod enc P w base (fun _ => true) held fuel t (Value.slice a len cap).cells.toList = some x) : ∃ Z, StructsT w ks a len Z := by
  rcases open_slice ht h with ⟨hcs, _⟩ | ⟨a', len', cap', m, q, D, Pl, hcs, _, hl, hm, hmm, _, hi⟩
  · simp [Value.cells] at hcs
    obtain ⟨rfl, rfl, rfl⟩ := hcs
    exact ⟨fun _ => [], by omega, fun i hi => by omega, .inl rfl⟩
  · simp [Value.cells] at hcs
    obtain ⟨rfl, rfl, rfl⟩ := hcs
    unfold maxLen at hm
    simp only [if_true] at hmm
    subst hmm
    rw [hc] at hi
    have hz : ∀ i, ∃ cs : List Value, i < m → w.cells? base (a'.add (i * ks.length)) ks.length = some cs ∧ OkAllT w ks cs := by
      intro i
      by_cases h1 : i < m
      · obtain ⟨cs, h2, h3⟩ := hi i h1
        exact ⟨cs, fun _ => ⟨h2, flatT_ok hk h3⟩⟩
      · exact ⟨[], fun h => absurd h h1⟩
    obtain ⟨Z, hZ⟩ : ∃ Z : Nat → List Value, ∀ i, i < m → w.cells? base (a'.add (i * ks.length)) ks.length = some (Z i) ∧ OkAllT w ks (Z i) := ⟨fun i => Classical.choose (hz i), fun i => Classical.choose_spec (hz i)⟩
    refine ⟨Z, by omega, fun i hil => (hZ i (by omega)).2, ?_⟩
    by_cases h0 : len = 0
    · exact .inl h0
    · obtain ⟨_, hlen, hat⟩ := World.cells?_some (hZ 0 (by omega)).1
      obtain ⟨v0, hv0⟩ : ∃ v, (Z 0)[0]? = some v := ⟨_, List.getElem?_eq_getElem (by omega)⟩
      have hat0 := hat 0 hpos
      rw [hv0, Nat.zero_mul] at hat0
      have hs0 : ∃ b off, a' = ⟨b, off, none⟩ := by
        obtain ⟨b, off, spot⟩ := a'
        have hs : spot = none := by simpa [Addr.add] using World.cell?_spot hat0
        subst hs
        exact ⟨b, off, rfl⟩
      obtain ⟨b, off, rfl⟩ := hs0
      refine .inr ⟨b, off, rfl, ?_, fun i hil j v hv => ?_⟩
      · have := hat0
        rw [Go.WideShapes.add_plain, Go.WideShapes.add_plain] at this
        exact cell_block this
      · obtain ⟨_, hlen', hat'⟩ := World.cells?_some (hZ i (by omega)).1
        have hj : j < ks.length := by
          have := (List.getElem?_eq_some_iff.1 hv).1
          omega
        have := hat' j hj
        rw [Go.WideShapes.add_plain, Go.WideShapes.add_plain, hv] at this
        rw [← this, Nat.add_assoc]
end Go.Proofs.YtmegkohfnodkjaaGreat

/- What is done to a player: the kinds of an act's cells. -/
namespace Go.Proofs.YtmegkohfnodkjaaGreat
open Go Go.RowKit
def actK : List PT := [.int .u8, .int .u8, .int .u8, .ints .u8]
end Go.Proofs.YtmegkohfnodkjaaGreat

/- PlayerActs: what is held on the way. -/
namespace Go.Proofs.YtmegkohfnodkjaaGreat
open Go Go.RowKit
set_option linter.unusedVariables false
set_option linter.unusedSimpArgs false
set_option maxRecDepth 100000

theorem PaSt.both {w wr : World} {gm p s x : Nat} {Q : Int} {B : Nat} {S : S13} {T : P14} (h : PaSt w gm p s x Q B S T wr) : PbSt w gm p s x Q B S T T wr := ⟨h.hb, h.hr, h.hp, h.hx, h.ho⟩
section
variable {w wr w' : World} {gm p s x g : Nat} {Q : Int} {B : Nat} {S : S13} {T T' T2 : P14}
/-- The document's player alone is written. -/
theorem PbSt.docX (h : PbSt w gm p s x Q B S T T' wr) (hx : RlyAt w' x T2) (k : Keeps (· = x) wr w') : PbSt w gm p s x Q B S T T2 w' := by
  obtain ⟨c1, k1, _⟩ := h.hx.cel
  exact ⟨h.hb.trans (k.below h.hb.size fun j hj => by have := h.ho; subst hj; omega), h.hr.keeps k (fun j hj => by subst hj; exact ⟨_, Cel.typ k1, by decide, by decide, by decide⟩), h.hp.keeps k (fun j hj => by subst hj; exact ⟨_, Cel.typ k1, by decide, by decide, by decide, by decide, by decide, by decide⟩), hx, h.ho⟩
/-- A decoder of the document's is written. -/
theorem PbSt.dec (h : PbSt w gm p s x Q B S T T' wr) (hd : (∃ cs, Cel wr g 99 cs ∧ cs.size < 21) ∧ w.heap.size ≤ g) (k : Keeps (fun j => j = g) wr w') : PbSt w gm p s x Q B S T T' w' := by
  obtain ⟨⟨c2, k2, hl⟩, hg⟩ := hd
  exact ⟨h.hb.trans (k.below h.hb.size fun j hj => by subst hj; exact hg), h.hr.keeps k (fun j hj => by subst hj; exact ⟨_, Cel.typ k2, by decide, by decide, by decide⟩), h.hp.keeps k (fun j hj => by subst hj; exact ⟨_, Cel.typ k2, by decide, by decide, by decide, by decide, by decide, by decide⟩), h.hx.keeps k (fun j hj => by subst hj; exact ⟨_, _, k2, by decide, by decide, .inl hl⟩), h.ho⟩
end
/-- All that is held behind the bytes. -/
structure FnSt (w : World) (gm p s x : Nat) (Q : Int) (B : Nat) (S : S13) (T T' : P14) (bs : Nat) (v : Value) (b : List Int) (wx : World) : Prop where
  fs : PbSt w gm p s x Q B S T T' wx
  fr : BRow wx bs v b
section
variable {w wx w' : World} {gm p s x g bs : Nat} {Q : Int} {B : Nat} {S : S13} {T T' T2 : P14} {v : Value} {b : List Int}
theorem FnSt.now (h : FnSt w gm p s x Q B S T T' bs v b wx) (k : Below wx.heap.size wx w') : FnSt w gm p s x Q B S T T' bs v b w' := ⟨h.fs.now k, h.fr.below k⟩
theorem FnSt.dec (h : FnSt w gm p s x Q B S T T' bs v b wx) (hd : (∃ cs, Cel wx g 99 cs ∧ cs.size < 21) ∧ w.heap.size ≤ g) (k : Keeps (fun j => j = g) wx w') : FnSt w gm p s x Q B S T T' bs v b w' :=
  ⟨h.fs.dec hd k, h.fr.keeps k fun j hj => by subst hj; obtain ⟨⟨cs, hc, _⟩, _⟩ := hd; exact ⟨_, Cel.typ hc, by decide⟩⟩
theorem FnSt.prog (h : FnSt w gm p s x Q B S T T bs v b wx) (hp : PlyAt w' p s T2) (k : Keeps (fun j => j = p ∨ j = s) wx w') : FnSt w gm p s x Q B S T2 T bs v b w' :=
  ⟨PaSt.prog' h.fs.done hp k, h.fr.keeps k fun j hj => by
    obtain ⟨t1, t2⟩ := h.fs.hp.typs
    rcases hj with rfl | rfl
    · exact ⟨_, t1, by decide⟩
    · exact ⟨_, t2, by decide⟩⟩
theorem FnSt.ints (h : FnSt w gm p s x Q B S T T' bs v b wx) {a : Option Addr} {n cap : Nat} (hv : v = .slice a n cap) (hn : b.length = n) : IntsAt wx wx.heap.size .u8 a n b ∧ (a = none → cap = 0) := by
  obtain ⟨a', cap', e, h2, h3, _⟩ := h.fr
  rw [hv] at e
  injection e with e1 e2 e3
  subst e1
  subst e3
  subst hn
  exact ⟨h3, h2⟩
end
theorem dec_cel {w : World} {base g : Nat} {v : Value} {b : List Int} {D : DecS} {W : World} (h : DecMem w base g v b D) (hb : W.heap.size ≤ base) : (∃ cs, Cel w g 99 cs ∧ cs.size < 21) ∧ W.heap.size ≤ g := ⟨⟨_, h.1, by show 4 < 21; decide⟩, Nat.le_trans hb h.2.2⟩
theorem act_cellsT {w : World} {cs : List Value} (h : OkAllT w actK cs) : ∃ (kd at' to' : Int) (da : Option Addr) (dl dc : Nat) (ds : List Int), cs = [.int .u8 kd, .int .u8 at', .int .u8 to', .slice da dl dc] ∧ (Lit.int .u8 kd).wf = true ∧ (Lit.int .u8 at').wf = true ∧ (Lit.int .u8 to').wf = true ∧ (da = none → dl = 0 ∧ dc = 0) ∧ IntsAt w w.heap.size .u8 da dl ds ∧ ∀ n ∈ ds, (Lit.int .u8 n).wf = true := by
  obtain ⟨hl, h⟩ := h
  obtain ⟨v0, e0, kd, rfl, w0⟩ := h 0 _ rfl
  obtain ⟨v1, e1, at', rfl, w1⟩ := h 1 _ rfl
  obtain ⟨v2, e2, to', rfl, w2⟩ := h 2 _ rfl
  obtain ⟨v3, e3, da, dl, dc, ds, rfl, _, _, h4, h5, h6⟩ := h 3 _ rfl
  refine ⟨kd, at', to', da, dl, dc, ds, ?_, w0, w1, w2, h4, h5, h6⟩
  match cs, hl with
  | [x0, x1, x2, x3], _ =>
    simp at e0 e1 e2 e3
    rw [e0, e1, e2, e3]
/-- Behind the bytes' making. -/
structure DfSt (w : World) (gm p s x : Nat) (Q : Int) (B : Nat) (S : S13) (T : P14) (A : Nat) (cs : Array Value) (ba : Option Addr) (bc : Nat) (b : List Int) (wx : World) : Prop where
  ds : PaSt w gm p s x Q B S T wx
  dk : S.Ok
  da : Cel wx A 35 cs
  di : IntsAt wx wx.heap.size .u8 ba b.length b
  dn : ba = none → bc = 0
  dv : ∀ j, 0 ≤ byteF b j ∧ byteF b j ≤ 255
theorem BRow.free {w : World} {base : Nat} {v : Value} {b : List Int} (h : BRow w base v b) : BRow w 0 v b := by
  obtain ⟨a, cap, h1, h2, h3, h4⟩ := h
  exact ⟨a, cap, h1, h2, h3, fun h0 => by
    obtain ⟨r, cs, e1, e2, _⟩ := h4 h0
    exact ⟨r, cs, e1, e2, Nat.zero_le _⟩⟩
/-- Behind a byte that was spoilt. -/
structure DgSt (w : World) (gm p s x : Nat) (Q : Int) (B : Nat) (S : S13) (T : P14) (v : Value) (b : List Int) (wx : World) : Prop where
  ds : PaSt w gm p s x Q B S T wx
  dk : S.Ok
  dr : BRow wx 0 v b
  dv : ∀ j, 0 ≤ byteF b j ∧ byteF b j ≤ 255
  dl : b.length ≤ 400
end Go.Proofs.YtmegkohfnodkjaaGreat

/- What is held on the way of PlayerHears. -/
namespace Go.Proofs.YtmegkohfnodkjaaGreat
open Go Go.RowKit
set_option linter.unusedVariables false
set_option linter.unusedSimpArgs false

/-- What is written elsewhere. -/
theorem CodAt.keepsN {w w' : World} {g a s : Nat} {Q : Int} {B : Nat} {S : S13} {F : Nat → Prop} (h : CodAt w g a s Q B S) (hk : Keeps F w w')
    (hF : ∀ j, F j → j ≠ s ∧ ∃ t, Typ w j t ∧ t ≠ 209 ∧ t ≠ 207 ∧ t ≠ 110 ∧ t ≠ 160 ∧ t ≠ 3 ∧ t ≠ 68) : CodAt w' g a s Q B S := by
  obtain ⟨ca, pa, qa, cs, ps, qs, o, hv, h⟩ := h
  have nt : ∀ {j : Nat} {t : TypeId}, Typ w j t → (∀ t', (t' ≠ 209 ∧ t' ≠ 207 ∧ t' ≠ 110 ∧ t' ≠ 160 ∧ t' ≠ 3 ∧ t' ≠ 68) → t ≠ t') → ¬ F j := by
    intro j t hc ht hf
    obtain ⟨_, t', c', x⟩ := hF j hf
    exact hc.ne c' (ht t' x) rfl
  have n : ∀ {g c m : Nat}, TrAt w g c m → ¬ F g ∧ ¬ F c := fun ht => ⟨nt (Cel.typ ht.1) fun t' x => x.1.symm, by
    obtain ⟨vs, hc⟩ := ht.2.cel
    exact nt (Cel.typ hc) fun t' x => x.2.1.symm⟩
  refine ⟨ca, pa, qa, cs, ps, qs, o, hv, h.e.keeps hk (nt (Cel.typ h.e) fun t' x => x.2.2.1.symm), ?_, ?_, h.h.keeps hk (fun r hr => nt (Cel.typ hr) fun t' x => x.2.2.2.2.1.symm), ?_⟩
  · exact ⟨h.a.1.keeps hk (nt (Cel.typ h.a.1) fun t' x => x.2.2.2.1.symm), h.a.2.1.keeps hk (n h.a.2.1).1 (n h.a.2.1).2, h.a.2.2.keeps hk (n h.a.2.2).1 (n h.a.2.2).2⟩
  · exact ⟨h.s.1.keeps hk (fun e => (hF _ e).1 rfl), h.s.2.1.keeps hk (n h.s.2.1).1 (n h.s.2.1).2, h.s.2.2.keeps hk (n h.s.2.2).1 (n h.s.2.2).2⟩
  · have hd := h.d
    cases hh : S.hd with
    | none => rw [hh] at hd; exact hd
    | some H => rw [hh] at hd; obtain ⟨r, e, i⟩ := hd; exact ⟨r, e, Cel.keeps i hk (nt (Cel.typ i) fun t' x => x.2.2.2.2.2.symm)⟩
theorem CodAt.typs {w : World} {g a s : Nat} {Q : Int} {B : Nat} {S : S13} (h : CodAt w g a s Q B S) : Typ w g 110 ∧ Typ w a 160 ∧ Typ w s 130 := by
  obtain ⟨ca, pa, qa, cs, ps, qs, o, hv, h⟩ := h
  exact ⟨Cel.typ h.e, Cel.typ h.a.1, Cel.typ h.s.1⟩
structure PhSt (w : World) (g ea es p1 s1 p2 s2 : Nat) (Q : Int) (B : Nat) (S : S13) (T1 T2 : P14) (wr : World) : Prop where
  b : Below w.heap.size w wr
  c : CodAt wr g ea es Q B S
  p : PlyAt wr p1 s1 T1
  q : PlyAt wr p2 s2 T2
  o : (w.heap.size ≤ g ∧ w.heap.size ≤ ea ∧ w.heap.size ≤ es) ∧ (w.heap.size ≤ p1 ∧ w.heap.size ≤ s1) ∧ w.heap.size ≤ p2 ∧ w.heap.size ≤ s2
  n : es ≠ s1 ∧ es ≠ s2 ∧ s1 ≠ s2 ∧ p1 ≠ p2
section
variable {w wr w' : World} {g ea es p1 s1 p2 s2 : Nat} {Q : Int} {B : Nat} {S S' : S13} {T1 T2 T' : P14}
theorem PhSt.now (h : PhSt w g ea es p1 s1 p2 s2 Q B S T1 T2 wr) (k : Below wr.heap.size wr w') : PhSt w g ea es p1 s1 p2 s2 Q B S T1 T2 w' := ⟨chain h.b k, h.c.below k, h.p.below k, h.q.below k, h.o, h.n⟩
theorem ply_far2 {p s p' s' : Nat} {T T2 : P14} (h : PlyAt wr p s T) (h' : PlyAt wr p' s' T2) (hn : s' ≠ s) (hn2 : p' ≠ p) (k : Keeps (fun j => j = p' ∨ j = s') wr w') : PlyAt w' p s T := h.keepsN k fun j hj => by
  rcases hj with rfl | rfl
  · exact ⟨hn2, h'.typs.1.ne h.typs.2 (by decide), _, h'.typs.1, by decide, by decide, by decide, by decide⟩
  · exact ⟨h'.typs.2.ne h.typs.1 (by decide), hn, _, h'.typs.2, by decide, by decide, by decide, by decide⟩
theorem cod_far {p s : Nat} {T : P14} (h : PlyAt wr p s T) (hc : CodAt wr g ea es Q B S) (hn : es ≠ s) (k : Keeps (fun j => j = p ∨ j = s) wr w') : CodAt w' g ea es Q B S := hc.keepsN k fun j hj => by
  rcases hj with rfl | rfl
  · exact ⟨h.typs.1.ne hc.typs.2.2 (by decide), _, h.typs.1, by decide, by decide, by decide, by decide, by decide, by decide⟩
  · exact ⟨hn.symm, _, h.typs.2, by decide, by decide, by decide, by decide, by decide, by decide⟩
theorem PhSt.first (h : PhSt w g ea es p1 s1 p2 s2 Q B S T1 T2 wr) (hp : PlyAt w' p1 s1 T') (k : Keeps (fun j => j = p1 ∨ j = s1) wr w') : PhSt w g ea es p1 s1 p2 s2 Q B S T' T2 w' :=
  ⟨h.b.trans (k.below h.b.size fun j hj => by have := h.o; rcases hj with rfl | rfl <;> omega), cod_far h.p h.c h.n.1 k, hp, ply_far2 h.q h.p h.n.2.2.1 h.n.2.2.2 k, h.o, h.n⟩
end
end Go.Proofs.YtmegkohfnodkjaaGreat

/- The walk of PlayerHears. -/
namespace Go.Proofs.YtmegkohfnodkjaaGreat
open Go Go.RowKit
set_option linter.unusedVariables false
set_option linter.unusedSimpArgs false
set_option maxRecDepth 100000

theorem set_wrap14 (x m c : Int) (m0 : 0 < m) (m1 : m ≤ 1000) (c0 : 0 ≤ c) (c1 : c ≤ 1000) : ∃ y, wrap64 (c + wrap64 ((IntKind.u64.wrap x).tmod m)) = y ∧ c ≤ y ∧ y < c + m := by
  have h : IntKind.u64.wrap x = x % 18446744073709551616 := rfl
  have h0 : 0 ≤ x % 18446744073709551616 := Int.emod_nonneg _ (by decide)
  have e : (IntKind.u64.wrap x).tmod m = x % 18446744073709551616 % m := by rw [h, Int.tmod_eq_emod_of_nonneg h0]
  have a := Int.emod_nonneg (x % 18446744073709551616) (show m ≠ 0 by omega)
  have b := Int.emod_lt_of_pos (x % 18446744073709551616) m0
  have e1 : wrap64 (x % 18446744073709551616 % m) = x % 18446744073709551616 % m := IntWalk.wrap64_in _ (by omega)
  have e2 : wrap64 (c + x % 18446744073709551616 % m) = c + x % 18446744073709551616 % m := IntWalk.wrap64_in _ (by omega)
  exact ⟨c + x % 18446744073709551616 % m, by rw [e, e1, e2], by omega, by omega⟩
end Go.Proofs.YtmegkohfnodkjaaGreat
