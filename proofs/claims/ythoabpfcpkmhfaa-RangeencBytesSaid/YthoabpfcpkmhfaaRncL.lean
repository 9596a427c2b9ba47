/- The walk of RangeencBytes: what is held on the way. -/
import Derived.Test.YthoabpfcpkmhfaaRncK
namespace Go.Proofs.Ythoabpfcpkmhfaa
open Go.RowKit
set_option linter.unusedVariables false

/-- How often the symbols of the model that never learns come. -/
def F3 : List Int := [1, 7, 300]
theorem goodL_F3 : GoodL F3 := ⟨by decide, by decide, by intro j hj; have : j < 3 := hj; match j, this with | 0, _ => decide | 1, _ => decide | 2, _ => decide, by decide⟩
theorem own_ne_own {w : World} {b1 b2 n1 n2 s1 s2 : Nat} {e1 e2 : TypeId} {v1 v2 : Value} {x1 x2 : List Value} (h : w.ownsRow b1 e1 s1 v1 n1 x1) (k : w.ownsRow b2 e2 s2 v2 n2 x2) (hne : e1 ≠ e2) (q : Nat) (h1 : v1.ownBlock = some q) : v2.ownBlock ≠ some q := by
  intro h2
  rcases h.2 with ⟨rfl, _⟩ | ⟨g, cap, cur, rfl, _, hh, _⟩
  · simp [Value.ownBlock] at h1
  · rcases k.2 with ⟨rfl, _⟩ | ⟨g2, cap2, cur2, rfl, _, kk, _⟩
    · simp [Value.ownBlock] at h2
    · simp [Value.ownBlock] at h1 h2
      subst h1; subst h2
      rw [hh] at kk
      injection kk with kk
      injection kk with _ kk
      exact hne kk
theorem EncAt.ne_ref {w : World} {be g bf gf r c k : Nat} {v : Value} {e : EncS} {D : List Int} {s : Int} (h : EncAt w be g v e) (q : EncMem w bf gf r c D s k) : v.ownBlock ≠ some gf ∧ v.ownBlock ≠ some r := by
  obtain ⟨D', last, q1, _⟩ := h
  exact ⟨fun c => own_ne_cel q1.2.1 q.1 (by decide) gf c rfl, fun c => own_ne_own q1.2.1 q.2.1 (by decide) r c rfl⟩
/-- The objects of the statement: which blocks they are. -/
structure Obj6 where
  mg : Nat
  fg : Nat
  xg : Nat
  xr : Nat
  lg : Nat
  lr : Nat
  g : Nat
  gf : Nat
  bx : Nat
  bl : Nat
  be : Nat
  bf : Nat
  n : Nat
/-- What is held of memory on the way. -/
structure St6 (w0 : World) (o : Obj6) (w : World) (L1 L2 : List Int) (E1 E2 : EncS) (v : Value) (r c : Nat) : Prop where
  m : ModAt w o.mg L1 false
  f : ModAt w o.fg F3 true
  x : RefMod w o.bx o.xg o.xr L2 false
  l : RefMod w o.bl o.lg o.lr F3 true
  e : EncAt w o.be o.g v E1
  q : EncMem w o.bf o.gf r c (digL E2.n (E2.k + 4)) E2.s E2.k
  gm : GoodL L1
  gx : GoodL L2
  ge : GoodE E1
  gq : GoodE E2
  lm : L1.length = o.n
  lx : L2.length = o.n
  b : Below w0.heap.size w0 w
  d : w0.heap.size ≤ o.mg ∧ o.mg < o.bx ∧ o.xg < o.fg ∧ o.xr < o.fg ∧ o.fg < o.bl ∧ o.lg < o.be ∧ o.lr < o.be ∧ o.g < o.bf
section
variable {w0 w w' : World} {o : Obj6} {L1 L2 : List Int} {E1 E2 : EncS} {v : Value} {r c : Nat}
theorem St6.below (h : St6 w0 o w L1 L2 E1 E2 v r c) (hb : Below w.heap.size w w') : St6 w0 o w' L1 L2 E1 E2 v r c :=
  ⟨h.m.below hb, h.f.below hb, h.x.below hb, h.l.below hb, h.e.below hb, h.q.below hb, h.gm, h.gx, h.ge, h.gq, h.lm, h.lx, h.b.trans (hb.mono h.b.size), h.d⟩
theorem St6.drewN (h : St6 w0 o w L1 L2 E1 E2 v r c) (n : Nat) : St6 w0 o (w.drewN n) L1 L2 E1 E2 v r c := h.below (Below.drewN' (Below.refl _ _) n)
theorem St6.nums (h : St6 w0 o w L1 L2 E1 E2 v r c) : w0.heap.size ≤ o.mg ∧ o.mg < o.bx ∧ o.bx ≤ o.xg ∧ o.bx ≤ o.xr ∧ o.xg < o.fg ∧ o.xr < o.fg ∧ o.fg < o.bl ∧ o.bl ≤ o.lg ∧ o.bl ≤ o.lr ∧ o.lg < o.be ∧ o.lr < o.be ∧ o.be ≤ o.g ∧ o.g < o.bf ∧ o.bf ≤ o.gf ∧ o.bf ≤ r := by
  have a := h.d
  have b := h.x.lt
  have c := h.l.lt
  have d := h.e.lt
  have e := h.q.lt
  omega
theorem St6.xdis (h : St6 w0 o w L1 L2 E1 E2 v r c) : o.xg ≠ o.gf ∧ o.xg ≠ r ∧ o.xr ≠ o.gf ∧ o.xr ≠ r := by have := h.nums; omega
theorem St6.ldis (h : St6 w0 o w L1 L2 E1 E2 v r c) : o.lg ≠ o.gf ∧ o.lg ≠ r ∧ o.lr ≠ o.gf ∧ o.lr ≠ r := by have := h.nums; omega
theorem St6.ownv (h : St6 w0 o w L1 L2 E1 E2 v r c) (j : Nat) (hj : v.ownBlock = some j) : o.be ≤ j ∧ j ≠ o.g ∧ j ≠ o.gf ∧ j ≠ r := by
  have a := h.e.own j hj
  have b := h.e.ne_ref h.q
  exact ⟨a.2.1, a.2.2, fun e => b.1 (e ▸ hj), fun e => b.2 (e ▸ hj)⟩
theorem St6.prog {L1' : List Int} {E1' : EncS} {v' : Value} (h : St6 w0 o w L1 L2 E1 E2 v r c) (hk : Keeps (fun j => j = o.g ∨ v.ownBlock = some j ∨ j = o.mg) w w') (he : EncAt w' o.be o.g v' E1') (hm : ModAt w' o.mg L1' false) (g1 : GoodL L1') (g2 : GoodE E1') (l1 : L1'.length = o.n) :
    St6 w0 o w' L1' L2 E1' E2 v' r c := by
  have n := h.nums
  have ov := h.ownv
  have key : ∀ j, j ≠ o.g → j ≠ o.mg → (j < o.be ∨ j = o.gf ∨ j = r) → ¬ (j = o.g ∨ v.ownBlock = some j ∨ j = o.mg) := by
    rintro j a b c (d | d | d)
    · exact a d
    · have := ov j d; omega
    · exact b d
  exact ⟨hm, h.f.keeps hk (key _ (by omega) (by omega) (by omega)), h.x.keeps hk (key _ (by omega) (by omega) (by omega)) (key _ (by omega) (by omega) (by omega)),
    h.l.keeps hk (key _ (by omega) (by omega) (by omega)) (key _ (by omega) (by omega) (by omega)), he, h.q.keeps hk (key _ (by omega) (by omega) (by omega)) (key _ (by omega) (by omega) (by omega)),
    g1, h.gx, g2, h.gq, l1, h.lx, h.b.trans (hk.below h.b.size (by rintro j (d | d | d); omega; have := ov j d; omega; omega)), h.d⟩
theorem St6.progF {E1' : EncS} {v' : Value} (h : St6 w0 o w L1 L2 E1 E2 v r c) (hk : Keeps (fun j => j = o.g ∨ v.ownBlock = some j ∨ j = o.fg) w w') (he : EncAt w' o.be o.g v' E1') (hm : ModAt w' o.fg F3 true) (g2 : GoodE E1') :
    St6 w0 o w' L1 L2 E1' E2 v' r c := by
  have n := h.nums
  have ov := h.ownv
  have key : ∀ j, j ≠ o.g → j ≠ o.fg → (j < o.be ∨ j = o.gf ∨ j = r) → ¬ (j = o.g ∨ v.ownBlock = some j ∨ j = o.fg) := by
    rintro j a b c (d | d | d)
    · exact a d
    · have := ov j d; omega
    · exact b d
  exact ⟨h.m.keeps hk (key _ (by omega) (by omega) (by omega)), hm, h.x.keeps hk (key _ (by omega) (by omega) (by omega)) (key _ (by omega) (by omega) (by omega)),
    h.l.keeps hk (key _ (by omega) (by omega) (by omega)) (key _ (by omega) (by omega) (by omega)), he, h.q.keeps hk (key _ (by omega) (by omega) (by omega)) (key _ (by omega) (by omega) (by omega)),
    h.gm, h.gx, g2, h.gq, h.lm, h.lx, h.b.trans (hk.below h.b.size (by rintro j (d | d | d); omega; have := ov j d; omega; omega)), h.d⟩
theorem St6.progE {E1' : EncS} {v' : Value} (h : St6 w0 o w L1 L2 E1 E2 v r c) (hk : Keeps (fun j => j = o.g ∨ v.ownBlock = some j) w w') (he : EncAt w' o.be o.g v' E1') (g2 : GoodE E1') :
    St6 w0 o w' L1 L2 E1' E2 v' r c := by
  have n := h.nums
  have ov := h.ownv
  refine h.progF (hk.mono ?_) he (h.f.keeps hk ?_) g2
  · rintro j (d | d)
    · exact .inl d
    · exact .inr (.inl d)
  · rintro (d | d)
    · omega
    · have := ov _ d; omega
theorem St6.ref {L2' : List Int} {E2' : EncS} {r' c' : Nat} (h : St6 w0 o w L1 L2 E1 E2 v r c) (hk : Keeps (fun j => j = o.gf ∨ j = r ∨ j = o.xr) w w') (he : EncMem w' o.bf o.gf r' c' (digL E2'.n (E2'.k + 4)) E2'.s E2'.k) (hx : RefMod w' o.bx o.xg o.xr L2' false) (g1 : GoodL L2') (g2 : GoodE E2') (l1 : L2'.length = o.n) :
    St6 w0 o w' L1 L2' E1 E2' v r' c' := by
  have n := h.nums
  have ov := h.ownv
  exact ⟨h.m.keeps hk (by omega), h.f.keeps hk (by omega), hx, h.l.keeps hk (by omega) (by omega), h.e.keeps hk (by omega) (fun q hq => by have := ov q hq; omega), he,
    h.gm, g1, h.ge, g2, h.lm, l1, h.b.trans (hk.below h.b.size (by omega)), h.d⟩
theorem St6.refF {E2' : EncS} {r' c' : Nat} (h : St6 w0 o w L1 L2 E1 E2 v r c) (hk : Keeps (fun j => j = o.gf ∨ j = r ∨ j = o.lr) w w') (he : EncMem w' o.bf o.gf r' c' (digL E2'.n (E2'.k + 4)) E2'.s E2'.k) (hx : RefMod w' o.bl o.lg o.lr F3 true) (g2 : GoodE E2') :
    St6 w0 o w' L1 L2 E1 E2' v r' c' := by
  have n := h.nums
  have ov := h.ownv
  exact ⟨h.m.keeps hk (by omega), h.f.keeps hk (by omega), h.x.keeps hk (by omega) (by omega), hx, h.e.keeps hk (by omega) (fun q hq => by have := ov q hq; omega), he,
    h.gm, h.gx, h.ge, g2, h.lm, h.lx, h.b.trans (hk.below h.b.size (by omega)), h.d⟩
theorem St6.refE {E2' : EncS} {r' c' : Nat} (h : St6 w0 o w L1 L2 E1 E2 v r c) (hk : Keeps (fun j => j = o.gf ∨ j = r) w w') (he : EncMem w' o.bf o.gf r' c' (digL E2'.n (E2'.k + 4)) E2'.s E2'.k) (g2 : GoodE E2') :
    St6 w0 o w' L1 L2 E1 E2' v r' c' := by
  have n := h.nums
  exact h.refF (hk.mono fun j hj => by omega) he (h.l.keeps hk (by omega) (by omega)) g2
end
end Go.Proofs.Ythoabpfcpkmhfaa
