/- What is held in QueueActs: the queue, the document's model, bytes of one's own that are spoiled. -/
import Derived.Test.YtnjnfocpjmmibaaQueS
import Derived.Test.YtnjnfocpjmmibaaQueQ
namespace Go.Proofs.Ytnjnfocpjmmibaa
open Go.RowKit
set_option linter.unusedVariables false
set_option linter.unusedSimpArgs false

/-- What is never changed. -/
def DD22 (g gm : Nat) (ro : Option Nat) (v : Value) (j : Nat) : Prop := j ≠ g ∧ j ≠ gm ∧ ro ≠ some j ∧ v.ownBlock ≠ some j
structure AX22 (w : World) (g gm n : Nat) (qp qm : Q22) (v : Value) (xs : List Int) (wr : World) : Prop where
  b : Below w.heap.size w wr
  g1 : w.heap.size ≤ g
  m1 : w.heap.size ≤ gm
  o : wr.ownsRow w.heap.size 5 1 v xs.length (xs.map (Value.int .u8))
  q : ∃ ro, QuAt wr g n qp (DD22 g gm ro v) ∧ MoAt wr gm n qm (DD22 g gm ro v) ro ∧ ∀ r, ro = some r → w.heap.size ≤ r ∧ Typ19 wr r 31
section
variable {w wr w' : World} {g gm n : Nat} {qp qm qp' qm' : Q22} {v v' : Value} {xs : List Int}
theorem QuAt.typ {w : World} {g n : Nat} {q : Q22} {D : Nat → Prop} (h : QuAt w g n q D) : Typ19 w g 52 := by
  obtain ⟨cs, f, hc, _⟩ := h.c
  exact hc.typ19
theorem MoAt.typ {w : World} {gm n : Nat} {q : Q22} {D : Nat → Prop} {ro : Option Nat} (h : MoAt w gm n q D ro) : Typ19 w gm 34 := by
  obtain ⟨ah, ch, al, cl, xs, hx⟩ := h.x
  exact hx.hc.typ19
theorem AX22.below (h : AX22 w g gm n qp qm v xs wr) (hb : Below wr.heap.size wr w') : AX22 w g gm n qp qm v xs w' := by
  obtain ⟨ro, hq, hm, hr⟩ := h.q
  exact ⟨h.b.trans (hb.mono h.b.size), h.g1, h.m1, own_below h.o hb, ro, hq.below hb, hm.below hb, fun r e => ⟨(hr r e).1, (hr r e).2.keep (hb.block r (hr r e).2.lt)⟩⟩
/-- Bytes of one's own, anew. -/
theorem AX22.own (h : AX22 w g gm n qp qm v xs wr) (hb : Below wr.heap.size wr w') {B : Nat} {ys : List Int} (hB : wr.heap.size ≤ B) (ho : w'.ownsRow B 5 1 v' ys.length (ys.map (Value.int .u8))) : AX22 w g gm n qp qm v' ys w' := by
  obtain ⟨ro, hq, hm, hr⟩ := h.q
  have hs := h.b.size
  have hv : ∀ j, j < wr.heap.size → v'.ownBlock ≠ some j := fun j hj e => by have := own_base ho j e; omega
  have hd : ∀ j, DD22 g gm ro v j → j < wr.heap.size → DD22 g gm ro v' j := fun j hj hl => ⟨hj.1, hj.2.1, hj.2.2.1, hv j hl⟩
  exact ⟨h.b.trans (hb.mono h.b.size), h.g1, h.m1, own_lower ho (by omega), ro, (hq.weaken hd fun e => e.1 rfl).below hb, (hm.weaken hd (fun e => e.2.1 rfl) fun r e hd2 => hd2.2.2.1 e).below hb, fun r e => ⟨(hr r e).1, (hr r e).2.keep (hb.block r (hr r e).2.lt)⟩⟩
/-- The queue is another now. -/
theorem AX22.nextP (h : AX22 w g gm n qp qm v xs wr) {ro : Option Nat} (hq0 : QuAt wr g n qp (DD22 g gm ro v)) (hm : MoAt wr gm n qm (DD22 g gm ro v) ro) (hr : ∀ r, ro = some r → w.heap.size ≤ r ∧ Typ19 wr r 31) (hq : QuAt w' g n qp' (fun j => DD22 g gm ro v j ∨ wr.heap.size ≤ j)) (hk : Keeps (fun j => j = g) wr w') : AX22 w g gm n qp' qm v xs w' := by
  have hgl := hq0.lt
  have hml := hm.lt
  refine ⟨h.b.trans (hk.below h.b.size fun j e => e ▸ h.g1), h.g1, h.m1, own_keeps h.o hk fun k hk2 e => (own_typ19 h.o hk2).1.ne hq0.typ (by decide) e, ro, hq.weaken (fun j hj _ => ?_) (fun e => e.1 rfl), hm.keeps hk fun j e => ⟨fun hd => hd.1 e, fun e2 => hm.typ.ne hq0.typ (by decide) (e2.symm.trans e), fun e2 => (hr j e2).2.ne hq0.typ (by decide) e⟩, fun r e => ⟨(hr r e).1, (hr r e).2.keep (hk.block r (hr r e).2.lt fun e2 => (hr r e).2.ne hq0.typ (by decide) e2)⟩⟩
  rcases hj with hj | hj
  · exact hj
  · exact ⟨by omega, by omega, fun e => by have := (hr j e).2.lt; omega, fun e => by have := own_lt h.o j e; omega⟩
/-- The model is another now. -/
theorem AX22.nextM (h : AX22 w g gm n qp qm v xs wr) {ro ro' : Option Nat} (hq0 : QuAt wr g n qp (DD22 g gm ro v)) (hm0 : MoAt wr gm n qm (DD22 g gm ro v) ro) (hr : ∀ r, ro = some r → w.heap.size ≤ r ∧ Typ19 wr r 31) (hm : MoAt w' gm n qm' (fun j => DD22 g gm ro v j ∧ j < wr.heap.size) ro') (hk : Keeps (fun j => j = gm ∨ ro = some j) wr w') (hr' : ro' = ro ∨ ∃ r, ro' = some r ∧ wr.heap.size ≤ r) (ht : ∀ r, ro' = some r → Typ19 w' r 31) : AX22 w g gm n qp qm' v xs w' := by
  have hgl := hq0.lt
  have hs := h.b.size
  have hno : ∀ j, DD22 g gm ro v j → j < wr.heap.size → ro' ≠ some j := by
    intro j hj hl e
    rcases hr' with e2 | ⟨r, e2, h3⟩
    · exact hj.2.2.1 (e2 ▸ e)
    · rw [e2] at e
      injection e with e
      omega
  have hd : ∀ j, DD22 g gm ro v j → j < wr.heap.size → DD22 g gm ro' v j := fun j hj hl => ⟨hj.1, hj.2.1, hno j hj hl, hj.2.2.2⟩
  have hq2 := (hq0.weaken (E := fun j => DD22 g gm ro v j ∧ j < wr.heap.size) (fun j hj hl => ⟨hj, hl⟩) fun e => e.1.1 rfl).keeps hk fun j e => ⟨fun hd2 => by rcases e with e | e; exact hd2.1.2.1 e; exact hd2.1.2.2.1 e, fun e2 => by rcases e with e | e; exact hm0.typ.ne hq0.typ (by decide) (e.symm.trans e2); exact (hr j e).2.ne hq0.typ (by decide) e2⟩
  refine ⟨h.b.trans (hk.below hs fun j e => by rcases e with e | e; exact e ▸ h.m1; exact (hr j e).1), h.g1, h.m1, own_keeps h.o hk fun k hk2 e => by rcases e with e | e; exact (own_typ19 h.o hk2).1.ne hm0.typ (by decide) e; exact (own_typ19 h.o hk2).1.ne (hr k e).2 (by decide) rfl, ro', hq2.weaken (fun j hj _ => hd j hj.1 hj.2) (fun e => e.1 rfl), hm.weaken (fun j hj _ => hd j hj.1 hj.2) (fun e => e.2.1 rfl) (fun r e hd2 => hd2.2.2.1 e), fun r e => ⟨?_, ht r e⟩⟩
  rcases hr' with e2 | ⟨r', e2, h3⟩
  · exact (hr r (e2 ▸ e)).1
  · rw [e2] at e
    injection e with e
    omega
/-- One's own bytes, as an argument. -/
theorem AX22.by_ {a : Option Addr} {m c : Nat} (h : AX22 w g gm n qp qm (.slice a m c) xs wr) : By22 wr (fun j => j ≠ g) a m c xs ∧ m = xs.length := by
  obtain ⟨ro, hq0, _, _⟩ := h.q
  obtain ⟨a', m', c', e, hm⟩ := own_form_m h.o
  injection e with e1 e2 e3
  subst e1
  subst e3
  subst e2
  have ho := h.o
  rw [← hm] at ho
  have := By22.own ho
  refine ⟨⟨this.hi, this.hn, this.hc, this.hx, fun r off e h0 e2 => ?_⟩, hm⟩
  have hb := ho
  rcases ho.2 with ⟨e4, _⟩ | ⟨g', cap, cur, e4, _⟩
  · injection e4 with e4
    rw [e4] at e
    cases e
  · injection e4 with e4
    rw [e4] at e
    injection e with e
    injection e with e
    exact (own_typ19 ho (g := g') (by rw [e4]; rfl)).1.ne hq0.typ (by decide) (e.trans e2)
theorem AX22.offerP {a : Option Addr} {m c : Nat} (h : AX22 w g gm n qp qm (.slice a m c) xs wr) (hm : xs.length ≤ 400000) (hl : qp.lost ≤ 500000) (wh : Bool) :
    Calls Try.prog 9 #[.pointer (some ⟨g, 0, none⟩), .slice a m c, .bool wh] wr fun e w' => e = .returned (.bool (qp.may n wh)) ∧ AX22 w g gm n (qp.offer n xs wh) qm (.slice a m c) xs w' ∧ Keeps (fun j => j = g) wr w' := by
  obtain ⟨ro, hq0, hm0, hr⟩ := h.q
  have hb := h.by_
  refine (quOffer_any g n qp _ a m c xs wh wr hq0 hb.1 (by omega) hl).mono ?_
  rintro e w' ⟨rfl, hq, hk⟩
  exact ⟨rfl, h.nextP hq0 hm0 hr hq hk, hk⟩
theorem AX22.sayP {a : Option Addr} {m c : Nat} (h : AX22 w g gm n qp qm (.slice a m c) xs wr) (hl : qp.head.length + xs.length ≤ 400000) :
    Calls Try.prog 11 #[.pointer (some ⟨g, 0, none⟩), .slice a m c] wr fun e w' => (∃ x, e = .returned x) ∧ AX22 w g gm n (qp.say xs) qm (.slice a m c) xs w' ∧ Keeps (fun j => j = g) wr w' := by
  obtain ⟨ro, hq0, hm0, hr⟩ := h.q
  have hb := h.by_
  refine (quSay_any g n qp _ _ a m c xs wr hq0 hb.1 (by omega)).mono ?_
  rintro e w' ⟨hx, hq, hk⟩
  exact ⟨hx, h.nextP hq0 hm0 hr hq hk, hk⟩
theorem AX22.flushP (h : AX22 w g gm n qp qm v xs wr) (hl : qp.lost ≤ 1000000) :
    Calls Try.prog 14 #[.pointer (some ⟨g, 0, none⟩)] wr fun e w' => (∃ x, e = .returned x) ∧ AX22 w g gm n qp.flush qm v xs w' := by
  obtain ⟨ro, hq0, hm0, hr⟩ := h.q
  refine (quFlush_any g n qp _ wr hq0 hl).mono ?_
  rintro e w' ⟨hx, hq, hk⟩
  have hgl := hq0.lt
  exact ⟨hx, h.nextP hq0 hm0 hr (hq.weaken (fun j hj _ => .inl hj) fun hj => by rcases hj with hj | hj; exact hj.1 rfl; omega) hk⟩
theorem AX22.takeP (h : AX22 w g gm n qp qm v xs wr) (hs : qp.size ≤ 100000) (k : Int) (hk : k ≤ 2000000) :
    Calls Try.prog 12 #[.pointer (some ⟨g, 0, none⟩), .int .i64 k] wr fun e w' => ∃ a m c, e = .returned (.slice a m c) ∧ RowKit.Hid (w'.ownsRow wr.heap.size 5 1 (.slice a m c) m ((qp.out k.toNat).map (Value.int .u8)) ∧ AX22 w g gm n (qp.take k.toNat) qm v xs w') := by
  obtain ⟨ro, hq0, hm0, hr⟩ := h.q
  by_cases h0 : k < 0
  · have e0 : k.toNat = 0 := by omega
    rw [e0]
    refine (quTake_neg g n qp _ k wr hq0 h0).mono ?_
    rintro e w' ⟨a, m, c, rfl, hm, hh⟩
    exact ⟨a, m, c, rfl, hh.out.1, h.nextP hq0 hm0 hr hh.out.2.1 hh.out.2.2⟩
  · obtain ⟨K, rfl⟩ : ∃ K : Nat, k = (K : Int) := ⟨k.toNat, by omega⟩
    have e0 : ((K : Nat) : Int).toNat = K := by omega
    rw [e0]
    refine (quTake_any g n qp _ K wr hq0 hs (by omega)).mono ?_
    rintro e w' ⟨a, m, c, rfl, hm, hh⟩
    exact ⟨a, m, c, rfl, hh.out.1, h.nextP hq0 hm0 hr hh.out.2.1 hh.out.2.2⟩
/-- The model's own: nothing but its own block is changed. -/
theorem AX22.stayM (h : AX22 w g gm n qp qm v xs wr) {ro : Option Nat} (hq0 : QuAt wr g n qp (DD22 g gm ro v)) (hm0 : MoAt wr gm n qm (DD22 g gm ro v) ro) (hr : ∀ r, ro = some r → w.heap.size ≤ r ∧ Typ19 wr r 31) (hm : MoAt w' gm n qm' (fun j => DD22 g gm ro v j ∧ j < wr.heap.size) ro) (hk : Keeps (fun j => j = gm) wr w') : AX22 w g gm n qp qm' v xs w' :=
  h.nextM hq0 hm0 hr hm (hk.mono fun j e => .inl e) (.inl rfl) fun r e => (hr r e).2.keep (hk.block r (hr r e).2.lt fun e2 => (hr r e).2.ne hm0.typ (by decide) e2)
theorem MoAt.tight {ro : Option Nat} {D : Nat → Prop} {q : Q22} (h : MoAt w gm n q D ro) : MoAt w gm n q (fun j => D j ∧ j < w.heap.size) ro := h.weaken (fun j hj hl => ⟨hj, hl⟩) (fun hd => h.dg hd.1) fun r e hd => (h.dr r e).1 hd.1
theorem AX22.offerM {a : Option Addr} {m c : Nat} {b : List Int} (h : AX22 w g gm n qp qm v xs wr) (hb : By22 w (fun j => j < w.heap.size) a m c b) (hlen : qm.l.length ≤ n) (hl : qm.lost ≤ 500000) (wh : Bool) :
    Calls Try.prog 10 #[.pointer (some ⟨gm, 0, none⟩), .slice a m c, .bool wh] wr fun e w' => e = .returned (.bool (qm.may n wh)) ∧ AX22 w g gm n qp (qm.offer n b wh) v xs w' ∧ ∀ A t, Typ19 wr A t → t ≠ 34 → t ≠ 31 → w'.heap[A]? = wr.heap[A]? := by
  obtain ⟨ro, hq0, hm0, hr⟩ := h.q
  have hs := h.b.size
  have hg1 := h.g1
  have hm1 := h.m1
  have hbD : By22 wr (fun j => DD22 g gm ro v j ∧ j < wr.heap.size) a m c b := (hb.below h.b).weaken fun j hj hl => ⟨⟨by omega, by omega, fun e => by have := (hr j e).1; omega, fun e => by have := own_base h.o j e; omega⟩, hl⟩
  refine (moOffer_any gm n qm _ ro a m c b wh wr hm0.tight hbD (fun j hj => hj.2) (fun r e => (hr r e).2) hq0.n1 hq0.n2 hlen hl).mono ?_
  rintro e w' ⟨rfl, ro', hm, hk, hr', ht⟩
  exact ⟨rfl, h.nextM hq0 hm0 hr hm hk hr' ht, fun A t hA h1 h2 => hk.block A hA.lt fun e2 => by rcases e2 with e2 | e2; exact hA.ne hm0.typ h1 e2; exact hA.ne (hr A e2).2 h2 rfl⟩
theorem AX22.flushM (h : AX22 w g gm n qp qm v xs wr) (hl : qm.lost ≤ 1000000) (hl2 : qm.l.length ≤ 1000000) :
    Calls Try.prog 15 #[.pointer (some ⟨gm, 0, none⟩)] wr fun e w' => (∃ x, e = .returned x) ∧ AX22 w g gm n qp qm.flush v xs w' := by
  obtain ⟨ro, hq0, hm0, hr⟩ := h.q
  refine (moFlush_any gm n qm _ ro wr hm0.tight hl hl2).mono ?_
  rintro e w' ⟨hx, hm, hk⟩
  exact ⟨hx, h.stayM hq0 hm0 hr hm hk⟩
theorem AX22.takeM (h : AX22 w g gm n qp qm v xs wr) (hs : qm.size ≤ 100000) (k : Int) (hk : k ≤ 2000000) :
    Calls Try.prog 13 #[.pointer (some ⟨gm, 0, none⟩), .int .i64 k] wr fun e w' => e = .returned (.string (textOf (qm.out k.toNat))) ∧ AX22 w g gm n qp (qm.take k.toNat) v xs w' ∧ Keeps (fun j => j = gm) wr w' := by
  obtain ⟨ro, hq0, hm0, hr⟩ := h.q
  by_cases h0 : k < 0
  · have e0 : k.toNat = 0 := by omega
    rw [e0]
    refine (moTake_neg gm n qm _ ro k wr hm0.tight h0).mono ?_
    rintro e w' ⟨rfl, hm, hk⟩
    exact ⟨rfl, h.stayM hq0 hm0 hr hm hk, hk⟩
  · obtain ⟨K, rfl⟩ : ∃ K : Nat, k = (K : Int) := ⟨k.toNat, by omega⟩
    have e0 : ((K : Nat) : Int).toNat = K := by omega
    rw [e0]
    refine (moTake_any gm n qm _ ro K wr hm0.tight hs (by omega)).mono ?_
    rintro e w' ⟨rfl, hm, hk⟩
    exact ⟨rfl, h.stayM hq0 hm0 hr hm hk, hk⟩
theorem AX22.waits (h : AX22 w g gm n qp qm v xs wr) (hl : qp.head.length ≤ 400000) :
    Calls Try.prog 16 #[.pointer (some ⟨g, 0, none⟩)] wr fun e w' => e = .returned (.tuple #[.int .i64 qp.l.length, .int .i64 qp.head.length]) ∧ ∃ k, w' = wr.drewN k := by
  obtain ⟨ro, hq0, hm0, hr⟩ := h.q
  exact quWaits_any g n qp _ wr hq0 hl
theorem AX22.lost (h : AX22 w g gm n qp qm v xs wr) :
    Calls Try.prog 17 #[.pointer (some ⟨g, 0, none⟩)] wr fun e w' => e = .returned (.int .i64 qp.lost) ∧ w' = wr := by
  obtain ⟨ro, hq0, hm0, hr⟩ := h.q
  exact quLost_any g n qp _ wr hq0
/-- What the model's cells tell. -/
theorem AX22.mcells (h : AX22 w g gm n qp qm v xs wr) : ∃ ah ch al cl, wr.cell? ⟨gm, 0, none⟩ = some (.slice ah qm.head.length ch) ∧ wr.cell? ⟨gm, 1, none⟩ = some (.slice al qm.l.length cl) ∧ wr.cell? ⟨gm, 4, none⟩ = some (.int .i64 qm.lost) ∧ wr.frozen? ⟨gm, 0, none⟩ = false ∧ IntsAt wr wr.heap.size .u8 ah qm.head.length qm.head ∧ (ah = none → ch = 0) := by
  obtain ⟨ro, hq0, hm0, hr⟩ := h.q
  obtain ⟨ah, ch, al, cl, ys, hx⟩ := hm0.x
  obtain ⟨k0, k1, k2, k3, k4⟩ := cel5 hx.hc
  exact ⟨ah, ch, al, cl, k0, k1, k4, hx.hc.frozen 0, hx.hh.hi, hx.hh.hn⟩
/-- What must go, by the model, is another now: bytes in a row of one's own. -/
theorem AX22.sayM {w4 : World} {a : Option Addr} {m c : Nat} {ys : List Int} (h : AX22 w g gm n qp qm v xs wr) (hb : Below wr.heap.size wr w4) (ho : w4.ownsRow wr.heap.size 5 1 (.slice a m c) ys.length (ys.map (Value.int .u8))) (hm : m = ys.length) : AX22 w g gm n qp ⟨ys, qm.l, qm.drops, qm.lost⟩ v xs (w4.setCell ⟨gm, 0, none⟩ (.slice a m c)) := by
  subst hm
  have h4 := h.below hb
  obtain ⟨ro, hq0, hm0, hr⟩ := h.q
  have hq4 := hq0.below hb
  have hm4 := hm0.below hb
  have hr4 : ∀ r, ro = some r → w.heap.size ≤ r ∧ Typ19 w4 r 31 := fun r e => ⟨(hr r e).1, (hr r e).2.keep (hb.block r (hr r e).2.lt)⟩
  obtain ⟨ah, ch, al, cl, zs, hx⟩ := hm4.tight.x
  have hgl := hq0.lt
  have hml := hm0.lt
  have hbD : By22 w4 (fun j => DD22 g gm ro v j ∧ j < w4.heap.size) a ys.length c ys := by
    refine (By22.own ho).weaken fun j hj hl => ⟨⟨by omega, by omega, fun e => ?_, fun e => ?_⟩, hl⟩
    · have := (hr j e).2.lt; omega
    · have := own_lt h.o j e; omega
  have hk : Keeps (fun j => j = gm) w4 (w4.setCell ⟨gm, 0, none⟩ (.slice a ys.length c)) := Keeps.setCell (F := fun j => j = gm) (Keeps.refl _ w4) (p := ⟨gm, 0, none⟩) (.inl rfl) _
  have hd : ∀ j, j = gm → ¬ (DD22 g gm ro v j ∧ j < w4.heap.size) := fun j e hj => hj.1.2.1 e
  have hb5 := hbD.keeps hk hd
  refine h4.stayM hq4 hm4 hr4 ⟨hm4.tight.dg, hm4.tight.dr, a, c, al, cl, zs, ⟨hx.hc.set_ 0 _, hb5, hx.hl.keeps hk fun r e1 e2 => (hm4.dr r e1).2 e2, fun i p hp => ?_, hb5.f_⟩⟩ hk
  obtain ⟨a', c', z1, z2⟩ := hx.hp i p hp
  exact ⟨a', c', z1, z2.keeps hk hd⟩
/-- A byte of one's own is spoiled. -/
theorem AX22.spoil {r m c k : Nat} (h : AX22 w g gm n qp qm (.slice (some ⟨r, 0, none⟩) m c) xs wr) (x : Int) : ∃ ys, AX22 w g gm n qp qm (.slice (some ⟨r, 0, none⟩) m c) ys (wr.setCell ⟨r, k, none⟩ (.int .u8 x)) ∧ ys.length = xs.length := by
  have hm9 := h.by_.2
  subst hm9
  obtain ⟨ro, hq0, hm0, hr⟩ := h.q
  have ho := h.o
  have hg := own_typ19 ho (g := r) rfl
  have kk : Keeps (fun j => j = r) wr (wr.setCell ⟨r, k, none⟩ (.int .u8 x)) := Keeps.setCell (F := fun j => j = r) (Keeps.refl _ wr) (p := ⟨r, k, none⟩) (.inl rfl) _
  have hd : ∀ j, j = r → ¬ DD22 g gm ro (.slice (some ⟨r, 0, none⟩) xs.length c) j := fun j e hj => hj.2.2.2 (by rw [e]; rfl)
  refine ⟨xs.set k x, ⟨h.b.setCell (p := ⟨r, k, none⟩) (by simp only; exact hg.2) _, h.g1, h.m1, ?_, ro, hq0.keeps kk fun j e => ⟨hd j e, fun e2 => hg.1.ne hq0.typ (by decide) (e.symm.trans e2)⟩, hm0.keeps kk fun j e => ⟨hd j e, fun e2 => hg.1.ne hm0.typ (by decide) (e.symm.trans e2), fun e2 => hg.1.ne (hr j e2).2 (by decide) e.symm⟩, fun r' e => ⟨(hr r' e).1, (hr r' e).2.keep (kk.block r' (hr r' e).2.lt fun e2 => hg.1.ne (hr r' e).2 (by decide) e2.symm)⟩⟩, by simp⟩
  rw [List.length_set, List.map_set]
  exact (ho.stored k (.int .u8 x)).1
end
end Go.Proofs.Ytnjnfocpjmmibaa
