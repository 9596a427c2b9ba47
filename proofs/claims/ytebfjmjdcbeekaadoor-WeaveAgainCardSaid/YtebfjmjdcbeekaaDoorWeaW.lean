/- What WeaveAgain keeps on its way: a map of titles' blocks, a weaver, a parter, two rows of bytes. -/
import Derived.Test.YtebfjmjdcbeekaaDoorWeaS
import Derived.Test.YtebfjmjdcbeekaaDoorWeaX
import Derived.Test.YtebfjmjdcbeekaaDoorWeaH
import Derived.Maps.Own
import Derived.Maps.Views
namespace Go.Proofs.YtebfjmjdcbeekaaDoor
open Go Go.RowKit Go.PlainAid Go.Maps
set_option linter.unusedVariables false
set_option linter.unusedSimpArgs false

theorem law20 : Keyed Tryd.prog 9 := string_keyed Tryd.underlying9
theorem zero20b (w : World) : (zeroValue 4).run Tryd.prog w = .ok (.bool false) w := by kernel_rfl
set_option maxRecDepth 100000 in
theorem plain_bool_inv {v : Value} {z : DataW Unit × List MemPlace} (h : plainElem Tryd.prog 4 v = some z) : ∃ x, v = .bool x ∧ z.1 = .lit (.bool x) := by
  unfold plainElem at h
  rw [Tryd.underlying4] at h
  cases v <;> simp at h
  rename_i x
  exact ⟨x, rfl, by rw [← h]⟩
/-- Block b is a map that says true of the blocks of these titles. -/
def TiAt (w : World) (b n : Nat) (Ts : List (List UInt8)) : Prop := ∃ D : DataW Unit, w.ownsMap Tryd.prog 9 (plainElem Tryd.prog 4) b n D ∧ IsMap D ∧ ∀ T ∈ Ts, ∀ z, D.atKey (.string (blkF T)) z = .lit (.bool true)
theorem key20 {T : List UInt8} (hl : T.length ≤ 60) : keyOf Tryd.prog 9 (.string (ba (blkF T))) = some (.string (blkF T)) := by
  have := Go.WideMaps.keyOf_string_mk (P := Tryd.prog) Tryd.underlying9 (s := ba (blkF T)) (by rw [ba_size]; have := blkF_le hl; unfold maxLen; omega)
  rw [list_ba] at this
  exact this
set_option maxRecDepth 100000 in
theorem TiAt.look {w : World} {b n : Nat} {Ts : List (List UInt8)} {T : List UInt8} (h : TiAt w b n Ts) (hT : T ∈ Ts) (hl : T.length ≤ 60) : (Instr.lookup 50 (.map (some b)) (.string (ba (blkF T))) false).run Tryd.prog w = .ok (.bool true) w := by
  obtain ⟨D, hD, hM, hk⟩ := h
  obtain ⟨v, ps, hrun, hv⟩ := hD.lookup law20 Tryd.underlying50 (zero20b w) (plainElem_bool Tryd.underlying4 false) (kl := .string (blkF T)) (key20 hl)
  rw [hk T hT] at hv
  obtain ⟨x, rfl, hx⟩ := plain_bool_inv hv
  injection hx with hx
  injection hx with hx
  subst hx
  exact hrun
theorem TiAt.keep {w w' : World} {b n : Nat} {Ts : List (List UInt8)} (h : TiAt w b n Ts) (hk : w'.heap[b]? = w.heap[b]?) : TiAt w' b n Ts := by
  obtain ⟨D, ⟨es, clock, hb, h2⟩, hM, h3⟩ := h
  exact ⟨D, ⟨es, clock, hk.trans hb, h2⟩, hM, h3⟩
theorem TiAt.lt {w : World} {b n : Nat} {Ts : List (List UInt8)} (h : TiAt w b n Ts) : b < w.heap.size := by
  obtain ⟨D, hD, _⟩ := h
  exact hD.lt
/-- It is no row. -/
theorem TiAt.ne {w : World} {b n j : Nat} {t : TypeId} {Ts : List (List UInt8)} (h : TiAt w b n Ts) (ht : Typ19 w j t) : b ≠ j := by
  rintro rfl
  obtain ⟨D, ⟨es, clock, hb, _⟩, _⟩ := h
  obtain ⟨cs, fr, hc⟩ := ht
  rw [hb] at hc
  cases hc
theorem TiAt.new (w : World) : TiAt (w.alloc (.map #[] 0)) w.heap.size 0 [] := ⟨.map [], World.ownsMap_made _ _ _ _, isMap_empty, fun T hT => by cases hT⟩
theorem TiAt.put {w' : World} {b n : Nat} {Ts : List (List UInt8)} {D : DataW Unit} {T : List UInt8} (h : w'.ownsMap Tryd.prog 9 (plainElem Tryd.prog 4) b (n + 1) (D.put (.string (blkF T)) (.lit (.bool true)))) (hM : IsMap D) (hk : ∀ U ∈ Ts, ∀ z, D.atKey (.string (blkF U)) z = .lit (.bool true)) : TiAt w' b (n + 1) (Ts ++ [T]) := by
  refine ⟨_, h, hM.put _ _, fun U hU z => ?_⟩
  by_cases e : blkF U = blkF T
  · rw [e]
    exact atKey_put_same hM (show WideAt.IsKeyLit (.string (blkF T)) from trivial) _ _
  · rw [atKey_put_other (fun c => e (by injection c))]
    rcases List.mem_append.1 hU with hU | hU
    · exact hk U hU z
    · simp at hU
      rw [hU] at e
      exact absurd rfl e
theorem W20.Ok.mono20 {S : W20} {k q : Nat} (h : S.Ok k) (hq : k ≤ q) : S.Ok q := ⟨by have := h.n; omega, h.d, h.t, h.l⟩
/-- What the law keeps. -/
structure WaSt (w : World) (g p bm : Nat) (S : W20) (P : P20) (n : Nat) (Ts : List (List UInt8)) (A H : List UInt8) (v10 v11 : Value) (wr : World) : Prop where
  wv : WvAt wr g S
  pr : PrAt wr p P
  m : TiAt wr bm n Ts
  a : OwnB wr w.heap.size v10 A
  h : OwnB wr w.heap.size v11 H
  n : ∀ j, v10.ownBlock = some j → v11.ownBlock ≠ some j
  b : Below w.heap.size w wr
  hg : w.heap.size ≤ g
  hp : w.heap.size ≤ p
  hm : w.heap.size ≤ bm
section
variable {w wr w' : World} {g p bm n n' : Nat} {S S' : W20} {P P' : P20} {Ts Ts' : List (List UInt8)} {A H A' : List UInt8} {v10 v11 v' : Value}
theorem WaSt.below (h : WaSt w g p bm S P n Ts A H v10 v11 wr) (hb : Below wr.heap.size wr w') : WaSt w g p bm S P n Ts A H v10 v11 w' :=
  ⟨h.wv.below hb, h.pr.below hb, h.m.keep (hb.block bm h.m.lt), h.a.below hb, h.h.below hb, h.n, chain h.b hb, h.hg, h.hp, h.hm⟩
theorem WaSt.weaver (h : WaSt w g p bm S P n Ts A H v10 v11 wr) (hS : WvAt w' g S') (hk : Keeps (· = g) wr w') : WaSt w g p bm S' P n Ts A H v10 v11 w' := by
  have hT := h.wv.typ
  refine ⟨hS, h.pr.keeps hk fun e => ?_, h.m.keep (hk.block bm h.m.lt fun e => h.m.ne hT e), h.a.keeps hk fun j hj => by subst hj; exact ⟨_, hT, by decide⟩, h.h.keeps hk fun j hj => by subst hj; exact ⟨_, hT, by decide⟩, h.n, h.b.trans (hk.below h.b.size fun j hj => by subst hj; exact h.hg), h.hg, h.hp, h.hm⟩
  have := h.pr.typ; rw [e] at this; exact this.ne hT (by decide) rfl
theorem WaSt.parter (h : WaSt w g p bm S P n Ts A H v10 v11 wr) (hP : PrAt w' p P') (hk : Keeps (· = p) wr w') : WaSt w g p bm S P' n Ts A H v10 v11 w' := by
  have hT := h.pr.typ
  refine ⟨h.wv.keeps hk fun e => ?_, hP, h.m.keep (hk.block bm h.m.lt fun e => h.m.ne hT e), h.a.keeps hk fun j hj => by subst hj; exact ⟨_, hT, by decide⟩, h.h.keeps hk fun j hj => by subst hj; exact ⟨_, hT, by decide⟩, h.n, h.b.trans (hk.below h.b.size fun j hj => by subst hj; exact h.hp), h.hg, h.hp, h.hm⟩
  have := h.wv.typ; rw [e] at this; exact this.ne hT (by decide) rfl
theorem WaSt.mapped (h : WaSt w g p bm S P n Ts A H v10 v11 wr) (hm : TiAt w' bm n' Ts') (hg : wr.grownBy w' (some bm)) : WaSt w g p bm S P n' Ts' A H v10 v11 w' := by
  have hk : Keeps (· = bm) wr w' := Keeps.of_grown hg fun k e => by injection e with e; exact e.symm
  refine ⟨h.wv.keeps hk fun e => h.m.ne h.wv.typ e.symm, h.pr.keeps hk fun e => h.m.ne h.pr.typ e.symm, hm, own_keeps h.a hk fun k e e2 => h.m.ne (own_typ19 h.a e).1 e2.symm, own_keeps h.h hk fun k e e2 => h.m.ne (own_typ19 h.h e).1 e2.symm, h.n, h.b.trans (hk.below h.b.size fun j hj => by subst hj; exact h.hm), h.hg, h.hp, h.hm⟩
theorem WaSt.all (h : WaSt w g p bm S P n Ts A H v10 v11 wr) (ho : OwnB w' w.heap.size v' A') (hg : wr.grownBy w' v10.ownBlock) (hv : v'.ownBlock = v10.ownBlock ∨ v'.ownBlock = some wr.heap.size) : WaSt w g p bm S P n Ts A' H v' v11 w' := by
  have hk : Keeps (fun j => v10.ownBlock = some j) wr w' := Keeps.of_grown hg fun k e => e
  have hT : ∀ j, v10.ownBlock = some j → Typ19 wr j 5 := fun j hj => (own_typ19 h.a hj).1
  refine ⟨h.wv.keeps hk fun e => (hT g e).ne h.wv.typ (by decide) rfl, h.pr.keeps hk fun e => (hT p e).ne h.pr.typ (by decide) rfl, h.m.keep (hk.block bm h.m.lt fun e => h.m.ne (hT bm e) rfl), ho, own_keeps h.h hk fun k e e2 => h.n k e2 e, fun j hj e => ?_, h.b.trans (hk.below h.b.size fun j hj => own_base h.a j hj), h.hg, h.hp, h.hm⟩
  rcases hv with hv | hv
  · exact h.n j (hv ▸ hj) e
  · rw [hv] at hj
    injection hj with hj
    have := own_lt h.h j e
    omega
theorem WaSt.heard (h : WaSt w g p bm S P n Ts A H v10 v11 wr) (ho : OwnB w' w.heap.size v' A') (hg : wr.grownBy w' v11.ownBlock) (hv : v'.ownBlock = v11.ownBlock ∨ v'.ownBlock = some wr.heap.size) : WaSt w g p bm S P n Ts A A' v10 v' w' := by
  have hk : Keeps (fun j => v11.ownBlock = some j) wr w' := Keeps.of_grown hg fun k e => e
  have hT : ∀ j, v11.ownBlock = some j → Typ19 wr j 5 := fun j hj => (own_typ19 h.h hj).1
  refine ⟨h.wv.keeps hk fun e => (hT g e).ne h.wv.typ (by decide) rfl, h.pr.keeps hk fun e => (hT p e).ne h.pr.typ (by decide) rfl, h.m.keep (hk.block bm h.m.lt fun e => h.m.ne (hT bm e) rfl), own_keeps h.a hk fun k e e2 => h.n k e e2, ho, fun j hj e => ?_, h.b.trans (hk.below h.b.size fun j hj => own_base h.h j hj), h.hg, h.hp, h.hm⟩
  rcases hv with hv | hv
  · exact h.n j hj (hv ▸ e)
  · rw [hv] at e
    injection e with e
    have := own_lt h.a j hj
    omega
end
/-- The act at hand. -/
structure AcSt (w : World) (q : Nat) (tb : Bool) (x : Ac) (wr : World) : Prop where
  c : Cel wr q 52 #[.bool tb, .string x.s, .slice x.a x.n x.c]
  d : BytA wr x.a x.n x.c x.d
  f : ∀ r off, x.a = some ⟨r, off, none⟩ → 0 < x.n → r < w.heap.size
theorem AcSt.keeps {F : Nat → Prop} {w wr w' : World} {q : Nat} {tb : Bool} {x : Ac} (h : AcSt w q tb x wr) (hk : Keeps F wr w') (h1 : ¬ F q) (h2 : ∀ j, F j → w.heap.size ≤ j) : AcSt w q tb x w' :=
  ⟨h.c.keeps hk h1, h.d.keeps hk fun r off e h0 hf => by have := h.f r off e h0; have := h2 r hf; omega, h.f⟩
theorem AcSt.below {w wr w' : World} {q : Nat} {tb : Bool} {x : Ac} (h : AcSt w q tb x wr) (hb : Below wr.heap.size wr w') : AcSt w q tb x w' := ⟨h.c.below hb, h.d.below hb, h.f⟩
end Go.Proofs.YtebfjmjdcbeekaaDoor
