/- The walk of RangedecAgain: what is held of memory on the way. -/
import Derived.Test.YteffkhpofiloiaaRdcS
import Derived.Test.YteffkhpofiloiaaRdcL
namespace Go.Proofs.Yteffkhpofiloiaa
open Go.RowKit
set_option linter.unusedVariables false

theorem modCells_no8 {l : List Int} {fx : Bool} {i : Nat} {y : Int} (h : (modCells l fx)[i]? = some (.int .u8 y)) : False := by
  have := List.mem_of_getElem? h
  unfold modCells at this
  simp at this
theorem IntsAt.ne_mod {w : World} {B len r off m : Nat} {b l : List Int} {fx : Bool} (h : IntsAt w B .u8 (some ⟨r, off, none⟩) len b) (h0 : 0 < len) (k : ModAt w m l fx) : r ≠ m := by
  rintro rfl
  obtain ⟨b', off', e, _, _, hc⟩ := h.at_ h0
  injection e with e
  injection e with e1 e2
  subst e1; subst e2
  rw [k.2.cell] at hc
  simp only [List.getElem?_toArray] at hc
  exact modCells_no8 hc
theorem IntsAt.keeps {F : Nat → Prop} {w w' : World} {B len : Nat} {k : IntKind} {a : Option Addr} {zs : List Int} (h : IntsAt w B k a len zs) (hk : Keeps F w w') (hB : B ≤ w.heap.size) (hF : ∀ r off, a = some ⟨r, off, none⟩ → 0 < len → r < B → ¬ F r) : IntsAt w' B k a len zs := by
  obtain ⟨h1, h2⟩ := h
  refine ⟨h1, ?_⟩
  rcases h2 with h2 | ⟨b, off, e, h3, h4, h5⟩
  · exact .inl h2
  · by_cases h0 : 0 < len
    · exact .inr ⟨b, off, e, h3, h4, fun j hj => (World.cell?_of_block (a := ⟨b, off + j, none⟩) (hk.block b (by omega) (hF b off e h0 h3))).trans (h5 j hj)⟩
    · exact .inl (by omega)

/-! ### While it is put -/
structure StE (w0 : World) (mg og be g n : Nat) (v : Value) (w : World) (L : List Int) (E : EncS) : Prop where
  m : ModAt w mg L false
  o : ModAt w og (List.replicate n 1) false
  e : EncAt w be g v E
  gm : GoodL L
  ge : GoodE E
  lm : L.length = n
  b : Below w0.heap.size w0 w
  d : w0.heap.size ≤ mg ∧ mg ≠ og ∧ mg < be ∧ w0.heap.size ≤ og ∧ og < be
section
variable {w0 w w' : World} {mg og be g n : Nat} {v : Value} {L : List Int} {E : EncS}
theorem StE.drewN (h : StE w0 mg og be g n v w L E) (i : Nat) : StE w0 mg og be g n v (w.drewN i) L E :=
  ⟨h.m.drewN i, h.o.drewN i, h.e.drewN i, h.gm, h.ge, h.lm, Below.drewN' h.b i, h.d⟩
theorem StE.prog {L' : List Int} {E' : EncS} {v' : Value} (h : StE w0 mg og be g n v w L E) (hk : Keeps (fun j => j = g ∨ v.ownBlock = some j ∨ j = mg) w w') (he : EncAt w' be g v' E') (hm : ModAt w' mg L' false) (g1 : GoodL L') (g2 : GoodE E') (l1 : L'.length = n) : StE w0 mg og be g n v' w' L' E' := by
  obtain ⟨d1, d2, d3, d4, d5⟩ := h.d
  have hl := h.e.lt
  have ho : ∀ j, v.ownBlock = some j → be ≤ j := fun j hj => (h.e.own j hj).2.1
  refine ⟨hm, h.o.keeps hk ?_, he, g1, g2, l1, h.b.trans (hk.below h.b.size ?_), h.d⟩
  · rintro (c | c | c)
    · omega
    · have := ho _ c; omega
    · omega
  · rintro j (c | c | c)
    · omega
    · have := ho _ c; omega
    · omega
theorem StE.progE {E' : EncS} {v' : Value} (h : StE w0 mg og be g n v w L E) (hk : Keeps (fun j => j = g ∨ v.ownBlock = some j) w w') (he : EncAt w' be g v' E') (g2 : GoodE E') : StE w0 mg og be g n v' w' L E' := by
  obtain ⟨d1, d2, d3, d4, d5⟩ := h.d
  have hl := h.e.lt
  have ho : ∀ j, v.ownBlock = some j → be ≤ j := fun j hj => (h.e.own j hj).2.1
  refine h.prog (hk.mono ?_) he (h.m.keeps hk ?_) h.gm g2 h.lm
  · rintro j (c | c)
    · exact .inl c
    · exact .inr (.inl c)
  · rintro (c | c)
    · omega
    · have := ho _ c; omega
end

/-! ### While it is read -/
structure StD (w0 : World) (mg bd g n : Nat) (v : Value) (b : List Int) (w : World) (L : List Int) (D : DecS) : Prop where
  m : ModAt w mg L false
  e : DrcAt w bd g v b D
  gm : GoodL L
  lm : L.length = n
  b : Below w0.heap.size w0 w
  d : w0.heap.size ≤ mg ∧ w0.heap.size ≤ bd
section
variable {w0 w w' : World} {mg bd g n : Nat} {v : Value} {b : List Int} {L : List Int} {D : DecS}
theorem StD.drewN (h : StD w0 mg bd g n v b w L D) (i : Nat) : StD w0 mg bd g n v b (w.drewN i) L D :=
  ⟨h.m.drewN i, h.e.drewN i, h.gm, h.lm, Below.drewN' h.b i, h.d⟩
theorem StD.prog {L' : List Int} {D' : DecS} (h : StD w0 mg bd g n v b w L D) (hk : Keeps (fun j => j = g ∨ j = mg) w w') (he : DrcAt w' bd g v b D') (hm : ModAt w' mg L' false) (g1 : GoodL L') (l1 : L'.length = n) : StD w0 mg bd g n v b w' L' D' := by
  have hl := h.e.lt
  have hd := h.d
  exact ⟨hm, he, g1, l1, h.b.trans (hk.below h.b.size (by omega)), h.d⟩
theorem StD.progE {D' : DecS} (h : StD w0 mg bd g n v b w L D) (hk : Keeps (fun j => j = g) w w') (he : DrcAt w' bd g v b D') : StD w0 mg bd g n v b w' L D' :=
  h.prog (hk.mono fun j hj => .inl hj) he (h.m.keeps hk (h.e.ne_mod h.m).1) h.gm h.lm
end
/-- What is still wanted of the encoder and of its bytes. -/
structure StB (be g bd len : Nat) (v : Value) (a : Option Addr) (b : List Int) (F : EncS) (w : World) : Prop where
  e : EncAt w be g v F
  i : IntsAt w bd .u8 a len b
  s : bd ≤ w.heap.size
  o : g < bd ∧ ∀ r, v.ownBlock = some r → r < bd
section
variable {w w' : World} {be g bd len og gd : Nat} {v : Value} {a : Option Addr} {b : List Int} {F : EncS} {L : List Int} {fx : Bool}
theorem StB.drewN (h : StB be g bd len v a b F w) (i : Nat) : StB be g bd len v a b F (w.drewN i) := ⟨h.e.drewN i, h.i.drewN i, h.s, h.o⟩
theorem StB.below (h : StB be g bd len v a b F w) (hb : Below w.heap.size w w') : StB be g bd len v a b F w' :=
  ⟨h.e.below hb, h.i.below (hb.mono h.s), Nat.le_trans h.s hb.size, h.o⟩
theorem StB.read (h : StB be g bd len v a b F w) (hm : ModAt w og L fx) (hd : bd ≤ gd) (hk : Keeps (fun j => j = gd ∨ j = og) w w') : StB be g bd len v a b F w' := by
  obtain ⟨o1, o2⟩ := h.o
  obtain ⟨n1, n2⟩ := h.e.ne_mod hm
  refine ⟨h.e.keeps hk ?_ ?_, h.i.keeps hk h.s ?_, Nat.le_trans h.s hk.size, h.o⟩
  · rintro (c | c)
    · omega
    · exact n1 c.symm
  · rintro r hr (c | c)
    · have := o2 r hr; omega
    · exact n2 (c ▸ hr)
  · intro r off e h0 hr
    rintro (c | c)
    · omega
    · have hi := h.i
      rw [e] at hi
      exact hi.ne_mod h0 hm c
theorem StB.readE (h : StB be g bd len v a b F w) (hm : ModAt w og L fx) (hd : bd ≤ gd) (hk : Keeps (fun j => j = gd) w w') : StB be g bd len v a b F w' := h.read hm hd (hk.mono fun j hj => .inl hj)
end
end Go.Proofs.Yteffkhpofiloiaa
