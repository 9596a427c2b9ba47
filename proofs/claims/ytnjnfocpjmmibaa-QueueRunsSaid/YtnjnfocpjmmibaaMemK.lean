/- Words of mine for memory: what a call leaves as it was, but for some blocks. -/
import Derived.Test.YtnjnfocpjmmibaaMemA
namespace Go.Proofs.Ytnjnfocpjmmibaa
open Go.RowKit
set_option linter.unusedVariables false

/-- All old blocks but those of F are as they were. -/
structure Keeps (F : Nat → Prop) (w w' : World) : Prop where
  os : w'.os = w.os
  tape : w'.tape = w.tape
  output : w'.output = w.output
  size : w.heap.size ≤ w'.heap.size
  block : ∀ k, k < w.heap.size → ¬ F k → w'.heap[k]? = w.heap[k]?
section
variable {F G : Nat → Prop} {w w' w2 : World}
theorem Keeps.refl (F : Nat → Prop) (w : World) : Keeps F w w := ⟨rfl, rfl, rfl, Nat.le_refl _, fun _ _ _ => rfl⟩
theorem Keeps.trans (h : Keeps F w w') (k : Keeps F w' w2) : Keeps F w w2 :=
  ⟨k.os.trans h.os, k.tape.trans h.tape, k.output.trans h.output, Nat.le_trans h.size k.size, fun i hi hn => (k.block i (Nat.lt_of_lt_of_le hi h.size) hn).trans (h.block i hi hn)⟩
theorem Keeps.mono (h : Keeps F w w') (hi : ∀ k, F k → G k) : Keeps G w w' := ⟨h.os, h.tape, h.output, h.size, fun k hk hn => h.block k hk fun c => hn (hi k c)⟩
theorem Keeps.of_below (h : Below w.heap.size w w') : Keeps F w w' := ⟨h.os, h.tape, h.output, h.size, fun k hk _ => h.block k hk⟩
theorem Keeps.below {B : Nat} (h : Keeps F w w') (hB : B ≤ w.heap.size) (hi : ∀ k, F k → B ≤ k) : Below B w w' :=
  ⟨h.os, h.tape, h.output, h.size, fun k hk => h.block k (by omega) fun c => by have := hi k c; omega⟩
theorem Keeps.of_grown {row : Option Nat} (h : w.grownBy w' row) (hi : ∀ k, row = some k → F k) : Keeps F w w' :=
  ⟨h.os, h.tape, h.output, h.size, fun k hk hn => h.block k hk fun c => hn (hi k c.symm)⟩
theorem Keeps.grown {r : Nat} (h : Keeps F w w') (hg : w'.grownBy w2 (some r)) (hr : F r ∨ w.heap.size ≤ r) : Keeps F w w2 :=
  ⟨hg.os.trans h.os, hg.tape.trans h.tape, hg.output.trans h.output, Nat.le_trans h.size hg.size, fun k hk hn => (hg.block k (Nat.lt_of_lt_of_le hk h.size) (by intro c; injection c with c; subst c; rcases hr with hr | hr; exact hn hr; omega)).trans (h.block k hk hn)⟩
/-- What a second call writes is of F, or new since the first began. -/
theorem Keeps.then_ (h : Keeps F w w') (k : Keeps G w' w2) (hg : ∀ j, G j → F j ∨ w.heap.size ≤ j) : Keeps F w w2 :=
  ⟨k.os.trans h.os, k.tape.trans h.tape, k.output.trans h.output, Nat.le_trans h.size k.size, fun i hi hn => (k.block i (Nat.lt_of_lt_of_le hi h.size) (fun c => by rcases hg i c with d | d; exact hn d; omega)).trans (h.block i hi hn)⟩
theorem Keeps.alloc (h : Keeps F w w') (o : Obj) : Keeps F w (w'.alloc o) := h.trans (.of_below (Below.alloc_new w' o))
theorem Keeps.setCell (h : Keeps F w w') {p : Addr} (hp : F p.block ∨ w.heap.size ≤ p.block) (u : Value) : Keeps F w (w'.setCell p u) :=
  ⟨h.os, h.tape, h.output, Nat.le_trans h.size (by simp [World.setCell]), fun k hk hn => (Below.heap_setCell w' p u k (by rintro rfl; rcases hp with hp | hp; exact hn hp; omega)).trans (h.block k hk hn)⟩
theorem Keeps.drewN (h : Keeps F w w') (n : Nat) : Keeps F w (w'.drewN n) := ⟨h.os, h.tape, h.output, h.size, h.block⟩
end

/-- Block g is just these cells, none frozen: a struct behind a pointer. -/
def Cel (w : World) (g : Nat) (t : TypeId) (cs : Array Value) : Prop := w.heap[g]? = some (.cells cs t (0, 0))
section
variable {w w' : World} {g : Nat} {t : TypeId} {cs : Array Value}
theorem Cel.lt (h : Cel w g t cs) : g < w.heap.size := by
  rcases Nat.lt_or_ge g w.heap.size with hlt | hge
  · exact hlt
  · unfold Cel at h; rw [Array.getElem?_eq_none hge] at h; cases h
theorem Cel.cell (h : Cel w g t cs) (i : Nat) : w.cell? ⟨g, i, none⟩ = cs[i]? := cell_of_row w g i cs t (0, 0) h
theorem Cel.frozen (h : Cel w g t cs) (i : Nat) : w.frozen? ⟨g, i, none⟩ = false := by
  unfold Cel at h
  simp [World.frozen?, h]
theorem Cel.new (w : World) (t : TypeId) (cs : Array Value) : Cel (w.alloc (.cells cs t)) w.heap.size t cs := heap_alloc_new w _
theorem Cel.keep (h : Cel w g t cs) (hk : w'.heap[g]? = w.heap[g]?) : Cel w' g t cs := hk.trans h
theorem Cel.below (h : Cel w g t cs) (hb : Below w.heap.size w w') : Cel w' g t cs := h.keep (hb.block g h.lt)
theorem Cel.keeps {F : Nat → Prop} (h : Cel w g t cs) (hb : Keeps F w w') (hn : ¬ F g) : Cel w' g t cs := h.keep (hb.block g h.lt hn)
theorem Cel.drewN (h : Cel w g t cs) (n : Nat) : Cel (w.drewN n) g t cs := h
theorem Cel.alloc (h : Cel w g t cs) (o : Obj) : Cel (w.alloc o) g t cs := h.below (Below.alloc_new w o)
theorem Cel.far (h : Cel w g t cs) {p : Addr} (hp : g ≠ p.block) (u : Value) : Cel (w.setCell p u) g t cs := (Below.heap_setCell w p u g hp).trans h
theorem Cel.set_ (h : Cel w g t cs) (i : Nat) (u : Value) : Cel (w.setCell ⟨g, i, none⟩ u) g t (cs.setIfInBounds i u) := by
  unfold Cel at h ⊢
  simp [World.setCell, Array.getElem?_modify, h]
end
/-- A row of the call's own, and a block of another type, are two. -/
theorem own_ne_cel {w : World} {base n g size : Nat} {e t : TypeId} {v : Value} {xs : List Value} {cs : Array Value} (h : w.ownsRow base e size v n xs) (hs : Cel w g t cs) (hne : e ≠ t) (k : Nat) (hk : v.ownBlock = some k) : k ≠ g := by
  rintro rfl
  rcases h.2 with ⟨rfl, _⟩ | ⟨g', cap, cur, rfl, _, hh, _⟩
  · simp [Value.ownBlock] at hk
  · simp [Value.ownBlock] at hk
    subst hk
    unfold Cel at hs
    rw [hs] at hh
    injection hh with hh
    injection hh with _ ht
    exact hne ht.symm
/-- A row that is owned stays so where another block is written. -/
theorem own_far {w : World} {base n size : Nat} {e : TypeId} {v : Value} {xs : List Value} (h : w.ownsRow base e size v n xs) {p : Addr} (hp : ∀ k, v.ownBlock = some k → k ≠ p.block) (u : Value) : (w.setCell p u).ownsRow base e size v n xs := by
  refine ⟨h.1, ?_⟩
  rcases h.2 with h0 | ⟨g, cap, cur, h1, h2, h3, h4⟩
  · exact .inl h0
  · exact .inr ⟨g, cap, cur, h1, h2, (Below.heap_setCell w p u g (hp g (by rw [h1]; rfl))).trans h3, h4⟩
theorem own_keeps {w w' : World} {base n size : Nat} {e : TypeId} {v : Value} {xs : List Value} {F : Nat → Prop} (h : w.ownsRow base e size v n xs) (hk : Keeps F w w') (hn : ∀ k, v.ownBlock = some k → ¬ F k) : w'.ownsRow base e size v n xs := by
  refine ⟨h.1, ?_⟩
  rcases h.2 with h0 | ⟨g, cap, cur, h1, h2, h3, h4⟩
  · exact .inl h0
  · have hl := own_lt h g (by rw [h1]; rfl)
    exact .inr ⟨g, cap, cur, h1, h2, (hk.block g hl (hn g (by rw [h1]; rfl))).trans h3, h4⟩
theorem own_drewN {w : World} {base n size : Nat} {e : TypeId} {v : Value} {xs : List Value} (h : w.ownsRow base e size v n xs) (i : Nat) : (w.drewN i).ownsRow base e size v n xs := h
end Go.Proofs.Ytnjnfocpjmmibaa
