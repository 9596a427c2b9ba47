/- The walk of RangedecReads: what is held of memory on the way. -/
import Derived.Test.YtgnmnmjicjcffaaRdcL
import Derived.Test.YtgnmnmjicjcffaaRncK
namespace Go.Proofs.Ytgnmnmjicjcffaa
open Go.RowKit
set_option linter.unusedVariables false

/-! ### Whatever is read, the state is a good one -/
theorem decSym_good {b : List Int} {d : DecS} {l : List Int} (hb : ∀ j, 0 ≤ byteF b j ∧ byteF b j ≤ 255) (hG : GoodD d) (hL : GoodL l) : GoodD (decSym b d l) ∧ (decSym b d l).i ≤ d.i + 2 := by
  obtain ⟨v1, v2, v3, v4⟩ := decWhich_is hG hL
  exact ⟨(decTake_good hb hG (okP_sym hL v1) v2).1, decTake_i _ _ _ _ _⟩
theorem decOne_good {b : List Int} {d : DecS} {k : Nat} (hb : ∀ j, 0 ≤ byteF b j ∧ byteF b j ≤ 255) (hG : GoodD d) (hk : k ≤ 12) : GoodD (decTake (byteF b) d (decAt d (P2 k)) 1 (P2 k)) ∧ (decTake (byteF b) d (decAt d (P2 k)) 1 (P2 k)).i ≤ d.i + 2 ∧ 0 ≤ decAt d (P2 k) ∧ decAt d (P2 k) < P2 k := by
  have pk := P2_pos k
  have qk := P2_mono (a := k) (b := 12) hk
  rw [show P2 12 = 4096 by decide] at qk
  obtain ⟨a0, a1, a2⟩ := decAt_bd hG (show 1 ≤ P2 k by omega) (show P2 k ≤ 8192 by omega)
  exact ⟨(decTake_good hb hG ⟨by omega, by omega, by decide, a0, by omega⟩ a2).1, decTake_i _ _ _ _ _, a0, a1⟩
theorem decBits_good {b : List Int} {d : DecS} {k : Nat} (hb : ∀ j, 0 ≤ byteF b j ∧ byteF b j ≤ 255) (hG : GoodD d) (hk : k ≤ 24) : GoodD (decBits b d 0 k).2 ∧ (decBits b d 0 k).2.i ≤ d.i + 4 ∧ 0 ≤ (decBits b d 0 k).1 ∧ (decBits b d 0 k).1 ≤ 16777215 := by
  by_cases h0 : k = 0
  · subst h0; rw [decBits_zero]; exact ⟨hG, Nat.le_add_right _ _, by show (0 : Int) ≤ 0; decide, by show (0 : Int) ≤ 16777215; decide⟩
  · by_cases h12 : k ≤ 12
    · rw [decBits_low b d 0 (by omega) h12]
      obtain ⟨g1, g2, g3, g4⟩ := decOne_good hb hG h12
      have qk := P2_mono (a := k) (b := 12) h12
      rw [show P2 12 = 4096 by decide] at qk
      simp only
      exact ⟨g1, by omega, by omega, by omega⟩
    · rw [decBits_high b d 0 (by omega) hk]
      obtain ⟨g1, g2, g3, g4⟩ := decOne_good hb hG (show 12 ≤ 12 by decide)
      have e12 : P2 12 = 4096 := by decide
      rw [e12] at g1 g2 g3 g4
      obtain ⟨f1, f2, f3, f4⟩ := decOne_good hb g1 (show k - 12 ≤ 12 by omega)
      have qk := P2_mono (a := k - 12) (b := 12) (by omega)
      rw [e12] at qk
      have pk := P2_pos (k - 12)
      rw [decBits_low b _ _ (show 0 < k - 12 by omega) (by omega)]
      have m1 : (0 * 4096 + decAt d 4096) * P2 (k - 12) ≤ 4095 * P2 (k - 12) := Int.mul_le_mul_of_nonneg_right (by omega) (by omega)
      have m0 : 0 ≤ (0 * 4096 + decAt d 4096) * P2 (k - 12) := Int.mul_nonneg (by omega) (by omega)
      simp only
      exact ⟨f1, by omega, by omega, by omega⟩

/-! ### The objects -/
structure Obj7 where
  mg : Nat
  xg : Nat
  xr : Nat
  g : Nat
  gf : Nat
  bx : Nat
  bd : Nat
  bf : Nat
  n : Nat
/-- What is held of memory on the way. -/
structure St7 (w0 : World) (o : Obj7) (b : List Int) (v vf : Value) (w : World) (L1 L2 : List Int) (D1 D2 : DecS) : Prop where
  m : ModAt w o.mg L1 false
  x : RefMod w o.bx o.xg o.xr L2 false
  e : DrcAt w o.bd o.g v b D1
  q : DecMem w o.bf o.gf vf b D2
  gm : GoodL L1
  gx : GoodL L2
  ge : GoodD D1
  gq : GoodD D2
  lm : L1.length = o.n
  b : Below w0.heap.size w0 w
  d : w0.heap.size ≤ o.mg ∧ o.mg < o.bx ∧ o.xg < o.bd ∧ o.xr < o.bd ∧ o.g < o.bf
  ov : ∀ k, v.ownBlock = some k → k < o.bf
section
variable {w0 w w' : World} {o : Obj7} {b : List Int} {v vf : Value} {L1 L2 : List Int} {D1 D2 : DecS}
theorem St7.below (h : St7 w0 o b v vf w L1 L2 D1 D2) (hb : Below w.heap.size w w') : St7 w0 o b v vf w' L1 L2 D1 D2 :=
  ⟨h.m.below hb, h.x.below hb, h.e.below hb, h.q.below hb, h.gm, h.gx, h.ge, h.gq, h.lm, h.b.trans (hb.mono h.b.size), h.d, h.ov⟩
theorem St7.drewN (h : St7 w0 o b v vf w L1 L2 D1 D2) (n : Nat) : St7 w0 o b v vf (w.drewN n) L1 L2 D1 D2 := h.below (Below.drewN' (Below.refl _ _) n)
theorem St7.nums (h : St7 w0 o b v vf w L1 L2 D1 D2) : w0.heap.size ≤ o.mg ∧ o.mg < o.bx ∧ o.bx ≤ o.xg ∧ o.bx ≤ o.xr ∧ o.xg < o.bd ∧ o.xr < o.bd ∧ o.bd ≤ o.g ∧ o.g < o.bf ∧ o.bf ≤ o.gf := by
  have a := h.d
  have b := h.x.lt
  have d := h.e.lt
  have e := h.q.2.2
  omega
theorem St7.ownv (h : St7 w0 o b v vf w L1 L2 D1 D2) (j : Nat) (hj : v.ownBlock = some j) : o.bd ≤ j ∧ j < o.bf ∧ j ≠ o.g := by
  have a := h.e.own j hj
  exact ⟨a.2.1, h.ov j hj, a.2.2⟩
theorem St7.ownf (h : St7 w0 o b v vf w L1 L2 D1 D2) (j : Nat) (hj : vf.ownBlock = some j) : o.bf ≤ j ∧ j ≠ o.gf := ⟨own_base h.q.2.1 j hj, h.q.ne j hj⟩
theorem St7.prog {L1' : List Int} {D1' : DecS} (h : St7 w0 o b v vf w L1 L2 D1 D2) (hk : Keeps (fun j => j = o.g ∨ j = o.mg) w w') (he : DrcAt w' o.bd o.g v b D1') (hm : ModAt w' o.mg L1' false) (g1 : GoodL L1') (g2 : GoodD D1') (l1 : L1'.length = o.n) :
    St7 w0 o b v vf w' L1' L2 D1' D2 := by
  have n := h.nums
  exact ⟨hm, h.x.keeps hk (by omega) (by omega), he, h.q.keeps hk (by omega) (fun k hk => by have := h.ownf k hk; omega), g1, h.gx, g2, h.gq, l1, h.b.trans (hk.below h.b.size (by omega)), h.d, h.ov⟩
theorem St7.progE {D1' : DecS} (h : St7 w0 o b v vf w L1 L2 D1 D2) (hk : Keeps (fun j => j = o.g) w w') (he : DrcAt w' o.bd o.g v b D1') (g2 : GoodD D1') : St7 w0 o b v vf w' L1 L2 D1' D2 := by
  have n := h.nums
  exact h.prog (hk.mono fun j hj => .inl hj) he (h.m.keeps hk (by omega)) h.gm g2 h.lm
theorem St7.ref {L2' : List Int} {D2' : DecS} (h : St7 w0 o b v vf w L1 L2 D1 D2) (hk : Keeps (fun j => j = o.gf ∨ j = o.xr) w w') (he : DecMem w' o.bf o.gf vf b D2') (hx : RefMod w' o.bx o.xg o.xr L2' false) (g1 : GoodL L2') (g2 : GoodD D2') : St7 w0 o b v vf w' L1 L2' D1 D2' := by
  have n := h.nums
  exact ⟨h.m.keeps hk (by omega), hx, h.e.keeps hk (by omega) (fun k hk => by have := h.ownv k hk; omega), he, h.gm, g1, h.ge, g2, h.lm, h.b.trans (hk.below h.b.size (by omega)), h.d, h.ov⟩
theorem St7.refE {D2' : DecS} (h : St7 w0 o b v vf w L1 L2 D1 D2) (hk : Keeps (fun j => j = o.gf) w w') (he : DecMem w' o.bf o.gf vf b D2') (g2 : GoodD D2') : St7 w0 o b v vf w' L1 L2 D1 D2' := by
  have n := h.nums
  exact h.ref (hk.mono fun j hj => .inl hj) he (h.x.keeps hk (by omega) (by omega)) h.gx g2
theorem St7.row (h : St7 w0 o b v vf w L1 L2 D1 D2) {r : Nat} (hk : Keeps (fun j => j = r) w w') (h0 : w0.heap.size ≤ r) (h1 : r ≠ o.mg) (h2 : r ≠ o.xg) (h3 : r ≠ o.xr) (h4 : r < o.bd) : St7 w0 o b v vf w' L1 L2 D1 D2 := by
  have n := h.nums
  exact ⟨h.m.keeps hk (by omega), h.x.keeps hk (by omega) (by omega), h.e.keeps hk (by omega) (fun k hk => by have := h.ownv k hk; omega), h.q.keeps hk (by omega) (fun k hk => by have := h.ownf k hk; omega), h.gm, h.gx, h.ge, h.gq, h.lm, h.b.trans (hk.below h.b.size (by omega)), h.d, h.ov⟩
theorem St7.dis (h : St7 w0 o b v vf w L1 L2 D1 D2) : o.xg ≠ o.gf ∧ o.xr ≠ o.gf ∧ ∀ k, vf.ownBlock = some k → k ≠ o.xg ∧ k ≠ o.xr := by
  have n := h.nums
  exact ⟨by omega, by omega, fun k hk => by have := h.ownf k hk; omega⟩
end

/-! ### What the frame of a statement says of a slice of numbers that came in -/
theorem none_cap {w : World} {k : IntKind} {a : Option Addr} {len cap : Nat} {zs : List Int}
    (h : (a = none ∧ len = 0 ∧ cap = 0 ∧ zs = []) ∨ ∃ x, a = some x ∧ len ≤ cap ∧ cap ≤ maxLen ∧ zs.length = cap ∧ (∀ i, i < zs.length → w.cell? (x.add i) = some (.int k (zs.getD i 0))) ∧ ∀ n ∈ zs, (Lit.int k n).wf = true) : a = none → cap = 0 := by
  rintro rfl
  rcases h with ⟨_, _, h, _⟩ | ⟨x, h, _⟩
  · exact h
  · cases h
theorem isDig_wf {zs : List Int} (h : ∀ n ∈ zs, (Lit.int .u8 n).wf = true) : IsDig zs := fun j _ => by simpa [List.getD] using range_u8 h j
theorem u16_wf {zs : List Int} (h : ∀ n ∈ zs, (Lit.int .u16 n).wf = true) (j : Nat) : 0 ≤ zs.getD j 0 ∧ zs.getD j 0 ≤ 65535 := by simpa [List.getD] using range_u16 h j
end Go.Proofs.Ytgnmnmjicjcffaa
