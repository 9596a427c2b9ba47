/- Plain facts, and what functions give, for the proofs of this seat: several texts in one, each with its own first remark. -/
import Derived.Test.YtmgfkdmjgjlkjaaGreatAT
import Derived.Test.YtmgfkdmjgjlkjaaGreatAN

namespace Go.Proofs.YtmgfkdmjgjlkjaaGreat
open Go Go.RowKit
set_option linter.unusedVariables false
set_option linter.unusedSimpArgs false
set_option maxRecDepth 100000
theorem set_wrap23 (x m c : Int) (m0 : 0 < m) (m1 : m ≤ 1000) (c0 : 0 ≤ c) (c1 : c ≤ 1000) : ∃ y, wrap64 (c + wrap64 ((IntKind.u64.wrap x).tmod m)) = y ∧ c ≤ y ∧ y < c + m := by
  have h : IntKind.u64.wrap x = x % 18446744073709551616 := rfl
  have h0 : 0 ≤ x % 18446744073709551616 := Int.emod_nonneg _ (by decide)
  have e : (IntKind.u64.wrap x).tmod m = x % 18446744073709551616 % m := by rw [h, Int.tmod_eq_emod_of_nonneg h0]
  have a := Int.emod_nonneg (x % 18446744073709551616) (show m ≠ 0 by omega)
  have b := Int.emod_lt_of_pos (x % 18446744073709551616) m0
  have e1 : wrap64 (x % 18446744073709551616 % m) = x % 18446744073709551616 % m := IntWalk.wrap64_in _ (by omega)
  have e2 : wrap64 (c + x % 18446744073709551616 % m) = c + x % 18446744073709551616 % m := IntWalk.wrap64_in _ (by omega)
  exact ⟨c + x % 18446744073709551616 % m, by rw [e, e1, e2], by omega, by omega⟩
def KpAt (w : World) (base : Nat) (D : Nat → Prop) (v : Value) (K : List Pk) : Prop := ∃ xs : List PkX, xs.map (·.1) = K ∧ w.ownsRow base 45 4 v xs.length (pkFlat xs) ∧ (∀ x, x ∈ xs → PlAt w D x.2.1 x.1.pl.length x.2.2 x.1.pl) ∧ (xs = [] → v.ownBlock = none)
section
variable {w w' : World} {base : Nat} {D E F : Nat → Prop} {v : Value} {K : List Pk}
theorem KpAt.nil (w : World) (base : Nat) (D : Nat → Prop) : KpAt w base D (.slice none 0 0) [] := ⟨[], rfl, World.ownsRow_nil w base _ 4, (fun x hx => by simp at hx), fun _ => rfl⟩
theorem KpAt.keeps (h : KpAt w base D v K) (hk : Keeps F w w') (h1 : ∀ j, F j → ¬ D j) (h2 : ∀ j, F j → v.ownBlock ≠ some j) : KpAt w' base D v K := by
  obtain ⟨xs, e, ho, hp, hn⟩ := h
  exact ⟨xs, e, own_keeps ho hk fun k hg hf => h2 k hf hg, fun x hx => (hp x hx).keeps hk h1, hn⟩
theorem KpAt.below (h : KpAt w base D v K) (hb : Below w.heap.size w w') : KpAt w' base D v K := h.keeps (F := fun _ => False) (.of_below hb) (fun _ c => c.elim) fun _ c => c.elim
theorem KpAt.weaken (h : KpAt w base D v K) (hD : ∀ j, D j → j < w.heap.size → E j) : KpAt w base E v K := by
  obtain ⟨xs, e, ho, hp, hn⟩ := h
  exact ⟨xs, e, ho, fun x hx => (hp x hx).weaken hD, hn⟩
theorem KpAt.form (h : KpAt w base D v K) : ∃ a n c, v = .slice a n c ∧ n = K.length := by
  obtain ⟨xs, e, ho, hp⟩ := h
  rw [← e, List.length_map]
  rcases ho.2 with ⟨rfl, hn⟩ | ⟨g, cap, cur, rfl, _⟩
  · exact ⟨_, _, _, rfl, hn.symm⟩
  · exact ⟨_, _, _, rfl, rfl⟩
theorem KpAt.lt (h : KpAt w base D v K) {j : Nat} (hj : v.ownBlock = some j) : j < w.heap.size ∧ base ≤ j ∧ ∃ cs, Cel w j 45 cs := by
  obtain ⟨xs, e, ho, hp⟩ := h
  rcases ho.2 with ⟨rfl, hn⟩ | ⟨g, cap, cur, rfl, h1, h2, _⟩
  · simp [Value.ownBlock] at hj
  · simp only [Value.ownBlock, Option.some.injEq] at hj
    subst hj
    have hc : Cel w g 45 cur := h2
    exact ⟨hc.lt, h1, _, hc⟩
theorem KpAt.first (h : KpAt w base D v K) {j : Nat} (hj : v.ownBlock = some j) : ∃ cs v0, Cel w j 45 cs ∧ cs[0]? = some v0 ∧ ∀ x, v0 ≠ .int .u8 x := by
  obtain ⟨xs, e, ho, hp, hn⟩ := h
  cases xs with
  | nil =>
    rw [hn rfl] at hj
    cases hj
  | cons x xs =>
    rcases ho.2 with ⟨rfl, hn⟩ | ⟨g, cap, cur, rfl, h1, h2, h3, h4, h5, h6⟩
    · simp [Value.ownBlock] at hj
    · simp only [Value.ownBlock, Option.some.injEq] at hj
      subst hj
      refine ⟨cur, .int .u32 x.1.ep, h2, ?_, fun y e => (by injection e with e; cases e)⟩
      have h7 : (pkFlat (x :: xs))[0]? = some (.int .u32 x.1.ep) := rfl
      rw [← h6, List.getElem?_take] at h7
      split at h7
      · rw [← Array.getElem?_toList]; exact h7
      · cases h7
theorem PlAt.lt {a : Option Addr} {m c : Nat} {zs : List Int} (h : PlAt w D a m c zs) {r off : Nat} (e : a = some ⟨r, off, none⟩) (h0 : 0 < m) : r < w.heap.size := by
  rcases h.i.2 with h1 | ⟨b, off', e', h2, _⟩
  · omega
  · rw [e] at e'
    injection e' with e'
    injection e' with e'
    omega
theorem KpAt.pks (h : KpAt w base D v K) : PksAt w base w.heap.size 45 v K := by
  obtain ⟨xs, e, ho, hp, hn⟩ := h
  exact ⟨xs, e, ho, fun x hx => ⟨(hp x hx).i, (hp x hx).n, fun r off e h0 => .inr ((hp x hx).lt e h0)⟩⟩
end
theorem append_kp {P : Program} {w : World} {ops : Array Oper} {rest : List Oper} {o : Oper} {a : Act} {Q : Exit → Act → World → Prop} (hgd : o.guard = none) (s x : Operand) (t : TypeId)
    (ho : o.op = .call { callee := .builtin .append, args := #[s, x], argTypes := #[t, t] })
    (base : Nat) (D : Nat → Prop) (z : Value) (ht : P.underlying t = some (.slice 45)) (hi : (P.info? 45).map (fun i => (i.zero, i.size, i.bytes)) = some (some z, 4, 40)) (hz : z.cells.size = 4)
    (v : Value) (K : List Pk) (hs : a.eval s = v) (hR : KpAt w base D v K) (hDv : ∀ j, v.ownBlock = some j → ¬ D j)
    (q : Nat) (p : Pk) (pa : Option Addr) (pc : Nat) (hx : a.eval x = .slice (some ⟨q, 0, none⟩) 1 1) (hc : Cel w q 45 (pkC p pa p.pl.length pc)) (hp : PlAt w D pa p.pl.length pc p.pl)
    (hf : K.length ≤ 100000) (hbase : base ≤ w.heap.size)
    (h : ∀ v' w', KpAt w' base (fun j => D j ∧ j < w.heap.size) v' (K ++ [p]) → w.grownBy w' v.ownBlock → (v'.ownBlock = v.ownBlock ∨ v'.ownBlock = some w.heap.size) → wpList P ops Q rest (a.put o.dst v') w') :
    wpList P ops Q (o :: rest) a w := by
  obtain ⟨i, h1, h2, h3, h4⟩ := info_parts hi
  obtain ⟨xs, r1, r2, r3, r4⟩ := hR
  have hl : xs.length = K.length := by rw [← r1, List.length_map]
  have hsrc : ∀ j u, (pkFlat [((p, pa, pc) : PkX)])[j]? = some u → w.cell? ((⟨q, 0, none⟩ : Addr).add j) = some u := World.news_of_block hc
  refine wpList_append_own_at w hgd s x t ho base 45 i z 4 40 ht h1 h2 h3 h4 hz (by decide) v xs.length _ hs r2 ⟨q, 0, none⟩ 1 1 (pkFlat [((p, pa, pc) : PkX)]) hx (by rw [pkFlat_len]; rfl) hsrc ?_ (by unfold maxLen; omega) (by omega) hbase ?_
  · intro u hu
    simp only [pkFlat, List.mem_flatten, List.mem_map] at hu
    obtain ⟨l, ⟨y, _, rfl⟩, hu⟩ := hu
    simp only [pkCells, List.mem_cons, List.not_mem_nil, or_false] at hu
    rcases hu with rfl | rfl | rfl | rfl <;> rfl
  intro v' w' g1 g2 _ g4
  have kk : Keeps (fun j => v.ownBlock = some j) w w' := Keeps.of_grown g2 fun k hk => hk
  refine h v' w' ⟨xs ++ [(p, pa, pc)], by rw [List.map_append, r1]; rfl, ?_, fun y hy => ?_, fun e => (by simp at e)⟩ g2 g4
  · rw [List.length_append, pkFlat_app]; exact g1
  · have hw : ∀ {y : PkX}, PlAt w D y.2.1 y.1.pl.length y.2.2 y.1.pl → PlAt w' (fun j => D j ∧ j < w.heap.size) y.2.1 y.1.pl.length y.2.2 y.1.pl := fun h5 => (h5.weaken (E := fun j => D j ∧ j < w.heap.size) fun j hj hl => ⟨hj, hl⟩).keeps kk fun j hj hd => hDv j hj hd.1
    rcases List.mem_append.1 hy with h5 | h5
    · exact hw (r3 y h5)
    · have h5 : y = (p, pa, pc) := by simpa using h5
      subst h5
      exact hw hp
def AcX (ev kv tv : Value) (j : Nat) : Prop := ev = .pointer (some ⟨j, 0, none⟩) ∨ kv.ownBlock = some j ∨ tv.ownBlock = some j
def AcD (M : List Nat) (ev kv tv : Value) (j : Nat) : Prop := j ∉ M ∧ ¬ AcX ev kv tv j
structure AcG (w : World) (B g gc : Nat) (M : List Nat) (c : Cfg) (ep : Int) (ev kv tv : Value) (o : Option S13) (ps : List Pk) (T : List ByteArray) (oR : Option S13) (K : List Pk) (L : List ByteArray) (wr : World) : Prop where
  b : Below w.heap.size w wr
  hB : w.heap.size ≤ B ∧ B ≤ wr.heap.size
  cc : Cel wr gc 27 c.vals
  m : MtM wr B g M (AcX ev kv tv) c ep o ps T
  k : ∀ S, oR = some S → KpAt wr w.heap.size (AcD M ev kv tv) kv K ∧ ∃ gr, ev = .pointer (some ⟨gr, 0, none⟩) ∧ w.heap.size ≤ gr ∧ RefAt wr gr c.q c.b.toNat S
  tt : wr.ownsRow w.heap.size 9 1 tv L.length (L.map Value.string)
  kf : ∃ a n cc, kv = .slice a n cc
  xl : ∀ j, AcX ev kv tv j → j < wr.heap.size
section
variable {w wr w' : World} {B g gc : Nat} {M : List Nat} {c : Cfg} {ep : Int} {ev kv tv : Value} {o oR o' : Option S13} {ps ps' K : List Pk} {T T' L : List ByteArray}
theorem AcG.below (h : AcG w B g gc M c ep ev kv tv o ps T oR K L wr) (hb : Below wr.heap.size wr w') : AcG w B g gc M c ep ev kv tv o ps T oR K L w' := by
  refine ⟨chain h.b hb, ⟨h.hB.1, Nat.le_trans h.hB.2 hb.size⟩, h.cc.below hb, h.m.below hb, fun S hS => ?_, own_keeps h.tt (.of_below (F := fun _ => False) hb) fun _ _ c => c, h.kf, fun j hj => Nat.lt_of_lt_of_le (h.xl j hj) hb.size⟩
  obtain ⟨h1, gr, h2, h3, h4⟩ := h.k S hS
  exact ⟨h1.below hb, gr, h2, h3, h4.below hb⟩
theorem mtF_ne {j : Nat} {t : TypeId} {cs : Array Value} (hc : Cel wr j t cs) (hf : MtF wr B j) (h1 : t ≠ 64) (h2 : t ≠ 130) (h3 : t ≠ 115) (h4 : t ≠ 172) (h5 : t ≠ 175) : False := by
  obtain ⟨_, t', ht, hx⟩ := hf
  have hc' := hc.typ19
  rcases hx with rfl | rfl | rfl | rfl | rfl
  · exact hc'.ne ht h1 rfl
  · exact hc'.ne ht h2 rfl
  · exact hc'.ne ht h3 rfl
  · exact hc'.ne ht h4 rfl
  · exact hc'.ne ht h5 rfl
theorem own_celT {base n size : Nat} {e : TypeId} {v : Value} {xs : List Value} (h : wr.ownsRow base e size v n xs) {j : Nat} (hj : v.ownBlock = some j) : j < wr.heap.size ∧ base ≤ j ∧ ∃ cs, Cel wr j e cs := by
  rcases h.2 with ⟨rfl, hn⟩ | ⟨g, cap, cur, rfl, h1, h2, _⟩
  · simp [Value.ownBlock] at hj
  · simp only [Value.ownBlock, Option.some.injEq] at hj
    subst hj
    have hc : Cel wr g e cur := h2
    exact ⟨hc.lt, h1, _, hc⟩
theorem refAt_mt {gr : Nat} {Q : Int} {N : Nat} {S : S13} (h : RefAt wr gr Q N S) (hk : Keeps (MtF wr B) wr w') : RefAt w' gr Q N S := by
  refine h.keeps hk fun j hj => ?_
  obtain ⟨_, t', ⟨cs, fr, ht⟩, hx⟩ := hj
  refine ⟨t', ⟨cs, fr, ht⟩, ?_⟩
  rcases hx with rfl | rfl | rfl | rfl | rfl <;> decide
theorem AcG.prog (h : AcG w B g gc M c ep ev kv tv o ps T oR K L wr) (hm : MtM w' B g M (AcX ev kv tv) c ep o' ps' T') (hk : Keeps (MtG wr B M) wr w') : AcG w B g gc M c ep ev kv tv o' ps' T' oR K L w' := by
  refine ⟨h.b.trans (hk.below h.b.size fun j hj => Nat.le_trans h.hB.1 hj.1.1), ⟨h.hB.1, Nat.le_trans h.hB.2 hk.size⟩, h.cc.keeps hk fun hf => mtF_ne h.cc hf.1 (by decide) (by decide) (by decide) (by decide) (by decide), hm, fun S hS => ?_, own_keeps h.tt hk fun j hj hf => ?_, h.kf, fun j hj => Nat.lt_of_lt_of_le (h.xl j hj) hk.size⟩
  · obtain ⟨h1, gr, h2, h3, h4⟩ := h.k S hS
    refine ⟨h1.keeps hk (fun j hj hd => hd.1 hj.2) fun j hj he => ?_, gr, h2, h3, refAt_mt h4 (hk.mono fun j hj => hj.1)⟩
    obtain ⟨_, _, cs, hc⟩ := h1.lt he
    exact mtF_ne hc hj.1 (by decide) (by decide) (by decide) (by decide) (by decide)
  · obtain ⟨_, _, cs, hc⟩ := own_celT h.tt hj
    exact mtF_ne hc hf.1 (by decide) (by decide) (by decide) (by decide) (by decide)
theorem AcG.ref {gr : Nat} {S S' : S13} (h : AcG w B g gc M c ep ev kv tv o ps T (some S) K L wr) (he : ev = .pointer (some ⟨gr, 0, none⟩)) (hr : RefAt w' gr c.q c.b.toNat S') (hk : Keeps (· = gr) wr w') : AcG w B g gc M c ep ev kv tv o ps T (some S') K L w' := by
  obtain ⟨h1, gr', h2, h3, h4⟩ := h.k S rfl
  obtain rfl : gr = gr' := by rw [he] at h2; injection h2 with h2; injection h2 with h2; injection h2
  obtain ⟨rc, hrc⟩ := h4.typ
  refine ⟨h.b.trans (hk.below h.b.size fun j hj => by omega), ⟨h.hB.1, Nat.le_trans h.hB.2 hk.size⟩, h.cc.keeps hk fun e => h.cc.ne hrc (by decide) e, h.m.keeps hk ?_, fun S0 hS => ?_, own_keeps h.tt hk fun j hj e => ?_, h.kf, fun j hj => Nat.lt_of_lt_of_le (h.xl j hj) hk.size⟩
  · rintro j rfl
    exact ⟨.inl he, _, _, hrc, by decide, by decide, by decide, by decide, by decide, by decide, by decide, by decide, by decide⟩
  · injection hS with hS
    subst hS
    refine ⟨h1.keeps hk ?_ ?_, gr, he, h3, hr⟩
    · rintro j rfl hd
      exact hd.2 (.inl he)
    · rintro j rfl e
      obtain ⟨_, _, cs, hc⟩ := h1.lt e
      exact hc.ne hrc (by decide) rfl
  · subst e
    obtain ⟨_, _, cs, hc⟩ := own_celT h.tt hj
    exact hc.ne hrc (by decide) rfl
theorem AcG.fresh {S : S13} (h : AcG w B g gc M c ep ev kv tv o ps T (some S) K L wr) : ∀ j, wr.heap.size ≤ j → AcD M ev kv tv j := by
  intro j hj
  obtain ⟨h1, gr, h2, h3, h4⟩ := h.k S rfl
  obtain ⟨rc, hrc⟩ := h4.typ
  refine ⟨fun hm => ?_, fun hx => ?_⟩
  · have := h.m.lt j hm
    omega
  · rcases hx with e | e | e
    · rw [h2] at e
      injection e with e
      injection e with e
      injection e with e
      have := hrc.lt
      omega
    · have := (h1.lt e).1
      omega
    · have := (own_celT h.tt e).1
      omega
end
end Go.Proofs.YtmgfkdmjgjlkjaaGreat

namespace Go.Proofs.YtmgfkdmjgjlkjaaGreat
open Go Go.RowKit
set_option linter.unusedVariables false
set_option linter.unusedSimpArgs false
set_option maxRecDepth 100000
section
variable {w wr w' : World} {B g gc t : Nat} {M M' : List Nat} {c : Cfg} {ep ep' : Int} {ev kv tv kv' tv' ev' : Value} {o oR o' : Option S13} {ps ps' K K' : List Pk} {T T' L : List ByteArray} {S : S13}
theorem AcG.kept {p : Pk} (h : AcG w B g gc M c ep ev kv tv o ps T (some S) K L wr) (hk : KpAt w' w.heap.size (fun j => AcD M ev kv tv j ∧ j < wr.heap.size) kv' (K ++ [p])) (hg : wr.grownBy w' kv.ownBlock) (hb : kv'.ownBlock = kv.ownBlock ∨ kv'.ownBlock = some wr.heap.size) :
    AcG w B g gc M c ep ev kv' tv o ps T (some S) (K ++ [p]) L w' := by
  obtain ⟨h1, gr, h2, h3, h4⟩ := h.k S rfl
  have kk : Keeps (fun j => kv.ownBlock = some j) wr w' := Keeps.of_grown hg fun k hk => hk
  have hx : ∀ j, AcX ev kv' tv j → AcX ev kv tv j ∨ wr.heap.size ≤ j := by
    rintro j (e | e | e)
    · exact .inl (.inl e)
    · rcases hb with hb | hb
      · rw [hb] at e
        exact .inl (.inr (.inl e))
      · rw [hb] at e
        injection e with e
        exact .inr (by omega)
    · exact .inl (.inr (.inr e))
  refine ⟨h.b.trans (kk.below h.b.size fun j hj => (h1.lt hj).2.1), ⟨h.hB.1, Nat.le_trans h.hB.2 kk.size⟩, h.cc.keeps kk fun e => ?_, ?_, fun S0 hS => ?_, own_keeps h.tt kk fun j hj e => ?_, ?_, fun j hj => ?_⟩
  · obtain ⟨_, _, cs, hc⟩ := h1.lt e
    exact h.cc.ne hc (by decide) rfl
  · refine ((h.m.weaken (Y := fun j => AcX ev kv tv j ∨ wr.heap.size ≤ j) fun j hj hy => hy.elim id fun e => (by omega)).keeps kk fun j hj => ?_).weaken fun j _ hy => hx j hy
    obtain ⟨_, _, cs, hc⟩ := h1.lt hj
    exact ⟨.inl (.inr (.inl hj)), _, _, hc, by decide, by decide, by decide, by decide, by decide, by decide, by decide, by decide, by decide⟩
  · injection hS with hS
    subst hS
    refine ⟨hk.weaken fun j hj _ => ⟨hj.1.1, fun hy => ?_⟩, gr, h2, h3, h4.keeps kk fun j hj => ?_⟩
    · rcases hx j hy with e | e
      · exact hj.1.2 e
      · have := hj.2
        omega
    · obtain ⟨_, _, cs, hc⟩ := h1.lt hj
      exact ⟨_, Cel.typ hc, by decide, by decide, by decide⟩
  · obtain ⟨_, _, cs, hc⟩ := h1.lt e
    obtain ⟨_, _, cs', hc'⟩ := own_celT h.tt hj
    exact hc'.ne hc (by decide) rfl
  · obtain ⟨a, n, cc, e, _⟩ := hk.form
    exact ⟨a, n, cc, e⟩
  · rcases hj with e | e | e
    · exact Nat.lt_of_lt_of_le (h.xl j (.inl e)) kk.size
    · exact (hk.lt e).1
    · exact Nat.lt_of_lt_of_le (h.xl j (.inr (.inr e))) kk.size
theorem AcG.titl {x : ByteArray} (h : AcG w B g gc M c ep ev kv tv o ps T oR K L wr) (ho : w'.ownsRow w.heap.size 9 1 tv' (L ++ [x]).length ((L ++ [x]).map Value.string)) (hg : wr.grownBy w' tv.ownBlock) (hb : tv'.ownBlock = tv.ownBlock ∨ tv'.ownBlock = some wr.heap.size) :
    AcG w B g gc M c ep ev kv tv' o ps T oR K (L ++ [x]) w' := by
  have kk : Keeps (fun j => tv.ownBlock = some j) wr w' := Keeps.of_grown hg fun k hk => hk
  have hx : ∀ j, AcX ev kv tv' j → AcX ev kv tv j ∨ wr.heap.size ≤ j := by
    rintro j (e | e | e)
    · exact .inl (.inl e)
    · exact .inl (.inr (.inl e))
    · rcases hb with hb | hb
      · rw [hb] at e
        exact .inl (.inr (.inr e))
      · rw [hb] at e
        injection e with e
        exact .inr (by omega)
  refine ⟨h.b.trans (kk.below h.b.size fun j hj => (own_celT h.tt hj).2.1), ⟨h.hB.1, Nat.le_trans h.hB.2 kk.size⟩, h.cc.keeps kk fun e => ?_, ?_, fun S0 hS => ?_, ho, h.kf, fun j hj => ?_⟩
  · obtain ⟨_, _, cs, hc⟩ := own_celT h.tt e
    exact h.cc.ne hc (by decide) rfl
  · refine ((h.m.weaken (Y := fun j => AcX ev kv tv j ∨ wr.heap.size ≤ j) fun j hj hy => hy.elim id fun e => (by omega)).keeps kk fun j hj => ?_).weaken fun j _ hy => hx j hy
    obtain ⟨_, _, cs, hc⟩ := own_celT h.tt hj
    exact ⟨.inl (.inr (.inr hj)), _, _, hc, by decide, by decide, by decide, by decide, by decide, by decide, by decide, by decide, by decide⟩
  · obtain ⟨h1, gr, h2, h3, h4⟩ := h.k S0 hS
    refine ⟨((h1.weaken (E := fun j => AcD M ev kv tv j ∧ j < wr.heap.size) fun j hj hl => ⟨hj, hl⟩).keeps kk (fun j hj hd => hd.1.2 (.inr (.inr hj))) fun j hj e => ?_).weaken fun j hj _ => ⟨hj.1.1, fun hy => ?_⟩, gr, h2, h3, h4.keeps kk fun j hj => ?_⟩
    · obtain ⟨_, _, cs, hc⟩ := own_celT h.tt hj
      obtain ⟨_, _, cs', hc'⟩ := h1.lt e
      exact hc'.ne hc (by decide) rfl
    · rcases hx j hy with e | e
      · exact hj.1.2 e
      · have := hj.2
        omega
    · obtain ⟨_, _, cs, hc⟩ := own_celT h.tt hj
      exact ⟨_, Cel.typ hc, by decide, by decide, by decide⟩
  · rcases hj with e | e | e
    · exact Nat.lt_of_lt_of_le (h.xl j (.inl e)) kk.size
    · exact Nat.lt_of_lt_of_le (h.xl j (.inr (.inl e))) kk.size
    · exact (own_celT ho e).1
theorem AcG.mt (h : AcG w B g gc M c ep ev kv tv o ps T oR K L wr) (hm : MtM w' B g M' (AcX ev kv tv) c ep' o' ps' T') (hk : Keeps (MtF wr B) wr w') : AcG w B g gc M' c ep' ev kv tv o' ps' T' none K' L w' := by
  refine ⟨h.b.trans (hk.below h.b.size fun j hj => Nat.le_trans h.hB.1 hj.1), ⟨h.hB.1, Nat.le_trans h.hB.2 hk.size⟩, h.cc.keeps hk fun hf => mtF_ne h.cc hf (by decide) (by decide) (by decide) (by decide) (by decide), hm, fun S hS => (by cases hS), own_keeps h.tt hk fun j hj hf => ?_, h.kf, fun j hj => Nat.lt_of_lt_of_le (h.xl j hj) hk.size⟩
  obtain ⟨_, _, cs, hc⟩ := own_celT h.tt hj
  exact mtF_ne hc hf (by decide) (by decide) (by decide) (by decide) (by decide)
end
structure AcSt (w : World) (B g gc : Nat) (c : Cfg) (t : Nat) (ep : Int) (ev kv tv : Value) (o : Option S13) (ps : List Pk) (T : List ByteArray) (wr : World) : Prop where
  g : ∃ M, AcG w B g gc M c ep ev kv tv o ps (last5 T) o ps T wr
  p : PsOk c.p.toNat ps
  n : ps.length ≤ t ∧ T.length ≤ t
  e : 0 ≤ ep ∧ ep ≤ 4294967295
  s : ∀ S, o = some S → S.Ok ∧ (S.fs = true → ps = [])
section
variable {w wr w' : World} {B g gc t : Nat} {c : Cfg} {ep ep' : Int} {ev kv tv : Value} {o : Option S13} {ps : List Pk} {T : List ByteArray} {S : S13} {M : List Nat}
theorem AcSt.below (h : AcSt w B g gc c t ep ev kv tv o ps T wr) (hb : Below wr.heap.size wr w') : AcSt w B g gc c t ep ev kv tv o ps T w' := by
  obtain ⟨M, hg⟩ := h.g
  exact ⟨⟨M, hg.below hb⟩, h.p, h.n, h.e, h.s⟩
theorem AcSt.more (h : AcSt w B g gc c t ep ev kv tv o ps T wr) : AcSt w B g gc c (t + 1) ep ev kv tv o ps T wr := ⟨h.g, h.p, ⟨by have := h.n.1; omega, by have := h.n.2; omega⟩, h.e, h.s⟩
theorem AcSt.mt (h : AcSt w B g gc c t ep ev kv tv o ps T wr) : MtAt wr B g (AcX ev kv tv) c ep o ps (last5 T) := by
  obtain ⟨M, hg⟩ := h.g
  exact hg.m.at_
theorem AcSt.bel (h : AcSt w B g gc c t ep ev kv tv o ps T wr) : Below w.heap.size w wr := by
  obtain ⟨M, hg⟩ := h.g
  exact hg.b
theorem AcSt.cfg (h : AcSt w B g gc c t ep ev kv tv o ps T wr) : Cel wr gc 27 c.vals := by
  obtain ⟨M, hg⟩ := h.g
  exact hg.cc
theorem AcSt.kform (h : AcSt w B g gc c t ep ev kv tv o ps T wr) : ∃ a n cc, kv = .slice a n cc := by
  obtain ⟨M, hg⟩ := h.g
  exact hg.kf
theorem AcSt.evp (h : AcSt w B g gc c t ep ev kv tv (some S) ps T wr) : ∃ gr, ev = .pointer (some ⟨gr, 0, none⟩) := by
  obtain ⟨M, hg⟩ := h.g
  obtain ⟨_, gr, e, _⟩ := hg.k S rfl
  exact ⟨gr, e⟩
theorem AcSt.tx (h : AcSt w B g gc c t ep ev kv tv o ps T wr) : ∃ a n cc, tv = .slice a n cc ∧ TxAt wr a n cc T := by
  obtain ⟨M, hg⟩ := h.g
  have ht := hg.tt
  obtain ⟨a, cc, e, _⟩ := own_formT ht
  rw [e] at ht
  exact ⟨a, T.length, cc, e, TxAt.own ht⟩
theorem AcSt.tx2 (h : AcSt w B g gc c t ep ev kv tv o ps T wr) : (tv = .slice none 0 0 ∧ T = []) ∨ ∃ b n cc, tv = .slice (some ⟨b, 0, none⟩) n cc ∧ n ≤ cc ∧ T.length = n ∧ TxAt wr (some ⟨b, 0, none⟩) n cc T := by
  obtain ⟨M, hg⟩ := h.g
  have ht := hg.tt
  rcases ht.2 with ⟨e, hn⟩ | ⟨b, cap, cur, e, _, _, h5, _⟩
  · exact .inl ⟨e, List.eq_nil_of_length_eq_zero hn⟩
  · rw [e] at ht
    exact .inr ⟨b, T.length, cap, e, h5, rfl, TxAt.own ht⟩
theorem AcSt.kept (h : AcSt w B g gc c t ep ev kv tv (some S) ps T wr) : PksAt wr w.heap.size wr.heap.size 45 kv ps := by
  obtain ⟨M, hg⟩ := h.g
  exact (hg.k S rfl).1.pks
theorem AcSt.stop (h : AcSt w B g gc c t ep ev kv tv (some S) ps T wr) : Calls Tryz.prog 11 #[.pointer (some ⟨g, 0, none⟩)] wr fun e w' => e = .returned (.int .i64 0) ∧ AcSt w B g gc c t ep ev kv tv none [] T w' := by
  obtain ⟨M, hg⟩ := h.g
  refine (mtStop_any hg.m.at_ hg.hB.2).mono ?_
  rintro e w' ⟨rfl, hm, hk⟩
  obtain ⟨M', hm'⟩ := hm.m
  exact ⟨rfl, ⟨M', hg.mt hm' hk⟩, PsOk.nil _, ⟨Nat.zero_le _, h.n.2⟩, h.e, fun S hS => by cases hS⟩
theorem AcSt.refNew (h : AcSt w B g gc c t ep ev kv tv none ps T wr) (hc : c.Ok) : Calls Tryz.prog 9 #[.int .i64 c.q, .int .i64 c.b] wr fun e w' => ∃ gr, e = .returned (.pointer (some ⟨gr, 0, none⟩)) ∧ AcSt w B g gc c t ep (.pointer (some ⟨gr, 0, none⟩)) (.slice none 0 0) tv none ps T w' ∧ RefAt w' gr c.q c.b.toNat s13Zero ∧ w.heap.size ≤ gr := by
  obtain ⟨M, hg⟩ := h.g
  have hb : c.b = (c.b.toNat : Int) := by have := hc.b; omega
  have hcall := rNew_any c.q c.b.toNat wr
  rw [← hb] at hcall
  refine hcall.mono ?_
  rintro e w' ⟨gr, rfl, hr, hs, hb'⟩
  have hg' := hg.below hb'
  refine ⟨gr, rfl, ⟨⟨M, hg'.b, hg'.hB, hg'.cc, ?_, fun S hS => (by cases hS), hg'.tt, ⟨_, _, _, rfl⟩, fun j hj => ?_⟩, h.p, h.n, h.e, h.s⟩, hr, Nat.le_trans hg.b.size hs⟩
  rotate_left 1
  · rcases hj with e | e | e
    · injection e with e
      injection e with e
      injection e with e
      obtain ⟨rc, hrc⟩ := hr.typ
      have := hrc.lt
      omega
    · simp [Value.ownBlock] at e
    · exact Nat.lt_of_lt_of_le (hg.xl j (.inr (.inr e))) hb'.size
  refine ((hg.m.weaken (Y := fun j => AcX ev kv tv j ∨ wr.heap.size ≤ j) fun j hj hy => hy.elim id fun e => (by omega)).below hb').weaken fun j _ hy => ?_
  rcases hy with e | e | e
  · injection e with e
    injection e with e
    injection e with e
    exact .inr (by omega)
  · simp [Value.ownBlock] at e
  · exact .inl (.inr (.inr e))
theorem AcSt.start {gr : Nat} (h : AcSt w B g gc c t ep (.pointer (some ⟨gr, 0, none⟩)) (.slice none 0 0) tv none ps T wr) (hr : RefAt wr gr c.q c.b.toNat s13Zero) (hgr : w.heap.size ≤ gr) (he : 0 ≤ ep' ∧ ep' ≤ 4294967295) :
    Calls Tryz.prog 10 #[.pointer (some ⟨g, 0, none⟩), .int .u32 ep'] wr fun e w' => e = .returned (.int .i64 0) ∧ AcSt w B g gc c t ep' (.pointer (some ⟨gr, 0, none⟩)) (.slice none 0 0) tv (some s13Zero) [] T w' := by
  obtain ⟨M, hg⟩ := h.g
  refine (mtStart_any ep' hg.m.at_ hg.hB.2).mono ?_
  rintro e w' ⟨rfl, hm, hk⟩
  obtain ⟨M', hm'⟩ := hm.m
  have hg' := hg.mt (K' := []) hm' hk
  refine ⟨rfl, ⟨M', hg'.b, hg'.hB, hg'.cc, hg'.m, fun S hS => ⟨KpAt.nil _ _ _, gr, rfl, hgr, ?_⟩, hg'.tt, hg'.kf, hg'.xl⟩, PsOk.nil _, ⟨Nat.zero_le _, h.n.2⟩, he, fun S hS => ?_⟩
  · injection hS with hS
    subst hS
    exact refAt_mt hr hk
  · injection hS with hS
    subst hS
    exact ⟨s13Zero_ok, fun _ => rfl⟩
theorem AcSt.frame (x : Nat) (f : Nat → Int) (h : AcSt w B g gc c t ep ev kv tv (some S) ps T wr) (ht : t ≤ 100) (hf : IFun wr x 77 .i16 512 f) (hb : ∀ i, i < 512 → -32768 ≤ f i ∧ f i ≤ 32767) :
    Calls Tryz.prog 12 #[.pointer (some ⟨g, 0, none⟩), .slice (some ⟨x, 0, none⟩) 512 512] wr fun e w' => ∃ M rr cp, e = .returned (.tuple #[.agg (pkC (nextP c ep S ps.length f) (some ⟨rr, 0, none⟩) (nextP c ep S ps.length f).pl.length cp), .int .i64 0]) ∧
      IntsAt w' w'.heap.size .u8 (some ⟨rr, 0, none⟩) (nextP c ep S ps.length f).pl.length (nextP c ep S ps.length f).pl ∧ AcG w B g gc M c ep ev kv tv (some (S.next c.q c.b.toNat f ps.length (asksW c ps.length))) (ps ++ [nextP c ep S ps.length f]) (last5 T) (some S) ps T w' := by
  obtain ⟨M, hg⟩ := h.g
  refine (mtFrame_any x f hg.m hg.xl hg.hB.2 (by have := h.n.1; omega) hf hb).mono ?_
  rintro e w' ⟨rr, cp, rfl, hi, hm, hk⟩
  exact ⟨M, rr, cp, rfl, hi, hg.prog hm hk⟩
theorem AcG.encode {S1 : S13} {L : List ByteArray} {T5 : List ByteArray} {ps1 : List Pk} {rr gr : Nat} (x : Nat) (f : Nat → Int) (h : AcG w B g gc M c ep ev kv tv (some S1) ps1 T5 (some S) ps L wr) (hev : ev = .pointer (some ⟨gr, 0, none⟩)) (hS : S.Ok) (hn : ps.length ≤ 100) (hf : IFun wr x 77 .i16 512 f) (hb : ∀ i, i < 512 → -32768 ≤ f i ∧ f i ≤ 32767)
    (hi : IntsAt wr wr.heap.size .u8 (some ⟨rr, 0, none⟩) (nextP c ep S ps.length f).pl.length (nextP c ep S ps.length f).pl) :
    Calls Tryz.prog 14 #[.pointer (some ⟨gr, 0, none⟩), .int .u32 (ps.length : Int), .slice (some ⟨x, 0, none⟩) 512 512, .bool (asksW c ps.length)] wr fun e w' => ∃ a cp, e = .returned (.tuple #[.slice a (nextP c ep S ps.length f).pl.length cp, .bool (nextP c ep S ps.length f).wh]) ∧
      PlAt w' (AcD M ev kv tv) a (nextP c ep S ps.length f).pl.length cp (nextP c ep S ps.length f).pl ∧ IntsAt w' w'.heap.size .u8 (some ⟨rr, 0, none⟩) (nextP c ep S ps.length f).pl.length (nextP c ep S ps.length f).pl ∧
      AcG w B g gc M c ep ev kv tv (some S1) ps1 T5 (some (S.next c.q c.b.toNat f ps.length (asksW c ps.length))) ps L w' ∧ Keeps (· = gr) wr w' := by
  obtain ⟨h1, gr', h2, h3, h4⟩ := h.k S rfl
  obtain rfl : gr = gr' := by rw [hev] at h2; injection h2 with h2; injection h2 with h2; injection h2
  have hok := h.m.at_.ok
  refine (rEncode_any gr x c.q c.b.toNat S f (ps.length : Int) (asksW c ps.length) wr h4 hS hok.q (by have := hok.b; exact ⟨by omega, by omega⟩) hf hb (by omega) (by omega)).mono ?_
  rintro e w' ⟨a, cp, rfl, i', r', k', n', fr'⟩
  refine ⟨a, cp, rfl, ⟨i', n', fun r off e h0 => h.fresh r (fr' r off e)⟩, ints_stays hi k' ?_, h.ref hev r' k', k'⟩
  rintro j rfl
  obtain ⟨C, va, vl, vh, oo, he⟩ := h4
  exact ⟨_, _, _, he.e, rfl, by intro x e; cases e⟩
def addT (T : List ByteArray) (x : ByteArray) : List ByteArray := if x = nowT T then T else T ++ [x]
theorem AcSt.title (s x : ByteArray) (h : AcSt w B g gc c t ep ev kv tv o ps T wr) (hT : ∀ W : World, Calls Tryz.prog 45 #[.string s] W fun e w' => e = .returned (.string x) ∧ Below W.heap.size W w') :
    Calls Tryz.prog 15 #[.pointer (some ⟨g, 0, none⟩), .string s] wr fun e w' => e = .returned (.int .i64 0) ∧ Keeps (MtF wr B) wr w' ∧ ∃ M, AcG w B g gc M c ep ev kv tv o ps (last5 (addT T x)) o ps T w' := by
  obtain ⟨M, hg⟩ := h.g
  unfold addT
  by_cases hx : x = nowT T
  · rw [if_pos hx]
    refine (mtTitle_same s x hg.m.at_ hT (by rw [last5_now]; exact hx)).mono ?_
    rintro e w' ⟨rfl, hb⟩
    exact ⟨rfl, Keeps.of_below hb, M, hg.below hb⟩
  · rw [if_neg hx]
    refine (mtTitle_new s x hg.m hg.hB.2 hg.xl hT (by rw [last5_now]; exact hx)).mono ?_
    rintro e w' ⟨rfl, hm, hk⟩
    rw [show moreT (last5 T) x = last5 (T ++ [x]) from (last5_more T x).symm] at hm
    exact ⟨rfl, hk.mono fun j hj => hj.1, M, hg.prog hm hk⟩
theorem AcG.tx {B g gc : Nat} {ps1 K : List Pk} {T1 L : List ByteArray} {o1 oR : Option S13} {a : Option Addr} {n cc : Nat} (h : AcG w B g gc M c ep ev kv (.slice a n cc) o1 ps1 T1 oR K L wr) (hl : L.length = n) : TxAt wr a n cc L := by
  have ht := h.tt
  rw [hl] at ht
  exact TxAt.own ht
theorem AcG.stay {B g gc : Nat} {ps1 K : List Pk} {T1 L : List ByteArray} {o1 : Option S13} {rr l : Nat} {zs : List Int} (h : AcG w B g gc M c ep ev kv tv o1 ps1 T1 (some S) K L wr) (hi : IntsAt wr wr.heap.size .u8 (some ⟨rr, 0, none⟩) l zs) (hg : wr.grownBy w' kv.ownBlock) : IntsAt w' w'.heap.size .u8 (some ⟨rr, 0, none⟩) l zs := by
  obtain ⟨h1, _⟩ := h.k S rfl
  refine ints_stays hi (Keeps.of_grown (F := fun j => kv.ownBlock = some j) hg fun k hk => hk) fun j hj => ?_
  obtain ⟨cs, v0, k1, k2, k3⟩ := h1.first hj
  exact ⟨_, cs, v0, k1, k2, k3⟩
theorem AcSt.told {tv' : Value} {T' : List ByteArray} (h : AcSt w B g gc c t ep ev kv tv o ps T wr) (hg : AcG w B g gc M c ep ev kv tv' o ps (last5 T') o ps T' w') (hl : T'.length ≤ t + 1) : AcSt w B g gc c (t + 1) ep ev kv tv' o ps T' w' := ⟨⟨M, hg⟩, h.p, ⟨by have := h.n.1; omega, hl⟩, h.e, h.s⟩
theorem AcSt.sent {kv' : Value} {f : Nat → Int} (h : AcSt w B g gc c t ep ev kv tv (some S) ps T wr) (hf : ∀ i, i < 512 → -32768 ≤ f i ∧ f i ≤ 32767) (hc : c.Ok) (hg : AcG w B g gc M c ep ev kv' tv (some (S.next c.q c.b.toNat f ps.length (asksW c ps.length))) (ps ++ [nextP c ep S ps.length f]) (last5 T) (some (S.next c.q c.b.toNat f ps.length (asksW c ps.length))) (ps ++ [nextP c ep S ps.length f]) T w') :
    AcSt w B g gc c (t + 1) ep ev kv' tv (some (S.next c.q c.b.toNat f ps.length (asksW c ps.length))) (ps ++ [nextP c ep S ps.length f]) T w' := by
  obtain ⟨h1, h2⟩ := h.s S rfl
  refine ⟨⟨M, hg⟩, h.p.more hc rfl h2, ⟨by rw [List.length_append, List.length_singleton]; have := h.n.1; omega, by have := h.n.2; omega⟩, h.e, fun S0 hS => ?_⟩
  injection hS with hS
  subst hS
  exact ⟨S13.Ok.next c.q c.b.toNat hf _ _, fun e => (by cases e)⟩
end
section
variable {w wr w' : World} {B g gc t : Nat} {c : Cfg} {ep : Int} {ev kv tv : Value} {o : Option S13} {ps : List Pk} {T : List ByteArray}
theorem AcSt.asksNow (h : AcSt w B g gc c t ep ev kv tv o ps T wr) : Calls Tryz.prog 19 #[.pointer (some ⟨g, 0, none⟩)] wr fun e w' => e = .returned (.string (nowT T)) ∧ Below wr.heap.size wr w' := by
  have := mtNow_any h.mt
  rw [last5_now] at this
  exact this
theorem AcSt.asksHistory {a2 : Option Addr} {n2 c2 : Nat} (h : AcSt w B g gc c t ep ev kv tv o ps T wr) (h2 : TxAt wr a2 n2 c2 (last5 T)) : Calls Tryz.prog 21 #[.pointer (some ⟨g, 0, none⟩)] wr fun e w' => ∃ a n c, e = .returned (.slice a n c) ∧ Below wr.heap.size wr w' ∧
    ∀ W, Below w'.heap.size w' W → Calls Tryz.prog 20 #[.slice a n c, .slice a2 n2 c2] W fun e w' => e = .returned (.bool true) ∧ Below W.heap.size W w' := by
  refine (mtHistory_any h.mt).mono ?_
  rintro e w' ⟨a, n, cc, rfl, ht, _, hb⟩
  refine ⟨a, n, cc, rfl, hb, fun W hW => ?_⟩
  obtain rfl : n = n2 := ht.len.symm.trans h2.len
  exact equalT_same a a2 n cc c2 (last5 T) W (ht.below hW) (h2.below (chain hb hW)) (by rw [← h2.len, last5_len]; omega)
theorem AcSt.asksBurst {a2 : Option Addr} {n2 c2 : Nat} (h : AcSt w B g gc c t ep ev (.slice a2 n2 c2) tv o ps T wr) (ht : t ≤ 100) : Calls Tryz.prog 23 #[.pointer (some ⟨g, 0, none⟩)] wr fun e w' => ∃ a n cc, e = .returned (.slice a n cc) ∧ Below wr.heap.size wr w' ∧
    ∀ W, Below w'.heap.size w' W → Calls Tryz.prog 22 #[.slice a n cc, .slice a2 n2 c2, .bool o.isSome, .int .i64 c.p] W fun e w' => e = .returned (.bool true) ∧ Below W.heap.size W w' := by
  cases o with
  | none =>
    refine (mtBurst_dead h.mt).mono ?_
    rintro e w' ⟨rfl, rfl⟩
    exact ⟨none, 0, 0, rfl, Below.refl _ _, fun W hW => burst23_none a2 n2 c2 false c.p none 0 W (.inl rfl)⟩
  | some S =>
    have hok := h.mt.ok
    have hn := h.n.1
    refine (mtBurst_any h.mt (by omega) h.p.len).mono ?_
    rintro e w' ⟨v, rfl, hv, hb⟩
    obtain ⟨a, n, cc, rfl, hn2⟩ := hv.form
    refine ⟨a, n, cc, rfl, hb, fun W hW => ?_⟩
    have hk := h.kept
    have hlen := hk.len
    rcases Nat.eq_zero_or_pos ps.length with h0 | h0
    · have e0 : ps = [] := List.eq_nil_of_length_eq_zero h0
      subst e0
      rw [burstF_nil] at hn2
      have : n = 0 := hn2
      subst this
      have : n2 = 0 := hlen
      subst this
      exact burst23_none a2 0 c2 true c.p a cc W (.inr rfl)
    · have hp1 := hok.p
      rw [burstF_per (P := c.p.toNat) (by omega) (by omega) h.p.per h0] at hv
      have hb2 := burst23_some a a2 n cc n2 c2 c.p.toNat _ _ _ _ ps W (by omega) (by have := hok.r; omega) h0 (by omega) (hv.below hW) (hk.below (chain hb hW))
      rw [show ((c.p.toNat : Nat) : Int) = c.p by omega] at hb2
      exact hb2
end
theorem slice_texts (a : Option Addr) (n cap k : Nat) (hk : k ≤ n) (w : World) : (Instr.sliceAt 37 (.slice a n cap) (some (.int .i64 (k : Int))) none none).run Tryz.prog w = .ok (.slice (if cap = k then a else a.map (·.add k)) (n - k) (cap - k)) w := by
  have ht : Tryz.prog.underlying 37 = some (.slice (Tryz.prog.elem 37)) := by kernel_rfl
  have es : (sizeOf (Tryz.prog.elem 37)).run Tryz.prog w = .ok 1 w := by kernel_rfl
  have e1 := Go.run_sliceAt_slice (P := Tryz.prog) (w := w) 37 (.slice a n cap) (some (.int .i64 (k : Int))) none none ht
  have e2 := Go.run_slice_l (P := Tryz.prog) (w := w) 37 a n cap ht .i64 (k : Int) (by omega) (by omega)
  rw [e1, e2, es]
  simp [Result.andThen, sliced]
section
variable {w wr : World} {B g gc t : Nat} {c : Cfg} {ep : Int} {ev kv : Value} {o : Option S13} {ps : List Pk} {T : List ByteArray}
theorem AcSt.five {ta : Option Addr} {n cc : Nat} (h : AcSt w B g gc c t ep ev kv (.slice ta n cc) o ps T wr) : TxAt wr (if cc = n - 5 then ta else ta.map (·.add (n - 5))) (n - (n - 5)) (cc - (n - 5)) (last5 T) := by
  rcases h.tx2 with ⟨e, rfl⟩ | ⟨b, n', cc', e, hcap, hln, htx⟩
  · injection e with e1 e2 e3
    subst e1
    subst e2
    subst e3
    exact TxAt.nil wr
  · injection e with e1 e2 e3
    subst e1
    subst e2
    subst e3
    unfold last5
    rw [hln]
    by_cases h0 : n = 0
    · subst h0
      rw [show 0 - 5 = 0 by omega, List.drop_zero]
      by_cases hc : cc = 0
      · rw [if_pos hc]
        exact htx
      · rw [if_neg hc]
        exact htx
    · have hne : ¬ cc = n - 5 := by omega
      rw [if_neg hne]
      have h2 := htx.drop (k := n - 5) (by omega)
      have e2 : (some (⟨b, 0, none⟩ : Addr)).map (·.add (n - 5)) = some ⟨b, 0 + (n - 5), none⟩ := by
        simp [Addr.add]
        intro h5
        omega
      rw [e2]
      exact h2
end
end Go.Proofs.YtmgfkdmjgjlkjaaGreat
