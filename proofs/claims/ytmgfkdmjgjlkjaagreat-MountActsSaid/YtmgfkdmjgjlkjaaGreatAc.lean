/- Plain facts, and what functions give, for the proofs of this seat: several texts in one, each with its own first remark. -/
import Derived.Test.YtmgfkdmjgjlkjaaGreatAb
import Derived.Lib.AppendZerosOnto

namespace Go.Proofs.YtmgfkdmjgjlkjaaGreat
open Go.RowKit
set_option linter.unusedVariables false
set_option linter.unusedSimpArgs false
abbrev PkX := Pk × Option Addr × Nat
structure PyAt (w : World) (B : Nat) (x : PkX) : Prop where
  i : IntsAt w w.heap.size .u8 x.2.1 x.1.pl.length x.1.pl
  n : x.2.1 = none → x.2.2 = 0
  t : ∀ r off, x.2.1 = some ⟨r, off, none⟩ → 0 < x.1.pl.length → Typ19 w r 5 ∨ r < B
section
variable {w w' : World} {B : Nat} {x : PkX}
theorem PyAt.keeps {F : Nat → Prop} (h : PyAt w B x) (hk : Keeps F w w') (hF : ∀ j, F j → B ≤ j ∧ ∃ t, Typ19 w j t ∧ t ≠ 5) : PyAt w' B x := by
  have hn : ∀ r off, x.2.1 = some ⟨r, off, none⟩ → 0 < x.1.pl.length → ¬ F r := fun r off e h0 hf => by
    obtain ⟨hB, t, ht, ne⟩ := hF r hf
    rcases h.t r off e h0 with h1 | h1
    · exact ht.ne h1 ne rfl
    · omega
  refine ⟨(h.i.keeps19 hk (Nat.le_refl _) fun r off e h0 _ => hn r off e h0).grow hk.size, h.n, fun r off e h0 => ?_⟩
  rcases h.t r off e h0 with h1 | h1
  · exact .inl (h1.keep (hk.block r h1.lt (hn r off e h0)))
  · exact .inr h1
theorem PyAt.below (h : PyAt w B x) (hb : Below w.heap.size w w') : PyAt w' B x := h.keeps (F := fun _ => False) (.of_below hb) fun _ c => c.elim
theorem PyAt.own {p : Pk} {base : Nat} {a : Option Addr} {c : Nat} (h : w.ownsRow base 5 1 (.slice a p.pl.length c) p.pl.length (p.pl.map (Value.int .u8))) (B : Nat) : PyAt w B (p, a, c) := by
  refine ⟨own_ints' h, fun e => ?_, fun r off e h0 => ?_⟩
  · rcases h.2 with ⟨e2, hn⟩ | ⟨g, cap, cur, e2, _⟩
    · injection e2
    · injection e2 with e2
      have e : a = none := e
      rw [e] at e2
      cases e2
  · have e : a = some ⟨r, off, none⟩ := e
    subst e
    exact .inl (own_typ19 h rfl).1
end
def pkCells (x : PkX) : List Value := [.int .u32 x.1.ep, .int .u32 x.1.nu, .bool x.1.wh, .slice x.2.1 x.1.pl.length x.2.2]
def pkFlat (xs : List PkX) : List Value := (xs.map pkCells).flatten
theorem pkFlat_len (xs : List PkX) : (pkFlat xs).length = xs.length * 4 := by
  induction xs with
  | nil => rfl
  | cons x xs ih => simp [pkFlat, pkCells] at ih ⊢; omega
theorem pkFlat_app (xs ys : List PkX) : pkFlat (xs ++ ys) = pkFlat xs ++ pkFlat ys := by simp [pkFlat]
theorem pkFlat_at {xs : List PkX} {i : Nat} (h : i < xs.length) : (pkFlat xs)[i * 4]? = some (.int .u32 xs[i].1.ep) ∧ (pkFlat xs)[i * 4 + 1]? = some (.int .u32 xs[i].1.nu) ∧ (pkFlat xs)[i * 4 + 2]? = some (.bool xs[i].1.wh) ∧ (pkFlat xs)[i * 4 + 3]? = some (.slice xs[i].2.1 xs[i].1.pl.length xs[i].2.2) := by
  induction xs generalizing i with
  | nil => simp at h
  | cons x xs ih =>
    cases i with
    | zero => exact ⟨rfl, rfl, rfl, rfl⟩
    | succ i =>
      have e : ∀ k, (pkFlat (x :: xs))[(i + 1) * 4 + k]? = (pkFlat xs)[i * 4 + k]? := by
        intro k
        show (pkCells x ++ pkFlat xs)[(i + 1) * 4 + k]? = _
        rw [List.getElem?_append_right (by simp [pkCells]; omega)]
        congr 1
        simp [pkCells]; omega
      have := ih (i := i) (by simp at h; omega)
      have e0 := e 0
      simp only [Nat.add_zero] at e0
      rw [e0, e 1, e 2, e 3]
      exact this
def PksAt (w : World) (base B : Nat) (ty : TypeId) (v : Value) (ps : List Pk) : Prop :=
  ∃ xs : List PkX, xs.map (·.1) = ps ∧ w.ownsRow base ty 4 v xs.length (pkFlat xs) ∧ ∀ x ∈ xs, PyAt w B x
section
variable {w w' : World} {base B : Nat} {ty : TypeId} {v : Value} {ps : List Pk}
theorem PksAt.nil (w : World) (base B : Nat) (ty : TypeId) : PksAt w base B ty (.slice none 0 0) [] := ⟨[], rfl, World.ownsRow_nil w base ty 4, fun x hx => by simp at hx⟩
theorem PksAt.keeps {F : Nat → Prop} (h : PksAt w base B ty v ps) (hk : Keeps F w w') (hF : ∀ j, F j → B ≤ j ∧ ∃ t, Typ19 w j t ∧ t ≠ 5 ∧ t ≠ ty) : PksAt w' base B ty v ps := by
  obtain ⟨xs, h1, h2, h3⟩ := h
  refine ⟨xs, h1, own_keeps h2 hk fun k hg hf => ?_, fun x hx => (h3 x hx).keeps hk fun j hj => ?_⟩
  · obtain ⟨_, t, ht, _, n2⟩ := hF k hf
    exact ht.ne (own_typ19 h2 hg).1 n2 rfl
  · obtain ⟨hB, t, ht, n1, _⟩ := hF j hj
    exact ⟨hB, t, ht, n1⟩
theorem PksAt.below (h : PksAt w base B ty v ps) (hb : Below w.heap.size w w') : PksAt w' base B ty v ps := h.keeps (F := fun _ => False) (.of_below hb) fun _ c => c.elim
theorem PksAt.len {a : Option Addr} {n c : Nat} (h : PksAt w base B ty (.slice a n c) ps) : n = ps.length := by
  obtain ⟨xs, h1, h2, _⟩ := h
  rw [← h1, List.length_map]
  rcases h2.2 with ⟨e, hn⟩ | ⟨g, cap, cur, e, _⟩
  · injection e with _ e2 _; omega
  · injection e
theorem PksAt.form (h : PksAt w base B ty v ps) : ∃ a n c, v = .slice a n c ∧ n = ps.length := by
  have h' := h
  obtain ⟨xs, h1, h2, _⟩ := h
  rcases h2.2 with ⟨rfl, hn⟩ | ⟨g, cap, cur, rfl, _⟩
  · exact ⟨_, _, _, rfl, h'.len⟩
  · exact ⟨_, _, _, rfl, h'.len⟩
theorem PksAt.at_ {a : Option Addr} {n c i : Nat} (h : PksAt w base B ty (.slice a n c) ps) (hi : i < ps.length) : ∃ g p a2 c2, ps[i]? = some p ∧ a = some ⟨g, 0, none⟩ ∧ PyAt w B (p, a2, c2) ∧
    w.cell? ⟨g, i * 4, none⟩ = some (.int .u32 p.ep) ∧ w.cell? ⟨g, i * 4 + 1, none⟩ = some (.int .u32 p.nu) ∧ w.cell? ⟨g, i * 4 + 2, none⟩ = some (.bool p.wh) ∧ w.cell? ⟨g, i * 4 + 3, none⟩ = some (.slice a2 p.pl.length c2) := by
  obtain ⟨xs, h1, h2, h3⟩ := h
  have hx : i < xs.length := by rw [← h1, List.length_map] at hi; exact hi
  have hp : ps[i]? = some xs[i].1 := by rw [← h1]; simp [hx]
  obtain ⟨k0, k1, k2, k3⟩ := pkFlat_at hx
  rcases h2.2 with ⟨e, hn⟩ | ⟨g, cap, cur, e, _⟩
  · omega
  · injection e with e1 e2 e3
    subst e1
    subst e2
    exact ⟨g, xs[i].1, xs[i].2.1, xs[i].2.2, hp, rfl, h3 _ (List.getElem_mem hx), by rw [h2.cellAt _ (by omega)]; exact k0, by rw [h2.cellAt _ (by omega)]; exact k1, by rw [h2.cellAt _ (by omega)]; exact k2, by rw [h2.cellAt _ (by omega)]; exact k3⟩
end
theorem append_pks {P : Program} {w : World} {ops : Array Oper} {rest : List Oper} {o : Oper} {a : Act} {Q : Exit → Act → World → Prop} (hgd : o.guard = none) (s x : Operand) (t : TypeId)
    (ho : o.op = .call { callee := .builtin .append, args := #[s, x], argTypes := #[t, t] })
    (base B : Nat) (e : TypeId) (z : Value) (by' : Nat) (ht : P.underlying t = some (.slice e)) (hi : (P.info? e).map (fun i => (i.zero, i.size, i.bytes)) = some (some z, 4, by')) (hz : z.cells.size = 4) (hby : by' ≤ 100) (hne : e ≠ 5) (hBb : B ≤ base)
    (v : Value) (ps : List Pk) (hs : a.eval s = v) (hR : PksAt w base B e v ps)
    (A : Option Addr) (m c : Nat) (ys : List PkX) (hx : a.eval x = .slice A m c) (hm : m = ys.length) (hnone : A = none → c = 0 ∧ m = 0) (hsrc : ∀ ad, A = some ad → ∀ j u, (pkFlat ys)[j]? = some u → w.cell? (ad.add j) = some u) (hy : ∀ y ∈ ys, PyAt w B y)
    (hf : ps.length + m ≤ 1000000) (hbase : base ≤ w.heap.size)
    (h : ∀ v' w', PksAt w' base B e v' (ps ++ ys.map (·.1)) → Keeps (fun j => base ≤ j ∧ Typ19 w j e) w w' → wpList P ops Q rest (a.put o.dst v') w') :
    wpList P ops Q (o :: rest) a w := by
  obtain ⟨i, h1, h2, h3, h4⟩ := info_parts hi
  obtain ⟨xs, r1, r2, r3⟩ := hR
  have hl : xs.length = ps.length := by rw [← r1, List.length_map]
  cases A with
  | none =>
    obtain ⟨rfl, rfl⟩ := hnone rfl
    have hy0 : ys = [] := List.eq_nil_of_length_eq_zero hm.symm
    subst hy0
    refine wpList_append_own_none hgd s x t ho base e i 4 ht h1 v xs.length _ hs r2 hx (h v w ?_ (Keeps.refl _ w))
    exact ⟨xs, by simpa using r1, r2, r3⟩
  | some ad =>
    refine wpList_append_own_at w hgd s x t ho base e i z 4 by' ht h1 h2 h3 h4 hz (by decide) v xs.length _ hs r2 ad m c (pkFlat ys) hx (by rw [pkFlat_len, hm]) (hsrc ad rfl) ?_ (by unfold maxLen; omega) ?_ hbase ?_
    · intro u hu
      simp only [pkFlat, List.mem_flatten, List.mem_map] at hu
      obtain ⟨l, ⟨y, _, rfl⟩, hu⟩ := hu
      simp only [pkCells, List.mem_cons, List.not_mem_nil, or_false] at hu
      rcases hu with rfl | rfl | rfl | rfl <;> rfl
    · have : (xs.length + m) * by' ≤ 1000000 * 100 := Nat.mul_le_mul (by omega) hby
      omega
    intro v' w' g1 g2 _ g4
    have kk : Keeps (fun j => base ≤ j ∧ Typ19 w j e) w w' := Keeps.of_grown g2 fun k hk => ⟨(own_typ19 r2 hk).2, (own_typ19 r2 hk).1⟩
    have kF : ∀ j, base ≤ j ∧ Typ19 w j e → B ≤ j ∧ ∃ t, Typ19 w j t ∧ t ≠ 5 := fun j hj => ⟨Nat.le_trans hBb hj.1, e, hj.2, hne⟩
    refine h v' w' ⟨xs ++ ys, by rw [List.map_append, r1], ?_, fun y hyy => ?_⟩ kk
    · rw [List.length_append, pkFlat_app, ← hm]; exact g1
    · rcases List.mem_append.1 hyy with h5 | h5
      · exact (r3 y h5).keeps kk kF
      · exact (hy y h5).keeps kk kF
end Go.Proofs.YtmgfkdmjgjlkjaaGreat

namespace Go.Proofs.YtmgfkdmjgjlkjaaGreat
open Go.RowKit
set_option linter.unusedVariables false
set_option linter.unusedSimpArgs false
def lastW (ps : List Pk) (f : Nat) : Nat → Int
  | 0 => -1
  | k + 1 => if f ≤ k ∧ (ps[k]?.map (·.wh)) = some true then (k : Int) else lastW ps f k
theorem lastW_none {ps : List Pk} {f k : Nat} (h : k ≤ f) : lastW ps f k = -1 := by
  induction k with
  | zero => rfl
  | succ k ih =>
    unfold lastW
    rw [if_neg (by omega)]
    exact ih (by omega)
theorem lastW_yes {ps : List Pk} {f k : Nat} {p : Pk} (h : f ≤ k) (hp : ps[k]? = some p) (hw : p.wh = true) : lastW ps f (k + 1) = (k : Int) := by
  unfold lastW
  rw [if_pos ⟨h, by rw [hp]; simp [hw]⟩]
theorem lastW_no {ps : List Pk} {f k : Nat} {p : Pk} (hp : ps[k]? = some p) (hw : p.wh = false) : lastW ps f (k + 1) = lastW ps f k := by
  conv => lhs; unfold lastW
  rw [if_neg (by rw [hp]; simp [hw])]
theorem lastW_ge (ps : List Pk) (f k : Nat) : -1 ≤ lastW ps f k ∧ lastW ps f k < (k : Int) := by
  induction k with
  | zero => exact ⟨by simp [lastW], by simp [lastW]⟩
  | succ k ih =>
    unfold lastW
    split
    · omega
    · omega
def firstP (n m : Nat) : Nat := m - n
structure PlAt (w : World) (D : Nat → Prop) (a : Option Addr) (m c : Nat) (zs : List Int) : Prop where
  i : IntsAt w w.heap.size .u8 a m zs
  n : a = none → c = 0
  d : ∀ r off, a = some ⟨r, off, none⟩ → 0 < m → D r
section
variable {w w' : World} {D E F : Nat → Prop} {a : Option Addr} {m c : Nat} {zs : List Int}
theorem PlAt.keeps (h : PlAt w D a m c zs) (hk : Keeps F w w') (hF : ∀ j, F j → ¬ D j) : PlAt w' D a m c zs :=
  ⟨(h.i.keeps19 hk (Nat.le_refl _) fun r off e h0 _ hf => hF r hf (h.d r off e h0)).grow hk.size, h.n, h.d⟩
theorem PlAt.below (h : PlAt w D a m c zs) (hb : Below w.heap.size w w') : PlAt w' D a m c zs := h.keeps (F := fun _ => False) (.of_below hb) fun _ c => c.elim
theorem PlAt.weaken (h : PlAt w D a m c zs) (hD : ∀ j, D j → j < w.heap.size → E j) : PlAt w E a m c zs := by
  refine ⟨h.i, h.n, fun r off e h0 => ?_⟩
  refine hD r (h.d r off e h0) ?_
  rcases h.i.2 with h1 | ⟨b, off', e', h2, _⟩
  · omega
  · rw [e] at e'
    injection e' with e'
    injection e' with e'
    omega
theorem PlAt.own {base : Nat} (h : w.ownsRow base 5 1 (.slice a m c) m (zs.map (Value.int .u8))) : PlAt w (fun j => base ≤ j) a m c zs := by
  refine ⟨own_ints_m h, fun e => ?_, fun r off e h0 => ?_⟩
  · rcases h.2 with ⟨e2, hn⟩ | ⟨g, cap, cur, e2, _⟩
    · injection e2
    · injection e2 with e2
      rw [e] at e2
      cases e2
  · subst e
    exact (own_typ19 h rfl).2
end
def pkC (p : Pk) (a : Option Addr) (m c : Nat) : Array Value := #[.int .u32 p.ep, .int .u32 p.nu, .bool p.wh, .slice a m c]
structure RgC (w : World) (D : Nat → Prop) (n : Nat) (ps : List Pk) (cs : Array Value) : Prop where
  size : cs.size = 1026
  room : cs[0]? = some (.int .i64 n)
  next : cs[1]? = some (.int .i64 ps.length)
  kept : ∀ i p, ps[i]? = some p → ps.length ≤ i + n → ∃ q a c, cs[2 + i % n]? = some (.pointer (some ⟨q, 0, none⟩)) ∧ D q ∧ Cel w q 45 (pkC p a p.pl.length c) ∧ PlAt w D a p.pl.length c p.pl
structure RgAt (w : World) (g n : Nat) (ps : List Pk) (D : Nat → Prop) : Prop where
  n1 : 1 ≤ n
  n2 : n ≤ 1024
  dg : ¬ D g
  c : ∃ cs, Cel w g 130 cs ∧ RgC w D n ps cs
section
variable {w w' : World} {D E F : Nat → Prop} {g n : Nat} {ps : List Pk} {cs : Array Value}
theorem RgC.keeps (h : RgC w D n ps cs) (hk : Keeps F w w') (hF : ∀ j, F j → ¬ D j) : RgC w' D n ps cs := by
  refine ⟨h.size, h.room, h.next, fun i p hp hi => ?_⟩
  obtain ⟨q, a, c, h1, h2, h3, h4⟩ := h.kept i p hp hi
  exact ⟨q, a, c, h1, h2, h3.keeps hk fun hf => hF q hf h2, h4.keeps hk hF⟩
theorem RgC.weaken (h : RgC w D n ps cs) (hD : ∀ j, D j → j < w.heap.size → E j) : RgC w E n ps cs := by
  refine ⟨h.size, h.room, h.next, fun i p hp hi => ?_⟩
  obtain ⟨q, a, c, h1, h2, h3, h4⟩ := h.kept i p hp hi
  exact ⟨q, a, c, h1, hD q h2 h3.lt, h3, h4.weaken hD⟩
theorem RgAt.keeps (h : RgAt w g n ps D) (hk : Keeps F w w') (hF : ∀ j, F j → ¬ D j ∧ j ≠ g) : RgAt w' g n ps D := by
  obtain ⟨cs, h1, h2⟩ := h.c
  exact ⟨h.n1, h.n2, h.dg, cs, h1.keeps hk fun hf => (hF g hf).2 rfl, h2.keeps hk fun j hj => (hF j hj).1⟩
theorem RgAt.below (h : RgAt w g n ps D) (hb : Below w.heap.size w w') : RgAt w' g n ps D := h.keeps (F := fun _ => False) (.of_below hb) fun _ c => c.elim
theorem RgAt.weaken (h : RgAt w g n ps D) (hD : ∀ j, D j → j < w.heap.size → E j) (hg : ¬ E g) : RgAt w g n ps E := by
  obtain ⟨cs, h1, h2⟩ := h.c
  exact ⟨h.n1, h.n2, hg, cs, h1, h2.weaken hD⟩
theorem RgAt.lt (h : RgAt w g n ps D) : g < w.heap.size := by
  obtain ⟨cs, h1, _⟩ := h.c
  exact h1.lt
def Dn (g B : Nat) (j : Nat) : Prop := j ≠ g ∧ j < B
theorem RgAt.all (h : RgAt w g n ps D) : RgAt w g n ps (Dn g w.heap.size) := h.weaken (fun j hj hl => ⟨fun e => h.dg (e ▸ hj), hl⟩) fun e => e.1 rfl
theorem RgAt.head (h : RgAt w g n ps D) : w.cell? ⟨g, 0, none⟩ = some (.int .i64 n) ∧ w.cell? ⟨g, 1, none⟩ = some (.int .i64 ps.length) := by
  obtain ⟨cs, h1, h2⟩ := h.c
  exact ⟨by rw [h1.cell]; exact h2.room, by rw [h1.cell]; exact h2.next⟩
theorem RgAt.at_ (h : RgAt w g n ps D) {i : Nat} {p : Pk} (hp : ps[i]? = some p) (hi : ps.length ≤ i + n) : ∃ q a c, w.cell? ⟨g, 2 + i % n, none⟩ = some (.pointer (some ⟨q, 0, none⟩)) ∧ D q ∧ Cel w q 45 (pkC p a p.pl.length c) ∧ PlAt w D a p.pl.length c p.pl := by
  obtain ⟨cs, h1, h2⟩ := h.c
  obtain ⟨q, a, c, k1, k2⟩ := h2.kept i p hp hi
  exact ⟨q, a, c, by rw [h1.cell]; exact k1, k2⟩
theorem RgC.more {p : Pk} {q c : Nat} {a : Option Addr} (h : RgC w D n ps cs) (hn : 1 ≤ n) (hn2 : n ≤ 1024) (hg : ¬ D g) (hk : Keeps (fun j => j = g) w w') (hq : w.heap.size ≤ q) (hc : Cel w' q 45 (pkC p a p.pl.length c)) (hp : PlAt w' (fun j => w.heap.size ≤ j) a p.pl.length c p.pl) :
    RgC w' (fun j => D j ∨ w.heap.size ≤ j) n (ps ++ [p]) ((cs.setIfInBounds 1 (.int .i64 ((ps.length : Int) + 1))).setIfInBounds (2 + ps.length % n) (.pointer (some ⟨q, 0, none⟩))) := by
  have hs := h.size
  have hm : ps.length % n < n := Nat.mod_lt _ hn
  refine ⟨by simp [hs], ?_, ?_, fun i p' hp' hi => ?_⟩
  · rw [Array.getElem?_setIfInBounds_ne (by omega), Array.getElem?_setIfInBounds_ne (by omega)]; exact h.room
  · rw [Array.getElem?_setIfInBounds_ne (by omega), Array.getElem?_setIfInBounds_self_of_lt (by omega)]
    simp
  · rw [List.length_append, List.length_singleton] at hi
    by_cases hlt : i < ps.length
    · rw [List.getElem?_append_left hlt] at hp'
      obtain ⟨q', a', c', k1, k2, k3, k4⟩ := h.kept i p' hp' (by omega)
      have hne : i % n ≠ ps.length % n := by
        intro e
        have e1 := Nat.div_add_mod i n
        have e2 := Nat.div_add_mod ps.length n
        rw [e] at e1
        have e3 : n * (ps.length / n) - n * (i / n) = ps.length - i := by omega
        rw [← Nat.mul_sub] at e3
        generalize ps.length / n - i / n = t at e3
        cases t with
        | zero => rw [Nat.mul_zero] at e3; omega
        | succ t => rw [Nat.mul_succ] at e3; generalize n * t = u at e3; omega
      refine ⟨q', a', c', ?_, .inl k2, k3.keeps hk fun e => ?_, (k4.keeps hk fun j e hd => ?_).weaken fun j hj _ => .inl hj⟩
      · rw [Array.getElem?_setIfInBounds_ne (by omega), Array.getElem?_setIfInBounds_ne (by omega)]; exact k1
      · subst e; exact hg k2
      · subst e; exact hg hd
    · have hie : i = ps.length := by
        have := (List.getElem?_eq_some_iff.1 hp').1
        rw [List.length_append, List.length_singleton] at this
        omega
      subst hie
      rw [List.getElem?_append_right (Nat.le_refl _), Nat.sub_self] at hp'
      injection hp' with hp'
      subst hp'
      exact ⟨q, a, c, by rw [Array.getElem?_setIfInBounds_self_of_lt (by simp [hs]; omega)], .inr hq, hc, hp.weaken fun j hj _ => .inr hj⟩
end
end Go.Proofs.YtmgfkdmjgjlkjaaGreat

namespace Go.Proofs.YtmgfkdmjgjlkjaaGreat
open Go.RowKit
set_option linter.unusedVariables false
set_option linter.unusedSimpArgs false
def last5 (T : List ByteArray) : List ByteArray := T.drop (T.length - 5)
def nowT (T : List ByteArray) : ByteArray := T.getD (T.length - 1) ⟨#[]⟩
theorem last5_len (T : List ByteArray) : (last5 T).length = min T.length 5 := by
  unfold last5
  rw [List.length_drop]
  omega
theorem last5_now (T : List ByteArray) : nowT (last5 T) = nowT T := by
  unfold nowT
  by_cases h : T.length = 0
  · have : T = [] := List.eq_nil_of_length_eq_zero h
    subst this
    rfl
  · have hl := last5_len T
    unfold last5 at hl ⊢
    rw [List.getD_eq_getElem?_getD, List.getD_eq_getElem?_getD, List.getElem?_drop, List.length_drop]
    congr 2
    omega
theorem last5_more (T : List ByteArray) (t : ByteArray) : last5 (T ++ [t]) = (last5 T).drop ((last5 T).length + 1 - 5) ++ [t] := by
  rw [last5_len]
  unfold last5
  rw [List.drop_drop, List.length_append, List.length_singleton]
  rw [List.drop_append_of_le_length (by omega)]
  congr 2
  omega
theorem per_mul (k P : Nat) : k / P * P = k - k % P := by
  have := Nat.div_add_mod k P
  rw [Nat.mul_comm]
  omega
theorem per_pred {k P : Nat} (hP : 1 ≤ P) (h : k % P ≠ 0) : (k - 1) % P = k % P - 1 := by
  have e := Nat.div_add_mod k P
  have hm := Nat.mod_lt k hP
  have e2 : k - 1 = (k % P - 1) + P * (k / P) := by omega
  rw [e2, Nat.add_mul_mod_self_left, Nat.mod_eq_of_lt (by omega)]
def fromN (P n : Nat) : Nat := (n - 1) / P * P
theorem fromN_bd {P n : Nat} (hP : 1 ≤ P) (h0 : 0 < n) : fromN P n < n ∧ n ≤ fromN P n + P := by
  unfold fromN
  rw [per_mul]
  have hm := Nat.mod_lt (n - 1) hP
  have hl := Nat.mod_le (n - 1) P
  omega
theorem fromN_yes {P k : Nat} (hP : 1 ≤ P) (h : k % P = 0) : fromN P (k + 1) = k := by
  unfold fromN
  rw [per_mul, show k + 1 - 1 = k by omega]
  omega
theorem fromN_no {P k : Nat} (hP : 1 ≤ P) (h : k % P ≠ 0) : fromN P (k + 1) = fromN P k := by
  unfold fromN
  rw [per_mul, per_mul, show k + 1 - 1 = k by omega, per_pred hP h]
  have hl := Nat.mod_le k P
  omega
def PerOk (P : Nat) (ps : List Pk) : Prop := ∀ i p, ps[i]? = some p → p.wh = decide (i % P = 0)
theorem PerOk.nil (P : Nat) : PerOk P [] := fun i p h => by simp at h
theorem PerOk.more {P : Nat} {ps : List Pk} {p : Pk} (h : PerOk P ps) (hp : p.wh = decide (ps.length % P = 0)) : PerOk P (ps ++ [p]) := by
  intro i q hq
  by_cases hl : i < ps.length
  · rw [List.getElem?_append_left hl] at hq
    exact h i q hq
  · have : i = ps.length := by
      have := (List.getElem?_eq_some_iff.1 hq).1
      rw [List.length_append, List.length_singleton] at this
      omega
    subst this
    rw [List.getElem?_append_right (Nat.le_refl _), Nat.sub_self] at hq
    injection hq with hq
    subst hq
    exact hp
theorem lastW_per {ps : List Pk} {P f : Nat} (hP : 1 ≤ P) (hw : PerOk P ps) {k : Nat} (hk : k ≤ ps.length) (h0 : 0 < k) (hf : f ≤ fromN P k) : lastW ps f k = (fromN P k : Int) := by
  induction k with
  | zero => omega
  | succ k ih =>
    obtain ⟨p, hp⟩ : ∃ p, ps[k]? = some p := ⟨ps[k], List.getElem?_eq_getElem (by omega)⟩
    have hwk := hw k p hp
    by_cases hm : k % P = 0
    · rw [fromN_yes hP hm] at hf ⊢
      rw [hm] at hwk
      exact lastW_yes hf hp (by simpa using hwk)
    · rw [fromN_no hP hm] at hf ⊢
      have hk0 : 0 < k := by
        rcases Nat.eq_zero_or_pos k with h | h
        · subst h; simp at hm
        · exact h
      rw [lastW_no hp (by rw [hwk]; simpa using hm)]
      exact ih (by omega) hk0 hf
def burstF (ps : List Pk) (R : Nat) : List Pk := if 0 ≤ lastW ps (firstP R ps.length) ps.length then ps.drop (lastW ps (firstP R ps.length) ps.length).toNat else []
theorem burstF_nil (R : Nat) : burstF [] R = [] := by
  unfold burstF
  split
  · rfl
  · rfl
theorem burstF_per {ps : List Pk} {P R : Nat} (hP : 1 ≤ P) (hR : P ≤ R) (hw : PerOk P ps) (h0 : 0 < ps.length) : burstF ps R = ps.drop (fromN P ps.length) := by
  have hb := fromN_bd hP h0
  have e := lastW_per hP hw (Nat.le_refl _) h0 (f := firstP R ps.length) (by unfold firstP; omega)
  unfold burstF
  rw [e, if_pos (by omega), Int.toNat_natCast]
structure Cfg where
  path : ByteArray
  name : ByteArray
  pass : ByteArray
  fall : ByteArray
  q : Int
  b : Int
  p : Int
  r : Int
  e : Int
def Cfg.vals (c : Cfg) : Array Value := #[.string c.path, .string c.name, .string c.pass, .string c.fall, .int .i64 c.q, .int .i64 c.b, .int .i64 c.p, .int .i64 c.r, .int .i64 c.e]
def inB (n a b : Int) : Bool := decide (a ≤ n) && decide (n ≤ b)
def Cfg.nums (c : Cfg) : Bool := inB c.q 1 10 && inB c.b 32 600 && inB c.p 1 c.r && decide (c.r ≤ 1024) && inB c.e 1 65536
structure Cfg.Ok (c : Cfg) : Prop where
  q : 1 ≤ c.q ∧ c.q ≤ 10
  b : 32 ≤ c.b ∧ c.b ≤ 600
  p : 1 ≤ c.p ∧ c.p ≤ c.r
  r : c.r ≤ 1024
theorem Cfg.nums_ok {c : Cfg} (h : c.nums = true) : c.Ok := by
  simp only [Cfg.nums, inB, Bool.and_eq_true, decide_eq_true_eq] at h
  exact ⟨h.1.1.1.1, h.1.1.1.2, h.1.1.2, h.1.2⟩
theorem lastW_lo (ps : List Pk) (f : Nat) {k : Nat} (h : 0 ≤ lastW ps f k) : (f : Int) ≤ lastW ps f k := by
  induction k with
  | zero => simp [lastW] at h
  | succ k ih =>
    unfold lastW at h ⊢
    split
    · rename_i hc
      omega
    · rename_i hc
      rw [if_neg hc] at h
      exact ih h
def upToK (ps : List Pk) (k t : Nat) : List Pk := (ps.take t).drop k
theorem upToK_start (ps : List Pk) (k : Nat) : upToK ps k k = [] := by
  unfold upToK
  exact List.drop_eq_nil_of_le (by rw [List.length_take]; omega)
theorem upToK_step {ps : List Pk} {k t : Nat} {p : Pk} (hk : k ≤ t) (hp : ps[t]? = some p) : upToK ps k (t + 1) = upToK ps k t ++ [p] := by
  have hl := (List.getElem?_eq_some_iff.1 hp).1
  unfold upToK
  rw [List.take_add_one, hp, List.drop_append_of_le_length (by rw [List.length_take]; omega)]
  rfl
theorem upToK_end (ps : List Pk) (k : Nat) : upToK ps k ps.length = ps.drop k := by
  unfold upToK
  rw [List.take_length]
theorem upToK_len {ps : List Pk} {k t : Nat} (h : t ≤ ps.length) : (upToK ps k t).length ≤ t := by
  unfold upToK
  rw [List.length_drop, List.length_take]
  omega
end Go.Proofs.YtmgfkdmjgjlkjaaGreat

namespace Go.Proofs.YtmgfkdmjgjlkjaaGreat
open Go.RowKit
set_option linter.unusedVariables false
theorem noughts_one (z : Value) (m : Nat) : Builtin.zeroCells #[z] m = (List.replicate m z).toArray := by
  apply Array.ext'
  unfold Builtin.zeroCells
  apply List.ext_getElem?
  intro i
  by_cases h : i < m
  · simp [h, Nat.mod_one]
  · simp [h]
end Go.Proofs.YtmgfkdmjgjlkjaaGreat

namespace Go.Proofs.YtmgfkdmjgjlkjaaGreat
open Go.RowKit
set_option linter.unusedVariables false
set_option linter.unusedSimpArgs false
theorem info23_str : (Tryz.prog.info? 9).map (fun i => (i.zero, i.size, i.bytes)) = some (some (.string ⟨#[]⟩), 1, 16) := by kernel_rfl
structure TxAt (w : World) (a : Option Addr) (n c : Nat) (T : List ByteArray) : Prop where
  len : T.length = n
  no : a = none → c = 0
  cap : n ≤ c
  in_ : n = 0 ∨ ∃ b off, a = some ⟨b, off, none⟩ ∧ Typ19 w b 9 ∧ n ≤ 9223372036854775807 ∧ ∀ j, j < n → w.cell? ⟨b, off + j, none⟩ = some (.string (T.getD j ⟨#[]⟩))
section
variable {w w' : World} {a : Option Addr} {n c : Nat} {T : List ByteArray}
theorem TxAt.keeps {F : Nat → Prop} (h : TxAt w a n c T) (hk : Keeps F w w') (hF : ∀ j, F j → ∃ t, Typ19 w j t ∧ t ≠ 9) : TxAt w' a n c T := by
  refine ⟨h.len, h.no, h.cap, ?_⟩
  rcases h.in_ with h0 | ⟨b, off, e, h2, h3, h4⟩
  · exact .inl h0
  · have hn : ¬ F b := fun hf => by
      obtain ⟨t, ht, ne⟩ := hF b hf
      exact ht.ne h2 ne rfl
    have hb := hk.block b h2.lt hn
    exact .inr ⟨b, off, e, h2.keep hb, h3, fun j hj => (World.cell?_of_block (a := ⟨b, off + j, none⟩) hb).trans (h4 j hj)⟩
theorem TxAt.below (h : TxAt w a n c T) (hb : Below w.heap.size w w') : TxAt w' a n c T := h.keeps (F := fun _ => False) (.of_below hb) fun _ c => c.elim
theorem TxAt.nil (w : World) : TxAt w none 0 0 [] := ⟨rfl, fun _ => rfl, Nat.le_refl _, .inl rfl⟩
theorem TxAt.src {ad : Addr} (h : TxAt w (some ad) n c T) : ∀ j u, (T.map Value.string)[j]? = some u → w.cell? (ad.add j) = some u := by
  intro j u hj
  have hl := h.len
  rw [List.getElem?_map] at hj
  obtain ⟨x, hx, rfl⟩ := Option.map_eq_some_iff.1 hj
  have hjl : j < n := by
    have := (List.getElem?_eq_some_iff.1 hx).1
    omega
  obtain ⟨b, off, e, _, _, hc⟩ := h.in_.resolve_left (by omega)
  obtain rfl : ad = ⟨b, off, none⟩ := by injection e
  have e2 : (⟨b, off, none⟩ : Addr).add j = ⟨b, off + j, none⟩ := by unfold Addr.add; split <;> simp_all
  rw [e2, hc j hjl]
  simp [List.getD, hx]
theorem TxAt.own {base : Nat} (h : w.ownsRow base 9 1 (.slice a n c) n (T.map Value.string)) : TxAt w a n c T := by
  have hl := h.1
  rw [List.length_map] at hl
  refine ⟨by omega, fun e => ?_, ?_, ?_⟩
  · subst e
    rcases h.2 with ⟨e, hn⟩ | ⟨g, cap, cur, e, _⟩
    · injection e with e1 e2 e3
    · injection e with e1 e2 e3
      cases e1
  · rcases h.2 with ⟨e, hn⟩ | ⟨g, cap, cur, e, _, _, h5, _⟩
    · omega
    · injection e with e1 e2 e3
      omega
  · rcases h.2 with ⟨e, hn⟩ | ⟨g, cap, cur, e, h2, h3, h4, h5, h6, h7⟩
    · exact .inl hn
    · injection e with e1 e2 e3
      subst e1
      subst e3
      refine .inr ⟨g, 0, rfl, ⟨_, _, h3⟩, (by unfold maxLen at h5; omega), fun j hj => ?_⟩
      rw [Nat.zero_add, h.cellAt j (by omega)]
      simp [List.getD, show j < T.length by omega]
theorem TxAt.lit (w : World) (t : ByteArray) : TxAt (w.alloc (.cells #[.string t] 9)) (some ⟨w.heap.size, 0, none⟩) 1 1 [t] := by
  refine ⟨rfl, fun e => (by cases e), Nat.le_refl _, .inr ⟨_, 0, rfl, (Cel.new w _ _).typ19, by omega, fun j hj => ?_⟩⟩
  obtain rfl : j = 0 := by omega
  exact (Cel.new w 9 #[.string t]).cell 0
theorem TxAt.drop {b off : Nat} (h : TxAt w (some ⟨b, off, none⟩) n c T) {k : Nat} (hk : k < n) : TxAt w (some ⟨b, off + k, none⟩) (n - k) (c - k) (T.drop k) := by
  have hl := h.len
  refine ⟨by rw [List.length_drop, hl], fun e => (by cases e), (by have := h.cap; omega), ?_⟩
  rcases h.in_ with h0 | ⟨b', off', e, h2, h3, h4⟩
  · omega
  · injection e with e
    injection e with e1 e2
    subst e1
    subst e2
    refine .inr ⟨b, off + k, rfl, h2, by omega, fun j hj => ?_⟩
    rw [Nat.add_assoc, h4 (k + j) (by omega)]
    congr 2
    rw [List.getD_eq_getElem?_getD, List.getD_eq_getElem?_getD, List.getElem?_drop]
theorem TxAt.at_ (h : TxAt w a n c T) {j : Nat} (hj : j < n) : ∃ b off, a = some ⟨b, off, none⟩ ∧ w.cell? ⟨b, off + j, none⟩ = some (.string (T.getD j ⟨#[]⟩)) := by
  obtain ⟨b, off, e, _, _, h4⟩ := h.in_.resolve_left (by omega)
  exact ⟨b, off, e, h4 j hj⟩
end
theorem texts_one (T : List ByteArray) : ∀ u ∈ T.map Value.string, u.oneCell' = true := by
  intro u hu
  obtain ⟨x, _, rfl⟩ := List.mem_map.1 hu
  rfl
theorem append_texts {P : Program} {w : World} {ops : Array Oper} {rest : List Oper} {o : Oper} {a : Act} {Q : Exit → Act → World → Prop} (hgd : o.guard = none) (s x : Operand) (t : TypeId)
    (ho : o.op = .call { callee := .builtin .append, args := #[s, x], argTypes := #[t, t] })
    (base : Nat) (e : TypeId) (ht : P.underlying t = some (.slice e)) (hi : (P.info? e).map (fun i => (i.zero, i.size, i.bytes)) = some (some (.string ⟨#[]⟩), 1, 16))
    (v : Value) (n : Nat) (T : List ByteArray) (hs : a.eval s = v) (hown : w.ownsRow base e 1 v n (T.map Value.string))
    (A : Option Addr) (m c : Nat) (U : List ByteArray) (hx : a.eval x = .slice A m c) (hsrc : TxAt w A m c U)
    (hf : n + m ≤ 1000000) (hbase : base ≤ w.heap.size)
    (h : ∀ v' w', w'.ownsRow base e 1 v' (n + m) ((T ++ U).map Value.string) → w.grownBy w' v.ownBlock → (v'.ownBlock = v.ownBlock ∨ v'.ownBlock = some w.heap.size) → wpList P ops Q rest (a.put o.dst v') w') :
    wpList P ops Q (o :: rest) a w := by
  obtain ⟨i, h1, h2, h3, h4⟩ := info_parts hi
  cases A with
  | none =>
    have hm : m = 0 := by
      rcases hsrc.in_ with h0 | ⟨b, off, e', _⟩
      · exact h0
      · cases e'
    subst hm
    have hy : U = [] := List.eq_nil_of_length_eq_zero hsrc.len
    subst hy
    obtain rfl := hsrc.no rfl
    refine wpList_append_own_none hgd s x t ho base e i 1 ht h1 v n _ hs hown hx (h v w ?_ (World.grownBy.refl w _) (.inl rfl))
    simpa using hown
  | some ad =>
    refine wpList_append_own_at w hgd s x t ho base e i (.string ⟨#[]⟩) 1 16 ht h1 h2 h3 h4 rfl (by decide) v n _ hs hown ad m c (U.map Value.string) hx (by simp [hsrc.len]) hsrc.src (texts_one _) (by unfold maxLen; omega) (by omega) hbase ?_
    intro v' w' g1 g2 _ g4
    exact h v' w' (by simpa using g1) g2 g4
theorem run_append_empty {P : Program} (w : World) (t tn ty e : TypeId) (i : TypeInfo) (by' : Nat) (ht : P.underlying t = some (.slice e)) (htn : P.underlying tn = some (.int .i64)) (hi : P.info? e = some i) (hz : i.zero = some (.string ⟨#[]⟩)) (h1 : i.size = 1) (hby : i.bytes = by')
    (m : Nat) (hm : 0 < m) (hm2 : m ≤ 1000000) (hb2 : by' ≤ 100) :
    ∃ v' w', (Builtin.append_ #[t, tn] ty #[.slice none 0 0, .int .i64 m]).run P w = .ok v' w' ∧ w'.ownsRow w.heap.size e 1 v' m (List.replicate m (.string ⟨#[]⟩)) ∧ w.grownBy w' none := by
  have hmb : m * i.bytes ≤ 281474976710656 := by
    rw [hby]
    have : m * by' ≤ 1000000 * 100 := Nat.mul_le_mul hm2 hb2
    omega
  have hr := Lib.run_append_nil_zeros w t tn ty e i (.string ⟨#[]⟩) .i64 .i64 ht htn hi hz m hm (by omega) (by omega) hmb
  refine ⟨_, _, hr, ?_, ⟨rfl, rfl, rfl, by simp, fun k hk _ => Below.heap_alloc w.drew _ k hk⟩⟩
  have hge := grownCap_ge w m 0 e
  have hcm : grownCap w m 0 e ≤ maxLen := grownCap_le_maxLen w m 0 e (by unfold maxLen; omega)
  refine ⟨by simp, .inr ⟨w.heap.size, _, _, rfl, Nat.le_refl _, heap_alloc_new w.drew _, hge, hcm, ?_, ?_⟩⟩
  · simp only [Array.size_append, size_zeroCells, show (Value.string ⟨#[]⟩).cells = #[Value.string ⟨#[]⟩] from rfl, List.size_toArray, List.length_cons, List.length_nil]
    omega
  · rw [show (Value.string ⟨#[]⟩).cells = #[Value.string ⟨#[]⟩] from rfl, noughts_one, noughts_one]
    simp
theorem append_empty {P : Program} {w : World} {ops : Array Oper} {rest : List Oper} {o : Oper} {a : Act} {Q : Exit → Act → World → Prop} (hgd : o.guard = none) (s x : Operand) (t tn : TypeId)
    (ho : o.op = .call { callee := .builtin .append, args := #[s, x], argTypes := #[t, tn] })
    (e : TypeId) (ht : P.underlying t = some (.slice e)) (htn : P.underlying tn = some (.int .i64)) (hi : (P.info? e).map (fun i => (i.zero, i.size, i.bytes)) = some (some (.string ⟨#[]⟩), 1, 16))
    (hs : a.eval s = .slice none 0 0) (m : Nat) (hm : 0 < m) (hm2 : m ≤ 1000000) (hx : a.eval x = .int .i64 m)
    (h : ∀ v' w', w'.ownsRow w.heap.size e 1 v' m (List.replicate m (.string ⟨#[]⟩)) → w.grownBy w' none → wpList P ops Q rest (a.put o.dst v') w') :
    wpList P ops Q (o :: rest) a w := by
  obtain ⟨i, h1, h2, h3, h4⟩ := info_parts hi
  obtain ⟨v', w', hr, g1, g2⟩ := run_append_empty w t tn o.type e i 16 ht htn h1 h2 h3 h4 m hm hm2 (by decide)
  exact Lib.wpList_append_run w hgd s x t tn ho _ _ hs hx v' w' hr (h v' w' g1 g2)
end Go.Proofs.YtmgfkdmjgjlkjaaGreat
