/- Words of mine for memory: packets in rows of the call's own, their payloads beside them. -/
import Derived.Test.YtfnmdaoehnafcaaMemT
import Derived.Test.YtfnmdaoehnafcaaPktD
import Derived.Maps.AppendAt
import Derived.Deep.AppendLies
namespace Go.Proofs.Ytfnmdaoehnafcaa
open Go.RowKit
set_option linter.unusedVariables false
set_option linter.unusedSimpArgs false

/-! ### A packet's payload -/
/-- A packet, and where its payload lies. -/
abbrev PkX := Pk × Option Addr × Nat
/-- Its payload lies in bytes of one's own, or in what was there. -/
structure PyAt (w : World) (B : Nat) (x : PkX) : Prop where
  i : IntsAt w w.heap.size .u8 x.2.1 x.1.pl.length x.1.pl
  n : x.2.1 = none → x.2.2 = 0
  t : ∀ r off, x.2.1 = some ⟨r, off, none⟩ → 0 < x.1.pl.length → Typ19 w r 5 ∨ r < B
section
variable {w w' : World} {B : Nat} {x : PkX}
theorem PyAt.keeps {F : Nat → Prop} (h : PyAt w B x) (hk : Keeps F w w') (hF : ∀ j, F j → B ≤ j ∧ ∃ t, Typ19 w j t ∧ t ≠ 5) : PyAt w' B x := by
  have hn : ∀ r off, x.2.1 = some ⟨r, off, none⟩ → 0 < x.1.pl.length → ¬ F r := fun r off e h0 hf => by
    obtain ⟨hB, t, ht, ne⟩ := hF r hf
    rcases h.t r off e h0 with h1 | h1
    · exact ht.ne h1 ne rfl
    · omega
  refine ⟨(h.i.keeps19 hk (Nat.le_refl _) fun r off e h0 _ => hn r off e h0).grow hk.size, h.n, fun r off e h0 => ?_⟩
  rcases h.t r off e h0 with h1 | h1
  · exact .inl (h1.keep (hk.block r h1.lt (hn r off e h0)))
  · exact .inr h1
theorem PyAt.below (h : PyAt w B x) (hb : Below w.heap.size w w') : PyAt w' B x := h.keeps (F := fun _ => False) (.of_below hb) fun _ c => c.elim
/-- Bytes of one's own. -/
theorem PyAt.own {p : Pk} {base : Nat} {a : Option Addr} {c : Nat} (h : w.ownsRow base 5 1 (.slice a p.pl.length c) p.pl.length (p.pl.map (Value.int .u8))) (B : Nat) : PyAt w B (p, a, c) := by
  refine ⟨own_ints' h, fun e => ?_, fun r off e h0 => ?_⟩
  · rcases h.2 with ⟨e2, hn⟩ | ⟨g, cap, cur, e2, _⟩
    · injection e2
    · injection e2 with e2
      have e : a = none := e
      rw [e] at e2
      cases e2
  · have e : a = some ⟨r, off, none⟩ := e
    subst e
    exact .inl (own_typ19 h rfl).1
end

/-! ### Rows of packets -/
def pkCells (x : PkX) : List Value := [.int .u32 x.1.ep, .int .u32 x.1.nu, .bool x.1.wh, .slice x.2.1 x.1.pl.length x.2.2]
def pkFlat (xs : List PkX) : List Value := (xs.map pkCells).flatten
theorem pkFlat_len (xs : List PkX) : (pkFlat xs).length = xs.length * 4 := by
  induction xs with
  | nil => rfl
  | cons x xs ih => simp [pkFlat, pkCells] at ih ⊢; omega
theorem pkFlat_app (xs ys : List PkX) : pkFlat (xs ++ ys) = pkFlat xs ++ pkFlat ys := by simp [pkFlat]
theorem pkFlat_at {xs : List PkX} {i : Nat} (h : i < xs.length) : (pkFlat xs)[i * 4]? = some (.int .u32 xs[i].1.ep) ∧ (pkFlat xs)[i * 4 + 1]? = some (.int .u32 xs[i].1.nu) ∧ (pkFlat xs)[i * 4 + 2]? = some (.bool xs[i].1.wh) ∧ (pkFlat xs)[i * 4 + 3]? = some (.slice xs[i].2.1 xs[i].1.pl.length xs[i].2.2) := by
  induction xs generalizing i with
  | nil => simp at h
  | cons x xs ih =>
    cases i with
    | zero => exact ⟨rfl, rfl, rfl, rfl⟩
    | succ i =>
      have e : ∀ k, (pkFlat (x :: xs))[(i + 1) * 4 + k]? = (pkFlat xs)[i * 4 + k]? := by
        intro k
        show (pkCells x ++ pkFlat xs)[(i + 1) * 4 + k]? = _
        rw [List.getElem?_append_right (by simp [pkCells]; omega)]
        congr 1
        simp [pkCells]; omega
      have := ih (i := i) (by simp at h; omega)
      have e0 := e 0
      simp only [Nat.add_zero] at e0
      rw [e0, e 1, e 2, e 3]
      exact this
/-- Packets that lie in a row of the call's own. -/
def PksAt (w : World) (base B : Nat) (ty : TypeId) (v : Value) (ps : List Pk) : Prop :=
  ∃ xs : List PkX, xs.map (·.1) = ps ∧ w.ownsRow base ty 4 v xs.length (pkFlat xs) ∧ ∀ x ∈ xs, PyAt w B x
section
variable {w w' : World} {base B : Nat} {ty : TypeId} {v : Value} {ps : List Pk}
theorem PksAt.nil (w : World) (base B : Nat) (ty : TypeId) : PksAt w base B ty (.slice none 0 0) [] := ⟨[], rfl, World.ownsRow_nil w base ty 4, fun x hx => by simp at hx⟩
theorem PksAt.keeps {F : Nat → Prop} (h : PksAt w base B ty v ps) (hk : Keeps F w w') (hF : ∀ j, F j → B ≤ j ∧ ∃ t, Typ19 w j t ∧ t ≠ 5 ∧ t ≠ ty) : PksAt w' base B ty v ps := by
  obtain ⟨xs, h1, h2, h3⟩ := h
  refine ⟨xs, h1, own_keeps h2 hk fun k hg hf => ?_, fun x hx => (h3 x hx).keeps hk fun j hj => ?_⟩
  · obtain ⟨_, t, ht, _, n2⟩ := hF k hf
    exact ht.ne (own_typ19 h2 hg).1 n2 rfl
  · obtain ⟨hB, t, ht, n1, _⟩ := hF j hj
    exact ⟨hB, t, ht, n1⟩
theorem PksAt.below (h : PksAt w base B ty v ps) (hb : Below w.heap.size w w') : PksAt w' base B ty v ps := h.keeps (F := fun _ => False) (.of_below hb) fun _ c => c.elim
theorem PksAt.lower (h : PksAt w base B ty v ps) {b2 : Nat} (hb : b2 ≤ base) : PksAt w b2 B ty v ps := by
  obtain ⟨xs, h1, h2, h3⟩ := h
  exact ⟨xs, h1, own_lower h2 hb, h3⟩
theorem PksAt.len {a : Option Addr} {n c : Nat} (h : PksAt w base B ty (.slice a n c) ps) : n = ps.length := by
  obtain ⟨xs, h1, h2, _⟩ := h
  rw [← h1, List.length_map]
  rcases h2.2 with ⟨e, hn⟩ | ⟨g, cap, cur, e, _⟩
  · injection e with _ e2 _; omega
  · injection e
theorem PksAt.form (h : PksAt w base B ty v ps) : ∃ a n c, v = .slice a n c ∧ n = ps.length := by
  have h' := h
  obtain ⟨xs, h1, h2, _⟩ := h
  rcases h2.2 with ⟨rfl, hn⟩ | ⟨g, cap, cur, rfl, _⟩
  · exact ⟨_, _, _, rfl, h'.len⟩
  · exact ⟨_, _, _, rfl, h'.len⟩
/-- One of them. -/
theorem PksAt.at_ {a : Option Addr} {n c i : Nat} (h : PksAt w base B ty (.slice a n c) ps) (hi : i < ps.length) : ∃ g p a2 c2, ps[i]? = some p ∧ a = some ⟨g, 0, none⟩ ∧ PyAt w B (p, a2, c2) ∧
    w.cell? ⟨g, i * 4, none⟩ = some (.int .u32 p.ep) ∧ w.cell? ⟨g, i * 4 + 1, none⟩ = some (.int .u32 p.nu) ∧ w.cell? ⟨g, i * 4 + 2, none⟩ = some (.bool p.wh) ∧ w.cell? ⟨g, i * 4 + 3, none⟩ = some (.slice a2 p.pl.length c2) := by
  obtain ⟨xs, h1, h2, h3⟩ := h
  have hx : i < xs.length := by rw [← h1, List.length_map] at hi; exact hi
  have hp : ps[i]? = some xs[i].1 := by rw [← h1]; simp [hx]
  obtain ⟨k0, k1, k2, k3⟩ := pkFlat_at hx
  rcases h2.2 with ⟨e, hn⟩ | ⟨g, cap, cur, e, _⟩
  · omega
  · injection e with e1 e2 e3
    subst e1
    subst e2
    exact ⟨g, xs[i].1, xs[i].2.1, xs[i].2.2, hp, rfl, h3 _ (List.getElem_mem hx), by rw [h2.cellAt _ (by omega)]; exact k0, by rw [h2.cellAt _ (by omega)]; exact k1, by rw [h2.cellAt _ (by omega)]; exact k2, by rw [h2.cellAt _ (by omega)]; exact k3⟩
end
/-- append(s, x...) of packets: s in a row of the call's own. -/
theorem append_pks {P : Program} {w : World} {ops : Array Oper} {rest : List Oper} {o : Oper} {a : Act} {Q : Exit → Act → World → Prop} (hgd : o.guard = none) (s x : Operand) (t : TypeId)
    (ho : o.op = .call { callee := .builtin .append, args := #[s, x], argTypes := #[t, t] })
    (base B : Nat) (e : TypeId) (z : Value) (by' : Nat) (ht : P.underlying t = some (.slice e)) (hi : (P.info? e).map (fun i => (i.zero, i.size, i.bytes)) = some (some z, 4, by')) (hz : z.cells.size = 4) (hby : by' ≤ 100) (hne : e ≠ 5) (hBb : B ≤ base)
    (v : Value) (ps : List Pk) (hs : a.eval s = v) (hR : PksAt w base B e v ps)
    (A : Option Addr) (m c : Nat) (ys : List PkX) (hx : a.eval x = .slice A m c) (hm : m = ys.length) (hnone : A = none → c = 0 ∧ m = 0) (hsrc : ∀ ad, A = some ad → ∀ j u, (pkFlat ys)[j]? = some u → w.cell? (ad.add j) = some u) (hy : ∀ y ∈ ys, PyAt w B y)
    (hf : ps.length + m ≤ 1000000) (hbase : base ≤ w.heap.size)
    (h : ∀ v' w', PksAt w' base B e v' (ps ++ ys.map (·.1)) → Keeps (fun j => base ≤ j ∧ Typ19 w j e) w w' → wpList P ops Q rest (a.put o.dst v') w') :
    wpList P ops Q (o :: rest) a w := by
  obtain ⟨i, h1, h2, h3, h4⟩ := info_parts hi
  obtain ⟨xs, r1, r2, r3⟩ := hR
  have hl : xs.length = ps.length := by rw [← r1, List.length_map]
  cases A with
  | none =>
    obtain ⟨rfl, rfl⟩ := hnone rfl
    have hy0 : ys = [] := List.eq_nil_of_length_eq_zero hm.symm
    subst hy0
    refine wpList_append_own_none hgd s x t ho base e i 4 ht h1 v xs.length _ hs r2 hx (h v w ?_ (Keeps.refl _ w))
    exact ⟨xs, by simpa using r1, r2, r3⟩
  | some ad =>
    refine wpList_append_own_at w hgd s x t ho base e i z 4 by' ht h1 h2 h3 h4 hz (by decide) v xs.length _ hs r2 ad m c (pkFlat ys) hx (by rw [pkFlat_len, hm]) (hsrc ad rfl) ?_ (by unfold maxLen; omega) ?_ hbase ?_
    · intro u hu
      simp only [pkFlat, List.mem_flatten, List.mem_map] at hu
      obtain ⟨l, ⟨y, _, rfl⟩, hu⟩ := hu
      simp only [pkCells, List.mem_cons, List.not_mem_nil, or_false] at hu
      rcases hu with rfl | rfl | rfl | rfl <;> rfl
    · have : (xs.length + m) * by' ≤ 1000000 * 100 := Nat.mul_le_mul (by omega) hby
      omega
    intro v' w' g1 g2 _ g4
    have kk : Keeps (fun j => base ≤ j ∧ Typ19 w j e) w w' := Keeps.of_grown g2 fun k hk => ⟨(own_typ19 r2 hk).2, (own_typ19 r2 hk).1⟩
    have kF : ∀ j, base ≤ j ∧ Typ19 w j e → B ≤ j ∧ ∃ t, Typ19 w j t ∧ t ≠ 5 := fun j hj => ⟨Nat.le_trans hBb hj.1, e, hj.2, hne⟩
    refine h v' w' ⟨xs ++ ys, by rw [List.map_append, r1], ?_, fun y hyy => ?_⟩ kk
    · rw [List.length_append, pkFlat_app, ← hm]; exact g1
    · rcases List.mem_append.1 hyy with h5 | h5
      · exact (r3 y h5).keeps kk kF
      · exact (hy y h5).keeps kk kF
end Go.Proofs.Ytfnmdaoehnafcaa
