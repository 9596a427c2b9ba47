/- The document's pieces in memory: a row of the call's own, of structs; the document's parter. -/
import Derived.Test.YtebfjmjdcbeekaaDoorWeaM
import Derived.Test.YtebfjmjdcbeekaaDoorWeaO
namespace Go.Proofs.YtebfjmjdcbeekaaDoor
open Go.RowKit Go.PlainAid
set_option linter.unusedVariables false
set_option linter.unusedSimpArgs false

def rpCells : PcX → List Value
  | (.snd l, a, c) => [.bool false, .string ⟨#[]⟩, .slice a l.length c]
  | (.told T, _) => [.bool true, .string (ba T), .slice none 0 0]
def rpFlat (xs : List PcX) : List Value := (xs.map rpCells).flatten
theorem rpCells_len (x : PcX) : (rpCells x).length = 3 := by
  obtain ⟨p, a, c⟩ := x
  cases p <;> rfl
theorem rpFlat_len (xs : List PcX) : (rpFlat xs).length = xs.length * 3 := by
  induction xs with
  | nil => rfl
  | cons x xs ih =>
    have := rpCells_len x
    simp [rpFlat] at ih ⊢
    omega
theorem rpFlat_app (xs ys : List PcX) : rpFlat (xs ++ ys) = rpFlat xs ++ rpFlat ys := by simp [rpFlat]
theorem rpFlat_one (x : PcX) : rpFlat [x] = rpCells x := by simp [rpFlat]
theorem rpFlat_at (xs : List PcX) (i k : Nat) (h : i < xs.length) (hk : k < 3) : (rpFlat xs)[i * 3 + k]? = (rpCells xs[i])[k]? := by
  induction xs generalizing i with
  | nil => simp at h
  | cons x xs ih =>
    have hl := rpCells_len x
    cases i with
    | zero =>
      show (rpCells x ++ rpFlat xs)[0 * 3 + k]? = _
      rw [List.getElem?_append_left (by omega)]
      simp
    | succ i =>
      show (rpCells x ++ rpFlat xs)[(i + 1) * 3 + k]? = _
      rw [List.getElem?_append_right (by omega), hl, show (i + 1) * 3 + k - 3 = i * 3 + k by omega]
      exact ih i (by simpa using h)
/-- The sound behind them, if there is any. -/
def lastN (c : List UInt8) : Nat := if c = [] then 0 else 1
def lastC (v2 : Value) (c : List UInt8) : List Value := if c = [] then [] else [.bool false, .string ⟨#[]⟩, v2]
theorem lastC_len (v2 : Value) (c : List UInt8) : (lastC v2 c).length = lastN c * 3 := by unfold lastC lastN; split <;> rfl
/-- Pieces that lie in a row of the call's own, with sound behind them that may grow; none of the pieces' bytes lies in a block of X. -/
structure RcsAt (w : World) (base : Nat) (X : Nat → Prop) (v v2 : Value) (xs : List PcX) (d : List Pc) (c : List UInt8) : Prop where
  m : xs.map (·.1) = d
  o : w.ownsRow base 41 3 v (xs.length + lastN c) (rpFlat xs ++ lastC v2 c)
  x : ∀ x ∈ xs, PcOk w base (fun j => X j ∨ v2.ownBlock = some j) x
  s : OwnB w base v2 c
  z : c = [] → v2 = .slice none 0 0
  y : ∀ j, v2.ownBlock = some j → ¬ X j
section
variable {w w' : World} {base : Nat} {X Y : Nat → Prop} {v v2 : Value} {xs : List PcX} {d : List Pc} {c : List UInt8}
theorem RcsAt.nil (w : World) (base : Nat) (X : Nat → Prop) : RcsAt w base X (.slice none 0 0) (.slice none 0 0) [] [] [] :=
  ⟨rfl, World.ownsRow_nil w base _ 3, fun x hx => by simp at hx, World.ownsRow_nil _ _ _ _, fun _ => rfl, fun j hj => by cases hj⟩
theorem RcsAt.keeps {F : Nat → Prop} (h : RcsAt w base X v v2 xs d c) (hk : Keeps F w w') (hF : ∀ j, F j → (X j ∧ Typ19 w j 5) ∨ ∃ t, Typ19 w j t ∧ t ≠ 5 ∧ t ≠ 41) : RcsAt w' base X v v2 xs d c := by
  refine ⟨h.m, own_keeps h.o hk fun k hg hf => ?_, fun x hx => (h.x x hx).keeps hk fun j hj => ?_, own_keeps h.s hk fun k hg hf => ?_, h.z, h.y⟩
  · rcases hF k hf with ⟨_, ht⟩ | ⟨t, ht, _, n2⟩
    · exact ht.ne (own_typ19 h.o hg).1 (by decide) rfl
    · exact ht.ne (own_typ19 h.o hg).1 n2 rfl
  · rcases hF j hj with ⟨e, _⟩ | ⟨t, ht, n1, _⟩
    · exact .inl (.inl e)
    · exact .inr ⟨t, ht, n1⟩
  · rcases hF k hf with ⟨e, _⟩ | ⟨t, ht, n1, _⟩
    · exact h.y k hg e
    · exact ht.ne (own_typ19 h.s hg).1 n1 rfl
theorem RcsAt.below (h : RcsAt w base X v v2 xs d c) (hb : Below w.heap.size w w') : RcsAt w' base X v v2 xs d c := h.keeps (F := fun _ => False) (.of_below hb) fun _ c => c.elim
/-- X may turn: what is new of it is new in memory. -/
theorem RcsAt.fresh (h : RcsAt w base X v v2 xs d c) (hY : ∀ j, Y j → X j ∨ w.heap.size ≤ j) : RcsAt w base Y v v2 xs d c := by
  refine ⟨h.m, h.o, fun x hx => (h.x x hx).fresh fun g hg => ?_, h.s, h.z, fun j hj hy => ?_⟩
  · rcases hg with hg | hg
    · rcases hY g hg with h2 | h2
      · exact .inl (.inl h2)
      · exact .inr h2
    · exact .inl (.inr hg)
  · rcases hY j hy with h2 | h2
    · exact h.y j hj h2
    · have := own_lt h.s j hj
      omega
theorem RcsAt.form (h : RcsAt w base X v v2 xs d c) : ∃ a cp, v = .slice a (d.length + lastN c) cp := by
  have hl : xs.length = d.length := by rw [← h.m, List.length_map]
  rcases h.o.2 with ⟨e, hn⟩ | ⟨g, cap, cur, e, _⟩
  · exact ⟨none, 0, by rw [← hl, hn]; exact e⟩
  · exact ⟨_, _, by rw [← hl]; exact e⟩
theorem RcsAt.addr {a : Option Addr} {n cp : Nat} (h : RcsAt w base X (.slice a n cp) v2 xs d c) (h0 : 0 < d.length + lastN c) : ∃ g, a = some ⟨g, 0, none⟩ ∧ base ≤ g := by
  have hl : xs.length = d.length := by rw [← h.m, List.length_map]
  rcases h.o.2 with ⟨e, hn⟩ | ⟨g, cap, cur, e, hg, _⟩
  · omega
  · injection e with e1
    exact ⟨g, e1, hg⟩
/-- A piece's cells. -/
theorem RcsAt.cell {g n cp i k : Nat} (h : RcsAt w base X (.slice (some ⟨g, 0, none⟩) n cp) v2 xs d c) (hi : i < xs.length) (hk : k < 3) : w.cell? ⟨g, i * 3 + k, none⟩ = (rpCells xs[i])[k]? := by
  have ho := h.o
  rcases ho.2 with ⟨e, hn⟩ | ⟨g', cap, cur, e, _⟩
  · omega
  · injection e with e1 e2 e3
    injection e1 with e1
    injection e1 with e1
    subst e1
    subst e2
    rw [ho.cellAt (i * 3 + k) (by omega), List.getElem?_append_left (by rw [rpFlat_len]; omega)]
    exact rpFlat_at xs i k hi hk
/-- The last one's cells, if it is sound. -/
theorem RcsAt.last {g n cp k : Nat} (h : RcsAt w base X (.slice (some ⟨g, 0, none⟩) n cp) v2 xs d c) (hc : c ≠ []) (hk : k < 3) : w.cell? ⟨g, xs.length * 3 + k, none⟩ = ([.bool false, .string ⟨#[]⟩, v2] : List Value)[k]? ∧ w.frozen? ⟨g, xs.length * 3 + k, none⟩ = false := by
  have ho := h.o
  have h1 : lastN c = 1 := by unfold lastN; rw [if_neg hc]
  have h2 : lastC v2 c = [.bool false, .string ⟨#[]⟩, v2] := by unfold lastC; rw [if_neg hc]
  rw [h1, h2] at ho
  rcases ho.2 with ⟨e, hn⟩ | ⟨g', cap, cur, e, _⟩
  · omega
  · injection e with e1 e2 e3
    injection e1 with e1
    injection e1 with e1
    subst e1
    subst e2
    refine ⟨?_, ho.frozenAt _⟩
    rw [ho.cellAt (xs.length * 3 + k) (by omega), List.getElem?_append_right (by rw [rpFlat_len]; omega), rpFlat_len, show xs.length * 3 + k - xs.length * 3 = k by omega]
end
theorem info20_rp : (Tryd.prog.info? 41).map (fun i => (i.zero, i.size, i.bytes)) = some (some (.agg #[.bool false, .string ⟨#[]⟩, .slice none 0 0]), 3, 48) := by kernel_rfl
/-- append(s, x) of a struct of three. -/
theorem append_rp {w : World} {ops : Array Oper} {rest : List Oper} {o : Oper} {a : Act} {Q : Exit → Act → World → Prop} (hgd : o.guard = none) (s x : Operand)
    (ho : o.op = .call { callee := .builtin .append, args := #[s, x], argTypes := #[36, 36] })
    (base : Nat) (v : Value) (n : Nat) (L : List Value) (hs : a.eval s = v) (hR : w.ownsRow base 41 3 v n L)
    (b : Nat) (y0 y1 y2 : Value) (hx : a.eval x = .slice (some ⟨b, 0, none⟩) 1 1) (hc : Cel w b 41 #[y0, y1, y2]) (h1 : ∀ u ∈ [y0, y1, y2], u.oneCell' = true)
    (hf : n ≤ 1000000) (hbase : base ≤ w.heap.size)
    (h : ∀ v' w', w'.ownsRow base 41 3 v' (n + 1) (L ++ [y0, y1, y2]) → Keeps (fun j => v.ownBlock = some j) w w' → wpList Tryd.prog ops Q rest (a.put o.dst v') w') :
    wpList Tryd.prog ops Q (o :: rest) a w := by
  obtain ⟨i, k1, k2, k3, k4⟩ := info_parts info20_rp
  refine wpList_append_own_at w hgd s x 36 ho base 41 i (.agg #[.bool false, .string ⟨#[]⟩, .slice none 0 0]) 3 48 Tryd.underlying36 k1 k2 k3 k4 rfl (by decide) v n L hs hR ⟨b, 0, none⟩ 1 1 [y0, y1, y2] hx (by simp) ?_ h1 (by unfold maxLen; omega) ?_ hbase ?_
  · intro j u hj
    match j, hj with
    | 0, hj => simp at hj; subst hj; exact hc.cell 0
    | 1, hj => simp at hj; subst hj; exact hc.cell 1
    | 2, hj => simp at hj; subst hj; exact hc.cell 2
    | j + 3, hj => simp at hj
  · have : (n + 1) * 48 ≤ 1000001 * 48 := Nat.mul_le_mul (by omega) (Nat.le_refl _)
    omega
  intro v' w' g1 g2 _ g4
  exact h v' w' g1 (Keeps.of_grown g2 fun k hk => hk)

/-! ### The document's parter -/
/-- Block g is a parter of the document's; its block's bytes lie in a row of its own. -/
structure RpAt (w : World) (base g : Nat) (S : P20) (vB : Value) : Prop where
  c : Cel w g 32 #[.int .i64 (S.e : Int), .int .i64 ((if S.b = [] then S.n else 0 : Nat) : Int), .int .i64 ((if S.b = [] then 0 else 16 * (S.b.headD 0).toNat + 1 - S.b.length : Nat) : Int), vB]
  o : OwnB w base vB S.b.tail
section
variable {w w' : World} {base g : Nat} {S : P20} {vB : Value}
theorem RpAt.typ (h : RpAt w base g S vB) : Typ19 w g 32 := Cel.typ19 h.c
theorem RpAt.keeps {F : Nat → Prop} (h : RpAt w base g S vB) (hk : Keeps F w w') (hn : ¬ F g) (ho : ∀ j, vB.ownBlock = some j → ¬ F j) : RpAt w' base g S vB := ⟨h.c.keeps hk hn, own_keeps h.o hk ho⟩
theorem RpAt.below (h : RpAt w base g S vB) (hb : Below w.heap.size w w') : RpAt w' base g S vB := h.keeps (F := fun _ => False) (.of_below hb) (fun c => c) fun _ _ c => c
end
end Go.Proofs.YtebfjmjdcbeekaaDoor
