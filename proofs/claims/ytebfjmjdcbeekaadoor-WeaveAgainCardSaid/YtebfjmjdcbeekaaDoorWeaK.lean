/- Pieces in memory: a row of the call's own, of values of an interface; and which title a block is. -/
import Derived.Test.YtebfjmjdcbeekaaDoorWeaJ
import Derived.Maps.AppendAt
import Derived.Deep.AppendLies
namespace Go.Proofs.YtebfjmjdcbeekaaDoor
open Go.RowKit Go.PlainAid
set_option linter.unusedVariables false
set_option linter.unusedSimpArgs false

/-- A piece, and where its sound lies. -/
abbrev PcX := Pc × Option Addr × Nat
def pcV : PcX → Value
  | (.snd l, a, c) => .iface 68 (.slice a l.length c)
  | (.told T, _) => .iface 57 (.string (ba T))
/-- Its sound lies in bytes of one's own, which are in no block of X. -/
def PcOk (w : World) (base : Nat) (X : Nat → Prop) : PcX → Prop
  | (.snd l, a, c) => BytA w a l.length c l ∧ ∀ r off, a = some ⟨r, off, none⟩ → 0 < l.length → Typ19 w r 5 ∧ base ≤ r ∧ ¬ X r
  | (.told _, _) => True
section
variable {w w' : World} {base : Nat} {X Y : Nat → Prop} {x : PcX}
theorem PcOk.keeps {F : Nat → Prop} (h : PcOk w base X x) (hk : Keeps F w w') (hF : ∀ j, F j → X j ∨ ∃ t, Typ19 w j t ∧ t ≠ 5) : PcOk w' base X x := by
  obtain ⟨p, a, c⟩ := x
  cases p with
  | told T => trivial
  | snd l =>
    obtain ⟨h1, h2⟩ := h
    have hn : ∀ r off, a = some ⟨r, off, none⟩ → 0 < l.length → ¬ F r := fun r off e h0 hf => by
      obtain ⟨k1, _, k2⟩ := h2 r off e h0
      rcases hF r hf with e2 | ⟨t, ht, hne⟩
      · exact k2 e2
      · exact ht.ne k1 hne rfl
    exact ⟨h1.keeps hk hn, fun r off e h0 => ⟨(h2 r off e h0).1.keep (hk.block r (h2 r off e h0).1.lt (hn r off e h0)), (h2 r off e h0).2⟩⟩
theorem PcOk.fresh (h : PcOk w base X x) (hY : ∀ g, Y g → X g ∨ w.heap.size ≤ g) : PcOk w base Y x := by
  obtain ⟨p, a, c⟩ := x
  cases p with
  | told T => trivial
  | snd l =>
    refine ⟨h.1, fun r off e h0 => ⟨(h.2 r off e h0).1, (h.2 r off e h0).2.1, fun e2 => ?_⟩⟩
    rcases hY r e2 with h3 | h3
    · exact (h.2 r off e h0).2.2 h3
    · have := (h.2 r off e h0).1.lt
      omega
theorem PcOk.grown {F : Nat → Prop} (h : PcOk w base X x) (hk : Keeps F w w') (hF : ∀ j, F j → X j) (hY : ∀ j, Y j → X j ∨ w.heap.size ≤ j) : PcOk w' base Y x := by
  obtain ⟨p, a, c⟩ := x
  cases p with
  | told T => trivial
  | snd l =>
    obtain ⟨h1, h2⟩ := h
    have hn : ∀ r off, a = some ⟨r, off, none⟩ → 0 < l.length → ¬ F r := fun r off e h0 hf => (h2 r off e h0).2.2 (hF r hf)
    refine ⟨h1.keeps hk hn, fun r off e h0 => ⟨(h2 r off e h0).1.keep (hk.block r (h2 r off e h0).1.lt (hn r off e h0)), (h2 r off e h0).2.1, fun e2 => ?_⟩⟩
    rcases hY r e2 with h3 | h3
    · exact (h2 r off e h0).2.2 h3
    · have := (h2 r off e h0).1.lt
      omega
theorem pcV_one (x : PcX) : (pcV x).oneCell' = true := by
  obtain ⟨p, a, c⟩ := x
  cases p <;> rfl
end
/-- Pieces that lie in a row of the call's own; none of their bytes lies in block X. -/
def PcsAt (w : World) (base : Nat) (X : Nat → Prop) (v : Value) (l : List Pc) : Prop :=
  ∃ xs : List PcX, xs.map (·.1) = l ∧ w.ownsRow base 56 1 v xs.length (xs.map pcV) ∧ ∀ x ∈ xs, PcOk w base X x
section
variable {w w' : World} {base : Nat} {X Y : Nat → Prop} {v : Value} {l : List Pc}
theorem PcsAt.nil (w : World) (base : Nat) (X : Nat → Prop) : PcsAt w base X (.slice none 0 0) [] := ⟨[], rfl, World.ownsRow_nil w base _ 1, fun x hx => by simp at hx⟩
theorem PcsAt.keeps {F : Nat → Prop} (h : PcsAt w base X v l) (hk : Keeps F w w') (hF : ∀ j, F j → (X j ∧ Typ19 w j 5) ∨ ∃ t, Typ19 w j t ∧ t ≠ 5 ∧ t ≠ 56) : PcsAt w' base X v l := by
  obtain ⟨xs, h1, h2, h3⟩ := h
  refine ⟨xs, h1, own_keeps h2 hk fun k hg hf => ?_, fun x hx => (h3 x hx).keeps hk fun j hj => ?_⟩
  · rcases hF k hf with ⟨_, ht⟩ | ⟨t, ht, _, n2⟩
    · exact ht.ne (own_typ19 h2 hg).1 (by decide) rfl
    · exact ht.ne (own_typ19 h2 hg).1 n2 rfl
  · rcases hF j hj with ⟨e, _⟩ | ⟨t, ht, n1, _⟩
    · exact .inl e
    · exact .inr ⟨t, ht, n1⟩
theorem PcsAt.below (h : PcsAt w base X v l) (hb : Below w.heap.size w w') : PcsAt w' base X v l := h.keeps (F := fun _ => False) (.of_below hb) fun _ c => c.elim
theorem PcsAt.fresh (h : PcsAt w base X v l) (hY : ∀ g, Y g → X g ∨ w.heap.size ≤ g) : PcsAt w base Y v l := by
  obtain ⟨xs, h1, h2, h3⟩ := h
  exact ⟨xs, h1, h2, fun x hx => (h3 x hx).fresh hY⟩
theorem PcsAt.grown {F : Nat → Prop} (h : PcsAt w base X v l) (hk : Keeps F w w') (hF : ∀ j, F j → X j ∧ Typ19 w j 5) (hY : ∀ j, Y j → X j ∨ w.heap.size ≤ j) : PcsAt w' base Y v l := by
  obtain ⟨xs, h1, h2, h3⟩ := h
  exact ⟨xs, h1, own_keeps h2 hk fun k hg hf => (hF k hf).2.ne (own_typ19 h2 hg).1 (by decide) rfl, fun x hx => (h3 x hx).grown hk (fun j hj => (hF j hj).1) hY⟩
theorem PcsAt.form (h : PcsAt w base X v l) : ∃ a c, v = .slice a l.length c := by
  obtain ⟨xs, h1, h2, _⟩ := h
  have hl : xs.length = l.length := by rw [← h1, List.length_map]
  rcases h2.2 with ⟨rfl, hn⟩ | ⟨g, cap, cur, rfl, _⟩
  · exact ⟨none, 0, by rw [← hl, hn]⟩
  · exact ⟨_, _, by rw [hl]⟩
/-- One of them. -/
theorem PcsAt.at_ {a : Option Addr} {n c i : Nat} (h : PcsAt w base X (.slice a n c) l) (hi : i < l.length) : ∃ g x, a = some ⟨g, 0, none⟩ ∧ w.cell? ⟨g, i, none⟩ = some (pcV x) ∧ PcOk w base X x ∧ l[i]? = some x.1 ∧ base ≤ g := by
  obtain ⟨xs, h1, h2, h3⟩ := h
  have hx : i < xs.length := by rw [← h1, List.length_map] at hi; exact hi
  rcases h2.2 with ⟨e, hn⟩ | ⟨g, cap, cur, e, hg, _⟩
  · omega
  · injection e with e1 e2 e3
    subst e1
    subst e2
    refine ⟨g, xs[i], rfl, ?_, h3 _ (List.getElem_mem hx), ?_, hg⟩
    · rw [h2.cellAt i (by omega)]
      simp [hx]
    · rw [← h1]
      simp [hx]
end
theorem info20_pc : (Tryd.prog.info? 56).map (fun i => (i.zero, i.size, i.bytes)) = some (some .nilIface, 1, 16) := by kernel_rfl
/-- append(s, x) of a piece. -/
theorem append_pc {w : World} {ops : Array Oper} {rest : List Oper} {o : Oper} {a : Act} {Q : Exit → Act → World → Prop} (hgd : o.guard = none) (s x : Operand)
    (ho : o.op = .call { callee := .builtin .append, args := #[s, x], argTypes := #[33, 33] })
    (base : Nat) (X : Nat → Prop) (v : Value) (l : List Pc) (hs : a.eval s = v) (hR : PcsAt w base X v l)
    (b : Nat) (y : PcX) (hx : a.eval x = .slice (some ⟨b, 0, none⟩) 1 1) (hc : w.cell? ⟨b, 0, none⟩ = some (pcV y)) (hy : PcOk w base X y)
    (hf : l.length ≤ 1000000) (hbase : base ≤ w.heap.size)
    (h : ∀ v' w', PcsAt w' base X v' (l ++ [y.1]) → Keeps (fun j => base ≤ j ∧ Typ19 w j 56) w w' → wpList Tryd.prog ops Q rest (a.put o.dst v') w') :
    wpList Tryd.prog ops Q (o :: rest) a w := by
  obtain ⟨i, h1, h2, h3, h4⟩ := info_parts info20_pc
  obtain ⟨xs, r1, r2, r3⟩ := hR
  have hl : xs.length = l.length := by rw [← r1, List.length_map]
  refine wpList_append_own_at w hgd s x 33 ho base 56 i .nilIface 1 16 Tryd.underlying33 h1 h2 h3 h4 rfl (by decide) v xs.length _ hs r2 ⟨b, 0, none⟩ 1 1 [pcV y] hx (by simp) ?_ ?_ (by unfold maxLen; omega) ?_ hbase ?_
  · intro j u hj
    match j, hj with
    | 0, hj =>
      simp at hj
      subst hj
      exact hc
    | j + 1, hj => simp at hj
  · intro u hu
    simp at hu
    subst hu
    exact pcV_one y
  · have : (xs.length + 1) * 16 ≤ 1000001 * 16 := Nat.mul_le_mul (by omega) (Nat.le_refl _)
    omega
  intro v' w' g1 g2 _ g4
  have kk : Keeps (fun j => base ≤ j ∧ Typ19 w j 56) w w' := Keeps.of_grown g2 fun k hk => ⟨(own_typ19 r2 hk).2, (own_typ19 r2 hk).1⟩
  have kF : ∀ j, base ≤ j ∧ Typ19 w j 56 → X j ∨ ∃ t, Typ19 w j t ∧ t ≠ 5 := fun j hj => .inr ⟨_, hj.2, by decide⟩
  refine h v' w' ⟨xs ++ [y], by rw [List.map_append, r1]; rfl, ?_, fun z hz => ?_⟩ kk
  · rw [List.length_append, List.map_append]
    exact g1
  · rcases List.mem_append.1 hz with h5 | h5
    · exact (r3 z h5).keeps kk kF
    · simp at h5
      subst h5
      exact hy.keeps kk kF
set_option maxRecDepth 100000 in
theorem join20_any (base b2 : Nat) (X : Nat → Prop) (v v2 : Value) (d : List Pc) (c : List UInt8) (w : World) (h : PcsAt w base X v d) (h2 : OwnB w b2 v2 c) (hd : d.length ≤ 1000000) (hb2 : base ≤ b2) (hbase : base ≤ w.heap.size) :
    Calls Tryd.prog 22 #[v, v2] w fun x w' => ∃ v', x = .returned v' ∧ PcsAt w' base (fun _ => False) v' (joinP d c) ∧ Keeps (fun j => base ≤ j ∧ Typ19 w j 56) w w' := by
  obtain ⟨a2, c2, rfl⟩ := h2.form
  have h0 : PcsAt w base (fun _ => False) v d := h.fresh (fun g e => e.elim)
  by_cases hc : c = []
  · subst hc
    have HP := Lib.hid h0
    go_enter Tryd.func22, Tryd.ntmps22
    go_wp2
    go_ret
    exact ⟨v, rfl, by unfold joinP; rw [if_pos rfl]; exact HP.out, .refl _ _⟩
  · have hcl : 0 < c.length := List.length_pos_iff.2 hc
    obtain ⟨m, hm⟩ : ∃ m, c.length = m := ⟨_, rfl⟩
    have hq : ((m : Int) == 0) = false := by simp; omega
    have HY : RowKit.Hid (PcOk w base (fun _ => False) (.snd c, a2, c2)) := by
      refine ⟨h2.bytA, fun r off e h0 => ?_⟩
      have k := own_typ19 h2 (g := r) (by rw [e]; rfl)
      exact ⟨k.1, Nat.le_trans hb2 k.2, fun e2 => e2⟩
    have HJ : RowKit.Hid (joinP d c = d ++ [.snd c]) := by show joinP d c = _; unfold joinP; rw [if_neg hc]
    have HP := Lib.hid h0
    obtain ⟨W1, hW1⟩ : ∃ W1, w.alloc (.cells #[.iface 68 (.slice a2 m c2)] 56) = W1 := ⟨_, rfl⟩
    have HC1 : RowKit.Hid (W1.cell? ⟨w.heap.size, 0, none⟩ = some (pcV (.snd c, a2, c2)) ∧ Below w.heap.size w W1) := by
      rw [← hW1]
      refine ⟨?_, Below.alloc_new _ _⟩
      have := (Cel.new w 56 #[.iface 68 (.slice a2 m c2)]).cell 0
      rw [this, ← hm]
      rfl
    rw [hm]
    clear h h2 h0
    go_enter Tryd.func22, Tryd.ntmps22
    go_wp2_with (first
      | (at_builtin; go_loud (refine append_pc rfl _ _ rfl base (fun _ => False) v d rfl (HP.out.below HC1.out.2) w.heap.size (.snd c, a2, c2) rfl HC1.out.1 (HY.out.keeps (F := fun _ => False) (.of_below HC1.out.2) fun _ c => c.elim) hd (Nat.le_trans hbase HC1.out.2.size) ?_); intro v3 w3 hp3 hk3; have HP3 := Lib.hid hp3; have HK3 := Lib.hid hk3; clear hp3 hk3)
      | fail)
    go_ret
    refine ⟨v3, rfl, by rw [HJ.out]; exact HP3.out, ?_⟩
    exact (Keeps.of_below HC1.out.2).then_ HK3.out fun j hj => by
      rcases Nat.lt_or_ge j w.heap.size with hl | hl
      · exact .inl ⟨hj.1, hj.2.back HC1.out.2 hl⟩
      · exact .inr hl
end Go.Proofs.YtebfjmjdcbeekaaDoor
