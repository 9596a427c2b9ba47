/- Where the loop of the document's parter stands, in memory. -/
import Derived.Test.YtebfjmjdcbeekaaDoorWeaQ
import Derived.Test.YtebfjmjdcbeekaaDoorWeaD
namespace Go.Proofs.YtebfjmjdcbeekaaDoor
open Go.RowKit Go.PlainAid
set_option linter.unusedVariables false
set_option linter.unusedSimpArgs false

/-- append(s, x) of a byte, where a region draws its order. -/
theorem step_app_byte {ops : Array Oper} {o : Oper} {a : Act} {w : World} {K : Act → World → Prop} {Q : Exit → Act → World → Prop} {E : Prop} (hgd : o.guard = none) (sl x : Operand)
    (ho : o.op = .call { callee := .builtin .append, args := #[sl, x], argTypes := #[30, 30] })
    (base : Nat) (v : Value) (l : List UInt8) (hs : a.eval sl = v) (hown : OwnB w base v l) (b : Nat) (c : UInt8) (hx : a.eval x = .slice (some ⟨b, 0, none⟩) 1 1) (hc : w.cell? ⟨b, 0, none⟩ = some (.int .u8 (c.toNat : Int)))
    (hl : l.length ≤ 100000000) (hbase : base ≤ w.heap.size) (H : Nat) (hH : w.heap.size = H)
    (h : ∀ gg cap w', OwnB w' base (.slice (some ⟨gg, 0, none⟩) (l.length + 1) cap) (l ++ [c]) → w.grownBy w' v.ownBlock → (v.ownBlock = some gg ∨ gg = H) → gg < w'.heap.size → K (a.put o.dst (.slice (some ⟨gg, 0, none⟩) (l.length + 1) cap)) w') :
    if Region.wanted o (yielded ops a.tmps) = true then Oper.wp Tryd.prog o a w K Q else E := by
  obtain ⟨i, k1, k2, k3, k4⟩ := info_parts infoE_u8
  refine step_append_lies w hgd sl x 30 ho base 5 i (.int .u8 0) 1 1 Tryd.underlying30 k1 k2 k3 k4 rfl (by decide) v l.length _ hs hown ⟨b, 0, none⟩ 1 1 [.int .u8 (c.toNat : Int)] hx rfl ?_ (by simp [Value.oneCell']) (by omega) (by unfold maxLen; omega) (by omega) hbase H hH ?_
  · intro j u hj
    match j, hj with
    | 0, hj => simp at hj; subst hj; exact hc
    | j + 1, hj => simp at hj
  · intro gg cap w' h1 h2 h3 h4
    refine h gg cap w' ?_ h2 h3 h4
    unfold OwnB
    rw [List.length_append, nz_append, List.map_append]
    exact h1
/-- Where the loop stands. -/
structure RqSt (w : World) (B g : Nat) (vB0 : Value) (q : Q20) (xs : List PcX) (v v2 vB : Value) (wr : World) : Prop where
  o : RcsAt wr w.heap.size (fun j => vB.ownBlock = some j) v v2 xs q.d q.c
  r : RpAt wr B g q.s vB
  k : Keeps (fun j => j = g ∨ vB0.ownBlock = some j) w wr
  v : ∀ j, vB.ownBlock = some j → vB0.ownBlock = some j ∨ w.heap.size ≤ j
  e : endsT q.d
section
variable {w wr w' : World} {B g : Nat} {vB0 vB v v2 : Value} {q : Q20} {xs : List PcX}
theorem RqSt.below (h : RqSt w B g vB0 q xs v v2 vB wr) (hb : Below wr.heap.size wr w') : RqSt w B g vB0 q xs v v2 vB w' := ⟨h.o.below hb, h.r.below hb, h.k.trans (.of_below hb), h.v, h.e⟩
/-- The parter's own cells have changed, where no block's bytes lie. -/
theorem RqSt.own (h : RqSt w B g vB0 q xs v v2 vB wr) {S : P20} {ok : Bool} (hk : Keeps (· = g) wr w') (hc : Cel w' g 32 #[.int .i64 (S.e : Int), .int .i64 ((if S.b = [] then S.n else 0 : Nat) : Int), .int .i64 ((if S.b = [] then 0 else 16 * (S.b.headD 0).toNat + 1 - S.b.length : Nat) : Int), vB]) (ht : S.b.tail = q.s.b.tail) : RqSt w B g vB0 ⟨q.d, q.c, ok, S⟩ xs v v2 vB w' :=
  ⟨h.o.keeps hk fun j hj => by subst hj; exact .inr ⟨_, h.r.typ, by decide, by decide⟩, ⟨hc, by simp only; rw [ht]; exact h.r.o.keeps hk fun j hj => by subst hj; exact ⟨_, h.r.typ, by decide⟩⟩, h.k.trans ⟨hk.os, hk.tape, hk.output, hk.size, fun j hj hn => hk.block j hj fun e => hn (.inl e)⟩, h.v, h.e⟩
end
theorem cel_cast {w : World} {g : Nat} {t : TypeId} {cs cs' : Array Value} (h : Cel w g t cs) (e : cs = cs') : Cel w g t cs' := e ▸ h
section
variable {w wr w' : World} {B g : Nat} {vB0 vB v v2 : Value} {q : Q20} {xs : List PcX}
/-- Sound begins. -/
theorem RqSt.first {x : UInt8} {W5 : World} {v' : Value} (h : RqSt w B g vB0 q xs v v2 vB wr) (hc : q.c = [])
    (ho : W5.ownsRow w.heap.size 41 3 v' (xs.length + 1) (rpFlat xs ++ [.bool false, .string ⟨#[]⟩, .slice (some ⟨wr.heap.size, 0, none⟩) 1 1]))
    (hk : Keeps (fun j => v.ownBlock = some j) ((wr.alloc (.cells #[.int .u8 (x.toNat : Int)] 5)).alloc (.cells #[.bool false, .string ⟨#[]⟩, .slice (some ⟨wr.heap.size, 0, none⟩) 1 1] 41)) W5) :
    RqSt w B g vB0 ⟨q.d, [x], q.ok, q.s⟩ xs v' (.slice (some ⟨wr.heap.size, 0, none⟩) 1 1) vB W5 := by
  have b1 : Below wr.heap.size wr (wr.alloc (.cells #[.int .u8 (x.toNat : Int)] 5)) := Below.alloc_new _ _
  have b2 : Below wr.heap.size wr ((wr.alloc (.cells #[.int .u8 (x.toNat : Int)] 5)).alloc (.cells #[.bool false, .string ⟨#[]⟩, .slice (some ⟨wr.heap.size, 0, none⟩) 1 1] 41)) := b1.alloc b1.size _
  have h2 := h.below b2
  have hF : ∀ j, v.ownBlock = some j → ∃ t, Typ19 ((wr.alloc (.cells #[.int .u8 (x.toNat : Int)] 5)).alloc (.cells #[.bool false, .string ⟨#[]⟩, .slice (some ⟨wr.heap.size, 0, none⟩) 1 1] 41)) j t ∧ t ≠ 5 ∧ t ≠ 32 := fun j hj => ⟨_, (own_typ19 h2.o.o hj).1, by decide, by decide⟩
  have hs : OwnB (wr.alloc (.cells #[.int .u8 (x.toNat : Int)] 5)) w.heap.size (.slice (some ⟨wr.heap.size, 0, none⟩) 1 1) [x] :=
    World.ownsRow_lit (base := w.heap.size) (e := 5) (size := 1) wr #[.int .u8 (x.toNat : Int)] 1 h.k.size (by decide) rfl
  refine ⟨⟨h.o.m, ?_, fun y hy => ?_, ?_, (fun e => by cases e), fun j hj hb => ?_⟩, ?_, h2.k.then_ hk fun j hj => .inr (own_base h2.o.o j hj), h.v, h.e⟩
  · exact ho
  · have k1 := (h2.o.x y hy).keeps hk fun j hj => by obtain ⟨t, ht, n1, _⟩ := hF j hj; exact .inr ⟨t, ht, n1⟩
    have k0 := (h.o.x y hy).fresh (Y := fun j => vB.ownBlock = some j ∨ (Value.slice (some ⟨wr.heap.size, 0, none⟩) 1 1).ownBlock = some j) fun j hj => by
      rcases hj with hj | hj
      · exact .inl (.inl hj)
      · have e : some wr.heap.size = some j := hj
        injection e with e
        exact .inr (by omega)
    exact (k0.keeps (F := fun _ => False) (.of_below b2) fun _ c => c.elim).keeps hk fun j hj => by obtain ⟨t, ht, n1, _⟩ := hF j hj; exact .inr ⟨t, ht, n1⟩
  · exact (hs.below (Below.alloc_new _ _)).keeps hk fun j hj => by obtain ⟨t, ht, n1, _⟩ := hF j hj; exact ⟨t, ht, n1⟩
  · have e : some wr.heap.size = some j := hj
    injection e with e
    have := own_lt h.r.o j hb
    omega
  · exact h2.r.keeps hk (fun hf => by obtain ⟨t, ht, _, n2⟩ := hF g hf; exact ht.ne h2.r.typ n2 rfl) fun j hj hf => by obtain ⟨t, ht, n1, _⟩ := hF j hf; exact ht.ne (own_typ19 h2.r.o hj).1 n1 rfl
/-- Sound goes on. -/
theorem RqSt.more {x : UInt8} {W3 W4 : World} {gv n cp : Nat} {v2' : Value} (h : RqSt w B g vB0 q xs (.slice (some ⟨gv, 0, none⟩) n cp) v2 vB wr) (hc : q.c ≠ []) (hb : Below wr.heap.size wr W3)
    (ho : OwnB W4 w.heap.size v2' (q.c ++ [x])) (hg : W3.grownBy W4 v2.ownBlock) (hv : ∀ j, v2'.ownBlock = some j → v2.ownBlock = some j ∨ W3.heap.size ≤ j) :
    RqSt w B g vB0 ⟨q.d, q.c ++ [x], q.ok, q.s⟩ xs (.slice (some ⟨gv, 0, none⟩) n cp) v2' vB (W4.setCell ⟨gv, xs.length * 3 + 2, none⟩ v2') := by
  have h3 := h.below hb
  have hk : Keeps (fun j => v2.ownBlock = some j) W3 W4 := Keeps.of_grown hg fun k hk => hk
  have h1 : lastN q.c = 1 := by unfold lastN; rw [if_neg hc]
  have h2 : lastC v2 q.c = [.bool false, .string ⟨#[]⟩, v2] := by unfold lastC; rw [if_neg hc]
  have hT : ∀ j, v2.ownBlock = some j → Typ19 W3 j 5 := fun j hj => (own_typ19 h3.o.s hj).1
  have ho4 : W4.ownsRow w.heap.size 41 3 (.slice (some ⟨gv, 0, none⟩) n cp) (xs.length + 1) (rpFlat xs ++ [.bool false, .string ⟨#[]⟩, v2]) := by
    have := own_keeps h3.o.o hk fun j hj hf => (hT j hf).ne (own_typ19 h3.o.o hj).1 (by decide) rfl
    rwa [h1, h2] at this
  have hn : n = xs.length + 1 := by
    rcases ho4.2 with ⟨e, hn⟩ | ⟨g', cap, cur, e, _⟩
    · omega
    · injection e
  subst hn
  have ho5 := (ho4.stored (xs.length * 3 + 2) v2').1
  have hset : (rpFlat xs ++ [.bool false, .string ⟨#[]⟩, v2]).set (xs.length * 3 + 2) v2' = rpFlat xs ++ [.bool false, .string ⟨#[]⟩, v2'] := by
    rw [List.set_append_right _ _ (by rw [rpFlat_len]; omega), rpFlat_len, show xs.length * 3 + 2 - xs.length * 3 = 2 by omega]
    rfl
  rw [hset] at ho5
  have hgv : Typ19 W4 gv 41 := (own_typ19 ho4 (g := gv) rfl).1
  have kk : Keeps (· = gv) W4 (W4.setCell ⟨gv, xs.length * 3 + 2, none⟩ v2') := Keeps.setCell (F := (· = gv)) (Keeps.refl _ W4) (p := ⟨gv, xs.length * 3 + 2, none⟩) (.inl rfl) _
  have hl1 : lastN (q.c ++ [x]) = 1 := by unfold lastN; rw [if_neg (by simp)]
  have hl2 : lastC v2' (q.c ++ [x]) = [.bool false, .string ⟨#[]⟩, v2'] := by unfold lastC; rw [if_neg (by simp)]
  have hr4 : RpAt W4 B g q.s vB := h3.r.keeps hk (fun hf => (hT g hf).ne h3.r.typ (by decide) rfl) fun j hj hf => h3.o.y j hf hj
  refine ⟨⟨h.o.m, by rw [hl1, hl2]; exact ho5, fun y hy => ?_, ?_, (fun e => by simp at e), fun j hj hb2 => ?_⟩, ?_, ?_, h.v, h.e⟩
  · have k4 := (h3.o.x y hy).grown (Y := fun j => vB.ownBlock = some j ∨ v2'.ownBlock = some j) hk (fun j hj => .inr hj) fun j hj => by
      rcases hj with hj | hj
      · exact .inl (.inl hj)
      · rcases hv j hj with h5 | h5
        · exact .inl (.inr h5)
        · exact .inr h5
    exact k4.keeps kk fun j hj => by subst hj; exact .inr ⟨_, hgv, by decide⟩
  · exact ho.keeps kk fun j hj => by subst hj; exact ⟨_, hgv, by decide⟩
  · rcases hv j hj with h5 | h5
    · exact h.o.y j h5 hb2
    · have := own_lt h.r.o j hb2
      have := hb.size
      omega
  · exact hr4.keeps kk (fun hf => by have := hr4.typ; rw [hf] at this; exact this.ne hgv (by decide) rfl) fun j hj hf => by subst hf; exact (own_typ19 hr4.o hj).1.ne hgv (by decide) rfl
  · exact ((h3.k.then_ hk fun j hj => .inr (own_base h3.o.s j hj)).then_ kk fun j hj => by subst hj; exact .inr (own_base ho4 j rfl))
end
/-- .. whatever the parter's own cells are. -/
structure RqRaw (w : World) (B g : Nat) (vB0 : Value) (d : List Pc) (c : List UInt8) (cs : Array Value) (bt : List UInt8) (xs : List PcX) (v v2 vB : Value) (wr : World) : Prop where
  o : RcsAt wr w.heap.size (fun j => vB.ownBlock = some j) v v2 xs d c
  c : Cel wr g 32 cs
  b : OwnB wr B vB bt
  k : Keeps (fun j => j = g ∨ vB0.ownBlock = some j) w wr
  v : ∀ j, vB.ownBlock = some j → vB0.ownBlock = some j ∨ w.heap.size ≤ j
section
variable {w wr w' : World} {B g : Nat} {vB0 vB v v2 : Value} {d : List Pc} {c bt : List UInt8} {cs : Array Value} {xs : List PcX}
theorem RqRaw.below (h : RqRaw w B g vB0 d c cs bt xs v v2 vB wr) (hb : Below wr.heap.size wr w') : RqRaw w B g vB0 d c cs bt xs v v2 vB w' := ⟨h.o.below hb, h.c.below hb, h.b.below hb, h.k.trans (.of_below hb), h.v⟩
theorem RqRaw.typ (h : RqRaw w B g vB0 d c cs bt xs v v2 vB wr) : Typ19 wr g 32 := Cel.typ19 h.c
theorem RqRaw.st (h : RqRaw w B g vB0 d c cs bt xs v v2 vB wr) {S : P20} (ok : Bool) (he : endsT d) (hc : cs = #[.int .i64 (S.e : Int), .int .i64 ((if S.b = [] then S.n else 0 : Nat) : Int), .int .i64 ((if S.b = [] then 0 else 16 * (S.b.headD 0).toNat + 1 - S.b.length : Nat) : Int), vB]) (hb : bt = S.b.tail) : RqSt w B g vB0 ⟨d, c, ok, S⟩ xs v v2 vB wr :=
  ⟨h.o, ⟨cel_cast h.c hc, by simp only; rw [← hb]; exact h.b⟩, h.k, h.v, he⟩
/-- A cell of the parter's own is set. -/
theorem RqRaw.set (h : RqRaw w B g vB0 d c cs bt xs v v2 vB wr) (i : Nat) (y : Value) : RqRaw w B g vB0 d c (cs.setIfInBounds i y) bt xs v v2 vB (wr.setCell ⟨g, i, none⟩ y) := by
  have hk : Keeps (· = g) wr (wr.setCell ⟨g, i, none⟩ y) := Keeps.setCell (F := (· = g)) (Keeps.refl _ wr) (p := ⟨g, i, none⟩) (.inl rfl) _
  exact ⟨h.o.keeps hk fun j hj => by subst hj; exact .inr ⟨_, h.typ, by decide, by decide⟩, h.c.set_ i y, h.b.keeps hk fun j hj => by subst hj; exact ⟨_, h.typ, by decide⟩, h.k.trans ⟨hk.os, hk.tape, hk.output, hk.size, fun j hj hn => hk.block j hj fun e => hn (.inl e)⟩, h.v⟩
/-- The block's bytes are let go. -/
theorem RqRaw.drop (h : RqRaw w B g vB0 d c cs bt xs v v2 vB wr) : RqRaw w B g vB0 d c (cs.setIfInBounds 3 (.slice none 0 0)) [] xs v v2 (.slice none 0 0) (wr.setCell ⟨g, 3, none⟩ (.slice none 0 0)) := by
  have h2 := h.set 3 (.slice none 0 0)
  exact ⟨h2.o.fresh (fun j hj => by cases hj), h2.c, World.ownsRow_nil _ _ _ _, h2.k, fun j hj => by cases hj⟩
/-- A title comes. -/
theorem RqRaw.told {T : List UInt8} {W4 W5 : World} {v' : Value} (h : RqRaw w B g vB0 d c cs bt xs v v2 vB wr) (hb : Below wr.heap.size wr W4)
    (ho : W5.ownsRow w.heap.size 41 3 v' (xs.length + lastN c + 1) (rpFlat xs ++ lastC v2 c ++ [.bool true, .string (ba T), .slice none 0 0])) (hk : Keeps (fun j => v.ownBlock = some j) W4 W5) :
    ∃ xs', RqRaw w B g vB0 (joinP d c ++ [.told T]) [] cs bt xs' v' (.slice none 0 0) vB W5 := by
  have h4 := h.below hb
  have hF : ∀ j, v.ownBlock = some j → ∃ t, Typ19 W4 j t ∧ t ≠ 5 ∧ t ≠ 32 := fun j hj => ⟨_, (own_typ19 h4.o.o hj).1, by decide, by decide⟩
  have base : ∀ xs' : List PcX, xs'.map (·.1) = joinP d c ++ [.told T] → xs'.length = xs.length + lastN c + 1 → rpFlat xs' = rpFlat xs ++ lastC v2 c ++ [.bool true, .string (ba T), .slice none 0 0] → (∀ y ∈ xs', PcOk W4 w.heap.size (fun j => vB.ownBlock = some j) y) → RqRaw w B g vB0 (joinP d c ++ [.told T]) [] cs bt xs' v' (.slice none 0 0) vB W5 := by
    intro xs' e1 e2 e3 e4
    refine ⟨⟨e1, ?_, fun y hy => ?_, World.ownsRow_nil _ _ _ _, fun _ => rfl, fun j hj => by cases hj⟩, ?_, ?_, h4.k.then_ hk fun j hj => .inr (own_base h4.o.o j hj), h.v⟩
    · have : lastN [] = 0 := rfl
      have : lastC (.slice none 0 0) [] = [] := rfl
      rw [e2, e3]
      simpa [lastN, lastC] using ho
    · exact ((e4 y hy).fresh (Y := fun j => vB.ownBlock = some j ∨ (Value.slice none 0 0).ownBlock = some j) fun j hj => by
        rcases hj with hj | hj
        · exact .inl hj
        · cases hj).keeps hk fun j hj => by obtain ⟨t, ht, n1, _⟩ := hF j hj; exact .inr ⟨t, ht, n1⟩
    · exact h4.c.keeps hk fun hf => by obtain ⟨t, ht, _, n2⟩ := hF g hf; exact ht.ne h4.typ n2 rfl
    · exact h4.b.keeps hk fun j hj => by obtain ⟨t, ht, n1, _⟩ := hF j hj; exact ⟨t, ht, n1⟩
  have hold : ∀ y ∈ xs, PcOk W4 w.heap.size (fun j => vB.ownBlock = some j) y := fun y hy => (h4.o.x y hy).fresh fun j hj => .inl (.inl hj)
  by_cases hc : c = []
  · refine ⟨xs ++ [(.told T, none, 0)], base _ ?_ ?_ ?_ fun y hy => ?_⟩
    · rw [List.map_append, h.o.m]; unfold joinP; rw [if_pos hc]; rfl
    · unfold lastN; rw [if_pos hc]; simp
    · rw [rpFlat_app, rpFlat_one]; unfold lastC; rw [if_pos hc]; simp [rpCells]
    · rcases List.mem_append.1 hy with hy | hy
      · exact hold y hy
      · simp at hy; subst hy; trivial
  · obtain ⟨a2, c2, rfl⟩ := h.o.s.form
    have hs := h4.o.s
    refine ⟨xs ++ [(.snd c, a2, c2)] ++ [(.told T, none, 0)], base _ ?_ ?_ ?_ fun y hy => ?_⟩
    · rw [List.map_append, List.map_append, h.o.m]; unfold joinP; rw [if_neg hc]; rfl
    · unfold lastN; rw [if_neg hc]; simp
    · rw [rpFlat_app, rpFlat_app, rpFlat_one, rpFlat_one]; unfold lastC; rw [if_neg hc]; rfl
    · rcases List.mem_append.1 hy with hy | hy
      · rcases List.mem_append.1 hy with hy | hy
        · exact hold y hy
        · simp at hy
          subst hy
          refine ⟨hs.bytA, fun r off e h0 => ?_⟩
          have k := own_typ19 hs (g := r) (by rw [e]; rfl)
          exact ⟨k.1, k.2, h4.o.y r (by rw [e]; rfl)⟩
      · simp at hy; subst hy; trivial
end
/-- A byte more of a block. -/
theorem RqSt.blk {w wr W3 W4 : World} {B g : Nat} {vB0 vB v v2 vB' : Value} {q : Q20} {xs : List PcX} {x : UInt8} (h : RqSt w B g vB0 q xs v v2 vB wr) (hb : Below wr.heap.size wr W3) (ho : OwnB W4 B vB' (q.s.b.tail ++ [x])) (hg : W3.grownBy W4 vB.ownBlock) (hv : ∀ j, vB'.ownBlock = some j → vB.ownBlock = some j ∨ W3.heap.size ≤ j) (y0 y1 y2 : Value) (hc : Cel wr g 32 #[y0, y1, y2, vB]) :
    RqRaw w B g vB0 q.d q.c #[y0, y1, y2, vB'] (q.s.b.tail ++ [x]) xs v v2 vB' (W4.setCell ⟨g, 3, none⟩ vB') := by
  have h3 := h.below hb
  have hk : Keeps (fun j => vB.ownBlock = some j) W3 W4 := Keeps.of_grown hg fun k hk => hk
  have hT : ∀ j, vB.ownBlock = some j → Typ19 W3 j 5 := fun j hj => (own_typ19 h3.r.o hj).1
  have o3 := h3.o.fresh (Y := fun j => vB.ownBlock = some j ∨ vB'.ownBlock = some j) fun j hj => by
    rcases hj with hj | hj
    · exact .inl hj
    · exact hv j hj
  have o4 := (o3.keeps hk fun j hj => .inl ⟨.inl hj, hT j hj⟩).fresh (Y := fun j => vB'.ownBlock = some j) fun j hj => .inl (.inr hj)
  have c4 : Cel W4 g 32 #[y0, y1, y2, vB] := (hc.below hb).keeps hk fun hf => (hT g hf).ne h3.r.typ (by decide) rfl
  have k4 : Keeps (fun j => j = g ∨ vB0.ownBlock = some j) w W4 := h3.k.then_ hk fun j hj => by
    rcases h3.v j hj with h5 | h5
    · exact .inl (.inr h5)
    · exact .inr h5
  have r4 : RqRaw w B g vB0 q.d q.c #[y0, y1, y2, vB] (q.s.b.tail ++ [x]) xs v v2 vB' W4 := ⟨o4, c4, ho, k4, fun j hj => by
    rcases hv j hj with h5 | h5
    · exact h.v j h5
    · exact .inr (Nat.le_trans h3.k.size h5)⟩
  exact r4.set 3 vB'
theorem RqSt.more_cell {w wr W3 W4 : World} {B g gv n cp : Nat} {vB0 vB v2 : Value} {q : Q20} {xs : List PcX} (h : RqSt w B g vB0 q xs (.slice (some ⟨gv, 0, none⟩) n cp) v2 vB wr) (hc : q.c ≠ []) (hb : Below wr.heap.size wr W3) (hg : W3.grownBy W4 v2.ownBlock) :
    W4.cell? ⟨gv, xs.length * 3 + 2, none⟩ = some v2 ∧ W4.frozen? ⟨gv, xs.length * 3 + 2, none⟩ = false := by
  have h3 := h.below hb
  have hk : Keeps (fun j => v2.ownBlock = some j) W3 W4 := Keeps.of_grown hg fun k hk => hk
  have h1 : lastN q.c = 1 := by unfold lastN; rw [if_neg hc]
  have h2 : lastC v2 q.c = [.bool false, .string ⟨#[]⟩, v2] := by unfold lastC; rw [if_neg hc]
  have ho4 := own_keeps h3.o.o hk fun j hj hf => ((own_typ19 h3.o.s hf).1).ne (own_typ19 h3.o.o hj).1 (by decide) rfl
  rw [h1, h2] at ho4
  have hn : n = xs.length + 1 := by
    rcases ho4.2 with ⟨e, hn⟩ | ⟨g', cap, cur, e, _⟩
    · omega
    · injection e
  subst hn
  refine ⟨?_, ho4.frozenAt _⟩
  rw [ho4.cellAt (xs.length * 3 + 2) (by omega), List.getElem?_append_right (by rw [rpFlat_len]; omega), rpFlat_len, show xs.length * 3 + 2 - xs.length * 3 = 2 by omega]
  rfl
theorem RqSt.blk_cell {w wr W3 W4 : World} {B g : Nat} {vB0 vB v v2 y0 y1 y2 : Value} {q : Q20} {xs : List PcX} (h : RqSt w B g vB0 q xs v v2 vB wr) (hb : Below wr.heap.size wr W3) (hg : W3.grownBy W4 vB.ownBlock) (hc : Cel wr g 32 #[y0, y1, y2, vB]) :
    W4.cell? ⟨g, 3, none⟩ = some vB ∧ W4.frozen? ⟨g, 3, none⟩ = false := by
  have h3 := h.below hb
  have hk : Keeps (fun j => vB.ownBlock = some j) W3 W4 := Keeps.of_grown hg fun k hk => hk
  have c4 := (hc.below hb).keeps hk fun hf => ((own_typ19 h3.r.o hf).1).ne h3.r.typ (by decide) rfl
  exact ⟨c4.cell 3, c4.frozen 3⟩
end Go.Proofs.YtebfjmjdcbeekaaDoor
