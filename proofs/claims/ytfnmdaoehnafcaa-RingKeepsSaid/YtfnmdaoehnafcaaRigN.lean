/- What is held in RingKeeps: packets that came in, the ring, a payload that is spoiled. -/
import Derived.Test.YtfnmdaoehnafcaaRigL
import Derived.Lib.QuietBelow
namespace Go.Proofs.Ytfnmdaoehnafcaa
open Go.RowKit
set_option linter.unusedVariables false
set_option linter.unusedSimpArgs false

/-! ### The first k packets -/
def pfx (X : Nat → PkX) (k : Nat) : List Pk := (List.range k).map fun i => (X i).1
theorem pfx_len (X : Nat → PkX) (k : Nat) : (pfx X k).length = k := by simp [pfx]
theorem pfx_get (X : Nat → PkX) {i k : Nat} (h : i < k) : (pfx X k)[i]? = some (X i).1 := by simp [pfx, h]
theorem pfx_succ (X : Nat → PkX) (k : Nat) : pfx X (k + 1) = pfx X k ++ [(X k).1] := by simp [pfx, List.range_succ]
/-! ### Packets that came in -/
structure PkIn (w : World) (b o : Nat) (x : PkX) : Prop where
  c0 : w.cell? ⟨b, o, none⟩ = some (.int .u32 x.1.ep)
  c1 : w.cell? ⟨b, o + 1, none⟩ = some (.int .u32 x.1.nu)
  c2 : w.cell? ⟨b, o + 2, none⟩ = some (.bool x.1.wh)
  c3 : w.cell? ⟨b, o + 3, none⟩ = some (.slice x.2.1 x.1.pl.length x.2.2)
  i : IntsAt w w.heap.size .u8 x.2.1 x.1.pl.length x.1.pl
  n : x.2.1 = none → x.2.2 = 0
  m : x.1.pl.length ≤ 9223372036854775807
theorem PkIn.below {w w' : World} {b o : Nat} {x : PkX} (h : PkIn w b o x) (hb : Below w.heap.size w w') : PkIn w' b o x :=
  ⟨(hb.cell (p := ⟨b, o, none⟩) (cell_block h.c0)).trans h.c0, (hb.cell (p := ⟨b, o + 1, none⟩) (cell_block h.c1)).trans h.c1, (hb.cell (p := ⟨b, o + 2, none⟩) (cell_block h.c2)).trans h.c2, (hb.cell (p := ⟨b, o + 3, none⟩) (cell_block h.c3)).trans h.c3, h.i.now hb (Nat.le_refl _), h.n, h.m⟩
def PksIn (w : World) (a : Option Addr) (len : Nat) (X : Nat → PkX) : Prop := len ≤ 9223372036854775807 ∧ (len = 0 ∨ ∃ b off, a = some ⟨b, off, none⟩ ∧ b < w.heap.size ∧ ∀ i, i < len → PkIn w b (off + i * 4) (X i))
/-! ### The ring on the way -/
structure RSt (w : World) (g s : Nat) (ps : List Pk) (wr : World) : Prop where
  b : Below w.heap.size w wr
  r : RgAt wr g s ps (fun j => j ≠ g)
  g1 : w.heap.size ≤ g
section
variable {w wr w' : World} {g s : Nat} {ps qs : List Pk} {D : Nat → Prop}
theorem RSt.below (h : RSt w g s ps wr) (hb : Below wr.heap.size wr w') : RSt w g s ps w' := ⟨chain' h.b hb, h.r.below hb, h.g1⟩
where chain' {a b c : World} (h : Below a.heap.size a b) (k : Below b.heap.size b c) : Below a.heap.size a c := h.trans (k.mono h.size)
theorem RSt.of (hb : Below w.heap.size w wr) (hr : RgAt wr g s ps D) (hg : w.heap.size ≤ g) : RSt w g s ps wr := ⟨hb, hr.weaken (fun j hj _ e => hr.dg (e ▸ hj)) (fun e => e rfl), hg⟩
theorem RSt.ends (h : RSt w g s ps wr) (hN : ps.length ≤ 1000) :
    Calls Try.prog 10 #[.pointer (some ⟨g, 0, none⟩)] wr fun e w' => e = .returned (.tuple #[.int .i64 ((firstP s ps.length : Nat) : Int), .int .i64 ps.length]) ∧ RSt w g s ps w' := by
  refine (rgEnds_any g s ps.length wr h.r.head.1 h.r.head.2 h.r.n2 (by omega)).mono ?_
  rintro e w' ⟨rfl, k, rfl⟩
  exact ⟨rfl, h.below (Below.drewN' (Below.refl _ _) k)⟩
theorem RSt.join (h : RSt w g s ps wr) (hN : ps.length ≤ 1000) :
    Calls Try.prog 11 #[.pointer (some ⟨g, 0, none⟩)] wr fun e w' => e = .returned (.tuple #[.int .i64 (joinV (lastW ps (firstP s ps.length) ps.length)), .bool (decide (0 ≤ lastW ps (firstP s ps.length) ps.length))]) ∧ RSt w g s ps w' := by
  refine (rgJoin_any g s ps _ wr h.r (by omega)).mono ?_
  rintro e w' ⟨rfl, k, rfl⟩
  exact ⟨rfl, h.below (Below.drewN' (Below.refl _ _) k)⟩
theorem RSt.no (h : RSt w g s ps wr) (hN : ps.length ≤ 1000) (i : Int) (hi : i < (firstP s ps.length : Nat) ∨ (ps.length : Int) ≤ i) :
    Calls Try.prog 8 #[.pointer (some ⟨g, 0, none⟩), .int .i64 i] wr fun e w' => e = .returned (.tuple #[.agg #[.int .u32 0, .int .u32 0, .bool false, .slice none 0 0], .bool false]) ∧ RSt w g s ps w' := by
  refine (rgAt_no g s ps.length i wr h.r.head.1 h.r.head.2 h.r.n2 (by omega) hi).mono ?_
  rintro e w' ⟨rfl, hb⟩
  exact ⟨rfl, h.below hb⟩
end
/-! ### A payload of one's own that is spoiled -/
structure XSt (w : World) (g s : Nat) (ps : List Pk) (go : Nat) (p : Pk) (a : Option Addr) (m c : Nat) (wr : World) : Prop where
  b : Below w.heap.size w wr
  r : RgAt wr g s ps (fun j => j ≠ g ∧ ∀ r, a = some ⟨r, 0, none⟩ → j ≠ r)
  g1 : w.heap.size ≤ g
  o : ∃ xs : List Int, wr.ownsRow w.heap.size 5 1 (.slice a m c) m (xs.map (Value.int .u8))
  q : Cel wr go 32 (pkC p a m c)
section
variable {w wr w' : World} {g s go m c : Nat} {ps : List Pk} {p : Pk} {a : Option Addr}
theorem XSt.st (h : XSt w g s ps go p a m c wr) : RSt w g s ps wr := RSt.of h.b h.r h.g1
theorem XSt.below (h : XSt w g s ps go p a m c wr) (hb : Below wr.heap.size wr w') : XSt w g s ps go p a m c w' := by
  obtain ⟨xs, ho⟩ := h.o
  exact ⟨chain h.b hb, h.r.below hb, h.g1, ⟨xs, own_below ho hb⟩, h.q.below hb⟩
theorem XSt.cs (h : XSt w g s ps go p a m c wr) : wr.cell? ⟨go, 0, none⟩ = some (.int .u32 p.ep) ∧ wr.cell? ⟨go, 1, none⟩ = some (.int .u32 p.nu) ∧ wr.cell? ⟨go, 2, none⟩ = some (.bool p.wh) ∧ wr.cell? ⟨go, 3, none⟩ = some (.slice a m c) := cel4 h.q
theorem XSt.c3 (h : XSt w g s ps go p a m c wr) : wr.cell? ⟨go, 3, none⟩ = some (.slice a m c) := h.q.cell 3
theorem XSt.spoil {r k : Nat} (h : XSt w g s ps go p (some ⟨r, 0, none⟩) m c wr) (x : Int) : XSt w g s ps go p (some ⟨r, 0, none⟩) m c (wr.setCell ⟨r, k, none⟩ (.int .u8 x)) := by
  obtain ⟨xs, ho⟩ := h.o
  have hg := own_typ19 ho (g := r) rfl
  have kk : Keeps (· = r) wr (wr.setCell ⟨r, k, none⟩ (.int .u8 x)) := Keeps.setCell (F := (· = r)) (Keeps.refl _ wr) (p := ⟨r, k, none⟩) (.inl rfl) _
  have hb := hg.2
  have hne : r ≠ g := by
    obtain ⟨cs, hc, _⟩ := h.r.c
    exact hg.1.ne hc.typ19 (by decide)
  refine ⟨h.b.setCell (p := ⟨r, k, none⟩) (by simp only; omega) _, h.r.keeps kk (fun j e => ⟨fun hd => hd.2 r rfl e, fun e2 => hne (e.symm.trans e2)⟩), h.g1, ⟨xs.set k x, ?_⟩, h.q.keeps kk fun e => ?_⟩
  · rw [List.map_set]
    exact (ho.stored k (.int .u8 x)).1
  · subst e
    exact h.q.typ19.ne hg.1 (by decide) rfl
/-- What a round reads. -/
theorem XSt.cells (h : XSt w g s ps go p a m c wr) {k : Nat} (hk : k < m) : ∃ r x, a = some ⟨r, 0, none⟩ ∧ wr.cell? ⟨go, 3, none⟩ = some (.slice a m c) ∧ wr.cell? ⟨r, k, none⟩ = some (.int .u8 x) ∧ wr.frozen? ⟨r, k, none⟩ = false := by
  obtain ⟨xs, ho⟩ := h.o
  obtain ⟨r, off, e3, _, _, hcell⟩ := (own_ints_m ho).at_ hk
  obtain ⟨r2, rfl⟩ : ∃ r2, a = some ⟨r2, 0, none⟩ := by
    rcases ho.2 with ⟨e, hn0⟩ | ⟨g2, cap, cur, e, _⟩
    · omega
    · injection e with e; exact ⟨g2, e⟩
  injection e3 with e3
  injection e3 with e4 e5
  subst e4
  subst e5
  rw [Nat.zero_add] at hcell
  exact ⟨r2, _, rfl, h.q.cell 3, hcell, ho.frozenAt k⟩
end
/-- One more is pushed, and its pusher's payload may be spoiled. -/
theorem RSt.push {w w4 W6 : World} {g s : Nat} {ps : List Pk} {go B : Nat} {p : Pk} {a : Option Addr} {c : Nat} (h : RSt w g s ps w4) (hB : w4.heap.size ≤ B) (hb : Below w4.heap.size w4 W6) (ho : W6.ownsRow B 5 1 (.slice a p.pl.length c) p.pl.length (p.pl.map (Value.int .u8))) (hq : Cel W6 go 32 (pkC p a p.pl.length c)) (hgo : g ≠ go) (hl : p.pl.length ≤ 100) (hN : ps.length ≤ 1000) :
    Calls Try.prog 7 #[.pointer (some ⟨g, 0, none⟩), .agg (pkC p a p.pl.length c)] W6 fun e w' => e = .returned (.int .i64 ps.length) ∧ XSt w g s (ps ++ [p]) go p a p.pl.length c w' := by
  have hgl := h.r.lt
  have hr6 := h.r.all.below hb
  have hb6 := h.below hb
  have hp : PlAt W6 (fun j => j ≠ g) a p.pl.length c p.pl := (PlAt.own ho).weaken fun j hj _ => (by omega)
  refine (rgPush_any g s ps _ p a c W6 hr6 hp (by omega) (by omega)).mono ?_
  rintro e w' ⟨rfl, hr, hk⟩
  have hg1 := h.g1
  have hbw := hb6.b.trans (hk.below hb6.b.size fun j e => by omega)
  have hrow : ∀ r, a = some ⟨r, 0, none⟩ → B ≤ r ∧ r < W6.heap.size := by
    intro r e
    subst e
    exact ⟨own_base ho r rfl, own_lt ho r rfl⟩
  have hs4 := hb.size
  have hsw := h.b.size
  refine ⟨rfl, hbw, hr.weaken (fun j hj _ => ⟨fun e => hr.dg (e ▸ hj), fun r e => ?_⟩) (fun e => e.1 rfl), hg1, ⟨p.pl, ?_⟩, hq.keeps hk hgo.symm⟩
  · have := hrow r e
    rcases hj with hj | hj
    · have := hj.2; omega
    · omega
  · refine own_keeps (own_lower ho (by omega)) hk fun k hk e => ?_
    have := own_base ho k hk
    omega
theorem RSt.pushM {w w4 W6 : World} {g s : Nat} {ps : List Pk} {go B m : Nat} {p : Pk} {a : Option Addr} {c : Nat} (h : RSt w g s ps w4) (hm : p.pl.length = m) (hB : w4.heap.size ≤ B) (hb : Below w4.heap.size w4 W6) (ho : W6.ownsRow B 5 1 (.slice a m c) m (p.pl.map (Value.int .u8))) (hq : Cel W6 go 32 #[.int .u32 p.ep, .int .u32 p.nu, .bool p.wh, .slice a m c]) (hgo : g ≠ go) (hl : m ≤ 100) (hN : ps.length ≤ 1000) :
    Calls Try.prog 7 #[.pointer (some ⟨g, 0, none⟩), .agg #[.int .u32 p.ep, .int .u32 p.nu, .bool p.wh, .slice a m c]] W6 fun e w' => e = .returned (.int .i64 ps.length) ∧ XSt w g s (ps ++ [p]) go p a m c w' := by
  subst hm
  exact h.push hB hb ho hq hgo hl hN
/-- One that is kept, in a box; its payload may be spoiled. -/
theorem RSt.yes {w W : World} {g s : Nat} {ps : List Pk} {p : Pk} (h : RSt w g s ps W) (hN : ps.length ≤ 1000) {i : Nat} (hp : ps[i]? = some p) (hl : p.pl.length ≤ 100) (hi : ps.length ≤ i + s) :
    Calls Try.prog 8 #[.pointer (some ⟨g, 0, none⟩), .int .i64 i] W fun e w' => ∃ a c, e = .returned (.tuple #[.agg (pkC p a p.pl.length c), .bool true]) ∧ IntsAt w' w'.heap.size .u8 a p.pl.length p.pl ∧ Below W.heap.size W w' ∧ XSt w g s ps w'.heap.size p a p.pl.length c (w'.alloc (.cells (pkC p a p.pl.length c) 32)) := by
  refine (rgAt_yes g s ps _ i p W h.r (by omega) hp (by omega) hi).mono ?_
  rintro e w' ⟨a, c, rfl, ho, hb⟩
  have hb2 := hb.alloc hb.size (.cells (pkC p a p.pl.length c) 32)
  have hr2 := h.r.all.below hb2
  have h2 := h.below hb2
  have ho2 := own_below ho (Below.alloc_new w' (.cells (pkC p a p.pl.length c) 32))
  have hsw := h.b.size
  refine ⟨a, c, rfl, own_ints_m ho, hb, h2.b, hr2.weaken (fun j hj _ => ⟨hj.1, fun r e => ?_⟩) (fun e => e.1 rfl), h.g1, ⟨p.pl, own_lower ho2 (by omega)⟩, Cel.new w' _ _⟩
  subst e
  have := own_base ho r rfl
  have := hj.2
  omega
/-- One that is kept, by letters. -/
theorem RSt.yesM {w W : World} {g s m : Nat} {ps : List Pk} {p : Pk} (h : RSt w g s ps W) (hm : p.pl.length = m) (hN : ps.length ≤ 1000) {i : Nat} (hp : ps[i]? = some p) (hl : m ≤ 100) (hi : ps.length ≤ i + s) :
    Calls Try.prog 8 #[.pointer (some ⟨g, 0, none⟩), .int .i64 i] W fun e w' => ∃ a c, e = .returned (.tuple #[.agg #[.int .u32 p.ep, .int .u32 p.nu, .bool p.wh, .slice a m c], .bool true]) ∧ IntsAt w' w'.heap.size .u8 a m p.pl ∧ Below W.heap.size W w' ∧ XSt w g s ps w'.heap.size p a m c (w'.alloc (.cells #[.int .u32 p.ep, .int .u32 p.nu, .bool p.wh, .slice a m c] 32)) := by
  subst hm
  exact h.yes hN hp hl hi
/-- The law compares them, in whatever world behind. -/
theorem same_regrown {W : World} {p : Pk} {m c1 c2 : Nat} {a1 a2 : Option Addr} (hm : p.pl.length = m) (h1 : IntsAt W W.heap.size .u8 a1 m p.pl) (h2 : IntsAt W W.heap.size .u8 a2 m p.pl) (d : Nat) (os : Array Obj) :
    Calls Try.prog 9 #[.agg #[.int .u32 p.ep, .int .u32 p.nu, .bool p.wh, .slice a1 m c1], .agg #[.int .u32 p.ep, .int .u32 p.nu, .bool p.wh, .slice a2 m c2]] (Go.Sort.grow (redrawn W d) os) fun e w'' => e = .returned (.bool true) ∧ ∃ p : Regrown, w'' = Go.Sort.grow (redrawn W p.d) p.os := by
  subst hm
  have hb := below_regrown W d os
  exact Calls.regrown_of (lawSame21_any p a1 a2 c1 c2 _ (h1.now hb (Nat.le_refl _)) (h2.now hb (Nat.le_refl _)))
end Go.Proofs.Ytfnmdaoehnafcaa
