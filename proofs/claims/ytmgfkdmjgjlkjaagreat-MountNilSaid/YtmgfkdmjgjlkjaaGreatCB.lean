/- Plain facts, and what functions give, for the proofs of this seat: several texts in one, each with its own first remark. -/
import Derived.Test.YtmgfkdmjgjlkjaaGreatCA

namespace Go.Proofs.YtmgfkdmjgjlkjaaGreat
open Go Go.RowKit
set_option linter.unusedVariables false
set_option linter.unusedSimpArgs false
theorem CodAt.below {w w' : World} {g a s : Nat} {Q : Int} {B : Nat} {S : S13} (h : CodAt w g a s Q B S) (b : Below w.heap.size w w') : CodAt w' g a s Q B S := by
  obtain ⟨ca, pa, qa, cs, ps, qs, o, hv, h⟩ := h
  refine ⟨ca, pa, qa, cs, ps, qs, o, hv, h.e.below b, h.a.below b, h.s.below b, h.h.below b, ?_⟩
  have hd := h.d
  cases hh : S.hd with
  | none => rw [hh] at hd; exact hd
  | some H => rw [hh] at hd; obtain ⟨r, e, i⟩ := hd; exact ⟨r, e, i.below b i.lt⟩
theorem CodAt.drewN {w : World} {g a s : Nat} {Q : Int} {B : Nat} {S : S13} (h : CodAt w g a s Q B S) (n : Nat) : CodAt (w.drewN n) g a s Q B S := h.below (Below.drewN' (Below.refl _ _) n)
theorem CodAt.keeps {w w' : World} {g a s : Nat} {Q : Int} {B : Nat} {S : S13} {F : Nat → Prop} (h : CodAt w g a s Q B S) (hk : Keeps F w w')
    (hF : ∀ j, F j → ∃ t cs, Cel w j t cs ∧ t ≠ 234 ∧ t ≠ 232 ∧ t ≠ 115 ∧ t ≠ 172 ∧ t ≠ 175 ∧ t ≠ 3 ∧ t ≠ 77) : CodAt w' g a s Q B S := by
  obtain ⟨ca, pa, qa, cs, ps, qs, o, hv, h⟩ := h
  have nt : ∀ {j : Nat} {t : TypeId} {vs : Array Value}, Cel w j t vs → (∀ t', (t' ≠ 234 ∧ t' ≠ 232 ∧ t' ≠ 115 ∧ t' ≠ 172 ∧ t' ≠ 175 ∧ t' ≠ 3 ∧ t' ≠ 77) → t ≠ t') → ¬ F j := by
    intro j t vs hc ht hf
    obtain ⟨t', cs', c', x⟩ := hF j hf
    exact hc.ne c' (ht t' x) rfl
  have ty : ∀ j, F j → ∃ t' vs, Cel w j t' vs ∧ t' ≠ 234 ∧ t' ≠ 232 := fun j hj => by
    obtain ⟨t', cs', c', x⟩ := hF j hj
    exact ⟨t', cs', c', x.1, x.2.1⟩
  refine ⟨ca, pa, qa, cs, ps, qs, o, hv, h.e.keeps hk (nt h.e fun t' x => (x.2.2.1).symm), h.a.keepsF hk (nt h.a.1 fun t' x => (x.2.2.2.1).symm) ty, h.s.keepsF hk (nt h.s.1 fun t' x => (x.2.2.2.2.1).symm) ty, h.h.keeps hk (fun r hr => nt hr fun t' x => (x.2.2.2.2.2.1).symm), ?_⟩
  have hd := h.d
  cases hh : S.hd with
  | none => rw [hh] at hd; exact hd
  | some H => rw [hh] at hd; obtain ⟨r, e, i⟩ := hd; exact ⟨r, e, Cel.keeps i hk (nt i fun t' x => (x.2.2.2.2.2.2).symm)⟩
def NewCPost (Q : Int) (B : Nat) (w : World) (e : Ending) (w' : World) : Prop :=
  ∃ g a s, e = .returned (.tuple #[.pointer (some ⟨g, 0, none⟩), .int .i64 0]) ∧ CodAt w' g a s Q B s13Zero ∧ w.heap.size ≤ g ∧ w.heap.size ≤ a ∧ w.heap.size ≤ s ∧ Below w.heap.size w w'
set_option maxRecDepth 100000 in
theorem cNew_any (Q : Int) (B : Nat) (w : World) (q0 : 1 ≤ Q) (q1 : Q ≤ 10) (b0 : 32 ≤ B) (b1 : B ≤ 600) : Calls Tryz.prog 28 #[.int .i64 Q, .int .i64 (B : Int)] w (NewCPost Q B w) := by
  have x0 : (32 : Int) ≤ (B : Int) := by omega
  have x1 : (B : Int) ≤ 600 := by omega
  clear b0 b1
  go_enter Tryz.func28, Tryz.ntmps28
  go_wp2_with (first
    | (go_at_call 57; go_loud (refine (newAnalyser_any _).mono ?_); rintro e w1 ⟨a, ca, pa, qa, rfl, o1, s1, b1⟩; have HO1 := Lib.hid o1; have HS1 := Lib.hid s1; have HB1 := Lib.hid b1; clear o1 s1 b1)
    | (go_at_call 58; go_loud (refine (newSynth_any _).mono ?_); rintro e w2 ⟨s, cs, ps, qs, rfl, o2, s2, b2⟩; have HO2 := Lib.hid o2; have HO1b := Lib.hid (HO1.out.below b2); have HS2 : RowKit.Hid (w.heap.size ≤ s) := Nat.le_trans HB1.out.size s2; have HB2 := Lib.hid (chain HB1.out b2); clear o2 s2 b2))
  go_ret2
  have ba := Below.alloc_new w2 (.cells (codC Q B a s 0 (.slice none 0 0) (.slice none 0 0) 0) 115)
  exact ⟨_, a, s, rfl, ⟨ca, pa, qa, cs, ps, qs, none, .slice none 0 0, Cel.new w2 _ _, HO1b.out.below ba, HO2.out.below ba, .inl ⟨rfl, rfl, rfl⟩, rfl⟩, HB2.out.size, HS1.out, HS2.out, chain HB2.out ba⟩
end Go.Proofs.YtmgfkdmjgjlkjaaGreat

namespace Go.Proofs.YtmgfkdmjgjlkjaaGreat
open Go Go.RowKit
set_option linter.unusedVariables false
set_option linter.unusedSimpArgs false
def mtC (c : Cfg) (rv ev : Value) (ep nu : Int) (tv : Value) : Array Value := #[.string c.path, .string c.name, .string c.pass, .string c.fall, .int .i64 c.q, .int .i64 c.b, .int .i64 c.p, .int .i64 c.r, .int .i64 c.e, rv, ev, .int .u32 ep, .int .u32 nu, tv]
def Dm (g r : Nat) (eb : List Nat) (X : Nat → Prop) (j : Nat) : Prop := j ≠ r ∧ j ≠ g ∧ j ∉ eb ∧ ¬ X j
def EnoAt (w : World) (c : Cfg) (ev : Value) (eb : List Nat) : Option S13 → Prop
  | none => ev = .pointer none ∧ eb = []
  | some S => ∃ ge ae se, ev = .pointer (some ⟨ge, 0, none⟩) ∧ eb = [ge, ae, se] ∧ CodAt w ge ae se c.q c.b.toNat S ∧ S.Ok
structure MtIn (w : World) (B g r : Nat) (eb : List Nat) (ev : Value) (a : Option Addr) (n cc : Nat) (nu : Int) (X : Nat → Prop) (c : Cfg) (ep : Int) (o : Option S13) (ps : List Pk) (T : List ByteArray) : Prop where
  ce : Cel w g 64 (mtC c (.pointer (some ⟨r, 0, none⟩)) ev ep nu (.slice a n cc))
  cr : RgAt w r c.r.toNat ps (Dm g r eb X)
  ck : EnoAt w c ev eb o
  ct : TxAt w a n cc T
  n5 : n ≤ 5
  cz : n = 0 → a = none
  cx : ∀ b off, a = some ⟨b, off, none⟩ → ¬ X b
  lo : B ≤ g ∧ B ≤ r ∧ ∀ j, j ∈ eb → B ≤ j
  nn : ∀ S, o = some S → nu = ps.length
  ok : c.Ok
def MtAt (w : World) (B g : Nat) (X : Nat → Prop) (c : Cfg) (ep : Int) (o : Option S13) (ps : List Pk) (T : List ByteArray) : Prop := ∃ r eb ev a n cc nu, MtIn w B g r eb ev a n cc nu X c ep o ps T
def MtF (w : World) (B j : Nat) : Prop := B ≤ j ∧ ∃ t, Typ19 w j t ∧ (t = 64 ∨ t = 130 ∨ t = 115 ∨ t = 172 ∨ t = 175)
def MtO (w : World) (X : Nat → Prop) (j : Nat) : Prop := X j ∧ ∃ t cs, Cel w j t cs ∧ t ≠ 234 ∧ t ≠ 232 ∧ t ≠ 115 ∧ t ≠ 172 ∧ t ≠ 175 ∧ t ≠ 3 ∧ t ≠ 77 ∧ t ≠ 64 ∧ t ≠ 130
section
variable {w w' : World} {B g r n cc : Nat} {eb : List Nat} {ev : Value} {a : Option Addr} {nu ep : Int} {X Y F : Nat → Prop} {c : Cfg} {o : Option S13} {ps : List Pk} {T : List ByteArray}
theorem TxAt.keepsB {F : Nat → Prop} (h : TxAt w a n cc T) (hk : Keeps F w w') (hF : ∀ b off, a = some ⟨b, off, none⟩ → ¬ F b) : TxAt w' a n cc T := by
  refine ⟨h.len, h.no, h.cap, ?_⟩
  rcases h.in_ with h0 | ⟨b, off, e, h2, h3, h4⟩
  · exact .inl h0
  · have hb := hk.block b h2.lt (hF b off e)
    exact .inr ⟨b, off, e, h2.keep hb, h3, fun j hj => (World.cell?_of_block (a := ⟨b, off + j, none⟩) hb).trans (h4 j hj)⟩
theorem EnoAt.keeps (h : EnoAt w c ev eb o) (hk : Keeps F w w')
    (hF : ∀ j, F j → ∃ t cs, Cel w j t cs ∧ t ≠ 234 ∧ t ≠ 232 ∧ t ≠ 115 ∧ t ≠ 172 ∧ t ≠ 175 ∧ t ≠ 3 ∧ t ≠ 77) : EnoAt w' c ev eb o := by
  cases o with
  | none => exact h
  | some S =>
    obtain ⟨ge, ae, se, h1, h2, h3, h4⟩ := h
    exact ⟨ge, ae, se, h1, h2, h3.keeps hk hF, h4⟩
theorem MtIn.keeps (h : MtIn w B g r eb ev a n cc nu X c ep o ps T) (hk : Keeps F w w') (hF : ∀ j, F j → MtO w X j) : MtIn w' B g r eb ev a n cc nu X c ep o ps T := by
  obtain ⟨rs, hr1, hr2⟩ := h.cr.c
  refine ⟨h.ce.keeps hk fun hf => ?_, h.cr.keeps hk fun j hj => ⟨fun hd => hd.2.2.2 (hF j hj).1, ?_⟩, h.ck.keeps hk fun j hj => ?_, h.ct.keepsB hk fun b off e hf => h.cx b off e (hF b hf).1, h.n5, h.cz, h.cx, h.lo, h.nn, h.ok⟩
  · obtain ⟨_, t, cs, hc, x⟩ := hF g hf
    exact h.ce.ne hc (fun e => x.2.2.2.2.2.2.2.1 e.symm) rfl
  · obtain ⟨_, t, cs, hc, x⟩ := hF j hj
    exact hc.ne hr1 x.2.2.2.2.2.2.2.2
  · obtain ⟨_, t, cs, hc, x⟩ := hF j hj
    exact ⟨t, cs, hc, x.1, x.2.1, x.2.2.1, x.2.2.2.1, x.2.2.2.2.1, x.2.2.2.2.2.1, x.2.2.2.2.2.2.1⟩
theorem MtIn.below (h : MtIn w B g r eb ev a n cc nu X c ep o ps T) (hb : Below w.heap.size w w') : MtIn w' B g r eb ev a n cc nu X c ep o ps T := h.keeps (F := fun _ => False) (.of_below hb) fun _ c => c.elim
theorem MtIn.weaken (h : MtIn w B g r eb ev a n cc nu X c ep o ps T) (hX : ∀ j, j < w.heap.size → Y j → X j) : MtIn w B g r eb ev a n cc nu Y c ep o ps T := by
  refine ⟨h.ce, h.cr.weaken (fun j hj hl => ⟨hj.1, hj.2.1, hj.2.2.1, fun hy => hj.2.2.2 (hX j hl hy)⟩) fun e => e.1 rfl, h.ck, h.ct, h.n5, h.cz, fun b off e hy => ?_, h.lo, h.nn, h.ok⟩
  rcases h.ct.in_ with h0 | ⟨b', off', e', h2, _⟩
  · rw [h.cz h0] at e
    cases e
  · rw [e] at e'
    injection e' with e'
    injection e' with e1 e2
    subst e1
    exact h.cx b off e (hX b h2.lt hy)
theorem MtAt.keeps (h : MtAt w B g X c ep o ps T) (hk : Keeps F w w') (hF : ∀ j, F j → MtO w X j) : MtAt w' B g X c ep o ps T := by
  obtain ⟨r, eb, ev, a, n, cc, nu, h⟩ := h
  exact ⟨r, eb, ev, a, n, cc, nu, h.keeps hk hF⟩
theorem MtAt.below (h : MtAt w B g X c ep o ps T) (hb : Below w.heap.size w w') : MtAt w' B g X c ep o ps T := h.keeps (F := fun _ => False) (.of_below hb) fun _ c => c.elim
theorem MtAt.weaken (h : MtAt w B g X c ep o ps T) (hX : ∀ j, j < w.heap.size → Y j → X j) : MtAt w B g Y c ep o ps T := by
  obtain ⟨r, eb, ev, a, n, cc, nu, h⟩ := h
  exact ⟨r, eb, ev, a, n, cc, nu, h.weaken hX⟩
theorem MtAt.lt (h : MtAt w B g X c ep o ps T) : g < w.heap.size := by
  obtain ⟨r, eb, ev, a, n, cc, nu, h⟩ := h
  exact h.ce.lt
theorem MtAt.ok (h : MtAt w B g X c ep o ps T) : c.Ok := by
  obtain ⟨r, eb, ev, a, n, cc, nu, h⟩ := h
  exact h.ok
theorem MtIn.ne_r (h : MtIn w B g r eb ev a n cc nu X c ep o ps T) : r ≠ g := by
  obtain ⟨rs, hr1, hr2⟩ := h.cr.c
  exact hr1.ne h.ce (by decide)
theorem EnoAt.typ (h : EnoAt w c ev eb o) {j : Nat} (hj : j ∈ eb) : ∃ t cs, Cel w j t cs ∧ (t = 115 ∨ t = 172 ∨ t = 175) := by
  cases o with
  | none =>
    rw [h.2] at hj
    simp at hj
  | some S =>
    obtain ⟨ge, ae, se, h1, h2, h3, h4⟩ := h
    subst h2
    obtain ⟨ca, pa, qa, cs, ps, qs, oo, hv, hi⟩ := h3
    simp only [List.mem_cons, List.not_mem_nil, or_false] at hj
    rcases hj with rfl | rfl | rfl
    · exact ⟨_, _, hi.e, .inl rfl⟩
    · exact ⟨_, _, hi.a.1, .inr (.inl rfl)⟩
    · exact ⟨_, _, hi.s.1, .inr (.inr rfl)⟩
theorem MtIn.f_g (h : MtIn w B g r eb ev a n cc nu X c ep o ps T) : MtF w B g := ⟨h.lo.1, _, h.ce.typ19, .inl rfl⟩
theorem MtIn.f_r (h : MtIn w B g r eb ev a n cc nu X c ep o ps T) : MtF w B r := by
  obtain ⟨rs, hr1, hr2⟩ := h.cr.c
  exact ⟨h.lo.2.1, _, hr1.typ19, .inr (.inl rfl)⟩
theorem MtIn.f_e (h : MtIn w B g r eb ev a n cc nu X c ep o ps T) {j : Nat} (hj : j ∈ eb) : MtF w B j := by
  obtain ⟨t, cs, hc, x⟩ := h.ck.typ hj
  refine ⟨h.lo.2.2 j hj, t, hc.typ19, ?_⟩
  rcases x with rfl | rfl | rfl <;> simp
end
end Go.Proofs.YtmgfkdmjgjlkjaaGreat

namespace Go.Proofs.YtmgfkdmjgjlkjaaGreat
open Go Go.RowKit
set_option linter.unusedVariables false
set_option linter.unusedSimpArgs false
theorem txt_beq (a b : ByteArray) : (a.toList == b.toList) = decide (a = b) := by
  rw [ByteArray.toList_eq, ByteArray.toList_eq, Bool.eq_iff_iff, beq_iff_eq, decide_eq_true_eq]
  constructor
  · intro h
    obtain ⟨⟨a⟩⟩ := a
    obtain ⟨⟨b⟩⟩ := b
    have : a = b := h
    rw [this]
  · intro h
    rw [h]
theorem mtLive_nil (w : World) : Calls Tryz.prog 18 #[.pointer none] w fun e w' => e = .returned (.bool false) ∧ w = w' := by
  go_enter Tryz.func18, Tryz.ntmps18
  go_wp2
  go_ret
  exact ⟨rfl, rfl⟩
theorem mtLive_no (g : Nat) (w : World) (h : w.cell? ⟨g, 10, none⟩ = some (.pointer none)) : Calls Tryz.prog 18 #[.pointer (some ⟨g, 0, none⟩)] w fun e w' => e = .returned (.bool false) ∧ w = w' := by
  go_enter Tryz.func18, Tryz.ntmps18
  go_wp2
  go_ret
  exact ⟨rfl, rfl⟩
theorem mtLive_yes (g : Nat) (ad : Addr) (w : World) (h : w.cell? ⟨g, 10, none⟩ = some (.pointer (some ad))) : Calls Tryz.prog 18 #[.pointer (some ⟨g, 0, none⟩)] w fun e w' => e = .returned (.bool true) ∧ w = w' := by
  go_enter Tryz.func18, Tryz.ntmps18
  go_wp2
  go_ret
  exact ⟨rfl, rfl⟩
theorem mtLive_any {w : World} {B g : Nat} {X : Nat → Prop} {c : Cfg} {ep : Int} {o : Option S13} {ps : List Pk} {T : List ByteArray} (h : MtAt w B g X c ep o ps T) : Calls Tryz.prog 18 #[.pointer (some ⟨g, 0, none⟩)] w fun e w' => e = .returned (.bool o.isSome) ∧ w = w' := by
  obtain ⟨r, eb, ev, a, n, cc, nu, h⟩ := h
  have c10 : w.cell? ⟨g, 10, none⟩ = some ev := h.ce.cell 10
  have hk := h.ck
  cases o with
  | none =>
    rw [hk.1] at c10
    exact mtLive_no g w c10
  | some S =>
    obtain ⟨ge, ae, se, h1, _⟩ := hk
    rw [h1] at c10
    exact mtLive_yes g _ w c10
theorem mtNow_nil (w : World) : Calls Tryz.prog 19 #[.pointer none] w fun e w' => e = .returned (.string ⟨#[]⟩) ∧ w = w' := by
  go_enter Tryz.func19, Tryz.ntmps19
  go_wp2
  go_ret
  exact ⟨rfl, rfl⟩
theorem mtNow_any {w : World} {B g : Nat} {X : Nat → Prop} {c : Cfg} {ep : Int} {o : Option S13} {ps : List Pk} {T : List ByteArray} (h : MtAt w B g X c ep o ps T) : Calls Tryz.prog 19 #[.pointer (some ⟨g, 0, none⟩)] w fun e w' => e = .returned (.string (nowT T)) ∧ Below w.heap.size w w' := by
  obtain ⟨r, eb, ev, a, n, cc, nu, h⟩ := h
  have c13 : w.cell? ⟨g, 13, none⟩ = some (.slice a n cc) := h.ce.cell 13
  have HT := Lib.hid h.ct
  have n5 := h.n5
  have HB := Lib.hid (fun k => Below.drewN' (Below.refl w.heap.size w) k)
  clear h
  rcases Nat.eq_zero_or_pos n with h0 | h0
  · subst h0
    have : T = [] := List.eq_nil_of_length_eq_zero HT.out.len
    subst this
    go_enter Tryz.func19, Tryz.ntmps19
    go_wp2
    go_ret
    exact ⟨rfl, HB.out 0⟩
  · obtain ⟨b, off, rfl, hc⟩ := HT.out.at_ (j := n - 1) (by omega)
    have e0 : nowT T = T.getD (n - 1) ⟨#[]⟩ := by unfold nowT; rw [HT.out.len]
    rw [e0]
    clear HT e0
    generalize T.getD (n - 1) ⟨#[]⟩ = x at hc ⊢
    obtain ⟨m, rfl⟩ : ∃ m, n = m + 1 := ⟨n - 1, by omega⟩
    rw [show m + 1 - 1 = m by omega] at hc
    have q : (((m + 1 : Nat) : Int) == 0) = false := by simp; omega
    have e1 : IntKind.i64.wrap (((m + 1 : Nat) : Int) - 1) = (m : Int) := by rw [show (((m + 1 : Nat) : Int) - 1) = (m : Int) by omega]; exact IntWalk.i64_in _ (by omega)
    have e2 : (((m + 1 : Nat) : Int) - 1) = (m : Int) := by omega
    have l1 : (m : Int) < ((m + 1 : Nat) : Int) := by omega
    go_enter Tryz.func19, Tryz.ntmps19
    go_wp2
    go_quiet (fail)
    go_wp2
    go_ret
    exact ⟨rfl, HB.out _⟩
theorem within_any (n a b : Int) (w : World) : Calls Tryz.prog 93 #[.int .i64 n, .int .i64 a, .int .i64 b] w fun e w' => e = .returned (.bool (inB n a b)) ∧ w = w' := by
  unfold inB
  by_cases h1 : a ≤ n
  · by_cases h2 : n ≤ b
    · have d1 : decide (a ≤ n) = true := by simpa using h1
      have d2 : decide (n ≤ b) = true := by simpa using h2
      go_enter Tryz.func93, Tryz.ntmps93
      go_wp2
      go_ret
      exact ⟨by rw [d1, d2]; rfl, rfl⟩
    · have d1 : decide (a ≤ n) = true := by simpa using h1
      have d2 : decide (n ≤ b) = false := by simpa using h2
      go_enter Tryz.func93, Tryz.ntmps93
      go_wp2
      go_ret
      exact ⟨rfl, rfl⟩
  · have d1 : decide (a ≤ n) = false := by simpa using h1
    go_enter Tryz.func93, Tryz.ntmps93
    go_wp2
    go_ret
    exact ⟨rfl, rfl⟩
theorem wants_any (c : Cfg) (nu : Nat) (w : World) (h : c.Ok) (hn : nu ≤ 1000000) : Calls Tryz.prog 30 #[.agg c.vals, .int .u32 nu] w fun e w' => e = .returned (.bool (decide (nu % c.p.toNat = 0))) ∧ Below w.heap.size w w' := by
  obtain ⟨p, hp⟩ : ∃ p : Nat, c.p = (p : Int) := ⟨c.p.toNat, by have := h.p.1; omega⟩
  have hp1 : 1 ≤ p := by have := h.p.1; omega
  have hp2 : p ≤ 1024 := by have := h.p.2; have := h.r; omega
  unfold Cfg.vals
  rw [hp, Int.toNat_natCast]
  have e1 : IntKind.i64.wrap (nu : Int) = (nu : Int) := IntWalk.i64_in _ (by omega)
  have e2 : (if (1 : Int) < (p : Int) then (p : Int) else 1) = (p : Int) := by split <;> omega
  have e4 : ((nu : Int)).tmod (p : Int) = ((nu % p : Nat) : Int) := by rw [Int.tmod_eq_emod_of_nonneg (by omega)]; rfl
  have hm := Nat.mod_lt nu hp1
  have e5 : IntKind.i64.wrap ((nu % p : Nat) : Int) = ((nu % p : Nat) : Int) := IntWalk.i64_in _ (by omega)
  have q0 : ¬ (p : Int) = 0 := by omega
  have q1 : (((nu % p : Nat) : Int) == 0) = decide (nu % p = 0) := by
    by_cases h0 : nu % p = 0
    · rw [h0]; rfl
    · rw [decide_eq_false h0]; simp; omega
  have HB := Lib.hid (Below.alloc_new w (.cells #[.string c.path, .string c.name, .string c.pass, .string c.fall, .int .i64 c.q, .int .i64 c.b, .int .i64 p, .int .i64 c.r, .int .i64 c.e] 27))
  generalize decide (nu % p = 0) = d at q1 ⊢
  generalize nu % p = y at *
  go_enter Tryz.func30, Tryz.ntmps30
  go_wp2
  all_goals
    go_ret
    exact ⟨rfl, HB.out⟩
end Go.Proofs.YtmgfkdmjgjlkjaaGreat

namespace Go.Proofs.YtmgfkdmjgjlkjaaGreat
open Go Go.RowKit
set_option linter.unusedVariables false
set_option linter.unusedSimpArgs false
set_option maxRecDepth 100000
theorem mtForget_any (g : Nat) (c : Cfg) (rv ev tv : Value) (ep nu : Int) (w : World) (h : Cel w g 64 (mtC c rv ev ep nu tv)) (hc : c.Ok) :
    Calls Tryz.prog 26 #[.pointer (some ⟨g, 0, none⟩)] w fun e w' => (∃ v, e = .returned v) ∧ ∃ r, w.heap.size ≤ r ∧ RgAt w' r c.r.toNat [] (fun _ => False) ∧ Cel w' g 64 (mtC c (.pointer (some ⟨r, 0, none⟩)) ev ep nu tv) ∧ Keeps (· = g) w w' := by
  obtain ⟨R, hR⟩ : ∃ R : Nat, c.r = (R : Int) := ⟨c.r.toNat, by have := hc.p; omega⟩
  have HE := Lib.hid h
  have c7 : w.cell? ⟨g, 7, none⟩ = some (.int .i64 R) := by rw [← hR]; exact h.cell 7
  have HN := Lib.hid (rgNew_any R w (by have := hc.p; omega) (by have := hc.r; omega))
  rw [hR, Int.toNat_natCast]
  clear h
  go_enter Tryz.func26, Tryz.ntmps26
  go_wp2_with (go_at_call 55; go_loud (refine HN.out.mono ?_); rintro e w2 ⟨r, rfl, hr, hq, hb⟩; have HE2 := Lib.hid (HE.out.below hb); have HQ := Lib.hid hq; have HR := Lib.hid hr; have HB := Lib.hid hb; clear hr hq hb; have x9 := HE2.out.cell 9; have f9 := HE2.out.frozen 9)
  go_end0
  have K : Keeps (· = g) w2 (w2.setCell ⟨g, 9, none⟩ (.pointer (some ⟨r, 0, none⟩))) := Keeps.set1 _
  refine ⟨⟨_, rfl⟩, r, HR.out, HQ.out.keeps K fun j hj => ⟨fun c => c, ?_⟩, HE2.out.set_ 9 _, (Keeps.of_below HB.out).trans K⟩
  have h1 := HE.out.lt
  have h2 := HR.out
  omega
theorem mtStart_nil (ep : Int) (w : World) : Calls Tryz.prog 10 #[.pointer none, .int .u32 ep] w fun e w' => e = .returned (.int .i64 1) ∧ w = w' := by
  go_enter Tryz.func10, Tryz.ntmps10
  go_wp2
  go_ret
  exact ⟨rfl, rfl⟩
theorem mtStop_nil (w : World) : Calls Tryz.prog 11 #[.pointer none] w fun e w' => e = .returned (.int .i64 1) ∧ w = w' := by
  go_enter Tryz.func11, Tryz.ntmps11
  go_wp2
  go_ret
  exact ⟨rfl, rfl⟩
section
variable {w : World} {B g : Nat} {X : Nat → Prop} {c : Cfg} {ep : Int} {ps : List Pk} {T : List ByteArray}
theorem mtStart_any (ep' : Int) (h : MtAt w B g X c ep none ps T) (hB : B ≤ w.heap.size) : Calls Tryz.prog 10 #[.pointer (some ⟨g, 0, none⟩), .int .u32 ep'] w fun e w' => e = .returned (.int .i64 0) ∧ MtAt w' B g X c ep' (some s13Zero) [] T ∧ Keeps (MtF w B) w w' := by
  have HL := Lib.hid (mtLive_any h)
  obtain ⟨r, eb, ev, a, n, cc, nu, h⟩ := h
  have H := Lib.hid h
  have HB := Lib.hid hB
  have hok := h.ok
  obtain ⟨b, hb⟩ : ∃ b : Nat, c.b = (b : Int) := ⟨c.b.toNat, by have := hok.b; omega⟩
  have c4 : w.cell? ⟨g, 4, none⟩ = some (.int .i64 c.q) := h.ce.cell 4
  have c5 : w.cell? ⟨g, 5, none⟩ = some (.int .i64 b) := by rw [← hb]; exact h.ce.cell 5
  have HC := Lib.hid (fun W => cNew_any c.q b W hok.q.1 hok.q.2 (by have := hok.b; omega) (by have := hok.b; omega))
  have HBb := Lib.hid hb
  obtain ⟨q, hq⟩ : ∃ q, c.q = q := ⟨_, rfl⟩
  have HQq := Lib.hid hq
  rw [hq] at c4 HC
  clear h hb hq hok
  go_enter Tryz.func10, Tryz.ntmps10
  go_wp2_with (go_at_call 18; go_loud (refine HL.out.mono ?_); rintro e w2 ⟨rfl, rfl⟩; try simp only [Option.isSome_none])
  go_region_held3 (fun w' => w'.cell? ⟨g, 4, none⟩ = some (.int .i64 q) ∧ w'.cell? ⟨g, 5, none⟩ = some (.int .i64 b)) (go_keep) (first
    | (go_at_call 28; go_loud (refine (HC.out _).mono ?_); go_loud (rintro e w3 ⟨ge, ae, se, rfl, hc, h1, h2, h3, hb⟩); have HD3 := Lib.hid hc; go_loud (have HS3 : RowKit.Hid (w.heap.size ≤ ge ∧ w.heap.size ≤ ae ∧ w.heap.size ≤ se) := ⟨h1, h2, h3⟩); go_loud (have HB3 : RowKit.Hid (Below w.heap.size w w3) := chain (Below.drewN' (Below.refl _ _) 1) hb); go_loud (have HE3 := Lib.hid (H.out.ce.below HB3.out)); clear hc h1 h2 h3 hb; go_loud (have c4 : w3.cell? ⟨g, 4, none⟩ = some (.int .i64 q) := by rw [← HQq.out]; exact HE3.out.cell 4); go_loud (have c5 : w3.cell? ⟨g, 5, none⟩ = some (.int .i64 b) := by rw [← HBb.out]; exact HE3.out.cell 5))
    | fail)
  clear c4 c5 HL
  have x10 := HE3.out.cell 10
  have x11 := HE3.out.cell 11
  have x12 := HE3.out.cell 12
  have f10 := HE3.out.frozen 10
  have f11 := HE3.out.frozen 11
  have f12 := HE3.out.frozen 12
  have HE4 : RowKit.Hid (Cel (((w3.setCell ⟨g, 10, none⟩ (.pointer (some ⟨ge, 0, none⟩))).setCell ⟨g, 11, none⟩ (.int .u32 ep')).setCell ⟨g, 12, none⟩ (.int .u32 0)) g 64 (mtC c (.pointer (some ⟨r, 0, none⟩)) (.pointer (some ⟨ge, 0, none⟩)) ep' 0 (.slice a n cc))) := ((HE3.out.set_ 10 _).set_ 11 _).set_ 12 _
  go_wp2_with (go_at_call 26; go_loud (refine (mtForget_any g c _ _ _ ep' 0 _ HE4.out H.out.ok).mono ?_); rintro e w5 ⟨⟨v, rfl⟩, r3, hr, hq, he, hk⟩; have HR := Lib.hid hr; have HQ := Lib.hid hq; have HE5 := Lib.hid he; have HK := Lib.hid hk; clear hr hq he hk)
  go_ret
  have K3 : Keeps (· = g) w3 w5 := (((Keeps.set1 _).trans (Keeps.set1 _)).trans (Keeps.set1 _)).trans HK.out
  have K : Keeps (· = g) w w5 := (Keeps.of_below HB3.out).trans K3
  have hr := HR.out
  have hs3 := HB3.out.size
  simp only [World.setCell, Array.size_modify] at hr
  have ht : ∀ j, j = g → ∃ t, Typ19 w j t ∧ t ≠ 9 := by
    rintro j rfl
    exact ⟨_, H.out.ce.typ19, by decide⟩
  have hf : ∀ j, j = g → MtF w B j := by
    rintro j rfl
    exact H.out.f_g
  have hc : ∀ j, j = g → ∃ t cs, Cel w3 j t cs ∧ t ≠ 234 ∧ t ≠ 232 ∧ t ≠ 115 ∧ t ≠ 172 ∧ t ≠ 175 ∧ t ≠ 3 ∧ t ≠ 77 := by
    rintro j rfl
    exact ⟨_, _, HE3.out, by decide, by decide, by decide, by decide, by decide, by decide, by decide⟩
  have hd := HD3.out.keeps K3 hc
  rw [← HQq.out, show b = c.b.toNat by rw [HBb.out, Int.toNat_natCast]] at hd
  have hb := HB.out
  have hs := HS3.out
  have hlo : ∀ j, j ∈ [ge, ae, se] → B ≤ j := by
    intro j hj
    simp only [List.mem_cons, List.not_mem_nil, or_false] at hj
    rcases hj with rfl | rfl | rfl <;> omega
  exact ⟨rfl, ⟨r3, [ge, ae, se], _, a, n, cc, 0, ⟨HE5.out, HQ.out.weaken (fun j hj _ => hj.elim) (fun e => e.1 rfl), ⟨ge, ae, se, rfl, rfl, hd, s13Zero_ok⟩, H.out.ct.keeps K ht, H.out.n5, H.out.cz, H.out.cx, ⟨H.out.lo.1, (by omega), hlo⟩, (fun S hS => rfl), H.out.ok⟩⟩, K.mono hf⟩
end
end Go.Proofs.YtmgfkdmjgjlkjaaGreat
