/- What must go: forget, take. -/
import Derived.Test.YtnjnfocpjmmibaaQueC
import Derived.Deep.RegionHeld3
import Derived.Deep.RegionLaw
namespace Go.Proofs.Ytnjnfocpjmmibaa
open Go.RowKit
set_option linter.unusedVariables false
set_option linter.unusedSimpArgs false

theorem DuX.post {w w' : World} {D : Nat → Prop} {cs cs' : Array Value} {z' H : List Int} {gone' c' g : Nat} {a' p' : Option Addr} {ls' : List (List Int)} (hc : Cel w' g 52 cs') (hs : cs'.size = cs.size) (hi : ∀ i, 3 ≤ i → cs'[i]? = cs[i]?) (hx : DuX w' (fun j => D j ∨ w.heap.size ≤ j) cs' z' gone' a' c' p' ls') (h2 : 2 * gone' ≤ z'.length) (hH : H = z'.drop gone' ++ allS ls') (hk : Keeps (fun j => j = g) w w') : DuPost g cs H D w w' :=
  ⟨cs', hc, hs, hi, ⟨z', gone', a', c', p', ls', hx, h2, hH⟩, hk⟩
/-- append(s, x...) of numbers, as one step of a region that draws. -/
theorem append22_K {P : Program} {w : World} {o : Oper} {a : Act} {K : Act → World → Prop} {Q : Exit → Act → World → Prop} (s x : Operand) (t : TypeId)
    (ho : o.op = .call { callee := .builtin .append, args := #[s, x], argTypes := #[t, t] })
    (base : Nat) (e : TypeId) (k : IntKind) (by' : Nat) (ht : P.underlying t = some (.slice e)) (hi : (P.info? e).map (fun i => (i.zero, i.size, i.bytes)) = some (some (.int k 0), 1, by'))
    (v : Value) (n : Nat) (zs : List Int) (hs : a.eval s = v) (hown : w.ownsRow base e 1 v n (zs.map (Value.int k)))
    (A : Option Addr) (m c B : Nat) (ys : List Int) (hx : a.eval x = .slice A m c) (hsrc : IntsAt w B k A m ys) (hnone : A = none → c = 0)
    (h63 : n + m ≤ maxLen) (hbytes : (n + m) * by' ≤ 140737488355328) (hbase : base ≤ w.heap.size)
    (h : ∀ v' w', w'.ownsRow base e 1 v' (n + m) ((zs ++ ys).map (Value.int k)) → w.grownBy w' v.ownBlock → K (a.put o.dst v') w') : o.wp P a w K Q := by
  obtain ⟨i, h1, h2, h3, h4⟩ := info_parts hi
  cases A with
  | none =>
    have hm : m = 0 := by
      rcases hsrc.2 with h0 | ⟨b, off, e', _⟩
      · exact h0
      · cases e'
    subst hm
    have hy : ys = [] := List.eq_nil_of_length_eq_zero hsrc.1
    subst hy
    obtain rfl := hnone rfl
    have hrun := run_append_owned_none (P := P) (w := w) base t o.type e i 1 ht h1 v n _ hown
    unfold Oper.wp
    simp [execOp, ho, resolve, invoke, builtin, hs, hx, hrun, Result.andThen]
    exact h v w (by simpa using hown) (World.grownBy.refl w _)
  | some ad =>
    obtain ⟨v', w', hr, h5, h6, h7, h8⟩ := run_append_own_at (P := P) w base t o.type e i (.int k 0) 1 by' ht h1 h2 h3 h4 rfl (by decide) v n _ hown ad m c (ys.map (Value.int k)) (by simp [hsrc.1]) (hsrc.src (Below.refl _ _)) (ints_oneCell _ _) h63 hbytes hbase
    unfold Oper.wp execOp
    simp only [ho, resolve, invoke, builtin, Sem.run_bind, Sem.run_pure, Result.andThen_ok, List.map_toArray, List.map_cons, List.map_nil, hs, hx, hr]
    exact h v' w' (by simpa using h5) h6
/-- What is left of them. -/
theorem By22.cut {w : World} {D : Nat → Prop} {r off m c : Nat} {zs : List Int} (h : By22 w D (some ⟨r, off, none⟩) m c zs) {lo : Nat} (hl : lo ≤ m) (a : Option Addr) (ha : a = some ⟨r, off + lo, none⟩ ∨ c = lo ∧ a = some ⟨r, off, none⟩) : By22 w D a (m - lo) (c - lo) (zs.drop lo) := by
  have hc := h.hc
  have hn := h.len
  rcases ha with rfl | ⟨h1, rfl⟩
  · have := h.sub lo (m - lo) (by omega)
    rw [List.take_of_length_le (by rw [List.length_drop]; omega)] at this
    exact this
  · have e : zs.drop lo = [] := List.drop_eq_nil_of_le (by omega)
    rw [e]
    exact ⟨⟨by simp; omega, .inl (by omega)⟩, (fun e => by cases e), by omega, by have := h.hx; omega, fun r' off' e h0 => by omega⟩
theorem set0_get {cs : Array Value} {u v : Value} (hs : 3 ≤ cs.size) : ((cs.setIfInBounds 0 u).setIfInBounds 1 v)[0]? = some u ∧ ((cs.setIfInBounds 0 u).setIfInBounds 1 v)[1]? = some v ∧ ((cs.setIfInBounds 0 u).setIfInBounds 1 v)[2]? = cs[2]? ∧ (∀ i, 3 ≤ i → ((cs.setIfInBounds 0 u).setIfInBounds 1 v)[i]? = cs[i]?) := by
  refine ⟨?_, ?_, ?_, fun i hi => ?_⟩
  · rw [Array.getElem?_setIfInBounds_ne (by omega), Array.getElem?_setIfInBounds_self_of_lt (by omega)]
  · rw [Array.getElem?_setIfInBounds_self_of_lt (by simp; omega)]
  · rw [Array.getElem?_setIfInBounds_ne (by omega), Array.getElem?_setIfInBounds_ne (by omega)]
  · rw [Array.getElem?_setIfInBounds_ne (by omega), Array.getElem?_setIfInBounds_ne (by omega)]
theorem forget_done {g : Nat} {cs : Array Value} {D : Nat → Prop} {z : List Int} {gone c m4 c4 : Nat} {a p a4 : Option Addr} {ls : List (List Int)} {w w4 : World} (hc : Cel w g 52 cs) (h : DuX w D cs z gone a c p ls) (hD : ¬ D g) (hs : 3 ≤ cs.size) (hm : m4 = (z.drop gone).length) (ho : w4.ownsRow w.heap.size 5 1 (.slice a4 m4 c4) m4 ((z.drop gone).map (Value.int .u8))) (hb : Below w.heap.size w w4) :
    DuPost g cs (z.drop gone ++ allS ls) D w ((w4.setCell ⟨g, 0, none⟩ (.slice a4 m4 c4)).setCell ⟨g, 1, none⟩ (.int .i64 0)) := by
  subst hm
  have hgl := hc.lt
  have k1 : Keeps (fun j => j = g) w4 (w4.setCell ⟨g, 0, none⟩ (.slice a4 (z.drop gone).length c4)) := Keeps.setCell (F := fun j => j = g) (Keeps.refl _ w4) (p := ⟨g, 0, none⟩) (.inl rfl) _
  have kk := Keeps.setCell (F := fun j => j = g) k1 (p := ⟨g, 1, none⟩) (.inl rfl) (.int .i64 0)
  have hnd : ∀ j, j = g → ¬ (D j ∨ w.heap.size ≤ j) := by
    rintro j rfl (hj | hj)
    · exact hD hj
    · omega
  obtain ⟨s0, s1, s2, s3⟩ := set0_get (u := .slice a4 (z.drop gone).length c4) (v := .int .i64 0) hs
  have x7 := ((h.keeps (F := fun _ => False) (.of_below hb) fun _ c => c.elim).weaken (E := fun j => D j ∨ w.heap.size ≤ j) fun j hj _ => .inl hj).keeps kk hnd
  have b7 := ((By22.own ho).weaken (E := fun j => D j ∨ w.heap.size ≤ j) fun j hj _ => .inr hj).keeps kk hnd
  refine DuX.post (((hc.below hb).set_ 0 _).set_ 1 _) (by simp) s3 ⟨s0, s1, s2.trans h.c2, b7, x7.s, ?_, by omega⟩ (gone' := 0) (by omega) rfl ((Keeps.of_below hb).trans kk)
  rcases ho.2 with ⟨e, _⟩ | ⟨g', cap, cur, e, _⟩
  · injection e with e1 e2 e3
    exact .inl e1
  · injection e with e1 e2 e3
    exact .inr ⟨g', e1⟩
set_option maxRecDepth 100000 in
set_option maxHeartbeats 1000000 in
/-- More than half of them went: what is left is copied. -/
theorem due_forget_yes (g : Nat) (cs : Array Value) (D : Nat → Prop) (z : List Int) (gone : Nat) (a : Option Addr) (c : Nat) (p : Option Addr) (ls : List (List Int)) (w : World) (hc : Cel w g 52 cs) (h : DuX w D cs z gone a c p ls) (hD : ¬ D g) (hl : z.length ≤ 1000000) (hs : 3 ≤ cs.size) (hm : z.length / 2 < gone) :
    Calls Try.prog 26 #[.pointer (some ⟨g, 0, none⟩)] w fun e w' => (∃ x, e = .returned x) ∧ DuPost g cs (z.drop gone ++ allS ls) D w w' := by
  have k0 : w.cell? ⟨g, 0, none⟩ = some (.slice a z.length c) := (hc.cell 0).trans h.c0
  have k1 : w.cell? ⟨g, 1, none⟩ = some (.int .i64 gone) := (hc.cell 1).trans h.c1
  have hg := h.g
  have HC := Lib.hid hc
  have HX := Lib.hid h
  have HD : RowKit.Hid (¬ D g ∧ 3 ≤ cs.size) := ⟨hD, hs⟩
  obtain ⟨zl, hzl⟩ : ∃ zl, z.length = zl := ⟨_, rfl⟩
  have HZ := Lib.hid hzl
  rw [hzl] at k0 hg hl hm
  have e2 : (zl : Int).tdiv 2 = ((zl / 2 : Nat) : Int) := by rw [Int.tdiv_eq_ediv_of_nonneg (by omega)]; omega
  have d1 : decide (((zl / 2 : Nat) : Int) < (gone : Int)) = true := by simp; omega
  have hcz : zl ≤ c := by rw [← hzl]; exact h.b.hc
  have hne : a ≠ none := by
    rintro rfl
    have := h.b.none_.1
    omega
  obtain ⟨r, rfl⟩ : ∃ r, a = some ⟨r, 0, none⟩ := by
    rcases h.f with h0 | h0
    · exact absurd h0 hne
    · exact h0
  have HU := Lib.hid info22_u8
  have hgl := hc.lt
  have HGL := Lib.hid hgl
  clear h hc hD hs hzl hne
  go_enter Try.func26, Try.ntmps26
  go_wp2
  go_quiet (fail)
  go_wp2
  obtain ⟨W, hW⟩ : ∃ W, w.drewN nq = W := ⟨_, rfl⟩
  have hb0 : Below w.heap.size w W := by rw [← hW]; exact Below.drewN' (Below.refl _ _) nq
  have HB0 := Lib.hid hb0
  have HSS : RowKit.Hid (∀ w' : World, Below w.heap.size w w' → (fun w' => Below w.heap.size w w' ∧ w'.cell? ⟨g, 0, none⟩ = some (.slice (some ⟨r, 0, none⟩) zl c) ∧ w'.cell? ⟨g, 1, none⟩ = some (.int .i64 gone)) w') := Lib.hid fun w' hb => ⟨hb, (hb.cell (p := ⟨g, 0, none⟩) hgl).trans k0, (hb.cell (p := ⟨g, 1, none⟩) hgl).trans k1⟩
  rw [hW]
  clear k0 k1 hb0 hW
  have hsrc : ∀ W2 : World, Below w.heap.size w W2 → By22 W2 D (if c = gone then some ⟨r, 0, none⟩ else some ⟨r, gone, none⟩) (zl - gone) (c - gone) (z.drop gone) := by
    intro W2 hb
    have hx := HX.out.b.below hb
    rw [HZ.out] at hx
    exact hx.cut hg _ (by split; exact .inr ⟨by assumption, rfl⟩; exact .inl (by rw [Nat.zero_add]))
  have HSR := Lib.hid hsrc
  clear hsrc
  obtain ⟨_, k0, k1⟩ := HSS.out _ HB0.out
  go_region_law (go_loud (refine append22_K _ _ 31 rfl w.heap.size 5 .u8 1 Try.underlying31 HU.out (.slice none 0 0) 0 [] rfl (World.ownsRow_nil _ _ _ _) _ (zl - gone) (c - gone) W.drew.heap.size (z.drop gone) rfl (HSR.out W.drew (Below.drewN' HB0.out 1)).hi (HSR.out W.drew (Below.drewN' HB0.out 1)).hn (by unfold maxLen; omega) (by omega) HB0.out.size ?_); intro v4 w4 ho hg4; have ho2 := own_len22 ho; rw [List.nil_append] at ho2; obtain ⟨a4, m4, c4, rfl, hm4⟩ := own_form_m ho2; have hb4 : Below w.heap.size w w4 := (Below.drewN' HB0.out 1).grown hg4 HB0.out.size (fun j e => (by simp [Value.ownBlock] at e)); have HO4 : RowKit.Hid (m4 = (z.drop gone).length ∧ w4.ownsRow w.heap.size 5 1 (.slice a4 m4 c4) m4 ((z.drop gone).map (Value.int .u8)) ∧ Below w.heap.size w w4) := ⟨hm4, hm4 ▸ ho2, hb4⟩; have f4 := (HC.out.below hb4).frozen 0; have k4 := (HSS.out _ hb4).2.1; have f5 := (HC.out.below hb4).frozen 1; have k5 := (HSS.out _ hb4).2.2; clear ho ho2 hg4 hm4 hb4)
  go_wp2
  all_goals
    go_end0
    exact ⟨⟨_, rfl⟩, forget_done HC.out HX.out HD.out.1 HD.out.2 HO4.out.1 HO4.out.2.1 HO4.out.2.2⟩
set_option maxRecDepth 100000 in
set_option maxHeartbeats 1000000 in
/-- Half of them at most went: nothing is changed. -/
theorem due_forget_no (g : Nat) (cs : Array Value) (D : Nat → Prop) (z : List Int) (gone : Nat) (a : Option Addr) (c : Nat) (p : Option Addr) (ls : List (List Int)) (w : World) (hc : Cel w g 52 cs) (h : DuX w D cs z gone a c p ls) (hl : z.length ≤ 1000000) (hm : 2 * gone ≤ z.length) :
    Calls Try.prog 26 #[.pointer (some ⟨g, 0, none⟩)] w fun e w' => (∃ x, e = .returned x) ∧ ∃ k, w' = w.drewN k := by
  have k0 : w.cell? ⟨g, 0, none⟩ = some (.slice a z.length c) := (hc.cell 0).trans h.c0
  have k1 : w.cell? ⟨g, 1, none⟩ = some (.int .i64 gone) := (hc.cell 1).trans h.c1
  obtain ⟨zl, hzl⟩ : ∃ zl, z.length = zl := ⟨_, rfl⟩
  rw [hzl] at k0 hl hm
  have e2 : (zl : Int).tdiv 2 = ((zl / 2 : Nat) : Int) := by rw [Int.tdiv_eq_ediv_of_nonneg (by omega)]; omega
  have d1 : decide (((zl / 2 : Nat) : Int) < (gone : Int)) = false := by simp; omega
  clear h hc hzl
  go_enter Try.func26, Try.ntmps26
  go_wp2
  go_quiet (fail)
  go_wp2
  go_end0
  exact ⟨⟨_, rfl⟩, _, rfl⟩
theorem due_forget (g : Nat) (cs : Array Value) (D : Nat → Prop) (z : List Int) (gone : Nat) (a : Option Addr) (c : Nat) (p : Option Addr) (ls : List (List Int)) (w : World) (hc : Cel w g 52 cs) (h : DuX w D cs z gone a c p ls) (hD : ¬ D g) (hl : z.length ≤ 1000000) (hs : 3 ≤ cs.size) :
    Calls Try.prog 26 #[.pointer (some ⟨g, 0, none⟩)] w fun e w' => (∃ x, e = .returned x) ∧ DuPost g cs (z.drop gone ++ allS ls) D w w' := by
  by_cases hm : 2 * gone ≤ z.length
  · refine (due_forget_no g cs D z gone a c p ls w hc h hl hm).mono ?_
    rintro e w' ⟨hx, k, rfl⟩
    have hk : Keeps (fun j => j = g) w (w.drewN k) := .of_below (Below.drewN' (Below.refl _ _) k)
    exact ⟨hx, DuX.post (hc.drewN k) rfl (fun _ _ => rfl) ((h.keeps (F := fun _ => False) (.of_below (Below.drewN' (Below.refl _ _) k)) fun _ c => c.elim).weaken fun j hj _ => .inl hj) hm rfl hk⟩
  · exact due_forget_yes g cs D z gone a c p ls w hc h hD hl hs (by omega)
end Go.Proofs.Ytnjnfocpjmmibaa
