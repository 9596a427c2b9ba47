/- What must go: count, say. -/
import Derived.Test.YtnjnfocpjmmibaaQueB
import Derived.StillTailTactics
import Derived.OrdersHeld
namespace Go.Proofs.Ytnjnfocpjmmibaa
open Go.RowKit
set_option linter.unusedVariables false
set_option linter.unusedSimpArgs false

/-- Bytes that must go, as a queue's first cells tell them: what is left of z behind its first ones, then what is said. -/
structure DuX (w : World) (D : Nat → Prop) (cs : Array Value) (z : List Int) (gone : Nat) (a : Option Addr) (c : Nat) (p : Option Addr) (ls : List (List Int)) : Prop where
  c0 : cs[0]? = some (.slice a z.length c)
  c1 : cs[1]? = some (.int .i64 gone)
  c2 : cs[2]? = some (.pointer p)
  b : By22 w D a z.length c z
  s : SaidAt w D ls p
  f : a = none ∨ ∃ r, a = some ⟨r, 0, none⟩
  g : gone ≤ z.length
def DuC (w : World) (D : Nat → Prop) (cs : Array Value) (H : List Int) : Prop := ∃ z gone a c p ls, DuX w D cs z gone a c p ls ∧ 2 * gone ≤ z.length ∧ H = z.drop gone ++ allS ls
section
variable {w w' : World} {D E F : Nat → Prop} {cs cs' : Array Value} {z H : List Int} {gone c : Nat} {a p : Option Addr} {ls : List (List Int)}
theorem DuX.keeps (h : DuX w D cs z gone a c p ls) (hk : Keeps F w w') (hF : ∀ j, F j → ¬ D j) : DuX w' D cs z gone a c p ls := ⟨h.c0, h.c1, h.c2, h.b.keeps hk hF, h.s.keeps hk hF, h.f, h.g⟩
theorem DuX.weaken (h : DuX w D cs z gone a c p ls) (hD : ∀ j, D j → j < w.heap.size → E j) : DuX w E cs z gone a c p ls := ⟨h.c0, h.c1, h.c2, h.b.weaken hD, h.s.weaken hD, h.f, h.g⟩
theorem DuC.keeps (h : DuC w D cs H) (hk : Keeps F w w') (hF : ∀ j, F j → ¬ D j) : DuC w' D cs H := by
  obtain ⟨z, gone, a, c, p, ls, h1, h2⟩ := h
  exact ⟨z, gone, a, c, p, ls, h1.keeps hk hF, h2⟩
theorem DuC.weaken (h : DuC w D cs H) (hD : ∀ j, D j → j < w.heap.size → E j) : DuC w E cs H := by
  obtain ⟨z, gone, a, c, p, ls, h1, h2⟩ := h
  exact ⟨z, gone, a, c, p, ls, h1.weaken hD, h2⟩
theorem DuC.same (h : DuC w D cs H) (h0 : cs'[0]? = cs[0]?) (h1 : cs'[1]? = cs[1]?) (h2 : cs'[2]? = cs[2]?) : DuC w D cs' H := by
  obtain ⟨z, gone, a, c, p, ls, k, h3⟩ := h
  exact ⟨z, gone, a, c, p, ls, ⟨h0.trans k.c0, h1.trans k.c1, h2.trans k.c2, k.b, k.s, k.f, k.g⟩, h3⟩
end
theorem quiet22 {P : Program} {f : FuncId} {args : Array Value} {w : World} {n : Nat} {v : Value}
    (h : Calls P f args (w.drewN n) fun e w' => e = .returned v ∧ ∃ k, w' = (w.drewN n).drewN k) : Calls P f args (w.drewN n) fun e w'' => e = .returned v ∧ ∃ m, w'' = w.drewN m := by
  refine h.mono ?_
  rintro e w' ⟨he, k, rfl⟩
  exact ⟨he, n + k, by simp [World.drewN, Nat.add_assoc]⟩
set_option maxRecDepth 100000 in
set_option maxHeartbeats 1000000 in
theorem due_count (g : Nat) (cs : Array Value) (H : List Int) (D : Nat → Prop) (w : World) (hc : Cel w g 52 cs) (h : DuC w D cs H) (hl : H.length ≤ 500000) :
    Calls Try.prog 20 #[.pointer (some ⟨g, 0, none⟩)] w fun e w' => e = .returned (.int .i64 H.length) ∧ ∃ k, w' = w.drewN k := by
  obtain ⟨z, gone, a, c, p, ls, hx, h2, h3⟩ := h
  have hlen := congrArg List.length h3
  rw [List.length_append, List.length_drop] at hlen
  have hg := hx.g
  have k0 : w.cell? ⟨g, 0, none⟩ = some (.slice a z.length c) := (hc.cell 0).trans hx.c0
  have k1 : w.cell? ⟨g, 1, none⟩ = some (.int .i64 gone) := (hc.cell 1).trans hx.c1
  have k2 : w.cell? ⟨g, 2, none⟩ = some (.pointer p) := (hc.cell 2).trans hx.c2
  have HS : RowKit.Hid (∀ n, Calls Try.prog 24 #[.pointer p] (w.drewN n) fun e w' => e = .returned (.int .i64 (allS ls).length) ∧ w' = w.drewN n) :=
    fun n => (said_count p ls D (w.drewN n) (hx.s.below (Below.drewN' (Below.refl _ _) n)) (by omega)).mono fun _ _ h => ⟨h.1, h.2.symm⟩
  obtain ⟨N, hN⟩ : ∃ N, H.length = N := ⟨_, rfl⟩
  obtain ⟨M, hM⟩ : ∃ M, (allS ls).length = M := ⟨_, rfl⟩
  obtain ⟨zl, hzl⟩ : ∃ zl, z.length = zl := ⟨_, rfl⟩
  rw [hM, hN] at hlen
  rw [hM] at HS
  rw [hzl] at hlen hg k0
  rw [hN] at hl ⊢
  have e1 : IntKind.i64.wrap ((zl : Int) - (gone : Int)) = (zl : Int) - (gone : Int) := IntWalk.i64_in _ (by omega)
  have e2 : IntKind.i64.wrap ((zl : Int) - (gone : Int) + (M : Int)) = (N : Int) := (IntWalk.i64_in _ (by omega)).trans (by omega)
  clear hc hx h2 h3 hM hN hzl hlen
  go_enter Try.func20, Try.ntmps20
  go_wp2
  go_quiet ((go_at_call 24; exact Calls.quiet_of_same (HS.out _)))
  go_wp2
  go_ret
  exact ⟨rfl, _, rfl⟩
/-- What a call leaves of a queue: what must go is H now, all else is as it was. -/
def DuPost (g : Nat) (cs : Array Value) (H : List Int) (D : Nat → Prop) (w w' : World) : Prop :=
  ∃ cs', Cel w' g 52 cs' ∧ cs'.size = cs.size ∧ (∀ i, 3 ≤ i → cs'[i]? = cs[i]?) ∧ DuC w' (fun j => D j ∨ w.heap.size ≤ j) cs' H ∧ Keeps (fun j => j = g) w w'
set_option maxRecDepth 100000 in
set_option maxHeartbeats 1000000 in
theorem due_say (g : Nat) (cs : Array Value) (H : List Int) (D E : Nat → Prop) (a : Option Addr) (m c : Nat) (b : List Int) (w : World) (hc : Cel w g 52 cs) (h : DuC w D cs H) (hD : ¬ D g) (hb : By22 w E a m c b) (hl : H.length + m ≤ 500000) (hs : 3 ≤ cs.size) :
    Calls Try.prog 19 #[.pointer (some ⟨g, 0, none⟩), .slice a m c] w fun e w' => (∃ x, e = .returned x) ∧ DuPost g cs (H ++ b) D w w' := by
  obtain ⟨z, gone, a1, c1, p, ls, hx, h2, h3⟩ := h
  have hlen := congrArg List.length h3
  rw [List.length_append, List.length_drop] at hlen
  have hg := hx.g
  have k2 : w.cell? ⟨g, 2, none⟩ = some (.pointer p) := (hc.cell 2).trans hx.c2
  have HB := Lib.hid (said_behind p ls D E a m c b w hx.s hb (by omega))
  have HX : RowKit.Hid (DuX w D cs z gone a1 c1 p ls ∧ 2 * gone ≤ z.length ∧ H = z.drop gone ++ allS ls ∧ Cel w g 52 cs ∧ ¬ D g ∧ 3 ≤ cs.size) := ⟨hx, h2, h3, hc, hD, hs⟩
  clear hx h2 h3 hb hlen hg hc hD hs hl
  go_enter Try.func19, Try.ntmps19
  go_wp2_with (go_at_call 23; go_loud (refine HB.out.mono ?_); rintro e w2 ⟨p2, ls2, rfl, HP⟩; have HC2 := Lib.hid (HX.out.2.2.2.1.below HP.out.2.2); have f2 := HC2.out.frozen 2; have k3 := HC2.out.cell 2; rw [HX.out.1.c2] at k3)
  go_end0
  obtain ⟨x1, x2, x3, x4, x5, x6⟩ := HX.out
  obtain ⟨p1, p2', p3⟩ := HP.out
  have hgl := x4.lt
  have kk : Keeps (fun j => j = g) w2 (w2.setCell ⟨g, 2, none⟩ (.pointer p2)) := Keeps.setCell (F := fun j => j = g) (Keeps.refl _ w2) (p := ⟨g, 2, none⟩) (.inl rfl) _
  have hnd : ∀ j, j = g → ¬ (D j ∨ w.heap.size ≤ j) := by
    rintro j rfl (hj | hj)
    · exact x5 hj
    · omega
  have x7 := ((x1.keeps (F := fun _ => False) (.of_below p3) fun _ c => c.elim).weaken (E := fun j => D j ∨ w.heap.size ≤ j) fun j hj _ => .inl hj).keeps kk hnd
  refine ⟨⟨_, rfl⟩, cs.setIfInBounds 2 (.pointer p2), HC2.out.set_ 2 _, by simp, fun i hi => Array.getElem?_setIfInBounds_ne (by omega), ⟨z, gone, a1, c1, p2, ls2, ⟨?_, ?_, ?_, x7.b, p1.keeps kk hnd, x7.f, x7.g⟩, x2, ?_⟩, (Keeps.of_below p3).trans kk⟩
  · rw [Array.getElem?_setIfInBounds_ne (by omega)]; exact x1.c0
  · rw [Array.getElem?_setIfInBounds_ne (by omega)]; exact x1.c1
  · rw [Array.getElem?_setIfInBounds_self_of_lt (by omega)]
  · rw [x3, List.append_assoc, p2']
end Go.Proofs.Ytnjnfocpjmmibaa
