/- begin. -/
import Derived.Test.YtnjnfocpjmmibaaQueH
namespace Go.Proofs.Ytnjnfocpjmmibaa
open Go.RowKit
set_option linter.unusedVariables false
set_option linter.unusedSimpArgs false

def nextA (cs : Array Value) (f m : Nat) : Array Value := ((cs.setIfInBounds (4 + f) (.slice none 0 0)).setIfInBounds 260 (.int .i64 (((f + 1) % 256 : Nat) : Int))).setIfInBounds 261 (.int .i64 (m : Int))
theorem QuX.next {w w' : World} {D : Nat → Prop} {n f : Nat} {q : Q22} {cs : Array Value} {p : List Int} {l : List (List Int)} (h : QuX w D n q cs f) (hl : q.l = p :: l) (hn : q.l.length ≤ 256) {F : Nat → Prop} (hk : Keeps F w w') (hF : ∀ j, F j → ¬ D j) :
    QuX w' D n ⟨q.head, l, q.drops, q.lost⟩ (nextA cs f l.length) ((f + 1) % 256) := by
  have hs := h.size
  have hf := h.f256
  have hll : q.l.length = l.length + 1 := by rw [hl]; rfl
  have hlow : ∀ i, i < 4 ∨ i = 262 ∨ i = 263 → (nextA cs f l.length)[i]? = cs[i]? := by
    intro i hi
    unfold nextA
    rw [Array.getElem?_setIfInBounds_ne (by omega), Array.getElem?_setIfInBounds_ne (by omega), Array.getElem?_setIfInBounds_ne (by omega)]
  have h2 := h.keeps hk hF
  refine ⟨by unfold nextA; simp [hs], h2.must.same (hlow 0 (by omega)) (hlow 1 (by omega)) (hlow 2 (by omega)), (hlow 3 (by omega)).trans h.room, ?_, ?_, (hlow 262 (by omega)).trans h.drops, (hlow 263 (by omega)).trans h.lost, Nat.mod_lt _ (by omega), fun i p' hp => ?_⟩
  · unfold nextA
    rw [Array.getElem?_setIfInBounds_ne (by omega), Array.getElem?_setIfInBounds_self_of_lt (by simp [hs])]
  · unfold nextA
    rw [Array.getElem?_setIfInBounds_self_of_lt (by simp [hs])]
  · have hi0 := (List.getElem?_eq_some_iff.1 hp).1
    simp only at hi0
    obtain ⟨a', c', k1, k2⟩ := h2.pk (i + 1) p' (by rw [hl]; exact hp)
    have hi1 : (f + (i + 1)) % 256 < 256 := Nat.mod_lt _ (by omega)
    have e1 : ((f + 1) % 256 + i) % 256 = (f + (i + 1)) % 256 := by omega
    refine ⟨a', c', ?_, k2⟩
    rw [e1]
    unfold nextA
    rw [Array.getElem?_setIfInBounds_ne (by omega), Array.getElem?_setIfInBounds_ne (by omega), Array.getElem?_setIfInBounds_ne (by omega)]
    exact k1
theorem quBegin_none (g n : Nat) (q : Q22) (D : Nat → Prop) (w : World) (h : QuAt w g n q D) (hl : q.l = []) :
    Calls Try.prog 21 #[.pointer (some ⟨g, 0, none⟩)] w fun e w' => e = .returned (.bool false) ∧ w' = w := by
  obtain ⟨cs, f, h1, h2⟩ := h.c
  have k0 : w.cell? ⟨g, 261, none⟩ = some (.int .i64 0) := (h1.cell 261).trans (by rw [h2.count, hl]; rfl)
  clear h h1 h2
  go_enter Try.func21, Try.ntmps21
  go_wp2
  go_ret
  exact ⟨rfl, rfl⟩
set_option maxRecDepth 100000 in
set_option maxHeartbeats 2000000 in
theorem quBegin_some (g n : Nat) (q : Q22) (D : Nat → Prop) (p : List Int) (l : List (List Int)) (w : World) (h : QuAt w g n q D) (hl : q.l = p :: l) (hb : q.head.length + p.length ≤ 400000) :
    Calls Try.prog 21 #[.pointer (some ⟨g, 0, none⟩)] w fun e w' => e = .returned (.bool true) ∧ QuAt w' g n ⟨q.head ++ p, l, q.drops, q.lost⟩ (fun j => D j ∨ w.heap.size ≤ j) ∧ Keeps (fun j => j = g) w w' := by
  obtain ⟨cs, f, h1, h2⟩ := h.c
  have hlen := h.len
  have n2 := h.n2
  obtain ⟨a, c, k1, k2⟩ := h2.pk 0 p (by rw [hl]; rfl)
  have hf := h2.f256
  have e0 : (f + 0) % 256 = f := by omega
  rw [e0] at k1
  have z1 : w.cell? ⟨g, 4 + f, none⟩ = some (.slice a p.length c) := (h1.cell _).trans k1
  have z0 : w.cell? ⟨g, 260, none⟩ = some (.int .i64 f) := (h1.cell 260).trans h2.first
  obtain ⟨M, hM⟩ : ∃ M, l.length = M := ⟨_, rfl⟩
  have hll : q.l.length = M + 1 := by rw [hl, ← hM]; rfl
  have HL : RowKit.Hid (q.l = p :: l ∧ l.length = M ∧ q.l.length = M + 1) := ⟨hl, hM, hll⟩
  have z2 : w.cell? ⟨g, 261, none⟩ = some (.int .i64 ((M : Int) + 1)) := (h1.cell 261).trans (by rw [h2.count, hll]; rfl)
  have q0 : ((M : Int) + 1 == 0) = false := by simp; omega
  have qf : (f : Int) < 256 := by omega
  have HQ := Lib.hid h
  have HSy := Lib.hid (quSay_any g n q D D a p.length c p w.drew (h.below (Below.drewN' (Below.refl _ _) 1)) (k2.below (Below.drewN' (Below.refl _ _) 1)) hb)
  have hMn : M + 1 ≤ n := by omega
  clear h h1 h2 hl hb k1 k2 e0 hM hll hlen
  go_enter Try.func21, Try.ntmps21
  go_wp2
  go_still_tail 10, (by kernel_rfl)
  change wpList _ _ _ _ _ w.drew
  go_wp2_with (go_at_call 11; go_loud (refine HSy.out.mono ?_); rintro e w2 ⟨⟨x2, rfl⟩, hq2, hk2⟩; obtain ⟨cs2, f2, c2, x2⟩ := hq2.c; have HQ2 := Lib.hid hq2; have HK2 := Lib.hid hk2; have HC2 := Lib.hid c2; have HX2 := Lib.hid x2; have hf2 := x2.f256; have y0 : w2.cell? ⟨g, 260, none⟩ = some (.int .i64 f2) := (c2.cell 260).trans x2.first; have y2 : w2.cell? ⟨g, 261, none⟩ = some (.int .i64 ((M : Int) + 1)) := (c2.cell 261).trans (x2.count.trans (by show some (Value.int .i64 (q.l.length : Int)) = _; rw [HL.out.2.2]; rfl)); have ys : cs2.size = 264 := x2.size; clear hq2 hk2 c2 x2)
  have qf2 : (f2 : Int) < 256 := by omega
  have u1 := HC2.out.frozen (4 + f2)
  have u2 := HC2.out.frozen 260
  have u3 := HC2.out.frozen 261
  have y1 : ∃ v, w2.cell? ⟨g, 4 + f2, none⟩ = some v := ⟨_, (HC2.out.cell _).trans (Array.getElem?_eq_getElem (by omega))⟩
  obtain ⟨v1, y1⟩ := y1
  have HSl : RowKit.Hid (Calls Try.prog 18 #[.pointer (some ⟨g, 0, none⟩), .int .i64 1] (w2.setCell ⟨g, 4 + f2, none⟩ (.slice none 0 0)).drew fun e w' => e = .returned (.int .i64 (((f2 + 1) % 256 : Nat) : Int)) ∧ w' = (w2.setCell ⟨g, 4 + f2, none⟩ (.slice none 0 0)).drew) := by
    refine Lib.hid ((quSlot_any g f2 1 _ ?_ hf2 (by omega)).mono fun _ _ h => ⟨h.1, h.2.symm⟩)
    refine ((HC2.out.set_ (4 + f2) (.slice none 0 0)).drewN 1).cell 260 |>.trans ?_
    rw [Array.getElem?_setIfInBounds_ne (by omega)]
    exact HX2.out.first
  have e3 : IntKind.i64.wrap ((M : Int) + 1 - 1) = (M : Int) := (IntWalk.i64_in _ (by omega)).trans (by omega)
  clear z0 z1 z2 q0 qf ys
  go_still_tail 8, (by kernel_rfl)
  change wpList _ _ _ _ _ w2.drew
  go_wp2_with (go_at_call 18; go_loud (refine HSl.out.mono ?_); rintro e w3 ⟨rfl, rfl⟩)
  go_ret
  have hk4 : Keeps (fun j => j = g) w2 _ := ((((Keeps.refl (fun j => j = g) w2).setCell (p := ⟨g, 4 + f2, none⟩) (.inl rfl) (.slice none 0 0)).setCell (p := ⟨g, 260, none⟩) (.inl rfl) (.int .i64 (((f2 + 1) % 256 : Nat) : Int))).setCell (p := ⟨g, 261, none⟩) (.inl rfl) (.int .i64 (M : Int))).drewN 1
  have hc4 := (((HC2.out.set_ (4 + f2) (.slice none 0 0)).set_ 260 (.int .i64 (((f2 + 1) % 256 : Nat) : Int))).set_ 261 (.int .i64 (M : Int))).drewN 1
  have x4 := HX2.out.next (l := l) (p := p) HL.out.1 (by show q.l.length ≤ 256; have := HL.out.2.2; omega) hk4 fun j e hj => HQ2.out.dg (e ▸ hj)
  rw [HL.out.2.1] at x4
  have hgl := HQ.out.lt
  exact ⟨rfl, ⟨HQ.out.n1, HQ.out.n2, by have := HL.out.2.1; simp; omega, fun hj => (by rcases hj with hj | hj; exact HQ.out.dg hj; omega), _, _, hc4, x4⟩, ((Keeps.drewN (Keeps.refl _ w) 1).trans HK2.out).trans hk4⟩
end Go.Proofs.Ytnjnfocpjmmibaa
