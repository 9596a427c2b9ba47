/- What must go: take. -/
import Derived.Test.YtnjnfocpjmmibaaQueD
namespace Go.Proofs.Ytnjnfocpjmmibaa
open Go.RowKit
set_option linter.unusedVariables false
set_option linter.unusedSimpArgs false

/-- How take stands: bytes to go in the first cells, all in all H. -/
structure TkSt (w : World) (D : Nat → Prop) (g : Nat) (cs : Array Value) (H : List Int) (W : World) (cs2 : Array Value) (z : List Int) (gone : Nat) (a : Option Addr) (c : Nat) (p : Option Addr) (ls : List (List Int)) : Prop where
  hc : Cel W g 52 cs2
  hx : DuX W (fun j => D j ∨ w.heap.size ≤ j) cs2 z gone a c p ls
  hs : cs2.size = cs.size
  hi : ∀ i, 3 ≤ i → cs2[i]? = cs[i]?
  hH : H = z.drop gone ++ allS ls
  h2 : 2 * gone ≤ z.length
  h0 : z = [] → H = []
  hk : Keeps (fun j => j = g) w W
  hD : ¬ D g
  h3 : 3 ≤ cs.size
  hg : g < w.heap.size
  hl : z.length ≤ 1000000
/-- What take gives. -/
def TakePost (g : Nat) (cs : Array Value) (H : List Int) (n : Nat) (D : Nat → Prop) (w : World) (x : Ending) (w' : World) : Prop :=
  ∃ t rest a m c, x = .returned (.slice a m c) ∧ m = t.length ∧ H = t ++ rest ∧ t.length ≤ n ∧ (H ≠ [] → t ≠ []) ∧ RowKit.Hid (By22 w' (fun j => D j ∨ w.heap.size ≤ j) a m c t ∧ DuPost g cs rest D w w')
theorem TkSt.forget {w W : World} {D : Nat → Prop} {g gone c : Nat} {cs cs2 : Array Value} {H z : List Int} {a p : Option Addr} {ls : List (List Int)} (h : TkSt w D g cs H W cs2 z gone a c p ls) (k : Nat) (hk : gone + k ≤ z.length) (N : Nat) (v : Int) (hv : v = ((gone + k : Nat) : Int)) :
    Calls Try.prog 26 #[.pointer (some ⟨g, 0, none⟩)] ((W.drewN N).setCell ⟨g, 1, none⟩ (.int .i64 v)) fun e w' => (∃ x, e = .returned x) ∧ RowKit.Hid (DuPost g cs (z.drop (gone + k) ++ allS ls) D w w' ∧ Keeps (fun j => j = g) W w') := by
  subst hv
  obtain ⟨W3, hW3⟩ : ∃ W3, (W.drewN N).setCell ⟨g, 1, none⟩ (.int .i64 ((gone + k : Nat) : Int)) = W3 := ⟨_, rfl⟩
  have k3 : Keeps (fun j => j = g) W W3 := by
    rw [← hW3]
    exact Keeps.setCell (F := fun j => j = g) (Keeps.drewN (Keeps.refl _ W) N) (p := ⟨g, 1, none⟩) (.inl rfl) _
  have c3 : Cel W3 g 52 (cs2.setIfInBounds 1 (.int .i64 ((gone + k : Nat) : Int))) := by rw [← hW3]; exact (h.hc.drewN N).set_ 1 _
  have hsz := h.hs
  have h3 := h.h3
  have hgl := h.hg
  have hnd : ∀ j, j = g → ¬ (D j ∨ w.heap.size ≤ j) := by
    rintro j rfl (hj | hj)
    · exact h.hD hj
    · omega
  have x3 : DuX W3 (fun j => D j ∨ w.heap.size ≤ j) (cs2.setIfInBounds 1 (.int .i64 ((gone + k : Nat) : Int))) z (gone + k) a c p ls := by
    have x := h.hx.keeps k3 hnd
    refine ⟨?_, ?_, ?_, x.b, x.s, x.f, hk⟩
    · rw [Array.getElem?_setIfInBounds_ne (by omega)]; exact x.c0
    · rw [Array.getElem?_setIfInBounds_self_of_lt (by omega)]
    · rw [Array.getElem?_setIfInBounds_ne (by omega)]; exact x.c2
  rw [hW3]
  refine (due_forget g _ _ z (gone + k) a c p ls W3 c3 x3 (fun hj => hnd g rfl hj) h.hl (by simp; omega)).mono ?_
  rintro e w' ⟨hx, cs', d1, d2, d3, d4, d5⟩
  have hsW := h.hk.size
  have hs3 := k3.size
  refine ⟨hx, ⟨cs', d1, d2.trans (by simp; omega), fun i hi => (d3 i hi).trans ?_, d4.weaken fun j hj _ => ?_, (h.hk.trans k3).trans d5⟩, k3.trans d5⟩
  · rw [Array.getElem?_setIfInBounds_ne (by omega)]
    exact h.hi i hi
  · rcases hj with hj | hj
    · exact hj
    · exact .inr (by omega)
/-- The end of it: k bytes are taken. -/
theorem TkSt.done {w W w' : World} {D : Nat → Prop} {g gone c n k m c' : Nat} {cs cs2 : Array Value} {H z : List Int} {a p a' : Option Addr} {ls : List (List Int)} (h : TkSt w D g cs H W cs2 z gone a c p ls) (hk : gone + k ≤ z.length) (hp : DuPost g cs (z.drop (gone + k) ++ allS ls) D w w') (hkp : Keeps (fun j => j = g) W w') (hm : m = k) (hkn : k ≤ n) (hk0 : z ≠ [] → 0 < k)
    (hb : By22 W (fun j => D j ∨ w.heap.size ≤ j) a' m c' ((z.drop gone).take k)) : TakePost g cs H n D w (.returned (.slice a' m c')) w' := by
  have hgl := h.hg
  have hnd : ∀ j, j = g → ¬ (D j ∨ w.heap.size ≤ j) := by
    rintro j rfl (hj | hj)
    · exact h.hD hj
    · omega
  have hkl : ((z.drop gone).take k).length = k := by simp; omega
  refine ⟨(z.drop gone).take k, z.drop (gone + k) ++ allS ls, a', m, c', rfl, by omega, ?_, by omega, fun hne e => ?_, hb.keeps hkp hnd, hp⟩
  · rw [h.hH, ← List.append_assoc]
    congr 1
    rw [← List.drop_drop, List.take_append_drop]
  · have hz : z ≠ [] := fun e => hne (h.h0 e)
    have := hk0 hz
    rw [e] at hkl
    simp at hkl
    omega
/-- All that was said is to go now. -/
theorem TkSt.all {w w2 : World} {D : Nat → Prop} {g c m2 c2 : Nat} {cs : Array Value} {H : List Int} {a p a2 : Option Addr} {ls : List (List Int)} (hc : Cel w g 52 cs) (hx : DuX w D cs [] 0 a c p ls) (hD : ¬ D g) (hs : 3 ≤ cs.size) (hH : H = allS ls) (hl : H.length ≤ 400000) (hm : m2 = (allS ls).length) (ho : w2.ownsRow w.heap.size 5 1 (.slice a2 m2 c2) m2 ((allS ls).map (Value.int .u8))) (hb : Below w.heap.size w w2) :
    TkSt w D g cs H ((w2.setCell ⟨g, 0, none⟩ (.slice a2 m2 c2)).setCell ⟨g, 2, none⟩ (.pointer none)) ((cs.setIfInBounds 0 (.slice a2 m2 c2)).setIfInBounds 2 (.pointer none)) (allS ls) 0 a2 c2 none [] := by
  subst hm
  have hgl := hc.lt
  have k1 : Keeps (fun j => j = g) w2 (w2.setCell ⟨g, 0, none⟩ (.slice a2 (allS ls).length c2)) := Keeps.setCell (F := fun j => j = g) (Keeps.refl _ w2) (p := ⟨g, 0, none⟩) (.inl rfl) _
  have kk := Keeps.setCell (F := fun j => j = g) k1 (p := ⟨g, 2, none⟩) (.inl rfl) (.pointer none)
  have hnd : ∀ j, j = g → ¬ (D j ∨ w.heap.size ≤ j) := by
    rintro j rfl (hj | hj)
    · exact hD hj
    · omega
  have b7 := ((By22.own ho).weaken (E := fun j => D j ∨ w.heap.size ≤ j) fun j hj _ => .inr hj).keeps kk hnd
  refine ⟨((hc.below hb).set_ 0 _).set_ 2 _, ⟨?_, ?_, ?_, b7, rfl, ?_, by omega⟩, by simp, fun i hi => ?_, by rw [hH]; simp [allS], by omega, fun e => by rw [hH, e], (Keeps.of_below hb).trans kk, hD, hs, hgl, by rw [← hH]; omega⟩
  · rw [Array.getElem?_setIfInBounds_ne (by omega), Array.getElem?_setIfInBounds_self_of_lt (by omega)]
  · rw [Array.getElem?_setIfInBounds_ne (by omega), Array.getElem?_setIfInBounds_ne (by omega)]; exact hx.c1
  · rw [Array.getElem?_setIfInBounds_self_of_lt (by simp; omega)]
  · rcases ho.2 with ⟨e, _⟩ | ⟨g', cap, cur, e, _⟩
    · injection e with e1 e2 e3
      exact .inl e1
    · injection e with e1 e2 e3
      exact .inr ⟨g', e1⟩
  · rw [Array.getElem?_setIfInBounds_ne (by omega), Array.getElem?_setIfInBounds_ne (by omega)]
set_option maxRecDepth 100000 in
set_option maxHeartbeats 1000000 in
theorem due_take (g : Nat) (cs : Array Value) (H : List Int) (D : Nat → Prop) (n : Nat) (w : World) (hc : Cel w g 52 cs) (h : DuC w D cs H) (hD : ¬ D g) (hs : 3 ≤ cs.size) (hl : H.length ≤ 400000) (hn : 1 ≤ n) (hn2 : n ≤ 2000000) :
    Calls Try.prog 22 #[.pointer (some ⟨g, 0, none⟩), .int .i64 n] w (TakePost g cs H n D w) := by
  obtain ⟨z, gone, a, c, p, ls, hx, h2, h3⟩ := h
  have hlen := congrArg List.length h3
  rw [List.length_append, List.length_drop] at hlen
  have hg := hx.g
  have k0 : w.cell? ⟨g, 0, none⟩ = some (.slice a z.length c) := (hc.cell 0).trans hx.c0
  have k1 : w.cell? ⟨g, 1, none⟩ = some (.int .i64 gone) := (hc.cell 1).trans hx.c1
  have k2 : w.cell? ⟨g, 2, none⟩ = some (.pointer p) := (hc.cell 2).trans hx.c2
  have hgl := hc.lt
  by_cases hz : z = []
  · subst hz
    have hg0 : gone = 0 := by simp at h2; omega
    subst hg0
    have hH : H = allS ls := by rw [h3]; rfl
    have HX : RowKit.Hid (Cel w g 52 cs ∧ DuX w D cs [] 0 a c p ls ∧ ¬ D g ∧ 3 ≤ cs.size ∧ H = allS ls ∧ H.length ≤ 400000) := ⟨hc, hx, hD, hs, hH, hl⟩
    have HA := Lib.hid (said_all p ls D w hx.s (by rw [← hH]; omega))
    obtain ⟨M, hM⟩ : ∃ M, (allS ls).length = M := ⟨_, rfl⟩
    have HL := Lib.hid hM
    have hMl : M ≤ 400000 := by rw [← hM, ← hH]; exact hl
    have k0 : w.cell? ⟨g, 0, none⟩ = some (.slice a 0 c) := k0
    have f0 := hc.frozen 0
    have f2 := hc.frozen 2
    clear hx hc h2 h3 hlen hs hD hl hH hM hg
    by_cases hM0 : M = 0
    · subst hM0
      have hn0 : ¬ (n : Int) < 0 := by omega
      go_enter Try.func22, Try.ntmps22
      go_wp2_with (go_at_call 25; go_loud (refine HA.out.mono ?_); rintro e w2 ⟨a2, m2, c2, rfl, hm2, HO⟩; have HT := Lib.hid (TkSt.all HX.out.1 HX.out.2.1 HX.out.2.2.1 HX.out.2.2.2.1 HX.out.2.2.2.2.1 HX.out.2.2.2.2.2 hm2 HO.out.1 HO.out.2); have hm3 := hm2.trans HL.out; clear hm2; subst hm3; have hcap := HT.out.hx.b.hc; rw [HL.out] at hcap; have hfm := HT.out.hx.f; have HCy := Lib.hid (HX.out.1.below HO.out.2); have f0 := HCy.out.frozen 0; have f1 := HCy.out.frozen 1; have f2 := HCy.out.frozen 2; have y0 := HCy.out.cell 0; have y1 := HCy.out.cell 1; have y2 := HCy.out.cell 2; rw [HX.out.2.1.c0] at y0; rw [HX.out.2.1.c1] at y1; rw [HX.out.2.1.c2] at y2)
      rcases hfm with rfl | ⟨r, rfl⟩
      · obtain rfl : c2 = 0 := HT.out.hx.b.none_.2.1
        obtain ⟨W2, hW2⟩ : ∃ W2, (w2.setCell ⟨g, 0, none⟩ (.slice none 0 0)).setCell ⟨g, 2, none⟩ (.pointer none) = W2 := ⟨_, rfl⟩
        rw [hW2] at HT ⊢
        have z0 : W2.cell? ⟨g, 0, none⟩ = some (.slice none 0 0) := (HT.out.hc.cell 0).trans (by rw [HT.out.hx.c0, HL.out])
        have z1 : W2.cell? ⟨g, 1, none⟩ = some (.int .i64 0) := (HT.out.hc.cell 1).trans HT.out.hx.c1
        have z2 := HT.out.hc.frozen 1
        have HF := Lib.hid (fun N => HT.out.forget 0 (by have := HL.out; omega) N (0 : Int) (by omega))
        have HB : RowKit.Hid (By22 W2 (fun j => D j ∨ w.heap.size ≤ j) (none) 0 0 (((allS ls).drop 0).take 0)) := by
          refine Lib.hid ?_
          have := HT.out.hx.b
          have e : allS ls = [] := List.eq_nil_of_length_eq_zero HL.out
          rw [e] at this ⊢
          exact this
        clear f0 f1 f2 y0 y1 y2 HA HO HCy HX
        have hw : ∀ x : Nat, IntKind.i64.wrap (0 + (x : Int)) = IntKind.i64.wrap (x : Int) := fun x => by rw [Int.zero_add]
        have e1 : IntKind.i64.wrap (0 : Int) = (0 : Int) := IntWalk.i64_in _ (by omega)
        go_quiet (fail)
        go_wp2_with (go_at_call 26; go_loud (refine (HF.out nq).mono ?_); rintro e w4 ⟨⟨x4, rfl⟩, HP⟩)
        all_goals
          go_ret
          exact HT.out.done (k := 0) (by have := HL.out; omega) HP.out.1 HP.out.2 rfl (by omega) (fun hne => by have := List.length_pos_iff.2 hne; rw [HL.out] at this; omega) HB.out
      · 
        obtain ⟨W2, hW2⟩ : ∃ W2, (w2.setCell ⟨g, 0, none⟩ (.slice (some ⟨r, 0, none⟩) 0 c2)).setCell ⟨g, 2, none⟩ (.pointer none) = W2 := ⟨_, rfl⟩
        rw [hW2] at HT ⊢
        have z0 : W2.cell? ⟨g, 0, none⟩ = some (.slice (some ⟨r, 0, none⟩) 0 c2) := (HT.out.hc.cell 0).trans (by rw [HT.out.hx.c0, HL.out])
        have z1 : W2.cell? ⟨g, 1, none⟩ = some (.int .i64 0) := (HT.out.hc.cell 1).trans HT.out.hx.c1
        have z2 := HT.out.hc.frozen 1
        have HF := Lib.hid (fun N => HT.out.forget 0 (by have := HL.out; omega) N (0 : Int) (by omega))
        have HB : RowKit.Hid (By22 W2 (fun j => D j ∨ w.heap.size ≤ j) ((some ⟨r, 0, none⟩)) 0 c2 (((allS ls).drop 0).take 0)) := by
          refine Lib.hid ?_
          have := HT.out.hx.b.sub 0 0 (by have := HL.out; omega)
          simpa [HL.out] using this
        clear f0 f1 f2 y0 y1 y2 HA HO HCy HX
        have hw : ∀ x : Nat, IntKind.i64.wrap (0 + (x : Int)) = IntKind.i64.wrap (x : Int) := fun x => by rw [Int.zero_add]
        have e1 : IntKind.i64.wrap (0 : Int) = (0 : Int) := IntWalk.i64_in _ (by omega)
        go_quiet (fail)
        go_wp2_with (go_at_call 26; go_loud (refine (HF.out nq).mono ?_); rintro e w4 ⟨⟨x4, rfl⟩, HP⟩)
        all_goals
          go_ret
          exact HT.out.done (k := 0) (by have := HL.out; omega) HP.out.1 HP.out.2 rfl (by omega) (fun hne => by have := List.length_pos_iff.2 hne; rw [HL.out] at this; omega) HB.out
    · by_cases hkn : M < n
      · go_enter Try.func22, Try.ntmps22
        go_wp2_with (go_at_call 25; go_loud (refine HA.out.mono ?_); rintro e w2 ⟨a2, m2, c2, rfl, hm2, HO⟩; have HT := Lib.hid (TkSt.all HX.out.1 HX.out.2.1 HX.out.2.2.1 HX.out.2.2.2.1 HX.out.2.2.2.2.1 HX.out.2.2.2.2.2 hm2 HO.out.1 HO.out.2); have hm3 := hm2.trans HL.out; clear hm2; subst hm3; have hcap := HT.out.hx.b.hc; rw [HL.out] at hcap; have hfm := HT.out.hx.f; have HCy := Lib.hid (HX.out.1.below HO.out.2); have f0 := HCy.out.frozen 0; have f1 := HCy.out.frozen 1; have f2 := HCy.out.frozen 2; have y0 := HCy.out.cell 0; have y1 := HCy.out.cell 1; have y2 := HCy.out.cell 2; rw [HX.out.2.1.c0] at y0; rw [HX.out.2.1.c1] at y1; rw [HX.out.2.1.c2] at y2; obtain ⟨r, rfl⟩ : ∃ r, a2 = some ⟨r, 0, none⟩ := (by rcases hfm with h0 | h0; (exfalso; have := HT.out.hx.b; rw [h0] at this; have h5 := this.none_.1; rw [HL.out] at h5; omega); exact h0); clear hfm)
        obtain ⟨W2, hW2⟩ : ∃ W2, (w2.setCell ⟨g, 0, none⟩ (.slice (some ⟨r, 0, none⟩) m2 c2)).setCell ⟨g, 2, none⟩ (.pointer none) = W2 := ⟨_, rfl⟩
        rw [hW2] at HT ⊢
        have z0 : W2.cell? ⟨g, 0, none⟩ = some (.slice (some ⟨r, 0, none⟩) m2 c2) := (HT.out.hc.cell 0).trans (by rw [HT.out.hx.c0, HL.out])
        have z1 : W2.cell? ⟨g, 1, none⟩ = some (.int .i64 0) := (HT.out.hc.cell 1).trans HT.out.hx.c1
        have z2 := HT.out.hc.frozen 1
        have HF := Lib.hid (fun N => HT.out.forget m2 (by have := HL.out; omega) N (m2 : Int) (by omega))
        have HB : RowKit.Hid (By22 W2 (fun j => D j ∨ w.heap.size ≤ j) ((some ⟨r, 0, none⟩)) m2 c2 (((allS ls).drop 0).take m2)) := by
          refine Lib.hid ?_
          have := HT.out.hx.b.sub 0 m2 (by have := HL.out; omega)
          simpa [HL.out] using this
        clear f0 f1 f2 y0 y1 y2 HA HO HCy HX
        have hw : ∀ x : Nat, IntKind.i64.wrap (0 + (x : Int)) = IntKind.i64.wrap (x : Int) := fun x => by rw [Int.zero_add]
        have e1 : IntKind.i64.wrap (m2 : Int) = (m2 : Int) := IntWalk.i64_in _ (by omega)
        go_quiet (fail)
        go_wp2_with (go_at_call 26; go_loud (refine (HF.out nq).mono ?_); rintro e w4 ⟨⟨x4, rfl⟩, HP⟩)
        all_goals
          go_ret
          exact HT.out.done (k := m2) (by have := HL.out; omega) HP.out.1 HP.out.2 rfl (by omega) (fun hne => by have := List.length_pos_iff.2 hne; rw [HL.out] at this; omega) HB.out
      · go_enter Try.func22, Try.ntmps22
        go_wp2_with (go_at_call 25; go_loud (refine HA.out.mono ?_); rintro e w2 ⟨a2, m2, c2, rfl, hm2, HO⟩; have HT := Lib.hid (TkSt.all HX.out.1 HX.out.2.1 HX.out.2.2.1 HX.out.2.2.2.1 HX.out.2.2.2.2.1 HX.out.2.2.2.2.2 hm2 HO.out.1 HO.out.2); have hm3 := hm2.trans HL.out; clear hm2; subst hm3; have hcap := HT.out.hx.b.hc; rw [HL.out] at hcap; have hfm := HT.out.hx.f; have HCy := Lib.hid (HX.out.1.below HO.out.2); have f0 := HCy.out.frozen 0; have f1 := HCy.out.frozen 1; have f2 := HCy.out.frozen 2; have y0 := HCy.out.cell 0; have y1 := HCy.out.cell 1; have y2 := HCy.out.cell 2; rw [HX.out.2.1.c0] at y0; rw [HX.out.2.1.c1] at y1; rw [HX.out.2.1.c2] at y2; obtain ⟨r, rfl⟩ : ∃ r, a2 = some ⟨r, 0, none⟩ := (by rcases hfm with h0 | h0; (exfalso; have := HT.out.hx.b; rw [h0] at this; have h5 := this.none_.1; rw [HL.out] at h5; omega); exact h0); clear hfm)
        obtain ⟨W2, hW2⟩ : ∃ W2, (w2.setCell ⟨g, 0, none⟩ (.slice (some ⟨r, 0, none⟩) m2 c2)).setCell ⟨g, 2, none⟩ (.pointer none) = W2 := ⟨_, rfl⟩
        rw [hW2] at HT ⊢
        have z0 : W2.cell? ⟨g, 0, none⟩ = some (.slice (some ⟨r, 0, none⟩) m2 c2) := (HT.out.hc.cell 0).trans (by rw [HT.out.hx.c0, HL.out])
        have z1 : W2.cell? ⟨g, 1, none⟩ = some (.int .i64 0) := (HT.out.hc.cell 1).trans HT.out.hx.c1
        have z2 := HT.out.hc.frozen 1
        have HF := Lib.hid (fun N => HT.out.forget n (by have := HL.out; omega) N (n : Int) (by omega))
        have HB : RowKit.Hid (By22 W2 (fun j => D j ∨ w.heap.size ≤ j) ((some ⟨r, 0, none⟩)) n c2 (((allS ls).drop 0).take n)) := by
          refine Lib.hid ?_
          have := HT.out.hx.b.sub 0 n (by have := HL.out; omega)
          simpa [HL.out] using this
        clear f0 f1 f2 y0 y1 y2 HA HO HCy HX
        have hw : ∀ x : Nat, IntKind.i64.wrap (0 + (x : Int)) = IntKind.i64.wrap (x : Int) := fun x => by rw [Int.zero_add]
        have e1 : IntKind.i64.wrap (n : Int) = (n : Int) := IntWalk.i64_in _ (by omega)
        go_quiet (fail)
        go_wp2_with (go_at_call 26; go_loud (refine (HF.out nq).mono ?_); rintro e w4 ⟨⟨x4, rfl⟩, HP⟩)
        all_goals
          go_ret
          exact HT.out.done (k := n) (by have := HL.out; omega) HP.out.1 HP.out.2 rfl (by omega) (fun hne => by have := List.length_pos_iff.2 hne; rw [HL.out] at this; omega) HB.out
  · have hz1 : 0 < z.length := List.length_pos_iff.2 hz
    have HT : RowKit.Hid (TkSt w D g cs H w cs z gone a c p ls) := ⟨hc, hx.weaken fun j hj _ => .inl hj, rfl, fun _ _ => rfl, h3, h2, fun e => absurd e hz, Keeps.refl _ _, hD, hs, hgl, by omega⟩
    have hcz := hx.b.hc
    obtain ⟨r, rfl⟩ : ∃ r, a = some ⟨r, 0, none⟩ := by
      rcases hx.f with h0 | h0
      · subst h0
        have := hx.b.none_.1
        omega
      · exact h0
    obtain ⟨zl, hzl⟩ : ∃ zl, z.length = zl := ⟨_, rfl⟩
    have HZ := Lib.hid hzl
    have hll : zl ≤ 1000000 := by omega
    rw [hzl] at k0 hz1 hcz hg h2
    have q0 : (zl == 0) = false := by simp; omega
    have f1 := hc.frozen 1
    clear hx h3 hz hzl hlen hc hs hD hl
    by_cases hkn : zl - gone < n
    · have e1 : IntKind.i64.wrap ((gone : Int) + ((zl - gone : Nat) : Int)) = (gone : Int) + ((zl - gone : Nat) : Int) := IntWalk.i64_in _ (by omega)
      have HF := Lib.hid (fun N => HT.out.forget (zl - gone) (by have := HZ.out; omega) N ((gone : Int) + ((zl - gone : Nat) : Int)) (by omega))
      have HB : RowKit.Hid (By22 w (fun j => D j ∨ w.heap.size ≤ j) (some ⟨r, gone, none⟩) (zl - gone) (c - gone) ((z.drop gone).take (zl - gone))) := by
        have := HT.out.hx.b.sub gone (zl - gone) (by have := HZ.out; omega)
        rw [Nat.zero_add] at this
        exact this
      go_enter Try.func22, Try.ntmps22
      go_wp2
      go_quiet (fail)
      go_wp2_with (go_at_call 26; go_loud (refine (HF.out nq).mono ?_); rintro e w4 ⟨⟨x4, rfl⟩, HP⟩)
      go_ret
      exact HT.out.done (k := zl - gone) (by have := HZ.out; omega) HP.out.1 HP.out.2 rfl (by omega) (fun _ => by omega) HB.out
    · have e1 : IntKind.i64.wrap ((gone : Int) + (n : Int)) = (gone : Int) + (n : Int) := IntWalk.i64_in _ (by omega)
      have HF := Lib.hid (fun N => HT.out.forget n (by have := HZ.out; omega) N ((gone : Int) + (n : Int)) (by omega))
      have HB : RowKit.Hid (By22 w (fun j => D j ∨ w.heap.size ≤ j) (some ⟨r, gone, none⟩) n (c - gone) ((z.drop gone).take n)) := by
        have := HT.out.hx.b.sub gone n (by have := HZ.out; omega)
        rw [Nat.zero_add] at this
        exact this
      go_enter Try.func22, Try.ntmps22
      go_wp2
      go_quiet (fail)
      go_wp2_with (go_at_call 26; go_loud (refine (HF.out nq).mono ?_); rintro e w4 ⟨⟨x4, rfl⟩, HP⟩)
      go_ret
      exact HT.out.done (k := n) (by have := HZ.out; omega) HP.out.1 HP.out.2 rfl (by omega) (fun _ => by omega) HB.out
end Go.Proofs.Ytnjnfocpjmmibaa
