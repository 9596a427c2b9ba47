/- Offer. -/
import Derived.Test.YtnjnfocpjmmibaaQueG
import Derived.Deep.CutBlock
import Derived.Deep.DeepCutAuto
import Derived.Deep.RegionLaw
namespace Go.Proofs.Ytnjnfocpjmmibaa
open Go.RowKit
set_option linter.unusedVariables false
set_option linter.unusedSimpArgs false

theorem quOffer_nil (a : Option Addr) (m c : Nat) (wh : Bool) (w : World) : Calls Try.prog 9 #[.pointer none, .slice a m c, .bool wh] w fun e w' => e = .returned (.bool false) ∧ w' = w := by
  go_enter Try.func9, Try.ntmps9
  go_wp2
  go_ret
  exact ⟨rfl, rfl⟩
/-- One more waits. -/
def moreA (cs : Array Value) (f m : Nat) (v : Value) : Array Value := ((cs.setIfInBounds 262 (.bool false)).setIfInBounds (4 + (f + m) % 256) v).setIfInBounds 261 (.int .i64 ((m : Int) + 1))
theorem QuX.more {w w' : World} {D : Nat → Prop} {n f c : Nat} {q : Q22} {cs : Array Value} {a : Option Addr} {b : List Int} (h : QuX w D n q cs f) {F : Nat → Prop} (hk : Keeps F w w') (hF : ∀ j, F j → ¬ D j) (hl : q.l.length + 1 ≤ 256) (hb : By22 w' (fun j => w.heap.size ≤ j) a b.length c b) :
    QuX w' (fun j => D j ∨ w.heap.size ≤ j) n ⟨q.head, q.l ++ [b], false, q.lost⟩ (moreA cs f q.l.length (.slice a b.length c)) f := by
  have hs := h.size
  have hm : (f + q.l.length) % 256 < 256 := Nat.mod_lt _ (by omega)
  have hlow : ∀ i, i < 4 ∨ i = 260 ∨ i = 263 → (moreA cs f q.l.length (.slice a b.length c))[i]? = cs[i]? := by
    intro i hi
    unfold moreA
    rw [Array.getElem?_setIfInBounds_ne (by omega), Array.getElem?_setIfInBounds_ne (by omega), Array.getElem?_setIfInBounds_ne (by omega)]
  have h2 := (h.keeps hk hF).weaken (E := fun j => D j ∨ w.heap.size ≤ j) fun j hj _ => .inl hj
  refine ⟨by unfold moreA; simp [hs], h2.must.same (hlow 0 (by omega)) (hlow 1 (by omega)) (hlow 2 (by omega)), (hlow 3 (by omega)).trans h.room, (hlow 260 (by omega)).trans h.first, ?_, ?_, (hlow 263 (by omega)).trans h.lost, h.f256, fun i p hp => ?_⟩
  · unfold moreA
    rw [Array.getElem?_setIfInBounds_self_of_lt (by simp [hs])]
    simp
  · unfold moreA
    rw [Array.getElem?_setIfInBounds_ne (by omega), Array.getElem?_setIfInBounds_ne (by omega), Array.getElem?_setIfInBounds_self_of_lt (by omega)]
  · have hi0 := (List.getElem?_eq_some_iff.1 hp).1
    simp at hi0
    have hi1 : (f + i) % 256 < 256 := Nat.mod_lt _ (by omega)
    by_cases hlt : i < q.l.length
    · rw [List.getElem?_append_left hlt] at hp
      obtain ⟨a', c', k1, k2⟩ := h2.pk i p hp
      refine ⟨a', c', ?_, k2⟩
      unfold moreA
      rw [Array.getElem?_setIfInBounds_ne (by omega), Array.getElem?_setIfInBounds_ne (by omega), Array.getElem?_setIfInBounds_ne (by omega)]
      exact k1
    · have hie : i = q.l.length := by omega
      subst hie
      rw [List.getElem?_append_right (Nat.le_refl _), Nat.sub_self] at hp
      injection hp with hp
      subst hp
      refine ⟨a, c, ?_, hb.weaken fun j hj _ => .inr hj⟩
      unfold moreA
      rw [Array.getElem?_setIfInBounds_ne (by omega), Array.getElem?_setIfInBounds_self_of_lt (by simp; omega)]
theorem QuX.lose {w : World} {D : Nat → Prop} {n f : Nat} {q : Q22} {cs : Array Value} (h : QuX w D n q cs f) : QuX w D n ⟨q.head, q.l, q.drops, q.lost + 1⟩ (cs.setIfInBounds 263 (.int .i64 ((q.lost : Int) + 1))) f := by
  have hs := h.size
  have hi1 : ∀ i, (f + i) % 256 < 256 := fun i => Nat.mod_lt _ (by omega)
  have hlow : ∀ i, i < 263 → (cs.setIfInBounds 263 (.int .i64 ((q.lost : Int) + 1)))[i]? = cs[i]? := fun i hi => Array.getElem?_setIfInBounds_ne (by omega)
  refine ⟨by simp [hs], h.must.same (hlow 0 (by omega)) (hlow 1 (by omega)) (hlow 2 (by omega)), (hlow 3 (by omega)).trans h.room, (hlow 260 (by omega)).trans h.first, (hlow 261 (by omega)).trans h.count, (hlow 262 (by omega)).trans h.drops, ?_, h.f256, fun i p hp => ?_⟩
  · rw [Array.getElem?_setIfInBounds_self_of_lt (by omega)]
    simp
  · obtain ⟨a, c, k1, k2⟩ := h.pk i p hp
    exact ⟨a, c, (hlow _ (by have := hi1 i; omega)).trans k1, k2⟩
theorem offer_done {g n f1 m4 c4 M s : Nat} {q q1 : Q22} {D : Nat → Prop} {b : List Int} {wh : Bool} {w wc W2 w4 : World} {cs1 : Array Value} {a4 : Option Addr} (hq : QuAt w g n q D) (hq1 : QuAt wc g n q1 D) (hk1 : Keeps (fun j => j = g) w wc) (hc1 : Cel wc g 52 cs1) (hx1 : QuX wc D n q1 cs1 f1) (hM : q1.l.length = M) (hl1 : M + 1 ≤ n) (hs : (f1 + M) % 256 = s) (hk2 : Keeps (fun j => j = g) wc W2)
    (hc4 : Cel w4 g 52 (cs1.setIfInBounds 262 (.bool false))) (hm : m4 = b.length) (ho : w4.ownsRow W2.heap.size 5 1 (.slice a4 m4 c4) m4 (b.map (Value.int .u8))) (hb : Below W2.heap.size W2 w4) (hmy : q.may n wh = true) (hO : q.offer n b wh = if q.may n wh = true then ⟨q1.head, q1.l ++ [b], false, q1.lost⟩ else ⟨q1.head, q1.l, q1.drops, q1.lost + 1⟩) :
    Ending.returned (.bool true) = .returned (.bool (q.may n wh)) ∧ QuAt ((w4.setCell ⟨g, 4 + s, none⟩ (.slice a4 m4 c4)).setCell ⟨g, 261, none⟩ (.int .i64 ((M : Int) + 1))) g n (q.offer n b wh) (fun j => D j ∨ w.heap.size ≤ j) ∧ Keeps (fun j => j = g) w ((w4.setCell ⟨g, 4 + s, none⟩ (.slice a4 m4 c4)).setCell ⟨g, 261, none⟩ (.int .i64 ((M : Int) + 1))) := by
  subst hm
  subst hM
  subst hs
  have hgl := hq.lt
  have k4 : Keeps (fun j => j = g) w4 ((w4.setCell ⟨g, 4 + (f1 + q1.l.length) % 256, none⟩ (.slice a4 b.length c4)).setCell ⟨g, 261, none⟩ (.int .i64 ((q1.l.length : Int) + 1))) :=
    (Keeps.setCell (F := fun j => j = g) (Keeps.refl _ w4) (p := ⟨g, 4 + (f1 + q1.l.length) % 256, none⟩) (.inl rfl) _).setCell (p := ⟨g, 261, none⟩) (.inl rfl) _
  have k5 := (hk2.trans (Keeps.of_below hb)).trans k4
  have hs1 := hk1.size
  have hs2 := hk2.size
  have hcl := hc1.lt
  have b5 : By22 _ (fun j => wc.heap.size ≤ j) a4 b.length c4 b := ((By22.own ho).weaken (E := fun j => wc.heap.size ≤ j) fun j hj _ => by omega).keeps k4 fun j e hj => by omega
  have x5 := hx1.more k5 (fun j e hj => hq1.dg (e ▸ hj)) (by have := hq.n2; omega) b5
  refine ⟨by rw [hmy], ?_, hk1.trans k5⟩
  rw [hO, hmy, if_pos rfl]
  exact ⟨hq.n1, hq.n2, by simp; omega, fun hj => (by rcases hj with hj | hj; exact hq.dg hj; omega), _, f1, (hc4.set_ _ _).set_ 261 _, x5.weaken fun j hj _ => hj.imp id fun hj => by omega⟩
set_option maxRecDepth 100000 in
set_option maxHeartbeats 2000000 in
theorem quOffer_any (g n : Nat) (q : Q22) (D : Nat → Prop) (a : Option Addr) (m c : Nat) (b : List Int) (wh : Bool) (w : World) (h : QuAt w g n q D) (hb : By22 w (fun j => j ≠ g) a m c b) (hm : m ≤ 400000) (hlost : q.lost ≤ 500000) :
    Calls Try.prog 9 #[.pointer (some ⟨g, 0, none⟩), .slice a m c, .bool wh] w fun e w' => e = .returned (.bool (q.may n wh)) ∧ QuAt w' g n (q.offer n b wh) (fun j => D j ∨ w.heap.size ≤ j) ∧ Keeps (fun j => j = g) w w' := by
  obtain ⟨cs, f, h1, h2⟩ := h.c
  have hlen := h.len
  have n1 := h.n1
  have n2 := h.n2
  have k4 : w.cell? ⟨g, 261, none⟩ = some (.int .i64 q.l.length) := (h1.cell 261).trans h2.count
  have k3 : w.cell? ⟨g, 3, none⟩ = some (.int .i64 n) := (h1.cell 3).trans h2.room
  have HQ := Lib.hid h
  have HFl : RowKit.Hid (∀ nq, Calls Try.prog 14 #[.pointer (some ⟨g, 0, none⟩)] (w.drewN nq) fun e w' => (∃ x, e = .returned x) ∧ QuAt w' g n q.flush D ∧ Keeps (fun j => j = g) (w.drewN nq) w') :=
    fun nq => quFlush_any g n q D (w.drewN nq) (h.below (Below.drewN' (Below.refl _ _) nq)) (by omega)
  have HB := Lib.hid hb
  have HLo := Lib.hid hlost
  clear h h1 h2 hb hlost
  go_enter Try.func9, Try.ntmps9
  go_upto_region 3 with fail
  go_quiet (fail)
  go_upto_if 17 with fail
  go_cut [] (fun wx => RowKit.Hid (QuAt wx g n (q.roomed n) D ∧ Keeps (fun j => j = g) w wx))
  case first =>
    by_cases hfull : n ≤ q.l.length
    · have d1 : decide ((n : Int) ≤ (q.l.length : Int)) = true := by simp; omega
      have er : q.roomed n = q.flush := by unfold Q22.roomed; rw [if_pos hfull]
      have HE := Lib.hid er
      clear er
      go_wp2_with (go_at_call 14; go_loud (refine (HFl.out _).mono ?_); rintro e w2 ⟨⟨x, rfl⟩, hq, hk⟩; have H2 := Lib.hid hq; have K2 := Lib.hid hk; clear hq hk)
      go_meet
      exact ⟨by rw [HE.out]; exact H2.out, (Keeps.drewN (Keeps.refl _ w) _).trans K2.out⟩
    · have d1 : decide ((n : Int) ≤ (q.l.length : Int)) = false := by simp; omega
      have er : q.roomed n = q := by unfold Q22.roomed; rw [if_neg hfull]
      have HE := Lib.hid er
      clear er
      go_wp2
      go_meet
      exact ⟨by rw [HE.out]; exact HQ.out.below (Below.drewN' (Below.refl _ _) _), Keeps.drewN (Keeps.refl _ w) _⟩
  case rest =>
    obtain ⟨hq1, hk1⟩ := hcut.out
    have hl1 := q.roomed_len HQ.out.n1 HQ.out.len
    have hlo1 := q.roomed_lost HQ.out.len
    have HO : RowKit.Hid (q.offer n b wh = if q.may n wh then ⟨(q.roomed n).head, (q.roomed n).l ++ [b], false, (q.roomed n).lost⟩ else ⟨(q.roomed n).head, (q.roomed n).l, (q.roomed n).drops, (q.roomed n).lost + 1⟩) := by rw [q.roomed_head]; exact Lib.hid rfl
    have hmy : q.may n wh = !((q.roomed n).drops && !wh) := rfl
    obtain ⟨q1, hq⟩ : ∃ q1, q.roomed n = q1 := ⟨_, rfl⟩
    rw [hq] at hq1 hl1 hlo1 HO hmy
    obtain ⟨cs1, f1, c1, x1⟩ := hq1.c
    have HC1 := Lib.hid c1
    have HX1 := Lib.hid x1
    have HQ1 : RowKit.Hid (QuAt wc g n q1 D ∧ Keeps (fun j => j = g) w wc) := ⟨hq1, hk1⟩
    have hlost1 : q1.lost ≤ 1000000 := by have := HLo.out; omega
    have HBc : RowKit.Hid (By22 wc (fun j => j ≠ g) a m c b) := Lib.hid (HB.out.keeps hk1 fun j e hj => hj e)
    have z3 : wc.cell? ⟨g, 3, none⟩ = some (.int .i64 n) := (c1.cell 3).trans x1.room
    have z5 : wc.cell? ⟨g, 262, none⟩ = some (.bool q1.drops) := (c1.cell 262).trans x1.drops
    have z6 : wc.cell? ⟨g, 263, none⟩ = some (.int .i64 q1.lost) := (c1.cell 263).trans x1.lost
    have y5 := c1.frozen 262
    have y6 := c1.frozen 263
    have qn : ((n : Int) == 0) = false := by simp; omega
    obtain ⟨M, hM⟩ : ∃ M, q1.l.length = M := ⟨_, rfl⟩
    have HM := Lib.hid hM
    rw [hM] at hl1
    have e2 : IntKind.i64.wrap ((q1.lost : Int) + 1) = (q1.lost : Int) + 1 := IntWalk.i64_in _ (by omega)
    clear hcut hq1 hk1 hq c1 x1 hM HB HFl k3 k4
    have key : (q1.drops = true ∧ wh = false) ∨ q1.drops = false ∨ (q1.drops = true ∧ wh = true) := by cases q1.drops <;> cases wh <;> simp
    rcases key with ⟨d1, rfl⟩ | d1 | ⟨d1, rfl⟩
    · rw [d1] at z5 hmy
      have HMy : RowKit.Hid (q.may n false = false) := hmy
      clear hmy
      go_wp2
      go_ret
      have hk4 : Keeps (fun j => j = g) wc (wc.setCell ⟨g, 263, none⟩ (.int .i64 ((q1.lost : Int) + 1))) := Keeps.setCell (F := fun j => j = g) (Keeps.refl _ wc) (p := ⟨g, 263, none⟩) (.inl rfl) _
      have hq4 := HX1.out.lose.keeps hk4 fun j e hj => HQ1.out.1.dg (e ▸ hj)
      have hsz := HQ1.out.2.size
      have hgl := HQ.out.lt
      refine ⟨by rw [HMy.out]; rfl, ?_, HQ1.out.2.trans hk4⟩
      rw [HO.out, HMy.out]
      exact ⟨HQ.out.n1, HQ.out.n2, by have := HM.out; have := HQ.out.len; simp; omega, fun hj => by rcases hj with hj | hj; exact HQ.out.dg hj; omega, _, f1, HC1.out.set_ 263 _, hq4.weaken fun j hj _ => .inl hj⟩
    · rw [d1] at z5 hmy
      have HMy : RowKit.Hid (q.may n wh = true) := hmy
      clear hmy
      have HSl : RowKit.Hid (∀ W : World, W.cell? ⟨g, 260, none⟩ = some (.int .i64 f1) → Calls Try.prog 18 #[.pointer (some ⟨g, 0, none⟩), .int .i64 M] W fun e w' => e = .returned (.int .i64 (((f1 + M) % 256 : Nat) : Int)) ∧ W = w') := fun W hW => quSlot_any g f1 M W hW HX1.out.f256 (by omega)
      have hsl : (f1 + M) % 256 < 256 := Nat.mod_lt _ (by omega)
      obtain ⟨s, hs⟩ : ∃ s, (f1 + M) % 256 = s := ⟨_, rfl⟩
      have HSe := Lib.hid hs
      rw [hs] at HSl hsl
      have q2 : (s : Int) < 256 := by omega
      clear hs
      have HU := Lib.hid info22_u8
      obtain ⟨W2, hW2⟩ : ∃ W2, wc.setCell ⟨g, 262, none⟩ (.bool false) = W2 := ⟨_, rfl⟩
      have HC2 : RowKit.Hid (Cel W2 g 52 (cs1.setIfInBounds 262 (.bool false))) := by rw [← hW2]; exact Lib.hid (HC1.out.set_ 262 _)
      have HK2 : RowKit.Hid (Keeps (fun j => j = g) wc W2) := by rw [← hW2]; exact Lib.hid (Keeps.setCell (F := fun j => j = g) (Keeps.refl _ wc) (p := ⟨g, 262, none⟩) (.inl rfl) _)
      have HB2 : RowKit.Hid (By22 W2 (fun j => j ≠ g) a m c b) := Lib.hid (HBc.out.keeps HK2.out fun j e hj => hj e)
      have hsz : (cs1.setIfInBounds 262 (.bool false)).size = 264 := by rw [Array.size_setIfInBounds]; exact HX1.out.size
      have HSZ := Lib.hid hsz
      have k5 : W2.cell? ⟨g, 261, none⟩ = some (.int .i64 M) := (HC2.out.cell 261).trans (by rw [Array.getElem?_setIfInBounds_ne (by omega), HX1.out.count, HM.out])
      have k6 : W2.cell? ⟨g, 260, none⟩ = some (.int .i64 f1) := (HC2.out.cell 260).trans (by rw [Array.getElem?_setIfInBounds_ne (by omega), HX1.out.first])
      have k7 : W2.drew.cell? ⟨g, 260, none⟩ = some (.int .i64 f1) := k6
      have HW2 := Lib.hid hW2
      clear hW2 hsz
      have HG4 : RowKit.Hid (∀ w4 : World, Below W2.heap.size W2 w4 → Cel w4 g 52 (cs1.setIfInBounds 262 (.bool false)) ∧ w4.cell? ⟨g, 260, none⟩ = some (.int .i64 f1) ∧ w4.cell? ⟨g, 261, none⟩ = some (.int .i64 M) ∧ (∃ v, w4.cell? ⟨g, 4 + s, none⟩ = some v) ∧ w4.frozen? ⟨g, 4 + s, none⟩ = false ∧ w4.frozen? ⟨g, 261, none⟩ = false) := by
        refine Lib.hid fun w4 hb => ?_
        have hc := HC2.out.below hb
        have hz := HSZ.out
        exact ⟨hc, (hb.cell (p := ⟨g, 260, none⟩) (cell_block k6)).trans k6, (hb.cell (p := ⟨g, 261, none⟩) (cell_block k5)).trans k5, ⟨_, (hc.cell _).trans (Array.getElem?_eq_getElem (by omega))⟩, hc.frozen _, hc.frozen _⟩
      have e3 : IntKind.i64.wrap ((M : Int) + 1) = (M : Int) + 1 := IntWalk.i64_in _ (by omega)
      go_wp2_with fail
      rw [HW2.out]
      go_region_law (first
        | ((refine append22_K _ _ 31 rfl W2.heap.size 5 .u8 1 Try.underlying31 HU.out (.slice none 0 0) 0 [] rfl (World.ownsRow_nil _ _ _ _) a m c W2.drew.heap.size b rfl (HB2.out.below (Below.drewN' (Below.refl _ _) 1)).hi HB2.out.hn (by unfold maxLen; omega) (by omega) (Nat.le_refl _) ?_); intro v4 w4 ho hg4; have ho2 := own_len22 ho; rw [List.nil_append] at ho2; obtain ⟨a4, m4, c4, rfl, hm4⟩ := own_form_m ho2; have hb4 : Below W2.heap.size W2 w4 := (Below.drewN' (Below.refl W2.heap.size W2) 1).grown hg4 (Nat.le_refl _) (fun j e => (by simp [Value.ownBlock] at e)); have HO4 : RowKit.Hid (m4 = b.length ∧ w4.ownsRow W2.heap.size 5 1 (.slice a4 m4 c4) m4 (b.map (Value.int .u8)) ∧ Below W2.heap.size W2 w4) := ⟨hm4, hm4 ▸ ho2, hb4⟩; obtain ⟨y0, y1, y2, ⟨y3, y4⟩, y5, y6⟩ := HG4.out w4 hb4; have HC4 := Lib.hid y0; clear y0 ho ho2 hg4 hm4 hb4)
        | (go_simp; go_at_call 18; go_loud (refine (HSl.out _ (by assumption)).mono ?_); rintro e3 w3 ⟨rfl, rfl⟩)
        | fail)
      all_goals
        go_wp2
        go_ret
        exact offer_done HQ.out HQ1.out.1 HQ1.out.2 HC1.out HX1.out HM.out (by have := hl1; omega) HSe.out HK2.out HC4.out HO4.out.1 HO4.out.2.1 HO4.out.2.2 HMy.out HO.out
    · rw [d1] at z5 hmy
      have HMy : RowKit.Hid (q.may n true = true) := hmy
      clear hmy
      have HSl : RowKit.Hid (∀ W : World, W.cell? ⟨g, 260, none⟩ = some (.int .i64 f1) → Calls Try.prog 18 #[.pointer (some ⟨g, 0, none⟩), .int .i64 M] W fun e w' => e = .returned (.int .i64 (((f1 + M) % 256 : Nat) : Int)) ∧ W = w') := fun W hW => quSlot_any g f1 M W hW HX1.out.f256 (by omega)
      have hsl : (f1 + M) % 256 < 256 := Nat.mod_lt _ (by omega)
      obtain ⟨s, hs⟩ : ∃ s, (f1 + M) % 256 = s := ⟨_, rfl⟩
      have HSe := Lib.hid hs
      rw [hs] at HSl hsl
      have q2 : (s : Int) < 256 := by omega
      clear hs
      have HU := Lib.hid info22_u8
      obtain ⟨W2, hW2⟩ : ∃ W2, wc.setCell ⟨g, 262, none⟩ (.bool false) = W2 := ⟨_, rfl⟩
      have HC2 : RowKit.Hid (Cel W2 g 52 (cs1.setIfInBounds 262 (.bool false))) := by rw [← hW2]; exact Lib.hid (HC1.out.set_ 262 _)
      have HK2 : RowKit.Hid (Keeps (fun j => j = g) wc W2) := by rw [← hW2]; exact Lib.hid (Keeps.setCell (F := fun j => j = g) (Keeps.refl _ wc) (p := ⟨g, 262, none⟩) (.inl rfl) _)
      have HB2 : RowKit.Hid (By22 W2 (fun j => j ≠ g) a m c b) := Lib.hid (HBc.out.keeps HK2.out fun j e hj => hj e)
      have hsz : (cs1.setIfInBounds 262 (.bool false)).size = 264 := by rw [Array.size_setIfInBounds]; exact HX1.out.size
      have HSZ := Lib.hid hsz
      have k5 : W2.cell? ⟨g, 261, none⟩ = some (.int .i64 M) := (HC2.out.cell 261).trans (by rw [Array.getElem?_setIfInBounds_ne (by omega), HX1.out.count, HM.out])
      have k6 : W2.cell? ⟨g, 260, none⟩ = some (.int .i64 f1) := (HC2.out.cell 260).trans (by rw [Array.getElem?_setIfInBounds_ne (by omega), HX1.out.first])
      have k7 : W2.drew.cell? ⟨g, 260, none⟩ = some (.int .i64 f1) := k6
      have HW2 := Lib.hid hW2
      clear hW2 hsz
      have HG4 : RowKit.Hid (∀ w4 : World, Below W2.heap.size W2 w4 → Cel w4 g 52 (cs1.setIfInBounds 262 (.bool false)) ∧ w4.cell? ⟨g, 260, none⟩ = some (.int .i64 f1) ∧ w4.cell? ⟨g, 261, none⟩ = some (.int .i64 M) ∧ (∃ v, w4.cell? ⟨g, 4 + s, none⟩ = some v) ∧ w4.frozen? ⟨g, 4 + s, none⟩ = false ∧ w4.frozen? ⟨g, 261, none⟩ = false) := by
        refine Lib.hid fun w4 hb => ?_
        have hc := HC2.out.below hb
        have hz := HSZ.out
        exact ⟨hc, (hb.cell (p := ⟨g, 260, none⟩) (cell_block k6)).trans k6, (hb.cell (p := ⟨g, 261, none⟩) (cell_block k5)).trans k5, ⟨_, (hc.cell _).trans (Array.getElem?_eq_getElem (by omega))⟩, hc.frozen _, hc.frozen _⟩
      have e3 : IntKind.i64.wrap ((M : Int) + 1) = (M : Int) + 1 := IntWalk.i64_in _ (by omega)
      go_wp2_with fail
      rw [HW2.out]
      go_region_law (first
        | ((refine append22_K _ _ 31 rfl W2.heap.size 5 .u8 1 Try.underlying31 HU.out (.slice none 0 0) 0 [] rfl (World.ownsRow_nil _ _ _ _) a m c W2.drew.heap.size b rfl (HB2.out.below (Below.drewN' (Below.refl _ _) 1)).hi HB2.out.hn (by unfold maxLen; omega) (by omega) (Nat.le_refl _) ?_); intro v4 w4 ho hg4; have ho2 := own_len22 ho; rw [List.nil_append] at ho2; obtain ⟨a4, m4, c4, rfl, hm4⟩ := own_form_m ho2; have hb4 : Below W2.heap.size W2 w4 := (Below.drewN' (Below.refl W2.heap.size W2) 1).grown hg4 (Nat.le_refl _) (fun j e => (by simp [Value.ownBlock] at e)); have HO4 : RowKit.Hid (m4 = b.length ∧ w4.ownsRow W2.heap.size 5 1 (.slice a4 m4 c4) m4 (b.map (Value.int .u8)) ∧ Below W2.heap.size W2 w4) := ⟨hm4, hm4 ▸ ho2, hb4⟩; obtain ⟨y0, y1, y2, ⟨y3, y4⟩, y5, y6⟩ := HG4.out w4 hb4; have HC4 := Lib.hid y0; clear y0 ho ho2 hg4 hm4 hb4)
        | (go_simp; go_at_call 18; go_loud (refine (HSl.out _ (by assumption)).mono ?_); rintro e3 w3 ⟨rfl, rfl⟩)
        | fail)
      all_goals
        go_wp2
        go_ret
        exact offer_done HQ.out HQ1.out.1 HQ1.out.2 HC1.out HX1.out HM.out (by have := hl1; omega) HSe.out HK2.out HC4.out HO4.out.1 HO4.out.2.1 HO4.out.2.2 HMy.out HO.out
end Go.Proofs.Ytnjnfocpjmmibaa
