/- The law's model of a queue: flush, offer. -/
import Derived.Test.YtnjnfocpjmmibaaQueN
import Derived.Deep.CutBlock
import Derived.Deep.DeepCutAuto
namespace Go.Proofs.Ytnjnfocpjmmibaa
open Go.RowKit
set_option linter.unusedVariables false
set_option linter.unusedSimpArgs false

/-- The law's model in memory: its own block, a row of slices, bytes in blocks of D. -/
structure MoX (w : World) (gm n : Nat) (q : Q22) (D : Nat → Prop) (ro : Option Nat) (ah : Option Addr) (ch : Nat) (al : Option Addr) (cl : Nat) (xs : List Value) : Prop where
  hc : Cel w gm 34 #[.slice ah q.head.length ch, .slice al q.l.length cl, .int .i64 n, .bool q.drops, .int .i64 q.lost]
  hh : By22 w D ah q.head.length ch q.head
  hl : Win w ro al q.l.length cl xs
  hp : ∀ (i : Nat) (p : List Int), q.l[i]? = some p → ∃ (a : Option Addr) (c : Nat), xs[i]? = some (Value.slice a p.length c) ∧ By22 w D a p.length c p
  hf : q.head = [] ∨ ∃ r off, ah = some ⟨r, off, none⟩
structure MoAt (w : World) (gm n : Nat) (q : Q22) (D : Nat → Prop) (ro : Option Nat) : Prop where
  dg : ¬ D gm
  dr : ∀ r, ro = some r → ¬ D r ∧ r ≠ gm
  x : ∃ ah ch al cl xs, MoX w gm n q D ro ah ch al cl xs
theorem By22.f_ {w : World} {D : Nat → Prop} {a : Option Addr} {c : Nat} {zs : List Int} (h : By22 w D a zs.length c zs) : zs = [] ∨ ∃ r off, a = some ⟨r, off, none⟩ := by
  by_cases h0 : zs.length = 0
  · exact .inl (List.eq_nil_of_length_eq_zero h0)
  · obtain ⟨r, off, e, _⟩ := h.hi.at_ (j := 0) (by omega)
    exact .inr ⟨r, off, e⟩
section
variable {w w' : World} {D E F : Nat → Prop} {gm n ch cl : Nat} {q : Q22} {ro : Option Nat} {ah al : Option Addr} {xs : List Value}
theorem MoX.keeps (h : MoX w gm n q D ro ah ch al cl xs) (hk : Keeps F w w') (hF : ∀ j, F j → ¬ D j ∧ j ≠ gm ∧ ro ≠ some j) : MoX w' gm n q D ro ah ch al cl xs := by
  refine ⟨h.hc.keeps hk fun hf => (hF gm hf).2.1 rfl, h.hh.keeps hk fun j hj => (hF j hj).1, h.hl.keeps hk fun r hr hf => (hF r hf).2.2 hr, fun i p hp => ?_, h.hf⟩
  obtain ⟨a, c, h1, h2⟩ := h.hp i p hp
  exact ⟨a, c, h1, h2.keeps hk fun j hj => (hF j hj).1⟩
theorem MoX.weaken (h : MoX w gm n q D ro ah ch al cl xs) (hD : ∀ j, D j → j < w.heap.size → E j) : MoX w gm n q E ro ah ch al cl xs := by
  refine ⟨h.hc, h.hh.weaken hD, h.hl, fun i p hp => ?_, h.hf⟩
  obtain ⟨a, c, h1, h2⟩ := h.hp i p hp
  exact ⟨a, c, h1, h2.weaken hD⟩
theorem MoAt.keeps (h : MoAt w gm n q D ro) (hk : Keeps F w w') (hF : ∀ j, F j → ¬ D j ∧ j ≠ gm ∧ ro ≠ some j) : MoAt w' gm n q D ro := by
  obtain ⟨ah, ch, al, cl, xs, hx⟩ := h.x
  exact ⟨h.dg, h.dr, ah, ch, al, cl, xs, hx.keeps hk hF⟩
theorem MoAt.below (h : MoAt w gm n q D ro) (hb : Below w.heap.size w w') : MoAt w' gm n q D ro := h.keeps (F := fun _ => False) (.of_below hb) fun _ c => c.elim
theorem MoAt.weaken (h : MoAt w gm n q D ro) (hD : ∀ j, D j → j < w.heap.size → E j) (hg : ¬ E gm) (hr : ∀ r, ro = some r → ¬ E r) : MoAt w gm n q E ro := by
  obtain ⟨ah, ch, al, cl, xs, hx⟩ := h.x
  exact ⟨hg, fun r h2 => ⟨hr r h2, (h.dr r h2).2⟩, ah, ch, al, cl, xs, hx.weaken hD⟩
theorem MoAt.lt (h : MoAt w gm n q D ro) : gm < w.heap.size := by
  obtain ⟨ah, ch, al, cl, xs, hx⟩ := h.x
  exact hx.hc.lt
end
theorem cel5 {w : World} {g : Nat} {t : TypeId} {a b c d e : Value} (h : Cel w g t #[a, b, c, d, e]) : w.cell? ⟨g, 0, none⟩ = some a ∧ w.cell? ⟨g, 1, none⟩ = some b ∧ w.cell? ⟨g, 2, none⟩ = some c ∧ w.cell? ⟨g, 3, none⟩ = some d ∧ w.cell? ⟨g, 4, none⟩ = some e :=
  ⟨h.cell 0, h.cell 1, h.cell 2, h.cell 3, h.cell 4⟩
set_option maxRecDepth 100000 in
set_option maxHeartbeats 1000000 in
theorem moFlush_any (gm n : Nat) (q : Q22) (D : Nat → Prop) (ro : Option Nat) (w : World) (h : MoAt w gm n q D ro) (hl : q.lost ≤ 1000000) (hl2 : q.l.length ≤ 1000000) :
    Calls Try.prog 15 #[.pointer (some ⟨gm, 0, none⟩)] w fun e w' => (∃ x, e = .returned x) ∧ MoAt w' gm n q.flush D ro ∧ Keeps (fun j => j = gm) w w' := by
  obtain ⟨ah, ch, al, cl, xs, hx⟩ := h.x
  obtain ⟨k0, k1, k2, k3, k4⟩ := cel5 hx.hc
  have f1 := hx.hc.frozen 1
  have f3 := hx.hc.frozen 3
  have f4 := hx.hc.frozen 4
  have HX : RowKit.Hid (MoAt w gm n q D ro ∧ MoX w gm n q D ro ah ch al cl xs) := ⟨h, hx⟩
  obtain ⟨M, hM⟩ : ∃ M, q.l.length = M := ⟨_, rfl⟩
  obtain ⟨L, hL⟩ : ∃ L, q.lost = L := ⟨_, rfl⟩
  have HM : RowKit.Hid (q.l.length = M ∧ q.lost = L) := ⟨hM, hL⟩
  rw [hM] at k1 hl2
  rw [hL] at k4 hl
  have e1 : IntKind.i64.wrap ((L : Int) + (M : Int)) = (L : Int) + (M : Int) := IntWalk.i64_in _ (by omega)
  clear h hx hM hL
  go_enter Try.func15, Try.ntmps15
  go_wp2
  go_still_tail 12, (by kernel_rfl)
  change wpList _ _ _ _ _ w.drew
  go_wp2
  go_end0
  have hk : Keeps (fun j => j = gm) w _ := ((((Keeps.refl (fun j => j = gm) w).setCell (p := ⟨gm, 4, none⟩) (.inl rfl) (.int .i64 ((L : Int) + (M : Int)))).setCell (p := ⟨gm, 1, none⟩) (.inl rfl) (.slice none 0 0)).setCell (p := ⟨gm, 3, none⟩) (.inl rfl) (.bool true)).drewN 1
  have hc := (((HX.out.2.hc.set_ 4 (.int .i64 ((L : Int) + (M : Int)))).set_ 1 (.slice none 0 0)).set_ 3 (.bool true)).drewN 1
  have hd : ∀ j, j = gm → ¬ D j := fun j e hj => HX.out.1.dg (e ▸ hj)
  refine ⟨⟨_, rfl⟩, ⟨HX.out.1.dg, HX.out.1.dr, ah, ch, none, 0, [], ⟨?_, HX.out.2.hh.keeps hk hd, Win.nil _ _, fun i p hp => by simp [Q22.flush] at hp, HX.out.2.hf⟩⟩, hk⟩
  have e5 : ((L : Int) + (M : Int)) = ((q.flush.lost : Nat) : Int) := by rw [← HM.out.1, ← HM.out.2]; simp [Q22.flush]
  rw [e5] at hc ⊢
  exact hc
theorem moOffer_done {gm n m c c' n' M : Nat} {q q1 : Q22} {D : Nat → Prop} {ro ro' : Option Nat} {a ah al A' : Option Addr} {ch cl : Nat} {xs : List Value} {b : List Int} {wh : Bool} {w wc W3 w4 : World} (hq : MoAt w gm n q D ro) (hq1 : MoAt wc gm n q1 D ro) (hx : MoX wc gm n q1 D ro ah ch al cl xs) (hk1 : Keeps (fun j => j = gm) w wc) (hM : q1.l.length = M) (hb : By22 w D a m c b) (hDl : ∀ j, D j → j < w.heap.size)
    (hW3 : (wc.setCell ⟨gm, 3, none⟩ (.bool false)).alloc (.cells #[.slice a m c] 31) = W3) (hn' : n' = M + 1) (hw : Win w4 ro' A' n' c' (xs ++ [.slice a m c])) (hk : Keeps (fun j => ro = some j) W3 w4) (hr : ro' = ro ∨ ∃ r, ro' = some r ∧ W3.heap.size ≤ r) (ht : ∀ r, ro' = some r → Typ19 w4 r 31) (hmy : q.may n wh = true) (hO : q.offer n b wh = if q.may n wh = true then ⟨q1.head, q1.l ++ [b], false, q1.lost⟩ else ⟨q1.head, q1.l, q1.drops, q1.lost + 1⟩) :
    Ending.returned (.bool true) = .returned (.bool (q.may n wh)) ∧ ∃ ro', MoAt (w4.setCell ⟨gm, 1, none⟩ (.slice A' n' c')) gm n (q.offer n b wh) D ro' ∧ Keeps (fun j => j = gm ∨ ro = some j) w (w4.setCell ⟨gm, 1, none⟩ (.slice A' n' c')) ∧ (ro' = ro ∨ ∃ r, ro' = some r ∧ w.heap.size ≤ r) ∧ (∀ r, ro' = some r → Typ19 (w4.setCell ⟨gm, 1, none⟩ (.slice A' n' c')) r 31) := by
  subst hM
  subst hn'
  have hml := hb.len
  subst hml
  have hgl := hq.lt
  have k2 : Keeps (fun j => j = gm) wc W3 := by rw [← hW3]; exact (Keeps.setCell (F := fun j => j = gm) (Keeps.refl _ wc) (p := ⟨gm, 3, none⟩) (.inl rfl) _).alloc _
  have c3 : Cel W3 gm 34 (#[.slice ah q1.head.length ch, .slice al q1.l.length cl, .int .i64 n, .bool q1.drops, .int .i64 q1.lost].setIfInBounds 3 (.bool false)) := by rw [← hW3]; exact (hx.hc.set_ 3 _).alloc _
  have hs1 := hk1.size
  have hs2 := k2.size
  have hs3 := hk.size
  have hrl : ∀ r, ro = some r → r ≠ gm := fun r e => (hq.dr r e).2
  have c4 := (c3.keeps hk fun e => hrl gm e rfl).set_ 1 (.slice A' (q1.l.length + 1) c')
  have kW : Keeps (fun j => j = gm ∨ ro = some j) w (w4.setCell ⟨gm, 1, none⟩ (.slice A' (q1.l.length + 1) c')) := ((((hk1.trans k2).mono fun j e => .inl e).trans (hk.mono fun j e => .inr e))).setCell (p := ⟨gm, 1, none⟩) (.inl (.inl rfl)) _
  have kC : Keeps (fun j => j = gm ∨ ro = some j) wc (w4.setCell ⟨gm, 1, none⟩ (.slice A' (q1.l.length + 1) c')) := ((k2.mono fun j e => .inl e).trans (hk.mono fun j e => .inr e)).setCell (p := ⟨gm, 1, none⟩) (.inl (.inl rfl)) _
  have kD : ∀ j, (j = gm ∨ ro = some j) → ¬ D j := fun j e hj => by
    rcases e with e | e
    · exact hq.dg (e ▸ hj)
    · exact (hq.dr j e).1 hj
  have hne4 : ∀ r, ro' = some r → r ≠ gm := by
    intro r e
    rcases hr with e2 | ⟨r', e2, h3⟩
    · exact hrl r (e2 ▸ e)
    · rw [e2] at e
      injection e with e
      omega
  refine ⟨by rw [hmy], ro', ?_, kW, ?_, fun r e1 => ?_⟩
  · rw [hO, hmy, if_pos rfl]
    have hh := hx.hh.keeps kC kD
    refine ⟨fun h => hq.dg h, fun r e => ⟨fun h => ?_, hne4 r e⟩, ah, ch, A', c', xs ++ [.slice a b.length c], ⟨?_, ?_, ?_, fun i p hp => ?_, hx.hf⟩⟩
    · rcases hr with e2 | ⟨r', e2, h3⟩
      · exact (hq.dr r (e2 ▸ e)).1 h
      · rw [e2] at e
        injection e with e
        have := hDl r h
        omega
    · have e5 : (q1.l ++ [b]).length = q1.l.length + 1 := by simp
      show Cel _ gm _ #[.slice ah q1.head.length ch, .slice A' (q1.l ++ [b]).length c', .int .i64 n, .bool false, .int .i64 q1.lost]
      rw [e5]
      exact c4
    · exact hh
    · show Win _ ro' A' (q1.l ++ [b]).length c' _
      rw [show (q1.l ++ [b]).length = q1.l.length + 1 from by simp]
      exact hw.keeps (F := fun j => j = gm) (Keeps.setCell (F := fun j => j = gm) (Keeps.refl _ w4) (p := ⟨gm, 1, none⟩) (.inl rfl) _) fun r e1 e2 => hne4 r e1 e2
    · have hi0 := (List.getElem?_eq_some_iff.1 hp).1
      simp at hi0
      have hxl := hx.hl.len
      by_cases hlt : i < q1.l.length
      · rw [List.getElem?_append_left hlt] at hp
        obtain ⟨a', c'', k1, k2⟩ := hx.hp i p hp
        exact ⟨a', c'', by rw [List.getElem?_append_left (by omega)]; exact k1, k2.keeps kC kD⟩
      · have hie : i = q1.l.length := by omega
        subst hie
        rw [List.getElem?_append_right (Nat.le_refl _), Nat.sub_self] at hp
        injection hp with hp
        subst hp
        refine ⟨a, c, ?_, (hb.keeps hk1 fun j e hj => hq.dg (e ▸ hj)).keeps kC kD⟩
        rw [List.getElem?_append_right (by omega), hxl, Nat.sub_self]
        rfl
  · rcases hr with e2 | ⟨r, e2, h3⟩
    · exact .inl e2
    · exact .inr ⟨r, e2, by omega⟩
  · exact (ht r e1).keep ((Keeps.setCell (F := fun j => j = gm) (Keeps.refl _ w4) (p := ⟨gm, 1, none⟩) (.inl rfl) (Value.slice A' (q1.l.length + 1) c')).block r (ht r e1).lt (hne4 r e1))
set_option maxRecDepth 100000 in
set_option maxHeartbeats 2000000 in
theorem moOffer_any (gm n : Nat) (q : Q22) (D : Nat → Prop) (ro : Option Nat) (a : Option Addr) (m c : Nat) (b : List Int) (wh : Bool) (w : World) (h : MoAt w gm n q D ro) (hb : By22 w D a m c b) (hDl : ∀ j, D j → j < w.heap.size) (hT : ∀ r, ro = some r → Typ19 w r 31) (hn1 : 1 ≤ n) (hn : n ≤ 256) (hlen : q.l.length ≤ n) (hlost : q.lost ≤ 500000) :
    Calls Try.prog 10 #[.pointer (some ⟨gm, 0, none⟩), .slice a m c, .bool wh] w fun e w' => e = .returned (.bool (q.may n wh)) ∧ ∃ ro', MoAt w' gm n (q.offer n b wh) D ro' ∧ Keeps (fun j => j = gm ∨ ro = some j) w w' ∧ (ro' = ro ∨ ∃ r, ro' = some r ∧ w.heap.size ≤ r) ∧ (∀ r, ro' = some r → Typ19 w' r 31) := by
  obtain ⟨ah, ch, al, cl, xs, hx⟩ := h.x
  obtain ⟨k0, k1, k2, k3, k4⟩ := cel5 hx.hc
  have HQ := Lib.hid h
  have HB := Lib.hid hb
  have HFl : RowKit.Hid (∀ nq, Calls Try.prog 15 #[.pointer (some ⟨gm, 0, none⟩)] (w.drewN nq) fun e w' => (∃ x, e = .returned x) ∧ MoAt w' gm n q.flush D ro ∧ Keeps (fun j => j = gm) (w.drewN nq) w') :=
    fun nq => moFlush_any gm n q D ro (w.drewN nq) (h.below (Below.drewN' (Below.refl _ _) nq)) (by omega) (by omega)
  have HDl := Lib.hid hDl
  have HT := Lib.hid hT
  have HLo : RowKit.Hid (q.lost ≤ 500000 ∧ q.l.length ≤ n) := ⟨hlost, hlen⟩
  clear h hx hb hlost hDl hT
  go_enter Try.func10, Try.ntmps10
  go_wp2
  go_quiet (fail)
  go_upto_if 16 with fail
  go_cut [] (fun wx => RowKit.Hid (MoAt wx gm n (q.roomed n) D ro ∧ Keeps (fun j => j = gm) w wx))
  case first =>
    by_cases hfull : n ≤ q.l.length
    · have hfe : q.l.length = n := by omega
      have d1 : (((q.l.length : Nat) : Int) == (n : Int)) = true := by simp; omega
      have er : q.roomed n = q.flush := by unfold Q22.roomed; rw [if_pos hfull]
      have HE := Lib.hid er
      clear er hfull
      go_wp2_with (go_at_call 15; go_loud (refine (HFl.out _).mono ?_); rintro e w2 ⟨⟨x, rfl⟩, hq, hk⟩; have H2 := Lib.hid hq; have K2 := Lib.hid hk; clear hq hk)
      go_meet
      exact ⟨by rw [HE.out]; exact H2.out, (Keeps.drewN (Keeps.refl _ w) _).trans K2.out⟩
    · have hfe : ¬ q.l.length = n := by omega
      have d1 : (((q.l.length : Nat) : Int) == (n : Int)) = false := by simp; omega
      have er : q.roomed n = q := by unfold Q22.roomed; rw [if_neg hfull]
      have HE := Lib.hid er
      clear er hfull
      go_wp2
      go_meet
      exact ⟨by rw [HE.out]; exact HQ.out.below (Below.drewN' (Below.refl _ _) _), Keeps.drewN (Keeps.refl _ w) _⟩
  case rest =>
    obtain ⟨hq1, hk1⟩ := hcut.out
    have hl1 := q.roomed_len hn1 HLo.out.2
    have hlo1 := q.roomed_lost HLo.out.2
    have HO : RowKit.Hid (q.offer n b wh = if q.may n wh then ⟨(q.roomed n).head, (q.roomed n).l ++ [b], false, (q.roomed n).lost⟩ else ⟨(q.roomed n).head, (q.roomed n).l, (q.roomed n).drops, (q.roomed n).lost + 1⟩) := by rw [q.roomed_head]; exact Lib.hid rfl
    have hmy : q.may n wh = !((q.roomed n).drops && !wh) := rfl
    obtain ⟨q1, hq⟩ : ∃ q1, q.roomed n = q1 := ⟨_, rfl⟩
    rw [hq] at hq1 hl1 hlo1 HO hmy
    obtain ⟨ah, ch, al, cl, xs, hx⟩ := hq1.x
    have HX1 := Lib.hid hx
    have HQ1 : RowKit.Hid (MoAt wc gm n q1 D ro ∧ Keeps (fun j => j = gm) w wc) := ⟨hq1, hk1⟩
    obtain ⟨k0, k1, k2, k3, k4⟩ := cel5 hx.hc
    have f1 := hx.hc.frozen 1
    have f3 := hx.hc.frozen 3
    have f4 := hx.hc.frozen 4
    obtain ⟨M, hM⟩ : ∃ M, q1.l.length = M := ⟨_, rfl⟩
    have HM := Lib.hid hM
    rw [hM] at hl1 k1
    have hlo2 : q1.lost ≤ 1000000 := by have := HLo.out.1; omega
    have e2 : IntKind.i64.wrap ((q1.lost : Int) + 1) = (q1.lost : Int) + 1 := IntWalk.i64_in _ (by omega)
    clear hcut hq1 hk1 hq hx hM HFl
    have key : (q1.drops = true ∧ wh = false) ∨ q1.drops = false ∨ (q1.drops = true ∧ wh = true) := by cases q1.drops <;> cases wh <;> simp
    rcases key with ⟨d1, rfl⟩ | d1 | ⟨d1, rfl⟩
    · rw [d1] at k3 hmy
      have HMy : RowKit.Hid (q.may n false = false) := hmy
      clear hmy
      go_wp2
      go_ret
      have hk4 : Keeps (fun j => j = gm) wc (wc.setCell ⟨gm, 4, none⟩ (.int .i64 ((q1.lost : Int) + 1))) := Keeps.setCell (F := fun j => j = gm) (Keeps.refl _ wc) (p := ⟨gm, 4, none⟩) (.inl rfl) _
      have hd : ∀ j, j = gm → ¬ D j := fun j e hj => HQ.out.dg (e ▸ hj)
      refine ⟨by rw [HMy.out]; rfl, ro, ?_, ((HQ1.out.2.trans hk4).mono fun j e => .inl e), .inl rfl, fun r e1 => (HT.out r e1).keep ((HQ1.out.2.trans hk4).block r (HT.out r e1).lt (HQ.out.dr r e1).2)⟩
      rw [HO.out, HMy.out]
      refine ⟨HQ.out.dg, HQ.out.dr, ah, ch, al, cl, xs, ⟨?_, HX1.out.hh.keeps hk4 hd, HX1.out.hl.keeps hk4 fun r e1 e2 => (HQ.out.dr r e1).2 e2, fun i p hp => ?_, HX1.out.hf⟩⟩
      · have := HX1.out.hc.set_ 4 (.int .i64 ((q1.lost : Int) + 1))
        have e6 : ((q1.lost + 1 : Nat) : Int) = (q1.lost : Int) + 1 := by omega
        show Cel _ gm _ #[_, _, _, _, .int .i64 ((q1.lost + 1 : Nat) : Int)]
        rw [e6]
        exact this
      · obtain ⟨a', c', z1, z2⟩ := HX1.out.hp i p hp
        exact ⟨a', c', z1, z2.keeps hk4 hd⟩
    · rw [d1] at k3 hmy
      have HMy : RowKit.Hid (q.may n wh = true) := hmy
      clear hmy
      have HI := Lib.hid info22_sl
      obtain ⟨W3, hW3⟩ : ∃ W3, (wc.setCell ⟨gm, 3, none⟩ (.bool false)).alloc (.cells #[.slice a m c] 31) = W3 := ⟨_, rfl⟩
      have HK3 : RowKit.Hid (Keeps (fun j => j = gm) wc W3) := by rw [← hW3]; exact Lib.hid ((Keeps.setCell (F := fun j => j = gm) (Keeps.refl _ wc) (p := ⟨gm, 3, none⟩) (.inl rfl) _).alloc _)
      have HC3 : RowKit.Hid (Cel W3 gm 34 (#[.slice ah q1.head.length ch, .slice al q1.l.length cl, .int .i64 n, .bool q1.drops, .int .i64 q1.lost].setIfInBounds 3 (.bool false))) := by rw [← hW3]; exact Lib.hid ((HX1.out.hc.set_ 3 _).alloc _)
      have HW3 : RowKit.Hid (Win W3 ro al M cl xs) := by rw [← HM.out]; exact Lib.hid (HX1.out.hl.keeps HK3.out fun r e1 e2 => (HQ.out.dr r e1).2 e2)
      have HG3 : RowKit.Hid (W3.cell? ⟨wc.heap.size, 0, none⟩ = some (.slice a m c)) := by
        have := Cel.new (wc.setCell ⟨gm, 3, none⟩ (.bool false)) 31 #[.slice a m c]
        rw [hW3, World.size_setCell] at this
        exact Lib.hid (this.cell 0)
      have k13 : W3.cell? ⟨gm, 1, none⟩ = some (.slice al M cl) := by rw [← HM.out]; exact HC3.out.cell 1
      have HE3 := Lib.hid hW3
      clear hW3
      go_wp2_with (at_builtin; rw [HE3.out]; go_loud (refine append_win rfl _ _ 32 rfl Try.underlying32 HI.out ro al M cl xs rfl HW3.out wc.heap.size (.slice a m c) rfl rfl HG3.out (by omega) ?_); intro ro' A' n' c' w4 hn' hw hk hr ht; have H4 := Lib.hid (And.intro hn' (And.intro hw (And.intro hk (And.intro hr ht)))); have c4 := HC3.out.keeps hk (fun e => (HQ.out.dr gm e).2 rfl); have y1 := c4.cell 1; have y2 := c4.frozen 1; clear hn' hw hk hr ht c4)
      go_ret
      exact moOffer_done HQ.out HQ1.out.1 HX1.out HQ1.out.2 HM.out HB.out HDl.out HE3.out H4.out.1 H4.out.2.1 H4.out.2.2.1 H4.out.2.2.2.1 H4.out.2.2.2.2 HMy.out HO.out
    · rw [d1] at k3 hmy
      have HMy : RowKit.Hid (q.may n true = true) := hmy
      clear hmy
      have HI := Lib.hid info22_sl
      obtain ⟨W3, hW3⟩ : ∃ W3, (wc.setCell ⟨gm, 3, none⟩ (.bool false)).alloc (.cells #[.slice a m c] 31) = W3 := ⟨_, rfl⟩
      have HK3 : RowKit.Hid (Keeps (fun j => j = gm) wc W3) := by rw [← hW3]; exact Lib.hid ((Keeps.setCell (F := fun j => j = gm) (Keeps.refl _ wc) (p := ⟨gm, 3, none⟩) (.inl rfl) _).alloc _)
      have HC3 : RowKit.Hid (Cel W3 gm 34 (#[.slice ah q1.head.length ch, .slice al q1.l.length cl, .int .i64 n, .bool q1.drops, .int .i64 q1.lost].setIfInBounds 3 (.bool false))) := by rw [← hW3]; exact Lib.hid ((HX1.out.hc.set_ 3 _).alloc _)
      have HW3 : RowKit.Hid (Win W3 ro al M cl xs) := by rw [← HM.out]; exact Lib.hid (HX1.out.hl.keeps HK3.out fun r e1 e2 => (HQ.out.dr r e1).2 e2)
      have HG3 : RowKit.Hid (W3.cell? ⟨wc.heap.size, 0, none⟩ = some (.slice a m c)) := by
        have := Cel.new (wc.setCell ⟨gm, 3, none⟩ (.bool false)) 31 #[.slice a m c]
        rw [hW3, World.size_setCell] at this
        exact Lib.hid (this.cell 0)
      have k13 : W3.cell? ⟨gm, 1, none⟩ = some (.slice al M cl) := by rw [← HM.out]; exact HC3.out.cell 1
      have HE3 := Lib.hid hW3
      clear hW3
      go_wp2_with (at_builtin; rw [HE3.out]; go_loud (refine append_win rfl _ _ 32 rfl Try.underlying32 HI.out ro al M cl xs rfl HW3.out wc.heap.size (.slice a m c) rfl rfl HG3.out (by omega) ?_); intro ro' A' n' c' w4 hn' hw hk hr ht; have H4 := Lib.hid (And.intro hn' (And.intro hw (And.intro hk (And.intro hr ht)))); have c4 := HC3.out.keeps hk (fun e => (HQ.out.dr gm e).2 rfl); have y1 := c4.cell 1; have y2 := c4.frozen 1; clear hn' hw hk hr ht c4)
      go_ret
      exact moOffer_done HQ.out HQ1.out.1 HX1.out HQ1.out.2 HM.out HB.out HDl.out HE3.out H4.out.1 H4.out.2.1 H4.out.2.2.1 H4.out.2.2.2.1 H4.out.2.2.2.2 HMy.out HO.out
end Go.Proofs.Ytnjnfocpjmmibaa
