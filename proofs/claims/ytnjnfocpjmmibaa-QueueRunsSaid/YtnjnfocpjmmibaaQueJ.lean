/- Take. -/
import Derived.Test.YtnjnfocpjmmibaaQueI
namespace Go.Proofs.Ytnjnfocpjmmibaa
open Go.RowKit
set_option linter.unusedVariables false
set_option linter.unusedSimpArgs false

theorem quTake_nil (k : Int) (w : World) : Calls Try.prog 12 #[.pointer none, .int .i64 k] w fun e w' => e = .returned (.slice none 0 0) ∧ w' = w := by
  go_enter Try.func12, Try.ntmps12
  go_wp2
  go_ret
  exact ⟨rfl, rfl⟩
/-- Some bytes go. -/
def GoPost (g n k : Nat) (q : Q22) (D : Nat → Prop) (w : World) (x : Ending) (w' : World) : Prop :=
  ∃ t rest a m c, x = .returned (.slice a m c) ∧ m = t.length ∧ q.head = t ++ rest ∧ t.length ≤ k ∧ (q.head ≠ [] → t ≠ []) ∧ RowKit.Hid (By22 w' (fun j => D j ∨ w.heap.size ≤ j) a m c t ∧ QuAt w' g n ⟨rest, q.l, q.drops, q.lost⟩ (fun j => D j ∨ w.heap.size ≤ j) ∧ Keeps (fun j => j = g) w w')
theorem QuAt.go_ {w : World} {D : Nat → Prop} {g n : Nat} {q : Q22} (h : QuAt w g n q D) (hl : q.head.length ≤ 400000) (k : Nat) (h1 : 1 ≤ k) (h2 : k ≤ 2000000) :
    Calls Try.prog 22 #[.pointer (some ⟨g, 0, none⟩), .int .i64 k] w (GoPost g n k q D w) := by
  obtain ⟨cs, f, c1, x1⟩ := h.c
  refine (due_take g cs q.head D k w c1 x1.must h.dg (by have := x1.size; omega) hl h1 h2).mono ?_
  rintro e w' ⟨t, rest, a, m, c, rfl, hm, h3, h4, h5, h6⟩
  have h7 := h.due x1 h6.out.2
  exact ⟨t, rest, a, m, c, rfl, hm, h3, h4, h5, h6.out.1, h7.1, h7.2⟩
theorem QuAt.count {w : World} {D : Nat → Prop} {g n : Nat} {q : Q22} (h : QuAt w g n q D) (hl : q.head.length ≤ 400000) :
    Calls Try.prog 20 #[.pointer (some ⟨g, 0, none⟩)] w fun e w' => e = .returned (.int .i64 q.head.length) ∧ ∃ k, w' = w.drewN k := by
  obtain ⟨cs, f, c1, x1⟩ := h.c
  exact due_count g cs q.head D w c1 x1.must (by omega)
/-- How Take stands: T was taken. -/
structure QtSt (w : World) (D : Nat → Prop) (g n K : Nat) (q : Q22) (T : List Int) (q' : Q22) (v : Value) (wr : World) : Prop where
  hq : QuAt wr g n q' (fun j => (D j ∨ w.heap.size ≤ j) ∧ v.ownBlock ≠ some j)
  hk : Keeps (fun j => j = g) w wr
  ho : wr.ownsRow w.heap.size 5 1 v T.length (T.map (Value.int .u8))
  ht : T.length ≤ K
  he : takeQ q.l K q.head = (T ++ (takeQ q'.l (K - T.length) q'.head).1, (takeQ q'.l (K - T.length) q'.head).2)
  hd : q'.drops = q.drops
  hl : q'.lost = q.lost
  hs : q'.size ≤ q.size
  hg : g < w.heap.size
section
variable {w wr w' w4 : World} {D : Nat → Prop} {g n K : Nat} {q q' q2 : Q22} {T : List Int} {v : Value}
theorem QtSt.draw (h : QtSt w D g n K q T q' v wr) (k : Nat) : QtSt w D g n K q T q' v (wr.drewN k) :=
  ⟨h.hq.below (Below.drewN' (Below.refl _ _) k), h.hk.drewN k, own_drewN h.ho k, h.ht, h.he, h.hd, h.hl, h.hs, h.hg⟩
theorem QtSt.apart (h : QtSt w D g n K q T q' v wr) {j : Nat} (hj : ((D j ∨ w.heap.size ≤ j) ∧ v.ownBlock ≠ some j) ∨ wr.heap.size ≤ j) : (D j ∨ w.heap.size ≤ j) ∧ v.ownBlock ≠ some j := by
  rcases hj with hj | hj
  · exact hj
  · have hs := h.hk.size
    refine ⟨.inr (by omega), fun e => ?_⟩
    have := own_lt h.ho j e
    omega
/-- A packet is begun. -/
theorem QtSt.begun (h : QtSt w D g n K q T q' v wr) {p : List Int} {l : List (List Int)} (h0 : q'.head = []) (hl : q'.l = p :: l) (hT : T.length < K) (hq : QuAt w' g n ⟨q'.head ++ p, l, q'.drops, q'.lost⟩ (fun j => ((D j ∨ w.heap.size ≤ j) ∧ v.ownBlock ≠ some j) ∨ wr.heap.size ≤ j)) (hk : Keeps (fun j => j = g) wr w') :
    QtSt w D g n K q T ⟨p, l, q'.drops, q'.lost⟩ v w' := by
  have hg := h.hg
  rw [h0, List.nil_append] at hq
  refine ⟨hq.weaken (fun j hj _ => h.apart hj) (fun hj => h.hq.dg hj), h.hk.trans hk, own_keeps h.ho hk fun j hj e => ?_, h.ht, ?_, h.hd, h.hl, ?_, h.hg⟩
  · have := own_base h.ho j hj
    omega
  · rw [h.he, hl, h0, takeQ_next (by omega)]
  · have := h.hs
    unfold Q22.size at this ⊢
    rw [h0, hl] at this
    simpa using this
/-- What owns T still does. -/
theorem QtSt.own (h : QtSt w D g n K q T q' v wr) (hk : Keeps (fun j => j = g) wr w') : w'.ownsRow w.heap.size 5 1 v T.length (T.map (Value.int .u8)) := by
  have hg := h.hg
  refine own_keeps h.ho hk fun j hj e => ?_
  have := own_base h.ho j hj
  omega
theorem QtSt.ownM (h : QtSt w D g n K q T q' v wr) (hk : Keeps (fun j => j = g) wr w') {m : Nat} (hm : m = T.length) : w'.ownsRow w.heap.size 5 1 v m (T.map (Value.int .u8)) := by
  subst hm
  exact h.own hk
/-- Some of its bytes went. -/
theorem QtSt.went (h : QtSt w D g n K q T q' v wr) {t rest : List Int} (ht : q'.head = t ++ rest) (hk : T.length + t.length ≤ K) {v' : Value} (hq : QuAt w' g n ⟨rest, q'.l, q'.drops, q'.lost⟩ (fun j => ((D j ∨ w.heap.size ≤ j) ∧ v.ownBlock ≠ some j) ∨ wr.heap.size ≤ j)) (hkp : Keeps (fun j => j = g) wr w') (hg4 : w'.grownBy w4 v.ownBlock) (hv : v'.ownBlock = v.ownBlock ∨ v'.ownBlock = some w'.heap.size) (ho : w4.ownsRow w.heap.size 5 1 v' (T.length + t.length) ((T ++ t).map (Value.int .u8))) :
    QtSt w D g n K q (T ++ t) ⟨rest, q'.l, q'.drops, q'.lost⟩ v' w4 := by
  have hg := h.hg
  have k4 : Keeps (fun j => v.ownBlock = some j) w' w4 := Keeps.of_grown hg4 fun k hk => hk
  have hs2 := (h.hk.trans hkp).size
  have hq3 := hq.weaken (E := fun j => ((D j ∨ w.heap.size ≤ j) ∧ v.ownBlock ≠ some j) ∧ j < w'.heap.size) (fun j hj hl => ⟨h.apart hj, hl⟩) (fun hj => h.hq.dg hj.1)
  have hq4 := hq3.keeps k4 fun j hj => ⟨fun hd => hd.1.2 hj, fun e => by have := own_base h.ho j hj; omega⟩
  refine ⟨hq4.weaken (fun j hj _ => ⟨hj.1.1, fun e => ?_⟩) (fun hj => ?_), ?_, by rw [List.length_append]; exact ho, by rw [List.length_append]; exact hk, ?_, h.hd, h.hl, ?_, h.hg⟩
  · rcases hv with e2 | e2
    · exact hj.1.2 (e2 ▸ e)
    · rw [e2] at e
      injection e with e
      have := hj.2
      omega
  · rcases hj.1 with hd | hd
    · exact h.hq.dg ⟨.inl hd, fun e => by have := own_base h.ho g e; omega⟩
    · omega
  · exact (h.hk.trans hkp).then_ k4 fun j hj => .inr (own_base h.ho j hj)
  · rw [h.he, ht, takeQ_part (by omega), List.length_append, Nat.sub_add_eq, List.append_assoc]
  · have := h.hs
    unfold Q22.size at this ⊢
    rw [ht] at this
    simp at this ⊢
    omega
end
/-- What Take gives. -/
def QtPost (g n K : Nat) (q : Q22) (D : Nat → Prop) (w : World) (x : Ending) (w' : World) : Prop :=
  ∃ a m c, x = .returned (.slice a m c) ∧ m = (q.out K).length ∧ RowKit.Hid (w'.ownsRow w.heap.size 5 1 (.slice a m c) m ((q.out K).map (Value.int .u8)) ∧ QuAt w' g n (q.take K) (fun j => D j ∨ w.heap.size ≤ j) ∧ Keeps (fun j => j = g) w w')
theorem QtSt.done {w wr : World} {D : Nat → Prop} {g n K m c : Nat} {q q' : Q22} {T : List Int} {a : Option Addr} (h : QtSt w D g n K q T q' (.slice a m c) wr) (hm : m = T.length) (hT : T.length = K ∨ q'.head = [] ∧ q'.l = []) : QtPost g n K q D w (.returned (.slice a m c)) wr := by
  subst hm
  have e0 : takeQ q'.l (K - T.length) q'.head = ([], q'.head, q'.l) := by
    rcases hT with h1 | ⟨h1, h2⟩
    · rw [takeQ_le (by omega), h1, Nat.sub_self]; simp
    · rw [h1, h2, takeQ_none]
  have e1 := h.he
  rw [e0] at e1
  simp only [List.append_nil] at e1
  have e2 : q.out K = T := by unfold Q22.out; rw [e1]
  have e3 : q.take K = q' := by
    unfold Q22.take
    rw [e1]
    have h1 := h.hd
    have h2 := h.hl
    cases q'
    simp only at h1 h2 ⊢
    rw [h1, h2]
  exact ⟨a, _, c, rfl, by rw [e2], by rw [e2]; exact h.ho, by rw [e3]; exact h.hq.weaken (fun j hj _ => hj.1) (fun hj => by have := h.hg; rcases hj with hj | hj; exact h.hq.dg ⟨.inl hj, fun e => by have := own_base h.ho g e; omega⟩; omega), h.hk⟩
def lenV22 : Value → Nat
  | .slice _ n _ => n
  | _ => 0
def numV22 : Option Value → Nat
  | some (.int _ n) => n.toNat
  | _ => 0
theorem QuAt.num {w : World} {D : Nat → Prop} {g n : Nat} {q : Q22} (h : QuAt w g n q D) : numV22 (w.cell? ⟨g, 261, none⟩) = q.l.length := by
  obtain ⟨cs, f, c1, x1⟩ := h.c
  rw [c1.cell, x1.count]
  rfl
theorem quTake_neg (g n : Nat) (q : Q22) (D : Nat → Prop) (k : Int) (w : World) (h : QuAt w g n q D) (hk : k < 0) : Calls Try.prog 12 #[.pointer (some ⟨g, 0, none⟩), .int .i64 k] w (QtPost g n 0 q D w) := by
  have e : takeQ q.l 0 q.head = ([], q.head, q.l) := by rw [takeQ_le (Nat.zero_le _)]; simp
  have HP : RowKit.Hid (QtPost g n 0 q D w (.returned (.slice none 0 0)) w) := by
    have e2 : q.out 0 = [] := by unfold Q22.out; rw [e]
    have e3 : q.take 0 = q := by unfold Q22.take; rw [e]
    have hl := h.lt
    exact ⟨none, 0, 0, rfl, by rw [e2]; rfl, by rw [e2]; exact World.ownsRow_nil _ _ _ _, by rw [e3]; exact h.weaken (fun j hj _ => .inl hj) (fun hj => by rcases hj with hj | hj; exact h.dg hj; omega), Keeps.refl _ _⟩
  have d1 : decide ((0 : Int) < k) = false := by simp; omega
  clear e
  go_enter Try.func12, Try.ntmps12
  go_wp2
  go_loopw [5] (fun v wr => v = .slice none 0 0 ∧ wr = w) (fun _ _ => 0)
  case atStart => exact ⟨rfl, rfl⟩
  case round =>
    obtain ⟨rfl, rfl⟩ := hrel
    go_wp2
    go_ret
    exact HP.out
set_option maxRecDepth 100000 in
set_option maxHeartbeats 2000000 in
theorem quTake_any (g n : Nat) (q : Q22) (D : Nat → Prop) (K : Nat) (w : World) (h : QuAt w g n q D) (hs : q.size ≤ 100000) (hK : K ≤ 2000000) : Calls Try.prog 12 #[.pointer (some ⟨g, 0, none⟩), .int .i64 K] w (QtPost g n K q D w) := by
  have hgl := h.lt
  have H0 : RowKit.Hid (QtSt w D g n K q [] q (.slice none 0 0) w) := ⟨h.weaken (fun j hj _ => ⟨.inl hj, fun e => by cases e⟩) (fun hj => by rcases hj.1 with hj | hj; exact h.dg hj; omega), Keeps.refl _ _, World.ownsRow_nil _ _ _ _, Nat.zero_le _, rfl, rfl, rfl, Nat.le_refl _, hgl⟩
  have HU := Lib.hid info22_u8
  clear h
  go_enter Try.func12, Try.ntmps12
  go_wp2
  go_loopw [5] (fun v wr => ∃ T q' a m c, v = .slice a m c ∧ m = T.length ∧ RowKit.Hid (QtSt w D g n K q T q' v wr)) (fun v wr => (K - lenV22 v) + numV22 (wr.cell? ⟨g, 261, none⟩))
  case atStart => exact ⟨[], q, none, 0, 0, rfl, rfl, H0.out⟩
  case round =>
    obtain ⟨T, q', a, m, c, rfl, hm, H⟩ := hrel
    clear H0
    have hTK : m ≤ K := by have := H.out.ht; omega
    have HM := Lib.hid hm
    have HT : RowKit.Hid (T.length ≤ 100000) := by
      have := congrArg (fun x => x.1.length) H.out.he
      simp at this
      have h2 := congrArg List.length (takeQ_sum q.l K q.head)
      unfold Q22.size at hs
      simp at h2 hs
      exact Lib.hid (by omega)
    clear hm
    have hhead : q'.head.length ≤ 100000 := by have := H.out.hs; unfold Q22.size at this; simp at this; unfold Q22.size at hs; simp at hs; omega
    by_cases hlt : m < K
    · have e1 : IntKind.i64.wrap ((K : Int) - (m : Int)) = ((K - m : Nat) : Int) := (IntWalk.i64_in _ (by omega)).trans (by omega)
      have HC := Lib.hid (H.out.hq.count (by omega))
      by_cases h0 : q'.head = []
      · have hc0 : q'.head.length = 0 := by rw [h0]; rfl
        rw [hc0] at HC
        cases hl : q'.l with
        | nil =>
          have HB : RowKit.Hid (∀ k, Calls Try.prog 21 #[.pointer (some ⟨g, 0, none⟩)] (wr.drewN k) fun e w' => e = .returned (.bool false) ∧ w' = wr.drewN k) := Lib.hid fun k => quBegin_none g n q' _ _ (H.out.draw k).hq hl
          have HD : RowKit.Hid (∀ k, QtPost g n K q D w (.returned (.slice a m c)) (wr.drewN k)) := Lib.hid fun k => (H.out.draw k).done HM.out (.inr ⟨h0, hl⟩)
          clear H h0 hl hc0
          go_wp2_with (first
            | (go_at_call 20; refine HC.out.mono ?_; rintro e w2 ⟨rfl, k2, rfl⟩)
            | (go_at_call 21; refine (HB.out _).mono ?_; rintro e w3 ⟨rfl, rfl⟩)
            | fail)
          go_ret
          exact HD.out _
        | cons p l =>
          have hp : p.length ≤ 100000 := by
            have := H.out.hs
            unfold Q22.size at this hs
            rw [hl] at this
            simp at this hs
            omega
          have HB : RowKit.Hid (∀ k, Calls Try.prog 21 #[.pointer (some ⟨g, 0, none⟩)] (wr.drewN k) fun e w' => e = .returned (.bool true) ∧ RowKit.Hid (QtSt w D g n K q T ⟨p, l, q'.drops, q'.lost⟩ (.slice a m c) w')) := by
            refine Lib.hid fun k => (quBegin_some g n q' _ p l _ (H.out.draw k).hq hl (by rw [h0]; simp; omega)).mono ?_
            rintro e w' ⟨rfl, hq, hk⟩
            exact ⟨rfl, (H.out.draw k).begun h0 hl (by have := HM.out; omega) hq hk⟩
          have HG : RowKit.Hid (∀ W, QtSt w D g n K q T ⟨p, l, q'.drops, q'.lost⟩ (.slice a m c) W → Calls Try.prog 22 #[.pointer (some ⟨g, 0, none⟩), .int .i64 ((K - m : Nat) : Int)] W (GoPost g n (K - m) ⟨p, l, q'.drops, q'.lost⟩ _ W)) := Lib.hid fun W h => h.hq.go_ (by show p.length ≤ 400000; omega) (K - m) (by omega) (by omega)
          have HN : RowKit.Hid ((K - lenV22 (.slice a m c)) + numV22 (wr.cell? ⟨g, 261, none⟩) = (K - m) + (l.length + 1)) := by
            refine Lib.hid ?_
            rw [H.out.hq.num, hl]
            rfl
          clear H h0 hl hc0
          go_wp2_with (first
            | (go_at_call 20; refine HC.out.mono ?_; rintro e w2 ⟨rfl, k2, rfl⟩)
            | (go_at_call 21; refine (HB.out _).mono ?_; rintro e w3 ⟨rfl, H3⟩)
            | (go_at_call 22; refine (HG.out _ H3.out).mono ?_; rintro e w4 ⟨t, rest, a4, m4, c4, rfl, hm4, hh, hlt4, hne, HP⟩; have H4 := Lib.hid (And.intro hm4 (And.intro hh (And.intro hlt4 HP.out))); clear hm4 hh hlt4 hne HP)
            | (at_builtin; go_loud (refine append_ints rfl _ _ 31 rfl w.heap.size 5 .u8 1 Try.underlying31 HU.out (.slice a m c) m T rfl (H3.out.ownM H4.out.2.2.2.2.2 HM.out) a4 m4 c4 _ t rfl H4.out.2.2.2.1.hi H4.out.2.2.2.1.hn (by unfold maxLen; have := H4.out.1; have := H4.out.2.2.1; omega) (by have := H4.out.1; have := H4.out.2.2.1; omega) (Nat.le_trans H3.out.hk.size H4.out.2.2.2.2.2.size) ?_); intro v5 w5 ho hg5 hv5; have HO5 := Lib.hid (H3.out.went H4.out.2.1 (by have := H4.out.1; have := HM.out; have := H4.out.2.2.1; omega) H4.out.2.2.2.2.1 H4.out.2.2.2.2.2 hg5 hv5 (by rw [← H4.out.1, ← HM.out]; exact ho)); obtain ⟨a5, m5, c5, rfl, hm5⟩ := own_form_m HO5.out.ho; have HM5 := Lib.hid hm5; clear ho hg5 hv5 hm5)
            | fail)
          go_roundw
          case rel => exact ⟨_, _, _, _, _, rfl, HM5.out, HO5.out⟩
          case measure =>
            rw [HN.out, HO5.out.hq.num]
            have e5 : m5 = T.length + t.length := by rw [HM5.out, List.length_append]
            show (K - m5) + l.length < _
            have := HM.out
            omega
      · have HG : RowKit.Hid (∀ k, Calls Try.prog 22 #[.pointer (some ⟨g, 0, none⟩), .int .i64 ((K - m : Nat) : Int)] (wr.drewN k) (GoPost g n (K - m) q' _ (wr.drewN k))) := Lib.hid fun k => (H.out.draw k).hq.go_ (by omega) (K - m) (by omega) (by omega)
        have HN : RowKit.Hid ((K - lenV22 (.slice a m c)) + numV22 (wr.cell? ⟨g, 261, none⟩) = (K - m) + q'.l.length) := by
          refine Lib.hid ?_
          rw [H.out.hq.num]
          rfl
        have HNe := Lib.hid h0
        have hc1 : (((q'.head.length : Nat) : Int) == 0) = false := by
          have := List.length_pos_iff.2 h0
          simp
          exact h0
        obtain ⟨hN, hhN⟩ : ∃ hN, q'.head.length = hN := ⟨_, rfl⟩
        rw [hhN] at HC hc1
        clear h0 hhN
        go_wp2_with (first
          | (go_at_call 20; refine HC.out.mono ?_; rintro e w2 ⟨rfl, k2, rfl⟩)
          | (go_at_call 22; refine (HG.out _).mono ?_; rintro e w4 ⟨t, rest, a4, m4, c4, rfl, hm4, hh, hlt4, hne, HP⟩; have H4 := Lib.hid (And.intro hm4 (And.intro hh (And.intro hlt4 HP.out))); have HT4 := Lib.hid (hne HNe.out); clear hm4 hh hlt4 hne HP)
          | (at_builtin; go_loud (refine append_ints rfl _ _ 31 rfl w.heap.size 5 .u8 1 Try.underlying31 HU.out (.slice a m c) m T rfl ((H.out.draw k2).ownM H4.out.2.2.2.2.2 HM.out) a4 m4 c4 _ t rfl H4.out.2.2.2.1.hi H4.out.2.2.2.1.hn (by unfold maxLen; have := H4.out.1; have := H4.out.2.2.1; omega) (by have := H4.out.1; have := H4.out.2.2.1; omega) (Nat.le_trans (H.out.draw k2).hk.size H4.out.2.2.2.2.2.size) ?_); intro v5 w5 ho hg5 hv5; have HO5 := Lib.hid ((H.out.draw k2).went H4.out.2.1 (by have := H4.out.1; have := HM.out; have := H4.out.2.2.1; omega) H4.out.2.2.2.2.1 H4.out.2.2.2.2.2 hg5 hv5 (by rw [← H4.out.1, ← HM.out]; exact ho)); obtain ⟨a5, m5, c5, rfl, hm5⟩ := own_form_m HO5.out.ho; have HM5 := Lib.hid hm5; clear ho hg5 hv5 hm5)
          | fail)
        go_roundw
        case rel => exact ⟨_, _, _, _, _, rfl, HM5.out, HO5.out⟩
        case measure =>
          rw [HN.out, HO5.out.hq.num]
          have e5 : m5 = T.length + t.length := by rw [HM5.out, List.length_append]
          have e6 := List.length_pos_iff.2 HT4.out
          show (K - m5) + q'.l.length < _
          have := HM.out
          omega
    · have HD : RowKit.Hid (QtPost g n K q D w (.returned (.slice a m c)) wr) := Lib.hid (H.out.done HM.out (.inl (by have := HM.out; have := H.out.ht; omega)))
      clear H
      go_wp2
      go_ret
      exact HD.out
end Go.Proofs.Ytnjnfocpjmmibaa
