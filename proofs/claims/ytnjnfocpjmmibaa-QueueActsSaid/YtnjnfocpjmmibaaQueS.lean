/- Packets that tell their number, in numbers; a queue beside a row of one's own. -/
import Derived.Test.YtnjnfocpjmmibaaQueR
namespace Go.Proofs.Ytnjnfocpjmmibaa
open Go.RowKit
set_option linter.unusedVariables false
set_option linter.unusedSimpArgs false

/-! ### Packets that tell their number -/
def tri22 (n : Nat) : List Int := [91, (n : Int), 93]
/-- Each is behind the last one, and a whole one if one is missing. -/
def goodF (wh : List Bool) : Int → List Nat → Prop
  | _, [] => True
  | last, n :: S => last < (n : Int) ∧ n < wh.length ∧ ((n : Int) = last + 1 ∨ wh[n]? = some true) ∧ goodF wh n S
def lastOf : Int → List Nat → Int
  | last, [] => last
  | _, n :: S => lastOf n S
theorem goodF_mono {wh : List Bool} (b : Bool) : ∀ {S : List Nat} {last : Int}, goodF wh last S → goodF (wh ++ [b]) last S := by
  intro S
  induction S with
  | nil => intro last _; trivial
  | cons n S ih =>
    intro last h
    obtain ⟨h1, h2, h3, h4⟩ := h
    refine ⟨h1, by simp; omega, h3.imp id fun e => ?_, ih h4⟩
    rw [List.getElem?_append_left h2]
    exact e
theorem goodF_pre {wh : List Bool} : ∀ {P L : List Nat} {last : Int}, goodF wh last (P ++ L) → goodF wh last P := by
  intro P
  induction P with
  | nil => intro L last _; trivial
  | cons n S ih =>
    intro L last h
    obtain ⟨h1, h2, h3, h4⟩ := h
    exact ⟨h1, h2, h3, ih h4⟩
theorem lastOf_app (n : Nat) : ∀ (S : List Nat) (last : Int), lastOf last (S ++ [n]) = n := by
  intro S
  induction S with
  | nil => intro last; rfl
  | cons m S ih => intro last; exact ih m
theorem goodF_last {wh : List Bool} : ∀ {S : List Nat} {last : Int}, goodF wh last S → last < (wh.length : Int) → lastOf last S < (wh.length : Int) := by
  intro S
  induction S with
  | nil => intro last _ h; exact h
  | cons n S ih =>
    intro last h _
    obtain ⟨h1, h2, h3, h4⟩ := h
    exact ih h4 (by omega)
theorem goodF_app {wh : List Bool} {n : Nat} : ∀ {S : List Nat} {last : Int}, goodF wh last S → lastOf last S < (n : Int) → n < wh.length → ((n : Int) = lastOf last S + 1 ∨ wh[n]? = some true) → goodF wh last (S ++ [n]) := by
  intro S
  induction S with
  | nil => intro last _ h1 h2 h3; exact ⟨h1, h2, h3, trivial⟩
  | cons m S ih =>
    intro last h h1 h2 h3
    obtain ⟨g1, g2, g3, g4⟩ := h
    exact ⟨g1, g2, g3, ih g4 h1 h2 h3⟩
/-- What is held on the way: what was taken and what must go are whole packets, in order. -/
def RunOk (wh : List Bool) (q : Q22) (out : List Int) : Prop :=
  ∃ P L : List Nat, out ++ q.head = 62 :: (P.map tri22).flatten ∧ q.l = L.map tri22 ∧ goodF wh (-2) (P ++ L) ∧ (q.drops = false → lastOf (-2) (P ++ L) = (wh.length : Int) - 1)
theorem RunOk.start (q : Q22) (h0 : q.head = []) (hl : q.l = []) (hd : q.drops = true) : RunOk [] (q.say [62]) [] :=
  ⟨[], [], by simp [Q22.say, h0], by simp [Q22.say, hl], trivial, fun e => by simp [Q22.say, hd] at e⟩
theorem RunOk.flush {wh : List Bool} {q : Q22} {out : List Int} (h : RunOk wh q out) : RunOk wh q.flush out := by
  obtain ⟨P, L, h1, h2, h3, h4⟩ := h
  exact ⟨P, [], h1, rfl, by rw [List.append_nil]; exact goodF_pre h3, fun e => by simp [Q22.flush] at e⟩
theorem RunOk.roomed {wh : List Bool} {q : Q22} {out : List Int} (n : Nat) (h : RunOk wh q out) : RunOk wh (q.roomed n) out := by
  unfold Q22.roomed
  split
  · exact h.flush
  · exact h
theorem RunOk.offer {wh : List Bool} {q : Q22} {out : List Int} (n : Nat) (w : Bool) (h : RunOk wh q out) : RunOk (wh ++ [w]) (q.offer n (tri22 wh.length) w) out := by
  have he := q.roomed_head n
  obtain ⟨P, L, h1, h2, h3, h4⟩ := h.roomed n
  have hm : q.may n w = !((q.roomed n).drops && !w) := rfl
  unfold Q22.offer
  rw [hm]
  rw [he] at h1
  cases hd : (q.roomed n).drops with
  | false =>
    rw [hd] at h4
    have hlast := h4 rfl
    refine ⟨P, L ++ [wh.length], h1, by simp [h2], ?_, fun _ => ?_⟩
    · rw [← List.append_assoc]
      exact goodF_app (goodF_mono w h3) (by omega) (by simp) (.inl (by omega))
    · rw [← List.append_assoc, lastOf_app]
      simp
  | true =>
    cases w with
    | false => exact ⟨P, L, h1, h2, goodF_mono false h3, fun e => by simp at e⟩
    | true =>
      refine ⟨P, L ++ [wh.length], h1, by simp [h2], ?_, fun _ => ?_⟩
      · rw [← List.append_assoc]
        exact goodF_app (goodF_mono true h3) (goodF_last h3 (by omega)) (by simp) (.inr (by simp))
      · rw [← List.append_assoc, lastOf_app]
        simp
theorem RunOk.take {wh : List Bool} {q : Q22} {out : List Int} (k : Nat) (h : RunOk wh q out) : RunOk wh (q.take k) (out ++ q.out k) := by
  obtain ⟨P, L, h1, h2, h3, h4⟩ := h
  obtain ⟨pre, hpre⟩ := takeQ_rest q.l k q.head
  have hsum := takeQ_sum q.l k q.head
  have e1 : L = L.take pre.length ++ L.drop pre.length := (List.take_append_drop _ _).symm
  have e2 : (L.drop pre.length).map tri22 = (takeQ q.l k q.head).2.2 := by
    rw [List.map_drop, ← h2]
    conv => lhs; rw [← hpre]
    exact List.drop_left' rfl
  have e3 : (L.take pre.length).map tri22 = pre := by
    rw [List.map_take, ← h2]
    conv => lhs; rw [← hpre]
    exact List.take_left' rfl
  have e4 : (takeQ q.l k q.head).1 ++ (takeQ q.l k q.head).2.1 = q.head ++ pre.flatten := by
    have : ((takeQ q.l k q.head).1 ++ (takeQ q.l k q.head).2.1) ++ (takeQ q.l k q.head).2.2.flatten = (q.head ++ pre.flatten) ++ (takeQ q.l k q.head).2.2.flatten := by
      rw [List.append_assoc, hsum, List.append_assoc, ← List.flatten_append, hpre]
    exact List.append_cancel_right this
  refine ⟨P ++ L.take pre.length, L.drop pre.length, ?_, e2.symm, by rw [List.append_assoc, ← e1]; exact h3, fun e => by rw [List.append_assoc, ← e1]; exact h4 e⟩
  show (out ++ (takeQ q.l k q.head).1) ++ (takeQ q.l k q.head).2.1 = _
  rw [List.append_assoc, e4, ← List.append_assoc, h1, List.map_append, e3, List.flatten_append]
  rfl
/-- At the end. -/
theorem RunOk.all {wh : List Bool} {q : Q22} {out : List Int} (h : RunOk wh q out) {k : Nat} (hk : q.size < k) : ∃ S : List Nat, out ++ q.out k = 62 :: (S.map tri22).flatten ∧ goodF wh (-2) S := by
  obtain ⟨P, L, h1, h2, h3, _⟩ := h
  refine ⟨P ++ L, ?_, h3⟩
  have e := takeQ_all q.l k q.head hk
  unfold Q22.out
  rw [e]
  simp only
  rw [← List.append_assoc, h1, h2, List.map_append, List.flatten_append]
  rfl
/-! ### A queue beside a row of one's own -/
structure QV (w : World) (g n : Nat) (q : Q22) (e : TypeId) (v : Value) (xs : List Value) (wr : World) : Prop where
  b : Below w.heap.size w wr
  g1 : w.heap.size ≤ g
  q : QuAt wr g n q (fun j => j ≠ g ∧ v.ownBlock ≠ some j)
  o : wr.ownsRow w.heap.size e 1 v xs.length xs
section
variable {w wr w' : World} {g n : Nat} {q q' : Q22} {e : TypeId} {v : Value} {xs : List Value}
theorem QV.of (h : QSt w g n q wr) (e : TypeId) : QV w g n q e (.slice none 0 0) [] wr := ⟨h.b, h.g1, h.q.weaken (fun j hj _ => ⟨hj, fun e => by cases e⟩) (fun e => e.1 rfl), World.ownsRow_nil _ _ _ _⟩
theorem QV.below (h : QV w g n q e v xs wr) (hb : Below wr.heap.size wr w') : QV w g n q e v xs w' := ⟨h.b.trans (hb.mono h.b.size), h.g1, h.q.below hb, own_below h.o hb⟩
theorem QV.after (h : QV w g n q e v xs wr) (he : e ≠ 52) (hq : QuAt w' g n q' (fun j => (j ≠ g ∧ v.ownBlock ≠ some j) ∨ wr.heap.size ≤ j)) (hk : Keeps (fun j => j = g) wr w') : QV w g n q' e v xs w' := by
  have hgl := h.q.lt
  refine ⟨h.b.trans (hk.below h.b.size fun j e => e ▸ h.g1), h.g1, hq.weaken (fun j hj _ => ?_) (fun e => e.1 rfl), own_keeps h.o hk fun k hk2 e2 => ?_⟩
  · rcases hj with hj | hj
    · exact hj
    · exact ⟨by omega, fun e => by have := own_lt h.o j e; omega⟩
  · obtain ⟨cs, f, hc, _⟩ := h.q.c
    exact (own_typ19 h.o hk2).1.ne hc.typ19 he e2
theorem QV.offer (h : QV w g n q e v xs wr) (he : e ≠ 52) {a : Option Addr} {m c : Nat} {b : List Int} (hb : By22 wr (fun j => j ≠ g) a m c b) (hm : m ≤ 400000) (hl : q.lost ≤ 500000) (wh : Bool) :
    Calls Try.prog 9 #[.pointer (some ⟨g, 0, none⟩), .slice a m c, .bool wh] wr fun x w' => x = .returned (.bool (q.may n wh)) ∧ QV w g n (q.offer n b wh) e v xs w' := by
  refine (quOffer_any g n q _ a m c b wh wr h.q hb hm hl).mono ?_
  rintro x w' ⟨rfl, hq, hk⟩
  exact ⟨rfl, h.after he hq hk⟩
theorem QV.flush (h : QV w g n q e v xs wr) (he : e ≠ 52) (hl : q.lost ≤ 1000000) :
    Calls Try.prog 14 #[.pointer (some ⟨g, 0, none⟩)] wr fun x w' => (∃ y, x = .returned y) ∧ QV w g n q.flush e v xs w' := by
  refine (quFlush_any g n q _ wr h.q hl).mono ?_
  rintro x w' ⟨hx, hq, hk⟩
  have hgl := h.q.lt
  exact ⟨hx, h.after he (hq.weaken (fun j hj _ => .inl hj) fun hj => by rcases hj with hj | hj; exact hj.1 rfl; omega) hk⟩
theorem QV.take (h : QV w g n q e v xs wr) (he : e ≠ 52) (hs : q.size ≤ 100000) (k : Int) (hk : k ≤ 2000000) :
    Calls Try.prog 12 #[.pointer (some ⟨g, 0, none⟩), .int .i64 k] wr fun x w' => ∃ a m c, x = .returned (.slice a m c) ∧ m = (q.out k.toNat).length ∧ RowKit.Hid (IntsAt w' w'.heap.size .u8 a m (q.out k.toNat) ∧ QV w g n (q.take k.toNat) e v xs w') := by
  by_cases h0 : k < 0
  · have e0 : k.toNat = 0 := by omega
    rw [e0]
    refine (quTake_neg g n q _ k wr h.q h0).mono ?_
    rintro x w' ⟨a, m, c, rfl, hm, hh⟩
    exact ⟨a, m, c, rfl, hm, own_ints_m hh.out.1, h.after he hh.out.2.1 hh.out.2.2⟩
  · obtain ⟨K, rfl⟩ : ∃ K : Nat, k = (K : Int) := ⟨k.toNat, by omega⟩
    have e0 : ((K : Nat) : Int).toNat = K := by omega
    rw [e0]
    refine (quTake_any g n q _ K wr h.q hs (by omega)).mono ?_
    rintro x w' ⟨a, m, c, rfl, hm, hh⟩
    exact ⟨a, m, c, rfl, hm, own_ints_m hh.out.1, h.after he hh.out.2.1 hh.out.2.2⟩
/-- The row has grown. -/
theorem QV.grown (h : QV w g n q e v xs wr) (he : e ≠ 52) {v' : Value} {xs' : List Value} (ho : w'.ownsRow w.heap.size e 1 v' xs'.length xs') (hg : wr.grownBy w' v.ownBlock) (hv : v'.ownBlock = v.ownBlock ∨ v'.ownBlock = some wr.heap.size) : QV w g n q e v' xs' w' := by
  obtain ⟨cs, f, hc, _⟩ := h.q.c
  have k4 : Keeps (fun j => v.ownBlock = some j) wr w' := Keeps.of_grown hg fun k hk => hk
  have hq3 := h.q.weaken (E := fun j => (j ≠ g ∧ v.ownBlock ≠ some j) ∧ j < wr.heap.size) (fun j hj hl => ⟨hj, hl⟩) (fun hj => hj.1.1 rfl)
  have hq4 := hq3.keeps k4 fun j hj => ⟨fun hd => hd.1.2 hj, fun e2 => (own_typ19 h.o hj).1.ne hc.typ19 he e2⟩
  refine ⟨h.b.trans (k4.below h.b.size fun j hj => own_base h.o j hj), h.g1, hq4.weaken (fun j hj _ => ⟨hj.1.1, fun e => ?_⟩) (fun hj => hj.1 rfl), ho⟩
  rcases hv with e2 | e2
  · exact hj.1.2 (e2 ▸ e)
  · rw [e2] at e
    injection e with e
    have := hj.2
    omega
end
end Go.Proofs.Ytnjnfocpjmmibaa
