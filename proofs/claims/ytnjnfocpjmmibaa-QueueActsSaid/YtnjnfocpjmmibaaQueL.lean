/- The queue on the law's way; the chapter's example. -/
import Derived.Test.YtnjnfocpjmmibaaQueJ
import Derived.Lib.SmallJoins
namespace Go.Proofs.Ytnjnfocpjmmibaa
open Go.RowKit
set_option linter.unusedVariables false
set_option linter.unusedSimpArgs false

/-- What is held of a queue on the way. -/
structure QSt (w : World) (g n : Nat) (q : Q22) (wr : World) : Prop where
  b : Below w.heap.size w wr
  q : QuAt wr g n q (fun j => j ≠ g)
  g1 : w.heap.size ≤ g
section
variable {w wr w' : World} {g n : Nat} {q q' : Q22} {D : Nat → Prop}
theorem QSt.below (h : QSt w g n q wr) (hb : Below wr.heap.size wr w') : QSt w g n q w' := ⟨h.b.trans (hb.mono h.b.size), h.q.below hb, h.g1⟩
theorem QSt.after (h : QSt w g n q wr) (hq : QuAt w' g n q' D) (hk : Keeps (fun j => j = g) wr w') : QSt w g n q' w' :=
  ⟨h.b.trans (hk.below h.b.size fun j e => e ▸ h.g1), hq.weaken (fun j hj _ e => hq.dg (e ▸ hj)) (fun e => e rfl), h.g1⟩
theorem QSt.offer (h : QSt w g n q wr) {a : Option Addr} {m c : Nat} {b : List Int} (hb : By22 wr (fun j => j ≠ g) a m c b) (hm : m ≤ 400000) (hl : q.lost ≤ 500000) (wh : Bool) :
    Calls Try.prog 9 #[.pointer (some ⟨g, 0, none⟩), .slice a m c, .bool wh] wr fun e w' => e = .returned (.bool (q.may n wh)) ∧ QSt w g n (q.offer n b wh) w' := by
  refine (quOffer_any g n q _ a m c b wh wr h.q hb hm hl).mono ?_
  rintro e w' ⟨rfl, hq, hk⟩
  exact ⟨rfl, h.after hq hk⟩
theorem QSt.say (h : QSt w g n q wr) {a : Option Addr} {m c : Nat} {b : List Int} {E : Nat → Prop} (hb : By22 wr E a m c b) (hl : q.head.length + m ≤ 400000) :
    Calls Try.prog 11 #[.pointer (some ⟨g, 0, none⟩), .slice a m c] wr fun e w' => (∃ x, e = .returned x) ∧ QSt w g n (q.say b) w' := by
  refine (quSay_any g n q _ E a m c b wr h.q hb hl).mono ?_
  rintro e w' ⟨hx, hq, hk⟩
  exact ⟨hx, h.after hq hk⟩
theorem QSt.flush (h : QSt w g n q wr) (hl : q.lost ≤ 1000000) :
    Calls Try.prog 14 #[.pointer (some ⟨g, 0, none⟩)] wr fun e w' => (∃ x, e = .returned x) ∧ QSt w g n q.flush w' := by
  refine (quFlush_any g n q _ wr h.q hl).mono ?_
  rintro e w' ⟨hx, hq, hk⟩
  exact ⟨hx, h.after hq hk⟩
theorem QSt.take (h : QSt w g n q wr) (hs : q.size ≤ 100000) (k : Int) (hk : k ≤ 2000000) :
    Calls Try.prog 12 #[.pointer (some ⟨g, 0, none⟩), .int .i64 k] wr fun e w' => ∃ a m c, e = .returned (.slice a m c) ∧ m = (q.out k.toNat).length ∧ RowKit.Hid (IntsAt w' w'.heap.size .u8 a m (q.out k.toNat) ∧ QSt w g n (q.take k.toNat) w') := by
  by_cases h0 : k < 0
  · have e0 : k.toNat = 0 := by omega
    rw [e0]
    refine (quTake_neg g n q _ k wr h.q h0).mono ?_
    rintro e w' ⟨a, m, c, rfl, hm, hh⟩
    exact ⟨a, m, c, rfl, hm, own_ints_m hh.out.1, h.after hh.out.2.1 hh.out.2.2⟩
  · obtain ⟨K, rfl⟩ : ∃ K : Nat, k = (K : Int) := ⟨k.toNat, by omega⟩
    have e0 : ((K : Nat) : Int).toNat = K := by omega
    rw [e0]
    refine (quTake_any g n q _ K wr h.q hs (by omega)).mono ?_
    rintro e w' ⟨a, m, c, rfl, hm, hh⟩
    exact ⟨a, m, c, rfl, hm, own_ints_m hh.out.1, h.after hh.out.2.1 hh.out.2.2⟩
theorem QSt.lost (h : QSt w g n q wr) :
    Calls Try.prog 17 #[.pointer (some ⟨g, 0, none⟩)] wr fun e w' => e = .returned (.int .i64 q.lost) ∧ w' = wr := quLost_any g n q _ wr h.q
theorem QSt.waits (h : QSt w g n q wr) (hl : q.head.length ≤ 400000) :
    Calls Try.prog 16 #[.pointer (some ⟨g, 0, none⟩)] wr fun e w' => e = .returned (.tuple #[.int .i64 q.l.length, .int .i64 q.head.length]) ∧ ∃ k, w' = wr.drewN k := quWaits_any g n q _ wr h.q hl
/-- Bytes that are written out. -/
theorem By22.lit {w : World} {g : Nat} (zs : List Int) (cs : Array Value) (hcs : cs = (zs.map (Value.int .u8)).toArray) (fr : Nat × Nat) (hl : zs.length ≤ 1000) (hg : g < w.heap.size) : By22 (w.alloc (.cells cs 5 fr)) (fun j => j ≠ g) (some ⟨w.heap.size, 0, none⟩) zs.length zs.length zs := by
  subst hcs
  have hc := heap_alloc_new w (.cells (zs.map (Value.int .u8)).toArray 5 fr)
  refine ⟨⟨rfl, ?_⟩, (fun e => by cases e), Nat.le_refl _, by omega, fun r off e h0 => ?_⟩
  · by_cases h0 : zs.length = 0
    · exact .inl h0
    · refine .inr ⟨w.heap.size, 0, rfl, by simp, by omega, fun j hj => ?_⟩
      rw [Nat.zero_add, cell_of_row _ _ j _ _ _ hc]
      simp [List.getElem?_map, List.getD, hj]
  · injection e with e
    injection e with e
    omega
end
/-! ### The chapter's example -/
theorem text_ab : textOf [97, 98] = { data := #[97, 98] } := by rfl
def qA22 : Q22 := ⟨[], [], true, 1⟩
def qB22 : Q22 := ⟨[], [[97, 98, 99]], false, 1⟩
def qC22 : Q22 := ⟨[99], [], false, 1⟩
set_option maxRecDepth 100000 in
set_option maxHeartbeats 2000000 in
theorem lives22_any (w : World) : Calls Try.prog 6 #[] w fun e w' => e = .returned (.bool true) ∧ Below w.heap.size w w' := by
  have HN := Lib.hid (quNew_any 2 w (by decide) (by decide))
  have C1 : RowKit.Hid (∀ g wr, QSt w g 2 q0_22 wr → Calls Try.prog 9 #[.pointer (some ⟨g, 0, none⟩), .slice (some ⟨wr.heap.size, 0, none⟩) 1 1, .bool false] (wr.alloc (.cells #[.int .u8 120] 5 (1, 2))) fun e w' => e = .returned (.bool false) ∧ QSt w g 2 qA22 w') :=
    Lib.hid fun g wr h => (h.below (Below.alloc_new _ _)).offer (By22.lit [120] _ rfl (1, 2) (by decide) h.q.lt) (by decide) (by decide) false
  have C2 : RowKit.Hid (∀ g wr, QSt w g 2 qA22 wr → Calls Try.prog 9 #[.pointer (some ⟨g, 0, none⟩), .slice (some ⟨wr.heap.size, 0, none⟩) 3 3, .bool true] (wr.alloc (.cells #[.int .u8 97, .int .u8 98, .int .u8 99] 5 (3, 4))) fun e w' => e = .returned (.bool true) ∧ QSt w g 2 qB22 w') :=
    Lib.hid fun g wr h => (h.below (Below.alloc_new _ _)).offer (By22.lit [97, 98, 99] _ rfl (3, 4) (by decide) h.q.lt) (by decide) (by decide) true
  have C3 : RowKit.Hid (∀ g wr, QSt w g 2 qB22 wr → Calls Try.prog 12 #[.pointer (some ⟨g, 0, none⟩), .int .i64 2] wr fun e w' => ∃ a m c, e = .returned (.slice a m c) ∧ m = 2 ∧ RowKit.Hid (IntsAt w' w'.heap.size .u8 a m [97, 98] ∧ QSt w g 2 qC22 w')) :=
    Lib.hid fun g wr h => h.take (by decide) 2 (by decide)
  go_enter Try.func6, Try.ntmps6
  go_wp2_with (first
    | (go_at_call 8; refine HN.out.mono ?_; rintro e w2 ⟨g, rfl, hg, hq, hb⟩; have H1 : RowKit.Hid (QSt w g 2 q0_22 w2) := ⟨hb, hq.weaken (fun j hj => hj.elim) (fun e => e rfl), hg⟩; have cv1 := Go.Joins.run_convert_bytes_const_at (P := Try.prog) w2 31 5 #[.int .u8 120] 1 1 w2.heap.size rfl Try.underlying31 Try.underlying5; simp only [List.size_toArray, List.length_cons, List.length_nil, Nat.reduceAdd] at cv1; clear hg hq hb)
    | (go_at_call 9; refine (C1.out _ _ H1.out).mono ?_; rintro e w3 ⟨rfl, h⟩; have H2 := Lib.hid h; have cv2 := Go.Joins.run_convert_bytes_const_at (P := Try.prog) w3 31 5 #[.int .u8 97, .int .u8 98, .int .u8 99] 3 3 w3.heap.size rfl Try.underlying31 Try.underlying5; simp only [List.size_toArray, List.length_cons, List.length_nil, Nat.reduceAdd] at cv2; clear h H1 cv1)
    | (go_at_call 9; refine (C2.out _ _ H2.out).mono ?_; rintro e w4 ⟨rfl, h⟩; have H3 := Lib.hid h; clear h H2)
    | (go_at_call 12; refine (C3.out _ _ H3.out).mono ?_; rintro e w5 ⟨a5, m5, c5, rfl, rfl, h⟩; have H4 := Lib.hid h.out.2; have q5 := string_of_ints (P := Try.prog) (src := 31) (dst := 9) (e := 5) (c := c5) Try.underlying31 Try.underlying5 Try.underlying9 h.out.1; rw [text_ab] at q5; clear h H3)
    | (go_at_call 17; refine (H4.out.lost).mono ?_; rintro e w6 ⟨rfl, rfl⟩)
    | fail)
  go_ret
  exact ⟨rfl, H4.out.b⟩
end Go.Proofs.Ytnjnfocpjmmibaa
