/- Plain facts, and what functions give, for the proofs of this seat: several texts in one, each with its own first remark. -/
import Derived.Test.YtmgfkdmjgjlkjaaGreatAJ
import Derived.Lib.MapLaws

namespace Go.Proofs.YtmgfkdmjgjlkjaaGreat
open Go Go.RowKit
set_option linter.unusedVariables false
set_option linter.unusedSimpArgs false
set_option maxRecDepth 100000
section
variable {w : World} {B g : Nat} {X : Nat → Prop} {c : Cfg} {ep : Int} {o : Option S13} {ps : List Pk} {T : List ByteArray}
theorem mtTitle_same (s t : ByteArray) (h : MtAt w B g X c ep o ps T) (hT : ∀ W : World, Calls Tryz.prog 45 #[.string s] W fun e w' => e = .returned (.string t) ∧ Below W.heap.size W w') (he : t = nowT T) :
    Calls Tryz.prog 15 #[.pointer (some ⟨g, 0, none⟩), .string s] w fun e w' => e = .returned (.int .i64 0) ∧ Below w.heap.size w w' := by
  have H := Lib.hid h
  have HT := Lib.hid hT
  have HN : RowKit.Hid (∀ W, Below w.heap.size w W → Calls Tryz.prog 19 #[.pointer (some ⟨g, 0, none⟩)] W fun e w' => e = .returned (.string t) ∧ Below W.heap.size W w') := by
    refine Lib.hid fun W hb => ?_
    rw [he]
    exact mtNow_any (h.below hb)
  clear h hT he
  have q : (t.toList == t.toList) = true := by rw [txt_beq]; exact decide_eq_true rfl
  go_enter Tryz.func15, Tryz.ntmps15
  go_wp2_with (first
    | (go_at_call 45; go_loud (refine (HT.out _).mono ?_); rintro e w2 ⟨rfl, hb⟩; have HB2 := Lib.hid hb; clear hb)
    | (go_at_call 19; go_loud (refine (HN.out _ HB2.out).mono ?_); rintro e w3 ⟨rfl, hb⟩; have HB3 := Lib.hid (chain HB2.out hb); clear hb)
    | fail)
  go_ret
  exact ⟨rfl, HB3.out⟩
def moreT (T : List ByteArray) (t : ByteArray) : List ByteArray := T.drop (T.length + 1 - 5) ++ [t]
theorem mt_titled {r n cc n6 c6 : Nat} {eb : List Nat} {ev : Value} {a a6 : Option Addr} {nu : Int} {t : ByteArray} {W w6 : World} (h : MtIn w B g r eb ev a n cc nu X c ep o ps T) (hX : ∀ j, X j → j < w.heap.size) (hB : B ≤ w.heap.size) (hL : T.length = n) (hW : Below w.heap.size w W) (h6 : MtIn w6 B g r eb ev a n cc nu X c ep o ps T) (hb : Below W.heap.size W w6) (ht : TxAt w6 a6 n6 c6 (moreT T t)) (hf : ∀ b off, a6 = some ⟨b, off, none⟩ → w.heap.size ≤ b) :
    Ending.returned (.int .i64 0) = Ending.returned (.int .i64 0) ∧ MtM (w6.setCell ⟨g, 13, none⟩ (.slice a6 n6 c6)) B g (g :: r :: eb) X c ep o ps (moreT T t) ∧ Keeps (MtG w B (g :: r :: eb)) w (w6.setCell ⟨g, 13, none⟩ (.slice a6 n6 c6)) := by
  have K6 : Keeps (· = g) w6 (w6.setCell ⟨g, 13, none⟩ (.slice a6 n6 c6)) := Keeps.set1 _
  have K : Keeps (· = g) w (w6.setCell ⟨g, 13, none⟩ (.slice a6 n6 c6)) := (Keeps.of_below (chain hW hb)).trans K6
  have hg : ∀ j, j = g → MtG w B (g :: r :: eb) j := by
    rintro j rfl
    exact ⟨h.f_g, by simp⟩
  have ht' : ∀ j, j = g → ∃ t, Typ19 w6 j t ∧ t ≠ 9 := by
    rintro j rfl
    exact ⟨_, h6.ce.typ19, by decide⟩
  have hc : ∀ j, j = g → ∃ t cs, Cel w6 j t cs ∧ t ≠ 234 ∧ t ≠ 232 ∧ t ≠ 115 ∧ t ≠ 172 ∧ t ≠ 175 ∧ t ≠ 3 ∧ t ≠ 77 := by
    rintro j rfl
    exact ⟨_, _, h6.ce, by decide, by decide, by decide, by decide, by decide, by decide, by decide⟩
  have hr : ∀ j, j = g → ¬ Dm g r eb X j ∧ j ≠ r := by
    rintro j rfl
    exact ⟨fun hd => hd.2.1 rfl, fun e => h6.ne_r e.symm⟩
  have hn5 := h.n5
  have hml : n6 ≤ 5 ∧ n6 ≠ 0 := by
    rw [← ht.len]
    unfold moreT
    rw [List.length_append, List.length_drop, List.length_singleton]
    omega
  refine ⟨rfl, ⟨r, eb, ev, a6, n6, c6, nu, rfl, ⟨h6.ce.set_ 13 _, h6.cr.keeps K6 hr, h6.ck.keeps K6 hc, ht.keeps K6 ht', hml.1, fun e => (hml.2 e).elim, fun b off e hx => ?_, h6.lo, h6.nn, h6.ok⟩⟩, K.mono hg⟩
  have := hX b hx
  have := hf b off e
  omega
set_option maxHeartbeats 4000000 in
theorem mtTitle_new {M : List Nat} (s t : ByteArray) (h : MtM w B g M X c ep o ps T) (hB : B ≤ w.heap.size) (hX : ∀ j, X j → j < w.heap.size) (hT : ∀ W : World, Calls Tryz.prog 45 #[.string s] W fun e w' => e = .returned (.string t) ∧ Below W.heap.size W w') (he : t ≠ nowT T) :
    Calls Tryz.prog 15 #[.pointer (some ⟨g, 0, none⟩), .string s] w fun e w' => e = .returned (.int .i64 0) ∧ MtM w' B g M X c ep o ps (moreT T t) ∧ Keeps (MtG w B M) w w' := by
  have HM := Lib.hid h.at_
  obtain ⟨r, eb, ev, a, n, cc, nu, rfl, h⟩ := h
  have H := Lib.hid h
  have HT := Lib.hid hT
  have HX := Lib.hid hX
  have q : (t.toList == (nowT T).toList) = false := by rw [txt_beq]; exact decide_eq_false he
  have HN := Lib.hid (fun W (hb : Below w.heap.size w W) => mtNow_any (HM.out.below hb))
  generalize nowT T = x at q HN
  have HBr : RowKit.Hid (B ≤ w.heap.size) := hB
  have hlen := h.ct.len
  have n5 := h.n5
  have HL := Lib.hid hlen
  clear h hT he hX hB
  go_enter Tryz.func15, Tryz.ntmps15
  go_wp2_with (first
    | (go_at_call 45; go_loud (refine (HT.out _).mono ?_); rintro e w2 ⟨rfl, hb⟩; have HB2 := Lib.hid hb; clear hb)
    | (go_at_call 19; go_loud (refine (HN.out _ HB2.out).mono ?_); rintro e w3 ⟨rfl, hb⟩; have HB3 := Lib.hid (chain HB2.out hb); clear hb)
    | fail)
  have HI := Lib.hid (H.out.below HB3.out)
  have c13 : w3.cell? ⟨g, 13, none⟩ = some (.slice a n cc) := HI.out.ce.cell 13
  have HI2 := Lib.hid HI.out.ct
  have hsrc : n = 0 ∧ a = none ∧ cc = 0 ∧ T = [] ∨ ∃ b off, 1 ≤ n ∧ n ≤ cc ∧ a = some ⟨b, off, none⟩ := by
    rcases Nat.eq_zero_or_pos n with h0 | h0
    · have ha := H.out.cz h0
      exact .inl ⟨h0, ha, HI2.out.no ha, List.eq_nil_of_length_eq_zero (by rw [hlen, h0])⟩
    · obtain ⟨b, off, e, _⟩ := HI2.out.in_.resolve_left (by omega)
      exact .inr ⟨b, off, h0, HI2.out.cap, e⟩
  rcases hsrc with ⟨rfl, rfl, rfl, rfl⟩ | ⟨b, off, h1, h2, rfl⟩
  · go_quiet (fail)
    have HV : RowKit.Hid (∃ a1 n1 c1, Value.slice none 0 0 = .slice a1 n1 c1 ∧ TxAt (w3.drewN nq) a1 n1 c1 (([] : List ByteArray).drop (([] : List ByteArray).length + 1 - 5)) ∧ n1 ≤ 1000) := ⟨none, 0, 0, rfl, TxAt.nil _, by omega⟩
    generalize Value.slice none 0 0 = v at HV ⊢
    have HIW := Lib.hid (HI.out.below (Below.drewN' (Below.refl _ _) nq))
    have HBW := Lib.hid (Below.drewN' HB3.out nq)
    clear c13 HI HI2 HB3
    generalize w3.drewN nq = W at HV HIW HBW ⊢
    obtain ⟨a1, n1, c1, rfl, hV, hn1⟩ := HV.out
    obtain ⟨W2, hW2⟩ : ∃ W2, (W.alloc (.cells #[.string t] 9)).alloc (.cells #[.slice a1 n1 c1, .slice (some ⟨W.heap.size, 0, none⟩) 1 1] 37) = W2 := ⟨_, rfl⟩
    have HW2 := Lib.hid hW2
    have HB2 : RowKit.Hid (Below W.heap.size W W2) := (by rw [← hW2]; exact ((Below.refl _ W).alloc (Nat.le_refl _) _).alloc (by simp) _)
    have HC2 : RowKit.Hid (Cel W2 (W.heap.size + 1) 37 #[.slice a1 n1 c1, .slice (some ⟨W.heap.size, 0, none⟩) 1 1]) := (by have k := Cel.new (W.alloc (.cells #[.string t] 9)) 37 #[.slice a1 n1 c1, .slice (some ⟨W.heap.size, 0, none⟩) 1 1]; rw [hW2, World.size_alloc] at k; exact k)
    have HT2 : RowKit.Hid (TxAt W2 (some ⟨W.heap.size, 0, none⟩) 1 1 [t]) := (by rw [← hW2]; exact (TxAt.lit W t).below (Below.alloc_new _ _))
    have HV2 := Lib.hid (hV.below HB2.out)
    clear hW2 HV hV
    go_wp2_with (first
      | (go_at_call 46; go_loud (rw [HW2.out]); go_loud (refine (concatT_any (W.heap.size + 1) n1 c1 1 1 a1 (some ⟨W.heap.size, 0, none⟩) _ [t] W2 HV2.out HT2.out (HC2.out.cell 0) (HC2.out.cell 1) (by omega) (by omega) (by omega)).mono ?_); rintro e w6 ⟨a6, n6, c6, rfl, ht, htb, hb⟩; have HT6 := Lib.hid ht; have HTb := Lib.hid htb; have HB6 := Lib.hid (chain HB2.out hb); have HI6 := Lib.hid (HIW.out.below HB6.out); have x13 := HI6.out.ce.cell 13; have f13 := HI6.out.ce.frozen 13; clear ht htb hb)
      | fail)
    go_ret
    exact mt_titled H.out HX.out HBr.out HL.out HBW.out HI6.out HB6.out HT6.out (fun b off e => Nat.le_trans HBW.out.size (Nat.le_trans HB2.out.size (HTb.out b off e)))
  · have hn : n = 5 ∨ n = 1 ∨ n = 2 ∨ n = 3 ∨ n = 4 := by omega
    have i2 : (n : Int) ≤ (cc : Int) := by omega
    have i3 : ¬ cc = 0 := by omega
    rcases hn with rfl | h4
    · have i4 : ¬ cc = 1 := by omega
      go_quiet (fail)
      have HV : RowKit.Hid (∃ a1 n1 c1, Value.slice (some ⟨b, off + 1, none⟩) 4 (cc - 1) = .slice a1 n1 c1 ∧ TxAt (w3.drewN nq) a1 n1 c1 (T.drop (T.length + 1 - 5)) ∧ n1 ≤ 1000) := ⟨_, _, _, rfl, (by rw [hlen]; exact (HI2.out.drop (k := 1) (by omega)).below (Below.drewN' (Below.refl _ _) nq)), by omega⟩
      generalize Value.slice (some ⟨b, off + 1, none⟩) 4 (cc - 1) = v at HV ⊢
      have HIW := Lib.hid (HI.out.below (Below.drewN' (Below.refl _ _) nq))
      have HBW := Lib.hid (Below.drewN' HB3.out nq)
      clear c13 HI HI2 HB3
      generalize w3.drewN nq = W at HV HIW HBW ⊢
      obtain ⟨a1, n1, c1, rfl, hV, hn1⟩ := HV.out
      obtain ⟨W2, hW2⟩ : ∃ W2, (W.alloc (.cells #[.string t] 9)).alloc (.cells #[.slice a1 n1 c1, .slice (some ⟨W.heap.size, 0, none⟩) 1 1] 37) = W2 := ⟨_, rfl⟩
      have HW2 := Lib.hid hW2
      have HB2 : RowKit.Hid (Below W.heap.size W W2) := (by rw [← hW2]; exact ((Below.refl _ W).alloc (Nat.le_refl _) _).alloc (by simp) _)
      have HC2 : RowKit.Hid (Cel W2 (W.heap.size + 1) 37 #[.slice a1 n1 c1, .slice (some ⟨W.heap.size, 0, none⟩) 1 1]) := (by have k := Cel.new (W.alloc (.cells #[.string t] 9)) 37 #[.slice a1 n1 c1, .slice (some ⟨W.heap.size, 0, none⟩) 1 1]; rw [hW2, World.size_alloc] at k; exact k)
      have HT2 : RowKit.Hid (TxAt W2 (some ⟨W.heap.size, 0, none⟩) 1 1 [t]) := (by rw [← hW2]; exact (TxAt.lit W t).below (Below.alloc_new _ _))
      have HV2 := Lib.hid (hV.below HB2.out)
      clear hW2 HV hV
      go_wp2_with (first
        | (go_at_call 46; go_loud (rw [HW2.out]); go_loud (refine (concatT_any (W.heap.size + 1) n1 c1 1 1 a1 (some ⟨W.heap.size, 0, none⟩) _ [t] W2 HV2.out HT2.out (HC2.out.cell 0) (HC2.out.cell 1) (by omega) (by omega) (by omega)).mono ?_); rintro e w6 ⟨a6, n6, c6, rfl, ht, htb, hb⟩; have HT6 := Lib.hid ht; have HTb := Lib.hid htb; have HB6 := Lib.hid (chain HB2.out hb); have HI6 := Lib.hid (HIW.out.below HB6.out); have x13 := HI6.out.ce.cell 13; have f13 := HI6.out.ce.frozen 13; clear ht htb hb)
        | fail)
      go_ret
      exact mt_titled H.out HX.out HBr.out HL.out HBW.out HI6.out HB6.out HT6.out (fun b off e => Nat.le_trans HBW.out.size (Nat.le_trans HB2.out.size (HTb.out b off e)))
    · have HV : RowKit.Hid (∀ nq, ∃ a1 n1 c1, Value.slice (some ⟨b, off, none⟩) n cc = .slice a1 n1 c1 ∧ TxAt (w3.drewN nq) a1 n1 c1 (T.drop (T.length + 1 - 5)) ∧ n1 ≤ 1000) := Lib.hid fun nq => ⟨_, _, _, rfl, (by rw [hlen, show n + 1 - 5 = 0 by omega, List.drop_zero]; exact HI2.out.below (Below.drewN' (Below.refl _ _) nq)), by omega⟩
      rcases h4 with rfl | rfl | rfl | rfl
      all_goals
        go_quiet (fail)
        replace HV := Lib.hid (HV.out nq)
        generalize Value.slice (some ⟨b, off, none⟩) _ cc = v at HV ⊢
        have HIW := Lib.hid (HI.out.below (Below.drewN' (Below.refl _ _) nq))
        have HBW := Lib.hid (Below.drewN' HB3.out nq)
        clear c13 HI HI2 HB3
        generalize w3.drewN nq = W at HV HIW HBW ⊢
        obtain ⟨a1, n1, c1, rfl, hV, hn1⟩ := HV.out
        obtain ⟨W2, hW2⟩ : ∃ W2, (W.alloc (.cells #[.string t] 9)).alloc (.cells #[.slice a1 n1 c1, .slice (some ⟨W.heap.size, 0, none⟩) 1 1] 37) = W2 := ⟨_, rfl⟩
        have HW2 := Lib.hid hW2
        have HB2 : RowKit.Hid (Below W.heap.size W W2) := (by rw [← hW2]; exact ((Below.refl _ W).alloc (Nat.le_refl _) _).alloc (by simp) _)
        have HC2 : RowKit.Hid (Cel W2 (W.heap.size + 1) 37 #[.slice a1 n1 c1, .slice (some ⟨W.heap.size, 0, none⟩) 1 1]) := (by have k := Cel.new (W.alloc (.cells #[.string t] 9)) 37 #[.slice a1 n1 c1, .slice (some ⟨W.heap.size, 0, none⟩) 1 1]; rw [hW2, World.size_alloc] at k; exact k)
        have HT2 : RowKit.Hid (TxAt W2 (some ⟨W.heap.size, 0, none⟩) 1 1 [t]) := (by rw [← hW2]; exact (TxAt.lit W t).below (Below.alloc_new _ _))
        have HV2 := Lib.hid (hV.below HB2.out)
        clear hW2 HV hV
        go_wp2_with (first
          | (go_at_call 46; go_loud (rw [HW2.out]); go_loud (refine (concatT_any (W.heap.size + 1) n1 c1 1 1 a1 (some ⟨W.heap.size, 0, none⟩) _ [t] W2 HV2.out HT2.out (HC2.out.cell 0) (HC2.out.cell 1) (by omega) (by omega) (by omega)).mono ?_); rintro e w6 ⟨a6, n6, c6, rfl, ht, htb, hb⟩; have HT6 := Lib.hid ht; have HTb := Lib.hid htb; have HB6 := Lib.hid (chain HB2.out hb); have HI6 := Lib.hid (HIW.out.below HB6.out); have x13 := HI6.out.ce.cell 13; have f13 := HI6.out.ce.frozen 13; clear ht htb hb)
          | fail)
        go_ret
        exact mt_titled H.out HX.out HBr.out HL.out HBW.out HI6.out HB6.out HT6.out (fun b off e => Nat.le_trans HBW.out.size (Nat.le_trans HB2.out.size (HTb.out b off e)))
end
end Go.Proofs.YtmgfkdmjgjlkjaaGreat

namespace Go.Proofs.YtmgfkdmjgjlkjaaGreat
open Go.RowKit
set_option linter.unusedVariables false
set_option linter.unusedSimpArgs false
def joinV (v : Int) : Int := if 0 ≤ v then v else 0
set_option maxRecDepth 100000 in
set_option maxHeartbeats 2000000 in
theorem rgJoin_any (g n : Nat) (ps : List Pk) (D : Nat → Prop) (w : World) (h : RgAt w g n ps D) (hN : ps.length ≤ 1000000) :
    Calls Tryz.prog 49 #[.pointer (some ⟨g, 0, none⟩)] w fun e w' => e = .returned (.tuple #[.int .i64 (joinV (lastW ps (firstP n ps.length) ps.length)), .bool (decide (0 ≤ lastW ps (firstP n ps.length) ps.length))]) ∧ ∃ k, w' = w.drewN k := by
  obtain ⟨k0, k1⟩ := h.head
  have n1 := h.n1
  have n2 := h.n2
  obtain ⟨m, hm⟩ : ∃ m, ps.length = m := ⟨_, rfl⟩
  have HA : RowKit.Hid (∀ i, i < m → m ≤ i + n → ∃ (p : Pk) (q : Nat), ps[i]? = some p ∧ w.cell? ⟨g, 2 + i % n, none⟩ = some (.pointer (some ⟨q, 0, none⟩)) ∧ w.cell? ⟨q, 2, none⟩ = some (.bool p.wh)) := by
    intro i hi hn
    have hp : ps[i]? = some ps[i] := List.getElem?_eq_getElem (by omega)
    obtain ⟨q, a, c, kq, _, hq, _⟩ := h.at_ hp (by omega)
    exact ⟨ps[i], q, hp, kq, hq.cell 2⟩
  rw [hm] at k1 hN ⊢
  have HE := Lib.hid (rgEnds_any g n m w k0 k1 n2 (by omega))
  have HSl : RowKit.Hid (∀ (i : Nat) (W : World), W.cell? ⟨g, 0, none⟩ = some (.int .i64 n) → i ≤ 2000000 → Calls Tryz.prog 66 #[.pointer (some ⟨g, 0, none⟩), .int .i64 i] W fun e w' => e = .returned (.int .i64 ((i % n : Nat) : Int)) ∧ w' = W) := fun i W hW hi => (rgSlot_any g n i W hW n1 n2 hi).mono fun _ _ h => ⟨h.1, h.2.symm⟩
  obtain ⟨f, hf⟩ : ∃ f, firstP n m = f := ⟨_, rfl⟩
  have hfm : f ≤ m := by rw [← hf]; unfold firstP; omega
  have HF : RowKit.Hid (∀ i, f ≤ i → m ≤ i + n) := by intro i hi; rw [← hf] at hi; unfold firstP at hi; omega
  rw [hf] at HE ⊢
  have e1 : IntKind.i64.wrap ((m : Int) - 1) = (m : Int) - 1 := IntWalk.i64_in _ (by omega)
  clear h hm hf k1
  go_enter Tryz.func49, Tryz.ntmps49
  go_wp2_with (go_at_call 50; go_loud (refine HE.out.mono ?_); rintro e w2 ⟨rfl, x0, rfl⟩)
  go_loopw [6] (fun i wr => ∃ k : Nat, f ≤ k ∧ k ≤ m ∧ i = .int .i64 ((k : Int) - 1) ∧ RowKit.Hid (lastW ps f m = lastW ps f k ∧ ∃ x, wr = w.drewN x)) (fun i _ => (intOf i + 1).toNat - f)
  case atStart => exact ⟨m, hfm, Nat.le_refl _, rfl, rfl, x0, rfl⟩
  case round =>
    obtain ⟨k, hk, hkm, rfl, H⟩ := hrel
    obtain ⟨hl, x, rfl⟩ := H.out
    have HLw := Lib.hid hl
    clear H hl
    by_cases hlt : f < k
    · obtain ⟨j, rfl⟩ : ∃ j, k = j + 1 := ⟨k - 1, by omega⟩
      have ej : (((j + 1 : Nat) : Int) - 1) = (j : Int) := by omega
      obtain ⟨p, q, hp, kq, kw⟩ := HA.out j (by omega) (HF.out j (by omega))
      have HP := Lib.hid hp
      have hsn : j % n < n := Nat.mod_lt _ n1
      have HSj := Lib.hid (fun W hW => HSl.out j W hW (by omega))
      generalize j % n = s at kq hsn HSj
      have qs : (s : Int) < 1024 := by omega
      have qj : decide (f ≤ j) = true := by simp; omega
      have e2 : IntKind.i64.wrap ((j : Int) - 1) = (j : Int) - 1 := IntWalk.i64_in _ (by omega)
      obtain ⟨wq, hwq⟩ : ∃ wq, w.drewN x = wq := ⟨_, rfl⟩
      have HWq : RowKit.Hid (∀ y, ∃ k, wq.drewN y = w.drewN k) := by
        intro y
        rw [← hwq]
        exact ⟨x + y, by simp [World.drewN, Nat.add_assoc]⟩
      have k0 : wq.cell? ⟨g, 0, none⟩ = some (.int .i64 n) := by rw [← hwq]; exact k0
      have kq : wq.cell? ⟨g, 2 + s, none⟩ = some (.pointer (some ⟨q, 0, none⟩)) := by rw [← hwq]; exact kq
      have kw : wq.cell? ⟨q, 2, none⟩ = some (.bool p.wh) := by rw [← hwq]; exact kw
      rw [ej, hwq]
      clear hp ej HSl HA HE hwq
      go_wp2
      go_quiet ((go_at_call 66; exact Calls.quiet_of_same (HSj.out _ k0)))
      cases hw : p.wh with
      | true =>
        go_wp2
        go_ret2
        have e0 : lastW ps f m = (j : Int) := by rw [HLw.out]; exact lastW_yes (by omega) HP.out hw
        refine ⟨?_, HWq.out _⟩
        rw [e0]
        simp [joinV]
      | false =>
        go_wp2
        go_roundw
        case rel => exact ⟨j, by omega, by omega, rfl, HLw.out.trans (lastW_no HP.out hw), HWq.out _⟩
        case measure => simp [intOf]; omega
    · obtain rfl : k = f := by omega
      have e0 : lastW ps k m = -1 := by rw [HLw.out]; exact lastW_none (Nat.le_refl _)
      have hd : decide ((k : Int) ≤ (k : Int) - 1) = false := by simp; omega
      go_wp2
      go_ret2
      exact ⟨by rw [e0]; rfl, _, rfl⟩
end Go.Proofs.YtmgfkdmjgjlkjaaGreat

namespace Go.Proofs.YtmgfkdmjgjlkjaaGreat
open Go Go.RowKit
set_option linter.unusedVariables false
set_option linter.unusedSimpArgs false
set_option maxRecDepth 100000
section
variable {w : World} {B g : Nat} {X : Nat → Prop} {c : Cfg} {ep : Int} {o : Option S13} {ps : List Pk} {T : List ByteArray}
theorem mtHistory_any (h : MtAt w B g X c ep o ps T) : Calls Tryz.prog 21 #[.pointer (some ⟨g, 0, none⟩)] w (TxPost T w) := by
  obtain ⟨r, eb, ev, a, n, cc, nu, h⟩ := h
  have c13 : w.cell? ⟨g, 13, none⟩ = some (.slice a n cc) := h.ce.cell 13
  have HC := Lib.hid (cloneT_any a n cc T w h.ct (by have := h.n5; omega))
  clear h
  go_enter Tryz.func21, Tryz.ntmps21
  go_wp2_with (go_at_call 48; go_loud (refine HC.out.mono ?_); rintro e w2 ⟨a2, n2, c2, rfl, ht, htb, hb⟩; have HT := Lib.hid ht; have HTb := Lib.hid htb; have HB := Lib.hid hb; clear ht htb hb)
  go_ret
  exact ⟨a2, n2, c2, rfl, HT.out, HTb.out, HB.out⟩
theorem mtBurst_dead (h : MtAt w B g X c ep none ps T) : Calls Tryz.prog 23 #[.pointer (some ⟨g, 0, none⟩)] w fun e w' => e = .returned (.slice none 0 0) ∧ w = w' := by
  have HL := Lib.hid (mtLive_any h)
  clear h
  go_enter Tryz.func23, Tryz.ntmps23
  go_wp2_with (go_at_call 18; go_loud (refine HL.out.mono ?_); rintro e w2 ⟨rfl, rfl⟩; try simp only [Option.isSome_none])
  go_ret
  exact ⟨rfl, rfl⟩
theorem info23_pks : (Tryz.prog.info? 45).map (fun i => (i.zero, i.size, i.bytes)) = some (some (.agg #[.int .u32 0, .int .u32 0, .bool false, .slice none 0 0]), 4, 40) := by kernel_rfl
def BurstPost (ps : List Pk) (w : World) (e : Ending) (w' : World) : Prop := ∃ v, e = .returned v ∧ PksAt w' w.heap.size 0 45 v ps ∧ Below w.heap.size w w'
set_option maxHeartbeats 4000000 in
theorem mtBurst_any {S : S13} (h : MtAt w B g X c ep (some S) ps T) (hN : ps.length ≤ 1000) (hl : ∀ p, p ∈ ps → p.pl.length ≤ 1000) : Calls Tryz.prog 23 #[.pointer (some ⟨g, 0, none⟩)] w (BurstPost (burstF ps c.r.toNat) w) := by
  have HL := Lib.hid (mtLive_any h)
  obtain ⟨r, eb, ev, a, n, cc, nu, h⟩ := h
  obtain ⟨D, hD⟩ : ∃ D, Dm g r eb X = D := ⟨_, rfl⟩
  have hr := h.cr
  have c9 : w.cell? ⟨g, 9, none⟩ = some (.pointer (some ⟨r, 0, none⟩)) := h.ce.cell 9
  have hgl := h.ce.lt
  clear h
  obtain ⟨R, hR⟩ : ∃ R, c.r.toNat = R := ⟨_, rfl⟩
  rw [hD] at hr
  rw [hR] at hr ⊢
  clear hD hR
  obtain ⟨m, hm⟩ : ∃ m, ps.length = m := ⟨_, rfl⟩
  obtain ⟨f, hf⟩ : ∃ f, firstP R m = f := ⟨_, rfl⟩
  have hm1 : m ≤ 1000 := by omega
  have hf2 : f ≤ m ∧ m ≤ f + R := by rw [← hf]; unfold firstP; exact ⟨by omega, by omega⟩
  obtain ⟨J, hJ⟩ : ∃ J, lastW ps f m = J := ⟨_, rfl⟩
  have hJb := lastW_ge ps f m
  have hJl := fun hz => lastW_lo ps f (k := m) hz
  rw [hJ] at hJb hJl
  have HC9 : RowKit.Hid (∀ W, Below w.heap.size w W → W.cell? ⟨g, 9, none⟩ = some (.pointer (some ⟨r, 0, none⟩))) := Lib.hid fun W hb => (hb.cell (p := ⟨g, 9, none⟩) hgl).trans c9
  have CE : RowKit.Hid (∀ W, Below w.heap.size w W → Calls Tryz.prog 50 #[.pointer (some ⟨r, 0, none⟩)] W fun e w' => e = .returned (.tuple #[.int .i64 f, .int .i64 m]) ∧ Below w.heap.size w w') := by
    refine Lib.hid fun W hb => ?_
    have hrW := hr.below hb
    obtain ⟨k0, k1⟩ := hrW.head
    have := rgEnds_any r R m W k0 (by rw [k1, hm]) hrW.n2 (by omega)
    rw [hf] at this
    refine this.mono ?_
    rintro e w' ⟨rfl, k, rfl⟩
    exact ⟨rfl, Below.drewN' hb k⟩
  have CJ : RowKit.Hid (∀ W, Below w.heap.size w W → Calls Tryz.prog 49 #[.pointer (some ⟨r, 0, none⟩)] W fun e w' => e = .returned (.tuple #[.int .i64 (joinV J), .bool (decide (0 ≤ J))]) ∧ Below w.heap.size w w') := by
    refine Lib.hid fun W hb => ?_
    have := rgJoin_any r R ps D W (hr.below hb) (by omega)
    rw [hm, hf, hJ] at this
    refine this.mono ?_
    rintro e w' ⟨rfl, k, rfl⟩
    exact ⟨rfl, Below.drewN' hb k⟩
  have CA : RowKit.Hid (∀ W i p, Below w.heap.size w W → ps[i]? = some p → f ≤ i → Calls Tryz.prog 51 #[.pointer (some ⟨r, 0, none⟩), .int .i64 (i : Int)] W fun e w' => ∃ a c, e = .returned (.tuple #[.agg (pkC p a p.pl.length c), .bool true]) ∧ w'.ownsRow W.heap.size 5 1 (.slice a p.pl.length c) p.pl.length (p.pl.map (Value.int .u8)) ∧ Below W.heap.size W w') := by
    refine Lib.hid fun W i p hb hp hi => ?_
    exact rgAt_yes r R ps D i p W (hr.below hb) (by omega) hp (by have := hl p (List.mem_of_getElem? hp); omega) (by omega)
  have HB0 := Lib.hid (Below.refl w.heap.size w)
  have HM := Lib.hid hm
  have HBu : RowKit.Hid (burstF ps R = if 0 ≤ J then ps.drop J.toNat else []) := by unfold burstF; rw [hm, hf, hJ]; exact Lib.hid rfl
  have HPl := Lib.hid hl
  clear hr hl hf hJ hm c9
  by_cases hJ0 : 0 ≤ J
  · obtain ⟨k, rfl⟩ : ∃ k : Nat, J = (k : Int) := ⟨J.toNat, by omega⟩
    have hfk : f ≤ k := by have := hJl (by omega); omega
    have hkm : k < m := by omega
    have e1 : joinV (k : Int) = (k : Int) := by unfold joinV; rw [if_pos (by omega)]
    have e2 : decide (0 ≤ (k : Int)) = true := by simp
    rw [e1, e2] at CJ
    have HBv : RowKit.Hid (burstF ps R = ps.drop k) := by rw [HBu.out, if_pos hJ0, Int.toNat_natCast]; exact Lib.hid rfl
    rw [HBv.out]
    clear e1 e2 hJb hJl hJ0 HBu HBv
    have HKf : RowKit.Hid (f ≤ k) := hfk
    clear hfk
    have x9 := HC9.out w HB0.out
    go_enter Tryz.func23, Tryz.ntmps23
    go_wp2_with (first
      | (go_at_call 18; go_loud (refine HL.out.mono ?_); rintro e w2 ⟨rfl, rfl⟩; try simp only [Option.isSome_some])
      | (go_at_call 49; go_loud (refine (CJ.out _ HB0.out).mono ?_); rintro e w3 ⟨rfl, hb⟩; have HB3 := Lib.hid hb; have y9 := HC9.out _ hb; clear hb)
      | (go_at_call 50; go_loud (refine (CE.out _ HB3.out).mono ?_); rintro e w4 ⟨rfl, hb⟩; have HB4 := Lib.hid hb; clear hb)
      | fail)
    go_loopw [3, 5] (fun i v wr => ∃ t : Nat, k ≤ t ∧ t ≤ m ∧ i = .int .i64 t ∧ RowKit.Hid (PksAt wr w.heap.size 0 45 v (upToK ps k t) ∧ Below w.heap.size w wr)) (fun i _ _ => m - (intOf i).toNat)
    case atStart => exact ⟨k, Nat.le_refl _, by omega, rfl, by rw [upToK_start]; exact PksAt.nil _ _ _ _, HB4.out⟩
    case round =>
      obtain ⟨t, ht, htm, rfl, H⟩ := hrel
      clear HB3 HB4 y9 x9 HB0 HL CJ CE
      by_cases hlt : t < m
      · obtain ⟨p, hp⟩ : ∃ p, ps[t]? = some p := ⟨ps[t]'(by rw [HM.out]; omega), List.getElem?_eq_getElem _⟩
        have HA := Lib.hid (CA.out wr t p H.out.2 hp (Nat.le_trans HKf.out ht))
        have HU := Lib.hid (upToK_step ht hp)
        have HUl := Lib.hid (upToK_len (ps := ps) (k := k) (t := t) (by rw [HM.out]; omega))
        obtain ⟨l, hl⟩ : ∃ l, p.pl.length = l := ⟨_, rfl⟩
        have HLl := Lib.hid hl
        unfold pkC at HA
        rw [hl] at HA
        have x9 := HC9.out _ H.out.2
        have l1 : (t : Int) < (m : Int) := by omega
        obtain ⟨a5, n5, c5, rfl, hn5⟩ := H.out.1.form
        have HN5 := Lib.hid hn5
        have HBs : RowKit.Hid (w.heap.size ≤ wr.heap.size) := H.out.2.size
        clear hl hp hn5
        go_wp2_with (first
          | (go_at_call 51; go_loud (refine HA.out.mono ?_); rintro e w4 ⟨a4, c4, rfl, ho, hb⟩; obtain ⟨W5, hW5⟩ : ∃ W5, (w4.alloc (.cells #[.int .u32 p.ep, .int .u32 p.nu, .bool p.wh, .slice a4 l c4] 45)).alloc (.cells #[.int .u32 p.ep, .int .u32 p.nu, .bool p.wh, .slice a4 l c4] 45) = W5 := ⟨_, rfl⟩; have HW5 := Lib.hid hW5; have HB5 : RowKit.Hid (Below wr.heap.size wr W5) := (by rw [← hW5]; exact (hb.alloc hb.size _).alloc (Nat.le_trans hb.size (by simp)) _); have HC5 : RowKit.Hid (Cel W5 (w4.heap.size + 1) 45 #[.int .u32 p.ep, .int .u32 p.nu, .bool p.wh, .slice a4 l c4]) := (by have k := Cel.new (w4.alloc (.cells #[.int .u32 p.ep, .int .u32 p.nu, .bool p.wh, .slice a4 l c4] 45)) 45 #[.int .u32 p.ep, .int .u32 p.nu, .bool p.wh, .slice a4 l c4]; rw [hW5, World.size_alloc] at k; exact k); have HPy : RowKit.Hid (PyAt W5 0 (p, a4, c4)) := (by rw [← HLl.out] at ho; have k := ((PyAt.own ho 0).below (Below.alloc_new w4 (.cells #[.int .u32 p.ep, .int .u32 p.nu, .bool p.wh, .slice a4 l c4] 45))).below (Below.alloc_new _ (.cells #[.int .u32 p.ep, .int .u32 p.nu, .bool p.wh, .slice a4 l c4] 45)); rw [hW5] at k; exact k); clear ho hb hW5)
          | (at_builtin; go_loud (rw [HW5.out]); go_loud (refine append_pks rfl _ _ 36 rfl w.heap.size 0 45 _ 40 Tryz.underlying36 info23_pks rfl (by decide) (by decide) (Nat.zero_le _) _ (upToK ps k t) rfl (H.out.1.below HB5.out) (some ⟨w4.heap.size + 1, 0, none⟩) 1 1 [(p, a4, c4)] rfl rfl (fun e => by cases e) (fun ad e => by injection e with e; subst e; have k := World.news_of_block HC5.out; rw [← HLl.out] at k; exact k) (fun y hy => by simp at hy; subst hy; exact HPy.out) (by have := HUl.out; have := HM.out; omega) (Nat.le_trans HBs.out HB5.out.size) ?_); intro v6 w6 hp6 hk6; have H6 : RowKit.Hid (PksAt w6 w.heap.size 0 45 v6 (upToK ps k (t + 1)) ∧ Below w.heap.size w w6) := (by rw [HU.out]; exact ⟨hp6, (chain H.out.2 HB5.out).trans (hk6.below (Nat.le_trans HBs.out HB5.out.size) fun j hj => hj.1)⟩); clear hp6 hk6)
          | fail)
        go_roundw
        case rel => exact ⟨t + 1, by omega, by omega, by go_num, H6.out⟩
        case measure => simp [intOf]; omega
      · obtain rfl : t = m := by omega
        have HZ := Lib.hid H.out
        clear H
        go_wp2
        go_ret
        refine ⟨_, rfl, ?_, HZ.out.2⟩
        have := HZ.out.1
        rw [← HM.out, upToK_end] at this
        exact this
  · have e2 : decide (0 ≤ J) = false := by simpa using hJ0
    rw [e2] at CJ
    rw [HBu.out, if_neg hJ0]
    clear e2 HBu hJb hJl hJ0
    have x9 := HC9.out w HB0.out
    go_enter Tryz.func23, Tryz.ntmps23
    go_wp2_with (first
      | (go_at_call 18; go_loud (refine HL.out.mono ?_); rintro e w2 ⟨rfl, rfl⟩; try simp only [Option.isSome_some])
      | (go_at_call 49; go_loud (refine (CJ.out _ HB0.out).mono ?_); rintro e w3 ⟨rfl, hb⟩; have HB3 := Lib.hid hb; clear hb)
      | fail)
    go_ret
    exact ⟨_, rfl, PksAt.nil _ _ _ _, HB3.out⟩
end
end Go.Proofs.YtmgfkdmjgjlkjaaGreat

namespace Go.Proofs.YtmgfkdmjgjlkjaaGreat
open Go
set_option linter.unusedVariables false
def headI (l : List UInt8) : Option Nat := if (Lib.decodeL l).1 = 65533 ∧ (Lib.decodeL l).2 = 1 then none else some (Lib.decodeL l).1
def itemsN : Nat → List UInt8 → List (Option Nat)
  | 0, _ => []
  | n + 1, l => if l = [] then [] else headI l :: itemsN n (l.drop (Lib.decodeL l).2)
def items (l : List UInt8) : List (Option Nat) := itemsN l.length l
theorem itemsN_nil : ∀ n, itemsN n [] = []
  | 0 => rfl
  | _ + 1 => by simp [itemsN]
theorem itemsN_fuel : ∀ (n m : Nat) (l : List UInt8), l.length ≤ n → l.length ≤ m → itemsN n l = itemsN m l
  | 0, m, l, hn, _ => by
    have : l = [] := List.eq_nil_of_length_eq_zero (by omega)
    subst this
    rw [itemsN_nil, itemsN_nil]
  | n + 1, 0, l, _, hm => by
    have : l = [] := List.eq_nil_of_length_eq_zero (by omega)
    subst this
    rw [itemsN_nil, itemsN_nil]
  | n + 1, m + 1, l, hn, hm => by
    by_cases hne : l = []
    · subst hne
      rw [itemsN_nil, itemsN_nil]
    · have hw := Lib.decodeL_width l
      have hl : 0 < l.length := List.length_pos_iff.2 hne
      simp only [itemsN, if_neg hne]
      rw [itemsN_fuel n m _ (by rw [List.length_drop]; omega) (by rw [List.length_drop]; omega)]
theorem items_nil : items [] = [] := rfl
theorem items_step (l : List UInt8) (hne : l ≠ []) : items l = headI l :: items (l.drop (Lib.decodeL l).2) := by
  have hw := Lib.decodeL_width l
  have hl : 0 < l.length := List.length_pos_iff.2 hne
  unfold items
  obtain ⟨n, hn⟩ : ∃ n, l.length = n + 1 := ⟨l.length - 1, by omega⟩
  rw [hn]
  simp only [itemsN, if_neg hne]
  rw [itemsN_fuel n _ _ (by rw [List.length_drop]; omega) (Nat.le_refl _)]
def enc (rs : List Nat) : List UInt8 := rs.flatMap (fun r : Nat => Lib.encodeRune (r : Int))
theorem enc_nil : enc [] = [] := rfl
theorem enc_cons (r : Nat) (rs : List Nat) : enc (r :: rs) = Lib.encodeRune (r : Int) ++ enc rs := by simp [enc]
def okR (r : Nat) : Prop := r < 55296 ∨ (57344 ≤ r ∧ r ≤ 1114111)
theorem decN_two (n b0 b1 b2 b3 r : Nat) (hn : 2 ≤ n) (h0 : b0 = 192 + r / 64) (h1 : b1 = 128 + r % 64) (hr : 128 ≤ r) (hr2 : r ≤ 2047) : Lib.decodeN n b0 b1 b2 b3 = (r, 2) := by
  unfold Lib.decodeN
  repeat' split
  all_goals first | (exfalso; omega) | (apply Prod.ext <;> simp only <;> omega)
theorem decN_three (n b0 b1 b2 b3 r : Nat) (hn : 3 ≤ n) (h0 : b0 = 224 + r / 4096) (h1 : b1 = 128 + r / 64 % 64) (h2 : b2 = 128 + r % 64) (hr : 2048 ≤ r) (hr2 : r ≤ 65535) (ho : r < 55296 ∨ 57344 ≤ r) : Lib.decodeN n b0 b1 b2 b3 = (r, 3) := by
  unfold Lib.decodeN
  repeat' split
  all_goals first | (exfalso; omega) | (apply Prod.ext <;> simp only <;> omega)
theorem decN_four (n b0 b1 b2 b3 r : Nat) (hn : 4 ≤ n) (h0 : b0 = 240 + r / 262144) (h1 : b1 = 128 + r / 4096 % 64) (h2 : b2 = 128 + r / 64 % 64) (h3 : b3 = 128 + r % 64) (hr : 65536 ≤ r) (hr2 : r ≤ 1114111) : Lib.decodeN n b0 b1 b2 b3 = (r, 4) := by
  unfold Lib.decodeN
  repeat' split
  all_goals first | (exfalso; omega) | (apply Prod.ext <;> simp only <;> omega)
theorem byte_of (x : Int) (h0 : 0 ≤ x) (h1 : x < 256) : (x.toNat.toUInt8).toNat = x.toNat := by simp; omega
theorem dec_enc (r : Nat) (h : okR r) (t : List UInt8) : Lib.decodeL (Lib.encodeRune (r : Int) ++ t) = (r, (Lib.encodeRune (r : Int)).length) := by
  rw [Lib.decodeL_N]
  unfold okR at h
  rcases Nat.lt_or_ge r 128 with c | c
  · have e : Lib.encodeRune (r : Int) = [((r : Int)).toNat.toUInt8] := by
      unfold Lib.encodeRune; rw [Lib.encodeRuneZ_one (by omega) (by omega)]; rfl
    rw [e]
    have b0 := byte_of (r : Int) (by omega) (by omega)
    simp only [List.cons_append, List.nil_append, List.length_cons, List.length_nil, List.getD_cons_zero, b0]
    rw [Lib.decodeN_ascii _ _ _ _ _ (by omega)]
    simp
  rcases Nat.lt_or_ge r 2048 with c2 | c2
  · have e : Lib.encodeRune (r : Int) = [(192 + (r : Int) / 64).toNat.toUInt8, (128 + (r : Int) % 64).toNat.toUInt8] := by
      unfold Lib.encodeRune; rw [Lib.encodeRuneZ_two (by omega) (by omega)]; rfl
    rw [e]
    have b0 := byte_of (192 + (r : Int) / 64) (by omega) (by omega)
    have b1 := byte_of (128 + (r : Int) % 64) (by omega) (by omega)
    simp only [List.cons_append, List.nil_append, List.length_cons, List.length_nil, List.getD_cons_zero, List.getD_cons_succ, b0, b1]
    exact decN_two _ _ _ _ _ r (by omega) (by omega) (by omega) c (by omega)
  rcases Nat.lt_or_ge r 65536 with c3 | c3
  · have e : Lib.encodeRune (r : Int) = [(224 + (r : Int) / 4096).toNat.toUInt8, (128 + (r : Int) / 64 % 64).toNat.toUInt8, (128 + (r : Int) % 64).toNat.toUInt8] := by
      unfold Lib.encodeRune; rw [Lib.encodeRuneZ_three (by omega)]; rfl
    rw [e]
    have b0 := byte_of (224 + (r : Int) / 4096) (by omega) (by omega)
    have b1 := byte_of (128 + (r : Int) / 64 % 64) (by omega) (by omega)
    have b2 := byte_of (128 + (r : Int) % 64) (by omega) (by omega)
    simp only [List.cons_append, List.nil_append, List.length_cons, List.length_nil, List.getD_cons_zero, List.getD_cons_succ, b0, b1, b2]
    exact decN_three _ _ _ _ _ r (by omega) (by omega) (by omega) (by omega) c2 (by omega) (by omega)
  · have e : Lib.encodeRune (r : Int) = [(240 + (r : Int) / 262144).toNat.toUInt8, (128 + (r : Int) / 4096 % 64).toNat.toUInt8, (128 + (r : Int) / 64 % 64).toNat.toUInt8, (128 + (r : Int) % 64).toNat.toUInt8] := by
      unfold Lib.encodeRune; rw [Lib.encodeRuneZ_four (by omega) (by omega)]; rfl
    rw [e]
    have b0 := byte_of (240 + (r : Int) / 262144) (by omega) (by omega)
    have b1 := byte_of (128 + (r : Int) / 4096 % 64) (by omega) (by omega)
    have b2 := byte_of (128 + (r : Int) / 64 % 64) (by omega) (by omega)
    have b3 := byte_of (128 + (r : Int) % 64) (by omega) (by omega)
    simp only [List.cons_append, List.nil_append, List.length_cons, List.length_nil, List.getD_cons_zero, List.getD_cons_succ, b0, b1, b2, b3]
    exact decN_four _ _ _ _ _ r (by omega) (by omega) (by omega) (by omega) (by omega) c3 (by omega)
theorem enc_len (r : Int) : 1 ≤ (Lib.encodeRune r).length ∧ (Lib.encodeRune r).length ≤ 4 := by
  have := Lib.encodeRuneZ_length r
  simpa [Lib.encodeRune] using this
theorem headI_some {l : List UInt8} {r : Nat} (hne : l ≠ []) (h : headI l = some r) : okR r ∧ (Lib.decodeL l).1 = r ∧ Lib.encodeRune (r : Int) = l.take (Lib.decodeL l).2 ∧ (Lib.decodeL l).2 ≤ l.length ∧ ¬ ((Lib.decodeL l).1 = 65533 ∧ (Lib.decodeL l).2 = 1) := by
  unfold headI at h
  split at h
  · cases h
  · rename_i hs
    injection h with h
    have e := Lib.encode_decode l hne hs
    have w := Lib.decodeL_le l hne
    refine ⟨?_, h, by rw [← h]; exact e, w, hs⟩
    rw [← h]
    rw [Lib.decodeL_N] at hs ⊢
    have k0 := (l.getD 0 0).toNat_lt
    unfold okR
    rcases Lib.decodeN_shape l.length (l.getD 0 0).toNat (l.getD 1 0).toNat (l.getD 2 0).toNat (l.getD 3 0).toNat with ⟨c, e⟩ | ⟨c1, c2, c3, cv, e⟩ | ⟨c1, c2, c3, c4, cv, cs, e⟩ | ⟨c1, c2, c3, c4, c5, cv, cw, e⟩ | e
    all_goals (rw [e] at hs ⊢; dsimp only at hs ⊢)
    all_goals omega
theorem headI_none {l : List UInt8} (h : headI l = none) : (Lib.decodeL l).1 = 65533 ∧ (Lib.decodeL l).2 = 1 := by
  unfold headI at h
  split at h
  · assumption
  · cases h
def shownR : Option Nat → Nat
  | none => 32
  | some r => if r < 32 ∨ r = 127 ∨ r = 59 then 32 else if r = 39 then 8217 else r
def titleN (n : Nat) : List (Option Nat) → List Nat
  | [] => []
  | x :: xs => if n + (Lib.encodeRune (shownR x : Int)).length > 60 then [] else shownR x :: titleN (n + (Lib.encodeRune (shownR x : Int)).length) xs
def titleF (l : List UInt8) : List UInt8 := enc (titleN 0 (items l))
theorem shownR_ok {x : Option Nat} (h : ∀ r, x = some r → okR r) : okR (shownR x) := by
  cases x with
  | none => exact .inl (by decide)
  | some r =>
    have := h r rfl
    simp only [shownR]
    split
    · exact .inl (by decide)
    · split
      · exact .inl (by decide)
      · exact this
end Go.Proofs.YtmgfkdmjgjlkjaaGreat
