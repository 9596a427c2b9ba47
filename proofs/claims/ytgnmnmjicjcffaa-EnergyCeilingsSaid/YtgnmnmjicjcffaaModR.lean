/- What the document's answers for layer 5 give: a model on a list. -/
import Derived.Test.YtgnmnmjicjcffaaRows
import Derived.Test.YtgnmnmjicjcffaaModP
import Derived.Test.YtgnmnmjicjcffaaMemK
import Derived.IntWalk
import Derived.Deep.QuietTactic
import Derived.BigQuiet
import Derived.BigRegion
namespace Go.Proofs.Ytgnmnmjicjcffaa
open Go.RowKit
set_option linter.unusedVariables false

theorem info_int05 : (Try.prog.info? 3).map (fun i => (i.zero, i.size, i.bytes)) = some (some (.int .i64 0), 1, 8) := by kernel_rfl

/-- Block g is the document's model of the list l; its row lies in block r. -/
def RefMod (w : World) (base g r : Nat) (l : List Int) (fx : Bool) : Prop :=
  ∃ c, Cel w g 86 #[.slice (some ⟨r, 0, none⟩) l.length c, .bool fx] ∧ w.ownsRow base 3 1 (.slice (some ⟨r, 0, none⟩) l.length c) l.length (l.map (Value.int .i64)) ∧ base ≤ g
section
variable {w w' : World} {base g r : Nat} {l : List Int} {fx : Bool}
theorem RefMod.lt (h : RefMod w base g r l fx) : g < w.heap.size ∧ r < w.heap.size ∧ base ≤ g ∧ base ≤ r := by
  obtain ⟨c, h1, h2, h3⟩ := h
  exact ⟨h1.lt, own_lt h2 r rfl, h3, own_base h2 r rfl⟩
theorem RefMod.keeps {F : Nat → Prop} (h : RefMod w base g r l fx) (hk : Keeps F w w') (h1 : ¬ F g) (h2 : ¬ F r) : RefMod w' base g r l fx := by
  obtain ⟨c, g1, g2, g3⟩ := h
  exact ⟨c, g1.keeps hk h1, own_keeps g2 hk (by intro k hk'; simp [Value.ownBlock] at hk'; subst hk'; exact h2), g3⟩
theorem RefMod.below (h : RefMod w base g r l fx) (hk : Below w.heap.size w w') : RefMod w' base g r l fx := h.keeps (F := fun _ => False) (.of_below hk) (fun c => c) (fun c => c)
theorem RefMod.at_ (h : RefMod w base g r l fx) {j : Nat} (hj : j < l.length) : w.cell? ⟨r, j, none⟩ = some (.int .i64 (l.getD j 0)) := by
  obtain ⟨c, g1, g2, g3⟩ := h
  rw [g2.cellAt j (by omega), List.getElem?_map, List.getElem?_eq_getElem hj]
  simp [List.getD, hj]
end

set_option maxRecDepth 100000 in
theorem refSum_any (base g r : Nat) (l : List Int) (fx : Bool) (n : Nat) (w : World) (hR : RefMod w base g r l fx) (hn : n ≤ l.length) (hl : l.length ≤ 64) (hb : ∀ j, j < l.length → 0 ≤ l.getD j 0 ∧ l.getD j 0 ≤ 4294967295) :
    Calls Try.prog 49 #[.pointer (some ⟨g, 0, none⟩), .int .i64 n] w fun e w' => e = .returned (.int .i64 (sumN l n)) ∧ w = w' := by
  obtain ⟨c, h1, h2, h3⟩ := hR
  have HR := Lib.hid (show RefMod w base g r l fx from ⟨c, h1, h2, h3⟩)
  have HB := Lib.hid hb
  have c0 := h1.cell 0
  simp only [List.getElem?_toArray, List.getElem?_cons_zero] at c0
  clear h1 h2 h3 hb
  go_enter Try.func49, Try.ntmps49
  go_wp2
  go_loop [5, 6] (fun s i => ∃ k : Nat, k ≤ n ∧ i = .int .i64 k ∧ s = .int .i64 (sumN l k)) (fun _ i => (n : Int).toNat - (intOf i).toNat)
  case atStart => exact ⟨0, by omega, rfl, by rw [sumN_zero]⟩
  case round =>
    obtain ⟨k, hk, rfl, rfl⟩ := hrel
    obtain ⟨s0, s1⟩ := sumN_bd HB.out k (by omega)
    by_cases hlt : k < n
    · have hcell := HR.out.at_ (j := k) (by omega)
      obtain ⟨x0, x1⟩ := HB.out k (by omega)
      have E := Lib.hid (sumN_succ l k (by omega))
      generalize l.getD k 0 = x at hcell x0 x1 E
      have hkl : (k : Int) < (l.length : Int) := by omega
      go_wp2
      go_round
      case rel => exact ⟨k + 1, by omega, by go_num, by rw [E.out]⟩
      case measure => simp [intOf]; omega
    · obtain rfl : k = n := by omega
      go_wp2
      go_ret
      exact ⟨rfl, rfl⟩

theorem refSum_at (base g r : Nat) (l : List Int) (fx : Bool) (n : Nat) (i : Int) (w : World) (hi : i = n) (hR : RefMod w base g r l fx) (hn : n ≤ l.length) (hl : l.length ≤ 64) (hb : ∀ j, j < l.length → 0 ≤ l.getD j 0 ∧ l.getD j 0 ≤ 4294967295) :
    Calls Try.prog 49 #[.pointer (some ⟨g, 0, none⟩), .int .i64 i] w fun e w' => e = .returned (.int .i64 (sumN l n)) ∧ w = w' := by
  subst hi
  exact refSum_any base g r l fx n w hR hn hl hb

set_option maxRecDepth 100000 in
theorem refFind_any (base g r : Nat) (l : List Int) (fx : Bool) (at' : Int) (w : World) (hR : RefMod w base g r l fx) (hl0 : 1 ≤ l.length) (hl : l.length ≤ 64) (hb : ∀ j, j < l.length → 0 ≤ l.getD j 0 ∧ l.getD j 0 ≤ 4294967295) :
    Calls Try.prog 55 #[.pointer (some ⟨g, 0, none⟩), .int .i64 at'] w fun e w' => e = .returned (.int .i64 (findP l at')) ∧ w = w' := by
  obtain ⟨c, h1, h2, h3⟩ := hR
  have HR := Lib.hid (show RefMod w base g r l fx from ⟨c, h1, h2, h3⟩)
  have HB := Lib.hid hb
  have c0 := h1.cell 0
  simp only [List.getElem?_toArray, List.getElem?_cons_zero] at c0
  clear h1 h2 h3 hb
  go_enter Try.func55, Try.ntmps55
  go_wp2
  go_loop [5] (fun i => ∃ k : Nat, k ≤ l.length ∧ i = .int .i64 k ∧ RowKit.Hid (findGo l at' k (l.length - k) = findP l at')) (fun i => l.length - (intOf i).toNat)
  case atStart => exact ⟨0, by omega, rfl, rfl⟩
  case round =>
    obtain ⟨k, hk, rfl, H⟩ := hrel
    by_cases hlt : k < l.length
    · have hkl : (k : Int) < (l.length : Int) := by omega
      have S : RowKit.Hid (findGo l at' k (l.length - k) = if at' < sumN l (k + 1) then k else findGo l at' (k + 1) (l.length - (k + 1))) := by
        rw [show l.length - k = (l.length - (k + 1)) + 1 by omega]; exact rfl
      by_cases hs : at' < sumN l (k + 1)
      · have Z : RowKit.Hid (((k : Nat) : Int) = ((findP l at' : Nat) : Int)) := by
          have := S.out
          rw [if_pos hs, H.out] at this
          show (k : Int) = (findP l at' : Int)
          rw [this]
        go_wp2_with (go_at_call 49; ((with_reducible refine (refSum_at base g r l fx (k + 1) _ _ (by omega) HR.out (by omega) hl HB.out).mono ?_)); rintro e w' ⟨rfl, rfl⟩)
        go_ret
        exact ⟨ret_int Z.out, rfl⟩
      · have Z : RowKit.Hid (findGo l at' (k + 1) (l.length - (k + 1)) = findP l at') := by
          have := S.out
          rw [if_neg hs, H.out] at this
          exact this.symm
        go_wp2_with (go_at_call 49; ((with_reducible refine (refSum_at base g r l fx (k + 1) _ _ (by omega) HR.out (by omega) hl HB.out).mono ?_)); rintro e w' ⟨rfl, rfl⟩)
        go_round
        case rel => exact ⟨k + 1, by omega, by go_num, Z.out⟩
        case measure => simp [intOf]; omega
    · have Z : RowKit.Hid ((l.length : Int) - 1 = ((findP l at' : Nat) : Int)) := by
        have := H.out
        rw [show l.length - k = 0 by omega] at this
        show (l.length : Int) - 1 = (findP l at' : Int)
        rw [← this]
        show (l.length : Int) - 1 = ((l.length - 1 : Nat) : Int)
        omega
      go_wp2
      go_ret
      exact ⟨ret_int Z.out, rfl⟩

/-- The model's row, written at one place. -/
theorem RefMod.stored {w : World} {base g r : Nat} {l : List Int} {fx : Bool} (h : RefMod w base g r l fx) (j : Nat) (x : Int) : RefMod (w.setCell ⟨r, j, none⟩ (.int .i64 x)) base g r (l.set j x) fx := by
  obtain ⟨c, h1, h2, h3⟩ := h
  have hne : r ≠ g := own_ne_cel h2 h1 (by decide) r rfl
  refine ⟨c, ?_, ?_, h3⟩
  · rw [List.length_set]; exact h1.far (p := ⟨r, j, none⟩) (fun e => hne e.symm) _
  · rw [List.length_set, List.map_set]; exact (h2.stored j (.int .i64 x)).1
theorem RefMod.drewN {w : World} {base g r : Nat} {l : List Int} {fx : Bool} (h : RefMod w base g r l fx) (n : Nat) : RefMod (w.drewN n) base g r l fx := h
theorem RefMod.frozen {w : World} {base g r : Nat} {l : List Int} {fx : Bool} (h : RefMod w base g r l fx) (j : Nat) : w.frozen? ⟨r, j, none⟩ = false := by
  obtain ⟨c, h1, h2, h3⟩ := h
  exact h2.frozenAt j

theorem refLearn_fixed (base g r : Nat) (l : List Int) (s : Int) (w : World) (hR : RefMod w base g r l true) :
    Calls Try.prog 50 #[.pointer (some ⟨g, 0, none⟩), .int .i64 s] w fun e w' => e = .returned (.tuple #[]) ∧ w = w' := by
  obtain ⟨c, h1, h2, h3⟩ := hR
  have c1 := h1.cell 1
  simp only [List.getElem?_toArray, List.getElem?_cons_zero, List.getElem?_cons_succ] at c1
  clear h1 h2 h3
  go_enter Try.func50, Try.ntmps50
  go_wp2
  exact bodyPost_ret (v := .tuple #[]) (by simp [results, Try.results50]) rfl ⟨rfl, rfl⟩

set_option maxRecDepth 100000 in
theorem refLearn_any (base g r : Nat) (l : List Int) (s : Nat) (w : World) (hR : RefMod w base g r l false) (hG : GoodL l) (hs : s < l.length) :
    Calls Try.prog 50 #[.pointer (some ⟨g, 0, none⟩), .int .i64 s] w fun e w' => e = .returned (.tuple #[]) ∧ RefMod w' base g r (learnP l s) false ∧ Keeps (fun k => k = r) w w' := by
  obtain ⟨c, h1, h2, h3⟩ := hR
  have HR := Lib.hid (show RefMod w base g r l false from ⟨c, h1, h2, h3⟩)
  have hne : g ≠ r := fun e => own_ne_cel h2 h1 (by decide) r rfl e.symm
  have c0 := h1.cell 0
  have c1 := h1.cell 1
  simp only [List.getElem?_toArray, List.getElem?_cons_zero, List.getElem?_cons_succ] at c0 c1
  have hcell := HR.out.at_ hs
  have hfz := HR.out.frozen s
  obtain ⟨x0, x1⟩ := hG.own hs
  have hl := hG.2.1
  have HG := Lib.hid hG
  have E : RowKit.Hid (riseL l s = l.set s (l.getD s 0 + 32)) := rfl
  clear h1 h2 h3 hG
  generalize l.getD s 0 = x at hcell x0 x1 E
  have HS : RowKit.Hid (RefMod (w.setCell ⟨r, s, none⟩ (.int .i64 (x + 32))) base g r (riseL l s) false) := by
    show RefMod _ _ _ _ _ _
    rw [E.out]; exact HR.out.stored s (x + 32)
  have HK := Lib.hid ((Keeps.refl (fun k => k = r) w).setCell (p := ⟨r, s, none⟩) (.inl rfl) (.int .i64 (x + 32)))
  go_enter Try.func50, Try.ntmps50
  go_wp2
  have g1 : IntKind.i64.wrap (x + 32) = x + 32 := IntWalk.i64_in _ (by omega)
  have g2 : (s : Int) < (l.length : Int) := by omega
  go_region
  clear g1 hcell hfz
  obtain ⟨w1, hw1⟩ : ∃ w1, w1 = (w.setCell ⟨r, s, none⟩ (.int .i64 (x + 32))).drew := ⟨_, rfl⟩
  rw [← hw1]
  have HS1 : RowKit.Hid (RefMod w1 base g r (riseL l s) false ∧ Keeps (fun k => k = r) w w1) := by
    rw [hw1]; exact ⟨HS.out.drewN 1, HK.out.drewN 1⟩
  clear hw1 HS HK HR c0 c1
  have hlen := Lib.hid (riseL_len l s)
  have hsum := Lib.hid (sumN_all (riseL l s))
  have hb : ∀ j, j < (riseL l s).length → 0 ≤ (riseL l s).getD j 0 ∧ (riseL l s).getD j 0 ≤ 4294967295 := by
    intro j hj
    rw [hlen.out] at hj
    have := riseL_own HG.out hs hj
    omega
  have HB := Lib.hid hb
  clear hb
  obtain ⟨c', h1, h2, h3⟩ := HS1.out.1
  have c0 := h1.cell 0
  simp only [List.getElem?_toArray, List.getElem?_cons_zero] at c0
  rw [hlen.out] at c0
  clear h1 h2 h3
  by_cases hbig : 8192 < sumN (riseL l s) l.length
  · have hln : RowKit.Hid (learnP l s = halfL (riseL l s)) := by
      unfold learnP
      rw [← sumN_all, hlen.out, if_pos hbig]; exact rfl
    go_wp2_with (go_at_call 49; go_loud (refine (refSum_at base g r (riseL l s) false l.length _ _ (by omega) HS1.out.1 (by rw [hlen.out]; exact Nat.le_refl _) (by rw [hlen.out]; omega) HB.out).mono ?_); rintro e w' ⟨rfl, rfl⟩)
    clear c0
    go_loopw [4] (fun i wr => ∃ k : Nat, k ≤ l.length ∧ i = .int .i64 k ∧ RowKit.Hid (RefMod wr base g r (halfK (riseL l s) k) false ∧ Keeps (fun k => k = r) w wr)) (fun i _ => l.length - (intOf i).toNat)
    case atStart => exact ⟨0, by omega, rfl, by rw [halfK_zero]; exact HS1.out.1, HS1.out.2⟩
    case round =>
      obtain ⟨k, hk, rfl, H⟩ := hrel
      have hlk : (halfK (riseL l s) k).length = l.length := by rw [halfK_len _ (by rw [hlen.out]; exact hk), hlen.out]
      obtain ⟨c', h1, h2, h3⟩ := H.out.1
      have c0 := h1.cell 0
      simp only [List.getElem?_toArray, List.getElem?_cons_zero] at c0
      rw [hlk] at c0
      clear h1 h2 h3
      by_cases hlt : k < l.length
      · have i1 := H.out.1.at_ (j := k) (by rw [hlk]; exact hlt)
        have f1 := H.out.1.frozen k
        rw [halfK_at _ (by rw [hlen.out]; exact hlt)] at i1
        obtain ⟨y0, y1⟩ := riseL_own HG.out hs hlt
        have HN := Lib.hid (halfK_next (riseL l s) (k := k) (by rw [hlen.out]; exact hlt))
        generalize (riseL l s).getD k 0 = y at i1 y0 y1 HN
        have HS2 : RowKit.Hid (RefMod (wr.setCell ⟨r, k, none⟩ (.int .i64 ((y + 1) / 2))) base g r (halfK (riseL l s) (k + 1)) false ∧ Keeps (fun k => k = r) w (wr.setCell ⟨r, k, none⟩ (.int .i64 ((y + 1) / 2)))) :=
          ⟨by rw [← HN.out]; exact H.out.1.stored k _, H.out.2.setCell (.inl rfl) _⟩
        have g1 : IntKind.i64.wrap (y + 1) = y + 1 := IntWalk.i64_in _ (by omega)
        have g2 : (k : Int) < (l.length : Int) := by omega
        have g3 : (y + 1).tdiv 2 = (y + 1) / 2 := Int.tdiv_eq_ediv_of_nonneg (by omega)
        have HL := Lib.hid hlk
        clear hlk
        go_wp2
        go_region
        clear g1 g3
        go_wp2
        go_roundw
        case rel => exact ⟨k + 1, by omega, by go_num, HS2.out.1.drewN 1, HS2.out.2.drewN 1⟩
        case measure => simp [intOf] <;> omega
      · obtain rfl : k = l.length := by omega
        have Z : RowKit.Hid (RefMod wr base g r (learnP l s) false) := by
          have := H.out.1
          rw [← hlen.out, halfK_all, ← hln.out] at this
          exact this
        have HL := Lib.hid hlk
        clear hlk
        go_wp2
        go_end0
        exact ⟨rfl, Z.out, H.out.2⟩
  · have hln : RowKit.Hid (learnP l s = riseL l s) := by
      unfold learnP
      rw [← sumN_all, hlen.out, if_neg hbig]; exact rfl
    go_wp2_with (go_at_call 49; go_loud (refine (refSum_at base g r (riseL l s) false l.length _ _ (by omega) HS1.out.1 (by rw [hlen.out]; exact Nat.le_refl _) (by rw [hlen.out]; omega) HB.out).mono ?_); rintro e w' ⟨rfl, rfl⟩)
    go_end0
    exact ⟨rfl, by rw [hln.out]; exact HS1.out.1, HS1.out.2⟩

theorem ones_snoc (k : Nat) : List.replicate (k + 1) (1 : Int) = List.replicate k 1 ++ [1] := List.replicate_succ'

end Go.Proofs.Ytgnmnmjicjcffaa
