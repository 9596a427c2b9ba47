/- Plain facts, and what functions give, for the proofs of this seat: several texts in one, each with its own first remark. -/
import Derived.Test.YtmgfkdmjgjlkjaaGreatCg

namespace Go.Proofs.YtmgfkdmjgjlkjaaGreat
open Go.RowKit
set_option linter.unusedVariables false
theorem refPower_any (k : Nat) (w : World) (hk : k ≤ 60) :
    Calls Tryz.prog 72 #[.int .i64 k] w fun x w' => x = .returned (.int .i64 (P2 k)) ∧ w = w' := by
  go_enter Tryz.func72, Tryz.ntmps72
  go_wp2
  go_loop [3, 4] (fun n i => ∃ j : Nat, j ≤ k ∧ i = .int .i64 j ∧ n = .int .i64 (P2 j)) (fun _ i => k - (intOf i).toNat)
  case atStart => exact ⟨0, by omega, rfl, rfl⟩
  case round =>
    obtain ⟨j, hj, rfl, rfl⟩ := hrel
    have p := P2_pos j
    by_cases hlt : j < k
    · have q := P2_le61 (k := j) (by omega)
      go_wp2
      go_round
      case rel => exact ⟨j + 1, by omega, by go_num, by rw [P2_succ]⟩
      case measure => simp [intOf] <;> omega
    · obtain rfl : j = k := by omega
      go_wp2
      go_ret
      exact ⟨rfl, rfl⟩
theorem refPower_at (k : Nat) (i : Int) (w : World) (hi : i = k) (hk : k ≤ 60) :
    Calls Tryz.prog 72 #[.int .i64 i] w fun x w' => x = .returned (.int .i64 (P2 k)) ∧ w = w' := by
  subst hi; exact refPower_any k w hk
def encBits (e : EncS) (n : Int) (wide : Nat) : EncS :=
  if wide = 0 then e else if wide ≤ 12 then encPut e (n % P2 wide) 1 (P2 wide) else
    let f := encPut e (n / P2 (wide - 12) % 4096) 1 4096
    if wide ≤ 24 then encPut f (n % P2 (wide - 12)) 1 (P2 (wide - 12)) else f
theorem encBits_zero (e : EncS) (n : Int) : encBits e n 0 = e := rfl
theorem encBits_low (e : EncS) (n : Int) {wide : Nat} (h0 : 0 < wide) (h1 : wide ≤ 12) : encBits e n wide = encPut e (n % P2 wide) 1 (P2 wide) := by
  unfold encBits; rw [if_neg (by omega), if_pos h1]
theorem encBits_high (e : EncS) (n : Int) {wide : Nat} (h0 : 12 < wide) (h1 : wide ≤ 24) : encBits e n wide = encBits (encPut e (n / P2 (wide - 12) % 4096) 1 4096) n (wide - 12) := by
  rw [encBits_low _ _ (show 0 < wide - 12 by omega) (by omega)]
  unfold encBits; rw [if_neg (by omega), if_neg (by omega), if_pos h1]
theorem okP_bit {x : Int} {k : Nat} (h : k ≤ 12) (h0 : 0 ≤ x) (h1 : x < P2 k) : OkP x 1 (P2 k) := by
  have p := P2_pos k
  have q := P2_mono (a := k) (b := 12) h
  rw [show P2 12 = 4096 by decide] at q
  exact ⟨p, by omega, by omega, h0, by omega⟩
theorem bit_part (n : Int) {k : Nat} : 0 ≤ n % P2 k ∧ n % P2 k < P2 k := by
  have p := P2_pos k
  exact ⟨Int.emod_nonneg _ (by omega), Int.emod_lt_of_pos _ (by omega)⟩
set_option maxRecDepth 100000 in
theorem refEncBits_any (base g r c : Nat) (e : EncS) (n : Int) (wide : Nat) (w : World) (hE : EncMem w base g r c (digL e.n (e.k + 4)) e.s e.k) (hG : GoodE e) (hk : e.k ≤ 900000) (hw : wide ≤ 24) (n0 : 0 ≤ n) (n1 : n ≤ 4294967295) :
    Calls Tryz.prog 36 #[.pointer (some ⟨g, 0, none⟩), .int .i64 n, .int .i64 wide] w (EncPost base g r (encBits e n wide) w) := by
  have H0 : RowKit.Hid (EncMem w base g r c (digL e.n (e.k + 4)) e.s e.k ∧ GoodE e) := ⟨hE, hG⟩
  clear hE hG
  go_enter Tryz.func36, Tryz.ntmps36
  go_wp2
  go_loopw [2, 6] (fun d _ wr => ∃ (q : Nat) (f : EncS), q ≤ wide ∧ d = .int .i64 q ∧ f.k ≤ e.k + 3 * (wide - q) ∧ RowKit.Hid (encBits f n q = encBits e n wide ∧ GoodE f ∧ ∃ r2 c2, EncMem wr base g r2 c2 (digL f.n (f.k + 4)) f.s f.k ∧ Keeps (fun j => j = g ∨ j = r) w wr ∧ (r2 = r ∨ w.heap.size ≤ r2))) (fun d _ _ => (intOf d).toNat)
  case atStart => exact ⟨wide, e, by omega, rfl, by omega, rfl, H0.out.2, r, c, H0.out.1, Keeps.refl _ _, .inl rfl⟩
  case round =>
    obtain ⟨q, f, hq, rfl, hf, H⟩ := hrel
    clear H0
    by_cases hlt : 0 < q
    · by_cases hq12 : 12 < q
      · obtain ⟨s1, s2, r2, c2, s3, s4, s5⟩ := H.out
        have HM : RowKit.Hid (EncMem wr.drew base g r2 c2 (digL f.n (f.k + 4)) f.s f.k) := s3
        have HGf := Lib.hid s2
        obtain ⟨lo, hlo⟩ : ∃ lo, lo + 12 = q := ⟨q - 12, by omega⟩
        have pl := P2_pos lo
        have ql := P2_le61 (k := lo) (by omega)
        have x0 : 0 ≤ n / P2 lo := Int.ediv_nonneg n0 (by omega)
        have x1 : n / P2 lo ≤ n := Int.ediv_le_self _ n0
        have y0 := Int.emod_nonneg (n / P2 lo) (b := 4096) (by decide)
        have y1 := Int.emod_lt_of_pos (n / P2 lo) (b := 4096) (by decide)
        have d1 : n.tdiv (P2 lo) = n / P2 lo := Int.tdiv_eq_ediv_of_nonneg n0
        have d2 : ¬ P2 lo = 0 := by omega
        have d3 : P2 12 = 4096 := by decide
        have d4 : (n / P2 lo).tmod 4096 = n / P2 lo % 4096 := Int.tmod_eq_emod_of_nonneg x0
        have d5 : IntKind.i64.wrap (n / P2 lo) = n / P2 lo := IntWalk.i64_in _ (by omega)
        have d6 : IntKind.i64.wrap (n / P2 lo % 4096) = n / P2 lo % 4096 := IntWalk.i64_in _ (by omega)
        have HOk : RowKit.Hid (OkP (n / P2 lo % 4096) 1 4096) := ⟨by decide, by decide, by decide, y0, by omega⟩
        go_wp2
        go_still_tail 10, (by kernel_rfl)
        still_call ((refPower_at lo _ _ (by omega) (by omega)).mono fun _ _ h => ⟨h.1, h.2.symm⟩)
        repeat still_step
        still_call ((refPower_at 12 _ _ (by omega) (by omega)).mono fun _ _ h => ⟨h.1, h.2.symm⟩)
        repeat still_step
        still_call ((refPower_at 12 _ _ (by omega) (by omega)).mono fun _ _ h => ⟨h.1, h.2.symm⟩)
        refine wpStill_nil ?_
        change wpList _ _ _ _ _ wr.drew
        clear d1 d2 d3 d4 d5 d6
        go_wp2_with (go_at_call 71; go_loud (refine (refEncPut_any base g r2 c2 f (n / P2 lo % 4096) 1 4096 _ HM.out HGf.out HOk.out (by omega)).mono ?_); rintro e5 w5 ⟨rfl, hpost⟩; have HP5 := Lib.hid hpost; clear hpost)
        go_roundw
        case rel =>
          obtain ⟨r3, c3, u1, u2, u3⟩ := HP5.out
          have hk2 := encPut_k f (n / P2 lo % 4096) 1 4096
          refine ⟨lo, encPut f (n / P2 lo % 4096) 1 4096, by omega, by go_num, by omega, by rw [← s1, encBits_high f n hq12 (by omega), show q - 12 = lo by omega], encPut_good HGf.out HOk.out, r3, c3, u1, ?_, ?_⟩
          · refine (s4.drewN 1).then_ u2 ?_
            rintro j (hj | hj)
            · exact .inl (.inl hj)
            · rcases s5 with h | h
              · exact .inl (.inr (by omega))
              · exact .inr (by omega)
          · have := s4.size
            have h5 : r3 = r2 ∨ wr.heap.size ≤ r3 := u3
            rcases h5 with h | h
            · rcases s5 with h' | h'
              · exact .inl (by omega)
              · exact .inr (by omega)
            · exact .inr (by omega)
        case measure => simp [intOf] <;> omega
      · obtain ⟨s1, s2, r2, c2, s3, s4, s5⟩ := H.out
        have HM : RowKit.Hid (EncMem wr.drew base g r2 c2 (digL f.n (f.k + 4)) f.s f.k) := s3
        have HGf := Lib.hid s2
        have pl := P2_pos q
        have ql := P2_mono (a := q) (b := 12) (by omega)
        rw [show P2 12 = 4096 by decide] at ql
        have y := bit_part n (k := q)
        obtain ⟨y0, y1⟩ := y
        have d1 : n.tdiv 1 = n := Int.tdiv_one n
        have d2 : ¬ P2 q = 0 := by omega
        have d3 : P2 0 = 1 := by decide
        have d4 : n.tmod (P2 q) = n % P2 q := Int.tmod_eq_emod_of_nonneg n0
        have d5 : IntKind.i64.wrap n = n := IntWalk.i64_in _ (by omega)
        have d6 : IntKind.i64.wrap (n % P2 q) = n % P2 q := IntWalk.i64_in _ (by omega)
        have HOk : RowKit.Hid (OkP (n % P2 q) 1 (P2 q)) := okP_bit (by omega) y0 y1
        go_wp2
        go_still_tail 10, (by kernel_rfl)
        still_call ((refPower_at 0 _ _ (by omega) (by omega)).mono fun _ _ h => ⟨h.1, h.2.symm⟩)
        repeat still_step
        still_call ((refPower_at q _ _ (by omega) (by omega)).mono fun _ _ h => ⟨h.1, h.2.symm⟩)
        repeat still_step
        still_call ((refPower_at q _ _ (by omega) (by omega)).mono fun _ _ h => ⟨h.1, h.2.symm⟩)
        refine wpStill_nil ?_
        change wpList _ _ _ _ _ wr.drew
        clear d1 d2 d3 d4 d5 d6
        go_wp2_with (go_at_call 71; go_loud (refine (refEncPut_any base g r2 c2 f (n % P2 q) 1 (P2 q) _ HM.out HGf.out HOk.out (by omega)).mono ?_); rintro e5 w5 ⟨rfl, hpost⟩; have HP5 := Lib.hid hpost; clear hpost)
        go_roundw
        case rel =>
          obtain ⟨r3, c3, u1, u2, u3⟩ := HP5.out
          have hk2 := encPut_k f (n % P2 q) 1 (P2 q)
          refine ⟨0, encPut f (n % P2 q) 1 (P2 q), by omega, by go_num, by omega, by rw [← s1, encBits_low f n hlt (by omega), encBits_zero], encPut_good HGf.out HOk.out, r3, c3, u1, ?_, ?_⟩
          · refine (s4.drewN 1).then_ u2 ?_
            rintro j (hj | hj)
            · exact .inl (.inl hj)
            · rcases s5 with h | h
              · exact .inl (.inr (by omega))
              · exact .inr (by omega)
          · have := s4.size
            have h5 : r3 = r2 ∨ wr.heap.size ≤ r3 := u3
            rcases h5 with h | h
            · rcases s5 with h' | h'
              · exact .inl (by omega)
              · exact .inr (by omega)
            · exact .inr (by omega)
        case measure => simp [intOf] <;> omega
    · obtain rfl : q = 0 := by omega
      go_wp2
      go_end0
      obtain ⟨h1, h2, r2, c2, h3, h4, h5⟩ := H.out
      rw [encBits_zero] at h1
      subst h1
      exact ⟨rfl, r2, c2, h3, h4, h5⟩
theorem okP_12 (n : Int) : OkP (n % 4096) 1 4096 := ⟨by decide, by decide, by decide, by omega, by omega⟩
theorem encBits_good {e : EncS} {n : Int} {wide : Nat} (hg : GoodE e) (hw : wide ≤ 24) : GoodE (encBits e n wide) := by
  by_cases h0 : wide = 0
  · subst h0; exact hg
  · by_cases h1 : wide ≤ 12
    · rw [encBits_low e n (by omega) h1]
      exact encPut_good hg (okP_bit h1 (bit_part n).1 (bit_part n).2)
    · rw [encBits_high e n (by omega) hw, encBits_low _ n (by omega) (by omega)]
      exact encPut_good (encPut_good hg (okP_12 _)) (okP_bit (by omega) (bit_part n).1 (bit_part n).2)
theorem encBits_inside {e : EncS} {n : Int} {wide : Nat} (hg : GoodE e) (hw : wide ≤ 24) : Inside e (encBits e n wide) := by
  by_cases h0 : wide = 0
  · subst h0; exact Inside.refl e
  · by_cases h1 : wide ≤ 12
    · rw [encBits_low e n (by omega) h1]
      exact encPut_inside hg (okP_bit h1 (bit_part n).1 (bit_part n).2)
    · rw [encBits_high e n (by omega) hw, encBits_low _ n (by omega) (by omega)]
      exact (encPut_inside hg (okP_12 _)).trans (encPut_inside (encPut_good hg (okP_12 _)) (okP_bit (by omega) (bit_part n).1 (bit_part n).2))
theorem encBits_k (e : EncS) (n : Int) {wide : Nat} (hw : wide ≤ 24) : (encBits e n wide).k ≤ e.k + 4 := by
  by_cases h0 : wide = 0
  · subst h0; rw [encBits_zero]; omega
  · by_cases h1 : wide ≤ 12
    · rw [encBits_low e n (by omega) h1]
      have := encPut_k e (n % P2 wide) 1 (P2 wide)
      omega
    · rw [encBits_high e n (by omega) hw, encBits_low _ n (by omega) (by omega)]
      have a := encPut_k e (n / P2 (wide - 12) % 4096) 1 4096
      have b := encPut_k (encPut e (n / P2 (wide - 12) % 4096) 1 4096) (n % P2 (wide - 12)) 1 (P2 (wide - 12))
      omega
end Go.Proofs.YtmgfkdmjgjlkjaaGreat

namespace Go.Proofs.YtmgfkdmjgjlkjaaGreat
open Go.RowKit
set_option linter.unusedVariables false
theorem info_int05 : (Tryz.prog.info? 3).map (fun i => (i.zero, i.size, i.bytes)) = some (some (.int .i64 0), 1, 8) := by kernel_rfl
def RefMod (w : World) (base g r : Nat) (l : List Int) (fx : Bool) : Prop :=
  ∃ c, Cel w g 195 #[.slice (some ⟨r, 0, none⟩) l.length c, .bool fx] ∧ w.ownsRow base 3 1 (.slice (some ⟨r, 0, none⟩) l.length c) l.length (l.map (Value.int .i64)) ∧ base ≤ g
section
variable {w w' : World} {base g r : Nat} {l : List Int} {fx : Bool}
theorem RefMod.lt (h : RefMod w base g r l fx) : g < w.heap.size ∧ r < w.heap.size ∧ base ≤ g ∧ base ≤ r := by
  obtain ⟨c, h1, h2, h3⟩ := h
  exact ⟨h1.lt, own_lt h2 r rfl, h3, own_base h2 r rfl⟩
theorem RefMod.keeps {F : Nat → Prop} (h : RefMod w base g r l fx) (hk : Keeps F w w') (h1 : ¬ F g) (h2 : ¬ F r) : RefMod w' base g r l fx := by
  obtain ⟨c, g1, g2, g3⟩ := h
  exact ⟨c, g1.keeps hk h1, own_keeps g2 hk (by intro k hk'; simp [Value.ownBlock] at hk'; subst hk'; exact h2), g3⟩
theorem RefMod.below (h : RefMod w base g r l fx) (hk : Below w.heap.size w w') : RefMod w' base g r l fx := h.keeps (F := fun _ => False) (.of_below hk) (fun c => c) (fun c => c)
theorem RefMod.at_ (h : RefMod w base g r l fx) {j : Nat} (hj : j < l.length) : w.cell? ⟨r, j, none⟩ = some (.int .i64 (l.getD j 0)) := by
  obtain ⟨c, g1, g2, g3⟩ := h
  rw [g2.cellAt j (by omega), List.getElem?_map, List.getElem?_eq_getElem hj]
  simp [List.getD, hj]
end
set_option maxRecDepth 100000 in
theorem refSum_any (base g r : Nat) (l : List Int) (fx : Bool) (n : Nat) (w : World) (hR : RefMod w base g r l fx) (hn : n ≤ l.length) (hl : l.length ≤ 64) (hb : ∀ j, j < l.length → 0 ≤ l.getD j 0 ∧ l.getD j 0 ≤ 4294967295) :
    Calls Tryz.prog 109 #[.pointer (some ⟨g, 0, none⟩), .int .i64 n] w fun e w' => e = .returned (.int .i64 (sumN l n)) ∧ w = w' := by
  obtain ⟨c, h1, h2, h3⟩ := hR
  have HR := Lib.hid (show RefMod w base g r l fx from ⟨c, h1, h2, h3⟩)
  have HB := Lib.hid hb
  have c0 := h1.cell 0
  simp only [List.getElem?_toArray, List.getElem?_cons_zero] at c0
  clear h1 h2 h3 hb
  go_enter Tryz.func109, Tryz.ntmps109
  go_wp2
  go_loop [5, 6] (fun s i => ∃ k : Nat, k ≤ n ∧ i = .int .i64 k ∧ s = .int .i64 (sumN l k)) (fun _ i => (n : Int).toNat - (intOf i).toNat)
  case atStart => exact ⟨0, by omega, rfl, by rw [sumN_zero]⟩
  case round =>
    obtain ⟨k, hk, rfl, rfl⟩ := hrel
    obtain ⟨s0, s1⟩ := sumN_bd HB.out k (by omega)
    by_cases hlt : k < n
    · have hcell := HR.out.at_ (j := k) (by omega)
      obtain ⟨x0, x1⟩ := HB.out k (by omega)
      have E := Lib.hid (sumN_succ l k (by omega))
      generalize l.getD k 0 = x at hcell x0 x1 E
      have hkl : (k : Int) < (l.length : Int) := by omega
      go_wp2
      go_round
      case rel => exact ⟨k + 1, by omega, by go_num, by rw [E.out]⟩
      case measure => simp [intOf]; omega
    · obtain rfl : k = n := by omega
      go_wp2
      go_ret
      exact ⟨rfl, rfl⟩
theorem refSum_at (base g r : Nat) (l : List Int) (fx : Bool) (n : Nat) (i : Int) (w : World) (hi : i = n) (hR : RefMod w base g r l fx) (hn : n ≤ l.length) (hl : l.length ≤ 64) (hb : ∀ j, j < l.length → 0 ≤ l.getD j 0 ∧ l.getD j 0 ≤ 4294967295) :
    Calls Tryz.prog 109 #[.pointer (some ⟨g, 0, none⟩), .int .i64 i] w fun e w' => e = .returned (.int .i64 (sumN l n)) ∧ w = w' := by
  subst hi
  exact refSum_any base g r l fx n w hR hn hl hb
set_option maxRecDepth 100000 in
theorem refFind_any (base g r : Nat) (l : List Int) (fx : Bool) (at' : Int) (w : World) (hR : RefMod w base g r l fx) (hl0 : 1 ≤ l.length) (hl : l.length ≤ 64) (hb : ∀ j, j < l.length → 0 ≤ l.getD j 0 ∧ l.getD j 0 ≤ 4294967295) :
    Calls Tryz.prog 145 #[.pointer (some ⟨g, 0, none⟩), .int .i64 at'] w fun e w' => e = .returned (.int .i64 (findP l at')) ∧ w = w' := by
  obtain ⟨c, h1, h2, h3⟩ := hR
  have HR := Lib.hid (show RefMod w base g r l fx from ⟨c, h1, h2, h3⟩)
  have HB := Lib.hid hb
  have c0 := h1.cell 0
  simp only [List.getElem?_toArray, List.getElem?_cons_zero] at c0
  clear h1 h2 h3 hb
  go_enter Tryz.func145, Tryz.ntmps145
  go_wp2
  go_loop [5] (fun i => ∃ k : Nat, k ≤ l.length ∧ i = .int .i64 k ∧ RowKit.Hid (findGo l at' k (l.length - k) = findP l at')) (fun i => l.length - (intOf i).toNat)
  case atStart => exact ⟨0, by omega, rfl, rfl⟩
  case round =>
    obtain ⟨k, hk, rfl, H⟩ := hrel
    by_cases hlt : k < l.length
    · have hkl : (k : Int) < (l.length : Int) := by omega
      have S : RowKit.Hid (findGo l at' k (l.length - k) = if at' < sumN l (k + 1) then k else findGo l at' (k + 1) (l.length - (k + 1))) := by
        rw [show l.length - k = (l.length - (k + 1)) + 1 by omega]; exact rfl
      by_cases hs : at' < sumN l (k + 1)
      · have Z : RowKit.Hid (((k : Nat) : Int) = ((findP l at' : Nat) : Int)) := by
          have := S.out
          rw [if_pos hs, H.out] at this
          show (k : Int) = (findP l at' : Int)
          rw [this]
        go_wp2_with (go_at_call 109; ((with_reducible refine (refSum_at base g r l fx (k + 1) _ _ (by omega) HR.out (by omega) hl HB.out).mono ?_)); rintro e w' ⟨rfl, rfl⟩)
        go_ret
        exact ⟨ret_int Z.out, rfl⟩
      · have Z : RowKit.Hid (findGo l at' (k + 1) (l.length - (k + 1)) = findP l at') := by
          have := S.out
          rw [if_neg hs, H.out] at this
          exact this.symm
        go_wp2_with (go_at_call 109; ((with_reducible refine (refSum_at base g r l fx (k + 1) _ _ (by omega) HR.out (by omega) hl HB.out).mono ?_)); rintro e w' ⟨rfl, rfl⟩)
        go_round
        case rel => exact ⟨k + 1, by omega, by go_num, Z.out⟩
        case measure => simp [intOf]; omega
    · have Z : RowKit.Hid ((l.length : Int) - 1 = ((findP l at' : Nat) : Int)) := by
        have := H.out
        rw [show l.length - k = 0 by omega] at this
        show (l.length : Int) - 1 = (findP l at' : Int)
        rw [← this]
        show (l.length : Int) - 1 = ((l.length - 1 : Nat) : Int)
        omega
      go_wp2
      go_ret
      exact ⟨ret_int Z.out, rfl⟩
theorem RefMod.stored {w : World} {base g r : Nat} {l : List Int} {fx : Bool} (h : RefMod w base g r l fx) (j : Nat) (x : Int) : RefMod (w.setCell ⟨r, j, none⟩ (.int .i64 x)) base g r (l.set j x) fx := by
  obtain ⟨c, h1, h2, h3⟩ := h
  have hne : r ≠ g := own_ne_cel h2 h1 (by decide) r rfl
  refine ⟨c, ?_, ?_, h3⟩
  · rw [List.length_set]; exact h1.far (p := ⟨r, j, none⟩) (fun e => hne e.symm) _
  · rw [List.length_set, List.map_set]; exact (h2.stored j (.int .i64 x)).1
theorem RefMod.drewN {w : World} {base g r : Nat} {l : List Int} {fx : Bool} (h : RefMod w base g r l fx) (n : Nat) : RefMod (w.drewN n) base g r l fx := h
theorem RefMod.frozen {w : World} {base g r : Nat} {l : List Int} {fx : Bool} (h : RefMod w base g r l fx) (j : Nat) : w.frozen? ⟨r, j, none⟩ = false := by
  obtain ⟨c, h1, h2, h3⟩ := h
  exact h2.frozenAt j
theorem refLearn_fixed (base g r : Nat) (l : List Int) (s : Int) (w : World) (hR : RefMod w base g r l true) :
    Calls Tryz.prog 110 #[.pointer (some ⟨g, 0, none⟩), .int .i64 s] w fun e w' => e = .returned (.tuple #[]) ∧ w = w' := by
  obtain ⟨c, h1, h2, h3⟩ := hR
  have c1 := h1.cell 1
  simp only [List.getElem?_toArray, List.getElem?_cons_zero, List.getElem?_cons_succ] at c1
  clear h1 h2 h3
  go_enter Tryz.func110, Tryz.ntmps110
  go_wp2
  exact bodyPost_ret (v := .tuple #[]) (by simp [results, Tryz.results110]) rfl ⟨rfl, rfl⟩
set_option maxRecDepth 100000 in
theorem refLearn_any (base g r : Nat) (l : List Int) (s : Nat) (w : World) (hR : RefMod w base g r l false) (hG : GoodL l) (hs : s < l.length) :
    Calls Tryz.prog 110 #[.pointer (some ⟨g, 0, none⟩), .int .i64 s] w fun e w' => e = .returned (.tuple #[]) ∧ RefMod w' base g r (learnP l s) false ∧ Keeps (fun k => k = r) w w' := by
  obtain ⟨c, h1, h2, h3⟩ := hR
  have HR := Lib.hid (show RefMod w base g r l false from ⟨c, h1, h2, h3⟩)
  have hne : g ≠ r := fun e => own_ne_cel h2 h1 (by decide) r rfl e.symm
  have c0 := h1.cell 0
  have c1 := h1.cell 1
  simp only [List.getElem?_toArray, List.getElem?_cons_zero, List.getElem?_cons_succ] at c0 c1
  have hcell := HR.out.at_ hs
  have hfz := HR.out.frozen s
  obtain ⟨x0, x1⟩ := hG.own hs
  have hl := hG.2.1
  have HG := Lib.hid hG
  have E : RowKit.Hid (riseL l s = l.set s (l.getD s 0 + 32)) := rfl
  clear h1 h2 h3 hG
  generalize l.getD s 0 = x at hcell x0 x1 E
  have HS : RowKit.Hid (RefMod (w.setCell ⟨r, s, none⟩ (.int .i64 (x + 32))) base g r (riseL l s) false) := by
    show RefMod _ _ _ _ _ _
    rw [E.out]; exact HR.out.stored s (x + 32)
  have HK := Lib.hid ((Keeps.refl (fun k => k = r) w).setCell (p := ⟨r, s, none⟩) (.inl rfl) (.int .i64 (x + 32)))
  go_enter Tryz.func110, Tryz.ntmps110
  go_wp2
  have g1 : IntKind.i64.wrap (x + 32) = x + 32 := IntWalk.i64_in _ (by omega)
  have g2 : (s : Int) < (l.length : Int) := by omega
  go_region
  clear g1 hcell hfz
  obtain ⟨w1, hw1⟩ : ∃ w1, w1 = (w.setCell ⟨r, s, none⟩ (.int .i64 (x + 32))).drew := ⟨_, rfl⟩
  rw [← hw1]
  have HS1 : RowKit.Hid (RefMod w1 base g r (riseL l s) false ∧ Keeps (fun k => k = r) w w1) := by
    rw [hw1]; exact ⟨HS.out.drewN 1, HK.out.drewN 1⟩
  clear hw1 HS HK HR c0 c1
  have hlen := Lib.hid (riseL_len l s)
  have hsum := Lib.hid (sumN_all (riseL l s))
  have hb : ∀ j, j < (riseL l s).length → 0 ≤ (riseL l s).getD j 0 ∧ (riseL l s).getD j 0 ≤ 4294967295 := by
    intro j hj
    rw [hlen.out] at hj
    have := riseL_own HG.out hs hj
    omega
  have HB := Lib.hid hb
  clear hb
  obtain ⟨c', h1, h2, h3⟩ := HS1.out.1
  have c0 := h1.cell 0
  simp only [List.getElem?_toArray, List.getElem?_cons_zero] at c0
  rw [hlen.out] at c0
  clear h1 h2 h3
  by_cases hbig : 8192 < sumN (riseL l s) l.length
  · have hln : RowKit.Hid (learnP l s = halfL (riseL l s)) := by
      unfold learnP
      rw [← sumN_all, hlen.out, if_pos hbig]; exact rfl
    go_wp2_with (go_at_call 109; go_loud (refine (refSum_at base g r (riseL l s) false l.length _ _ (by omega) HS1.out.1 (by rw [hlen.out]; exact Nat.le_refl _) (by rw [hlen.out]; omega) HB.out).mono ?_); rintro e w' ⟨rfl, rfl⟩)
    clear c0
    go_loopw [4] (fun i wr => ∃ k : Nat, k ≤ l.length ∧ i = .int .i64 k ∧ RowKit.Hid (RefMod wr base g r (halfK (riseL l s) k) false ∧ Keeps (fun k => k = r) w wr)) (fun i _ => l.length - (intOf i).toNat)
    case atStart => exact ⟨0, by omega, rfl, by rw [halfK_zero]; exact HS1.out.1, HS1.out.2⟩
    case round =>
      obtain ⟨k, hk, rfl, H⟩ := hrel
      have hlk : (halfK (riseL l s) k).length = l.length := by rw [halfK_len _ (by rw [hlen.out]; exact hk), hlen.out]
      obtain ⟨c', h1, h2, h3⟩ := H.out.1
      have c0 := h1.cell 0
      simp only [List.getElem?_toArray, List.getElem?_cons_zero] at c0
      rw [hlk] at c0
      clear h1 h2 h3
      by_cases hlt : k < l.length
      · have i1 := H.out.1.at_ (j := k) (by rw [hlk]; exact hlt)
        have f1 := H.out.1.frozen k
        rw [halfK_at _ (by rw [hlen.out]; exact hlt)] at i1
        obtain ⟨y0, y1⟩ := riseL_own HG.out hs hlt
        have HN := Lib.hid (halfK_next (riseL l s) (k := k) (by rw [hlen.out]; exact hlt))
        generalize (riseL l s).getD k 0 = y at i1 y0 y1 HN
        have HS2 : RowKit.Hid (RefMod (wr.setCell ⟨r, k, none⟩ (.int .i64 ((y + 1) / 2))) base g r (halfK (riseL l s) (k + 1)) false ∧ Keeps (fun k => k = r) w (wr.setCell ⟨r, k, none⟩ (.int .i64 ((y + 1) / 2)))) :=
          ⟨by rw [← HN.out]; exact H.out.1.stored k _, H.out.2.setCell (.inl rfl) _⟩
        have g1 : IntKind.i64.wrap (y + 1) = y + 1 := IntWalk.i64_in _ (by omega)
        have g2 : (k : Int) < (l.length : Int) := by omega
        have g3 : (y + 1).tdiv 2 = (y + 1) / 2 := Int.tdiv_eq_ediv_of_nonneg (by omega)
        have HL := Lib.hid hlk
        clear hlk
        go_wp2
        go_region
        clear g1 g3
        go_wp2
        go_roundw
        case rel => exact ⟨k + 1, by omega, by go_num, HS2.out.1.drewN 1, HS2.out.2.drewN 1⟩
        case measure => simp [intOf] <;> omega
      · obtain rfl : k = l.length := by omega
        have Z : RowKit.Hid (RefMod wr base g r (learnP l s) false) := by
          have := H.out.1
          rw [← hlen.out, halfK_all, ← hln.out] at this
          exact this
        have HL := Lib.hid hlk
        clear hlk
        go_wp2
        go_end0
        exact ⟨rfl, Z.out, H.out.2⟩
  · have hln : RowKit.Hid (learnP l s = riseL l s) := by
      unfold learnP
      rw [← sumN_all, hlen.out, if_neg hbig]; exact rfl
    go_wp2_with (go_at_call 109; go_loud (refine (refSum_at base g r (riseL l s) false l.length _ _ (by omega) HS1.out.1 (by rw [hlen.out]; exact Nat.le_refl _) (by rw [hlen.out]; omega) HB.out).mono ?_); rintro e w' ⟨rfl, rfl⟩)
    go_end0
    exact ⟨rfl, by rw [hln.out]; exact HS1.out.1, HS1.out.2⟩
end Go.Proofs.YtmgfkdmjgjlkjaaGreat

namespace Go.Proofs.YtmgfkdmjgjlkjaaGreat
open Go.RowKit
set_option linter.unusedVariables false
def encSym (e : EncS) (l : List Int) (s : Nat) : EncS := encPut e (sumN l s) (l.getD s 0) l.sum
theorem okP_sym {l : List Int} (h : GoodL l) {s : Nat} (hs : s < l.length) : OkP (sumN l s) (l.getD s 0) l.sum := by
  have a := h.own hs
  have b := h.sum_le (n := s) (by omega)
  have c := sumN_succ l s hs
  have d := sumN_rise (l := l) (fun j hj => by have := h.2.2.1 j hj; omega) (m := s + 1) (n := l.length) (by omega) (Nat.le_refl _)
  rw [sumN_all] at d
  exact ⟨by omega, h.2.2.2, a.1, b.1, by omega⟩
def nextL (l : List Int) (fx : Bool) (s : Nat) : List Int := if fx then l else learnP l s
def SymPost (base b2 g r mg mr : Nat) (f : EncS) (l : List Int) (fx : Bool) (w : World) (x : Ending) (w' : World) : Prop :=
  x = .returned (.tuple #[]) ∧ ∃ r' c', EncMem w' base g r' c' (digL f.n (f.k + 4)) f.s f.k ∧ RefMod w' b2 mg mr l fx ∧ Keeps (fun j => j = g ∨ j = r ∨ j = mr) w w' ∧ (r' = r ∨ w.heap.size ≤ r')
set_option maxRecDepth 100000 in
theorem refEncSymbol_any (base b2 g r c mg mr : Nat) (e : EncS) (l : List Int) (fx : Bool) (s : Nat) (w : World) (hE : EncMem w base g r c (digL e.n (e.k + 4)) e.s e.k) (hR : RefMod w b2 mg mr l fx) (hG : GoodE e) (hL : GoodL l) (hs : s < l.length) (hk : e.k ≤ 900000) (d1 : mg ≠ g) (d2 : mg ≠ r) (d3 : mr ≠ g) (d4 : mr ≠ r) :
    Calls Tryz.prog 74 #[.pointer (some ⟨g, 0, none⟩), .pointer (some ⟨mg, 0, none⟩), .int .i64 s] w (SymPost base b2 g r mg mr (encSym e l s) (nextL l fx s) fx w) := by
  obtain ⟨cm, h1, h2, h3⟩ := hR
  have HR := Lib.hid (show RefMod w b2 mg mr l fx from ⟨cm, h1, h2, h3⟩)
  have HE := Lib.hid hE
  have HG := Lib.hid hG
  have HL := Lib.hid hL
  have hl := hL.2.1
  have c0 := h1.cell 0
  simp only [List.getElem?_toArray, List.getElem?_cons_zero] at c0
  have hcell := HR.out.at_ hs
  have hb : ∀ j, j < l.length → 0 ≤ l.getD j 0 ∧ l.getD j 0 ≤ 4294967295 := fun j hj => by have := HL.out.own hj; omega
  have HB := Lib.hid hb
  have HOk := Lib.hid (okP_sym hL hs)
  have HS : RowKit.Hid (encSym e l s = encPut e (sumN l s) (l.getD s 0) l.sum) := rfl
  have HT := Lib.hid (sumN_all l)
  have hsl : (s : Int) < (l.length : Int) := by omega
  have HRd : RowKit.Hid (RefMod w.drew b2 mg mr l fx) := HR.out
  have HEd : RowKit.Hid (EncMem w.drew base g r c (digL e.n (e.k + 4)) e.s e.k) := HE.out
  clear h1 h2 h3 hE hG hL hb
  rw [HS.out]
  clear HS
  generalize l.getD s 0 = X2 at hcell HOk ⊢
  go_enter Tryz.func74, Tryz.ntmps74
  go_wp2
  go_still_tail 18, (by kernel_rfl)
  still_call ((refSum_at b2 mg mr l fx s _ _ (by omega) HRd.out (by omega) hl HB.out).mono fun _ _ h => ⟨h.1, h.2.symm⟩)
  repeat still_step
  still_call ((refSum_at b2 mg mr l fx l.length _ _ (by omega) HRd.out (by omega) hl HB.out).mono fun _ _ h => ⟨h.1, h.2.symm⟩)
  refine wpStill_nil ?_
  change wpList _ _ _ _ _ w.drew
  rw [HT.out]
  clear c0 hcell
  have hF : ∀ k : Nat, (k = g ∨ k = r) → (k = g ∨ k = r ∨ k = mr) := fun k h => by omega
  cases fx with
  | true =>
    go_wp2_with (first | (go_at_call 71; go_loud (refine (refEncPut_any base g r c e _ _ _ _ HEd.out HG.out HOk.out (by omega)).mono ?_); rintro e5 w5 ⟨rfl, hpost⟩; have HP5 := Lib.hid hpost; obtain ⟨r3, c3, u1, u2, u3⟩ := hpost; have HR5 := Lib.hid (HRd.out.keeps u2 (by omega) (by omega)); clear u1 u2 u3) | (go_at_call 110; go_loud (refine (refLearn_fixed b2 mg mr l _ _ HR5.out).mono ?_); rintro e6 w6 ⟨rfl, rfl⟩))
    go_end0
    obtain ⟨r3, c3, u1, u2, u3⟩ := HP5.out
    exact ⟨rfl, r3, c3, u1, HR5.out, ((Keeps.refl _ w).drewN 1).trans (u2.mono hF), u3⟩
  | false =>
    go_wp2_with (first | (go_at_call 71; go_loud (refine (refEncPut_any base g r c e _ _ _ _ HEd.out HG.out HOk.out (by omega)).mono ?_); rintro e5 w5 ⟨rfl, hpost⟩; have HP5 := Lib.hid hpost; obtain ⟨r3, c3, u1, u2, u3⟩ := hpost; have HR5 := Lib.hid (HRd.out.keeps u2 (by omega) (by omega)); clear u1 u2 u3) | (go_at_call 110; go_loud (refine (refLearn_any b2 mg mr l s _ HR5.out HL.out hs).mono ?_); rintro e6 w6 ⟨rfl, hm, hk6⟩; have HM6 := Lib.hid hm; have HK6 := Lib.hid hk6; clear hm hk6))
    go_end0
    obtain ⟨r3, c3, u1, u2, u3⟩ := HP5.out
    have hr3 := u1.lt
    refine ⟨rfl, r3, c3, u1.keeps HK6.out (by omega) ?_, HM6.out, (((Keeps.refl _ w).drewN 1).trans (u2.mono hF)).trans (HK6.out.mono fun k h => by omega), u3⟩
    intro hc
    have hsz : mr < w.heap.size := HR.out.lt.2.1
    rcases u3 with h | h
    · omega
    · have : w.heap.size ≤ r3 := h
      omega
theorem encSym_good {e : EncS} {l : List Int} {s : Nat} (hg : GoodE e) (hl : GoodL l) (hs : s < l.length) : GoodE (encSym e l s) := encPut_good hg (okP_sym hl hs)
theorem encSym_inside {e : EncS} {l : List Int} {s : Nat} (hg : GoodE e) (hl : GoodL l) (hs : s < l.length) : Inside e (encSym e l s) := encPut_inside hg (okP_sym hl hs)
theorem encSym_k (e : EncS) (l : List Int) (s : Nat) : (encSym e l s).k ≤ e.k + 2 := encPut_k e _ _ _
end Go.Proofs.YtmgfkdmjgjlkjaaGreat
