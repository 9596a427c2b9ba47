/- What the document's encoder of layer 6 gives: bits. -/
import Derived.Test.YtgnmnmjicjcffaaRngR
import Derived.StillTailTactics
namespace Go.Proofs.Ytgnmnmjicjcffaa
open Go.RowKit
set_option linter.unusedVariables false

theorem refPower_any (k : Nat) (w : World) (hk : k ≤ 60) :
    Calls Try.prog 48 #[.int .i64 k] w fun x w' => x = .returned (.int .i64 (P2 k)) ∧ w = w' := by
  go_enter Try.func48, Try.ntmps48
  go_wp2
  go_loop [3, 4] (fun n i => ∃ j : Nat, j ≤ k ∧ i = .int .i64 j ∧ n = .int .i64 (P2 j)) (fun _ i => k - (intOf i).toNat)
  case atStart => exact ⟨0, by omega, rfl, rfl⟩
  case round =>
    obtain ⟨j, hj, rfl, rfl⟩ := hrel
    have p := P2_pos j
    by_cases hlt : j < k
    · have q := P2_le61 (k := j) (by omega)
      go_wp2
      go_round
      case rel => exact ⟨j + 1, by omega, by go_num, by rw [P2_succ]⟩
      case measure => simp [intOf] <;> omega
    · obtain rfl : j = k := by omega
      go_wp2
      go_ret
      exact ⟨rfl, rfl⟩
theorem refPower_at (k : Nat) (i : Int) (w : World) (hi : i = k) (hk : k ≤ 60) :
    Calls Try.prog 48 #[.int .i64 i] w fun x w' => x = .returned (.int .i64 (P2 k)) ∧ w = w' := by
  subst hi; exact refPower_any k w hk

/-- A number of so many bits, the highest twelve first. -/
def encBits (e : EncS) (n : Int) (wide : Nat) : EncS :=
  if wide = 0 then e else if wide ≤ 12 then encPut e (n % P2 wide) 1 (P2 wide) else
    let f := encPut e (n / P2 (wide - 12) % 4096) 1 4096
    if wide ≤ 24 then encPut f (n % P2 (wide - 12)) 1 (P2 (wide - 12)) else f
theorem encBits_zero (e : EncS) (n : Int) : encBits e n 0 = e := rfl
theorem encBits_low (e : EncS) (n : Int) {wide : Nat} (h0 : 0 < wide) (h1 : wide ≤ 12) : encBits e n wide = encPut e (n % P2 wide) 1 (P2 wide) := by
  unfold encBits; rw [if_neg (by omega), if_pos h1]
theorem encBits_high (e : EncS) (n : Int) {wide : Nat} (h0 : 12 < wide) (h1 : wide ≤ 24) : encBits e n wide = encBits (encPut e (n / P2 (wide - 12) % 4096) 1 4096) n (wide - 12) := by
  rw [encBits_low _ _ (show 0 < wide - 12 by omega) (by omega)]
  unfold encBits; rw [if_neg (by omega), if_neg (by omega), if_pos h1]
theorem okP_bit {x : Int} {k : Nat} (h : k ≤ 12) (h0 : 0 ≤ x) (h1 : x < P2 k) : OkP x 1 (P2 k) := by
  have p := P2_pos k
  have q := P2_mono (a := k) (b := 12) h
  rw [show P2 12 = 4096 by decide] at q
  exact ⟨p, by omega, by omega, h0, by omega⟩
theorem bit_part (n : Int) {k : Nat} : 0 ≤ n % P2 k ∧ n % P2 k < P2 k := by
  have p := P2_pos k
  exact ⟨Int.emod_nonneg _ (by omega), Int.emod_lt_of_pos _ (by omega)⟩

set_option maxRecDepth 100000 in
theorem refEncBits_any (base g r c : Nat) (e : EncS) (n : Int) (wide : Nat) (w : World) (hE : EncMem w base g r c (digL e.n (e.k + 4)) e.s e.k) (hG : GoodE e) (hk : e.k ≤ 900000) (hw : wide ≤ 24) (n0 : 0 ≤ n) (n1 : n ≤ 4294967295) :
    Calls Try.prog 32 #[.pointer (some ⟨g, 0, none⟩), .int .i64 n, .int .i64 wide] w (EncPost base g r (encBits e n wide) w) := by
  have H0 : RowKit.Hid (EncMem w base g r c (digL e.n (e.k + 4)) e.s e.k ∧ GoodE e) := ⟨hE, hG⟩
  clear hE hG
  go_enter Try.func32, Try.ntmps32
  go_wp2
  go_loopw [2, 6] (fun d _ wr => ∃ (q : Nat) (f : EncS), q ≤ wide ∧ d = .int .i64 q ∧ f.k ≤ e.k + 3 * (wide - q) ∧ RowKit.Hid (encBits f n q = encBits e n wide ∧ GoodE f ∧ ∃ r2 c2, EncMem wr base g r2 c2 (digL f.n (f.k + 4)) f.s f.k ∧ Keeps (fun j => j = g ∨ j = r) w wr ∧ (r2 = r ∨ w.heap.size ≤ r2))) (fun d _ _ => (intOf d).toNat)
  case atStart => exact ⟨wide, e, by omega, rfl, by omega, rfl, H0.out.2, r, c, H0.out.1, Keeps.refl _ _, .inl rfl⟩
  case round =>
    obtain ⟨q, f, hq, rfl, hf, H⟩ := hrel
    clear H0
    by_cases hlt : 0 < q
    · by_cases hq12 : 12 < q
      · obtain ⟨s1, s2, r2, c2, s3, s4, s5⟩ := H.out
        have HM : RowKit.Hid (EncMem wr.drew base g r2 c2 (digL f.n (f.k + 4)) f.s f.k) := s3
        have HGf := Lib.hid s2
        obtain ⟨lo, hlo⟩ : ∃ lo, lo + 12 = q := ⟨q - 12, by omega⟩
        have pl := P2_pos lo
        have ql := P2_le61 (k := lo) (by omega)
        have x0 : 0 ≤ n / P2 lo := Int.ediv_nonneg n0 (by omega)
        have x1 : n / P2 lo ≤ n := Int.ediv_le_self _ n0
        have y0 := Int.emod_nonneg (n / P2 lo) (b := 4096) (by decide)
        have y1 := Int.emod_lt_of_pos (n / P2 lo) (b := 4096) (by decide)
        have d1 : n.tdiv (P2 lo) = n / P2 lo := Int.tdiv_eq_ediv_of_nonneg n0
        have d2 : ¬ P2 lo = 0 := by omega
        have d3 : P2 12 = 4096 := by decide
        have d4 : (n / P2 lo).tmod 4096 = n / P2 lo % 4096 := Int.tmod_eq_emod_of_nonneg x0
        have d5 : IntKind.i64.wrap (n / P2 lo) = n / P2 lo := IntWalk.i64_in _ (by omega)
        have d6 : IntKind.i64.wrap (n / P2 lo % 4096) = n / P2 lo % 4096 := IntWalk.i64_in _ (by omega)
        have HOk : RowKit.Hid (OkP (n / P2 lo % 4096) 1 4096) := ⟨by decide, by decide, by decide, y0, by omega⟩
        go_wp2
        go_still_tail 10, (by kernel_rfl)
        still_call ((refPower_at lo _ _ (by omega) (by omega)).mono fun _ _ h => ⟨h.1, h.2.symm⟩)
        repeat still_step
        still_call ((refPower_at 12 _ _ (by omega) (by omega)).mono fun _ _ h => ⟨h.1, h.2.symm⟩)
        repeat still_step
        still_call ((refPower_at 12 _ _ (by omega) (by omega)).mono fun _ _ h => ⟨h.1, h.2.symm⟩)
        refine wpStill_nil ?_
        change wpList _ _ _ _ _ wr.drew
        clear d1 d2 d3 d4 d5 d6
        go_wp2_with (go_at_call 47; go_loud (refine (refEncPut_any base g r2 c2 f (n / P2 lo % 4096) 1 4096 _ HM.out HGf.out HOk.out (by omega)).mono ?_); rintro e5 w5 ⟨rfl, hpost⟩; have HP5 := Lib.hid hpost; clear hpost)
        go_roundw
        case rel =>
          obtain ⟨r3, c3, u1, u2, u3⟩ := HP5.out
          have hk2 := encPut_k f (n / P2 lo % 4096) 1 4096
          refine ⟨lo, encPut f (n / P2 lo % 4096) 1 4096, by omega, by go_num, by omega, by rw [← s1, encBits_high f n hq12 (by omega), show q - 12 = lo by omega], encPut_good HGf.out HOk.out, r3, c3, u1, ?_, ?_⟩
          · refine (s4.drewN 1).then_ u2 ?_
            rintro j (hj | hj)
            · exact .inl (.inl hj)
            · rcases s5 with h | h
              · exact .inl (.inr (by omega))
              · exact .inr (by omega)
          · have := s4.size
            have h5 : r3 = r2 ∨ wr.heap.size ≤ r3 := u3
            rcases h5 with h | h
            · rcases s5 with h' | h'
              · exact .inl (by omega)
              · exact .inr (by omega)
            · exact .inr (by omega)
        case measure => simp [intOf] <;> omega
      · obtain ⟨s1, s2, r2, c2, s3, s4, s5⟩ := H.out
        have HM : RowKit.Hid (EncMem wr.drew base g r2 c2 (digL f.n (f.k + 4)) f.s f.k) := s3
        have HGf := Lib.hid s2
        have pl := P2_pos q
        have ql := P2_mono (a := q) (b := 12) (by omega)
        rw [show P2 12 = 4096 by decide] at ql
        have y := bit_part n (k := q)
        obtain ⟨y0, y1⟩ := y
        have d1 : n.tdiv 1 = n := Int.tdiv_one n
        have d2 : ¬ P2 q = 0 := by omega
        have d3 : P2 0 = 1 := by decide
        have d4 : n.tmod (P2 q) = n % P2 q := Int.tmod_eq_emod_of_nonneg n0
        have d5 : IntKind.i64.wrap n = n := IntWalk.i64_in _ (by omega)
        have d6 : IntKind.i64.wrap (n % P2 q) = n % P2 q := IntWalk.i64_in _ (by omega)
        have HOk : RowKit.Hid (OkP (n % P2 q) 1 (P2 q)) := okP_bit (by omega) y0 y1
        go_wp2
        go_still_tail 10, (by kernel_rfl)
        still_call ((refPower_at 0 _ _ (by omega) (by omega)).mono fun _ _ h => ⟨h.1, h.2.symm⟩)
        repeat still_step
        still_call ((refPower_at q _ _ (by omega) (by omega)).mono fun _ _ h => ⟨h.1, h.2.symm⟩)
        repeat still_step
        still_call ((refPower_at q _ _ (by omega) (by omega)).mono fun _ _ h => ⟨h.1, h.2.symm⟩)
        refine wpStill_nil ?_
        change wpList _ _ _ _ _ wr.drew
        clear d1 d2 d3 d4 d5 d6
        go_wp2_with (go_at_call 47; go_loud (refine (refEncPut_any base g r2 c2 f (n % P2 q) 1 (P2 q) _ HM.out HGf.out HOk.out (by omega)).mono ?_); rintro e5 w5 ⟨rfl, hpost⟩; have HP5 := Lib.hid hpost; clear hpost)
        go_roundw
        case rel =>
          obtain ⟨r3, c3, u1, u2, u3⟩ := HP5.out
          have hk2 := encPut_k f (n % P2 q) 1 (P2 q)
          refine ⟨0, encPut f (n % P2 q) 1 (P2 q), by omega, by go_num, by omega, by rw [← s1, encBits_low f n hlt (by omega), encBits_zero], encPut_good HGf.out HOk.out, r3, c3, u1, ?_, ?_⟩
          · refine (s4.drewN 1).then_ u2 ?_
            rintro j (hj | hj)
            · exact .inl (.inl hj)
            · rcases s5 with h | h
              · exact .inl (.inr (by omega))
              · exact .inr (by omega)
          · have := s4.size
            have h5 : r3 = r2 ∨ wr.heap.size ≤ r3 := u3
            rcases h5 with h | h
            · rcases s5 with h' | h'
              · exact .inl (by omega)
              · exact .inr (by omega)
            · exact .inr (by omega)
        case measure => simp [intOf] <;> omega
    · obtain rfl : q = 0 := by omega
      go_wp2
      go_end0
      obtain ⟨h1, h2, r2, c2, h3, h4, h5⟩ := H.out
      rw [encBits_zero] at h1
      subst h1
      exact ⟨rfl, r2, c2, h3, h4, h5⟩
theorem okP_12 (n : Int) : OkP (n % 4096) 1 4096 := ⟨by decide, by decide, by decide, by omega, by omega⟩
theorem encBits_good {e : EncS} {n : Int} {wide : Nat} (hg : GoodE e) (hw : wide ≤ 24) : GoodE (encBits e n wide) := by
  by_cases h0 : wide = 0
  · subst h0; exact hg
  · by_cases h1 : wide ≤ 12
    · rw [encBits_low e n (by omega) h1]
      exact encPut_good hg (okP_bit h1 (bit_part n).1 (bit_part n).2)
    · rw [encBits_high e n (by omega) hw, encBits_low _ n (by omega) (by omega)]
      exact encPut_good (encPut_good hg (okP_12 _)) (okP_bit (by omega) (bit_part n).1 (bit_part n).2)
theorem encBits_inside {e : EncS} {n : Int} {wide : Nat} (hg : GoodE e) (hw : wide ≤ 24) : Inside e (encBits e n wide) := by
  by_cases h0 : wide = 0
  · subst h0; exact Inside.refl e
  · by_cases h1 : wide ≤ 12
    · rw [encBits_low e n (by omega) h1]
      exact encPut_inside hg (okP_bit h1 (bit_part n).1 (bit_part n).2)
    · rw [encBits_high e n (by omega) hw, encBits_low _ n (by omega) (by omega)]
      exact (encPut_inside hg (okP_12 _)).trans (encPut_inside (encPut_good hg (okP_12 _)) (okP_bit (by omega) (bit_part n).1 (bit_part n).2))
theorem encBits_k (e : EncS) (n : Int) {wide : Nat} (hw : wide ≤ 24) : (encBits e n wide).k ≤ e.k + 4 := by
  by_cases h0 : wide = 0
  · subst h0; rw [encBits_zero]; omega
  · by_cases h1 : wide ≤ 12
    · rw [encBits_low e n (by omega) h1]
      have := encPut_k e (n % P2 wide) 1 (P2 wide)
      omega
    · rw [encBits_high e n (by omega) hw, encBits_low _ n (by omega) (by omega)]
      have a := encPut_k e (n / P2 (wide - 12) % 4096) 1 4096
      have b := encPut_k (encPut e (n / P2 (wide - 12) % 4096) 1 4096) (n % P2 (wide - 12)) 1 (P2 (wide - 12))
      omega
end Go.Proofs.Ytgnmnmjicjcffaa
