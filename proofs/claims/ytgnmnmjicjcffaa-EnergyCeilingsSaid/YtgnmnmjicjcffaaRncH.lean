/- What the functions of package rangeenc give: bits. -/
import Derived.Test.YtgnmnmjicjcffaaRncG
import Derived.Test.YtgnmnmjicjcffaaRngE
namespace Go.Proofs.Ytgnmnmjicjcffaa
open Go.RowKit
set_option linter.unusedVariables false

theorem rncBits_nil (n : Int) (wide : Int) (w : World) :
    Calls Try.prog 42 #[.pointer none, .int .u32 n, .int .i64 wide] w fun e w' => e = .returned (.int .i64 1) ∧ w = w' := by
  go_enter Try.func42, Try.ntmps42
  go_wp2
  go_ret
  exact ⟨rfl, rfl⟩
theorem rncBits_far (g : Nat) (n : Int) (wide : Int) (w : World) (h : wide < 0 ∨ 24 < wide) :
    Calls Try.prog 42 #[.pointer (some ⟨g, 0, none⟩), .int .u32 n, .int .i64 wide] w fun e w' => e = .returned (.int .i64 1) ∧ w = w' := by
  rcases h with h | h
  · have hd : decide (wide < 0) = true := by simpa using h
    go_enter Try.func42, Try.ntmps42
    go_wp2
    go_ret
    exact ⟨rfl, rfl⟩
  · have hd : decide (wide < 0) = false := by simp; omega
    have hd2 : decide (24 < wide) = true := by simpa using h
    go_enter Try.func42, Try.ntmps42
    go_wp2
    go_ret
    exact ⟨rfl, rfl⟩
theorem pow_P2 (k : Nat) : (2 : Int) ^ k = P2 k := rfl
theorem u32_mask {n : Int} {k : Nat} (n0 : 0 ≤ n) (n1 : n ≤ 4294967295) (hk : k ≤ 31) : bits .and .u32 n (P2 k - 1) = n % P2 k := by
  obtain ⟨m, rfl⟩ : ∃ m : Nat, n = m := ⟨n.toNat, by omega⟩
  have p := P2_pos k
  have q := P2_mono (a := k) (b := 31) hk
  rw [show P2 31 = 2147483648 by decide] at q
  have e : P2 k = ((2 ^ k : Nat) : Int) := by unfold P2; rw [Int.natCast_pow]; rfl
  have e2 : P2 k - 1 = ((2 ^ k - 1 : Nat) : Int) := by
    rw [e] at p ⊢
    omega
  have h2 : 2 ^ k - 1 < 4294967296 := by
    rw [e] at q
    omega
  rw [e2, u32_and_nat m (2 ^ k - 1) (by omega) h2, Nat.and_two_pow_sub_one_eq_mod, e, Int.natCast_emod]
theorem encBits_mod (e : EncS) (n : Int) {k : Nat} (hk : k ≤ 12) : encBits e (n % P2 k) k = encBits e n k := by
  by_cases h : k = 0
  · subst h; rfl
  · rw [encBits_low _ _ (by omega) hk, encBits_low _ _ (by omega) hk, Int.emod_emod]
theorem rncBits_over (g : Nat) (n : Int) (wide : Nat) (w : World) (n0 : 0 ≤ n) (n1 : n ≤ 4294967295) (hw : wide ≤ 24) (h : P2 wide ≤ n) :
    Calls Try.prog 42 #[.pointer (some ⟨g, 0, none⟩), .int .u32 n, .int .i64 wide] w fun e w' => e = .returned (.int .i64 1) ∧ w = w' := by
  have hd : decide ((wide : Int) < 0) = false := by simp <;> omega
  have hd2 : decide (24 < (wide : Int)) = false := by simp; omega
  have hq : (n / 2 ^ wide != 0) = true := by
    rw [pow_P2]
    have p := P2_pos wide
    have : 1 ≤ n / P2 wide := by rw [Int.le_ediv_iff_mul_le (by omega)]; omega
    simp; omega
  go_enter Try.func42, Try.ntmps42
  go_wp2
  go_ret
  exact ⟨rfl, rfl⟩
set_option maxRecDepth 100000 in
theorem rncBits_any (base g : Nat) (v : Value) (e : EncS) (n : Int) (wide : Nat) (w : World) (hE : EncAt w base g v e) (hG : GoodE e) (n0 : 0 ≤ n) (n1 : n ≤ 4294967295) (hw : wide ≤ 24) (h : n < P2 wide) (hk : e.k ≤ 800000) :
    Calls Try.prog 42 #[.pointer (some ⟨g, 0, none⟩), .int .u32 n, .int .i64 wide] w (PutPost base g v (encBits e n wide) (.int .i64 0) w) := by
  have hd : decide ((wide : Int) < 0) = false := by simp <;> omega
  have hd2 : decide (24 < (wide : Int)) = false := by simp; omega
  have hq : n / 2 ^ wide = 0 := by rw [pow_P2]; exact Int.ediv_eq_zero_of_lt n0 h
  have HE := Lib.hid hE
  have HG := Lib.hid hG
  clear hE hG
  go_enter Try.func42, Try.ntmps42
  go_wp2
  clear hd hd2 hq
  go_loopw [1, 2, 7] (fun m d _ wr => ∃ (q : Nat) (n2 : Int) (f : EncS) (v2 : Value), q ≤ wide ∧ d = .int .i64 q ∧ m = .int .u32 n2 ∧ 0 ≤ n2 ∧ n2 ≤ 4294967295 ∧ n2 < P2 q ∧ f.k ≤ e.k + 3 * (wide - q) ∧ RowKit.Hid (encBits f n2 q = encBits e n wide ∧ GoodE f ∧ EncAt wr base g v2 f ∧ Keeps (fun j => j = g ∨ v.ownBlock = some j) w wr ∧ (∀ j, v2.ownBlock = some j → v.ownBlock = some j ∨ w.heap.size ≤ j))) (fun _ d _ _ => (intOf d).toNat)
  case atStart => exact ⟨wide, n, e, v, Nat.le_refl _, rfl, rfl, n0, n1, h, by omega, rfl, HG.out, HE.out, Keeps.refl _ _, fun j hj => .inl hj⟩
  case round =>
    obtain ⟨q, n2, f, v2, hq, rfl, rfl, m0, m1, m2, hf, H⟩ := hrel
    clear HE
    by_cases hlt : 0 < q
    · by_cases hq12 : 12 < q
      · obtain ⟨lo, hlo⟩ : ∃ lo, q = lo + 12 := ⟨q - 12, by omega⟩
        subst hlo
        obtain ⟨s1, s2, s3, s4, s5⟩ := H.out
        have HM : RowKit.Hid (EncAt wr.drew base g v2 f) := s3
        have HGf := Lib.hid s2
        have pl := P2_pos lo
        have p12 : P2 (lo + 12) = P2 lo * 4096 := by unfold P2; rw [Int.pow_add]; rfl
        have x0 : 0 ≤ n2 / 2 ^ lo := by rw [pow_P2]; exact Int.ediv_nonneg m0 (by omega)
        have x1 : n2 / 2 ^ lo < 4096 := by rw [pow_P2, Int.ediv_lt_iff_lt_mul (by omega), Int.mul_comm, ← p12]; exact m2
        have xe : n2 / P2 lo % 4096 = n2 / 2 ^ lo := by rw [← pow_P2, Int.emod_eq_of_lt x0 x1]
        have HOk : RowKit.Hid (OkP (n2 / 2 ^ lo) 1 4096) := ⟨by decide, by decide, by decide, x0, by omega⟩
        have HEq : RowKit.Hid (encBits (encPut f (n2 / 2 ^ lo) 1 4096) (n2 % P2 lo) lo = encBits e n wide) := by
          show _ = _
          rw [encBits_mod _ _ (by omega), ← s1, encBits_high f n2 hq12 (by omega), show lo + 12 - 12 = lo by omega, xe]
        have hk1 : f.k ≤ 900000 := by omega
        obtain ⟨y0, y1⟩ := bit_part n2 (k := lo)
        have ylt : P2 lo ≤ 4096 := by have := P2_mono (a := lo) (b := 12) (by omega); rw [show P2 12 = 4096 by decide] at this; exact this
        have hmask : bits .and .u32 n2 ((2 ^ lo - 1) % 4294967296) = n2 % P2 lo := by
          rw [show (2 : Int) ^ lo - 1 = P2 lo - 1 from rfl, Int.emod_eq_of_lt (by omega) (by omega)]; exact u32_mask m0 m1 (by omega)
        have h4096 : IntKind.u32.wrap 4096 = 4096 := by decide
        clear p12 xe x0 x1
        go_wp2
        go_still_tail 7, (by kernel_rfl)
        repeat still_step
        change wpList _ _ _ _ _ wr.drew
        go_wp2_with (go_at_call 56; ((with_reducible refine (rncPut_any base g v2 f (n2 / 2 ^ lo) 1 4096 _ HM.out HGf.out HOk.out hk1).mono ?_)); rintro e5 w5 ⟨rfl, hpost⟩; have HP5 := Lib.hid hpost; clear hpost)
        go_roundw
        case rel =>
          obtain ⟨v5, u1, u2, u3⟩ := HP5.out
          have hk2 := encPut_k f (n2 / 2 ^ lo) 1 4096
          refine ⟨lo, n2 % P2 lo, encPut f (n2 / 2 ^ lo) 1 4096, v5, by omega, rfl, rfl, y0, by omega, y1, by omega, HEq.out, encPut_good HGf.out HOk.out, u1, (s4.drewN 1).then_ u2 ?_, ?_⟩
          · rintro j (hj | hj)
            · exact .inl (.inl hj)
            · rcases s5 j hj with h | h
              · exact .inl (.inr h)
              · exact .inr h
          · intro j hj
            rcases u3 j hj with h | h
            · exact s5 j h
            · have := s4.size
              have h' : wr.heap.size ≤ j := h
              exact .inr (by omega)
        case measure => simp [intOf] <;> omega
      · obtain ⟨s1, s2, s3, s4, s5⟩ := H.out
        have HM : RowKit.Hid (EncAt wr.drew base g v2 f) := s3
        have HGf := Lib.hid s2
        have pl := P2_pos q
        have ql := P2_mono (a := q) (b := 12) (by omega)
        rw [show P2 12 = 4096 by decide] at ql
        have HOk : RowKit.Hid (OkP n2 1 (P2 q)) := okP_bit (by omega) m0 m2
        have HEq : RowKit.Hid (encPut f n2 1 (P2 q) = encBits e n wide) := by
          show _ = _
          rw [← s1, encBits_low f n2 hlt (by omega), Int.emod_eq_of_lt m0 m2]
        have hk1 : f.k ≤ 900000 := by omega
        have hpq : IntKind.u32.wrap (2 ^ q) = P2 q := IntWalk.u32_in _ (by rw [pow_P2]; omega)
        have hmin : min (q : Int) 12 = q := by omega
        have hm0 : bits .and .u32 n2 0 = 0 := by
          have := u32_mask (k := 0) m0 m1 (by omega)
          rw [show P2 0 - 1 = 0 by decide, show P2 0 = 1 by decide] at this
          rw [this]; omega
        clear ql
        go_wp2
        go_still_tail 7, (by kernel_rfl)
        repeat still_step
        change wpList _ _ _ _ _ wr.drew
        go_wp2_with (go_at_call 56; ((with_reducible refine (rncPut_any base g v2 f n2 1 (P2 q) _ HM.out HGf.out HOk.out hk1).mono ?_)); rintro e5 w5 ⟨rfl, hpost⟩; have HP5 := Lib.hid hpost; clear hpost)
        go_roundw
        case rel =>
          obtain ⟨v5, u1, u2, u3⟩ := HP5.out
          have hk2 := encPut_k f n2 1 (P2 q)
          refine ⟨0, 0, encPut f n2 1 (P2 q), v5, by omega, rfl, rfl, by omega, by omega, by decide, by omega, HEq.out, encPut_good HGf.out HOk.out, u1, (s4.drewN 1).then_ u2 ?_, ?_⟩
          · rintro j (hj | hj)
            · exact .inl (.inl hj)
            · rcases s5 j hj with h | h
              · exact .inl (.inr h)
              · exact .inr h
          · intro j hj
            rcases u3 j hj with h | h
            · exact s5 j h
            · have := s4.size
              have h' : wr.heap.size ≤ j := h
              exact .inr (by omega)
        case measure => simp [intOf] <;> omega
    · obtain rfl : q = 0 := by omega
      go_wp2
      go_ret
      obtain ⟨h1, h2, h3, h4, h5⟩ := H.out
      rw [encBits_zero] at h1
      subst h1
      exact ⟨rfl, v2, h3, h4, h5⟩
end Go.Proofs.Ytgnmnmjicjcffaa
