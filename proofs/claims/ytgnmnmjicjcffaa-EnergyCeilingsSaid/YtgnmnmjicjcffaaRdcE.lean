/- What the functions of package rangedec give: bits. -/
import Derived.Test.YtgnmnmjicjcffaaRdcD
namespace Go.Proofs.Ytgnmnmjicjcffaa
open Go.RowKit
set_option linter.unusedVariables false

theorem drcBits_nil (wide : Int) (w : World) :
    Calls Try.prog 60 #[.pointer none, .int .i64 wide] w fun e w' => e = .returned (.tuple #[.int .u32 0, .int .i64 1]) ∧ w = w' := by
  go_enter Try.func60, Try.ntmps60
  go_wp2
  exact bodyPost_ret (v := .tuple #[.int .u32 0, .int .i64 1]) (by simp [results, Try.results60, go_sem]) rfl ⟨rfl, rfl⟩
theorem drcBits_far (g : Nat) (wide : Int) (w : World) (h : wide < 0 ∨ 24 < wide) :
    Calls Try.prog 60 #[.pointer (some ⟨g, 0, none⟩), .int .i64 wide] w fun e w' => e = .returned (.tuple #[.int .u32 0, .int .i64 1]) ∧ w = w' := by
  rcases h with h | h
  · have d1 : decide (wide < 0) = true := by simpa using h
    go_enter Try.func60, Try.ntmps60
    go_wp2
    exact bodyPost_ret (v := .tuple #[.int .u32 0, .int .i64 1]) (by simp [results, Try.results60, go_sem]) rfl ⟨rfl, rfl⟩
  · have d1 : decide (wide < 0) = false := by simp; omega
    have d2 : decide (24 < wide) = true := by simpa using h
    go_enter Try.func60, Try.ntmps60
    go_wp2
    exact bodyPost_ret (v := .tuple #[.int .u32 0, .int .i64 1]) (by simp [results, Try.results60, go_sem]) rfl ⟨rfl, rfl⟩
def DrcBitsPost (base g : Nat) (v : Value) (b : List Int) (n : Int) (d : DecS) (w : World) (x : Ending) (w' : World) : Prop :=
  x = .returned (.tuple #[.int .u32 n, .int .i64 0]) ∧ DrcAt w' base g v b d ∧ Keeps (fun j => j = g) w w'

set_option maxHeartbeats 1000000 in
set_option maxRecDepth 100000 in
theorem drcBits_any (base g : Nat) (v : Value) (b : List Int) (d : DecS) (wide : Nat) (w : World) (hD : DrcAt w base g v b d) (hb : ∀ j, 0 ≤ byteF b j ∧ byteF b j ≤ 255) (hbl : b.length ≤ 1000000) (hi : d.i ≤ 4000000) (hG : GoodD d) (hw : wide ≤ 24) :
    Calls Try.prog 60 #[.pointer (some ⟨g, 0, none⟩), .int .i64 wide] w (DrcBitsPost base g v b (decBits b d 0 wide).1 (decBits b d 0 wide).2 w) := by
  have hd : decide ((wide : Int) < 0) = false := by simp <;> omega
  have hd2 : decide (24 < (wide : Int)) = false := by simp; omega
  have HBy := Lib.hid hb
  obtain ⟨R, hR⟩ : ∃ R, R = decBits b d 0 wide := ⟨_, rfl⟩
  rw [← hR]
  have H0 : RowKit.Hid (decBits b d 0 wide = R ∧ GoodD d ∧ DrcAt w base g v b d ∧ Keeps (fun j => j = g) w w ∧ (0 : Int) < P2 (wide - wide)) := ⟨hR.symm, hG, hD, Keeps.refl _ _, by rw [Nat.sub_self]; decide⟩
  clear hD hG hb hR
  go_enter Try.func60, Try.ntmps60
  go_wp2
  clear hd hd2
  go_loopw [1, 6, 7, 8] (fun q n _ _ wr => ∃ (k : Nat) (f : DecS) (m : Int), k ≤ wide ∧ q = .int .i64 k ∧ n = .int .u32 m ∧ 0 ≤ m ∧ f.i ≤ d.i + 3 * (wide - k) ∧ RowKit.Hid (decBits b f m k = R ∧ GoodD f ∧ DrcAt wr base g v b f ∧ Keeps (fun j => j = g) w wr ∧ m < P2 (wide - k))) (fun q _ _ _ _ => (intOf q).toNat)
  case atStart => exact ⟨wide, d, 0, by omega, rfl, rfl, by omega, by omega, H0.out⟩
  case round =>
    obtain ⟨k, f, m, hk, rfl, rfl, hm0, hfi, H⟩ := hrel
    clear H0
    obtain ⟨u1, u2, u3, u4, u5⟩ := H.out
    have HM := Lib.hid u3
    have HGf := Lib.hid u2
    by_cases hlt : 0 < k
    · by_cases hq12 : 12 < k
      · obtain ⟨lo, hlo⟩ : ∃ lo, k = lo + 12 := ⟨k - 12, by omega⟩
        subst hlo
        have hm1 : m ≤ 4095 := by
          have := P2_mono (a := wide - (lo + 12)) (b := 12) (by omega)
          rw [show P2 12 = 4096 by decide] at this
          omega
        obtain ⟨a0, a1, a2⟩ := decAt_bd HGf.out (show (1 : Int) ≤ 4096 by decide) (by decide)
        have HOk : RowKit.Hid (OkP (decAt f 4096) 1 4096) := ⟨by decide, by decide, by decide, a0, by omega⟩
        have HLow := Lib.hid a2
        have HE : RowKit.Hid (decBits b f m (lo + 12) = decBits b (decTake (byteF b) f (decAt f 4096) 1 4096) (m * 4096 + decAt f 4096) lo) := by
          have := decBits_high b f m hq12 (by omega)
          rw [Nat.add_sub_cancel] at this; exact this
        have HT := Lib.hid (decTake_good HBy.out HGf.out HOk.out HLow.out).1
        have HI := Lib.hid (decTake_i (byteF b) f (decAt f 4096) 1 4096)
        have hq5 := u5
        clear a2 u1 u2 u3 u4 u5
        have HP : RowKit.Hid (m * 4096 + decAt f 4096 < P2 (wide - lo)) := by
          show _ < _
          rw [show wide - lo = (wide - (lo + 12)) + 12 by omega, P2_add, show P2 12 = 4096 by decide]; omega
        have HTk : RowKit.Hid (∀ w2, DrcAt w2 base g v b f → Calls Try.prog 70 #[.pointer (some ⟨g, 0, none⟩), .agg #[.int .u32 (decAt f 4096), .int .u32 1, .int .u32 4096]] w2 (DrcPost base g v b (decTake (byteF b) f (decAt f 4096) 1 4096) w2)) :=
          fun w2 h2 => drcTake_any base g v b f _ 1 4096 w2 h2 HBy.out hbl (by omega) HGf.out HOk.out HLow.out
        have HLi : RowKit.Hid (∀ w2, DrcAt w2 base g v b f → Calls Try.prog 69 #[.pointer (some ⟨g, 0, none⟩), .int .u32 4096] w2 fun x w' => x = .returned (.int .u32 (decAt f 4096)) ∧ w2 = w') :=
          fun w2 h2 => drcLies_any base g v b f 4096 w2 h2 HGf.out (by decide) (by decide)
        generalize decTake (byteF b) f (decAt f 4096) 1 4096 = f2 at HE HT HI HTk
        generalize decAt f 4096 = x at a0 a1 HE HI HP HTk HLi HOk HLow
        have hor : bits .or .u32 (m * 4096) x = m * 4096 + x := u32_or_low (k := 12) hm0 a0 (show x < 4096 by omega) (show m * 4096 + 4096 ≤ 4294967296 by omega)
        have f1 : IntKind.u32.wrap (m * 4096) = m * 4096 := IntWalk.u32_in _ (by omega)
        have f2_ : IntKind.u32.wrap 4096 = 4096 := by decide
        clear HOk HLow
        go_wp2_with (first
          | (go_at_call 69; go_loud (with_reducible refine (HLi.out _ HM.out).mono ?_); rintro e2 w2 ⟨rfl, rfl⟩)
          | (go_at_call 70; go_loud (with_reducible refine (HTk.out _ HM.out).mono ?_); rintro e5 w5 ⟨rfl, hm, hk⟩; have HM5 := Lib.hid hm; have HK5 := Lib.hid hk; clear hm hk))
        go_roundw
        case rel => exact ⟨lo, f2, m * 4096 + x, by omega, rfl, rfl, by omega, by have := HI.out; omega, HE.out.symm.trans H.out.1, HT.out, HM5.out, H.out.2.2.2.1.trans HK5.out, HP.out⟩
        case measure => simp [intOf] <;> omega
      · have pk := P2_pos k
        have qk := P2_mono (a := k) (b := 12) (by omega)
        rw [show P2 12 = 4096 by decide] at qk
        have hm1 : m * P2 k + P2 k ≤ 16777216 := by
          have h1 : (m + 1) * P2 k ≤ P2 (wide - k) * P2 k := Int.mul_le_mul_of_nonneg_right (by omega) (by omega)
          rw [← P2_add, show wide - k + k = wide by omega, Int.add_mul, Int.one_mul] at h1
          have := P2_mono (a := wide) (b := 24) hw
          rw [show P2 24 = 16777216 by decide] at this
          omega
        have hm2 : 0 ≤ m * P2 k := Int.mul_nonneg hm0 (by omega)
        obtain ⟨a0, a1, a2⟩ := decAt_bd HGf.out (show 1 ≤ P2 k by omega) (show P2 k ≤ 8192 by omega)
        have HOk : RowKit.Hid (OkP (decAt f (P2 k)) 1 (P2 k)) := ⟨by omega, by omega, by decide, a0, by omega⟩
        have HLow := Lib.hid a2
        have HE : RowKit.Hid (decBits b f m k = (m * P2 k + decAt f (P2 k), decTake (byteF b) f (decAt f (P2 k)) 1 (P2 k))) := decBits_low b f m hlt (by omega)
        have HT := Lib.hid (decTake_good HBy.out HGf.out HOk.out HLow.out).1
        have HI := Lib.hid (decTake_i (byteF b) f (decAt f (P2 k)) 1 (P2 k))
        have hq5 := u5
        clear a2 u1 u2 u3 u4 u5
        have HP : RowKit.Hid (m * P2 k + decAt f (P2 k) < P2 wide) := by
          show _ < _
          have h1 : (m + 1) * P2 k ≤ P2 (wide - k) * P2 k := Int.mul_le_mul_of_nonneg_right (by omega) (by omega)
          rw [← P2_add, show wide - k + k = wide by omega, Int.add_mul, Int.one_mul] at h1
          omega
        have HTk : RowKit.Hid (∀ w2, DrcAt w2 base g v b f → Calls Try.prog 70 #[.pointer (some ⟨g, 0, none⟩), .agg #[.int .u32 (decAt f (P2 k)), .int .u32 1, .int .u32 (P2 k)]] w2 (DrcPost base g v b (decTake (byteF b) f (decAt f (P2 k)) 1 (P2 k)) w2)) :=
          fun w2 h2 => drcTake_any base g v b f _ 1 _ w2 h2 HBy.out hbl (by omega) HGf.out HOk.out HLow.out
        have HLi : RowKit.Hid (∀ w2, DrcAt w2 base g v b f → Calls Try.prog 69 #[.pointer (some ⟨g, 0, none⟩), .int .u32 (P2 k)] w2 fun x w' => x = .returned (.int .u32 (decAt f (P2 k))) ∧ w2 = w') :=
          fun w2 h2 => drcLies_any base g v b f _ w2 h2 HGf.out (by omega) (by omega)
        generalize decTake (byteF b) f (decAt f (P2 k)) 1 (P2 k) = f2 at HE HT HI HTk
        generalize decAt f (P2 k) = x at a0 a1 HE HI HP HTk HLi HOk HLow
        have hor : bits .or .u32 (m * P2 k) x = m * P2 k + x := u32_or_low hm0 a0 a1 (by omega)
        have hpq : IntKind.u32.wrap (2 ^ k) = P2 k := IntWalk.u32_in _ (by rw [pow_P2]; omega)
        have hpm : IntKind.u32.wrap (m * 2 ^ k) = m * P2 k := IntWalk.u32_in _ (by rw [pow_P2]; omega)
        have hmin : min (k : Int) 12 = k := by omega
        clear HOk HLow
        go_wp2_with (first
          | (go_at_call 69; go_loud (with_reducible refine (HLi.out _ HM.out).mono ?_); rintro e2 w2 ⟨rfl, rfl⟩)
          | (go_at_call 70; go_loud (with_reducible refine (HTk.out _ HM.out).mono ?_); rintro e5 w5 ⟨rfl, hm, hk⟩; have HM5 := Lib.hid hm; have HK5 := Lib.hid hk; clear hm hk))
        go_roundw
        case rel => exact ⟨0, f2, m * P2 k + x, by omega, rfl, rfl, by omega, by have := HI.out; omega, by rw [decBits_zero]; exact HE.out.symm.trans H.out.1, HT.out, HM5.out, H.out.2.2.2.1.trans HK5.out, HP.out⟩
        case measure => simp [intOf] <;> omega
    · obtain rfl : k = 0 := by omega
      go_wp2
      rw [decBits_zero] at u1
      subst u1
      exact bodyPost_ret (v := .tuple #[.int .u32 m, .int .i64 0]) (by simp [results, Try.results60, go_sem]) rfl ⟨rfl, u3, u4⟩
end Go.Proofs.Ytgnmnmjicjcffaa
