/- What the functions of package rangeenc give: a part that may be is put. -/
import Derived.Test.YtgnmnmjicjcffaaRncF
namespace Go.Proofs.Ytgnmnmjicjcffaa
open Go.RowKit
set_option linter.unusedVariables false

theorem u32_not06 {c : Int} (h0 : 0 ≤ c) (h1 : c ≤ 4294967295) : bits .xor .u32 IntKind.u32.max c = 4294967295 - c := by
  obtain ⟨m, rfl⟩ : ∃ m : Nat, c = m := ⟨c.toNat, by omega⟩
  have a := u32_xor_nat 4294967295 m (by decide) (by omega)
  refine Eq.trans a ?_
  have e : 4294967295 ^^^ m = 4294967295 - m := by
    apply Nat.eq_of_testBit_eq
    intro i
    have s := Nat.testBit_two_pow_sub_succ (n := 32) (x := m) (by omega) i
    rw [show 2 ^ 32 - (m + 1) = 4294967295 - m by omega] at s
    rw [s, Nat.testBit_xor, show (4294967295 : Nat) = 2 ^ 32 - 1 by rfl, Nat.testBit_two_pow_sub_one]
    by_cases hi : i < 32
    · simp [hi]
    · have : m.testBit i = false := Nat.testBit_lt_two_pow (Nat.lt_of_lt_of_le (show m < 2 ^ 32 by omega) (Nat.pow_le_pow_right (by decide) (by omega)))
      simp [hi, this]
  rw [e]; omega

set_option maxRecDepth 100000 in
theorem rncPut_any (base g : Nat) (v : Value) (e : EncS) (low own all : Int) (w : World) (hE : EncAt w base g v e) (hG : GoodE e) (hP : OkP low own all) (hk : e.k ≤ 900000) :
    Calls Try.prog 56 #[.pointer (some ⟨g, 0, none⟩), .agg #[.int .u32 low, .int .u32 own, .int .u32 all]] w (PutPost base g v (encPut e low own all) (.int .i64 0) w) := by
  obtain ⟨s0, s1, n0, n1⟩ := hG
  obtain ⟨p1, p2, p3, p4, p5⟩ := hP
  obtain ⟨E0, E1, E2⟩ := each_bd s0 s1 p1 p2
  have HP : RowKit.Hid (OkP low own all) := ⟨p1, p2, p3, p4, p5⟩
  have HG : RowKit.Hid (GoodE e) := ⟨s0, s1, n0, n1⟩
  have HE : RowKit.Hid (EncR w base g v e.n e.k (4294967295 - e.s)) := hE
  have HL := Lib.hid HE.out.lt
  have HOw : RowKit.Hid (∀ r, v.ownBlock = some r → r < w.heap.size ∧ base ≤ r ∧ r ≠ g) := fun r hr => HE.out.own r hr
  clear hE
  have HPre := Lib.hid (encPre_bd HG.out HP.out)
  have a2 : 0 ≤ e.s / all * low := Int.mul_nonneg (by omega) p4
  have a3 : e.s / all * (low + own) ≤ e.s / all * all := Int.mul_le_mul_of_nonneg_left p5 (by omega)
  have a4 : e.s / all * 1 ≤ e.s / all * own := Int.mul_le_mul_of_nonneg_left p3 (by omega)
  rw [Int.mul_add] at a3
  have hput : encPut e low own all = scaleE (encPre e low own all) := rfl
  rw [hput]
  clear hput
  have HN : RowKit.Hid ((encPre e low own all).n = e.n + e.s / all * low ∧ (encPre e low own all).s = e.s / all * own ∧ (encPre e low own all).k = e.k) := ⟨rfl, rfl, rfl⟩
  generalize encPre e low own all = pre at HN HPre ⊢
  obtain ⟨E, hEE⟩ : ∃ E, e.s / all = E := ⟨_, rfl⟩
  rw [hEE] at a2 a3 a4 E0 E1 E2 HN
  obtain ⟨A, hA⟩ : ∃ A, E * low = A := ⟨_, rfl⟩
  obtain ⟨O, hO⟩ : ∃ O, E * own = O := ⟨_, rfl⟩
  rw [hA] at a2 a3 HN
  rw [hO] at a3 a4 HN
  have O0 : 2048 ≤ O := by omega
  have O1 : O ≤ 4294967295 := by omega
  have HAdd : RowKit.Hid (e.n + A < 4294967296 * P256 e.k) := by
    have a := HPre.out
    have b := HN.out
    have c := HG.out.2.2.2
    show _ < _
    omega
  have hnot : bits .xor .u32 (if IntKind.u32.signed = true then -1 else IntKind.u32.max) (4294967295 - e.s) = e.s := by
    show bits .xor .u32 IntKind.u32.max (4294967295 - e.s) = e.s
    rw [u32_not06 (by omega) (by omega)]; omega
  have hall : ¬ all = 0 := by omega
  have HC0 := Lib.hid (Cel.new w 91 #[.int .u32 low, .int .u32 own, .int .u32 all])
  have HB0 := Lib.hid (Below.alloc_new w (.cells #[.int .u32 low, .int .u32 own, .int .u32 all] 91))
  have HE0 := Lib.hid (HE.out.below HB0.out)
  obtain ⟨S, hS⟩ : ∃ S, e.s = S := ⟨_, rfl⟩
  rw [hS] at hnot hEE s0 s1 HE HE0
  have hEE' : S.tdiv all = E := by rw [Int.tdiv_eq_ediv_of_nonneg (by omega)]; exact hEE
  have A1 : A ≤ 4294967295 := by omega
  have HSS := Lib.hid hS
  have hk1 : e.k ≤ 1000000 := by omega
  clear hS hEE p4 p5 a3 a4 E2
  go_enter Try.func56, Try.ntmps56
  go_wp2_with (first | (go_at_call 62; go_loud (refine (rncMay_yes low own all _ HP.out).mono ?_); rintro e1 w1 ⟨rfl, hb⟩; have HB1 := Lib.hid (HB0.out.trans (hb.mono HB0.out.size)); have HE1 := Lib.hid (HE0.out.below hb); have HC1 := Lib.hid (HC0.out.below hb); obtain ⟨ls1, lf1⟩ := HE1.out.less_; have q0 := HC1.out.cell 0; have q2 := HC1.out.cell 2; simp only [List.getElem?_toArray, List.getElem?_cons_zero, List.getElem?_cons_succ] at q0 q2; clear hb) | (go_at_call 63; go_loud (with_reducible refine (rncAdd_any base g v e.n e.k _ A _ HE1.out a2 A1 HAdd.out hk1).mono ?_); rintro e2 w2 ⟨rfl, hp⟩; obtain ⟨v2, hr2, hkp2, ho2⟩ := hp; have HE2 := Lib.hid hr2; have HK2 := Lib.hid hkp2; have HO2 := Lib.hid ho2; have HC2 := Lib.hid (HC1.out.keeps hkp2 (by intro c; rcases c with c | c; have := HL.out.1; omega; have := (HOw.out _ c).1; omega)); have q1 := HC2.out.cell 1; simp only [List.getElem?_toArray, List.getElem?_cons_zero, List.getElem?_cons_succ] at q1; clear hr2 hkp2 ho2))
  clear hnot ls1 lf1 q0 q2
  go_loopw [5] (fun s wr => ∃ (st : EncS) (v3 : Value), s = .int .u32 st.s ∧ 2048 ≤ st.s ∧ st.s ≤ 4294967295 ∧ st.k ≤ e.k + 2 ∧ (e.k + 1 ≤ st.k → 524288 ≤ st.s) ∧ (e.k + 2 ≤ st.k → 16777216 ≤ st.s) ∧ RowKit.Hid (scaleE st = scaleE pre ∧ EncR wr base g v3 st.n st.k (4294967295 - S) ∧ Keeps (fun j => j = g ∨ v.ownBlock = some j) w wr ∧ (∀ j, v3.ownBlock = some j → v.ownBlock = some j ∨ w.heap.size ≤ j))) (fun s _ => (16777216 - intOf s).toNat)
  case atStart =>
    have st1 := HN.out
    refine ⟨pre, v2, by rw [st1.2.1], by omega, by omega, by omega, by omega, by omega, rfl, ?_, ?_, ?_⟩
    · rw [st1.1, st1.2.2]; exact HE2.out
    · exact (Keeps.of_below HB1.out).trans HK2.out
    · intro j hj
      rcases HO2.out j hj with h | h
      · exact .inl h
      · have := HB1.out.size; exact .inr (by omega)
  case round =>
    obtain ⟨st, v3, rfl, b0, b1, b2, b3, b4, H⟩ := hrel
    clear HC2 HE2 HK2 HO2 HC1 HE1
    by_cases hlt : st.s < 16777216
    · have S1 := Lib.hid (scaleE_step (e := st) (by omega) hlt)
      have hk1' : st.k ≤ 1000000 := by omega
      go_wp2_with (go_at_call 64; ((with_reducible refine (rncScale_any base g v3 st.n st.k _ _ H.out.2.1 hk1').mono ?_)); rintro e4 w4 ⟨rfl, hp⟩; have HP4 := Lib.hid hp; clear hp)
      go_roundw
      case rel =>
        obtain ⟨v4, u1, u2, u3⟩ := HP4.out
        refine ⟨⟨st.n * 256, st.s * 256, st.k + 1⟩, v4, rfl, by simp only; omega, by simp only; omega, by simp only; omega, by simp only; omega, by simp only; omega, S1.out.symm.trans H.out.1, u1, H.out.2.2.1.then_ u2 ?_, ?_⟩
        · rintro j (hj | hj)
          · exact .inl (.inl hj)
          · rcases H.out.2.2.2 j hj with h | h
            · exact .inl (.inr h)
            · exact .inr h
        · intro j hj
          rcases u3 j hj with h | h
          · exact H.out.2.2.2 j h
          · have := H.out.2.2.1.size; exact .inr (by omega)
      case measure => simp [intOf] <;> omega
    · have Z : RowKit.Hid (scaleE pre = st) := by rw [← H.out.1]; exact scaleE_end (by omega)
      have hn2 : bits .xor .u32 (if IntKind.u32.signed = true then -1 else IntKind.u32.max) st.s = 4294967295 - st.s := u32_not06 (by omega) (by omega)
      obtain ⟨m2, z2⟩ := H.out.2.1.less_
      have E5 := Lib.hid (H.out.2.1.setLess (4294967295 - st.s))
      have K5 := Lib.hid (H.out.2.2.1.setCell (p := ⟨g, 2, none⟩) (.inl (.inl rfl)) (.int .u32 (4294967295 - st.s)))
      go_wp2
      go_ret
      exact ⟨rfl, v3, by rw [Z.out]; exact E5.out, K5.out, H.out.2.2.2⟩
end Go.Proofs.Ytgnmnmjicjcffaa
