/- Plain facts, and what functions give, for the proofs of this seat: several texts in one, each with its own first remark. -/
import Derived.Test.YtgnmnmjicjcffaaGb
import Derived.Test.YtgnmnmjicjcffaaGa
import Derived.Deep.AppendLies
import Derived.Deep.RegionLaw
import Derived.OwnWalk
import Derived.BigRegion
import Derived.Deep.RegionHeld3
import Derived.Test.YtgnmnmjicjcffaaRows
import Derived.IntWalk
import Derived.Deep.QuietTactic
import Derived.BigQuiet
import Derived.Laws.MathBits
import Derived.WalkKit
import Derived.WalkLawsBesides
import Derived.Handy
import Derived.Lib.Hide
import Derived.StillTailTactics

/- What the functions of package rangeenc give: bits. -/
namespace Go.Proofs.Ytgnmnmjicjcffaa
open Go.RowKit
set_option linter.unusedVariables false

theorem rncBits_nil (n : Int) (wide : Int) (w : World) :
    Calls Try.prog 42 #[.pointer none, .int .u32 n, .int .i64 wide] w fun e w' => e = .returned (.int .i64 1) ∧ w = w' := by
  go_enter Try.func42, Try.ntmps42
  go_wp2
  go_ret
  exact ⟨rfl, rfl⟩
theorem rncBits_far (g : Nat) (n : Int) (wide : Int) (w : World) (h : wide < 0 ∨ 24 < wide) :
    Calls Try.prog 42 #[.pointer (some ⟨g, 0, none⟩), .int .u32 n, .int .i64 wide] w fun e w' => e = .returned (.int .i64 1) ∧ w = w' := by
  rcases h with h | h
  · have hd : decide (wide < 0) = true := by simpa using h
    go_enter Try.func42, Try.ntmps42
    go_wp2
    go_ret
    exact ⟨rfl, rfl⟩
  · have hd : decide (wide < 0) = false := by simp; omega
    have hd2 : decide (24 < wide) = true := by simpa using h
    go_enter Try.func42, Try.ntmps42
    go_wp2
    go_ret
    exact ⟨rfl, rfl⟩
theorem pow_P2 (k : Nat) : (2 : Int) ^ k = P2 k := rfl
theorem u32_mask {n : Int} {k : Nat} (n0 : 0 ≤ n) (n1 : n ≤ 4294967295) (hk : k ≤ 31) : bits .and .u32 n (P2 k - 1) = n % P2 k := by
  obtain ⟨m, rfl⟩ : ∃ m : Nat, n = m := ⟨n.toNat, by omega⟩
  have p := P2_pos k
  have q := P2_mono (a := k) (b := 31) hk
  rw [show P2 31 = 2147483648 by decide] at q
  have e : P2 k = ((2 ^ k : Nat) : Int) := by unfold P2; rw [Int.natCast_pow]; rfl
  have e2 : P2 k - 1 = ((2 ^ k - 1 : Nat) : Int) := by
    rw [e] at p ⊢
    omega
  have h2 : 2 ^ k - 1 < 4294967296 := by
    rw [e] at q
    omega
  rw [e2, u32_and_nat m (2 ^ k - 1) (by omega) h2, Nat.and_two_pow_sub_one_eq_mod, e, Int.natCast_emod]
theorem encBits_mod (e : EncS) (n : Int) {k : Nat} (hk : k ≤ 12) : encBits e (n % P2 k) k = encBits e n k := by
  by_cases h : k = 0
  · subst h; rfl
  · rw [encBits_low _ _ (by omega) hk, encBits_low _ _ (by omega) hk, Int.emod_emod]
theorem rncBits_over (g : Nat) (n : Int) (wide : Nat) (w : World) (n0 : 0 ≤ n) (n1 : n ≤ 4294967295) (hw : wide ≤ 24) (h : P2 wide ≤ n) :
    Calls Try.prog 42 #[.pointer (some ⟨g, 0, none⟩), .int .u32 n, .int .i64 wide] w fun e w' => e = .returned (.int .i64 1) ∧ w = w' := by
  have hd : decide ((wide : Int) < 0) = false := by simp <;> omega
  have hd2 : decide (24 < (wide : Int)) = false := by simp; omega
  have hq : (n / 2 ^ wide != 0) = true := by
    rw [pow_P2]
    have p := P2_pos wide
    have : 1 ≤ n / P2 wide := by rw [Int.le_ediv_iff_mul_le (by omega)]; omega
    simp; omega
  go_enter Try.func42, Try.ntmps42
  go_wp2
  go_ret
  exact ⟨rfl, rfl⟩
set_option maxRecDepth 100000 in
theorem rncBits_any (base g : Nat) (v : Value) (e : EncS) (n : Int) (wide : Nat) (w : World) (hE : EncAt w base g v e) (hG : GoodE e) (n0 : 0 ≤ n) (n1 : n ≤ 4294967295) (hw : wide ≤ 24) (h : n < P2 wide) (hk : e.k ≤ 800000) :
    Calls Try.prog 42 #[.pointer (some ⟨g, 0, none⟩), .int .u32 n, .int .i64 wide] w (PutPost base g v (encBits e n wide) (.int .i64 0) w) := by
  have hd : decide ((wide : Int) < 0) = false := by simp <;> omega
  have hd2 : decide (24 < (wide : Int)) = false := by simp; omega
  have hq : n / 2 ^ wide = 0 := by rw [pow_P2]; exact Int.ediv_eq_zero_of_lt n0 h
  have HE := Lib.hid hE
  have HG := Lib.hid hG
  clear hE hG
  go_enter Try.func42, Try.ntmps42
  go_wp2
  clear hd hd2 hq
  go_loopw [1, 2, 7] (fun m d _ wr => ∃ (q : Nat) (n2 : Int) (f : EncS) (v2 : Value), q ≤ wide ∧ d = .int .i64 q ∧ m = .int .u32 n2 ∧ 0 ≤ n2 ∧ n2 ≤ 4294967295 ∧ n2 < P2 q ∧ f.k ≤ e.k + 3 * (wide - q) ∧ RowKit.Hid (encBits f n2 q = encBits e n wide ∧ GoodE f ∧ EncAt wr base g v2 f ∧ Keeps (fun j => j = g ∨ v.ownBlock = some j) w wr ∧ (∀ j, v2.ownBlock = some j → v.ownBlock = some j ∨ w.heap.size ≤ j))) (fun _ d _ _ => (intOf d).toNat)
  case atStart => exact ⟨wide, n, e, v, Nat.le_refl _, rfl, rfl, n0, n1, h, by omega, rfl, HG.out, HE.out, Keeps.refl _ _, fun j hj => .inl hj⟩
  case round =>
    obtain ⟨q, n2, f, v2, hq, rfl, rfl, m0, m1, m2, hf, H⟩ := hrel
    clear HE
    by_cases hlt : 0 < q
    · by_cases hq12 : 12 < q
      · obtain ⟨lo, hlo⟩ : ∃ lo, q = lo + 12 := ⟨q - 12, by omega⟩
        subst hlo
        obtain ⟨s1, s2, s3, s4, s5⟩ := H.out
        have HM : RowKit.Hid (EncAt wr.drew base g v2 f) := s3
        have HGf := Lib.hid s2
        have pl := P2_pos lo
        have p12 : P2 (lo + 12) = P2 lo * 4096 := by unfold P2; rw [Int.pow_add]; rfl
        have x0 : 0 ≤ n2 / 2 ^ lo := by rw [pow_P2]; exact Int.ediv_nonneg m0 (by omega)
        have x1 : n2 / 2 ^ lo < 4096 := by rw [pow_P2, Int.ediv_lt_iff_lt_mul (by omega), Int.mul_comm, ← p12]; exact m2
        have xe : n2 / P2 lo % 4096 = n2 / 2 ^ lo := by rw [← pow_P2, Int.emod_eq_of_lt x0 x1]
        have HOk : RowKit.Hid (OkP (n2 / 2 ^ lo) 1 4096) := ⟨by decide, by decide, by decide, x0, by omega⟩
        have HEq : RowKit.Hid (encBits (encPut f (n2 / 2 ^ lo) 1 4096) (n2 % P2 lo) lo = encBits e n wide) := by
          show _ = _
          rw [encBits_mod _ _ (by omega), ← s1, encBits_high f n2 hq12 (by omega), show lo + 12 - 12 = lo by omega, xe]
        have hk1 : f.k ≤ 900000 := by omega
        obtain ⟨y0, y1⟩ := bit_part n2 (k := lo)
        have ylt : P2 lo ≤ 4096 := by have := P2_mono (a := lo) (b := 12) (by omega); rw [show P2 12 = 4096 by decide] at this; exact this
        have hmask : bits .and .u32 n2 ((2 ^ lo - 1) % 4294967296) = n2 % P2 lo := by
          rw [show (2 : Int) ^ lo - 1 = P2 lo - 1 from rfl, Int.emod_eq_of_lt (by omega) (by omega)]; exact u32_mask m0 m1 (by omega)
        have h4096 : IntKind.u32.wrap 4096 = 4096 := by decide
        clear p12 xe x0 x1
        go_wp2
        go_still_tail 7, (by kernel_rfl)
        repeat still_step
        change wpList _ _ _ _ _ wr.drew
        go_wp2_with (go_at_call 56; ((with_reducible refine (rncPut_any base g v2 f (n2 / 2 ^ lo) 1 4096 _ HM.out HGf.out HOk.out hk1).mono ?_)); rintro e5 w5 ⟨rfl, hpost⟩; have HP5 := Lib.hid hpost; clear hpost)
        go_roundw
        case rel =>
          obtain ⟨v5, u1, u2, u3⟩ := HP5.out
          have hk2 := encPut_k f (n2 / 2 ^ lo) 1 4096
          refine ⟨lo, n2 % P2 lo, encPut f (n2 / 2 ^ lo) 1 4096, v5, by omega, rfl, rfl, y0, by omega, y1, by omega, HEq.out, encPut_good HGf.out HOk.out, u1, (s4.drewN 1).then_ u2 ?_, ?_⟩
          · rintro j (hj | hj)
            · exact .inl (.inl hj)
            · rcases s5 j hj with h | h
              · exact .inl (.inr h)
              · exact .inr h
          · intro j hj
            rcases u3 j hj with h | h
            · exact s5 j h
            · have := s4.size
              have h' : wr.heap.size ≤ j := h
              exact .inr (by omega)
        case measure => simp [intOf] <;> omega
      · obtain ⟨s1, s2, s3, s4, s5⟩ := H.out
        have HM : RowKit.Hid (EncAt wr.drew base g v2 f) := s3
        have HGf := Lib.hid s2
        have pl := P2_pos q
        have ql := P2_mono (a := q) (b := 12) (by omega)
        rw [show P2 12 = 4096 by decide] at ql
        have HOk : RowKit.Hid (OkP n2 1 (P2 q)) := okP_bit (by omega) m0 m2
        have HEq : RowKit.Hid (encPut f n2 1 (P2 q) = encBits e n wide) := by
          show _ = _
          rw [← s1, encBits_low f n2 hlt (by omega), Int.emod_eq_of_lt m0 m2]
        have hk1 : f.k ≤ 900000 := by omega
        have hpq : IntKind.u32.wrap (2 ^ q) = P2 q := IntWalk.u32_in _ (by rw [pow_P2]; omega)
        have hmin : min (q : Int) 12 = q := by omega
        have hm0 : bits .and .u32 n2 0 = 0 := by
          have := u32_mask (k := 0) m0 m1 (by omega)
          rw [show P2 0 - 1 = 0 by decide, show P2 0 = 1 by decide] at this
          rw [this]; omega
        clear ql
        go_wp2
        go_still_tail 7, (by kernel_rfl)
        repeat still_step
        change wpList _ _ _ _ _ wr.drew
        go_wp2_with (go_at_call 56; ((with_reducible refine (rncPut_any base g v2 f n2 1 (P2 q) _ HM.out HGf.out HOk.out hk1).mono ?_)); rintro e5 w5 ⟨rfl, hpost⟩; have HP5 := Lib.hid hpost; clear hpost)
        go_roundw
        case rel =>
          obtain ⟨v5, u1, u2, u3⟩ := HP5.out
          have hk2 := encPut_k f n2 1 (P2 q)
          refine ⟨0, 0, encPut f n2 1 (P2 q), v5, by omega, rfl, rfl, by omega, by omega, by decide, by omega, HEq.out, encPut_good HGf.out HOk.out, u1, (s4.drewN 1).then_ u2 ?_, ?_⟩
          · rintro j (hj | hj)
            · exact .inl (.inl hj)
            · rcases s5 j hj with h | h
              · exact .inl (.inr h)
              · exact .inr h
          · intro j hj
            rcases u3 j hj with h | h
            · exact s5 j h
            · have := s4.size
              have h' : wr.heap.size ≤ j := h
              exact .inr (by omega)
        case measure => simp [intOf] <;> omega
    · obtain rfl : q = 0 := by omega
      go_wp2
      go_ret
      obtain ⟨h1, h2, h3, h4, h5⟩ := H.out
      rw [encBits_zero] at h1
      subst h1
      exact ⟨rfl, v2, h3, h4, h5⟩
end Go.Proofs.Ytgnmnmjicjcffaa

/- What the document's Fixed of layer 5 gives. -/
namespace Go.Proofs.Ytgnmnmjicjcffaa
open Go.RowKit
set_option linter.unusedVariables false

theorem refFixed_out (a : Option Addr) (len cap : Nat) (w : World) (hm : len ≤ 9223372036854775807) (h : len < 1 ∨ 64 < len) :
    Calls Try.prog 46 #[.slice a len cap] w fun e w' => e = .returned (.tuple #[.pointer none, .bool false]) ∧ w = w' := by
  rcases h with h | h
  · have hd : decide ((len : Int) < 1) = true := by simp; omega
    go_enter Try.func46, Try.ntmps46
    go_wp2
    go_ret2
    exact ⟨rfl, rfl⟩
  · have hd : decide ((len : Int) < 1) = false := by simp; omega
    have hd2 : decide ((64 : Int) < (len : Int)) = true := by simp; omega
    go_enter Try.func46, Try.ntmps46
    go_wp2
    go_ret2
    exact ⟨rfl, rfl⟩

set_option maxRecDepth 100000 in
theorem refFixed_any (a : Option Addr) (len cap : Nat) (zs : List Int) (w : World) (h : IntsAt w w.heap.size .u32 a len zs) (hb : ∀ j, j < len → 0 ≤ zs.getD j 0 ∧ zs.getD j 0 ≤ 4294967295) (h0 : 1 ≤ len) (h1 : len ≤ 64) :
    Calls Try.prog 46 #[.slice a len cap] w fun e w' => Below w.heap.size w w' ∧
      (((∃ j, j < len ∧ zs.getD j 0 = 0) ∧ e = .returned (.tuple #[.pointer none, .bool false])) ∨
       ((∀ j, j < len → 1 ≤ zs.getD j 0) ∧ ∃ g r, e = .returned (.tuple #[.pointer (some ⟨g, 0, none⟩), .bool (decide (sumN zs len ≤ 8192))]) ∧ RefMod w' w.heap.size g r zs true)) := by
  obtain ⟨b, off, rfl, hbB, _, _⟩ := h.at_ (j := 0) (by omega)
  have H0 := Lib.hid h
  have HW := Lib.hid hb
  clear h hb
  have hd : decide ((len : Int) < 1) = false := by simp; omega
  have hd2 : decide ((64 : Int) < (len : Int)) = false := by simp; omega
  have HC := Lib.hid (Cel.new w 86 #[.slice none 0 0, .bool true])
  have HB := Lib.hid (Below.alloc_new w (.cells #[.slice none 0 0, .bool true] 86))
  have HO := Lib.hid (World.ownsRow_nil (w.alloc (.cells #[.slice none 0 0, .bool true] 86)) w.heap.size 3 1)
  obtain ⟨i0, hi, hzz, hz1, hz2⟩ := info_parts info_int05
  go_enter Try.func46, Try.ntmps46
  go_wp2
  go_loopw [5] (fun i wr => ∃ k : Nat, k ≤ len ∧ i = .int .i64 k ∧ RowKit.Hid ((∀ j, j < k → 1 ≤ zs.getD j 0) ∧ ∃ v, Cel wr w.heap.size 86 #[v, .bool true] ∧ wr.ownsRow w.heap.size 3 1 v k ((zs.take k).map (Value.int .i64)) ∧ Below w.heap.size w wr)) (fun i _ => len - (intOf i).toNat)
  case atStart => exact ⟨0, by omega, rfl, fun j hj => by omega, _, HC.out, HO.out, HB.out⟩
  case round =>
    obtain ⟨k, hk, rfl, H⟩ := hrel
    clear HC HB HO
    have HP := Lib.hid H.out.1
    obtain ⟨v, hc, ho, hb⟩ := H.out.2
    clear H
    have c0 := hc.cell 0
    have f0 := hc.frozen 0
    simp only [List.getElem?_toArray, List.getElem?_cons_zero] at c0
    have HC := Lib.hid hc
    have HO := Lib.hid ho
    have HB := Lib.hid hb
    have hsz := hb.size
    have hgl := hc.lt
    have hne : v.ownBlock ≠ some w.heap.size := fun c => own_ne_cel ho hc (by decide) _ c rfl
    clear hc ho hb
    by_cases hlt : k < len
    · obtain ⟨b', off', e', _, _, hcell⟩ := H0.out.at_ hlt
      obtain ⟨rfl, rfl⟩ : b = b' ∧ off = off' := by injection e' with e'; injection e' with e1 e2; exact ⟨e1, e2⟩
      have hx := HB.out.cell (p := ⟨b, off + k, none⟩) hbB
      rw [hcell] at hx
      clear hcell e'
      obtain ⟨x0, x1⟩ := HW.out k hlt
      have HT := Lib.hid (take_snocI zs k (by rw [H0.out.1]; exact hlt))
      obtain ⟨x, hxd⟩ : ∃ x, x = zs.getD k 0 := ⟨_, rfl⟩
      rw [← hxd] at hx x0 x1
      have HX := Lib.hid hxd
      have HT' := HT
      clear HT
      have HT : RowKit.Hid (zs.take (k + 1) = zs.take k ++ [x]) := by show _ = _; rw [hxd]; exact HT'.out
      clear hxd HT'
      have g2 : (k : Int) < (len : Int) := by omega
      have e1 : wrap64 x = x := IntWalk.wrap64_in _ (by omega)
      have e2 : IntKind.i64.wrap x = x := IntWalk.i64_in _ (by omega)
      go_wp2
      have hA := Lib.hid (World.ownsRow.alloc HO.out (.cells #[.int .i64 x] 3))
      go_region_law ((refine step_append_lies _ (by rfl) _ _ _ (by rfl) w.heap.size 3 i0 (.int .i64 0) 1 8 Try.underlying23 hi hzz hz1 hz2 rfl (by decide) v k _ (by rfl) hA.out.drew ⟨wr.heap.size, 0, none⟩ 1 1 [.int .i64 x] (by rfl) (by rfl) (World.news_of_block (cs := #[.int .i64 x]) (t := 3) (fr := (0, 0)) (heap_alloc_new wr _)) (by simp [Value.oneCell']) (by omega) (by unfold maxLen; omega) (by omega) (by simp; omega) (wr.heap.size + 1) (by simp) ?_; intro gg cp w2 hown hgrow hat hlt2; have c2 : w2.cell? ⟨w.heap.size, 0, none⟩ = some v := (hgrow.cell_far ⟨w.heap.size, 0, none⟩ (by simp; omega) (fun c => hne c.symm)).trans ((HC.out.alloc (.cells #[.int .i64 x] 3)).cell 0); have f2 : w2.frozen? ⟨w.heap.size, 0, none⟩ = false := (hgrow.frozen_far ⟨w.heap.size, 0, none⟩ (by simp; omega) (fun c => hne c.symm)).trans ((HC.out.alloc (.cells #[.int .i64 x] 3)).frozen 0)))
      all_goals
        have hc2 : Cel w2 w.heap.size 86 #[v, .bool true] := (HC.out.alloc (.cells #[.int .i64 x] 3)).keep (hgrow.block _ (by simp; omega) (fun c => hne c.symm))
        have hb2 : Below w.heap.size w w2 := (Below.drewN' (HB.out.alloc hsz (.cells #[.int .i64 x] 3)) 1).grown hgrow (by simp; omega) (own_base HO.out)
        have hown2 : w2.ownsRow w.heap.size 3 1 (.slice (some ⟨gg, 0, none⟩) (k + 1) cp) (k + 1) ((zs.take (k + 1)).map (Value.int .i64)) := by rw [HT.out]; simpa using hown
        obtain ⟨w3, hw3⟩ : ∃ w3, w3 = w2.setCell ⟨w.heap.size, 0, none⟩ (.slice (some ⟨gg, 0, none⟩) (k + 1) cp) := ⟨_, rfl⟩
        have H3 : RowKit.Hid (Cel w3 w.heap.size 86 #[.slice (some ⟨gg, 0, none⟩) (k + 1) cp, .bool true] ∧ w3.ownsRow w.heap.size 3 1 (.slice (some ⟨gg, 0, none⟩) (k + 1) cp) (k + 1) ((zs.take (k + 1)).map (Value.int .i64)) ∧ Below w.heap.size w w3) := by
          rw [hw3]
          refine ⟨by simpa using hc2.set_ 0 (.slice (some ⟨gg, 0, none⟩) (k + 1) cp), ?_, hb2.setCell (Nat.le_refl _) _⟩
          exact own_far hown2 (fun j hj => own_ne_cel hown2 hc2 (by decide) j hj) _
        rw [← hw3]
        clear hw3 hc2 hb2 hown2 hown hgrow c2 f2 hat hlt2 hx c0 f0
        have hx3 : w3.cell? ⟨b, off + k, none⟩ = some (.int .u32 x) := by
          rw [H3.out.2.2.cell (p := ⟨b, off + k, none⟩) hbB]
          obtain ⟨b', off', e', _, _, hcell⟩ := H0.out.at_ hlt
          obtain ⟨rfl, rfl⟩ : b = b' ∧ off = off' := by injection e' with e'; injection e' with e1 e2; exact ⟨e1, e2⟩
          rw [hcell, HX.out]
        by_cases hxz : x = 0
        · have hq : (x == 0) = true := by simpa using hxz
          go_wp2
          go_ret2
          exact ⟨H3.out.2.2, .inl ⟨⟨k, hlt, by rw [← HX.out]; exact hxz⟩, rfl⟩⟩
        · have hq : (x == 0) = false := by simpa using hxz
          go_wp2
          go_roundw
          case rel =>
            refine ⟨k + 1, by omega, by go_num, fun j hj => ?_, _, H3.out.1, H3.out.2.1, H3.out.2.2⟩
            by_cases hjk : j = k
            · subst hjk; rw [← HX.out]; omega
            · exact HP.out j (by omega)
          case measure => simp [intOf] <;> omega
    · obtain rfl : k = len := by omega
      obtain ⟨r, c, e, _, _⟩ := World.ownsRow.form HO.out (by omega)
      subst e
      have hzl : zs.length = k := H0.out.1
      have Z : RowKit.Hid (RefMod wr w.heap.size w.heap.size r zs true) := by
        refine ⟨c, ?_, ?_, Nat.le_refl _⟩
        · rw [hzl]; exact HC.out
        · have := HO.out
          rw [List.take_of_length_le (by omega)] at this
          rw [hzl]; exact this
      have HL := Lib.hid hzl
      clear hzl
      go_wp2_with (go_at_call 49; go_loud (refine (refSum_at w.heap.size w.heap.size r zs true k _ _ (by omega) Z.out (by rw [HL.out]; exact Nat.le_refl _) (by rw [HL.out]; omega) (by rw [HL.out]; exact HW.out)).mono ?_); rintro e w' ⟨rfl, rfl⟩)
      go_ret2
      exact ⟨HB.out, .inr ⟨HP.out, _, _, rfl, Z.out⟩⟩
end Go.Proofs.Ytgnmnmjicjcffaa

/- The walks of the statements of layer 5, by the contracts of the functions that they call. -/
namespace Go.Proofs.Ytgnmnmjicjcffaa
open Go.RowKit
set_option linter.unusedVariables false

theorem modLearn_at (g : Nat) (l : List Int) (s : Nat) (i : Int) (w : World) (hi : i = s) (h : ModAt w g l false) (hG : GoodL l) (hs : s < l.length) :
    Calls Try.prog 59 #[.pointer (some ⟨g, 0, none⟩), .int .i64 i] w fun e w' => e = .returned (.int .i64 0) ∧ ModAt w' g (learnP l s) false ∧ Keeps (fun k => k = g) w w' := by
  subst hi; exact modLearn_any g l s w h hG hs
theorem modPart_at (g : Nat) (l : List Int) (fx : Bool) (s : Nat) (i : Int) (v : Value) (w : World) (hi : i = s) (h : ModAt w g l fx) (hG : GoodL l) (hs : s < l.length) (hv : partV l s = v) :
    Calls Try.prog 58 #[.pointer (some ⟨g, 0, none⟩), .int .i64 i] w fun e w' => e = .returned (.tuple #[v, .int .i64 0]) ∧ Below w.heap.size w w' := by
  subst hi; subst hv; exact modPart_any g l fx s w h hG hs
theorem modFind_at (g : Nat) (l : List Int) (fx : Bool) (at' : Int) (i : Nat) (w : World) (h : ModAt w g l fx) (hG : GoodL l) (hv : findP l at' = i) :
    Calls Try.prog 71 #[.pointer (some ⟨g, 0, none⟩), .int .u32 at'] w fun e w' => e = .returned (.int .i64 i) ∧ ∃ n, w' = w.drewN n := by
  subst hv; exact modFind_any g l fx at' w h hG
theorem refFind_at (base g r : Nat) (l : List Int) (fx : Bool) (at' : Int) (i : Nat) (w : World) (hR : RefMod w base g r l fx) (hG : GoodL l) (hv : findP l at' = i) :
    Calls Try.prog 55 #[.pointer (some ⟨g, 0, none⟩), .int .i64 at'] w fun e w' => e = .returned (.int .i64 i) ∧ w = w' := by
  subst hv; exact refFind_any base g r l fx at' w hR hG.1 hG.2.1 (fun j hj => by have := hG.own hj; omega)

/-! ### The same parts -/
end Go.Proofs.Ytgnmnmjicjcffaa

/- What the functions of package rangeenc give: a model's symbol, the bytes. -/
namespace Go.Proofs.Ytgnmnmjicjcffaa
open Go.RowKit
set_option linter.unusedVariables false

theorem cel_ne {w : World} {g m : Nat} {t u : TypeId} {cs ds : Array Value} (h : Cel w g t cs) (k : Cel w m u ds) (hne : t ≠ u) : g ≠ m := by
  rintro rfl
  unfold Cel at h k
  rw [h] at k
  injection k with k
  injection k with _ k
  exact hne k
theorem EncAt.ne_mod {w : World} {base g m : Nat} {v : Value} {e : EncS} {l : List Int} {fx : Bool} (h : EncAt w base g v e) (k : ModAt w m l fx) : m ≠ g ∧ v.ownBlock ≠ some m := by
  obtain ⟨D, last, q1, q2⟩ := h
  exact ⟨cel_ne k.2 q1.1 (by decide), fun c => own_ne_cel q1.2.1 k.2 (by decide) m c rfl⟩
section
variable {w w' : World} {base g : Nat} {v : Value} {e : EncS}
theorem EncAt.below (h : EncAt w base g v e) (hk : Below w.heap.size w w') : EncAt w' base g v e := EncR.below h hk
theorem EncAt.keeps {F : Nat → Prop} (h : EncAt w base g v e) (hk : Keeps F w w') (h1 : ¬ F g) (h2 : ∀ r, v.ownBlock = some r → ¬ F r) : EncAt w' base g v e := EncR.keeps h hk h1 h2
theorem EncAt.drewN (h : EncAt w base g v e) (n : Nat) : EncAt (w.drewN n) base g v e := h
theorem EncAt.lt (h : EncAt w base g v e) : g < w.heap.size ∧ base ≤ g := EncR.lt h
theorem EncAt.own (h : EncAt w base g v e) (r : Nat) (hr : v.ownBlock = some r) : r < w.heap.size ∧ base ≤ r ∧ r ≠ g := EncR.own h r hr
end
/-- What a symbol's putting leaves. -/
def SymPostP (base g : Nat) (v : Value) (mg : Nat) (f : EncS) (l : List Int) (fx : Bool) (w : World) (x : Ending) (w' : World) : Prop :=
  x = .returned (.int .i64 0) ∧ ∃ v', EncAt w' base g v' f ∧ ModAt w' mg l fx ∧ Keeps (fun j => j = g ∨ v.ownBlock = some j ∨ j = mg) w w' ∧ (∀ j, v'.ownBlock = some j → v.ownBlock = some j ∨ w.heap.size ≤ j)

set_option maxRecDepth 100000 in
theorem rncSymbol_any (base g : Nat) (v : Value) (mg : Nat) (e : EncS) (l : List Int) (fx : Bool) (s : Nat) (w : World) (hE : EncAt w base g v e) (hM : ModAt w mg l fx) (hG : GoodE e) (hL : GoodL l) (hs : s < l.length) (hk : e.k ≤ 800000) :
    Calls Try.prog 44 #[.pointer (some ⟨g, 0, none⟩), .pointer (some ⟨mg, 0, none⟩), .int .i64 s] w (SymPostP base g v mg (encSym e l s) (nextL l fx s) fx w) := by
  have HNe := Lib.hid (hE.ne_mod hM)
  have HE := Lib.hid hE
  have HM := Lib.hid hM
  have HG := Lib.hid hG
  have HL := Lib.hid hL
  have HOk := Lib.hid (okP_sym hL hs)
  have HS : RowKit.Hid (encSym e l s = encPut e (sumN l s) (l.getD s 0) l.sum) := rfl
  have HV : RowKit.Hid (partV l s = .agg #[.int .u32 (sumN l s), .int .u32 (l.getD s 0), .int .u32 l.sum]) := rfl
  have hk1 : e.k ≤ 900000 := by omega
  have hgl := HE.out.lt.1
  have hml := HM.out.lt
  have HOw : RowKit.Hid (∀ r, v.ownBlock = some r → r < w.heap.size ∧ base ≤ r ∧ r ≠ g) := fun r hr => HE.out.own r hr
  rw [HS.out]
  clear hE hM hG hL HS
  generalize l.getD s 0 = x at HOk HV ⊢
  generalize l.sum = t at HOk HV ⊢
  generalize sumN l s = y at HOk HV ⊢
  cases fx with
  | true =>
    go_enter Try.func44, Try.ntmps44
    go_wp2_with (first | (go_at_call 58; go_loud (refine (modPart_at mg l true s _ _ _ rfl HM.out HL.out hs HV.out).mono ?_); rintro e1 w1 ⟨rfl, hb⟩; have HB1 := Lib.hid (hb.trans ((Below.alloc_new w1 (.cells #[.int .u32 y, .int .u32 x, .int .u32 t] 91)).mono hb.size)); have HE1 := Lib.hid (HE.out.below HB1.out); have HM1 := Lib.hid (HM.out.below HB1.out); clear hb) | (go_at_call 56; go_loud (with_reducible refine (rncPut_any base g v e y x t _ HE1.out HG.out HOk.out hk1).mono ?_); rintro e2 w2 ⟨rfl, hp⟩; obtain ⟨v2, p1, p2, p3⟩ := hp; have HP2 := Lib.hid p1; have HK2 := Lib.hid p2; have HO2 := Lib.hid p3; have HM2 := Lib.hid (HM1.out.keeps p2 (by intro c; rcases c with c | c; exact HNe.out.1 c; exact HNe.out.2 c)); clear p1 p2 p3) | (go_at_call 59; go_loud (with_reducible refine (modLearn_fixed mg l s _ HM2.out hs).mono ?_); rintro e3 w3 ⟨rfl, n3, rfl⟩))
    go_ret
    refine ⟨rfl, v2, HP2.out.drewN n3, HM2.out.drewN n3, (((Keeps.of_below HB1.out).trans (HK2.out.mono ?_)).drewN n3), fun j hj => ?_⟩
    · rintro j (h | h)
      · exact .inl h
      · exact .inr (.inl h)
    · rcases HO2.out j hj with h | h
      · exact .inl h
      · have := HB1.out.size; exact .inr (by omega)
  | false =>
    go_enter Try.func44, Try.ntmps44
    go_wp2_with (first | (go_at_call 58; go_loud (refine (modPart_at mg l false s _ _ _ rfl HM.out HL.out hs HV.out).mono ?_); rintro e1 w1 ⟨rfl, hb⟩; have HB1 := Lib.hid (hb.trans ((Below.alloc_new w1 (.cells #[.int .u32 y, .int .u32 x, .int .u32 t] 91)).mono hb.size)); have HE1 := Lib.hid (HE.out.below HB1.out); have HM1 := Lib.hid (HM.out.below HB1.out); clear hb) | (go_at_call 56; go_loud (with_reducible refine (rncPut_any base g v e y x t _ HE1.out HG.out HOk.out hk1).mono ?_); rintro e2 w2 ⟨rfl, hp⟩; obtain ⟨v2, p1, p2, p3⟩ := hp; have HP2 := Lib.hid p1; have HK2 := Lib.hid p2; have HO2 := Lib.hid p3; have HM2 := Lib.hid (HM1.out.keeps p2 (by intro c; rcases c with c | c; exact HNe.out.1 c; exact HNe.out.2 c)); clear p1 p2 p3) | (go_at_call 59; go_loud (with_reducible refine (modLearn_any mg l s _ HM2.out HL.out hs).mono ?_); rintro e3 w3 ⟨rfl, hm, hk3⟩; have HM3 := Lib.hid hm; have HK3 := Lib.hid hk3; clear hm hk3))
    go_ret
    have hnew : ∀ j, v2.ownBlock = some j → j ≠ mg := by
      intro j hj
      rcases HO2.out j hj with h | h
      · rintro rfl; exact HNe.out.2 h
      · have := HB1.out.size; omega
    refine ⟨rfl, v2, HP2.out.keeps HK3.out (fun c => HNe.out.1 c.symm) (fun r hr => hnew r hr), HM3.out, ((Keeps.of_below HB1.out).trans (HK2.out.mono ?_)).trans (HK3.out.mono fun j hj => .inr (.inr hj)), fun j hj => ?_⟩
    · rintro j (h | h)
      · exact .inl h
      · exact .inr (.inl h)
    · rcases HO2.out j hj with h | h
      · exact .inl h
      · have := HB1.out.size; exact .inr (by omega)
end Go.Proofs.Ytgnmnmjicjcffaa

/- What the functions of package rangedec give: a model's symbol. -/
namespace Go.Proofs.Ytgnmnmjicjcffaa
open Go.RowKit
set_option linter.unusedVariables false

theorem DrcAt.ne_mod {w : World} {base g m : Nat} {v : Value} {b : List Int} {d : DecS} {l : List Int} {fx : Bool} (h : DrcAt w base g v b d) (k : ModAt w m l fx) : m ≠ g ∧ v.ownBlock ≠ some m :=
  ⟨cel_ne k.2 h.2.1 (by decide), fun c => own_ne_cel h.2.2.1 k.2 (by decide) m c rfl⟩
def DrcSymPost (base g : Nat) (v : Value) (b : List Int) (mg : Nat) (s : Nat) (d : DecS) (l : List Int) (w : World) (x : Ending) (w' : World) : Prop :=
  x = .returned (.tuple #[.int .i64 s, .int .i64 0]) ∧ DrcAt w' base g v b d ∧ ModAt w' mg l false ∧ Keeps (fun j => j = g ∨ j = mg) w w'

set_option maxHeartbeats 400000 in
set_option maxRecDepth 100000 in
theorem drcSymbol_any (base g : Nat) (v : Value) (b : List Int) (d : DecS) (mg : Nat) (l : List Int) (w : World) (hD : DrcAt w base g v b d) (hM : ModAt w mg l false) (hb : ∀ j, 0 ≤ byteF b j ∧ byteF b j ≤ 255) (hbl : b.length ≤ 1000000) (hi : d.i ≤ 5000000) (hG : GoodD d) (hL : GoodL l) :
    Calls Try.prog 61 #[.pointer (some ⟨g, 0, none⟩), .pointer (some ⟨mg, 0, none⟩)] w (DrcSymPost base g v b mg (decWhich d l) (decSym b d l) (learnP l (decWhich d l)) w) := by
  have HNe := Lib.hid (hD.ne_mod hM)
  have HD := Lib.hid hD
  have HM := Lib.hid hM
  have HG := Lib.hid hG
  have HL := Lib.hid hL
  have HBy := Lib.hid hb
  obtain ⟨v1, v2, v3, v4⟩ := decWhich_is hG hL
  have HWl := Lib.hid v2
  have HW : RowKit.Hid (findP l (decAt d l.sum) = decWhich d l) := rfl
  have HOk := Lib.hid (okP_sym hL v1)
  have HS : RowKit.Hid (decSym b d l = decTake (byteF b) d (sumN l (decWhich d l)) (l.getD (decWhich d l) 0) l.sum) := rfl
  rw [HS.out]
  have h0 : 0 < l.length := hL.1
  have hgl := hD.lt.1
  have hml := hM.lt
  have HOw : RowKit.Hid (∀ r, v.ownBlock = some r → r < w.heap.size ∧ base ≤ r ∧ r ≠ g) := fun r hr => HD.out.own r hr
  have HV0 : RowKit.Hid (partV l 0 = .agg #[.int .u32 (sumN l 0), .int .u32 (l.getD 0 0), .int .u32 l.sum]) := rfl
  have HVs : RowKit.Hid (partV l (decWhich d l) = .agg #[.int .u32 (sumN l (decWhich d l)), .int .u32 (l.getD (decWhich d l) 0), .int .u32 l.sum]) := rfl
  have H00 : RowKit.Hid ((0 : Int) = ((0 : Nat) : Int)) := rfl
  clear hD hM hb hG hL v2 HS
  generalize hs : decWhich d l = s at v1 HWl HW HOk HVs ⊢
  clear hs
  generalize l.getD s 0 = x at HOk HVs ⊢
  generalize l.getD 0 0 = x0 at HV0
  generalize l.sum = t at HOk HV0 HVs HW HWl v3 v4 ⊢
  generalize sumN l s = y at HOk HWl HVs ⊢
  generalize sumN l 0 = y0 at HV0
  go_enter Try.func61, Try.ntmps61
  go_wp2_with (first
    | (go_at_call 58; have hq := HF3.out.1; go_loud (with_reducible refine (modPart_at mg l false s _ _ _ rfl (HS2.out.2.1.drewN _) HL.out v1 HVs.out).mono ?_); rintro e4 w4 ⟨rfl, hb4⟩; have HS4 : RowKit.Hid (DrcAt w4 base g v b d ∧ ModAt w4 mg l false ∧ Cel w4 w1.heap.size 91 #[.int .u32 y0, .int .u32 x0, .int .u32 t] ∧ Below w.heap.size w w4) := ⟨(HS2.out.1.drewN n3).below hb4, (HS2.out.2.1.drewN n3).below hb4, (HS2.out.2.2.1.drewN n3).below hb4, (Below.drewN' HS2.out.2.2.2 n3).trans (hb4.mono (Below.drewN' HS2.out.2.2.2 n3).size)⟩; have q4 := HS4.out.2.2.1; have p0 := q4.cell 0; have p1 := q4.cell 1; have p2 := q4.cell 2; have f0 := q4.frozen 0; have f1 := q4.frozen 1; have f2 := q4.frozen 2; simp only [List.getElem?_toArray, List.getElem?_cons_zero, List.getElem?_cons_succ] at p0 p1 p2; have k5 : Keeps (fun j => j = w1.heap.size) w4 (((w4.setCell ⟨w1.heap.size, 0, none⟩ (.int .u32 y)).setCell ⟨w1.heap.size, 1, none⟩ (.int .u32 x)).setCell ⟨w1.heap.size, 2, none⟩ (.int .u32 t)) := Keeps.setCell (F := fun j => j = w1.heap.size) (p := ⟨w1.heap.size, 2, none⟩) (Keeps.setCell (F := fun j => j = w1.heap.size) (p := ⟨w1.heap.size, 1, none⟩) (Keeps.setCell (F := fun j => j = w1.heap.size) (p := ⟨w1.heap.size, 0, none⟩) (Keeps.refl _ _) (.inl rfl) _) (.inl rfl) _) (.inl rfl) _; have HS5 : RowKit.Hid (DrcAt (((w4.setCell ⟨w1.heap.size, 0, none⟩ (.int .u32 y)).setCell ⟨w1.heap.size, 1, none⟩ (.int .u32 x)).setCell ⟨w1.heap.size, 2, none⟩ (.int .u32 t)) base g v b d ∧ ModAt (((w4.setCell ⟨w1.heap.size, 0, none⟩ (.int .u32 y)).setCell ⟨w1.heap.size, 1, none⟩ (.int .u32 x)).setCell ⟨w1.heap.size, 2, none⟩ (.int .u32 t)) mg l false ∧ Below w.heap.size w (((w4.setCell ⟨w1.heap.size, 0, none⟩ (.int .u32 y)).setCell ⟨w1.heap.size, 1, none⟩ (.int .u32 x)).setCell ⟨w1.heap.size, 2, none⟩ (.int .u32 t))) := ⟨HS4.out.1.keeps k5 (by omega) (by intro r hr c; have := (HOw.out r hr).1; omega), HS4.out.2.1.keeps k5 (by omega), HS4.out.2.2.2.trans (k5.below HS4.out.2.2.2.size (by intro j hj; omega))⟩; clear q4 k5; clear hb4 hq)
    | (go_at_call 58; go_loud (with_reducible refine (modPart_at mg l false 0 0 _ _ H00.out HM.out HL.out h0 HV0.out).mono ?_); rintro e1 w1 ⟨rfl, hb⟩; have hb2 := hb.alloc hb.size (.cells #[.int .u32 y0, .int .u32 x0, .int .u32 t] 91); have HS2 : RowKit.Hid (DrcAt (w1.alloc (.cells #[.int .u32 y0, .int .u32 x0, .int .u32 t] 91)) base g v b d ∧ ModAt (w1.alloc (.cells #[.int .u32 y0, .int .u32 x0, .int .u32 t] 91)) mg l false ∧ Cel (w1.alloc (.cells #[.int .u32 y0, .int .u32 x0, .int .u32 t] 91)) w1.heap.size 91 #[.int .u32 y0, .int .u32 x0, .int .u32 t] ∧ Below w.heap.size w (w1.alloc (.cells #[.int .u32 y0, .int .u32 x0, .int .u32 t] 91))) := ⟨HD.out.below hb2, HM.out.below hb2, Cel.new _ _ _, hb2⟩; have hsz1 := hb.size; clear hb hb2)
    | (go_at_call 69; go_loud (with_reducible refine (drcLies_any base g v b d t _ HS2.out.1 HG.out v3 v4).mono ?_); rintro e2 w2 ⟨rfl, rfl⟩)
    | (go_at_call 71; go_loud (with_reducible refine (modFind_at mg l false _ s _ HS2.out.2.1 HL.out HW.out).mono ?_); rintro e3 w3 ⟨rfl, n3, rfl⟩; have HF3 := Lib.hid (show 0 < l.length ∧ mg < w.heap.size from ⟨h0, hml⟩))
    | (go_at_call 70; go_loud (with_reducible refine (drcTake_any base g v b d y x t _ HS5.out.1 HBy.out hbl hi HG.out HOk.out HWl.out).mono ?_); rintro e5 w5 ⟨rfl, hm, hk⟩; have HD5 := Lib.hid hm; have HK5 := Lib.hid hk; have HM5 := Lib.hid (HS5.out.2.1.keeps hk HNe.out.1); clear hm hk)
    | (go_at_call 59; go_loud (with_reducible refine (modLearn_any mg l s _ HM5.out HL.out v1).mono ?_); rintro e6 w6 ⟨rfl, hm, hk⟩; have HM6 := Lib.hid hm; have HK6 := Lib.hid hk; clear hm hk))
  refine bodyPost_ret (v := .tuple #[.int .i64 s, .int .i64 0]) (by simp [results, Try.results61, go_sem]) rfl ?_
  refine ⟨rfl, HD5.out.keeps HK6.out (fun c => HNe.out.1 c.symm) (fun r hr c => HNe.out.2 (c ▸ hr)), HM6.out, ((Keeps.of_below HS5.out.2.2).trans (HK5.out.mono fun j hj => .inl hj)).trans (HK6.out.mono fun j hj => .inr hj)⟩
theorem drcSymbol_nil (q : Option Addr) (w : World) :
    Calls Try.prog 61 #[.pointer none, .pointer q] w fun e w' => e = .returned (.tuple #[.int .i64 0, .int .i64 1]) ∧ w = w' := by
  go_enter Try.func61, Try.ntmps61
  go_wp2
  exact bodyPost_ret (v := .tuple #[.int .i64 0, .int .i64 1]) (by simp [results, Try.results61, go_sem]) rfl ⟨rfl, rfl⟩
theorem drcSymbol_none (p : Addr) (w : World) :
    Calls Try.prog 61 #[.pointer (some p), .pointer none] w fun e w' => e = .returned (.tuple #[.int .i64 0, .int .i64 1]) ∧ Below w.heap.size w w' := by
  have HZ : RowKit.Hid (partZ = .agg #[.int .u32 0, .int .u32 0, .int .u32 0]) := rfl
  go_enter Try.func61, Try.ntmps61
  go_wp2_with (go_at_call 58; go_loud (refine (modPart_nil _ _).mono ?_); rintro e4 w4 ⟨rfl, hb⟩; rw [HZ.out]; have HB := Lib.hid (hb.alloc hb.size (.cells #[.int .u32 0, .int .u32 0, .int .u32 0] 91)); clear hb)
  exact bodyPost_ret (v := .tuple #[.int .i64 0, .int .i64 1]) (by simp [results, Try.results61, go_sem]) rfl ⟨rfl, HB.out⟩
end Go.Proofs.Ytgnmnmjicjcffaa

/- What the functions of package rangedec give: bits. -/
namespace Go.Proofs.Ytgnmnmjicjcffaa
open Go.RowKit
set_option linter.unusedVariables false

theorem drcBits_nil (wide : Int) (w : World) :
    Calls Try.prog 60 #[.pointer none, .int .i64 wide] w fun e w' => e = .returned (.tuple #[.int .u32 0, .int .i64 1]) ∧ w = w' := by
  go_enter Try.func60, Try.ntmps60
  go_wp2
  exact bodyPost_ret (v := .tuple #[.int .u32 0, .int .i64 1]) (by simp [results, Try.results60, go_sem]) rfl ⟨rfl, rfl⟩
theorem drcBits_far (g : Nat) (wide : Int) (w : World) (h : wide < 0 ∨ 24 < wide) :
    Calls Try.prog 60 #[.pointer (some ⟨g, 0, none⟩), .int .i64 wide] w fun e w' => e = .returned (.tuple #[.int .u32 0, .int .i64 1]) ∧ w = w' := by
  rcases h with h | h
  · have d1 : decide (wide < 0) = true := by simpa using h
    go_enter Try.func60, Try.ntmps60
    go_wp2
    exact bodyPost_ret (v := .tuple #[.int .u32 0, .int .i64 1]) (by simp [results, Try.results60, go_sem]) rfl ⟨rfl, rfl⟩
  · have d1 : decide (wide < 0) = false := by simp; omega
    have d2 : decide (24 < wide) = true := by simpa using h
    go_enter Try.func60, Try.ntmps60
    go_wp2
    exact bodyPost_ret (v := .tuple #[.int .u32 0, .int .i64 1]) (by simp [results, Try.results60, go_sem]) rfl ⟨rfl, rfl⟩
def DrcBitsPost (base g : Nat) (v : Value) (b : List Int) (n : Int) (d : DecS) (w : World) (x : Ending) (w' : World) : Prop :=
  x = .returned (.tuple #[.int .u32 n, .int .i64 0]) ∧ DrcAt w' base g v b d ∧ Keeps (fun j => j = g) w w'

set_option maxHeartbeats 1000000 in
set_option maxRecDepth 100000 in
theorem drcBits_any (base g : Nat) (v : Value) (b : List Int) (d : DecS) (wide : Nat) (w : World) (hD : DrcAt w base g v b d) (hb : ∀ j, 0 ≤ byteF b j ∧ byteF b j ≤ 255) (hbl : b.length ≤ 1000000) (hi : d.i ≤ 4000000) (hG : GoodD d) (hw : wide ≤ 24) :
    Calls Try.prog 60 #[.pointer (some ⟨g, 0, none⟩), .int .i64 wide] w (DrcBitsPost base g v b (decBits b d 0 wide).1 (decBits b d 0 wide).2 w) := by
  have hd : decide ((wide : Int) < 0) = false := by simp <;> omega
  have hd2 : decide (24 < (wide : Int)) = false := by simp; omega
  have HBy := Lib.hid hb
  obtain ⟨R, hR⟩ : ∃ R, R = decBits b d 0 wide := ⟨_, rfl⟩
  rw [← hR]
  have H0 : RowKit.Hid (decBits b d 0 wide = R ∧ GoodD d ∧ DrcAt w base g v b d ∧ Keeps (fun j => j = g) w w ∧ (0 : Int) < P2 (wide - wide)) := ⟨hR.symm, hG, hD, Keeps.refl _ _, by rw [Nat.sub_self]; decide⟩
  clear hD hG hb hR
  go_enter Try.func60, Try.ntmps60
  go_wp2
  clear hd hd2
  go_loopw [1, 6, 7, 8] (fun q n _ _ wr => ∃ (k : Nat) (f : DecS) (m : Int), k ≤ wide ∧ q = .int .i64 k ∧ n = .int .u32 m ∧ 0 ≤ m ∧ f.i ≤ d.i + 3 * (wide - k) ∧ RowKit.Hid (decBits b f m k = R ∧ GoodD f ∧ DrcAt wr base g v b f ∧ Keeps (fun j => j = g) w wr ∧ m < P2 (wide - k))) (fun q _ _ _ _ => (intOf q).toNat)
  case atStart => exact ⟨wide, d, 0, by omega, rfl, rfl, by omega, by omega, H0.out⟩
  case round =>
    obtain ⟨k, f, m, hk, rfl, rfl, hm0, hfi, H⟩ := hrel
    clear H0
    obtain ⟨u1, u2, u3, u4, u5⟩ := H.out
    have HM := Lib.hid u3
    have HGf := Lib.hid u2
    by_cases hlt : 0 < k
    · by_cases hq12 : 12 < k
      · obtain ⟨lo, hlo⟩ : ∃ lo, k = lo + 12 := ⟨k - 12, by omega⟩
        subst hlo
        have hm1 : m ≤ 4095 := by
          have := P2_mono (a := wide - (lo + 12)) (b := 12) (by omega)
          rw [show P2 12 = 4096 by decide] at this
          omega
        obtain ⟨a0, a1, a2⟩ := decAt_bd HGf.out (show (1 : Int) ≤ 4096 by decide) (by decide)
        have HOk : RowKit.Hid (OkP (decAt f 4096) 1 4096) := ⟨by decide, by decide, by decide, a0, by omega⟩
        have HLow := Lib.hid a2
        have HE : RowKit.Hid (decBits b f m (lo + 12) = decBits b (decTake (byteF b) f (decAt f 4096) 1 4096) (m * 4096 + decAt f 4096) lo) := by
          have := decBits_high b f m hq12 (by omega)
          rw [Nat.add_sub_cancel] at this; exact this
        have HT := Lib.hid (decTake_good HBy.out HGf.out HOk.out HLow.out).1
        have HI := Lib.hid (decTake_i (byteF b) f (decAt f 4096) 1 4096)
        have hq5 := u5
        clear a2 u1 u2 u3 u4 u5
        have HP : RowKit.Hid (m * 4096 + decAt f 4096 < P2 (wide - lo)) := by
          show _ < _
          rw [show wide - lo = (wide - (lo + 12)) + 12 by omega, P2_add, show P2 12 = 4096 by decide]; omega
        have HTk : RowKit.Hid (∀ w2, DrcAt w2 base g v b f → Calls Try.prog 70 #[.pointer (some ⟨g, 0, none⟩), .agg #[.int .u32 (decAt f 4096), .int .u32 1, .int .u32 4096]] w2 (DrcPost base g v b (decTake (byteF b) f (decAt f 4096) 1 4096) w2)) :=
          fun w2 h2 => drcTake_any base g v b f _ 1 4096 w2 h2 HBy.out hbl (by omega) HGf.out HOk.out HLow.out
        have HLi : RowKit.Hid (∀ w2, DrcAt w2 base g v b f → Calls Try.prog 69 #[.pointer (some ⟨g, 0, none⟩), .int .u32 4096] w2 fun x w' => x = .returned (.int .u32 (decAt f 4096)) ∧ w2 = w') :=
          fun w2 h2 => drcLies_any base g v b f 4096 w2 h2 HGf.out (by decide) (by decide)
        generalize decTake (byteF b) f (decAt f 4096) 1 4096 = f2 at HE HT HI HTk
        generalize decAt f 4096 = x at a0 a1 HE HI HP HTk HLi HOk HLow
        have hor : bits .or .u32 (m * 4096) x = m * 4096 + x := u32_or_low (k := 12) hm0 a0 (show x < 4096 by omega) (show m * 4096 + 4096 ≤ 4294967296 by omega)
        have f1 : IntKind.u32.wrap (m * 4096) = m * 4096 := IntWalk.u32_in _ (by omega)
        have f2_ : IntKind.u32.wrap 4096 = 4096 := by decide
        clear HOk HLow
        go_wp2_with (first
          | (go_at_call 69; go_loud (with_reducible refine (HLi.out _ HM.out).mono ?_); rintro e2 w2 ⟨rfl, rfl⟩)
          | (go_at_call 70; go_loud (with_reducible refine (HTk.out _ HM.out).mono ?_); rintro e5 w5 ⟨rfl, hm, hk⟩; have HM5 := Lib.hid hm; have HK5 := Lib.hid hk; clear hm hk))
        go_roundw
        case rel => exact ⟨lo, f2, m * 4096 + x, by omega, rfl, rfl, by omega, by have := HI.out; omega, HE.out.symm.trans H.out.1, HT.out, HM5.out, H.out.2.2.2.1.trans HK5.out, HP.out⟩
        case measure => simp [intOf] <;> omega
      · have pk := P2_pos k
        have qk := P2_mono (a := k) (b := 12) (by omega)
        rw [show P2 12 = 4096 by decide] at qk
        have hm1 : m * P2 k + P2 k ≤ 16777216 := by
          have h1 : (m + 1) * P2 k ≤ P2 (wide - k) * P2 k := Int.mul_le_mul_of_nonneg_right (by omega) (by omega)
          rw [← P2_add, show wide - k + k = wide by omega, Int.add_mul, Int.one_mul] at h1
          have := P2_mono (a := wide) (b := 24) hw
          rw [show P2 24 = 16777216 by decide] at this
          omega
        have hm2 : 0 ≤ m * P2 k := Int.mul_nonneg hm0 (by omega)
        obtain ⟨a0, a1, a2⟩ := decAt_bd HGf.out (show 1 ≤ P2 k by omega) (show P2 k ≤ 8192 by omega)
        have HOk : RowKit.Hid (OkP (decAt f (P2 k)) 1 (P2 k)) := ⟨by omega, by omega, by decide, a0, by omega⟩
        have HLow := Lib.hid a2
        have HE : RowKit.Hid (decBits b f m k = (m * P2 k + decAt f (P2 k), decTake (byteF b) f (decAt f (P2 k)) 1 (P2 k))) := decBits_low b f m hlt (by omega)
        have HT := Lib.hid (decTake_good HBy.out HGf.out HOk.out HLow.out).1
        have HI := Lib.hid (decTake_i (byteF b) f (decAt f (P2 k)) 1 (P2 k))
        have hq5 := u5
        clear a2 u1 u2 u3 u4 u5
        have HP : RowKit.Hid (m * P2 k + decAt f (P2 k) < P2 wide) := by
          show _ < _
          have h1 : (m + 1) * P2 k ≤ P2 (wide - k) * P2 k := Int.mul_le_mul_of_nonneg_right (by omega) (by omega)
          rw [← P2_add, show wide - k + k = wide by omega, Int.add_mul, Int.one_mul] at h1
          omega
        have HTk : RowKit.Hid (∀ w2, DrcAt w2 base g v b f → Calls Try.prog 70 #[.pointer (some ⟨g, 0, none⟩), .agg #[.int .u32 (decAt f (P2 k)), .int .u32 1, .int .u32 (P2 k)]] w2 (DrcPost base g v b (decTake (byteF b) f (decAt f (P2 k)) 1 (P2 k)) w2)) :=
          fun w2 h2 => drcTake_any base g v b f _ 1 _ w2 h2 HBy.out hbl (by omega) HGf.out HOk.out HLow.out
        have HLi : RowKit.Hid (∀ w2, DrcAt w2 base g v b f → Calls Try.prog 69 #[.pointer (some ⟨g, 0, none⟩), .int .u32 (P2 k)] w2 fun x w' => x = .returned (.int .u32 (decAt f (P2 k))) ∧ w2 = w') :=
          fun w2 h2 => drcLies_any base g v b f _ w2 h2 HGf.out (by omega) (by omega)
        generalize decTake (byteF b) f (decAt f (P2 k)) 1 (P2 k) = f2 at HE HT HI HTk
        generalize decAt f (P2 k) = x at a0 a1 HE HI HP HTk HLi HOk HLow
        have hor : bits .or .u32 (m * P2 k) x = m * P2 k + x := u32_or_low hm0 a0 a1 (by omega)
        have hpq : IntKind.u32.wrap (2 ^ k) = P2 k := IntWalk.u32_in _ (by rw [pow_P2]; omega)
        have hpm : IntKind.u32.wrap (m * 2 ^ k) = m * P2 k := IntWalk.u32_in _ (by rw [pow_P2]; omega)
        have hmin : min (k : Int) 12 = k := by omega
        clear HOk HLow
        go_wp2_with (first
          | (go_at_call 69; go_loud (with_reducible refine (HLi.out _ HM.out).mono ?_); rintro e2 w2 ⟨rfl, rfl⟩)
          | (go_at_call 70; go_loud (with_reducible refine (HTk.out _ HM.out).mono ?_); rintro e5 w5 ⟨rfl, hm, hk⟩; have HM5 := Lib.hid hm; have HK5 := Lib.hid hk; clear hm hk))
        go_roundw
        case rel => exact ⟨0, f2, m * P2 k + x, by omega, rfl, rfl, by omega, by have := HI.out; omega, by rw [decBits_zero]; exact HE.out.symm.trans H.out.1, HT.out, HM5.out, H.out.2.2.2.1.trans HK5.out, HP.out⟩
        case measure => simp [intOf] <;> omega
    · obtain rfl : k = 0 := by omega
      go_wp2
      rw [decBits_zero] at u1
      subst u1
      exact bodyPost_ret (v := .tuple #[.int .u32 m, .int .i64 0]) (by simp [results, Try.results60, go_sem]) rfl ⟨rfl, u3, u4⟩
end Go.Proofs.Ytgnmnmjicjcffaa

/- What the functions of package rangeenc give: symbols that there aren't, the bytes. -/
namespace Go.Proofs.Ytgnmnmjicjcffaa
open Go.RowKit
set_option linter.unusedVariables false

set_option maxRecDepth 100000 in
theorem rncSymbol_out (p : Option Addr) (mg : Nat) (l : List Int) (fx : Bool) (s : Int) (w : World) (hM : ModAt w mg l fx) (hs : ¬ (0 ≤ s ∧ s < l.length)) :
    Calls Try.prog 44 #[.pointer p, .pointer (some ⟨mg, 0, none⟩), .int .i64 s] w fun e w' => e = .returned (.int .i64 1) ∧ Below w.heap.size w w' := by
  have HZ : RowKit.Hid (partZ = .agg #[.int .u32 0, .int .u32 0, .int .u32 0]) := rfl
  have HM := Lib.hid hM
  have HS := Lib.hid hs
  clear hM hs
  go_enter Try.func44, Try.ntmps44
  go_wp2_with (go_at_call 58; go_loud (refine (modPart_out mg l fx s _ HM.out HS.out).mono ?_); rintro e1 w1 ⟨rfl, hb⟩; rw [HZ.out]; have HB1 := Lib.hid (hb.trans ((Below.alloc_new w1 (.cells #[.int .u32 0, .int .u32 0, .int .u32 0] 91)).mono hb.size)); clear hb)
  go_ret
  exact ⟨rfl, HB1.out⟩
set_option maxRecDepth 100000 in
theorem rncSymbol_none (p : Option Addr) (s : Int) (w : World) :
    Calls Try.prog 44 #[.pointer p, .pointer none, .int .i64 s] w fun e w' => e = .returned (.int .i64 1) ∧ Below w.heap.size w w' := by
  have HZ : RowKit.Hid (partZ = .agg #[.int .u32 0, .int .u32 0, .int .u32 0]) := rfl
  go_enter Try.func44, Try.ntmps44
  go_wp2_with (go_at_call 58; go_loud (refine (modPart_nil s _).mono ?_); rintro e1 w1 ⟨rfl, hb⟩; rw [HZ.out]; have HB1 := Lib.hid (hb.trans ((Below.alloc_new w1 (.cells #[.int .u32 0, .int .u32 0, .int .u32 0] 91)).mono hb.size)); clear hb)
  go_ret
  exact ⟨rfl, HB1.out⟩
set_option maxRecDepth 100000 in
theorem rncSymbol_nil (mg : Nat) (l : List Int) (fx : Bool) (s : Int) (w : World) (hM : ModAt w mg l fx) (hL : GoodL l) :
    Calls Try.prog 44 #[.pointer none, .pointer (some ⟨mg, 0, none⟩), .int .i64 s] w fun e w' => e = .returned (.int .i64 1) ∧ Below w.heap.size w w' := by
  by_cases hs : 0 ≤ s ∧ s < l.length
  · obtain ⟨k, hk⟩ : ∃ k : Nat, s = k := ⟨s.toNat, by omega⟩
    subst hk
    have hk : k < l.length := by omega
    have HV : RowKit.Hid (partV l k = .agg #[.int .u32 (sumN l k), .int .u32 (l.getD k 0), .int .u32 l.sum]) := rfl
    have HM := Lib.hid hM
    have HL := Lib.hid hL
    clear hM hL hs
    generalize l.getD k 0 = x at HV
    generalize l.sum = t at HV
    generalize sumN l k = y at HV
    go_enter Try.func44, Try.ntmps44
    go_wp2_with (first | (go_at_call 58; go_loud (refine (modPart_at mg l fx k _ _ _ rfl HM.out HL.out hk HV.out).mono ?_); rintro e1 w1 ⟨rfl, hb⟩; have HB1 := Lib.hid (hb.trans ((Below.alloc_new w1 (.cells #[.int .u32 y, .int .u32 x, .int .u32 t] 91)).mono hb.size)); clear hb) | (go_at_call 56; go_loud (with_reducible refine (rncPut_nil y x t _).mono ?_); rintro e2 w2 ⟨rfl, hb⟩; have HB2 := Lib.hid (HB1.out.trans (hb.mono HB1.out.size)); clear hb))
    go_ret
    exact ⟨rfl, HB2.out⟩
  · exact rncSymbol_out none mg l fx s w hM hs

theorem make_empty {P : Program} {t e : TypeId} {k : IntKind} {b : Nat} (ht : P.underlying t = some (.slice e)) (hi : (P.info? e).map (fun i => (i.zero, i.size, i.bytes)) = some (some (.int k 0), 1, b))
    (n : Int) (c : Nat) (hn0 : n = c) (hb : b * c ≤ 281474976710656) (hn : c ≤ 9223372036854775807) (w : World) :
    (Instr.makeSlice t (.int .i64 0) (.int .i64 n)).run P w = .ok (.slice (some ⟨w.heap.size, 0, none⟩) 0 c) (w.alloc (.cells (madeCells #[.int k 0] c) e)) := by
  subst hn0
  obtain ⟨i, h1, h2, h3, h4⟩ := info_parts hi
  have hb' : (i.bytes : Int) * (c : Int) ≤ 281474976710656 := by
    have h : ((i.bytes * c : Nat) : Int) ≤ 281474976710656 := by rw [h4]; omega
    rwa [Int.natCast_mul] at h
  have hr := run_make (P := P) w t e i (.int k 0) ht h1 h2 .i64 .i64 0 c (by omega) (by omega) hb' (by omega)
  rw [hr, h3]
  simp [Value.cells]
theorem own_none {w : World} {base e n c : Nat} {a : Option Addr} {xs : List Value} (h : w.ownsRow base e 1 (.slice a n c) n xs) : a = none → c = 0 := by
  rintro rfl
  rcases h.2 with ⟨h1, _⟩ | ⟨g, cap, cur, h1, _⟩
  · injection h1
  · injection h1 with h1; cases h1
theorem rncBytes_nil (w : World) :
    Calls Try.prog 18 #[.pointer none] w fun e w' => e = .returned (.slice none 0 0) ∧ w = w' := by
  go_enter Try.func18, Try.ntmps18
  go_wp2
  go_ret
  exact ⟨rfl, rfl⟩

set_option maxRecDepth 100000 in
theorem rncBytes_any (base g : Nat) (v : Value) (n : Int) (k : Nat) (less : Int) (w : World) (hE : EncR w base g v n k less) (hk : k ≤ 900000) :
    Calls Try.prog 18 #[.pointer (some ⟨g, 0, none⟩)] w (BytesPost (bytesL (digL n (k + 4))) w) := by
  have HR := Lib.hid hE
  obtain ⟨D, last, h1, h2, h3, h4, h5, h6⟩ := hE
  obtain ⟨c0, c1, c2⟩ := h1.cells
  have ho := h1.2.1
  rw [h3] at ho
  obtain ⟨a, c, rfl⟩ := own_form ho
  have HD4 := Lib.hid (four_dig h2 h3 h4 h5 h6)
  have HI := Lib.hid (own_ints' ho)
  have HN := Lib.hid (own_none ho)
  have H1 := Lib.hid h1
  have hgl := h1.lt
  have hmk := make_empty (P := Try.prog) Try.underlying33 info_u806 ((k : Int) + 4) (k + 4) (by omega) (by omega) (by omega) w
  have hsz : (madeCells #[Value.int .u8 0] (k + 4)).size = (k + 4) * 1 := by rw [size_madeCells]; omega
  have HO0 := Lib.hid (World.ownsRow_made (base := w.heap.size) (e := 5) (size := 1) w (madeCells #[Value.int .u8 0] (k + 4)) (k + 4) (Nat.le_refl _) (by unfold maxLen; omega) hsz)
  have HB0 := Lib.hid (Below.alloc_new w (.cells (madeCells #[Value.int .u8 0] (k + 4)) 5))
  have hk1 : k ≤ 1000000 := by omega
  clear h1 h2 h3 h6 ho c2 hsz
  generalize madeCells #[Value.int .u8 0] (k + 4) = mc at hmk HO0 HB0
  go_enter Try.func18, Try.ntmps18
  go_wp2_with (first | (go_at_call 34; ((with_reducible refine (rncLen_any base g _ n k less _ HR.out hk1).mono ?_)); rintro e w' ⟨rfl, rfl⟩) | (at_builtin; go_loud (refine append_ints rfl _ _ 33 rfl w.heap.size 5 .u8 1 Try.underlying33 info_u806 _ 0 [] rfl HO0.out a k c w.heap.size D rfl (HI.out.below HB0.out) HN.out ?c1 ?c2 ?c3 ?_)))
  case c1 => unfold maxLen; omega
  case c2 => omega
  case c3 => simp
  intro v2 w2 hown hgrow _
  have hb2 := HB0.out.grown hgrow (by simp) (own_base HO0.out)
  obtain ⟨a2, cp2, rfl⟩ := own_form hown
  have c1' : w2.cell? ⟨g, 1, none⟩ = some (.int .u32 last) := (hb2.cell (p := ⟨g, 1, none⟩) hgl).trans c1
  have HO2 := Lib.hid hown
  have HB2 := Lib.hid hb2
  clear hown hgrow hb2 c0 c1 hmk
  obtain ⟨q0, hq0⟩ : ∃ q, q = last / 16777216 % 256 := ⟨_, rfl⟩
  obtain ⟨q1, hq1⟩ : ∃ q, q = last / 65536 % 256 := ⟨_, rfl⟩
  obtain ⟨q2, hq2⟩ : ∃ q, q = last / 256 % 256 := ⟨_, rfl⟩
  obtain ⟨q3, hq3⟩ : ∃ q, q = last % 256 := ⟨_, rfl⟩
  have HF : RowKit.Hid (four last = [q0, q1, q2, q3]) := by show _ = _; unfold four; rw [hq0, hq1, hq2, hq3]
  have e0 : IntKind.u8.wrap (last / 16777216) = q0 := by rw [hq0]; rfl
  have e1 : IntKind.u8.wrap (last / 65536) = q1 := by rw [hq1]; rfl
  have e2 : IntKind.u8.wrap (last / 256) = q2 := by rw [hq2]; rfl
  have e3 : IntKind.u8.wrap last = q3 := by rw [hq3]; rfl
  clear hq0 hq1 hq2 hq3
  have ag : some g ≠ (Value.slice a2 k cp2).ownBlock := fun e => by
    have := own_base HO2.out g e.symm
    omega
  obtain ⟨i0, hi, hzz, hz1, hz2⟩ := info_parts info_u806
  have hsz2 := HB2.out.size
  have HO4 := Lib.hid (World.ownsRow.alloc HO2.out (.cells #[.int .u8 q0, .int .u8 q1, .int .u8 q2, .int .u8 q3] 5))
  have HB4 := Lib.hid (HB2.out.alloc hsz2 (.cells #[.int .u8 q0, .int .u8 q1, .int .u8 q2, .int .u8 q3] 5))
  go_wp2
  go_region_held3 (fun w' => w'.cell? ⟨g, 1, none⟩ = some (.int .u32 last))
    (first | go_keep | (rw [hgrow.cell_far _ (by simp; omega) ag]; assumption))
    ((refine step_append_lies _ (by rfl) _ _ _ (by rfl) w.heap.size 5 i0 (.int .u8 0) 1 1 Try.underlying33 hi hzz hz1 hz2 rfl (by decide) (.slice a2 k cp2) k _ (by rfl) HO4.out.drew ⟨w2.heap.size, 0, none⟩ 4 4 [.int .u8 q0, .int .u8 q1, .int .u8 q2, .int .u8 q3] (by rfl) (by rfl) (World.news_of_block (cs := #[.int .u8 q0, .int .u8 q1, .int .u8 q2, .int .u8 q3]) (t := 5) (fr := (0, 0)) (heap_alloc_new w2 _)) (by simp [Value.oneCell']) (by omega) (by unfold maxLen; omega) (by omega) (by simp; omega) (w2.heap.size + 1) (by simp) ?_; intro gg cp w5 hown hgrow hat hlt2))
  have hown5 : w5.ownsRow w.heap.size 5 1 (.slice (some ⟨gg, 0, none⟩) (k + 4) cp) (k + 4) ((digL n (k + 4)).map (Value.int .u8)) := by
    rw [← HD4.out, HF.out]; simpa using hown
  have HB5 : RowKit.Hid (Below w.heap.size w w5) := (Below.drewN' HB4.out 1).grown hgrow (by simp; omega) (own_base HO4.out)
  have hcp : k + 4 ≤ cp ∧ cp ≤ 9223372036854775807 := by
    rcases hown5.2 with ⟨h, _⟩ | ⟨g', cap, cur, h, _, _, h2, h3, _⟩
    · injection h with h; cases h
    · unfold maxLen at h3; injection h with _ _ h; omega
  obtain ⟨hcp, hcpm⟩ := hcp
  have HO5 := Lib.hid hown5
  obtain ⟨L, hL⟩ : ∃ L, L = digL n (k + 4) := ⟨_, rfl⟩
  have HLd : RowKit.Hid (IsDig L ∧ L.length = k + 4) := by rw [hL]; exact ⟨digL_dig _ _, digL_len _ _⟩
  rw [← hL] at HO5
  have HLq : RowKit.Hid (digL n (k + 4) = L) := hL.symm
  clear hown hgrow hown5 hL HO4 HB4 HO2 HB2 HD4 HF hat hlt2 ag HO0 HB0 HI HN H1 HR
  go_wp2
  go_loopw [4] (fun i wr => ∃ j : Nat, j ≤ k + 4 ∧ i = .int .i64 j ∧ RowKit.Hid (lastK L j = lastK L (k + 4)) ∧ wr = w5) (fun i _ => (intOf i).toNat)
  case atStart => exact ⟨k + 4, by omega, by go_num, rfl, rfl⟩
  case round =>
    obtain ⟨j, hj, rfl, H, rfl⟩ := hrel
    by_cases hz : j = 0
    · have hm : lastK L (k + 4) = -1 := by rw [← H.out, hz]; rfl
      have HE : RowKit.Hid (bytesL L = []) := by
        show _ = _
        unfold bytesL; rw [HLd.out.2, hm]; rfl
      subst hz
      clear H hm
      go_wp2
      go_ret
      rw [HLq.out, HE.out]
      exact ⟨some ⟨gg, 0, none⟩, cp, rfl, ⟨rfl, .inl rfl⟩, HB5.out⟩
    · obtain ⟨p, hp⟩ : ∃ p, j = p + 1 := ⟨j - 1, by omega⟩
      subst hp
      have hcell : wr.cell? ⟨gg, p, none⟩ = some (.int .u8 (L.getD p 0)) := by
        rw [HO5.out.cellAt p (by omega), List.getElem?_map, List.getElem?_eq_getElem (by rw [HLd.out.2]; omega)]
        simp [List.getD, show p < L.length by rw [HLd.out.2]; omega]
      have E : RowKit.Hid (lastK L (p + 1) = if L.getD p 0 = 0 then lastK L p else p) := rfl
      generalize L.getD p 0 = x at hcell E
      by_cases hx : x = 0
      · have hq : (x == 0) = true := by simpa using hx
        have E2 : RowKit.Hid (lastK L p = lastK L (k + 4)) := by
          show _ = _
          rw [← H.out, E.out, if_pos hx]
        clear hx
        go_wp2
        go_roundw
        case rel => exact ⟨p, by omega, rfl, E2.out, trivial⟩
        case measure => simp [intOf] <;> omega
      · have hq : (x == 0) = false := by simpa using hx
        have HE : RowKit.Hid (bytesL L = L.take (p + 1)) := by
          have hm : lastK L (k + 4) = p := by rw [← H.out, E.out, if_neg hx]
          show _ = _
          unfold bytesL
          rw [HLd.out.2, hm]
          congr 1
        have HI5 := Lib.hid (own_ints' HO5.out)
        clear hx
        go_wp2
        go_ret
        rw [HLq.out, HE.out]
        have e : (L.take (p + 1)).length = p + 1 := by rw [List.length_take, HLd.out.2]; omega
        refine ⟨some ⟨gg, 0, none⟩, cp, by rw [e]; rfl, ?_, HB5.out⟩
        rw [e]
        exact HI5.out.take hj
end Go.Proofs.Ytgnmnmjicjcffaa

/- The walks of the statements of layer 6: what may be, the example, no encoder. -/
namespace Go.Proofs.Ytgnmnmjicjcffaa
open Go.RowKit
set_option linter.unusedVariables false

theorem rncBits_at (base g : Nat) (v : Value) (e f : EncS) (n : Int) (wide : Nat) (i : Int) (w : World) (hi : i = wide) (hf : encBits e n wide = f) (hE : EncAt w base g v e) (hG : GoodE e) (n0 : 0 ≤ n) (n1 : n ≤ 4294967295) (hw : wide ≤ 24) (h : n < P2 wide) (hk : e.k ≤ 800000) :
    Calls Try.prog 42 #[.pointer (some ⟨g, 0, none⟩), .int .u32 n, .int .i64 i] w (PutPost base g v f (.int .i64 0) w) := by
  subst hi; subst hf; exact rncBits_any base g v e n wide w hE hG n0 n1 hw h hk
theorem rncBytes_at (base g : Nat) (v : Value) (e : EncS) (b : List Int) (w : World) (hE : EncAt w base g v e) (hk : e.k ≤ 900000) (hb : bytesL (digL e.n (e.k + 4)) = b) :
    Calls Try.prog 18 #[.pointer (some ⟨g, 0, none⟩)] w (BytesPost b w) := by
  subst hb; exact rncBytes_any base g v _ _ _ w hE hk

/-- The two encoders of the example. -/
def exA : EncS := ⟨0, 4294967040, 1⟩
def exB : EncS := ⟨549755781120, 4294967040, 1⟩
theorem exA_eq : encBits encNew 0 8 = exA := by kernel_rfl
theorem exB_eq : encBits encNew 128 8 = exB := by kernel_rfl
theorem exA_bytes : bytesL (digL exA.n (exA.k + 4)) = [] := by decide
theorem exB_bytes : bytesL (digL exB.n (exB.k + 4)) = [127, 255, 255, 128] := by decide

theorem enc_two {w w' : World} {b1 g1 b2 g2 : Nat} {v1 v2 : Value} {e1 e2 f : EncS} (h1 : EncAt w b1 g1 v1 e1) (h2 : EncAt w b2 g2 v2 e2) (hne : g1 ≠ g2) (ho1 : v1.ownBlock ≠ some g2) (ho2 : v2.ownBlock ≠ some g1) (ho : ∀ r, v1.ownBlock = some r → v2.ownBlock ≠ some r)
    (hk : Keeps (fun j => j = g1 ∨ v1.ownBlock = some j) w w') : EncAt w' b2 g2 v2 e2 :=
  h2.keeps hk (by rintro (c | c); exact hne c.symm; exact ho1 c) (by rintro r hr (c | c); exact ho2 (c ▸ hr); exact ho r c hr)
end Go.Proofs.Ytgnmnmjicjcffaa

/- The walks of the statements of layer 7: the example, no decoder. -/
namespace Go.Proofs.Ytgnmnmjicjcffaa
open Go.RowKit
set_option linter.unusedVariables false

theorem isDig_of {b : List Int} (h : ∀ x ∈ b, 0 ≤ x ∧ x ≤ 255) : IsDig b := by
  intro j hj
  simp only [List.getD, List.getElem?_eq_getElem hj, Option.getD_some]
  exact h _ (List.getElem_mem hj)
theorem byteF_bd {b : List Int} (h : IsDig b) (j : Nat) : 0 ≤ byteF b j ∧ byteF b j ≤ 255 := by
  unfold byteF
  by_cases hj : j < b.length
  · exact h j hj
  · rw [List.getD, List.getElem?_eq_none (by omega)]; decide
theorem some_of_ints {w : World} {B len : Nat} {k : IntKind} {a : Option Addr} {zs : List Int} {cap : Nat} (h : IntsAt w B k a len zs) (h0 : 0 < len) : a = none → cap = 0 := by
  intro e
  rcases h.2 with h2 | ⟨_, _, h2, _⟩
  · omega
  · rw [e] at h2; cases h2
theorem goodD_new {b : List Int} (h : IsDig b) : GoodD (decNew (byteF b)) := by
  have a := valB_nonneg (fun j => (byteF_bd h j).1) 4
  have b0 := byteF_bd h 0
  have b1 := byteF_bd h 1
  have b2 := byteF_bd h 2
  have b3 := byteF_bd h 3
  refine ⟨by show (16777216 : Int) ≤ 4294967295; decide, by show (4294967295 : Int) ≤ 4294967295; decide, a, ?_⟩
  show (((0 * 256 + byteF b 0) * 256 + byteF b 1) * 256 + byteF b 2) * 256 + byteF b 3 ≤ 4294967295
  omega
theorem drcBits_at (base g : Nat) (v : Value) (b : List Int) (d f : DecS) (n : Int) (wide : Nat) (i : Int) (w : World) (hi' : i = wide) (hf : decBits b d 0 wide = (n, f)) (hD : DrcAt w base g v b d) (hb : ∀ j, 0 ≤ byteF b j ∧ byteF b j ≤ 255) (hbl : b.length ≤ 1000000) (hi : d.i ≤ 4000000) (hG : GoodD d) (hw : wide ≤ 24) :
    Calls Try.prog 60 #[.pointer (some ⟨g, 0, none⟩), .int .i64 i] w (DrcBitsPost base g v b n f w) := by
  subst hi'
  have := drcBits_any base g v b d wide w hD hb hbl hi hG hw
  rw [hf] at this; exact this

/-- The example. -/
def exL : List Int := [18, 253, 14, 208, 47]
def exE : EncS := ⟨20878084550400, 268435200, 2⟩
def exD : DecS := ⟨0, 268435200, 6⟩
def exS : DecS := decNew (byteF exL)
theorem exE_eq : encBits encNew 77777 20 = exE := by kernel_rfl
theorem exE_bytes : bytesL (digL exE.n (exE.k + 4)) = exL := by decide
theorem exD_eq : decBits exL exS 0 20 = (77777, exD) := by kernel_rfl
theorem exL_dig : IsDig exL := isDig_of (by decide)

def ex0S : DecS := decNew (byteF [])
def ex0D : DecS := ⟨0, 2147483392, 5⟩
theorem ex0_eq : decBits [] ex0S 0 9 = (0, ex0D) := by kernel_rfl
theorem dig_nil : IsDig [] := isDig_of (by decide)
theorem ints_nil (w : World) : IntsAt w w.heap.size .u8 none 0 [] := ⟨rfl, .inl rfl⟩
theorem drcNew_nil (w : World) : Calls Try.prog 20 #[.slice none 0 0] w (DrcNewPost [] w) :=
  drcNew_any none 0 0 [] w (ints_nil w) (fun _ => rfl) (byteF_bd dig_nil) (by decide)
end Go.Proofs.Ytgnmnmjicjcffaa

/- The walk of RangedecReads: what is held of memory on the way. -/
namespace Go.Proofs.Ytgnmnmjicjcffaa
open Go.RowKit
set_option linter.unusedVariables false

/-! ### Whatever is read, the state is a good one -/
theorem decSym_good {b : List Int} {d : DecS} {l : List Int} (hb : ∀ j, 0 ≤ byteF b j ∧ byteF b j ≤ 255) (hG : GoodD d) (hL : GoodL l) : GoodD (decSym b d l) ∧ (decSym b d l).i ≤ d.i + 2 := by
  obtain ⟨v1, v2, v3, v4⟩ := decWhich_is hG hL
  exact ⟨(decTake_good hb hG (okP_sym hL v1) v2).1, decTake_i _ _ _ _ _⟩
theorem decOne_good {b : List Int} {d : DecS} {k : Nat} (hb : ∀ j, 0 ≤ byteF b j ∧ byteF b j ≤ 255) (hG : GoodD d) (hk : k ≤ 12) : GoodD (decTake (byteF b) d (decAt d (P2 k)) 1 (P2 k)) ∧ (decTake (byteF b) d (decAt d (P2 k)) 1 (P2 k)).i ≤ d.i + 2 ∧ 0 ≤ decAt d (P2 k) ∧ decAt d (P2 k) < P2 k := by
  have pk := P2_pos k
  have qk := P2_mono (a := k) (b := 12) hk
  rw [show P2 12 = 4096 by decide] at qk
  obtain ⟨a0, a1, a2⟩ := decAt_bd hG (show 1 ≤ P2 k by omega) (show P2 k ≤ 8192 by omega)
  exact ⟨(decTake_good hb hG ⟨by omega, by omega, by decide, a0, by omega⟩ a2).1, decTake_i _ _ _ _ _, a0, a1⟩
theorem decBits_good {b : List Int} {d : DecS} {k : Nat} (hb : ∀ j, 0 ≤ byteF b j ∧ byteF b j ≤ 255) (hG : GoodD d) (hk : k ≤ 24) : GoodD (decBits b d 0 k).2 ∧ (decBits b d 0 k).2.i ≤ d.i + 4 ∧ 0 ≤ (decBits b d 0 k).1 ∧ (decBits b d 0 k).1 ≤ 16777215 := by
  by_cases h0 : k = 0
  · subst h0; rw [decBits_zero]; exact ⟨hG, Nat.le_add_right _ _, by show (0 : Int) ≤ 0; decide, by show (0 : Int) ≤ 16777215; decide⟩
  · by_cases h12 : k ≤ 12
    · rw [decBits_low b d 0 (by omega) h12]
      obtain ⟨g1, g2, g3, g4⟩ := decOne_good hb hG h12
      have qk := P2_mono (a := k) (b := 12) h12
      rw [show P2 12 = 4096 by decide] at qk
      simp only
      exact ⟨g1, by omega, by omega, by omega⟩
    · rw [decBits_high b d 0 (by omega) hk]
      obtain ⟨g1, g2, g3, g4⟩ := decOne_good hb hG (show 12 ≤ 12 by decide)
      have e12 : P2 12 = 4096 := by decide
      rw [e12] at g1 g2 g3 g4
      obtain ⟨f1, f2, f3, f4⟩ := decOne_good hb g1 (show k - 12 ≤ 12 by omega)
      have qk := P2_mono (a := k - 12) (b := 12) (by omega)
      rw [e12] at qk
      have pk := P2_pos (k - 12)
      rw [decBits_low b _ _ (show 0 < k - 12 by omega) (by omega)]
      have m1 : (0 * 4096 + decAt d 4096) * P2 (k - 12) ≤ 4095 * P2 (k - 12) := Int.mul_le_mul_of_nonneg_right (by omega) (by omega)
      have m0 : 0 ≤ (0 * 4096 + decAt d 4096) * P2 (k - 12) := Int.mul_nonneg (by omega) (by omega)
      simp only
      exact ⟨f1, by omega, by omega, by omega⟩

/-! ### The objects -/
structure Obj7 where
  mg : Nat
  xg : Nat
  xr : Nat
  g : Nat
  gf : Nat
  bx : Nat
  bd : Nat
  bf : Nat
  n : Nat
/-- What is held of memory on the way. -/
structure St7 (w0 : World) (o : Obj7) (b : List Int) (v vf : Value) (w : World) (L1 L2 : List Int) (D1 D2 : DecS) : Prop where
  m : ModAt w o.mg L1 false
  x : RefMod w o.bx o.xg o.xr L2 false
  e : DrcAt w o.bd o.g v b D1
  q : DecMem w o.bf o.gf vf b D2
  gm : GoodL L1
  gx : GoodL L2
  ge : GoodD D1
  gq : GoodD D2
  lm : L1.length = o.n
  b : Below w0.heap.size w0 w
  d : w0.heap.size ≤ o.mg ∧ o.mg < o.bx ∧ o.xg < o.bd ∧ o.xr < o.bd ∧ o.g < o.bf
  ov : ∀ k, v.ownBlock = some k → k < o.bf
section
variable {w0 w w' : World} {o : Obj7} {b : List Int} {v vf : Value} {L1 L2 : List Int} {D1 D2 : DecS}
theorem St7.below (h : St7 w0 o b v vf w L1 L2 D1 D2) (hb : Below w.heap.size w w') : St7 w0 o b v vf w' L1 L2 D1 D2 :=
  ⟨h.m.below hb, h.x.below hb, h.e.below hb, h.q.below hb, h.gm, h.gx, h.ge, h.gq, h.lm, h.b.trans (hb.mono h.b.size), h.d, h.ov⟩
theorem St7.drewN (h : St7 w0 o b v vf w L1 L2 D1 D2) (n : Nat) : St7 w0 o b v vf (w.drewN n) L1 L2 D1 D2 := h.below (Below.drewN' (Below.refl _ _) n)
theorem St7.nums (h : St7 w0 o b v vf w L1 L2 D1 D2) : w0.heap.size ≤ o.mg ∧ o.mg < o.bx ∧ o.bx ≤ o.xg ∧ o.bx ≤ o.xr ∧ o.xg < o.bd ∧ o.xr < o.bd ∧ o.bd ≤ o.g ∧ o.g < o.bf ∧ o.bf ≤ o.gf := by
  have a := h.d
  have b := h.x.lt
  have d := h.e.lt
  have e := h.q.2.2
  omega
theorem St7.ownv (h : St7 w0 o b v vf w L1 L2 D1 D2) (j : Nat) (hj : v.ownBlock = some j) : o.bd ≤ j ∧ j < o.bf ∧ j ≠ o.g := by
  have a := h.e.own j hj
  exact ⟨a.2.1, h.ov j hj, a.2.2⟩
theorem St7.ownf (h : St7 w0 o b v vf w L1 L2 D1 D2) (j : Nat) (hj : vf.ownBlock = some j) : o.bf ≤ j ∧ j ≠ o.gf := ⟨own_base h.q.2.1 j hj, h.q.ne j hj⟩
theorem St7.prog {L1' : List Int} {D1' : DecS} (h : St7 w0 o b v vf w L1 L2 D1 D2) (hk : Keeps (fun j => j = o.g ∨ j = o.mg) w w') (he : DrcAt w' o.bd o.g v b D1') (hm : ModAt w' o.mg L1' false) (g1 : GoodL L1') (g2 : GoodD D1') (l1 : L1'.length = o.n) :
    St7 w0 o b v vf w' L1' L2 D1' D2 := by
  have n := h.nums
  exact ⟨hm, h.x.keeps hk (by omega) (by omega), he, h.q.keeps hk (by omega) (fun k hk => by have := h.ownf k hk; omega), g1, h.gx, g2, h.gq, l1, h.b.trans (hk.below h.b.size (by omega)), h.d, h.ov⟩
theorem St7.progE {D1' : DecS} (h : St7 w0 o b v vf w L1 L2 D1 D2) (hk : Keeps (fun j => j = o.g) w w') (he : DrcAt w' o.bd o.g v b D1') (g2 : GoodD D1') : St7 w0 o b v vf w' L1 L2 D1' D2 := by
  have n := h.nums
  exact h.prog (hk.mono fun j hj => .inl hj) he (h.m.keeps hk (by omega)) h.gm g2 h.lm
theorem St7.ref {L2' : List Int} {D2' : DecS} (h : St7 w0 o b v vf w L1 L2 D1 D2) (hk : Keeps (fun j => j = o.gf ∨ j = o.xr) w w') (he : DecMem w' o.bf o.gf vf b D2') (hx : RefMod w' o.bx o.xg o.xr L2' false) (g1 : GoodL L2') (g2 : GoodD D2') : St7 w0 o b v vf w' L1 L2' D1 D2' := by
  have n := h.nums
  exact ⟨h.m.keeps hk (by omega), hx, h.e.keeps hk (by omega) (fun k hk => by have := h.ownv k hk; omega), he, h.gm, g1, h.ge, g2, h.lm, h.b.trans (hk.below h.b.size (by omega)), h.d, h.ov⟩
theorem St7.refE {D2' : DecS} (h : St7 w0 o b v vf w L1 L2 D1 D2) (hk : Keeps (fun j => j = o.gf) w w') (he : DecMem w' o.bf o.gf vf b D2') (g2 : GoodD D2') : St7 w0 o b v vf w' L1 L2 D1 D2' := by
  have n := h.nums
  exact h.ref (hk.mono fun j hj => .inl hj) he (h.x.keeps hk (by omega) (by omega)) h.gx g2
theorem St7.row (h : St7 w0 o b v vf w L1 L2 D1 D2) {r : Nat} (hk : Keeps (fun j => j = r) w w') (h0 : w0.heap.size ≤ r) (h1 : r ≠ o.mg) (h2 : r ≠ o.xg) (h3 : r ≠ o.xr) (h4 : r < o.bd) : St7 w0 o b v vf w' L1 L2 D1 D2 := by
  have n := h.nums
  exact ⟨h.m.keeps hk (by omega), h.x.keeps hk (by omega) (by omega), h.e.keeps hk (by omega) (fun k hk => by have := h.ownv k hk; omega), h.q.keeps hk (by omega) (fun k hk => by have := h.ownf k hk; omega), h.gm, h.gx, h.ge, h.gq, h.lm, h.b.trans (hk.below h.b.size (by omega)), h.d, h.ov⟩
theorem St7.dis (h : St7 w0 o b v vf w L1 L2 D1 D2) : o.xg ≠ o.gf ∧ o.xr ≠ o.gf ∧ ∀ k, vf.ownBlock = some k → k ≠ o.xg ∧ k ≠ o.xr := by
  have n := h.nums
  exact ⟨by omega, by omega, fun k hk => by have := h.ownf k hk; omega⟩
end

/-! ### What the frame of a statement says of a slice of numbers that came in -/
theorem none_cap {w : World} {k : IntKind} {a : Option Addr} {len cap : Nat} {zs : List Int}
    (h : (a = none ∧ len = 0 ∧ cap = 0 ∧ zs = []) ∨ ∃ x, a = some x ∧ len ≤ cap ∧ cap ≤ maxLen ∧ zs.length = cap ∧ (∀ i, i < zs.length → w.cell? (x.add i) = some (.int k (zs.getD i 0))) ∧ ∀ n ∈ zs, (Lit.int k n).wf = true) : a = none → cap = 0 := by
  rintro rfl
  rcases h with ⟨_, _, h, _⟩ | ⟨x, h, _⟩
  · exact h
  · cases h
theorem isDig_wf {zs : List Int} (h : ∀ n ∈ zs, (Lit.int .u8 n).wf = true) : IsDig zs := fun j _ => by simpa [List.getD] using range_u8 h j
theorem u16_wf {zs : List Int} (h : ∀ n ∈ zs, (Lit.int .u16 n).wf = true) (j : Nat) : 0 ≤ zs.getD j 0 ∧ zs.getD j 0 ≤ 65535 := by simpa [List.getD] using range_u16 h j
end Go.Proofs.Ytgnmnmjicjcffaa

/- Plain facts for RangedecAgain: what is put, symbol by symbol, and that it comes back. Nothing here speaks of the program. -/
namespace Go.Proofs.Ytgnmnmjicjcffaa
open Go
set_option linter.unusedVariables false

/-- One number's symbol, and its bits where it is divisible by three. -/
def putC (n : Nat) (E : EncS) (L : List Int) (c : Int) : EncS := if c % 3 = 0 then encBits (encSym E L (c % n).toNat) c 16 else encSym E L (c % n).toNat
def putAll (n : Nat) (zs : List Int) : Nat → EncS × List Int
  | 0 => (encNew, List.replicate n 1)
  | j + 1 => (putC n (putAll n zs j).1 (putAll n zs j).2 (zs.getD j 0), learnP (putAll n zs j).2 (zs.getD j 0 % n).toNat)
theorem putAll_succ (n : Nat) (zs : List Int) (j : Nat) : putAll n zs (j + 1) = (putC n (putAll n zs j).1 (putAll n zs j).2 (zs.getD j 0), learnP (putAll n zs j).2 (zs.getD j 0 % n).toNat) := rfl
theorem P2_16 : P2 16 = 65536 := by decide
theorem sym_lt {n : Nat} (n1 : 1 ≤ n) (c : Int) : (c % n).toNat < n := by
  have := Int.emod_lt_of_pos c (b := (n : Int)) (by omega)
  omega
theorem putC_good {n : Nat} {E : EncS} {L : List Int} {c : Int} (n1 : 1 ≤ n) (hG : GoodE E) (hL : GoodL L) (hl : L.length = n) : GoodE (putC n E L c) ∧ (putC n E L c).k ≤ E.k + 6 ∧ Inside (encSym E L (c % n).toNat) (putC n E L c) := by
  have hs : (c % n).toNat < L.length := by rw [hl]; exact sym_lt n1 c
  have g1 := encSym_good hG hL hs
  have k1 := encSym_k E L (c % n).toNat
  unfold putC
  split
  · have k2 := encBits_k (encSym E L (c % n).toNat) c (wide := 16) (by decide)
    exact ⟨encBits_good g1 (by decide), by omega, encBits_inside g1 (by decide)⟩
  · exact ⟨g1, by omega, Inside.refl _⟩
theorem putAll_good {n : Nat} {zs : List Int} (n1 : 1 ≤ n) (n2 : n ≤ 64) : ∀ j, GoodE (putAll n zs j).1 ∧ GoodL (putAll n zs j).2 ∧ (putAll n zs j).2.length = n ∧ (putAll n zs j).1.k ≤ 6 * j := by
  intro j
  induction j with
  | zero => exact ⟨goodE_new, goodL_ones n1 n2, by show (List.replicate n (1 : Int)).length = n; simp, by show (0 : Nat) ≤ _; omega⟩
  | succ j ih =>
    obtain ⟨a, b, c, d⟩ := ih
    rw [putAll_succ]
    obtain ⟨p, q, r⟩ := putC_good (c := zs.getD j 0) n1 a b c
    have hs : (zs.getD j 0 % n).toNat < (putAll n zs j).2.length := by rw [c]; exact sym_lt n1 _
    exact ⟨p, learnP_good b hs, (learnP_len _ _).trans c, by simp only; omega⟩
theorem putAll_step {n : Nat} {zs : List Int} (n1 : 1 ≤ n) (n2 : n ≤ 64) (j : Nat) : Inside (putAll n zs j).1 (putAll n zs (j + 1)).1 := by
  obtain ⟨a, b, c, d⟩ := putAll_good (zs := zs) n1 n2 j
  rw [putAll_succ]
  exact (encSym_inside a b (by rw [c]; exact sym_lt n1 _)).trans (putC_good n1 a b c).2.2
theorem putAll_inside {n : Nat} {zs : List Int} (n1 : 1 ≤ n) (n2 : n ≤ 64) (j d : Nat) : Inside (putAll n zs j).1 (putAll n zs (j + d)).1 := by
  induction d with
  | zero => exact Inside.refl _
  | succ d ih => exact ih.trans (putAll_step n1 n2 (j + d))
/-- All that was put, and five in four bits. -/
def putEnd (n : Nat) (zs : List Int) (len : Nat) : EncS := encBits (putAll n zs len).1 5 4
theorem putEnd_good {n : Nat} {zs : List Int} (n1 : 1 ≤ n) (n2 : n ≤ 64) (len : Nat) : GoodE (putEnd n zs len) ∧ (putEnd n zs len).k ≤ 6 * len + 4 ∧ 1 ≤ (putEnd n zs len).s ∧ Inside (putAll n zs len).1 (putEnd n zs len) ∧ 1 ≤ (putEnd n zs len).n := by
  obtain ⟨a, b, c, d⟩ := putAll_good (zs := zs) n1 n2 len
  have g := encBits_good (n := 5) a (show 4 ≤ 24 by decide)
  have k2 := encBits_k (putAll n zs len).1 5 (wide := 4) (by decide)
  refine ⟨g, by unfold putEnd; omega, by have := g.1; unfold putEnd; omega, encBits_inside a (by decide), ?_⟩
  unfold putEnd
  rw [encBits_low _ _ (show 0 < 4 by decide) (by decide)]
  have e5 : (5 : Int) % P2 4 = 5 := by decide
  have e16 : P2 4 = 16 := by decide
  rw [e5, e16]
  obtain ⟨_, h, _⟩ := scaleE_inside (encPre (putAll n zs len).1 5 1 16)
  have hp := P256_pos ((scaleE (encPre (putAll n zs len).1 5 1 16)).k - (encPre (putAll n zs len).1 5 1 16).k)
  unfold encPut
  rw [h]
  have : 1 ≤ (encPre (putAll n zs len).1 5 1 16).n := by
    show 1 ≤ (putAll n zs len).1.n + (putAll n zs len).1.s / 16 * 5
    have h1 := a.1
    have h2 := a.2.2.1
    omega
  have := Int.mul_le_mul this hp (by decide) (by omega)
  omega

/-! ### What comes back -/
/-- The bytes, and noughts and others behind. -/
theorem digOf_end {F : EncS} (hG : GoodE F) (m : Nat) (tail : List Int) (hm : (bytesL (digL F.n (F.k + 4))).length + m = F.k + 4) : DigOf (byteF (bytesL (digL F.n (F.k + 4)) ++ List.replicate m 0 ++ tail)) F := by
  refine digOf_bytes hG fun j hj => ?_
  have e : byteF (bytesL (digL F.n (F.k + 4))) j = digB F.n (F.k + 4) j := by
    rw [bytesL_get]; unfold byteF; exact digL_getD F.n hj
  rw [← e]
  generalize bytesL (digL F.n (F.k + 4)) = b at hm
  unfold byteF
  by_cases h1 : j < b.length
  · simp [List.getD, List.getElem?_append, h1]
  · have h2 : b.getD j 0 = 0 := by rw [List.getD, List.getElem?_eq_none (by omega)]; rfl
    rw [h2]
    have h3 : j - b.length < m := by omega
    have h4 : j < b.length + m := by omega
    simp [List.getD, List.getElem?_append, h1, h3]
theorem digOf_only {F : EncS} (hG : GoodE F) : DigOf (byteF (bytesL (digL F.n (F.k + 4)))) F := by
  refine digOf_bytes hG fun j hj => ?_
  rw [bytesL_get]; unfold byteF; exact digL_getD F.n hj
theorem bytesL_le (F : EncS) : (bytesL (digL F.n (F.k + 4))).length ≤ F.k + 4 := by
  have := lastK_bd (digL F.n (F.k + 4)) (digL F.n (F.k + 4)).length
  have hl := digL_len F.n (F.k + 4)
  rw [bytesL_len]; omega
theorem bytesL_some {F : EncS} (hG : GoodE F) (h1 : 1 ≤ F.n) : 0 < (bytesL (digL F.n (F.k + 4))).length := by
  rcases Nat.eq_zero_or_pos (bytesL (digL F.n (F.k + 4))).length with h | h
  · have hb := List.eq_nil_of_length_eq_zero h
    have hd := digOf_only hG (F.k + 4) (Nat.le_refl _)
    rw [hb, Nat.sub_self] at hd
    have hz : ∀ i, valB (byteF []) i = 0 := by
      intro i
      induction i with
      | zero => rfl
      | succ i ih => show valB (byteF []) i * 256 + byteF [] i = 0; rw [ih]; rfl
    rw [hz] at hd
    have e : P256 0 = 1 := rfl
    rw [e, Int.ediv_one] at hd
    omega
  · exact h
theorem bytesL_dig (F : EncS) : IsDig (bytesL (digL F.n (F.k + 4))) := by
  intro j hj
  have e := bytesL_get (digL F.n (F.k + 4)) j
  have hl := bytesL_le F
  unfold byteF at e
  rw [e, digL_getD F.n (by omega)]
  exact digB_bd _ _ _

/-- Where the decoder stands ahead of the j-th number: in step with the encoder. -/
def InStep (n : Nat) (zs : List Int) (b : List Int) (j : Nat) (D : DecS) : Prop := Sync (byteF b) (putAll n zs j).1 D
theorem step_i {n : Nat} {zs b : List Int} {j : Nat} {D : DecS} (n1 : 1 ≤ n) (n2 : n ≤ 64) (h : InStep n zs b j D) : D.i ≤ 6 * j + 4 := by
  have := (putAll_good (zs := zs) n1 n2 j).2.2.2
  have := h.2.1
  omega
theorem step_good {n : Nat} {zs b : List Int} {j len : Nat} {D : DecS} (n1 : 1 ≤ n) (n2 : n ≤ 64) (hj : j ≤ len) (h : InStep n zs b j D) (hd : DigOf (byteF b) (putEnd n zs len)) : GoodD D := by
  obtain ⟨a, _, _, _⟩ := putAll_good (zs := zs) n1 n2 j
  obtain ⟨_, _, p1, p2, _⟩ := putEnd_good (zs := zs) n1 n2 len
  have hi := putAll_inside (zs := zs) n1 n2 j (len - j)
  rw [show j + (len - j) = len by omega] at hi
  exact (sync_good h a (hi.trans p2) p1 hd).1
/-- A symbol comes back; and where bits were put, they too. -/
theorem step_back {n : Nat} {zs b : List Int} {j len : Nat} {D : DecS} (n1 : 1 ≤ n) (n2 : n ≤ 64) (hz : ∀ i, 0 ≤ zs.getD i 0 ∧ zs.getD i 0 ≤ 65535) (hj : j < len) (h : InStep n zs b j D) (hd : DigOf (byteF b) (putEnd n zs len)) :
    decWhich D (putAll n zs j).2 = (zs.getD j 0 % n).toNat ∧ (zs.getD j 0 % 3 ≠ 0 → InStep n zs b (j + 1) (decSym b D (putAll n zs j).2)) ∧
    (zs.getD j 0 % 3 = 0 → GoodD (decSym b D (putAll n zs j).2) ∧ (decBits b (decSym b D (putAll n zs j).2) 0 16).1 = zs.getD j 0 ∧ InStep n zs b (j + 1) (decBits b (decSym b D (putAll n zs j).2) 0 16).2) := by
  obtain ⟨a1, a2, a3, a4⟩ := putAll_good (zs := zs) n1 n2 j
  obtain ⟨_, _, p1, p2, _⟩ := putEnd_good (zs := zs) n1 n2 len
  have hi := putAll_inside (zs := zs) n1 n2 (j + 1) (len - (j + 1))
  rw [show j + 1 + (len - (j + 1)) = len by omega] at hi
  have hi2 := hi.trans p2
  have hs : (zs.getD j 0 % n).toNat < (putAll n zs j).2.length := by rw [a3]; exact sym_lt n1 _
  obtain ⟨c1, c2, c3⟩ := putC_good (c := zs.getD j 0) n1 a1 a2 a3
  rw [putAll_succ] at hi2
  simp only at hi2
  obtain ⟨s1, s2⟩ := sym_back h a1 a2 hs (c3.trans hi2) p1 hd
  have gs := encSym_good a1 a2 hs
  refine ⟨s1, fun h3 => ?_, fun h3 => ?_⟩
  · have e : putC n (putAll n zs j).1 (putAll n zs j).2 (zs.getD j 0) = encSym (putAll n zs j).1 (putAll n zs j).2 (zs.getD j 0 % n).toNat := by unfold putC; rw [if_neg h3]
    unfold InStep
    rw [putAll_succ, e]; exact s2
  · have e : putC n (putAll n zs j).1 (putAll n zs j).2 (zs.getD j 0) = encBits (encSym (putAll n zs j).1 (putAll n zs j).2 (zs.getD j 0 % n).toNat) (zs.getD j 0) 16 := by unfold putC; rw [if_pos h3]
    rw [e] at hi2
    obtain ⟨b1, b2⟩ := bits_back (wide := 16) s2 gs (by decide) (hz j).1 (by rw [P2_16]; have := (hz j).2; omega) hi2 p1 hd
    refine ⟨(sync_good s2 gs (c3.trans (by rw [e]; exact hi2)) p1 hd).1, b1, ?_⟩
    unfold InStep
    rw [putAll_succ, e]; exact b2
/-- At the end five comes. -/
theorem step_end {n : Nat} {zs b : List Int} {len : Nat} {D : DecS} (n1 : 1 ≤ n) (n2 : n ≤ 64) (h : InStep n zs b len D) (hd : DigOf (byteF b) (putEnd n zs len)) : (decBits b D 0 4).1 = 5 := by
  obtain ⟨a1, a2, a3, a4⟩ := putAll_good (zs := zs) n1 n2 len
  obtain ⟨_, _, p1, p2, _⟩ := putEnd_good (zs := zs) n1 n2 len
  exact (bits_back (wide := 4) h a1 (by decide) (by decide) (by decide) (Inside.refl (putEnd n zs len)) p1 hd).1
theorem step_first (n : Nat) (zs b : List Int) : InStep n zs b 0 (decNew (byteF b)) := sync_new _
end Go.Proofs.Ytgnmnmjicjcffaa

/- Plain facts of the circle's table, for the statements of layer 4. Nothing here speaks of the program. -/
namespace Go.Proofs.Ytgnmnmjicjcffaa
open Go
set_option linter.unusedVariables false

/-- The cosines of 0 to 1024 units. -/
def cosL : List Int := [
  16777216, 16777195, 16777136, 16777038, 16776899, 16776723, 16776505, 16776249, 16775952, 16775618, 16775243, 16774829,
  16774374, 16773882, 16773348, 16772776, 16772162, 16771512, 16770821, 16770092, 16769321, 16768513, 16767664, 16766776,
  16765847, 16764882, 16763875, 16762830, 16761743, 16760619, 16759454, 16758251, 16757006, 16755725, 16754403, 16753043,
  16751641, 16750202, 16748722, 16747203, 16745643, 16744047, 16742409, 16740733, 16739016, 16737262, 16735466, 16733632,
  16731757, 16729846, 16727893, 16725902, 16723870, 16721801, 16719691, 16717542, 16715352, 16713126, 16710859, 16708553,
  16706206, 16703822, 16701397, 16698933, 16696428, 16693888, 16691306, 16688686, 16686025, 16683327, 16680588, 16677811,
  16674992, 16672138, 16669242, 16666308, 16663333, 16660321, 16657268, 16654177, 16651044, 16647876, 16644667, 16641420,
  16638131, 16634806, 16631439, 16628035, 16624589, 16621108, 16617585, 16614024, 16610422, 16606784, 16603104, 16599387,
  16595628, 16591834, 16587999, 16584126, 16580212, 16576262, 16572270, 16568241, 16564170, 16560064, 16555917, 16551732,
  16547506, 16543244, 16538940, 16534599, 16530217, 16525800, 16521341, 16516845, 16512307, 16507734, 16503119, 16498467,
  16493774, 16489046, 16484276, 16479469, 16474621, 16469737, 16464812, 16459850, 16454846, 16449808, 16444729, 16439613,
  16434455, 16429262, 16424027, 16418756, 16413443, 16408096, 16402707, 16397282, 16391815, 16386313, 16380769, 16375188,
  16369567, 16363911, 16358214, 16352480, 16346705, 16340894, 16335043, 16329155, 16323226, 16317262, 16311257, 16305215,
  16299133, 16293015, 16286857, 16280661, 16274425, 16268155, 16261844, 16255496, 16249107, 16242683, 16236218, 16229717,
  16223175, 16216599, 16209982, 16203328, 16196634, 16189905, 16183135, 16176328, 16169481, 16162600, 16155678, 16148720,
  16141721, 16134687, 16127613, 16120503, 16113352, 16106167, 16098941, 16091679, 16084377, 16077040, 16069663, 16062249,
  16054795, 16047308, 16039780, 16032216, 16024612, 16016973, 16009294, 16001579, 15993823, 15986034, 15978205, 15970339,
  15962434, 15954494, 15946514, 15938497, 15930441, 15922351, 15914222, 15906056, 15897851, 15889611, 15881331, 15873015,
  15864660, 15856271, 15847843, 15839378, 15830874, 15822335, 15813757, 15805143, 15796489, 15787802, 15779076, 15770314,
  15761513, 15752677, 15743802, 15734891, 15725941, 15716957, 15707934, 15698876, 15689778, 15680646, 15671475, 15662269,
  15653023, 15643745, 15634427, 15625074, 15615681, 15606255, 15596789, 15587288, 15577748, 15568175, 15558564, 15548917,
  15539231, 15529511, 15519753, 15509959, 15500126, 15490261, 15480358, 15470419, 15460442, 15450431, 15440381, 15430296,
  15420173, 15410017, 15399822, 15389593, 15379325, 15369024, 15358684, 15348309, 15337896, 15327451, 15316967, 15306449,
  15295892, 15285302, 15274674, 15264011, 15253310, 15242577, 15231805, 15220999, 15210155, 15199278, 15188362, 15177412,
  15166425, 15155405, 15144348, 15133256, 15122127, 15110965, 15099765, 15088530, 15077258, 15065954, 15054612, 15043236,
  15031823, 15020377, 15008893, 14997375, 14985819, 14974232, 14962607, 14950949, 14939253, 14927525, 14915759, 14903960,
  14892123, 14880255, 14868349, 14856410, 14844434, 14832426, 14820380, 14808301, 14796184, 14784037, 14771852, 14759634,
  14747380, 14735093, 14722770, 14710413, 14698019, 14685594, 14673132, 14660637, 14648106, 14635542, 14622942, 14610309,
  14597639, 14584938, 14572201, 14559431, 14546625, 14533787, 14520912, 14508005, 14495061, 14482087, 14469076, 14456033,
  14442953, 14429842, 14416695, 14403515, 14390299, 14377053, 14363771, 14350456, 14337106, 14323724, 14310307, 14296857,
  14283372, 14269856, 14256304, 14242720, 14229101, 14215450, 14201764, 14188046, 14174292, 14160508, 14146689, 14132838,
  14118952, 14105035, 14091082, 14077098, 14063078, 14049029, 14034944, 14020828, 14006676, 13992494, 13978277, 13964028,
  13949745, 13935432, 13921085, 13906706, 13892292, 13877848, 13863369, 13848859, 13834314, 13819740, 13805131, 13790491,
  13775816, 13761112, 13746373, 13731603, 13716798, 13701965, 13687097, 13672199, 13657266, 13642303, 13627306, 13612279,
  13597217, 13582127, 13567002, 13551847, 13536658, 13521439, 13506187, 13490904, 13475587, 13460242, 13444863, 13429454,
  13414011, 13398539, 13383034, 13367498, 13351929, 13336332, 13320701, 13305040, 13289346, 13273623, 13257866, 13242080,
  13226260, 13210413, 13194532, 13178621, 13162678, 13146706, 13130701, 13114666, 13098599, 13082504, 13066376, 13050218,
  13034028, 13017809, 13001558, 12985277, 12968964, 12952624, 12936251, 12919849, 12903415, 12886953, 12870458, 12853934,
  12837378, 12820795, 12804180, 12787536, 12770859, 12754155, 12737419, 12720654, 12703858, 12687034, 12670179, 12653295,
  12636380, 12619437, 12602463, 12585460, 12568425, 12551364, 12534271, 12517150, 12499998, 12482818, 12465607, 12448368,
  12431098, 12413802, 12396475, 12379119, 12361733, 12344320, 12326876, 12309404, 12291901, 12274372, 12256812, 12239225,
  12221607, 12203962, 12186287, 12168584, 12150851, 12133092, 12115303, 12097487, 12079640, 12061767, 12043863, 12025933,
  12007972, 11989986, 11971970, 11953926, 11935853, 11917754, 11899625, 11881469, 11863283, 11845072, 11826832, 11808565,
  11790269, 11771947, 11753596, 11735218, 11716810, 11698378, 11679916, 11661428, 11642911, 11624369, 11605797, 11587199,
  11568572, 11549920, 11531240, 11512534, 11493799, 11475039, 11456250, 11437435, 11418592, 11399724, 11380828, 11361906,
  11342956, 11323981, 11304977, 11285948, 11266891, 11247810, 11228701, 11209567, 11190404, 11171217, 11152003, 11132763,
  11113495, 11094203, 11074884, 11055540, 11036168, 11016772, 10997348, 10977900, 10958424, 10938925, 10919399, 10899848,
  10880269, 10860667, 10841038, 10821384, 10801703, 10781999, 10762268, 10742513, 10722731, 10702925, 10683093, 10663237,
  10643354, 10623449, 10603517, 10583561, 10563579, 10543574, 10523542, 10503486, 10483404, 10463300, 10443170, 10423016,
  10402836, 10382633, 10362405, 10342153, 10321875, 10301575, 10281250, 10260901, 10240526, 10220129, 10199707, 10179262,
  10158791, 10138299, 10117781, 10097240, 10076674, 10056086, 10035473, 10014838, 9994177, 9973495, 9952788, 9932059,
  9911305, 9890529, 9869729, 9848906, 9828059, 9807191, 9786298, 9765383, 9744444, 9723483, 9702498, 9681491,
  9660460, 9639409, 9618333, 9597236, 9576114, 9554971, 9533805, 9512617, 9491406, 9470174, 9448919, 9427642,
  9406342, 9385021, 9363677, 9342311, 9320922, 9299514, 9278082, 9256629, 9235153, 9213657, 9192138, 9170598,
  9149036, 9127454, 9105849, 9084223, 9062575, 9040907, 9019217, 8997506, 8975772, 8954020, 8932245, 8910450,
  8888632, 8866795, 8844936, 8823057, 8801156, 8779236, 8757295, 8735333, 8713350, 8691347, 8669323, 8647279,
  8625214, 8603130, 8581025, 8558901, 8536755, 8514591, 8492405, 8470200, 8447974, 8425730, 8403465, 8381180,
  8358875, 8336552, 8314208, 8291845, 8269461, 8247060, 8224638, 8202198, 8179737, 8157258, 8134759, 8112241,
  8089703, 8067148, 8044573, 8021980, 7999366, 7976735, 7954084, 7931415, 7908726, 7886020, 7863295, 7840552,
  7817790, 7795011, 7772212, 7749395, 7726559, 7703707, 7680835, 7657946, 7635038, 7612113, 7589169, 7566208,
  7543228, 7520232, 7497217, 7474185, 7451135, 7428068, 7404983, 7381881, 7358761, 7335625, 7312470, 7289299,
  7266110, 7242905, 7219682, 7196443, 7173185, 7149912, 7126622, 7103315, 7079991, 7056651, 7033294, 7009921,
  6986530, 6963124, 6939701, 6916262, 6892806, 6869335, 6845847, 6822343, 6798822, 6775287, 6751735, 6728167,
  6704583, 6680984, 6657369, 6633738, 6610091, 6586430, 6562752, 6539059, 6515350, 6491627, 6467887, 6444133,
  6420363, 6396580, 6372780, 6348966, 6325136, 6301292, 6277433, 6253559, 6229670, 6205767, 6181849, 6157917,
  6133970, 6110009, 6086033, 6062043, 6038038, 6014021, 5989988, 5965941, 5941880, 5917806, 5893717, 5869614,
  5845497, 5821368, 5797224, 5773067, 5748895, 5724711, 5700512, 5676301, 5652075, 5627838, 5603586, 5579322,
  5555044, 5530754, 5506450, 5482133, 5457803, 5433461, 5409106, 5384738, 5360357, 5335964, 5311558, 5287140,
  5262708, 5238266, 5213810, 5189342, 5164862, 5140370, 5115866, 5091350, 5066821, 5042281, 5017729, 4993165,
  4968589, 4944002, 4919403, 4894793, 4870170, 4845537, 4820892, 4796237, 4771569, 4746891, 4722201, 4697500,
  4672787, 4648064, 4623330, 4598585, 4573829, 4549063, 4524286, 4499498, 4474699, 4449891, 4425071, 4400242,
  4375401, 4350551, 4325690, 4300819, 4275938, 4251047, 4226146, 4201235, 4176314, 4151384, 4126443, 4101493,
  4076532, 4051563, 4026584, 4001596, 3976598, 3951591, 3926574, 3901548, 3876513, 3851469, 3826416, 3801354,
  3776283, 3751203, 3726114, 3701017, 3675910, 3650796, 3625672, 3600540, 3575399, 3550250, 3525093, 3499927,
  3474753, 3449571, 3424381, 3399183, 3373977, 3348763, 3323541, 3298311, 3273073, 3247828, 3222575, 3197315,
  3172046, 3146771, 3121488, 3096198, 3070900, 3045596, 3020284, 2994965, 2969639, 2944306, 2918966, 2893619,
  2868265, 2842905, 2817538, 2792164, 2766784, 2741397, 2716004, 2690604, 2665198, 2639786, 2614367, 2588943,
  2563512, 2538075, 2512632, 2487184, 2461729, 2436269, 2410803, 2385331, 2359854, 2334371, 2308883, 2283389,
  2257890, 2232386, 2206876, 2181361, 2155841, 2130316, 2104786, 2079251, 2053711, 2028167, 2002617, 1977062,
  1951503, 1925940, 1900372, 1874799, 1849222, 1823641, 1798056, 1772466, 1746872, 1721274, 1695672, 1670066,
  1644455, 1618842, 1593224, 1567602, 1541977, 1516348, 1490716, 1465080, 1439440, 1413798, 1388152, 1362503,
  1336850, 1311195, 1285536, 1259874, 1234209, 1208542, 1182871, 1157198, 1131522, 1105843, 1080162, 1054478,
  1028792, 1003103, 977412, 951719, 926023, 900325, 874625, 848923, 823219, 797513, 771806, 746096,
  720385, 694672, 668957, 643241, 617523, 591804, 566083, 540361, 514638, 488914, 463188, 437462,
  411734, 386005, 360276, 334545, 308814, 283082, 257350, 231617, 205883, 180149, 154414, 128679,
  102943, 77208, 51472, 25736, 0]
theorem cosL_len : cosL.length = 1025 := by decide +kernel
def cosN (i : Nat) : Int := cosL.getD i 0
/-- What is asked of the middle one of a step h, from a on. -/
def midOK (h a : Nat) : Bool :=
  let n := (cosN a + cosN (a + h)) * 8388608
  let d := cosN (h / 2)
  let q := n / d
  cosN (a + h / 2) == if 2 * (n % d) ≥ d then q + 1 else q
def rootOK (h : Nat) : Bool :=
  let n := (16777216 + cosN h) * 8388608
  let x := cosN (h / 2)
  decide (0 ≤ x) && decide (x * x ≤ n) && decide (n < (x + 1) * (x + 1))
def levelOK (h : Nat) : Bool := rootOK h && (List.range (1024 / h)).all fun k => k == 0 || midOK h (k * h)
theorem levels : [1024, 512, 256, 128, 64, 32, 16, 8, 4, 2].all levelOK = true := by decide +kernel
theorem cos_falls : (cosL.zip (cosL.drop 1)).all (fun p => decide (p.2 < p.1)) = true := by decide +kernel
theorem cos_legs : (cosL.zip cosL.reverse).all (fun p => decide (p.1 * p.1 + p.2 * p.2 - 281474976710656 < 4294967296) && decide (-4294967296 < p.1 * p.1 + p.2 * p.2 - 281474976710656)) = true := by decide +kernel
theorem cos_bds : cosL.all (fun x => decide (0 ≤ x) && decide (x ≤ 16777216)) = true := by decide +kernel
end Go.Proofs.Ytgnmnmjicjcffaa

/- Plain facts of the circle, for the statements of layer 4, out of its table. Nothing here speaks of the program. -/
namespace Go.Proofs.Ytgnmnmjicjcffaa
open Go
set_option linter.unusedVariables false

theorem cosN_get {i : Nat} (h : i ≤ 1024) : cosL[i]? = some (cosN i) := by
  have hl : i < cosL.length := by rw [cosL_len]; omega
  unfold cosN
  simp [List.getD, List.getElem?_eq_getElem hl]
theorem cosN_bd {i : Nat} (h : i ≤ 1024) : 0 ≤ cosN i ∧ cosN i ≤ 16777216 := by
  have hm : cosN i ∈ cosL := List.mem_of_getElem? (cosN_get h)
  have := List.all_eq_true.1 cos_bds _ hm
  simpa using this
theorem cosN_falls {i : Nat} (h : i < 1024) : cosN (i + 1) < cosN i := by
  have hm : (cosN i, cosN (i + 1)) ∈ cosL.zip (cosL.drop 1) := by
    refine List.mem_of_getElem? (i := i) ?_
    rw [List.getElem?_zip_eq_some]
    refine ⟨cosN_get (by omega), ?_⟩
    rw [List.getElem?_drop, Nat.add_comm]
    exact cosN_get (by omega)
  have := List.all_eq_true.1 cos_falls _ hm
  simpa using this
theorem cosN_legs {i : Nat} (h : i ≤ 1024) : cosN i * cosN i + cosN (1024 - i) * cosN (1024 - i) - 281474976710656 < 4294967296 ∧ -4294967296 < cosN i * cosN i + cosN (1024 - i) * cosN (1024 - i) - 281474976710656 := by
  have hm : (cosN i, cosN (1024 - i)) ∈ cosL.zip cosL.reverse := by
    refine List.mem_of_getElem? (i := i) ?_
    rw [List.getElem?_zip_eq_some]
    refine ⟨cosN_get (by omega), ?_⟩
    rw [List.getElem?_reverse (by rw [cosL_len]; omega), cosL_len]
    exact cosN_get (by omega)
  have := List.all_eq_true.1 cos_legs _ hm
  simpa using this
theorem level_at {k : Nat} (h : k < 10) : levelOK (2 ^ (k + 1)) = true := by
  have := List.all_eq_true.1 levels (2 ^ (k + 1)) (by
    have : k = 0 ∨ k = 1 ∨ k = 2 ∨ k = 3 ∨ k = 4 ∨ k = 5 ∨ k = 6 ∨ k = 7 ∨ k = 8 ∨ k = 9 := by omega
    rcases this with rfl | rfl | rfl | rfl | rfl | rfl | rfl | rfl | rfl | rfl <;> decide)
  exact this
theorem half_pow (k : Nat) : 2 ^ (k + 1) / 2 = 2 ^ k := by rw [Nat.pow_succ]; omega
/-- The root of step 2 to the k + 1. -/
theorem cos_root {k : Nat} (h : k < 10) : IsRoot ((16777216 + cosN (2 ^ (k + 1))) * 8388608) (cosN (2 ^ k)) := by
  have := level_at h
  unfold levelOK at this
  rw [Bool.and_eq_true] at this
  have hr := this.1
  unfold rootOK at hr
  rw [half_pow] at hr
  simp only [Bool.and_eq_true, decide_eq_true_eq] at hr
  have hb := cosN_bd (i := 2 ^ k) (by have := Nat.pow_le_pow_right (n := 2) (by decide) (show k ≤ 10 by omega); omega)
  exact ⟨hr.1.1, by omega, hr.1.2, hr.2⟩
/-- The middle one of step 2 to the k + 1 from a on. -/
theorem cos_mid {k a : Nat} (h : k < 10) (ha0 : 0 < a) (ha : a % 2 ^ (k + 1) = 0) (hl : a < 1024) :
    cosN (a + 2 ^ k) = if 2 * (((cosN a + cosN (a + 2 ^ (k + 1))) * 8388608) % cosN (2 ^ k)) ≥ cosN (2 ^ k) then ((cosN a + cosN (a + 2 ^ (k + 1))) * 8388608) / cosN (2 ^ k) + 1 else ((cosN a + cosN (a + 2 ^ (k + 1))) * 8388608) / cosN (2 ^ k) := by
  have := level_at h
  unfold levelOK at this
  rw [Bool.and_eq_true] at this
  have hq : a / 2 ^ (k + 1) * 2 ^ (k + 1) = a := Nat.div_mul_cancel (Nat.dvd_of_mod_eq_zero ha)
  have hp : 0 < 2 ^ (k + 1) := Nat.two_pow_pos _
  have h1024 : 1024 % 2 ^ (k + 1) = 0 := by
    have : k = 0 ∨ k = 1 ∨ k = 2 ∨ k = 3 ∨ k = 4 ∨ k = 5 ∨ k = 6 ∨ k = 7 ∨ k = 8 ∨ k = 9 := by omega
    rcases this with rfl | rfl | rfl | rfl | rfl | rfl | rfl | rfl | rfl | rfl <;> decide
  have hm := List.all_eq_true.1 this.2 (a / 2 ^ (k + 1)) (List.mem_range.2 (by
    have e : 1024 / 2 ^ (k + 1) * 2 ^ (k + 1) = 1024 := Nat.div_mul_cancel (Nat.dvd_of_mod_eq_zero h1024)
    refine Nat.lt_of_mul_lt_mul_right (a := 2 ^ (k + 1)) ?_
    rw [hq, e]; exact hl))
  rw [Bool.or_eq_true] at hm
  rcases hm with hm | hm
  · have : a / 2 ^ (k + 1) = 0 := by simpa using hm
    rw [this] at hq; omega
  · rw [hq] at hm
    unfold midOK at hm
    rw [half_pow] at hm
    simpa using hm

/-! ### The whole circle -/
def cosQ (i : Int) : Int :=
  let m := i % 4096
  let m' := if 2048 < m then 4096 - m else m
  if 1024 < m' then -(cosN (2048 - m').toNat) else cosN m'.toNat
noncomputable def cosP (i : Int) : Int := hideI (cosQ i)
theorem cosP_q (i : Int) : cosP i = cosQ i := hideI_eq _
theorem cosQ_in {i : Int} {n : Nat} (h : i % 4096 = n) (hn : n ≤ 1024) : cosQ i = cosN n := by
  unfold cosQ
  simp only [h]
  rw [if_neg (by omega), if_neg (by omega)]
  simp
theorem cosQ_2 {i : Int} {n : Nat} (h : i % 4096 = 2048 - n) (hn : n < 1024) : cosQ i = -(cosN n) := by
  unfold cosQ
  simp only [h]
  rw [if_neg (show ¬ (2048 : Int) < 2048 - n by omega), if_pos (by omega)]
  congr 2; omega
theorem cosQ_3 {i : Int} {n : Nat} (h : i % 4096 = 2048 + n) (hn0 : 0 < n) (hn : n < 1024) : cosQ i = -(cosN n) := by
  unfold cosQ
  simp only [h]
  rw [if_pos (show (2048 : Int) < 2048 + n by omega), if_pos (by omega)]
  congr 2; omega
theorem cosQ_4 {i : Int} {n : Nat} (h : i % 4096 = 4096 - n) (hn0 : 0 < n) (hn : n ≤ 1024) : cosQ i = cosN n := by
  unfold cosQ
  simp only [h]
  rw [if_pos (show (2048 : Int) < 4096 - n by omega), if_neg (by omega)]
  congr 1; omega
/-- Each place of the circle is one of four. -/
theorem circle_at (i : Int) : (∃ n : Nat, i % 4096 = n ∧ n ≤ 1024) ∨ (∃ n : Nat, i % 4096 = 2048 - n ∧ n < 1024) ∨ (∃ n : Nat, i % 4096 = 2048 + n ∧ 0 < n ∧ n < 1024) ∨ (∃ n : Nat, i % 4096 = 4096 - n ∧ 0 < n ∧ n ≤ 1024) := by
  have h0 := Int.emod_nonneg i (b := 4096) (by decide)
  have h1 := Int.emod_lt_of_pos i (b := 4096) (by decide)
  by_cases a : i % 4096 ≤ 1024
  · exact .inl ⟨(i % 4096).toNat, by omega, by omega⟩
  · by_cases b : i % 4096 ≤ 2048
    · exact .inr (.inl ⟨(2048 - i % 4096).toNat, by omega, by omega⟩)
    · by_cases c : i % 4096 < 3072
      · exact .inr (.inr (.inl ⟨(i % 4096 - 2048).toNat, by omega, by omega, by omega⟩))
      · exact .inr (.inr (.inr ⟨(4096 - i % 4096).toNat, by omega, by omega, by omega⟩))
theorem cosP_bd (i : Int) : -16777216 ≤ cosP i ∧ cosP i ≤ 16777216 := by
  rw [cosP_q]
  rcases circle_at i with ⟨n, h, l⟩ | ⟨n, h, l⟩ | ⟨n, h, l0, l⟩ | ⟨n, h, l0, l⟩
  · rw [cosQ_in h l]; have := cosN_bd l; omega
  · rw [cosQ_2 h l]; have := cosN_bd (i := n) (by omega); omega
  · rw [cosQ_3 h l0 l]; have := cosN_bd (i := n) (by omega); omega
  · rw [cosQ_4 h l0 l]; have := cosN_bd l; omega
theorem cosP_neg (i : Int) : cosP (-i) = cosP i := by
  rw [cosP_q, cosP_q]
  rcases circle_at i with ⟨n, h, l⟩ | ⟨n, h, l⟩ | ⟨n, h, l0, l⟩ | ⟨n, h, l0, l⟩
  · by_cases n0 : n = 0
    · subst n0; rw [cosQ_in h l, cosQ_in (n := 0) (by omega) (by omega)]
    · rw [cosQ_in h l, cosQ_4 (n := n) (by omega) (by omega) (by omega)]
  · by_cases n0 : n = 0
    · subst n0; rw [cosQ_2 h l, cosQ_2 (n := 0) (by omega) (by omega)]
    · rw [cosQ_2 h l, cosQ_3 (n := n) (by omega) (by omega) (by omega)]
  · rw [cosQ_3 h l0 l, cosQ_2 (n := n) (by omega) (by omega)]
  · rw [cosQ_4 h l0 l, cosQ_in (n := n) (by omega) (by omega)]
theorem cosN_last : cosN 1024 = 0 := by decide +kernel
theorem cosN_first : cosN 0 = 16777216 := by decide +kernel
theorem cosP_half (i : Int) : cosP (i + 2048) = -(cosP i) := by
  rw [cosP_q, cosP_q]
  rcases circle_at i with ⟨n, h, l⟩ | ⟨n, h, l⟩ | ⟨n, h, l0, l⟩ | ⟨n, h, l0, l⟩
  · rw [cosQ_in h l]
    by_cases n0 : n = 0
    · subst n0; rw [cosQ_2 (n := 0) (by omega) (by omega)]
    · by_cases n1 : n = 1024
      · subst n1; rw [cosQ_4 (n := 1024) (by omega) (by omega) (by omega), cosN_last]; rfl
      · rw [cosQ_3 (n := n) (by omega) (by omega) (by omega)]
  · rw [cosQ_2 h l]
    by_cases n0 : n = 0
    · subst n0; rw [cosQ_in (n := 0) (by omega) (by omega)]; omega
    · rw [cosQ_4 (n := n) (by omega) (by omega) (by omega)]; omega
  · rw [cosQ_3 h l0 l, cosQ_in (n := n) (by omega) (by omega)]; omega
  · rw [cosQ_4 h l0 l]
    by_cases n1 : n = 1024
    · subst n1; rw [cosQ_in (n := 1024) (by omega) (by omega), cosN_last]; rfl
    · rw [cosQ_2 (n := n) (by omega) (by omega)]
theorem cosP_whole (i : Int) : cosP (i + 4096) = cosP i := by
  have := cosP_half (i + 2048)
  rw [cosP_half i] at this
  rw [show i + 4096 = i + 2048 + 2048 by omega, this]; omega
theorem sq_neg (x : Int) : -x * -x = x * x := by rw [Int.neg_mul_neg]
/-- Both legs' squares come together to one, but for a little. -/
theorem cosP_legs (i : Int) : cosP i * cosP i + cosP (i - 1024) * cosP (i - 1024) - 281474976710656 < 4294967296 ∧ -4294967296 < cosP i * cosP i + cosP (i - 1024) * cosP (i - 1024) - 281474976710656 := by
  rw [cosP_q, cosP_q]
  rcases circle_at i with ⟨n, h, l⟩ | ⟨n, h, l⟩ | ⟨n, h, l0, l⟩ | ⟨n, h, l0, l⟩
  · rw [cosQ_in h l]
    by_cases n1 : n = 1024
    · subst n1; rw [cosQ_in (n := 0) (by omega) (by omega)]; exact cosN_legs (i := 1024) (by omega)
    · rw [cosQ_4 (n := 1024 - n) (by omega) (by omega) (by omega)]; exact cosN_legs (i := n) (by omega)
  · rw [cosQ_2 h l, cosQ_in (n := 1024 - n) (by omega) (by omega), sq_neg]; exact cosN_legs (i := n) (by omega)
  · rw [cosQ_3 h l0 l, cosQ_2 (n := 1024 - n) (by omega) (by omega), sq_neg, sq_neg]; exact cosN_legs (i := n) (by omega)
  · rw [cosQ_4 h l0 l]
    by_cases n1 : n = 1024
    · subst n1; rw [cosQ_2 (n := 0) (by omega) (by omega), sq_neg]; exact cosN_legs (i := 1024) (by omega)
    · rw [cosQ_3 (n := 1024 - n) (by omega) (by omega) (by omega), sq_neg]; exact cosN_legs (i := n) (by omega)
theorem cosP_falls {q : Int} (h0 : 0 ≤ q) (h1 : q < 1024) : cosP (q + 1) < cosP q := by
  have e1 : cosQ (q + 1) = cosN (q.toNat + 1) := cosQ_in (by omega) (by omega)
  have e2 : cosQ q = cosN q.toNat := cosQ_in (by omega) (by omega)
  rw [cosP_q, cosP_q, e1, e2]
  exact cosN_falls (by omega)
theorem cosP_512 : cosP 512 = 11863283 := by rw [cosP_q]; decide +kernel
/-- A place of a slope. -/
noncomputable def riseP (i : Int) : Int := if i < 0 then 0 else if 128 ≤ i then 16777216 else cosP (1024 - 4 * (2 * i + 1))
theorem riseP_neg {i : Int} (h : i < 0) : riseP i = 0 := if_pos h
theorem riseP_big {i : Int} (h : 128 ≤ i) : riseP i = 16777216 := by unfold riseP; rw [if_neg (by omega), if_pos h]
theorem riseP_in {i : Int} (h : 0 ≤ i) (h' : i < 128) : riseP i = cosP (1024 - 4 * (2 * i + 1)) := by unfold riseP; rw [if_neg (by omega), if_neg (by omega)]
theorem riseP_legs {q : Int} (h : 0 ≤ q) (h' : q < 128) : riseP q * riseP q + riseP (127 - q) * riseP (127 - q) - 281474976710656 < 4294967296 ∧ -4294967296 < riseP q * riseP q + riseP (127 - q) * riseP (127 - q) - 281474976710656 := by
  rw [riseP_in h h', riseP_in (by omega) (by omega)]
  have e : cosP (1024 - 4 * (2 * (127 - q) + 1)) = cosP (1024 - 4 * (2 * q + 1) - 1024) := by
    rw [← cosP_neg]; congr 1; omega
  rw [e]
  exact cosP_legs _
end Go.Proofs.Ytgnmnmjicjcffaa

/- Words of mine for memory: a block of n numbers, told by a function of the place. -/
namespace Go.Proofs.Ytgnmnmjicjcffaa
open Go.RowKit
set_option linter.unusedVariables false

def tabF (n : Nat) (f : Nat → Int) : List Int := (List.range n).map f
theorem tabF_len (n : Nat) (f : Nat → Int) : (tabF n f).length = n := by simp [tabF]
theorem tabF_getD {n : Nat} (f : Nat → Int) {j : Nat} (h : j < n) : (tabF n f).getD j 0 = f j := by simp [tabF, List.getD, h]
theorem tabF_ext {n : Nat} {f g : Nat → Int} (h : ∀ j, j < n → f j = g j) : tabF n f = tabF n g := by
  unfold tabF
  exact List.map_congr_left fun j hj => h j (List.mem_range.1 hj)
theorem tabF_set {n : Nat} (f : Nat → Int) {j : Nat} (h : j < n) (x : Int) : (tabF n f).set j x = tabF n (fun i => if i = j then x else f i) := by
  apply List.ext_getElem?
  intro i
  unfold tabF
  rw [List.getElem?_set]
  by_cases hij : j = i
  · subst hij; simp [h]
  · rw [if_neg hij]
    by_cases hi : i < n
    · simp [hi, show ¬ i = j from fun e => hij e.symm]
    · simp [hi]
theorem tabF_of (l : List Int) : tabF l.length (fun j => l.getD j 0) = l := by
  apply List.ext_getElem?
  intro i
  unfold tabF
  by_cases hi : i < l.length
  · simp [List.getD, hi]
  · simp [hi]
/-- Block g is just the n numbers f 0 .. -/
def IFun (w : World) (g : Nat) (t : TypeId) (k : IntKind) (n : Nat) (f : Nat → Int) : Prop := IRow w g t k (tabF n f)
section
variable {w w' : World} {g : Nat} {t : TypeId} {k : IntKind} {n : Nat} {f f' : Nat → Int}
theorem IFun.lt (h : IFun w g t k n f) : g < w.heap.size := IRow.lt h
theorem IFun.cell (h : IFun w g t k n f) {j : Nat} (hj : j < n) : w.cell? ⟨g, j, none⟩ = some (.int k (f j)) := by
  have := IRow.cell h (j := j) (by rw [tabF_len]; exact hj)
  rwa [tabF_getD f hj] at this
theorem IFun.frozen (h : IFun w g t k n f) (j : Nat) : w.frozen? ⟨g, j, none⟩ = false := IRow.frozen h j
theorem IFun.ext (h : IFun w g t k n f) (he : ∀ j, j < n → f j = f' j) : IFun w g t k n f' := by unfold IFun; rw [← tabF_ext he]; exact h
theorem IFun.set (h : IFun w g t k n f) {j : Nat} (hj : j < n) (x : Int) : IFun (w.setCell ⟨g, j, none⟩ (.int k x)) g t k n (fun i => if i = j then x else f i) := by
  have := IRow.set h j x
  rwa [tabF_set f hj] at this
theorem IFun.drewN (h : IFun w g t k n f) (i : Nat) : IFun (w.drewN i) g t k n f := h
theorem IFun.alloc (h : IFun w g t k n f) (o : Obj) : IFun (w.alloc o) g t k n f := IRow.alloc h o
theorem IFun.far (h : IFun w g t k n f) {p : Addr} (hp : g ≠ p.block) (u : Value) : IFun (w.setCell p u) g t k n f := IRow.far h hp u
theorem IFun.below {B : Nat} (h : IFun w g t k n f) (hb : Below B w w') (hg : g < B) : IFun w' g t k n f := IRow.below h hb hg
theorem IFun.zeros (w : World) (t : TypeId) (k : IntKind) (n : Nat) : IFun (w.alloc (.cells (madeCells #[.int k 0] n) t)) w.heap.size t k n (fun _ => 0) := by
  have := IRow.zeros w t k n
  have e : List.replicate n (0 : Int) = tabF n (fun _ => 0) := by
    apply List.ext_getElem?
    intro i
    unfold tabF
    by_cases hi : i < n
    · simp [hi]
    · simp [hi]
  rw [e] at this
  exact this
end
end Go.Proofs.Ytgnmnmjicjcffaa

/- What the document's answers for layer 4 give: the circle's table, a cosine, a place of a slope, the bands' edges. -/
namespace Go.Proofs.Ytgnmnmjicjcffaa
open Go.RowKit
set_option linter.unusedVariables false

theorem info_i64 : (Try.prog.info? 2).map (fun i => (i.zero, i.size, i.bytes)) = some (some (.int .i64 0), 1, 8) := by kernel_rfl

/-! ### The table, step by step -/
theorem k_ten {k : Nat} (h : k < 10) : k = 0 ∨ k = 1 ∨ k = 2 ∨ k = 3 ∨ k = 4 ∨ k = 5 ∨ k = 6 ∨ k = 7 ∨ k = 8 ∨ k = 9 := by omega
theorem half_mod {k j : Nat} (h : k < 10) : j % 2 ^ k = 0 ↔ (j % 2 ^ (k + 1) = 0 ∨ j % 2 ^ (k + 1) = 2 ^ k) := by
  rcases k_ten h with rfl | rfl | rfl | rfl | rfl | rfl | rfl | rfl | rfl | rfl <;> simp <;> omega
theorem step_last {k a : Nat} (h : k < 10) (ha : a % 2 ^ (k + 1) = 0) (h1 : a ≤ 1024) (h2 : 1024 < a + 2 ^ (k + 1)) : a = 1024 := by
  rcases k_ten h with rfl | rfl | rfl | rfl | rfl | rfl | rfl | rfl | rfl | rfl <;> simp at * <;> omega
theorem step_next {k a : Nat} (ha : a % 2 ^ (k + 1) = 0) : (a + 2 ^ (k + 1)) % 2 ^ (k + 1) = 0 ∧ (a + 2 ^ k) % 2 ^ (k + 1) = 2 ^ k := by
  have hp : 2 ^ k < 2 ^ (k + 1) := Nat.pow_lt_pow_right (by decide) (by omega)
  constructor
  · rw [Nat.add_mod_right]; exact ha
  · rw [Nat.add_mod, ha, Nat.zero_add, Nat.mod_mod, Nat.mod_eq_of_lt hp]
/-- The places that are filled when steps of 2 to the k are done. -/
def lev (k : Nat) (j : Nat) : Int := if j % 2 ^ k = 0 then cosN j else 0
/-- .. and on the way to these, up to a. -/
def levA (k a : Nat) (j : Nat) : Int := if j % 2 ^ (k + 1) = 0 ∨ (j % 2 ^ (k + 1) = 2 ^ k ∧ j < a) then cosN j else 0
theorem levA_old {k a j : Nat} (h : j % 2 ^ (k + 1) = 0) : levA k a j = cosN j := if_pos (.inl h)
theorem levA_mid {k a : Nat} (h : 2 ^ k < a) : levA k a (2 ^ k) = cosN (2 ^ k) := by
  have hp : 2 ^ k < 2 ^ (k + 1) := Nat.pow_lt_pow_right (by decide) (by omega)
  exact if_pos (.inr ⟨Nat.mod_eq_of_lt hp, h⟩)
theorem levA_start {k : Nat} : ∀ j, (if j = 2 ^ k then cosN (2 ^ k) else lev (k + 1) j) = levA k (2 ^ (k + 1)) j := by
  intro j
  have hp : 2 ^ k < 2 ^ (k + 1) := Nat.pow_lt_pow_right (by decide) (by omega)
  by_cases e : j = 2 ^ k
  · subst e; rw [if_pos rfl, levA_mid hp]
  · rw [if_neg e]
    unfold lev levA
    by_cases h0 : j % 2 ^ (k + 1) = 0
    · rw [if_pos h0, if_pos (.inl h0)]
    · rw [if_neg h0, if_neg]
      rintro (h | ⟨h, hl⟩)
      · exact h0 h
      · rw [Nat.mod_eq_of_lt hl] at h; exact e h
theorem levA_next {k a : Nat} (ha : a % 2 ^ (k + 1) = 0) : ∀ j, (if j = a + 2 ^ k then cosN (a + 2 ^ k) else levA k a j) = levA k (a + 2 ^ (k + 1)) j := by
  intro j
  have hp : 2 ^ k < 2 ^ (k + 1) := Nat.pow_lt_pow_right (by decide) (by omega)
  obtain ⟨n1, n2⟩ := step_next ha
  by_cases e : j = a + 2 ^ k
  · subst e
    rw [if_pos rfl]
    exact (if_pos (.inr ⟨n2, by omega⟩)).symm
  · rw [if_neg e]
    unfold levA
    by_cases h0 : j % 2 ^ (k + 1) = 0
    · rw [if_pos (.inl h0), if_pos (.inl h0)]
    · by_cases h1 : j % 2 ^ (k + 1) = 2 ^ k
      · by_cases h2 : j < a
        · rw [if_pos (.inr ⟨h1, h2⟩), if_pos (.inr ⟨h1, by omega⟩)]
        · rw [if_neg (by rintro (h | ⟨_, h⟩) <;> omega), if_neg]
          rintro (h | ⟨_, h⟩)
          · exact h0 h
          · apply e
            have hja : (j - a) % 2 ^ (k + 1) = 2 ^ k := by
              have e1 : j = a + (j - a) := by omega
              rw [e1, Nat.add_mod, ha, Nat.zero_add, Nat.mod_mod] at h1
              exact h1
            rw [Nat.mod_eq_of_lt (by omega)] at hja
            omega
      · rw [if_neg (by rintro (h | ⟨h, _⟩) <;> contradiction), if_neg (by rintro (h | ⟨h, _⟩) <;> contradiction)]
theorem levA_end {k : Nat} (hk : k < 10) : ∀ j, j < 1025 → levA k 1024 j = lev k j := by
  intro j hj
  unfold lev levA
  have := half_mod (j := j) hk
  by_cases h0 : j % 2 ^ k = 0
  · rw [if_pos h0, if_pos]
    rcases this.1 h0 with h | h
    · exact .inl h
    · by_cases hj2 : j < 1024
      · exact .inr ⟨h, hj2⟩
      · obtain rfl : j = 1024 := by omega
        refine .inl ?_
        rcases k_ten hk with rfl | rfl | rfl | rfl | rfl | rfl | rfl | rfl | rfl | rfl <;> decide
  · rw [if_neg h0, if_neg]
    rintro (h | ⟨h, _⟩)
    · exact h0 (this.2 (.inl h))
    · exact h0 (this.2 (.inr h))

end Go.Proofs.Ytgnmnmjicjcffaa

/- What the document's answers for layer 4 give, by the table: a cosine, a place of a slope. -/
namespace Go.Proofs.Ytgnmnmjicjcffaa
open Go.RowKit
set_option linter.unusedVariables false

theorem tmod_circle (i : Int) : (0 ≤ i.tmod 4096 ∧ i.tmod 4096 = i % 4096) ∨ (i.tmod 4096 < 0 ∧ i.tmod 4096 = i % 4096 - 4096) := by
  rcases Int.lt_or_le i 0 with h | h
  · have e : i.tmod 4096 = -((-i) % 4096) := by
      have : i = -(-i) := by omega
      rw [this, Int.neg_tmod, Int.neg_neg, Int.tmod_eq_emod_of_nonneg (by omega)]
    rw [e]
    by_cases h0 : (-i) % 4096 = 0
    · exact .inl ⟨by omega, by omega⟩
    · exact .inr ⟨by omega, by omega⟩
  · have e : i.tmod 4096 = i % 4096 := Int.tmod_eq_emod_of_nonneg h
    rw [e]
    exact .inl ⟨by omega, rfl⟩

/-- A place of the circle, and where its cosine stands in the table. -/
theorem circle_in (i : Int) : ∃ P n : Nat, i % 4096 = P ∧ P < 4096 ∧ n ≤ 1024 ∧
    ((P ≤ 1024 ∧ P = n ∧ cosQ i = cosN n) ∨ (1024 < P ∧ P ≤ 2048 ∧ 2048 - P = n ∧ cosQ i = -(cosN n)) ∨ (2048 < P ∧ P < 3072 ∧ 2048 - (4096 - P) = n ∧ cosQ i = -(cosN n)) ∨ (3072 ≤ P ∧ 4096 - P = n ∧ cosQ i = cosN n)) := by
  rcases circle_at i with ⟨n, h, l⟩ | ⟨n, h, l⟩ | ⟨n, h, l0, l⟩ | ⟨n, h, l0, l⟩
  · exact ⟨n, n, h, by omega, l, .inl ⟨l, rfl, cosQ_in h l⟩⟩
  · exact ⟨2048 - n, n, by omega, by omega, by omega, .inr (.inl ⟨by omega, by omega, by omega, cosQ_2 h l⟩)⟩
  · exact ⟨2048 + n, n, by omega, by omega, by omega, .inr (.inr (.inl ⟨by omega, by omega, by omega, cosQ_3 h l0 l⟩))⟩
  · exact ⟨4096 - n, n, by omega, by omega, by omega, .inr (.inr (.inr ⟨by omega, by omega, cosQ_4 h l0 l⟩))⟩

/-! ### Edges -/
def edgesL : List Int := [0, 4, 8, 12, 16, 20, 24, 28, 32, 40, 48, 56, 64, 80, 96, 112, 128, 160, 192, 256, 352, 512]
def edgeN (k : Nat) : Int := edgesL.getD k 0
theorem edge_bd : ∀ k : Nat, k < 22 → 0 ≤ edgeN k ∧ edgeN k ≤ 512 := by decide
theorem edge_take : ∀ k : Nat, k < 21 → edgesL.take (k + 1 + 1) = edgesL.take (k + 1) ++ [edgeN (k + 1)] := by decide
theorem edge_4 : ∀ k : Nat, k < 8 → edgeN (k + 1) = edgeN k + 4 := by decide
theorem edge_8 : ∀ k : Nat, 8 ≤ k → k < 12 → edgeN (k + 1) = edgeN k + 8 := by
  intro k h0 h1
  have : k = 8 ∨ k = 9 ∨ k = 10 ∨ k = 11 := by omega
  rcases this with rfl | rfl | rfl | rfl <;> decide
theorem edge_16 : ∀ k : Nat, 12 ≤ k → k < 16 → edgeN (k + 1) = edgeN k + 16 := by
  intro k h0 h1
  have : k = 12 ∨ k = 13 ∨ k = 14 ∨ k = 15 := by omega
  rcases this with rfl | rfl | rfl | rfl <;> decide
theorem edge_32 : ∀ k : Nat, 16 ≤ k → k < 18 → edgeN (k + 1) = edgeN k + 32 := by
  intro k h0 h1
  have : k = 16 ∨ k = 17 := by omega
  rcases this with rfl | rfl <;> decide
theorem edge_last : edgeN 19 = edgeN 18 + 64 ∧ edgeN 20 = edgeN 19 + 96 ∧ edgeN 21 = edgeN 20 + 160 := by decide

/-- The band of a line. -/
noncomputable def ofP (line : Int) : Int := hideI (if line < 0 ∨ 512 ≤ line then -1 else ((edgesL.filter fun e => decide (e ≤ line)).length : Int) - 1)
def ofN (n : Nat) : Nat := (edgesL.filter fun e => decide (e ≤ (n : Int))).length - 1
theorem ofN_all : ∀ n : Nat, n < 512 → 1 ≤ (edgesL.filter fun e => decide (e ≤ (n : Int))).length ∧ ofN n < 21 ∧ edgeN (ofN n) ≤ n ∧ (n : Int) < edgeN (ofN n + 1) := by decide +kernel
theorem of_in {x : Int} (h0 : 0 ≤ x) (h1 : x < 512) : ∃ b : Nat, b < 21 ∧ ofP x = b ∧ edgeN b ≤ x ∧ x < edgeN (b + 1) := by
  obtain ⟨n, rfl⟩ : ∃ n : Nat, x = n := ⟨x.toNat, by omega⟩
  obtain ⟨a, b, c, d⟩ := ofN_all n (by omega)
  refine ⟨ofN n, b, ?_, c, d⟩
  unfold ofP
  rw [hideI_eq, if_neg (by omega)]
  unfold ofN
  omega
theorem of_out {x : Int} (h : x < 0 ∨ 512 ≤ x) : ofP x = -1 := by unfold ofP; rw [hideI_eq, if_pos h]
theorem info_int04 : (Try.prog.info? 3).map (fun i => (i.zero, i.size, i.bytes)) = some (some (.int .i64 0), 1, 8) := by kernel_rfl

set_option maxRecDepth 100000 in
theorem ref04Edges_any (w : World) :
    Calls Try.prog 26 #[] w fun e w' => ∃ a c, e = .returned (.slice a 22 c) ∧ IntsAt w' w'.heap.size .i64 a 22 edgesL ∧ Below w.heap.size w w' := by
  have hO := Lib.hid (World.ownsRow_lit (base := w.heap.size) (e := 3) (size := 1) w #[.int .i64 0] 1 (Nat.le_refl _) (by decide) rfl)
  have hB := Lib.hid (Below.alloc_new w (.cells #[.int .i64 0] 3))
  go_enter Try.func26, Try.ntmps26
  go_wp2
  go_loopw [1, 2, 3, 4] (fun v a i _ wr => ∃ k : Nat, k ≤ 21 ∧ i = .int .i64 k ∧ a = .int .i64 (edgeN k) ∧ RowKit.Hid (wr.ownsRow w.heap.size 3 1 v (k + 1) ((edgesL.take (k + 1)).map (Value.int .i64)) ∧ Below w.heap.size w wr))
    (fun _ _ i _ _ => (21 - intOf i).toNat)
  case atStart => exact ⟨0, by omega, rfl, rfl, hO.out, hB.out⟩
  case round =>
    obtain ⟨k, hk, rfl, rfl, H⟩ := hrel
    clear hO hB
    by_cases hlt : k < 21
    · obtain ⟨e0, e1⟩ := edge_bd k (by omega)
      have HT := Lib.hid (edge_take k hlt)
      have hsz := H.out.2.size
      have cls : ∃ d : Int, 0 ≤ d ∧ d ≤ 160 ∧ edgeN (k + 1) = edgeN k + d ∧ ((k < 8 ∧ d = 4) ∨ (8 ≤ k ∧ k < 12 ∧ d = 8) ∨ (12 ≤ k ∧ k < 16 ∧ d = 16) ∨ (16 ≤ k ∧ k < 18 ∧ d = 32) ∨ (18 ≤ k ∧ k ≤ 18 ∧ d = 64) ∨ (19 ≤ k ∧ k ≤ 19 ∧ d = 96) ∨ (20 ≤ k ∧ k ≤ 20 ∧ d = 160)) := by
        by_cases h1 : k < 8
        · exact ⟨4, by omega, by omega, edge_4 k h1, .inl ⟨h1, rfl⟩⟩
        · by_cases h2 : k < 12
          · exact ⟨8, by omega, by omega, edge_8 k (by omega) h2, .inr (.inl ⟨by omega, h2, rfl⟩)⟩
          · by_cases h3 : k < 16
            · exact ⟨16, by omega, by omega, edge_16 k (by omega) h3, .inr (.inr (.inl ⟨by omega, h3, rfl⟩))⟩
            · by_cases h4 : k < 18
              · exact ⟨32, by omega, by omega, edge_32 k (by omega) h4, .inr (.inr (.inr (.inl ⟨by omega, h4, rfl⟩)))⟩
              · have : k = 18 ∨ k = 19 ∨ k = 20 := by omega
                rcases this with rfl | rfl | rfl
                · exact ⟨64, by omega, by omega, edge_last.1, by omega⟩
                · exact ⟨96, by omega, by omega, edge_last.2.1, by omega⟩
                · exact ⟨160, by omega, by omega, edge_last.2.2, by omega⟩
      obtain ⟨d, d0, d1, hd, cls⟩ := cls
      have HD := Lib.hid hd
      clear hd
      generalize edgeN k = x at e0 e1 HD
      have hrow := Lib.hid H.out.1
      have hbel := Lib.hid (H.out.2.alloc hsz (.cells #[.int .i64 (x + d)] 3))
      have hsrc := Lib.hid (lit_ints wr 3 .i64 [x + d] #[.int .i64 (x + d)] (0, 0) rfl (by simp))
      have hown0 := Lib.hid (World.ownsRow.alloc H.out.1 (.cells #[.int .i64 (x + d)] 3))
      have hob := Lib.hid (own_base H.out.1)
      rcases cls with ⟨k0, rfl⟩ | ⟨k0, k1, rfl⟩ | ⟨k0, k1, rfl⟩ | ⟨k0, k1, rfl⟩ | ⟨k0, k1, rfl⟩ | ⟨k0, k1, rfl⟩ | ⟨k0, k1, rfl⟩
      all_goals
        go_wp2_with (at_builtin; go_loud (refine append_ints rfl _ _ 23 rfl w.heap.size 3 .i64 8 Try.underlying23 info_int04 _ (k + 1) (edgesL.take (k + 1)) rfl hown0.out (some ⟨wr.heap.size, 0, none⟩) 1 1 _ [_] rfl hsrc.out (by simp) ?c1 ?c2 ?c3 ?_))
        case c1 => unfold maxLen; omega
        case c2 => omega
        case c3 => first | omega | (simp; omega)
        intro v2 w2 hown hgrow _
        have H2 : RowKit.Hid (w2.ownsRow w.heap.size 3 1 v2 (k + 1 + 1) ((edgesL.take (k + 1 + 1)).map (Value.int .i64)) ∧ Below w.heap.size w w2) := by
          refine ⟨?_, hbel.out.grown hgrow (by simp; omega) hob.out⟩
          rw [HT.out, HD.out]; simpa [List.map_take] using hown
        clear hown hgrow
        go_wp2
        go_roundw
        case rel => exact ⟨k + 1, by omega, by go_num, by rw [HD.out], H2.out⟩
        case measure => simp [intOf] <;> omega
    · obtain rfl : k = 21 := by omega
      have HI := Lib.hid (own_ints H.out.1)
      have HB := Lib.hid H.out.2
      clear H
      go_wp2
      go_ret
      obtain ⟨a, c, rfl, hi⟩ := HI.out
      exact ⟨a, c, rfl, hi, HB.out⟩
end Go.Proofs.Ytgnmnmjicjcffaa

/- Plain facts of layer 10: how many bits a number has, the ceilings of lines, which ceilings are right, how they are put and got. Nothing here speaks of the program. -/
namespace Go.Proofs.Ytgnmnmjicjcffaa
open Go Go.RowKit
set_option linter.unusedVariables false

/-! ### Bits -/
/-- How many bits a number has, without its sign. -/
def bitsI (x : Int) : Nat := bitLen x.natAbs
theorem bitLen_zero : bitLen 0 = 0 := rfl
theorem bitLen_half {n : Nat} (h : n ≠ 0) : bitLen n = bitLen (n / 2) + 1 := by
  by_cases h1 : n / 2 = 0
  · obtain rfl : n = 1 := by omega
    decide
  · have := bitLen_shift n 1 (by simpa using h1)
    rw [this]; simp only [Nat.pow_one]; omega
theorem bitLen_le {n k : Nat} (h : n < 2 ^ k) : bitLen n ≤ k := by
  by_cases h0 : n = 0
  · subst h0; rw [bitLen_zero]; omega
  · have h1 := (bitLen_spec n).2 h0
    have h2 : 2 ^ (bitLen n - 1) < 2 ^ k := by omega
    have h3 := (Nat.pow_lt_pow_iff_right (by decide : 1 < 2)).1 h2
    omega
theorem bitsI_le {x : Int} (h0 : -2147483648 ≤ x) (h1 : x ≤ 2147483648) : bitsI x ≤ 32 := bitLen_le (by omega)
theorem bitsI_zero : bitsI 0 = 0 := rfl

/-! ### Ceilings -/
/-- The greatest of n numbers from a on, and of nought. -/
def maxTo (f : Nat → Int) (a : Nat) : Nat → Int
  | 0 => 0
  | n + 1 => max (maxTo f a n) (f (a + n))
theorem maxTo_zero (f : Nat → Int) (a : Nat) : maxTo f a 0 = 0 := rfl
theorem maxTo_succ (f : Nat → Int) (a n : Nat) : maxTo f a (n + 1) = max (maxTo f a n) (f (a + n)) := rfl
theorem maxTo_bd {f : Nat → Int} {a : Nat} {m : Int} (h : 0 ≤ m) : ∀ n, (∀ i, i < n → f (a + i) ≤ m) → 0 ≤ maxTo f a n ∧ maxTo f a n ≤ m := by
  intro n
  induction n with
  | zero => intro _; exact ⟨Int.le_refl _, h⟩
  | succ n ih =>
    intro hf
    have := ih fun i hi => hf i (by omega)
    have := hf n (by omega)
    rw [maxTo_succ]; omega
theorem maxTo_ext {f g : Nat → Int} {a : Nat} : ∀ n, (∀ i, i < n → f (a + i) = g (a + i)) → maxTo f a n = maxTo g a n := by
  intro n
  induction n with
  | zero => intro _; rfl
  | succ n ih => intro h; rw [maxTo_succ, maxTo_succ, ih fun i hi => h i (by omega), h n (by omega)]
/-- The edges as counts. -/
def edgeK (k : Nat) : Nat := (edgeN k).toNat
theorem edgeK_eq {k : Nat} (h : k < 22) : edgeN k = (edgeK k : Int) := by have := edge_bd k h; unfold edgeK; omega
theorem edgeK_lt : ∀ k : Nat, k < 21 → edgeK k < edgeK (k + 1) ∧ edgeK (k + 1) ≤ 512 := by decide
/-- The bits of each of some numbers. -/
def bitF (x : Nat → Int) (i : Nat) : Int := bitsI (x i)
/-- The ceilings of lines. -/
def ceilF (x : Nat → Int) (b : Nat) : Int := maxTo (bitF x) (edgeK b) (edgeK (b + 1) - edgeK b)
theorem bitF_bd {x : Nat → Int} (h : ∀ i, i < 512 → -2147483648 ≤ x i ∧ x i ≤ 2147483647) {i : Nat} (hi : i < 512) : 0 ≤ bitF x i ∧ bitF x i ≤ 32 := by
  have := bitsI_le (x := x i) (by have := h i hi; omega) (by have := h i hi; omega)
  unfold bitF; omega
theorem ceilF_bd {x : Nat → Int} (h : ∀ i, i < 512 → -2147483648 ≤ x i ∧ x i ≤ 2147483647) {b : Nat} (hb : b < 21) : 0 ≤ ceilF x b ∧ ceilF x b ≤ 32 := by
  have := edgeK_lt b hb
  exact maxTo_bd (by decide) _ fun i hi => (bitF_bd h (by omega)).2
theorem ceilF_ext {x y : Nat → Int} (h : ∀ i, i < 512 → x i = y i) {b : Nat} (hb : b < 21) : ceilF x b = ceilF y b := by
  have := edgeK_lt b hb
  exact maxTo_ext _ fun i hi => by unfold bitF; rw [h _ (by omega)]

/-! ### Which are right -/
def rightB (zs : List Int) : Bool := decide (zs.length = 21) && zs.all fun z => decide (0 ≤ z) && decide (z ≤ 26)
theorem rightB_true {zs : List Int} (h : rightB zs = true) : zs.length = 21 ∧ ∀ j, j < 21 → 0 ≤ zs.getD j 0 ∧ zs.getD j 0 ≤ 26 := by
  unfold rightB at h
  rw [Bool.and_eq_true, decide_eq_true_eq, List.all_eq_true] at h
  refine ⟨h.1, fun j hj => ?_⟩
  have hj' : j < zs.length := by omega
  have := h.2 (zs.getD j 0) (by simp [List.getD, hj'])
  simpa using this
theorem rightB_of {zs : List Int} (hl : zs.length = 21) (h : ∀ j, j < 21 → 0 ≤ zs.getD j 0 ∧ zs.getD j 0 ≤ 26) : rightB zs = true := by
  unfold rightB
  rw [Bool.and_eq_true, decide_eq_true_eq, List.all_eq_true]
  refine ⟨hl, fun z hz => ?_⟩
  obtain ⟨j, hj, rfl⟩ := List.getElem_of_mem hz
  have := h j (by omega)
  simpa [List.getD, hj] using this
theorem rightB_len {zs : List Int} (h : zs.length ≠ 21) : rightB zs = false := by unfold rightB; simp [h]
theorem rightB_at {zs : List Int} {j : Nat} (hj : j < zs.length) (h : zs.getD j 0 < 0 ∨ 26 < zs.getD j 0) : rightB zs = false := by
  cases hr : rightB zs with
  | false => rfl
  | true =>
    have h1 := rightB_true hr
    have := h1.2 j (by omega)
    omega

/-! ### The model of differences -/
def difL : List Int := [3000, 1500, 500, 10, 10, 10, 10, 10, 10, 10, 10, 10, 10, 10, 10, 10, 10, 10, 10, 10, 10, 10, 10, 10, 10, 10, 10, 10, 10, 10, 500, 1500]
theorem difL_good : GoodL difL := by unfold GoodL; decide
theorem difL_len : difL.length = 32 := rfl
theorem difL_bd : ∀ j, j < 32 → 0 ≤ difL.getD j 0 ∧ difL.getD j 0 ≤ 4294967295 := by decide
theorem difL_one : ∀ j, j < 32 → 1 ≤ difL.getD j 0 := by decide
theorem difL_sum : sumN difL 32 = 7270 := by decide

/-! ### Putting -/
/-- One ceiling put: by itself (q), or by the one ahead. -/
def putW (q : Bool) (e : EncS) (a d : Int) : EncS := if q then encBits e a 5 else encSym e difL ((a - d) % 32).toNat
theorem putW_alone (e : EncS) (a d : Int) : putW true e a d = encBits e a 5 := if_pos rfl
theorem putW_diff (e : EncS) (a d : Int) : putW false e a d = encSym e difL ((a - d) % 32).toNat := if_neg (by decide)
def putN (q : Bool) (e : EncS) (f d : Nat → Int) : Nat → EncS
  | 0 => e
  | n + 1 => putW q (putN q e f d n) (f n) (d n)
theorem putN_succ (q : Bool) (e : EncS) (f d : Nat → Int) (n : Nat) : putN q e f d (n + 1) = putW q (putN q e f d n) (f n) (d n) := rfl
theorem dif_lt (x : Int) : (x % 32).toNat < difL.length := by rw [difL_len]; omega
theorem putW_good {q : Bool} {e : EncS} {a d : Int} (h : GoodE e) : GoodE (putW q e a d) ∧ (putW q e a d).k ≤ e.k + 4 ∧ Inside e (putW q e a d) := by
  cases q with
  | true =>
    rw [putW_alone]
    exact ⟨encBits_good (n := a) (wide := 5) h (by decide), encBits_k e a (wide := 5) (by decide), encBits_inside (n := a) (wide := 5) h (by decide)⟩
  | false =>
    rw [putW_diff]
    have := encSym_k e difL ((a - d) % 32).toNat
    exact ⟨encSym_good h difL_good (dif_lt _), by omega, encSym_inside h difL_good (dif_lt _)⟩
theorem putN_good {q : Bool} {e : EncS} {f d : Nat → Int} (h : GoodE e) : ∀ n, GoodE (putN q e f d n) ∧ (putN q e f d n).k ≤ e.k + 4 * n ∧ Inside e (putN q e f d n) := by
  intro n
  induction n with
  | zero => exact ⟨h, Nat.le_refl _, Inside.refl e⟩
  | succ n ih =>
    obtain ⟨h1, h2, h3⟩ := ih
    obtain ⟨g1, g2, g3⟩ := putW_good (q := q) (a := f n) (d := d n) h1
    rw [putN_succ]
    exact ⟨g1, by omega, h3.trans g3⟩
theorem putN_inside {q : Bool} {e : EncS} {f d : Nat → Int} (h : GoodE e) (j n : Nat) : Inside (putN q e f d j) (putN q e f d (j + n)) := by
  induction n with
  | zero => exact Inside.refl _
  | succ n ih => exact ih.trans (putW_good (putN_good h (j + n)).1).2.2
theorem putN_ext {q : Bool} {e : EncS} {f g d d' : Nat → Int} : ∀ n, (∀ i, i < n → f i = g i ∧ d i = d' i) → putN q e f d n = putN q e g d' n := by
  intro n
  induction n with
  | zero => intro _; rfl
  | succ n ih => intro h; rw [putN_succ, putN_succ, ih fun i hi => h i (by omega), (h n (by omega)).1, (h n (by omega)).2]

/-! ### Getting -/
def getW (q : Bool) (b : List Int) (D : DecS) (d : Int) : Int × DecS := if q then decBits b D 0 5 else ((d + decWhich D difL) % 32, decSym b D difL)
theorem getW_alone (b : List Int) (D : DecS) (d : Int) : getW true b D d = decBits b D 0 5 := if_pos rfl
theorem getW_diff (b : List Int) (D : DecS) (d : Int) : getW false b D d = ((d + decWhich D difL) % 32, decSym b D difL) := if_neg (by decide)
def getN (q : Bool) (b : List Int) (D : DecS) (d : Nat → Int) : Nat → DecS
  | 0 => D
  | n + 1 => (getW q b (getN q b D d n) (d n)).2
theorem getN_succ (q : Bool) (b : List Int) (D : DecS) (d : Nat → Int) (n : Nat) : getN q b D d (n + 1) = (getW q b (getN q b D d n) (d n)).2 := rfl
/-- What is got. -/
def getV (q : Bool) (b : List Int) (D : DecS) (d : Nat → Int) (n : Nat) : Int := (getW q b (getN q b D d n) (d n)).1
theorem decBits5 (b : List Int) (D : DecS) : decBits b D 0 5 = (decAt D 32, decTake (byteF b) D (decAt D 32) 1 32) := by
  rw [decBits_low b D 0 (by decide) (by decide), show P2 5 = 32 by decide]; simp
theorem getW_good {q : Bool} {b : List Int} {D : DecS} {d : Int} (hb : ∀ j, 0 ≤ byteF b j ∧ byteF b j ≤ 255) (h : GoodD D) : GoodD (getW q b D d).2 ∧ (getW q b D d).2.i ≤ D.i + 2 ∧ 0 ≤ (getW q b D d).1 ∧ (getW q b D d).1 ≤ 31 := by
  cases q with
  | true =>
    rw [getW_alone, decBits5]
    obtain ⟨a1, a2, a3⟩ := decAt_bd (all := 32) h (by decide) (by decide)
    exact ⟨(decTake_good hb h ⟨by decide, by decide, by decide, a1, by omega⟩ a3).1, decTake_i _ _ _ _ _, a1, by show decAt D 32 ≤ 31; omega⟩
  | false =>
    rw [getW_diff]
    obtain ⟨a1, a2, a3, a4⟩ := decWhich_is h difL_good
    exact ⟨(decTake_good hb h (okP_sym difL_good a1) a2).1, decTake_i _ _ _ _ _, by show 0 ≤ (d + decWhich D difL) % 32; omega, by show (d + decWhich D difL) % 32 ≤ 31; omega⟩
theorem getN_good {q : Bool} {b : List Int} {D : DecS} {d : Nat → Int} (hb : ∀ j, 0 ≤ byteF b j ∧ byteF b j ≤ 255) (h : GoodD D) : ∀ n, GoodD (getN q b D d n) ∧ (getN q b D d n).i ≤ D.i + 2 * n := by
  intro n
  induction n with
  | zero => exact ⟨h, Nat.le_refl _⟩
  | succ n ih =>
    obtain ⟨g1, g2, _⟩ := getW_good (q := q) (d := d n) hb ih.1
    rw [getN_succ]
    exact ⟨g1, by omega⟩
theorem getV_bd {q : Bool} {b : List Int} {D : DecS} {d : Nat → Int} (hb : ∀ j, 0 ≤ byteF b j ∧ byteF b j ≤ 255) (h : GoodD D) (n : Nat) : 0 ≤ getV q b D d n ∧ getV q b D d n ≤ 31 := (getW_good hb (getN_good hb h n).1).2.2
theorem getN_ext {q : Bool} {b : List Int} {D : DecS} {d d' : Nat → Int} : ∀ n, (∀ i, i < n → d i = d' i) → getN q b D d n = getN q b D d' n := by
  intro n
  induction n with
  | zero => intro _; rfl
  | succ n ih => intro h; rw [getN_succ, getN_succ, ih fun i hi => h i (by omega), h n (by omega)]
theorem getV_ext {q : Bool} {b : List Int} {D : DecS} {d d' : Nat → Int} {n : Nat} (h : ∀ i, i < n + 1 → d i = d' i) : getV q b D d n = getV q b D d' n := by
  unfold getV; rw [getN_ext n fun i hi => h i (by omega), h n (by omega)]

/-! ### What is put is got -/
theorem one_back {q : Bool} {b : List Int} {e F : EncS} {D : DecS} {a d : Int} (hs : Sync (byteF b) e D) (hg : GoodE e) (a0 : 0 ≤ a) (a1 : a ≤ 31) (hi : Inside (putW q e a d) F) (hf : 1 ≤ F.s) (hd : DigOf (byteF b) F) :
    (getW q b D d).1 = a ∧ Sync (byteF b) (putW q e a d) (getW q b D d).2 := by
  cases q with
  | true =>
    rw [putW_alone] at hi ⊢
    rw [getW_alone]
    exact bits_back (wide := 5) hs hg (by decide) a0 (by rw [show P2 5 = 32 by decide]; omega) hi hf hd
  | false =>
    rw [putW_diff] at hi ⊢
    rw [getW_diff]
    obtain ⟨h1, h2⟩ := sym_back hs hg difL_good (dif_lt (a - d)) hi hf hd
    refine ⟨?_, h2⟩
    simp only
    rw [h1]; omega
theorem put_back {q : Bool} {b : List Int} {e F : EncS} {D : DecS} {f d : Nat → Int} {n : Nat} (hs : Sync (byteF b) e D) (hg : GoodE e) (hb : ∀ j, j < n → 0 ≤ f j ∧ f j ≤ 31) (hi : Inside (putN q e f d n) F) (hf : 1 ≤ F.s) (hd : DigOf (byteF b) F) :
    ∀ j, j ≤ n → Sync (byteF b) (putN q e f d j) (getN q b D d j) ∧ ∀ i, i < j → getV q b D d i = f i := by
  intro j
  induction j with
  | zero => intro _; exact ⟨hs, fun i hi => by omega⟩
  | succ j ih =>
    intro hj
    obtain ⟨h1, h2⟩ := ih (by omega)
    have hin := putN_inside (q := q) (f := f) (d := d) hg (j + 1) (n - (j + 1))
    rw [show j + 1 + (n - (j + 1)) = n by omega, putN_succ] at hin
    obtain ⟨h3, h4⟩ := one_back h1 (putN_good hg j).1 (hb j (by omega)).1 (hb j (by omega)).2 (hin.trans hi) hf hd
    refine ⟨by rw [putN_succ, getN_succ]; exact h4, fun i hi => ?_⟩
    by_cases e : i = j
    · rw [e]; exact h3
    · exact h2 i (by omega)

/-! ### Lists that are filled -/
/-- The first k of some numbers, noughts behind. -/
def preF (F : Nat → Int) (k i : Nat) : Int := if i < k then F i else 0
theorem preF_zero (F : Nat → Int) (i : Nat) : preF F 0 i = 0 := if_neg (by omega)
theorem preF_next (F : Nat → Int) (k i : Nat) : (if i = k then F k else preF F k i) = preF F (k + 1) i := by
  unfold preF
  by_cases h : i = k
  · subst h; rw [if_pos rfl, if_pos (by omega)]
  · rw [if_neg h]; split
    · rw [if_pos (by omega)]
    · rw [if_neg (by omega)]
theorem preF_end (F : Nat → Int) {k i : Nat} (h : i < k) : preF F k i = F i := if_pos h
/-- The ceilings of the first k bands, the greatest of m lines of the next, noughts behind. -/
def accF (x : Nat → Int) (k m i : Nat) : Int := if i < k then ceilF x i else if i = k then maxTo (bitF x) (edgeK k) m else 0
theorem accF_zero (x : Nat → Int) (k i : Nat) : accF x k 0 i = preF (ceilF x) k i := by
  unfold accF preF
  split
  · rfl
  · split <;> rfl
theorem accF_here (x : Nat → Int) (k m : Nat) : accF x k m k = maxTo (bitF x) (edgeK k) m := by unfold accF; rw [if_neg (by omega), if_pos rfl]
theorem accF_next (x : Nat → Int) (k m i : Nat) {y : Int} (h : y = maxTo (bitF x) (edgeK k) (m + 1)) : (if i = k then y else accF x k m i) = accF x k (m + 1) i := by
  subst h
  unfold accF
  by_cases h : i = k
  · subst h; rw [if_pos rfl, if_neg (by omega), if_pos rfl]
  · rw [if_neg h]; split
    · rfl
    · rfl
theorem accF_end (x : Nat → Int) {k n : Nat} (i : Nat) (h : n = edgeK (k + 1) - edgeK k) : accF x k n i = preF (ceilF x) (k + 1) i := by
  subst h
  unfold accF preF
  by_cases h : i = k
  · subst h; rw [if_neg (by omega), if_pos rfl, if_pos (by omega)]; rfl
  · split
    · rw [if_pos (by omega)]
    · rw [if_neg (by omega)]
end Go.Proofs.Ytgnmnmjicjcffaa

/- What each function of package arith, and each of the document's answers for it, gives for whatever arguments. -/
namespace Go.Proofs.Ytgnmnmjicjcffaa
open Go.RowKit
set_option linter.unusedVariables false


/-! ### arith.Round -/
/-! ### arith.Sat -/
/-! ### the document's answers -/
/-! ### products -/
/-! ### sums -/
/-! ### roots -/
end Go.Proofs.Ytgnmnmjicjcffaa

/- What the functions of package bands give, for whatever arguments. -/
namespace Go.Proofs.Ytgnmnmjicjcffaa
open Go.RowKit
set_option linter.unusedVariables false

theorem ints_some {w : World} {B len : Nat} {k : IntKind} {a : Option Addr} {zs : List Int} (h : IntsAt w B k a len zs) (h0 : 0 < len) : ∃ b off, a = some ⟨b, off, none⟩ := by
  obtain ⟨b, off, e, _⟩ := h.2.resolve_left (by omega)
  exact ⟨b, off, e⟩
theorem ints_cell {w : World} {B len b off : Nat} {k : IntKind} {zs : List Int} (h : IntsAt w B k (some ⟨b, off, none⟩) len zs) {j : Nat} (hj : j < len) : w.cell? ⟨b, off + j, none⟩ = some (.int k (zs.getD j 0)) := by
  obtain ⟨b', off', e, _, _, hc⟩ := h.at_ hj
  obtain ⟨rfl, rfl⟩ : b = b' ∧ off = off' := by injection e with e; injection e with e1 e2; exact ⟨e1, e2⟩
  exact hc

/-! ### Dividing to the nearest -/
theorem i64_and4095 (n : Int) : bits .and .i64 n 4095 = n % 4096 := by
  have h1 : (BitVec.ofInt 64 4095).toNat = 2 ^ 12 - 1 := by decide
  have key : (BitVec.ofInt 64 n &&& BitVec.ofInt 64 4095).toNat = (n % ((2 ^ 64 : Nat) : Int)).toNat % 2 ^ 12 := by
    rw [BitVec.toNat_and, BitVec.toNat_ofInt, h1, Nat.and_two_pow_sub_one_eq_mod]
  show IntKind.i64.wrap ((BitVec.ofInt 64 n &&& BitVec.ofInt 64 4095).toNat : Nat) = n % 4096
  rw [key, IntKind.wrap_i64]
  omega
theorem near_eq {n z : Int} (hn : 0 ≤ n) (hz : 0 < z) : (n + z / 2) / z = if 2 * (n % z) ≥ z then n / z + 1 else n / z := by
  have h := Int.emod_add_mul_ediv n z
  have t0 := Int.emod_nonneg n (b := z) (by omega)
  have t1 := Int.emod_lt_of_pos n hz
  have e : n + z / 2 = (n % z + z / 2) + z * (n / z) := by omega
  rw [e, Int.add_mul_ediv_left _ _ (by omega)]
  split
  · rename_i c
    have : (n % z + z / 2) / z = 1 := by
      rw [show n % z + z / 2 = (n % z + z / 2 - z) + z * 1 by omega, Int.add_mul_ediv_left _ _ (by omega), Int.ediv_eq_zero_of_lt (by omega) (by omega)]
      rfl
    omega
  · have : (n % z + z / 2) / z = 0 := Int.ediv_eq_zero_of_lt (by omega) (by omega)
    omega
/-! ### Making the table -/
theorem made_rep (k : IntKind) (n : Nat) : madeCells #[.int k 0] n = Array.replicate n (.int k 0) := by
  apply Array.ext_getElem?
  intro i
  by_cases h : i < n
  · simp [madeCells, Nat.mod_one, h]
  · simp [madeCells, h]
/-! ### Bands -/
theorem bandsEdges_any (w : World) : Calls Try.prog 24 #[] w fun e w' => ∃ a c, e = .returned (.slice a 22 c) ∧ IntsAt w' w'.heap.size .i64 a 22 edgesL ∧ Below w.heap.size w w' := by
  go_enter Try.func24, Try.ntmps24
  go_wp2
  go_ret
  exact ⟨_, _, rfl, lit_ints w 3 .i64 edgesL _ (0, 0) rfl (by decide), Below.alloc_new w _⟩
theorem edge_all : (List.range 22).all (fun k => (List.range (k + 1)).all fun j => decide (edgeN j ≤ edgeN k)) = true := by decide +kernel
theorem edge_mono {j k : Nat} (h : j ≤ k) (hk : k < 22) : edgeN j ≤ edgeN k := by
  have := List.all_eq_true.1 (List.all_eq_true.1 edge_all k (List.mem_range.2 hk)) j (List.mem_range.2 (by omega))
  simpa using this
end Go.Proofs.Ytgnmnmjicjcffaa

/- What the smaller functions of package energy give, and the document's: the bits of a number, which ceilings are right, numbers that are the same. -/
namespace Go.Proofs.Ytgnmnmjicjcffaa
open Go.RowKit
set_option linter.unusedVariables false

/-! ### Bits -/
theorem lenE_shift {n : Int} {x b : Nat} (hn : 0 ≤ n) (hx : (x : Int) = n / 2 ^ b) (h : x ≠ 0) : bitLen n.toNat = b + bitLen x := by
  have e : n.toNat / 2 ^ b = x := by
    have : ((n.toNat / 2 ^ b : Nat) : Int) = x := by rw [Int.natCast_ediv, Int.toNat_of_nonneg hn, hx]; simp
    omega
  have := bitLen_shift n.toNat b (by omega)
  rw [e] at this; exact this
set_option maxRecDepth 100000 in
theorem len32E_any (n : Int) (w : World) (hn : 0 ≤ n) (hn' : n ≤ 4294967295) :
    Calls Try.prog 41 #[.int .u32 n] w fun e w' => e = .returned (.int .i64 (bitLen n.toNat)) ∧ w = w' := by
  go_enter Try.func41, Try.ntmps41
  go_wp2
  · go_ret
    refine ⟨ret_int ?_, rfl⟩
    rw [len8tab_get]
    have := bitLen_le8 (n / 65536 / 256).toNat (by omega)
    rw [lenE_shift (x := (n / 65536 / 256).toNat) (b := 24) hn (by rw [Int.toNat_of_nonneg (by omega), Int.ediv_ediv_of_nonneg (by decide)]; rfl) (by omega)]
    simp only [wrap64]; omega
  · go_ret
    refine ⟨ret_int ?_, rfl⟩
    rw [len8tab_get]
    have := bitLen_le8 (n / 65536).toNat (by omega)
    rw [lenE_shift (x := (n / 65536).toNat) (b := 16) hn (by rw [Int.toNat_of_nonneg (by omega)]; rfl) (by omega)]
    simp only [wrap64]; omega
  · go_ret
    refine ⟨ret_int ?_, rfl⟩
    rw [len8tab_get]
    have := bitLen_le8 (n / 256).toNat (by omega)
    rw [lenE_shift (x := (n / 256).toNat) (b := 8) hn (by rw [Int.toNat_of_nonneg (by omega)]; rfl) (by omega)]
    simp only [wrap64]; omega
  · go_ret
    refine ⟨ret_int ?_, rfl⟩
    rw [len8tab_get]
    have := bitLen_le8 n.toNat (by omega)
    simp only [wrap64]; omega
theorem engBits_any (n : Int) (w : World) (h0 : -2147483648 ≤ n) (h1 : n ≤ 2147483647) :
    Calls Try.prog 25 #[.int .i32 n] w fun e w' => e = .returned (.int .i64 (bitsI n)) ∧ w = w' := by
  obtain ⟨m, hm, m0, m1⟩ : ∃ m : Int, (n < 0 → m = -n) ∧ 0 ≤ m ∧ m ≤ 2147483648 := ⟨if n < 0 then -n else 0, fun h => if_pos h, by split <;> omega, by split <;> omega⟩
  by_cases hn : n < 0
  · have e1 : -n = m := (hm hn).symm
    have HB : RowKit.Hid (bitLen m.toNat = bitsI n) := by show _ = bitLen n.natAbs; congr 1; omega
    have d1 : decide (n < 0) = true := by simp; omega
    by_cases hq : n = -2147483648
    · have g1 : IntKind.i32.wrap (-n) = -2147483648 := by rw [hq]; decide
      have g2 : IntKind.u32.wrap (-2147483648) = m := by have : m = 2147483648 := by omega
                                                         rw [this]; decide
      clear hm hq hn e1
      go_enter Try.func25, Try.ntmps25
      go_wp2_with (go_at_call 41; refine (len32E_any m _ m0 (by omega)).mono ?_; rintro e w' ⟨rfl, rfl⟩; rw [HB.out])
      go_ret
      exact ⟨rfl, rfl⟩
    · have g1 : IntKind.i32.wrap (-n) = m := by rw [e1]; exact IntWalk.i32_in _ (by omega)
      have g2 : IntKind.u32.wrap m = m := IntWalk.u32_in _ (by omega)
      clear hm hq hn e1
      go_enter Try.func25, Try.ntmps25
      go_wp2_with (go_at_call 41; refine (len32E_any m _ m0 (by omega)).mono ?_; rintro e w' ⟨rfl, rfl⟩; rw [HB.out])
      go_ret
      exact ⟨rfl, rfl⟩
  · have HB : RowKit.Hid (bitLen n.toNat = bitsI n) := by show _ = bitLen n.natAbs; congr 1; omega
    have d1 : decide (n < 0) = false := by simp; omega
    have g2 : IntKind.u32.wrap n = n := IntWalk.u32_in _ (by omega)
    clear hm
    go_enter Try.func25, Try.ntmps25
    go_wp2_with (go_at_call 41; refine (len32E_any n _ (by omega) (by omega)).mono ?_; rintro e w' ⟨rfl, rfl⟩; rw [HB.out])
    go_ret
    exact ⟨rfl, rfl⟩
/-- The document's count of the bits of a number that isn't below nought. -/
theorem refBits_pos (n : Nat) (z : Int) (B : Nat) (w : World) (hz : z = n) (hn : n ≤ 4294967296) (hB : B = bitLen n) :
    Calls Try.prog 27 #[.int .i64 z] w fun e w' => e = .returned (.int .i64 B) ∧ w = w' := by
  subst hz
  have h32 : bitLen n ≤ 33 := bitLen_le (by omega)
  have HB := Lib.hid hB
  have d1 : decide ((n : Int) < 0) = false := by simp
  go_enter Try.func27, Try.ntmps27
  go_wp2
  go_loop [0, 3] (fun z k => ∃ m j : Nat, z = .int .i64 (m : Int) ∧ k = .int .i64 (j : Int) ∧ m ≤ 4294967296 ∧ j + bitLen m = B) (fun z _ => (intOf z).toNat)
  case atStart => exact ⟨n, 0, rfl, rfl, hn, by rw [HB.out]; omega⟩
  case round =>
    obtain ⟨m, j, rfl, rfl, hm, hj⟩ := hrel
    rw [HB.out] at hj
    by_cases h0 : m = 0
    · have hjB : j = B := by rw [HB.out]; rw [h0, bitLen_zero] at hj; omega
      subst h0
      clear hj
      go_wp2
      go_ret
      exact ⟨ret_int (by omega), rfl⟩
    · have hh := bitLen_half h0
      have t1 : decide ((m : Int) > 0) = true := by simp; omega
      have t2 : ((m : Int)).tdiv 2 = ((m / 2 : Nat) : Int) := by rw [Int.tdiv_eq_ediv_of_nonneg (by omega)]; omega
      obtain ⟨q, hq⟩ : ∃ q, q = m / 2 := ⟨_, rfl⟩
      rw [← hq] at hh t2
      have hq1 : q < m := by omega
      have hjB : j + 1 + bitLen q = B := by rw [HB.out]; omega
      have hjj : j ≤ 40 := by omega
      clear hh hj
      go_wp2
      go_round
      case rel => exact ⟨q, j + 1, by go_num, by go_num, by omega, hjB⟩
      case measure => simp [intOf] <;> omega
theorem refBits_any (x : Int) (w : World) (h0 : -2147483648 ≤ x) (h1 : x ≤ 2147483647) :
    Calls Try.prog 27 #[.int .i64 x] w fun e w' => e = .returned (.int .i64 (bitsI x)) ∧ w = w' := by
  by_cases hx : 0 ≤ x
  · exact refBits_pos x.toNat x (bitsI x) w (by omega) (by omega) (by unfold bitsI; congr 1; omega)
  · obtain ⟨n, hn⟩ : ∃ n : Nat, -x = n := ⟨(-x).toNat, by omega⟩
    obtain ⟨B, hB⟩ : ∃ B, B = bitsI x := ⟨_, rfl⟩
    have hB2 : B = bitLen n := by rw [hB]; unfold bitsI; congr 1; omega
    rw [← hB]
    clear hB
    have h32 : bitLen n ≤ 33 := bitLen_le (by omega)
    have HB := Lib.hid hB2
    have d1 : decide (x < 0) = true := by simp; omega
    have hn2 : n ≤ 4294967296 := by omega
    clear hB2
    go_enter Try.func27, Try.ntmps27
    go_wp2
    go_loop [0, 3] (fun z k => ∃ m j : Nat, z = .int .i64 (m : Int) ∧ k = .int .i64 (j : Int) ∧ m ≤ 4294967296 ∧ j + bitLen m = B) (fun z _ => (intOf z).toNat)
    case atStart => exact ⟨n, 0, rfl, rfl, hn2, by rw [HB.out]; omega⟩
    case round =>
      obtain ⟨m, j, rfl, rfl, hm, hj⟩ := hrel
      rw [HB.out] at hj
      by_cases h0 : m = 0
      · have hjB : j = B := by rw [HB.out]; rw [h0, bitLen_zero] at hj; omega
        subst h0
        clear hj
        go_wp2
        go_ret
        exact ⟨ret_int (by omega), rfl⟩
      · have hh := bitLen_half h0
        have t1 : decide ((m : Int) > 0) = true := by simp; omega
        have t2 : ((m : Int)).tdiv 2 = ((m / 2 : Nat) : Int) := by rw [Int.tdiv_eq_ediv_of_nonneg (by omega)]; omega
        obtain ⟨q, hq⟩ : ∃ q, q = m / 2 := ⟨_, rfl⟩
        rw [← hq] at hh t2
        have hq1 : q < m := by omega
        have hjB : j + 1 + bitLen q = B := by rw [HB.out]; omega
        have hjj : j ≤ 40 := by omega
        clear hh hj
        go_wp2
        go_round
        case rel => exact ⟨q, j + 1, by go_num, by go_num, by omega, hjB⟩
        case measure => simp [intOf] <;> omega

/-! ### Which are right -/
theorem engRight_any (a : Option Addr) (len cap : Nat) (zs : List Int) (w : World) (h : IntsAt w w.heap.size .i64 a len zs) (hm : len ≤ 9223372036854775807) :
    Calls Try.prog 11 #[.slice a len cap] w fun e w' => e = .returned (.bool (rightB zs)) ∧ w = w' := by
  obtain ⟨R, hR⟩ : ∃ R, R = rightB zs := ⟨_, rfl⟩
  rw [← hR]
  by_cases hl : len = 21
  · subst hl
    have H0 := Lib.hid h
    have HL := Lib.hid h.1
    have HR := Lib.hid hR
    clear h hR
    go_enter Try.func11, Try.ntmps11
    go_wp2
    go_loop [10] (fun i => ∃ k : Nat, k ≤ 21 ∧ i = .int .i64 (k : Int) ∧ RowKit.Hid (∀ j, j < k → 0 ≤ zs.getD j 0 ∧ zs.getD j 0 ≤ 26)) (fun i => 21 - (intOf i).toNat)
    case atStart => exact ⟨0, by omega, rfl, fun j hj => by omega⟩
    case round =>
      obtain ⟨k, hk, rfl, HP⟩ := hrel
      by_cases hlt : k < 21
      · obtain ⟨b, off, rfl, _, _, hcell⟩ := H0.out.at_ hlt
        have HN : RowKit.Hid (zs.getD k 0 < 0 ∨ 26 < zs.getD k 0 → R = false) := fun c => by rw [HR.out]; exact rightB_at (by rw [HL.out]; exact hlt) c
        have HY : RowKit.Hid (0 ≤ zs.getD k 0 ∧ zs.getD k 0 ≤ 26 → ∀ j, j < k + 1 → 0 ≤ zs.getD j 0 ∧ zs.getD j 0 ≤ 26) := fun c j hj => by
          by_cases e : j = k
          · rw [e]; exact c
          · exact HP.out j (by omega)
        generalize zs.getD k 0 = x at hcell HN HY
        by_cases x0 : x < 0
        · have HF := Lib.hid (HN.out (.inl x0))
          go_wp2
          go_ret
          exact ⟨ret_bool HF.out.symm, rfl⟩
        · by_cases x1 : 26 < x
          · have HF := Lib.hid (HN.out (.inr x1))
            go_wp2
            go_ret
            exact ⟨ret_bool HF.out.symm, rfl⟩
          · have HT := Lib.hid (HY.out ⟨by omega, by omega⟩)
            go_wp2
            go_round
            case rel => exact ⟨k + 1, by omega, by go_num, HT.out⟩
            case measure => simp [intOf] <;> omega
      · obtain rfl : k = 21 := by omega
        have HF : RowKit.Hid (R = true) := by show _ = _; rw [HR.out]; exact rightB_of HL.out HP.out
        go_wp2
        go_ret
        exact ⟨ret_bool HF.out.symm, rfl⟩
  · have HF : RowKit.Hid (R = false) := by show _ = _; rw [hR]; exact rightB_len (by rw [h.1]; exact hl)
    have q1 : ((len : Int) == 21) = false := by simp; omega
    clear h hR hl
    go_enter Try.func11, Try.ntmps11
    go_wp2
    go_ret
    exact ⟨ret_bool HF.out.symm, rfl⟩
theorem ref10Right_any (a : Option Addr) (len cap : Nat) (zs : List Int) (w : World) (h : IntsAt w w.heap.size .i64 a len zs) (hm : len ≤ 9223372036854775807) :
    Calls Try.prog 12 #[.slice a len cap] w fun e w' => e = .returned (.bool (rightB zs)) ∧ w = w' := by
  obtain ⟨R, hR⟩ : ∃ R, R = rightB zs := ⟨_, rfl⟩
  rw [← hR]
  have H0 := Lib.hid h
  have HL := Lib.hid h.1
  have HR := Lib.hid hR
  clear h hR
  go_enter Try.func12, Try.ntmps12
  go_wp2
  go_loop [3] (fun i => ∃ k : Nat, k ≤ len ∧ i = .int .i64 (k : Int) ∧ RowKit.Hid (∀ j, j < k → 0 ≤ zs.getD j 0 ∧ zs.getD j 0 ≤ 26)) (fun i => len - (intOf i).toNat)
  case atStart => exact ⟨0, by omega, rfl, fun j hj => by omega⟩
  case round =>
    obtain ⟨k, hk, rfl, HP⟩ := hrel
    by_cases hlt : k < len
    · obtain ⟨b, off, rfl, _, _, hcell⟩ := H0.out.at_ hlt
      have HN : RowKit.Hid (zs.getD k 0 < 0 ∨ 26 < zs.getD k 0 → R = false) := fun c => by rw [HR.out]; exact rightB_at (by rw [HL.out]; exact hlt) c
      have HY : RowKit.Hid (0 ≤ zs.getD k 0 ∧ zs.getD k 0 ≤ 26 → ∀ j, j < k + 1 → 0 ≤ zs.getD j 0 ∧ zs.getD j 0 ≤ 26) := fun c j hj => by
        by_cases e : j = k
        · rw [e]; exact c
        · exact HP.out j (by omega)
      generalize zs.getD k 0 = x at hcell HN HY
      have l1 : (k : Int) < (len : Int) := by omega
      by_cases x0 : x < 0
      · have HF := Lib.hid (HN.out (.inl x0))
        go_wp2
        go_ret
        exact ⟨ret_bool HF.out.symm, rfl⟩
      · by_cases x1 : 26 < x
        · have HF := Lib.hid (HN.out (.inr x1))
          go_wp2
          go_ret
          exact ⟨ret_bool HF.out.symm, rfl⟩
        · have HT := Lib.hid (HY.out ⟨by omega, by omega⟩)
          go_wp2
          go_round
          case rel => exact ⟨k + 1, by omega, by go_num, HT.out⟩
          case measure => simp [intOf] <;> omega
    · obtain rfl : k = len := by omega
      have l1 : ¬ (k : Int) < (k : Int) := by omega
      by_cases hl : k = 21
      · have HF : RowKit.Hid (R = true) := by show _ = _; rw [HR.out]; exact rightB_of (by rw [HL.out, hl]) fun j hj => HP.out j (by omega)
        have q1 : ((k : Int) == 21) = true := by simp; omega
        clear hl
        go_wp2
        go_ret
        exact ⟨ret_bool HF.out.symm, rfl⟩
      · have HF : RowKit.Hid (R = false) := by show _ = _; rw [HR.out]; exact rightB_len (by rw [HL.out]; exact hl)
        have q1 : ((k : Int) == 21) = false := by simp; omega
        clear hl
        go_wp2
        go_ret
        exact ⟨ret_bool HF.out.symm, rfl⟩
theorem engAhead_any (a : Option Addr) (len cap : Nat) (zs : List Int) (w : World) (h : IntsAt w w.heap.size .i64 a len zs) (hm : len ≤ 9223372036854775807) :
    Calls Try.prog 28 #[.slice a len cap] w fun e w' => e = .returned (.bool (decide (len = 0) || rightB zs)) ∧ w = w' := by
  have H0 := Lib.hid h
  by_cases h0 : len = 0
  · subst h0
    clear h
    go_enter Try.func28, Try.ntmps28
    go_wp2
    go_ret
    exact ⟨rfl, rfl⟩
  · have q1 : ((len : Int) == 0) = false := by simp; omega
    have HD : RowKit.Hid ((decide (len = 0) || rightB zs) = rightB zs) := by show _ = _; simp [h0]
    clear h h0
    go_enter Try.func28, Try.ntmps28
    go_wp2_with (go_at_call 11; refine (engRight_any _ _ _ _ _ H0.out hm).mono ?_; rintro e w' ⟨rfl, rfl⟩)
    go_ret
    exact ⟨ret_bool HD.out.symm, rfl⟩
theorem i64_and31 (n : Int) : bits .and .i64 n 31 = n % 32 := by
  have h1 : (BitVec.ofInt 64 31).toNat = 2 ^ 5 - 1 := by decide
  have key : (BitVec.ofInt 64 n &&& BitVec.ofInt 64 31).toNat = (n % ((2 ^ 64 : Nat) : Int)).toNat % 2 ^ 5 := by
    rw [BitVec.toNat_and, BitVec.toNat_ofInt, h1, Nat.and_two_pow_sub_one_eq_mod]
  show IntKind.i64.wrap ((BitVec.ofInt 64 n &&& BitVec.ofInt 64 31).toNat : Nat) = n % 32
  rw [key, IntKind.wrap_i64]
  omega
theorem engWrap_any (n : Int) (w : World) :
    Calls Try.prog 45 #[.int .i64 n] w fun e w' => e = .returned (.int .i64 (n % 32)) ∧ w = w' := by
  have HE := Lib.hid (i64_and31 n)
  go_enter Try.func45, Try.ntmps45
  go_wp2
  go_ret
  exact ⟨ret_int HE.out, rfl⟩
theorem drewE_add (w : World) (a b : Nat) : (w.drewN a).drewN b = w.drewN (a + b) := by unfold World.drewN; simp only [Nat.add_assoc]
/-- Two slices of the same numbers are equal. -/
theorem equal_same (a a' : Option Addr) (n cap cap' : Nat) (zs : List Int) (w : World) (h : IntsAt w w.heap.size .i64 a n zs) (h' : IntsAt w w.heap.size .i64 a' n zs) (hm : n ≤ 9223372036854775807) :
    Calls Try.prog 9 #[.slice a n cap, .slice a' n cap'] w fun e w' => e = .returned (.bool true) ∧ ∃ i, w' = w.drewN i := by
  have H := Lib.hid h
  have H' := Lib.hid h'
  clear h h'
  go_enter Try.func9, Try.ntmps9
  go_wp2
  go_loopw [13] (fun i wr => ∃ k : Nat, k ≤ n ∧ i = .int .i64 (k : Int) ∧ RowKit.Hid (∃ q, wr = w.drewN q)) (fun i _ => n - (intOf i).toNat)
  case atStart => exact ⟨0, by omega, rfl, 0, rfl⟩
  case round =>
    obtain ⟨k, hk, rfl, HW⟩ := hrel
    by_cases hlt : k < n
    · obtain ⟨b, off, rfl, _, _, h1⟩ := H.out.at_ hlt
      obtain ⟨b', off', rfl, _, _, h2⟩ := H'.out.at_ hlt
      have h1' : wr.cell? ⟨b, off + k, none⟩ = some (.int .i64 (zs.getD k 0)) := by obtain ⟨q, e⟩ := HW.out; rw [e]; exact h1
      have h2' : wr.cell? ⟨b', off' + k, none⟩ = some (.int .i64 (zs.getD k 0)) := by obtain ⟨q, e⟩ := HW.out; rw [e]; exact h2
      clear h1 h2
      have HN : RowKit.Hid (∀ nq, ∃ q, wr.drewN nq = w.drewN q) := fun nq => by obtain ⟨q, e⟩ := HW.out; exact ⟨q + nq, by rw [e, drewE_add]⟩
      generalize zs.getD k 0 = x at h1' h2'
      have l1 : (k : Int) < (n : Int) := by omega
      go_wp2
      go_quiet (fail)
      go_wp2
      go_roundw
      case rel => exact ⟨k + 1, by omega, by go_num, HN.out _⟩
      case measure => simp [intOf] <;> omega
    · obtain rfl : k = n := by omega
      go_wp2
      go_ret
      exact ⟨rfl, HW.out⟩
end Go.Proofs.Ytgnmnmjicjcffaa
