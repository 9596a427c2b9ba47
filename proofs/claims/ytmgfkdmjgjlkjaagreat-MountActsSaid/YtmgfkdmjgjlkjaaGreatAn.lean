/- Plain facts, and what functions give, for the proofs of this seat: several texts in one, each with its own first remark. -/
import Derived.Test.YtmgfkdmjgjlkjaaGreatAm
import Derived.Deep.RegionLaw
import Derived.Test.YtmgfkdmjgjlkjaaGreatAf

namespace Go.Proofs.YtmgfkdmjgjlkjaaGreat
open Go.RowKit
set_option linter.unusedVariables false
theorem pow_P2 (k : Nat) : (2 : Int) ^ k = P2 k := rfl
theorem u32_mask {n : Int} {k : Nat} (n0 : 0 ≤ n) (n1 : n ≤ 4294967295) (hk : k ≤ 31) : bits .and .u32 n (P2 k - 1) = n % P2 k := by
  obtain ⟨m, rfl⟩ : ∃ m : Nat, n = m := ⟨n.toNat, by omega⟩
  have p := P2_pos k
  have q := P2_mono (a := k) (b := 31) hk
  rw [show P2 31 = 2147483648 by decide] at q
  have e : P2 k = ((2 ^ k : Nat) : Int) := by unfold P2; rw [Int.natCast_pow]; rfl
  have e2 : P2 k - 1 = ((2 ^ k - 1 : Nat) : Int) := by
    rw [e] at p ⊢
    omega
  have h2 : 2 ^ k - 1 < 4294967296 := by
    rw [e] at q
    omega
  rw [e2, u32_and_nat m (2 ^ k - 1) (by omega) h2, Nat.and_two_pow_sub_one_eq_mod, e, Int.natCast_emod]
theorem encBits_mod (e : EncS) (n : Int) {k : Nat} (hk : k ≤ 12) : encBits e (n % P2 k) k = encBits e n k := by
  by_cases h : k = 0
  · subst h; rfl
  · rw [encBits_low _ _ (by omega) hk, encBits_low _ _ (by omega) hk, Int.emod_emod]
set_option maxRecDepth 100000 in
theorem rncBits_any (base g : Nat) (v : Value) (e : EncS) (n : Int) (wide : Nat) (w : World) (hE : EncAt w base g v e) (hG : GoodE e) (n0 : 0 ≤ n) (n1 : n ≤ 4294967295) (hw : wide ≤ 24) (h : n < P2 wide) (hk : e.k ≤ 800000) :
    Calls Tryz.prog 159 #[.pointer (some ⟨g, 0, none⟩), .int .u32 n, .int .i64 wide] w (PutPost base g v (encBits e n wide) (.int .i64 0) w) := by
  have hd : decide ((wide : Int) < 0) = false := by simp <;> omega
  have hd2 : decide (24 < (wide : Int)) = false := by simp; omega
  have hq : n / 2 ^ wide = 0 := by rw [pow_P2]; exact Int.ediv_eq_zero_of_lt n0 h
  have HE := Lib.hid hE
  have HG := Lib.hid hG
  clear hE hG
  go_enter Tryz.func159, Tryz.ntmps159
  go_wp2
  clear hd hd2 hq
  go_loopw [1, 2, 7] (fun m d _ wr => ∃ (q : Nat) (n2 : Int) (f : EncS) (v2 : Value), q ≤ wide ∧ d = .int .i64 q ∧ m = .int .u32 n2 ∧ 0 ≤ n2 ∧ n2 ≤ 4294967295 ∧ n2 < P2 q ∧ f.k ≤ e.k + 3 * (wide - q) ∧ RowKit.Hid (encBits f n2 q = encBits e n wide ∧ GoodE f ∧ EncAt wr base g v2 f ∧ Keeps (fun j => j = g ∨ v.ownBlock = some j) w wr ∧ (∀ j, v2.ownBlock = some j → v.ownBlock = some j ∨ w.heap.size ≤ j))) (fun _ d _ _ => (intOf d).toNat)
  case atStart => exact ⟨wide, n, e, v, Nat.le_refl _, rfl, rfl, n0, n1, h, by omega, rfl, HG.out, HE.out, Keeps.refl _ _, fun j hj => .inl hj⟩
  case round =>
    obtain ⟨q, n2, f, v2, hq, rfl, rfl, m0, m1, m2, hf, H⟩ := hrel
    clear HE
    by_cases hlt : 0 < q
    · by_cases hq12 : 12 < q
      · obtain ⟨lo, hlo⟩ : ∃ lo, q = lo + 12 := ⟨q - 12, by omega⟩
        subst hlo
        obtain ⟨s1, s2, s3, s4, s5⟩ := H.out
        have HM : RowKit.Hid (EncAt wr.drew base g v2 f) := s3
        have HGf := Lib.hid s2
        have pl := P2_pos lo
        have p12 : P2 (lo + 12) = P2 lo * 4096 := by unfold P2; rw [Int.pow_add]; rfl
        have x0 : 0 ≤ n2 / 2 ^ lo := by rw [pow_P2]; exact Int.ediv_nonneg m0 (by omega)
        have x1 : n2 / 2 ^ lo < 4096 := by rw [pow_P2, Int.ediv_lt_iff_lt_mul (by omega), Int.mul_comm, ← p12]; exact m2
        have xe : n2 / P2 lo % 4096 = n2 / 2 ^ lo := by rw [← pow_P2, Int.emod_eq_of_lt x0 x1]
        have HOk : RowKit.Hid (OkP (n2 / 2 ^ lo) 1 4096) := ⟨by decide, by decide, by decide, x0, by omega⟩
        have HEq : RowKit.Hid (encBits (encPut f (n2 / 2 ^ lo) 1 4096) (n2 % P2 lo) lo = encBits e n wide) := by
          show _ = _
          rw [encBits_mod _ _ (by omega), ← s1, encBits_high f n2 hq12 (by omega), show lo + 12 - 12 = lo by omega, xe]
        have hk1 : f.k ≤ 900000 := by omega
        obtain ⟨y0, y1⟩ := bit_part n2 (k := lo)
        have ylt : P2 lo ≤ 4096 := by have := P2_mono (a := lo) (b := 12) (by omega); rw [show P2 12 = 4096 by decide] at this; exact this
        have hmask : bits .and .u32 n2 ((2 ^ lo - 1) % 4294967296) = n2 % P2 lo := by
          rw [show (2 : Int) ^ lo - 1 = P2 lo - 1 from rfl, Int.emod_eq_of_lt (by omega) (by omega)]; exact u32_mask m0 m1 (by omega)
        have h4096 : IntKind.u32.wrap 4096 = 4096 := by decide
        clear p12 xe x0 x1
        go_wp2
        go_still_tail 7, (by kernel_rfl)
        repeat still_step
        change wpList _ _ _ _ _ wr.drew
        go_wp2_with (go_at_call 187; ((with_reducible refine (rncPut_any base g v2 f (n2 / 2 ^ lo) 1 4096 _ HM.out HGf.out HOk.out hk1).mono ?_)); rintro e5 w5 ⟨rfl, hpost⟩; have HP5 := Lib.hid hpost; clear hpost)
        go_roundw
        case rel =>
          obtain ⟨v5, u1, u2, u3⟩ := HP5.out
          have hk2 := encPut_k f (n2 / 2 ^ lo) 1 4096
          refine ⟨lo, n2 % P2 lo, encPut f (n2 / 2 ^ lo) 1 4096, v5, by omega, rfl, rfl, y0, by omega, y1, by omega, HEq.out, encPut_good HGf.out HOk.out, u1, (s4.drewN 1).then_ u2 ?_, ?_⟩
          · rintro j (hj | hj)
            · exact .inl (.inl hj)
            · rcases s5 j hj with h | h
              · exact .inl (.inr h)
              · exact .inr h
          · intro j hj
            rcases u3 j hj with h | h
            · exact s5 j h
            · have := s4.size
              have h' : wr.heap.size ≤ j := h
              exact .inr (by omega)
        case measure => simp [intOf] <;> omega
      · obtain ⟨s1, s2, s3, s4, s5⟩ := H.out
        have HM : RowKit.Hid (EncAt wr.drew base g v2 f) := s3
        have HGf := Lib.hid s2
        have pl := P2_pos q
        have ql := P2_mono (a := q) (b := 12) (by omega)
        rw [show P2 12 = 4096 by decide] at ql
        have HOk : RowKit.Hid (OkP n2 1 (P2 q)) := okP_bit (by omega) m0 m2
        have HEq : RowKit.Hid (encPut f n2 1 (P2 q) = encBits e n wide) := by
          show _ = _
          rw [← s1, encBits_low f n2 hlt (by omega), Int.emod_eq_of_lt m0 m2]
        have hk1 : f.k ≤ 900000 := by omega
        have hpq : IntKind.u32.wrap (2 ^ q) = P2 q := IntWalk.u32_in _ (by rw [pow_P2]; omega)
        have hmin : min (q : Int) 12 = q := by omega
        have hm0 : bits .and .u32 n2 0 = 0 := by
          have := u32_mask (k := 0) m0 m1 (by omega)
          rw [show P2 0 - 1 = 0 by decide, show P2 0 = 1 by decide] at this
          rw [this]; omega
        clear ql
        go_wp2
        go_still_tail 7, (by kernel_rfl)
        repeat still_step
        change wpList _ _ _ _ _ wr.drew
        go_wp2_with (go_at_call 187; ((with_reducible refine (rncPut_any base g v2 f n2 1 (P2 q) _ HM.out HGf.out HOk.out hk1).mono ?_)); rintro e5 w5 ⟨rfl, hpost⟩; have HP5 := Lib.hid hpost; clear hpost)
        go_roundw
        case rel =>
          obtain ⟨v5, u1, u2, u3⟩ := HP5.out
          have hk2 := encPut_k f n2 1 (P2 q)
          refine ⟨0, 0, encPut f n2 1 (P2 q), v5, by omega, rfl, rfl, by omega, by omega, by decide, by omega, HEq.out, encPut_good HGf.out HOk.out, u1, (s4.drewN 1).then_ u2 ?_, ?_⟩
          · rintro j (hj | hj)
            · exact .inl (.inl hj)
            · rcases s5 j hj with h | h
              · exact .inl (.inr h)
              · exact .inr h
          · intro j hj
            rcases u3 j hj with h | h
            · exact s5 j h
            · have := s4.size
              have h' : wr.heap.size ≤ j := h
              exact .inr (by omega)
        case measure => simp [intOf] <;> omega
    · obtain rfl : q = 0 := by omega
      go_wp2
      go_ret
      obtain ⟨h1, h2, h3, h4, h5⟩ := H.out
      rw [encBits_zero] at h1
      subst h1
      exact ⟨rfl, v2, h3, h4, h5⟩
end Go.Proofs.YtmgfkdmjgjlkjaaGreat

namespace Go.Proofs.YtmgfkdmjgjlkjaaGreat
open Go.RowKit
set_option linter.unusedVariables false
set_option maxRecDepth 100000 in
theorem refFixed_any (a : Option Addr) (len cap : Nat) (zs : List Int) (w : World) (h : IntsAt w w.heap.size .u32 a len zs) (hb : ∀ j, j < len → 0 ≤ zs.getD j 0 ∧ zs.getD j 0 ≤ 4294967295) (h0 : 1 ≤ len) (h1 : len ≤ 64) :
    Calls Tryz.prog 108 #[.slice a len cap] w fun e w' => Below w.heap.size w w' ∧
      (((∃ j, j < len ∧ zs.getD j 0 = 0) ∧ e = .returned (.tuple #[.pointer none, .bool false])) ∨
       ((∀ j, j < len → 1 ≤ zs.getD j 0) ∧ ∃ g r, e = .returned (.tuple #[.pointer (some ⟨g, 0, none⟩), .bool (decide (sumN zs len ≤ 8192))]) ∧ RefMod w' w.heap.size g r zs true)) := by
  obtain ⟨b, off, rfl, hbB, _, _⟩ := h.at_ (j := 0) (by omega)
  have H0 := Lib.hid h
  have HW := Lib.hid hb
  clear h hb
  have hd : decide ((len : Int) < 1) = false := by simp; omega
  have hd2 : decide ((64 : Int) < (len : Int)) = false := by simp; omega
  have HC := Lib.hid (Cel.new w 195 #[.slice none 0 0, .bool true])
  have HB := Lib.hid (Below.alloc_new w (.cells #[.slice none 0 0, .bool true] 195))
  have HO := Lib.hid (World.ownsRow_nil (w.alloc (.cells #[.slice none 0 0, .bool true] 195)) w.heap.size 3 1)
  obtain ⟨i0, hi, hzz, hz1, hz2⟩ := info_parts info_int05
  go_enter Tryz.func108, Tryz.ntmps108
  go_wp2
  go_loopw [5] (fun i wr => ∃ k : Nat, k ≤ len ∧ i = .int .i64 k ∧ RowKit.Hid ((∀ j, j < k → 1 ≤ zs.getD j 0) ∧ ∃ v, Cel wr w.heap.size 195 #[v, .bool true] ∧ wr.ownsRow w.heap.size 3 1 v k ((zs.take k).map (Value.int .i64)) ∧ Below w.heap.size w wr)) (fun i _ => len - (intOf i).toNat)
  case atStart => exact ⟨0, by omega, rfl, fun j hj => by omega, _, HC.out, HO.out, HB.out⟩
  case round =>
    obtain ⟨k, hk, rfl, H⟩ := hrel
    clear HC HB HO
    have HP := Lib.hid H.out.1
    obtain ⟨v, hc, ho, hb⟩ := H.out.2
    clear H
    have c0 := hc.cell 0
    have f0 := hc.frozen 0
    simp only [List.getElem?_toArray, List.getElem?_cons_zero] at c0
    have HC := Lib.hid hc
    have HO := Lib.hid ho
    have HB := Lib.hid hb
    have hsz := hb.size
    have hgl := hc.lt
    have hne : v.ownBlock ≠ some w.heap.size := fun c => own_ne_cel ho hc (by decide) _ c rfl
    clear hc ho hb
    by_cases hlt : k < len
    · obtain ⟨b', off', e', _, _, hcell⟩ := H0.out.at_ hlt
      obtain ⟨rfl, rfl⟩ : b = b' ∧ off = off' := by injection e' with e'; injection e' with e1 e2; exact ⟨e1, e2⟩
      have hx := HB.out.cell (p := ⟨b, off + k, none⟩) hbB
      rw [hcell] at hx
      clear hcell e'
      obtain ⟨x0, x1⟩ := HW.out k hlt
      have HT := Lib.hid (take_snocI zs k (by rw [H0.out.1]; exact hlt))
      obtain ⟨x, hxd⟩ : ∃ x, x = zs.getD k 0 := ⟨_, rfl⟩
      rw [← hxd] at hx x0 x1
      have HX := Lib.hid hxd
      have HT' := HT
      clear HT
      have HT : RowKit.Hid (zs.take (k + 1) = zs.take k ++ [x]) := by show _ = _; rw [hxd]; exact HT'.out
      clear hxd HT'
      have g2 : (k : Int) < (len : Int) := by omega
      have e1 : wrap64 x = x := IntWalk.wrap64_in _ (by omega)
      have e2 : IntKind.i64.wrap x = x := IntWalk.i64_in _ (by omega)
      go_wp2
      have hA := Lib.hid (World.ownsRow.alloc HO.out (.cells #[.int .i64 x] 3))
      go_region_law ((refine step_append_lies _ (by rfl) _ _ _ (by rfl) w.heap.size 3 i0 (.int .i64 0) 1 8 Tryz.underlying68 hi hzz hz1 hz2 rfl (by decide) v k _ (by rfl) hA.out.drew ⟨wr.heap.size, 0, none⟩ 1 1 [.int .i64 x] (by rfl) (by rfl) (World.news_of_block (cs := #[.int .i64 x]) (t := 3) (fr := (0, 0)) (heap_alloc_new wr _)) (by simp [Value.oneCell']) (by omega) (by unfold maxLen; omega) (by omega) (by simp; omega) (wr.heap.size + 1) (by simp) ?_; intro gg cp w2 hown hgrow hat hlt2; have c2 : w2.cell? ⟨w.heap.size, 0, none⟩ = some v := (hgrow.cell_far ⟨w.heap.size, 0, none⟩ (by simp; omega) (fun c => hne c.symm)).trans ((HC.out.alloc (.cells #[.int .i64 x] 3)).cell 0); have f2 : w2.frozen? ⟨w.heap.size, 0, none⟩ = false := (hgrow.frozen_far ⟨w.heap.size, 0, none⟩ (by simp; omega) (fun c => hne c.symm)).trans ((HC.out.alloc (.cells #[.int .i64 x] 3)).frozen 0)))
      all_goals
        have hc2 : Cel w2 w.heap.size 195 #[v, .bool true] := (HC.out.alloc (.cells #[.int .i64 x] 3)).keep (hgrow.block _ (by simp; omega) (fun c => hne c.symm))
        have hb2 : Below w.heap.size w w2 := (Below.drewN' (HB.out.alloc hsz (.cells #[.int .i64 x] 3)) 1).grown hgrow (by simp; omega) (own_base HO.out)
        have hown2 : w2.ownsRow w.heap.size 3 1 (.slice (some ⟨gg, 0, none⟩) (k + 1) cp) (k + 1) ((zs.take (k + 1)).map (Value.int .i64)) := by rw [HT.out]; simpa using hown
        obtain ⟨w3, hw3⟩ : ∃ w3, w3 = w2.setCell ⟨w.heap.size, 0, none⟩ (.slice (some ⟨gg, 0, none⟩) (k + 1) cp) := ⟨_, rfl⟩
        have H3 : RowKit.Hid (Cel w3 w.heap.size 195 #[.slice (some ⟨gg, 0, none⟩) (k + 1) cp, .bool true] ∧ w3.ownsRow w.heap.size 3 1 (.slice (some ⟨gg, 0, none⟩) (k + 1) cp) (k + 1) ((zs.take (k + 1)).map (Value.int .i64)) ∧ Below w.heap.size w w3) := by
          rw [hw3]
          refine ⟨by simpa using hc2.set_ 0 (.slice (some ⟨gg, 0, none⟩) (k + 1) cp), ?_, hb2.setCell (Nat.le_refl _) _⟩
          exact own_far hown2 (fun j hj => own_ne_cel hown2 hc2 (by decide) j hj) _
        rw [← hw3]
        clear hw3 hc2 hb2 hown2 hown hgrow c2 f2 hat hlt2 hx c0 f0
        have hx3 : w3.cell? ⟨b, off + k, none⟩ = some (.int .u32 x) := by
          rw [H3.out.2.2.cell (p := ⟨b, off + k, none⟩) hbB]
          obtain ⟨b', off', e', _, _, hcell⟩ := H0.out.at_ hlt
          obtain ⟨rfl, rfl⟩ : b = b' ∧ off = off' := by injection e' with e'; injection e' with e1 e2; exact ⟨e1, e2⟩
          rw [hcell, HX.out]
        by_cases hxz : x = 0
        · have hq : (x == 0) = true := by simpa using hxz
          go_wp2
          go_ret2
          exact ⟨H3.out.2.2, .inl ⟨⟨k, hlt, by rw [← HX.out]; exact hxz⟩, rfl⟩⟩
        · have hq : (x == 0) = false := by simpa using hxz
          go_wp2
          go_roundw
          case rel =>
            refine ⟨k + 1, by omega, by go_num, fun j hj => ?_, _, H3.out.1, H3.out.2.1, H3.out.2.2⟩
            by_cases hjk : j = k
            · subst hjk; rw [← HX.out]; omega
            · exact HP.out j (by omega)
          case measure => simp [intOf] <;> omega
    · obtain rfl : k = len := by omega
      obtain ⟨r, c, e, _, _⟩ := World.ownsRow.form HO.out (by omega)
      subst e
      have hzl : zs.length = k := H0.out.1
      have Z : RowKit.Hid (RefMod wr w.heap.size w.heap.size r zs true) := by
        refine ⟨c, ?_, ?_, Nat.le_refl _⟩
        · rw [hzl]; exact HC.out
        · have := HO.out
          rw [List.take_of_length_le (by omega)] at this
          rw [hzl]; exact this
      have HL := Lib.hid hzl
      clear hzl
      go_wp2_with (go_at_call 109; go_loud (refine (refSum_at w.heap.size w.heap.size r zs true k _ _ (by omega) Z.out (by rw [HL.out]; exact Nat.le_refl _) (by rw [HL.out]; omega) (by rw [HL.out]; exact HW.out)).mono ?_); rintro e w' ⟨rfl, rfl⟩)
      go_ret2
      exact ⟨HB.out, .inr ⟨HP.out, _, _, rfl, Z.out⟩⟩
end Go.Proofs.YtmgfkdmjgjlkjaaGreat

namespace Go.Proofs.YtmgfkdmjgjlkjaaGreat
open Go.RowKit
set_option linter.unusedVariables false
theorem modPart_at (g : Nat) (l : List Int) (fx : Bool) (s : Nat) (i : Int) (v : Value) (w : World) (hi : i = s) (h : ModAt w g l fx) (hG : GoodL l) (hs : s < l.length) (hv : partV l s = v) :
    Calls Tryz.prog 202 #[.pointer (some ⟨g, 0, none⟩), .int .i64 i] w fun e w' => e = .returned (.tuple #[v, .int .i64 0]) ∧ Below w.heap.size w w' := by
  subst hi; subst hv; exact modPart_any g l fx s w h hG hs
end Go.Proofs.YtmgfkdmjgjlkjaaGreat

namespace Go.Proofs.YtmgfkdmjgjlkjaaGreat
open Go.RowKit
set_option linter.unusedVariables false
theorem cel_ne {w : World} {g m : Nat} {t u : TypeId} {cs ds : Array Value} (h : Cel w g t cs) (k : Cel w m u ds) (hne : t ≠ u) : g ≠ m := by
  rintro rfl
  unfold Cel at h k
  rw [h] at k
  injection k with k
  injection k with _ k
  exact hne k
theorem EncAt.ne_mod {w : World} {base g m : Nat} {v : Value} {e : EncS} {l : List Int} {fx : Bool} (h : EncAt w base g v e) (k : ModAt w m l fx) : m ≠ g ∧ v.ownBlock ≠ some m := by
  obtain ⟨D, last, q1, q2⟩ := h
  exact ⟨cel_ne k.2 q1.1 (by decide), fun c => own_ne_cel q1.2.1 k.2 (by decide) m c rfl⟩
section
variable {w w' : World} {base g : Nat} {v : Value} {e : EncS}
theorem EncAt.below (h : EncAt w base g v e) (hk : Below w.heap.size w w') : EncAt w' base g v e := EncR.below h hk
theorem EncAt.keeps {F : Nat → Prop} (h : EncAt w base g v e) (hk : Keeps F w w') (h1 : ¬ F g) (h2 : ∀ r, v.ownBlock = some r → ¬ F r) : EncAt w' base g v e := EncR.keeps h hk h1 h2
theorem EncAt.drewN (h : EncAt w base g v e) (n : Nat) : EncAt (w.drewN n) base g v e := h
theorem EncAt.lt (h : EncAt w base g v e) : g < w.heap.size ∧ base ≤ g := EncR.lt h
theorem EncAt.own (h : EncAt w base g v e) (r : Nat) (hr : v.ownBlock = some r) : r < w.heap.size ∧ base ≤ r ∧ r ≠ g := EncR.own h r hr
end
def SymPostP (base g : Nat) (v : Value) (mg : Nat) (f : EncS) (l : List Int) (fx : Bool) (w : World) (x : Ending) (w' : World) : Prop :=
  x = .returned (.int .i64 0) ∧ ∃ v', EncAt w' base g v' f ∧ ModAt w' mg l fx ∧ Keeps (fun j => j = g ∨ v.ownBlock = some j ∨ j = mg) w w' ∧ (∀ j, v'.ownBlock = some j → v.ownBlock = some j ∨ w.heap.size ≤ j)
set_option maxRecDepth 100000 in
theorem rncSymbol_any (base g : Nat) (v : Value) (mg : Nat) (e : EncS) (l : List Int) (fx : Bool) (s : Nat) (w : World) (hE : EncAt w base g v e) (hM : ModAt w mg l fx) (hG : GoodE e) (hL : GoodL l) (hs : s < l.length) (hk : e.k ≤ 800000) :
    Calls Tryz.prog 189 #[.pointer (some ⟨g, 0, none⟩), .pointer (some ⟨mg, 0, none⟩), .int .i64 s] w (SymPostP base g v mg (encSym e l s) (nextL l fx s) fx w) := by
  have HNe := Lib.hid (hE.ne_mod hM)
  have HE := Lib.hid hE
  have HM := Lib.hid hM
  have HG := Lib.hid hG
  have HL := Lib.hid hL
  have HOk := Lib.hid (okP_sym hL hs)
  have HS : RowKit.Hid (encSym e l s = encPut e (sumN l s) (l.getD s 0) l.sum) := rfl
  have HV : RowKit.Hid (partV l s = .agg #[.int .u32 (sumN l s), .int .u32 (l.getD s 0), .int .u32 l.sum]) := rfl
  have hk1 : e.k ≤ 900000 := by omega
  have hgl := HE.out.lt.1
  have hml := HM.out.lt
  have HOw : RowKit.Hid (∀ r, v.ownBlock = some r → r < w.heap.size ∧ base ≤ r ∧ r ≠ g) := fun r hr => HE.out.own r hr
  rw [HS.out]
  clear hE hM hG hL HS
  generalize l.getD s 0 = x at HOk HV ⊢
  generalize l.sum = t at HOk HV ⊢
  generalize sumN l s = y at HOk HV ⊢
  cases fx with
  | true =>
    go_enter Tryz.func189, Tryz.ntmps189
    go_wp2_with (first | (go_at_call 202; go_loud (refine (modPart_at mg l true s _ _ _ rfl HM.out HL.out hs HV.out).mono ?_); rintro e1 w1 ⟨rfl, hb⟩; have HB1 := Lib.hid (hb.trans ((Below.alloc_new w1 (.cells #[.int .u32 y, .int .u32 x, .int .u32 t] 263)).mono hb.size)); have HE1 := Lib.hid (HE.out.below HB1.out); have HM1 := Lib.hid (HM.out.below HB1.out); clear hb) | (go_at_call 187; go_loud (with_reducible refine (rncPut_any base g v e y x t _ HE1.out HG.out HOk.out hk1).mono ?_); rintro e2 w2 ⟨rfl, hp⟩; obtain ⟨v2, p1, p2, p3⟩ := hp; have HP2 := Lib.hid p1; have HK2 := Lib.hid p2; have HO2 := Lib.hid p3; have HM2 := Lib.hid (HM1.out.keeps p2 (by intro c; rcases c with c | c; exact HNe.out.1 c; exact HNe.out.2 c)); clear p1 p2 p3) | (go_at_call 203; go_loud (with_reducible refine (modLearn_fixed mg l s _ HM2.out hs).mono ?_); rintro e3 w3 ⟨rfl, n3, rfl⟩))
    go_ret
    refine ⟨rfl, v2, HP2.out.drewN n3, HM2.out.drewN n3, (((Keeps.of_below HB1.out).trans (HK2.out.mono ?_)).drewN n3), fun j hj => ?_⟩
    · rintro j (h | h)
      · exact .inl h
      · exact .inr (.inl h)
    · rcases HO2.out j hj with h | h
      · exact .inl h
      · have := HB1.out.size; exact .inr (by omega)
  | false =>
    go_enter Tryz.func189, Tryz.ntmps189
    go_wp2_with (first | (go_at_call 202; go_loud (refine (modPart_at mg l false s _ _ _ rfl HM.out HL.out hs HV.out).mono ?_); rintro e1 w1 ⟨rfl, hb⟩; have HB1 := Lib.hid (hb.trans ((Below.alloc_new w1 (.cells #[.int .u32 y, .int .u32 x, .int .u32 t] 263)).mono hb.size)); have HE1 := Lib.hid (HE.out.below HB1.out); have HM1 := Lib.hid (HM.out.below HB1.out); clear hb) | (go_at_call 187; go_loud (with_reducible refine (rncPut_any base g v e y x t _ HE1.out HG.out HOk.out hk1).mono ?_); rintro e2 w2 ⟨rfl, hp⟩; obtain ⟨v2, p1, p2, p3⟩ := hp; have HP2 := Lib.hid p1; have HK2 := Lib.hid p2; have HO2 := Lib.hid p3; have HM2 := Lib.hid (HM1.out.keeps p2 (by intro c; rcases c with c | c; exact HNe.out.1 c; exact HNe.out.2 c)); clear p1 p2 p3) | (go_at_call 203; go_loud (with_reducible refine (modLearn_any mg l s _ HM2.out HL.out hs).mono ?_); rintro e3 w3 ⟨rfl, hm, hk3⟩; have HM3 := Lib.hid hm; have HK3 := Lib.hid hk3; clear hm hk3))
    go_ret
    have hnew : ∀ j, v2.ownBlock = some j → j ≠ mg := by
      intro j hj
      rcases HO2.out j hj with h | h
      · rintro rfl; exact HNe.out.2 h
      · have := HB1.out.size; omega
    refine ⟨rfl, v2, HP2.out.keeps HK3.out (fun c => HNe.out.1 c.symm) (fun r hr => hnew r hr), HM3.out, ((Keeps.of_below HB1.out).trans (HK2.out.mono ?_)).trans (HK3.out.mono fun j hj => .inr (.inr hj)), fun j hj => ?_⟩
    · rintro j (h | h)
      · exact .inl h
      · exact .inr (.inl h)
    · rcases HO2.out j hj with h | h
      · exact .inl h
      · have := HB1.out.size; exact .inr (by omega)
end Go.Proofs.YtmgfkdmjgjlkjaaGreat

namespace Go.Proofs.YtmgfkdmjgjlkjaaGreat
open Go.RowKit
set_option linter.unusedVariables false
theorem make_empty {P : Program} {t e : TypeId} {k : IntKind} {b : Nat} (ht : P.underlying t = some (.slice e)) (hi : (P.info? e).map (fun i => (i.zero, i.size, i.bytes)) = some (some (.int k 0), 1, b))
    (n : Int) (c : Nat) (hn0 : n = c) (hb : b * c ≤ 281474976710656) (hn : c ≤ 9223372036854775807) (w : World) :
    (Instr.makeSlice t (.int .i64 0) (.int .i64 n)).run P w = .ok (.slice (some ⟨w.heap.size, 0, none⟩) 0 c) (w.alloc (.cells (madeCells #[.int k 0] c) e)) := by
  subst hn0
  obtain ⟨i, h1, h2, h3, h4⟩ := info_parts hi
  have hb' : (i.bytes : Int) * (c : Int) ≤ 281474976710656 := by
    have h : ((i.bytes * c : Nat) : Int) ≤ 281474976710656 := by rw [h4]; omega
    rwa [Int.natCast_mul] at h
  have hr := run_make (P := P) w t e i (.int k 0) ht h1 h2 .i64 .i64 0 c (by omega) (by omega) hb' (by omega)
  rw [hr, h3]
  simp [Value.cells]
theorem own_none {w : World} {base e n c : Nat} {a : Option Addr} {xs : List Value} (h : w.ownsRow base e 1 (.slice a n c) n xs) : a = none → c = 0 := by
  rintro rfl
  rcases h.2 with ⟨h1, _⟩ | ⟨g, cap, cur, h1, _⟩
  · injection h1
  · injection h1 with h1; cases h1
end Go.Proofs.YtmgfkdmjgjlkjaaGreat

namespace Go.Proofs.YtmgfkdmjgjlkjaaGreat
open Go.RowKit
set_option linter.unusedVariables false
theorem byteF_bd {b : List Int} (h : IsDig b) (j : Nat) : 0 ≤ byteF b j ∧ byteF b j ≤ 255 := by
  unfold byteF
  by_cases hj : j < b.length
  · exact h j hj
  · rw [List.getD, List.getElem?_eq_none (by omega)]; decide
theorem goodD_new {b : List Int} (h : IsDig b) : GoodD (decNew (byteF b)) := by
  have a := valB_nonneg (fun j => (byteF_bd h j).1) 4
  have b0 := byteF_bd h 0
  have b1 := byteF_bd h 1
  have b2 := byteF_bd h 2
  have b3 := byteF_bd h 3
  refine ⟨by show (16777216 : Int) ≤ 4294967295; decide, by show (4294967295 : Int) ≤ 4294967295; decide, a, ?_⟩
  show (((0 * 256 + byteF b 0) * 256 + byteF b 1) * 256 + byteF b 2) * 256 + byteF b 3 ≤ 4294967295
  omega
end Go.Proofs.YtmgfkdmjgjlkjaaGreat

namespace Go.Proofs.YtmgfkdmjgjlkjaaGreat
open Go
set_option linter.unusedVariables false
theorem digOf_only {F : EncS} (hG : GoodE F) : DigOf (byteF (bytesL (digL F.n (F.k + 4)))) F := by
  refine digOf_bytes hG fun j hj => ?_
  rw [bytesL_get]; unfold byteF; exact digL_getD F.n hj
theorem bytesL_le (F : EncS) : (bytesL (digL F.n (F.k + 4))).length ≤ F.k + 4 := by
  have := lastK_bd (digL F.n (F.k + 4)) (digL F.n (F.k + 4)).length
  have hl := digL_len F.n (F.k + 4)
  rw [bytesL_len]; omega
theorem bytesL_dig (F : EncS) : IsDig (bytesL (digL F.n (F.k + 4))) := by
  intro j hj
  have e := bytesL_get (digL F.n (F.k + 4)) j
  have hl := bytesL_le F
  unfold byteF at e
  rw [e, digL_getD F.n (by omega)]
  exact digB_bd _ _ _
end Go.Proofs.YtmgfkdmjgjlkjaaGreat

namespace Go.Proofs.YtmgfkdmjgjlkjaaGreat
open Go Go.RowKit
set_option linter.unusedVariables false
def difL : List Int := [3000, 1500, 500, 10, 10, 10, 10, 10, 10, 10, 10, 10, 10, 10, 10, 10, 10, 10, 10, 10, 10, 10, 10, 10, 10, 10, 10, 10, 10, 10, 500, 1500]
theorem difL_good : GoodL difL := by unfold GoodL; decide
theorem difL_len : difL.length = 32 := rfl
theorem difL_bd : ∀ j, j < 32 → 0 ≤ difL.getD j 0 ∧ difL.getD j 0 ≤ 4294967295 := by decide
theorem difL_one : ∀ j, j < 32 → 1 ≤ difL.getD j 0 := by decide
theorem difL_sum : sumN difL 32 = 7270 := by decide
def putW (q : Bool) (e : EncS) (a d : Int) : EncS := if q then encBits e a 5 else encSym e difL ((a - d) % 32).toNat
theorem putW_alone (e : EncS) (a d : Int) : putW true e a d = encBits e a 5 := if_pos rfl
theorem putW_diff (e : EncS) (a d : Int) : putW false e a d = encSym e difL ((a - d) % 32).toNat := if_neg (by decide)
def putN (q : Bool) (e : EncS) (f d : Nat → Int) : Nat → EncS
  | 0 => e
  | n + 1 => putW q (putN q e f d n) (f n) (d n)
theorem putN_succ (q : Bool) (e : EncS) (f d : Nat → Int) (n : Nat) : putN q e f d (n + 1) = putW q (putN q e f d n) (f n) (d n) := rfl
theorem dif_lt (x : Int) : (x % 32).toNat < difL.length := by rw [difL_len]; omega
theorem putW_good {q : Bool} {e : EncS} {a d : Int} (h : GoodE e) : GoodE (putW q e a d) ∧ (putW q e a d).k ≤ e.k + 4 ∧ Inside e (putW q e a d) := by
  cases q with
  | true =>
    rw [putW_alone]
    exact ⟨encBits_good (n := a) (wide := 5) h (by decide), encBits_k e a (wide := 5) (by decide), encBits_inside (n := a) (wide := 5) h (by decide)⟩
  | false =>
    rw [putW_diff]
    have := encSym_k e difL ((a - d) % 32).toNat
    exact ⟨encSym_good h difL_good (dif_lt _), by omega, encSym_inside h difL_good (dif_lt _)⟩
theorem putN_good {q : Bool} {e : EncS} {f d : Nat → Int} (h : GoodE e) : ∀ n, GoodE (putN q e f d n) ∧ (putN q e f d n).k ≤ e.k + 4 * n ∧ Inside e (putN q e f d n) := by
  intro n
  induction n with
  | zero => exact ⟨h, Nat.le_refl _, Inside.refl e⟩
  | succ n ih =>
    obtain ⟨h1, h2, h3⟩ := ih
    obtain ⟨g1, g2, g3⟩ := putW_good (q := q) (a := f n) (d := d n) h1
    rw [putN_succ]
    exact ⟨g1, by omega, h3.trans g3⟩
theorem putN_inside {q : Bool} {e : EncS} {f d : Nat → Int} (h : GoodE e) (j n : Nat) : Inside (putN q e f d j) (putN q e f d (j + n)) := by
  induction n with
  | zero => exact Inside.refl _
  | succ n ih => exact ih.trans (putW_good (putN_good h (j + n)).1).2.2
def getW (q : Bool) (b : List Int) (D : DecS) (d : Int) : Int × DecS := if q then decBits b D 0 5 else ((d + decWhich D difL) % 32, decSym b D difL)
theorem getW_alone (b : List Int) (D : DecS) (d : Int) : getW true b D d = decBits b D 0 5 := if_pos rfl
theorem getW_diff (b : List Int) (D : DecS) (d : Int) : getW false b D d = ((d + decWhich D difL) % 32, decSym b D difL) := if_neg (by decide)
def getN (q : Bool) (b : List Int) (D : DecS) (d : Nat → Int) : Nat → DecS
  | 0 => D
  | n + 1 => (getW q b (getN q b D d n) (d n)).2
theorem getN_succ (q : Bool) (b : List Int) (D : DecS) (d : Nat → Int) (n : Nat) : getN q b D d (n + 1) = (getW q b (getN q b D d n) (d n)).2 := rfl
def getV (q : Bool) (b : List Int) (D : DecS) (d : Nat → Int) (n : Nat) : Int := (getW q b (getN q b D d n) (d n)).1
theorem decBits5 (b : List Int) (D : DecS) : decBits b D 0 5 = (decAt D 32, decTake (byteF b) D (decAt D 32) 1 32) := by
  rw [decBits_low b D 0 (by decide) (by decide), show P2 5 = 32 by decide]; simp
theorem getW_good {q : Bool} {b : List Int} {D : DecS} {d : Int} (hb : ∀ j, 0 ≤ byteF b j ∧ byteF b j ≤ 255) (h : GoodD D) : GoodD (getW q b D d).2 ∧ (getW q b D d).2.i ≤ D.i + 2 ∧ 0 ≤ (getW q b D d).1 ∧ (getW q b D d).1 ≤ 31 := by
  cases q with
  | true =>
    rw [getW_alone, decBits5]
    obtain ⟨a1, a2, a3⟩ := decAt_bd (all := 32) h (by decide) (by decide)
    exact ⟨(decTake_good hb h ⟨by decide, by decide, by decide, a1, by omega⟩ a3).1, decTake_i _ _ _ _ _, a1, by show decAt D 32 ≤ 31; omega⟩
  | false =>
    rw [getW_diff]
    obtain ⟨a1, a2, a3, a4⟩ := decWhich_is h difL_good
    exact ⟨(decTake_good hb h (okP_sym difL_good a1) a2).1, decTake_i _ _ _ _ _, by show 0 ≤ (d + decWhich D difL) % 32; omega, by show (d + decWhich D difL) % 32 ≤ 31; omega⟩
theorem getN_good {q : Bool} {b : List Int} {D : DecS} {d : Nat → Int} (hb : ∀ j, 0 ≤ byteF b j ∧ byteF b j ≤ 255) (h : GoodD D) : ∀ n, GoodD (getN q b D d n) ∧ (getN q b D d n).i ≤ D.i + 2 * n := by
  intro n
  induction n with
  | zero => exact ⟨h, Nat.le_refl _⟩
  | succ n ih =>
    obtain ⟨g1, g2, _⟩ := getW_good (q := q) (d := d n) hb ih.1
    rw [getN_succ]
    exact ⟨g1, by omega⟩
theorem getV_bd {q : Bool} {b : List Int} {D : DecS} {d : Nat → Int} (hb : ∀ j, 0 ≤ byteF b j ∧ byteF b j ≤ 255) (h : GoodD D) (n : Nat) : 0 ≤ getV q b D d n ∧ getV q b D d n ≤ 31 := (getW_good hb (getN_good hb h n).1).2.2
theorem one_back {q : Bool} {b : List Int} {e F : EncS} {D : DecS} {a d : Int} (hs : Sync (byteF b) e D) (hg : GoodE e) (a0 : 0 ≤ a) (a1 : a ≤ 31) (hi : Inside (putW q e a d) F) (hf : 1 ≤ F.s) (hd : DigOf (byteF b) F) :
    (getW q b D d).1 = a ∧ Sync (byteF b) (putW q e a d) (getW q b D d).2 := by
  cases q with
  | true =>
    rw [putW_alone] at hi ⊢
    rw [getW_alone]
    exact bits_back (wide := 5) hs hg (by decide) a0 (by rw [show P2 5 = 32 by decide]; omega) hi hf hd
  | false =>
    rw [putW_diff] at hi ⊢
    rw [getW_diff]
    obtain ⟨h1, h2⟩ := sym_back hs hg difL_good (dif_lt (a - d)) hi hf hd
    refine ⟨?_, h2⟩
    simp only
    rw [h1]; omega
theorem put_back {q : Bool} {b : List Int} {e F : EncS} {D : DecS} {f d : Nat → Int} {n : Nat} (hs : Sync (byteF b) e D) (hg : GoodE e) (hb : ∀ j, j < n → 0 ≤ f j ∧ f j ≤ 31) (hi : Inside (putN q e f d n) F) (hf : 1 ≤ F.s) (hd : DigOf (byteF b) F) :
    ∀ j, j ≤ n → Sync (byteF b) (putN q e f d j) (getN q b D d j) ∧ ∀ i, i < j → getV q b D d i = f i := by
  intro j
  induction j with
  | zero => intro _; exact ⟨hs, fun i hi => by omega⟩
  | succ j ih =>
    intro hj
    obtain ⟨h1, h2⟩ := ih (by omega)
    have hin := putN_inside (q := q) (f := f) (d := d) hg (j + 1) (n - (j + 1))
    rw [show j + 1 + (n - (j + 1)) = n by omega, putN_succ] at hin
    obtain ⟨h3, h4⟩ := one_back h1 (putN_good hg j).1 (hb j (by omega)).1 (hb j (by omega)).2 (hin.trans hi) hf hd
    refine ⟨by rw [putN_succ, getN_succ]; exact h4, fun i hi => ?_⟩
    by_cases e : i = j
    · rw [e]; exact h3
    · exact h2 i (by omega)
end Go.Proofs.YtmgfkdmjgjlkjaaGreat
