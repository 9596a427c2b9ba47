/- Plain facts, and what functions give, for the proofs of this seat: several texts in one, each with its own first remark. -/
import Derived.Test.YtobhoecmmpijgaaGreatRl
import Derived.Test.YtobhoecmmpijgaaGreatRg
import Derived.Deep.AppendLies
import Derived.Deep.RegionLaw
import Derived.OwnWalk
import Derived.BigRegion
import Derived.Test.YtobhoecmmpijgaaGreatRk
import Derived.Test.YtobhoecmmpijgaaGreatRi
import Derived.Test.YtobhoecmmpijgaaGreatRh

/- What the functions of package rangeenc give: bits. -/
namespace Go.Proofs.YtobhoecmmpijgaaGreat
open Go.RowKit
set_option linter.unusedVariables false

theorem pow_P2 (k : Nat) : (2 : Int) ^ k = P2 k := rfl
theorem u32_mask {n : Int} {k : Nat} (n0 : 0 ≤ n) (n1 : n ≤ 4294967295) (hk : k ≤ 31) : bits .and .u32 n (P2 k - 1) = n % P2 k := by
  obtain ⟨m, rfl⟩ : ∃ m : Nat, n = m := ⟨n.toNat, by omega⟩
  have p := P2_pos k
  have q := P2_mono (a := k) (b := 31) hk
  rw [show P2 31 = 2147483648 by decide] at q
  have e : P2 k = ((2 ^ k : Nat) : Int) := by unfold P2; rw [Int.natCast_pow]; rfl
  have e2 : P2 k - 1 = ((2 ^ k - 1 : Nat) : Int) := by
    rw [e] at p ⊢
    omega
  have h2 : 2 ^ k - 1 < 4294967296 := by
    rw [e] at q
    omega
  rw [e2, u32_and_nat m (2 ^ k - 1) (by omega) h2, Nat.and_two_pow_sub_one_eq_mod, e, Int.natCast_emod]
theorem encBits_mod (e : EncS) (n : Int) {k : Nat} (hk : k ≤ 12) : encBits e (n % P2 k) k = encBits e n k := by
  by_cases h : k = 0
  · subst h; rfl
  · rw [encBits_low _ _ (by omega) hk, encBits_low _ _ (by omega) hk, Int.emod_emod]
set_option maxRecDepth 100000 in
theorem rncBits_any (base g : Nat) (v : Value) (e : EncS) (n : Int) (wide : Nat) (w : World) (hE : EncAt w base g v e) (hG : GoodE e) (n0 : 0 ≤ n) (n1 : n ≤ 4294967295) (hw : wide ≤ 24) (h : n < P2 wide) (hk : e.k ≤ 800000) :
    Calls Tryz.prog 139 #[.pointer (some ⟨g, 0, none⟩), .int .u32 n, .int .i64 wide] w (PutPost base g v (encBits e n wide) (.int .i64 0) w) := by
  have hd : decide ((wide : Int) < 0) = false := by simp <;> omega
  have hd2 : decide (24 < (wide : Int)) = false := by simp; omega
  have hq : n / 2 ^ wide = 0 := by rw [pow_P2]; exact Int.ediv_eq_zero_of_lt n0 h
  have HE := Lib.hid hE
  have HG := Lib.hid hG
  clear hE hG
  go_enter Tryz.func139, Tryz.ntmps139
  go_wp2
  clear hd hd2 hq
  go_loopw [1, 2, 7] (fun m d _ wr => ∃ (q : Nat) (n2 : Int) (f : EncS) (v2 : Value), q ≤ wide ∧ d = .int .i64 q ∧ m = .int .u32 n2 ∧ 0 ≤ n2 ∧ n2 ≤ 4294967295 ∧ n2 < P2 q ∧ f.k ≤ e.k + 3 * (wide - q) ∧ RowKit.Hid (encBits f n2 q = encBits e n wide ∧ GoodE f ∧ EncAt wr base g v2 f ∧ Keeps (fun j => j = g ∨ v.ownBlock = some j) w wr ∧ (∀ j, v2.ownBlock = some j → v.ownBlock = some j ∨ w.heap.size ≤ j))) (fun _ d _ _ => (intOf d).toNat)
  case atStart => exact ⟨wide, n, e, v, Nat.le_refl _, rfl, rfl, n0, n1, h, by omega, rfl, HG.out, HE.out, Keeps.refl _ _, fun j hj => .inl hj⟩
  case round =>
    obtain ⟨q, n2, f, v2, hq, rfl, rfl, m0, m1, m2, hf, H⟩ := hrel
    clear HE
    by_cases hlt : 0 < q
    · by_cases hq12 : 12 < q
      · obtain ⟨lo, hlo⟩ : ∃ lo, q = lo + 12 := ⟨q - 12, by omega⟩
        subst hlo
        obtain ⟨s1, s2, s3, s4, s5⟩ := H.out
        have HM : RowKit.Hid (EncAt wr.drew base g v2 f) := s3
        have HGf := Lib.hid s2
        have pl := P2_pos lo
        have p12 : P2 (lo + 12) = P2 lo * 4096 := by unfold P2; rw [Int.pow_add]; rfl
        have x0 : 0 ≤ n2 / 2 ^ lo := by rw [pow_P2]; exact Int.ediv_nonneg m0 (by omega)
        have x1 : n2 / 2 ^ lo < 4096 := by rw [pow_P2, Int.ediv_lt_iff_lt_mul (by omega), Int.mul_comm, ← p12]; exact m2
        have xe : n2 / P2 lo % 4096 = n2 / 2 ^ lo := by rw [← pow_P2, Int.emod_eq_of_lt x0 x1]
        have HOk : RowKit.Hid (OkP (n2 / 2 ^ lo) 1 4096) := ⟨by decide, by decide, by decide, x0, by omega⟩
        have HEq : RowKit.Hid (encBits (encPut f (n2 / 2 ^ lo) 1 4096) (n2 % P2 lo) lo = encBits e n wide) := by
          show _ = _
          rw [encBits_mod _ _ (by omega), ← s1, encBits_high f n2 hq12 (by omega), show lo + 12 - 12 = lo by omega, xe]
        have hk1 : f.k ≤ 900000 := by omega
        obtain ⟨y0, y1⟩ := bit_part n2 (k := lo)
        have ylt : P2 lo ≤ 4096 := by have := P2_mono (a := lo) (b := 12) (by omega); rw [show P2 12 = 4096 by decide] at this; exact this
        have hmask : bits .and .u32 n2 ((2 ^ lo - 1) % 4294967296) = n2 % P2 lo := by
          rw [show (2 : Int) ^ lo - 1 = P2 lo - 1 from rfl, Int.emod_eq_of_lt (by omega) (by omega)]; exact u32_mask m0 m1 (by omega)
        have h4096 : IntKind.u32.wrap 4096 = 4096 := by decide
        clear p12 xe x0 x1
        go_wp2
        go_still_tail 7, (by kernel_rfl)
        repeat still_step
        change wpList _ _ _ _ _ wr.drew
        go_wp2_with (go_at_call 171; ((with_reducible refine (rncPut_any base g v2 f (n2 / 2 ^ lo) 1 4096 _ HM.out HGf.out HOk.out hk1).mono ?_)); rintro e5 w5 ⟨rfl, hpost⟩; have HP5 := Lib.hid hpost; clear hpost)
        go_roundw
        case rel =>
          obtain ⟨v5, u1, u2, u3⟩ := HP5.out
          have hk2 := encPut_k f (n2 / 2 ^ lo) 1 4096
          refine ⟨lo, n2 % P2 lo, encPut f (n2 / 2 ^ lo) 1 4096, v5, by omega, rfl, rfl, y0, by omega, y1, by omega, HEq.out, encPut_good HGf.out HOk.out, u1, (s4.drewN 1).then_ u2 ?_, ?_⟩
          · rintro j (hj | hj)
            · exact .inl (.inl hj)
            · rcases s5 j hj with h | h
              · exact .inl (.inr h)
              · exact .inr h
          · intro j hj
            rcases u3 j hj with h | h
            · exact s5 j h
            · have := s4.size
              have h' : wr.heap.size ≤ j := h
              exact .inr (by omega)
        case measure => simp [intOf] <;> omega
      · obtain ⟨s1, s2, s3, s4, s5⟩ := H.out
        have HM : RowKit.Hid (EncAt wr.drew base g v2 f) := s3
        have HGf := Lib.hid s2
        have pl := P2_pos q
        have ql := P2_mono (a := q) (b := 12) (by omega)
        rw [show P2 12 = 4096 by decide] at ql
        have HOk : RowKit.Hid (OkP n2 1 (P2 q)) := okP_bit (by omega) m0 m2
        have HEq : RowKit.Hid (encPut f n2 1 (P2 q) = encBits e n wide) := by
          show _ = _
          rw [← s1, encBits_low f n2 hlt (by omega), Int.emod_eq_of_lt m0 m2]
        have hk1 : f.k ≤ 900000 := by omega
        have hpq : IntKind.u32.wrap (2 ^ q) = P2 q := IntWalk.u32_in _ (by rw [pow_P2]; omega)
        have hmin : min (q : Int) 12 = q := by omega
        have hm0 : bits .and .u32 n2 0 = 0 := by
          have := u32_mask (k := 0) m0 m1 (by omega)
          rw [show P2 0 - 1 = 0 by decide, show P2 0 = 1 by decide] at this
          rw [this]; omega
        clear ql
        go_wp2
        go_still_tail 7, (by kernel_rfl)
        repeat still_step
        change wpList _ _ _ _ _ wr.drew
        go_wp2_with (go_at_call 171; ((with_reducible refine (rncPut_any base g v2 f n2 1 (P2 q) _ HM.out HGf.out HOk.out hk1).mono ?_)); rintro e5 w5 ⟨rfl, hpost⟩; have HP5 := Lib.hid hpost; clear hpost)
        go_roundw
        case rel =>
          obtain ⟨v5, u1, u2, u3⟩ := HP5.out
          have hk2 := encPut_k f n2 1 (P2 q)
          refine ⟨0, 0, encPut f n2 1 (P2 q), v5, by omega, rfl, rfl, by omega, by omega, by decide, by omega, HEq.out, encPut_good HGf.out HOk.out, u1, (s4.drewN 1).then_ u2 ?_, ?_⟩
          · rintro j (hj | hj)
            · exact .inl (.inl hj)
            · rcases s5 j hj with h | h
              · exact .inl (.inr h)
              · exact .inr h
          · intro j hj
            rcases u3 j hj with h | h
            · exact s5 j h
            · have := s4.size
              have h' : wr.heap.size ≤ j := h
              exact .inr (by omega)
        case measure => simp [intOf] <;> omega
    · obtain rfl : q = 0 := by omega
      go_wp2
      go_ret
      obtain ⟨h1, h2, h3, h4, h5⟩ := H.out
      rw [encBits_zero] at h1
      subst h1
      exact ⟨rfl, v2, h3, h4, h5⟩
end Go.Proofs.YtobhoecmmpijgaaGreat

/- What the document's Fixed of layer 5 gives. -/
namespace Go.Proofs.YtobhoecmmpijgaaGreat
open Go.RowKit
set_option linter.unusedVariables false

set_option maxRecDepth 100000 in
theorem refFixed_any (a : Option Addr) (len cap : Nat) (zs : List Int) (w : World) (h : IntsAt w w.heap.size .u32 a len zs) (hb : ∀ j, j < len → 0 ≤ zs.getD j 0 ∧ zs.getD j 0 ≤ 4294967295) (h0 : 1 ≤ len) (h1 : len ≤ 64) :
    Calls Tryz.prog 92 #[.slice a len cap] w fun e w' => Below w.heap.size w w' ∧
      (((∃ j, j < len ∧ zs.getD j 0 = 0) ∧ e = .returned (.tuple #[.pointer none, .bool false])) ∨
       ((∀ j, j < len → 1 ≤ zs.getD j 0) ∧ ∃ g r, e = .returned (.tuple #[.pointer (some ⟨g, 0, none⟩), .bool (decide (sumN zs len ≤ 8192))]) ∧ RefMod w' w.heap.size g r zs true)) := by
  obtain ⟨b, off, rfl, hbB, _, _⟩ := h.at_ (j := 0) (by omega)
  have H0 := Lib.hid h
  have HW := Lib.hid hb
  clear h hb
  have hd : decide ((len : Int) < 1) = false := by simp; omega
  have hd2 : decide ((64 : Int) < (len : Int)) = false := by simp; omega
  have HC := Lib.hid (Cel.new w 179 #[.slice none 0 0, .bool true])
  have HB := Lib.hid (Below.alloc_new w (.cells #[.slice none 0 0, .bool true] 179))
  have HO := Lib.hid (World.ownsRow_nil (w.alloc (.cells #[.slice none 0 0, .bool true] 179)) w.heap.size 3 1)
  obtain ⟨i0, hi, hzz, hz1, hz2⟩ := info_parts info_int05
  go_enter Tryz.func92, Tryz.ntmps92
  go_wp2
  go_loopw [5] (fun i wr => ∃ k : Nat, k ≤ len ∧ i = .int .i64 k ∧ RowKit.Hid ((∀ j, j < k → 1 ≤ zs.getD j 0) ∧ ∃ v, Cel wr w.heap.size 179 #[v, .bool true] ∧ wr.ownsRow w.heap.size 3 1 v k ((zs.take k).map (Value.int .i64)) ∧ Below w.heap.size w wr)) (fun i _ => len - (intOf i).toNat)
  case atStart => exact ⟨0, by omega, rfl, fun j hj => by omega, _, HC.out, HO.out, HB.out⟩
  case round =>
    obtain ⟨k, hk, rfl, H⟩ := hrel
    clear HC HB HO
    have HP := Lib.hid H.out.1
    obtain ⟨v, hc, ho, hb⟩ := H.out.2
    clear H
    have c0 := hc.cell 0
    have f0 := hc.frozen 0
    simp only [List.getElem?_toArray, List.getElem?_cons_zero] at c0
    have HC := Lib.hid hc
    have HO := Lib.hid ho
    have HB := Lib.hid hb
    have hsz := hb.size
    have hgl := hc.lt
    have hne : v.ownBlock ≠ some w.heap.size := fun c => own_ne_cel ho hc (by decide) _ c rfl
    clear hc ho hb
    by_cases hlt : k < len
    · obtain ⟨b', off', e', _, _, hcell⟩ := H0.out.at_ hlt
      obtain ⟨rfl, rfl⟩ : b = b' ∧ off = off' := by injection e' with e'; injection e' with e1 e2; exact ⟨e1, e2⟩
      have hx := HB.out.cell (p := ⟨b, off + k, none⟩) hbB
      rw [hcell] at hx
      clear hcell e'
      obtain ⟨x0, x1⟩ := HW.out k hlt
      have HT := Lib.hid (take_snocI zs k (by rw [H0.out.1]; exact hlt))
      obtain ⟨x, hxd⟩ : ∃ x, x = zs.getD k 0 := ⟨_, rfl⟩
      rw [← hxd] at hx x0 x1
      have HX := Lib.hid hxd
      have HT' := HT
      clear HT
      have HT : RowKit.Hid (zs.take (k + 1) = zs.take k ++ [x]) := by show _ = _; rw [hxd]; exact HT'.out
      clear hxd HT'
      have g2 : (k : Int) < (len : Int) := by omega
      have e1 : wrap64 x = x := IntWalk.wrap64_in _ (by omega)
      have e2 : IntKind.i64.wrap x = x := IntWalk.i64_in _ (by omega)
      go_wp2
      have hA := Lib.hid (World.ownsRow.alloc HO.out (.cells #[.int .i64 x] 3))
      go_region_law ((refine step_append_lies _ (by rfl) _ _ _ (by rfl) w.heap.size 3 i0 (.int .i64 0) 1 8 Tryz.underlying72 hi hzz hz1 hz2 rfl (by decide) v k _ (by rfl) hA.out.drew ⟨wr.heap.size, 0, none⟩ 1 1 [.int .i64 x] (by rfl) (by rfl) (World.news_of_block (cs := #[.int .i64 x]) (t := 3) (fr := (0, 0)) (heap_alloc_new wr _)) (by simp [Value.oneCell']) (by omega) (by unfold maxLen; omega) (by omega) (by simp; omega) (wr.heap.size + 1) (by simp) ?_; intro gg cp w2 hown hgrow hat hlt2; have c2 : w2.cell? ⟨w.heap.size, 0, none⟩ = some v := (hgrow.cell_far ⟨w.heap.size, 0, none⟩ (by simp; omega) (fun c => hne c.symm)).trans ((HC.out.alloc (.cells #[.int .i64 x] 3)).cell 0); have f2 : w2.frozen? ⟨w.heap.size, 0, none⟩ = false := (hgrow.frozen_far ⟨w.heap.size, 0, none⟩ (by simp; omega) (fun c => hne c.symm)).trans ((HC.out.alloc (.cells #[.int .i64 x] 3)).frozen 0)))
      all_goals
        have hc2 : Cel w2 w.heap.size 179 #[v, .bool true] := (HC.out.alloc (.cells #[.int .i64 x] 3)).keep (hgrow.block _ (by simp; omega) (fun c => hne c.symm))
        have hb2 : Below w.heap.size w w2 := (Below.drewN' (HB.out.alloc hsz (.cells #[.int .i64 x] 3)) 1).grown hgrow (by simp; omega) (own_base HO.out)
        have hown2 : w2.ownsRow w.heap.size 3 1 (.slice (some ⟨gg, 0, none⟩) (k + 1) cp) (k + 1) ((zs.take (k + 1)).map (Value.int .i64)) := by rw [HT.out]; simpa using hown
        obtain ⟨w3, hw3⟩ : ∃ w3, w3 = w2.setCell ⟨w.heap.size, 0, none⟩ (.slice (some ⟨gg, 0, none⟩) (k + 1) cp) := ⟨_, rfl⟩
        have H3 : RowKit.Hid (Cel w3 w.heap.size 179 #[.slice (some ⟨gg, 0, none⟩) (k + 1) cp, .bool true] ∧ w3.ownsRow w.heap.size 3 1 (.slice (some ⟨gg, 0, none⟩) (k + 1) cp) (k + 1) ((zs.take (k + 1)).map (Value.int .i64)) ∧ Below w.heap.size w w3) := by
          rw [hw3]
          refine ⟨by simpa using hc2.set_ 0 (.slice (some ⟨gg, 0, none⟩) (k + 1) cp), ?_, hb2.setCell (Nat.le_refl _) _⟩
          exact own_far hown2 (fun j hj => own_ne_cel hown2 hc2 (by decide) j hj) _
        rw [← hw3]
        clear hw3 hc2 hb2 hown2 hown hgrow c2 f2 hat hlt2 hx c0 f0
        have hx3 : w3.cell? ⟨b, off + k, none⟩ = some (.int .u32 x) := by
          rw [H3.out.2.2.cell (p := ⟨b, off + k, none⟩) hbB]
          obtain ⟨b', off', e', _, _, hcell⟩ := H0.out.at_ hlt
          obtain ⟨rfl, rfl⟩ : b = b' ∧ off = off' := by injection e' with e'; injection e' with e1 e2; exact ⟨e1, e2⟩
          rw [hcell, HX.out]
        by_cases hxz : x = 0
        · have hq : (x == 0) = true := by simpa using hxz
          go_wp2
          go_ret2
          exact ⟨H3.out.2.2, .inl ⟨⟨k, hlt, by rw [← HX.out]; exact hxz⟩, rfl⟩⟩
        · have hq : (x == 0) = false := by simpa using hxz
          go_wp2
          go_roundw
          case rel =>
            refine ⟨k + 1, by omega, by go_num, fun j hj => ?_, _, H3.out.1, H3.out.2.1, H3.out.2.2⟩
            by_cases hjk : j = k
            · subst hjk; rw [← HX.out]; omega
            · exact HP.out j (by omega)
          case measure => simp [intOf] <;> omega
    · obtain rfl : k = len := by omega
      obtain ⟨r, c, e, _, _⟩ := World.ownsRow.form HO.out (by omega)
      subst e
      have hzl : zs.length = k := H0.out.1
      have Z : RowKit.Hid (RefMod wr w.heap.size w.heap.size r zs true) := by
        refine ⟨c, ?_, ?_, Nat.le_refl _⟩
        · rw [hzl]; exact HC.out
        · have := HO.out
          rw [List.take_of_length_le (by omega)] at this
          rw [hzl]; exact this
      have HL := Lib.hid hzl
      clear hzl
      go_wp2_with (go_at_call 93; go_loud (refine (refSum_at w.heap.size w.heap.size r zs true k _ _ (by omega) Z.out (by rw [HL.out]; exact Nat.le_refl _) (by rw [HL.out]; omega) (by rw [HL.out]; exact HW.out)).mono ?_); rintro e w' ⟨rfl, rfl⟩)
      go_ret2
      exact ⟨HB.out, .inr ⟨HP.out, _, _, rfl, Z.out⟩⟩
end Go.Proofs.YtobhoecmmpijgaaGreat

/- The walks of the statements of layer 5, by the contracts of the functions that they call. -/
namespace Go.Proofs.YtobhoecmmpijgaaGreat
open Go.RowKit
set_option linter.unusedVariables false

theorem modPart_at (g : Nat) (l : List Int) (fx : Bool) (s : Nat) (i : Int) (v : Value) (w : World) (hi : i = s) (h : ModAt w g l fx) (hG : GoodL l) (hs : s < l.length) (hv : partV l s = v) :
    Calls Tryz.prog 186 #[.pointer (some ⟨g, 0, none⟩), .int .i64 i] w fun e w' => e = .returned (.tuple #[v, .int .i64 0]) ∧ Below w.heap.size w w' := by
  subst hi; subst hv; exact modPart_any g l fx s w h hG hs
theorem modFind_at (g : Nat) (l : List Int) (fx : Bool) (at' : Int) (i : Nat) (w : World) (h : ModAt w g l fx) (hG : GoodL l) (hv : findP l at' = i) :
    Calls Tryz.prog 188 #[.pointer (some ⟨g, 0, none⟩), .int .u32 at'] w fun e w' => e = .returned (.int .i64 i) ∧ ∃ n, w' = w.drewN n := by
  subst hv; exact modFind_any g l fx at' w h hG
/-! ### The same parts -/
end Go.Proofs.YtobhoecmmpijgaaGreat

/- What the functions of package rangeenc give: a model's symbol, the bytes. -/
namespace Go.Proofs.YtobhoecmmpijgaaGreat
open Go.RowKit
set_option linter.unusedVariables false

theorem cel_ne {w : World} {g m : Nat} {t u : TypeId} {cs ds : Array Value} (h : Cel w g t cs) (k : Cel w m u ds) (hne : t ≠ u) : g ≠ m := by
  rintro rfl
  unfold Cel at h k
  rw [h] at k
  injection k with k
  injection k with _ k
  exact hne k
theorem EncAt.ne_mod {w : World} {base g m : Nat} {v : Value} {e : EncS} {l : List Int} {fx : Bool} (h : EncAt w base g v e) (k : ModAt w m l fx) : m ≠ g ∧ v.ownBlock ≠ some m := by
  obtain ⟨D, last, q1, q2⟩ := h
  exact ⟨cel_ne k.2 q1.1 (by decide), fun c => own_ne_cel q1.2.1 k.2 (by decide) m c rfl⟩
section
variable {w w' : World} {base g : Nat} {v : Value} {e : EncS}
theorem EncAt.below (h : EncAt w base g v e) (hk : Below w.heap.size w w') : EncAt w' base g v e := EncR.below h hk
theorem EncAt.keeps {F : Nat → Prop} (h : EncAt w base g v e) (hk : Keeps F w w') (h1 : ¬ F g) (h2 : ∀ r, v.ownBlock = some r → ¬ F r) : EncAt w' base g v e := EncR.keeps h hk h1 h2
theorem EncAt.drewN (h : EncAt w base g v e) (n : Nat) : EncAt (w.drewN n) base g v e := h
theorem EncAt.lt (h : EncAt w base g v e) : g < w.heap.size ∧ base ≤ g := EncR.lt h
theorem EncAt.own (h : EncAt w base g v e) (r : Nat) (hr : v.ownBlock = some r) : r < w.heap.size ∧ base ≤ r ∧ r ≠ g := EncR.own h r hr
end
/-- What a symbol's putting leaves. -/
def SymPostP (base g : Nat) (v : Value) (mg : Nat) (f : EncS) (l : List Int) (fx : Bool) (w : World) (x : Ending) (w' : World) : Prop :=
  x = .returned (.int .i64 0) ∧ ∃ v', EncAt w' base g v' f ∧ ModAt w' mg l fx ∧ Keeps (fun j => j = g ∨ v.ownBlock = some j ∨ j = mg) w w' ∧ (∀ j, v'.ownBlock = some j → v.ownBlock = some j ∨ w.heap.size ≤ j)

set_option maxRecDepth 100000 in
theorem rncSymbol_any (base g : Nat) (v : Value) (mg : Nat) (e : EncS) (l : List Int) (fx : Bool) (s : Nat) (w : World) (hE : EncAt w base g v e) (hM : ModAt w mg l fx) (hG : GoodE e) (hL : GoodL l) (hs : s < l.length) (hk : e.k ≤ 800000) :
    Calls Tryz.prog 173 #[.pointer (some ⟨g, 0, none⟩), .pointer (some ⟨mg, 0, none⟩), .int .i64 s] w (SymPostP base g v mg (encSym e l s) (nextL l fx s) fx w) := by
  have HNe := Lib.hid (hE.ne_mod hM)
  have HE := Lib.hid hE
  have HM := Lib.hid hM
  have HG := Lib.hid hG
  have HL := Lib.hid hL
  have HOk := Lib.hid (okP_sym hL hs)
  have HS : RowKit.Hid (encSym e l s = encPut e (sumN l s) (l.getD s 0) l.sum) := rfl
  have HV : RowKit.Hid (partV l s = .agg #[.int .u32 (sumN l s), .int .u32 (l.getD s 0), .int .u32 l.sum]) := rfl
  have hk1 : e.k ≤ 900000 := by omega
  have hgl := HE.out.lt.1
  have hml := HM.out.lt
  have HOw : RowKit.Hid (∀ r, v.ownBlock = some r → r < w.heap.size ∧ base ≤ r ∧ r ≠ g) := fun r hr => HE.out.own r hr
  rw [HS.out]
  clear hE hM hG hL HS
  generalize l.getD s 0 = x at HOk HV ⊢
  generalize l.sum = t at HOk HV ⊢
  generalize sumN l s = y at HOk HV ⊢
  cases fx with
  | true =>
    go_enter Tryz.func173, Tryz.ntmps173
    go_wp2_with (first | (go_at_call 186; go_loud (refine (modPart_at mg l true s _ _ _ rfl HM.out HL.out hs HV.out).mono ?_); rintro e1 w1 ⟨rfl, hb⟩; have HB1 := Lib.hid (hb.trans ((Below.alloc_new w1 (.cells #[.int .u32 y, .int .u32 x, .int .u32 t] 247)).mono hb.size)); have HE1 := Lib.hid (HE.out.below HB1.out); have HM1 := Lib.hid (HM.out.below HB1.out); clear hb) | (go_at_call 171; go_loud (with_reducible refine (rncPut_any base g v e y x t _ HE1.out HG.out HOk.out hk1).mono ?_); rintro e2 w2 ⟨rfl, hp⟩; obtain ⟨v2, p1, p2, p3⟩ := hp; have HP2 := Lib.hid p1; have HK2 := Lib.hid p2; have HO2 := Lib.hid p3; have HM2 := Lib.hid (HM1.out.keeps p2 (by intro c; rcases c with c | c; exact HNe.out.1 c; exact HNe.out.2 c)); clear p1 p2 p3) | (go_at_call 187; go_loud (with_reducible refine (modLearn_fixed mg l s _ HM2.out hs).mono ?_); rintro e3 w3 ⟨rfl, n3, rfl⟩))
    go_ret
    refine ⟨rfl, v2, HP2.out.drewN n3, HM2.out.drewN n3, (((Keeps.of_below HB1.out).trans (HK2.out.mono ?_)).drewN n3), fun j hj => ?_⟩
    · rintro j (h | h)
      · exact .inl h
      · exact .inr (.inl h)
    · rcases HO2.out j hj with h | h
      · exact .inl h
      · have := HB1.out.size; exact .inr (by omega)
  | false =>
    go_enter Tryz.func173, Tryz.ntmps173
    go_wp2_with (first | (go_at_call 186; go_loud (refine (modPart_at mg l false s _ _ _ rfl HM.out HL.out hs HV.out).mono ?_); rintro e1 w1 ⟨rfl, hb⟩; have HB1 := Lib.hid (hb.trans ((Below.alloc_new w1 (.cells #[.int .u32 y, .int .u32 x, .int .u32 t] 247)).mono hb.size)); have HE1 := Lib.hid (HE.out.below HB1.out); have HM1 := Lib.hid (HM.out.below HB1.out); clear hb) | (go_at_call 171; go_loud (with_reducible refine (rncPut_any base g v e y x t _ HE1.out HG.out HOk.out hk1).mono ?_); rintro e2 w2 ⟨rfl, hp⟩; obtain ⟨v2, p1, p2, p3⟩ := hp; have HP2 := Lib.hid p1; have HK2 := Lib.hid p2; have HO2 := Lib.hid p3; have HM2 := Lib.hid (HM1.out.keeps p2 (by intro c; rcases c with c | c; exact HNe.out.1 c; exact HNe.out.2 c)); clear p1 p2 p3) | (go_at_call 187; go_loud (with_reducible refine (modLearn_any mg l s _ HM2.out HL.out hs).mono ?_); rintro e3 w3 ⟨rfl, hm, hk3⟩; have HM3 := Lib.hid hm; have HK3 := Lib.hid hk3; clear hm hk3))
    go_ret
    have hnew : ∀ j, v2.ownBlock = some j → j ≠ mg := by
      intro j hj
      rcases HO2.out j hj with h | h
      · rintro rfl; exact HNe.out.2 h
      · have := HB1.out.size; omega
    refine ⟨rfl, v2, HP2.out.keeps HK3.out (fun c => HNe.out.1 c.symm) (fun r hr => hnew r hr), HM3.out, ((Keeps.of_below HB1.out).trans (HK2.out.mono ?_)).trans (HK3.out.mono fun j hj => .inr (.inr hj)), fun j hj => ?_⟩
    · rintro j (h | h)
      · exact .inl h
      · exact .inr (.inl h)
    · rcases HO2.out j hj with h | h
      · exact .inl h
      · have := HB1.out.size; exact .inr (by omega)
end Go.Proofs.YtobhoecmmpijgaaGreat

/- What the functions of package rangedec give: a model's symbol. -/
namespace Go.Proofs.YtobhoecmmpijgaaGreat
open Go.RowKit
set_option linter.unusedVariables false

theorem DrcAt.ne_mod {w : World} {base g m : Nat} {v : Value} {b : List Int} {d : DecS} {l : List Int} {fx : Bool} (h : DrcAt w base g v b d) (k : ModAt w m l fx) : m ≠ g ∧ v.ownBlock ≠ some m :=
  ⟨cel_ne k.2 h.2.1 (by decide), fun c => own_ne_cel h.2.2.1 k.2 (by decide) m c rfl⟩
def DrcSymPost (base g : Nat) (v : Value) (b : List Int) (mg : Nat) (s : Nat) (d : DecS) (l : List Int) (w : World) (x : Ending) (w' : World) : Prop :=
  x = .returned (.tuple #[.int .i64 s, .int .i64 0]) ∧ DrcAt w' base g v b d ∧ ModAt w' mg l false ∧ Keeps (fun j => j = g ∨ j = mg) w w'

set_option maxHeartbeats 400000 in
set_option maxRecDepth 100000 in
theorem drcSymbol_any (base g : Nat) (v : Value) (b : List Int) (d : DecS) (mg : Nat) (l : List Int) (w : World) (hD : DrcAt w base g v b d) (hM : ModAt w mg l false) (hb : ∀ j, 0 ≤ byteF b j ∧ byteF b j ≤ 255) (hbl : b.length ≤ 1000000) (hi : d.i ≤ 5000000) (hG : GoodD d) (hL : GoodL l) :
    Calls Tryz.prog 177 #[.pointer (some ⟨g, 0, none⟩), .pointer (some ⟨mg, 0, none⟩)] w (DrcSymPost base g v b mg (decWhich d l) (decSym b d l) (learnP l (decWhich d l)) w) := by
  have HNe := Lib.hid (hD.ne_mod hM)
  have HD := Lib.hid hD
  have HM := Lib.hid hM
  have HG := Lib.hid hG
  have HL := Lib.hid hL
  have HBy := Lib.hid hb
  obtain ⟨v1, v2, v3, v4⟩ := decWhich_is hG hL
  have HWl := Lib.hid v2
  have HW : RowKit.Hid (findP l (decAt d l.sum) = decWhich d l) := rfl
  have HOk := Lib.hid (okP_sym hL v1)
  have HS : RowKit.Hid (decSym b d l = decTake (byteF b) d (sumN l (decWhich d l)) (l.getD (decWhich d l) 0) l.sum) := rfl
  rw [HS.out]
  have h0 : 0 < l.length := hL.1
  have hgl := hD.lt.1
  have hml := hM.lt
  have HOw : RowKit.Hid (∀ r, v.ownBlock = some r → r < w.heap.size ∧ base ≤ r ∧ r ≠ g) := fun r hr => HD.out.own r hr
  have HV0 : RowKit.Hid (partV l 0 = .agg #[.int .u32 (sumN l 0), .int .u32 (l.getD 0 0), .int .u32 l.sum]) := rfl
  have HVs : RowKit.Hid (partV l (decWhich d l) = .agg #[.int .u32 (sumN l (decWhich d l)), .int .u32 (l.getD (decWhich d l) 0), .int .u32 l.sum]) := rfl
  have H00 : RowKit.Hid ((0 : Int) = ((0 : Nat) : Int)) := rfl
  clear hD hM hb hG hL v2 HS
  generalize hs : decWhich d l = s at v1 HWl HW HOk HVs ⊢
  clear hs
  generalize l.getD s 0 = x at HOk HVs ⊢
  generalize l.getD 0 0 = x0 at HV0
  generalize l.sum = t at HOk HV0 HVs HW HWl v3 v4 ⊢
  generalize sumN l s = y at HOk HWl HVs ⊢
  generalize sumN l 0 = y0 at HV0
  go_enter Tryz.func177, Tryz.ntmps177
  go_wp2_with (first
    | (go_at_call 186; have hq := HF3.out.1; go_loud (with_reducible refine (modPart_at mg l false s _ _ _ rfl (HS2.out.2.1.drewN _) HL.out v1 HVs.out).mono ?_); rintro e4 w4 ⟨rfl, hb4⟩; have HS4 : RowKit.Hid (DrcAt w4 base g v b d ∧ ModAt w4 mg l false ∧ Cel w4 w1.heap.size 247 #[.int .u32 y0, .int .u32 x0, .int .u32 t] ∧ Below w.heap.size w w4) := ⟨(HS2.out.1.drewN n3).below hb4, (HS2.out.2.1.drewN n3).below hb4, (HS2.out.2.2.1.drewN n3).below hb4, (Below.drewN' HS2.out.2.2.2 n3).trans (hb4.mono (Below.drewN' HS2.out.2.2.2 n3).size)⟩; have q4 := HS4.out.2.2.1; have p0 := q4.cell 0; have p1 := q4.cell 1; have p2 := q4.cell 2; have f0 := q4.frozen 0; have f1 := q4.frozen 1; have f2 := q4.frozen 2; simp only [List.getElem?_toArray, List.getElem?_cons_zero, List.getElem?_cons_succ] at p0 p1 p2; have k5 : Keeps (fun j => j = w1.heap.size) w4 (((w4.setCell ⟨w1.heap.size, 0, none⟩ (.int .u32 y)).setCell ⟨w1.heap.size, 1, none⟩ (.int .u32 x)).setCell ⟨w1.heap.size, 2, none⟩ (.int .u32 t)) := Keeps.setCell (F := fun j => j = w1.heap.size) (p := ⟨w1.heap.size, 2, none⟩) (Keeps.setCell (F := fun j => j = w1.heap.size) (p := ⟨w1.heap.size, 1, none⟩) (Keeps.setCell (F := fun j => j = w1.heap.size) (p := ⟨w1.heap.size, 0, none⟩) (Keeps.refl _ _) (.inl rfl) _) (.inl rfl) _) (.inl rfl) _; have HS5 : RowKit.Hid (DrcAt (((w4.setCell ⟨w1.heap.size, 0, none⟩ (.int .u32 y)).setCell ⟨w1.heap.size, 1, none⟩ (.int .u32 x)).setCell ⟨w1.heap.size, 2, none⟩ (.int .u32 t)) base g v b d ∧ ModAt (((w4.setCell ⟨w1.heap.size, 0, none⟩ (.int .u32 y)).setCell ⟨w1.heap.size, 1, none⟩ (.int .u32 x)).setCell ⟨w1.heap.size, 2, none⟩ (.int .u32 t)) mg l false ∧ Below w.heap.size w (((w4.setCell ⟨w1.heap.size, 0, none⟩ (.int .u32 y)).setCell ⟨w1.heap.size, 1, none⟩ (.int .u32 x)).setCell ⟨w1.heap.size, 2, none⟩ (.int .u32 t))) := ⟨HS4.out.1.keeps k5 (by omega) (by intro r hr c; have := (HOw.out r hr).1; omega), HS4.out.2.1.keeps k5 (by omega), HS4.out.2.2.2.trans (k5.below HS4.out.2.2.2.size (by intro j hj; omega))⟩; clear q4 k5; clear hb4 hq)
    | (go_at_call 186; go_loud (with_reducible refine (modPart_at mg l false 0 0 _ _ H00.out HM.out HL.out h0 HV0.out).mono ?_); rintro e1 w1 ⟨rfl, hb⟩; have hb2 := hb.alloc hb.size (.cells #[.int .u32 y0, .int .u32 x0, .int .u32 t] 247); have HS2 : RowKit.Hid (DrcAt (w1.alloc (.cells #[.int .u32 y0, .int .u32 x0, .int .u32 t] 247)) base g v b d ∧ ModAt (w1.alloc (.cells #[.int .u32 y0, .int .u32 x0, .int .u32 t] 247)) mg l false ∧ Cel (w1.alloc (.cells #[.int .u32 y0, .int .u32 x0, .int .u32 t] 247)) w1.heap.size 247 #[.int .u32 y0, .int .u32 x0, .int .u32 t] ∧ Below w.heap.size w (w1.alloc (.cells #[.int .u32 y0, .int .u32 x0, .int .u32 t] 247))) := ⟨HD.out.below hb2, HM.out.below hb2, Cel.new _ _ _, hb2⟩; have hsz1 := hb.size; clear hb hb2)
    | (go_at_call 156; go_loud (with_reducible refine (drcLies_any base g v b d t _ HS2.out.1 HG.out v3 v4).mono ?_); rintro e2 w2 ⟨rfl, rfl⟩)
    | (go_at_call 188; go_loud (with_reducible refine (modFind_at mg l false _ s _ HS2.out.2.1 HL.out HW.out).mono ?_); rintro e3 w3 ⟨rfl, n3, rfl⟩; have HF3 := Lib.hid (show 0 < l.length ∧ mg < w.heap.size from ⟨h0, hml⟩))
    | (go_at_call 157; go_loud (with_reducible refine (drcTake_any base g v b d y x t _ HS5.out.1 HBy.out hbl hi HG.out HOk.out HWl.out).mono ?_); rintro e5 w5 ⟨rfl, hm, hk⟩; have HD5 := Lib.hid hm; have HK5 := Lib.hid hk; have HM5 := Lib.hid (HS5.out.2.1.keeps hk HNe.out.1); clear hm hk)
    | (go_at_call 187; go_loud (with_reducible refine (modLearn_any mg l s _ HM5.out HL.out v1).mono ?_); rintro e6 w6 ⟨rfl, hm, hk⟩; have HM6 := Lib.hid hm; have HK6 := Lib.hid hk; clear hm hk))
  refine bodyPost_ret (v := .tuple #[.int .i64 s, .int .i64 0]) (by simp [results, Tryz.results177, go_sem]) rfl ?_
  refine ⟨rfl, HD5.out.keeps HK6.out (fun c => HNe.out.1 c.symm) (fun r hr c => HNe.out.2 (c ▸ hr)), HM6.out, ((Keeps.of_below HS5.out.2.2).trans (HK5.out.mono fun j hj => .inl hj)).trans (HK6.out.mono fun j hj => .inr hj)⟩
end Go.Proofs.YtobhoecmmpijgaaGreat
