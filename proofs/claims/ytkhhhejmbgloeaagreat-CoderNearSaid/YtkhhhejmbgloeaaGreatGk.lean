/- Plain facts, and what functions give, for the proofs of this seat: several texts in one, each with its own first remark. -/
import Derived.Test.YtkhhhejmbgloeaaGreatGf
import Derived.Deep.AppendLies
import Derived.Deep.RegionLaw
import Derived.Test.YtkhhhejmbgloeaaGreatGi
import Derived.OwnWalk
import Derived.BigRegion
import Derived.Test.YtkhhhejmbgloeaaGreatGj
import Derived.Test.YtkhhhejmbgloeaaGreatGg
import Derived.Test.YtkhhhejmbgloeaaGreatGh
import Derived.Deep.RegionHeld3

/- What the document's Fixed of layer 5 gives. -/
namespace Go.Proofs.YtkhhhejmbgloeaaGreat
open Go.RowKit
set_option linter.unusedVariables false

theorem refFixed_out (a : Option Addr) (len cap : Nat) (w : World) (hm : len ≤ 9223372036854775807) (h : len < 1 ∨ 64 < len) :
    Calls Tryz.prog 91 #[.slice a len cap] w fun e w' => e = .returned (.tuple #[.pointer none, .bool false]) ∧ w = w' := by
  rcases h with h | h
  · have hd : decide ((len : Int) < 1) = true := by simp; omega
    go_enter Tryz.func91, Tryz.ntmps91
    go_wp2
    go_ret2
    exact ⟨rfl, rfl⟩
  · have hd : decide ((len : Int) < 1) = false := by simp; omega
    have hd2 : decide ((64 : Int) < (len : Int)) = true := by simp; omega
    go_enter Tryz.func91, Tryz.ntmps91
    go_wp2
    go_ret2
    exact ⟨rfl, rfl⟩

set_option maxRecDepth 100000 in
theorem refFixed_any (a : Option Addr) (len cap : Nat) (zs : List Int) (w : World) (h : IntsAt w w.heap.size .u32 a len zs) (hb : ∀ j, j < len → 0 ≤ zs.getD j 0 ∧ zs.getD j 0 ≤ 4294967295) (h0 : 1 ≤ len) (h1 : len ≤ 64) :
    Calls Tryz.prog 91 #[.slice a len cap] w fun e w' => Below w.heap.size w w' ∧
      (((∃ j, j < len ∧ zs.getD j 0 = 0) ∧ e = .returned (.tuple #[.pointer none, .bool false])) ∨
       ((∀ j, j < len → 1 ≤ zs.getD j 0) ∧ ∃ g r, e = .returned (.tuple #[.pointer (some ⟨g, 0, none⟩), .bool (decide (sumN zs len ≤ 8192))]) ∧ RefMod w' w.heap.size g r zs true)) := by
  obtain ⟨b, off, rfl, hbB, _, _⟩ := h.at_ (j := 0) (by omega)
  have H0 := Lib.hid h
  have HW := Lib.hid hb
  clear h hb
  have hd : decide ((len : Int) < 1) = false := by simp; omega
  have hd2 : decide ((64 : Int) < (len : Int)) = false := by simp; omega
  have HC := Lib.hid (Cel.new w 160 #[.slice none 0 0, .bool true])
  have HB := Lib.hid (Below.alloc_new w (.cells #[.slice none 0 0, .bool true] 160))
  have HO := Lib.hid (World.ownsRow_nil (w.alloc (.cells #[.slice none 0 0, .bool true] 160)) w.heap.size 3 1)
  obtain ⟨i0, hi, hzz, hz1, hz2⟩ := info_parts info_int05
  go_enter Tryz.func91, Tryz.ntmps91
  go_wp2
  go_loopw [5] (fun i wr => ∃ k : Nat, k ≤ len ∧ i = .int .i64 k ∧ RowKit.Hid ((∀ j, j < k → 1 ≤ zs.getD j 0) ∧ ∃ v, Cel wr w.heap.size 160 #[v, .bool true] ∧ wr.ownsRow w.heap.size 3 1 v k ((zs.take k).map (Value.int .i64)) ∧ Below w.heap.size w wr)) (fun i _ => len - (intOf i).toNat)
  case atStart => exact ⟨0, by omega, rfl, fun j hj => by omega, _, HC.out, HO.out, HB.out⟩
  case round =>
    obtain ⟨k, hk, rfl, H⟩ := hrel
    clear HC HB HO
    have HP := Lib.hid H.out.1
    obtain ⟨v, hc, ho, hb⟩ := H.out.2
    clear H
    have c0 := hc.cell 0
    have f0 := hc.frozen 0
    simp only [List.getElem?_toArray, List.getElem?_cons_zero] at c0
    have HC := Lib.hid hc
    have HO := Lib.hid ho
    have HB := Lib.hid hb
    have hsz := hb.size
    have hgl := hc.lt
    have hne : v.ownBlock ≠ some w.heap.size := fun c => own_ne_cel ho hc (by decide) _ c rfl
    clear hc ho hb
    by_cases hlt : k < len
    · obtain ⟨b', off', e', _, _, hcell⟩ := H0.out.at_ hlt
      obtain ⟨rfl, rfl⟩ : b = b' ∧ off = off' := by injection e' with e'; injection e' with e1 e2; exact ⟨e1, e2⟩
      have hx := HB.out.cell (p := ⟨b, off + k, none⟩) hbB
      rw [hcell] at hx
      clear hcell e'
      obtain ⟨x0, x1⟩ := HW.out k hlt
      have HT := Lib.hid (take_snocI zs k (by rw [H0.out.1]; exact hlt))
      obtain ⟨x, hxd⟩ : ∃ x, x = zs.getD k 0 := ⟨_, rfl⟩
      rw [← hxd] at hx x0 x1
      have HX := Lib.hid hxd
      have HT' := HT
      clear HT
      have HT : RowKit.Hid (zs.take (k + 1) = zs.take k ++ [x]) := by show _ = _; rw [hxd]; exact HT'.out
      clear hxd HT'
      have g2 : (k : Int) < (len : Int) := by omega
      have e1 : wrap64 x = x := IntWalk.wrap64_in _ (by omega)
      have e2 : IntKind.i64.wrap x = x := IntWalk.i64_in _ (by omega)
      go_wp2
      have hA := Lib.hid (World.ownsRow.alloc HO.out (.cells #[.int .i64 x] 3))
      go_region_law ((refine step_append_lies _ (by rfl) _ _ _ (by rfl) w.heap.size 3 i0 (.int .i64 0) 1 8 Tryz.underlying44 hi hzz hz1 hz2 rfl (by decide) v k _ (by rfl) hA.out.drew ⟨wr.heap.size, 0, none⟩ 1 1 [.int .i64 x] (by rfl) (by rfl) (World.news_of_block (cs := #[.int .i64 x]) (t := 3) (fr := (0, 0)) (heap_alloc_new wr _)) (by simp [Value.oneCell']) (by omega) (by unfold maxLen; omega) (by omega) (by simp; omega) (wr.heap.size + 1) (by simp) ?_; intro gg cp w2 hown hgrow hat hlt2; have c2 : w2.cell? ⟨w.heap.size, 0, none⟩ = some v := (hgrow.cell_far ⟨w.heap.size, 0, none⟩ (by simp; omega) (fun c => hne c.symm)).trans ((HC.out.alloc (.cells #[.int .i64 x] 3)).cell 0); have f2 : w2.frozen? ⟨w.heap.size, 0, none⟩ = false := (hgrow.frozen_far ⟨w.heap.size, 0, none⟩ (by simp; omega) (fun c => hne c.symm)).trans ((HC.out.alloc (.cells #[.int .i64 x] 3)).frozen 0)))
      all_goals
        have hc2 : Cel w2 w.heap.size 160 #[v, .bool true] := (HC.out.alloc (.cells #[.int .i64 x] 3)).keep (hgrow.block _ (by simp; omega) (fun c => hne c.symm))
        have hb2 : Below w.heap.size w w2 := (Below.drewN' (HB.out.alloc hsz (.cells #[.int .i64 x] 3)) 1).grown hgrow (by simp; omega) (own_base HO.out)
        have hown2 : w2.ownsRow w.heap.size 3 1 (.slice (some ⟨gg, 0, none⟩) (k + 1) cp) (k + 1) ((zs.take (k + 1)).map (Value.int .i64)) := by rw [HT.out]; simpa using hown
        obtain ⟨w3, hw3⟩ : ∃ w3, w3 = w2.setCell ⟨w.heap.size, 0, none⟩ (.slice (some ⟨gg, 0, none⟩) (k + 1) cp) := ⟨_, rfl⟩
        have H3 : RowKit.Hid (Cel w3 w.heap.size 160 #[.slice (some ⟨gg, 0, none⟩) (k + 1) cp, .bool true] ∧ w3.ownsRow w.heap.size 3 1 (.slice (some ⟨gg, 0, none⟩) (k + 1) cp) (k + 1) ((zs.take (k + 1)).map (Value.int .i64)) ∧ Below w.heap.size w w3) := by
          rw [hw3]
          refine ⟨by simpa using hc2.set_ 0 (.slice (some ⟨gg, 0, none⟩) (k + 1) cp), ?_, hb2.setCell (Nat.le_refl _) _⟩
          exact own_far hown2 (fun j hj => own_ne_cel hown2 hc2 (by decide) j hj) _
        rw [← hw3]
        clear hw3 hc2 hb2 hown2 hown hgrow c2 f2 hat hlt2 hx c0 f0
        have hx3 : w3.cell? ⟨b, off + k, none⟩ = some (.int .u32 x) := by
          rw [H3.out.2.2.cell (p := ⟨b, off + k, none⟩) hbB]
          obtain ⟨b', off', e', _, _, hcell⟩ := H0.out.at_ hlt
          obtain ⟨rfl, rfl⟩ : b = b' ∧ off = off' := by injection e' with e'; injection e' with e1 e2; exact ⟨e1, e2⟩
          rw [hcell, HX.out]
        by_cases hxz : x = 0
        · have hq : (x == 0) = true := by simpa using hxz
          go_wp2
          go_ret2
          exact ⟨H3.out.2.2, .inl ⟨⟨k, hlt, by rw [← HX.out]; exact hxz⟩, rfl⟩⟩
        · have hq : (x == 0) = false := by simpa using hxz
          go_wp2
          go_roundw
          case rel =>
            refine ⟨k + 1, by omega, by go_num, fun j hj => ?_, _, H3.out.1, H3.out.2.1, H3.out.2.2⟩
            by_cases hjk : j = k
            · subst hjk; rw [← HX.out]; omega
            · exact HP.out j (by omega)
          case measure => simp [intOf] <;> omega
    · obtain rfl : k = len := by omega
      obtain ⟨r, c, e, _, _⟩ := World.ownsRow.form HO.out (by omega)
      subst e
      have hzl : zs.length = k := H0.out.1
      have Z : RowKit.Hid (RefMod wr w.heap.size w.heap.size r zs true) := by
        refine ⟨c, ?_, ?_, Nat.le_refl _⟩
        · rw [hzl]; exact HC.out
        · have := HO.out
          rw [List.take_of_length_le (by omega)] at this
          rw [hzl]; exact this
      have HL := Lib.hid hzl
      clear hzl
      go_wp2_with (go_at_call 92; go_loud (refine (refSum_at w.heap.size w.heap.size r zs true k _ _ (by omega) Z.out (by rw [HL.out]; exact Nat.le_refl _) (by rw [HL.out]; omega) (by rw [HL.out]; exact HW.out)).mono ?_); rintro e w' ⟨rfl, rfl⟩)
      go_ret2
      exact ⟨HB.out, .inr ⟨HP.out, _, _, rfl, Z.out⟩⟩
end Go.Proofs.YtkhhhejmbgloeaaGreat

/- The walks of the statements of layer 5, by the contracts of the functions that they call. -/
namespace Go.Proofs.YtkhhhejmbgloeaaGreat
open Go.RowKit
set_option linter.unusedVariables false

theorem modNew_at (n : Nat) (i : Int) (w : World) (hi : i = n) (h0 : 1 ≤ n) (h1 : n ≤ 64) :
    Calls Tryz.prog 141 #[.int .i64 i] w fun e w' => ∃ g, e = .returned (.tuple #[.pointer (some ⟨g, 0, none⟩), .int .i64 0]) ∧ w.heap.size ≤ g ∧ ModAt w' g (List.replicate n 1) false ∧ Below w.heap.size w w' := by
  subst hi; exact modNew_any n w h0 h1
theorem modLearn_at (g : Nat) (l : List Int) (s : Nat) (i : Int) (w : World) (hi : i = s) (h : ModAt w g l false) (hG : GoodL l) (hs : s < l.length) :
    Calls Tryz.prog 152 #[.pointer (some ⟨g, 0, none⟩), .int .i64 i] w fun e w' => e = .returned (.int .i64 0) ∧ ModAt w' g (learnP l s) false ∧ Keeps (fun k => k = g) w w' := by
  subst hi; exact modLearn_any g l s w h hG hs
theorem modPart_at (g : Nat) (l : List Int) (fx : Bool) (s : Nat) (i : Int) (v : Value) (w : World) (hi : i = s) (h : ModAt w g l fx) (hG : GoodL l) (hs : s < l.length) (hv : partV l s = v) :
    Calls Tryz.prog 151 #[.pointer (some ⟨g, 0, none⟩), .int .i64 i] w fun e w' => e = .returned (.tuple #[v, .int .i64 0]) ∧ Below w.heap.size w w' := by
  subst hi; subst hv; exact modPart_any g l fx s w h hG hs
theorem refFind_at (base g r : Nat) (l : List Int) (fx : Bool) (at' : Int) (i : Nat) (w : World) (hR : RefMod w base g r l fx) (hG : GoodL l) (hv : findP l at' = i) :
    Calls Tryz.prog 127 #[.pointer (some ⟨g, 0, none⟩), .int .i64 at'] w fun e w' => e = .returned (.int .i64 i) ∧ w = w' := by
  subst hv; exact refFind_any base g r l fx at' w hR hG.1 hG.2.1 (fun j hj => by have := hG.own hj; omega)

/-! ### The same parts -/
end Go.Proofs.YtkhhhejmbgloeaaGreat

/- What the functions of package rangeenc give: a model's symbol, the bytes. -/
namespace Go.Proofs.YtkhhhejmbgloeaaGreat
open Go.RowKit
set_option linter.unusedVariables false

theorem cel_ne {w : World} {g m : Nat} {t u : TypeId} {cs ds : Array Value} (h : Cel w g t cs) (k : Cel w m u ds) (hne : t ≠ u) : g ≠ m := by
  rintro rfl
  unfold Cel at h k
  rw [h] at k
  injection k with k
  injection k with _ k
  exact hne k
theorem EncAt.ne_mod {w : World} {base g m : Nat} {v : Value} {e : EncS} {l : List Int} {fx : Bool} (h : EncAt w base g v e) (k : ModAt w m l fx) : m ≠ g ∧ v.ownBlock ≠ some m := by
  obtain ⟨D, last, q1, q2⟩ := h
  exact ⟨cel_ne k.2 q1.1 (by decide), fun c => own_ne_cel q1.2.1 k.2 (by decide) m c rfl⟩
section
variable {w w' : World} {base g : Nat} {v : Value} {e : EncS}
theorem EncAt.below (h : EncAt w base g v e) (hk : Below w.heap.size w w') : EncAt w' base g v e := EncR.below h hk
theorem EncAt.keeps {F : Nat → Prop} (h : EncAt w base g v e) (hk : Keeps F w w') (h1 : ¬ F g) (h2 : ∀ r, v.ownBlock = some r → ¬ F r) : EncAt w' base g v e := EncR.keeps h hk h1 h2
theorem EncAt.drewN (h : EncAt w base g v e) (n : Nat) : EncAt (w.drewN n) base g v e := h
theorem EncAt.lt (h : EncAt w base g v e) : g < w.heap.size ∧ base ≤ g := EncR.lt h
theorem EncAt.own (h : EncAt w base g v e) (r : Nat) (hr : v.ownBlock = some r) : r < w.heap.size ∧ base ≤ r ∧ r ≠ g := EncR.own h r hr
end
/-- What a symbol's putting leaves. -/
def SymPostP (base g : Nat) (v : Value) (mg : Nat) (f : EncS) (l : List Int) (fx : Bool) (w : World) (x : Ending) (w' : World) : Prop :=
  x = .returned (.int .i64 0) ∧ ∃ v', EncAt w' base g v' f ∧ ModAt w' mg l fx ∧ Keeps (fun j => j = g ∨ v.ownBlock = some j ∨ j = mg) w w' ∧ (∀ j, v'.ownBlock = some j → v.ownBlock = some j ∨ w.heap.size ≤ j)

set_option maxRecDepth 100000 in
theorem rncSymbol_any (base g : Nat) (v : Value) (mg : Nat) (e : EncS) (l : List Int) (fx : Bool) (s : Nat) (w : World) (hE : EncAt w base g v e) (hM : ModAt w mg l fx) (hG : GoodE e) (hL : GoodL l) (hs : s < l.length) (hk : e.k ≤ 800000) :
    Calls Tryz.prog 139 #[.pointer (some ⟨g, 0, none⟩), .pointer (some ⟨mg, 0, none⟩), .int .i64 s] w (SymPostP base g v mg (encSym e l s) (nextL l fx s) fx w) := by
  have HNe := Lib.hid (hE.ne_mod hM)
  have HE := Lib.hid hE
  have HM := Lib.hid hM
  have HG := Lib.hid hG
  have HL := Lib.hid hL
  have HOk := Lib.hid (okP_sym hL hs)
  have HS : RowKit.Hid (encSym e l s = encPut e (sumN l s) (l.getD s 0) l.sum) := rfl
  have HV : RowKit.Hid (partV l s = .agg #[.int .u32 (sumN l s), .int .u32 (l.getD s 0), .int .u32 l.sum]) := rfl
  have hk1 : e.k ≤ 900000 := by omega
  have hgl := HE.out.lt.1
  have hml := HM.out.lt
  have HOw : RowKit.Hid (∀ r, v.ownBlock = some r → r < w.heap.size ∧ base ≤ r ∧ r ≠ g) := fun r hr => HE.out.own r hr
  rw [HS.out]
  clear hE hM hG hL HS
  generalize l.getD s 0 = x at HOk HV ⊢
  generalize l.sum = t at HOk HV ⊢
  generalize sumN l s = y at HOk HV ⊢
  cases fx with
  | true =>
    go_enter Tryz.func139, Tryz.ntmps139
    go_wp2_with (first | (go_at_call 151; go_loud (refine (modPart_at mg l true s _ _ _ rfl HM.out HL.out hs HV.out).mono ?_); rintro e1 w1 ⟨rfl, hb⟩; have HB1 := Lib.hid (hb.trans ((Below.alloc_new w1 (.cells #[.int .u32 y, .int .u32 x, .int .u32 t] 201)).mono hb.size)); have HE1 := Lib.hid (HE.out.below HB1.out); have HM1 := Lib.hid (HM.out.below HB1.out); clear hb) | (go_at_call 137; go_loud (with_reducible refine (rncPut_any base g v e y x t _ HE1.out HG.out HOk.out hk1).mono ?_); rintro e2 w2 ⟨rfl, hp⟩; obtain ⟨v2, p1, p2, p3⟩ := hp; have HP2 := Lib.hid p1; have HK2 := Lib.hid p2; have HO2 := Lib.hid p3; have HM2 := Lib.hid (HM1.out.keeps p2 (by intro c; rcases c with c | c; exact HNe.out.1 c; exact HNe.out.2 c)); clear p1 p2 p3) | (go_at_call 152; go_loud (with_reducible refine (modLearn_fixed mg l s _ HM2.out hs).mono ?_); rintro e3 w3 ⟨rfl, n3, rfl⟩))
    go_ret
    refine ⟨rfl, v2, HP2.out.drewN n3, HM2.out.drewN n3, (((Keeps.of_below HB1.out).trans (HK2.out.mono ?_)).drewN n3), fun j hj => ?_⟩
    · rintro j (h | h)
      · exact .inl h
      · exact .inr (.inl h)
    · rcases HO2.out j hj with h | h
      · exact .inl h
      · have := HB1.out.size; exact .inr (by omega)
  | false =>
    go_enter Tryz.func139, Tryz.ntmps139
    go_wp2_with (first | (go_at_call 151; go_loud (refine (modPart_at mg l false s _ _ _ rfl HM.out HL.out hs HV.out).mono ?_); rintro e1 w1 ⟨rfl, hb⟩; have HB1 := Lib.hid (hb.trans ((Below.alloc_new w1 (.cells #[.int .u32 y, .int .u32 x, .int .u32 t] 201)).mono hb.size)); have HE1 := Lib.hid (HE.out.below HB1.out); have HM1 := Lib.hid (HM.out.below HB1.out); clear hb) | (go_at_call 137; go_loud (with_reducible refine (rncPut_any base g v e y x t _ HE1.out HG.out HOk.out hk1).mono ?_); rintro e2 w2 ⟨rfl, hp⟩; obtain ⟨v2, p1, p2, p3⟩ := hp; have HP2 := Lib.hid p1; have HK2 := Lib.hid p2; have HO2 := Lib.hid p3; have HM2 := Lib.hid (HM1.out.keeps p2 (by intro c; rcases c with c | c; exact HNe.out.1 c; exact HNe.out.2 c)); clear p1 p2 p3) | (go_at_call 152; go_loud (with_reducible refine (modLearn_any mg l s _ HM2.out HL.out hs).mono ?_); rintro e3 w3 ⟨rfl, hm, hk3⟩; have HM3 := Lib.hid hm; have HK3 := Lib.hid hk3; clear hm hk3))
    go_ret
    have hnew : ∀ j, v2.ownBlock = some j → j ≠ mg := by
      intro j hj
      rcases HO2.out j hj with h | h
      · rintro rfl; exact HNe.out.2 h
      · have := HB1.out.size; omega
    refine ⟨rfl, v2, HP2.out.keeps HK3.out (fun c => HNe.out.1 c.symm) (fun r hr => hnew r hr), HM3.out, ((Keeps.of_below HB1.out).trans (HK2.out.mono ?_)).trans (HK3.out.mono fun j hj => .inr (.inr hj)), fun j hj => ?_⟩
    · rintro j (h | h)
      · exact .inl h
      · exact .inr (.inl h)
    · rcases HO2.out j hj with h | h
      · exact .inl h
      · have := HB1.out.size; exact .inr (by omega)
end Go.Proofs.YtkhhhejmbgloeaaGreat

/- What the functions of package rangedec give: a model's symbol. -/
namespace Go.Proofs.YtkhhhejmbgloeaaGreat
open Go.RowKit
set_option linter.unusedVariables false

end Go.Proofs.YtkhhhejmbgloeaaGreat

/- What the functions of package rangedec give: bits. -/
namespace Go.Proofs.YtkhhhejmbgloeaaGreat
open Go.RowKit
set_option linter.unusedVariables false

end Go.Proofs.YtkhhhejmbgloeaaGreat

/- What the functions of package rangeenc give: symbols that there aren't, the bytes. -/
namespace Go.Proofs.YtkhhhejmbgloeaaGreat
open Go.RowKit
set_option linter.unusedVariables false

set_option maxRecDepth 100000 in
theorem rncSymbol_out (p : Option Addr) (mg : Nat) (l : List Int) (fx : Bool) (s : Int) (w : World) (hM : ModAt w mg l fx) (hs : ¬ (0 ≤ s ∧ s < l.length)) :
    Calls Tryz.prog 139 #[.pointer p, .pointer (some ⟨mg, 0, none⟩), .int .i64 s] w fun e w' => e = .returned (.int .i64 1) ∧ Below w.heap.size w w' := by
  have HZ : RowKit.Hid (partZ = .agg #[.int .u32 0, .int .u32 0, .int .u32 0]) := rfl
  have HM := Lib.hid hM
  have HS := Lib.hid hs
  clear hM hs
  go_enter Tryz.func139, Tryz.ntmps139
  go_wp2_with (go_at_call 151; go_loud (refine (modPart_out mg l fx s _ HM.out HS.out).mono ?_); rintro e1 w1 ⟨rfl, hb⟩; rw [HZ.out]; have HB1 := Lib.hid (hb.trans ((Below.alloc_new w1 (.cells #[.int .u32 0, .int .u32 0, .int .u32 0] 201)).mono hb.size)); clear hb)
  go_ret
  exact ⟨rfl, HB1.out⟩
set_option maxRecDepth 100000 in
theorem rncSymbol_none (p : Option Addr) (s : Int) (w : World) :
    Calls Tryz.prog 139 #[.pointer p, .pointer none, .int .i64 s] w fun e w' => e = .returned (.int .i64 1) ∧ Below w.heap.size w w' := by
  have HZ : RowKit.Hid (partZ = .agg #[.int .u32 0, .int .u32 0, .int .u32 0]) := rfl
  go_enter Tryz.func139, Tryz.ntmps139
  go_wp2_with (go_at_call 151; go_loud (refine (modPart_nil s _).mono ?_); rintro e1 w1 ⟨rfl, hb⟩; rw [HZ.out]; have HB1 := Lib.hid (hb.trans ((Below.alloc_new w1 (.cells #[.int .u32 0, .int .u32 0, .int .u32 0] 201)).mono hb.size)); clear hb)
  go_ret
  exact ⟨rfl, HB1.out⟩
set_option maxRecDepth 100000 in
theorem rncSymbol_nil (mg : Nat) (l : List Int) (fx : Bool) (s : Int) (w : World) (hM : ModAt w mg l fx) (hL : GoodL l) :
    Calls Tryz.prog 139 #[.pointer none, .pointer (some ⟨mg, 0, none⟩), .int .i64 s] w fun e w' => e = .returned (.int .i64 1) ∧ Below w.heap.size w w' := by
  by_cases hs : 0 ≤ s ∧ s < l.length
  · obtain ⟨k, hk⟩ : ∃ k : Nat, s = k := ⟨s.toNat, by omega⟩
    subst hk
    have hk : k < l.length := by omega
    have HV : RowKit.Hid (partV l k = .agg #[.int .u32 (sumN l k), .int .u32 (l.getD k 0), .int .u32 l.sum]) := rfl
    have HM := Lib.hid hM
    have HL := Lib.hid hL
    clear hM hL hs
    generalize l.getD k 0 = x at HV
    generalize l.sum = t at HV
    generalize sumN l k = y at HV
    go_enter Tryz.func139, Tryz.ntmps139
    go_wp2_with (first | (go_at_call 151; go_loud (refine (modPart_at mg l fx k _ _ _ rfl HM.out HL.out hk HV.out).mono ?_); rintro e1 w1 ⟨rfl, hb⟩; have HB1 := Lib.hid (hb.trans ((Below.alloc_new w1 (.cells #[.int .u32 y, .int .u32 x, .int .u32 t] 201)).mono hb.size)); clear hb) | (go_at_call 137; go_loud (with_reducible refine (rncPut_nil y x t _).mono ?_); rintro e2 w2 ⟨rfl, hb⟩; have HB2 := Lib.hid (HB1.out.trans (hb.mono HB1.out.size)); clear hb))
    go_ret
    exact ⟨rfl, HB2.out⟩
  · exact rncSymbol_out none mg l fx s w hM hs

theorem make_empty {P : Program} {t e : TypeId} {k : IntKind} {b : Nat} (ht : P.underlying t = some (.slice e)) (hi : (P.info? e).map (fun i => (i.zero, i.size, i.bytes)) = some (some (.int k 0), 1, b))
    (n : Int) (c : Nat) (hn0 : n = c) (hb : b * c ≤ 281474976710656) (hn : c ≤ 9223372036854775807) (w : World) :
    (Instr.makeSlice t (.int .i64 0) (.int .i64 n)).run P w = .ok (.slice (some ⟨w.heap.size, 0, none⟩) 0 c) (w.alloc (.cells (madeCells #[.int k 0] c) e)) := by
  subst hn0
  obtain ⟨i, h1, h2, h3, h4⟩ := info_parts hi
  have hb' : (i.bytes : Int) * (c : Int) ≤ 281474976710656 := by
    have h : ((i.bytes * c : Nat) : Int) ≤ 281474976710656 := by rw [h4]; omega
    rwa [Int.natCast_mul] at h
  have hr := run_make (P := P) w t e i (.int k 0) ht h1 h2 .i64 .i64 0 c (by omega) (by omega) hb' (by omega)
  rw [hr, h3]
  simp [Value.cells]
theorem own_none {w : World} {base e n c : Nat} {a : Option Addr} {xs : List Value} (h : w.ownsRow base e 1 (.slice a n c) n xs) : a = none → c = 0 := by
  rintro rfl
  rcases h.2 with ⟨h1, _⟩ | ⟨g, cap, cur, h1, _⟩
  · injection h1
  · injection h1 with h1; cases h1
theorem rncBytes_nil (w : World) :
    Calls Tryz.prog 77 #[.pointer none] w fun e w' => e = .returned (.slice none 0 0) ∧ w = w' := by
  go_enter Tryz.func77, Tryz.ntmps77
  go_wp2
  go_ret
  exact ⟨rfl, rfl⟩

set_option maxRecDepth 100000 in
theorem rncBytes_any (base g : Nat) (v : Value) (n : Int) (k : Nat) (less : Int) (w : World) (hE : EncR w base g v n k less) (hk : k ≤ 900000) :
    Calls Tryz.prog 77 #[.pointer (some ⟨g, 0, none⟩)] w (BytesPost (bytesL (digL n (k + 4))) w) := by
  have HR := Lib.hid hE
  obtain ⟨D, last, h1, h2, h3, h4, h5, h6⟩ := hE
  obtain ⟨c0, c1, c2⟩ := h1.cells
  have ho := h1.2.1
  rw [h3] at ho
  obtain ⟨a, c, rfl⟩ := own_form ho
  have HD4 := Lib.hid (four_dig h2 h3 h4 h5 h6)
  have HI := Lib.hid (own_ints' ho)
  have HN := Lib.hid (own_none ho)
  have H1 := Lib.hid h1
  have hgl := h1.lt
  have hmk := make_empty (P := Tryz.prog) Tryz.underlying37 info_u806 ((k : Int) + 4) (k + 4) (by omega) (by omega) (by omega) w
  have hsz : (madeCells #[Value.int .u8 0] (k + 4)).size = (k + 4) * 1 := by rw [size_madeCells]; omega
  have HO0 := Lib.hid (World.ownsRow_made (base := w.heap.size) (e := 5) (size := 1) w (madeCells #[Value.int .u8 0] (k + 4)) (k + 4) (Nat.le_refl _) (by unfold maxLen; omega) hsz)
  have HB0 := Lib.hid (Below.alloc_new w (.cells (madeCells #[Value.int .u8 0] (k + 4)) 5))
  have hk1 : k ≤ 1000000 := by omega
  clear h1 h2 h3 h6 ho c2 hsz
  generalize madeCells #[Value.int .u8 0] (k + 4) = mc at hmk HO0 HB0
  go_enter Tryz.func77, Tryz.ntmps77
  go_wp2_with (first | (go_at_call 115; ((with_reducible refine (rncLen_any base g _ n k less _ HR.out hk1).mono ?_)); rintro e w' ⟨rfl, rfl⟩) | (at_builtin; go_loud (refine append_ints rfl _ _ 37 rfl w.heap.size 5 .u8 1 Tryz.underlying37 info_u806 _ 0 [] rfl HO0.out a k c w.heap.size D rfl (HI.out.below HB0.out) HN.out ?c1 ?c2 ?c3 ?_)))
  case c1 => unfold maxLen; omega
  case c2 => omega
  case c3 => simp
  intro v2 w2 hown hgrow _
  have hb2 := HB0.out.grown hgrow (by simp) (own_base HO0.out)
  obtain ⟨a2, cp2, rfl⟩ := own_form hown
  have c1' : w2.cell? ⟨g, 1, none⟩ = some (.int .u32 last) := (hb2.cell (p := ⟨g, 1, none⟩) hgl).trans c1
  have HO2 := Lib.hid hown
  have HB2 := Lib.hid hb2
  clear hown hgrow hb2 c0 c1 hmk
  obtain ⟨q0, hq0⟩ : ∃ q, q = last / 16777216 % 256 := ⟨_, rfl⟩
  obtain ⟨q1, hq1⟩ : ∃ q, q = last / 65536 % 256 := ⟨_, rfl⟩
  obtain ⟨q2, hq2⟩ : ∃ q, q = last / 256 % 256 := ⟨_, rfl⟩
  obtain ⟨q3, hq3⟩ : ∃ q, q = last % 256 := ⟨_, rfl⟩
  have HF : RowKit.Hid (four last = [q0, q1, q2, q3]) := by show _ = _; unfold four; rw [hq0, hq1, hq2, hq3]
  have e0 : IntKind.u8.wrap (last / 16777216) = q0 := by rw [hq0]; rfl
  have e1 : IntKind.u8.wrap (last / 65536) = q1 := by rw [hq1]; rfl
  have e2 : IntKind.u8.wrap (last / 256) = q2 := by rw [hq2]; rfl
  have e3 : IntKind.u8.wrap last = q3 := by rw [hq3]; rfl
  clear hq0 hq1 hq2 hq3
  have ag : some g ≠ (Value.slice a2 k cp2).ownBlock := fun e => by
    have := own_base HO2.out g e.symm
    omega
  obtain ⟨i0, hi, hzz, hz1, hz2⟩ := info_parts info_u806
  have hsz2 := HB2.out.size
  have HO4 := Lib.hid (World.ownsRow.alloc HO2.out (.cells #[.int .u8 q0, .int .u8 q1, .int .u8 q2, .int .u8 q3] 5))
  have HB4 := Lib.hid (HB2.out.alloc hsz2 (.cells #[.int .u8 q0, .int .u8 q1, .int .u8 q2, .int .u8 q3] 5))
  go_wp2
  go_region_held3 (fun w' => w'.cell? ⟨g, 1, none⟩ = some (.int .u32 last))
    (first | go_keep | (rw [hgrow.cell_far _ (by simp; omega) ag]; assumption))
    ((refine step_append_lies _ (by rfl) _ _ _ (by rfl) w.heap.size 5 i0 (.int .u8 0) 1 1 Tryz.underlying37 hi hzz hz1 hz2 rfl (by decide) (.slice a2 k cp2) k _ (by rfl) HO4.out.drew ⟨w2.heap.size, 0, none⟩ 4 4 [.int .u8 q0, .int .u8 q1, .int .u8 q2, .int .u8 q3] (by rfl) (by rfl) (World.news_of_block (cs := #[.int .u8 q0, .int .u8 q1, .int .u8 q2, .int .u8 q3]) (t := 5) (fr := (0, 0)) (heap_alloc_new w2 _)) (by simp [Value.oneCell']) (by omega) (by unfold maxLen; omega) (by omega) (by simp; omega) (w2.heap.size + 1) (by simp) ?_; intro gg cp w5 hown hgrow hat hlt2))
  have hown5 : w5.ownsRow w.heap.size 5 1 (.slice (some ⟨gg, 0, none⟩) (k + 4) cp) (k + 4) ((digL n (k + 4)).map (Value.int .u8)) := by
    rw [← HD4.out, HF.out]; simpa using hown
  have HB5 : RowKit.Hid (Below w.heap.size w w5) := (Below.drewN' HB4.out 1).grown hgrow (by simp; omega) (own_base HO4.out)
  have hcp : k + 4 ≤ cp ∧ cp ≤ 9223372036854775807 := by
    rcases hown5.2 with ⟨h, _⟩ | ⟨g', cap, cur, h, _, _, h2, h3, _⟩
    · injection h with h; cases h
    · unfold maxLen at h3; injection h with _ _ h; omega
  obtain ⟨hcp, hcpm⟩ := hcp
  have HO5 := Lib.hid hown5
  obtain ⟨L, hL⟩ : ∃ L, L = digL n (k + 4) := ⟨_, rfl⟩
  have HLd : RowKit.Hid (IsDig L ∧ L.length = k + 4) := by rw [hL]; exact ⟨digL_dig _ _, digL_len _ _⟩
  rw [← hL] at HO5
  have HLq : RowKit.Hid (digL n (k + 4) = L) := hL.symm
  clear hown hgrow hown5 hL HO4 HB4 HO2 HB2 HD4 HF hat hlt2 ag HO0 HB0 HI HN H1 HR
  go_wp2
  go_loopw [4] (fun i wr => ∃ j : Nat, j ≤ k + 4 ∧ i = .int .i64 j ∧ RowKit.Hid (lastK L j = lastK L (k + 4)) ∧ wr = w5) (fun i _ => (intOf i).toNat)
  case atStart => exact ⟨k + 4, by omega, by go_num, rfl, rfl⟩
  case round =>
    obtain ⟨j, hj, rfl, H, rfl⟩ := hrel
    by_cases hz : j = 0
    · have hm : lastK L (k + 4) = -1 := by rw [← H.out, hz]; rfl
      have HE : RowKit.Hid (bytesL L = []) := by
        show _ = _
        unfold bytesL; rw [HLd.out.2, hm]; rfl
      subst hz
      clear H hm
      go_wp2
      go_ret
      rw [HLq.out, HE.out]
      exact ⟨some ⟨gg, 0, none⟩, cp, rfl, ⟨rfl, .inl rfl⟩, HB5.out⟩
    · obtain ⟨p, hp⟩ : ∃ p, j = p + 1 := ⟨j - 1, by omega⟩
      subst hp
      have hcell : wr.cell? ⟨gg, p, none⟩ = some (.int .u8 (L.getD p 0)) := by
        rw [HO5.out.cellAt p (by omega), List.getElem?_map, List.getElem?_eq_getElem (by rw [HLd.out.2]; omega)]
        simp [List.getD, show p < L.length by rw [HLd.out.2]; omega]
      have E : RowKit.Hid (lastK L (p + 1) = if L.getD p 0 = 0 then lastK L p else p) := rfl
      generalize L.getD p 0 = x at hcell E
      by_cases hx : x = 0
      · have hq : (x == 0) = true := by simpa using hx
        have E2 : RowKit.Hid (lastK L p = lastK L (k + 4)) := by
          show _ = _
          rw [← H.out, E.out, if_pos hx]
        clear hx
        go_wp2
        go_roundw
        case rel => exact ⟨p, by omega, rfl, E2.out, trivial⟩
        case measure => simp [intOf] <;> omega
      · have hq : (x == 0) = false := by simpa using hx
        have HE : RowKit.Hid (bytesL L = L.take (p + 1)) := by
          have hm : lastK L (k + 4) = p := by rw [← H.out, E.out, if_neg hx]
          show _ = _
          unfold bytesL
          rw [HLd.out.2, hm]
          congr 1
        have HI5 := Lib.hid (own_ints' HO5.out)
        clear hx
        go_wp2
        go_ret
        rw [HLq.out, HE.out]
        have e : (L.take (p + 1)).length = p + 1 := by rw [List.length_take, HLd.out.2]; omega
        refine ⟨some ⟨gg, 0, none⟩, cp, by rw [e]; rfl, ?_, HB5.out⟩
        rw [e]
        exact HI5.out.take hj
end Go.Proofs.YtkhhhejmbgloeaaGreat

/- The walks of the statements of layer 6: what may be, the example, no encoder. -/
namespace Go.Proofs.YtkhhhejmbgloeaaGreat
open Go.RowKit
set_option linter.unusedVariables false

theorem rncBits_at (base g : Nat) (v : Value) (e f : EncS) (n : Int) (wide : Nat) (i : Int) (w : World) (hi : i = wide) (hf : encBits e n wide = f) (hE : EncAt w base g v e) (hG : GoodE e) (n0 : 0 ≤ n) (n1 : n ≤ 4294967295) (hw : wide ≤ 24) (h : n < P2 wide) (hk : e.k ≤ 800000) :
    Calls Tryz.prog 107 #[.pointer (some ⟨g, 0, none⟩), .int .u32 n, .int .i64 i] w (PutPost base g v f (.int .i64 0) w) := by
  subst hi; subst hf; exact rncBits_any base g v e n wide w hE hG n0 n1 hw h hk
theorem rncBytes_at (base g : Nat) (v : Value) (e : EncS) (b : List Int) (w : World) (hE : EncAt w base g v e) (hk : e.k ≤ 900000) (hb : bytesL (digL e.n (e.k + 4)) = b) :
    Calls Tryz.prog 77 #[.pointer (some ⟨g, 0, none⟩)] w (BytesPost b w) := by
  subst hb; exact rncBytes_any base g v _ _ _ w hE hk

/-- The two encoders of the example. -/
def exA : EncS := ⟨0, 4294967040, 1⟩
def exB : EncS := ⟨549755781120, 4294967040, 1⟩
theorem exA_eq : encBits encNew 0 8 = exA := by kernel_rfl
theorem exB_eq : encBits encNew 128 8 = exB := by kernel_rfl
theorem exA_bytes : bytesL (digL exA.n (exA.k + 4)) = [] := by decide
theorem exB_bytes : bytesL (digL exB.n (exB.k + 4)) = [127, 255, 255, 128] := by decide

theorem enc_two {w w' : World} {b1 g1 b2 g2 : Nat} {v1 v2 : Value} {e1 e2 f : EncS} (h1 : EncAt w b1 g1 v1 e1) (h2 : EncAt w b2 g2 v2 e2) (hne : g1 ≠ g2) (ho1 : v1.ownBlock ≠ some g2) (ho2 : v2.ownBlock ≠ some g1) (ho : ∀ r, v1.ownBlock = some r → v2.ownBlock ≠ some r)
    (hk : Keeps (fun j => j = g1 ∨ v1.ownBlock = some j) w w') : EncAt w' b2 g2 v2 e2 :=
  h2.keeps hk (by rintro (c | c); exact hne c.symm; exact ho1 c) (by rintro r hr (c | c); exact ho2 (c ▸ hr); exact ho r c hr)
end Go.Proofs.YtkhhhejmbgloeaaGreat

/- The walks of the statements of layer 7: the example, no decoder. -/
namespace Go.Proofs.YtkhhhejmbgloeaaGreat
open Go.RowKit
set_option linter.unusedVariables false

theorem isDig_of {b : List Int} (h : ∀ x ∈ b, 0 ≤ x ∧ x ≤ 255) : IsDig b := by
  intro j hj
  simp only [List.getD, List.getElem?_eq_getElem hj, Option.getD_some]
  exact h _ (List.getElem_mem hj)
theorem byteF_bd {b : List Int} (h : IsDig b) (j : Nat) : 0 ≤ byteF b j ∧ byteF b j ≤ 255 := by
  unfold byteF
  by_cases hj : j < b.length
  · exact h j hj
  · rw [List.getD, List.getElem?_eq_none (by omega)]; decide
theorem some_of_ints {w : World} {B len : Nat} {k : IntKind} {a : Option Addr} {zs : List Int} {cap : Nat} (h : IntsAt w B k a len zs) (h0 : 0 < len) : a = none → cap = 0 := by
  intro e
  rcases h.2 with h2 | ⟨_, _, h2, _⟩
  · omega
  · rw [e] at h2; cases h2
theorem goodD_new {b : List Int} (h : IsDig b) : GoodD (decNew (byteF b)) := by
  have a := valB_nonneg (fun j => (byteF_bd h j).1) 4
  have b0 := byteF_bd h 0
  have b1 := byteF_bd h 1
  have b2 := byteF_bd h 2
  have b3 := byteF_bd h 3
  refine ⟨by show (16777216 : Int) ≤ 4294967295; decide, by show (4294967295 : Int) ≤ 4294967295; decide, a, ?_⟩
  show (((0 * 256 + byteF b 0) * 256 + byteF b 1) * 256 + byteF b 2) * 256 + byteF b 3 ≤ 4294967295
  omega
/-- The example. -/
def exL : List Int := [18, 253, 14, 208, 47]
def exE : EncS := ⟨20878084550400, 268435200, 2⟩
def exD : DecS := ⟨0, 268435200, 6⟩
def exS : DecS := decNew (byteF exL)
theorem exE_eq : encBits encNew 77777 20 = exE := by kernel_rfl
theorem exE_bytes : bytesL (digL exE.n (exE.k + 4)) = exL := by decide
theorem exD_eq : decBits exL exS 0 20 = (77777, exD) := by kernel_rfl
theorem exL_dig : IsDig exL := isDig_of (by decide)

def ex0S : DecS := decNew (byteF [])
def ex0D : DecS := ⟨0, 2147483392, 5⟩
theorem ex0_eq : decBits [] ex0S 0 9 = (0, ex0D) := by kernel_rfl
theorem dig_nil : IsDig [] := isDig_of (by decide)
theorem ints_nil (w : World) : IntsAt w w.heap.size .u8 none 0 [] := ⟨rfl, .inl rfl⟩
end Go.Proofs.YtkhhhejmbgloeaaGreat

/- The walk of RangedecReads: what is held of memory on the way. -/
namespace Go.Proofs.YtkhhhejmbgloeaaGreat
open Go.RowKit
set_option linter.unusedVariables false

/-! ### Whatever is read, the state is a good one -/
theorem decSym_good {b : List Int} {d : DecS} {l : List Int} (hb : ∀ j, 0 ≤ byteF b j ∧ byteF b j ≤ 255) (hG : GoodD d) (hL : GoodL l) : GoodD (decSym b d l) ∧ (decSym b d l).i ≤ d.i + 2 := by
  obtain ⟨v1, v2, v3, v4⟩ := decWhich_is hG hL
  exact ⟨(decTake_good hb hG (okP_sym hL v1) v2).1, decTake_i _ _ _ _ _⟩
theorem decOne_good {b : List Int} {d : DecS} {k : Nat} (hb : ∀ j, 0 ≤ byteF b j ∧ byteF b j ≤ 255) (hG : GoodD d) (hk : k ≤ 12) : GoodD (decTake (byteF b) d (decAt d (P2 k)) 1 (P2 k)) ∧ (decTake (byteF b) d (decAt d (P2 k)) 1 (P2 k)).i ≤ d.i + 2 ∧ 0 ≤ decAt d (P2 k) ∧ decAt d (P2 k) < P2 k := by
  have pk := P2_pos k
  have qk := P2_mono (a := k) (b := 12) hk
  rw [show P2 12 = 4096 by decide] at qk
  obtain ⟨a0, a1, a2⟩ := decAt_bd hG (show 1 ≤ P2 k by omega) (show P2 k ≤ 8192 by omega)
  exact ⟨(decTake_good hb hG ⟨by omega, by omega, by decide, a0, by omega⟩ a2).1, decTake_i _ _ _ _ _, a0, a1⟩
theorem decBits_good {b : List Int} {d : DecS} {k : Nat} (hb : ∀ j, 0 ≤ byteF b j ∧ byteF b j ≤ 255) (hG : GoodD d) (hk : k ≤ 24) : GoodD (decBits b d 0 k).2 ∧ (decBits b d 0 k).2.i ≤ d.i + 4 ∧ 0 ≤ (decBits b d 0 k).1 ∧ (decBits b d 0 k).1 ≤ 16777215 := by
  by_cases h0 : k = 0
  · subst h0; rw [decBits_zero]; exact ⟨hG, Nat.le_add_right _ _, by show (0 : Int) ≤ 0; decide, by show (0 : Int) ≤ 16777215; decide⟩
  · by_cases h12 : k ≤ 12
    · rw [decBits_low b d 0 (by omega) h12]
      obtain ⟨g1, g2, g3, g4⟩ := decOne_good hb hG h12
      have qk := P2_mono (a := k) (b := 12) h12
      rw [show P2 12 = 4096 by decide] at qk
      simp only
      exact ⟨g1, by omega, by omega, by omega⟩
    · rw [decBits_high b d 0 (by omega) hk]
      obtain ⟨g1, g2, g3, g4⟩ := decOne_good hb hG (show 12 ≤ 12 by decide)
      have e12 : P2 12 = 4096 := by decide
      rw [e12] at g1 g2 g3 g4
      obtain ⟨f1, f2, f3, f4⟩ := decOne_good hb g1 (show k - 12 ≤ 12 by omega)
      have qk := P2_mono (a := k - 12) (b := 12) (by omega)
      rw [e12] at qk
      have pk := P2_pos (k - 12)
      rw [decBits_low b _ _ (show 0 < k - 12 by omega) (by omega)]
      have m1 : (0 * 4096 + decAt d 4096) * P2 (k - 12) ≤ 4095 * P2 (k - 12) := Int.mul_le_mul_of_nonneg_right (by omega) (by omega)
      have m0 : 0 ≤ (0 * 4096 + decAt d 4096) * P2 (k - 12) := Int.mul_nonneg (by omega) (by omega)
      simp only
      exact ⟨f1, by omega, by omega, by omega⟩

/-! ### The objects -/
structure Obj7 where
  mg : Nat
  xg : Nat
  xr : Nat
  g : Nat
  gf : Nat
  bx : Nat
  bd : Nat
  bf : Nat
  n : Nat
section
variable {w0 w w' : World} {o : Obj7} {b : List Int} {v vf : Value} {L1 L2 : List Int} {D1 D2 : DecS}
end

/-! ### What the frame of a statement says of a slice of numbers that came in -/
theorem none_cap {w : World} {k : IntKind} {a : Option Addr} {len cap : Nat} {zs : List Int}
    (h : (a = none ∧ len = 0 ∧ cap = 0 ∧ zs = []) ∨ ∃ x, a = some x ∧ len ≤ cap ∧ cap ≤ maxLen ∧ zs.length = cap ∧ (∀ i, i < zs.length → w.cell? (x.add i) = some (.int k (zs.getD i 0))) ∧ ∀ n ∈ zs, (Lit.int k n).wf = true) : a = none → cap = 0 := by
  rintro rfl
  rcases h with ⟨_, _, h, _⟩ | ⟨x, h, _⟩
  · exact h
  · cases h
theorem isDig_wf {zs : List Int} (h : ∀ n ∈ zs, (Lit.int .u8 n).wf = true) : IsDig zs := fun j _ => by simpa [List.getD] using range_u8 h j
theorem u16_wf {zs : List Int} (h : ∀ n ∈ zs, (Lit.int .u16 n).wf = true) (j : Nat) : 0 ≤ zs.getD j 0 ∧ zs.getD j 0 ≤ 65535 := by simpa [List.getD] using range_u16 h j
end Go.Proofs.YtkhhhejmbgloeaaGreat
