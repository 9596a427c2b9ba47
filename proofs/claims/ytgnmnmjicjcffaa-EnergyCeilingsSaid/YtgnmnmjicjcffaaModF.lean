/- What the document's Fixed of layer 5 gives. -/
import Derived.Test.YtgnmnmjicjcffaaModR
import Derived.Deep.AppendLies
import Derived.Deep.RegionLaw
namespace Go.Proofs.Ytgnmnmjicjcffaa
open Go.RowKit
set_option linter.unusedVariables false

theorem refFixed_out (a : Option Addr) (len cap : Nat) (w : World) (hm : len ≤ 9223372036854775807) (h : len < 1 ∨ 64 < len) :
    Calls Try.prog 46 #[.slice a len cap] w fun e w' => e = .returned (.tuple #[.pointer none, .bool false]) ∧ w = w' := by
  rcases h with h | h
  · have hd : decide ((len : Int) < 1) = true := by simp; omega
    go_enter Try.func46, Try.ntmps46
    go_wp2
    go_ret2
    exact ⟨rfl, rfl⟩
  · have hd : decide ((len : Int) < 1) = false := by simp; omega
    have hd2 : decide ((64 : Int) < (len : Int)) = true := by simp; omega
    go_enter Try.func46, Try.ntmps46
    go_wp2
    go_ret2
    exact ⟨rfl, rfl⟩

set_option maxRecDepth 100000 in
theorem refFixed_any (a : Option Addr) (len cap : Nat) (zs : List Int) (w : World) (h : IntsAt w w.heap.size .u32 a len zs) (hb : ∀ j, j < len → 0 ≤ zs.getD j 0 ∧ zs.getD j 0 ≤ 4294967295) (h0 : 1 ≤ len) (h1 : len ≤ 64) :
    Calls Try.prog 46 #[.slice a len cap] w fun e w' => Below w.heap.size w w' ∧
      (((∃ j, j < len ∧ zs.getD j 0 = 0) ∧ e = .returned (.tuple #[.pointer none, .bool false])) ∨
       ((∀ j, j < len → 1 ≤ zs.getD j 0) ∧ ∃ g r, e = .returned (.tuple #[.pointer (some ⟨g, 0, none⟩), .bool (decide (sumN zs len ≤ 8192))]) ∧ RefMod w' w.heap.size g r zs true)) := by
  obtain ⟨b, off, rfl, hbB, _, _⟩ := h.at_ (j := 0) (by omega)
  have H0 := Lib.hid h
  have HW := Lib.hid hb
  clear h hb
  have hd : decide ((len : Int) < 1) = false := by simp; omega
  have hd2 : decide ((64 : Int) < (len : Int)) = false := by simp; omega
  have HC := Lib.hid (Cel.new w 86 #[.slice none 0 0, .bool true])
  have HB := Lib.hid (Below.alloc_new w (.cells #[.slice none 0 0, .bool true] 86))
  have HO := Lib.hid (World.ownsRow_nil (w.alloc (.cells #[.slice none 0 0, .bool true] 86)) w.heap.size 3 1)
  obtain ⟨i0, hi, hzz, hz1, hz2⟩ := info_parts info_int05
  go_enter Try.func46, Try.ntmps46
  go_wp2
  go_loopw [5] (fun i wr => ∃ k : Nat, k ≤ len ∧ i = .int .i64 k ∧ RowKit.Hid ((∀ j, j < k → 1 ≤ zs.getD j 0) ∧ ∃ v, Cel wr w.heap.size 86 #[v, .bool true] ∧ wr.ownsRow w.heap.size 3 1 v k ((zs.take k).map (Value.int .i64)) ∧ Below w.heap.size w wr)) (fun i _ => len - (intOf i).toNat)
  case atStart => exact ⟨0, by omega, rfl, fun j hj => by omega, _, HC.out, HO.out, HB.out⟩
  case round =>
    obtain ⟨k, hk, rfl, H⟩ := hrel
    clear HC HB HO
    have HP := Lib.hid H.out.1
    obtain ⟨v, hc, ho, hb⟩ := H.out.2
    clear H
    have c0 := hc.cell 0
    have f0 := hc.frozen 0
    simp only [List.getElem?_toArray, List.getElem?_cons_zero] at c0
    have HC := Lib.hid hc
    have HO := Lib.hid ho
    have HB := Lib.hid hb
    have hsz := hb.size
    have hgl := hc.lt
    have hne : v.ownBlock ≠ some w.heap.size := fun c => own_ne_cel ho hc (by decide) _ c rfl
    clear hc ho hb
    by_cases hlt : k < len
    · obtain ⟨b', off', e', _, _, hcell⟩ := H0.out.at_ hlt
      obtain ⟨rfl, rfl⟩ : b = b' ∧ off = off' := by injection e' with e'; injection e' with e1 e2; exact ⟨e1, e2⟩
      have hx := HB.out.cell (p := ⟨b, off + k, none⟩) hbB
      rw [hcell] at hx
      clear hcell e'
      obtain ⟨x0, x1⟩ := HW.out k hlt
      have HT := Lib.hid (take_snocI zs k (by rw [H0.out.1]; exact hlt))
      obtain ⟨x, hxd⟩ : ∃ x, x = zs.getD k 0 := ⟨_, rfl⟩
      rw [← hxd] at hx x0 x1
      have HX := Lib.hid hxd
      have HT' := HT
      clear HT
      have HT : RowKit.Hid (zs.take (k + 1) = zs.take k ++ [x]) := by show _ = _; rw [hxd]; exact HT'.out
      clear hxd HT'
      have g2 : (k : Int) < (len : Int) := by omega
      have e1 : wrap64 x = x := IntWalk.wrap64_in _ (by omega)
      have e2 : IntKind.i64.wrap x = x := IntWalk.i64_in _ (by omega)
      go_wp2
      have hA := Lib.hid (World.ownsRow.alloc HO.out (.cells #[.int .i64 x] 3))
      go_region_law ((refine step_append_lies _ (by rfl) _ _ _ (by rfl) w.heap.size 3 i0 (.int .i64 0) 1 8 Try.underlying23 hi hzz hz1 hz2 rfl (by decide) v k _ (by rfl) hA.out.drew ⟨wr.heap.size, 0, none⟩ 1 1 [.int .i64 x] (by rfl) (by rfl) (World.news_of_block (cs := #[.int .i64 x]) (t := 3) (fr := (0, 0)) (heap_alloc_new wr _)) (by simp [Value.oneCell']) (by omega) (by unfold maxLen; omega) (by omega) (by simp; omega) (wr.heap.size + 1) (by simp) ?_; intro gg cp w2 hown hgrow hat hlt2; have c2 : w2.cell? ⟨w.heap.size, 0, none⟩ = some v := (hgrow.cell_far ⟨w.heap.size, 0, none⟩ (by simp; omega) (fun c => hne c.symm)).trans ((HC.out.alloc (.cells #[.int .i64 x] 3)).cell 0); have f2 : w2.frozen? ⟨w.heap.size, 0, none⟩ = false := (hgrow.frozen_far ⟨w.heap.size, 0, none⟩ (by simp; omega) (fun c => hne c.symm)).trans ((HC.out.alloc (.cells #[.int .i64 x] 3)).frozen 0)))
      all_goals
        have hc2 : Cel w2 w.heap.size 86 #[v, .bool true] := (HC.out.alloc (.cells #[.int .i64 x] 3)).keep (hgrow.block _ (by simp; omega) (fun c => hne c.symm))
        have hb2 : Below w.heap.size w w2 := (Below.drewN' (HB.out.alloc hsz (.cells #[.int .i64 x] 3)) 1).grown hgrow (by simp; omega) (own_base HO.out)
        have hown2 : w2.ownsRow w.heap.size 3 1 (.slice (some ⟨gg, 0, none⟩) (k + 1) cp) (k + 1) ((zs.take (k + 1)).map (Value.int .i64)) := by rw [HT.out]; simpa using hown
        obtain ⟨w3, hw3⟩ : ∃ w3, w3 = w2.setCell ⟨w.heap.size, 0, none⟩ (.slice (some ⟨gg, 0, none⟩) (k + 1) cp) := ⟨_, rfl⟩
        have H3 : RowKit.Hid (Cel w3 w.heap.size 86 #[.slice (some ⟨gg, 0, none⟩) (k + 1) cp, .bool true] ∧ w3.ownsRow w.heap.size 3 1 (.slice (some ⟨gg, 0, none⟩) (k + 1) cp) (k + 1) ((zs.take (k + 1)).map (Value.int .i64)) ∧ Below w.heap.size w w3) := by
          rw [hw3]
          refine ⟨by simpa using hc2.set_ 0 (.slice (some ⟨gg, 0, none⟩) (k + 1) cp), ?_, hb2.setCell (Nat.le_refl _) _⟩
          exact own_far hown2 (fun j hj => own_ne_cel hown2 hc2 (by decide) j hj) _
        rw [← hw3]
        clear hw3 hc2 hb2 hown2 hown hgrow c2 f2 hat hlt2 hx c0 f0
        have hx3 : w3.cell? ⟨b, off + k, none⟩ = some (.int .u32 x) := by
          rw [H3.out.2.2.cell (p := ⟨b, off + k, none⟩) hbB]
          obtain ⟨b', off', e', _, _, hcell⟩ := H0.out.at_ hlt
          obtain ⟨rfl, rfl⟩ : b = b' ∧ off = off' := by injection e' with e'; injection e' with e1 e2; exact ⟨e1, e2⟩
          rw [hcell, HX.out]
        by_cases hxz : x = 0
        · have hq : (x == 0) = true := by simpa using hxz
          go_wp2
          go_ret2
          exact ⟨H3.out.2.2, .inl ⟨⟨k, hlt, by rw [← HX.out]; exact hxz⟩, rfl⟩⟩
        · have hq : (x == 0) = false := by simpa using hxz
          go_wp2
          go_roundw
          case rel =>
            refine ⟨k + 1, by omega, by go_num, fun j hj => ?_, _, H3.out.1, H3.out.2.1, H3.out.2.2⟩
            by_cases hjk : j = k
            · subst hjk; rw [← HX.out]; omega
            · exact HP.out j (by omega)
          case measure => simp [intOf] <;> omega
    · obtain rfl : k = len := by omega
      obtain ⟨r, c, e, _, _⟩ := World.ownsRow.form HO.out (by omega)
      subst e
      have hzl : zs.length = k := H0.out.1
      have Z : RowKit.Hid (RefMod wr w.heap.size w.heap.size r zs true) := by
        refine ⟨c, ?_, ?_, Nat.le_refl _⟩
        · rw [hzl]; exact HC.out
        · have := HO.out
          rw [List.take_of_length_le (by omega)] at this
          rw [hzl]; exact this
      have HL := Lib.hid hzl
      clear hzl
      go_wp2_with (go_at_call 49; go_loud (refine (refSum_at w.heap.size w.heap.size r zs true k _ _ (by omega) Z.out (by rw [HL.out]; exact Nat.le_refl _) (by rw [HL.out]; omega) (by rw [HL.out]; exact HW.out)).mono ?_); rintro e w' ⟨rfl, rfl⟩)
      go_ret2
      exact ⟨HB.out, .inr ⟨HP.out, _, _, rfl, Z.out⟩⟩
end Go.Proofs.Ytgnmnmjicjcffaa
