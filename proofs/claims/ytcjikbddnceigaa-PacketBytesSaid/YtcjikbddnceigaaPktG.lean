/- What the document's answers for layer 19 give: a number's bytes, the number that bytes are, a packet's bytes. -/
import Derived.Test.YtcjikbddnceigaaPktK
import Derived.Test.YtcjikbddnceigaaCheR
import Derived.Deep.Cut
import Derived.Deep.CutBlock
import Derived.Deep.DeepCutAuto
namespace Go.Proofs.Ytcjikbddnceigaa
open Go.RowKit
set_option linter.unusedVariables false
set_option linter.unusedSimpArgs false

set_option maxRecDepth 100000 in
set_option maxHeartbeats 1000000 in
theorem refNumber19_any (n : Int) (N : Nat) (w : World) (n0 : 0 ≤ n) (n1 : n ≤ 4294967295) (hN : N ≤ 4) :
    Calls Try.prog 22 #[.int .u32 n, .int .i64 (N : Int)] w (OwnPost (numL n N) w) := by
  have HO := Lib.hid (World.ownsRow_nil w w.heap.size 5 1)
  go_enter Try.func22, Try.ntmps22
  go_wp2
  go_loopw [0, 5, 6] (fun u v i wr => ∃ k : Nat, k ≤ N ∧ i = .int .i64 k ∧ u = .int .u32 (n / P8 k) ∧ RowKit.Hid (wr.ownsRow w.heap.size 5 1 v (numL n k).length ((numL n k).map (Value.int .u8)) ∧ Below w.heap.size w wr)) (fun _ _ i _ => N - (intOf i).toNat)
  case atStart => exact ⟨0, by omega, rfl, by rw [P8_zero, Int.ediv_one], HO.out, Below.refl _ _⟩
  case round =>
    obtain ⟨k, hk, rfl, rfl, H⟩ := hrel
    clear HO
    by_cases hlt : k < N
    · obtain ⟨y, hy⟩ : ∃ y, n / P8 k = y := ⟨_, rfl⟩
      have hp := P8_pos k
      have y0 : 0 ≤ y := by rw [← hy]; exact Int.ediv_nonneg n0 (by omega)
      have y1 : y ≤ 4294967295 := by
        rw [← hy]
        exact Int.le_trans (Int.ediv_le_self _ n0) n1
      have hS : RowKit.Hid (numL n (k + 1) = numL n k ++ [y % 256] ∧ n / P8 (k + 1) = y / 256) := by
        refine ⟨by rw [numL_snoc, hy], ?_⟩
        rw [P8_succ, Int.mul_comm, ← Int.ediv_ediv_of_nonneg (by omega), hy]
      have m1 : y.tmod 256 = y % 256 := Int.tmod_eq_emod_of_nonneg y0
      have m2 : y.tdiv 256 = y / 256 := Int.tdiv_eq_ediv_of_nonneg y0
      have m3 : IntKind.u8.wrap (y % 256) = y % 256 := by simp [IntKind.wrap, IntKind.bits, IntKind.signed]
      rw [hy]
      clear hy hp
      go_wp2_with (at_builtin; go_loud (refine append_ints rfl _ _ 23 rfl w.heap.size 5 .u8 1 Try.underlying23 info19_u8 _ _ _ rfl (H.out.1.alloc _) (some ⟨wr.heap.size, 0, none⟩) 1 1 _ [y % 256] rfl (lit_ints wr 5 .u8 [y % 256] _ (0, 0) rfl (by simp)) (fun e => by cases e) (by rw [numL_len]; unfold maxLen; omega) (by rw [numL_len]; omega) (by have := H.out.2.size; simp; omega) ?_); intro v6 w6 ho hg6 _; go_loud (have H6 : RowKit.Hid (w6.ownsRow w.heap.size 5 1 v6 (numL n (k + 1)).length ((numL n (k + 1)).map (Value.int .u8)) ∧ Below w.heap.size w w6) := ⟨own_cast (own_app ho) hS.out.1.symm, (H.out.2.alloc H.out.2.size _).grown hg6 (by have := H.out.2.size; simp; omega) fun j e => own_base H.out.1 j e⟩); clear ho hg6)
      go_roundw
      case rel => exact ⟨k + 1, by omega, by go_num, by rw [hS.out.2], H6.out⟩
      case measure => simp [intOf] <;> omega
    · obtain rfl : k = N := by omega
      go_wp2
      go_ret
      exact ⟨_, rfl, H.out.1, H.out.2⟩

set_option maxRecDepth 100000 in
set_option maxHeartbeats 1000000 in
theorem refValue_any (a : Option Addr) (len cap : Nat) (b : List Int) (w : World) (h : IntsAt w w.heap.size .u8 a len b) (hb : Byts b) (hl : len ≤ 4) :
    Calls Try.prog 24 #[.slice a len cap] w fun e w' => e = .returned (.int .u32 (valL19 b)) ∧ w = w' := by
  have HI := Lib.hid h
  have HBy := Lib.hid hb
  have hbl := h.1
  have HL := Lib.hid hbl
  have HZ := Lib.hid (valL_over (b := b) (k := len) (by omega))
  have e0 : IntKind.i64.wrap ((len : Int) - 1) = (len : Int) - 1 := IntWalk.i64_in _ (by omega)
  clear h hb hbl
  go_enter Try.func24, Try.ntmps24
  go_wp2
  go_loop [3, 4] (fun n i => ∃ k : Nat, k ≤ len ∧ i = .int .i64 ((k : Int) - 1) ∧ n = .int .u32 (valL19 (b.drop k))) (fun _ i => (intOf i + 1).toNat)
  case atStart => exact ⟨len, Nat.le_refl _, rfl, by rw [HZ.out]⟩
  case round =>
    obtain ⟨k, hk, rfl, rfl⟩ := hrel
    clear e0
    cases k with
    | zero =>
      rw [List.drop_zero]
      go_wp2
      go_ret
      exact ⟨rfl, rfl⟩
    | succ k =>
      obtain ⟨r, off, rfl, hrB, _, hcell⟩ := HI.out.at_ (j := k) (by omega)
      have bd := HBy.out.getD k
      have bv := valL_bd (b := b.drop (k + 1)) (HBy.out.drop _)
      have bp : P8 (b.drop (k + 1)).length ≤ 16777216 := by
        have hll := HL.out
        have : (b.drop (k + 1)).length = 0 ∨ (b.drop (k + 1)).length = 1 ∨ (b.drop (k + 1)).length = 2 ∨ (b.drop (k + 1)).length = 3 := by simp; omega
        rcases this with e | e | e | e <;> rw [e] <;> decide
      have HV := Lib.hid (valL_drop (b := b) (k := k) (by rw [HL.out]; omega))
      generalize b.getD k 0 = x at bd HV hcell
      obtain ⟨y, hy⟩ : ∃ y, valL19 (b.drop (k + 1)) = y := ⟨_, rfl⟩
      rw [hy] at bv HV ⊢
      rw [show ((k + 1 : Nat) : Int) - 1 = (k : Int) by omega]
      have y1 : y < 16777216 := by omega
      have e1 : IntKind.u32.wrap (256 * y) = 256 * y := IntWalk.u32_in _ (by omega)
      have e3 : IntKind.u32.wrap x = x := IntWalk.u32_in _ (by omega)
      have e2 : IntKind.u32.wrap (256 * y + x) = 256 * y + x := IntWalk.u32_in _ (by omega)
      have e4 : IntKind.i64.wrap ((k : Int) - 1) = (k : Int) - 1 := IntWalk.i64_in _ (by omega)
      clear hy bp
      go_wp2
      go_round
      case rel => exact ⟨k, by omega, rfl, by rw [HV.out, Int.add_comm]⟩
      case measure => simp [intOf] <;> omega

theorem own_none19 {w : World} {base e size n m c : Nat} {a : Option Addr} {xs : List Value} (h : w.ownsRow base e size (.slice a m c) n xs) (ha : a = none) : c = 0 := by
  subst ha
  rcases h.2 with ⟨e, _⟩ | ⟨g, cap, cur, e, _⟩
  · injection e
  · injection e with e; cases e
theorem own_len {w : World} {base e n : Nat} {v : Value} {zs : List Int} (h : w.ownsRow base e 1 v n (zs.map (Value.int .u8))) : w.ownsRow base e 1 v zs.length (zs.map (Value.int .u8)) := by
  have e1 : zs.length = n := by have := h.1; simpa using this
  rw [e1]
  exact h
set_option maxRecDepth 100000 in
set_option maxHeartbeats 4000000 in
theorem refBytes_wh (ep nu : Int) (wh : Bool) (pl : List Int) (a : Option Addr) (cap : Nat) (w : World) (hP : Pk.Ok ⟨ep, nu, wh, pl⟩) (h : IntsAt w w.heap.size .u8 a pl.length pl) (hn : a = none → cap = 0) (hl : pl.length ≤ 800) :
    Calls Try.prog 9 #[.agg #[.int .u32 ep, .int .u32 nu, .bool wh, .slice a pl.length cap]] w (OwnPost (Pk.bytes ⟨ep, nu, wh, pl⟩) w) := by
  obtain ⟨hep, hnu, hb⟩ := hP
  simp only at hep hnu hb
  have HI := Lib.hid h
  have HN := Lib.hid hn
  have HBy := Lib.hid hb
  have hwl : IntKind.u32.wrap (pl.length : Int) = (pl.length : Int) := IntWalk.u32_in _ (by omega)
  clear h hn hb
  cases wh with
  | false =>
    have HO : RowKit.Hid (((w.alloc (.cells #[.int .u32 ep, .int .u32 nu, .bool false, .slice a pl.length cap] 33)).alloc (.cells #[.int .u8 83, .int .u8 66, .int .u8 0] 5)).ownsRow (w.heap.size + 1) 5 1 (.slice (some ⟨w.heap.size + 1, 0, none⟩) 3 3) ([83, 66, 0] : List Int).length (([83, 66, 0] : List Int).map (Value.int .u8))) := by
      have := World.ownsRow_lit (base := w.heap.size + 1) (e := 5) (size := 1) (w.alloc (.cells #[.int .u32 ep, .int .u32 nu, .bool false, .slice a pl.length cap] 33)) #[.int .u8 83, .int .u8 66, .int .u8 0] 3 (by simp) (by decide) rfl
      rw [World.size_alloc] at this
      exact this
    have HB : RowKit.Hid (Below w.heap.size w ((w.alloc (.cells #[.int .u32 ep, .int .u32 nu, .bool false, .slice a pl.length cap] 33)).alloc (.cells #[.int .u8 83, .int .u8 66, .int .u8 0] 5))) := ((Below.refl w.heap.size w).alloc (Nat.le_refl _) _).alloc (by simp) _
    have HC : RowKit.Hid (Cel ((w.alloc (.cells #[.int .u32 ep, .int .u32 nu, .bool false, .slice a pl.length cap] 33)).alloc (.cells #[.int .u8 83, .int .u8 66, .int .u8 0] 5)) w.heap.size 33 #[.int .u32 ep, .int .u32 nu, .bool false, .slice a pl.length cap]) := (Cel.new w _ _).alloc _
    have hcb := crcP_bd (Pk.front ⟨ep, nu, false, pl⟩)
    have HFb := Lib.hid (Pk.front_byts (p := ⟨ep, nu, false, pl⟩) HBy.out)
    have hfl := Pk.front_len ⟨ep, nu, false, pl⟩
    simp only at hfl
    go_enter Try.func9, Try.ntmps9
    go_upto_region 4 with (fail)
    obtain ⟨W0, hW0⟩ : ∃ W0, ((w.alloc (.cells #[.int .u32 ep, .int .u32 nu, .bool false, .slice a pl.length cap] 33)).alloc (.cells #[.int .u8 83, .int .u8 66, .int .u8 0] 5)) = W0 := ⟨_, rfl⟩
    rw [hW0] at HO HB HC ⊢
    clear hW0
    obtain ⟨c0, c1, c2, c3⟩ := cel4 HC.out
    go_wp2_with (first
      | (go_at_call 22; go_loud (refine (refNumber19_any _ _ _ (by omega) (by omega) (by decide)).mono ?_); rintro e w6 ⟨v6, rfl, ho, hb6⟩; obtain ⟨a6, m6, c6, rfl, hm6⟩ := own_form_m ho; have HS := Lib.hid (own_ints_m ho); have HSn := Lib.hid (own_none19 ho); have hm6b : m6 ≤ 4 := (by rw [hm6, numL_len]; decide); replace HO := Lib.hid (own_below HO.out hb6); replace HB := Lib.hid (chain HB.out hb6); replace HC := Lib.hid (HC.out.below hb6); obtain ⟨c0, c1, c2, c3⟩ := cel4 HC.out; clear ho hb6 hm6)
      | (at_builtin; have hq := HS.out; go_loud (refine append_ints rfl _ _ 23 rfl (w.heap.size + 1) 5 .u8 1 Try.underlying23 info19_u8 _ _ _ rfl HO.out a6 m6 c6 _ _ rfl HS.out HSn.out (by unfold maxLen; first | omega | (simp [numL_len] <;> omega)) (by first | omega | (simp [numL_len] <;> omega)) (by have := HC.out.lt; omega) ?_); intro v7 w7 ho hg7 _; replace HC := Lib.hid (HC.out.keep (hg7.block _ HC.out.lt (by intro e; have := own_base HO.out _ e.symm; omega))); replace HB := Lib.hid (HB.out.grown hg7 HB.out.size fun j e => by have := own_base HO.out j e; omega); replace HO := Lib.hid (own_len ho); obtain ⟨c0, c1, c2, c3⟩ := cel4 HC.out; clear ho hg7 HS HSn hq)
      | (at_builtin; go_loud (refine append_ints rfl _ _ 23 rfl (w.heap.size + 1) 5 .u8 1 Try.underlying23 info19_u8 _ _ _ rfl HO.out a pl.length cap w.heap.size pl rfl (HI.out.below HB.out) HN.out (by unfold maxLen; simp [numL_len] <;> omega) (by simp [numL_len] <;> omega) (by have := HC.out.lt; omega) ?_); intro v7 w7 ho hg7 _; replace ho := own_cast (own_app ho) (show _ = Pk.front ⟨ep, nu, false, pl⟩ from rfl); obtain ⟨a8, m8, c8, rfl, hm8⟩ := own_form_m ho; replace HC := Lib.hid (HC.out.keep (hg7.block _ HC.out.lt (by intro e; have := own_base HO.out _ e.symm; omega))); replace HB := Lib.hid (HB.out.grown hg7 HB.out.size fun j e => by have := own_base HO.out j e; omega); replace HO := Lib.hid ho; have HM8 := Lib.hid hm8; clear ho hg7 hm8)
      | (go_at_call 23; go_loud (refine (ref03Of_any _ _ _ _ _ (own_ints_m HO.out) (HFb.out.at_ _) (by rw [HM8.out]; omega)).mono ?_); rintro e w9 ⟨rfl, rfl⟩)
      | fail)
    go_ret
    exact ⟨_, rfl, own_lower HO.out (by omega), HB.out⟩
  | true =>
    have HO : RowKit.Hid (((w.alloc (.cells #[.int .u32 ep, .int .u32 nu, .bool true, .slice a pl.length cap] 33)).alloc (.cells #[.int .u8 83, .int .u8 66, .int .u8 1] 5)).ownsRow (w.heap.size + 1) 5 1 (.slice (some ⟨w.heap.size + 1, 0, none⟩) 3 3) ([83, 66, 1] : List Int).length (([83, 66, 1] : List Int).map (Value.int .u8))) := by
      have := World.ownsRow_lit (base := w.heap.size + 1) (e := 5) (size := 1) (w.alloc (.cells #[.int .u32 ep, .int .u32 nu, .bool true, .slice a pl.length cap] 33)) #[.int .u8 83, .int .u8 66, .int .u8 1] 3 (by simp) (by decide) rfl
      rw [World.size_alloc] at this
      exact this
    have HB : RowKit.Hid (Below w.heap.size w ((w.alloc (.cells #[.int .u32 ep, .int .u32 nu, .bool true, .slice a pl.length cap] 33)).alloc (.cells #[.int .u8 83, .int .u8 66, .int .u8 1] 5))) := ((Below.refl w.heap.size w).alloc (Nat.le_refl _) _).alloc (by simp) _
    have HC : RowKit.Hid (Cel ((w.alloc (.cells #[.int .u32 ep, .int .u32 nu, .bool true, .slice a pl.length cap] 33)).alloc (.cells #[.int .u8 83, .int .u8 66, .int .u8 1] 5)) w.heap.size 33 #[.int .u32 ep, .int .u32 nu, .bool true, .slice a pl.length cap]) := (Cel.new w _ _).alloc _
    have hcb := crcP_bd (Pk.front ⟨ep, nu, true, pl⟩)
    have HFb := Lib.hid (Pk.front_byts (p := ⟨ep, nu, true, pl⟩) HBy.out)
    have hfl := Pk.front_len ⟨ep, nu, true, pl⟩
    simp only at hfl
    go_enter Try.func9, Try.ntmps9
    go_upto_region 4 with (fail)
    obtain ⟨W0, hW0⟩ : ∃ W0, ((w.alloc (.cells #[.int .u32 ep, .int .u32 nu, .bool true, .slice a pl.length cap] 33)).alloc (.cells #[.int .u8 83, .int .u8 66, .int .u8 1] 5)) = W0 := ⟨_, rfl⟩
    rw [hW0] at HO HB HC ⊢
    clear hW0
    obtain ⟨c0, c1, c2, c3⟩ := cel4 HC.out
    go_wp2_with (first
      | (go_at_call 22; go_loud (refine (refNumber19_any _ _ _ (by omega) (by omega) (by decide)).mono ?_); rintro e w6 ⟨v6, rfl, ho, hb6⟩; obtain ⟨a6, m6, c6, rfl, hm6⟩ := own_form_m ho; have HS := Lib.hid (own_ints_m ho); have HSn := Lib.hid (own_none19 ho); have hm6b : m6 ≤ 4 := (by rw [hm6, numL_len]; decide); replace HO := Lib.hid (own_below HO.out hb6); replace HB := Lib.hid (chain HB.out hb6); replace HC := Lib.hid (HC.out.below hb6); obtain ⟨c0, c1, c2, c3⟩ := cel4 HC.out; clear ho hb6 hm6)
      | (at_builtin; have hq := HS.out; go_loud (refine append_ints rfl _ _ 23 rfl (w.heap.size + 1) 5 .u8 1 Try.underlying23 info19_u8 _ _ _ rfl HO.out a6 m6 c6 _ _ rfl HS.out HSn.out (by unfold maxLen; first | omega | (simp [numL_len] <;> omega)) (by first | omega | (simp [numL_len] <;> omega)) (by have := HC.out.lt; omega) ?_); intro v7 w7 ho hg7 _; replace HC := Lib.hid (HC.out.keep (hg7.block _ HC.out.lt (by intro e; have := own_base HO.out _ e.symm; omega))); replace HB := Lib.hid (HB.out.grown hg7 HB.out.size fun j e => by have := own_base HO.out j e; omega); replace HO := Lib.hid (own_len ho); obtain ⟨c0, c1, c2, c3⟩ := cel4 HC.out; clear ho hg7 HS HSn hq)
      | (at_builtin; go_loud (refine append_ints rfl _ _ 23 rfl (w.heap.size + 1) 5 .u8 1 Try.underlying23 info19_u8 _ _ _ rfl HO.out a pl.length cap w.heap.size pl rfl (HI.out.below HB.out) HN.out (by unfold maxLen; simp [numL_len] <;> omega) (by simp [numL_len] <;> omega) (by have := HC.out.lt; omega) ?_); intro v7 w7 ho hg7 _; replace ho := own_cast (own_app ho) (show _ = Pk.front ⟨ep, nu, true, pl⟩ from rfl); obtain ⟨a8, m8, c8, rfl, hm8⟩ := own_form_m ho; replace HC := Lib.hid (HC.out.keep (hg7.block _ HC.out.lt (by intro e; have := own_base HO.out _ e.symm; omega))); replace HB := Lib.hid (HB.out.grown hg7 HB.out.size fun j e => by have := own_base HO.out j e; omega); replace HO := Lib.hid ho; have HM8 := Lib.hid hm8; clear ho hg7 hm8)
      | (go_at_call 23; go_loud (refine (ref03Of_any _ _ _ _ _ (own_ints_m HO.out) (HFb.out.at_ _) (by rw [HM8.out]; omega)).mono ?_); rintro e w9 ⟨rfl, rfl⟩)
      | fail)
    go_ret
    exact ⟨_, rfl, own_lower HO.out (by omega), HB.out⟩
/-- A packet of the document's, as a value. -/
theorem refBytes_any (P : Pk) (a : Option Addr) (cap : Nat) (w : World) (hP : P.Ok) (h : IntsAt w w.heap.size .u8 a P.pl.length P.pl) (hn : a = none → cap = 0) (hl : P.pl.length ≤ 800) :
    Calls Try.prog 9 #[pkV19 P a cap] w (OwnPost P.bytes w) := refBytes_wh P.ep P.nu P.wh P.pl a cap w hP h hn hl
end Go.Proofs.Ytcjikbddnceigaa
