/- What the statements' own helpers for layer 8 give: numbers of a list, again and again; whether two are the same; how many lines; that it lives. -/
import Derived.Test.YtemmcahglkpmmaaLapH
import Derived.Lib.AppendZerosOnto
namespace Go.Proofs.Ytemmcahglkpmmaa
open Go.RowKit
set_option linter.unusedVariables false

theorem tabF_snoc (f : Nat → Int) (n : Nat) : tabF (n + 1) f = tabF n f ++ [f n] := by simp [tabF, List.range_succ]
/-- A row of the call's own of one type isn't one of another. -/
theorem own_ne_own {w : World} {base base' n n' size size' : Nat} {e t : TypeId} {v v' : Value} {xs xs' : List Value} (h : w.ownsRow base e size v n xs) (h' : w.ownsRow base' t size' v' n' xs') (hne : e ≠ t) (k : Nat) (hk : v.ownBlock = some k) : v'.ownBlock ≠ some k := by
  rcases h.2 with ⟨rfl, _⟩ | ⟨g, cap, cur, rfl, _, hh, _⟩
  · simp [Value.ownBlock] at hk
  · simp [Value.ownBlock] at hk
    subst hk
    rcases h'.2 with ⟨rfl, _⟩ | ⟨g', cap', cur', rfl, _, hh', _⟩
    · simp [Value.ownBlock]
    · simp only [Value.ownBlock]
      intro c
      injection c with c
      subst c
      rw [hh] at hh'
      injection hh' with hh'
      injection hh' with _ ht
      exact hne ht
/-- Number i of a list, again and again, each time turned, held to fewer than M. -/
def fillV (zs : List Int) (len : Nat) (M : Int) (i : Nat) : Int := if len = 0 then 0 else (zs.getD (i % len) 0 * (1 + ((i / len % 5 : Nat) : Int))).tmod M
theorem fillV_bd (zs : List Int) (len : Nat) {M : Int} (hM : 1 ≤ M) (i : Nat) : -M < fillV zs len M i ∧ fillV zs len M i < M := by
  unfold fillV
  split
  · omega
  · exact tmod_bd hM
def FillPost (n : Nat) (F : Nat → Int) (w : World) (x : Ending) (w' : World) : Prop :=
  ∃ v1 v2, x = .returned (.tuple #[v1, v2]) ∧ w'.ownsRow w.heap.size 21 1 v1 n ((tabF n F).map (Value.int .i32)) ∧ w'.ownsRow w.heap.size 2 1 v2 n ((tabF n F).map (Value.int .i64)) ∧ Below w.heap.size w w'
theorem info_i32b : (Try.prog.info? 21).map (fun i => (i.zero, i.size, i.bytes)) = some (some (.int .i32 0), 1, 4) := by kernel_rfl
set_option maxRecDepth 100000 in
theorem fill08_any (a : Option Addr) (len cap n : Nat) (wide M : Int) (zs : List Int) (w : World) (hl : IntsAt w w.heap.size .i32 a len zs) (hz : ∀ j, -2147483648 ≤ zs.getD j 0 ∧ zs.getD j 0 ≤ 2147483647) (hlen : len ≤ 2000) (hn : n ≤ 1024)
    (hw : (wide = 20 ∧ M = 524288) ∨ (wide = 21 ∧ M = 1048576) ∨ (wide = 26 ∧ M = 33554432)) :
    Calls Try.prog 11 #[.slice a len cap, .int .i64 n, .int .i64 wide] w (FillPost n (fillV zs len M) w) := by
  have HL := Lib.hid hl
  have HZ := Lib.hid hz
  have HO1 := Lib.hid (World.ownsRow_nil w w.heap.size 21 1)
  have HO2 := Lib.hid (World.ownsRow_nil w w.heap.size 2 1)
  obtain ⟨F, hF⟩ : ∃ F, F = fillV zs len M := ⟨_, rfl⟩
  have hF0 : RowKit.Hid (len = 0 → ∀ q, F q = 0) := by
    intro h q; rw [hF]; exact if_pos h
  have hF1 : RowKit.Hid (len ≠ 0 → ∀ q, (zs.getD (q % len) 0 * (1 + ((q / len % 5 : Nat) : Int))).tmod M = F q) := by
    intro h q; rw [hF]; exact (if_neg h).symm
  have hFb : RowKit.Hid (∀ q, -33554432 ≤ F q ∧ F q ≤ 33554432) := by
    intro q
    have := fillV_bd zs len (M := M) (by omega) q
    rw [hF]
    omega
  rw [← hF]
  clear hF hl hz
  rcases hw with ⟨rfl, rfl⟩ | ⟨rfl, rfl⟩ | ⟨rfl, rfl⟩
  all_goals
    go_enter Try.func11, Try.ntmps11
    go_wp2
    go_loopw [8, 9, 13] (fun va vb i wr => ∃ q : Nat, q ≤ n ∧ i = .int .i64 (q : Int) ∧ RowKit.Hid (wr.ownsRow w.heap.size 21 1 va q ((tabF q F).map (Value.int .i32)) ∧ wr.ownsRow w.heap.size 2 1 vb q ((tabF q F).map (Value.int .i64)) ∧ Below w.heap.size w wr)) (fun _ _ i _ => n - (intOf i).toNat)
    case atStart => exact ⟨0, by omega, rfl, HO1.out, HO2.out, Below.refl _ _⟩
    case round =>
      obtain ⟨q, hq, rfl, H⟩ := hrel
      clear HO1 HO2
      have hsz := H.out.2.2.size
      by_cases hlt : q < n
      · obtain ⟨b0, b1⟩ := hFb.out q
        have E1 : RowKit.Hid (tabF (q + 1) F = tabF q F ++ [F q]) := tabF_snoc F q
        have l1 : (q : Int) < (n : Int) := by omega
        have tailOK : RowKit.Hid (∀ i v1 v2 (wx : World), wx.ownsRow w.heap.size 21 1 v1 (q + 1) ((tabF q F ++ [F q]).map (Value.int .i32)) → wx.ownsRow w.heap.size 2 1 v2 (q + 1) ((tabF q F ++ [F q]).map (Value.int .i64)) → Below w.heap.size w wx → (wx.drewN i).ownsRow w.heap.size 21 1 v1 (q + 1) ((tabF (q + 1) F).map (Value.int .i32)) ∧ (wx.drewN i).ownsRow w.heap.size 2 1 v2 (q + 1) ((tabF (q + 1) F).map (Value.int .i64)) ∧ Below w.heap.size w (wx.drewN i)) := by
          intro i v1 v2 wx h1 h2 h3
          rw [E1.out]
          exact ⟨h1, h2, Below.drewN' h3 i⟩
        by_cases hl0 : len = 0
        · have z0 : F q = 0 := hF0.out hl0 q
          rw [z0] at tailOK
          have HOc : RowKit.Hid (wr.ownsRow w.heap.size 21 1 u8 q ((tabF q F).map (Value.int .i32)) ∧ wr.ownsRow w.heap.size 2 1 u9 q ((tabF q F).map (Value.int .i64)) ∧ Below w.heap.size w wr) := H.out
          clear H b0 b1 E1 z0
          have ll : ¬ 0 < (len : Int) := by omega
          clear hl0
          have HA1 := Lib.hid (World.ownsRow.alloc HOc.out.1 (.cells #[.int .i32 0] 21))
          have HA2 := Lib.hid (World.ownsRow.alloc HOc.out.2.1 (.cells #[.int .i32 0] 21))
          have HAB := Lib.hid (HOc.out.2.2.alloc HOc.out.2.2.size (.cells #[.int .i32 0] 21))
          have hsrc1 := Lib.hid (lit_ints wr 21 .i32 [0] #[.int .i32 0] (0, 0) rfl (by simp))
          have hsz := HOc.out.2.2.size
          go_wp2_with (first | (at_builtin; have hq2 := HC2.out; go_loud (refine append_ints rfl _ _ 31 rfl w.heap.size 2 .i64 8 Try.underlying31 info_i64 u9 q (tabF q F) rfl HC2.out (some ⟨w1.heap.size, 0, none⟩) 1 1 _ [0] rfl hsrc2.out (by simp) (by unfold maxLen; omega) (by omega) (by simp; omega) ?_); intro v2 w2 hown hgrow _; have HO2 := Lib.hid hown; have HB2 : RowKit.Hid (Below w.heap.size w w2) := HCB.out.grown hgrow (by simp; omega) (own_base HC2.out); have HV1 := Lib.hid (own_grown HC1.out hgrow (fun g hg c => own_ne_own HC1.out HC2.out (by decide) g hg c.symm)); clear hown hgrow) | (at_builtin; go_loud (refine append_ints rfl _ _ 22 rfl w.heap.size 21 .i32 4 Try.underlying22 info_i32b u8 q (tabF q F) rfl HA1.out (some ⟨wr.heap.size, 0, none⟩) 1 1 _ [0] rfl hsrc1.out (by simp) (by unfold maxLen; omega) (by omega) (by simp; omega) ?_); intro v1 w1 hown hgrow _; have HO1 := Lib.hid hown; have HB1 : RowKit.Hid (Below w.heap.size w w1) := HAB.out.grown hgrow (by simp; omega) (own_base HA1.out); have HV2 : RowKit.Hid (w1.ownsRow w.heap.size 2 1 u9 q ((tabF q F).map (Value.int .i64))) := own_grown HA2.out hgrow (fun g hg c => own_ne_own HA2.out HA1.out (by decide) g hg c.symm); clear hown hgrow; have hsz1 := HB1.out.size; have HC1 := Lib.hid (World.ownsRow.alloc HO1.out (.cells #[.int .i64 0] 2)); have HC2 := Lib.hid (World.ownsRow.alloc HV2.out (.cells #[.int .i64 0] 2)); have HCB := Lib.hid (HB1.out.alloc hsz1 (.cells #[.int .i64 0] 2)); have hsrc2 := Lib.hid (lit_ints w1 2 .i64 [0] #[.int .i64 0] (0, 0) rfl (by simp))))
          go_roundw
          case rel => exact ⟨q + 1, by omega, by go_num, tailOK.out 0 _ _ _ HV1.out HO2.out HB2.out⟩
          case measure => simp [intOf] <;> omega
        · have HQ := Lib.hid (hF1.out hl0 q)
          obtain ⟨m, hm⟩ : ∃ m, m = q % len := ⟨_, rfl⟩
          obtain ⟨d, hd⟩ : ∃ d, d = q / len := ⟨_, rfl⟩
          obtain ⟨e, he⟩ : ∃ e, e = d % 5 := ⟨_, rfl⟩
          have hml : m < len := by rw [hm]; exact Nat.mod_lt _ (by omega)
          have he4 : e ≤ 4 := by omega
          have f1 : (q : Int) % (len : Int) = (m : Int) := by rw [hm]; rfl
          have f2 : (q : Int).tmod (len : Int) = (m : Int) := by rw [Int.tmod_eq_emod_of_nonneg (by omega)]; exact f1
          have f3 : (q : Int) / (len : Int) = (d : Int) := by rw [hd]; rfl
          have f4 : (q : Int).tdiv (len : Int) = (d : Int) := by rw [Int.tdiv_eq_ediv_of_nonneg (by omega)]; exact f3
          have f5 : (d : Int) % 5 = (e : Int) := by rw [he]; rfl
          have f6 : (d : Int).tmod 5 = (e : Int) := by rw [Int.tmod_eq_emod_of_nonneg (by omega)]; exact f5
          rw [← hd, ← he, ← hm] at HQ
          have hd2 : d ≤ 1024 := by rw [hd]; have := Nat.div_le_self q len; omega
          obtain ⟨b, off, rfl, hbl, _, hc⟩ := HL.out.at_ hml
          have k1 := (H.out.2.2.cell (p := ⟨b, off + m, none⟩) hbl).trans hc
          obtain ⟨z0, z1⟩ := HZ.out m
          clear hm hd he hc
          generalize zs.getD m 0 = y at k1 z0 z1 HQ
          obtain ⟨Y, hY⟩ : ∃ Y, Y = y * (1 + (e : Int)) := ⟨_, rfl⟩
          have hYb : Y.natAbs ≤ 2147483648 * 5 := by rw [hY]; exact mul_abs (by omega) (by omega)
          rw [← hY] at HQ
          have hY' := hY.symm
          clear hY
          have y0 : -10737418240 ≤ Y := by omega
          have y1 : Y ≤ 10737418240 := by omega
          clear hYb E1
          generalize F q = x at HQ tailOK b0 b1
          have l2 : (m : Int) < (len : Int) := by omega
          have l3 : ¬ (len : Int) = 0 := by omega
          have l4 : 0 < (len : Int) := by omega
          have HOb : RowKit.Hid (∀ i, (wr.drewN i).ownsRow w.heap.size 21 1 u8 q ((tabF q F).map (Value.int .i32)) ∧ (wr.drewN i).ownsRow w.heap.size 2 1 u9 q ((tabF q F).map (Value.int .i64)) ∧ Below w.heap.size w (wr.drewN i)) := fun i => ⟨H.out.1, H.out.2.1, Below.drewN' H.out.2.2 i⟩
          clear H
          go_wp2
          have g1 : IntKind.i64.wrap y = y := IntWalk.i64_in _ (by omega)
          have g2 : IntKind.i64.wrap (d : Int) = (d : Int) := IntWalk.i64_in _ (by omega)
          have g3 : IntKind.i64.wrap (1 + (e : Int)) = 1 + (e : Int) := IntWalk.i64_in _ (by omega)
          have g4 : IntKind.i64.wrap Y = Y := IntWalk.i64_in _ (by omega)
          have g5 : IntKind.i64.wrap (m : Int) = (m : Int) := IntWalk.i64_in _ (by omega)
          have g6 : IntKind.i64.wrap (e : Int) = (e : Int) := IntWalk.i64_in _ (by omega)
          go_quiet (fail)
          clear g1 g2 g3 g4 g5 g6 f1 f2 f3 f4 f5 f6 hY' k1 l2 l3 l4
          have HOc := Lib.hid (HOb.out nq)
          generalize wr.drewN nq = wq at HOc ⊢
          clear HOb
          have hq := HQ.out
          have HA1 := Lib.hid (World.ownsRow.alloc HOc.out.1 (.cells #[.int .i32 x] 21))
          have HA2 := Lib.hid (World.ownsRow.alloc HOc.out.2.1 (.cells #[.int .i32 x] 21))
          have HAB := Lib.hid (HOc.out.2.2.alloc HOc.out.2.2.size (.cells #[.int .i32 x] 21))
          have hsrc1 := Lib.hid (lit_ints wq 21 .i32 [x] #[.int .i32 x] (0, 0) rfl (by simp))
          have hsz := HOc.out.2.2.size
          go_wp2_with (first | (at_builtin; have hq2 := HC2.out; go_loud (refine append_ints rfl _ _ 31 rfl w.heap.size 2 .i64 8 Try.underlying31 info_i64 u9 q (tabF q F) rfl HC2.out (some ⟨w1.heap.size, 0, none⟩) 1 1 _ [x] rfl hsrc2.out (by simp) (by unfold maxLen; omega) (by omega) (by simp; omega) ?_); intro v2 w2 hown hgrow _; have HO2 := Lib.hid hown; have HB2 : RowKit.Hid (Below w.heap.size w w2) := HCB.out.grown hgrow (by simp; omega) (own_base HC2.out); have HV1 := Lib.hid (own_grown HC1.out hgrow (fun g hg c => own_ne_own HC1.out HC2.out (by decide) g hg c.symm)); clear hown hgrow) | (at_builtin; go_loud (refine append_ints rfl _ _ 22 rfl w.heap.size 21 .i32 4 Try.underlying22 info_i32b u8 q (tabF q F) rfl HA1.out (some ⟨wq.heap.size, 0, none⟩) 1 1 _ [x] rfl hsrc1.out (by simp) (by unfold maxLen; omega) (by omega) (by simp; omega) ?_); intro v1 w1 hown hgrow _; have HO1 := Lib.hid hown; have HB1 : RowKit.Hid (Below w.heap.size w w1) := HAB.out.grown hgrow (by simp; omega) (own_base HA1.out); have HV2 : RowKit.Hid (w1.ownsRow w.heap.size 2 1 u9 q ((tabF q F).map (Value.int .i64))) := own_grown HA2.out hgrow (fun g hg c => own_ne_own HA2.out HA1.out (by decide) g hg c.symm); clear hown hgrow; have hsz1 := HB1.out.size; have HC1 := Lib.hid (World.ownsRow.alloc HO1.out (.cells #[.int .i64 x] 2)); have HC2 := Lib.hid (World.ownsRow.alloc HV2.out (.cells #[.int .i64 x] 2)); have HCB := Lib.hid (HB1.out.alloc hsz1 (.cells #[.int .i64 x] 2)); have hsrc2 := Lib.hid (lit_ints w1 2 .i64 [x] #[.int .i64 x] (0, 0) rfl (by simp))))
          go_roundw
          case rel => exact ⟨q + 1, by omega, by go_num, tailOK.out 0 _ _ _ HV1.out HO2.out HB2.out⟩
          case measure => simp [intOf] <;> omega
      · obtain rfl : q = n := by omega
        have Z := Lib.hid H.out
        clear H
        go_wp2
        go_ret2
        exact ⟨u8, u9, rfl, Z.out.1, Z.out.2.1, Z.out.2.2⟩

/-- What fill gives, as the walks want it. -/
theorem fill_fn {w : World} {base e n : Nat} {v : Value} {k : IntKind} {F : Nat → Int} (h : w.ownsRow base e 1 v n ((tabF n F).map (Value.int k))) (hn : 0 < n) : ∃ a c, v = .slice a n c ∧ FnAt w w.heap.size k a n F ∧ (a = none → c = 0) := by
  obtain ⟨a, c, rfl, hi⟩ := own_ints h
  refine ⟨a, c, rfl, (FnAt.of_ints hi hn).ext fun j hj => tabF_getD F hj, ?_⟩
  rintro rfl
  obtain ⟨b, off, e1, _⟩ := hi.at_ hn
  cases e1

/-! ### Whether two are the same -/
set_option maxRecDepth 100000 in
theorem same08_any (a a' : Option Addr) (n cap cap' : Nat) (f f' : Nat → Int) (w : World) (h : FnAt w w.heap.size .i32 a n f) (h' : FnAt w w.heap.size .i64 a' n f') (hf : ∀ j, j < n → f j = f' j) (hb : ∀ j, j < n → -2147483648 ≤ f j ∧ f j ≤ 2147483647) (hn : n ≤ 1000000) :
    Calls Try.prog 13 #[.slice a n cap, .slice a' n cap'] w fun e w' => e = .returned (.bool true) ∧ ∃ i, w' = w.drewN i := by
  obtain ⟨b, off, rfl, hbl, hc⟩ := h
  obtain ⟨b', off', rfl, hbl', hc'⟩ := h'
  have HC := Lib.hid hc
  have HC' := Lib.hid hc'
  have HF := Lib.hid hf
  have HB := Lib.hid hb
  clear hc hc' hf hb
  go_enter Try.func13, Try.ntmps13
  go_wp2
  go_loopw [13] (fun i wr => ∃ q : Nat, q ≤ n ∧ i = .int .i64 (q : Int) ∧ RowKit.Hid (∃ m, wr = w.drewN m)) (fun i _ => n - (intOf i).toNat)
  case atStart => exact ⟨0, by omega, rfl, 0, rfl⟩
  case round =>
    obtain ⟨q, hq, rfl, H⟩ := hrel
    obtain ⟨m, rfl⟩ := H.out
    clear H
    by_cases hlt : q < n
    · have k1 : (w.drewN m).cell? ⟨b, off + q, none⟩ = some (.int .i32 (f q)) := HC.out q hlt
      have k2 : (w.drewN m).cell? ⟨b', off' + q, none⟩ = some (.int .i64 (f q)) := by rw [HF.out q hlt]; exact HC'.out q hlt
      obtain ⟨x0, x1⟩ := HB.out q hlt
      have HD : RowKit.Hid (∀ i, (w.drewN m).drewN i = w.drewN (m + i)) := fun i => World.drewN_drewN _ _ _
      generalize f q = x at k1 k2 x0 x1
      generalize w.drewN m = wq at k1 k2 HD ⊢
      have l1 : (q : Int) < (n : Int) := by omega
      go_wp2
      have g1 : IntKind.i64.wrap x = x := IntWalk.i64_in _ (by omega)
      go_quiet (fail)
      go_wp2
      go_roundw
      case rel => exact ⟨q + 1, by omega, by go_num, _, HD.out _⟩
      case measure => simp [intOf] <;> omega
    · go_wp2
      go_ret
      exact ⟨rfl, _, rfl⟩
theorem size08_long (w : World) : Calls Try.prog 8 #[.bool true] w fun e w' => e = .returned (.int .i64 512) ∧ w = w' := by
  go_enter Try.func8, Try.ntmps8
  go_wp2
  go_ret
  exact ⟨rfl, rfl⟩
theorem size08_brief (w : World) : Calls Try.prog 8 #[.bool false] w fun e w' => e = .returned (.int .i64 128) ∧ w = w' := by
  go_enter Try.func8, Try.ntmps8
  go_wp2
  go_ret
  exact ⟨rfl, rfl⟩
theorem size08_any (b : Bool) (n : Nat) (w : World) (h : n = if b then 512 else 128) : Calls Try.prog 8 #[.bool b] w fun e w' => e = .returned (.int .i64 n) ∧ w = w' := by
  cases b with
  | true => subst h; exact size08_long w
  | false => subst h; exact size08_brief w
end Go.Proofs.Ytemmcahglkpmmaa
