/- A text's number by package word. -/
import Derived.Test.YtjhihjkhbmbigaaDoorWrdI
namespace Go.Proofs.YtjhihjkhbmbigaaDoor
open Go.RowKit Go.PlainAid
set_option linter.unusedVariables false

/-- What the numbers of texts lean on: the library's two errors, and its table of the powers of ten. -/
structure NumTabs (w : World) : Prop where
  syn : ∃ tp p, w.var? Tryd.prog "strconv.ErrSyntax" = some #[.iface tp p]
  rng : ∃ tp p, w.var? Tryd.prog "strconv.ErrRange" = some #[.iface tp p]
  tab : Lib.TabIs Tryd.prog w "internal/strconv.uint64pow10" .u64 Lib.pow10Tab
theorem var_lt {P : Program} {W : World} {g : Nat} {n : String} {cs : Array Value} (hg : P.globalNamed n = some g) (hv : W.var? P n = some cs) : g < W.heap.size := by
  unfold World.var? at hv
  simp only [hg, Option.bind_some] at hv
  rcases Nat.lt_or_ge g W.heap.size with h' | h'
  · exact h'
  · rw [Array.getElem?_eq_none h'] at hv; cases hv
theorem var_on {P : Program} {W W' : World} {g : Nat} {n : String} {cs : Array Value} (hg : P.globalNamed n = some g) (hv : W.var? P n = some cs) (hb : Below W.heap.size W W') : W'.var? P n = some cs :=
  var?_below hb hg (var_lt hg hv) hv
theorem NumTabs.below {w w' : World} (h : NumTabs w) (hb : Below w.heap.size w w') : NumTabs w' := by
  obtain ⟨⟨t1, p1, h1⟩, ⟨t2, p2, h2⟩, h3⟩ := h
  exact ⟨⟨t1, p1, var_on (g := 2) (by kernel_rfl) h1 hb⟩, ⟨t2, p2, var_on (g := 3) (by kernel_rfl) h2 hb⟩, var_on (g := 1) (by kernel_rfl) h3 hb⟩
theorem atoi_ok_any (s : ByteArray) (v : Int) (w : World) (hs : s.size ≤ 1000) (h : Lib.atoiAll s.data.toList = .ok v) :
    Calls Tryd.prog 49 #[.string s] w fun e w' => e = .returned (.tuple #[.int .i64 v, .nilIface]) ∧ Below w.heap.size w w' := by
  refine (Tryd.strconv_Atoi_ok s (by omega) v h w).mono ?_
  rintro e w' ⟨he, hw⟩
  refine ⟨he, ?_⟩
  rcases hw with rfl | ⟨t, rfl⟩
  · exact Below.refl _ _
  · exact Lib.bytesWorld_below _ _ _
theorem atoi_bad_any (s : ByteArray) (w : World) (hs : s.size ≤ 1000) (hT : NumTabs w) (h : ∀ v, Lib.atoiAll s.data.toList ≠ .ok v) :
    Calls Tryd.prog 49 #[.string s] w fun e w' => ∃ (n : Int) (T : TypeId) (p : Value), e = .returned (.tuple #[.int .i64 n, .iface T p]) ∧ Below w.heap.size w w' := by
  cases hh : Lib.atoiAll s.data.toList with
  | ok v => exact absurd hh (h v)
  | range =>
    obtain ⟨t, p, hv⟩ := hT.rng
    refine (Tryd.strconv_Atoi_range_var s (by omega) hh t p w hv).mono ?_
    rintro e w' ⟨N, he, _, _, hb⟩
    exact ⟨_, _, _, he, hb⟩
  | _ =>
    obtain ⟨t, p, hv⟩ := hT.syn
    refine (Any.strconv_Atoi_syntax_var Tryd.laysC172 s (by omega) hh t p w hv).mono ?_
    rintro e w' ⟨N, he, _, _, hb⟩
    exact ⟨_, _, _, he, hb⟩

set_option maxHeartbeats 4000000 in
set_option maxRecDepth 1000000 in
theorem number_any (s : ByteArray) (most : Int) (w : World) (hs : s.size ≤ 1000) (hT : NumTabs w) :
    Calls Tryd.prog 38 #[.string s, .int .i64 most] w fun e w' => e = .returned (.int .i64 (numP s.data.toList most)) ∧ Below w.heap.size w w' := by
  by_cases h : ∃ v, Lib.atoiAll s.data.toList = .ok v
  · obtain ⟨v, hv⟩ := h
    have C := atoi_ok_any s v w hs hv
    obtain ⟨v0, v1⟩ := Lib.atoiAll_bounds hv
    have e : numP s.data.toList most = if v < 0 ∨ most < v ∨ Lib.itoa v ≠ s.data.toList then -1 else v := by unfold numP; rw [hv]
    rw [e]
    clear e hv
    by_cases c1 : v < 0
    · rw [if_pos (.inl c1)]
      go_enter Tryd.func38, Tryd.ntmps38
      go_wp2_with (go_at_call 49; refine C.mono ?_; rintro e w' ⟨rfl, hb⟩)
      go_ret
      exact ⟨rfl, hb⟩
    by_cases c2 : most < v
    · rw [if_pos (.inr (.inl c2))]
      go_enter Tryd.func38, Tryd.ntmps38
      go_wp2_with (go_at_call 49; refine C.mono ?_; rintro e w' ⟨rfl, hb⟩)
      go_ret
      exact ⟨rfl, hb⟩
    have CI : ∀ W, Below w.heap.size w W → Calls Tryd.prog 19 #[.int .i64 v] W fun e w' => e = .returned (.string (ba (Lib.itoa v))) ∧ Below w.heap.size w w' := by
      intro W hb
      refine (Tryd.strconv_Itoa v v0 v1 W (hT.below hb).tab).mono ?_
      rintro e w' ⟨he, k, os, rfl⟩
      exact ⟨he, hb.trans (Lib.below_grow _ _ hb.size _ _)⟩
    obtain ⟨R, hR⟩ : ∃ R, ba (Lib.itoa v) = R := ⟨_, rfl⟩
    rw [hR] at CI
    by_cases c3 : Lib.itoa v = s.data.toList
    · rw [if_neg (by intro h; rcases h with h | h | h; exact c1 h; exact c2 h; exact h c3)]
      have hRs : R = s := by rw [← hR, c3, ba_list]
      subst hRs
      clear hR c3
      go_enter Tryd.func38, Tryd.ntmps38
      go_wp2_with (first | (go_at_call 49; refine C.mono ?_; rintro e w' ⟨rfl, hb⟩) | (go_at_call 19; refine (CI _ hb).mono ?_; rintro e w' ⟨rfl, hb2⟩))
      go_ret
      exact ⟨rfl, hb2⟩
    · rw [if_pos (.inr (.inr c3))]
      have hne : ¬ R.toList = s.toList := by
        intro h
        rw [Lib.toList_data, Lib.toList_data, ← hR] at h
        exact c3 h
      have hne' : (R.toList == s.toList) = false := by simpa using hne
      clear hR c3
      go_enter Tryd.func38, Tryd.ntmps38
      go_wp2_with (first | (go_at_call 49; refine C.mono ?_; rintro e w' ⟨rfl, hb⟩) | (go_at_call 19; refine (CI _ hb).mono ?_; rintro e w' ⟨rfl, hb2⟩))
      go_ret
      exact ⟨rfl, hb2⟩
  · have C := atoi_bad_any s w hs hT (fun v hv => h ⟨v, hv⟩)
    have e : numP s.data.toList most = -1 := by
      unfold numP
      split
      · rename_i v hv
        exact absurd ⟨v, hv⟩ h
      · rfl
    rw [e]
    clear e h
    go_enter Tryd.func38, Tryd.ntmps38
    go_wp2_with (go_at_call 49; refine C.mono ?_; rintro e w' ⟨n, T, p, rfl, hb⟩)
    go_ret
    exact ⟨rfl, hb⟩
end Go.Proofs.YtjhihjkhbmbigaaDoor
