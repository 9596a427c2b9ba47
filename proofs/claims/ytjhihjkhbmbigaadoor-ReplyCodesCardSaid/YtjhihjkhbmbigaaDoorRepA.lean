/- What the functions of package reply give: codes, whether a reply may be. -/
import Derived.Test.YtjhihjkhbmbigaaDoorRepS
import Derived.Deep.RegionHeld3
import Derived.Deep.CutBlock
import Derived.Deep.DeepCutAuto
import Derived.Lib.QuietBelow
namespace Go.Proofs.YtjhihjkhbmbigaaDoor
open Go.RowKit Go.PlainAid
set_option linter.unusedVariables false

/-- The code of an error. -/
def codeF (e : Int) : Int := if e = 0 then 200 else if e = 9 then 401 else if e = 8 then 403 else if e = 6 then 404 else if e = 2 then 408 else if e = 5 then 413 else if e = 7 then 503 else 400
set_option maxHeartbeats 2000000 in
theorem code_any (e : Int) (w : World) : Calls Tryd.prog 13 #[.int .i64 e] w fun e' w' => e' = .returned (.int .i64 (codeF e)) ∧ w = w' := by
  obtain ⟨X, hX⟩ : ∃ X, codeF e = X := ⟨_, rfl⟩
  have HX := Lib.hid hX
  rw [hX]
  clear hX
  go_enter Tryd.func13, Tryd.ntmps13
  go_wp2
  all_goals
    go_ret
    refine ⟨ret_i64E ?_, rfl⟩
    rw [← HX.out]
    unfold codeF
    simp_all

/-- A reply as a value. -/
def repV (c : Int) (s : ByteArray) (ev : Int) : Value := .agg #[.int .i64 c, .string s, .int .i64 ev]
set_option maxHeartbeats 4000000 in
set_option maxRecDepth 100000 in
theorem right_any (c ev : Int) (s : ByteArray) (w : World) (hs : s.size ≤ 1000) (hc0 : -9223372036854775808 ≤ c) (hc1 : c ≤ 9223372036854775807) (he0 : -9223372036854775808 ≤ ev) (he1 : ev ≤ 9223372036854775807) :
    Calls Tryd.prog 8 #[.agg #[.int .i64 c, .string s, .int .i64 ev]] w fun e w' => e = .returned (.bool (rightF ⟨c, s.data.toList, ev⟩)) ∧ Below w.heap.size w w' := by
  obtain ⟨X, hX⟩ : ∃ X, rightF ⟨c, s.data.toList, ev⟩ = X := ⟨_, rfl⟩
  have HX := Lib.hid hX
  rw [hX]
  clear hX
  have CM : ∀ W : World, Below w.heap.size w W → Calls Tryd.prog 16 #[] W fun e w' => ∃ M : Nat, e = .returned (.map (some M)) ∧ (Instr.lookup 45 (.map (some M)) (.int .i64 c) true).run Tryd.prog w' = .ok (.tuple #[.agg #[.string (ba (wordsF c))], .bool (decide (wordsF c ≠ []))]) w' ∧ (Instr.lookup 45 (.map (some M)) (.int .i64 c) true).run Tryd.prog (w'.alloc (.cells #[.string ⟨#[]⟩] 43)) = .ok (.tuple #[.agg #[.string (ba (wordsF c))], .bool (decide (wordsF c ≠ []))]) (w'.alloc (.cells #[.string ⟨#[]⟩] 43)) ∧ Below w.heap.size w w' ∧ Below W.heap.size W w' := by
    intro W hb
    refine (meanings_any W).mono ?_
    rintro e w' ⟨he, h1, h2⟩
    exact ⟨_, he, h1.lookOk c hc0 hc1, (h1.below (Below.alloc_new w' _)).lookOk c hc0 hc1, hb.trans (h2.mono hb.size), h2⟩
  have CT : ∀ W : World, Below w.heap.size w W → Calls Tryd.prog 17 #[.string s] W fun e w' => e = .returned (.string (ba (titleF s.data.toList))) ∧ Below W.heap.size W w' := fun W _ => title_any s W hs
  obtain ⟨g, hg⟩ : ∃ g, w.heap.size = g := ⟨_, rfl⟩
  obtain ⟨wb, hwb⟩ : ∃ wb, w.alloc (.cells #[.int .i64 c, .string s, .int .i64 ev] 23) = wb := ⟨_, rfl⟩
  have hcel : Cel wb g 23 #[.int .i64 c, .string s, .int .i64 ev] := by rw [← hwb, ← hg]; exact Cel.new w _ _
  have bb : Below w.heap.size w wb := by rw [← hwb]; exact Below.alloc_new _ _
  go_enter Tryd.func8, Tryd.ntmps8
  obtain ⟨Y, hY⟩ : ∃ Y, decide (wordsF c ≠ []) = Y := ⟨_, rfl⟩
  have HYc := Lib.hid hY
  rw [hY] at CM
  clear hY
  generalize ba (wordsF c) = wd at CM
  have HH : RowKit.Hid (Below w.heap.size w wb ∧ Cel wb g 23 #[.int .i64 c, .string s, .int .i64 ev]) := ⟨bb, hcel⟩
  go_upto_region 1 with (fail)
  go_cut [4] (fun v wx => v = .bool Y ∧ RowKit.Hid (Below w.heap.size w wx ∧ Cel wx g 23 #[.int .i64 c, .string s, .int .i64 ev]))
  case first =>
    have hc : wb.cell? ⟨g, 0, none⟩ = some (.int .i64 c) := hcel.cell 0
    have HC : RowKit.Hid (∀ W W' : World, Below w.heap.size w W → W.cell? ⟨g, 0, none⟩ = some (.int .i64 c) → Below W.heap.size W W' → W'.cell? ⟨g, 0, none⟩ = some (.int .i64 c)) := fun W W' _ h k => (k.cell (p := ⟨g, 0, none⟩) (cell_block h)).trans h
    have HN : RowKit.Hid (∀ W' : World, Below wb.heap.size wb W' → ¬ W'.heap.size = g ∧ ¬ g = W'.heap.size) := fun W' h => by
      have h1 := hcel.lt
      have h2 := h.size
      exact ⟨by omega, by omega⟩
    have HQ : RowKit.Hid (∀ W W' : World, Below (W.alloc (.cells #[.string ⟨#[]⟩] 43)).heap.size (W.alloc (.cells #[.string ⟨#[]⟩] 43)) W' → W'.cell? ⟨W.heap.size, 0, none⟩ = some (.string ⟨#[]⟩) ∧ W'.frozen? ⟨W.heap.size, 0, none⟩ = false) := fun W W' h => by
      have k := (Cel.new W 43 #[.string ⟨#[]⟩]).below h
      exact ⟨k.cell 0, k.frozen 0⟩
    obtain ⟨n1, n2⟩ := HN.out wb (Below.refl _ _)
    go_region_held3 (fun w' => w'.cell? ⟨g, 0, none⟩ = some (.int .i64 c)) (go_keep) (first
      | (go_at_call 16; refine (CM _ (Below.drewN' bb 1)).mono ?_; rintro e w3 ⟨M, rfl, hlk, hlk2, b3, b4⟩; have b5 := chain (Below.drewN' (Below.refl _ _) 1) b4; have m0 : w3.cell? ⟨g, 0, none⟩ = some (.int .i64 c) := HC.out wb w3 bb hc b5; obtain ⟨n3, n4⟩ := HN.out w3 b5)
      | (go_at_call 16; refine (CM _ ((Below.drewN' bb 1).alloc (by have := bb.size; simpa using this) _)).mono ?_; rintro e w3 ⟨M, rfl, hlk, hlk2, b3, b4⟩; have q0 : w3.cell? ⟨wb.heap.size, 0, none⟩ = some (.string ⟨#[]⟩) := (HQ.out _ _ b4).1; have q1 : w3.frozen? ⟨wb.heap.size, 0, none⟩ = false := (HQ.out _ _ b4).2; have b5 := chain (chain (Below.drewN' (Below.refl _ _) 1) (Below.alloc_new _ _)) b4; have m0 : w3.cell? ⟨g, 0, none⟩ = some (.int .i64 c) := HC.out wb w3 bb hc b5; obtain ⟨n3, n4⟩ := HN.out w3 b5))
    all_goals
      go_wp2
      go_meet
      refine ⟨rfl, ?_⟩
    · exact ⟨b3.alloc (by have := b3.size; exact this) _, (hcel.below b5).alloc _⟩
    · exact ⟨b3.alloc (by have := b3.size; exact this) _, (hcel.below b5).alloc _⟩
    · have := bb.size
      exact ⟨b3.setCell this _, (hcel.below b5).far n2 _⟩
  case rest =>
    obtain ⟨rfl, H⟩ := hcut
    have x0 : wc.cell? ⟨g, 0, none⟩ = some (.int .i64 c) := H.out.2.cell 0
    have x1 : wc.cell? ⟨g, 1, none⟩ = some (.string s) := H.out.2.cell 1
    have x2 : wc.cell? ⟨g, 2, none⟩ = some (.int .i64 ev) := H.out.2.cell 2
    cases Y with
    | false =>
      have : ¬ rightF ⟨c, s.data.toList, ev⟩ = true := fun h => (of_decide_eq_false HYc.out) (right_iff.1 h).1
      obtain rfl : X = false := by rw [← HX.out]; exact Bool.eq_false_iff.2 this
      go_wp2
      go_ret
      exact ⟨rfl, H.out.1⟩
    | true =>
      by_cases hc2 : c = 200
      · subst hc2
        have HTX : RowKit.Hid (decide (titleF s.data.toList = s.data.toList ∧ 0 ≤ ev ∧ ev ≤ 65536) = X) := by
          show _ = _
          rw [← HX.out]
          unfold rightF
          rw [decide_eq_decide]
          exact ⟨fun ⟨a, b, c⟩ => ⟨by show wordsF 200 ≠ []; decide, b, c, a, .inl rfl⟩, fun ⟨_, b, c, a, _⟩ => ⟨a, b, c⟩⟩
        obtain ⟨T, hT⟩ : ∃ T, ba (titleF s.data.toList) = T := ⟨_, rfl⟩
        have HT : RowKit.Hid (T.toList = s.toList ↔ titleF s.data.toList = s.data.toList) := by
          show _ ↔ _
          rw [← hT, Lib.toList_data, Lib.toList_data, list_ba]
        rw [hT] at CT
        clear hT
        go_upto_region 6 with (fail)
        have k1 := cell_regrown x1
        have k2 := cell_regrown x2
        have cT : ∀ d os, Calls Tryd.prog 17 #[.string s] (Go.Sort.grow (redrawn wc d) os) fun e w'' => e = .returned (.string T) ∧ ∃ p : Regrown, w'' = Go.Sort.grow (redrawn wc p.d) p.os := fun d os => Calls.regrown_of (CT _ (H.out.1.trans ((below_regrown wc d os).mono H.out.1.size)))
        refine wp_region_quiet_below (by assumption) (by kernel_rfl) ?_
        by_cases b1 : T.toList = s.toList
        · have b1' : (T.toList == s.toList) = true := by simpa using b1
          by_cases b2 : 0 ≤ ev
          · repeat (quiet_step (exact cT _ _))
            refine wpQuiet_nil ?_
            intro _ hw'
            obtain ⟨⟨dq, osq⟩, hw''⟩ := hw'
            subst hw''
            go_wp2
            go_ret
            refine ⟨ret_boolE ?_, by first | exact H.out.1.trans ((below_regrown wc dq osq).mono H.out.1.size) | (rw [← hg]; exact H.out.1.trans ((below_regrown wc dq osq).mono H.out.1.size))⟩
            rw [← HTX.out]
            simp [HT.out.1 b1, b2]
          · repeat (quiet_step (exact cT _ _))
            refine wpQuiet_nil ?_
            intro _ hw'
            obtain ⟨⟨dq, osq⟩, hw''⟩ := hw'
            subst hw''
            go_wp2
            go_ret
            refine ⟨ret_boolE ?_, by first | exact H.out.1.trans ((below_regrown wc dq osq).mono H.out.1.size) | (rw [← hg]; exact H.out.1.trans ((below_regrown wc dq osq).mono H.out.1.size))⟩
            rw [← HTX.out]
            exact (decide_eq_false fun h => by omega).symm
        · have b1' : (T.toList == s.toList) = false := by simpa using b1
          repeat (quiet_step (exact cT _ _))
          refine wpQuiet_nil ?_
          intro _ hw'
          obtain ⟨⟨dq, osq⟩, hw''⟩ := hw'
          subst hw''
          go_wp2
          go_ret
          refine ⟨ret_boolE ?_, by first | exact H.out.1.trans ((below_regrown wc dq osq).mono H.out.1.size) | (rw [← hg]; exact H.out.1.trans ((below_regrown wc dq osq).mono H.out.1.size))⟩
          rw [← HTX.out]
          exact (decide_eq_false fun h => b1 (HT.out.2 h.1)).symm
      · have HTX : RowKit.Hid (decide (s.toList = [] ∧ ev = 0) = X) := by
          show _ = _
          rw [← HX.out, Lib.toList_data]
          unfold rightF
          rw [decide_eq_decide]
          refine ⟨fun ⟨a, b⟩ => ⟨of_decide_eq_true HYc.out, by show 0 ≤ ev; omega, by show ev ≤ 65536; omega, by rw [a]; rfl, .inr ⟨b, a⟩⟩, fun ⟨_, _, _, _, h⟩ => ?_⟩
          · rcases h with h | h
            · exact absurd h hc2
            · exact ⟨h.2, h.1⟩
        go_wp2
        all_goals
          go_ret
          refine ⟨ret_boolE ?_, H.out.1⟩
          rw [← HTX.out]
        · by_cases e : ev = 0
          · rw [decide_eq_true (⟨by assumption, e⟩ : s.toList = [] ∧ ev = 0)]
            simpa using e
          · rw [decide_eq_false (fun h : s.toList = [] ∧ ev = 0 => e h.2)]
            simpa using e
        · exact (decide_eq_false fun h => absurd h.1 (by assumption)).symm
end Go.Proofs.YtjhihjkhbmbigaaDoor
