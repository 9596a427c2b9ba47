/- Numbers, and rules, of texts. -/
import Derived.Test.YtodpnjdofeonjaaDoorWrdY
import Derived.Test.YtodpnjdofeonjaaDoorWrdJ
namespace Go.Proofs.YtodpnjdofeonjaaDoor
open Go.RowKit Go.PlainAid
set_option linter.unusedVariables false

set_option maxHeartbeats 4000000 in
set_option maxRecDepth 1000000 in
theorem wordNumbers_law (s : ByteArray) (most : Int) (w : World) (hm0 : -9223372036854775808 ≤ most) (hm1 : most ≤ 9223372036854775807) (hT : NumTabs w) :
    Calls Tryd.prog 4 #[.string s, .int .i64 most] w fun e w' => e = .returned (.bool true) ∧ Below w.heap.size w w' := by
  by_cases h100 : 100 < s.size
  · go_enter Tryd.func4, Tryd.ntmps4
    go_wp2_with (first | (go_at_call 7; ((with_reducible refine (lives16 w).mono ?_)); rintro e w1 ⟨rfl, b1⟩) | (go_at_call 7; refine (lives16 w1).mono ?_; rintro e w2 ⟨rfl, b2⟩))
    go_ret
    exact ⟨rfl, chain b1 b2⟩
  · have hs : s.size ≤ 1000 := by omega
    have C0 := lives16 w
    obtain ⟨A, hA⟩ : ∃ x, numF s.data.toList most = x := ⟨_, rfl⟩
    obtain ⟨B, hB⟩ : ∃ x, numF s.data.toList 4611686018427387904 = x := ⟨_, rfl⟩
    have D1 : ∀ W, Below w.heap.size w W → Calls Tryd.prog 16 #[.string s, .int .i64 most] W fun e w' => e = .returned (.int .i64 A) ∧ Below W.heap.size W w' := by
      intro W h; rw [← hA, ← numP_eq _ _ hm1]; exact number_any s most W hs (hT.below h)
    have E1 : ∀ W, Calls Tryd.prog 17 #[.string s, .int .i64 most] W fun e w' => e = .returned (.int .i64 A) ∧ W = w' := by
      intro W; rw [← hA]; exact refNumber_any s most W hs hm0 hm1
    have D2 : ∀ W, Below w.heap.size w W → Calls Tryd.prog 16 #[.string s, .int .i64 4611686018427387904] W fun e w' => e = .returned (.int .i64 B) ∧ Below W.heap.size W w' := by
      intro W h; rw [← hB, ← numP_eq _ _ (by decide)]; exact number_any s _ W hs (hT.below h)
    have E2 : ∀ W, Calls Tryd.prog 17 #[.string s, .int .i64 4611686018427387904] W fun e w' => e = .returned (.int .i64 B) ∧ W = w' := by
      intro W; rw [← hB]; exact refNumber_any s _ W hs (by decide) (by decide)
    clear hA hB
    by_cases hmm : most = 4611686018427387904
    · subst hmm
      go_enter Tryd.func4, Tryd.ntmps4
      go_wp2_with (first
        | (go_at_call 7; refine C0.mono ?_; rintro e w1 ⟨rfl, b1⟩)
        | (go_at_call 16; ((with_reducible refine (D1 w1 b1).mono ?_)); rintro e w2 ⟨rfl, b2⟩)
        | (go_at_call 16; ((with_reducible refine (D2 w2 (chain b1 b2)).mono ?_)); rintro e w3 ⟨rfl, b3⟩)
        | (go_at_call 17; ((with_reducible refine (E1 w2).mono ?_)); rintro e w' ⟨rfl, rfl⟩)
        | (go_at_call 17; ((with_reducible refine (E2 w3).mono ?_)); rintro e w' ⟨rfl, rfl⟩))
      go_ret
      exact ⟨ret_boolE (by first | rfl | simp), chain (chain b1 b2) b3⟩
    · go_enter Tryd.func4, Tryd.ntmps4
      go_wp2_with (first
        | (go_at_call 7; refine C0.mono ?_; rintro e w1 ⟨rfl, b1⟩)
        | (go_at_call 16; ((with_reducible refine (D1 w1 b1).mono ?_)); rintro e w2 ⟨rfl, b2⟩)
        | (go_at_call 16; ((with_reducible refine (D2 w2 (chain b1 b2)).mono ?_)); rintro e w3 ⟨rfl, b3⟩)
        | (go_at_call 17; ((with_reducible refine (E1 w2).mono ?_)); rintro e w' ⟨rfl, rfl⟩)
        | (go_at_call 17; ((with_reducible refine (E2 w3).mono ?_)); rintro e w' ⟨rfl, rfl⟩))
      go_ret
      exact ⟨ret_boolE (by first | rfl | simp), chain (chain b1 b2) b3⟩

set_option maxHeartbeats 4000000 in
set_option maxRecDepth 1000000 in
theorem wordRules_law (s : ByteArray) (w : World) (hT : Lib.Utf8Tabs 0 1 w) :
    Calls Tryd.prog 6 #[.string s] w fun e w' => e = .returned (.bool true) ∧ Below w.heap.size w w' := by
  by_cases h400 : 400 < s.size
  · go_enter Tryd.func6, Tryd.ntmps6
    go_wp2_with (first | (go_at_call 7; ((with_reducible refine (lives16 w).mono ?_)); rintro e w1 ⟨rfl, b1⟩) | (go_at_call 7; refine (lives16 w1).mono ?_; rintro e w2 ⟨rfl, b2⟩))
    go_ret
    exact ⟨rfl, chain b1 b2⟩
  · have hs : s.size ≤ 1000 := by omega
    have C0 := lives16 w
    obtain ⟨T, hT2⟩ : ∃ F, ba (titleF s.data.toList) = F := ⟨_, rfl⟩
    obtain ⟨F, hF⟩ : ∃ F, ba (foldF s.data.toList) = F := ⟨_, rfl⟩
    have hTl : T.size ≤ 60 := by rw [← hT2, ba_size]; exact titleF_len _
    have hFl : F.size ≤ 1000 := by
      rw [← hF, ba_size, foldF_valid, List.length_map]
      have := validF_len s.data.toList
      rw [len_list] at this
      omega
    have D1 : ∀ W, Calls Tryd.prog 14 #[.string s] W fun e w' => e = .returned (.string T) ∧ Below W.heap.size W w' := by intro W; rw [← hT2]; exact title_any s W hs
    have D2 : ∀ W, Below w.heap.size w W → Calls Tryd.prog 8 #[.string s] W fun e w' => e = .returned (.string F) ∧ Below W.heap.size W w' := by
      intro W h; rw [← hF]; exact fold_any s W hs (tabs_below hT h)
    have D3 : ∀ W, Calls Tryd.prog 14 #[.string T] W fun e w' => e = .returned (.string T) ∧ Below W.heap.size W w' := by
      intro W
      have := title_any T W (by omega)
      rw [show T.data.toList = titleF s.data.toList by rw [← hT2]; rfl, titleF_again, hT2] at this
      exact this
    have D4 : ∀ W, Below w.heap.size w W → Calls Tryd.prog 8 #[.string F] W fun e w' => e = .returned (.string F) ∧ Below W.heap.size W w' := by
      intro W h
      have := fold_any F W hFl (tabs_below hT h)
      rw [show F.data.toList = foldF s.data.toList by rw [← hF]; rfl, foldF_again, hF] at this
      exact this
    have HRS : RowKit.Hid (T.data.toList = enc (titleR s.data.toList) ∧ ∀ r ∈ titleR s.data.toList, okR r ∧ ¬ (r = 39 ∨ r = 59 ∨ r < 32)) := by
      refine ⟨by rw [← hT2]; rfl, fun r hr => ?_⟩
      have := titleR_ok s.data.toList r hr
      exact ⟨this.1, this.2.2⟩
    clear hT2 hF
    go_enter Tryd.func6, Tryd.ntmps6
    go_wp2_with (first
      | (go_at_call 7; refine C0.mono ?_; rintro e w1 ⟨rfl, b1⟩)
      | (go_at_call 14; refine (D1 w1).mono ?_; rintro e w2 ⟨rfl, b2⟩)
      | (go_at_call 8; refine (D2 w2 (chain b1 b2)).mono ?_; rintro e w3 ⟨rfl, b3⟩))
    have hb3 : Below w.heap.size w w3 := chain (chain b1 b2) b3
    have hsz3 := hb3.size
    go_loopw [] (fun wr => ∃ (pos : Nat) (rest : List Nat), wr.heap[w3.heap.size]? = some (.stringIter T pos) ∧ Below w.heap.size w wr ∧ RowKit.Hid (T.data.toList.drop pos = enc rest ∧ ∀ r ∈ rest, okR r ∧ ¬ (r = 39 ∨ r = 59 ∨ r < 32))) (fun wr => T.size - wr.iterPos w3.heap.size)
    case atStart =>
      refine ⟨0, titleR s.data.toList, ?_, hb3.alloc hsz3 _, HRS.out⟩
      have := World.iter_heap w3 T 0
      simpa using this
    case round =>
      obtain ⟨pos, rest, hit, hbw, HQ⟩ := hrel
      have hsz : w3.heap.size < wr.heap.size := (Array.getElem?_eq_some_iff.1 hit).1
      by_cases hp : pos < T.size
      · obtain ⟨r, rest', hre⟩ : ∃ r rest', rest = r :: rest' := by
          cases rest with
          | nil =>
            have := congrArg List.length HQ.out.1
            rw [List.length_drop, len_list, enc_nil] at this
            simp at this
            omega
          | cons r t => exact ⟨r, t, rfl⟩
        subst hre
        have hr := HQ.out.2 r (by simp)
        have hd : Lib.decodeL (T.data.toList.drop pos) = (r, (Lib.encodeRune (r : Int)).length) := by rw [HQ.out.1, enc_cons]; exact dec_enc r hr.1 _
        obtain ⟨n, hn⟩ : ∃ n, (Lib.encodeRune (r : Int)).length = n := ⟨_, rfl⟩
        have hn1 : 1 ≤ n := by rw [← hn]; exact (enc_len _).1
        have HN : RowKit.Hid (T.data.toList.drop (pos + n) = enc rest' ∧ ∀ r ∈ rest', okR r ∧ ¬ (r = 39 ∨ r = 59 ∨ r < 32)) := by
          refine ⟨?_, fun x hx => HQ.out.2 x (by simp [hx])⟩
          rw [← List.drop_drop, HQ.out.1, enc_cons, ← hn, List.drop_left]
        rw [hn, Lib.decodeL_drop] at hd
        have hnx : ∀ ty, (Instr.next (.pointer (some ⟨w3.heap.size, 0, none⟩)) true ty).run Tryd.prog wr = .ok (.tuple #[.bool true, .int .i64 pos, .int .i32 r]) (wr.iterAt w3.heap.size T (pos + n)) := by
          intro ty
          rw [Lib.run_next_any_at wr w3.heap.size T pos ty hit hp, hd]
        have hit2 := Lib.iterAt_heap wr w3.heap.size T pos (pos + n) hit
        have hbw2 := Lib.below_iterAt hbw (k := w3.heap.size) hsz3 T (pos + n)
        have HW2 : RowKit.Hid (wr.iterPos w3.heap.size = pos) := by show _ = _; simp only [World.iterPos, hit]
        obtain ⟨ri, hri⟩ : ∃ ri : Int, (r : Int) = ri := ⟨_, rfl⟩
        have c1 : (ri == 39) = false := by have : ¬ ri = 39 := by omega
                                           simpa using this
        have c2 : (ri == 59) = false := by have : ¬ ri = 59 := by omega
                                           simpa using this
        have c3 : ¬ ri < 32 := by omega
        rw [hri] at hnx
        clear hd hn hr HQ hri
        generalize hW2 : wr.iterAt w3.heap.size T (pos + n) = W2 at *
        clear hit hbw hW2
        go_wp2
        go_roundw
        case rel => exact ⟨pos + n, rest', hit2, hbw2, HN⟩
        case measure => rw [HW2.out]; simp only [World.iterPos, hit2]; omega
      · have hnx : ∀ ty, (Instr.next (.pointer (some ⟨w3.heap.size, 0, none⟩)) true ty).run Tryd.prog wr = _ := fun ty => Lib.run_next_end_at wr w3.heap.size T pos ty hit hp
        go_wp2_with (first
          | (go_at_call 14; refine (D3 wr).mono ?_; rintro e w4 ⟨rfl, b4⟩)
          | (go_at_call 8; refine (D4 w4 (hbw.trans (b4.mono hbw.size))).mono ?_; rintro e w5 ⟨rfl, b5⟩))
        go_ret
        exact ⟨ret_boolE (by first | rfl | simp), (hbw.trans (b4.mono hbw.size)).trans (b5.mono (hbw.trans (b4.mono hbw.size)).size)⟩
end Go.Proofs.YtodpnjdofeonjaaDoor
