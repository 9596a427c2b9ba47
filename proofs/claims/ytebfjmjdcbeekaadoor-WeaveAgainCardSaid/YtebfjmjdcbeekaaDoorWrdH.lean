/- A text's title, by package word: what a range over the text's runes writes, up to sixty bytes. -/
import Derived.Test.YtebfjmjdcbeekaaDoorWrdG
namespace Go.Proofs.YtebfjmjdcbeekaaDoor
open Go.RowKit Go.PlainAid
set_option linter.unusedVariables false

set_option maxHeartbeats 4000000 in
set_option maxRecDepth 1000000 in
theorem title_any (s : ByteArray) (w : World) (hs : s.size ≤ 5000) :
    Calls Tryd.prog 26 #[.string s] w fun e w' => e = .returned (.string (ba (titleF s.data.toList))) ∧ Below w.heap.size w w' := by
  obtain ⟨X, hX⟩ : ∃ X, titleF s.data.toList = X := ⟨_, rfl⟩
  have HX := Lib.hid hX
  rw [hX]
  clear hX
  go_enter Tryd.func26, Tryd.ntmps26
  go_wp2
  go_loopw [] (fun wr => ∃ (pos : Nat) (acc : List UInt8), Lib.IsBuilderF 85 5 w.heap.size w.heap.size (Lib.byteCells acc) wr ∧ wr.heap[w.heap.size + 1]? = some (.stringIter s pos) ∧ Below w.heap.size w wr ∧ acc.length ≤ 60 ∧ RowKit.Hid (acc ++ enc (titleN acc.length (items (s.data.toList.drop pos))) = X)) (fun wr => s.size - wr.iterPos (w.heap.size + 1))
  case atStart =>
    refine ⟨0, [], (Lib.IsBuilderF.of (Lib.fresh_isBuilder 85 5 w)).alloc _, ?_, ((Below.refl _ w).alloc (Nat.le_refl _) _).alloc (by simp) _, by simp, by rw [← HX.out]; rfl⟩
    have := World.iter_heap (w.alloc (.cells #[.pointer none, .slice none 0 0] 85)) s 0
    simpa using this
  case round =>
    obtain ⟨pos, acc, hI, hit, hbw, hac, HQ⟩ := hrel
    have hsz : w.heap.size + 1 < wr.heap.size := (Array.getElem?_eq_some_iff.1 hit).1
    by_cases hp : pos < s.size
    · obtain ⟨⟨r, n⟩, hd⟩ : ∃ d, Utf8.decode s pos = d := ⟨_, rfl⟩
      have hdl : Lib.decodeL (s.data.toList.drop pos) = (r, n) := by rw [Lib.decodeL_drop, hd]
      have hnx : ∀ ty, (Instr.next (.pointer (some ⟨w.heap.size + 1, 0, none⟩)) true ty).run Tryd.prog wr = .ok (.tuple #[.bool true, .int .i64 pos, .int .i32 r]) (wr.iterAt (w.heap.size + 1) s (pos + n)) := by
        intro ty
        rw [Lib.run_next_any_at wr (w.heap.size + 1) s pos ty hit hp, hd]
      have hne : s.data.toList.drop pos ≠ [] := (rune_at s pos hp).1
      have hn1 : 1 ≤ n := by have := Lib.decodeL_width (s.data.toList.drop pos); rw [hdl] at this; exact this
      have hI2 := hI.iterAt hit (pos + n)
      have hit2 := Lib.iterAt_heap wr (w.heap.size + 1) s pos (pos + n) hit
      have hbw2 := Lib.below_iterAt hbw (k := w.heap.size + 1) (by omega) s (pos + n)
      have hsz2 : w.heap.size ≤ (wr.iterAt (w.heap.size + 1) s (pos + n)).heap.size := by rw [Lib.iterAt_size]; omega
      have hr31 : r ≤ 2147483647 := by have := decode_le s pos; rw [hd] at this; exact this
      have C1 : ∀ W, Calls Tryd.prog 34 #[.int .i32 (r : Int), .string (s.extract pos s.size)] W fun e w' => e = .returned (.bool (headI (s.data.toList.drop pos)).isNone) ∧ W = w' := by
        intro W
        have := isStray_any (r : Int) (s.extract pos s.size) W
        rw [tail_list] at this
        have e := strayB_of _ hne
        rw [hdl] at e
        rw [e] at this
        exact this
      have HST : RowKit.Hid (∀ (x : Option Nat) (p : List UInt8), headI (s.data.toList.drop pos) = x → Lib.encodeRune (shownR x : Int) = p →
          (¬ acc.length + p.length ≤ 60 → X = acc) ∧ (acc.length + p.length ≤ 60 → (acc ++ p) ++ enc (titleN (acc ++ p).length (items (s.data.toList.drop (pos + n)))) = X)) := by
        intro x p h1 h2
        have e := HQ.out
        rw [tail_items _ _ hne, h1, hdl] at e
        simp only at e
        constructor
        · intro h
          simp only [titleN, h2] at e
          rw [if_pos (by omega)] at e
          rw [← e]
          simp [enc_nil]
        · intro h
          simp only [titleN, h2] at e
          rw [if_neg (by omega), enc_cons, h2] at e
          rw [List.length_append, List.append_assoc]
          exact e
      have CL := Tryd.Builder_Len_f w.heap.size w.heap.size (Lib.byteCells acc) _ hI2
      rw [Lib.byteCells_length] at CL
      have hok : ∀ x, headI (s.data.toList.drop pos) = some x → okR x := fun x hx => (headI_some hne hx).1
      cases hh : headI (s.data.toList.drop pos) with
      | none =>
        rw [hh] at C1
        obtain ⟨q, hq⟩ : ∃ q, shownR none = q := ⟨_, rfl⟩
        have hqok : okR q := by rw [← hq]; exact shownR_ok (fun y hy => hok y (by rw [hh, hy]))
        have C2 : ∀ W, Calls Tryd.prog 35 #[.int .i32 ((32 : Nat) : Int)] W fun e w' => e = .returned (.int .i32 (q : Nat)) ∧ W = w' := by
          intro W
          have := shown_any 32 W
          rw [show shownR (some 32) = q by rw [← hq]; rfl] at this
          exact this
        obtain ⟨p, hpE⟩ : ∃ p, Lib.encodeRune (q : Int) = p := ⟨_, rfl⟩
        have HS := Lib.hid (HST.out none p hh (by rw [hq, hpE]))
        have C3 : ∀ W, Calls Tryd.prog 37 #[.int .i32 (q : Int)] W fun e w' => e = .returned (.int .i64 p.length) ∧ w' = W := by
          intro W
          have := Tryd.utf8_RuneLen (q : Int) W
          rw [runeLen_enc q hqok, hpE] at this
          exact this
        have CW := Tryd.Builder_WriteRune_k w.heap.size w.heap.size (Lib.byteCells acc) (q : Int) (by omega) (by unfold okR at hqok; omega) _ hI2 (by rw [Lib.byteCells_length]; omega) hsz2
        rw [← Lib.byteCells_encodeRune, hpE, ← Lib.byteCells_append] at CW
        have HI := Lib.hid hI2
        have hpl : p.length ≤ 4 := by have := enc_len (q : Int); rw [hpE] at this; exact this.2
        have HN : RowKit.Hid (¬ acc.length + p.length ≤ 60 → X = acc) := HS.out.1
        have HY : RowKit.Hid (acc.length + p.length ≤ 60 → (acc ++ p) ++ enc (titleN (acc ++ p).length (items (s.data.toList.drop (pos + n)))) = X) := HS.out.2
        clear hd hdl hne hok hh HST HS hq hqok hpE HQ
        generalize hW2 : wr.iterAt (w.heap.size + 1) s (pos + n) = W2 at *
        have HW2 : RowKit.Hid (wr.iterPos (w.heap.size + 1) = pos) := by show _ = _; simp only [World.iterPos, hit]
        clear hI hit hbw hW2
        by_cases h60 : acc.length + p.length ≤ 60
        · go_wp2_with (first | (go_at_call 34; refine (C1 _).mono ?_; rintro e w' ⟨rfl, rfl⟩) | (go_at_call 35; refine (C2 _).mono ?_; rintro e w' ⟨rfl, rfl⟩) | (go_at_call 36; refine CL.mono ?_; rintro e w' ⟨rfl, rfl⟩) | (go_at_call 37; refine (C3 _).mono ?_; rintro e w' ⟨rfl, rfl⟩) | (go_at_call 38; refine CW.mono ?_; rintro e w' ⟨rfl, h1, b1, k1⟩))
          go_roundw
          case rel => exact ⟨pos + n, acc ++ p, Or.inr h1, k1.iter hit2 (by omega), hbw2.trans b1, by rw [List.length_append]; omega, HY.out h60⟩
          case measure => rw [HW2.out]; simp only [World.iterPos, k1.iter hit2 (by omega)]; omega
        · go_wp2_with (first | (go_at_call 34; refine (C1 _).mono ?_; rintro e w' ⟨rfl, rfl⟩) | (go_at_call 35; refine (C2 _).mono ?_; rintro e w' ⟨rfl, rfl⟩) | (go_at_call 36; refine CL.mono ?_; rintro e w' ⟨rfl, rfl⟩) | (go_at_call 37; refine (C3 _).mono ?_; rintro e w' ⟨rfl, rfl⟩) | (go_at_call 39; refine (Tryd.Builder_String_any_k w.heap.size w.heap.size acc _ HI.out (by omega)).mono ?_; rintro e w' ⟨rfl, _, b1, _⟩))
          go_ret
          exact ⟨ret_strE (by rw [HN.out h60]; rfl), hbw2.trans b1⟩
      | some r' =>
        have er : r' = r := by have := (headI_some hne hh).2.1; rw [hdl] at this; exact this.symm
        subst er
        rw [hh] at C1
        obtain ⟨q, hq⟩ : ∃ q, shownR (some r') = q := ⟨_, rfl⟩
        have hqok : okR q := by rw [← hq]; exact shownR_ok (fun y hy => hok y (by rw [hh, hy]))
        have C2 : ∀ W, Calls Tryd.prog 35 #[.int .i32 ((r' : Nat) : Int)] W fun e w' => e = .returned (.int .i32 (q : Nat)) ∧ W = w' := by
          intro W
          have := shown_any r' W
          rw [show shownR (some r') = q by rw [← hq]] at this
          exact this
        obtain ⟨p, hpE⟩ : ∃ p, Lib.encodeRune (q : Int) = p := ⟨_, rfl⟩
        have HS := Lib.hid (HST.out (some r') p hh (by rw [hq, hpE]))
        have C3 : ∀ W, Calls Tryd.prog 37 #[.int .i32 (q : Int)] W fun e w' => e = .returned (.int .i64 p.length) ∧ w' = W := by
          intro W
          have := Tryd.utf8_RuneLen (q : Int) W
          rw [runeLen_enc q hqok, hpE] at this
          exact this
        have CW := Tryd.Builder_WriteRune_k w.heap.size w.heap.size (Lib.byteCells acc) (q : Int) (by omega) (by unfold okR at hqok; omega) _ hI2 (by rw [Lib.byteCells_length]; omega) hsz2
        rw [← Lib.byteCells_encodeRune, hpE, ← Lib.byteCells_append] at CW
        have HI := Lib.hid hI2
        have hpl : p.length ≤ 4 := by have := enc_len (q : Int); rw [hpE] at this; exact this.2
        have HN : RowKit.Hid (¬ acc.length + p.length ≤ 60 → X = acc) := HS.out.1
        have HY : RowKit.Hid (acc.length + p.length ≤ 60 → (acc ++ p) ++ enc (titleN (acc ++ p).length (items (s.data.toList.drop (pos + n)))) = X) := HS.out.2
        clear hd hdl hne hok hh HST HS hq hqok hpE HQ
        generalize hW2 : wr.iterAt (w.heap.size + 1) s (pos + n) = W2 at *
        have HW2 : RowKit.Hid (wr.iterPos (w.heap.size + 1) = pos) := by show _ = _; simp only [World.iterPos, hit]
        clear hI hit hbw hW2
        by_cases h60 : acc.length + p.length ≤ 60
        · go_wp2_with (first | (go_at_call 34; refine (C1 _).mono ?_; rintro e w' ⟨rfl, rfl⟩) | (go_at_call 35; refine (C2 _).mono ?_; rintro e w' ⟨rfl, rfl⟩) | (go_at_call 36; refine CL.mono ?_; rintro e w' ⟨rfl, rfl⟩) | (go_at_call 37; refine (C3 _).mono ?_; rintro e w' ⟨rfl, rfl⟩) | (go_at_call 38; refine CW.mono ?_; rintro e w' ⟨rfl, h1, b1, k1⟩))
          go_roundw
          case rel => exact ⟨pos + n, acc ++ p, Or.inr h1, k1.iter hit2 (by omega), hbw2.trans b1, by rw [List.length_append]; omega, HY.out h60⟩
          case measure => rw [HW2.out]; simp only [World.iterPos, k1.iter hit2 (by omega)]; omega
        · go_wp2_with (first | (go_at_call 34; refine (C1 _).mono ?_; rintro e w' ⟨rfl, rfl⟩) | (go_at_call 35; refine (C2 _).mono ?_; rintro e w' ⟨rfl, rfl⟩) | (go_at_call 36; refine CL.mono ?_; rintro e w' ⟨rfl, rfl⟩) | (go_at_call 37; refine (C3 _).mono ?_; rintro e w' ⟨rfl, rfl⟩) | (go_at_call 39; refine (Tryd.Builder_String_any_k w.heap.size w.heap.size acc _ HI.out (by omega)).mono ?_; rintro e w' ⟨rfl, _, b1, _⟩))
          go_ret
          exact ⟨ret_strE (by rw [HN.out h60]; rfl), hbw2.trans b1⟩
    · have HN : RowKit.Hid (X = acc) := by
        show _ = _
        have e := HQ.out
        rw [List.drop_of_length_le (by rw [len_list]; omega)] at e
        rw [← e]
        simp [items_nil, titleN, enc_nil]
      have hnx : ∀ ty, (Instr.next (.pointer (some ⟨w.heap.size + 1, 0, none⟩)) true ty).run Tryd.prog wr = _ := fun ty => Lib.run_next_end_at wr (w.heap.size + 1) s pos ty hit hp
      go_wp2_with (go_at_call 39; refine (Tryd.Builder_String_any_k w.heap.size w.heap.size acc _ hI (by omega)).mono ?_)
      rintro e W1 ⟨rfl, _, b1, _⟩
      go_wp2
      go_ret
      exact ⟨ret_strE (by rw [HN.out]; rfl), hbw.trans b1⟩
end Go.Proofs.YtebfjmjdcbeekaaDoor
