/- A text whose rows of stray bytes are each a ?, by the library's function as it stands in the program. -/
import Derived.Test.YtkledfalplekeaaDoorWrdL
import Derived.Shelf.Strings.MapAny
namespace Go.Proofs.YtkledfalplekeaaDoor
open Go.RowKit Go.PlainAid
set_option linter.unusedVariables false

theorem cap_slice {T e : TypeId} {B b : Nat} {p : Value} {bs : List Value} {w : World} {v : Value} (h : Lib.BuilderAtF T e B b p bs w) (hc : w.cell? ⟨b, 1, none⟩ = some v) (hp : 0 < v.capOf) : ∃ a n c, v = .slice a n c ∧ 0 < c := by
  cases v with
  | slice a n c => exact ⟨a, n, c, rfl, hp⟩
  | _ => exact absurd hp (by simp [Value.capOf])
theorem builder_below {T e : TypeId} {B b : Nat} {bs : List Value} {w w' : World} (h : Lib.IsBuilderF T e B b bs w) (hb : Below w.heap.size w w') : Lib.IsBuilderF T e B b bs w' := by
  have lt : ∀ {k : Nat} {o : Obj}, w.heap[k]? = some o → k < w.heap.size := fun {k o} hk => (Array.getElem?_eq_some_iff.1 hk).1
  have key : ∀ p, Lib.BuilderAtF T e B b p bs w → Lib.BuilderAtF T e B b p bs w' := by
    rintro p ⟨h1, v, h2, h3, h4⟩
    refine ⟨h1, v, (hb.block _ (lt h2)).trans h2, ⟨h3.1, ?_⟩, h4⟩
    rcases h3.2 with h0 | ⟨g, cap, cur, fz, e1, e2, e3, e4⟩
    · exact .inl h0
    · exact .inr ⟨g, cap, cur, fz, e1, e2, (hb.block _ (lt e3)).trans e3, e4⟩
  exact h.elim (fun x => .inl (key _ x)) (fun x => .inr (key _ x))
theorem str_cells (s : ByteArray) : Lib.strCells s = Lib.byteCells s.data.toList := rfl
theorem head_list (s : ByteArray) (i : Nat) : (s.extract 0 i).data.toList = s.data.toList.take i := by
  rw [Lib.extract_data]
  simp
/-- What is valid at the front stays. -/
theorem valid_step {l : List UInt8} {r : Nat} {t : List UInt8} (h : l ≠ []) (hh : headI l = some r) (st : Bool) : enc (validN st (items l)) = l.take (Lib.decodeL l).2 ++ enc (validN false (items (l.drop (Lib.decodeL l).2))) := by
  rw [items_step l h, hh]
  simp only [validN, enc_cons]
  rw [(headI_some h hh).2.2.1]
theorem valid_stray {l : List UInt8} (h : l ≠ []) (hh : headI l = none) (st : Bool) : enc (validN st (items l)) = (if st then [] else [63]) ++ enc (validN true (items (l.drop 1))) := by
  rw [items_step l h, hh, (headI_none hh).2]
  simp only [validN, enc_append]
  cases st <;> rfl

set_option maxHeartbeats 8000000 in
set_option maxRecDepth 1000000 in
theorem toValid_any (s : ByteArray) (w : World) (hs : s.size ≤ 1000) (hT : Lib.Utf8Tabs 1 2 w) :
    Calls Tryd.prog 47 #[.string s, .string ⟨#[63]⟩] w fun e w' => e = .returned (.string (ba (validF s.data.toList))) ∧ Below w.heap.size w w' := by
  obtain ⟨X, hX⟩ : ∃ X, validF s.data.toList = X := ⟨_, rfl⟩
  have HX := Lib.hid hX
  rw [hX]
  clear hX
  go_enter Tryd.func47, Tryd.ntmps47
  go_wp2
  go_loopw [0] (fun v0 wr => ∃ (pos : Nat), v0 = .string s ∧ wr.heap[w.heap.size]? = some (.cells #[.pointer none, .slice none 0 0] 90 (0, 0)) ∧ wr.heap[w.heap.size + 1]? = some (.stringIter s pos) ∧ Below w.heap.size w wr ∧ pos ≤ s.size ∧ RowKit.Hid (s.data.toList.take pos ++ enc (validN false (items (s.data.toList.drop pos))) = X)) (fun _ wr => s.size - wr.iterPos (w.heap.size + 1))
  case atStart =>
    refine ⟨0, rfl, ?_, ?_, ((Below.refl _ w).alloc (Nat.le_refl _) _).alloc (by simp) _, by omega, by rw [← HX.out]; rfl⟩
    · exact (Lib.alloc_old _ _ _ (by simp)).trans (heap_alloc_new w _)
    · have := World.iter_heap (w.alloc (.cells #[.pointer none, .slice none 0 0] 90)) s 0
      simpa using this
  case round =>
    obtain ⟨pos, rfl, hbk, hit, hbw, hpos, HQ⟩ := hrel
    have hsz : w.heap.size + 1 < wr.heap.size := (Array.getElem?_eq_some_iff.1 hit).1
    by_cases hp : pos < s.size
    · obtain ⟨⟨r, n⟩, hd⟩ : ∃ d, Utf8.decode s pos = d := ⟨_, rfl⟩
      have hdl : Lib.decodeL (s.data.toList.drop pos) = (r, n) := by rw [Lib.decodeL_drop, hd]
      have hnx : ∀ ty, (Instr.next (.pointer (some ⟨w.heap.size + 1, 0, none⟩)) true ty).run Tryd.prog wr = .ok (.tuple #[.bool true, .int .i64 pos, .int .i32 r]) (wr.iterAt (w.heap.size + 1) s (pos + n)) := by
        intro ty
        rw [Lib.run_next_any_at wr (w.heap.size + 1) s pos ty hit hp, hd]
      have hne : s.data.toList.drop pos ≠ [] := (rune_at s pos hp).1
      have hn1 : 1 ≤ n := by have := Lib.decodeL_width (s.data.toList.drop pos); rw [hdl] at this; exact this
      have hnl : pos + n ≤ s.size := by have := Lib.decodeL_le _ hne; rw [hdl, List.length_drop, len_list] at this; simp only at this; omega
      have hit2 := Lib.iterAt_heap wr (w.heap.size + 1) s pos (pos + n) hit
      have hbk2 : (wr.iterAt (w.heap.size + 1) s (pos + n)).heap[w.heap.size]? = some (.cells #[.pointer none, .slice none 0 0] 90 (0, 0)) := (Lib.iterAt_other wr (w.heap.size + 1) w.heap.size s (pos + n) (by omega)).trans hbk
      have hbw2 := Lib.below_iterAt hbw (k := w.heap.size + 1) (by omega) s (pos + n)
      have hsz2 : w.heap.size + 1 < (wr.iterAt (w.heap.size + 1) s (pos + n)).heap.size := by rw [Lib.iterAt_size]; omega
      have CD := Tryd.utf8_DecodeRuneInString (s.extract pos s.size) (wr.iterAt (w.heap.size + 1) s (pos + n)) (Utf8Tabs_below hT hbw2)
      rw [Lib.decodeGo_extract s pos hp, hd] at CD
      simp only at CD
      have HW2 : RowKit.Hid (wr.iterPos (w.heap.size + 1) = pos) := by show _ = _; simp only [World.iterPos, hit]
      have HS : RowKit.Hid (headI (s.data.toList.drop pos) = (if r = 65533 ∧ n = 1 then none else some r)) := by
        show _ = _
        unfold headI
        rw [hdl]
      have HY : RowKit.Hid (¬ (r = 65533 ∧ n = 1) → s.data.toList.take (pos + n) ++ enc (validN false (items (s.data.toList.drop (pos + n)))) = X) := by
        intro h
        have hh := HS.out
        rw [if_neg h] at hh
        have e := HQ.out
        rw [valid_step (t := []) hne hh, hdl, drop_step] at e
        simp only at e
        rw [← List.append_assoc, ← List.take_add] at e
        exact e
      have HNE := Lib.hid hne
      clear hd hdl hne
      generalize hW2 : wr.iterAt (w.heap.size + 1) s (pos + n) = W2 at *
      clear hit hbk hbw hW2
      by_cases h1 : r = 65533
      · subst h1
        by_cases h2 : n = 1
        · subst h2
          have hh := HS.out
          rw [if_pos ⟨rfl, rfl⟩] at hh
          have HQ2 := Lib.hid HQ.out
          clear HY HS
          obtain ⟨q, hq⟩ : ∃ q, s.extract pos s.size = q := ⟨_, rfl⟩
          have hql : q.data.toList = s.data.toList.drop pos := by rw [← hq, tail_list]
          have hqs : q.size = s.size - pos := by rw [← hq, tail_size s pos hpos]
          obtain ⟨f, hf⟩ : ∃ f, s.extract 0 pos = f := ⟨_, rfl⟩
          have hfl : f.data.toList = s.data.toList.take pos := by rw [← hf, head_list]
          have hfs : f.size = pos := by rw [← len_list, hfl, List.length_take, len_list]; omega
          have HQ3 : RowKit.Hid (f.data.toList ++ enc (validN false (items (q.data.toList.drop 0))) = X) := by show _ = _; rw [hfl, hql, List.drop_zero]; exact HQ2.out
          rw [hq] at CD
          have CG : ∀ W, W.heap[w.heap.size]? = some (.cells #[.pointer none, .slice none 0 0] 90 (0, 0)) → w.heap.size ≤ W.heap.size →
              Calls Tryd.prog 63 #[.pointer (some ⟨w.heap.size, 0, none⟩), .int .i64 ((s.size : Int) + 1)] W fun e w' => e = .returned (.tuple #[]) ∧ Lib.IsBuilderF 90 5 w.heap.size w.heap.size [] w' ∧ Below w.heap.size W w' ∧ ∃ v0, w'.cell? ⟨w.heap.size, 1, none⟩ = some v0 ∧ 0 < v0.capOf := by
            intro W hW hWs
            have C := Tryd.Builder_Grow_fresh_cap w.heap.size w.heap.size (s.size + 1) W (Nat.le_refl _) hW hWs (by omega)
            rw [show ((s.size + 1 : Nat) : Int) = (s.size : Int) + 1 by omega] at C
            refine C.mono ?_
            rintro e w' ⟨he, ⟨hA, hB⟩, p, cap, hc, hn⟩
            exact ⟨he, Lib.IsBuilderF.of (Or.inr hA), hB, _, hc, by show 0 < cap; omega⟩
          have CW : ∀ W, Lib.IsBuilderF 90 5 w.heap.size w.heap.size [] W → w.heap.size ≤ W.heap.size → (∃ v0, W.cell? ⟨w.heap.size, 1, none⟩ = some v0 ∧ 0 < v0.capOf) →
              Calls Tryd.prog 64 #[.pointer (some ⟨w.heap.size, 0, none⟩), .string f] W fun e w' => e = .returned (.tuple #[.int .i64 f.size, .nilIface]) ∧ Lib.IsBuilderF 90 5 w.heap.size w.heap.size (Lib.byteCells f.data.toList) w' ∧ Below w.heap.size W w' ∧ ∃ (a : Option Addr) (n c : Nat), w'.cell? ⟨w.heap.size, 1, none⟩ = some (.slice a n c) ∧ ((c : Int) == 0) = false := by
            intro W hW hWs hv
            refine (Tryd.Builder_WriteString_kc w.heap.size w.heap.size [] f W hW (by simp; omega) hWs).mono ?_
            rintro e w' ⟨he, ⟨hA, hB, _⟩, hcap⟩
            obtain ⟨v0, hv0, hp0⟩ := hv
            obtain ⟨v1, hv1, hle⟩ := hcap v0 hv0
            obtain ⟨a, n, c, rfl, hc⟩ := cap_slice hA hv1 (by omega)
            have hcn : ¬ (c : Int) = 0 := by omega
            have hcz : ((c : Int) == 0) = false := by simpa using hcn
            refine ⟨he, Or.inr ?_, hB, a, n, c, hv1, hcz⟩
            rw [← str_cells]
            simpa using hA
          clear HQ HQ2 hh HNE hit2
          go_wp2_with (first
            | (go_at_call 62; refine CD.mono ?_; rintro e w3 ⟨rfl, b1⟩)
            | (go_at_call 63; refine (CG _ ((b1.block _ (by omega)).trans hbk2) (Nat.le_trans (by omega) b1.size)).mono ?_; rintro e w4 ⟨rfl, g1, b2, v2⟩)
            | (go_at_call 64; refine (CW _ g1 (Nat.le_trans (Nat.le_trans (by omega) b1.size) b2.size) v2).mono ?_; rintro e w5 ⟨rfl, g2, b3, a3, n3, c3, hc3, hp3⟩)
            | (go_at_call 65; refine (Tryd.Builder_Cap_cell w.heap.size a3 n3 c3 _ hc3).mono ?_; rintro e w6 ⟨rfl, rfl⟩))
          have hb6 : Below w.heap.size w w6 := hbw2.trans ((b1.mono (by omega)).trans (b2.trans b3))
          have hbq := get_bt q
          have HBQ := Lib.hid (bt_list q)
          have HQL := Lib.hid (len_list q)
          have hq1000 : q.size + pos ≤ 1000 := by omega
          clear CD CG CW hbk2 hbw2 hsz2 b1 b2 b3 v2 g1 hc3 hp3 hnx HW2 hq hf hsz hn1 hnl hql hqs
          go_loopw [10, 11] (fun so sv wr => ∃ (i : Nat) (st : Bool) (acc : List UInt8), so = .bool st ∧ sv = .int .i64 i ∧ i ≤ q.size ∧ acc.length ≤ pos + i ∧ Lib.IsBuilderF 90 5 w.heap.size w.heap.size (Lib.byteCells acc) wr ∧ Below w.heap.size w wr ∧ RowKit.Hid (acc ++ enc (validN st (items (q.data.toList.drop i))) = X)) (fun _ sv _ => q.size - (intOf sv).toNat)
          case atStart => exact ⟨0, false, f.data.toList, rfl, rfl, by omega, by rw [len_list]; omega, g2, hb6, HQ3⟩
          case round =>
            clear hb6 g2 HQ3 hfl hfs
            obtain ⟨i, st, acc, rfl, rfl, hi, hac, hI, hbw, HR⟩ := hrel
            have hszw := hbw.size
            by_cases hlt : i < q.size
            · obtain ⟨b, hbi⟩ : ∃ b : Nat, bt q i = b := ⟨_, HBQ.out i⟩
              have hbn : (q.data.toList.getD i 0).toNat = b := by have := HBQ.out i; omega
              have hne : q.data.toList.drop i ≠ [] := (rune_at q i hlt).1
              have hg0 : (q.data.toList.drop i).getD 0 0 = q.data.toList.getD i 0 := by
                rw [List.getD_eq_getElem?_getD, List.getD_eq_getElem?_getD, List.getElem?_drop, Nat.add_zero]
              by_cases h128 : b < 128
              · obtain ⟨e1, e2⟩ := headI_ascii hne (by rw [hg0, hbn]; exact h128)
                have HY : RowKit.Hid ((acc ++ [q.data.toList.getD i 0]) ++ enc (validN false (items (q.data.toList.drop (i + 1)))) = X) := by
                  show _ = _
                  have e := HR.out
                  rw [valid_step (t := []) hne e1, e2, drop_step] at e
                  have t1 : (q.data.toList.drop i).take 1 = [q.data.toList.getD i 0] := by
                    rw [drop_cons _ i (by rw [len_list]; exact hlt)]
                    rfl
                  rw [t1] at e
                  rw [List.append_assoc]
                  exact e
                have CB := writeByte_any w.heap.size acc (q.data.toList.getD i 0) wr hI (by omega) hszw
                rw [hbn] at CB
                have hcl : (acc ++ [q.data.toList.getD i 0]).length = acc.length + 1 := by rw [List.length_append]; rfl
                clear e1 e2 hne hg0 hbn
                go_wp2_with (go_at_call 66; refine CB.mono ?_; rintro e w7 ⟨rfl, h1, b1, s1⟩)
                go_roundw
                case rel => exact ⟨i + 1, false, _, rfl, by go_num, by omega, by omega, h1, hbw.trans b1, HY⟩
                case measure => simp [intOf]; omega
              · have CD := Tryd.utf8_DecodeRuneInString (q.extract i q.size) wr (Utf8Tabs_below hT hbw)
                rw [Lib.decodeGo_extract q i hlt] at CD
                obtain ⟨⟨r, n⟩, hd⟩ : ∃ d, Utf8.decode q i = d := ⟨_, rfl⟩
                have hdl : Lib.decodeL (q.data.toList.drop i) = (r, n) := by rw [Lib.decodeL_drop, hd]
                rw [hd] at CD
                simp only at CD
                have hk := Lib.decodeL_N (q.data.toList.drop i)
                rw [hdl, hg0, hbn] at hk
                have hnl := Lib.decodeL_le _ hne
                rw [hdl, List.length_drop, len_list] at hnl
                simp only at hnl
                have hn4 : 1 ≤ n := by have := Lib.decodeL_width (q.data.toList.drop i); rw [hdl] at this; exact this
                by_cases hn : n = 1
                · subst hn
                  have hr : r = 65533 := by
                    rcases Lib.decodeN_shape (q.data.toList.drop i).length b ((q.data.toList.drop i).getD 1 0).toNat ((q.data.toList.drop i).getD 2 0).toNat ((q.data.toList.drop i).getD 3 0).toNat with ⟨c, e⟩ | ⟨_, _, _, _, e⟩ | ⟨_, _, _, _, _, _, e⟩ | ⟨_, _, _, _, _, _, _, e⟩ | e
                    · omega
                    all_goals (rw [e] at hk; obtain ⟨k1, k2⟩ := Prod.mk.inj hk; omega)
                  have hh : headI (q.data.toList.drop i) = none := by
                    unfold headI
                    rw [hdl, hr]
                    rfl
                  have HY : RowKit.Hid ((acc ++ (if st then [] else [63])) ++ enc (validN true (items (q.data.toList.drop (i + 1)))) = X) := by
                    show _ = _
                    have e := HR.out
                    rw [valid_stray hne hh, drop_step] at e
                    rw [List.append_assoc]
                    exact e
                  clear hk hd hdl hh hne hg0 hr hbn hnl hn4
                  cases st with
                  | true =>
                    have HZ : RowKit.Hid (acc ++ enc (validN true (items (q.data.toList.drop (i + 1)))) = X) := by show _ = _; have := HY.out; simpa using this
                    clear HY HR
                    go_wp2_with (go_at_call 62; refine CD.mono ?_; rintro e w7 ⟨rfl, b1⟩)
                    go_roundw
                    case rel => exact ⟨i + 1, true, acc, rfl, by go_num, by omega, by omega, builder_below hI b1, hbw.trans (b1.mono hszw), HZ⟩
                    case measure => simp [intOf]; omega
                  | false =>
                    have HZ : RowKit.Hid ((acc ++ [63]) ++ enc (validN true (items (q.data.toList.drop (i + 1)))) = X) := HY.out
                    have CW : ∀ W, Below wr.heap.size wr W → Calls Tryd.prog 64 #[.pointer (some ⟨w.heap.size, 0, none⟩), .string ⟨#[63]⟩] W fun e w' => e = .returned (.tuple #[.int .i64 1, .nilIface]) ∧ Lib.IsBuilderF 90 5 w.heap.size w.heap.size (Lib.byteCells (acc ++ [63])) w' ∧ Below w.heap.size W w' := by
                      intro W hW
                      refine (Tryd.Builder_WriteString_k w.heap.size w.heap.size (Lib.byteCells acc) ⟨#[63]⟩ W (builder_below hI hW) (by rw [Lib.byteCells_length]; show _ + 1 ≤ _; omega) (Nat.le_trans hszw hW.size)).mono ?_
                      rintro e w' ⟨he, hA, hB, _⟩
                      refine ⟨he, Or.inr ?_, hB⟩
                      rw [Lib.byteCells_append]
                      exact hA
                    have hcl : (acc ++ [63]).length = acc.length + 1 := by rw [List.length_append]; rfl
                    clear HY HR
                    go_wp2_with (first | (go_at_call 62; refine CD.mono ?_; rintro e w7 ⟨rfl, b1⟩) | (go_at_call 64; refine (CW _ b1).mono ?_; rintro e w8 ⟨rfl, h1, b2⟩))
                    go_roundw
                    case rel => exact ⟨i + 1, true, _, rfl, by go_num, by omega, by omega, h1, hbw.trans ((b1.mono hszw).trans b2), HZ⟩
                    case measure => simp [intOf]; omega
                · have hh : headI (q.data.toList.drop i) = some r := by
                    unfold headI
                    rw [hdl, if_neg (fun h => hn h.2)]
                  obtain ⟨P, hP⟩ : ∃ P, (q.data.toList.drop i).take n = P := ⟨_, rfl⟩
                  have HZ : RowKit.Hid ((acc ++ P) ++ enc (validN false (items (q.data.toList.drop (i + n)))) = X) := by
                    show _ = _
                    have e := HR.out
                    rw [valid_step (t := []) hne hh, hdl, drop_step] at e
                    simp only at e
                    rw [hP] at e
                    rw [List.append_assoc]
                    exact e
                  have eX : q.extract i (i + n) = ba P := by rw [ext_list, hP]
                  have lP : P.length = n := by rw [← hP, List.length_take, List.length_drop, len_list]; omega
                  obtain ⟨B, hB⟩ : ∃ B, ba P = B := ⟨_, rfl⟩
                  rw [hB] at eX
                  have hBs : B.size = n := by rw [← hB, ba_size, lP]
                  have CW : ∀ W, Below wr.heap.size wr W → Calls Tryd.prog 64 #[.pointer (some ⟨w.heap.size, 0, none⟩), .string B] W fun e w' => e = .returned (.tuple #[.int .i64 B.size, .nilIface]) ∧ Lib.IsBuilderF 90 5 w.heap.size w.heap.size (Lib.byteCells (acc ++ P)) w' ∧ Below w.heap.size W w' := by
                    intro W hW
                    refine (Tryd.Builder_WriteString_k w.heap.size w.heap.size (Lib.byteCells acc) B W (builder_below hI hW) (by rw [Lib.byteCells_length]; omega) (Nat.le_trans hszw hW.size)).mono ?_
                    rintro e w' ⟨he, hA, hBB, _⟩
                    refine ⟨he, Or.inr ?_, hBB⟩
                    rw [Lib.byteCells_append, ← list_ba P, hB, ← str_cells]
                    exact hA
                  have hn1 : ((n : Int) == 1) = false := by have : ¬ (n : Int) = 1 := by omega
                                                            simpa using this
                  have hcl : (acc ++ P).length = acc.length + n := by rw [List.length_append, lP]
                  have hin : i + n ≤ q.size := by omega
                  clear hk hd hdl hh hne hg0 hP hn HR hB lP hbn hnl
                  go_wp2_with (first | (go_at_call 62; refine CD.mono ?_; rintro e w7 ⟨rfl, b1⟩) | (go_at_call 64; refine (CW _ b1).mono ?_; rintro e w8 ⟨rfl, h1, b2⟩))
                  go_roundw
                  case rel => exact ⟨i + n, false, _, rfl, by go_num, by omega, by omega, h1, hbw.trans ((b1.mono hszw).trans b2), HZ⟩
                  case measure => simp [intOf]; omega
            · have HN : RowKit.Hid (X = acc) := by
                show _ = _
                have e := HR.out
                rw [List.drop_of_length_le (by rw [len_list]; omega)] at e
                rw [← e]
                simp [items_nil, validN, enc_nil]
              go_wp2_with (go_at_call 67; refine (Tryd.Builder_String_any_k w.heap.size w.heap.size acc _ hI hszw).mono ?_; rintro e W1 ⟨rfl, _, b1, _⟩)
              go_ret
              exact ⟨ret_strE (by rw [HN.out]; rfl), hbw.trans b1⟩
        · have HZ := Lib.hid (HY.out (fun h => h2 h.2))
          have h2' : ((n : Int) == 1) = false := by have : ¬ (n : Int) = 1 := by omega
                                                    simpa using this
          clear HY HS h2
          go_wp2_with (go_at_call 62; refine CD.mono ?_; rintro e w' ⟨rfl, b1⟩)
          go_roundw
          case rel => exact ⟨pos + n, rfl, (b1.block _ (by omega)).trans hbk2, (b1.block _ hsz2).trans hit2, hbw2.trans (b1.mono (by omega)), hnl, HZ⟩
          case measure => rw [HW2.out]; simp only [World.iterPos, (b1.block _ hsz2).trans hit2]; omega
      · have HZ := Lib.hid (HY.out (fun h => h1 h.1))
        have h1' : ((r : Int) != 65533) = true := by have : ¬ (r : Int) = 65533 := by omega
                                                     simpa using this
        clear HY HS h1
        go_wp2
        go_roundw
        case rel => exact ⟨pos + n, rfl, hbk2, hit2, hbw2, hnl, HZ⟩
        case measure => rw [HW2.out]; simp only [World.iterPos, hit2]; omega
    · have HN : RowKit.Hid (X = s.data.toList) := by
        show _ = _
        have e := HQ.out
        rw [List.drop_of_length_le (by rw [len_list]; omega), List.take_of_length_le (by rw [len_list]; omega)] at e
        rw [← e]
        simp [items_nil, validN, enc_nil]
      have hnx : ∀ ty, (Instr.next (.pointer (some ⟨w.heap.size + 1, 0, none⟩)) true ty).run Tryd.prog wr = _ := fun ty => Lib.run_next_end_at wr (w.heap.size + 1) s pos ty hit hp
      have hc1 : wr.cell? ⟨w.heap.size, 1, none⟩ = some (.slice none 0 0) := by rw [Lib.cell_of_heap hbk]; rfl
      have CC := Tryd.Builder_Cap_cell w.heap.size none 0 0 wr hc1
      go_wp2_with (go_at_call 65; refine CC.mono ?_; rintro e w' ⟨rfl, rfl⟩)
      go_ret
      exact ⟨ret_strE (by rw [HN.out, ba_list]), hbw⟩
end Go.Proofs.YtkledfalplekeaaDoor
