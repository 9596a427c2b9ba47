/- What the program's callees of the library give, for the statements of layer 18: texts cut, split; the map of the codes' words. -/
import Derived.Test.YtjhihjkhbmbigaaDoorRepQ
import Derived.Test.YtjhihjkhbmbigaaDoorShelf
import Derived.Test.YtjhihjkhbmbigaaDoorShelg
import Derived.Test.YtjhihjkhbmbigaaDoorReqA
import Derived.Test.YtjhihjkhbmbigaaDoorWrdJ
import Derived.Test.YtjhihjkhbmbigaaDoorWrdH
import Derived.Test.YtjhihjkhbmbigaaDoorMemA
import Derived.Maps.Own
import Derived.Maps.OwnSet
import Derived.Maps.Views
namespace Go.Proofs.YtjhihjkhbmbigaaDoor
open Go.RowKit Go.PlainAid
set_option linter.unusedVariables false

/-- What the library's search leans on: its one variable holds a number. -/
def MaxAt (w : World) : Prop := ∃ m, w.cell? ⟨0, 0, none⟩ = some (.int .i64 m)
theorem MaxAt.below {w w' : World} (h : MaxAt w) (hb : Below w.heap.size w w') : MaxAt w' := by
  obtain ⟨m, hm⟩ := h
  exact ⟨m, (hb.cell (p := ⟨0, 0, none⟩) (cell_block hm)).trans hm⟩

/-! ### Cut -/
set_option maxHeartbeats 2000000 in
set_option maxRecDepth 100000 in
theorem cut18_in (s : ByteArray) (c : UInt8) (w : World) (hs : s.size ≤ 1000) :
    Calls Tryd.prog 48 #[.string s, .string ⟨#[c]⟩] w fun e w' =>
      e = .returned (.tuple #[.string (ba (cutA s.data.toList c)), .string (ba (cutB s.data.toList c)), .bool (cutY s.data.toList c)]) ∧ Below w.heap.size w w' := by
  have C := Tryd.stringslite_Index_one s c w
  have HBe : RowKit.Hid (∀ n, Below w.heap.size w (w.drewN n)) := fun n => Below.drewN' (Below.refl _ _) n
  have hq1 : (⟨#[c]⟩ : ByteArray).size = 1 := rfl
  generalize (⟨#[c]⟩ : ByteArray) = q at *
  rcases cut_idx s.data.toList c with ⟨h1, h2, h3, h4⟩ | ⟨i, h1, hi, h2, h3, h4⟩
  · rw [h1] at C
    rw [h2, h3, h4]
    clear h1 h2 h3 h4
    go_enter Tryd.func48, Tryd.ntmps48
    go_wp2_with (go_at_call 61; refine C.mono ?_; rintro e w1 ⟨rfl, rfl⟩)
    go_ret3
    exact ⟨ret_cutE (ba_list s).symm rfl rfl, HBe.out 0⟩
  · rw [h1] at C
    rw [h2, h3, h4]
    rw [len_list] at hi
    have e1 := head17 s i
    have e2 := rest_list s (i + 1)
    have HE : RowKit.Hid (s.extract 0 i = ba (s.data.toList.take i) ∧ s.extract (i + 1) s.size = ba (s.data.toList.drop (i + 1))) := ⟨e1, e2⟩
    have hadd : (i : Int) + ((q.size : Nat) : Int) = ((i + 1 : Nat) : Int) := by omega
    clear h1 h2 h3 h4 e1 e2
    go_enter Tryd.func48, Tryd.ntmps48
    go_wp2_with (go_at_call 61; refine C.mono ?_; rintro e w1 ⟨rfl, rfl⟩)
    go_quiet (fail)
    go_wp2
    go_ret3
    exact ⟨ret_cutE HE.out.1 HE.out.2 rfl, HBe.out _⟩
theorem cut18_any (s : ByteArray) (c : UInt8) (w : World) (hs : s.size ≤ 1000) :
    Calls Tryd.prog 37 #[.string s, .string ⟨#[c]⟩] w fun e w' =>
      e = .returned (.tuple #[.string (ba (cutA s.data.toList c)), .string (ba (cutB s.data.toList c)), .bool (cutY s.data.toList c)]) ∧ Below w.heap.size w w' := by
  have C := cut18_in s c w hs
  generalize (⟨#[c]⟩ : ByteArray) = q at *
  go_enter Tryd.func37, Tryd.ntmps37
  go_wp2_with (go_at_call 48; refine C.mono ?_; rintro e w1 ⟨rfl, b1⟩)
  go_ret3
  exact ⟨rfl, b1⟩

/-! ### Split -/
theorem splitL_len (l : List UInt8) : (splitL l).length = Lib.countB (ba l) (ba nl18) + 1 := Lib.splitB_all (ba nl18) (by decide) 0 _ _ rfl
theorem split18_any (s : ByteArray) (w : World) (hs : s.size ≤ 1000) (hM : MaxAt w) :
    Calls Tryd.prog 22 #[.string s, .string ⟨#[13, 10]⟩] w fun e w' =>
      e = .returned (.slice (some ⟨w.heap.size, 0, none⟩) (splitL s.data.toList).length (splitL s.data.toList).length) ∧ w' = w.alloc (.cells ((splitL s.data.toList).map Value.string).toArray 9) := by
  obtain ⟨m, hm⟩ := hM
  rw [splitL_len]
  unfold splitL
  rw [ba_list]
  exact Tryd.strings_Split s ⟨#[13, 10]⟩ m w (by omega) hm (by decide)

/-! ### The map -/
theorem key18 : Maps.Keyed Tryd.prog 3 := Maps.int_keyed Tryd.underlying3
/-- How a meaning reads: its words. -/
noncomputable def elemM (v : Value) : Option (DataW Unit × List MemPlace) := by
  classical exact if h : ∃ s : ByteArray, v = .agg #[.string s] then some (.lit (.string h.choose.data.toList), []) else none
theorem elemM_of (s : ByteArray) : elemM (.agg #[.string s]) = some (.lit (.string s.data.toList), []) := by
  classical
  have h : ∃ t : ByteArray, (Value.agg #[.string s]) = .agg #[.string t] := ⟨s, rfl⟩
  unfold elemM
  rw [dif_pos h]
  have := h.choose_spec
  have e : s = h.choose := by simpa using this
  rw [← e]
theorem elemM_inv {v : Value} {z : DataW Unit × List MemPlace} (h : elemM v = some z) : ∃ s : ByteArray, v = .agg #[.string s] ∧ z = (.lit (.string s.data.toList), []) := by
  classical
  by_cases k : ∃ s : ByteArray, v = .agg #[.string s]
  · obtain ⟨s, rfl⟩ := k
    rw [elemM_of] at h
    exact ⟨s, rfl, by injection h with h; exact h.symm⟩
  · unfold elemM at h
    rw [dif_neg k] at h
    cases h
theorem zeroE (w : World) : (zeroValue 43).run Tryd.prog w = .ok (.agg #[.string ⟨#[]⟩]) w := by kernel_rfl
def putW (D : DataW Unit) (c : Int) : DataW Unit := D.put (.int .i64 c) (.lit (.string (wordsF c)))
def mapW : DataW Unit := putW (putW (putW (putW (putW (putW (putW (putW (.map []) 200) 400) 401) 403) 404) 408) 413) 503
theorem isMap_putW (D : DataW Unit) (c : Int) (h : Maps.IsMap D) : Maps.IsMap (putW D c) := h.put _ _
theorem at_putW (D : DataW Unit) (c x : Int) (z : DataW Unit) (h : Maps.IsMap D) : (putW D c).atKey (.int .i64 x) z = if x = c then .lit (.string (wordsF c)) else D.atKey (.int .i64 x) z := by
  by_cases e : x = c
  · rw [if_pos e, e]
    exact Maps.atKey_put_same h (k := .int .i64 c) trivial _ _
  · rw [if_neg e]
    exact Maps.atKey_put_other (fun k => e (by injection k)) _ _
theorem has_putW (D : DataW Unit) (c x : Int) (h : Maps.IsMap D) : Maps.has (putW D c) (.int .i64 x) = if x = c then true else Maps.has D (.int .i64 x) := by
  by_cases e : x = c
  · rw [if_pos e, e]
    exact Maps.has_put_same h (k := .int .i64 c) trivial _
  · rw [if_neg e]
    exact Maps.has_put_other (fun k => e (by injection k)) _
theorem mapW_at (x : Int) : mapW.atKey (.int .i64 x) (.lit (.string [])) = .lit (.string (wordsF x)) ∧ Maps.has mapW (.int .i64 x) = decide (wordsF x ≠ []) := by
  have h0 : Maps.IsMap (DataW.map [] : DataW Unit) := ⟨_, rfl⟩
  have h1 := isMap_putW _ 200 h0
  have h2 := isMap_putW _ 400 h1
  have h3 := isMap_putW _ 401 h2
  have h4 := isMap_putW _ 403 h3
  have h5 := isMap_putW _ 404 h4
  have h6 := isMap_putW _ 408 h5
  have h7 := isMap_putW _ 413 h6
  unfold mapW
  rw [at_putW _ _ _ _ h7, at_putW _ _ _ _ h6, at_putW _ _ _ _ h5, at_putW _ _ _ _ h4, at_putW _ _ _ _ h3, at_putW _ _ _ _ h2, at_putW _ _ _ _ h1, at_putW _ _ _ _ h0]
  rw [has_putW _ _ _ h7, has_putW _ _ _ h6, has_putW _ _ _ h5, has_putW _ _ _ h4, has_putW _ _ _ h3, has_putW _ _ _ h2, has_putW _ _ _ h1, has_putW _ _ _ h0]
  rcases code_cases x with h | ⟨hw, a1, a2, a3, a4, a5, a6, a7, a8⟩
  · rcases h with rfl | rfl | rfl | rfl | rfl | rfl | rfl | rfl <;> exact ⟨rfl, rfl⟩
  · rw [if_neg a8, if_neg a7, if_neg a6, if_neg a5, if_neg a4, if_neg a3, if_neg a2, if_neg a1, hw, if_neg a8, if_neg a7, if_neg a6, if_neg a5, if_neg a4, if_neg a3, if_neg a2, if_neg a1]
    exact ⟨rfl, rfl⟩
/-- Block b is the map of the codes' words. -/
def MapW (w : World) (b : Nat) : Prop := w.ownsMap Tryd.prog 3 elemM b 8 mapW
theorem wf64 {x : Int} (h0 : -9223372036854775808 ≤ x) (h1 : x ≤ 9223372036854775807) : (Lit.int .i64 x).wf = true := by
  have e1 : IntKind.i64.min = -9223372036854775808 := rfl
  have e2 : IntKind.i64.max = 9223372036854775807 := rfl
  simp [Lit.wf, e1, e2]
  omega
theorem MapW.look {w : World} {b : Nat} (h : MapW w b) (x : Int) (h0 : -9223372036854775808 ≤ x) (h1 : x ≤ 9223372036854775807) : (Instr.lookup 45 (.map (some b)) (.int .i64 x) false).run Tryd.prog w = .ok (.agg #[.string (ba (wordsF x))]) w := by
  obtain ⟨v, ps, hrun, hv⟩ := World.ownsMap.lookup h key18 Tryd.underlying45 (zeroE _) (elemM_of _) (Maps.keyOf_int_mk Tryd.underlying3 (wf64 h0 h1))
  rw [show (DataW.lit (.string (ByteArray.mk #[]).data.toList) : DataW Unit) = .lit (.string []) from rfl, (mapW_at x).1] at hv
  obtain ⟨s, rfl, hs⟩ := elemM_inv hv
  have : s.data.toList = wordsF x := by simpa using (congrArg Prod.fst hs).symm
  rw [hrun, ba_of this]
theorem MapW.lookOk {w : World} {b : Nat} (h : MapW w b) (x : Int) (h0 : -9223372036854775808 ≤ x) (h1 : x ≤ 9223372036854775807) : (Instr.lookup 45 (.map (some b)) (.int .i64 x) true).run Tryd.prog w = .ok (.tuple #[.agg #[.string (ba (wordsF x))], .bool (decide (wordsF x ≠ []))]) w := by
  obtain ⟨v, ps, hrun, hv⟩ := World.ownsMap.look_ok h key18 Tryd.underlying45 (zeroE _) (elemM_of _) (Maps.keyOf_int_mk Tryd.underlying3 (wf64 h0 h1))
  rw [show (DataW.lit (.string (ByteArray.mk #[]).data.toList) : DataW Unit) = .lit (.string []) from rfl, (mapW_at x).1] at hv
  rw [(mapW_at x).2] at hrun
  obtain ⟨s, rfl, hs⟩ := elemM_inv hv
  have : s.data.toList = wordsF x := by simpa using (congrArg Prod.fst hs).symm
  rw [hrun, ba_of this]
theorem MapW.below {w w' : World} {b : Nat} (h : MapW w b) (hb : Below w.heap.size w w') : MapW w' b := by
  have hl := World.ownsMap.lt h
  obtain ⟨es, clock, h1, h2⟩ := h
  exact ⟨es, clock, (hb.block b hl).trans h1, h2⟩
theorem grown_below18 {a w w' : World} {b : Nat} (h : Below b a w) (g : w.grownBy w' (some b)) (hb : b ≤ a.heap.size) : Below b a w' :=
  h.trans ((Keeps.of_grown (F := fun k => k = b) g (fun k e => by injection e with e; exact e.symm)).below (B := b) (Nat.le_trans hb h.size) (fun k hk => by omega))
set_option maxHeartbeats 4000000 in
theorem meanings_any (w : World) : Calls Tryd.prog 16 #[] w fun e w' => e = .returned (.map (some w.heap.size)) ∧ MapW w' w.heap.size ∧ Below w.heap.size w w' := by
  have hmm := @run_makeMap Tryd.prog
  have o0 := World.ownsMap_made (H := Unit) w Tryd.prog 3 elemM
  have b0 := Below.alloc_new w (.map #[] 0)
  obtain ⟨w1, r1, o1, g1⟩ := World.ownsMap.update o0 key18 Tryd.underlying45 (by unfold maxLen; omega) (Maps.keyOf_int_mk Tryd.underlying3 (a := 200) (by decide)) (elemM_of ⟨#[79, 75]⟩)
  obtain ⟨w2, r2, o2, g2⟩ := World.ownsMap.update o1 key18 Tryd.underlying45 (by unfold maxLen; omega) (Maps.keyOf_int_mk Tryd.underlying3 (a := 400) (by decide)) (elemM_of ⟨#[66, 97, 100, 32, 82, 101, 113, 117, 101, 115, 116]⟩)
  obtain ⟨w3, r3, o3, g3⟩ := World.ownsMap.update o2 key18 Tryd.underlying45 (by unfold maxLen; omega) (Maps.keyOf_int_mk Tryd.underlying3 (a := 401) (by decide)) (elemM_of ⟨#[85, 110, 97, 117, 116, 104, 111, 114, 105, 122, 101, 100]⟩)
  obtain ⟨w4, r4, o4, g4⟩ := World.ownsMap.update o3 key18 Tryd.underlying45 (by unfold maxLen; omega) (Maps.keyOf_int_mk Tryd.underlying3 (a := 403) (by decide)) (elemM_of ⟨#[70, 111, 114, 98, 105, 100, 100, 101, 110]⟩)
  obtain ⟨w5, r5, o5, g5⟩ := World.ownsMap.update o4 key18 Tryd.underlying45 (by unfold maxLen; omega) (Maps.keyOf_int_mk Tryd.underlying3 (a := 404) (by decide)) (elemM_of ⟨#[78, 111, 116, 32, 70, 111, 117, 110, 100]⟩)
  obtain ⟨w6, r6, o6, g6⟩ := World.ownsMap.update o5 key18 Tryd.underlying45 (by unfold maxLen; omega) (Maps.keyOf_int_mk Tryd.underlying3 (a := 408) (by decide)) (elemM_of ⟨#[82, 101, 113, 117, 101, 115, 116, 32, 84, 105, 109, 101, 111, 117, 116]⟩)
  obtain ⟨w7, r7, o7, g7⟩ := World.ownsMap.update o6 key18 Tryd.underlying45 (by unfold maxLen; omega) (Maps.keyOf_int_mk Tryd.underlying3 (a := 413) (by decide)) (elemM_of ⟨#[84, 111, 111, 32, 76, 97, 114, 103, 101]⟩)
  obtain ⟨w8, r8, o8, g8⟩ := World.ownsMap.update o7 key18 Tryd.underlying45 (by unfold maxLen; omega) (Maps.keyOf_int_mk Tryd.underlying3 (a := 503) (by decide)) (elemM_of ⟨#[85, 110, 97, 118, 97, 105, 108, 97, 98, 108, 101]⟩)
  have HO : RowKit.Hid (MapW w8 w.heap.size) := o8
  have HB : RowKit.Hid (Below w.heap.size w w8) := grown_below18 (grown_below18 (grown_below18 (grown_below18 (grown_below18 (grown_below18 (grown_below18 (grown_below18 b0 g1 (Nat.le_refl _)) g2 (Nat.le_refl _)) g3 (Nat.le_refl _)) g4 (Nat.le_refl _)) g5 (Nat.le_refl _)) g6 (Nat.le_refl _)) g7 (Nat.le_refl _)) g8 (Nat.le_refl _)
  clear o0 o1 o2 o3 o4 o5 o6 o7 o8 g1 g2 g3 g4 g5 g6 g7 g8 b0
  go_enter Tryd.func16, Tryd.ntmps16
  go_wp2
  go_ret
  exact ⟨rfl, HO.out, HB.out⟩
end Go.Proofs.YtjhihjkhbmbigaaDoor
