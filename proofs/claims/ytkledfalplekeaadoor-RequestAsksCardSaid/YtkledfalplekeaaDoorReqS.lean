/- What the program's callees of the library give: texts cut, split, trimmed; and its two maps. -/
import Derived.Test.YtkledfalplekeaaDoorReqR
import Derived.Test.YtkledfalplekeaaDoorShelf
import Derived.Test.YtkledfalplekeaaDoorShelg
import Derived.Shelf.Strings.SlTrimAscii
import Derived.Test.YtkledfalplekeaaDoorMemK
import Derived.Maps.Own
import Derived.Maps.Views
import Derived.Shelf.Strings.SplitCore
namespace Go.Proofs.YtkledfalplekeaaDoor
open Go.RowKit Go.PlainAid
set_option linter.unusedVariables false

/-! ### Cut -/
set_option maxHeartbeats 2000000 in
set_option maxRecDepth 100000 in
theorem cut0_any (s : ByteArray) (c : UInt8) (w : World) (hs : s.size ≤ 1000) :
    Calls Tryd.prog 45 #[.string s, .string ⟨#[c]⟩] w fun e w' =>
      e = .returned (.tuple #[.string (ba (cutA s.data.toList c)), .string (ba (cutB s.data.toList c)), .bool (cutY s.data.toList c)]) ∧ Below w.heap.size w w' := by
  have C := Tryd.stringslite_Index_one s c w
  have HBe : RowKit.Hid (∀ n, Below w.heap.size w (w.drewN n)) := fun n => Below.drewN' (Below.refl _ _) n
  have hq1 : (⟨#[c]⟩ : ByteArray).size = 1 := rfl
  generalize (⟨#[c]⟩ : ByteArray) = q at *
  rcases cut_idx s.data.toList c with ⟨h1, h2, h3, h4⟩ | ⟨i, h1, hi, h2, h3, h4⟩
  · rw [h1] at C
    rw [h2, h3, h4]
    clear h1 h2 h3 h4
    go_enter Tryd.func45, Tryd.ntmps45
    go_wp2_with (go_at_call 60; refine C.mono ?_; rintro e w1 ⟨rfl, rfl⟩)
    go_ret3
    exact ⟨ret_cutE (ba_list s).symm rfl rfl, HBe.out 0⟩
  · rw [h1] at C
    rw [h2, h3, h4]
    rw [len_list] at hi
    have e1 := head17 s i
    have e2 := rest_list s (i + 1)
    have HE : RowKit.Hid (s.extract 0 i = ba (s.data.toList.take i) ∧ s.extract (i + 1) s.size = ba (s.data.toList.drop (i + 1))) := ⟨e1, e2⟩
    have hadd : (i : Int) + ((q.size : Nat) : Int) = ((i + 1 : Nat) : Int) := by omega
    clear h1 h2 h3 h4 e1 e2
    go_enter Tryd.func45, Tryd.ntmps45
    go_wp2_with (go_at_call 60; refine C.mono ?_; rintro e w1 ⟨rfl, rfl⟩)
    go_quiet (fail)
    go_wp2
    go_ret3
    exact ⟨ret_cutE HE.out.1 HE.out.2 rfl, HBe.out _⟩
theorem cut_any (s : ByteArray) (c : UInt8) (w : World) (hs : s.size ≤ 1000) :
    Calls Tryd.prog 37 #[.string s, .string ⟨#[c]⟩] w fun e w' =>
      e = .returned (.tuple #[.string (ba (cutA s.data.toList c)), .string (ba (cutB s.data.toList c)), .bool (cutY s.data.toList c)]) ∧ Below w.heap.size w w' := by
  have C := cut0_any s c w hs
  generalize (⟨#[c]⟩ : ByteArray) = q at *
  go_enter Tryd.func37, Tryd.ntmps37
  go_wp2_with (go_at_call 45; refine C.mono ?_; rintro e w1 ⟨rfl, b1⟩)
  go_ret3
  exact ⟨rfl, b1⟩

/-! ### Split -/
theorem idx_one (s : ByteArray) (c : UInt8) : Lib.indexB s ⟨#[c]⟩ = Lib.indexByte s.data.toList c := Lib.index_one s.data.toList c
theorem cnt_one (s : ByteArray) (c : UInt8) : Lib.countB s ⟨#[c]⟩ = Lib.countByte s.data.toList c := Lib.count_one c s.data.toList
theorem info_str17 : (Tryd.prog.info? 9).map (fun i => (i.zero, i.size, i.bytes)) = some (some (.string ByteArray.empty), 1, 16) := by kernel_rfl
theorem split_any (s : ByteArray) (c : UInt8) (w : World) (hs : s.size ≤ 1000) :
    Calls Tryd.prog 33 #[.string s, .string ⟨#[c]⟩] w fun e w' =>
      e = .returned (.slice (some ⟨w.heap.size, 0, none⟩) (Lib.countB s ⟨#[c]⟩ + 1) (Lib.countB s ⟨#[c]⟩ + 1)) ∧ w' = w.alloc (.cells ((Lib.splitB ⟨#[c]⟩ 0 (Lib.countB s ⟨#[c]⟩) s).map Value.string).toArray 9) := by
  have h1 : 1 ≤ (⟨#[c]⟩ : ByteArray).size := Nat.le_refl 1
  have hle := Lib.countB_le ⟨#[c]⟩ h1 s.size s (Nat.le_refl _)
  have hlen := Lib.splitB_all ⟨#[c]⟩ h1 0 _ s rfl
  have C : Calls Tryd.prog 43 #[.string s, .string ⟨#[c]⟩, .int .i64 0, .int .i64 (-1)] w _ :=
    Any.strings_genSplit_core (P := Tryd.prog) (ρ := Tryd.lays146_ren) { Tryd.lays146 with } info_str17 s ⟨#[c]⟩ 0 (-1) (Lib.countB s ⟨#[c]⟩ + 1) w (by omega) h1 (Nat.zero_le _)
      (fun x cs hx => by rw [idx_one]; exact Tryd.strings_Index_one x c _)
      (by rw [cnt_one]; exact Tryd.strings_Count_one s c w) (by decide) (by decide) (by rw [if_pos (by decide)]; omega)
  rw [Nat.add_sub_cancel, hlen] at C
  have e2 : Lib.cellsOf (Lib.splitB ⟨#[c]⟩ 0 (Lib.countB s ⟨#[c]⟩) s) (Lib.countB s ⟨#[c]⟩ + 1) = ((Lib.splitB ⟨#[c]⟩ 0 (Lib.countB s ⟨#[c]⟩) s).map Value.string).toArray := by rw [← hlen]; exact Lib.cellsOf_full _
  rw [e2] at C
  generalize Lib.countB s ⟨#[c]⟩ + 1 = n at *
  generalize ((Lib.splitB ⟨#[c]⟩ 0 (Lib.countB s ⟨#[c]⟩) s).map Value.string).toArray = cs at *
  clear hle hlen e2 h1
  generalize (⟨#[c]⟩ : ByteArray) = q at *
  go_enter Tryd.func33, Tryd.ntmps33
  go_wp2_with (go_at_call 43; refine C.mono ?_; rintro e w1 ⟨rfl, rfl⟩)
  go_ret
  exact ⟨rfl, rfl⟩
/-- How many pieces there are, and which. -/
theorem pieces17 (s : ByteArray) (c : UInt8) :
    (Lib.countB s ⟨#[c]⟩ + 1 = 3 ∧ cutY s.data.toList c = true ∧ cutY (cutB s.data.toList c) c = true ∧
      (Lib.splitB ⟨#[c]⟩ 0 (Lib.countB s ⟨#[c]⟩) s).map Value.string = [.string (ba (cutA s.data.toList c)), .string (ba (cutA (cutB s.data.toList c) c)), .string (ba (cutB (cutB s.data.toList c) c))]) ∨
    (Lib.countB s ⟨#[c]⟩ + 1 ≠ 3 ∧ ((cutY s.data.toList c && cutY (cutB s.data.toList c) c) = false ∨ cutY (cutB (cutB s.data.toList c) c) c = true)) := by
  have key : ∀ x : ByteArray, (cutY x.data.toList c = false ∧ Lib.countB x ⟨#[c]⟩ = 0) ∨ (cutY x.data.toList c = true ∧ Lib.countB x ⟨#[c]⟩ = 1 + Lib.countB (ba (cutB x.data.toList c)) ⟨#[c]⟩ ∧
      ∀ k, Lib.splitB ⟨#[c]⟩ 0 (k + 1) x = ba (cutA x.data.toList c) :: Lib.splitB ⟨#[c]⟩ 0 k (ba (cutB x.data.toList c))) := by
    intro x
    rcases cut_idx x.data.toList c with ⟨h1, h2, h3, h4⟩ | ⟨i, h1, hi, h2, h3, h4⟩
    · exact .inl ⟨h4, Lib.countB_miss _ _ (by rw [idx_one]; exact h1)⟩
    · have hx : Lib.indexB x ⟨#[c]⟩ = i := by rw [idx_one]; exact h1
      refine .inr ⟨h4, ?_, fun k => ?_⟩
      · rw [Lib.countB_hit x ⟨#[c]⟩ i (Nat.le_refl 1) hx, h3, ← rest_list]
        rfl
      · rw [Lib.splitB_hit ⟨#[c]⟩ 0 k x i hx, h2, h3, ← rest_list, ← head17]
        rfl
  rcases key s with ⟨a, b⟩ | ⟨a, b, d⟩
  · exact .inr ⟨by omega, .inl (by rw [a]; rfl)⟩
  · rcases key (ba (cutB s.data.toList c)) with ⟨a2, b2⟩ | ⟨a2, b2, d2⟩
    · rw [list_ba] at a2
      exact .inr ⟨by omega, .inl (by rw [a2]; simp)⟩
    · rw [list_ba] at a2 b2 d2
      rcases key (ba (cutB (cutB s.data.toList c) c)) with ⟨a3, b3⟩ | ⟨a3, b3, d3⟩
      · refine .inl ⟨by omega, a, a2, ?_⟩
        rw [show Lib.countB s ⟨#[c]⟩ = 1 + 1 by omega, d, d2, Lib.splitB_zero]
        rfl
      · rw [list_ba] at a3
        exact .inr ⟨by omega, .inr a3⟩
theorem ver_no_blank (l : List UInt8) (h : cutY l 32 = true) : verF l = false := by
  rcases verF_cases l with ⟨_, h2⟩ | ⟨h2, _⟩
  · exfalso
    rcases h2 with rfl | ⟨_, rfl⟩ | ⟨_, _, rfl⟩ <;> exact absurd h (by decide)
  · exact h2

/-! ### Trim -/
theorem trimL_drop : ∀ l, trimL l = Lib.trimLeftS l [32, 9]
  | [] => rfl
  | b :: t => by
    have ih := trimL_drop t
    have hb : ([32, 9] : List UInt8).contains b = isB b := by
      simp [isB]
      rw [Bool.eq_iff_iff]
      simp
    unfold Lib.trimLeftS at *
    rw [List.dropWhile_cons, hb]
    unfold trimL
    cases isB b
    · rfl
    · simpa using ih
theorem trimR_drop (l : List UInt8) : trimR l = Lib.trimRightS l [32, 9] := by
  have hb : ∀ b : UInt8, ([32, 9] : List UInt8).contains b = isB b := by
    intro b
    simp [isB]
    rw [Bool.eq_iff_iff]
    simp
  have key : ∀ (n : Nat) (l : List UInt8), l.length = n → trimR l = Lib.trimRightS l [32, 9] := by
    intro n
    induction n with
    | zero =>
      intro l h
      rw [List.eq_nil_of_length_eq_zero h]
      rfl
    | succ n ih =>
      intro l h
      rw [last_split l n h, trimR_snoc]
      unfold Lib.trimRightS at *
      rw [List.reverse_append, List.reverse_singleton, List.singleton_append, List.dropWhile_cons, hb]
      cases isB (l.getD n 0)
      · simp
      · simpa using ih (l.take n) (by rw [List.length_take]; omega)
  exact key _ l rfl
theorem info_set17 : (Tryd.prog.info? 77).map (fun i => (i.zero, i.size)) = some (some (.agg (Array.replicate 256 (.bool false))), 256) := by kernel_rfl
theorem trim_any (s : ByteArray) (w : World) (hs : s.size ≤ 1000) :
    Calls Tryd.prog 41 #[.string s, .string ⟨#[32, 9]⟩] w fun e w' => e = .returned (.string (ba (trimF s.data.toList))) ∧ Below w.heap.size w w' := by
  have C : Calls Tryd.prog 41 #[.string s, .string ⟨#[32, 9]⟩] w _ :=
    Any.strings_Trim_laid (P := Tryd.prog) (ρ := Tryd.lays160_ren) Tryd.lays160 info_set17 s ⟨#[32, 9]⟩ w (by omega) (by decide) (by
      intro j b h
      match j, h with
      | 0, h => obtain rfl : (32 : UInt8) = b := by simpa using h
                decide
      | 1, h => obtain rfl : (9 : UInt8) = b := by simpa using h
                decide
      | j + 2, h => simp at h)
  refine C.mono ?_
  rintro e w' ⟨rfl, hb⟩
  refine ⟨?_, hb⟩
  have e1 : trimF s.data.toList = Lib.trimS s.data.toList [32, 9] := by
    rw [← trim_comm]
    unfold Lib.trimS
    rw [← trimR_drop, ← trimL_drop]
  rw [e1]
  rfl
theorem suffix13 (l : List UInt8) : Lib.trimSuffix l [13] = stripF l := by
  rcases Nat.eq_zero_or_pos l.length with h | h
  · rw [List.eq_nil_of_length_eq_zero h]
    rfl
  · obtain ⟨n, hn⟩ : ∃ n, l.length = n + 1 := ⟨l.length - 1, by omega⟩
    have e := last_split l n hn
    generalize l.getD n 0 = x at e
    generalize l.take n = t at e
    subst e
    unfold Lib.trimSuffix stripF
    simp only [Lib.hasSuffix]
    by_cases k : x = 13
    · subst k
      simp [List.isSuffixOf]
    · have : ¬ (13 : UInt8) = x := fun e => k e.symm
      simp [List.isSuffixOf, k, this]
theorem strip_any (s : ByteArray) (w : World) (hs : s.size ≤ 1000) :
    Calls Tryd.prog 24 #[.string s, .string ⟨#[13]⟩] w fun e w' => e = .returned (.string (ba (stripF s.data.toList))) ∧ w' = w := by
  have C := Tryd.strings_TrimSuffix s ⟨#[13]⟩ w (by omega)
  rw [show (ByteArray.mk #[13]).data.toList = [13] from rfl, suffix13] at C
  exact C

/-! ### The maps -/
theorem key17 : Maps.Keyed Tryd.prog 9 := Maps.string_keyed Tryd.underlying9
theorem zeroM (w : World) : (zeroValue 34).run Tryd.prog w = .ok (.int .i64 0) w := by kernel_rfl
theorem zeroH (w : World) : (zeroValue 50).run Tryd.prog w = .ok (.int .u64 0) w := by kernel_rfl
def putS (D : DataW Unit) (k : List UInt8) (v : Lit) : DataW Unit := D.put (.string k) (.lit v)
def mapM : DataW Unit := putS (putS (putS (putS (.map []) met1 (.int .i64 1)) met2 (.int .i64 2)) met3 (.int .i64 3)) met4 (.int .i64 4)
def mapH : DataW Unit := putS (putS (.map []) icyN (.int .u64 1)) autN (.int .u64 2)
theorem isMap_putS (D : DataW Unit) (k : List UInt8) (v : Lit) (h : Maps.IsMap D) : Maps.IsMap (putS D k v) := by
  obtain ⟨es, rfl⟩ := h
  exact ⟨_, rfl⟩
theorem at_putS (D : DataW Unit) (k x : List UInt8) (v : Lit) (z : DataW Unit) (h : Maps.IsMap D) : (putS D k v).atKey (.string x) z = if x = k then .lit v else D.atKey (.string x) z := by
  by_cases e : x = k
  · rw [if_pos e, e]
    exact Maps.atKey_put_same h (k := .string k) trivial _ _
  · rw [if_neg e]
    exact Maps.atKey_put_other (fun c => e (by injection c)) _ _
theorem mapM_at (x : List UInt8) : mapM.atKey (.string x) (.lit (.int .i64 0)) = .lit (.int .i64 (metF x)) := by
  have h0 : Maps.IsMap (DataW.map [] : DataW Unit) := ⟨_, rfl⟩
  have h1 := isMap_putS _ met1 (.int .i64 1) h0
  have h2 := isMap_putS _ met2 (.int .i64 2) h1
  have h3 := isMap_putS _ met3 (.int .i64 3) h2
  unfold mapM metF
  rw [at_putS _ _ _ _ _ h3, at_putS _ _ _ _ _ h2, at_putS _ _ _ _ _ h1, at_putS _ _ _ _ _ h0]
  have d12 : ¬ met1 = met2 := by decide
  have d13 : ¬ met1 = met3 := by decide
  have d14 : ¬ met1 = met4 := by decide
  have d23 : ¬ met2 = met3 := by decide
  have d24 : ¬ met2 = met4 := by decide
  have d34 : ¬ met3 = met4 := by decide
  by_cases e1 : x = met1
  · subst e1; rw [if_neg d14, if_neg d13, if_neg d12, if_pos rfl, if_pos rfl]; rfl
  rw [if_neg e1, if_neg e1]
  by_cases e2 : x = met2
  · subst e2; rw [if_neg d24, if_neg d23, if_pos rfl, if_pos rfl]; rfl
  rw [if_neg e2, if_neg e2]
  by_cases e3 : x = met3
  · subst e3; rw [if_neg d34, if_pos rfl, if_pos rfl]; rfl
  rw [if_neg e3, if_neg e3]
  by_cases e4 : x = met4
  · subst e4; rw [if_pos rfl, if_pos rfl]; rfl
  rw [if_neg e4, if_neg e4]
  rfl
theorem mapH_at (x : List UInt8) : mapH.atKey (.string x) (.lit (.int .u64 0)) = .lit (.int .u64 ((if x = icyN then 1 else if x = autN then 2 else 0 : Nat) : Int)) := by
  have h0 : Maps.IsMap (DataW.map [] : DataW Unit) := ⟨_, rfl⟩
  have h1 := isMap_putS _ icyN (.int .u64 1) h0
  unfold mapH
  rw [at_putS _ _ _ _ _ h1, at_putS _ _ _ _ _ h0]
  by_cases e1 : x = icyN
  · subst e1; rw [if_neg (show ¬ icyN = autN by decide), if_pos rfl, if_pos rfl]; rfl
  rw [if_neg e1, if_neg e1]
  by_cases e2 : x = autN
  · subst e2; rw [if_pos rfl, if_pos rfl]; rfl
  rw [if_neg e2, if_neg e2]
  rfl
/-- Block b is the map of the methods, of the headers. -/
def MapM (w : World) (b : Nat) : Prop := w.ownsMap Tryd.prog 9 (plainElem Tryd.prog 34) b 4 mapM
def MapH (w : World) (b : Nat) : Prop := w.ownsMap Tryd.prog 9 (plainElem Tryd.prog 50) b 2 mapH
theorem MapM.look {w : World} {b : Nat} (h : MapM w b) (s : ByteArray) (hs : s.size ≤ 1000) : (Instr.lookup 66 (.map (some b)) (.string s) false).run Tryd.prog w = .ok (.int .i64 (metF s.data.toList)) w := by
  obtain ⟨c, hrun, hat, _⟩ := World.ownsMap.lookup_int h key17 Tryd.underlying66 Tryd.underlying34 (zeroM _) (WideMaps.keyOf_string_mk Tryd.underlying9 (s := s) (by unfold maxLen; omega))
  rw [mapM_at] at hat
  simp only [DataW.lit.injEq, Lit.int.injEq, true_and] at hat
  rw [hrun, hat]
theorem MapH.look {w : World} {b : Nat} (h : MapH w b) (s : ByteArray) (hs : s.size ≤ 1000) : (Instr.lookup 70 (.map (some b)) (.string s) false).run Tryd.prog w = .ok (.int .u64 ((if s.data.toList = icyN then 1 else if s.data.toList = autN then 2 else 0 : Nat) : Int)) w := by
  obtain ⟨c, hrun, hat, _⟩ := World.ownsMap.lookup_int h key17 Tryd.underlying70 Tryd.underlying50 (zeroH _) (WideMaps.keyOf_string_mk Tryd.underlying9 (s := s) (by unfold maxLen; omega))
  rw [mapH_at] at hat
  simp only [DataW.lit.injEq, Lit.int.injEq, true_and] at hat
  rw [hrun, hat]
theorem MapM.below {w w' : World} {b : Nat} (h : MapM w b) (hb : Below w.heap.size w w') : MapM w' b := by
  have hl := World.ownsMap.lt h
  obtain ⟨es, clock, h1, h2⟩ := h
  exact ⟨es, clock, (hb.block b hl).trans h1, h2⟩
theorem MapH.below {w w' : World} {b : Nat} (h : MapH w b) (hb : Below w.heap.size w w') : MapH w' b := by
  have hl := World.ownsMap.lt h
  obtain ⟨es, clock, h1, h2⟩ := h
  exact ⟨es, clock, (hb.block b hl).trans h1, h2⟩
theorem grown_below {a w w' : World} {b : Nat} (h : Below b a w) (g : w.grownBy w' (some b)) (hb : b ≤ a.heap.size) : Below b a w' :=
  h.trans ((Keeps.of_grown (F := fun k => k = b) g (fun k e => by injection e with e; exact e.symm)).below (B := b) (Nat.le_trans hb h.size) (fun k hk => by omega))
set_option maxHeartbeats 2000000 in
theorem methods_any (w : World) : Calls Tryd.prog 34 #[] w fun e w' => e = .returned (.map (some w.heap.size)) ∧ MapM w' w.heap.size ∧ Below w.heap.size w w' := by
  have hmm := @run_makeMap Tryd.prog
  have o0 := World.ownsMap_made (H := Unit) w Tryd.prog 9 (plainElem Tryd.prog 34)
  have b0 := Below.alloc_new w (.map #[] 0)
  obtain ⟨w1, r1, o1, g1⟩ := World.ownsMap.update o0 key17 Tryd.underlying66 (by unfold maxLen; omega) (WideMaps.keyOf_string_mk Tryd.underlying9 (s := ⟨#[71, 69, 84]⟩) (by decide)) (plainElem_int (a := 1) Tryd.underlying34 (by decide))
  obtain ⟨w2, r2, o2, g2⟩ := World.ownsMap.update o1 key17 Tryd.underlying66 (by unfold maxLen; omega) (WideMaps.keyOf_string_mk Tryd.underlying9 (s := ⟨#[83, 79, 85, 82, 67, 69]⟩) (by decide)) (plainElem_int (a := 2) Tryd.underlying34 (by decide))
  obtain ⟨w3, r3, o3, g3⟩ := World.ownsMap.update o2 key17 Tryd.underlying66 (by unfold maxLen; omega) (WideMaps.keyOf_string_mk Tryd.underlying9 (s := ⟨#[75, 73, 76, 76]⟩) (by decide)) (plainElem_int (a := 3) Tryd.underlying34 (by decide))
  obtain ⟨w4, r4, o4, g4⟩ := World.ownsMap.update o3 key17 Tryd.underlying66 (by unfold maxLen; omega) (WideMaps.keyOf_string_mk Tryd.underlying9 (s := ⟨#[83, 84, 65, 84, 83]⟩) (by decide)) (plainElem_int (a := 4) Tryd.underlying34 (by decide))
  have HO : RowKit.Hid (MapM w4 w.heap.size) := o4
  have HB : RowKit.Hid (Below w.heap.size w w4) := grown_below (grown_below (grown_below (grown_below b0 g1 (Nat.le_refl _)) g2 (Nat.le_refl _)) g3 (Nat.le_refl _)) g4 (Nat.le_refl _)
  clear o0 o1 o2 o3 o4 g1 g2 g3 g4 b0
  go_enter Tryd.func34, Tryd.ntmps34
  go_wp2
  go_ret
  exact ⟨rfl, HO.out, HB.out⟩
set_option maxHeartbeats 2000000 in
theorem headers_any (w : World) : Calls Tryd.prog 39 #[] w fun e w' => e = .returned (.map (some w.heap.size)) ∧ MapH w' w.heap.size ∧ Below w.heap.size w w' := by
  have hmm := @run_makeMap Tryd.prog
  have o0 := World.ownsMap_made (H := Unit) w Tryd.prog 9 (plainElem Tryd.prog 50)
  have b0 := Below.alloc_new w (.map #[] 0)
  obtain ⟨w1, r1, o1, g1⟩ := World.ownsMap.update o0 key17 Tryd.underlying70 (by unfold maxLen; omega) (WideMaps.keyOf_string_mk Tryd.underlying9 (s := ⟨#[105, 99, 121, 45, 109, 101, 116, 97, 100, 97, 116, 97]⟩) (by decide)) (plainElem_int (a := 1) Tryd.underlying50 (by decide))
  obtain ⟨w2, r2, o2, g2⟩ := World.ownsMap.update o1 key17 Tryd.underlying70 (by unfold maxLen; omega) (WideMaps.keyOf_string_mk Tryd.underlying9 (s := ⟨#[97, 117, 116, 104, 111, 114, 105, 122, 97, 116, 105, 111, 110]⟩) (by decide)) (plainElem_int (a := 2) Tryd.underlying50 (by decide))
  have HO : RowKit.Hid (MapH w2 w.heap.size) := o2
  have HB : RowKit.Hid (Below w.heap.size w w2) := grown_below (grown_below b0 g1 (Nat.le_refl _)) g2 (Nat.le_refl _)
  clear o0 o1 o2 g1 g2 b0
  go_enter Tryd.func39, Tryd.ntmps39
  go_wp2
  go_ret
  exact ⟨rfl, HO.out, HB.out⟩
end Go.Proofs.YtkledfalplekeaaDoor
