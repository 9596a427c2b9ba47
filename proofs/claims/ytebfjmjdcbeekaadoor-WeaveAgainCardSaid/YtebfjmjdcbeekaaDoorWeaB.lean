/- What the functions of package weave give: when a block is due, a title's block. -/
import Derived.Test.YtebfjmjdcbeekaaDoorWeaA
import Derived.Lib.BufferWrite
import Derived.Laws.CopyOwn
namespace Go.Proofs.YtebfjmjdcbeekaaDoor
open Go.RowKit Go.PlainAid
set_option linter.unusedVariables false
set_option linter.unusedSimpArgs false

theorem ret_slE {a : Option Addr} {n m : Nat} (h : n = m) : Ending.returned (.slice a n n) = .returned (.slice a m m) := by rw [h]
theorem infoS_u8 : (Tryd.prog.info? 5).map (·.size) = some 1 := by kernel_rfl
/-- copy(d, s), s a text that fits, d in a row that is known whole. -/
theorem copy_text_run {P : Program} (w : World) (dT sT ty elem : TypeId) (g off dLen dCap : Nat) (t : ByteArray) (cur : List Value) (tt : TypeId) (hu : P.underlying dT = some (.slice elem)) (hsz : (P.info? elem).map (·.size) = some 1)
    (hg : w.heap[g]? = some (.cells cur.toArray tt (0, 0))) (hle : t.size ≤ dLen) (hfit : off + t.size ≤ cur.length) :
    (Builtin.copy_ #[dT, sT] ty #[.slice (some ⟨g, off, none⟩) dLen dCap, .string t]).run P w = .ok (goInt t.size) (w.setRow g (cur.take off ++ (nz t.data.toList).map (Value.int .u8) ++ cur.drop (off + t.size)).toArray) := by
  have hrun := Lib.run_copy_row_string (P := P) w dT sT ty elem g off dLen dCap t cur.toArray tt hu hsz hg hle (by simpa using hfit)
  have e : Lib.byteCells t.data.toList = (nz t.data.toList).map (Value.int .u8) := by simp [Lib.byteCells, nz]
  rw [e] at hrun
  exact hrun
set_option maxRecDepth 100000 in
theorem block_copied {w W3 : World} {g N u : Nat} {T : List UInt8} {X : ByteArray} (HE : (⟨#[83, 116, 114, 101, 97, 109, 84, 105, 116, 108, 101, 61, 39]⟩ : ByteArray) ++ X ++ ⟨#[39, 59]⟩ = ba (textB T)) (HI : IRow W3 g 5 .u8 (List.replicate N 0)) (hB : Below w.heap.size w W3) (hg : w.heap.size ≤ g)
    (h1 : T.length + 15 + 1 ≤ N) (h2 : N ≤ 1000) (hz : nz (blkF T) = (u : Int) :: (nz (textB T) ++ List.replicate (N - 1 - (T.length + 15)) 0)) (hX : X.size = T.length) (h0 : 0 < N) :
    ∃ W5, (Builtin.copy_ #[30, 9] 3 #[.slice (some ⟨g, 1, none⟩) (N - 1) (N - 1), .string (⟨#[83, 116, 114, 101, 97, 109, 84, 105, 116, 108, 101, 61, 39]⟩ ++ X ++ ⟨#[39, 59]⟩)]).run Tryd.prog (W3.setCell ⟨g, 0, none⟩ (.int .u8 (u : Int))) = .ok (goInt ((T.length + 15 : Nat) : Int)) W5 ∧
      IRow W5 g 5 .u8 (nz (blkF T)) ∧ Below w.heap.size w W5 := by
  have hI := HI.set 0 (u : Int)
  have hrun := copy_text_run (P := Tryd.prog) (W3.setCell ⟨g, 0, none⟩ (.int .u8 (u : Int))) 30 9 3 5 g 1 (N - 1) (N - 1) (ba (textB T)) (((List.replicate N 0).set 0 (u : Int)).map (Value.int .u8)) 5 Tryd.underlying30 infoS_u8 hI (by rw [ba_size, textB_len]; omega) (by rw [ba_size, textB_len]; simp; omega)
  rw [← HE] at hrun
  have hs : ((⟨#[83, 116, 114, 101, 97, 109, 84, 105, 116, 108, 101, 61, 39]⟩ : ByteArray) ++ X ++ ⟨#[39, 59]⟩).size = T.length + 15 := by rw [HE, ba_size, textB_len]
  rw [hs, HE] at hrun
  rw [HE]
  refine ⟨_, hrun, ?_, ?_⟩
  · have k := setRow_heap (W3.setCell ⟨g, 0, none⟩ (.int .u8 (u : Int))) g _ ((((List.replicate N 0).set 0 (u : Int)).map (Value.int .u8)).take 1 ++ (nz (ba (textB T)).data.toList).map (Value.int .u8) ++ (((List.replicate N 0).set 0 (u : Int)).map (Value.int .u8)).drop (1 + (T.length + 15))).toArray _ _ hI
    unfold IRow
    rw [k]
    apply congrArg some
    refine congrArg (fun x : List Value => Obj.cells x.toArray 5 (0, 0)) ?_
    rw [list_ba, hz]
    obtain ⟨M, rfl⟩ : ∃ M, N = M + 1 := ⟨N - 1, by omega⟩
    rw [List.replicate_succ, List.set_cons_zero, List.map_cons, List.take_succ_cons, List.take_zero, show 1 + (T.length + 15) = (T.length + 15) + 1 by omega, List.drop_succ_cons]
    simp
  · exact below_setRow (hB.setCell (p := ⟨g, 0, none⟩) hg _) hg _
theorem due_any (g e n : Nat) (w : World) (c0 : w.cell? ⟨g, 0, none⟩ = some (.int .i64 (e : Int))) (c1 : w.cell? ⟨g, 1, none⟩ = some (.int .i64 (n : Int))) :
    Calls Tryd.prog 19 #[.pointer (some ⟨g, 0, none⟩)] w fun x w' => x = .returned (.bool (decide (0 < e ∧ n = e))) ∧ Below w.heap.size w w' := by
  by_cases h0 : 0 < e
  · have q : (0 : Int) < (e : Int) := by omega
    by_cases h1 : n = e
    · subst h1
      go_enter Tryd.func19, Tryd.ntmps19
      go_wp2
      go_region
      go_wp2
      go_ret
      exact ⟨ret_boolE' (by simp [h0]), Below.drewN' (Below.refl _ w) 1⟩
    · have q1 : ((n : Int) == (e : Int)) = false := by simp; omega
      go_enter Tryd.func19, Tryd.ntmps19
      go_wp2
      go_region
      go_wp2
      go_ret
      exact ⟨ret_boolE' (by simp [h1]), Below.drewN' (Below.refl _ w) 1⟩
  · have q : ¬ (0 : Int) < (e : Int) := by omega
    go_enter Tryd.func19, Tryd.ntmps19
    go_wp2
    go_region
    go_wp2
    go_ret
    exact ⟨ret_boolE' (by simp [h0]), Below.drewN' (Below.refl _ w) 1⟩
set_option maxRecDepth 100000 in
set_option maxHeartbeats 1000000 in
theorem block_any (s : ByteArray) (w : World) (hs : s.size ≤ 5000) :
    Calls Tryd.prog 16 #[.string s] w fun x w' => ∃ g, x = .returned (.slice (some ⟨g, 0, none⟩) (blkF (titleF s.data.toList)).length (blkF (titleF s.data.toList)).length) ∧ IRow w' g 5 .u8 (nz (blkF (titleF s.data.toList))) ∧ w.heap.size ≤ g ∧ Below w.heap.size w w' := by
  have C := title_any s w hs
  have hT := titleF_len s.data.toList
  generalize titleF s.data.toList = T at *
  obtain ⟨m, hm⟩ : ∃ m, T.length = m := ⟨_, rfl⟩
  have hXs : (ba T).size = m := by rw [ba_size, hm]
  have HE : RowKit.Hid ((⟨#[83, 116, 114, 101, 97, 109, 84, 105, 116, 108, 101, 61, 39]⟩ : ByteArray) ++ ba T ++ ⟨#[39, 59]⟩ = ba (textB T)) := by
    show _ ++ _ ++ _ = _
    rw [show (⟨#[83, 116, 114, 101, 97, 109, 84, 105, 116, 108, 101, 61, 39]⟩ : ByteArray) = ba ahead20 from rfl, show (⟨#[39, 59]⟩ : ByteArray) = ba behind20 from rfl, ba_append, ba_append]
    rfl
  have hm60 : m ≤ 60 := by omega
  obtain ⟨X, hX⟩ : ∃ X, ba T = X := ⟨_, rfl⟩
  rw [hX] at C hXs HE
  have HX := Lib.hid hX
  clear hX
  obtain ⟨u, hu⟩ : ∃ u, unitsB T = u := ⟨_, rfl⟩
  have hu2 : (m + 30) / 16 = u := by rw [← hu, ← hm]; rfl
  obtain ⟨N, hN⟩ : ∃ N, 16 * u + 1 = N := ⟨_, rfl⟩
  have q1 : (1 : Int) + (u : Int) * 16 = (N : Int) := by omega
  have q2 : (13 + (m : Int) + 2 + 16 - 1) / 16 = (u : Int) := by omega
  have hmk : ∀ w : World, (Instr.makeSlice 30 (.int .i64 (N : Int)) (.int .i64 (N : Int))).run Tryd.prog w = .ok (.slice (some ⟨w.heap.size, 0, none⟩) N N) (w.alloc (.cells (madeCells #[.int .u8 0] N) 5)) := by
    intro w
    exact make_zeros (P := Tryd.prog) Tryd.underlying30 infoE_u8 N (by omega) (by omega) w
  have HQ : RowKit.Hid (m ≤ 60 ∧ 16 * u + 1 = N ∧ (m + 30) / 16 = u) := ⟨hm60, hN, hu2⟩
  have HZ : RowKit.Hid ((nz (blkF T)).length = N ∧ (u : Int) = (((unitsB T).toUInt8).toNat : Int) ∧ (nz (blkF T)) = (u : Int) :: (nz (textB T) ++ List.replicate (N - 1 - (m + 15)) 0)) := by
    have e1 : (((unitsB T).toUInt8).toNat : Int) = (u : Int) := by rw [u8_units (by omega), hu]
    refine ⟨by rw [nz_len, blkF_len, hu, hN], e1.symm, ?_⟩
    show ((((unitsB T).toUInt8).toNat : Int)) :: nz (tailB T) = _
    rw [e1]
    congr 1
    unfold tailB
    rw [nz_append, hu, hm]
    congr 1
    rw [← hN]
    simp [nz]
  go_enter Tryd.func16, Tryd.ntmps16
  go_wp2_with (first
    | (go_at_call 26; refine C.mono ?_; rintro e w2 ⟨rfl, hb⟩; have HB := Lib.hid hb; clear hb; obtain ⟨W3, hW3⟩ : ∃ W3, w2.alloc (.cells (madeCells #[.int .u8 0] N) 5) = W3 := ⟨_, rfl⟩; have HI := Lib.hid (IRow.zeros w2 5 .u8 N); have HB3 := Lib.hid (HB.out.alloc HB.out.size (.cells (madeCells #[.int .u8 0] N) 5)); have hmk2 := hmk w2; rw [hW3] at HI HB3 hmk2; have c0 := HI.out.cell (j := 0) (by simp; omega); have f0 := HI.out.frozen 0; go_loud (obtain ⟨W5, hcp, hI5, hB5⟩ := block_copied (T := T) (X := X) HE.out (g := w2.heap.size) HI.out HB3.out HB.out.size (by have := HQ.out; omega) (by have := HQ.out; omega) (by rw [hm]; exact HZ.out.2.2) (by rw [hXs, hm]) (by have := HQ.out; omega)); have HI5 := Lib.hid hI5; have HB5 := Lib.hid hB5; clear hI5 hB5; clear hmk)
    | fail)
  go_ret
  exact ⟨_, ret_slE (by have := HZ.out.1; rw [nz_len] at this; exact this.symm), HI5.out, HB.out.size, HB5.out⟩
end Go.Proofs.YtebfjmjdcbeekaaDoor
