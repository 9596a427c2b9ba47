/- The law's own functions, the chapter's example, and no reader. -/
import Derived.Test.YtkledfalplekeaaDoorReqZ
import Derived.Test.YtkledfalplekeaaDoorReqF
namespace Go.Proofs.YtkledfalplekeaaDoor
open Go.RowKit Go.PlainAid
set_option linter.unusedVariables false

theorem info_rf17 : (Tryd.prog.info? 27).map (·.size) = some 5 := by kernel_rfl
theorem results_cel1 {fn : Func} {p : Tmp} {ty : TypeId} {tmps : Array Value} {P : Program} {w : World} {g : Nat} {v : Value} (h : fn.results = #[.cell p ty]) (hp : tmps.getD p undef = .pointer (some ⟨g, 0, none⟩))
    (e : (loadVar ty ⟨g, 0, none⟩).run P w = .ok v w) : (results fn tmps).run P w = .ok v w := by
  have hp' : tmps[p]?.getD undef = .pointer (some ⟨g, 0, none⟩) := by simpa using hp
  simp only [results, h]
  simp [hp', asAddr, e]
set_option maxHeartbeats 4000000 in
theorem of_any (R : Q17) (w : World) : Calls Tryd.prog 11 #[reqV R] w fun e w' => e = .returned (reqV R) ∧ Below w.heap.size w w' := by
  obtain ⟨w1, hw1⟩ : ∃ w1, w.alloc (.cells #[.int .i64 (R.m : Int), .string (ba R.path), .bool R.icy, .bool R.told, .string (ba R.pass)] 36) = w1 := ⟨_, rfl⟩
  have HF : RowKit.Hid (Cel (w1.alloc (.cells #[.int .i64 (R.m : Int), .string (ba R.path), .bool R.icy, .bool R.told, .string (ba R.pass)] 27)) w1.heap.size 27 #[.int .i64 (R.m : Int), .string (ba R.path), .bool R.icy, .bool R.told, .string (ba R.pass)] ∧ Below w.heap.size w (w1.alloc (.cells #[.int .i64 (R.m : Int), .string (ba R.path), .bool R.icy, .bool R.told, .string (ba R.pass)] 27))) := by
    refine ⟨Cel.new w1 _ _, ?_⟩
    have b1 : Below w.heap.size w w1 := by rw [← hw1]; exact Below.alloc_new w _
    exact chain b1 (Below.alloc_new w1 _)
  have hc0 : Cel (w1.alloc (.cells #[.int .i64 0, .string ⟨#[]⟩, .bool false, .bool false, .string ⟨#[]⟩] 27)) w.heap.size 36 #[.int .i64 (R.m : Int), .string (ba R.path), .bool R.icy, .bool R.told, .string (ba R.pass)] := by
    have : Cel w1 w.heap.size 36 #[.int .i64 (R.m : Int), .string (ba R.path), .bool R.icy, .bool R.told, .string (ba R.pass)] := by rw [← hw1]; exact Cel.new w _ _
    exact this.alloc _
  have m0 : (w1.alloc (.cells #[.int .i64 0, .string ⟨#[]⟩, .bool false, .bool false, .string ⟨#[]⟩] 27)).cell? ⟨w.heap.size, 0, none⟩ = some (.int .i64 (R.m : Int)) := hc0.cell 0
  have m1 : (w1.alloc (.cells #[.int .i64 0, .string ⟨#[]⟩, .bool false, .bool false, .string ⟨#[]⟩] 27)).cell? ⟨w.heap.size, 1, none⟩ = some (.string (ba R.path)) := hc0.cell 1
  have m2 : (w1.alloc (.cells #[.int .i64 0, .string ⟨#[]⟩, .bool false, .bool false, .string ⟨#[]⟩] 27)).cell? ⟨w.heap.size, 2, none⟩ = some (.bool R.icy) := hc0.cell 2
  have m3 : (w1.alloc (.cells #[.int .i64 0, .string ⟨#[]⟩, .bool false, .bool false, .string ⟨#[]⟩] 27)).cell? ⟨w.heap.size, 3, none⟩ = some (.bool R.told) := hc0.cell 3
  have m4 : (w1.alloc (.cells #[.int .i64 0, .string ⟨#[]⟩, .bool false, .bool false, .string ⟨#[]⟩] 27)).cell? ⟨w.heap.size, 4, none⟩ = some (.string (ba R.pass)) := hc0.cell 4
  clear hc0
  unfold reqV
  go_enter Tryd.func11, Tryd.ntmps11
  go_wp2
  (try simp only [Exit.inBlock, Exit.then])
  refine bodyPost_ret (results_cel1 rfl rfl (run_loadVar_row _ w1.heap.size _ _ _ (0, 0) _ HF.out.1 Tryd.underlying27 rfl info_rf17)) rfl ?_
  exact ⟨rfl, HF.out.2⟩
set_option maxHeartbeats 2000000 in
theorem rFeed_nil (c : Int) (w : World) : Calls Tryd.prog 9 #[.pointer none, .int .u8 c] w fun e w' => e = .returned (.tuple #[.bool false, .int .i64 1]) ∧ w = w' := by
  go_enter Tryd.func9, Tryd.ntmps9
  go_wp2
  go_ret2
  exact ⟨rfl, rfl⟩

/-! ### A text, byte by byte -/
noncomputable def runS (S : S17) (l : List UInt8) : S17 := l.foldl S17.next S
noncomputable def wholeF : S17 → List UInt8 → Bool → Bool
  | _, [], b => b
  | S, c :: l, _ => wholeF (S.next c) l (if S.done then false else (S.next c).done)
theorem next_done {S : S17} (h : S.done = true) (c : UInt8) : S.next c = S := by unfold S17.next; rw [if_pos h]
set_option maxHeartbeats 8000000 in
set_option maxRecDepth 100000 in
theorem feed_any (s : ByteArray) (w : World) (hs : s.size ≤ 1000) (hT : Lib.Utf8Tabs 1 2 w) :
    Calls Tryd.prog 13 #[.string s] w fun e w' => ∃ g, e = .returned (.tuple #[.pointer (some ⟨g, 0, none⟩), .bool (wholeF s17Zero s.data.toList false)]) ∧ RqAt w' w.heap.size g (runS s17Zero s.data.toList) ∧ Below w.heap.size w w' := by
  have hb := get_bt s
  have HB : RowKit.Hid (∀ k, bt s k = ((s.data.toList.getD k 0).toNat : Int)) := bt_list s
  have HDr : RowKit.Hid (∀ i, i < s.size → s.data.toList.drop i = s.data.toList.getD i 0 :: s.data.toList.drop (i + 1)) := fun i hi => drop_cons _ i (by rw [len_list]; exact hi)
  have HDe : RowKit.Hid (∀ i, ¬ i < s.size → s.data.toList.drop i = []) := fun i hi => drop_end _ i (by rw [len_list]; omega)
  have HT := Lib.hid (TabB.start hT)
  obtain ⟨W, hW⟩ : ∃ x, wholeF s17Zero s.data.toList false = x := ⟨_, rfl⟩
  obtain ⟨T, hTt⟩ : ∃ x, runS s17Zero s.data.toList = x := ⟨_, rfl⟩
  have HZ : RowKit.Hid (wholeF s17Zero (s.data.toList.drop 0) false = W ∧ runS s17Zero (s.data.toList.drop 0) = T) := ⟨hW, hTt⟩
  rw [hW, hTt]
  clear hW hTt hT
  go_enter Tryd.func13, Tryd.ntmps13
  go_wp2_with (go_at_call 7; refine (new_any w).mono ?_; rintro e w1 ⟨rfl, hc, b1⟩)
  have HI : RowKit.Hid (RqAt w1 w.heap.size w.heap.size s17Zero ∧ TabB w.heap.size w1 ∧ Below w.heap.size w w1 ∧ S17.Ok s17Zero) := ⟨.start hc (Nat.le_refl _), HT.out.below b1, b1, s17Zero_ok⟩
  obtain ⟨g, hg⟩ : ∃ g, w.heap.size = g := ⟨_, rfl⟩
  have HG := Lib.hid hg
  clear hc b1
  rw [hg] at HI ⊢
  go_loopw [5, 10] (fun b v wr => ∃ (i : Nat) (S : S17) (x : Bool), b = .bool x ∧ v = .int .i64 i ∧ i ≤ s.size ∧ RowKit.Hid ((wholeF S (s.data.toList.drop i) x = W ∧ runS S (s.data.toList.drop i) = T) ∧ RqAt wr g g S ∧ TabB g wr ∧ Below g w wr ∧ S.Ok)) (fun _ v _ => s.size - (intOf v).toNat)
  case atStart => exact ⟨0, s17Zero, false, rfl, rfl, by omega, HZ.out, HI.out⟩
  case round =>
    clear HI HZ
    obtain ⟨i, S, x, rfl, rfl, hi, H⟩ := hrel
    by_cases hlt : i < s.size
    · obtain ⟨c, hc⟩ : ∃ c, s.data.toList.getD i 0 = c := ⟨_, rfl⟩
      have hbi : bt s i = (c.toNat : Int) := by rw [HB.out, hc]
      have e := HDr.out i hlt
      rw [hc] at e
      have HE : RowKit.Hid (wholeF (S.next c) (s.data.toList.drop (i + 1)) (if S.done then false else (S.next c).done) = W ∧ runS (S.next c) (s.data.toList.drop (i + 1)) = T) := by
        have := H.out.1
        rw [e] at this
        exact this
      clear e hc
      cases hd : S.done with
      | true =>
        have C := rFeed_over g g S (c.toNat : Int) wr H.out.2.1 hd
        have HE2 : RowKit.Hid (wholeF S (s.data.toList.drop (i + 1)) false = W ∧ runS S (s.data.toList.drop (i + 1)) = T) := by
          have := HE.out
          rw [next_done hd, hd] at this
          exact this
        have HR := Lib.hid H.out.2
        clear HE hd H
        generalize (c.toNat : Int) = k at *
        go_wp2_with (go_at_call 9; refine C.mono ?_; rintro e w3 ⟨rfl, rfl⟩)
        go_roundw
        case rel => exact ⟨i + 1, S, false, rfl, by go_num, by omega, HE2.out, HR.out⟩
        case measure => simp [intOf]; omega
      | false =>
        have C := rFeed_any g g S c wr H.out.2.1 hd H.out.2.2.2.2 H.out.2.2.1
        have HN := Lib.hid (next_ok H.out.2.2.2.2 c)
        have HE2 : RowKit.Hid (wholeF (S.next c) (s.data.toList.drop (i + 1)) (S.next c).done = W ∧ runS (S.next c) (s.data.toList.drop (i + 1)) = T) := by
          have := HE.out
          rw [hd] at this
          exact this
        have HR := Lib.hid H.out.2
        clear HE hd H
        generalize S.next c = U at *
        generalize (c.toNat : Int) = k at *
        go_wp2_with (go_at_call 9; refine C.mono ?_; rintro e w3 ⟨rfl, h3, k3⟩; have H3 := Lib.hid h3; have K3 := Lib.hid k3; clear h3 k3)
        go_roundw
        case rel =>
          refine ⟨i + 1, U, U.done, rfl, by go_num, by omega, HE2.out, H3.out, HR.out.2.1.keeps K3.out ?_, HR.out.2.2.1.trans (K3.out.below ?_ ?_), HN.out⟩
          · intro j hj; rcases hj with rfl | ⟨hj, _⟩; exact Nat.le_refl _; exact hj
          · have := HR.out.2.2.1.size; have := HG.out; omega
          · intro j hj; rcases hj with rfl | ⟨hj, _⟩; exact Nat.le_refl _; exact hj
        case measure => simp [intOf]; omega
    · have hx : x = W ∧ S = T := by
        have := H.out.1
        rw [HDe.out i hlt] at this
        exact this
      obtain ⟨rfl, rfl⟩ := hx
      go_wp2
      go_ret2
      exact ⟨g, rfl, by rw [HG.out]; exact H.out.2.1, by rw [HG.out]; exact H.out.2.2.2.1⟩

/-! ### The chapter's example -/
def exQ : List UInt8 := [71, 69, 84, 32, 47, 108, 105, 118, 101, 32, 72, 84, 84, 80, 47, 49, 46, 48, 13, 10, 13, 10]
theorem ex_whole : wholeF s17Zero exQ false = true := by decide +kernel
theorem ex_done : (runS s17Zero exQ).done = true := by decide +kernel
theorem ex_m : (runS s17Zero exQ).R.m = 1 := by decide +kernel
theorem ex_path : (runS s17Zero exQ).R.path = [47, 108, 105, 118, 101] := by decide +kernel
end Go.Proofs.YtkledfalplekeaaDoor
