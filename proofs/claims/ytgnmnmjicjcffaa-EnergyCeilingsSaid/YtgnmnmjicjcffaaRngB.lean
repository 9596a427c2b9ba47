/- What the document's encoder of layer 6 gives: a new one, its bytes. -/
import Derived.Test.YtgnmnmjicjcffaaRngF
namespace Go.Proofs.Ytgnmnmjicjcffaa
open Go.RowKit
set_option linter.unusedVariables false

theorem refEncNew_any (w : World) :
    Calls Try.prog 15 #[] w fun x w' => x = .returned (.pointer (some ⟨w.heap.size + 1, 0, none⟩)) ∧ EncMem w' w.heap.size (w.heap.size + 1) w.heap.size 4 (digL 0 4) 4294967295 0 ∧ Below w.heap.size w w' := by
  have HB := Lib.hid ((Below.alloc_new w (.cells #[.int .i64 0, .int .i64 0, .int .i64 0, .int .i64 0] 3)).alloc (by simp) (.cells #[.slice (some ⟨w.heap.size, 0, none⟩) 4 4, .int .i64 4294967295, .int .i64 0] 58))
  have HO := Lib.hid (World.ownsRow.alloc (World.ownsRow_lit (base := w.heap.size) (e := 3) (size := 1) w #[.int .i64 0, .int .i64 0, .int .i64 0, .int .i64 0] 4 (Nat.le_refl _) (by decide) rfl) (.cells #[.slice (some ⟨w.heap.size, 0, none⟩) 4 4, .int .i64 4294967295, .int .i64 0] 58))
  have hc := Cel.new (w.alloc (.cells #[.int .i64 0, .int .i64 0, .int .i64 0, .int .i64 0] 3)) 58 #[.slice (some ⟨w.heap.size, 0, none⟩) 4 4, .int .i64 4294967295, .int .i64 0]
  have e1 : (w.alloc (.cells #[.int .i64 0, .int .i64 0, .int .i64 0, .int .i64 0] 3)).heap.size = w.heap.size + 1 := by simp
  rw [e1] at hc
  have HC := Lib.hid hc
  clear hc e1
  go_enter Try.func15, Try.ntmps15
  go_wp2
  go_ret
  exact ⟨rfl, ⟨HC.out, HO.out, Nat.le_succ _⟩, HB.out⟩

/-! ### Bytes -/
/-- The last of the first k digits that isn't 0. -/
def lastK (D : List Int) : Nat → Int
  | 0 => -1
  | k + 1 => if D.getD k 0 = 0 then lastK D k else k
theorem lastK_bd (D : List Int) (k : Nat) : -1 ≤ lastK D k ∧ lastK D k < k := by
  induction k with
  | zero => exact ⟨Int.le_refl _, by show (-1 : Int) < 0; decide⟩
  | succ k ih => unfold lastK; split <;> omega
theorem lastK_over {D : List Int} : ∀ k j : Nat, lastK D k < j → j < k → D.getD j 0 = 0 := by
  intro k
  induction k with
  | zero => intro j _ h; omega
  | succ k ih =>
    intro j h1 h2
    unfold lastK at h1
    by_cases e : D.getD k 0 = 0
    · rw [if_pos e] at h1
      by_cases ej : j = k
      · subst ej; exact e
      · exact ih j h1 (by omega)
    · rw [if_neg e] at h1; omega
/-- Digits as bytes: without noughts behind. -/
def bytesL (D : List Int) : List Int := D.take (lastK D D.length + 1).toNat
theorem bytesL_len (D : List Int) : (bytesL D).length = (lastK D D.length + 1).toNat := by
  have := lastK_bd D D.length
  unfold bytesL; simp; omega
theorem info_u806 : (Try.prog.info? 5).map (fun i => (i.zero, i.size, i.bytes)) = some (some (.int .u8 0), 1, 1) := by kernel_rfl

def BytesPost (b : List Int) (w : World) (x : Ending) (w' : World) : Prop := ∃ a c, x = .returned (.slice a b.length c) ∧ IntsAt w' w'.heap.size .u8 a b.length b ∧ Below w.heap.size w w'

set_option maxRecDepth 100000 in
theorem refEncBytes_any (base g r c : Nat) (D : List Int) (s : Int) (k : Nat) (w : World) (hE : EncMem w base g r c D s k) (hd : IsDig D) (hl : D.length ≤ 2000000) :
    Calls Try.prog 19 #[.pointer (some ⟨g, 0, none⟩)] w (BytesPost (bytesL D) w) := by
  obtain ⟨c0, c1, c2⟩ := hE.cells
  have HE := Lib.hid hE
  have HD := Lib.hid hd
  clear hE hd c1 c2
  have HO := Lib.hid (World.ownsRow_nil w w.heap.size 5 1)
  go_enter Try.func19, Try.ntmps19
  go_wp2
  go_loop [4, 5] (fun a i => ∃ j : Nat, j ≤ D.length ∧ i = .int .i64 j ∧ a = .int .i64 (lastK D j)) (fun _ i => D.length - (intOf i).toNat)
  case atStart => exact ⟨0, by omega, rfl, rfl⟩
  case round =>
    obtain ⟨j, hj, rfl, rfl⟩ := hrel
    by_cases hlt : j < D.length
    · have hcell := HE.out.at_ hlt
      have E : RowKit.Hid (lastK D (j + 1) = if D.getD j 0 = 0 then lastK D j else j) := rfl
      have hjl : (j : Int) < (D.length : Int) := by omega
      generalize D.getD j 0 = x at hcell E
      by_cases hx : x = 0
      · have hq : (x != 0) = false := by simpa using hx
        have E2 : RowKit.Hid (lastK D j = lastK D (j + 1)) := by show _ = _; rw [E.out, if_pos hx]
        clear hx
        go_wp2
        go_round
        case rel => exact ⟨j + 1, by omega, by go_num, by rw [E2.out]⟩
        case measure => simp [intOf] <;> omega
      · have hq : (x != 0) = true := by simpa using hx
        have E2 : RowKit.Hid ((j : Int) = lastK D (j + 1)) := by show _ = _; rw [E.out, if_neg hx]
        clear hx
        go_wp2
        go_round
        case rel => exact ⟨j + 1, by omega, by go_num, by rw [E2.out]⟩
        case measure => simp [intOf] <;> omega
    · obtain rfl : j = D.length := by omega
      obtain ⟨b0, b1⟩ := lastK_bd D D.length
      have hbl := bytesL_len D
      obtain ⟨m, hm⟩ : ∃ m : Nat, lastK D D.length = (m : Int) - 1 := ⟨(lastK D D.length + 1).toNat, by omega⟩
      have hbm : (bytesL D).length = m := by rw [hbl, hm]; omega
      have HBm := Lib.hid hbm
      have HTk : RowKit.Hid (bytesL D = D.take m) := by
        show _ = _
        unfold bytesL; rw [hm]; congr 1; omega
      have hmD : m ≤ D.length := by omega
      rw [hm]
      clear hbl hm hbm b0 b1
      go_wp2
      go_loopw [3, 6] (fun v i wr => ∃ q : Nat, q ≤ m ∧ i = .int .i64 q ∧ RowKit.Hid (wr.ownsRow w.heap.size 5 1 v q ((D.take q).map (Value.int .u8)) ∧ Below w.heap.size w wr)) (fun _ i _ => m - (intOf i).toNat)
      case atStart => exact ⟨0, by omega, rfl, HO.out, Below.refl _ _⟩
      case round =>
        obtain ⟨q, hq, rfl, H⟩ := hrel
        clear c0
        have HEr := Lib.hid (HE.out.below H.out.2)
        obtain ⟨c0, _, _⟩ := HEr.out.cells
        by_cases hlt2 : q < m
        · have hcell := HEr.out.at_ (j := q) (by omega)
          obtain ⟨x0, x1⟩ := HD.out q (by omega)
          have HT := Lib.hid (take_snocI D q (by omega))
          have hql : (q : Int) < (D.length : Int) := by omega
          generalize D.getD q 0 = x at hcell x0 x1 HT
          have hsz := H.out.2.size
          have hown0 := Lib.hid (World.ownsRow.alloc H.out.1 (.cells #[.int .u8 x] 5))
          have hsrc := Lib.hid (lit_ints wr 5 .u8 [x] #[.int .u8 x] (0, 0) rfl (by simp))
          have hbel := Lib.hid (H.out.2.alloc hsz (.cells #[.int .u8 x] 5))
          have hob := Lib.hid (own_base H.out.1)
          have e1 : x % 256 = x := by omega
          go_wp2_with (at_builtin; go_loud (refine append_ints rfl _ _ 33 rfl w.heap.size 5 .u8 1 Try.underlying33 info_u806 _ q (D.take q) rfl hown0.out (some ⟨wr.heap.size, 0, none⟩) 1 1 _ [x] rfl hsrc.out (by simp) ?c1 ?c2 ?c3 ?_))
          case c1 => unfold maxLen; omega
          case c2 => omega
          case c3 => first | omega | (simp; omega)
          intro v2 w2 hown hgrow _
          have H2 : RowKit.Hid (w2.ownsRow w.heap.size 5 1 v2 (q + 1) ((D.take (q + 1)).map (Value.int .u8)) ∧ Below w.heap.size w w2) := by
            refine ⟨?_, hbel.out.grown hgrow (by simp; omega) hob.out⟩
            rw [HT.out]; simpa [List.map_take] using hown
          clear hown hgrow
          go_wp2
          go_roundw
          case rel => exact ⟨q + 1, by omega, by go_num, H2.out⟩
          case measure => simp [intOf] <;> omega
        · obtain rfl : q = m := by omega
          have HI := Lib.hid (own_ints H.out.1)
          have HB2 := Lib.hid H.out.2
          clear H
          go_wp2
          go_ret
          obtain ⟨a, cc, rfl, hi⟩ := HI.out
          refine ⟨a, cc, by rw [HBm.out]; rfl, ?_, HB2.out⟩
          rw [HBm.out, HTk.out]; exact hi

end Go.Proofs.Ytgnmnmjicjcffaa
