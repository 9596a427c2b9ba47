/- What the document's answer gives: a title's block. -/
import Derived.Test.YtebfjmjdcbeekaaDoorWeaC
import Derived.Lib.ConvBytes
import Derived.Lib.AtoiErrMem
namespace Go.Proofs.YtebfjmjdcbeekaaDoor
open Go.RowKit Go.PlainAid
set_option linter.unusedVariables false
set_option linter.unusedSimpArgs false

theorem OwnB.some_ {w : World} {base : Nat} {v : Value} {l : List UInt8} (h : OwnB w base v l) (h0 : 0 < l.length) : ∃ g c, v = .slice (some ⟨g, 0, none⟩) l.length c ∧ base ≤ g := by
  rcases h.2 with ⟨e, hn⟩ | ⟨g, cap, cur, e, h2, _⟩
  · omega
  · exact ⟨g, cap, e, h2⟩
/-- A text as bytes, in a row of its own. -/
theorem text_bytes (w : World) (q : ByteArray) : ∃ W2 cap, (convert 9 30 (.string q)).run Tryd.prog w = .ok (.slice (some ⟨w.heap.size, 0, none⟩) q.size cap) W2 ∧ (q.size ≤ 9223372036854775807 → BytA W2 (some ⟨w.heap.size, 0, none⟩) q.size cap q.data.toList) ∧ Below w.heap.size w W2 := by
  refine ⟨_, _, Lib.run_convert_string_bytes w 9 30 5 q Tryd.underlying9 Tryd.underlying30 Tryd.underlying5, fun hq => ?_, Lib.bytesWorld_below _ _ _⟩
  refine ⟨⟨by rw [nz_len, len_list], .inr ⟨w.heap.size, 0, rfl, by rw [Lib.bytesWorld_size]; omega, hq, fun j hj => ?_⟩⟩, len_list q, ?_, fun e => by cases e⟩
  · rw [Nat.zero_add, Lib.bytesWorld_cell w _ q j hj, nz_get]
  · have := (Array.getElem?_eq_some_iff.1 (Lib.bytesWorld_at_new w 5 q)).1
    exact grownCap_ge _ _ _ _
/-- How long a slice is. -/
def lenV20 : Value → Nat
  | .slice _ n _ => n
  | _ => 0
def rowT (T : List UInt8) (j : Nat) : List UInt8 := 0 :: (textB T ++ List.replicate j 0)
theorem rowT_len (T : List UInt8) (j : Nat) : (rowT T j).length = T.length + 16 + j := by simp [rowT, textB_len]; omega
theorem rowT_more (T : List UInt8) (j : Nat) : rowT T j ++ [0] = rowT T (j + 1) := by
  unfold rowT
  rw [List.replicate_succ', List.cons_append, List.append_assoc]
theorem rowT_all (T : List UInt8) : (rowT T (16 * unitsB T - (T.length + 15))).set 0 (unitsB T).toUInt8 = blkF T := rfl
/-- A block in a row of one's own. -/
def RbPost (T : List UInt8) (w : World) (x : Ending) (w' : World) : Prop := ∃ v, x = .returned v ∧ OwnB w' w.heap.size v (blkF T) ∧ Below w.heap.size w w'
set_option maxRecDepth 100000 in
set_option maxHeartbeats 1000000 in
theorem refBlock_any (s : ByteArray) (w : World) (hs : s.size ≤ 5000) :
    Calls Tryd.prog 33 #[.string s] w (RbPost (titleF s.data.toList) w) := by
  have C := fun W : World => refTitle_any s W hs
  have hT := titleF_len s.data.toList
  generalize titleF s.data.toList = T at *
  obtain ⟨m, hm⟩ : ∃ m, T.length = m := ⟨_, rfl⟩
  have hm60 : m ≤ 60 := by omega
  have hXs : (ba T).size = m := by rw [ba_size, hm]
  have HE : RowKit.Hid ((⟨#[83, 116, 114, 101, 97, 109, 84, 105, 116, 108, 101, 61, 39]⟩ : ByteArray) ++ ba T ++ ⟨#[39, 59]⟩ = ba (textB T)) := by
    show _ ++ _ ++ _ = _
    rw [show (⟨#[83, 116, 114, 101, 97, 109, 84, 105, 116, 108, 101, 61, 39]⟩ : ByteArray) = ba ahead20 from rfl, show (⟨#[39, 59]⟩ : ByteArray) = ba behind20 from rfl, ba_append, ba_append]
    rfl
  obtain ⟨w1, hw1⟩ : ∃ w1, w.alloc (.cells #[.int .u8 0] 5) = w1 := ⟨_, rfl⟩
  have HO1 : RowKit.Hid (OwnB w1 w.heap.size (.slice (some ⟨w.heap.size, 0, none⟩) 1 1) [0]) := by
    rw [← hw1]
    exact World.ownsRow_lit (base := w.heap.size) (e := 5) (size := 1) w #[.int .u8 0] 1 (Nat.le_refl _) (by decide) rfl
  have HB1 : RowKit.Hid (Below w.heap.size w w1) := by rw [← hw1]; exact Below.alloc_new _ _
  have hcv := text_bytes w1 (ba (textB T))
  obtain ⟨W2, cap2, hcv, HA2, HB2⟩ := hcv
  have HA2 := Lib.hid (HA2 (by rw [ba_size, textB_len]; omega))
  rw [ba_size, textB_len, hm, ← HE.out] at hcv
  rw [list_ba, ba_size, textB_len, hm] at HA2
  have HB2 := Lib.hid HB2
  obtain ⟨X, hX⟩ : ∃ X, ba T = X := ⟨_, rfl⟩
  rw [hX] at C hXs HE hcv
  have HW1 := Lib.hid hw1
  clear hX
  go_enter Tryd.func33, Tryd.ntmps33
  go_wp2_with (first
    | (go_at_call 32; refine (C _).mono ?_; rintro e w2 ⟨rfl, rfl⟩)
    | (at_builtin; go_loud (refine app_bytes rfl _ _ 30 Tryd.underlying30 rfl w.heap.size (.slice (some ⟨w.heap.size, 0, none⟩) 1 1) [0] rfl (HO1.out.below HB2.out) _ (m + 15) cap2 (textB T) rfl HA2.out (by simp; omega) (by have := HB1.out.size; have := HB2.out.size; omega) ?_); intro v3 w3 ho3 hg3 _; have HO3 := Lib.hid ho3; have HB3 := Lib.hid ((chain HB1.out HB2.out).grown hg3 (by have := HB1.out.size; have := HB2.out.size; omega) (own_base (HO1.out.below HB2.out))); clear ho3 hg3)
    | fail)
  obtain ⟨J, hJ⟩ : ∃ J, 16 * unitsB T - (T.length + 15) = J := ⟨_, rfl⟩
  have hJ1 : m + 15 + J = 16 * unitsB T := by have := unitsB_ge T; omega
  have hJ2 : J < 16 := by have := unitsB_lt T; omega
  have hu5 := unitsB_le (T := T) (by omega)
  have HL : RowKit.Hid (∀ j, (rowT T j).length = m + 16 + j) := fun j => by rw [rowT_len, hm]
  have HJ : RowKit.Hid (16 * unitsB T - (T.length + 15) = J) := hJ
  have H0 : RowKit.Hid (OwnB w3 w.heap.size v3 (rowT T 0) ∧ Below w.heap.size w w3) := ⟨by have := HO3.out; simpa [rowT] using this, HB3.out⟩
  clear HO3 HB3 HE hcv HW1 HA2 HB2 HB1 HO1 C hw1
  go_loopw [3] (fun v wr => ∃ (j : Nat) (u : Value), u = v ∧ j ≤ J ∧ lenV20 u = m + 16 + j ∧ RowKit.Hid (OwnB wr w.heap.size u (rowT T j) ∧ Below w.heap.size w wr)) (fun v _ => m + 100 - lenV20 v)
  case atStart => exact ⟨0, _, rfl, by omega, by obtain ⟨a, c, e⟩ := H0.out.1.form; rw [e]; exact HL.out 0, H0⟩
  case round =>
    clear H0
    obtain ⟨j, u, rfl, hj, hlen, H⟩ := hrel
    obtain ⟨g, c, rfl, hgb⟩ := H.out.1.some_ (by rw [HL.out]; omega)
    rw [HL.out] at H ⊢
    obtain ⟨N, hN⟩ : ∃ N, m + 16 + j = N := ⟨_, rfl⟩
    have HN := Lib.hid hN
    have HLj : RowKit.Hid ((rowT T j).length = N) := by show _ = _; rw [HL.out, hN]
    rw [hN] at H ⊢
    clear hlen
    have hN200 : N ≤ 100 := by omega
    by_cases hlt : j < J
    · have q : (((N : Int) % 16) == 1) = false := by
        have : ¬ (N : Int) % 16 = 1 := by omega
        simpa using this
      have HX : RowKit.Hid (BytA (wr.alloc (.cells #[.int .u8 0] 5)) (some ⟨wr.heap.size, 0, none⟩) 1 1 [0]) := BytA.lit wr 5 #[.int .u8 0] (0, 0) [0] rfl (by simp)
      have HO := Lib.hid (H.out.1.below (Below.alloc_new wr (.cells #[.int .u8 0] 5)))
      have HB := Lib.hid (H.out.2.alloc H.out.2.size (.cells #[.int .u8 0] 5))
      clear hN H
      go_wp2_with (first
        | (at_builtin; go_loud (refine app_bytes rfl _ _ 30 Tryd.underlying30 rfl w.heap.size _ (rowT T j) rfl HO.out _ 1 1 [0] rfl HX.out (by rw [HLj.out]; omega) HB.out.size ?_); intro v4 w4 ho4 hg4 _; rw [rowT_more] at ho4; have HO4 := Lib.hid ho4; have HB4 := Lib.hid (HB.out.grown hg4 HB.out.size (own_base HO.out)); clear ho4 hg4)
        | fail)
      go_roundw
      case rel => exact ⟨j + 1, v4, rfl, by omega, by obtain ⟨a, c, e⟩ := HO4.out.form; rw [e]; exact HL.out (j + 1), HO4.out, HB4.out⟩
      case measure =>
        have h1 : lenV20 v4 = m + 16 + (j + 1) := by obtain ⟨a, c, e⟩ := HO4.out.form; rw [e]; exact HL.out (j + 1)
        have h2 := HN.out
        show m + 100 - lenV20 v4 < m + 100 - N
        omega
    · obtain rfl : j = J := by omega
      obtain ⟨u, hu⟩ : ∃ u, unitsB T = u := ⟨_, rfl⟩
      have q : (((N : Int) % 16) == 1) = true := by
        have : (N : Int) % 16 = 1 := by omega
        simpa using this
      have q1 : (N : Int) / 16 = (u : Int) := by omega
      have HOw : wr.ownsRow w.heap.size 5 1 (.slice (some ⟨g, 0, none⟩) N c) N ((nz (rowT T j)).map (Value.int .u8)) := by
        have := H.out.1
        unfold OwnB at this
        rw [HLj.out] at this
        exact this
      have c0 : wr.cell? ⟨g, 0, none⟩ = some (.int .u8 0) := by
        rw [HOw.cellAt 0 (by omega)]
        rfl
      have f0 := HOw.frozenAt 0
      have q2 : (0 : Int) < (N : Int) := by omega
      have q3 : IntKind.u8.wrap (u : Int) = (u : Int) := IntWalk.u8_in _ (by omega)
      have HF : RowKit.Hid (OwnB (wr.setCell ⟨g, 0, none⟩ (.int .u8 (u : Int))) w.heap.size (.slice (some ⟨g, 0, none⟩) N c) (blkF T) ∧ Below w.heap.size w (wr.setCell ⟨g, 0, none⟩ (.int .u8 (u : Int)))) := by
        refine ⟨?_, H.out.2.setCell (p := ⟨g, 0, none⟩) hgb _⟩
        have k := (HOw.stored 0 (.int .u8 (u : Int))).1
        have e := rowT_all T
        rw [HJ.out] at e
        unfold OwnB
        rw [← e, List.length_set, HLj.out]
        unfold nz
        rw [List.map_set, List.map_set, u8_units (by omega), hu]
        exact k
      clear H hN hu HOw
      go_wp2
      go_ret
      exact ⟨_, rfl, HF.out.1, HF.out.2⟩
end Go.Proofs.YtebfjmjdcbeekaaDoor
