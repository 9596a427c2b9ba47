/- Plain facts, and what functions give, for the proofs of this seat: several texts in one, each with its own first remark. -/
import Derived.Test.YtmgfkdmjgjlkjaaGreatAj

namespace Go.Proofs.YtmgfkdmjgjlkjaaGreat
open Go.RowKit
set_option linter.unusedVariables false
theorem bytesL_get (D : List Int) (j : Nat) : byteF (bytesL D) j = byteF D j := by
  unfold byteF
  have hb := lastK_bd D D.length
  by_cases h : j < (lastK D D.length + 1).toNat
  · unfold bytesL
    simp [List.getD, h]
  · have e : (bytesL D).getD j 0 = 0 := by
      rw [List.getD, List.getElem?_eq_none (by rw [bytesL_len]; omega)]; rfl
    rw [e]
    by_cases hj : j < D.length
    · exact (lastK_over D.length j (by omega) hj).symm
    · rw [List.getD, List.getElem?_eq_none (by omega)]; rfl
def OpenPost (b : List Int) (w : World) (x : Ending) (w' : World) : Prop := ∃ g v, x = .returned (.pointer (some ⟨g, 0, none⟩)) ∧ DecMem w' w.heap.size g v b (decNew (byteF b)) ∧ Below w.heap.size w w'
set_option maxRecDepth 100000 in
theorem refOpen_any (a : Option Addr) (len cap : Nat) (b : List Int) (w : World) (h : IntsAt w w.heap.size .u8 a len b) (hn : a = none → cap = 0) (hb : ∀ j, 0 ≤ byteF b j ∧ byteF b j ≤ 255) (hl : len ≤ 1000000) :
    Calls Tryz.prog 43 #[.slice a len cap] w (OpenPost b w) := by
  have HI := Lib.hid h
  have HN := Lib.hid hn
  have HB := Lib.hid hb
  have hbl := Lib.hid h.1
  have hown0 := Lib.hid (World.ownsRow_lit (base := w.heap.size) (e := 5) (size := 1) w #[] 0 (Nat.le_refl _) (by decide) rfl)
  have hbel0 := Lib.hid (Below.alloc_new w (.cells #[] 5))
  clear h hn hb
  go_enter Tryz.func43, Tryz.ntmps43
  go_wp2_with (at_builtin; go_loud (refine append_ints rfl _ _ 43 rfl w.heap.size 5 .u8 1 Tryz.underlying43 info_u806 _ 0 [] rfl hown0.out a len cap w.heap.size b rfl (HI.out.below hbel0.out) HN.out ?c1 ?c2 (by simp) ?_))
  case c1 => unfold maxLen; omega
  case c2 => omega
  intro v2 w2 hown hgrow _
  obtain ⟨a2, cp2, rfl⟩ := own_form (zs := b) (by simpa using hown)
  have hown2 : w2.ownsRow w.heap.size 5 1 (.slice a2 len cp2) len (b.map (Value.int .u8)) := by simpa using hown
  have hb2 : Below w.heap.size w w2 := hbel0.out.grown hgrow (by simp) (own_base hown0.out)
  have H0 : RowKit.Hid (DecMem (w2.alloc (.cells #[.slice a2 len cp2, .int .i64 0, .int .i64 0, .int .i64 4294967295] 146)) w.heap.size w2.heap.size (.slice a2 len cp2) b ⟨valB (byteF b) 0, 4294967295, 0⟩ ∧ Below w.heap.size w (w2.alloc (.cells #[.slice a2 len cp2, .int .i64 0, .int .i64 0, .int .i64 4294967295] 146))) :=
    ⟨⟨Cel.new w2 _ _, by rw [hbl.out]; exact World.ownsRow.alloc hown2 _, hb2.size⟩, hb2.alloc hb2.size _⟩
  have hsz := hb2.size
  clear hown hown2 hgrow hb2
  go_wp2
  generalize hgg : w2.heap.size = g at H0 hsz ⊢
  clear hgg
  go_loopw [4] (fun i wr => ∃ q : Nat, q ≤ 4 ∧ i = .int .i64 q ∧ RowKit.Hid (DecMem wr w.heap.size g (.slice a2 len cp2) b ⟨valB (byteF b) q, 4294967295, q⟩ ∧ Below w.heap.size w wr ∧ valB (byteF b) q < P256 q ∧ 0 ≤ valB (byteF b) q)) (fun i _ => 4 - (intOf i).toNat)
  case atStart => exact ⟨0, by omega, rfl, H0.out.1, H0.out.2, by show (0 : Int) < 1; decide, Int.le_refl 0⟩
  case round =>
    obtain ⟨q, hq, rfl, H⟩ := hrel
    clear H0
    by_cases hlt : q < 4
    · have hv1 : valB (byteF b) q ≤ 16777215 := by
        have h1 := H.out.2.2.1
        have : q = 0 ∨ q = 1 ∨ q = 2 ∨ q = 3 := by omega
        rcases this with rfl | rfl | rfl | rfl
        · have e : P256 0 = 1 := by decide
          omega
        · have e : P256 1 = 256 := by decide
          omega
        · have e : P256 2 = 65536 := by decide
          omega
        · have e : P256 3 = 16777216 := by decide
          omega
      have hbq := HB.out q
      go_wp2_with (go_at_call 78; go_loud (refine (refDecNext_any w.heap.size g _ b ⟨valB (byteF b) q, 4294967295, q⟩ _ H.out.1 HB.out (by rw [hbl.out]; exact hl) H.out.2.2.2 (by simp only; omega) (by simp only; omega)).mono ?_); rintro e5 w5 ⟨rfl, hm, hk⟩; have HM5 := Lib.hid hm; have HB5 := Lib.hid (H.out.2.1.trans (hk.below H.out.2.1.size (fun k h => by omega))); clear hm hk)
      go_roundw
      case rel =>
        have h1 := H.out.2.2.1
        have h2 := H.out.2.2.2
        refine ⟨q + 1, by omega, by go_num, HM5.out, HB5.out, ?_, ?_⟩
        · show valB (byteF b) q * 256 + byteF b q < P256 (q + 1)
          rw [P256_succ]; omega
        · show 0 ≤ valB (byteF b) q * 256 + byteF b q
          omega
      case measure => simp [intOf] <;> omega
    · obtain rfl : q = 4 := by omega
      go_wp2
      go_ret
      exact ⟨g, _, rfl, H.out.1, H.out.2.1⟩
end Go.Proofs.YtmgfkdmjgjlkjaaGreat

namespace Go.Proofs.YtmgfkdmjgjlkjaaGreat
open Go
set_option linter.unusedVariables false
theorem IsDig.set_ {D : List Int} (h : IsDig D) (j : Nat) {x : Int} (x0 : 0 ≤ x) (x1 : x ≤ 255) : IsDig (D.set j x) := by
  intro i hi
  rw [List.length_set] at hi
  by_cases hj : j < D.length
  · rw [getD_set' D j i x hj]
    split
    · exact ⟨x0, x1⟩
    · exact h i hi
  · rw [List.set_eq_of_length_le (by omega)]; exact h i hi
theorem IsDig.snoc {D : List Int} (h : IsDig D) {x : Int} (x0 : 0 ≤ x) (x1 : x ≤ 255) : IsDig (D ++ [x]) := by
  intro i hi
  rw [List.length_append] at hi
  by_cases hj : i < D.length
  · have := h i hj
    simpa [List.getD, List.getElem?_append, hj] using this
  · obtain rfl : i = D.length := by simp at hi; omega
    simp [List.getD]; omega
theorem isDig_nil : IsDig [] := fun j hj => by simp at hj
theorem carry_full {D : List Int} {K p : Nat} {V : Int} (hd : IsDig D) (hl : D.length = K) (hp : p < K) (hx : D.getD p 0 = 255) (hv : valL D + P256 (K - (p + 1)) = V) :
    IsDig (D.set p 0) ∧ (D.set p 0).length = K ∧ valL (D.set p 0) + P256 (K - p) = V := by
  refine ⟨hd.set_ p (by omega) (by omega), by rw [List.length_set]; exact hl, ?_⟩
  rw [valL_set D (by omega), hx, hl, show K - p = (K - (p + 1)) + 1 by omega, P256_succ, show K - 1 - p = K - (p + 1) by omega]
  omega
theorem carry_done {D : List Int} {K p : Nat} {V : Int} (hd : IsDig D) (hl : D.length = K) (hp : p < K) (hx : D.getD p 0 ≤ 254) (hv : valL D + P256 (K - (p + 1)) = V) :
    IsDig (D.set p (D.getD p 0 + 1)) ∧ (D.set p (D.getD p 0 + 1)).length = K ∧ valL (D.set p (D.getD p 0 + 1)) = V := by
  have := hd p (by omega)
  refine ⟨hd.set_ p (by omega) (by omega), by rw [List.length_set]; exact hl, ?_⟩
  rw [valL_set D (by omega), hl, show K - 1 - p = K - (p + 1) by omega, show D.getD p 0 + 1 - D.getD p 0 = 1 by omega]
  omega
def four (x : Int) : List Int := [x / 16777216 % 256, x / 65536 % 256, x / 256 % 256, x % 256]
theorem four_len (x : Int) : (four x).length = 4 := rfl
theorem four_val {D : List Int} (h : IsDig D) {x : Int} (x0 : 0 ≤ x) (x1 : x ≤ 4294967295) : IsDig (D ++ four x) ∧ valL (D ++ four x) = valL D * 4294967296 + x := by
  have e : D ++ four x = (((D ++ [x / 16777216 % 256]) ++ [x / 65536 % 256]) ++ [x / 256 % 256]) ++ [x % 256] := by simp [four]
  rw [e]
  refine ⟨(((h.snoc (by omega) (by omega)).snoc (by omega) (by omega)).snoc (by omega) (by omega)).snoc (by omega) (by omega), ?_⟩
  rw [valL_snoc, valL_snoc, valL_snoc, valL_snoc]
  omega
theorem four_dig {D : List Int} {k : Nat} {n x : Int} (h : IsDig D) (hl : D.length = k) (x0 : 0 ≤ x) (x1 : x ≤ 4294967295) (hn : n = valL D * 4294967296 + x) : D ++ four x = digL n (k + 4) := by
  obtain ⟨h1, h2⟩ := four_val h x0 x1
  have := dig_unique h1
  rw [h2, ← hn, List.length_append, four_len, hl] at this
  exact this
end Go.Proofs.YtmgfkdmjgjlkjaaGreat
