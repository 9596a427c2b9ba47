/- Layer 8's statements, walked: lines, and back. -/
import Derived.Test.YtemmcahglkpmmaaLapI
namespace Go.Proofs.Ytemmcahglkpmmaa
open Go.RowKit
set_option linter.unusedVariables false

theorem wf_i32 {zs : List Int} (h : ∀ n ∈ zs, (Lit.int .i32 n).wf = true) (j : Nat) : -2147483648 ≤ zs.getD j 0 ∧ zs.getD j 0 ≤ 2147483647 := by
  by_cases hj : j < zs.length
  · have := bounds_i32 (h (zs[j]) (List.getElem_mem hj))
    simpa [List.getD, hj] using this
  · simp [List.getD, hj]
/-! ### It lives -/
theorem cosN_484 : cosN 484 = 12361733 := by decide +kernel
def oneF (i : Nat) : Int := if i = 3 then 1048576 else 0
theorem lives_num : backF 128 oneF 0 ≠ 0 := by
  have e0 : cosA 128 3 64 = cosN 484 := by
    unfold cosA
    rw [cosP_q]
    exact cosQ_4 (n := 484) (by decide) (by decide) (by decide)
  have e1 : dotF 128 oneF 64 = 1048576 * cosN 484 := by
    unfold dotF
    rw [sumF_one (i := 3) (by decide) fun j _ hj => by unfold oneF; rw [if_neg hj, Int.zero_mul], e0]
    rfl
  have e2 : backF 128 oneF 0 = turnF 128 oneF 64 := by
    unfold backF unfoldF
    rw [if_pos (by decide)]
  rw [e2, turnF_128, e1, cosN_484]
  decide
theorem oneF_bd (i : Nat) : -33554432 ≤ oneF i ∧ oneF i ≤ 33554431 := by unfold oneF; split <;> omega
set_option maxRecDepth 100000 in
theorem lives08_any (w : World) : Calls Try.prog 7 #[] w fun e w' => e = .returned (.bool true) ∧ Below w.heap.size w w' := by
  have hmk : ∀ w : World, (Instr.makeSlice 22 (.int .i64 128) (.int .i64 128)).run Try.prog w = .ok (.slice (some ⟨w.heap.size, 0, none⟩) 128 128) (w.alloc (.cells (madeCells #[.int .i32 0] 128) 21)) :=
    fun w => make_zeros (P := Try.prog) Try.underlying22 info_i32 128 (by decide) (by decide) w
  have KN : RowKit.Hid (∀ (w : World) (c : Nat), CircAt w c → Calls Try.prog 9 #[.int .i64 128, .pointer (some ⟨c, 0, none⟩)] w (LapNewPost 128 c w)) := fun w c h => lapNew_any 128 c w (.inl rfl) h
  have HNZ := Lib.hid lives_num
  have KB : RowKit.Hid (∀ (w : World) (g c : Nat) (a : Option Addr), TrAt w g c 128 → FnAt w w.heap.size .i32 a 128 oneF → Calls Try.prog 16 #[.pointer (some ⟨g, 0, none⟩), .slice a 128 128] w (RowsPost 256 (backF 128 oneF) w)) := fun w g c a h h' => lapBack_any g c 128 256 128 a oneF w h (.inl rfl) rfl h' fun j _ => oneF_bd j
  go_enter Try.func7, Try.ntmps7
  go_wp2_with (first | (go_at_call 10; ((with_reducible refine (circNew_any _).mono ?_)); rintro e w1 ⟨c, rfl, hc, hb⟩; have HC := Lib.hid hc; have HB := Lib.hid hb; clear hc hb) | (go_at_call 9; go_loud (refine (KN.out _ c HC.out).mono ?_); rintro e w2 ⟨g, rfl, ht, hb⟩; have HT := Lib.hid ht; replace HB : RowKit.Hid (Below w.heap.size w w2) := chain HB.out hb; clear ht hb; have H3 := Lib.hid (IFun.zeros w2 21 .i32 128); have o3 := H3.out.cell (j := 3) (by decide); have f3 := H3.out.frozen 3) | (go_at_call 16; have h4 := H3.out.set (j := 3) (by decide) 1048576; rw [World.setCell_alloc_at _ _ _ _ _ rfl] at h4; have h5 := IFun.ext (f' := oneF) h4 (fun j _ => rfl); have H5 := Lib.hid h5; have H6 := Lib.hid (Below.alloc_new w2 (.cells ((madeCells #[.int .i32 0] 128).setIfInBounds 3 (.int .i32 1048576)) 21)); clear h4 h5 H3 o3 f3; go_loud (refine (KB.out _ g c _ (HT.out.below H6.out (Nat.le_refl _)) (FnAt.of_ifun H5.out)).mono ?_); rintro e w3 ⟨g3, rfl, i3, s3, b3⟩; have c0 := IFun.cell i3 (j := 0) (by decide); replace HB : RowKit.Hid (Below w.heap.size w w3) := chain (chain HB.out H6.out) b3; have hnz := HNZ.out; clear i3 s3 b3))
  go_ret
  exact ⟨ret_bool (by simp [hnz]), HB.out⟩
end Go.Proofs.Ytemmcahglkpmmaa
