/- What the functions of package rangeenc give: adding, scaling, putting. -/
import Derived.Test.YtgnmnmjicjcffaaRncC
namespace Go.Proofs.Ytgnmnmjicjcffaa
open Go.RowKit
set_option linter.unusedVariables false

section
variable {w w' : World} {base g k : Nat} {v : Value} {n less : Int}
theorem EncR.lt (h : EncR w base g v n k less) : g < w.heap.size ∧ base ≤ g := by obtain ⟨D, last, h1, _⟩ := h; exact ⟨h1.lt, h1.2.2⟩
theorem EncR.own (h : EncR w base g v n k less) (r : Nat) (hr : v.ownBlock = some r) : r < w.heap.size ∧ base ≤ r ∧ r ≠ g := by obtain ⟨D, last, h1, _⟩ := h; exact h1.own r hr
theorem EncR.drewN (h : EncR w base g v n k less) (i : Nat) : EncR (w.drewN i) base g v n k less := h
theorem EncR.keeps {F : Nat → Prop} (h : EncR w base g v n k less) (hk : Keeps F w w') (h1 : ¬ F g) (h2 : ∀ r, v.ownBlock = some r → ¬ F r) : EncR w' base g v n k less := by
  obtain ⟨D, last, q1, q2⟩ := h
  exact ⟨D, last, q1.keeps hk h1 h2, q2⟩
theorem EncR.below (h : EncR w base g v n k less) (hk : Below w.heap.size w w') : EncR w' base g v n k less := h.keeps (F := fun _ => False) (.of_below hk) (fun c => c) (fun _ _ c => c)
theorem EncR.less_ (h : EncR w base g v n k less) : w.cell? ⟨g, 2, none⟩ = some (.int .u32 less) ∧ w.frozen? ⟨g, 2, none⟩ = false := by
  obtain ⟨D, last, h1, _⟩ := h; exact ⟨h1.cells.2.2, h1.fz.2.2⟩
theorem EncR.setLess (h : EncR w base g v n k less) (x : Int) : EncR (w.setCell ⟨g, 2, none⟩ (.int .u32 x)) base g v n k x := by
  obtain ⟨D, last, h1, h2⟩ := h; exact ⟨D, last, h1.setLess x, h2⟩
theorem EncR.bd (h : EncR w base g v n k less) : 0 ≤ n ∧ n < 4294967296 * P256 k := by
  obtain ⟨D, last, h1, h2, h3, h4, h5, h6⟩ := h
  obtain ⟨a, b⟩ := valL_lt h2
  rw [h3] at b
  omega
end
/-- What writing leaves. -/
def EncWr (base g : Nat) (v : Value) (n : Int) (k : Nat) (less : Int) (r : Value) (w : World) (x : Ending) (w' : World) : Prop :=
  x = .returned r ∧ ∃ v', EncR w' base g v' n k less ∧ Keeps (fun j => j = g ∨ v.ownBlock = some j) w w' ∧ (∀ j, v'.ownBlock = some j → v.ownBlock = some j ∨ w.heap.size ≤ j)

set_option maxRecDepth 100000 in
theorem rncAdd_any (base g : Nat) (v : Value) (n : Int) (k : Nat) (less x : Int) (w : World) (hE : EncR w base g v n k less) (x0 : 0 ≤ x) (x1 : x ≤ 4294967295) (hx : n + x < 4294967296 * P256 k) (hk : k ≤ 1000000) :
    Calls Try.prog 63 #[.pointer (some ⟨g, 0, none⟩), .int .u32 x] w (EncWr base g v (n + x) k less (.tuple #[]) w) := by
  obtain ⟨D, last, h1, h2, h3, h4, h5, h6⟩ := hE
  obtain ⟨c0, c1, c2⟩ := h1.cells
  obtain ⟨z0, z1, z2⟩ := h1.fz
  have H1 := Lib.hid h1
  have H2 := Lib.hid h2
  have H3 := Lib.hid h3
  have H6 := Lib.hid h6
  have HX := Lib.hid hx
  clear h1 h2 h3 h6 hx c2 z2 c0 z0
  by_cases hc : last + x ≤ 4294967295
  · have E2 := Lib.hid (H1.out.setLast (last + x))
    have K2 := Lib.hid ((Keeps.refl (fun j => j = g ∨ v.ownBlock = some j) w).setCell (p := ⟨g, 1, none⟩) (.inl (.inl rfl)) (.int .u32 (last + x)))
    go_enter Try.func63, Try.ntmps63
    go_wp2_with (go_at_call 72; ((with_reducible refine (add32_low last x _ h4 x0 hc).mono ?_)); rintro e w' ⟨rfl, rfl⟩)
    go_end0
    exact ⟨rfl, v, ⟨D, last + x, E2.out, H2.out, H3.out, by omega, hc, by rw [H6.out]; omega⟩, K2.out, fun j hj => .inl hj⟩
  · have E2 := Lib.hid (H1.out.setLast (last + x - 4294967296))
    have K2 := Lib.hid ((Keeps.refl (fun j => j = g ∨ v.ownBlock = some j) w).setCell (p := ⟨g, 1, none⟩) (.inl (.inl rfl)) (.int .u32 (last + x - 4294967296)))
    have HV : RowKit.Hid (valL D + 1 < P256 D.length) := by
      have a := HX.out
      have b := H6.out
      have := H3.out
      show _ < _
      rw [this]
      omega
    have hkl : D.length ≤ 1000000 := by rw [H3.out]; exact hk
    have HKL := Lib.hid hkl
    have hc2 : 4294967296 ≤ last + x := by omega
    clear hkl
    go_enter Try.func63, Try.ntmps63
    go_wp2_with (first | (go_at_call 72; ((with_reducible refine (add32_high last x _ h4 x0 h5 x1 hc2).mono ?_)); rintro e w' ⟨rfl, rfl⟩) | (go_at_call 73; go_loud (refine (rncCarry_any base g v D _ less _ E2.out H2.out HV.out HKL.out).mono ?_); rintro e w3 ⟨rfl, hp⟩; have HP := Lib.hid hp; clear hp))
    go_end0
    obtain ⟨D', q1, q2, q3, q4, q5⟩ := HP.out
    exact ⟨rfl, v, ⟨D', _, q1, q2, by rw [q3]; exact H3.out, by omega, by omega, by rw [q4, H6.out]; omega⟩, K2.out.trans (q5.mono fun j hj => .inr hj), fun j hj => .inl hj⟩

theorem info_u8e : (Try.prog.info? 5).map (fun i => (i.zero, i.size, i.bytes)) = some (some (.int .u8 0), 1, 1) := by kernel_rfl
set_option maxRecDepth 100000 in
theorem rncScale_any (base g : Nat) (v : Value) (n : Int) (k : Nat) (less : Int) (w : World) (hE : EncR w base g v n k less) (hk : k ≤ 1000000) :
    Calls Try.prog 64 #[.pointer (some ⟨g, 0, none⟩)] w (EncWr base g v (n * 256) (k + 1) less (.tuple #[]) w) := by
  obtain ⟨D, last, h1, h2, h3, h4, h5, h6⟩ := hE
  obtain ⟨c0, c1, c2⟩ := h1.cells
  obtain ⟨z0, z1, z2⟩ := h1.fz
  have H1 := Lib.hid h1
  have H2 := Lib.hid h2
  have H3 := Lib.hid h3
  have H6 := Lib.hid h6
  have hgl := h1.lt
  have hbg := h1.2.2
  have hne : v.ownBlock ≠ some g := fun c => (h1.own g c).2.2 rfl
  have hob : ∀ j, v.ownBlock = some j → base ≤ j := fun j hj => (h1.own j hj).2.1
  have HOB := Lib.hid hob
  obtain ⟨q, hq⟩ : ∃ q, q = last / 16777216 := ⟨_, rfl⟩
  have q0 : 0 ≤ q := by omega
  have q1 : q ≤ 255 := by omega
  have HQ := Lib.hid hq
  have hown : w.ownsRow base 5 1 v k (D.map (Value.int .u8)) := by have := h1.2.1; rw [h3] at this; exact this
  have hA := Lib.hid (World.ownsRow.alloc hown (.cells #[.int .u8 q] 5))
  obtain ⟨i0, hi, hzz, hz1, hz2⟩ := info_parts info_u8e
  have e1 : last / 16777216 = q := hq.symm
  have e2 : IntKind.u8.wrap q = q := IntWalk.u8_in _ (by omega)
  clear h1 h2 h3 h6 c2 z2 hob hown hq
  go_enter Try.func64, Try.ntmps64
  go_wp2
  go_region_law ((refine step_append_lies _ (by rfl) _ _ _ (by rfl) base 5 i0 (.int .u8 0) 1 1 Try.underlying33 hi hzz hz1 hz2 rfl (by decide) v k _ (by rfl) hA.out.drew ⟨w.heap.size, 0, none⟩ 1 1 [.int .u8 q] (by rfl) (by rfl) (World.news_of_block (cs := #[.int .u8 q]) (t := 5) (fr := (0, 0)) (heap_alloc_new w _)) (by simp [Value.oneCell']) (by omega) (by unfold maxLen; omega) (by omega) (by simp; omega) (w.heap.size + 1) (by simp) ?_; intro gg cp w2 hown hgrow hat hlt2; have c2 : w2.cell? ⟨g, 0, none⟩ = some v := (hgrow.cell_far ⟨g, 0, none⟩ (by simp; omega) (fun c => hne c.symm)).trans ((H1.out.1.alloc (.cells #[.int .u8 q] 5)).cell 0); have f2 : w2.frozen? ⟨g, 0, none⟩ = false := (hgrow.frozen_far ⟨g, 0, none⟩ (by simp; omega) (fun c => hne c.symm)).trans ((H1.out.1.alloc (.cells #[.int .u8 q] 5)).frozen 0)))
  all_goals
    have hc2 : Cel w2 g 56 #[v, .int .u32 last, .int .u32 less] := (H1.out.1.alloc (.cells #[.int .u8 q] 5)).keep (hgrow.block _ (by simp; omega) (fun c => hne c.symm))
    have hown2 : w2.ownsRow base 5 1 (.slice (some ⟨gg, 0, none⟩) (k + 1) cp) (D ++ [q]).length ((D ++ [q]).map (Value.int .u8)) := by
      have e : (D ++ [q]).length = k + 1 := by rw [List.length_append, H3.out]; rfl
      rw [e]; simpa using hown
    have hk2 : Keeps (fun j => j = g ∨ v.ownBlock = some j) w w2 := by
      have a := ((Keeps.refl (fun j => j = g ∨ v.ownBlock = some j) w).alloc (.cells #[.int .u8 q] 5)).drewN 1
      refine ⟨hgrow.os.trans a.os, hgrow.tape.trans a.tape, hgrow.output.trans a.output, Nat.le_trans a.size hgrow.size, fun i hi hn => ?_⟩
      exact (hgrow.block i (Nat.lt_of_lt_of_le hi a.size) (fun c => hn (.inr c.symm))).trans (a.block i hi hn)
    obtain ⟨w3, hw3⟩ : ∃ w3, w3 = w2.setCell ⟨g, 0, none⟩ (.slice (some ⟨gg, 0, none⟩) (k + 1) cp) := ⟨_, rfl⟩
    have H7 : RowKit.Hid (EncD w3 base g (.slice (some ⟨gg, 0, none⟩) (k + 1) cp) (D ++ [q]) last less ∧ Keeps (fun j => j = g ∨ v.ownBlock = some j) w w3) := by
      rw [hw3]
      refine ⟨⟨by simpa using hc2.set_ 0 (.slice (some ⟨gg, 0, none⟩) (k + 1) cp), ?_, hbg⟩, hk2.setCell (p := ⟨g, 0, none⟩) (.inl (.inl rfl)) _⟩
      exact own_far hown2 (fun j hj => own_ne_cel hown2 hc2 (by decide) j hj) _
    have HA : RowKit.Hid (v.ownBlock = some gg ∨ w.heap.size ≤ gg) := by
      rcases hat with h | h
      · exact .inl h
      · exact .inr (by omega)
    rw [← hw3]
    clear hw3 hc2 hown2 hown hgrow c2 f2 hat hlt2 c0 c1 z0 z1 hk2 hA e1 e2
    obtain ⟨c0, c1, c2⟩ := H7.out.1.cells
    obtain ⟨z0, z1, z2⟩ := H7.out.1.fz
    have H8 := Lib.hid (H7.out.1.setLast (last * 256 % 4294967296))
    have K8 := Lib.hid (H7.out.2.setCell (p := ⟨g, 1, none⟩) (.inl (.inl rfl)) (.int .u32 (last * 256 % 4294967296)))
    go_wp2
    go_end0
    refine ⟨rfl, _, ⟨D ++ [q], _, H8.out, H2.out.snoc q0 q1, by rw [List.length_append, H3.out]; rfl, by omega, by omega, ?_⟩, K8.out, fun j hj => ?_⟩
    · rw [valL_snoc, H6.out, HQ.out]; omega
    · have : gg = j := by simpa [Value.ownBlock] using hj
      rw [← this]; exact HA.out
end Go.Proofs.Ytgnmnmjicjcffaa
