/- Plain facts, and what functions give, for the proofs of this seat: several texts in one, each with its own first remark. -/
import Derived.Test.YtmgfkdmjgjlkjaaGreatCj
import Derived.Test.YtmgfkdmjgjlkjaaGreatCi

namespace Go.Proofs.YtmgfkdmjgjlkjaaGreat
open Go.RowKit
set_option linter.unusedVariables false
theorem add32_low (x y : Int) (w : World) (x0 : 0 ≤ x) (y0 : 0 ≤ y) (h : x + y ≤ 4294967295) :
    Calls Tryz.prog 204 #[.int .u32 x, .int .u32 y, .int .u32 0] w fun e w' => e = .returned (.tuple #[.int .u32 (x + y), .int .u32 0]) ∧ w = w' := by
  have h1 : (x + y) / 4294967296 = 0 := by omega
  go_enter Tryz.func204, Tryz.ntmps204
  go_wp2
  go_ret2
  exact ⟨rfl, rfl⟩
theorem add32_high (x y : Int) (w : World) (x0 : 0 ≤ x) (y0 : 0 ≤ y) (x1 : x ≤ 4294967295) (y1 : y ≤ 4294967295) (h : 4294967296 ≤ x + y) :
    Calls Tryz.prog 204 #[.int .u32 x, .int .u32 y, .int .u32 0] w fun e w' => e = .returned (.tuple #[.int .u32 (x + y - 4294967296), .int .u32 1]) ∧ w = w' := by
  have h1 : (x + y) / 4294967296 = 1 := by omega
  have h2 : (x + y) % 4294967296 = x + y - 4294967296 := by omega
  go_enter Tryz.func204, Tryz.ntmps204
  go_wp2
  go_ret2
  refine ⟨?_, rfl⟩
  show Ending.returned (.tuple #[.int .u32 ((x + y) % 4294967296), .int .u32 1]) = _
  rw [h2]
def EncD (w : World) (base g : Nat) (v : Value) (D : List Int) (last less : Int) : Prop :=
  Cel w g 239 #[v, .int .u32 last, .int .u32 less] ∧ w.ownsRow base 5 1 v D.length (D.map (Value.int .u8)) ∧ base ≤ g
section
variable {w w' : World} {base g : Nat} {v : Value} {D : List Int} {last less : Int}
theorem EncD.lt (h : EncD w base g v D last less) : g < w.heap.size := h.1.lt
theorem EncD.own (h : EncD w base g v D last less) (r : Nat) (hr : v.ownBlock = some r) : r < w.heap.size ∧ base ≤ r ∧ r ≠ g := ⟨own_lt h.2.1 r hr, own_base h.2.1 r hr, own_ne_cel h.2.1 h.1 (by decide) r hr⟩
theorem EncD.cells (h : EncD w base g v D last less) : w.cell? ⟨g, 0, none⟩ = some v ∧ w.cell? ⟨g, 1, none⟩ = some (.int .u32 last) ∧ w.cell? ⟨g, 2, none⟩ = some (.int .u32 less) := ⟨h.1.cell 0, h.1.cell 1, h.1.cell 2⟩
theorem EncD.fz (h : EncD w base g v D last less) : w.frozen? ⟨g, 0, none⟩ = false ∧ w.frozen? ⟨g, 1, none⟩ = false ∧ w.frozen? ⟨g, 2, none⟩ = false := ⟨h.1.frozen 0, h.1.frozen 1, h.1.frozen 2⟩
theorem EncD.drewN (h : EncD w base g v D last less) (n : Nat) : EncD (w.drewN n) base g v D last less := h
theorem EncD.keeps {F : Nat → Prop} (h : EncD w base g v D last less) (hk : Keeps F w w') (h1 : ¬ F g) (h2 : ∀ r, v.ownBlock = some r → ¬ F r) : EncD w' base g v D last less :=
  ⟨h.1.keeps hk h1, own_keeps h.2.1 hk h2, h.2.2⟩
theorem EncD.below (h : EncD w base g v D last less) (hk : Below w.heap.size w w') : EncD w' base g v D last less := h.keeps (F := fun _ => False) (.of_below hk) (fun c => c) (fun _ _ c => c)
theorem EncD.row {r c a : Nat} (h : EncD w base g (.slice (some ⟨r, 0, none⟩) a c) D last less) (ha : D.length = a) {j : Nat} (hj : j < a) : w.cell? ⟨r, j, none⟩ = some (.int .u8 (D.getD j 0)) ∧ w.frozen? ⟨r, j, none⟩ = false := by
  subst ha
  refine ⟨?_, h.2.1.frozenAt j⟩
  rw [h.2.1.cellAt j (by omega), List.getElem?_map, List.getElem?_eq_getElem hj]
  simp [List.getD, hj]
theorem EncD.setRow {r c a : Nat} (h : EncD w base g (.slice (some ⟨r, 0, none⟩) a c) D last less) (ha : D.length = a) (j : Nat) (x : Int) : EncD (w.setCell ⟨r, j, none⟩ (.int .u8 x)) base g (.slice (some ⟨r, 0, none⟩) a c) (D.set j x) last less := by
  subst ha
  have hl := h.own r rfl
  refine ⟨h.1.far (p := ⟨r, j, none⟩) (fun e => hl.2.2 e.symm) _, ?_, h.2.2⟩
  rw [List.length_set, List.map_set]; exact (h.2.1.stored j (.int .u8 x)).1
theorem EncD.setLast (h : EncD w base g v D last less) (x : Int) : EncD (w.setCell ⟨g, 1, none⟩ (.int .u32 x)) base g v D x less :=
  ⟨by simpa using h.1.set_ 1 (.int .u32 x), own_far h.2.1 (fun r hr => (h.own r hr).2.2) _, h.2.2⟩
theorem EncD.setLess (h : EncD w base g v D last less) (x : Int) : EncD (w.setCell ⟨g, 2, none⟩ (.int .u32 x)) base g v D last x :=
  ⟨by simpa using h.1.set_ 2 (.int .u32 x), own_far h.2.1 (fun r hr => (h.own r hr).2.2) _, h.2.2⟩
end
def EncR (w : World) (base g : Nat) (v : Value) (n : Int) (k : Nat) (less : Int) : Prop :=
  ∃ D last, EncD w base g v D last less ∧ IsDig D ∧ D.length = k ∧ 0 ≤ last ∧ last ≤ 4294967295 ∧ n = valL D * 4294967296 + last
def CarryPost (base g : Nat) (v : Value) (D : List Int) (last less : Int) (w : World) (x : Ending) (w' : World) : Prop :=
  x = .returned (.tuple #[]) ∧ ∃ D', EncD w' base g v D' last less ∧ IsDig D' ∧ D'.length = D.length ∧ valL D' = valL D + 1 ∧ Keeps (fun j => v.ownBlock = some j) w w'
set_option maxRecDepth 100000 in
theorem rncCarry_any (base g : Nat) (v : Value) (D : List Int) (last less : Int) (w : World) (hE : EncD w base g v D last less) (hd : IsDig D) (hv : valL D + 1 < P256 D.length) (hk : D.length ≤ 1000000) :
    Calls Tryz.prog 205 #[.pointer (some ⟨g, 0, none⟩)] w (CarryPost base g v D last less w) := by
  have hpos : 0 < D.length := by
    rcases Nat.eq_zero_or_pos D.length with h | h
    · have := (valL_lt hd).1
      rw [h] at hv
      have e : P256 0 = 1 := by decide
      omega
    · exact h
  obtain ⟨r, c, rfl, _, _⟩ := World.ownsRow.form hE.2.1 hpos
  obtain ⟨c0, c1, c2⟩ := hE.cells
  have H0 := Lib.hid hE
  have HD := Lib.hid hd
  have HV := Lib.hid hv
  obtain ⟨K, hK⟩ : ∃ K, K = D.length := ⟨_, rfl⟩
  rw [← hK] at c0 hk hpos
  have HK := Lib.hid hK
  clear hE hd hv c1 c2 hK
  go_enter Tryz.func205, Tryz.ntmps205
  go_wp2
  go_loopw [2] (fun i wr => ∃ (D2 : List Int) (m : Nat), i = .int .i64 ((m : Int) - 1) ∧ m ≤ K ∧ RowKit.Hid (EncD wr base g (.slice (some ⟨r, 0, none⟩) K c) D2 last less ∧ IsDig D2 ∧ D2.length = K ∧ valL D2 + P256 (K - m) = valL D + 1 ∧ Keeps (fun j => j = r) w wr)) (fun i _ => (intOf i + 1).toNat)
  case atStart => exact ⟨D, K, rfl, Nat.le_refl _, by rw [HK.out]; exact H0.out, HD.out, HK.out.symm, by rw [Nat.sub_self]; exact rfl, Keeps.refl _ _⟩
  case round =>
    obtain ⟨D2, m, rfl, hm, H⟩ := hrel
    clear c0
    obtain ⟨c0, _, _⟩ := H.out.1.cells
    by_cases hz : m = 0
    · exfalso
      have h1 := H.out.2.2.2.1
      have h2 := (valL_lt H.out.2.1).1
      have h3 := HV.out
      rw [hz, Nat.sub_zero] at h1
      rw [← HK.out] at h3
      omega
    · obtain ⟨p, hp⟩ : ∃ p, m = p + 1 := ⟨m - 1, by omega⟩
      have hp0 : (m : Int) - 1 = (p : Int) := by omega
      rw [hp0]
      have hpK : (p : Int) < (K : Int) := by omega
      obtain ⟨i1, f1⟩ := H.out.1.row H.out.2.2.1 (j := p) (by omega)
      have hxd := H.out.2.1 p (by rw [H.out.2.2.1]; omega)
      obtain ⟨x, hx⟩ : ∃ x, x = D2.getD p 0 := ⟨_, rfl⟩
      rw [← hx] at i1 hxd
      obtain ⟨x0, x1⟩ := hxd
      have HX := Lib.hid hx
      have HM := Lib.hid hp
      clear hx
      by_cases hf : x = 255
      · have g1 : IntKind.u8.wrap (x + 1) = 0 := by rw [hf]; decide
        have h1 := Lib.hid (carry_full (V := valL D + 1) H.out.2.1 H.out.2.2.1 (p := p) (by omega) (by rw [← HX.out]; exact hf) (by have := H.out.2.2.2.1; rw [HM.out] at this; exact this))
        have h2 := Lib.hid (H.out.1.setRow H.out.2.2.1 p 0)
        have h3 := Lib.hid (H.out.2.2.2.2.setCell (p := ⟨r, p, none⟩) (.inl rfl) (.int .u8 0))
        obtain ⟨e0, _, _⟩ := h2.out.cells
        obtain ⟨e1, _⟩ := h2.out.row (by rw [List.length_set]; exact H.out.2.2.1) (j := p) (by omega)
        rw [getD_set' D2 p p _ (by rw [H.out.2.2.1]; omega), if_pos rfl] at e1
        clear hf hz hp hp0
        go_wp2
        go_roundw
        case rel => exact ⟨D2.set p 0, p, rfl, by omega, h2.out, h1.out.1, h1.out.2.1, h1.out.2.2, h3.out⟩
        case measure => simp [intOf] <;> omega
      · have g1 : IntKind.u8.wrap (x + 1) = x + 1 := IntWalk.u8_in _ (by omega)
        have g2 : (x + 1 != 0) = true := by simp; omega
        have h1 := Lib.hid (carry_done (V := valL D + 1) H.out.2.1 H.out.2.2.1 (p := p) (by omega) (by rw [← HX.out]; omega) (by have := H.out.2.2.2.1; rw [HM.out] at this; exact this))
        have h2 := Lib.hid (H.out.1.setRow H.out.2.2.1 p (x + 1))
        have h3 := Lib.hid (H.out.2.2.2.2.setCell (p := ⟨r, p, none⟩) (.inl rfl) (.int .u8 (x + 1)))
        obtain ⟨e0, _, _⟩ := h2.out.cells
        obtain ⟨e1, _⟩ := h2.out.row (by rw [List.length_set]; exact H.out.2.2.1) (j := p) (by omega)
        rw [getD_set' D2 p p _ (by rw [H.out.2.2.1]; omega), if_pos rfl] at e1
        clear hf hz hp hp0
        go_wp2
        refine bodyPost_ret (v := .tuple #[]) (by simp [results, Tryz.results205]) rfl ⟨rfl, D2.set p (x + 1), ?_, ?_, ?_, ?_, ?_⟩
        · rw [← HK.out]; exact h2.out
        · rw [HX.out]; exact h1.out.1
        · rw [HX.out, ← HK.out]; exact h1.out.2.1
        · rw [HX.out]; exact h1.out.2.2
        · exact h3.out.mono fun j hj => by rw [hj]; rfl
end Go.Proofs.YtmgfkdmjgjlkjaaGreat

namespace Go.Proofs.YtmgfkdmjgjlkjaaGreat
open Go.RowKit
set_option linter.unusedVariables false
section
variable {w w' : World} {base g k : Nat} {v : Value} {n less : Int}
theorem EncR.lt (h : EncR w base g v n k less) : g < w.heap.size ∧ base ≤ g := by obtain ⟨D, last, h1, _⟩ := h; exact ⟨h1.lt, h1.2.2⟩
theorem EncR.own (h : EncR w base g v n k less) (r : Nat) (hr : v.ownBlock = some r) : r < w.heap.size ∧ base ≤ r ∧ r ≠ g := by obtain ⟨D, last, h1, _⟩ := h; exact h1.own r hr
theorem EncR.drewN (h : EncR w base g v n k less) (i : Nat) : EncR (w.drewN i) base g v n k less := h
theorem EncR.keeps {F : Nat → Prop} (h : EncR w base g v n k less) (hk : Keeps F w w') (h1 : ¬ F g) (h2 : ∀ r, v.ownBlock = some r → ¬ F r) : EncR w' base g v n k less := by
  obtain ⟨D, last, q1, q2⟩ := h
  exact ⟨D, last, q1.keeps hk h1 h2, q2⟩
theorem EncR.below (h : EncR w base g v n k less) (hk : Below w.heap.size w w') : EncR w' base g v n k less := h.keeps (F := fun _ => False) (.of_below hk) (fun c => c) (fun _ _ c => c)
theorem EncR.less_ (h : EncR w base g v n k less) : w.cell? ⟨g, 2, none⟩ = some (.int .u32 less) ∧ w.frozen? ⟨g, 2, none⟩ = false := by
  obtain ⟨D, last, h1, _⟩ := h; exact ⟨h1.cells.2.2, h1.fz.2.2⟩
theorem EncR.setLess (h : EncR w base g v n k less) (x : Int) : EncR (w.setCell ⟨g, 2, none⟩ (.int .u32 x)) base g v n k x := by
  obtain ⟨D, last, h1, h2⟩ := h; exact ⟨D, last, h1.setLess x, h2⟩
theorem EncR.bd (h : EncR w base g v n k less) : 0 ≤ n ∧ n < 4294967296 * P256 k := by
  obtain ⟨D, last, h1, h2, h3, h4, h5, h6⟩ := h
  obtain ⟨a, b⟩ := valL_lt h2
  rw [h3] at b
  omega
end
def EncWr (base g : Nat) (v : Value) (n : Int) (k : Nat) (less : Int) (r : Value) (w : World) (x : Ending) (w' : World) : Prop :=
  x = .returned r ∧ ∃ v', EncR w' base g v' n k less ∧ Keeps (fun j => j = g ∨ v.ownBlock = some j) w w' ∧ (∀ j, v'.ownBlock = some j → v.ownBlock = some j ∨ w.heap.size ≤ j)
set_option maxRecDepth 100000 in
theorem rncAdd_any (base g : Nat) (v : Value) (n : Int) (k : Nat) (less x : Int) (w : World) (hE : EncR w base g v n k less) (x0 : 0 ≤ x) (x1 : x ≤ 4294967295) (hx : n + x < 4294967296 * P256 k) (hk : k ≤ 1000000) :
    Calls Tryz.prog 199 #[.pointer (some ⟨g, 0, none⟩), .int .u32 x] w (EncWr base g v (n + x) k less (.tuple #[]) w) := by
  obtain ⟨D, last, h1, h2, h3, h4, h5, h6⟩ := hE
  obtain ⟨c0, c1, c2⟩ := h1.cells
  obtain ⟨z0, z1, z2⟩ := h1.fz
  have H1 := Lib.hid h1
  have H2 := Lib.hid h2
  have H3 := Lib.hid h3
  have H6 := Lib.hid h6
  have HX := Lib.hid hx
  clear h1 h2 h3 h6 hx c2 z2 c0 z0
  by_cases hc : last + x ≤ 4294967295
  · have E2 := Lib.hid (H1.out.setLast (last + x))
    have K2 := Lib.hid ((Keeps.refl (fun j => j = g ∨ v.ownBlock = some j) w).setCell (p := ⟨g, 1, none⟩) (.inl (.inl rfl)) (.int .u32 (last + x)))
    go_enter Tryz.func199, Tryz.ntmps199
    go_wp2_with (go_at_call 204; ((with_reducible refine (add32_low last x _ h4 x0 hc).mono ?_)); rintro e w' ⟨rfl, rfl⟩)
    go_end0
    exact ⟨rfl, v, ⟨D, last + x, E2.out, H2.out, H3.out, by omega, hc, by rw [H6.out]; omega⟩, K2.out, fun j hj => .inl hj⟩
  · have E2 := Lib.hid (H1.out.setLast (last + x - 4294967296))
    have K2 := Lib.hid ((Keeps.refl (fun j => j = g ∨ v.ownBlock = some j) w).setCell (p := ⟨g, 1, none⟩) (.inl (.inl rfl)) (.int .u32 (last + x - 4294967296)))
    have HV : RowKit.Hid (valL D + 1 < P256 D.length) := by
      have a := HX.out
      have b := H6.out
      have := H3.out
      show _ < _
      rw [this]
      omega
    have hkl : D.length ≤ 1000000 := by rw [H3.out]; exact hk
    have HKL := Lib.hid hkl
    have hc2 : 4294967296 ≤ last + x := by omega
    clear hkl
    go_enter Tryz.func199, Tryz.ntmps199
    go_wp2_with (first | (go_at_call 204; ((with_reducible refine (add32_high last x _ h4 x0 h5 x1 hc2).mono ?_)); rintro e w' ⟨rfl, rfl⟩) | (go_at_call 205; go_loud (refine (rncCarry_any base g v D _ less _ E2.out H2.out HV.out HKL.out).mono ?_); rintro e w3 ⟨rfl, hp⟩; have HP := Lib.hid hp; clear hp))
    go_end0
    obtain ⟨D', q1, q2, q3, q4, q5⟩ := HP.out
    exact ⟨rfl, v, ⟨D', _, q1, q2, by rw [q3]; exact H3.out, by omega, by omega, by rw [q4, H6.out]; omega⟩, K2.out.trans (q5.mono fun j hj => .inr hj), fun j hj => .inl hj⟩
theorem info_u8e : (Tryz.prog.info? 5).map (fun i => (i.zero, i.size, i.bytes)) = some (some (.int .u8 0), 1, 1) := by kernel_rfl
set_option maxRecDepth 100000 in
theorem rncScale_any (base g : Nat) (v : Value) (n : Int) (k : Nat) (less : Int) (w : World) (hE : EncR w base g v n k less) (hk : k ≤ 1000000) :
    Calls Tryz.prog 200 #[.pointer (some ⟨g, 0, none⟩)] w (EncWr base g v (n * 256) (k + 1) less (.tuple #[]) w) := by
  obtain ⟨D, last, h1, h2, h3, h4, h5, h6⟩ := hE
  obtain ⟨c0, c1, c2⟩ := h1.cells
  obtain ⟨z0, z1, z2⟩ := h1.fz
  have H1 := Lib.hid h1
  have H2 := Lib.hid h2
  have H3 := Lib.hid h3
  have H6 := Lib.hid h6
  have hgl := h1.lt
  have hbg := h1.2.2
  have hne : v.ownBlock ≠ some g := fun c => (h1.own g c).2.2 rfl
  have hob : ∀ j, v.ownBlock = some j → base ≤ j := fun j hj => (h1.own j hj).2.1
  have HOB := Lib.hid hob
  obtain ⟨q, hq⟩ : ∃ q, q = last / 16777216 := ⟨_, rfl⟩
  have q0 : 0 ≤ q := by omega
  have q1 : q ≤ 255 := by omega
  have HQ := Lib.hid hq
  have hown : w.ownsRow base 5 1 v k (D.map (Value.int .u8)) := by have := h1.2.1; rw [h3] at this; exact this
  have hA := Lib.hid (World.ownsRow.alloc hown (.cells #[.int .u8 q] 5))
  obtain ⟨i0, hi, hzz, hz1, hz2⟩ := info_parts info_u8e
  have e1 : last / 16777216 = q := hq.symm
  have e2 : IntKind.u8.wrap q = q := IntWalk.u8_in _ (by omega)
  clear h1 h2 h3 h6 c2 z2 hob hown hq
  go_enter Tryz.func200, Tryz.ntmps200
  go_wp2
  go_region_law ((refine step_append_lies _ (by rfl) _ _ _ (by rfl) base 5 i0 (.int .u8 0) 1 1 Tryz.underlying43 hi hzz hz1 hz2 rfl (by decide) v k _ (by rfl) hA.out.drew ⟨w.heap.size, 0, none⟩ 1 1 [.int .u8 q] (by rfl) (by rfl) (World.news_of_block (cs := #[.int .u8 q]) (t := 5) (fr := (0, 0)) (heap_alloc_new w _)) (by simp [Value.oneCell']) (by omega) (by unfold maxLen; omega) (by omega) (by simp; omega) (w.heap.size + 1) (by simp) ?_; intro gg cp w2 hown hgrow hat hlt2; have c2 : w2.cell? ⟨g, 0, none⟩ = some v := (hgrow.cell_far ⟨g, 0, none⟩ (by simp; omega) (fun c => hne c.symm)).trans ((H1.out.1.alloc (.cells #[.int .u8 q] 5)).cell 0); have f2 : w2.frozen? ⟨g, 0, none⟩ = false := (hgrow.frozen_far ⟨g, 0, none⟩ (by simp; omega) (fun c => hne c.symm)).trans ((H1.out.1.alloc (.cells #[.int .u8 q] 5)).frozen 0)))
  all_goals
    have hc2 : Cel w2 g 239 #[v, .int .u32 last, .int .u32 less] := (H1.out.1.alloc (.cells #[.int .u8 q] 5)).keep (hgrow.block _ (by simp; omega) (fun c => hne c.symm))
    have hown2 : w2.ownsRow base 5 1 (.slice (some ⟨gg, 0, none⟩) (k + 1) cp) (D ++ [q]).length ((D ++ [q]).map (Value.int .u8)) := by
      have e : (D ++ [q]).length = k + 1 := by rw [List.length_append, H3.out]; rfl
      rw [e]; simpa using hown
    have hk2 : Keeps (fun j => j = g ∨ v.ownBlock = some j) w w2 := by
      have a := ((Keeps.refl (fun j => j = g ∨ v.ownBlock = some j) w).alloc (.cells #[.int .u8 q] 5)).drewN 1
      refine ⟨hgrow.os.trans a.os, hgrow.tape.trans a.tape, hgrow.output.trans a.output, Nat.le_trans a.size hgrow.size, fun i hi hn => ?_⟩
      exact (hgrow.block i (Nat.lt_of_lt_of_le hi a.size) (fun c => hn (.inr c.symm))).trans (a.block i hi hn)
    obtain ⟨w3, hw3⟩ : ∃ w3, w3 = w2.setCell ⟨g, 0, none⟩ (.slice (some ⟨gg, 0, none⟩) (k + 1) cp) := ⟨_, rfl⟩
    have H7 : RowKit.Hid (EncD w3 base g (.slice (some ⟨gg, 0, none⟩) (k + 1) cp) (D ++ [q]) last less ∧ Keeps (fun j => j = g ∨ v.ownBlock = some j) w w3) := by
      rw [hw3]
      refine ⟨⟨by simpa using hc2.set_ 0 (.slice (some ⟨gg, 0, none⟩) (k + 1) cp), ?_, hbg⟩, hk2.setCell (p := ⟨g, 0, none⟩) (.inl (.inl rfl)) _⟩
      exact own_far hown2 (fun j hj => own_ne_cel hown2 hc2 (by decide) j hj) _
    have HA : RowKit.Hid (v.ownBlock = some gg ∨ w.heap.size ≤ gg) := by
      rcases hat with h | h
      · exact .inl h
      · exact .inr (by omega)
    rw [← hw3]
    clear hw3 hc2 hown2 hown hgrow c2 f2 hat hlt2 c0 c1 z0 z1 hk2 hA e1 e2
    obtain ⟨c0, c1, c2⟩ := H7.out.1.cells
    obtain ⟨z0, z1, z2⟩ := H7.out.1.fz
    have H8 := Lib.hid (H7.out.1.setLast (last * 256 % 4294967296))
    have K8 := Lib.hid (H7.out.2.setCell (p := ⟨g, 1, none⟩) (.inl (.inl rfl)) (.int .u32 (last * 256 % 4294967296)))
    go_wp2
    go_end0
    refine ⟨rfl, _, ⟨D ++ [q], _, H8.out, H2.out.snoc q0 q1, by rw [List.length_append, H3.out]; rfl, by omega, by omega, ?_⟩, K8.out, fun j hj => ?_⟩
    · rw [valL_snoc, H6.out, HQ.out]; omega
    · have : gg = j := by simpa [Value.ownBlock] using hj
      rw [← this]; exact HA.out
end Go.Proofs.YtmgfkdmjgjlkjaaGreat

namespace Go.Proofs.YtmgfkdmjgjlkjaaGreat
open Go.RowKit
set_option linter.unusedVariables false
theorem rncMay_yes (low own all : Int) (w : World) (h : OkP low own all) :
    Calls Tryz.prog 198 #[.agg #[.int .u32 low, .int .u32 own, .int .u32 all]] w fun e w' => e = .returned (.bool true) ∧ Below w.heap.size w w' := by
  obtain ⟨p1, p2, p3, p4, p5⟩ := h
  have HB := Lib.hid (Below.alloc_new w (.cells #[.int .u32 low, .int .u32 own, .int .u32 all] 263))
  have d1 : decide (1 ≤ all) = true := by simpa using p1
  have d2 : decide (all ≤ 8192) = true := by simpa using p2
  have d3 : decide (1 ≤ own) = true := by simpa using p3
  have d4 : decide (low ≤ all) = true := by simp; omega
  have d5 : decide (own ≤ all - low) = true := by simp; omega
  have d6 : IntKind.u32.wrap (all - low) = all - low := IntWalk.u32_in _ (by omega)
  go_enter Tryz.func198, Tryz.ntmps198
  go_wp2
  go_ret
  exact ⟨rfl, HB.out⟩
def EncAt (w : World) (base g : Nat) (v : Value) (e : EncS) : Prop := EncR w base g v e.n e.k (4294967295 - e.s)
def PutPost (base g : Nat) (v : Value) (f : EncS) (r : Value) (w : World) (x : Ending) (w' : World) : Prop :=
  x = .returned r ∧ ∃ v', EncAt w' base g v' f ∧ Keeps (fun j => j = g ∨ v.ownBlock = some j) w w' ∧ (∀ j, v'.ownBlock = some j → v.ownBlock = some j ∨ w.heap.size ≤ j)
theorem rncNew_any (w : World) :
    Calls Tryz.prog 130 #[] w fun e w' => e = .returned (.pointer (some ⟨w.heap.size, 0, none⟩)) ∧ EncAt w' w.heap.size w.heap.size (.slice none 0 0) encNew ∧ Below w.heap.size w w' := by
  have HC := Lib.hid (Cel.new w 239 #[.slice none 0 0, .int .u32 0, .int .u32 0])
  have HB := Lib.hid (Below.alloc_new w (.cells #[.slice none 0 0, .int .u32 0, .int .u32 0] 239))
  have HO := Lib.hid (World.ownsRow_nil (w.alloc (.cells #[.slice none 0 0, .int .u32 0, .int .u32 0] 239)) w.heap.size 5 1)
  go_enter Tryz.func130, Tryz.ntmps130
  go_wp2
  go_ret
  exact ⟨rfl, ⟨[], 0, ⟨HC.out, HO.out, Nat.le_refl _⟩, isDig_nil, rfl, by omega, by omega, rfl⟩, HB.out⟩
theorem rncLen_any (base g : Nat) (v : Value) (n : Int) (k : Nat) (less : Int) (w : World) (h : EncR w base g v n k less) (hk : k ≤ 1000000) :
    Calls Tryz.prog 167 #[.pointer (some ⟨g, 0, none⟩)] w fun e w' => e = .returned (.int .i64 ((k : Int) + 4)) ∧ w = w' := by
  obtain ⟨D, last, h1, h2, h3, h4, h5, h6⟩ := h
  obtain ⟨c0, _, _⟩ := h1.cells
  have ho := h1.2.1
  rw [h3] at ho
  obtain ⟨a, c, rfl⟩ := own_form ho
  clear h1 h2 h3 h4 h5 h6 ho
  go_enter Tryz.func167, Tryz.ntmps167
  go_wp2
  go_ret
  exact ⟨rfl, rfl⟩
end Go.Proofs.YtmgfkdmjgjlkjaaGreat

namespace Go.Proofs.YtmgfkdmjgjlkjaaGreat
open Go.RowKit
set_option linter.unusedVariables false
theorem u32_not06 {c : Int} (h0 : 0 ≤ c) (h1 : c ≤ 4294967295) : bits .xor .u32 IntKind.u32.max c = 4294967295 - c := by
  obtain ⟨m, rfl⟩ : ∃ m : Nat, c = m := ⟨c.toNat, by omega⟩
  have a := u32_xor_nat 4294967295 m (by decide) (by omega)
  refine Eq.trans a ?_
  have e : 4294967295 ^^^ m = 4294967295 - m := by
    apply Nat.eq_of_testBit_eq
    intro i
    have s := Nat.testBit_two_pow_sub_succ (n := 32) (x := m) (by omega) i
    rw [show 2 ^ 32 - (m + 1) = 4294967295 - m by omega] at s
    rw [s, Nat.testBit_xor, show (4294967295 : Nat) = 2 ^ 32 - 1 by rfl, Nat.testBit_two_pow_sub_one]
    by_cases hi : i < 32
    · simp [hi]
    · have : m.testBit i = false := Nat.testBit_lt_two_pow (Nat.lt_of_lt_of_le (show m < 2 ^ 32 by omega) (Nat.pow_le_pow_right (by decide) (by omega)))
      simp [hi, this]
  rw [e]; omega
set_option maxRecDepth 100000 in
theorem rncPut_any (base g : Nat) (v : Value) (e : EncS) (low own all : Int) (w : World) (hE : EncAt w base g v e) (hG : GoodE e) (hP : OkP low own all) (hk : e.k ≤ 900000) :
    Calls Tryz.prog 187 #[.pointer (some ⟨g, 0, none⟩), .agg #[.int .u32 low, .int .u32 own, .int .u32 all]] w (PutPost base g v (encPut e low own all) (.int .i64 0) w) := by
  obtain ⟨s0, s1, n0, n1⟩ := hG
  obtain ⟨p1, p2, p3, p4, p5⟩ := hP
  obtain ⟨E0, E1, E2⟩ := each_bd s0 s1 p1 p2
  have HP : RowKit.Hid (OkP low own all) := ⟨p1, p2, p3, p4, p5⟩
  have HG : RowKit.Hid (GoodE e) := ⟨s0, s1, n0, n1⟩
  have HE : RowKit.Hid (EncR w base g v e.n e.k (4294967295 - e.s)) := hE
  have HL := Lib.hid HE.out.lt
  have HOw : RowKit.Hid (∀ r, v.ownBlock = some r → r < w.heap.size ∧ base ≤ r ∧ r ≠ g) := fun r hr => HE.out.own r hr
  clear hE
  have HPre := Lib.hid (encPre_bd HG.out HP.out)
  have a2 : 0 ≤ e.s / all * low := Int.mul_nonneg (by omega) p4
  have a3 : e.s / all * (low + own) ≤ e.s / all * all := Int.mul_le_mul_of_nonneg_left p5 (by omega)
  have a4 : e.s / all * 1 ≤ e.s / all * own := Int.mul_le_mul_of_nonneg_left p3 (by omega)
  rw [Int.mul_add] at a3
  have hput : encPut e low own all = scaleE (encPre e low own all) := rfl
  rw [hput]
  clear hput
  have HN : RowKit.Hid ((encPre e low own all).n = e.n + e.s / all * low ∧ (encPre e low own all).s = e.s / all * own ∧ (encPre e low own all).k = e.k) := ⟨rfl, rfl, rfl⟩
  generalize encPre e low own all = pre at HN HPre ⊢
  obtain ⟨E, hEE⟩ : ∃ E, e.s / all = E := ⟨_, rfl⟩
  rw [hEE] at a2 a3 a4 E0 E1 E2 HN
  obtain ⟨A, hA⟩ : ∃ A, E * low = A := ⟨_, rfl⟩
  obtain ⟨O, hO⟩ : ∃ O, E * own = O := ⟨_, rfl⟩
  rw [hA] at a2 a3 HN
  rw [hO] at a3 a4 HN
  have O0 : 2048 ≤ O := by omega
  have O1 : O ≤ 4294967295 := by omega
  have HAdd : RowKit.Hid (e.n + A < 4294967296 * P256 e.k) := by
    have a := HPre.out
    have b := HN.out
    have c := HG.out.2.2.2
    show _ < _
    omega
  have hnot : bits .xor .u32 (if IntKind.u32.signed = true then -1 else IntKind.u32.max) (4294967295 - e.s) = e.s := by
    show bits .xor .u32 IntKind.u32.max (4294967295 - e.s) = e.s
    rw [u32_not06 (by omega) (by omega)]; omega
  have hall : ¬ all = 0 := by omega
  have HC0 := Lib.hid (Cel.new w 263 #[.int .u32 low, .int .u32 own, .int .u32 all])
  have HB0 := Lib.hid (Below.alloc_new w (.cells #[.int .u32 low, .int .u32 own, .int .u32 all] 263))
  have HE0 := Lib.hid (HE.out.below HB0.out)
  obtain ⟨S, hS⟩ : ∃ S, e.s = S := ⟨_, rfl⟩
  rw [hS] at hnot hEE s0 s1 HE HE0
  have hEE' : S.tdiv all = E := by rw [Int.tdiv_eq_ediv_of_nonneg (by omega)]; exact hEE
  have A1 : A ≤ 4294967295 := by omega
  have HSS := Lib.hid hS
  have hk1 : e.k ≤ 1000000 := by omega
  clear hS hEE p4 p5 a3 a4 E2
  go_enter Tryz.func187, Tryz.ntmps187
  go_wp2_with (first | (go_at_call 198; go_loud (refine (rncMay_yes low own all _ HP.out).mono ?_); rintro e1 w1 ⟨rfl, hb⟩; have HB1 := Lib.hid (HB0.out.trans (hb.mono HB0.out.size)); have HE1 := Lib.hid (HE0.out.below hb); have HC1 := Lib.hid (HC0.out.below hb); obtain ⟨ls1, lf1⟩ := HE1.out.less_; have q0 := HC1.out.cell 0; have q2 := HC1.out.cell 2; simp only [List.getElem?_toArray, List.getElem?_cons_zero, List.getElem?_cons_succ] at q0 q2; clear hb) | (go_at_call 199; go_loud (with_reducible refine (rncAdd_any base g v e.n e.k _ A _ HE1.out a2 A1 HAdd.out hk1).mono ?_); rintro e2 w2 ⟨rfl, hp⟩; obtain ⟨v2, hr2, hkp2, ho2⟩ := hp; have HE2 := Lib.hid hr2; have HK2 := Lib.hid hkp2; have HO2 := Lib.hid ho2; have HC2 := Lib.hid (HC1.out.keeps hkp2 (by intro c; rcases c with c | c; have := HL.out.1; omega; have := (HOw.out _ c).1; omega)); have q1 := HC2.out.cell 1; simp only [List.getElem?_toArray, List.getElem?_cons_zero, List.getElem?_cons_succ] at q1; clear hr2 hkp2 ho2))
  clear hnot ls1 lf1 q0 q2
  go_loopw [5] (fun s wr => ∃ (st : EncS) (v3 : Value), s = .int .u32 st.s ∧ 2048 ≤ st.s ∧ st.s ≤ 4294967295 ∧ st.k ≤ e.k + 2 ∧ (e.k + 1 ≤ st.k → 524288 ≤ st.s) ∧ (e.k + 2 ≤ st.k → 16777216 ≤ st.s) ∧ RowKit.Hid (scaleE st = scaleE pre ∧ EncR wr base g v3 st.n st.k (4294967295 - S) ∧ Keeps (fun j => j = g ∨ v.ownBlock = some j) w wr ∧ (∀ j, v3.ownBlock = some j → v.ownBlock = some j ∨ w.heap.size ≤ j))) (fun s _ => (16777216 - intOf s).toNat)
  case atStart =>
    have st1 := HN.out
    refine ⟨pre, v2, by rw [st1.2.1], by omega, by omega, by omega, by omega, by omega, rfl, ?_, ?_, ?_⟩
    · rw [st1.1, st1.2.2]; exact HE2.out
    · exact (Keeps.of_below HB1.out).trans HK2.out
    · intro j hj
      rcases HO2.out j hj with h | h
      · exact .inl h
      · have := HB1.out.size; exact .inr (by omega)
  case round =>
    obtain ⟨st, v3, rfl, b0, b1, b2, b3, b4, H⟩ := hrel
    clear HC2 HE2 HK2 HO2 HC1 HE1
    by_cases hlt : st.s < 16777216
    · have S1 := Lib.hid (scaleE_step (e := st) (by omega) hlt)
      have hk1' : st.k ≤ 1000000 := by omega
      go_wp2_with (go_at_call 200; ((with_reducible refine (rncScale_any base g v3 st.n st.k _ _ H.out.2.1 hk1').mono ?_)); rintro e4 w4 ⟨rfl, hp⟩; have HP4 := Lib.hid hp; clear hp)
      go_roundw
      case rel =>
        obtain ⟨v4, u1, u2, u3⟩ := HP4.out
        refine ⟨⟨st.n * 256, st.s * 256, st.k + 1⟩, v4, rfl, by simp only; omega, by simp only; omega, by simp only; omega, by simp only; omega, by simp only; omega, S1.out.symm.trans H.out.1, u1, H.out.2.2.1.then_ u2 ?_, ?_⟩
        · rintro j (hj | hj)
          · exact .inl (.inl hj)
          · rcases H.out.2.2.2 j hj with h | h
            · exact .inl (.inr h)
            · exact .inr h
        · intro j hj
          rcases u3 j hj with h | h
          · exact H.out.2.2.2 j h
          · have := H.out.2.2.1.size; exact .inr (by omega)
      case measure => simp [intOf] <;> omega
    · have Z : RowKit.Hid (scaleE pre = st) := by rw [← H.out.1]; exact scaleE_end (by omega)
      have hn2 : bits .xor .u32 (if IntKind.u32.signed = true then -1 else IntKind.u32.max) st.s = 4294967295 - st.s := u32_not06 (by omega) (by omega)
      obtain ⟨m2, z2⟩ := H.out.2.1.less_
      have E5 := Lib.hid (H.out.2.1.setLess (4294967295 - st.s))
      have K5 := Lib.hid (H.out.2.2.1.setCell (p := ⟨g, 2, none⟩) (.inl (.inl rfl)) (.int .u32 (4294967295 - st.s)))
      go_wp2
      go_ret
      exact ⟨rfl, v3, by rw [Z.out]; exact E5.out, K5.out, H.out.2.2.2⟩
end Go.Proofs.YtmgfkdmjgjlkjaaGreat
