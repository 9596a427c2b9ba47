/- Plain facts, and what functions give, for the proofs of this seat: several texts in one, each with its own first remark. -/
import Derived.Deep.MidRow
import Derived.Deep.WholeRow
import Derived.Test.YtobhoecmmpijgaaGreatRC
import Derived.Test.YtobhoecmmpijgaaGreatRr

/- What the functions of package overlap give: tools, a new analyser, a new synth, a clone. -/
namespace Go.Proofs.YtobhoecmmpijgaaGreat
open Go.RowKit
set_option linter.unusedVariables false

theorem Cel.ne {w : World} {g g' : Nat} {t t' : TypeId} {cs cs' : Array Value} (h : Cel w g t cs) (h' : Cel w g' t' cs') (hne : t ≠ t') : g ≠ g' := by
  rintro rfl
  unfold Cel at h h'
  rw [h] at h'
  injection h' with h'
  injection h' with _ ht
  exact hne ht
theorem CircAt.cel {w : World} {g : Nat} (h : CircAt w g) : ∃ cs, Cel w g 220 cs := ⟨_, h⟩
theorem IFun.cel {w : World} {g n : Nat} {t : TypeId} {k : IntKind} {f : Nat → Int} (h : IFun w g t k n f) : ∃ cs, Cel w g t cs := ⟨_, h⟩

/-! ### Tools -/
def toolsV (c p q : Nat) : Value := .agg #[.pointer (some ⟨c, 0, none⟩), .pointer (some ⟨p, 0, none⟩), .pointer (some ⟨q, 0, none⟩)]
def TlAt (w : World) (c p q : Nat) : Prop := TrAt w p c 512 ∧ TrAt w q c 128
theorem TlAt.below {w w' : World} {c p q : Nat} (h : TlAt w c p q) (hb : Below w.heap.size w w') : TlAt w' c p q :=
  ⟨h.1.below hb (Nat.le_refl _), h.2.below hb (Nat.le_refl _)⟩
theorem TrAt.keep {w w' : World} {g c n : Nat} (h : TrAt w g c n) (hk : w'.heap[g]? = w.heap[g]?) (hc : w'.heap[c]? = w.heap[c]?) : TrAt w' g c n := ⟨h.1.keep hk, h.2.keep hc⟩
theorem TrAt.keeps {w w' : World} {g c n : Nat} {F : Nat → Prop} (h : TrAt w g c n) (hk : Keeps F w w') (hg : ¬ F g) (hc : ¬ F c) : TrAt w' g c n :=
  h.keep (hk.block g h.1.lt hg) (hk.block c h.2.lt hc)
/-- A block of another type is none of the tools'. -/
theorem TrAt.ne {w : World} {g c n b : Nat} {t : TypeId} {cs : Array Value} (h : TrAt w g c n) (hb : Cel w b t cs) (h1 : t ≠ 222) (h2 : t ≠ 220) : g ≠ b ∧ c ≠ b :=
  ⟨(hb.ne h.1 h1).symm, by obtain ⟨cs', hc⟩ := h.2.cel; exact (hb.ne hc h2).symm⟩
theorem TlAt.keeps {w w' : World} {c p q b : Nat} {t : TypeId} {cs : Array Value} (h : TlAt w c p q) (hb : Cel w b t cs) (h1 : t ≠ 222) (h2 : t ≠ 220) (hk : Keeps (· = b) w w') : TlAt w' c p q := by
  obtain ⟨a1, a2⟩ := h.1.ne hb h1 h2
  obtain ⟨a3, _⟩ := h.2.ne hb h1 h2
  exact ⟨h.1.keeps hk a1 a2, h.2.keeps hk a3 a2⟩
def ToolsPost (w : World) (e : Ending) (w' : World) : Prop := ∃ c p q, e = .returned (toolsV c p q) ∧ TlAt w' c p q ∧ Below w.heap.size w w'
theorem cel3 {w : World} {g : Nat} {t : TypeId} {x y z : Value} (h : Cel w g t #[x, y, z]) : w.cell? ⟨g, 0, none⟩ = some x ∧ w.cell? ⟨g, 1, none⟩ = some y ∧ w.cell? ⟨g, 2, none⟩ = some z := ⟨h.cell 0, h.cell 1, h.cell 2⟩
theorem Keeps.set1 {w : World} {b i : Nat} (u : Value) : Keeps (· = b) w (w.setCell ⟨b, i, none⟩ u) := Keeps.setCell (F := (· = b)) (p := ⟨b, i, none⟩) (Keeps.refl _ w) (.inl rfl) u
set_option maxRecDepth 100000 in
theorem newTools_any (w : World) : Calls Tryz.prog 73 #[] w (ToolsPost w) := by
  have HR0 := Lib.hid (Cel.new w 148 #[.pointer none, .pointer none, .pointer none])
  have HB0 := Lib.hid (Below.alloc_new w (.cells #[.pointer none, .pointer none, .pointer none] 148))
  go_enter Tryz.func73, Tryz.ntmps73
  go_wp2_with (first | (go_at_call 101; go_loud (refine (circNew_any _).mono ?_); rintro e w2 ⟨c, rfl, hc, hb⟩; have HC := Lib.hid hc; have HR2 := Lib.hid (HR0.out.below hb); have HB2 := Lib.hid (chain HB0.out hb); clear hc hb HR0 HB0) | (go_at_call 102; have hq := HP3.out; go_loud (refine (lapNew_any 128 c _ (.inl rfl) HC3.out).mono ?_); rintro e w4 ⟨q, rfl, ht, hb⟩; have HT4 := Lib.hid (show TlAt w4 c p q from ⟨HP3b.out.below hb (Nat.le_refl _), ht⟩); have HU4 := Lib.hid (HU3.out.below hb); have HR4 := Lib.hid (HR3b.out.below hb); have HB4 := Lib.hid (chain HB3.out hb); obtain ⟨t0, t1, t2⟩ := cel3 HU4.out; obtain ⟨r0, r1, r2⟩ := cel3 HR4.out; have ft2 := HU4.out.frozen 2; have fr0 := HR4.out.frozen 0; have fr1 := HR4.out.frozen 1; have fr2 := HR4.out.frozen 2; have HS := Lib.hid HS2.out; have n1 : ¬ w.heap.size = w2.heap.size := HTR.out; have n2 : ¬ w2.heap.size = w.heap.size := (fun e => HTR.out e.symm); clear ht hb hq HP3 HC3 HU3 HR3 HB3 a0 a1 a2 fa1) | (go_at_call 102; go_loud (refine (lapNew_any 512 c _ (.inr rfl) (IFun.alloc HC.out _)).mono ?_); rintro e w3 ⟨p, rfl, ht, hb⟩; have HC0 := Lib.hid (show Cel w3 w2.heap.size 148 #[.pointer (some ⟨c, 0, none⟩), .pointer none, .pointer none] from (Cel.new w2 _ _).below hb); obtain ⟨a0, a1, a2⟩ := cel3 HC0.out; have fa1 := HC0.out.frozen 1; have HP3 := Lib.hid ht; have HR3 := Lib.hid ((HR2.out.alloc (.cells #[.pointer (some ⟨c, 0, none⟩), .pointer none, .pointer none] 148)).below hb); have HS2 : RowKit.Hid (w.heap.size ≤ w2.heap.size) := HB2.out.size; have HTR : RowKit.Hid (w.heap.size ≠ w2.heap.size) := (by have := HR2.out.lt; show _ ≠ _; omega); have HCT := Lib.hid (ht.ne HC0.out (by decide) (by decide)); have HP3b : RowKit.Hid (TrAt (w3.setCell ⟨w2.heap.size, 1, none⟩ (.pointer (some ⟨p, 0, none⟩))) p c 512) := ht.keeps (Keeps.set1 _) HCT.out.1 HCT.out.2; have HC3 := Lib.hid HP3b.out.2; have HU3 : RowKit.Hid (Cel (w3.setCell ⟨w2.heap.size, 1, none⟩ (.pointer (some ⟨p, 0, none⟩))) w2.heap.size 148 #[.pointer (some ⟨c, 0, none⟩), .pointer (some ⟨p, 0, none⟩), .pointer none]) := HC0.out.set_ 1 _; have HR3b : RowKit.Hid (Cel (w3.setCell ⟨w2.heap.size, 1, none⟩ (.pointer (some ⟨p, 0, none⟩))) w.heap.size 148 #[.pointer none, .pointer none, .pointer none]) := HR3.out.far HTR.out _; have HB3 : RowKit.Hid (Below w.heap.size w (w3.setCell ⟨w2.heap.size, 1, none⟩ (.pointer (some ⟨p, 0, none⟩)))) := (chain HB2.out (chain (Below.alloc_new w2 _) hb)).setCell (by have := HB2.out.size; exact this) _; clear ht hb HC HC0 HB2 HR2))
  have Z1 : TlAt (w4.setCell ⟨w2.heap.size, 2, none⟩ (.pointer (some ⟨q, 0, none⟩))) c p q := HT4.out.keeps HU4.out (by decide) (by decide) (Keeps.set1 _)
  have Z2 := HR4.out.far (p := ⟨w2.heap.size, 2, none⟩) HTR.out (.pointer (some ⟨q, 0, none⟩))
  have Z4 := HB4.out.setCell (p := ⟨w2.heap.size, 2, none⟩) (by have := HB4.out.size; have := HU4.out.lt; have := HR4.out.lt; show w.heap.size ≤ w2.heap.size; exact HS.out) (.pointer (some ⟨q, 0, none⟩))
  generalize (w4.setCell ⟨w2.heap.size, 2, none⟩ (.pointer (some ⟨q, 0, none⟩))) = w5 at Z1 Z2 Z4 ⊢
  have Z3 := ((Z2.set_ 0 (.pointer (some ⟨c, 0, none⟩))).set_ 1 (.pointer (some ⟨p, 0, none⟩))).set_ 2 (.pointer (some ⟨q, 0, none⟩))
  obtain ⟨d0, d1, d2⟩ := cel3 (show Cel _ w.heap.size 148 #[.pointer (some ⟨c, 0, none⟩), .pointer (some ⟨p, 0, none⟩), .pointer (some ⟨q, 0, none⟩)] from Z3)
  have Z5 := Z1.keeps Z2 (by decide) (by decide) ((((Keeps.set1 (i := 0) (.pointer (some ⟨c, 0, none⟩))).setCell (p := ⟨w.heap.size, 1, none⟩) (.inl rfl) (.pointer (some ⟨p, 0, none⟩))).setCell (p := ⟨w.heap.size, 2, none⟩) (.inl rfl) (.pointer (some ⟨q, 0, none⟩))))
  have Z6 := ((Z4.setCell (p := ⟨w.heap.size, 0, none⟩) (Nat.le_refl _) (.pointer (some ⟨c, 0, none⟩))).setCell (p := ⟨w.heap.size, 1, none⟩) (Nat.le_refl _) (.pointer (some ⟨p, 0, none⟩))).setCell (p := ⟨w.heap.size, 2, none⟩) (Nat.le_refl _) (.pointer (some ⟨q, 0, none⟩))
  generalize (((w5.setCell _ _).setCell _ _).setCell _ _) = w6 at d0 d1 d2 Z5 Z6 ⊢
  exact bodyPost_ret (v := toolsV c p q) (by simp [results, Tryz.results73, go_sem, d0, d1, d2, toolsV]) rfl ⟨c, p, q, rfl, Z5, Z6⟩

/-! ### An analyser, a synth -/
/-- The cells of both: three pointers, 128 numbers. -/
def ovlL (k : IntKind) (c p q : Nat) (f : Nat → Int) : List Value := [.pointer (some ⟨c, 0, none⟩), .pointer (some ⟨p, 0, none⟩), .pointer (some ⟨q, 0, none⟩)] ++ (tabF 128 f).map (Value.int k)
section
variable {k : IntKind} {c p q : Nat} {f f' : Nat → Int}
theorem ovlL_len : (ovlL k c p q f).length = 131 := by simp [ovlL, tabF]
theorem ovlL_at {j : Nat} (h : j < 128) : (ovlL k c p q f)[3 + j]? = some (.int k (f j)) := by
  unfold ovlL tabF
  rw [List.getElem?_append_right (by simp)]
  simp [h]
theorem ovlL_ext (h : ∀ j, j < 128 → f j = f' j) : ovlL k c p q f = ovlL k c p q f' := by unfold ovlL; rw [tabF_ext h]
end
/-- Block a is an analyser (a synth), which keeps the numbers f. -/
def OvAt (t : TypeId) (k : IntKind) (w : World) (a c p q : Nat) (f : Nat → Int) : Prop := Cel w a t (ovlL k c p q f).toArray ∧ TlAt w c p q
section
variable {t : TypeId} {k : IntKind} {w w' : World} {a c p q : Nat} {f f' : Nat → Int}
theorem OvAt.ptrs (h : OvAt t k w a c p q f) : w.cell? ⟨a, 0, none⟩ = some (.pointer (some ⟨c, 0, none⟩)) ∧ w.cell? ⟨a, 1, none⟩ = some (.pointer (some ⟨p, 0, none⟩)) ∧ w.cell? ⟨a, 2, none⟩ = some (.pointer (some ⟨q, 0, none⟩)) :=
  ⟨h.1.cell 0, h.1.cell 1, h.1.cell 2⟩
theorem OvAt.at_ (h : OvAt t k w a c p q f) {j : Nat} (hj : j < 128) : w.cell? ⟨a, 3 + j, none⟩ = some (.int k (f j)) := by
  rw [h.1.cell, List.getElem?_toArray]; exact ovlL_at hj
theorem OvAt.below (h : OvAt t k w a c p q f) (hb : Below w.heap.size w w') : OvAt t k w' a c p q f := ⟨h.1.below hb, h.2.below hb⟩
theorem OvAt.ext (h : OvAt t k w a c p q f) (he : ∀ j, j < 128 → f j = f' j) : OvAt t k w a c p q f' := ⟨by rw [← ovlL_ext he]; exact h.1, h.2⟩
theorem OvAt.drewN (h : OvAt t k w a c p q f) (n : Nat) : OvAt t k (w.drewN n) a c p q f := h
theorem OvAt.range (h : OvAt t k w a c p q f) : w.rangeAt a 0 (ovlL k c p q f) := fun j v hv => by
  rw [Nat.zero_add, h.1.cell, List.getElem?_toArray]; exact hv
end
def anaZ : List Value := [.pointer none, .pointer none, .pointer none] ++ List.replicate 128 (.int .i16 0)
theorem ana_zero (w : World) : (zeroValue 152).run Tryz.prog w = .ok (.agg anaZ.toArray) w :=
  (zero_of_info (t := 152) (v := .agg anaZ.toArray) (n := 131) (by kernel_rfl)).1 w
def synZ : List Value := [.pointer none, .pointer none, .pointer none] ++ List.replicate 128 (.int .i32 0)
theorem syn_zero (w : World) : (zeroValue 155).run Tryz.prog w = .ok (.agg synZ.toArray) w :=
  (zero_of_info (t := 155) (v := .agg synZ.toArray) (n := 131) (by kernel_rfl)).1 w
def NewPost (t : TypeId) (k : IntKind) (w : World) (e : Ending) (w' : World) : Prop := ∃ a c p q, e = .returned (.pointer (some ⟨a, 0, none⟩)) ∧ OvAt t k w' a c p q (fun _ => 0) ∧ w.heap.size ≤ a ∧ Below w.heap.size w w'
theorem ana_is (c p q : Nat) : ((anaZ.toArray.setIfInBounds 0 (.pointer (some ⟨c, 0, none⟩))).setIfInBounds 1 (.pointer (some ⟨p, 0, none⟩))).setIfInBounds 2 (.pointer (some ⟨q, 0, none⟩)) = (ovlL .i16 c p q fun _ => 0).toArray := by
  have e : tabF 128 (fun _ => (0 : Int)) = List.replicate 128 0 := by decide
  unfold ovlL anaZ
  rw [e, List.map_replicate]
  generalize List.replicate 128 _ = R
  simp
theorem syn_is (c p q : Nat) : ((synZ.toArray.setIfInBounds 0 (.pointer (some ⟨c, 0, none⟩))).setIfInBounds 1 (.pointer (some ⟨p, 0, none⟩))).setIfInBounds 2 (.pointer (some ⟨q, 0, none⟩)) = (ovlL .i32 c p q fun _ => 0).toArray := by
  have e : tabF 128 (fun _ => (0 : Int)) = List.replicate 128 0 := by decide
  unfold ovlL synZ
  rw [e, List.map_replicate]
  generalize List.replicate 128 _ = R
  simp
set_option maxRecDepth 100000 in
theorem newAnalyser_any (w : World) : Calls Tryz.prog 40 #[] w (NewPost 152 .i16 w) := by
  obtain ⟨zz, hzz⟩ : ∃ zz, zz = anaZ.toArray := ⟨_, rfl⟩
  have hz := ana_zero
  rw [← hzz] at hz
  have hzs : zz.size = 131 := by rw [hzz]; rfl
  have HZ := Lib.hid hzz
  clear hzz
  go_enter Tryz.func40, Tryz.ntmps40
  go_wp2_with (go_at_call 73; go_loud (refine (newTools_any _).mono ?_); rintro e w2 ⟨c, p, q, rfl, ht, hb⟩; have HT := Lib.hid ht; have HB := Lib.hid hb; clear ht hb; unfold toolsV)
  go_ret
  refine ⟨_, c, p, q, rfl, ⟨by rw [← ana_is, ← HZ.out]; exact Cel.new _ _ _, HT.out.below (Below.alloc_new _ _)⟩, HB.out.size, chain HB.out (Below.alloc_new _ _)⟩
set_option maxRecDepth 100000 in
theorem newSynth_any (w : World) : Calls Tryz.prog 41 #[] w (NewPost 155 .i32 w) := by
  obtain ⟨zz, hzz⟩ : ∃ zz, zz = synZ.toArray := ⟨_, rfl⟩
  have hz := syn_zero
  rw [← hzz] at hz
  have hzs : zz.size = 131 := by rw [hzz]; rfl
  have HZ := Lib.hid hzz
  clear hzz
  go_enter Tryz.func41, Tryz.ntmps41
  go_wp2_with (go_at_call 73; go_loud (refine (newTools_any _).mono ?_); rintro e w2 ⟨c, p, q, rfl, ht, hb⟩; have HT := Lib.hid ht; have HB := Lib.hid hb; clear ht hb; unfold toolsV)
  go_ret
  refine ⟨_, c, p, q, rfl, ⟨by rw [← syn_is, ← HZ.out]; exact Cel.new _ _ _, HT.out.below (Below.alloc_new _ _)⟩, HB.out.size, chain HB.out (Below.alloc_new _ _)⟩
end Go.Proofs.YtobhoecmmpijgaaGreat
