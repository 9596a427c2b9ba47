/- What the functions of package overlap give: an analyser's lines. -/
import Derived.Test.YtgebnaeebdeoeaaOvlD
namespace Go.Proofs.Ytgebnaeebdeoeaa
open Go.RowKit
set_option linter.unusedVariables false

theorem ana_slice (g : Nat) (w : World) : (Instr.sliceAt 52 (.pointer (some ⟨g, 3, none⟩)) none none none).run Try.prog w = .ok (.slice (some ⟨g, 3, none⟩) 128 128) w := by
  have e : Try.prog.arrayLen 52 = 128 := by kernel_rfl
  have e2 : Try.prog.elem 52 = 30 := by kernel_rfl
  have ht : Try.prog.underlying 52 = some (.array (Try.prog.arrayLen 52) (Try.prog.elem 52)) := by kernel_rfl
  have es : (sizeOf 30).run Try.prog w = .ok 1 w := by kernel_rfl
  rw [run_sliceAt_array_all w _ _ ht, e, e2, es]
  simp [Result.andThen, slicedAt, Addr.add]
theorem splice_ovl {k : IntKind} {c p q : Nat} (f l : Nat → Int) : splice (ovlL k c p q f) 3 ((tabF 128 l).map (Value.int k)) = ovlL k c p q l := by
  unfold splice ovlL
  have h : ((tabF 128 f).map (Value.int k)).length = 128 := by rw [List.length_map, tabF_len]
  have h2 : ((tabF 128 l).map (Value.int k)).length = 128 := by rw [List.length_map, tabF_len]
  rw [h2]
  generalize (tabF 128 f).map (Value.int k) = F at h
  generalize (tabF 128 l).map (Value.int k) = L
  simp [h]
theorem info_i16s : (Try.prog.info? 30).map (·.size) = some 1 := by
  obtain ⟨i, h1, _, h3, _⟩ := info_parts info_i169
  rw [h1]; simp [h3]
theorem anaLines_nil (a : Option Addr) (len cap : Nat) (b : Bool) (w : World) :
    Calls Try.prog 11 #[.pointer none, .slice a len cap, .bool b] w fun e w' => e = .returned (.tuple #[.slice none 0 0, .int .i64 1]) ∧ w = w' := by
  go_enter Try.func11, Try.ntmps11
  go_wp2
  go_ret2
  exact ⟨rfl, rfl⟩
theorem anaLines_len (g : Nat) (a : Option Addr) (len cap : Nat) (b : Bool) (w : World) (hl : len ≤ 9223372036854775807) (h : len ≠ 512) :
    Calls Try.prog 11 #[.pointer (some ⟨g, 0, none⟩), .slice a len cap, .bool b] w fun e w' => e = .returned (.tuple #[.slice none 0 0, .int .i64 1]) ∧ w = w' := by
  have hd : ((len : Int) != 512) = true := by simp; omega
  go_enter Try.func11, Try.ntmps11
  go_wp2
  go_ret2
  exact ⟨rfl, rfl⟩
theorem allF_abs {ah f : Nat → Int} (h0 : ∀ j, j < 128 → -32768 ≤ ah j ∧ ah j ≤ 32767) (h1 : ∀ j, j < 512 → -32768 ≤ f j ∧ f j ≤ 32767) : ∀ j, j < 640 → (allF ah f j).natAbs ≤ 524288 := by
  intro j hj
  unfold allF
  split
  · have := h0 j (by assumption); omega
  · have := h1 (j - 128) (by omega); omega
theorem own_caps {w : World} {base e n c : Nat} {ad : Option Addr} {xs : List Value} (h : w.ownsRow base e 1 (.slice ad n c) n xs) (h0 : 0 < n) : n ≤ c ∧ c ≤ 9223372036854775807 := by
  rcases h.2 with ⟨h1, _⟩ | ⟨g', cap, cur, h1, _, _, h2, h3, _⟩
  · injection h1 with _ h1; omega
  · unfold maxLen at h3; injection h1 with _ _ h1; omega
def AnaPost (b : Bool) (a c p q : Nat) (ah f : Nat → Int) (w : World) (e : Ending) (w' : World) : Prop :=
  ∃ g, e = .returned (.tuple #[.slice (some ⟨g, 0, none⟩) 512 512, .int .i64 0]) ∧ IFun w' g 21 .i32 512 (linesF b (allF ah f)) ∧ w.heap.size ≤ g ∧ OvAt 54 .i16 w' a c p q (fun j => f (384 + j)) ∧ Keeps (· = a) w w'
set_option maxRecDepth 100000 in
theorem anaLines_any (a c p q x : Nat) (ah f : Nat → Int) (b : Bool) (w : World) (hA : OvAt 54 .i16 w a c p q ah) (hf : IFun w x 30 .i16 512 f)
    (h0 : ∀ j, j < 128 → -32768 ≤ ah j ∧ ah j ≤ 32767) (h1 : ∀ j, j < 512 → -32768 ≤ f j ∧ f j ≤ 32767) :
    Calls Try.prog 11 #[.pointer (some ⟨a, 0, none⟩), .slice (some ⟨x, 0, none⟩) 512 512, .bool b] w (AnaPost b a c p q ah f w) := by
  have HA := Lib.hid hA
  have HF := Lib.hid hf
  have H0 := Lib.hid h0
  have H1 := Lib.hid h1
  obtain ⟨a0, a1, a2⟩ := hA.ptrs
  have al := hA.1.lt
  have xl := hf.lt
  have hxa : x ≠ a := by obtain ⟨cs, hcs⟩ := hf.cel; exact hcs.ne hA.1 (by decide)
  have hAB : RowKit.Hid (∀ j, j < 640 → (allF ah f j).natAbs ≤ 524288) := allF_abs h0 h1
  have hsl := ana_slice a
  clear hA hf h0 h1
  go_enter Try.func11, Try.ntmps11
  go_wp2
  go_region_held3 (fun w' => w'.cell? ⟨a, 0, none⟩ = some (.pointer (some ⟨c, 0, none⟩)) ∧ w'.cell? ⟨a, 1, none⟩ = some (.pointer (some ⟨p, 0, none⟩)) ∧ w'.cell? ⟨a, 2, none⟩ = some (.pointer (some ⟨q, 0, none⟩))) (go_keep) (first | (go_at_call 20; go_loud (refine (ovAll_any a c p q x 512 ah f w.drew HA.out HF.out H0.out H1.out).mono ?_); rintro e w3 ⟨v3, rfl, o3, z3⟩; obtain ⟨b3, c3, rfl, f3, m3⟩ := fill_fn o3 (by decide); have HC3 := Lib.hid (own_caps o3 (by decide)); have HI3 := Lib.hid f3; have HA3 : RowKit.Hid (OvAt 54 .i16 w3 a c p q ah) := (show OvAt 54 .i16 w.drew a c p q ah from HA.out).below z3; have HF3 : RowKit.Hid (IFun w3 x 30 .i16 512 f) := (show IFun w.drew x 30 .i16 512 f from HF.out).below z3 xl; have HB3 : RowKit.Hid (Below w.heap.size w w3) := chain (show Below w.heap.size w w.drew from Below.drewN' (Below.refl _ _) 1) z3; obtain ⟨m0, m1, m2⟩ := HA3.out.ptrs; clear o3 z3 f3 m3) | (go_at_call 19; go_loud (refine (ovLines_any c p q c3 b3 (allF ah f) b w3 HA3.out.2 HI3.out hAB.out HC3.out.1 HC3.out.2).mono ?_); rintro e w5 ⟨g5, rfl, i5, s5, b5⟩; have HI5 := Lib.hid i5; have HS5 : RowKit.Hid (w.heap.size ≤ g5) := Nat.le_trans HB3.out.size s5; have HA5 : RowKit.Hid (OvAt 54 .i16 w5 a c p q ah) := HA3.out.below b5; have HF5 : RowKit.Hid (IFun w5 x 30 .i16 512 f) := HF3.out.below b5 HF3.out.lt; have HB5 : RowKit.Hid (Below w.heap.size w w5) := chain HB3.out b5; obtain ⟨n0, n1, n2⟩ := HA5.out.ptrs; clear i5 s5 b5) | fail)
  clear a0 a1 a2 m0 m1 m2 HA3 HF3 HB3 HC3 HI3 HA HF
  go_wp2
  have w384 : IntKind.i64.wrap 384 = 384 := by decide
  go_region_held3 (fun w' => True) (go_keep) (first | (refine step_copy_cells (by rfl) _ _ _ _ (by rfl) 30 Try.underlying22 info_i16s a 3 128 128 ⟨x, 384, none⟩ 128 _ (by rfl) (by rfl) _ 54 HA5.out.1 ((tabF 128 fun j => f (384 + j)).map (Value.int .i16)) (by rw [List.length_map, tabF_len]; rfl) (tab_src fun j hj => HF5.out.cell (by omega)) (by rw [List.length_map, tabF_len, ovlL_len]; decide) (tab_one _) ?_; intro w6 hx6 hk6; have HC6 : RowKit.Hid (Cel w6 a 54 (ovlL .i16 c p q fun j => f (384 + j)).toArray) := (by have := hx6.out; rw [splice_ovl] at this; exact this); have HK6 := Lib.hid hk6; clear hx6 hk6) | fail)
  have HO6 : RowKit.Hid (OvAt 54 .i16 w6 a c p q (fun j => f (384 + j))) := ⟨HC6.out, TlAt.keeps (w := w5.drew) HA5.out.2 HA5.out.1 (by decide) (by decide) HK6.out⟩
  have HI6 : RowKit.Hid (IFun w6 g5 21 .i32 512 (linesF b (allF ah f))) := by
    obtain ⟨cs, hcs⟩ := HI5.out.cel
    exact Cel.keeps (w := w5.drew) HI5.out HK6.out (hcs.ne HA5.out.1 (by decide))
  have HKK : RowKit.Hid (Keeps (· = a) w w6) := ((Keeps.of_below HB5.out).drewN 1).trans HK6.out
  go_wp2
  go_ret2
  exact ⟨g5, rfl, HI6.out, HS5.out, HO6.out, HKK.out⟩
end Go.Proofs.Ytgebnaeebdeoeaa
