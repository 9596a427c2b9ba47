/- What the functions of package overlap give: a synth's samples. -/
import Derived.Test.YtgebnaeebdeoeaaOvlG
namespace Go.Proofs.Ytgebnaeebdeoeaa
open Go.RowKit
set_option linter.unusedVariables false

theorem syn_slice (g : Nat) (w : World) : (Instr.sliceAt 58 (.pointer (some ⟨g, 3, none⟩)) none none none).run Try.prog w = .ok (.slice (some ⟨g, 3, none⟩) 128 128) w := by
  have e : Try.prog.arrayLen 58 = 128 := by kernel_rfl
  have e2 : Try.prog.elem 58 = 21 := by kernel_rfl
  have ht : Try.prog.underlying 58 = some (.array (Try.prog.arrayLen 58) (Try.prog.elem 58)) := by kernel_rfl
  have es : (sizeOf 21).run Try.prog w = .ok 1 w := by kernel_rfl
  rw [run_sliceAt_array_all w _ _ ht, e, e2, es]
  simp [Result.andThen, slicedAt, Addr.add]
theorem synSamples_nil (a : Option Addr) (len cap : Nat) (b : Bool) (w : World) :
    Calls Try.prog 15 #[.pointer none, .slice a len cap, .bool b] w fun e w' => e = .returned (.tuple #[.slice none 0 0, .int .i64 1]) ∧ w = w' := by
  go_enter Try.func15, Try.ntmps15
  go_wp2
  go_ret2
  exact ⟨rfl, rfl⟩
theorem synSamples_len (g : Nat) (a : Option Addr) (len cap : Nat) (b : Bool) (w : World) (hl : len ≤ 9223372036854775807) (h : len ≠ 512) :
    Calls Try.prog 15 #[.pointer (some ⟨g, 0, none⟩), .slice a len cap, .bool b] w fun e w' => e = .returned (.tuple #[.slice none 0 0, .int .i64 1]) ∧ w = w' := by
  have hd : ((len : Int) != 512) = true := by simp; omega
  go_enter Try.func15, Try.ntmps15
  go_wp2
  go_ret2
  exact ⟨rfl, rfl⟩
set_option maxRecDepth 100000 in
theorem synSamples_no (s c p q x cap : Nat) (left l : Nat → Int) (b : Bool) (w : World) (hS : OvAt 60 .i32 w s c p q left) (hf : IFun w x 21 .i32 512 l)
    (hb : ∀ j, j < 512 → -2147483648 ≤ l j ∧ l j ≤ 2147483647) (hno : l 256 < -33554432 ∨ 33554431 < l 256) :
    Calls Try.prog 15 #[.pointer (some ⟨s, 0, none⟩), .slice (some ⟨x, 0, none⟩) 512 cap, .bool b] w fun e w' => e = .returned (.tuple #[.slice none 0 0, .int .i64 1]) ∧ Below w.heap.size w w' := by
  have HK := Lib.hid (ovSound_no c p q cap (some ⟨x, 0, none⟩) l b w hS.2 (FnAt.of_ifun hf) hb hno)
  obtain ⟨a0, a1, a2⟩ := hS.ptrs
  clear hS hf hb hno
  go_enter Try.func15, Try.ntmps15
  go_wp2_with (go_at_call 23; go_loud (refine (HK.out).mono ?_); rintro e w3 ⟨rfl, z3⟩; have HB3 := Lib.hid z3; clear z3)
  go_ret2
  exact ⟨rfl, HB3.out⟩
def SynPost (b : Bool) (s c p q : Nat) (left l : Nat → Int) (w : World) (e : Ending) (w' : World) : Prop :=
  ∃ g, e = .returned (.tuple #[.slice (some ⟨g, 0, none⟩) 512 512, .int .i64 0]) ∧ IFun w' g 30 .i16 512 (samplesF b l left) ∧ w.heap.size ≤ g ∧ OvAt 60 .i32 w' s c p q (leftF b l) ∧ Keeps (· = s) w w'
theorem addF_both (b : Bool) (l left : Nat → Int) (i : Nat) : addF (soundF b l) left 0 128 i = bothF b l left i := by
  unfold addF bothF
  by_cases c : i < 128
  · rw [if_pos (by omega), if_pos c, Nat.sub_zero]
  · rw [if_neg (by omega), if_neg c, Int.add_zero]
set_option maxRecDepth 100000 in
theorem synSamples_any (s c p q x : Nat) (left l : Nat → Int) (b : Bool) (w : World) (hS : OvAt 60 .i32 w s c p q left) (hf : IFun w x 21 .i32 512 l)
    (hb : ∀ j, j < 512 → -33554432 ≤ l j ∧ l j ≤ 33554431) (hl : ∀ j, j < 128 → (left j).natAbs ≤ 1073741000) :
    Calls Try.prog 15 #[.pointer (some ⟨s, 0, none⟩), .slice (some ⟨x, 0, none⟩) 512 512, .bool b] w (SynPost b s c p q left l w) := by
  have HS := Lib.hid hS
  have HF := Lib.hid hf
  have HB := Lib.hid hb
  have HLf := Lib.hid hl
  have HBa : RowKit.Hid (∀ j, j < 512 → (l j).natAbs ≤ 33554432) := fun j hj => by have := hb j hj; omega
  obtain ⟨a0, a1, a2⟩ := hS.ptrs
  have hsl := syn_slice s
  clear hS hf hb hl
  go_enter Try.func15, Try.ntmps15
  go_wp2_with (first | (go_at_call 23; go_loud (refine (ovSound_any c p q 512 (some ⟨x, 0, none⟩) l b w HS.out.2 (FnAt.of_ifun HF.out) HB.out).mono ?_); rintro e w3 ⟨g3, rfl, i3, s3, z3⟩; have HI3 := Lib.hid i3; have HS3 : RowKit.Hid (w.heap.size ≤ g3) := s3; have HO3 : RowKit.Hid (OvAt 60 .i32 w3 s c p q left) := HS.out.below z3; have HB3 := Lib.hid z3; clear i3 s3 z3) | (go_at_call 24; go_loud (refine (ovAdd_any g3 0 640 128 s 3 640 _ _ (soundF b l) left w3 HI3.out (by decide) (by decide) (by decide) (by obtain ⟨cs, hcs⟩ := HI3.out.cel; exact (HO3.out.1.ne hcs (by decide))) (fun j hj => HO3.out.at_ hj) (fun j hj => by rw [Nat.zero_add]; have h1 := soundF_edge (l := l) HBa.out b (i := j) (.inl hj); have h2 := HLf.out j hj; omega)).mono ?_); rintro e w5 ⟨rfl, i5, k5⟩; have HI5 : RowKit.Hid (IFun w5 g3 21 .i32 640 (bothF b l left)) := IFun.ext i5 fun i _ => addF_both b l left i; have HN5 : RowKit.Hid (s ≠ g3) := (by obtain ⟨cs, hcs⟩ := HI3.out.cel; exact (HO3.out.1.ne hcs (by decide))); have HO5 : RowKit.Hid (OvAt 60 .i32 w5 s c p q left) := ⟨HO3.out.1.keep (k5.block _ HO3.out.1.lt HN5.out), HO3.out.2.keeps HI3.out.cel.choose_spec (by decide) (by decide) k5⟩; have HB5 : RowKit.Hid (Below w.heap.size w w5) := HB3.out.trans (k5.below HB3.out.size (fun k hk => by subst hk; exact HS3.out)); clear i5 k5))
  clear a0 a1 a2 HB3 HI3 HO3 HS HF HB
  go_region_held3 (fun w' => True) (go_keep) (first | (refine step_copy_cells (by rfl) _ _ _ _ (by rfl) 21 Try.underlying31 info_i32s s 3 128 128 ⟨g3, 512, none⟩ 128 128 (by rfl) (by rfl) _ 60 HO5.out.1 ((tabF 128 fun j => bothF b l left (512 + j)).map (Value.int .i32)) (by rw [List.length_map, tabF_len]; rfl) (tab_src fun j hj => HI5.out.cell (by omega)) (by rw [List.length_map, tabF_len, ovlL_len]; decide) (tab_one _) ?_; intro w6 hx6 hk6; have HC6 : RowKit.Hid (Cel w6 s 60 (ovlL .i32 c p q fun j => bothF b l left (512 + j)).toArray) := (by have := hx6.out; rw [splice_ovl] at this; exact this); have HK6 := Lib.hid hk6; clear hx6 hk6) | fail)
  have HO6 : RowKit.Hid (OvAt 60 .i32 w6 s c p q (leftF b l)) := OvAt.ext (f := fun j => bothF b l left (512 + j)) ⟨HC6.out, TlAt.keeps (w := w5.drew) HO5.out.2 HO5.out.1 (by decide) (by decide) HK6.out⟩ fun j _ => by
    show bothF b l left (512 + j) = leftF b l j
    unfold bothF leftF
    rw [if_neg (by omega), Int.add_zero]
  have HI6 : RowKit.Hid (IFun w6 g3 21 .i32 640 (bothF b l left)) := Cel.keeps (w := w5.drew) HI5.out HK6.out HN5.out.symm
  have HKK : RowKit.Hid (Keeps (· = s) w w6) := ((Keeps.of_below HB5.out).drewN 1).trans HK6.out
  clear HC6 HK6 HO5 HI5 HB5
  go_wp2_with (go_at_call 25; go_loud (refine (ovSamples_any 512 _ g3 0 (bothF b l left) w6 (by decide) (fun j hj => by rw [Nat.zero_add]; exact HI6.out.cell (by omega)) HI6.out.lt (fun j hj => by have := bothF_abs (left := left) HBa.out HLf.out b (i := j) (by omega); omega)).mono ?_); rintro e w7 ⟨g7, rfl, i7, s7, z7⟩; have HI7 : RowKit.Hid (IFun w7 g7 30 .i16 512 (samplesF b l left)) := i7; have HS7 : RowKit.Hid (w.heap.size ≤ g7) := Nat.le_trans HKK.out.size s7; have HO7 : RowKit.Hid (OvAt 60 .i32 w7 s c p q (leftF b l)) := HO6.out.below z7; have HK7 : RowKit.Hid (Keeps (· = s) w w7) := HKK.out.trans (Keeps.of_below z7); clear i7 s7 z7)
  go_ret2
  exact ⟨g7, rfl, HI7.out, HS7.out, HO7.out, HK7.out⟩
end Go.Proofs.Ytgebnaeebdeoeaa
