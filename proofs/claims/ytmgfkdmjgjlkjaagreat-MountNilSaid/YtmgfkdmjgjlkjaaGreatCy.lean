/- Plain facts, and what functions give, for the proofs of this seat: several texts in one, each with its own first remark. -/
import Derived.Test.YtmgfkdmjgjlkjaaGreatCx

namespace Go.Proofs.YtmgfkdmjgjlkjaaGreat
open Go.RowKit
set_option linter.unusedVariables false
theorem syn_slice (g : Nat) (w : World) : (Instr.sliceAt 173 (.pointer (some ⟨g, 3, none⟩)) none none none).run Tryz.prog w = .ok (.slice (some ⟨g, 3, none⟩) 128 128) w := by
  have e : Tryz.prog.arrayLen 173 = 128 := by kernel_rfl
  have e2 : Tryz.prog.elem 173 = 21 := by kernel_rfl
  have ht : Tryz.prog.underlying 173 = some (.array (Tryz.prog.arrayLen 173) (Tryz.prog.elem 173)) := by kernel_rfl
  have es : (sizeOf 21).run Tryz.prog w = .ok 1 w := by kernel_rfl
  rw [run_sliceAt_array_all w _ _ ht, e, e2, es]
  simp [Result.andThen, slicedAt, Addr.add]
def SynPost (b : Bool) (s c p q : Nat) (left l : Nat → Int) (w : World) (e : Ending) (w' : World) : Prop :=
  ∃ g, e = .returned (.tuple #[.slice (some ⟨g, 0, none⟩) 512 512, .int .i64 0]) ∧ IFun w' g 77 .i16 512 (samplesF b l left) ∧ w.heap.size ≤ g ∧ OvAt 175 .i32 w' s c p q (leftF b l) ∧ Keeps (· = s) w w'
theorem addF_both (b : Bool) (l left : Nat → Int) (i : Nat) : addF (soundF b l) left 0 128 i = bothF b l left i := by
  unfold addF bothF
  by_cases c : i < 128
  · rw [if_pos (by omega), if_pos c, Nat.sub_zero]
  · rw [if_neg (by omega), if_neg c, Int.add_zero]
set_option maxRecDepth 100000 in
theorem synSamples_any (s c p q x : Nat) (left l : Nat → Int) (b : Bool) (w : World) (hS : OvAt 175 .i32 w s c p q left) (hf : IFun w x 21 .i32 512 l)
    (hb : ∀ j, j < 512 → -33554432 ≤ l j ∧ l j ≤ 33554431) (hl : ∀ j, j < 128 → (left j).natAbs ≤ 1073741000) :
    Calls Tryz.prog 100 #[.pointer (some ⟨s, 0, none⟩), .slice (some ⟨x, 0, none⟩) 512 512, .bool b] w (SynPost b s c p q left l w) := by
  have HS := Lib.hid hS
  have HF := Lib.hid hf
  have HB := Lib.hid hb
  have HLf := Lib.hid hl
  have HBa : RowKit.Hid (∀ j, j < 512 → (l j).natAbs ≤ 33554432) := fun j hj => by have := hb j hj; omega
  obtain ⟨a0, a1, a2⟩ := hS.ptrs
  have hsl := syn_slice s
  clear hS hf hb hl
  go_enter Tryz.func100, Tryz.ntmps100
  go_wp2_with (first | (go_at_call 139; go_loud (refine (ovSound_any c p q 512 (some ⟨x, 0, none⟩) l b w HS.out.2 (FnAt.of_ifun HF.out) HB.out).mono ?_); rintro e w3 ⟨g3, rfl, i3, s3, z3⟩; have HI3 := Lib.hid i3; have HS3 : RowKit.Hid (w.heap.size ≤ g3) := s3; have HO3 : RowKit.Hid (OvAt 175 .i32 w3 s c p q left) := HS.out.below z3; have HB3 := Lib.hid z3; clear i3 s3 z3) | (go_at_call 140; go_loud (refine (ovAdd_any g3 0 640 128 s 3 640 _ _ (soundF b l) left w3 HI3.out (by decide) (by decide) (by decide) (by obtain ⟨cs, hcs⟩ := HI3.out.cel; exact (HO3.out.1.ne hcs (by decide))) (fun j hj => HO3.out.at_ hj) (fun j hj => by rw [Nat.zero_add]; have h1 := soundF_edge (l := l) HBa.out b (i := j) (.inl hj); have h2 := HLf.out j hj; omega)).mono ?_); rintro e w5 ⟨rfl, i5, k5⟩; have HI5 : RowKit.Hid (IFun w5 g3 21 .i32 640 (bothF b l left)) := IFun.ext i5 fun i _ => addF_both b l left i; have HN5 : RowKit.Hid (s ≠ g3) := (by obtain ⟨cs, hcs⟩ := HI3.out.cel; exact (HO3.out.1.ne hcs (by decide))); have HO5 : RowKit.Hid (OvAt 175 .i32 w5 s c p q left) := ⟨HO3.out.1.keep (k5.block _ HO3.out.1.lt HN5.out), HO3.out.2.keeps HI3.out.cel.choose_spec (by decide) (by decide) k5⟩; have HB5 : RowKit.Hid (Below w.heap.size w w5) := HB3.out.trans (k5.below HB3.out.size (fun k hk => by subst hk; exact HS3.out)); clear i5 k5))
  clear a0 a1 a2 HB3 HI3 HO3 HS HF HB
  go_region_held3 (fun w' => True) (go_keep) (first | (refine step_copy_cells (by rfl) _ _ _ _ (by rfl) 21 Tryz.underlying118 info_i32s s 3 128 128 ⟨g3, 512, none⟩ 128 128 (by rfl) (by rfl) _ 175 HO5.out.1 ((tabF 128 fun j => bothF b l left (512 + j)).map (Value.int .i32)) (by rw [List.length_map, tabF_len]; rfl) (tab_src fun j hj => HI5.out.cell (by omega)) (by rw [List.length_map, tabF_len, ovlL_len]; decide) (tab_one _) ?_; intro w6 hx6 hk6; have HC6 : RowKit.Hid (Cel w6 s 175 (ovlL .i32 c p q fun j => bothF b l left (512 + j)).toArray) := (by have := hx6.out; rw [splice_ovl] at this; exact this); have HK6 := Lib.hid hk6; clear hx6 hk6) | fail)
  have HO6 : RowKit.Hid (OvAt 175 .i32 w6 s c p q (leftF b l)) := OvAt.ext (f := fun j => bothF b l left (512 + j)) ⟨HC6.out, TlAt.keeps (w := w5.drew) HO5.out.2 HO5.out.1 (by decide) (by decide) HK6.out⟩ fun j _ => by
    show bothF b l left (512 + j) = leftF b l j
    unfold bothF leftF
    rw [if_neg (by omega), Int.add_zero]
  have HI6 : RowKit.Hid (IFun w6 g3 21 .i32 640 (bothF b l left)) := Cel.keeps (w := w5.drew) HI5.out HK6.out HN5.out.symm
  have HKK : RowKit.Hid (Keeps (· = s) w w6) := ((Keeps.of_below HB5.out).drewN 1).trans HK6.out
  clear HC6 HK6 HO5 HI5 HB5
  go_wp2_with (go_at_call 141; go_loud (refine (ovSamples_any 512 _ g3 0 (bothF b l left) w6 (by decide) (fun j hj => by rw [Nat.zero_add]; exact HI6.out.cell (by omega)) HI6.out.lt (fun j hj => by have := bothF_abs (left := left) HBa.out HLf.out b (i := j) (by omega); omega)).mono ?_); rintro e w7 ⟨g7, rfl, i7, s7, z7⟩; have HI7 : RowKit.Hid (IFun w7 g7 77 .i16 512 (samplesF b l left)) := i7; have HS7 : RowKit.Hid (w.heap.size ≤ g7) := Nat.le_trans HKK.out.size s7; have HO7 : RowKit.Hid (OvAt 175 .i32 w7 s c p q (leftF b l)) := HO6.out.below z7; have HK7 : RowKit.Hid (Keeps (· = s) w w7) := HKK.out.trans (Keeps.of_below z7); clear i7 s7 z7)
  go_ret2
  exact ⟨g7, rfl, HI7.out, HS7.out, HO7.out, HK7.out⟩
end Go.Proofs.YtmgfkdmjgjlkjaaGreat

namespace Go.Proofs.YtmgfkdmjgjlkjaaGreat
open Go Go.RowKit
set_option linter.unusedVariables false
set_option linter.unusedSimpArgs false
abbrev CutAt (w : World) (r : Nat) (l : Nat → Int) : Prop := IFun w r 3 .i64 21 l
theorem CutAt.ints {w : World} {r : Nat} {l : Nat → Int} (h : CutAt w r l) : IntsAt w w.heap.size .i64 (some ⟨r, 0, none⟩) 21 (tabF 21 l) := IFun.ints h (by decide)
def ahA : Option Nat → Option Addr
  | none => none
  | some r => some ⟨r, 0, none⟩
def ahN : Option Nat → Nat
  | none => 0
  | some _ => 21
def AhAt (w : World) (wh : Bool) (o : Option Nat) (ah : Nat → Int) : Prop :=
  (wh = true ∧ o = none ∧ ah = fun _ => 0) ∨ (wh = false ∧ CutOk ah ∧ ∃ r, o = some r ∧ CutAt w r ah)
theorem AhAt.below {w w' : World} {wh : Bool} {o : Option Nat} {ah : Nat → Int} (h : AhAt w wh o ah) (hb : Below w.heap.size w w') : AhAt w' wh o ah := by
  rcases h with h | ⟨h1, h2, r, h3, h4⟩
  · exact .inl h
  · exact .inr ⟨h1, h2, r, h3, h4.below hb h4.lt⟩
theorem AhAt.keeps {F : Nat → Prop} {w w' : World} {wh : Bool} {o : Option Nat} {ah : Nat → Int} (h : AhAt w wh o ah) (hk : Keeps F w w') (hn : ∀ r, CutAt w r ah → ¬ F r) : AhAt w' wh o ah := by
  rcases h with h | ⟨h1, h2, r, h3, h4⟩
  · exact .inl h
  · exact .inr ⟨h1, h2, r, h3, Cel.keeps h4 hk (hn r h4)⟩
theorem AhAt.len {w : World} {wh : Bool} {o : Option Nat} {ah : Nat → Int} (h : AhAt w wh o ah) : decide (ahN o = 0) = wh := by
  rcases h with ⟨rfl, rfl, _⟩ | ⟨rfl, _, r, rfl, _⟩ <;> rfl
theorem AhAt.at_ {w : World} {wh : Bool} {o : Option Nat} {ah : Nat → Int} (h : AhAt w wh o ah) : ∃ ds : List Int, AheadAt w wh (ahA o) (ahN o) ds ∧ (fun j => ds.getD j 0) = ah := by
  rcases h with ⟨rfl, rfl, rfl⟩ | ⟨rfl, h2, r, rfl, h4⟩
  · exact ⟨[], ⟨⟨rfl, .inl rfl⟩, by decide, .inl ⟨rfl, rfl⟩⟩, rfl⟩
  · exact ⟨tabF 21 ah, ⟨h4.ints, (by decide : (21 : Nat) ≤ 9223372036854775807), .inr ⟨rfl, h2.right, rfl⟩⟩, h2.tab⟩
theorem AhAt.ok {w : World} {wh : Bool} {o : Option Nat} {ah : Nat → Int} (h : AhAt w wh o ah) : CutOk ah := by
  rcases h with ⟨_, _, rfl⟩ | ⟨_, h2, _⟩
  · exact CutOk.zero
  · exact h2
theorem fSteps_any (c cap : Nat) (l : Nat → Int) (q x : Int) (w : World) (h : CutAt w c l) (hl : CutOk l) (q0 : 1 ≤ q) (q1 : q ≤ 10) (x0 : 0 ≤ x) (x1 : x ≤ 31) :
    Calls Tryz.prog 97 #[.slice (some ⟨c, 0, none⟩) 21 cap, .int .i64 q, .int .i64 x] w (StepsPost l q x w) := by
  have := mskSteps_any (some ⟨c, 0, none⟩) cap (tabF 21 l) q x w h.ints ⟨hl.right, q0, q1, x0, x1⟩
  rw [hl.tab] at this
  exact this
theorem fReach_any (c s cap cap2 : Nat) (l st : Nat → Int) (w : World) (h : CutAt w c l) (hl : CutOk l) (h2 : CutAt w s st) (hs : CutOk st) :
    Calls Tryz.prog 102 #[.slice (some ⟨c, 0, none⟩) 21 cap, .slice (some ⟨s, 0, none⟩) 21 cap2] w fun e w' => e = .returned (.tuple #[.int .i64 (reachTo l st 21), .int .i64 0]) ∧ Below w.heap.size w w' := by
  have := mskReach_any (some ⟨c, 0, none⟩) (some ⟨s, 0, none⟩) cap cap2 (tabF 21 l) (tabF 21 st) w h.ints h2.ints hl.right hs.right
  rw [hl.tab, hs.tab] at this
  exact this
theorem fCeil_any (b cap : Nat) (x : Nat → Int) (w : World) (h : IFun w b 21 .i32 512 x) (hx : ∀ i, -33554432 ≤ x i ∧ x i ≤ 33554431) (hc : 512 ≤ cap) (hc' : cap ≤ 9223372036854775807) :
    Calls Tryz.prog 96 #[.slice (some ⟨b, 0, none⟩) 512 cap] w (CeilPost (fun i => x i) w) :=
  engCeil_any b 0 cap x w h.lt (fun i hi => by rw [Nat.zero_add]; exact h.cell hi) (fun i _ => by have := hx i; omega) hc hc'
theorem ceil_cut {w : World} {g : Nat} {x : Nat → Int} (h : CutAt w g (ceilF x)) : CutAt w g (c21 (ceilF x)) := IFun.ext h fun j hj => (c21_at _ hj).symm
theorem CutAt.enc {w : World} {base g c : Nat} {v : Value} {e : EncS} {l : Nat → Int} (hE : EncAt w base g v e) (h : CutAt w c l) : c ≠ g ∧ v.ownBlock ≠ some c := by
  obtain ⟨cs, hcs⟩ := h.cel
  exact hE.ne_cel hcs (by decide) (by decide)
theorem fPut_any (base g : Nat) (v : Value) (e : EncS) (wh : Bool) (c cap cap2 : Nat) (o : Option Nat) (l ah : Nat → Int) (w : World) (hE : EncAt w base g v e) (hG : GoodE e) (hk : e.k ≤ 700000)
    (h : CutAt w c l) (hl : CutOk l) (hA : AhAt w wh o ah) :
    Calls Tryz.prog 132 #[.pointer (some ⟨g, 0, none⟩), .slice (some ⟨c, 0, none⟩) 21 cap, .slice (ahA o) (ahN o) cap2] w (PutPost base g v (putN wh e l ah 21) (.int .i64 0) w) := by
  obtain ⟨ds, d1, d2⟩ := hA.at_
  have := engPut_any base g v e wh (some ⟨c, 0, none⟩) (ahA o) (ahN o) cap cap2 (tabF 21 l) ds w hE hG hk h.ints hl.right (fun r off e => by injection e with e; injection e with e; subst e; exact h.enc hE) d1 (fun hw r off e => by
    rcases hA with ⟨rfl, _⟩ | ⟨_, _, r', rfl, h4⟩
    · cases hw
    · have e : some (⟨r', 0, none⟩ : Addr) = some ⟨r, off, none⟩ := e
      injection e with e; injection e with e; subst e; exact CutAt.enc hE h4)
  rw [hl.tab, d2] at this
  exact this
theorem fQPut_any (base g : Nat) (v : Value) (E : EncS) (b c s cap cap2 : Nat) (x l : Nat → Int) (q lo : Int) (w : World) (hE : EncAt w base g v E) (hG : GoodE E) (hk : E.k ≤ 600000)
    (hx : IFun w b 21 .i32 512 x) (hb : ∀ i, -33554432 ≤ x i ∧ x i ≤ 33554431) (h : CutAt w c l) (hl : CutOk l) (h2 : CutAt w s (stepF l q lo)) :
    Calls Tryz.prog 133 #[.pointer (some ⟨g, 0, none⟩), .slice (some ⟨b, 0, none⟩) 512 512, .slice (some ⟨c, 0, none⟩) 21 cap, .slice (some ⟨s, 0, none⟩) 21 cap2] w
      (PutPost base g v (putL (toldT l (stepF l q lo)) (lineQ x l (stepF l q lo)) E 512).1 (.int .i64 0) w) := by
  have := qPut_any base g v E b 0 512 x (some ⟨c, 0, none⟩) (some ⟨s, 0, none⟩) cap cap2 (tabF 21 l) (tabF 21 (stepF l q lo)) w hE hG hk hx.lt (fun i hi => by rw [Nat.zero_add]; exact hx.cell hi) (fun i _ => by have := hb i; omega) (by decide) (by decide)
    (by obtain ⟨cs, hcs⟩ := hx.cel; exact hE.ne_cel hcs (by decide) (by decide)) h.ints h2.ints (hl.may q lo)
  rw [hl.tab, (hl.step q lo).tab] at this
  exact this
theorem fHeard_any (b c s cap cap2 : Nat) (x l : Nat → Int) (q lo seed : Int) (w : World) (hx : IFun w b 21 .i32 512 x) (hb : ∀ i, -33554432 ≤ x i ∧ x i ≤ 33554431) (h : CutAt w c l) (hl : CutOk l) (h2 : CutAt w s (stepF l q lo))
    (s0 : 0 ≤ seed) (s1 : seed ≤ 4294967295) :
    Calls Tryz.prog 99 #[.slice (some ⟨b, 0, none⟩) 512 512, .slice (some ⟨c, 0, none⟩) 21 cap, .slice (some ⟨s, 0, none⟩) 21 cap2, .int .u32 seed] w
      (HeardPost (outF l (stepF l q lo) (lineQ x l (stepF l q lo)) seed) w) := by
  have := qHeard_any b 0 512 x (some ⟨c, 0, none⟩) (some ⟨s, 0, none⟩) cap cap2 (tabF 21 l) (tabF 21 (stepF l q lo)) seed w hx.lt (fun i hi => by rw [Nat.zero_add]; exact hx.cell hi) (fun i _ => by have := hb i; omega) h.ints h2.ints (hl.may q lo) s0 s1
  rw [hl.tab, (hl.step q lo).tab] at this
  exact this
end Go.Proofs.YtmgfkdmjgjlkjaaGreat

namespace Go.Proofs.YtmgfkdmjgjlkjaaGreat
open Go Go.RowKit
set_option linter.unusedVariables false
set_option linter.unusedSimpArgs false
def pkV (p : Nat → Int) : Value := .agg #[.int .i64 (p 0), .int .i64 (p 1), .int .i64 (p 2), .int .i64 (p 3)]
theorem pk_next {w : World} {g k q : Nat} {f : Nat → Int} (h : IFun w g 116 .i64 4 (pkF f k)) (hq : k / 128 = q) (h4 : q < 4) {v : Int} (hv : v = max (pkF f k q) (absI (f k))) :
    IFun (w.setCell ⟨g, q, none⟩ (.int .i64 v)) g 116 .i64 4 (pkF f (k + 1)) := by
  refine IFun.ext (h.set h4 v) fun j _ => ?_
  by_cases e : j = q
  · rw [if_pos e, e, hv, pkF_next f hq]
  · rw [if_neg e, pkF_other f (fun c => e (by omega))]
theorem results_cell1 {fn : Func} {p : Tmp} {ty : TypeId} {tmps : Array Value} {P : Program} {w : World} {g : Nat} {v : Value} (h : fn.results = #[.cell p ty]) (hp : tmps.getD p undef = .pointer (some ⟨g, 0, none⟩))
    (e : (loadVar ty ⟨g, 0, none⟩).run P w = .ok v w) : (results fn tmps).run P w = .ok v w := by
  have hp' : tmps[p]?.getD undef = .pointer (some ⟨g, 0, none⟩) := by simpa using hp
  simp only [results, h]
  simp [Sem.run_bind, hp', asAddr, Result.andThen, e]
theorem results_cell2 {fn : Func} {p u : Tmp} {ty : TypeId} {tmps : Array Value} {P : Program} {w : World} {g : Nat} {v v' : Value} (h : fn.results = #[.cell p ty, .tmp u]) (hp : tmps.getD p undef = .pointer (some ⟨g, 0, none⟩)) (hv : tmps.getD u undef = v')
    (e : (loadVar ty ⟨g, 0, none⟩).run P w = .ok v w) : (results fn tmps).run P w = .ok (.tuple #[v, v']) w := by
  rw [results_cell_tmp h, hp, hv]
  simp [asAddr, Result.andThen, e]
theorem info_4 : (Tryz.prog.info? 116).map (·.size) = some 4 := by kernel_rfl
theorem kn_cases {a p : Int} {b : Bool} (h : knB a p = b) : (1000 < p ∧ 8 * a < p ∧ b = true) ∨ (¬ 1000 < p ∧ b = false) ∨ (1000 < p ∧ ¬ 8 * a < p ∧ b = false) := by
  unfold knB at h
  by_cases c : 1000 < p
  · by_cases d : 8 * a < p
    · exact .inl ⟨c, d, by rw [← h]; simp [c, d]⟩
    · exact .inr (.inr ⟨c, d, by rw [← h]; simp [c, d]⟩)
  · exact .inr (.inl ⟨c, by rw [← h]; simp [c]⟩)
theorem alloc_sizeB (w : World) (o : Obj) : (w.alloc o).heap.size = w.heap.size + 1 := Array.size_push _
set_option maxRecDepth 100000 in
theorem cPeaks_any (x cap : Nat) (f : Nat → Int) (w : World) (h : IFun w x 77 .i16 512 f) (hb : ∀ i, i < 512 → -32768 ≤ f i ∧ f i ≤ 32767) :
    Calls Tryz.prog 59 #[.slice (some ⟨x, 0, none⟩) 512 cap] w fun e w' => e = .returned (pkV (peakQ f)) ∧ Below w.heap.size w w' := by
  have HF := Lib.hid h
  have HFb := Lib.hid hb
  clear h hb
  have HS : RowKit.Hid (IFun ((w.alloc (.cells #[.int .i64 0, .int .i64 0, .int .i64 0, .int .i64 0] 116)).alloc (.cells #[.int .i64 0, .int .i64 0, .int .i64 0, .int .i64 0] 116)) (w.heap.size + 1) 116 .i64 4 (pkF f 0) ∧ Cel ((w.alloc (.cells #[.int .i64 0, .int .i64 0, .int .i64 0, .int .i64 0] 116)).alloc (.cells #[.int .i64 0, .int .i64 0, .int .i64 0, .int .i64 0] 116)) w.heap.size 116 #[.int .i64 0, .int .i64 0, .int .i64 0, .int .i64 0] ∧ Below w.heap.size w ((w.alloc (.cells #[.int .i64 0, .int .i64 0, .int .i64 0, .int .i64 0] 116)).alloc (.cells #[.int .i64 0, .int .i64 0, .int .i64 0, .int .i64 0] 116))) := by
    refine ⟨?_, (Cel.new w _ _).alloc _, chain (Below.alloc_new w _) (Below.alloc_new _ _)⟩
    have e := Cel.new (w.alloc (.cells #[.int .i64 0, .int .i64 0, .int .i64 0, .int .i64 0] 116)) 116 #[.int .i64 0, .int .i64 0, .int .i64 0, .int .i64 0]
    rw [alloc_sizeB] at e
    exact IFun.ext (f := fun _ => 0) e fun j _ => (pkF_zero f j).symm
  go_enter Tryz.func59, Tryz.ntmps59
  go_wp2
  generalize ((w.alloc (.cells #[.int .i64 0, .int .i64 0, .int .i64 0, .int .i64 0] 116)).alloc (.cells #[.int .i64 0, .int .i64 0, .int .i64 0, .int .i64 0] 116)) = w1 at HS ⊢
  obtain ⟨g, hg⟩ : ∃ g, g = w.heap.size + 1 := ⟨_, rfl⟩
  obtain ⟨g0, hg0⟩ : ∃ g, g = w.heap.size := ⟨_, rfl⟩
  rw [← hg] at HS ⊢
  rw [← hg0] at HS ⊢
  have xl : x < g0 := by rw [hg0]; exact HF.out.lt
  have ng : g0 ≠ g := by omega
  have HG0 : RowKit.Hid (w.heap.size = g0) := hg0.symm
  have HGG : RowKit.Hid (g0 ≤ g) := by show g0 ≤ g; omega
  clear hg hg0
  go_loopw [9] (fun i wr => ∃ k : Nat, k ≤ 512 ∧ i = .int .i64 (k : Int) ∧ RowKit.Hid (IFun wr g 116 .i64 4 (pkF f k) ∧ Cel wr g0 116 #[.int .i64 0, .int .i64 0, .int .i64 0, .int .i64 0] ∧ Below g0 w wr)) (fun i _ => 512 - (intOf i).toNat)
  case atStart => exact ⟨0, by omega, rfl, HS.out⟩
  case round =>
    obtain ⟨k, hk, rfl, HI⟩ := hrel
    clear HS
    by_cases hlt : k < 512
    · obtain ⟨q, hq⟩ : ∃ q, k / 128 = q := ⟨_, rfl⟩
      have h4 : q < 4 := by omega
      have hqi : ((k : Int)).tdiv 128 = (q : Int) := by rw [← hq]; rfl
      have hqj : ((k : Int)) / 128 = (q : Int) := by rw [← hq]; rfl
      have k1 := (HI.out.2.2.cell (p := ⟨x, k, none⟩) xl).trans (HF.out.cell hlt)
      have o1 := HI.out.1.cell h4
      have f1 := HI.out.1.frozen q
      have HX : RowKit.Hid (∀ v, v = max (pkF f k q) (absI (f k)) → IFun (wr.setCell ⟨g, q, none⟩ (.int .i64 v)) g 116 .i64 4 (pkF f (k + 1)) ∧ Cel (wr.setCell ⟨g, q, none⟩ (.int .i64 v)) g0 116 #[.int .i64 0, .int .i64 0, .int .i64 0, .int .i64 0] ∧ Below g0 w (wr.setCell ⟨g, q, none⟩ (.int .i64 v))) :=
        fun v hv => ⟨pk_next HI.out.1 hq h4 hv, HI.out.2.1.far (p := ⟨g, q, none⟩) ng _, HI.out.2.2.setCell (p := ⟨g, q, none⟩) HGG.out _⟩
      have HM := Lib.hid (absI_max (f k) (pkF f k q))
      obtain ⟨y0, y1⟩ := HFb.out k hlt
      have HP : RowKit.Hid (0 ≤ pkF f k q ∧ pkF f k q ≤ 32768) := by
        show _ ∧ _
        unfold pkF
        exact peakTo_bd fun i hi => HFb.out _ (by omega)
      obtain ⟨z0, z1⟩ := HP.out
      generalize f k = y at k1 y0 y1 HM HX
      generalize pkF f k q = z at o1 z0 z1 HM HX
      have u1 : IntKind.i64.wrap (-y) = -y := IntWalk.i64_in _ (by omega)
      have u2 : IntKind.i64.wrap y = y := IntWalk.i64_in _ (by omega)
      have l1 : (k : Int) < 512 := by omega
      clear hq HI HP
      go_wp2
      go_roundw
      case rel => exact ⟨k + 1, by omega, by go_num, HX.out _ (by rw [← HM.out]; omega)⟩
      case measure => simp [intOf] <;> omega
    · obtain rfl : k = 512 := by omega
      have c0 := HI.out.1.cell (j := 0) (by decide)
      have c1 := HI.out.1.cell (j := 1) (by decide)
      have c2 := HI.out.1.cell (j := 2) (by decide)
      have c3 := HI.out.1.cell (j := 3) (by decide)
      rw [pkF_all f (by decide)] at c0 c1 c2 c3
      have d0 := HI.out.2.1.cell 0
      have d1 := HI.out.2.1.cell 1
      have d2 := HI.out.2.1.cell 2
      have d3 := HI.out.2.1.cell 3
      have e0 := HI.out.2.1.frozen 0
      have e1 := HI.out.2.1.frozen 1
      have e2 := HI.out.2.1.frozen 2
      have e3 := HI.out.2.1.frozen 3
      go_wp2
      refine bodyPost_ret (results_cell1 rfl rfl (run_loadVar_row _ g0 _ _ _ (0, 0) _ ((((HI.out.2.1.set_ 0 _).set_ 1 _).set_ 2 _).set_ 3 _) Tryz.underlying116 rfl info_4)) rfl ⟨rfl, ?_⟩
      rw [HG0.out]
      exact (((HI.out.2.2.setCell (p := ⟨g0, 0, none⟩) (Nat.le_refl _) _).setCell (p := ⟨g0, 1, none⟩) (Nat.le_refl _) _).setCell (p := ⟨g0, 2, none⟩) (Nat.le_refl _) _).setCell (p := ⟨g0, 3, none⟩) (Nat.le_refl _) _
theorem infoC_int : (Tryz.prog.info? 3).map (fun i => (i.zero, i.size, i.bytes)) = some (some (.int .i64 0), 1, 8) := by kernel_rfl
theorem index_4 (zs : Array Value) (k : Nat) (v : Value) (hk : k < 4) (hz : zs[k]? = some v) (hv : v.oneCell' = true) (w : World) : (Instr.index 116 (.agg zs) (.int .i64 (k : Int))).run Tryz.prog w = .ok v w := by
  have hu := Tryz.underlying116
  have he := Tryz.underlying3
  obtain ⟨i, h3, _, h5, _⟩ := info_parts infoC_int
  have h1 : 0 ≤ (k : Int) ∧ (k : Int) < ((4 : Nat) : Int) := by omega
  simp only [Instr.index, asIntOf, Sem.run_bind, Sem.run_pure, Result.andThen_ok, run_underlying hu]
  rw [if_pos h1]
  simp only [part, isAgg, sizeOf, typeInfo, Sem.run_bind, Sem.run_pure, Result.andThen_ok, run_underlying he]
  simp [h3, h5, hz]
set_option maxRecDepth 100000 in
theorem cBrief_any (A p0 p1 p2 p3 : Int) (w : World) (hA : 0 ≤ A ∧ A ≤ 32768) (h0 : 0 ≤ p0 ∧ p0 ≤ 32768) (h1 : 0 ≤ p1 ∧ p1 ≤ 32768) (h2 : 0 ≤ p2 ∧ p2 ≤ 32768) :
    Calls Tryz.prog 61 #[.int .i64 A, .agg #[.int .i64 p0, .int .i64 p1, .int .i64 p2, .int .i64 p3]] w fun e w' => e = .returned (.bool (briefB A p0 p1 p2 p3)) ∧ Below w.heap.size w w' := by
  have HB := Lib.hid (Below.alloc_new w (.cells #[.int .i64 p0, .int .i64 p1, .int .i64 p2, .int .i64 p3] 116))
  obtain ⟨b0, hb0⟩ : ∃ b, b = knB A p0 := ⟨_, rfl⟩
  obtain ⟨b1, hb1⟩ : ∃ b, b = knB p0 p1 := ⟨_, rfl⟩
  obtain ⟨b2, hb2⟩ : ∃ b, b = knB p1 p2 := ⟨_, rfl⟩
  obtain ⟨b3, hb3⟩ : ∃ b, b = knB p2 p3 := ⟨_, rfl⟩
  have HR : RowKit.Hid (briefB A p0 p1 p2 p3 = (b0 || b1 || b2 || b3)) := by show _ = _; rw [hb0, hb1, hb2, hb3]; rfl
  generalize briefB A p0 p1 p2 p3 = R at HR ⊢
  have HK0 : RowKit.Hid (knB A p0 = b0) := hb0.symm
  have HK1 : RowKit.Hid (knB p0 p1 = b1) := hb1.symm
  have HK2 : RowKit.Hid (knB p1 p2 = b2) := hb2.symm
  have HK3 : RowKit.Hid (knB p2 p3 = b3) := hb3.symm
  clear hb0 hb1 hb2 hb3
  have u0 : IntKind.i64.wrap (8 * A) = 8 * A := IntWalk.i64_in _ (by omega)
  have u1 : IntKind.i64.wrap (8 * p0) = 8 * p0 := IntWalk.i64_in _ (by omega)
  have u2 : IntKind.i64.wrap (8 * p1) = 8 * p1 := IntWalk.i64_in _ (by omega)
  have u3 : IntKind.i64.wrap (8 * p2) = 8 * p2 := IntWalk.i64_in _ (by omega)
  have i0 : ∀ w : World, (Instr.index 116 (.agg #[.int .i64 p0, .int .i64 p1, .int .i64 p2, .int .i64 p3]) (.int .i64 0)).run Tryz.prog w = .ok (.int .i64 p0) w := fun w => index_4 _ 0 _ (by decide) rfl rfl w
  have i1 : ∀ w : World, (Instr.index 116 (.agg #[.int .i64 p0, .int .i64 p1, .int .i64 p2, .int .i64 p3]) (.int .i64 1)).run Tryz.prog w = .ok (.int .i64 p1) w := fun w => index_4 _ 1 _ (by decide) rfl rfl w
  have i2 : ∀ w : World, (Instr.index 116 (.agg #[.int .i64 p0, .int .i64 p1, .int .i64 p2, .int .i64 p3]) (.int .i64 2)).run Tryz.prog w = .ok (.int .i64 p2) w := fun w => index_4 _ 2 _ (by decide) rfl rfl w
  have i3 : ∀ w : World, (Instr.index 116 (.agg #[.int .i64 p0, .int .i64 p1, .int .i64 p2, .int .i64 p3]) (.int .i64 3)).run Tryz.prog w = .ok (.int .i64 p3) w := fun w => index_4 _ 3 _ (by decide) rfl rfl w
  go_enter Tryz.func61, Tryz.ntmps61
  go_wp2
  generalize (w.alloc (.cells #[.int .i64 p0, .int .i64 p1, .int .i64 p2, .int .i64 p3] 116)) = w1 at HB ⊢
  go_loopw [0, 4, 8] (fun v _ i wr => ∃ k : Nat, k ≤ 4 ∧ i = .int .i64 (k : Int) ∧ wr = w1 ∧ ((k = 0 ∧ v = .int .i64 A) ∨ (k = 1 ∧ v = .int .i64 p0 ∧ b0 = false) ∨ (k = 2 ∧ v = .int .i64 p1 ∧ b0 = false ∧ b1 = false) ∨ (k = 3 ∧ v = .int .i64 p2 ∧ b0 = false ∧ b1 = false ∧ b2 = false) ∨ (k = 4 ∧ b0 = false ∧ b1 = false ∧ b2 = false ∧ b3 = false))) (fun _ _ i _ => 4 - (intOf i).toNat)
  case atStart => exact ⟨0, by omega, rfl, rfl, .inl ⟨rfl, rfl⟩⟩
  case round =>
    obtain ⟨k, hk, rfl, rfl, ⟨rfl, rfl⟩ | ⟨rfl, rfl, r0⟩ | ⟨rfl, rfl, r0, r1⟩ | ⟨rfl, rfl, r0, r1, r2⟩ | ⟨rfl, r0, r1, r2, r3⟩⟩ := hrel
    · rcases kn_cases HK0.out with ⟨t1, t2, e⟩ | ⟨t1, e⟩ | ⟨t1, t2, e⟩
      · have HE : RowKit.Hid (R = true) := by show _ = _; rw [HR.out, e]; simp
        clear e HK0 HK1 HK2 HK3
        go_wp2
        go_ret
        exact ⟨by rw [HE.out]; rfl, HB.out⟩
      · go_wp2
        go_roundw
        case rel => exact ⟨1, by decide, by go_num, trivial, .inr (.inl ⟨rfl, rfl, e⟩)⟩
        case measure => simp [intOf] <;> omega
      · go_wp2
        go_roundw
        case rel => exact ⟨1, by decide, by go_num, trivial, .inr (.inl ⟨rfl, rfl, e⟩)⟩
        case measure => simp [intOf] <;> omega
    · rcases kn_cases HK1.out with ⟨t1, t2, e⟩ | ⟨t1, e⟩ | ⟨t1, t2, e⟩
      · have HE : RowKit.Hid (R = true) := by show _ = _; rw [HR.out, e]; simp
        clear e HK0 HK1 HK2 HK3
        go_wp2
        go_ret
        exact ⟨by rw [HE.out]; rfl, HB.out⟩
      · go_wp2
        go_roundw
        case rel => exact ⟨2, by decide, by go_num, trivial, .inr (.inr (.inl ⟨rfl, rfl, r0, e⟩))⟩
        case measure => simp [intOf] <;> omega
      · go_wp2
        go_roundw
        case rel => exact ⟨2, by decide, by go_num, trivial, .inr (.inr (.inl ⟨rfl, rfl, r0, e⟩))⟩
        case measure => simp [intOf] <;> omega
    · rcases kn_cases HK2.out with ⟨t1, t2, e⟩ | ⟨t1, e⟩ | ⟨t1, t2, e⟩
      · have HE : RowKit.Hid (R = true) := by show _ = _; rw [HR.out, e]; simp
        clear e HK0 HK1 HK2 HK3
        go_wp2
        go_ret
        exact ⟨by rw [HE.out]; rfl, HB.out⟩
      · go_wp2
        go_roundw
        case rel => exact ⟨3, by decide, by go_num, trivial, .inr (.inr (.inr (.inl ⟨rfl, rfl, r0, r1, e⟩)))⟩
        case measure => simp [intOf] <;> omega
      · go_wp2
        go_roundw
        case rel => exact ⟨3, by decide, by go_num, trivial, .inr (.inr (.inr (.inl ⟨rfl, rfl, r0, r1, e⟩)))⟩
        case measure => simp [intOf] <;> omega
    · rcases kn_cases HK3.out with ⟨t1, t2, e⟩ | ⟨t1, e⟩ | ⟨t1, t2, e⟩
      · have HE : RowKit.Hid (R = true) := by show _ = _; rw [HR.out, e]; simp
        clear e HK0 HK1 HK2 HK3
        go_wp2
        go_ret
        exact ⟨by rw [HE.out]; rfl, HB.out⟩
      · go_wp2
        go_roundw
        case rel => exact ⟨4, by decide, by go_num, trivial, .inr (.inr (.inr (.inr ⟨rfl, r0, r1, r2, e⟩)))⟩
        case measure => simp [intOf] <;> omega
      · go_wp2
        go_roundw
        case rel => exact ⟨4, by decide, by go_num, trivial, .inr (.inr (.inr (.inr ⟨rfl, r0, r1, r2, e⟩)))⟩
        case measure => simp [intOf] <;> omega
    · have HE : RowKit.Hid (R = false) := by show _ = _; rw [HR.out, r0, r1, r2, r3]; rfl
      go_wp2
      go_ret
      exact ⟨by rw [HE.out]; rfl, HB.out⟩
end Go.Proofs.YtmgfkdmjgjlkjaaGreat

namespace Go.Proofs.YtmgfkdmjgjlkjaaGreat
open Go.RowKit
set_option linter.unusedVariables false
def BytesPostS (b : List Int) (w : World) (x : Ending) (w' : World) : Prop := ∃ g c, x = .returned (.slice (some ⟨g, 0, none⟩) b.length c) ∧ IntsAt w' w'.heap.size .u8 (some ⟨g, 0, none⟩) b.length b ∧ Below w.heap.size w w'
set_option maxHeartbeats 1000000 in
set_option maxRecDepth 100000 in
theorem rncBytes_some (base g : Nat) (v : Value) (n : Int) (k : Nat) (less : Int) (w : World) (hE : EncR w base g v n k less) (hk : k ≤ 900000) :
    Calls Tryz.prog 134 #[.pointer (some ⟨g, 0, none⟩)] w (BytesPostS (bytesL (digL n (k + 4))) w) := by
  have HR := Lib.hid hE
  obtain ⟨D, last, h1, h2, h3, h4, h5, h6⟩ := hE
  obtain ⟨c0, c1, c2⟩ := h1.cells
  have ho := h1.2.1
  rw [h3] at ho
  obtain ⟨a, c, rfl⟩ := own_form ho
  have HD4 := Lib.hid (four_dig h2 h3 h4 h5 h6)
  have HI := Lib.hid (own_ints' ho)
  have HN := Lib.hid (own_none ho)
  have H1 := Lib.hid h1
  have hgl := h1.lt
  have hmk := make_empty (P := Tryz.prog) Tryz.underlying43 info_u806 ((k : Int) + 4) (k + 4) (by omega) (by omega) (by omega) w
  have hsz : (madeCells #[Value.int .u8 0] (k + 4)).size = (k + 4) * 1 := by rw [size_madeCells]; omega
  have HO0 := Lib.hid (World.ownsRow_made (base := w.heap.size) (e := 5) (size := 1) w (madeCells #[Value.int .u8 0] (k + 4)) (k + 4) (Nat.le_refl _) (by unfold maxLen; omega) hsz)
  have HB0 := Lib.hid (Below.alloc_new w (.cells (madeCells #[Value.int .u8 0] (k + 4)) 5))
  have hk1 : k ≤ 1000000 := by omega
  clear h1 h2 h3 h6 ho c2 hsz
  generalize madeCells #[Value.int .u8 0] (k + 4) = mc at hmk HO0 HB0
  go_enter Tryz.func134, Tryz.ntmps134
  go_wp2_with (first | (go_at_call 167; ((with_reducible refine (rncLen_any base g _ n k less _ HR.out hk1).mono ?_)); rintro e w' ⟨rfl, rfl⟩) | (at_builtin; go_loud (refine append_ints rfl _ _ 43 rfl w.heap.size 5 .u8 1 Tryz.underlying43 info_u806 _ 0 [] rfl HO0.out a k c w.heap.size D rfl (HI.out.below HB0.out) HN.out ?c1 ?c2 ?c3 ?_)))
  case c1 => unfold maxLen; omega
  case c2 => omega
  case c3 => simp
  intro v2 w2 hown hgrow _
  have hb2 := HB0.out.grown hgrow (by simp) (own_base HO0.out)
  obtain ⟨a2, cp2, rfl⟩ := own_form hown
  have c1' : w2.cell? ⟨g, 1, none⟩ = some (.int .u32 last) := (hb2.cell (p := ⟨g, 1, none⟩) hgl).trans c1
  have HO2 := Lib.hid hown
  have HB2 := Lib.hid hb2
  clear hown hgrow hb2 c0 c1 hmk
  obtain ⟨q0, hq0⟩ : ∃ q, q = last / 16777216 % 256 := ⟨_, rfl⟩
  obtain ⟨q1, hq1⟩ : ∃ q, q = last / 65536 % 256 := ⟨_, rfl⟩
  obtain ⟨q2, hq2⟩ : ∃ q, q = last / 256 % 256 := ⟨_, rfl⟩
  obtain ⟨q3, hq3⟩ : ∃ q, q = last % 256 := ⟨_, rfl⟩
  have HF : RowKit.Hid (four last = [q0, q1, q2, q3]) := by show _ = _; unfold four; rw [hq0, hq1, hq2, hq3]
  have e0 : IntKind.u8.wrap (last / 16777216) = q0 := by rw [hq0]; rfl
  have e1 : IntKind.u8.wrap (last / 65536) = q1 := by rw [hq1]; rfl
  have e2 : IntKind.u8.wrap (last / 256) = q2 := by rw [hq2]; rfl
  have e3 : IntKind.u8.wrap last = q3 := by rw [hq3]; rfl
  clear hq0 hq1 hq2 hq3
  have ag : some g ≠ (Value.slice a2 k cp2).ownBlock := fun e => by
    have := own_base HO2.out g e.symm
    omega
  obtain ⟨i0, hi, hzz, hz1, hz2⟩ := info_parts info_u806
  have hsz2 := HB2.out.size
  have HO4 := Lib.hid (World.ownsRow.alloc HO2.out (.cells #[.int .u8 q0, .int .u8 q1, .int .u8 q2, .int .u8 q3] 5))
  have HB4 := Lib.hid (HB2.out.alloc hsz2 (.cells #[.int .u8 q0, .int .u8 q1, .int .u8 q2, .int .u8 q3] 5))
  go_wp2
  go_region_held3 (fun w' => w'.cell? ⟨g, 1, none⟩ = some (.int .u32 last))
    (first | go_keep | (rw [hgrow.cell_far _ (by simp; omega) ag]; assumption))
    ((refine step_append_lies _ (by rfl) _ _ _ (by rfl) w.heap.size 5 i0 (.int .u8 0) 1 1 Tryz.underlying43 hi hzz hz1 hz2 rfl (by decide) (.slice a2 k cp2) k _ (by rfl) HO4.out.drew ⟨w2.heap.size, 0, none⟩ 4 4 [.int .u8 q0, .int .u8 q1, .int .u8 q2, .int .u8 q3] (by rfl) (by rfl) (World.news_of_block (cs := #[.int .u8 q0, .int .u8 q1, .int .u8 q2, .int .u8 q3]) (t := 5) (fr := (0, 0)) (heap_alloc_new w2 _)) (by simp [Value.oneCell']) (by omega) (by unfold maxLen; omega) (by omega) (by simp; omega) (w2.heap.size + 1) (by simp) ?_; intro gg cp w5 hown hgrow hat hlt2))
  have hown5 : w5.ownsRow w.heap.size 5 1 (.slice (some ⟨gg, 0, none⟩) (k + 4) cp) (k + 4) ((digL n (k + 4)).map (Value.int .u8)) := by
    rw [← HD4.out, HF.out]; simpa using hown
  have HB5 : RowKit.Hid (Below w.heap.size w w5) := (Below.drewN' HB4.out 1).grown hgrow (by simp; omega) (own_base HO4.out)
  have hcp : k + 4 ≤ cp ∧ cp ≤ 9223372036854775807 := by
    rcases hown5.2 with ⟨h, _⟩ | ⟨g', cap, cur, h, _, _, h2, h3, _⟩
    · injection h with h; cases h
    · unfold maxLen at h3; injection h with _ _ h; omega
  obtain ⟨hcp, hcpm⟩ := hcp
  have HO5 := Lib.hid hown5
  obtain ⟨L, hL⟩ : ∃ L, L = digL n (k + 4) := ⟨_, rfl⟩
  have HLd : RowKit.Hid (IsDig L ∧ L.length = k + 4) := by rw [hL]; exact ⟨digL_dig _ _, digL_len _ _⟩
  rw [← hL] at HO5
  have HLq : RowKit.Hid (digL n (k + 4) = L) := hL.symm
  clear hown hgrow hown5 hL HO4 HB4 HO2 HB2 HD4 HF hat hlt2 ag HO0 HB0 HI HN H1 HR
  go_wp2
  go_loopw [4] (fun i wr => ∃ j : Nat, j ≤ k + 4 ∧ i = .int .i64 j ∧ RowKit.Hid (lastK L j = lastK L (k + 4)) ∧ wr = w5) (fun i _ => (intOf i).toNat)
  case atStart => exact ⟨k + 4, by omega, by go_num, rfl, rfl⟩
  case round =>
    obtain ⟨j, hj, rfl, H, rfl⟩ := hrel
    by_cases hz : j = 0
    · have hm : lastK L (k + 4) = -1 := by rw [← H.out, hz]; rfl
      have HE : RowKit.Hid (bytesL L = []) := by
        show _ = _
        unfold bytesL; rw [HLd.out.2, hm]; rfl
      subst hz
      clear H hm
      go_wp2
      go_ret
      rw [HLq.out, HE.out]
      exact ⟨gg, cp, rfl, ⟨rfl, .inl rfl⟩, HB5.out⟩
    · obtain ⟨p, hp⟩ : ∃ p, j = p + 1 := ⟨j - 1, by omega⟩
      subst hp
      have hcell : wr.cell? ⟨gg, p, none⟩ = some (.int .u8 (L.getD p 0)) := by
        rw [HO5.out.cellAt p (by omega), List.getElem?_map, List.getElem?_eq_getElem (by rw [HLd.out.2]; omega)]
        simp [List.getD, show p < L.length by rw [HLd.out.2]; omega]
      have E : RowKit.Hid (lastK L (p + 1) = if L.getD p 0 = 0 then lastK L p else p) := rfl
      generalize L.getD p 0 = x at hcell E
      by_cases hx : x = 0
      · have hq : (x == 0) = true := by simpa using hx
        have E2 : RowKit.Hid (lastK L p = lastK L (k + 4)) := by
          show _ = _
          rw [← H.out, E.out, if_pos hx]
        clear hx
        go_wp2
        go_roundw
        case rel => exact ⟨p, by omega, rfl, E2.out, trivial⟩
        case measure => simp [intOf] <;> omega
      · have hq : (x == 0) = false := by simpa using hx
        have HE : RowKit.Hid (bytesL L = L.take (p + 1)) := by
          have hm : lastK L (k + 4) = p := by rw [← H.out, E.out, if_neg hx]
          show _ = _
          unfold bytesL
          rw [HLd.out.2, hm]
          congr 1
        have HI5 := Lib.hid (own_ints' HO5.out)
        clear hx
        go_wp2
        go_ret
        rw [HLq.out, HE.out]
        have e : (L.take (p + 1)).length = p + 1 := by rw [List.length_take, HLd.out.2]; omega
        refine ⟨gg, cp, by rw [e]; rfl, ?_, HB5.out⟩
        rw [e]
        exact HI5.out.take hj
end Go.Proofs.YtmgfkdmjgjlkjaaGreat
