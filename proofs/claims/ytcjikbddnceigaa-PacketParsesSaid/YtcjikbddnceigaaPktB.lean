/- What package packet's number gives: the number that bytes are, the lowest first; the library's walk over a slice backwards. -/
import Derived.Test.YtcjikbddnceigaaPktA
namespace Go.Proofs.Ytcjikbddnceigaa
open Go.RowKit Go.Shelf
set_option linter.unusedVariables false
set_option linter.unusedSimpArgs false

theorem or_byte19 {c x : Int} (c0 : 0 ≤ c) (c1 : c ≤ 16777215) (x0 : 0 ≤ x) (x1 : x ≤ 255) : bits .or .u32 (c * 256) x = c * 256 + x := by
  obtain ⟨m, rfl⟩ : ∃ m : Nat, c = m := ⟨c.toNat, by omega⟩
  obtain ⟨n, rfl⟩ : ∃ n : Nat, x = n := ⟨x.toNat, by omega⟩
  have em : (m : Int) * 256 = ((m * 256 : Nat) : Int) := by omega
  rw [em, u32_or_nat _ _ (by omega) (by omega)]
  have := Nat.shiftLeft_add_eq_or_of_lt (b := n) (i := 8) (by omega) m
  rw [Nat.shiftLeft_eq] at this
  rw [← this]; omega
/-- Places and bytes, from the last one down. -/
def downL (f : Nat → Int) : Nat → List (Nat × Int)
  | 0 => []
  | k + 1 => (k, f k) :: downL f k
theorem downL_len (f : Nat → Int) (k : Nat) : (downL f k).length = k := by
  induction k with
  | zero => rfl
  | succ k ih => simp [downL, ih]
/-- Where one stands by how many have come. -/
theorem downL_at {f : Nat → Int} {N : Nat} : ∀ {pre : List (Nat × Int)} {x : Nat × Int} {rest : List (Nat × Int)}, downL f N = pre ++ x :: rest → pre.length < N ∧ x = (N - pre.length - 1, f (N - pre.length - 1)) := by
  induction N with
  | zero =>
    intro pre x rest h
    have := congrArg List.length h
    simp [downL] at this
  | succ N ih =>
    intro pre x rest h
    cases pre with
    | nil =>
      simp only [downL, List.nil_append, List.cons.injEq] at h
      exact ⟨by simp, h.1.symm⟩
    | cons y pre =>
      simp only [downL, List.cons_append, List.cons.injEq] at h
      obtain ⟨h1, h2⟩ := ih h.2
      refine ⟨by simp; omega, ?_⟩
      rw [h2]
      simp only [List.length_cons]
      rw [show N + 1 - (pre.length + 1) - 1 = N - pre.length - 1 by omega]

section
attribute [local go_sem] Oper.semAt_some
theorem backward_any (a : Option Addr) (len cap : Nat) (w : World) :
    Calls Try.prog 30 #[.slice a len cap] w fun e w' => e = .returned (.func (.func 34) #[] #[.pointer (some ⟨w.heap.size, 0, none⟩)]) ∧
      w' = w.alloc (.cells #[.slice a len cap] 23) := by
  go_enter Try.func30, Try.ntmps30
  go_wp2
  go_ret
  exact ⟨rfl, rfl⟩

set_option maxRecDepth 100000 in
set_option maxHeartbeats 2000000 in
theorem backward_in (m : Nat) (hm : 1 ≤ m) (l c B : Nat) (a : Option Addr) (len cap : Nat) (b : List Int) (hl : len ≤ 1000000) (J : List (Nat × Int) → World → Prop)
    (hY : ∀ (pre : List (Nat × Int)) (x : Nat × Int) (rest : List (Nat × Int)) (W1 : World), downL (fun j => b.getD j 0) len = pre ++ x :: rest → J pre W1 → YieldAt Fence.wide (m - 1) Try.prog l #[.int .i64 (x.1 : Int), .int .u8 x.2] W1 fun e W' => e = .returned (.bool true) ∧ J (pre ++ [x]) W' ∧ KpTwo B c c W1 W')
    (W : World) (hc : Boxed W c 23 (.slice a len cap)) (hI : IntsAt W B .u8 a len b) (h0 : J [] W) :
    CallsIn Fence.wide m Try.prog 34 #[.func (.yield l) #[] #[], .pointer (some ⟨c, 0, none⟩)] W fun e W' => (∃ v, e = .returned v) ∧ J (downL (fun j => b.getD j 0) len) W' := by
  have HY := Lib.hid hY
  clear hY
  have cc0 := hc.cell
  have hw0 : IntKind.i64.wrap ((len : Int) - 1) = (len : Int) - 1 := IntWalk.i64_in _ (by omega)
  refine callsIn_of_wp Try.func34 rfl trivial ?_ rfl
  simp only [Try.ntmps34, List.size_toArray, List.length_cons, List.length_nil, Nat.reduceAdd, Nat.reduceSub, Array.replicate_succ, Array.replicate_zero, List.push_toArray, List.append_toArray, List.nil_append, List.cons_append]
  gi_wp2
  gi_loopw [3] (fun i wr => ∃ (k : Nat) (pre : List (Nat × Int)), k ≤ len ∧ i = .int .i64 ((k : Int) - 1) ∧ RowKit.Hid (downL (fun j => b.getD j 0) len = pre ++ downL (fun j => b.getD j 0) k ∧ J pre wr ∧ Boxed wr c 23 (.slice a len cap) ∧ IntsAt wr B .u8 a len b))
    (fun i _ => (intOf i + 1).toNat)
  case atStart => exact ⟨len, [], Nat.le_refl _, rfl, rfl, h0, hc, hI⟩
  case round =>
    obtain ⟨k, pre, hk, rfl, H⟩ := hrel
    clear hc h0 hI cc0 hw0
    cases k with
    | zero =>
      gi_wp2
      go_end0
      have h := H.out.1
      simp only [downL, List.append_nil] at h
      exact ⟨⟨_, rfl⟩, by rw [h]; exact H.out.2.1⟩
    | succ k =>
      have cc := H.out.2.2.1.cell
      obtain ⟨r, off, rfl, hrB, _, hcell⟩ := H.out.2.2.2.at_ (j := k) (by omega)
      obtain ⟨fn, tmps, assign, body, hy, hR⟩ := HY.out pre (k, b.getD k 0) (downL (fun j => b.getD j 0) k) wr H.out.1 H.out.2.1
      dsimp only at hy
      obtain ⟨x, hx⟩ : ∃ x, b.getD k 0 = x := ⟨_, rfl⟩
      rw [hx] at hy hR hcell
      have HX := Lib.hid hx
      clear hx
      rw [show ((k + 1 : Nat) : Int) - 1 = (k : Int) by omega]
      have hw1 : IntKind.i64.wrap ((k : Int) - 1) = (k : Int) - 1 := IntWalk.i64_in _ (by omega)
      gi_wp2
      refine hR.mono ?_
      rintro e W3 ⟨rfl, hJ3, hk3⟩
      have H3 : RowKit.Hid (downL (fun j => b.getD j 0) len = (pre ++ [(k, x)]) ++ downL (fun j => b.getD j 0) k ∧ J (pre ++ [(k, x)]) W3 ∧ Boxed W3 c 23 (.slice (some ⟨r, off, none⟩) len cap) ∧ IntsAt W3 B .u8 (some ⟨r, off, none⟩) len b) :=
        ⟨by rw [H.out.1, ← HX.out]; simp [downL], hJ3, hk3.2.1.trans H.out.2.2.1, H.out.2.2.2.below hk3.1⟩
      clear H cc hJ3 hk3 hR hy hcell
      gi_wp2
      go_roundw
      case rel => exact ⟨k, _, by omega, rfl, H3.out⟩
      case measure => simp [intOf] <;> omega
theorem backward_seq (m : Nat) (hm : 1 ≤ m) (c B : Nat) (a : Option Addr) (len cap : Nat) (b : List Int) (hl : len ≤ 1000000) (w : World) (hB : B ≤ w.heap.size) (hc : Boxed w c 23 (.slice a len cap)) (hI : IntsAt w B .u8 a len b) :
    SeqAll Fence.wide m Try.prog 34 #[.pointer (some ⟨c, 0, none⟩)] (fun x : Nat × Int => #[Value.int .i64 (x.1 : Int), Value.int .u8 x.2]) (KpTwo B c c) (downL (fun j => b.getD j 0) len) w :=
  fun l J W hW hY h0 => backward_in m hm l c B a len cap b hl J hY W ((hW.block c hc.lt).trans hc) (hI.below (hW.mono hB)) h0

/-! ### The number that bytes are -/
set_option maxRecDepth 100000 in
set_option maxHeartbeats 2000000 in
theorem number19_any (a : Option Addr) (len cap : Nat) (b : List Int) (w : World) (h : IntsAt w w.heap.size .u8 a len b) (hb : Byts b) (hl : len ≤ 4) :
    Calls Try.prog 20 #[.slice a len cap] w fun e w' => e = .returned (.int .u32 (valL19 b)) ∧ Below w.heap.size w w' := by
  refine (callsIn_wide (n := 6)).1 ?_
  refine callsIn_of_wp_marks Try.func20 rfl trivial ?_ rfl
  simp only [Try.ntmps20, List.size_toArray, List.length_cons, List.length_nil, Nat.reduceAdd, Nat.reduceSub, Array.replicate_succ, Array.replicate_zero, List.push_toArray, List.append_toArray, List.nil_append, List.cons_append]
  gi_wp2_with (refine ⟨trivial, ?_⟩; gi_at_call 30; refine (callsIn_wide.2 (backward_any a len cap _)).mono ?_; rintro e w2 ⟨rfl, rfl⟩)
  obtain ⟨g, hg⟩ : ∃ g, w.heap.size = g := ⟨_, rfl⟩
  have b0 := (Boxed.new w 22 (.int .u32 0)).alloc (.cells #[.slice a len cap] 23)
  have b1 := Boxed.new (w.alloc (.cells #[.int .u32 0] 22)) 23 (.slice a len cap)
  have hB0 : Below w.heap.size w ((w.alloc (.cells #[.int .u32 0] 22)).alloc (.cells #[.slice a len cap] 23)) := ((Below.refl _ w).alloc (Nat.le_refl _) _).alloc (by simp) _
  have hsz : ((w.alloc (.cells #[.int .u32 0] 22)).alloc (.cells #[.slice a len cap] 23)).heap.size = g + 1 + 1 := by simp [hg]
  simp only [World.size_alloc] at b1
  rw [hg] at b0 b1 hB0 h ⊢
  have hI0 := h.below hB0
  generalize ((w.alloc (.cells #[.int .u32 0] 22)).alloc (.cells #[.slice a len cap] 23)) = W0 at b0 b1 hB0 hsz hI0 ⊢
  have hbl := h.1
  refine range_all (n := 6) rfl (by omega) (gf := 34) (lb := #[.pointer (some ⟨g + 1, 0, none⟩)]) rfl trivial (enters_of Try.func34 (by kernel_rfl) rfl)
    (backward_seq 5 (by omega) (g + 1) g a len cap b (by omega) W0 (by omega) b1 hI0) KpTwo.trans (KpTwo.put (by omega) (by omega) (by omega)) (fun _ => rfl)
    (fun pre W => (Boxed W g 22 (.int .u32 (valL19 (b.drop (len - pre.length)))) ∧ Boxed W (g + 1) 23 (.slice a len cap)) ∧ Below g w W)
    (OwnFrom.and (OwnFrom.and (Own.from (boxed_own _ _ (fun pre : List (Nat × Int) => Value.int .u32 (valL19 (b.drop (len - pre.length))))) _) (Own.from (boxed_own _ _ (fun _ => Value.slice a len cap)) _)) (ownFrom_below (by omega) (by omega)))
    ⟨⟨by rw [show valL19 (b.drop (len - ([] : List (Nat × Int)).length)) = 0 by rw [← hbl]; exact valL_over (by simp)]; exact b0, b1⟩, hB0⟩
    (fun x => { tmps := #[.slice a len cap, undef, .int .u32 0, .pointer (some ⟨g, 0, none⟩), undef, .int .u8 x.2, .slice a len cap, .func (.func 34) #[] #[.pointer (some ⟨g + 1, 0, none⟩)], .int .i64 (x.1 : Int), .int .u8 x.2, undef, undef, undef, undef, undef, undef], defers := [] }) ?assign ?body ?done
  case assign =>
    intro l x W K hK
    gi_wp2
    exact hK
  case body =>
    rintro l pre x rest W hx ⟨⟨hv, hn1⟩, hB⟩
    obtain ⟨hp, hx2⟩ := downL_at hx
    obtain ⟨k, hk⟩ : ∃ k, len - pre.length - 1 = k := ⟨_, rfl⟩
    rw [hk] at hx2
    subst hx2
    dsimp only
    rw [show len - pre.length = k + 1 by omega] at hv
    have ev := valL_drop (b := b) (k := k) (by omega)
    have bd := hb.getD k
    have bv := valL_bd (b := b.drop (k + 1)) (hb.drop _)
    have bp : P8 (b.drop (k + 1)).length ≤ 16777216 := by
      have : (b.drop (k + 1)).length = 0 ∨ (b.drop (k + 1)).length = 1 ∨ (b.drop (k + 1)).length = 2 ∨ (b.drop (k + 1)).length = 3 := by simp; omega
      rcases this with e | e | e | e <;> rw [e] <;> decide
    have HV := Lib.hid ev
    clear ev
    generalize valL19 (b.drop (k + 1)) = y at hv bv HV
    generalize b.getD k 0 = x at bd HV
    have e1 : IntKind.u32.wrap (y * 256) = y * 256 := IntWalk.u32_in _ (by omega)
    have e2 := or_byte19 (c := y) (x := x) (by omega) (by omega) bd.1 bd.2
    have e3 : IntKind.u32.wrap x = x := IntWalk.u32_in _ (by omega)
    have hc := hv.cell
    have hf := hv.frozen
    gi_wp2
    have e4 : y * 256 + x = valL19 (b.drop (len - (pre ++ [((k : Nat), x)]).length)) := by
      rw [show len - (pre ++ [((k : Nat), x)]).length = k by simp; omega, HV.out]; omega
    rw [e4]
    exact ⟨(KeepsOthers.setCell _ _ _).from _, ⟨(Below.refl g W).setCell (p := ⟨g, 0, none⟩) (Nat.le_refl _) _, ((hn1.other (by omega) _).trans hn1.symm), (hn1.other (by omega) _).trans hn1.symm⟩, ⟨hv.set _, hn1.other (by omega) _⟩, hB.setCell (p := ⟨g, 0, none⟩) (Nat.le_refl _) _⟩
  case done =>
    rintro D W hD ⟨⟨hv, _⟩, hB⟩ hK
    rw [downL_len, Nat.sub_self, List.drop_zero] at hv
    have hc := hv.cell
    gi_wp2
    refine ⟨by simp, .inl ⟨_, _, rfl, run_takeDeferred hK, ?_⟩⟩
    exact ⟨_, results_tmp rfl _ _ _, rfl, by rw [hg]; exact hB.trans (belowK_b (w := W0) (by omega) W D _ _ hD hK rfl rfl)⟩
end
end Go.Proofs.Ytcjikbddnceigaa
