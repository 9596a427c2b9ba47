/- What package packet's small functions give: bytes by themselves; a number's bytes, one by one. -/
import Derived.Test.YtcjikbddnceigaaRows
import Derived.Test.YtcjikbddnceigaaPktR
import Derived.IntWalk
import Derived.Test.YtcjikbddnceigaaPktQ
import Derived.Shelf.Abstract
import Derived.Shelf.RegionOpen
import Derived.WalkKit
import Derived.OwnWalkIn
import Derived.TacticsInMore
import Derived.LoopNIn
import Derived.LoopIn
namespace Go.Proofs.Ytcjikbddnceigaa
open Go.RowKit Go.Shelf
set_option linter.unusedVariables false
set_option linter.unusedSimpArgs false

theorem info19_u8 : (Try.prog.info? 5).map (fun i => (i.zero, i.size, i.bytes)) = some (some (.int .u8 0), 1, 1) := by kernel_rfl
/-- Bytes in memory of the call's own. -/
def OwnPost (b : List Int) (w : World) (x : Ending) (w' : World) : Prop :=
  ∃ v, x = .returned v ∧ w'.ownsRow w.heap.size 5 1 v b.length (b.map (Value.int .u8)) ∧ Below w.heap.size w w'
set_option maxRecDepth 100000 in
theorem apart_any (a : Option Addr) (len cap : Nat) (b : List Int) (w : World) (h : IntsAt w w.heap.size .u8 a len b) (hn : a = none → cap = 0) (hl : len ≤ 1000000) :
    Calls Try.prog 21 #[.slice a len cap] w (OwnPost b w) := by
  have HI := Lib.hid h
  have HN := Lib.hid hn
  have hbl := Lib.hid h.1
  have hown0 := Lib.hid (World.ownsRow_nil w w.heap.size 5 1)
  clear h hn
  go_enter Try.func21, Try.ntmps21
  go_wp2_with (at_builtin; go_loud (refine append_ints rfl _ _ 23 rfl w.heap.size 5 .u8 1 Try.underlying23 info19_u8 _ 0 [] rfl hown0.out a len cap w.heap.size b rfl HI.out HN.out ?c1 ?c2 (Nat.le_refl _) ?_))
  case c1 => unfold maxLen; omega
  case c2 => omega
  intro v2 w2 hown hgrow _
  have hown2 : w2.ownsRow w.heap.size 5 1 v2 b.length (b.map (Value.int .u8)) := by rw [hbl.out]; simpa using hown
  have HO := Lib.hid hown2
  have HB : RowKit.Hid (Below w.heap.size w w2) := (Below.refl _ w).grown hgrow (by simp) (fun g hg => by simp [Value.ownBlock] at hg)
  clear hown hown2 hgrow
  go_wp2
  go_ret
  exact ⟨_, rfl, HO.out, HB.out⟩

/-! ### A number's bytes, one by one -/
section
attribute [local go_sem] Oper.semAt_some
/-- The number and how many bytes are kept in boxes; the function captures these. -/
theorem bytesOf_any (n : Int) (k : Nat) (w : World) :
    Calls Try.prog 26 #[.int .u32 n, .int .i64 (k : Int)] w fun e w' => e = .returned (.func (.func 32) #[] #[.pointer (some ⟨w.heap.size + 1, 0, none⟩), .pointer (some ⟨w.heap.size, 0, none⟩)]) ∧
      w' = (w.alloc (.cells #[.int .u32 n] 22)).alloc (.cells #[.int .i64 (k : Int)] 3) := by
  go_enter Try.func26, Try.ntmps26
  go_wp2
  go_ret
  exact ⟨rfl, rfl⟩

theorem numL_split {n : Int} {k N : Nat} (h : k < N) : numL n N = numL n k ++ (n / P8 k % 256) :: (numL n N).drop (k + 1) := by
  have e : ∀ N, k < N → (numL n N).take (k + 1) = numL n (k + 1) := by
    intro N
    induction N with
    | zero => intro h; omega
    | succ N ih =>
      intro h
      by_cases hk : k = N
      · subst hk; exact List.take_of_length_le (by rw [numL_len]; omega)
      · rw [numL_snoc, List.take_append_of_le_length (by rw [numL_len]; omega)]
        exact ih (by omega)
  have := List.take_append_drop (k + 1) (numL n N)
  rw [e N h, numL_snoc, List.append_assoc] at this
  exact this.symm
theorem two_pow8 (k : Nat) : (2 : Int) ^ (8 * k) = P8 k := by unfold P8; rw [Int.pow_mul]; rfl
set_option maxRecDepth 100000 in
set_option maxHeartbeats 2000000 in
theorem bytesOf_in (m : Nat) (hm : 1 ≤ m) (l c d B : Nat) (n : Int) (N : Nat) (n0 : 0 ≤ n) (n1 : n ≤ 4294967295) (hN : N ≤ 4) (J : List Int → World → Prop)
    (hY : ∀ (pre : List Int) (x : Int) (rest : List Int) (W1 : World), numL n N = pre ++ x :: rest → J pre W1 → YieldAt Fence.wide (m - 1) Try.prog l #[.int .u8 x] W1 fun e W' => e = .returned (.bool true) ∧ J (pre ++ [x]) W' ∧ KpTwo B c d W1 W')
    (W : World) (hc : Boxed W c 3 (.int .i64 (N : Int))) (hd : Boxed W d 22 (.int .u32 n)) (h0 : J [] W) :
    CallsIn Fence.wide m Try.prog 32 #[.func (.yield l) #[] #[], .pointer (some ⟨c, 0, none⟩), .pointer (some ⟨d, 0, none⟩)] W fun e W' => (∃ v, e = .returned v) ∧ J (numL n N) W' := by
  have HY := Lib.hid hY
  clear hY
  refine callsIn_of_wp Try.func32 rfl trivial ?_ rfl
  simp only [Try.ntmps32, List.size_toArray, List.length_cons, List.length_nil, Nat.reduceAdd, Nat.reduceSub, Array.replicate_succ, Array.replicate_zero, List.push_toArray, List.append_toArray, List.nil_append, List.cons_append]
  gi_wp2
  gi_loopw [4, 5] (fun g i wr => ∃ k : Nat, k ≤ N ∧ g = .bool true ∧ i = .int .i64 k ∧ RowKit.Hid (J (numL n k) wr ∧ Boxed wr c 3 (.int .i64 (N : Int)) ∧ Boxed wr d 22 (.int .u32 n)))
    (fun _ i _ => N - (intOf i).toNat)
  case atStart => exact ⟨0, Nat.zero_le _, rfl, rfl, h0, hc, hd⟩
  case round =>
    obtain ⟨k, hk, rfl, rfl, H⟩ := hrel
    clear hc hd h0
    have cc := H.out.2.1.cell
    by_cases hlt : k < N
    · have cd := H.out.2.2.cell
      have hs : numL n N = numL n k ++ (n / P8 k % 256) :: (numL n N).drop (k + 1) := numL_split hlt
      have hw1 : IntKind.i64.wrap (8 * (k : Int)) = 8 * (k : Int) := IntWalk.i64_in _ (by omega)
      obtain ⟨fn, tmps, assign, body, hy, hR⟩ := HY.out _ _ _ wr hs H.out.1
      have hy2 : (Instr.yield l #[.int .u8 (n / 2 ^ (8 * k) % 256)]).run Try.prog wr = .ok (.round l fn tmps assign body) wr := by rw [two_pow8]; exact hy
      clear hs hy
      gi_wp2
      refine hR.mono ?_
      rintro e W3 ⟨rfl, hJ3, hk3⟩
      have H3 : RowKit.Hid (J (numL n (k + 1)) W3 ∧ Boxed W3 c 3 (.int .i64 (N : Int)) ∧ Boxed W3 d 22 (.int .u32 n)) := by
        refine ⟨by rw [numL_snoc]; exact hJ3, hk3.2.1.trans H.out.2.1, hk3.2.2.trans H.out.2.2⟩
      clear H cc cd hJ3 hk3 hR hy2
      gi_wp2
      go_roundw
      case rel => exact ⟨k + 1, by omega, rfl, by go_num, H3.out⟩
      case measure => simp [intOf] <;> omega
    · obtain rfl : k = N := by omega
      gi_wp2
      go_end0
      exact ⟨⟨_, rfl⟩, H.out.1⟩
/-- What bytesOf hands back hands out the number's bytes. -/
theorem bytesOf_seq (m : Nat) (hm : 1 ≤ m) (c d B : Nat) (n : Int) (N : Nat) (n0 : 0 ≤ n) (n1 : n ≤ 4294967295) (hN : N ≤ 4) (w : World) (hc : Boxed w c 3 (.int .i64 (N : Int))) (hd : Boxed w d 22 (.int .u32 n)) :
    SeqAll Fence.wide m Try.prog 32 #[.pointer (some ⟨c, 0, none⟩), .pointer (some ⟨d, 0, none⟩)] (fun x : Int => #[Value.int .u8 x]) (KpTwo B c d) (numL n N) w :=
  fun l J W hW hY h0 => bytesOf_in m hm l c d B n N n0 n1 hN J hY W ((hW.block c hc.lt).trans hc) ((hW.block d hd.lt).trans hd) h0

/-! ### Bytes of a number, behind others -/
/-- What a row of bytes becomes: others behind it. -/
def JoinPost (base : Nat) (b : List Int) (w : World) (x : Ending) (w' : World) : Prop :=
  ∃ v, x = .returned v ∧ w'.ownsRow base 5 1 v b.length (b.map (Value.int .u8)) ∧ Below base w w'
set_option maxRecDepth 100000 in
set_option maxHeartbeats 2000000 in
theorem join_any (base : Nat) (v : Value) (b : List Int) (n : Int) (N : Nat) (w : World) (h : w.ownsRow base 5 1 v b.length (b.map (Value.int .u8))) (hbase : base ≤ w.heap.size) (hb : b.length ≤ 1000000) (n0 : 0 ≤ n) (n1 : n ≤ 4294967295) (hN : N ≤ 4) :
    Calls Try.prog 17 #[v, .int .u32 n, .int .i64 (N : Int)] w (JoinPost base (b ++ numL n N) w) := by
  obtain ⟨i0, hi, hz0, hz1, hz2⟩ := info_parts info19_u8
  obtain ⟨a, c, rfl⟩ := own_form h
  refine (callsIn_wide (n := 6)).1 ?_
  refine callsIn_of_wp_marks Try.func17 rfl trivial ?_ rfl
  simp only [Try.ntmps17, List.size_toArray, List.length_cons, List.length_nil, Nat.reduceAdd, Nat.reduceSub, Array.replicate_succ, Array.replicate_zero, List.push_toArray, List.append_toArray, List.nil_append, List.cons_append]
  gi_wp2_with (refine ⟨trivial, ?_⟩; gi_at_call 26; refine (callsIn_wide.2 (bytesOf_any n N _)).mono ?_; rintro e w2 ⟨rfl, rfl⟩)
  obtain ⟨g, hg⟩ : ∃ g, w.heap.size = g := ⟨_, rfl⟩
  have b0 := Boxed.new w 23 (.slice a b.length c)
  have b1 := Boxed.new (w.alloc (.cells #[.slice a b.length c] 23)) 22 (.int .u32 n)
  have b2 := Boxed.new ((w.alloc (.cells #[.slice a b.length c] 23)).alloc (.cells #[.int .u32 n] 22)) 3 (.int .i64 (N : Int))
  have hB0 : Below base w (((w.alloc (.cells #[.slice a b.length c] 23)).alloc (.cells #[.int .u32 n] 22)).alloc (.cells #[.int .i64 (N : Int)] 3)) := (((Below.refl _ w).alloc hbase _).alloc (by simp; omega) _).alloc (by simp; omega) _
  have hr0 := ((h.alloc (.cells #[.slice a b.length c] 23)).alloc (.cells #[.int .u32 n] 22)).alloc (.cells #[.int .i64 (N : Int)] 3)
  have b0 := (b0.alloc (.cells #[.int .u32 n] 22)).alloc (.cells #[.int .i64 (N : Int)] 3)
  have b1 := b1.alloc (.cells #[.int .i64 (N : Int)] 3)
  simp only [World.size_alloc, hg] at b0 b1 b2 ⊢
  have hsz : (((w.alloc (.cells #[.slice a b.length c] 23)).alloc (.cells #[.int .u32 n] 22)).alloc (.cells #[.int .i64 (N : Int)] 3)).heap.size = g + 1 + 1 + 1 := by simp [hg]
  rw [hg] at hbase
  have hbw : base ≤ w.heap.size := by omega
  generalize (((w.alloc (.cells #[.slice a b.length c] 23)).alloc (.cells #[.int .u32 n] 22)).alloc (.cells #[.int .i64 (N : Int)] 3)) = W0 at b0 b1 b2 hB0 hr0 hsz ⊢
  refine range_all (n := 6) rfl (by omega) (gf := 32) (lb := #[.pointer (some ⟨g + 1 + 1, 0, none⟩), .pointer (some ⟨g + 1, 0, none⟩)]) rfl trivial (enters_of Try.func32 (by kernel_rfl) rfl)
    (bytesOf_seq 5 (by omega) (g + 1 + 1) (g + 1) base n N n0 n1 hN W0 b2 b1) KpTwo.trans (KpTwo.put (by omega) (by omega) (by omega)) (fun _ => rfl)
    (fun pre W => ((∃ v, Boxed W g 23 v ∧ W.ownsRow base 5 1 v (b ++ pre).length ((b ++ pre).map (Value.int .u8)) ∧ True) ∧ (Boxed W (g + 1) 22 (.int .u32 n) ∧ Boxed W (g + 1 + 1) 3 (.int .i64 (N : Int)))) ∧ Below base w W)
    (OwnFrom.and (OwnFrom.and (Own.from (holdsRow_own base g 23 5 1 (fun pre : List Int => (b ++ pre).length) (fun pre => (b ++ pre).map (Value.int .u8)) (fun _ _ => True)) _) (OwnFrom.and (Own.from (boxed_own _ _ (fun _ => Value.int .u32 n)) _) (Own.from (boxed_own _ _ (fun _ => Value.int .i64 (N : Int))) _))) (ownFrom_below hbw (by omega)))
    ⟨⟨⟨_, b0, by simpa using hr0, trivial⟩, b1, b2⟩, hB0⟩
    (fun x => { tmps := #[.slice a b.length c, .int .u32 n, .int .i64 (N : Int), .pointer (some ⟨g, 0, none⟩), undef, undef, .slice none 0 0, .int .u8 x, .int .u32 n, .int .i64 (N : Int), .func (.func 32) #[] #[.pointer (some ⟨g + 1 + 1, 0, none⟩), .pointer (some ⟨g + 1, 0, none⟩)], .int .u8 x, undef, undef, undef, undef, undef], defers := [] }) ?assign ?body ?done
  case assign =>
    intro l x W K hK
    gi_wp2
    exact hK
  case body =>
    rintro l pre x rest W hx ⟨⟨⟨v, hv, hrow, _⟩, hn1, hn2⟩, hB⟩
    have hc := hv.cell
    have hpl : pre.length < 5 := by
      have := congrArg List.length hx
      rw [numL_len] at this
      simp at this
      omega
    have hlen : (b ++ pre).length = b.length + pre.length := by simp
    have hWs := hB.size
    gi_wp2_with (gi_at_builtin; refine wpListIn_append_own _ rfl _ _ 23 rfl base 5 i0 (.int .u8 0) 1 1 Try.underlying23 hi hz0 hz1 hz2 rfl (by decide) _ _ _ rfl (hrow.alloc _) ⟨W.heap.size, 0, none⟩ 1 1 [.int .u8 x] rfl rfl (cell_one_new _ _ _) (by simp [Value.oneCell']) (by unfold maxLen; omega) (by omega) (by simp; omega) ?_; intro v' w1 hown' hgrow _; obtain ⟨g', cap', rfl⟩ := ownsRow_succ hown'; obtain ⟨hv1, hv2, hr2, hk2, hb2⟩ := hv.appended (by decide) hrow (by omega) (by omega) hown' hgrow; have hc1 := hv1.cell; have hf1 := hv1.frozen)
    rw [hlen] at hv2 hr2 hk2 hb2
    have k1 : Boxed (w1.setCell ⟨g, 0, none⟩ (.slice (some ⟨g', 0, none⟩) (b.length + pre.length + 1) cap')) (g + 1) 22 (.int .u32 n) := ((hn1.alloc _).kept hgrow (hn1.not_row (by decide) hrow)).other (by omega) _
    have k2 : Boxed (w1.setCell ⟨g, 0, none⟩ (.slice (some ⟨g', 0, none⟩) (b.length + pre.length + 1) cap')) (g + 1 + 1) 3 (.int .i64 (N : Int)) := ((hn2.alloc _).kept hgrow (hn2.not_row (by decide) hrow)).other (by omega) _
    exact ⟨hk2.from _, ⟨hb2, k2.trans hn2.symm, k1.trans hn1.symm⟩, ⟨⟨_, hv2, by simpa [Nat.add_assoc] using hr2, trivial⟩, k1, k2⟩, hB.trans hb2⟩
  case done =>
    rintro D W hD ⟨⟨⟨v, hv, hrow, _⟩, _⟩, hB⟩ hK
    have hc := hv.cell
    gi_wp2
    refine ⟨by simp, .inl ⟨_, _, rfl, run_takeDeferred hK, ?_⟩⟩
    exact ⟨_, results_tmp rfl _ _ _, v, rfl, ownsRow_putObj hrow _ hK rfl, hB.trans (belowK_b (w := W0) (by omega) W D _ _ hD hK rfl rfl)⟩
end
end Go.Proofs.Ytcjikbddnceigaa
