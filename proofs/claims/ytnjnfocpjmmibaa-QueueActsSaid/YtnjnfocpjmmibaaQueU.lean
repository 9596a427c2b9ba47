/- The walk of QueueRuns. -/
import Derived.Test.YtnjnfocpjmmibaaQueS
import Derived.Test.YtnjnfocpjmmibaaQueQ
import Derived.Laws.Strings
namespace Go.Proofs.Ytnjnfocpjmmibaa
open Go.RowKit
set_option linter.unusedVariables false
set_option linter.unusedSimpArgs false

/-- The queue's size. -/
theorem size22 (n : Int) : ∃ y s : Nat, 1 ≤ s ∧ s ≤ 6 ∧ (IntKind.u64.wrap n).tmod 6 = (y : Int) ∧ wrap64 (y : Int) = (y : Int) ∧ wrap64 (1 + (y : Int)) = (s : Int) := by
  have h0 : 0 ≤ IntKind.u64.wrap n := by
    show 0 ≤ n % 18446744073709551616
    omega
  have e : (IntKind.u64.wrap n).tmod 6 = (IntKind.u64.wrap n) % 6 := Int.tmod_eq_emod_of_nonneg h0
  refine ⟨((IntKind.u64.wrap n) % 6).toNat, ((IntKind.u64.wrap n) % 6).toNat + 1, by omega, by omega, by omega, IntWalk.wrap64_in _ (by omega), ?_⟩
  have := IntWalk.wrap64_in (1 + (((IntKind.u64.wrap n) % 6).toNat : Int)) (by omega)
  refine Eq.trans this (by omega)
theorem take_size_eq (q : Q22) (k : Nat) : (q.out k).length + (q.take k).size = q.size := by
  have := congrArg List.length (takeQ_sum q.l k q.head)
  unfold Q22.out Q22.take Q22.size
  simp at this ⊢
  omega
theorem take_lost (q : Q22) (k : Nat) : (q.take k).lost = q.lost := rfl
theorem own_form22 {w : World} {base e size n : Nat} {v : Value} {xs : List Value} (h : w.ownsRow base e size v n xs) : ∃ a m c, v = .slice a m c := by
  rcases h.2 with ⟨e, _⟩ | ⟨g, cap, cur, e, _⟩
  · exact ⟨_, _, _, e⟩
  · exact ⟨_, _, _, e⟩
/-- How the first loop stands. -/
structure RnSt (w : World) (g sz : Nat) (j : Nat) (out : List Int) (bs : List Bool) (q : Q22) (v : Value) (wr : World) : Prop where
  v : QV w g sz q 4 v (bs.map Value.bool) wr
  r : RunOk bs q out
  s : out.length + q.size ≤ 1 + 3 * j
  l : q.lost ≤ 10 * j
  n : bs.length ≤ j
theorem flat_len22 : ∀ S : List Nat, (S.map tri22).flatten.length = 3 * S.length := by
  intro S
  induction S with
  | nil => rfl
  | cons n S ih => simp [tri22] at ih ⊢; omega
theorem textOf_data (T : List Int) : (textOf T).data.toList = T.map fun n => UInt8.ofNat n.toNat := by
  unfold textOf
  have : ∀ (T : List Int) (b : ByteArray), (T.foldl (fun r n => r.push (UInt8.ofNat n.toNat)) b).data.toList = b.data.toList ++ T.map fun n => UInt8.ofNat n.toNat := by
    intro T
    induction T with
    | nil => intro b; simp
    | cons x T ih => intro b; rw [List.foldl_cons, ih]; simp
  rw [this]
  simp
theorem textOf_at (T : List Int) (i : Nat) (h : i < (textOf T).size) : ((textOf T)[i]'h) = UInt8.ofNat (T.getD i 0).toNat := by
  have hi : i < T.length := by rw [textOf_size] at h; exact h
  have e : (textOf T)[i]'h = (textOf T).data.toList[i]'(by rw [Array.length_toList]; exact h) := rfl
  rw [e]
  simp only [textOf_data, List.getElem_map]
  simp [List.getD, hi]
theorem flat_get22 : ∀ (S : List Nat) (t : Nat), t < S.length → (S.map tri22).flatten.getD (3 * t) 0 = 91 ∧ (S.map tri22).flatten.getD (3 * t + 1) 0 = ((S.getD t 0 : Nat) : Int) ∧ (S.map tri22).flatten.getD (3 * t + 2) 0 = 93 := by
  intro S
  induction S with
  | nil => intro t h; simp at h
  | cons n S ih =>
    intro t h
    cases t with
    | zero => exact ⟨rfl, rfl, rfl⟩
    | succ t =>
      obtain ⟨h1, h2, h3⟩ := ih t (by simp at h; omega)
      have e : ∀ k, ((n :: S).map tri22).flatten.getD (3 * (t + 1) + k) 0 = (S.map tri22).flatten.getD (3 * t + k) 0 := by
        intro k
        have e1 : 3 * (t + 1) + k = (3 * t + k) + 3 := by omega
        rw [e1]
        rfl
      refine ⟨?_, ?_, ?_⟩
      · have := e 0; simp only [Nat.add_zero] at this; rw [this]; exact h1
      · rw [e 1]; exact h2
      · rw [e 2]; exact h3
theorem goodF_at {wh : List Bool} : ∀ {S : List Nat} {last : Int} {t : Nat}, goodF wh last S → t < S.length → lastOf last (S.take t) < ((S.getD t 0 : Nat) : Int) ∧ S.getD t 0 < wh.length ∧ (((S.getD t 0 : Nat) : Int) = lastOf last (S.take t) + 1 ∨ wh[S.getD t 0]? = some true) := by
  intro S
  induction S with
  | nil => intro last t _ h; simp at h
  | cons n S ih =>
    intro last t h ht
    obtain ⟨h1, h2, h3, h4⟩ := h
    cases t with
    | zero => exact ⟨h1, h2, h3⟩
    | succ t => exact ih h4 (by simp at ht; omega)
theorem lastOf_next {S : List Nat} {t : Nat} (last : Int) (h : t < S.length) : lastOf last (S.take (t + 1)) = ((S.getD t 0 : Nat) : Int) := by
  rw [List.take_succ_eq_append_getElem h, lastOf_app]
  simp [List.getD, h]
theorem lastOf_ge (S : List Nat) : -2 ≤ lastOf (-2) S := by
  cases S with
  | nil => exact Int.le_refl _
  | cons n S =>
    have : ∀ (S : List Nat) (n : Nat), -2 ≤ lastOf (n : Int) S := by
      intro S
      induction S with
      | nil => intro n; show -2 ≤ (n : Int); omega
      | cons m S ih => intro n; exact ih m
    exact this S n
def K22 (t zl : Nat) : Prop := t ≤ zl
theorem row_at22 {w : World} {base x vm vc : Nat} {va : Option Addr} {bs : List Bool} (h : w.ownsRow base 4 1 (.slice va vm vc) bs.length (bs.map Value.bool)) (hx : x < bs.length) : ∃ r, va = some ⟨r, 0, none⟩ ∧ vm = bs.length ∧ w.cell? ⟨r, x, none⟩ = (bs[x]?).map Value.bool := by
  rcases h.2 with ⟨e, hn⟩ | ⟨g, cap, cur, e, _⟩
  · omega
  · injection e with e1 e2 e3
    subst e1
    subst e2
    refine ⟨g, rfl, rfl, ?_⟩
    rw [h.cellAt x (by omega), List.getElem?_map]
/-- What stands in the text. -/
theorem text_at22 {S : List Nat} {F : ByteArray} {wh : List Bool} (hF : textOf (62 :: (S.map tri22).flatten) = F) (hg : goodF wh (-2) S) (hw : wh.length ≤ 200) : F.size = 1 + 3 * S.length ∧ (∀ h : 0 < F.size, (F[0]'h).toNat = 62) ∧ ∀ t, t < S.length → (∀ h : 1 + 3 * t < F.size, (F[1 + 3 * t]'h).toNat = 91) ∧ (∀ h : 1 + 3 * t + 1 < F.size, (F[1 + 3 * t + 1]'h).toNat = S.getD t 0) ∧ (∀ h : 1 + 3 * t + 2 < F.size, (F[1 + 3 * t + 2]'h).toNat = 93) := by
  subst hF
  refine ⟨by rw [textOf_size, List.length_cons, flat_len22]; omega, fun h => by rw [textOf_at]; rfl, fun t ht => ?_⟩
  obtain ⟨h1, h2, h3⟩ := flat_get22 S t ht
  have hs := (goodF_at hg ht).2.1
  have e : ∀ k, (62 :: (S.map tri22).flatten : List Int).getD (1 + k) 0 = (S.map tri22).flatten.getD k 0 := by
    intro k
    rw [Nat.add_comm 1 k]
    rfl
  refine ⟨fun h => ?_, fun h => ?_, fun h => ?_⟩
  · rw [textOf_at, e, h1]; rfl
  · rw [textOf_at, Nat.add_assoc, e, h2]
    generalize S.getD t 0 = x at hs ⊢
    simp
    omega
  · rw [textOf_at, Nat.add_assoc, e, h3]; rfl
theorem info22_bool : (Try.prog.info? 4).map (fun i => (i.zero, i.size, i.bytes)) = some (some (.bool false), 1, 1) := by kernel_rfl
/-- append(s, b), s a row of the call's own. -/
theorem append_bool22 {P : Program} {w : World} {ops : Array Oper} {rest : List Oper} {o : Oper} {a : Act} {Q : Exit → Act → World → Prop} (hgd : o.guard = none) (s x : Operand) (t : TypeId)
    (ho : o.op = .call { callee := .builtin .append, args := #[s, x], argTypes := #[t, t] })
    (base : Nat) (e : TypeId) (ht : P.underlying t = some (.slice e)) (hi : (P.info? e).map (fun i => (i.zero, i.size, i.bytes)) = some (some (.bool false), 1, 1))
    (v : Value) (n : Nat) (xs : List Value) (hs : a.eval s = v) (hown : w.ownsRow base e 1 v n xs) (g : Nat) (b : Bool) (hx : a.eval x = .slice (some ⟨g, 0, none⟩) 1 1) (hg : w.cell? ⟨g, 0, none⟩ = some (.bool b)) (hn : n ≤ 1000000) (hbase : base ≤ w.heap.size)
    (h : ∀ v' w', w'.ownsRow base e 1 v' (n + 1) (xs ++ [.bool b]) → w.grownBy w' v.ownBlock → (v'.ownBlock = v.ownBlock ∨ v'.ownBlock = some w.heap.size) → wpList P ops Q rest (a.put o.dst v') w') :
    wpList P ops Q (o :: rest) a w := by
  obtain ⟨i, h1, h2, h3, h4⟩ := info_parts hi
  refine wpList_append_own_at w hgd s x t ho base e i (.bool false) 1 1 ht h1 h2 h3 h4 rfl (by decide) v n xs hs hown ⟨g, 0, none⟩ 1 1 [.bool b] hx rfl (fun j u hj => ?_) (fun u hu => by simp at hu; subst hu; rfl) (by unfold maxLen; omega) (by omega) hbase ?_
  · match j, hj with
    | 0, hj => injection hj with hj; subst hj; exact hg
    | j + 1, hj => simp at hj
  · intro v' w' g1 g2 _ g4
    exact h v' w' g1 g2 g4
theorem RnSt.below {w wr w' : World} {g sz j : Nat} {out : List Int} {bs : List Bool} {q : Q22} {v : Value} (h : RnSt w g sz j out bs q v wr) (hb : Below wr.heap.size wr w') : RnSt w g sz j out bs q v w' := ⟨h.v.below hb, h.r, h.s, h.l, h.n⟩
theorem RnSt.flush {w wr w' : World} {g sz j : Nat} {out : List Int} {bs : List Bool} {q : Q22} {v : Value} (h : RnSt w g sz j out bs q v wr) (hv : QV w g sz q.flush 4 v (bs.map Value.bool) w') (hl : q.l.length ≤ 6) : RnSt w g sz (j + 1) out bs q.flush v w' :=
  ⟨hv, h.r.flush, by have := h.s; have := q.flush_size; omega, by have := h.l; simp [Q22.flush]; omega, by have := h.n; omega⟩
theorem RnSt.take {w wr w' : World} {g sz j : Nat} {out : List Int} {bs : List Bool} {q : Q22} {v : Value} (k : Nat) (h : RnSt w g sz j out bs q v wr) (hv : QV w g sz (q.take k) 4 v (bs.map Value.bool) w') : RnSt w g sz (j + 1) (out ++ q.out k) bs (q.take k) v w' :=
  ⟨hv, h.r.take k, by have := h.s; have := take_size_eq q k; rw [List.length_append]; omega, by have := h.l; rw [take_lost]; omega, by have := h.n; omega⟩
theorem RnSt.offer {w wr w' w4 : World} {g sz j : Nat} {out : List Int} {bs : List Bool} {q : Q22} {v v' : Value} {b : Bool} (h : RnSt w g sz j out bs q v wr) (hv : QV w g sz (q.offer sz (tri22 bs.length) b) 4 v (bs.map Value.bool) w') (hsz : sz ≤ 6) (hg : w'.grownBy w4 v.ownBlock) (hw : v'.ownBlock = v.ownBlock ∨ v'.ownBlock = some w'.heap.size) (ho : w4.ownsRow w.heap.size 4 1 v' (bs.length + 1) (bs.map Value.bool ++ [.bool b])) :
    RnSt w g sz (j + 1) out (bs ++ [b]) (q.offer sz (tri22 bs.length) b) v' w4 := by
  refine ⟨hv.grown (by decide) (by simpa using ho) hg hw, h.r.offer sz b, ?_, ?_, by have := h.n; simp; omega⟩
  · have := h.s
    have := q.offer_size sz (tri22 bs.length) b
    have e : (tri22 bs.length).length = 3 := rfl
    omega
  · have := h.l
    have := q.offer_lost h.v.q.len (tri22 bs.length) b
    omega
set_option maxRecDepth 100000 in
set_option maxHeartbeats 1000000 in
open Classical in
theorem queueRuns_no (n : Int) (a : Option Addr) (len cap : Nat) (X : Nat → Ac22) (w : World) (h : AcsIn22 w a len X) (hf : ¬ Fits22 X len) :
    Calls Try.prog 4 #[.int .i64 n, .slice a len cap] w fun e w' => e = .returned (.bool true) ∧ Below w.heap.size w w' := by
  have HB := Lib.hid (Below.refl w.heap.size w)
  have HX := Lib.hid h
  have HF : RowKit.Hid (∀ W, Below w.heap.size w W → Calls Try.prog 7 #[.slice a len cap] W fun e w' => e = .returned (.bool false) ∧ Below W.heap.size W w') := by
    refine Lib.hid fun W hb => ?_
    have := fits22_any a len cap X W ((h.below hb))
    rw [decide_eq_false hf] at this
    exact this
  clear h hf
  go_enter Try.func4, Try.ntmps4
  go_wp2_with (first
    | (go_at_call 6; refine (lives22_any _).mono ?_; rintro e w2 ⟨rfl, hb⟩; replace HB := Lib.hid (chain HB.out hb); clear hb)
    | (go_at_call 7; refine (HF.out _ HB.out).mono ?_; rintro e w2 ⟨rfl, hb⟩; replace HB := Lib.hid (chain HB.out hb); clear hb)
    | fail)
  go_ret
  exact ⟨rfl, HB.out⟩
set_option maxRecDepth 100000 in
set_option maxHeartbeats 4000000 in
open Classical in
theorem queueRuns_in (n : Int) (a : Option Addr) (len cap : Nat) (X : Nat → Ac22) (w : World) (h : AcsIn22 w a len X) (hf : Fits22 X len) :
    Calls Try.prog 4 #[.int .i64 n, .slice a len cap] w fun e w' => e = .returned (.bool true) ∧ Below w.heap.size w w' := by
  have HX := Lib.hid h
  have HF : RowKit.Hid (∀ W, Below w.heap.size w W → Calls Try.prog 7 #[.slice a len cap] W fun e w' => e = .returned (.bool true) ∧ Below W.heap.size W w') := by
    refine Lib.hid fun W hb => ?_
    have := fits22_any a len cap X W ((h.below hb))
    rw [decide_eq_true hf] at this
    exact this
  obtain ⟨y, s, s1, s2, hy, hy2, hs⟩ := size22 n
  have HNw := Lib.hid (fun W => quNew_any s W s1 (by omega))
  have hlen := hf.2
  clear h hf
  go_enter Try.func4, Try.ntmps4
  go_wp2_with (first
    | (go_at_call 6; refine (lives22_any _).mono ?_; rintro e w2 ⟨rfl, hb⟩; have H1 := Lib.hid hb; clear hb)
    | (go_at_call 7; refine (HF.out _ H1.out).mono ?_; rintro e w2 ⟨rfl, hb⟩; have H2 := Lib.hid (chain H1.out hb); clear hb H1)
    | (go_at_call 8; refine (HNw.out _).mono ?_; rintro e w3 ⟨g, rfl, hg, hr, hb⟩; have H3 : RowKit.Hid (QSt w g s q0_22 w3) := ⟨H2.out.trans (hb.mono H2.out.size), hr.weaken (fun j hj => hj.elim) (fun e => e rfl), Nat.le_trans H2.out.size hg⟩; clear hg hr hb H2)
    | (go_at_call 11; refine ((H3.out.below (Below.alloc_new _ _)).say (By22.lit [62] _ rfl (0, 0) (by decide) H3.out.q.lt) (by decide)).mono ?_; rintro e w4 ⟨⟨x4, rfl⟩, h⟩; have H4 := Lib.hid h; clear h H3)
    | fail)
  go_loopw [7, 8, 9, 40] (fun t nu v0 k wr => ∃ (j : Nat) (out : List Int) (bs : List Bool) (q : Q22) (va : Option Addr) (vm vc : Nat), j ≤ len ∧ k = .int .i64 j ∧ v0 = .slice va vm vc ∧ nu = .int .i64 bs.length ∧ t = .string (textOf out) ∧ RowKit.Hid (RnSt w g s j out bs q (.slice va vm vc) wr)) (fun _ _ _ k _ => len - (intOf k).toNat)
  case atStart => exact ⟨0, [], [], _, none, 0, 0, Nat.zero_le _, rfl, rfl, rfl, rfl, QV.of H4.out _, RunOk.start _ rfl rfl rfl, by decide, by decide, by decide⟩
  case round =>
    obtain ⟨j, out, bs, q, va, vm, vc, hj, rfl, rfl, rfl, rfl, H⟩ := hrel
    clear H4 HNw hy hy2 hs HF
    have hbn := H.out.n
    by_cases hlt : j < len
    · obtain ⟨b, off, rfl, hbl, hin⟩ : ∃ b off, a = some ⟨b, off, none⟩ ∧ b < w.heap.size ∧ ∀ i, i < len → AcIn22 w b (off + i * 4) (X i) := by
        rcases HX.out.2 with h0 | h0
        · omega
        · exact h0
      have hin2 := hin j hlt
      have c0 := (H.out.v.b.cell (p := ⟨b, off + j * 4, none⟩) hbl).trans hin2.c0
      have c1 := (H.out.v.b.cell (p := ⟨b, off + j * 4 + 1, none⟩) hbl).trans hin2.c1
      have c2 := (H.out.v.b.cell (p := ⟨b, off + j * 4 + 2, none⟩) hbl).trans hin2.c2
      have c3 := (H.out.v.b.cell (p := ⟨b, off + j * 4 + 3, none⟩) hbl).trans hin2.c3
      have hk0 := hin2.k0
      have hn0 := hin2.n0
      generalize (X j).k = xk at c0 hk0
      generalize (X j).wh = xw at c1
      generalize (X j).n = xn at c2 hn0
      generalize (X j).a = xa at c3
      generalize (X j).c = xc at c3
      generalize (X j).b.length = xm at c3
      have e2 : IntKind.i64.wrap ((j : Int) + 1) = (j : Int) + 1 := IntWalk.i64_in _ (by omega)
      have e3 : IntKind.i64.wrap ((bs.length : Int) + 1) = (bs.length : Int) + 1 := IntWalk.i64_in _ (by omega)
      obtain ⟨W1, hW1⟩ : ∃ W1, wr.alloc (.cells #[.int .u8 xk, .bool xw, .int .i64 xn, .slice xa xm xc] 36) = W1 := ⟨_, rfl⟩
      have H1 : RowKit.Hid (RnSt w g s j out bs q (.slice va vm vc) W1) := by rw [← hW1]; exact Lib.hid (H.out.below (Below.alloc_new _ _))
      have HSz : RowKit.Hid (W1.heap.size = wr.heap.size + 1) := by rw [← hW1]; exact Lib.hid (by simp)
      have hq6 := H.out.v.q.len
      have HW1 := Lib.hid hW1
      clear hin hin2 hW1 hbl
      obtain ⟨r, hr⟩ : ∃ r, xk.tmod 4 = r := ⟨_, rfl⟩
      have hr4 : r = 0 ∨ r = 1 ∨ r = 2 ∨ r = 3 := by
        rw [← hr, Int.tmod_eq_emod_of_nonneg hk0.1]
        omega
      rcases hr4 with rfl | rfl | rfl | rfl
      · have kx := hr
        have eN : IntKind.u8.wrap (bs.length : Int) = (bs.length : Int) := IntWalk.u8_in _ (by have := H.out.n; omega)
        have CO : RowKit.Hid (Calls Try.prog 9 #[.pointer (some ⟨g, 0, none⟩), .slice (some ⟨wr.heap.size + 1, 0, none⟩) 3 3, .bool xw] (W1.alloc (.cells #[.int .u8 91, .int .u8 (bs.length : Int), .int .u8 93] 5)) fun x w' => x = .returned (.bool (q.may s xw)) ∧ QV w g s (q.offer s (tri22 bs.length) xw) 4 (.slice va vm vc) (bs.map Value.bool) w') := by
          have := (H1.out.v.below (Below.alloc_new W1 (.cells #[.int .u8 91, .int .u8 (bs.length : Int), .int .u8 93] 5))).offer (by decide) (By22.lit (tri22 bs.length) _ rfl (0, 0) (by show 3 ≤ 1000; decide) H1.out.v.q.lt) (by show 3 ≤ 400000; decide) (by have := H.out.l; omega) xw
          rw [HSz.out] at this
          exact Lib.hid this
        go_wp2_with (first
          | (go_at_call 9; rw [HW1.out]; refine CO.out.mono ?_; rintro e w5 ⟨rfl, h⟩; have H5 := Lib.hid (h.below (Below.alloc_new w5 (.cells #[.bool xw] 4))); have HC5 := Lib.hid ((Cel.new w5 4 #[.bool xw]).cell 0); clear h)
          | (at_builtin; go_loud (refine append_bool22 rfl _ _ 45 rfl w.heap.size 4 Try.underlying45 info22_bool (.slice va vm vc) (bs.map Value.bool).length (bs.map Value.bool) rfl H5.out.o w5.heap.size xw rfl HC5.out (by have := H.out.n; simp; omega) H5.out.b.size ?_); intro v6 w6 ho hg6 hv6; obtain ⟨a6, m6, c6, rfl⟩ := own_form22 ho; have H6 := Lib.hid (H1.out.offer H5.out (by omega) hg6 hv6 (by simpa using ho)); clear ho hg6 hv6)
          | fail)
        go_roundw
        case rel => exact ⟨j + 1, out, bs ++ [xw], _, _, _, _, by omega, by go_num, rfl, by simp, rfl, H6.out⟩
        case measure => simp [intOf]; omega
      · have kx := hr
        have eN : IntKind.u8.wrap (bs.length : Int) = (bs.length : Int) := IntWalk.u8_in _ (by have := H.out.n; omega)
        have CO : RowKit.Hid (Calls Try.prog 9 #[.pointer (some ⟨g, 0, none⟩), .slice (some ⟨wr.heap.size + 1, 0, none⟩) 3 3, .bool xw] (W1.alloc (.cells #[.int .u8 91, .int .u8 (bs.length : Int), .int .u8 93] 5)) fun x w' => x = .returned (.bool (q.may s xw)) ∧ QV w g s (q.offer s (tri22 bs.length) xw) 4 (.slice va vm vc) (bs.map Value.bool) w') := by
          have := (H1.out.v.below (Below.alloc_new W1 (.cells #[.int .u8 91, .int .u8 (bs.length : Int), .int .u8 93] 5))).offer (by decide) (By22.lit (tri22 bs.length) _ rfl (0, 0) (by show 3 ≤ 1000; decide) H1.out.v.q.lt) (by show 3 ≤ 400000; decide) (by have := H.out.l; omega) xw
          rw [HSz.out] at this
          exact Lib.hid this
        go_wp2_with (first
          | (go_at_call 9; rw [HW1.out]; refine CO.out.mono ?_; rintro e w5 ⟨rfl, h⟩; have H5 := Lib.hid (h.below (Below.alloc_new w5 (.cells #[.bool xw] 4))); have HC5 := Lib.hid ((Cel.new w5 4 #[.bool xw]).cell 0); clear h)
          | (at_builtin; go_loud (refine append_bool22 rfl _ _ 45 rfl w.heap.size 4 Try.underlying45 info22_bool (.slice va vm vc) (bs.map Value.bool).length (bs.map Value.bool) rfl H5.out.o w5.heap.size xw rfl HC5.out (by have := H.out.n; simp; omega) H5.out.b.size ?_); intro v6 w6 ho hg6 hv6; obtain ⟨a6, m6, c6, rfl⟩ := own_form22 ho; have H6 := Lib.hid (H1.out.offer H5.out (by omega) hg6 hv6 (by simpa using ho)); clear ho hg6 hv6)
          | fail)
        go_roundw
        case rel => exact ⟨j + 1, out, bs ++ [xw], _, _, _, _, by omega, by go_num, rfl, by simp, rfl, H6.out⟩
        case measure => simp [intOf]; omega
      · have kx := hr
        obtain ⟨z, hz⟩ : ∃ z, xn.tmod 20 = z := ⟨_, rfl⟩
        have hz2 : -20 < z ∧ z < 20 := by
          have h1 := Int.tmod_lt_of_pos xn (show (0 : Int) < 20 by decide)
          have h2 := Int.lt_tmod_of_pos xn (show (0 : Int) < 20 by decide)
          omega
        have hz3 : IntKind.i64.wrap z = z := IntWalk.i64_in _ (by omega)
        have CT : RowKit.Hid (Calls Try.prog 12 #[.pointer (some ⟨g, 0, none⟩), .int .i64 z] W1 fun x w' => ∃ a m c, x = .returned (.slice a m c) ∧ RowKit.Hid (IntsAt w' w'.heap.size .u8 a m (q.out z.toNat) ∧ RnSt w g s (j + 1) (out ++ q.out z.toNat) bs (q.take z.toNat) (.slice va vm vc) w')) := by
          refine Lib.hid ((H1.out.v.take (by decide) (by have := H.out.s; omega) z (by omega)).mono ?_)
          rintro x w' ⟨a, m, c, rfl, _, hh⟩
          exact ⟨a, m, c, rfl, hh.out.1, H1.out.take _ hh.out.2⟩
        obtain ⟨O, hO⟩ : ∃ O, q.out z.toNat = O := ⟨_, rfl⟩
        obtain ⟨q2, hq2⟩ : ∃ q2, q.take z.toNat = q2 := ⟨_, rfl⟩
        rw [hO, hq2] at CT
        have ht1 : (textOf out).size ≤ 1000 := by rw [textOf_size]; have := H.out.s; omega
        clear hO hq2
        go_wp2_with (go_at_call 12; rw [HW1.out]; refine CT.out.mono ?_; rintro e w5 ⟨a5, m5, c5, rfl, h⟩; have H5 := Lib.hid h.out.2; have q5 := string_of_ints (P := Try.prog) (src := 31) (dst := 9) (e := 5) (c := c5) Try.underlying31 Try.underlying5 Try.underlying9 h.out.1; have ht2 := textOf_size O; have ht3 := H5.out.s; rw [List.length_append] at ht3; clear h)
        go_roundw
        case rel => exact ⟨j + 1, out ++ O, bs, _, _, _, _, by omega, by go_num, rfl, rfl, by rw [textOf_app], H5.out⟩
        case measure => simp [intOf]; omega
      · have kx := hr
        have CF : RowKit.Hid (Calls Try.prog 14 #[.pointer (some ⟨g, 0, none⟩)] W1 fun x w' => (∃ y, x = .returned y) ∧ RnSt w g s (j + 1) out bs q.flush (.slice va vm vc) w') := by
          refine Lib.hid ((H1.out.v.flush (by decide) (by have := H.out.l; omega)).mono ?_)
          rintro x w' ⟨hx, hv⟩
          exact ⟨hx, H1.out.flush hv (by omega)⟩
        go_wp2_with (go_at_call 14; rw [HW1.out]; refine CF.out.mono ?_; rintro e w5 ⟨⟨x5, rfl⟩, h⟩; have H5 := Lib.hid h; clear h)
        go_roundw
        case rel => exact ⟨j + 1, out, bs, _, _, _, _, by omega, by go_num, rfl, rfl, rfl, H5.out⟩
        case measure => simp [intOf]; omega
    · obtain rfl : j = len := by omega
      have CT : RowKit.Hid (Calls Try.prog 12 #[.pointer (some ⟨g, 0, none⟩), .int .i64 1048576] wr fun x w' => ∃ a m c, x = .returned (.slice a m c) ∧ RowKit.Hid (∃ S : List Nat, S.length ≤ 1000 ∧ IntsAt w' w'.heap.size .u8 a m (q.out 1048576) ∧ out ++ q.out 1048576 = 62 :: (S.map tri22).flatten ∧ goodF bs (-2) S ∧ Below w.heap.size w w' ∧ w'.ownsRow w.heap.size 4 1 (.slice va vm vc) bs.length (bs.map Value.bool))) := by
        refine Lib.hid ((H.out.v.take (by decide) (by have := H.out.s; omega) 1048576 (by omega)).mono ?_)
        rintro x w' ⟨a, m, c, rfl, _, hh⟩
        obtain ⟨S, h1, h2⟩ := H.out.r.all (k := 1048576) (by have := H.out.s; omega)
        refine ⟨a, m, c, rfl, S, ?_, hh.out.1, h1, h2, hh.out.2.b, by simpa using hh.out.2.o⟩
        have hl := congrArg List.length h1
        have hs := H.out.s
        have hk := take_size_eq q 1048576
        rw [List.length_append] at hl
        have e3 : ∀ S : List Nat, (S.map tri22).flatten.length = 3 * S.length := by
          intro S
          induction S with
          | nil => rfl
          | cons n S ih => simp [tri22] at ih ⊢; omega
        simp only [List.length_cons, e3] at hl
        omega
      have ht1 : (textOf out).size ≤ 1000 := by rw [textOf_size]; have := H.out.s; omega
      have ht2 : (textOf (q.out 1048576)).size ≤ 1000 := by rw [textOf_size]; have := H.out.s; have := take_size_eq q 1048576; omega
      clear H
      go_upto_region 25 with (go_at_call 12; refine CT.out.mono ?_; rintro e w5 ⟨a5, m5, c5, rfl, h⟩; obtain ⟨S, h1, h2, h3, h4, h5, h6⟩ := h.out; have q5 := string_of_ints (P := Try.prog) (src := 31) (dst := 9) (e := 5) (c := c5) Try.underlying31 Try.underlying5 Try.underlying9 h2; have HS : RowKit.Hid (S.length ≤ 1000 ∧ textOf out ++ textOf (q.out 1048576) = textOf (62 :: (S.map tri22).flatten) ∧ goodF bs (-2) S ∧ Below w.heap.size w w5 ∧ w5.ownsRow w.heap.size 4 1 (.slice va vm vc) bs.length (bs.map Value.bool)) := ⟨h1, (by rw [← textOf_app, h3]), h4, h5, h6⟩; clear h h1 h2 h3 h4 h5 h6)
      obtain ⟨F, hF⟩ : ∃ F, textOf out ++ textOf (q.out 1048576) = F := ⟨_, rfl⟩
      have HFe : RowKit.Hid (textOf (62 :: (S.map tri22).flatten) = F) := Lib.hid (HS.out.2.1.symm.trans hF)
      rw [hF]
      obtain ⟨hFs, hF0, hFa⟩ := text_at22 HFe.out HS.out.2.2.1 (by omega)
      have HFa := Lib.hid hFa
      have hFn : F.toList ≠ [] := fun e => by
        have h1 : F.toList.length = 0 := by rw [e]; rfl
        rw [Go.ByteArray.toList_eq, Array.length_toList] at h1
        have h2 : F.data.size = F.size := rfl
        omega
      have hFi : F.toList.isEmpty = false := by
        cases hh : F.toList with
        | nil => exact absurd hh hFn
        | cons x l => rfl
      clear hFa
      obtain ⟨zl, hzl⟩ : ∃ zl, S.length = zl := ⟨_, rfl⟩
      have HZl := Lib.hid hzl
      rw [hzl] at hFs
      have hm4 : (1 + 3 * (zl : Int)) % 3 = 1 := by omega
      have hzp : (0 : Int) < 1 + 3 * (zl : Int) := by omega
      clear hzl hF CT q5 ht1 ht2
      go_wp2
      rw [hm4]
      have H0 : RowKit.Hid (zl ≤ 1000) := by rw [← HZl.out]; exact Lib.hid HS.out.1
      go_loopw [13, 14, 15] (fun last i nn wx => ∃ t : Nat, t ≤ zl ∧ last = .int .i64 (lastOf (-2) (S.take t)) ∧ i = .int .i64 ((1 + 3 * t : Nat) : Int) ∧ wx = w5) (fun _ i _ _ => 1 + 3 * zl - (intOf i).toNat)
      case atStart => exact ⟨0, Nat.zero_le _, rfl, rfl, rfl⟩
      case round =>
        obtain ⟨t, ht, rfl, rfl, rfl⟩ := hrel
        by_cases hlt2 : t < zl
        · obtain ⟨y1, y2, y3⟩ := goodF_at HS.out.2.2.1 (t := t) (by have := HZl.out; omega)
          obtain ⟨z1, z2, z3⟩ := HFa.out t (by have := HZl.out; omega)
          have HLn := Lib.hid (lastOf_next (-2) (S := S) (t := t) (by have := HZl.out; omega))
          obtain ⟨x, hx⟩ : ∃ x, S.getD t 0 = x := ⟨_, rfl⟩
          obtain ⟨L, hL⟩ : ∃ L, lastOf (-2) (S.take t) = L := ⟨_, rfl⟩
          rw [hx] at y1 y2 y3 z2 HLn
          rw [hL] at y1 y3 ⊢
          have ub := H0.out
          have d1 : decide (((1 + 3 * t : Nat) : Int) < 1 + 3 * (zl : Int)) = true := by simp; omega
          obtain ⟨r, hva, hvm, hcw⟩ := row_at22 HS.out.2.2.2.2 y2
          have hL2 : -2 ≤ L := by rw [← hL]; exact lastOf_ge _
          have hw1 : wrap64 (L + 1) = L + 1 := IntWalk.wrap64_in _ (by omega)
          have d2 : x < vm := by omega
          have HG : RowKit.Hid (K22 t zl ∧ t < zl) := ⟨by unfold K22; omega, hlt2⟩
          subst hva
          clear hx hL hvm
          by_cases hxl : (x : Int) = L + 1
          · clear y3 hcw
            go_wp2
            go_roundw
            case rel => exact ⟨t + 1, by omega, by rw [HLn.out]; first | rfl | (rw [hxl]), congrArg (Value.int .i64) (by omega), trivial⟩
            case measure => simp [intOf]; omega
          · have y4 : bs[x]? = some true := by
              rcases y3 with h | h
              · exact absurd h hxl
              · exact h
            rw [y4] at hcw
            change _ = some (Value.bool true) at hcw
            have hxl2 : ((x : Int) == L + 1) = false := by simpa using hxl
            clear y3 y4
            go_wp2
            go_roundw
            case rel => exact ⟨t + 1, by omega, by rw [HLn.out], congrArg (Value.int .i64) (by omega), trivial⟩
            case measure => simp [intOf]; omega
        · obtain rfl : t = zl := by omega
          have d1 : decide (((1 + 3 * t : Nat) : Int) < 1 + 3 * (t : Int)) = false := by simp
          have HB := Lib.hid HS.out.2.2.2.1
          go_wp2
          go_ret
          exact ⟨rfl, HB.out⟩
end Go.Proofs.Ytnjnfocpjmmibaa
