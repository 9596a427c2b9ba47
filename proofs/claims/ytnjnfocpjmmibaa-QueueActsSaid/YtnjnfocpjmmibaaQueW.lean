/- The walk of QueueActs. -/
import Derived.Test.YtnjnfocpjmmibaaQueV
import Derived.Test.YtnjnfocpjmmibaaQueU
import Derived.Deep.RegionLaw
import Derived.Deep.QuietTactic
import Derived.BigQuiet
import Derived.Deep.CutBlock
import Derived.Deep.DeepCutAuto
namespace Go.Proofs.Ytnjnfocpjmmibaa
open Go.RowKit
set_option linter.unusedVariables false
set_option linter.unusedSimpArgs false

/-- A byte of one's own. -/
theorem AX22.cells {w wr : World} {g gm n m c k : Nat} {qp qm : Q22} {a : Option Addr} {xs : List Int} (h : AX22 w g gm n qp qm (.slice a m c) xs wr) (hk : k < m) : ∃ r x, a = some ⟨r, 0, none⟩ ∧ wr.cell? ⟨r, k, none⟩ = some (.int .u8 x) ∧ wr.frozen? ⟨r, k, none⟩ = false := by
  have hm := h.by_.2
  subst hm
  have ho := h.o
  obtain ⟨r, off, e3, _, _, hcell⟩ := (own_ints_m ho).at_ hk
  obtain ⟨r2, rfl⟩ : ∃ r2, a = some ⟨r2, 0, none⟩ := by
    rcases ho.2 with ⟨e, hn0⟩ | ⟨g2, cap, cur, e, _⟩
    · omega
    · injection e with e; exact ⟨g2, e⟩
  injection e3 with e3
  injection e3 with e4 e5
  subst e4
  subst e5
  rw [Nat.zero_add] at hcell
  exact ⟨r2, _, rfl, hcell, ho.frozenAt k⟩
/-- How the loop stands. -/
structure AcSt (w : World) (g gm n : Nat) (j : Nat) (q : Q22) (v : Value) (xs : List Int) (wr : World) : Prop where
  x : AX22 w g gm n q q v xs wr
  s : q.size ≤ 100 * j
  l : q.lost ≤ 10 * j
  n : q.l.length ≤ n
theorem AcSt.hl {w wr : World} {g gm n j : Nat} {q : Q22} {v : Value} {xs : List Int} (h : AcSt w g gm n j q v xs wr) : q.head.length ≤ 100 * j := by
  have := h.s
  unfold Q22.size at this
  rw [List.length_append] at this
  omega
theorem AcSt.below {w wr w' : World} {g gm n j : Nat} {q : Q22} {v : Value} {xs : List Int} (h : AcSt w g gm n j q v xs wr) (hb : Below wr.heap.size wr w') : AcSt w g gm n j q v xs w' := ⟨h.x.below hb, h.s, h.l, h.n⟩
theorem AcSt.offered {w wr w' : World} {g gm n j : Nat} {q : Q22} {v v' : Value} {xs xs' b : List Int} {wh : Bool} (h : AcSt w g gm n j q v xs wr) (hx : AX22 w g gm n (q.offer n b wh) (q.offer n b wh) v' xs' w') (hn : n ≤ 6) (hb : b.length ≤ 100) : AcSt w g gm n (j + 1) (q.offer n b wh) v' xs' w' := by
  obtain ⟨ro, hq, _, _⟩ := h.x.q
  exact ⟨hx, by have := h.s; have := q.offer_size n b wh; omega, by have := h.l; have := q.offer_lost h.n b wh; omega, q.offer_len hq.n1 h.n b wh⟩
theorem AcSt.said {w wr w' : World} {g gm n j : Nat} {q : Q22} {v v' : Value} {xs xs' b : List Int} (h : AcSt w g gm n j q v xs wr) (hx : AX22 w g gm n (q.say b) (q.say b) v' xs' w') (hb : b.length ≤ 100) : AcSt w g gm n (j + 1) (q.say b) v' xs' w' :=
  ⟨hx, by have := h.s; have := q.say_size b; omega, by have := h.l; simp only [Q22.say]; omega, h.n⟩
theorem AcSt.taken {w wr w' : World} {g gm n j : Nat} {q : Q22} {v v' : Value} {xs xs' : List Int} (k : Nat) (h : AcSt w g gm n j q v xs wr) (hx : AX22 w g gm n (q.take k) (q.take k) v' xs' w') : AcSt w g gm n (j + 1) (q.take k) v' xs' w' :=
  ⟨hx, by have := h.s; have := q.take_size k; omega, by have := h.l; rw [take_lost]; omega, Nat.le_trans (q.take_len k) h.n⟩
theorem AcSt.flushed {w wr w' : World} {g gm n j : Nat} {q : Q22} {v v' : Value} {xs xs' : List Int} (h : AcSt w g gm n j q v xs wr) (hx : AX22 w g gm n q.flush q.flush v' xs' w') (hn : n ≤ 6) : AcSt w g gm n (j + 1) q.flush v' xs' w' :=
  ⟨hx, by have := h.s; have := q.flush_size; omega, by have := h.l; have := h.n; simp [Q22.flush]; omega, Nat.zero_le _⟩
set_option maxRecDepth 100000 in
set_option maxHeartbeats 1000000 in
open Classical in
theorem queueActs_no (n : Int) (a : Option Addr) (len cap : Nat) (X : Nat → Ac22) (w : World) (h : AcsIn22 w a len X) (hf : ¬ Fits22 X len) :
    Calls Try.prog 3 #[.int .i64 n, .slice a len cap] w fun e w' => e = .returned (.bool true) ∧ Below w.heap.size w w' := by
  have HB := Lib.hid (Below.refl w.heap.size w)
  have HX := Lib.hid h
  have HF : RowKit.Hid (∀ W, Below w.heap.size w W → Calls Try.prog 7 #[.slice a len cap] W fun e w' => e = .returned (.bool false) ∧ Below W.heap.size W w') := by
    refine Lib.hid fun W hb => ?_
    have := fits22_any a len cap X W ((h.below hb))
    rw [decide_eq_false hf] at this
    exact this
  clear h hf
  go_enter Try.func3, Try.ntmps3
  go_wp2_with (first
    | (go_at_call 6; refine (lives22_any _).mono ?_; rintro e w2 ⟨rfl, hb⟩; replace HB := Lib.hid (chain HB.out hb); clear hb)
    | (go_at_call 7; refine (HF.out _ HB.out).mono ?_; rintro e w2 ⟨rfl, hb⟩; replace HB := Lib.hid (chain HB.out hb); clear hb)
    | fail)
  go_ret
  exact ⟨rfl, HB.out⟩
theorem AX22.start {w w3 : World} {g s : Nat} (h : QSt w g s q0_22 w3) : AX22 w g w3.heap.size s q0_22 q0_22 (.slice none 0 0) [] (w3.alloc (.cells #[.slice none 0 0, .slice none 0 0, .int .i64 s, .bool true, .int .i64 0] 34)) := by
  have hb := Below.alloc_new w3 (.cells #[.slice none 0 0, .slice none 0 0, .int .i64 s, .bool true, .int .i64 0] 34)
  have hc := Cel.new w3 34 #[.slice none 0 0, .slice none 0 0, .int .i64 s, .bool true, .int .i64 0]
  refine ⟨h.b.trans (hb.mono h.b.size), h.g1, h.b.size, World.ownsRow_nil _ _ _ _, none, (h.q.weaken (E := DD22 g w3.heap.size none (.slice none 0 0)) (fun j hj hl => ⟨hj, (by omega), (fun e => by cases e), (fun e => by cases e)⟩) fun e => e.1 rfl).below hb, ⟨(fun e => e.2.1 rfl), (fun r e => by cases e), none, 0, none, 0, [], ⟨hc, By22.nil _ _, Win.nil _ _, (fun i p hp => by simp [q0_22] at hp), .inl rfl⟩⟩, fun r e => by cases e⟩
set_option maxRecDepth 100000 in
set_option maxHeartbeats 8000000 in
open Classical in
theorem queueActs_in (n : Int) (a : Option Addr) (len cap : Nat) (X : Nat → Ac22) (w : World) (h : AcsIn22 w a len X) (hf : Fits22 X len) :
    Calls Try.prog 3 #[.int .i64 n, .slice a len cap] w fun e w' => e = .returned (.bool true) ∧ Below w.heap.size w w' := by
  have HX := Lib.hid h
  have HF : RowKit.Hid (∀ W, Below w.heap.size w W → Calls Try.prog 7 #[.slice a len cap] W fun e w' => e = .returned (.bool true) ∧ Below W.heap.size W w') := by
    refine Lib.hid fun W hb => ?_
    have := fits22_any a len cap X W ((h.below hb))
    rw [decide_eq_true hf] at this
    exact this
  obtain ⟨y, s, s1, s2, hy, hy2, hs⟩ := size22 n
  have HNw := Lib.hid (fun W => quNew_any s W s1 (by omega))
  have hlen := hf.2
  have HFt := Lib.hid hf.1
  clear h hf
  go_enter Try.func3, Try.ntmps3
  go_wp2_with (first
    | (go_at_call 6; refine (lives22_any _).mono ?_; rintro e w2 ⟨rfl, hb⟩; have H1 := Lib.hid hb; clear hb)
    | (go_at_call 7; refine (HF.out _ H1.out).mono ?_; rintro e w2 ⟨rfl, hb⟩; have H2 := Lib.hid (chain H1.out hb); clear hb H1)
    | (go_at_call 8; refine (HNw.out _).mono ?_; rintro e w3 ⟨g, rfl, hg, hr, hb⟩; have H3 : RowKit.Hid (QSt w g s q0_22 w3) := ⟨H2.out.trans (hb.mono H2.out.size), hr.weaken (fun j hj => hj.elim) (fun e => e rfl), Nat.le_trans H2.out.size hg⟩; clear hg hr hb H2)
    | fail)
  have H4 := Lib.hid (AX22.start H3.out)
  obtain ⟨gm, hgm⟩ : ∃ gm, w3.heap.size = gm := ⟨_, rfl⟩
  rw [hgm] at H4 ⊢
  obtain ⟨w4, hw4⟩ : ∃ w4, w3.alloc (.cells #[.slice none 0 0, .slice none 0 0, .int .i64 s, .bool true, .int .i64 0] 34) = w4 := ⟨_, rfl⟩
  rw [hw4] at H4 ⊢
  clear hgm hw4 H3 HF HNw hy hy2 hs
  go_loopw [41] (fun k wr => ∃ (j : Nat) (q : Q22) (v : Value) (xs : List Int), j ≤ len ∧ k = .int .i64 j ∧ RowKit.Hid (AcSt w g gm s j q v xs wr)) (fun k _ => len - (intOf k).toNat)
  case atStart => exact ⟨0, _, _, _, Nat.zero_le _, rfl, H4.out, by decide, by decide, Nat.zero_le _⟩
  case round =>
    obtain ⟨j, q, v, xs, hj, rfl, H⟩ := hrel
    clear H4
    by_cases hlt : j < len
    · obtain ⟨b, off, rfl, hbl, hin⟩ : ∃ b off, a = some ⟨b, off, none⟩ ∧ b < w.heap.size ∧ ∀ i, i < len → AcIn22 w b (off + i * 4) (X i) := by
        rcases HX.out.2 with h0 | h0
        · omega
        · exact h0
      have hin2 := hin j hlt
      have c0 := (H.out.x.b.cell (p := ⟨b, off + j * 4, none⟩) hbl).trans hin2.c0
      have c1 := (H.out.x.b.cell (p := ⟨b, off + j * 4 + 1, none⟩) hbl).trans hin2.c1
      have c2 := (H.out.x.b.cell (p := ⟨b, off + j * 4 + 2, none⟩) hbl).trans hin2.c2
      have c3 := (H.out.x.b.cell (p := ⟨b, off + j * 4 + 3, none⟩) hbl).trans hin2.c3
      have hk0 := hin2.k0
      have hn0 := hin2.n0
      have hby := hin2.by_
      have hxm := HFt.out j hlt
      generalize (X j).k = xk at c0 hk0
      generalize (X j).wh = xw at c1
      generalize (X j).n = xn at c2 hn0
      generalize (X j).a = xa at c3 hby
      generalize (X j).c = xc at c3 hby
      generalize (X j).b = xb at c3 hby hxm
      obtain ⟨xm, hxl⟩ : ∃ xm, xb.length = xm := ⟨_, rfl⟩
      have HXm := Lib.hid hxl
      rw [hxl] at c3 hby hxm
      have HBy := Lib.hid hby
      have e2 : IntKind.i64.wrap ((j : Int) + 1) = (j : Int) + 1 := IntWalk.i64_in _ (by omega)
      have hc3 := ((Cel.new wr 36 #[.int .u8 xk, .bool xw, .int .i64 xn, .slice xa xm xc]).alloc (.cells #[] 5))
      have hb3 : Below wr.heap.size wr ((wr.alloc (.cells #[.int .u8 xk, .bool xw, .int .i64 xn, .slice xa xm xc] 36)).alloc (.cells #[] 5)) := ((Below.refl _ wr).alloc (Nat.le_refl _) _).alloc (by simp) _
      have hx3 := World.ownsRow_lit (base := wr.heap.size + 1) (e := 5) (size := 1) (wr.alloc (.cells #[.int .u8 xk, .bool xw, .int .i64 xn, .slice xa xm xc] 36)) #[] 0 (by simp) (by decide) (by simp)
      obtain ⟨W3, hW3⟩ : ∃ W3, (wr.alloc (.cells #[.int .u8 xk, .bool xw, .int .i64 xn, .slice xa xm xc] 36)).alloc (.cells #[] 5) = W3 := ⟨_, rfl⟩
      rw [hW3] at hb3 hc3 hx3
      rw [World.size_alloc] at hx3
      have HX3 : RowKit.Hid (W3.ownsRow (wr.heap.size + 1) 5 1 (.slice (some ⟨wr.heap.size + 1, 0, none⟩) 0 0) 0 (([] : List Int).map (Value.int .u8))) := hx3
      have hs3 : W3.heap.size = wr.heap.size + 2 := by rw [← hW3]; simp
      have HS3 := Lib.hid hs3
      have HW3 := Lib.hid hW3
      have HB3 := Lib.hid hb3
      have HC3 := Lib.hid hc3
      clear hW3 hb3 hc3 hx3 hs3 hin hin2 hby hxl hbl
      obtain ⟨r, hr⟩ : ∃ r, xk.tmod 4 = r := ⟨_, rfl⟩
      have hr4 : r = 0 ∨ r = 1 ∨ r = 2 ∨ r = 3 := by
        rw [← hr, Int.tmod_eq_emod_of_nonneg hk0.1]
        omega
      go_upto_block 2 with (first
        | (at_builtin; rw [HW3.out]; go_loud (refine append_ints rfl _ _ 31 rfl (wr.heap.size + 1) 5 .u8 1 Try.underlying31 info22_u8 (.slice (some ⟨wr.heap.size + 1, 0, none⟩) 0 0) 0 [] rfl HX3.out xa xm xc w.heap.size xb rfl (HBy.out.hi.below (H.out.x.b.trans (HB3.out.mono H.out.x.b.size))) HBy.out.hn (by unfold maxLen; omega) (by omega) (by rw [HS3.out]; omega) ?_); intro v4 w4 ho hg4 hv4; replace ho := own_len22 ho; rw [List.nil_append] at ho; obtain ⟨a4, m4, c4, rfl, hm4⟩ := own_form_m ho; rw [HXm.out] at hm4; subst hm4; have hb4 := (Below.refl (wr.heap.size + 1) W3).grown hg4 (by rw [HS3.out]; omega) (fun j e => own_base HX3.out j e); have H4 := Lib.hid (H.out.x.own (HB3.out.trans (hb4.mono (by omega))) (B := wr.heap.size + 1) (by omega) ho); have HD4 := Lib.hid (HC3.out.keep (hb4.block _ (by omega))); obtain ⟨z0, z1, z2, z3⟩ := cel4 HD4.out; clear ho hg4 hv4 hb4)
        | fail)
      go_cut [] (fun wx => ∃ q9, RowKit.Hid (AcSt w g gm s (j + 1) q9 (.slice a4 m4 c4) xb wx))
      case first =>
        rcases hr4 with rfl | rfl | rfl | rfl
        · have kx := hr
          go_upto_region 16 with fail
          have HgA : RowKit.Hid (g < wr.heap.size ∧ gm < wr.heap.size) := by
            obtain ⟨ro, h1, h2, _⟩ := H.out.x.q
            exact Lib.hid ⟨h1.lt, h2.lt⟩
          have HSS : RowKit.Hid (∀ w' : World, Cel w' wr.heap.size 36 #[.int .u8 xk, .bool xw, .int .i64 xn, .slice xa m4 xc] → (fun w' => w'.cell? ⟨wr.heap.size, 1, none⟩ = some (.bool xw) ∧ w'.cell? ⟨wr.heap.size, 3, none⟩ = some (.slice xa m4 xc)) w') := Lib.hid fun w' hc => ⟨hc.cell 1, hc.cell 3⟩
          refine wp_region_held_drew (S := (fun w' => w'.cell? ⟨wr.heap.size, 1, none⟩ = some (.bool xw) ∧ w'.cell? ⟨wr.heap.size, 3, none⟩ = some (.slice xa m4 xc))) rfl (HSS.out _ (HD4.out.drewN 1)) (fun hS0 => ?_)
          refine wpAnyH_take (i := 0) (v := ?_) rfl (by kernel_rfl) (by kernel_rfl) (by kernel_rfl) (fun _ _ _ h => h) (Or.inl ⟨by rfl, ?_⟩) (by assumption) ?_
          rotate_left 1
          · intro wq hSw
            (try dsimp only at hSw)
            go_simp
            all_goals (with_reducible rfl)
          (try simp only [Act.put, List.setIfInBounds_toArray, List.set_cons_zero, List.set_cons_succ, List.getElem_toArray, List.getElem_cons_zero, List.getElem_cons_succ])
          refine wpAnyH_take (i := 1) (v := ?_) rfl (by kernel_rfl) (by kernel_rfl) (by kernel_rfl) (fun _ _ _ h => h) (Or.inl ⟨by rfl, ?_⟩) (by assumption) ?_
          rotate_left 1
          · intro wq hSw
            (try dsimp only at hSw)
            go_simp
            all_goals (with_reducible rfl)
          (try simp only [Act.put, List.setIfInBounds_toArray, List.set_cons_zero, List.set_cons_succ, List.getElem_toArray, List.getElem_cons_zero, List.getElem_cons_succ])
          refine wpAnyH_take (i := 2) (v := ?_) rfl (by kernel_rfl) (by kernel_rfl) (by kernel_rfl) (fun _ _ _ h => h) (Or.inl ⟨by rfl, ?_⟩) (by assumption) ?_
          rotate_left 1
          · intro wq hSw
            (try dsimp only at hSw)
            go_simp
            all_goals (with_reducible rfl)
          (try simp only [Act.put, List.setIfInBounds_toArray, List.set_cons_zero, List.set_cons_succ, List.getElem_toArray, List.getElem_cons_zero, List.getElem_cons_succ])
          refine wpAnyH_take (i := 3) (v := ?_) rfl (by kernel_rfl) (by kernel_rfl) (by kernel_rfl) (fun _ _ _ h => h) (Or.inl ⟨by rfl, ?_⟩) (by assumption) ?_
          rotate_left 1
          · intro wq hSw
            (try dsimp only at hSw)
            go_simp
            all_goals (with_reducible rfl)
          (try simp only [Act.put, List.setIfInBounds_toArray, List.set_cons_zero, List.set_cons_succ, List.getElem_toArray, List.getElem_cons_zero, List.getElem_cons_succ])
          refine wpAnyH_take (i := 5) (v := ?_) rfl (by kernel_rfl) (by kernel_rfl) (by kernel_rfl) (fun _ _ _ h => h) (Or.inl ⟨by rfl, ?_⟩) (by assumption) ?_
          rotate_left 1
          · intro wq hSw
            (try dsimp only at hSw)
            go_simp
            all_goals (with_reducible rfl)
          (try simp only [Act.put, List.setIfInBounds_toArray, List.set_cons_zero, List.set_cons_succ, List.getElem_toArray, List.getElem_cons_zero, List.getElem_cons_succ])
          refine wpAnyH_take (i := 6) (v := ?_) rfl (by kernel_rfl) (by kernel_rfl) (by kernel_rfl) (fun _ _ _ h => h) (Or.inl ⟨by rfl, ?_⟩) (by assumption) ?_
          rotate_left 1
          · intro wq hSw
            (try dsimp only at hSw)
            go_simp
            all_goals (with_reducible rfl)
          (try simp only [Act.put, List.setIfInBounds_toArray, List.set_cons_zero, List.set_cons_succ, List.getElem_toArray, List.getElem_cons_zero, List.getElem_cons_succ])
          refine wpAnyH_take (i := 7) (v := ?_) rfl (by kernel_rfl) (by kernel_rfl) (by kernel_rfl) (fun _ _ _ h => h) (Or.inl ⟨by rfl, ?_⟩) (by assumption) ?_
          rotate_left 1
          · intro wq hSw
            (try dsimp only at hSw)
            go_simp
            all_goals (with_reducible rfl)
          (try simp only [Act.put, List.setIfInBounds_toArray, List.set_cons_zero, List.set_cons_succ, List.getElem_toArray, List.getElem_cons_zero, List.getElem_cons_succ])
          refine wpAnyH_take (i := 8) (v := ?_) rfl (by kernel_rfl) (by kernel_rfl) (by kernel_rfl) (fun _ _ _ h => h) (Or.inl ⟨by rfl, ?_⟩) (by assumption) ?_
          rotate_left 1
          · intro wq hSw
            (try dsimp only at hSw)
            go_simp
            all_goals (with_reducible rfl)
          (try simp only [Act.put, List.setIfInBounds_toArray, List.set_cons_zero, List.set_cons_succ, List.getElem_toArray, List.getElem_cons_zero, List.getElem_cons_succ])
          refine wpAnyH_take (i := 9) (v := ?_) rfl (by kernel_rfl) (by kernel_rfl) (by kernel_rfl) (fun _ _ _ h => h) (Or.inl ⟨by rfl, ?_⟩) (by assumption) ?_
          rotate_left 1
          · intro wq hSw
            (try dsimp only at hSw)
            go_simp
            all_goals (with_reducible rfl)
          (try simp only [Act.put, List.setIfInBounds_toArray, List.set_cons_zero, List.set_cons_succ, List.getElem_toArray, List.getElem_cons_zero, List.getElem_cons_succ])
          refine wpAnyH_ready (rs := [4]) (by kernel_rfl) (by simp) ?_
          refine AllReadyH.cons rfl (fun K hK => ?_) AllReadyH.nil
          go_simp
          go_at_call 9
          go_loud (refine ((H4.out.below (Below.drewN' (Below.refl _ _) 1)).offerP (by have := HXm.out; omega) (by have := H.out.l; omega) xw).mono ?_)
          rintro e5 w5 ⟨rfl, h5, hk5⟩
          have H5 := Lib.hid h5
          have HD5 := Lib.hid ((HD4.out.drewN 1).keeps hk5 (by have := HgA.out; omega))
          refine hK.out _ _ (HSS.out _ HD5.out) (fun hS5 => ?_)
          clear hK K h5 hk5
          (try simp only [Act.put, List.setIfInBounds_toArray, List.set_cons_zero, List.set_cons_succ, List.getElem_toArray, List.getElem_cons_zero, List.getElem_cons_succ])
          refine wpAnyH_ready (rs := [10]) (by kernel_rfl) (by simp) ?_
          refine AllReadyH.cons rfl (fun K hK => ?_) AllReadyH.nil
          go_simp
          go_at_call 10
          go_loud (refine (H5.out.offerM HBy.out H.out.n (by have := H.out.l; omega) xw).mono ?_)
          rintro e6 w6 ⟨rfl, h6, hk6⟩
          have H9 := Lib.hid (H.out.offered h6 s2 (by have := HXm.out; omega))
          have HD6 := Lib.hid (HD5.out.keep (hk6 _ _ HD5.out.typ19 (by decide) (by decide)))
          refine hK.out _ _ (HSS.out _ HD6.out) (fun hS6 => ?_)
          clear hK K h6 hk6
          (try simp only [Act.put, List.setIfInBounds_toArray, List.set_cons_zero, List.set_cons_succ, List.getElem_toArray, List.getElem_cons_zero, List.getElem_cons_succ])
          refine wpAnyH_take (i := 11) (v := ?_) rfl (by kernel_rfl) (by kernel_rfl) (by kernel_rfl) (fun _ _ _ h => h) (Or.inl ⟨by rfl, ?_⟩) (by assumption) ?_
          rotate_left 1
          · intro wq hSw
            (try dsimp only at hSw)
            go_simp
            all_goals (with_reducible rfl)
          (try simp only [Act.put, List.setIfInBounds_toArray, List.set_cons_zero, List.set_cons_succ, List.getElem_toArray, List.getElem_cons_zero, List.getElem_cons_succ])
          refine wpAnyH_done (by kernel_rfl) ?_ _
          clear hS0 hS5 hS6 HSS HD5 HD6 HgA
          go_wp2
          go_meet
          exact ⟨_, H9.out⟩
        · have kx := hr
          go_upto_region 20 with (first
            | (go_at_call 11; refine (H4.out.sayP (by have := H.out.hl; have := HXm.out; omega)).mono ?_; rintro e5 w5 ⟨⟨x5, rfl⟩, h5, hk5⟩; have H5 := Lib.hid h5; have HD5 := Lib.hid (HD4.out.keeps hk5 (by obtain ⟨ro, h1, h2, _⟩ := H.out.x.q; have := h1.lt; omega)); clear h5 hk5)
            | fail)
          obtain ⟨z0', z1', z2', z3'⟩ := cel4 HD5.out
          obtain ⟨ah, ch, al, cl, y0, _, _, yf, yi, yn⟩ := H5.out.mcells
          have HYi := Lib.hid yi
          have HYn := Lib.hid yn
          have hNl := H.out.hl
          obtain ⟨N, hN⟩ : ∃ N, q.head.length = N := ⟨_, rfl⟩
          have HN := Lib.hid hN
          rw [hN] at y0 HYi hNl
          obtain ⟨W6, hW6⟩ : ∃ W6, (w5.alloc (.cells #[] 5)).drew = W6 := ⟨_, rfl⟩
          have HW6 := Lib.hid hW6
          have HB6 : RowKit.Hid (Below w5.heap.size w5 W6) := by rw [← hW6]; exact Lib.hid (Below.drewN' ((Below.refl _ w5).alloc (Nat.le_refl _) _) 1)
          have HX6 : RowKit.Hid (W6.ownsRow w5.heap.size 5 1 (.slice (some ⟨w5.heap.size, 0, none⟩) 0 0) 0 (([] : List Int).map (Value.int .u8))) := by
            rw [← hW6]
            exact Lib.hid (own_drewN (World.ownsRow_lit (base := w5.heap.size) (e := 5) (size := 1) w5 #[] 0 (Nat.le_refl _) (by decide) (by simp)) 1)
          have HBx : RowKit.Hid (∀ W, Below w5.heap.size w5 W → IntsAt W w.heap.size .u8 xa m4 xb ∧ W.cell? ⟨wr.heap.size, 3, none⟩ = some (.slice xa m4 xc) ∧ W.cell? ⟨gm, 0, none⟩ = some (.slice ah N ch) ∧ W.frozen? ⟨gm, 0, none⟩ = false) := Lib.hid fun W hb => ⟨HBy.out.hi.below (H5.out.b.trans (hb.mono H5.out.b.size)), (hb.cell (p := ⟨wr.heap.size, 3, none⟩) (cell_block z3')).trans z3', (hb.cell (p := ⟨gm, 0, none⟩) (cell_block y0)).trans y0, by
            obtain ⟨ro, _, hm0, _⟩ := (H5.out.below hb).q
            obtain ⟨_, _, _, _, _, hx⟩ := hm0.x
            exact hx.hc.frozen 0⟩
          have hgA := cell_block z3'
          have hgM := cell_block y0
          clear hW6 hN yi yn
          go_region_law (first
            | (rw [HW6.out]; refine append22_K (.tmp 76) (.tmp 80) 31 rfl w5.heap.size 5 .u8 1 Try.underlying31 info22_u8 (.slice (some ⟨w5.heap.size, 0, none⟩) 0 0) 0 [] rfl HX6.out ah N ch w5.heap.size q.head rfl (HYi.out.below HB6.out) HYn.out (by unfold maxLen; omega) (by omega) HB6.out.size ?_; intro v7 w7 ho hg7; replace ho := own_len22 ho; rw [List.nil_append] at ho; obtain ⟨a7, m7, c7, rfl, hm7⟩ := own_form_m ho; rw [HN.out] at hm7; subst hm7; have HO7 := Lib.hid ho; have HB7 := Lib.hid (HB6.out.grown hg7 HB6.out.size (fun j e => own_base HX6.out j e)); obtain ⟨_, u1, u2, u3⟩ := HBx.out _ HB7.out; clear ho hg7)
            | (refine append22_K (.tmp 81) (.tmp 83) 31 rfl w5.heap.size 5 .u8 1 Try.underlying31 info22_u8 (.slice a7 m7 c7) m7 q.head rfl (by have := HO7.out; rw [HN.out] at this; exact this) xa m4 xc w.heap.size xb rfl (HBx.out _ HB7.out).1 HBy.out.hn (by unfold maxLen; omega) (by omega) HB7.out.size ?_; intro v8 w8 ho hg8; replace ho := own_len22 ho; obtain ⟨a8, m8, c8, rfl, hm8⟩ := own_form_m ho; have HO8 := Lib.hid ho; have HM8 := Lib.hid hm8; have HB8 := Lib.hid (HB7.out.grown hg8 HB7.out.size (fun j e => own_base HO7.out j e)); obtain ⟨_, u4, u5, u6⟩ := HBx.out _ HB8.out; clear ho hg8 hm8)
            | fail)
          all_goals
            go_wp2
            go_meet
            exact ⟨_, H.out.said (H5.out.sayM HB8.out HO8.out HM8.out) (by have := HXm.out; omega)⟩
        · have kx := hr
          obtain ⟨z, hz⟩ : ∃ z, xn.tmod 150 = z := ⟨_, rfl⟩
          have hz2 : -150 < z ∧ z < 150 := by
            have h1 := Int.tmod_lt_of_pos xn (show (0 : Int) < 150 by decide)
            have h2 := Int.lt_tmod_of_pos xn (show (0 : Int) < 150 by decide)
            omega
          have hz3 : IntKind.i64.wrap z = z := IntWalk.i64_in _ (by omega)
          obtain ⟨O, hO⟩ : ∃ O, textOf (q.out z.toNat) = O := ⟨_, rfl⟩
          have HOt := Lib.hid hO
          clear hO
          go_upto_region 23 with fail
          go_region_law (first
            | (go_simp; go_at_call 12; go_loud (refine (((H4.out).below (Below.drewN' (Below.refl _ _) 1)).takeP (by have := H.out.s; omega) z (by omega)).mono ?_); rintro e5 w5 ⟨a5, m5, c5, rfl, h⟩; have H5 := Lib.hid h.out.2; have HR5 := Lib.hid h.out.1; have q5 := string_of_ints (P := Try.prog) (src := 31) (dst := 9) (e := 5) (c := c5) Try.underlying31 Try.underlying5 Try.underlying9 (own_ints_m h.out.1); rw [HOt.out] at q5; clear h)
            | (go_simp; go_at_call 13; go_loud (refine (H5.out.takeM (by have := H.out.s; omega) z (by omega)).mono ?_); rintro e6 w6 ⟨rfl, h6, hk6⟩; have H6 := Lib.hid h6; have q6 := string_of_ints (P := Try.prog) (src := 31) (dst := 9) (e := 5) (c := c5) Try.underlying31 Try.underlying5 Try.underlying9 (own_ints_m (own_keeps HR5.out hk6 fun k hk e => by obtain ⟨ro, _, hm0, _⟩ := H5.out.q; exact (own_typ19 HR5.out hk).1.ne hm0.typ (by decide) e)); rw [HOt.out] at q6 ⊢; clear h6 hk6)
            | fail)
          all_goals
            go_wp2
            go_meet
            exact ⟨_, H.out.taken _ H6.out⟩
        · have kx := hr
          go_wp2_with (first
            | (go_at_call 14; refine (H4.out.flushP (by have := H.out.l; omega)).mono ?_; rintro e w5 ⟨⟨x5, rfl⟩, h⟩; have H5 := Lib.hid h; clear h)
            | (go_at_call 15; refine (H5.out.flushM (by have := H.out.l; omega) (by have := H.out.n; omega)).mono ?_; rintro e w6 ⟨⟨x6, rfl⟩, h⟩; have H9 := Lib.hid (H.out.flushed h s2); clear h)
            | fail)
          go_meet
          exact ⟨_, H9.out⟩
      case rest =>
        obtain ⟨q9, H9⟩ := hcut
        clear H4 H HB3 HC3 HX3 HS3 HW3 HBy HXm HD4 z0 z1 z2 z3
        go_wp2
        go_loopw [102] (fun t wx => ∃ (k : Nat) (ys : List Int), k ≤ m4 ∧ t = .int .i64 k ∧ RowKit.Hid (AcSt w g gm s (j + 1) q9 (.slice a4 m4 c4) ys wx)) (fun t _ => m4 - (intOf t).toNat)
        case atStart => exact ⟨0, _, Nat.zero_le _, rfl, H9.out⟩
        case round =>
          obtain ⟨k, ys, hk, rfl, HY⟩ := hrel
          clear H9
          have hYs := HY.out.s
          have hYl := HY.out.hl
          by_cases hkl : k < m4
          · obtain ⟨r, x, rfl, d3, df⟩ := HY.out.x.cells hkl
            have HN : RowKit.Hid (∀ x : Int, ∃ ys, AcSt w g gm s (j + 1) q9 (.slice (some ⟨r, 0, none⟩) m4 c4) ys (wr.setCell ⟨r, k, none⟩ (.int .u8 x))) := Lib.hid fun x => (HY.out.x.spoil x).imp fun ys h => ⟨h.1, HY.out.s, HY.out.l, HY.out.n⟩
            have e5 : IntKind.i64.wrap ((k : Int) + 1) = (k : Int) + 1 := IntWalk.i64_in _ (by omega)
            clear HY
            go_wp2
            go_roundw
            case rel =>
              obtain ⟨zs, hz⟩ := HN.out _
              exact ⟨k + 1, zs, by omega, by go_num, hz⟩
            case measure => simp [intOf]; omega
          · obtain rfl : k = m4 := by omega
            have CW := Lib.hid (HY.out.x.waits (by omega))
            have CL : RowKit.Hid (∀ nq, Calls Try.prog 17 #[.pointer (some ⟨g, 0, none⟩)] (wr.drewN nq) fun e w' => e = .returned (.int .i64 q9.lost) ∧ w' = wr.drewN nq) := Lib.hid fun nq => (HY.out.x.below (Below.drewN' (Below.refl _ _) nq)).lost
            obtain ⟨ah, ch, al, cl, y0, y1, y4, _, _, _⟩ := HY.out.x.mcells
            have d9 : decide ((s : Int) < (q9.l.length : Int)) = false := by have := HY.out.n; simp; omega
            have HYb := Lib.hid (fun k => AcSt.below HY.out (Below.drewN' (Below.refl _ _) k))
            have hln : q9.l.length ≤ s := HY.out.n
            clear HY
            obtain ⟨L, hL⟩ : ∃ L, q9.l.length = L := ⟨_, rfl⟩
            obtain ⟨N, hN⟩ : ∃ N, q9.head.length = N := ⟨_, rfl⟩
            rw [hL] at hln y1 d9
            rw [hN] at y0
            rw [hL, hN] at CW
            clear hL hN hYl hYs
            go_wp2_with (go_at_call 16; refine CW.out.mono ?_; rintro e w7 ⟨rfl, k7, rfl⟩)
            have HY7 := Lib.hid (HYb.out k7)
            have CL7 : RowKit.Hid (∀ nq, Calls Try.prog 17 #[.pointer (some ⟨g, 0, none⟩)] ((wr.drewN k7).drewN nq) fun e w' => e = .returned (.int .i64 q9.lost) ∧ w' = (wr.drewN k7).drewN nq) := Lib.hid fun nq => (HY7.out.x.below (Below.drewN' (Below.refl _ _) nq)).lost
            obtain ⟨W7, hW7⟩ : ∃ W7, wr.drewN k7 = W7 := ⟨_, rfl⟩
            have x0 : W7.cell? ⟨gm, 0, none⟩ = some (.slice ah N ch) := by rw [← hW7]; exact y0
            have x1 : W7.cell? ⟨gm, 1, none⟩ = some (.slice al L cl) := by rw [← hW7]; exact y1
            have x4 : W7.cell? ⟨gm, 4, none⟩ = some (.int .i64 q9.lost) := by rw [← hW7]; exact y4
            rw [hW7] at HY7 CL7 ⊢
            clear y0 y1 y4 hW7 CW CL HYb
            have HD7 := Lib.hid (fun k => AcSt.below HY7.out (Below.drewN' (Below.refl _ _) k))
            go_quiet ((go_at_call 17; exact Calls.quiet_of_same (CL7.out _)))
            go_wp2
            go_roundw
            case rel => exact ⟨j + 1, _, _, _, by omega, by go_num, HD7.out _⟩
            case measure => simp [intOf]; omega
    · obtain rfl : j = len := by omega
      have HE : RowKit.Hid (AX22 w g gm s q q v xs wr ∧ q.size ≤ 100000) := Lib.hid ⟨H.out.x, by have := H.out.s; omega⟩
      obtain ⟨O, hO⟩ : ∃ O, textOf (q.out ((1048576 : Int).toNat)) = O := ⟨_, rfl⟩
      have HOt := Lib.hid hO
      clear hO H
      go_wp2_with fail
      go_region_law (first
        | (go_simp; go_at_call 12; go_loud (refine (((HE.out.1).below (Below.drewN' (Below.refl _ _) 1)).takeP HE.out.2 1048576 (by omega)).mono ?_); rintro e5 w5 ⟨a5, m5, c5, rfl, h⟩; have H5 := Lib.hid h.out.2; have HR5 := Lib.hid h.out.1; have q5 := string_of_ints (P := Try.prog) (src := 31) (dst := 9) (e := 5) (c := c5) Try.underlying31 Try.underlying5 Try.underlying9 (own_ints_m h.out.1); rw [HOt.out] at q5; clear h)
        | (go_simp; go_at_call 13; go_loud (refine (H5.out.takeM HE.out.2 1048576 (by omega)).mono ?_); rintro e6 w6 ⟨rfl, h6, hk6⟩; have H6 := Lib.hid h6; have q6 := string_of_ints (P := Try.prog) (src := 31) (dst := 9) (e := 5) (c := c5) Try.underlying31 Try.underlying5 Try.underlying9 (own_ints_m (own_keeps HR5.out hk6 fun k hk e => by obtain ⟨ro, _, hm0, _⟩ := H5.out.q; exact (own_typ19 HR5.out hk).1.ne hm0.typ (by decide) e)); rw [HOt.out] at q6 ⊢; clear h6 hk6)
        | fail)
      all_goals
        go_wp2
        go_ret
        exact ⟨rfl, H6.out.b⟩
end Go.Proofs.Ytnjnfocpjmmibaa
