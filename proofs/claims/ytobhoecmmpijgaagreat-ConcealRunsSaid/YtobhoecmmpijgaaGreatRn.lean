/- Plain facts, and what functions give, for the proofs of this seat: several texts in one, each with its own first remark. -/
import Derived.Test.YtobhoecmmpijgaaGreatRm
import Derived.Deep.RegionHeld3
import Derived.OwnWalk
import Derived.Test.YtobhoecmmpijgaaGreatRh
import Derived.Test.YtobhoecmmpijgaaGreatRi
import Derived.Test.YtobhoecmmpijgaaGreatRd

/- What the functions of package rangedec give: bits. -/
namespace Go.Proofs.YtobhoecmmpijgaaGreat
open Go.RowKit
set_option linter.unusedVariables false

def DrcBitsPost (base g : Nat) (v : Value) (b : List Int) (n : Int) (d : DecS) (w : World) (x : Ending) (w' : World) : Prop :=
  x = .returned (.tuple #[.int .u32 n, .int .i64 0]) ∧ DrcAt w' base g v b d ∧ Keeps (fun j => j = g) w w'

set_option maxHeartbeats 1000000 in
set_option maxRecDepth 100000 in
theorem drcBits_any (base g : Nat) (v : Value) (b : List Int) (d : DecS) (wide : Nat) (w : World) (hD : DrcAt w base g v b d) (hb : ∀ j, 0 ≤ byteF b j ∧ byteF b j ≤ 255) (hbl : b.length ≤ 1000000) (hi : d.i ≤ 4000000) (hG : GoodD d) (hw : wide ≤ 24) :
    Calls Tryz.prog 124 #[.pointer (some ⟨g, 0, none⟩), .int .i64 wide] w (DrcBitsPost base g v b (decBits b d 0 wide).1 (decBits b d 0 wide).2 w) := by
  have hd : decide ((wide : Int) < 0) = false := by simp <;> omega
  have hd2 : decide (24 < (wide : Int)) = false := by simp; omega
  have HBy := Lib.hid hb
  obtain ⟨R, hR⟩ : ∃ R, R = decBits b d 0 wide := ⟨_, rfl⟩
  rw [← hR]
  have H0 : RowKit.Hid (decBits b d 0 wide = R ∧ GoodD d ∧ DrcAt w base g v b d ∧ Keeps (fun j => j = g) w w ∧ (0 : Int) < P2 (wide - wide)) := ⟨hR.symm, hG, hD, Keeps.refl _ _, by rw [Nat.sub_self]; decide⟩
  clear hD hG hb hR
  go_enter Tryz.func124, Tryz.ntmps124
  go_wp2
  clear hd hd2
  go_loopw [1, 6, 7, 8] (fun q n _ _ wr => ∃ (k : Nat) (f : DecS) (m : Int), k ≤ wide ∧ q = .int .i64 k ∧ n = .int .u32 m ∧ 0 ≤ m ∧ f.i ≤ d.i + 3 * (wide - k) ∧ RowKit.Hid (decBits b f m k = R ∧ GoodD f ∧ DrcAt wr base g v b f ∧ Keeps (fun j => j = g) w wr ∧ m < P2 (wide - k))) (fun q _ _ _ _ => (intOf q).toNat)
  case atStart => exact ⟨wide, d, 0, by omega, rfl, rfl, by omega, by omega, H0.out⟩
  case round =>
    obtain ⟨k, f, m, hk, rfl, rfl, hm0, hfi, H⟩ := hrel
    clear H0
    obtain ⟨u1, u2, u3, u4, u5⟩ := H.out
    have HM := Lib.hid u3
    have HGf := Lib.hid u2
    by_cases hlt : 0 < k
    · by_cases hq12 : 12 < k
      · obtain ⟨lo, hlo⟩ : ∃ lo, k = lo + 12 := ⟨k - 12, by omega⟩
        subst hlo
        have hm1 : m ≤ 4095 := by
          have := P2_mono (a := wide - (lo + 12)) (b := 12) (by omega)
          rw [show P2 12 = 4096 by decide] at this
          omega
        obtain ⟨a0, a1, a2⟩ := decAt_bd HGf.out (show (1 : Int) ≤ 4096 by decide) (by decide)
        have HOk : RowKit.Hid (OkP (decAt f 4096) 1 4096) := ⟨by decide, by decide, by decide, a0, by omega⟩
        have HLow := Lib.hid a2
        have HE : RowKit.Hid (decBits b f m (lo + 12) = decBits b (decTake (byteF b) f (decAt f 4096) 1 4096) (m * 4096 + decAt f 4096) lo) := by
          have := decBits_high b f m hq12 (by omega)
          rw [Nat.add_sub_cancel] at this; exact this
        have HT := Lib.hid (decTake_good HBy.out HGf.out HOk.out HLow.out).1
        have HI := Lib.hid (decTake_i (byteF b) f (decAt f 4096) 1 4096)
        have hq5 := u5
        clear a2 u1 u2 u3 u4 u5
        have HP : RowKit.Hid (m * 4096 + decAt f 4096 < P2 (wide - lo)) := by
          show _ < _
          rw [show wide - lo = (wide - (lo + 12)) + 12 by omega, P2_add, show P2 12 = 4096 by decide]; omega
        have HTk : RowKit.Hid (∀ w2, DrcAt w2 base g v b f → Calls Tryz.prog 157 #[.pointer (some ⟨g, 0, none⟩), .agg #[.int .u32 (decAt f 4096), .int .u32 1, .int .u32 4096]] w2 (DrcPost base g v b (decTake (byteF b) f (decAt f 4096) 1 4096) w2)) :=
          fun w2 h2 => drcTake_any base g v b f _ 1 4096 w2 h2 HBy.out hbl (by omega) HGf.out HOk.out HLow.out
        have HLi : RowKit.Hid (∀ w2, DrcAt w2 base g v b f → Calls Tryz.prog 156 #[.pointer (some ⟨g, 0, none⟩), .int .u32 4096] w2 fun x w' => x = .returned (.int .u32 (decAt f 4096)) ∧ w2 = w') :=
          fun w2 h2 => drcLies_any base g v b f 4096 w2 h2 HGf.out (by decide) (by decide)
        generalize decTake (byteF b) f (decAt f 4096) 1 4096 = f2 at HE HT HI HTk
        generalize decAt f 4096 = x at a0 a1 HE HI HP HTk HLi HOk HLow
        have hor : bits .or .u32 (m * 4096) x = m * 4096 + x := u32_or_low (k := 12) hm0 a0 (show x < 4096 by omega) (show m * 4096 + 4096 ≤ 4294967296 by omega)
        have f1 : IntKind.u32.wrap (m * 4096) = m * 4096 := IntWalk.u32_in _ (by omega)
        have f2_ : IntKind.u32.wrap 4096 = 4096 := by decide
        clear HOk HLow
        go_wp2_with (first
          | (go_at_call 156; go_loud (with_reducible refine (HLi.out _ HM.out).mono ?_); rintro e2 w2 ⟨rfl, rfl⟩)
          | (go_at_call 157; go_loud (with_reducible refine (HTk.out _ HM.out).mono ?_); rintro e5 w5 ⟨rfl, hm, hk⟩; have HM5 := Lib.hid hm; have HK5 := Lib.hid hk; clear hm hk))
        go_roundw
        case rel => exact ⟨lo, f2, m * 4096 + x, by omega, rfl, rfl, by omega, by have := HI.out; omega, HE.out.symm.trans H.out.1, HT.out, HM5.out, H.out.2.2.2.1.trans HK5.out, HP.out⟩
        case measure => simp [intOf] <;> omega
      · have pk := P2_pos k
        have qk := P2_mono (a := k) (b := 12) (by omega)
        rw [show P2 12 = 4096 by decide] at qk
        have hm1 : m * P2 k + P2 k ≤ 16777216 := by
          have h1 : (m + 1) * P2 k ≤ P2 (wide - k) * P2 k := Int.mul_le_mul_of_nonneg_right (by omega) (by omega)
          rw [← P2_add, show wide - k + k = wide by omega, Int.add_mul, Int.one_mul] at h1
          have := P2_mono (a := wide) (b := 24) hw
          rw [show P2 24 = 16777216 by decide] at this
          omega
        have hm2 : 0 ≤ m * P2 k := Int.mul_nonneg hm0 (by omega)
        obtain ⟨a0, a1, a2⟩ := decAt_bd HGf.out (show 1 ≤ P2 k by omega) (show P2 k ≤ 8192 by omega)
        have HOk : RowKit.Hid (OkP (decAt f (P2 k)) 1 (P2 k)) := ⟨by omega, by omega, by decide, a0, by omega⟩
        have HLow := Lib.hid a2
        have HE : RowKit.Hid (decBits b f m k = (m * P2 k + decAt f (P2 k), decTake (byteF b) f (decAt f (P2 k)) 1 (P2 k))) := decBits_low b f m hlt (by omega)
        have HT := Lib.hid (decTake_good HBy.out HGf.out HOk.out HLow.out).1
        have HI := Lib.hid (decTake_i (byteF b) f (decAt f (P2 k)) 1 (P2 k))
        have hq5 := u5
        clear a2 u1 u2 u3 u4 u5
        have HP : RowKit.Hid (m * P2 k + decAt f (P2 k) < P2 wide) := by
          show _ < _
          have h1 : (m + 1) * P2 k ≤ P2 (wide - k) * P2 k := Int.mul_le_mul_of_nonneg_right (by omega) (by omega)
          rw [← P2_add, show wide - k + k = wide by omega, Int.add_mul, Int.one_mul] at h1
          omega
        have HTk : RowKit.Hid (∀ w2, DrcAt w2 base g v b f → Calls Tryz.prog 157 #[.pointer (some ⟨g, 0, none⟩), .agg #[.int .u32 (decAt f (P2 k)), .int .u32 1, .int .u32 (P2 k)]] w2 (DrcPost base g v b (decTake (byteF b) f (decAt f (P2 k)) 1 (P2 k)) w2)) :=
          fun w2 h2 => drcTake_any base g v b f _ 1 _ w2 h2 HBy.out hbl (by omega) HGf.out HOk.out HLow.out
        have HLi : RowKit.Hid (∀ w2, DrcAt w2 base g v b f → Calls Tryz.prog 156 #[.pointer (some ⟨g, 0, none⟩), .int .u32 (P2 k)] w2 fun x w' => x = .returned (.int .u32 (decAt f (P2 k))) ∧ w2 = w') :=
          fun w2 h2 => drcLies_any base g v b f _ w2 h2 HGf.out (by omega) (by omega)
        generalize decTake (byteF b) f (decAt f (P2 k)) 1 (P2 k) = f2 at HE HT HI HTk
        generalize decAt f (P2 k) = x at a0 a1 HE HI HP HTk HLi HOk HLow
        have hor : bits .or .u32 (m * P2 k) x = m * P2 k + x := u32_or_low hm0 a0 a1 (by omega)
        have hpq : IntKind.u32.wrap (2 ^ k) = P2 k := IntWalk.u32_in _ (by rw [pow_P2]; omega)
        have hpm : IntKind.u32.wrap (m * 2 ^ k) = m * P2 k := IntWalk.u32_in _ (by rw [pow_P2]; omega)
        have hmin : min (k : Int) 12 = k := by omega
        clear HOk HLow
        go_wp2_with (first
          | (go_at_call 156; go_loud (with_reducible refine (HLi.out _ HM.out).mono ?_); rintro e2 w2 ⟨rfl, rfl⟩)
          | (go_at_call 157; go_loud (with_reducible refine (HTk.out _ HM.out).mono ?_); rintro e5 w5 ⟨rfl, hm, hk⟩; have HM5 := Lib.hid hm; have HK5 := Lib.hid hk; clear hm hk))
        go_roundw
        case rel => exact ⟨0, f2, m * P2 k + x, by omega, rfl, rfl, by omega, by have := HI.out; omega, by rw [decBits_zero]; exact HE.out.symm.trans H.out.1, HT.out, HM5.out, H.out.2.2.2.1.trans HK5.out, HP.out⟩
        case measure => simp [intOf] <;> omega
    · obtain rfl : k = 0 := by omega
      go_wp2
      rw [decBits_zero] at u1
      subst u1
      exact bodyPost_ret (v := .tuple #[.int .u32 m, .int .i64 0]) (by simp [results, Tryz.results124, go_sem]) rfl ⟨rfl, u3, u4⟩
end Go.Proofs.YtobhoecmmpijgaaGreat

/- What the functions of package rangeenc give: symbols that there aren't, the bytes. -/
namespace Go.Proofs.YtobhoecmmpijgaaGreat
open Go.RowKit
set_option linter.unusedVariables false

theorem make_empty {P : Program} {t e : TypeId} {k : IntKind} {b : Nat} (ht : P.underlying t = some (.slice e)) (hi : (P.info? e).map (fun i => (i.zero, i.size, i.bytes)) = some (some (.int k 0), 1, b))
    (n : Int) (c : Nat) (hn0 : n = c) (hb : b * c ≤ 281474976710656) (hn : c ≤ 9223372036854775807) (w : World) :
    (Instr.makeSlice t (.int .i64 0) (.int .i64 n)).run P w = .ok (.slice (some ⟨w.heap.size, 0, none⟩) 0 c) (w.alloc (.cells (madeCells #[.int k 0] c) e)) := by
  subst hn0
  obtain ⟨i, h1, h2, h3, h4⟩ := info_parts hi
  have hb' : (i.bytes : Int) * (c : Int) ≤ 281474976710656 := by
    have h : ((i.bytes * c : Nat) : Int) ≤ 281474976710656 := by rw [h4]; omega
    rwa [Int.natCast_mul] at h
  have hr := run_make (P := P) w t e i (.int k 0) ht h1 h2 .i64 .i64 0 c (by omega) (by omega) hb' (by omega)
  rw [hr, h3]
  simp [Value.cells]
theorem own_none {w : World} {base e n c : Nat} {a : Option Addr} {xs : List Value} (h : w.ownsRow base e 1 (.slice a n c) n xs) : a = none → c = 0 := by
  rintro rfl
  rcases h.2 with ⟨h1, _⟩ | ⟨g, cap, cur, h1, _⟩
  · injection h1
  · injection h1 with h1; cases h1
end Go.Proofs.YtobhoecmmpijgaaGreat

/- The walks of the statements of layer 7: the example, no decoder. -/
namespace Go.Proofs.YtobhoecmmpijgaaGreat
open Go.RowKit
set_option linter.unusedVariables false

theorem byteF_bd {b : List Int} (h : IsDig b) (j : Nat) : 0 ≤ byteF b j ∧ byteF b j ≤ 255 := by
  unfold byteF
  by_cases hj : j < b.length
  · exact h j hj
  · rw [List.getD, List.getElem?_eq_none (by omega)]; decide
theorem goodD_new {b : List Int} (h : IsDig b) : GoodD (decNew (byteF b)) := by
  have a := valB_nonneg (fun j => (byteF_bd h j).1) 4
  have b0 := byteF_bd h 0
  have b1 := byteF_bd h 1
  have b2 := byteF_bd h 2
  have b3 := byteF_bd h 3
  refine ⟨by show (16777216 : Int) ≤ 4294967295; decide, by show (4294967295 : Int) ≤ 4294967295; decide, a, ?_⟩
  show (((0 * 256 + byteF b 0) * 256 + byteF b 1) * 256 + byteF b 2) * 256 + byteF b 3 ≤ 4294967295
  omega
end Go.Proofs.YtobhoecmmpijgaaGreat

/- The walk of RangedecReads: what is held of memory on the way. -/
namespace Go.Proofs.YtobhoecmmpijgaaGreat
open Go.RowKit
set_option linter.unusedVariables false

/-! ### Whatever is read, the state is a good one -/
/-! ### The objects -/
structure Obj7 where
  mg : Nat
  xg : Nat
  xr : Nat
  g : Nat
  gf : Nat
  bx : Nat
  bd : Nat
  bf : Nat
  n : Nat
/-- What is held of memory on the way. -/
structure St7 (w0 : World) (o : Obj7) (b : List Int) (v vf : Value) (w : World) (L1 L2 : List Int) (D1 D2 : DecS) : Prop where
  m : ModAt w o.mg L1 false
  x : RefMod w o.bx o.xg o.xr L2 false
  e : DrcAt w o.bd o.g v b D1
  q : DecMem w o.bf o.gf vf b D2
  gm : GoodL L1
  gx : GoodL L2
  ge : GoodD D1
  gq : GoodD D2
  lm : L1.length = o.n
  b : Below w0.heap.size w0 w
  d : w0.heap.size ≤ o.mg ∧ o.mg < o.bx ∧ o.xg < o.bd ∧ o.xr < o.bd ∧ o.g < o.bf
  ov : ∀ k, v.ownBlock = some k → k < o.bf
section
variable {w0 w w' : World} {o : Obj7} {b : List Int} {v vf : Value} {L1 L2 : List Int} {D1 D2 : DecS}
theorem St7.below (h : St7 w0 o b v vf w L1 L2 D1 D2) (hb : Below w.heap.size w w') : St7 w0 o b v vf w' L1 L2 D1 D2 :=
  ⟨h.m.below hb, h.x.below hb, h.e.below hb, h.q.below hb, h.gm, h.gx, h.ge, h.gq, h.lm, h.b.trans (hb.mono h.b.size), h.d, h.ov⟩
theorem St7.drewN (h : St7 w0 o b v vf w L1 L2 D1 D2) (n : Nat) : St7 w0 o b v vf (w.drewN n) L1 L2 D1 D2 := h.below (Below.drewN' (Below.refl _ _) n)
theorem St7.nums (h : St7 w0 o b v vf w L1 L2 D1 D2) : w0.heap.size ≤ o.mg ∧ o.mg < o.bx ∧ o.bx ≤ o.xg ∧ o.bx ≤ o.xr ∧ o.xg < o.bd ∧ o.xr < o.bd ∧ o.bd ≤ o.g ∧ o.g < o.bf ∧ o.bf ≤ o.gf := by
  have a := h.d
  have b := h.x.lt
  have d := h.e.lt
  have e := h.q.2.2
  omega
theorem St7.ownv (h : St7 w0 o b v vf w L1 L2 D1 D2) (j : Nat) (hj : v.ownBlock = some j) : o.bd ≤ j ∧ j < o.bf ∧ j ≠ o.g := by
  have a := h.e.own j hj
  exact ⟨a.2.1, h.ov j hj, a.2.2⟩
theorem St7.ownf (h : St7 w0 o b v vf w L1 L2 D1 D2) (j : Nat) (hj : vf.ownBlock = some j) : o.bf ≤ j ∧ j ≠ o.gf := ⟨own_base h.q.2.1 j hj, h.q.ne j hj⟩
theorem St7.prog {L1' : List Int} {D1' : DecS} (h : St7 w0 o b v vf w L1 L2 D1 D2) (hk : Keeps (fun j => j = o.g ∨ j = o.mg) w w') (he : DrcAt w' o.bd o.g v b D1') (hm : ModAt w' o.mg L1' false) (g1 : GoodL L1') (g2 : GoodD D1') (l1 : L1'.length = o.n) :
    St7 w0 o b v vf w' L1' L2 D1' D2 := by
  have n := h.nums
  exact ⟨hm, h.x.keeps hk (by omega) (by omega), he, h.q.keeps hk (by omega) (fun k hk => by have := h.ownf k hk; omega), g1, h.gx, g2, h.gq, l1, h.b.trans (hk.below h.b.size (by omega)), h.d, h.ov⟩
theorem St7.row (h : St7 w0 o b v vf w L1 L2 D1 D2) {r : Nat} (hk : Keeps (fun j => j = r) w w') (h0 : w0.heap.size ≤ r) (h1 : r ≠ o.mg) (h2 : r ≠ o.xg) (h3 : r ≠ o.xr) (h4 : r < o.bd) : St7 w0 o b v vf w' L1 L2 D1 D2 := by
  have n := h.nums
  exact ⟨h.m.keeps hk (by omega), h.x.keeps hk (by omega) (by omega), h.e.keeps hk (by omega) (fun k hk => by have := h.ownv k hk; omega), h.q.keeps hk (by omega) (fun k hk => by have := h.ownf k hk; omega), h.gm, h.gx, h.ge, h.gq, h.lm, h.b.trans (hk.below h.b.size (by omega)), h.d, h.ov⟩
end

/-! ### What the frame of a statement says of a slice of numbers that came in -/
end Go.Proofs.YtobhoecmmpijgaaGreat

/- Plain facts for RangedecAgain: what is put, symbol by symbol, and that it comes back. Nothing here speaks of the program. -/
namespace Go.Proofs.YtobhoecmmpijgaaGreat
open Go
set_option linter.unusedVariables false

/-! ### What comes back -/
theorem digOf_only {F : EncS} (hG : GoodE F) : DigOf (byteF (bytesL (digL F.n (F.k + 4)))) F := by
  refine digOf_bytes hG fun j hj => ?_
  rw [bytesL_get]; unfold byteF; exact digL_getD F.n hj
theorem bytesL_le (F : EncS) : (bytesL (digL F.n (F.k + 4))).length ≤ F.k + 4 := by
  have := lastK_bd (digL F.n (F.k + 4)) (digL F.n (F.k + 4)).length
  have hl := digL_len F.n (F.k + 4)
  rw [bytesL_len]; omega
theorem bytesL_dig (F : EncS) : IsDig (bytesL (digL F.n (F.k + 4))) := by
  intro j hj
  have e := bytesL_get (digL F.n (F.k + 4)) j
  have hl := bytesL_le F
  unfold byteF at e
  rw [e, digL_getD F.n (by omega)]
  exact digB_bd _ _ _

end Go.Proofs.YtobhoecmmpijgaaGreat

/- Plain facts of layer 10: how ceilings are put and got. Nothing here speaks of the program. -/
namespace Go.Proofs.YtobhoecmmpijgaaGreat
open Go Go.RowKit
set_option linter.unusedVariables false

/-! ### The model of differences -/
def difL : List Int := [3000, 1500, 500, 10, 10, 10, 10, 10, 10, 10, 10, 10, 10, 10, 10, 10, 10, 10, 10, 10, 10, 10, 10, 10, 10, 10, 10, 10, 10, 10, 500, 1500]
theorem difL_good : GoodL difL := by unfold GoodL; decide
theorem difL_len : difL.length = 32 := rfl
theorem difL_bd : ∀ j, j < 32 → 0 ≤ difL.getD j 0 ∧ difL.getD j 0 ≤ 4294967295 := by decide
theorem difL_one : ∀ j, j < 32 → 1 ≤ difL.getD j 0 := by decide
theorem difL_sum : sumN difL 32 = 7270 := by decide

/-! ### Putting -/
/-- One ceiling put: by itself (q), or by the one ahead. -/
def putW (q : Bool) (e : EncS) (a d : Int) : EncS := if q then encBits e a 5 else encSym e difL ((a - d) % 32).toNat
theorem putW_alone (e : EncS) (a d : Int) : putW true e a d = encBits e a 5 := if_pos rfl
theorem putW_diff (e : EncS) (a d : Int) : putW false e a d = encSym e difL ((a - d) % 32).toNat := if_neg (by decide)
def putN (q : Bool) (e : EncS) (f d : Nat → Int) : Nat → EncS
  | 0 => e
  | n + 1 => putW q (putN q e f d n) (f n) (d n)
theorem putN_succ (q : Bool) (e : EncS) (f d : Nat → Int) (n : Nat) : putN q e f d (n + 1) = putW q (putN q e f d n) (f n) (d n) := rfl
theorem dif_lt (x : Int) : (x % 32).toNat < difL.length := by rw [difL_len]; omega
theorem putW_good {q : Bool} {e : EncS} {a d : Int} (h : GoodE e) : GoodE (putW q e a d) ∧ (putW q e a d).k ≤ e.k + 4 ∧ Inside e (putW q e a d) := by
  cases q with
  | true =>
    rw [putW_alone]
    exact ⟨encBits_good (n := a) (wide := 5) h (by decide), encBits_k e a (wide := 5) (by decide), encBits_inside (n := a) (wide := 5) h (by decide)⟩
  | false =>
    rw [putW_diff]
    have := encSym_k e difL ((a - d) % 32).toNat
    exact ⟨encSym_good h difL_good (dif_lt _), by omega, encSym_inside h difL_good (dif_lt _)⟩
theorem putN_good {q : Bool} {e : EncS} {f d : Nat → Int} (h : GoodE e) : ∀ n, GoodE (putN q e f d n) ∧ (putN q e f d n).k ≤ e.k + 4 * n ∧ Inside e (putN q e f d n) := by
  intro n
  induction n with
  | zero => exact ⟨h, Nat.le_refl _, Inside.refl e⟩
  | succ n ih =>
    obtain ⟨h1, h2, h3⟩ := ih
    obtain ⟨g1, g2, g3⟩ := putW_good (q := q) (a := f n) (d := d n) h1
    rw [putN_succ]
    exact ⟨g1, by omega, h3.trans g3⟩
theorem putN_inside {q : Bool} {e : EncS} {f d : Nat → Int} (h : GoodE e) (j n : Nat) : Inside (putN q e f d j) (putN q e f d (j + n)) := by
  induction n with
  | zero => exact Inside.refl _
  | succ n ih => exact ih.trans (putW_good (putN_good h (j + n)).1).2.2
/-! ### Getting -/
def getW (q : Bool) (b : List Int) (D : DecS) (d : Int) : Int × DecS := if q then decBits b D 0 5 else ((d + decWhich D difL) % 32, decSym b D difL)
theorem getW_alone (b : List Int) (D : DecS) (d : Int) : getW true b D d = decBits b D 0 5 := if_pos rfl
theorem getW_diff (b : List Int) (D : DecS) (d : Int) : getW false b D d = ((d + decWhich D difL) % 32, decSym b D difL) := if_neg (by decide)
def getN (q : Bool) (b : List Int) (D : DecS) (d : Nat → Int) : Nat → DecS
  | 0 => D
  | n + 1 => (getW q b (getN q b D d n) (d n)).2
theorem getN_succ (q : Bool) (b : List Int) (D : DecS) (d : Nat → Int) (n : Nat) : getN q b D d (n + 1) = (getW q b (getN q b D d n) (d n)).2 := rfl
/-- What is got. -/
def getV (q : Bool) (b : List Int) (D : DecS) (d : Nat → Int) (n : Nat) : Int := (getW q b (getN q b D d n) (d n)).1
theorem decBits5 (b : List Int) (D : DecS) : decBits b D 0 5 = (decAt D 32, decTake (byteF b) D (decAt D 32) 1 32) := by
  rw [decBits_low b D 0 (by decide) (by decide), show P2 5 = 32 by decide]; simp
theorem getW_good {q : Bool} {b : List Int} {D : DecS} {d : Int} (hb : ∀ j, 0 ≤ byteF b j ∧ byteF b j ≤ 255) (h : GoodD D) : GoodD (getW q b D d).2 ∧ (getW q b D d).2.i ≤ D.i + 2 ∧ 0 ≤ (getW q b D d).1 ∧ (getW q b D d).1 ≤ 31 := by
  cases q with
  | true =>
    rw [getW_alone, decBits5]
    obtain ⟨a1, a2, a3⟩ := decAt_bd (all := 32) h (by decide) (by decide)
    exact ⟨(decTake_good hb h ⟨by decide, by decide, by decide, a1, by omega⟩ a3).1, decTake_i _ _ _ _ _, a1, by show decAt D 32 ≤ 31; omega⟩
  | false =>
    rw [getW_diff]
    obtain ⟨a1, a2, a3, a4⟩ := decWhich_is h difL_good
    exact ⟨(decTake_good hb h (okP_sym difL_good a1) a2).1, decTake_i _ _ _ _ _, by show 0 ≤ (d + decWhich D difL) % 32; omega, by show (d + decWhich D difL) % 32 ≤ 31; omega⟩
theorem getN_good {q : Bool} {b : List Int} {D : DecS} {d : Nat → Int} (hb : ∀ j, 0 ≤ byteF b j ∧ byteF b j ≤ 255) (h : GoodD D) : ∀ n, GoodD (getN q b D d n) ∧ (getN q b D d n).i ≤ D.i + 2 * n := by
  intro n
  induction n with
  | zero => exact ⟨h, Nat.le_refl _⟩
  | succ n ih =>
    obtain ⟨g1, g2, _⟩ := getW_good (q := q) (d := d n) hb ih.1
    rw [getN_succ]
    exact ⟨g1, by omega⟩
theorem getV_bd {q : Bool} {b : List Int} {D : DecS} {d : Nat → Int} (hb : ∀ j, 0 ≤ byteF b j ∧ byteF b j ≤ 255) (h : GoodD D) (n : Nat) : 0 ≤ getV q b D d n ∧ getV q b D d n ≤ 31 := (getW_good hb (getN_good hb h n).1).2.2
/-! ### What is put is got -/
theorem one_back {q : Bool} {b : List Int} {e F : EncS} {D : DecS} {a d : Int} (hs : Sync (byteF b) e D) (hg : GoodE e) (a0 : 0 ≤ a) (a1 : a ≤ 31) (hi : Inside (putW q e a d) F) (hf : 1 ≤ F.s) (hd : DigOf (byteF b) F) :
    (getW q b D d).1 = a ∧ Sync (byteF b) (putW q e a d) (getW q b D d).2 := by
  cases q with
  | true =>
    rw [putW_alone] at hi ⊢
    rw [getW_alone]
    exact bits_back (wide := 5) hs hg (by decide) a0 (by rw [show P2 5 = 32 by decide]; omega) hi hf hd
  | false =>
    rw [putW_diff] at hi ⊢
    rw [getW_diff]
    obtain ⟨h1, h2⟩ := sym_back hs hg difL_good (dif_lt (a - d)) hi hf hd
    refine ⟨?_, h2⟩
    simp only
    rw [h1]; omega
theorem put_back {q : Bool} {b : List Int} {e F : EncS} {D : DecS} {f d : Nat → Int} {n : Nat} (hs : Sync (byteF b) e D) (hg : GoodE e) (hb : ∀ j, j < n → 0 ≤ f j ∧ f j ≤ 31) (hi : Inside (putN q e f d n) F) (hf : 1 ≤ F.s) (hd : DigOf (byteF b) F) :
    ∀ j, j ≤ n → Sync (byteF b) (putN q e f d j) (getN q b D d j) ∧ ∀ i, i < j → getV q b D d i = f i := by
  intro j
  induction j with
  | zero => intro _; exact ⟨hs, fun i hi => by omega⟩
  | succ j ih =>
    intro hj
    obtain ⟨h1, h2⟩ := ih (by omega)
    have hin := putN_inside (q := q) (f := f) (d := d) hg (j + 1) (n - (j + 1))
    rw [show j + 1 + (n - (j + 1)) = n by omega, putN_succ] at hin
    obtain ⟨h3, h4⟩ := one_back h1 (putN_good hg j).1 (hb j (by omega)).1 (hb j (by omega)).2 (hin.trans hi) hf hd
    refine ⟨by rw [putN_succ, getN_succ]; exact h4, fun i hi => ?_⟩
    by_cases e : i = j
    · rw [e]; exact h3
    · exact h2 i (by omega)
end Go.Proofs.YtobhoecmmpijgaaGreat

/- Plain facts of layer 11: thresholds, steps, which bands are told, how far lines may be. Nothing here speaks of the program. -/
namespace Go.Proofs.YtobhoecmmpijgaaGreat
open Go Go.RowKit
set_option linter.unusedVariables false

/-! ### Thresholds -/
/-- How many bits band j masks less in band b than in itself. -/
def fadeF (j b : Nat) : Int := if j < b then 2 * ((b : Int) - j) else 3 * ((j : Int) - b)
theorem fadeF_same (b : Nat) : fadeF b b = 0 := by unfold fadeF; rw [if_neg (by omega)]; omega
theorem fadeF_below {j b : Nat} (h : j < b) : fadeF j b = 2 * ((b : Int) - j) := if_pos h
theorem fadeF_above {j b : Nat} (h : ¬ j < b) : fadeF j b = 3 * ((j : Int) - b) := if_neg h
theorem fadeF_bd {j b : Nat} (hj : j < 21) (hb : b < 21) : 0 ≤ fadeF j b ∧ fadeF j b ≤ 60 := by unfold fadeF; split <;> omega
/-- The greatest of nought and what the first n bands mask in band b. -/
def thrTo (l : Nat → Int) (b : Nat) : Nat → Int
  | 0 => 0
  | n + 1 => max (thrTo l b n) (l n - fadeF n b)
theorem thrTo_succ (l : Nat → Int) (b n : Nat) : thrTo l b (n + 1) = max (thrTo l b n) (l n - fadeF n b) := rfl
theorem thrTo_bd {l : Nat → Int} {b : Nat} (hb : b < 21) : ∀ n, n ≤ 21 → (∀ j, j < n → 0 ≤ l j ∧ l j ≤ 26) → 0 ≤ thrTo l b n ∧ thrTo l b n ≤ 26 := by
  intro n
  induction n with
  | zero => intro _ _; exact ⟨Int.le_refl 0, by show (0 : Int) ≤ 26; decide⟩
  | succ n ih =>
    intro hn h
    have h1 := ih (by omega) fun j hj => h j (by omega)
    have h2 := h n (by omega)
    have h3 := fadeF_bd (j := n) (by omega) hb
    rw [thrTo_succ]; omega
theorem thrTo_ge {l : Nat → Int} {b : Nat} : ∀ n j, j < n → l j - fadeF j b ≤ thrTo l b n := by
  intro n
  induction n with
  | zero => intro j hj; omega
  | succ n ih =>
    intro j hj
    rw [thrTo_succ]
    by_cases e : j = n
    · subst e; omega
    · have := ih j (by omega); omega
theorem thrTo_own {l : Nat → Int} {b : Nat} (hb : b < 21) : l b ≤ thrTo l b 21 := by
  have := thrTo_ge (l := l) (b := b) 21 b hb
  rw [fadeF_same] at this; omega
/-! ### Steps -/
/-- A band's step. -/
def stepF (l : Nat → Int) (q x : Int) (b : Nat) : Int := min (max (max (thrTo l b 21 - q + x) (l b - 12)) 0) (l b)
theorem stepF_bd {l : Nat → Int} (q x : Int) {b : Nat} (h : 0 ≤ l b) : 0 ≤ stepF l q x b ∧ stepF l q x b ≤ l b ∧ l b - 12 ≤ stepF l q x b := by unfold stepF; omega
theorem stepF_worst {l : Nat → Int} {q : Int} {b : Nat} (h : 0 ≤ l b) (hb : b < 21) (hq : q ≤ 10) : stepF l q 31 b = l b := by
  have := thrTo_own (l := l) hb
  unfold stepF; omega
/-! ### How far lines may be -/
/-- How far one line may be. -/
def oneF (n s : Int) : Int := if s < n then 2 ^ s.toNat else 2 ^ (n.toNat + 1)
theorem oneF_told {n s : Int} (h : s < n) : oneF n s = 2 ^ s.toNat := if_pos h
theorem oneF_not {n s : Int} (h : ¬ s < n) : oneF n s = 2 ^ (n.toNat + 1) := if_neg h
theorem pow_bd27 {k : Nat} (h : k ≤ 27) : (1 : Int) ≤ 2 ^ k ∧ (2 : Int) ^ k ≤ 134217728 := by
  constructor
  · exact Int.le_of_lt_add_one (by have := Int.pow_pos (n := 2) (m := k) (by decide); omega)
  · have h1 : (2 : Nat) ^ k ≤ 2 ^ 27 := Nat.pow_le_pow_right (by decide) h
    have h2 : ((2 ^ k : Nat) : Int) = (2 : Int) ^ k := by rw [Int.natCast_pow]; rfl
    have h3 : (2 : Nat) ^ 27 = 134217728 := by decide
    omega
theorem oneF_bd {n s : Int} (hn : n ≤ 26) (hs : s ≤ 26) : 1 ≤ oneF n s ∧ oneF n s ≤ 134217728 := by
  unfold oneF; split
  · exact pow_bd27 (by omega)
  · exact pow_bd27 (by omega)
/-- The first n bands' lines. -/
def reachTo (l s : Nat → Int) : Nat → Int
  | 0 => 0
  | n + 1 => reachTo l s n + ((edgeK (n + 1) : Int) - edgeK n) * oneF (l n) (s n)
theorem reachTo_succ (l s : Nat → Int) (n : Nat) : reachTo l s (n + 1) = reachTo l s n + ((edgeK (n + 1) : Int) - edgeK n) * oneF (l n) (s n) := rfl
theorem reachTo_bd {l s : Nat → Int} : ∀ n, n ≤ 21 → (∀ j, j < n → l j ≤ 26 ∧ s j ≤ 26) → 0 ≤ reachTo l s n ∧ reachTo l s n ≤ 68719476736 * n := by
  intro n
  induction n with
  | zero => intro _ _; exact ⟨Int.le_refl 0, by show (0 : Int) ≤ _; decide⟩
  | succ n ih =>
    intro hn h
    have h1 := ih (by omega) fun j hj => h j (by omega)
    have h2 := h n (by omega)
    obtain ⟨e1, e2⟩ := edgeK_lt n (by omega)
    obtain ⟨o1, o2⟩ := oneF_bd (n := l n) (s := s n) h2.1 h2.2
    rw [reachTo_succ]
    generalize oneF (l n) (s n) = y at o1 o2
    have m1 : ((edgeK (n + 1) : Int) - edgeK n) * y ≤ 512 * 134217728 := Int.mul_le_mul (by omega) o2 (by omega) (by decide)
    have m0 : 0 ≤ ((edgeK (n + 1) : Int) - edgeK n) * y := Int.mul_nonneg (by omega) (by omega)
    omega
end Go.Proofs.YtobhoecmmpijgaaGreat
