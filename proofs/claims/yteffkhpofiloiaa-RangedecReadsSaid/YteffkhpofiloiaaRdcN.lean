/- The walk of RangedecReads. -/
import Derived.Test.YteffkhpofiloiaaRdcR
import Derived.Deep.CutBlock
import Derived.Deep.DeepCutAuto
namespace Go.Proofs.Yteffkhpofiloiaa
open Go.RowKit
set_option linter.unusedVariables false
set_option linter.unusedSimpArgs false

theorem refNew_at7 (n : Nat) (i : Int) (w : World) (hi : i = n) (h0 : 1 ≤ n) (h1 : n ≤ 64) :
    Calls Try.prog 8 #[.int .i64 i] w fun e w' => ∃ g r, e = .returned (.tuple #[.pointer (some ⟨g, 0, none⟩), .bool true]) ∧ RefMod w' w.heap.size g r (List.replicate n 1) false ∧ Below w.heap.size w w' := by
  subst hi; exact refNew_any n w h0 h1

set_option maxRecDepth 100000 in
theorem rangedecReads_many (a : Option Addr) (len cap : Nat) (size : Int) (a2 : Option Addr) (len2 cap2 : Nat) (w : World) (hm : len ≤ 9223372036854775807) (hm2 : len2 ≤ 9223372036854775807) (h : 500 < len ∨ 300 < len2) :
    Calls Try.prog 3 #[.slice a len cap, .int .u8 size, .slice a2 len2 cap2] w fun e w' => e = .returned (.bool true) ∧ Below w.heap.size w w' := by
  have hB := Lib.hid (Below.refl w.heap.size w)
  by_cases h1 : 500 < len
  · have hd : decide ((500 : Int) < (len : Int)) = true := by simp; omega
    clear h h1
    go_enter Try.func3, Try.ntmps3
    go_wp2_with (go_at_call 6; refine (lives07_any _).mono ?_; rintro e w1 ⟨rfl, hb⟩; replace hB := Lib.hid (chain hB.out hb); clear hb)
    go_ret
    exact ⟨rfl, hB.out⟩
  · have hd : decide ((500 : Int) < (len : Int)) = false := by simp; omega
    have hd2 : decide ((300 : Int) < (len2 : Int)) = true := by simp; omega
    clear h h1
    go_enter Try.func3, Try.ntmps3
    go_wp2_with (go_at_call 6; refine (lives07_any _).mono ?_; rintro e w1 ⟨rfl, hb⟩; replace hB := Lib.hid (chain hB.out hb); clear hb)
    go_ret
    exact ⟨rfl, hB.out⟩

/-- A row of bytes of its own. -/
def OwnB (w : World) (base : Nat) (v : Value) (len : Nat) : Prop := ∃ ys : List Int, ys.length = len ∧ IsDig ys ∧ w.ownsRow base 5 1 v len (ys.map (Value.int .u8))

theorem OwnB.at_ {w : World} {base len c j : Nat} {a : Option Addr} (h : OwnB w base (.slice a len c) len) (hj : j < len) :
    ∃ (ro : Nat) (ys : List Int), a = some ⟨ro, 0, none⟩ ∧ ys.length = len ∧ IsDig ys ∧ w.ownsRow base 5 1 (.slice (some ⟨ro, 0, none⟩) len c) len (ys.map (Value.int .u8)) ∧ w.cell? ⟨ro, j, none⟩ = some (.int .u8 (ys.getD j 0)) ∧ w.frozen? ⟨ro, j, none⟩ = false := by
  obtain ⟨ys, h1, h2, h3⟩ := h
  rcases h3.2 with ⟨e, _⟩ | ⟨ro, cap, cur, e, _⟩
  · injection e with _ e2 _; omega
  · injection e with e1 _ _
    subst e1
    refine ⟨ro, ys, rfl, h1, h2, h3, ?_, h3.frozenAt j⟩
    rw [h3.cellAt j (by omega), List.getElem?_map, List.getElem?_eq_getElem (by omega)]
    simp [List.getD, h1, hj]
theorem OwnB.set_ {w : World} {base len c j ro : Nat} {ys : List Int} {z : Int} (h1 : ys.length = len) (h2 : IsDig ys) (h3 : w.ownsRow base 5 1 (.slice (some ⟨ro, 0, none⟩) len c) len (ys.map (Value.int .u8))) (hj : j < len) (z0 : 0 ≤ z) (z1 : z ≤ 255) :
    OwnB (w.setCell ⟨ro, j, none⟩ (.int .u8 z)) base (.slice (some ⟨ro, 0, none⟩) len c) len := by
  refine ⟨ys.set j z, by rw [List.length_set]; exact h1, ?_, by rw [List.map_set]; exact (h3.stored j (.int .u8 z)).1⟩
  intro i hi
  rw [List.length_set] at hi
  rw [getD_set' ys j i z (by omega)]
  split
  · exact ⟨z0, z1⟩
  · exact h2 i hi

set_option maxHeartbeats 4000000 in
set_option maxRecDepth 100000 in
theorem rangedecReads_law (a : Option Addr) (len cap : Nat) (b : List Int) (size : Int) (a2 : Option Addr) (len2 cap2 : Nat) (zs : List Int) (w : World) (hb0 : IntsAt w w.heap.size .u8 a len b) (hbw : IsDig b) (hn0 : a = none → cap = 0) (w1 : (Lit.int .u8 size).wf = true) (hz0 : IntsAt w w.heap.size .u8 a2 len2 zs) (hzw : IsDig zs) (h : len ≤ 500) (h2 : len2 ≤ 300) :
    Calls Try.prog 3 #[.slice a len cap, .int .u8 size, .slice a2 len2 cap2] w fun e w' => e = .returned (.bool true) ∧ Below w.heap.size w w' := by
  have hd : decide ((500 : Int) < (len : Int)) = false := by simp; omega
  have hd2 : decide ((300 : Int) < (len2 : Int)) = false := by simp; omega
  have HI := Lib.hid hb0
  have HZ := Lib.hid hz0
  have HN := Lib.hid hn0
  have HBy := Lib.hid (byteF_bd hbw)
  have HBd := Lib.hid hbw
  have HZd := Lib.hid hzw
  have hbl : b.length ≤ 1000000 := by rw [hb0.1]; omega
  have HLen := Lib.hid hb0.1
  have hB := Lib.hid (Below.refl w.heap.size w)
  obtain ⟨s0, s1⟩ := bounds_u8 w1
  obtain ⟨n, hn⟩ : ∃ n : Nat, 1 + size % 64 = n := ⟨(1 + size % 64).toNat, by omega⟩
  have n1 : 1 ≤ n := by omega
  have n2 : n ≤ 64 := by omega
  have HG := Lib.hid (goodL_ones n1 n2)
  have HGd := Lib.hid (goodD_new hbw)
  have hl1 : len ≤ 1000000 := by omega
  clear w1 hb0 hz0 hn0 hbw hzw
  go_enter Try.func3, Try.ntmps3
  go_wp2_with (first
    | (go_at_call 6; refine (lives07_any _).mono ?_; rintro e w1 ⟨rfl, hb⟩; replace hB := Lib.hid (chain hB.out hb); clear hb)
    | (go_at_call 7; go_loud (refine (modNew_at n _ _ rfl n1 n2).mono ?_); rintro e w2 ⟨mg, rfl, hg, hm, hb⟩; have HM2 := Lib.hid hm; have HB2 := Lib.hid (hB.out.trans (hb.mono hB.out.size)); have hg1 := Nat.le_trans hB.out.size hg; have hgl := hm.lt; clear hm hb hB)
    | (go_at_call 8; go_loud (refine (refNew_at7 n _ _ rfl n1 n2).mono ?_); rintro e w3 ⟨xg, xr, rfl, hm, hb⟩; have HX3 := Lib.hid hm; have HM3 := Lib.hid (HM2.out.below hb); have HB3 := Lib.hid (HB2.out.trans (hb.mono HB2.out.size)); have hsx := hm.lt; have hown0 := Lib.hid (World.ownsRow_lit (base := w3.heap.size) (e := 5) (size := 1) w3 #[] 0 (Nat.le_refl _) (by decide) rfl); have hbel0 := Lib.hid (Below.alloc_new w3 (.cells #[] 5)); clear hm hb HM2 HB2)
    | (at_builtin; go_loud (refine append_ints rfl _ _ 22 rfl w3.heap.size 5 .u8 1 Try.underlying22 info_u807 _ 0 [] rfl hown0.out a len cap w.heap.size b rfl (HI.out.below (HB3.out.trans (hbel0.out.mono HB3.out.size))) HN.out ?c1 ?c2 (by simp) ?_)))
  case c1 => unfold maxLen; omega
  case c2 => omega
  intro v4 w4 hown hgrow _
  obtain ⟨a4, c4, rfl⟩ := own_form (zs := b) (by simpa using hown)
  have hown4 : w4.ownsRow w3.heap.size 5 1 (.slice a4 len c4) len (b.map (Value.int .u8)) := by simpa using hown
  have hb4 : Below w3.heap.size w3 w4 := hbel0.out.grown hgrow (by simp) (own_base hown0.out)
  have HN4 := Lib.hid (own_none hown4)
  have HI4 := Lib.hid (own_ints' hown4)
  have HO4 := Lib.hid hown4
  have HX4 := Lib.hid (HX3.out.below hb4)
  have HM4 := Lib.hid (HM3.out.below hb4)
  have HB4 := Lib.hid (HB3.out.trans (hb4.mono HB3.out.size))
  have hs4 := hb4.size
  clear hown hown4 hgrow hb4 hown0 hbel0 HX3 HM3
  go_wp2_with (first
    | (go_at_call 9; go_loud (refine (drcNew_any a4 len c4 b _ HI4.out HN4.out HBy.out hl1).mono ?_); rintro e w5 ⟨g, v, rfl, hm, hb⟩; have HE5 := Lib.hid hm; have HX5 := Lib.hid (HX4.out.below hb); have HM5 := Lib.hid (HM4.out.below hb); have HB5 := Lib.hid (HB4.out.trans (hb.mono HB4.out.size)); have HO5 := Lib.hid (own_below HO4.out hb); have hs5 := hm.lt; have hov : ∀ k, v.ownBlock = some k → k < w5.heap.size := (fun k hk => (hm.own k hk).1); have HOv := Lib.hid hov; clear hm hb HX4 HM4 hov)
    | (go_at_call 10; go_loud (refine (refOpen_any a len cap b _ (HI.out.now HB5.out (Nat.le_refl _)) HN.out HBy.out hl1).mono ?_); rintro e w6 ⟨gf, vf, rfl, hm, hb⟩; have HQ6 := Lib.hid hm; have HE6 := Lib.hid (HE5.out.below hb); have HX6 := Lib.hid (HX5.out.below hb); have HM6 := Lib.hid (HM5.out.below hb); have HB6 := Lib.hid (HB5.out.trans (hb.mono HB5.out.size)); have HO6 := Lib.hid (own_below HO5.out hb); have hs6 := hb.size; clear hm hb HX5 HM5))
  have HS : RowKit.Hid (St7 w ⟨mg, xg, xr, g, gf, w2.heap.size, w4.heap.size, w5.heap.size, n⟩ b v vf w6 (List.replicate n 1) (List.replicate n 1) (decNew (byteF b)) (decNew (byteF b))) :=
    ⟨HM6.out, HX6.out, HE6.out, HQ6.out, HG.out, HG.out, HGd.out, HGd.out, by simp, HB6.out, by simp only; omega, HOv.out⟩
  have HO : RowKit.Hid (OwnB w6 w3.heap.size (.slice a4 len c4) len) := ⟨b, HLen.out, HBd.out, HO6.out⟩
  have HR : RowKit.Hid (∀ k, (Value.slice a4 len c4).ownBlock = some k → w3.heap.size ≤ k ∧ k < w4.heap.size) := fun k hk => ⟨own_base HO4.out k hk, own_lt HO4.out k hk⟩
  clear HM6 HX6 HE6 HQ6 HB6 HO6 HI4 HN4 HO4 HB4 HB3 HB5 HE5 HO5
  go_loopw [59] (fun i wr => ∃ j : Nat, j ≤ len ∧ i = .int .i64 j ∧ RowKit.Hid (St7 w ⟨mg, xg, xr, g, gf, w2.heap.size, w4.heap.size, w5.heap.size, n⟩ b v vf wr (List.replicate n 1) (List.replicate n 1) (decNew (byteF b)) (decNew (byteF b)) ∧ OwnB wr w3.heap.size (.slice a4 len c4) len)) (fun i _ => len - (intOf i).toNat)
  case atStart => exact ⟨0, by omega, rfl, HS.out, HO.out⟩
  case round =>
    obtain ⟨j, hj, rfl, H⟩ := hrel
    clear HS HO
    by_cases hlt : j < len
    · obtain ⟨ro, ys, rfl, y1, y2, y3, y4, y5⟩ := H.out.2.at_ hlt
      obtain ⟨z, hz⟩ : ∃ z, z = bits .xor .u8 (ys.getD j 0) 255 := ⟨_, rfl⟩
      have z01 : 0 ≤ z ∧ z ≤ 255 := by rw [hz]; exact bounds_u8 (wf_bits _ _ _ _)
      obtain ⟨r0, r1⟩ := HR.out ro rfl
      have K1 : RowKit.Hid (Keeps (fun k => k = ro) wr (wr.setCell ⟨ro, j, none⟩ (.int .u8 z))) := Keeps.setCell (F := fun k => k = ro) (p := ⟨ro, j, none⟩) (Keeps.refl _ _) (.inl rfl) _
      have HS1 := Lib.hid (H.out.1.row K1.out (by omega) (by simp only; omega) (by simp only; omega) (by simp only; omega) (by simp only; omega))
      have HO1 := Lib.hid (OwnB.set_ (z := z) y1 y2 y3 hlt z01.1 z01.2)
      generalize ys.getD j 0 = y at y4 hz
      have hz' := hz.symm
      have hj1 : (j : Int) < (len : Int) := by omega
      clear hz y1 y2 y3 K1 H
      go_wp2
      go_roundw
      case rel => exact ⟨j + 1, by omega, by go_num, HS1.out, HO1.out⟩
      case measure => simp [intOf] <;> omega
    · have hlt2 : ¬ (j : Int) < (len : Int) := by omega
      have HS := Lib.hid H.out.1
      clear H HR
      go_wp2
      clear hlt hlt2 hj
      go_loopw [71] (fun i wr => ∃ (j : Nat) (L : List Int) (D : DecS), j ≤ len2 ∧ i = .int .i64 j ∧ D.i ≤ 4 + 4 * j ∧ RowKit.Hid (St7 w ⟨mg, xg, xr, g, gf, w2.heap.size, w4.heap.size, w5.heap.size, n⟩ b v vf wr L L D D)) (fun i _ => len2 - (intOf i).toNat)
      case atStart => exact ⟨0, _, _, by omega, rfl, by show 4 ≤ 4 + 4 * 0; omega, HS.out⟩
      case round =>
        obtain ⟨k, L, D, hk, rfl, hDi, H⟩ := hrel
        clear HS
        have hi1 : D.i ≤ 4000000 := by omega
        have hi2 : D.i ≤ 5000000 := by omega
        by_cases hlt : k < len2
        · obtain ⟨b', off, rfl, hbB, _, hcell⟩ := HZ.out.at_ hlt
          have hx := (H.out.b.cell (p := ⟨b', off + k, none⟩) hbB).trans hcell
          obtain ⟨x0, x1⟩ := HZd.out k (by rw [HZ.out.1]; exact hlt)
          clear hcell
          generalize zs.getD k 0 = c at hx x0 x1
          have hkl : (k : Int) < (len2 : Int) := by omega
          by_cases hc : c % 2 = 0
          · have hc1 : (c % 2 == 0) = true := by simpa using hc
            obtain ⟨t1, t2, t3, t4⟩ := decWhich_is H.out.ge H.out.gm
            have HNl : RowKit.Hid (GoodL (learnP L (decWhich D L)) ∧ (learnP L (decWhich D L)).length = n) := ⟨learnP_good H.out.gm t1, (learnP_len _ _).trans H.out.lm⟩
            have HNd := Lib.hid (decSym_good HBy.out H.out.ge H.out.gm)
            have HP : RowKit.Hid (∀ wx, St7 w ⟨mg, xg, xr, g, gf, w2.heap.size, w4.heap.size, w5.heap.size, n⟩ b v vf wx L L D D → Calls Try.prog 11 #[.pointer (some ⟨g, 0, none⟩), .pointer (some ⟨mg, 0, none⟩)] wx (DrcSymPost w4.heap.size g v b mg (decWhich D L) (decSym b D L) (learnP L (decWhich D L)) wx)) :=
              fun wx hx => drcSymbol_any w4.heap.size g v b D mg L wx hx.e hx.m HBy.out hbl hi2 hx.ge hx.gm
            have HQ : RowKit.Hid (∀ wx L1 D1, St7 w ⟨mg, xg, xr, g, gf, w2.heap.size, w4.heap.size, w5.heap.size, n⟩ b v vf wx L1 L D1 D → Calls Try.prog 12 #[.pointer (some ⟨gf, 0, none⟩), .pointer (some ⟨xg, 0, none⟩)] wx (DecSymPost w5.heap.size w2.heap.size gf vf b xg xr (decWhich D L) (decSym b D L) (learnP L (decWhich D L)) false wx)) :=
              fun wx L1 D1 hx => refDecSymbol_any w5.heap.size w2.heap.size gf vf b D xg xr L wx hx.q HBy.out hbl hi2 hx.x hx.gq hx.gx hx.dis.1 hx.dis.2.1 hx.dis.2.2
            have hsn : decWhich D L < n := by have := H.out.lm; simp only at this; omega
            have hsd : decide ((n : Int) ≤ (decWhich D L : Nat)) = false := by simp; omega
            clear t1 t2 t3 t4
            generalize decSym b D L = D' at HNd HP HQ
            generalize decWhich D L = s at HNl HP HQ hsn hsd
            generalize learnP L s = L' at HNl HP HQ
            go_wp2_with (first
              | (go_at_call 11; go_loud (with_reducible refine (HP.out _ H.out).mono ?_); rintro e7 w7 ⟨rfl, he, hm, hk⟩; have H2 := Lib.hid (H.out.prog hk he hm HNl.out.1 HNd.out.1 HNl.out.2); clear he hm hk)
              | (go_at_call 12; go_loud (with_reducible refine (HQ.out _ _ _ H2.out).mono ?_); rintro e8 w8 ⟨rfl, hq, hx, hk⟩; have H3 := Lib.hid (H2.out.ref hk hq hx HNl.out.1 HNd.out.1); clear hq hx hk))
            go_roundw
            case rel => exact ⟨k + 1, L', D', by omega, by go_num, by have := HNd.out.2; omega, H3.out⟩
            case measure => simp [intOf] <;> omega
          · have hc1 : (c % 2 == 0) = false := by simpa using hc
            have e1 : IntKind.i64.wrap c = c := IntWalk.i64_in _ (by omega)
            have e2 : c.tdiv 2 = c / 2 := Int.tdiv_eq_ediv_of_nonneg x0
            have e3 : IntKind.i64.wrap (c / 2) = c / 2 := IntWalk.i64_in _ (by omega)
            have e4 : (c / 2).tmod 28 = c / 2 % 28 := Int.tmod_eq_emod_of_nonneg (by omega)
            have k0 := Int.emod_nonneg (c / 2) (b := 28) (by decide)
            have k1 := Int.emod_lt_of_pos (c / 2) (b := 28) (by decide)
            by_cases hk0 : c / 2 % 28 = 0
            · have d1 : (-1 : Int) < 0 ∨ 24 < (-1 : Int) := by decide
              go_wp2_with (go_at_call 13; go_loud (with_reducible refine (drcBits_far _ (-1) _ d1).mono ?_); rintro e8 w8 ⟨rfl, rfl⟩)
              go_roundw
              case rel => exact ⟨k + 1, L, D, by omega, by go_num, by omega, H.out⟩
              case measure => simp [intOf] <;> omega
            · obtain ⟨wd, hwd⟩ : ∃ wd : Nat, c / 2 % 28 = (wd : Int) + 1 := ⟨(c / 2 % 28 - 1).toNat, by omega⟩
              rw [hwd] at e4 k0 k1
              clear hk0
              by_cases hw : wd ≤ 24
              · have hw2 : decide ((24 : Int) < (wd : Int)) = false := by simp; omega
                have hw3 : decide ((wd : Int) < 0) = false := by simp <;> omega
                have HNd := Lib.hid (decBits_good HBy.out H.out.ge hw)
                obtain ⟨_, _, y0, y1⟩ := HNd.out
                have HP : RowKit.Hid (∀ wx, St7 w ⟨mg, xg, xr, g, gf, w2.heap.size, w4.heap.size, w5.heap.size, n⟩ b v vf wx L L D D → Calls Try.prog 13 #[.pointer (some ⟨g, 0, none⟩), .int .i64 wd] wx (DrcBitsPost w4.heap.size g v b (decBits b D 0 wd).1 (decBits b D 0 wd).2 wx)) :=
                  fun wx hx => drcBits_any w4.heap.size g v b D wd wx hx.e HBy.out hbl hi1 hx.ge hw
                have HQ : RowKit.Hid (∀ wx L1 D1, St7 w ⟨mg, xg, xr, g, gf, w2.heap.size, w4.heap.size, w5.heap.size, n⟩ b v vf wx L1 L D1 D → Calls Try.prog 14 #[.pointer (some ⟨gf, 0, none⟩), .int .i64 wd] wx (DecBitsPost w5.heap.size gf vf b (decBits b D 0 wd).1 (decBits b D 0 wd).2 wx)) :=
                  fun wx L1 D1 hx => refDecBits_any w5.heap.size gf vf b D wd wx hx.q HBy.out hbl hi1 hx.gq hw
                generalize (decBits b D 0 wd).1 = y at HNd HP HQ y0 y1
                generalize (decBits b D 0 wd).2 = D' at HNd HP HQ
                have f1 : IntKind.i64.wrap y = y := IntWalk.i64_in _ (by omega)
                go_wp2_with (first
                  | (go_at_call 13; go_loud (with_reducible refine (HP.out _ H.out).mono ?_); rintro e7 w7 ⟨rfl, he, hk⟩; have H2 := Lib.hid (H.out.progE hk he HNd.out.1); clear he hk)
                  | (go_at_call 14; go_loud (with_reducible refine (HQ.out _ _ _ H2.out).mono ?_); rintro e8 w8 ⟨rfl, hq, hk⟩; have H3 := Lib.hid (H2.out.refE hk hq HNd.out.1); clear hq hk))
                go_roundw
                case rel => exact ⟨k + 1, L, D', by omega, by go_num, by have := HNd.out.2.1; omega, H3.out⟩
                case measure => simp [intOf] <;> omega
              · have hw2 : decide ((24 : Int) < (wd : Int)) = true := by simp; omega
                have hw3 : decide ((wd : Int) < 0) = false := by simp <;> omega
                have d1 : (wd : Int) < 0 ∨ 24 < (wd : Int) := by omega
                go_wp2_with (go_at_call 13; go_loud (with_reducible refine (drcBits_far _ (wd : Int) _ d1).mono ?_); rintro e8 w8 ⟨rfl, rfl⟩)
                go_roundw
                case rel => exact ⟨k + 1, L, D, by omega, by go_num, by omega, H.out⟩
                case measure => simp [intOf] <;> omega
        · have hlt2 : ¬ (k : Int) < (len2 : Int) := by omega
          have m1 := H.out.q.cells.2.1
          obtain ⟨di, hdi⟩ : ∃ di : Nat, di = D.i := ⟨_, rfl⟩
          have hdi2 : di ≤ 10000000 := by omega
          obtain ⟨M, hM⟩ : ∃ M : Int, (if (di : Int) - (len : Int) < 0 then 0 else (di : Int) - (len : Int)) = M := ⟨_, rfl⟩
          have hM2 : max ((di : Int) - len) 0 = M := by rw [← hM]; split <;> omega
          have HOvr : RowKit.Hid (∀ i, Calls Try.prog 15 #[.pointer (some ⟨g, 0, none⟩)] (wr.drewN i) fun e w' => e = .returned (.int .i64 M) ∧ ∃ n, w' = (wr.drewN i).drewN n) := by
            intro i
            have := drcOver_any w4.heap.size g v b D (wr.drewN i) (H.out.e.drewN i) hbl (by omega)
            rw [HLen.out, ← hdi, hM2] at this; exact this
          rw [← hdi] at m1
          have e1 : IntKind.i64.wrap ((di : Int) - (len : Int)) = (di : Int) - (len : Int) := IntWalk.i64_in _ (by omega)
          clear hdi hM2
          go_wp2
          go_quiet ((go_at_call 15; exact Calls.quiet_of (HOvr.out _)))
          clear hM e1 m1
          have hMM : (M == M) = true := by simp
          go_wp2
          go_ret
          exact ⟨rfl, Below.drewN' H.out.b _⟩
end Go.Proofs.Yteffkhpofiloiaa
