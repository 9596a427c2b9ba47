/- The walks of the statements of layer 3, by the contracts of the functions that they call. -/
import Derived.Test.YthdgldfnpjgjpaaCheC
import Derived.OpenShut
import Derived.OwnWalk
import Derived.Laws.OwnMore
import Derived.BigRegion
import Derived.Deep.AppendLies
import Derived.Lib.SlBytesConst
namespace Go.Proofs.Ythdgldfnpjgjpaa
open Go.RowKit
set_option linter.unusedVariables false

theorem regN_digits : regN [49, 50, 51, 52, 53, 54, 55, 56, 57] 72 = 486108540 := by decide +kernel
theorem crcP_digits : crcP [49, 50, 51, 52, 53, 54, 55, 56, 57] = 3808858755 := by
  rw [crcP_eq]
  show (4294967295 : Int) - (regN [49, 50, 51, 52, 53, 54, 55, 56, 57] 72 : Int) = 3808858755
  rw [regN_digits]
  decide

theorem lives03_any (w : World) : Calls Try.prog 5 #[] w fun e w' => e = .returned (.bool true) ∧ Below w.heap.size w w' := by
  have kc := Lib.run_convert_bytes_const (P := Try.prog) w 24 5 #[.int .u8 49, .int .u8 50, .int .u8 51, .int .u8 52, .int .u8 53, .int .u8 54, .int .u8 55, .int .u8 56, .int .u8 57] 9 9 Try.underlying24 Try.underlying5
  have HI := Lib.hid (lit_ints w 5 .u8 [49, 50, 51, 52, 53, 54, 55, 56, 57] #[.int .u8 49, .int .u8 50, .int .u8 51, .int .u8 52, .int .u8 53, .int .u8 54, .int .u8 55, .int .u8 56, .int .u8 57] (9, 10) rfl (by decide))
  have hB := Lib.hid (Below.alloc_new w (.cells #[.int .u8 49, .int .u8 50, .int .u8 51, .int .u8 52, .int .u8 53, .int .u8 54, .int .u8 55, .int .u8 56, .int .u8 57] 5 (9, 10)))
  have E := Lib.hid crcP_digits
  have hbd : ∀ j, j < 9 → 0 ≤ ([49, 50, 51, 52, 53, 54, 55, 56, 57] : List Int).getD j 0 ∧ ([49, 50, 51, 52, 53, 54, 55, 56, 57] : List Int).getD j 0 ≤ 255 := by decide
  have HD := Lib.hid hbd
  clear hbd
  go_enter Try.func5, Try.ntmps5
  go_wp2_with (go_at_call 10; refine (checkOf_any _ _ _ _ _ HI.out HD.out (by decide)).mono ?_; rintro e w1 ⟨rfl, hb⟩; replace hB := Lib.hid (chain hB.out hb); clear hb)
  go_ret
  exact ⟨ret_bool (by rw [E.out]; decide), hB.out⟩

theorem info_u8 : (Try.prog.info? 5).map (fun i => (i.zero, i.size, i.bytes)) = some (some (.int .u8 0), 1, 1) := by kernel_rfl

theorem byteX_bits {x : Int} {q : Nat} (h0 : 0 ≤ x) (h1 : x ≤ 255) (hq : q < 8) : bits .xor .u8 x (2 ^ q % 256) = byteX x q := by
  have p : 2 ^ q < 256 := by have := Nat.pow_lt_pow_right (a := 2) (by decide) hq; omega
  have e : ((2 : Int) ^ q % 256) = ((2 ^ q : Nat) : Int) := by
    have : ((2 ^ q : Nat) : Int) = (2 : Int) ^ q := by simp
    rw [← this]
    generalize 2 ^ q = z at p
    omega
  obtain ⟨m, rfl⟩ : ∃ m : Nat, x = m := ⟨x.toNat, by omega⟩
  rw [e, u8_xor_nat _ _ (by omega) p]
  unfold byteX
  rw [Int.toNat_natCast]
theorem bit_low {u : Int} {k : Nat} (h0 : 0 ≤ u) (h1 : u ≤ 4294967295) : bits .and .u32 (u / 2 ^ k) 1 = ((u.toNat / 2 ^ k % 2 : Nat) : Int) := by
  obtain ⟨m, rfl⟩ : ∃ m : Nat, u = m := ⟨u.toNat, by omega⟩
  have e : (m : Int) / 2 ^ k = ((m / 2 ^ k : Nat) : Int) := by rw [Int.natCast_ediv]; simp
  have l := Nat.div_le_self m (2 ^ k)
  have := u32_and_nat (m / 2 ^ k) 1 (by omega) (by decide)
  rw [e, Int.toNat_natCast]
  refine this.trans ?_
  rw [nat_mask1]
theorem bit_yes {u : Int} {k : Nat} (h0 : 0 ≤ u) (h1 : u ≤ 4294967295) (h : (bits .and .u32 (u / 2 ^ k) 1 == 1) = true) : u.toNat / 2 ^ k % 2 = 1 := by
  rw [bit_low h0 h1] at h
  have := eq_of_beq h
  omega
theorem bit_no {u : Int} {k : Nat} (h0 : 0 ≤ u) (h1 : u ≤ 4294967295) (h : (bits .and .u32 (u / 2 ^ k) 1 == 1) = false) : ¬ u.toNat / 2 ^ k % 2 = 1 := by
  rw [bit_low h0 h1] at h
  intro c
  rw [c] at h
  simp at h

set_option maxRecDepth 100000 in
theorem checkFinds_law (a : Option Addr) (len cap : Nat) (zs : List Int) (s u : Int) (w : World) (h : IntsAt w w.heap.size .u8 a len zs) (hw : ∀ n ∈ zs, (Lit.int .u8 n).wf = true) (w1 : (Lit.int .i64 s).wf = true) (w2 : (Lit.int .u32 u).wf = true) (h8 : 8 ≤ len) (h2 : len ≤ 2000) (hu : u ≠ 0) :
    Calls Try.prog 4 #[.slice a len cap, .int .i64 s, .int .u32 u] w fun e w' => e = .returned (.bool true) ∧ Below w.heap.size w w' := by
  obtain ⟨b, off, rfl, hbB, _, hc0⟩ := h.at_ (j := 0) (by omega)
  have H0 := Lib.hid h; clear h hc0
  have HW := Lib.hid hw; clear hw
  obtain ⟨s0, s1⟩ := bounds_i64 w1
  obtain ⟨u0, u1⟩ := bounds_u32 w2
  have hz0 : (u == 0) = false := by simpa using hu
  have hd1 : decide ((len : Int) < 8) = false := by simp; omega
  have hd2 : decide ((2000 : Int) < (len : Int)) = false := by simp; omega
  have hlen := Lib.hid H0.out.1
  obtain ⟨p, hp, hp1⟩ : ∃ p : Nat, wrap64 ((IntKind.u64.wrap s).tmod (8 * (len : Int) - 31)) = (p : Int) ∧ p + 32 ≤ 8 * len := by
    have hs : 0 ≤ IntKind.u64.wrap s := by rw [show IntKind.u64.wrap s = s % 18446744073709551616 by simp [IntKind.wrap, IntKind.bits, IntKind.signed]]; omega
    have e : (IntKind.u64.wrap s).tmod (8 * (len : Int) - 31) = IntKind.u64.wrap s % (8 * (len : Int) - 31) := Int.tmod_eq_emod_of_nonneg hs
    have l0 := Int.emod_nonneg (IntKind.u64.wrap s) (b := 8 * (len : Int) - 31) (by omega)
    have l1 := Int.emod_lt_of_pos (IntKind.u64.wrap s) (b := 8 * (len : Int) - 31) (by omega)
    rw [e, IntWalk.wrap64_in _ (by omega)]
    exact ⟨(IntKind.u64.wrap s % (8 * (len : Int) - 31)).toNat, by omega, by omega⟩
  have HC := Lib.hid (flip_changes (l := zs) (i := p) (u := u.toNat) (by omega) (by omega) (by rw [hlen.out]; exact hp1))
  clear hu w1 w2
  have hB := Lib.hid (Below.refl w.heap.size w)
  obtain ⟨i0, hi, hzz, hz1, hz2⟩ := info_parts info_u8
  go_enter Try.func4, Try.ntmps4
  go_wp2_with (first | (go_at_call 5; refine (lives03_any _).mono ?_; rintro e w1 ⟨rfl, hb⟩; replace hB := Lib.hid (chain hB.out hb); clear hb; have hown0 := World.ownsRow_lit (base := w.heap.size) (e := 5) (size := 1) w1 #[] 0 hB.out.size (by decide) rfl; have hsz := hB.out.size) | (at_builtin; go_loud (refine wpList_append_own _ rfl _ _ 24 rfl w.heap.size 5 i0 (.int .u8 0) 1 1 Try.underlying24 hi hzz hz1 hz2 rfl (by decide) _ 0 [] rfl hown0 ⟨b, off, none⟩ len cap (zs.map (Value.int .u8)) rfl ?c1 ?c2 ?c3 ?c4 ?c5 ?c6 ?_)))
  case c1 => simp; exact hlen.out
  case c2 => exact H0.out.src (hB.out.alloc hsz _)
  case c3 => exact ints_oneCell _ _
  case c4 => unfold maxLen; omega
  case c5 => omega
  case c6 => simp; omega
  intro v' w2 hown hgrow _
  have hB2 := Lib.hid ((hB.out.alloc hsz (.cells #[] 5)).grown hgrow (by simp; omega) (own_base hown0))
  obtain ⟨g, cp, rfl, hg0, hg1⟩ := World.ownsRow.form hown (by omega)
  have H2 := Lib.hid hown
  clear hown hgrow hown0 hB
  go_wp2
  go_loopw [39, 9] (fun i j wr => ∃ k : Nat, k ≤ 32 ∧ i = .int .i64 k ∧ RowKit.Hid (wr.ownsRow w.heap.size 5 1 (.slice (some ⟨g, 0, none⟩) len cp) len ((flipK zs p u.toNat k).map (Value.int .u8)) ∧ Below w.heap.size w wr))
    (fun i _ _ => (32 - intOf i).toNat)
  case atStart => exact ⟨0, by omega, rfl, H2.out, hB2.out⟩
  case round =>
    obtain ⟨k, hk, rfl, H⟩ := hrel
    by_cases hlt : k < 32
    · obtain ⟨m, hm⟩ : ∃ m, m = (p + k) / 8 := ⟨_, rfl⟩
      obtain ⟨q, hq⟩ : ∃ q, q = (p + k) % 8 := ⟨_, rfl⟩
      have hml : m < len := by omega
      have hq8 : q < 8 := by omega
      have hfl : (flipK zs p u.toNat k).length = len := by rw [flipK_len, hlen.out]
      have hcell : wr.cell? ⟨g, m, none⟩ = some (.int .u8 ((flipK zs p u.toNat k).getD m 0)) := by
        rw [H.out.1.cellAt m (by omega), List.getElem?_map, List.getElem?_eq_getElem (by omega)]
        simp [List.getD, List.getElem?_eq_getElem (show m < (flipK zs p u.toNat k).length by omega)]
      have hfz := H.out.1.frozenAt m
      obtain ⟨x0, x1⟩ : 0 ≤ (flipK zs p u.toNat k).getD m 0 ∧ (flipK zs p u.toNat k).getD m 0 ≤ 255 :=
        flipK_bd (fun j _ => by simpa [List.getD] using range_u8 HW.out j) p u.toNat k (by rw [hlen.out]; omega) m (by rw [hlen.out]; exact hml)
      have S : RowKit.Hid (u.toNat / 2 ^ k % 2 = 1 → flipK zs p u.toNat (k + 1) = (flipK zs p u.toNat k).set m (byteX ((flipK zs p u.toNat k).getD m 0) q)) := by
        intro h1
        conv => lhs; unfold flipK
        rw [if_pos h1, ← hm, ← hq]
      have N : RowKit.Hid (¬ u.toNat / 2 ^ k % 2 = 1 → flipK zs p u.toNat (k + 1) = flipK zs p u.toNat k) := by
        intro h1
        conv => lhs; unfold flipK
        rw [if_neg h1]
      have hst := Lib.hid (H.out.1.stored m (.int .u8 (byteX ((flipK zs p u.toNat k).getD m 0) q))).1
      have hsb := Lib.hid (H.out.2.setCell (p := ⟨g, m, none⟩) hg0 (.int .u8 (byteX ((flipK zs p u.toNat k).getD m 0) q)))
      have e1 : IntKind.i64.wrap ((p : Int) + (k : Int)) = (p : Int) + (k : Int) := IntWalk.i64_in _ (by omega)
      have e2 : ((p : Int) + (k : Int)) / 8 = (m : Int) := by omega
      have e3 : ((p : Int) + (k : Int)) % 8 = (q : Int) := by omega
      have e4 : ((p : Int) + (k : Int)).tdiv 8 = (m : Int) := by rw [Int.tdiv_eq_ediv_of_nonneg (by omega)]; exact e2
      have e5 : ((p : Int) + (k : Int)).tmod 8 = (q : Int) := by rw [Int.tmod_eq_emod_of_nonneg (by omega)]; exact e3
      clear hm hq
      have HL := Lib.hid hfl
      clear hfl
      generalize (flipK zs p u.toNat k).getD m 0 = x at hcell x0 x1 S hst hsb
      go_wp2
      · have hu1 : (bits BinOp.and IntKind.u32 (u / 2 ^ k) 1 == 1) = true := by assumption
        go_region
        go_wp2
        go_roundw
        case rel =>
          rw [byteX_bits x0 x1 hq8]
          refine ⟨k + 1, by omega, by go_num, ?_, hsb.out.drew⟩
          have h1 := (S.out (bit_yes u0 u1 hu1))
          rw [h1, List.map_set]
          exact hst.out
        case measure => simp [intOf] <;> omega
      · have hu1 : (bits BinOp.and IntKind.u32 (u / 2 ^ k) 1 == 1) = false := by assumption
        go_roundw
        case rel =>
          refine ⟨k + 1, by omega, by go_num, ?_, H.out.2⟩
          rw [N.out (bit_no u0 u1 hu1)]
          exact H.out.1
        case measure => simp [intOf] <;> omega
    · obtain rfl : k = 32 := by omega
      have HI := Lib.hid (own_ints' H.out.1)
      have HI2 := Lib.hid (H0.out.below H.out.2)
      have HB := Lib.hid H.out.2
      have hbd2 : ∀ j, j < len → 0 ≤ zs.getD j 0 ∧ zs.getD j 0 ≤ 255 := fun j _ => by simpa [List.getD] using range_u8 HW.out j
      have HD2 := Lib.hid hbd2
      have HD1 := Lib.hid (flipK_bd (l := zs) (fun j hj => hbd2 j (by rw [← hlen.out]; exact hj)) p u.toNat 32 (by rw [hlen.out]; exact hp1))
      clear hbd2 H
      go_wp2_with (first | (go_at_call 10; refine (checkOf_any _ _ _ _ _ HI.out (fun j hj => HD1.out j (by rw [hlen.out]; exact hj)) (by omega)).mono ?_; rintro e w3 ⟨rfl, hb⟩; replace HB := Lib.hid (HB.out.trans (hb.mono HB.out.size)); clear hb HI) | (go_at_call 10; refine (checkOf_any _ _ _ _ _ ((H0.out.below HB.out).grow HB.out.size) HD2.out (by omega)).mono ?_; rintro e w3 ⟨rfl, hb⟩; replace HB := Lib.hid (HB.out.trans (hb.mono HB.out.size)); clear hb))
      go_ret
      exact ⟨ret_bool (by simpa using HC.out), HB.out⟩

set_option maxRecDepth 100000 in
theorem checkFinds_out (a : Option Addr) (len cap : Nat) (s u : Int) (w : World) (hm : len ≤ 9223372036854775807) (w1 : (Lit.int .i64 s).wf = true) (w2 : (Lit.int .u32 u).wf = true) (h : len < 8 ∨ 2000 < len ∨ u = 0) :
    Calls Try.prog 4 #[.slice a len cap, .int .i64 s, .int .u32 u] w fun e w' => e = .returned (.bool true) ∧ Below w.heap.size w w' := by
  obtain ⟨u0, u1⟩ := bounds_u32 w2
  clear w1 w2
  have hB := Lib.hid (Below.refl w.heap.size w)
  by_cases h8 : len < 8
  · have hd1 : decide ((len : Int) < 8) = true := by simp; omega
    clear h
    go_enter Try.func4, Try.ntmps4
    go_wp2_with (go_at_call 5; refine (lives03_any _).mono ?_; rintro e w1 ⟨rfl, hb⟩; replace hB := Lib.hid (chain hB.out hb); clear hb)
    go_ret
    exact ⟨rfl, hB.out⟩
  · have hd1 : decide ((len : Int) < 8) = false := by simp; omega
    by_cases h2 : 2000 < len
    · have hd2 : decide ((2000 : Int) < (len : Int)) = true := by simp; omega
      clear h
      go_enter Try.func4, Try.ntmps4
      go_wp2_with (go_at_call 5; refine (lives03_any _).mono ?_; rintro e w1 ⟨rfl, hb⟩; replace hB := Lib.hid (chain hB.out hb); clear hb)
      go_ret
      exact ⟨rfl, hB.out⟩
    · have hd2 : decide ((2000 : Int) < (len : Int)) = false := by simp; omega
      obtain rfl : u = 0 := by omega
      clear h
      go_enter Try.func4, Try.ntmps4
      go_wp2_with (go_at_call 5; refine (lives03_any _).mono ?_; rintro e w1 ⟨rfl, hb⟩; replace hB := Lib.hid (chain hB.out hb); clear hb)
      go_ret
      exact ⟨rfl, hB.out⟩
end Go.Proofs.Ythdgldfnpjgjpaa
