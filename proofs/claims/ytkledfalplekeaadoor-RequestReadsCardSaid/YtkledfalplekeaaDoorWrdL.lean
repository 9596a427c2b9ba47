/- Bytes sealed by package word. -/
import Derived.Test.YtkledfalplekeaaDoorWrdK
import Derived.Test.YtkledfalplekeaaDoorShelf
import Derived.BigCall
import Derived.Laws.BitsAllLaws
namespace Go.Proofs.YtkledfalplekeaaDoor
open Go.RowKit Go.PlainAid
set_option linter.unusedVariables false

theorem or8 (v b : Nat) (hb : b < 256) : bits .or .u32 ((v : Int) * 256 % 4294967296) (b : Int) = (((v * 256 + b) % 4294967296 : Nat) : Int) := by
  have e : (v : Int) * 256 % 4294967296 = ((2 ^ 8 * (v % 16777216) : Nat) : Int) := by omega
  rw [e, u32_or_nat _ _ (by omega) (by omega), ← Nat.two_pow_add_eq_or_of_lt (by omega)]
  congr 1
  omega
theorem mask63 (n : Nat) (h : n < 4294967296) : bits .and .u32 (n : Int) 63 = ((n % 64 : Nat) : Int) := by
  have a : bits .and .u32 (n : Int) 63 = ((n &&& 63 : Nat) : Int) := u32_and_nat n 63 h (by decide)
  rw [a, show (63 : Nat) = 2 ^ 6 - 1 by decide, Nat.and_two_pow_sub_one_eq_mod]
def lits : ByteArray := ⟨#[65, 66, 67, 68, 69, 70, 71, 72, 73, 74, 75, 76, 77, 78, 79, 80, 81, 82, 83, 84, 85, 86, 87, 88, 89, 90, 97, 98, 99, 100, 101, 102, 103, 104, 105, 106, 107, 108, 109, 110, 111, 112, 113, 114, 115, 116, 117, 118, 119, 120, 121, 122, 48, 49, 50, 51, 52, 53, 54, 55, 56, 57, 43, 47]⟩
theorem lits_at (k : Nat) (h : k < 64) : bt ⟨#[65, 66, 67, 68, 69, 70, 71, 72, 73, 74, 75, 76, 77, 78, 79, 80, 81, 82, 83, 84, 85, 86, 87, 88, 89, 90, 97, 98, 99, 100, 101, 102, 103, 104, 105, 106, 107, 108, 109, 110, 111, 112, 113, 114, 115, 116, 117, 118, 119, 120, 121, 122, 48, 49, 50, 51, 52, 53, 54, 55, 56, 57, 43, 47]⟩ k = ((lt k).toNat : Int) := by
  have e : (⟨#[65, 66, 67, 68, 69, 70, 71, 72, 73, 74, 75, 76, 77, 78, 79, 80, 81, 82, 83, 84, 85, 86, 87, 88, 89, 90, 97, 98, 99, 100, 101, 102, 103, 104, 105, 106, 107, 108, 109, 110, 111, 112, 113, 114, 115, 116, 117, 118, 119, 120, 121, 122, 48, 49, 50, 51, 52, 53, 54, 55, 56, 57, 43, 47]⟩ : ByteArray) = ba L64 := rfl
  rw [e, bt_list, list_ba]
  rfl
theorem len_any (B : Nat) (acc : List UInt8) (W : World) (h : Lib.IsBuilderF 90 5 B B (Lib.byteCells acc) W) :
    Calls Tryd.prog 85 #[.pointer (some ⟨B, 0, none⟩)] W fun e w' => e = .returned (.int .i64 acc.length) ∧ w' = W := by
  have := Tryd.Builder_Len_f B B (Lib.byteCells acc) W h
  rwa [Lib.byteCells_length] at this
theorem writeByte_any (B : Nat) (acc : List UInt8) (c : UInt8) (W : World) (h : Lib.IsBuilderF 90 5 B B (Lib.byteCells acc) W) (hl : acc.length ≤ 2000) (hB : B ≤ W.heap.size) :
    Calls Tryd.prog 66 #[.pointer (some ⟨B, 0, none⟩), .int .u8 (c.toNat : Int)] W fun e w' => e = .returned .nilIface ∧ Lib.IsBuilderF 90 5 B B (Lib.byteCells (acc ++ [c])) w' ∧ Below B W w' ∧ B ≤ w'.heap.size := by
  refine (Tryd.Builder_WriteByte_k B B (Lib.byteCells acc) (c.toNat : Int) W h (by rw [Lib.byteCells_length]; omega) hB).mono ?_
  rintro e w' ⟨he, h1, hb, _⟩
  refine ⟨he, ?_, hb, Nat.le_trans hB hb.size⟩
  rw [Lib.byteCells_append]
  exact Or.inr h1

theorem writeAs_any (B : Nat) (acc A : List UInt8) (c : UInt8) (W : World) (h : Lib.IsBuilderF 90 5 B B (Lib.byteCells acc) W) (hA : RowKit.Hid (acc ++ [c] = A)) (hl : acc.length ≤ 2000) (hB : B ≤ W.heap.size) :
    Calls Tryd.prog 66 #[.pointer (some ⟨B, 0, none⟩), .int .u8 (c.toNat : Int)] W fun e w' => e = .returned .nilIface ∧ Lib.IsBuilderF 90 5 B B (Lib.byteCells A) w' ∧ Below B W w' ∧ B ≤ w'.heap.size := by
  have := writeByte_any B acc c W h hl hB
  rw [hA.out] at this
  exact this
theorem writeEq_any (B : Nat) (acc A : List UInt8) (W : World) (h : Lib.IsBuilderF 90 5 B B (Lib.byteCells acc) W) (hA : RowKit.Hid (acc ++ [61] = A)) (hl : acc.length ≤ 2000) (hB : B ≤ W.heap.size) :
    Calls Tryd.prog 66 #[.pointer (some ⟨B, 0, none⟩), .int .u8 61] W fun e w' => e = .returned .nilIface ∧ Lib.IsBuilderF 90 5 B B (Lib.byteCells A) w' ∧ Below B W w' ∧ B ≤ w'.heap.size := writeAs_any B acc A 61 W h hA hl hB

set_option maxHeartbeats 8000000 in
set_option maxRecDepth 1000000 in
theorem seal_any (a : Option Addr) (l : List UInt8) (len cap : Nat) (w : World) (hl : l.length = len) (hs : len ≤ 1000) (h : IntsAt w w.heap.size .u8 a len (bz l)) :
    Calls Tryd.prog 72 #[.slice a len cap] w fun e w' => e = .returned (.string (ba (sealL l))) ∧ Below w.heap.size w w' := by
  obtain ⟨X, hX⟩ : ∃ X, sealP 0 0 l = X := ⟨_, rfl⟩
  have HX := Lib.hid hX
  have HP : RowKit.Hid (padF X = sealL l) := by show _ = _; rw [← hX]; exact sealP_seal l
  clear hX
  obtain ⟨Y, hY⟩ : ∃ Y, sealL l = Y := ⟨_, rfl⟩
  rw [hY] at HP ⊢
  clear hY
  have H := Lib.hid h
  clear h
  have hb64 := get_bt ⟨#[65, 66, 67, 68, 69, 70, 71, 72, 73, 74, 75, 76, 77, 78, 79, 80, 81, 82, 83, 84, 85, 86, 87, 88, 89, 90, 97, 98, 99, 100, 101, 102, 103, 104, 105, 106, 107, 108, 109, 110, 111, 112, 113, 114, 115, 116, 117, 118, 119, 120, 121, 122, 48, 49, 50, 51, 52, 53, 54, 55, 56, 57, 43, 47]⟩
  have HLT := Lib.hid lits_at
  go_enter Tryd.func72, Tryd.ntmps72
  go_wp2
  go_loopw [4, 5, 10] (fun sv sw si wr => ∃ (i v wd : Nat) (acc : List UInt8), sv = .int .u32 v ∧ sw = .int .i64 wd ∧ si = .int .i64 i ∧ i ≤ len ∧ v < 4294967296 ∧ (wd = 0 ∧ acc.length % 4 = 0 ∨ wd = 2 ∧ acc.length % 4 = 1 ∨ wd = 4 ∧ acc.length % 4 = 2) ∧ acc.length ≤ 2 * i ∧ Lib.IsBuilderF 90 5 w.heap.size w.heap.size (Lib.byteCells acc) wr ∧ Below w.heap.size w wr ∧ RowKit.Hid (acc ++ sealP v wd (l.drop i) = X)) (fun _ _ si _ => len - (intOf si).toNat)
  case atStart =>
    exact ⟨0, 0, 0, [], rfl, rfl, rfl, by omega, by omega, .inl ⟨rfl, rfl⟩, by simp, Lib.IsBuilderF.of (Lib.fresh_isBuilder 90 5 w), Below.alloc_new _ _, HX.out⟩
  case round =>
    obtain ⟨i, v, wd, acc, rfl, rfl, rfl, hi, hv, hwd, hac, hI, hbw, HQ⟩ := hrel
    have hszw := hbw.size
    by_cases hlt : i < len
    · obtain ⟨g, off, ha, hg, hlen, hcell⟩ := (H.out.below hbw).2.resolve_left (by omega)
      subst ha
      obtain ⟨b, hb⟩ : ∃ b : Nat, (l.getD i 0).toNat = b := ⟨_, rfl⟩
      have mb : b < 256 := by rw [← hb]; exact UInt8.toNat_lt _
      have c0 : wr.cell? ⟨g, off + i, none⟩ = some (.int .u8 b) := by rw [hcell i hlt, bz_get, hb]
      clear hcell
      obtain ⟨v', hv'⟩ : ∃ v' : Nat, (v * 256 + b) % 4294967296 = v' := ⟨_, rfl⟩
      have hor : bits .or .u32 ((v : Int) * 256 % 4294967296) (b : Int) = (v' : Nat) := by rw [or8 v b mb, hv']
      have hv'b : v' < 4294967296 := by omega
      have HQ' : RowKit.Hid (acc ++ (emit v' (wd + 8) ++ sealP v' ((wd + 8) % 6) (l.drop (i + 1))) = X) := by
        show _ = _
        have e := HQ.out
        rw [drop_cons l i (by omega)] at e
        simp only [sealP, hb, hv'] at e
        exact e
      have HI := Lib.hid hI
      clear hI hb HQ hv'
      rcases hwd with ⟨rfl, hm⟩ | ⟨rfl, hm⟩ | ⟨rfl, hm⟩
      · skip
        obtain ⟨k1, hk1⟩ : ∃ k : Nat, v' / 4 % 64 = k := ⟨_, rfl⟩
        have hk1b : k1 < 64 := by omega
        have hma1 : bits .and .u32 ((v' : Int) / 4) 63 = (k1 : Nat) := by
          have := mask63 (v' / 4) (by omega)
          rw [show (((v' : Int) / 4) : Int) = ((v' / 4 : Nat) : Int) by omega, this, hk1]
        have hbt1 := HLT.out k1 hk1b
        have HZ : RowKit.Hid ((acc ++ [lt k1]) ++ sealP v' 2 (l.drop (i + 1)) = X) := by
          show _ = _
          have e := HQ'.out
          rw [show 0 + 8 = 8 from rfl, emit8, ltc hk1] at e
          rw [List.append_assoc]
          exact e
        clear hk1 HQ'
        go_wp2
        refine wp_loop_rounds 3 ?_
        rw [rounds_succ]
        go_wp2_with ((go_at_call 66; refine (writeByte_any _ _ _ _ (HI.out) (by first | omega | (simp; omega)) (by first | omega | (simp; omega))).mono ?_; rintro e w' ⟨rfl, h1, b1, s1⟩))
        rw [rounds_succ]
        go_wp2
        go_roundw
        case rel =>
          have hz : (acc ++ [lt k1]).length = acc.length + 1 := by rw [List.length_append]; rfl
          exact ⟨i + 1, v', 2, acc ++ [lt k1], rfl, rfl, by go_num, by omega, hv'b, by omega, by omega, h1, hbw.trans b1, HZ⟩
        case measure => simp [intOf]; omega
      · skip
        obtain ⟨k1, hk1⟩ : ∃ k : Nat, v' / 16 % 64 = k := ⟨_, rfl⟩
        have hk1b : k1 < 64 := by omega
        have hma1 : bits .and .u32 ((v' : Int) / 16) 63 = (k1 : Nat) := by
          have := mask63 (v' / 16) (by omega)
          rw [show (((v' : Int) / 16) : Int) = ((v' / 16 : Nat) : Int) by omega, this, hk1]
        have hbt1 := HLT.out k1 hk1b
        have HZ : RowKit.Hid ((acc ++ [lt k1]) ++ sealP v' 4 (l.drop (i + 1)) = X) := by
          show _ = _
          have e := HQ'.out
          rw [show 2 + 8 = 10 from rfl, emit10, ltc hk1] at e
          rw [List.append_assoc]
          exact e
        clear hk1 HQ'
        go_wp2
        refine wp_loop_rounds 3 ?_
        rw [rounds_succ]
        go_wp2_with ((go_at_call 66; refine (writeByte_any _ _ _ _ (HI.out) (by first | omega | (simp; omega)) (by first | omega | (simp; omega))).mono ?_; rintro e w' ⟨rfl, h1, b1, s1⟩))
        rw [rounds_succ]
        go_wp2
        go_roundw
        case rel =>
          have hz : (acc ++ [lt k1]).length = acc.length + 1 := by rw [List.length_append]; rfl
          exact ⟨i + 1, v', 4, acc ++ [lt k1], rfl, rfl, by go_num, by omega, hv'b, by omega, by omega, h1, hbw.trans b1, HZ⟩
        case measure => simp [intOf]; omega
      · skip
        obtain ⟨k1, hk1⟩ : ∃ k : Nat, v' / 64 % 64 = k := ⟨_, rfl⟩
        have hk1b : k1 < 64 := by omega
        have hma1 : bits .and .u32 ((v' : Int) / 64) 63 = (k1 : Nat) := by
          have := mask63 (v' / 64) (by omega)
          rw [show (((v' : Int) / 64) : Int) = ((v' / 64 : Nat) : Int) by omega, this, hk1]
        have hbt1 := HLT.out k1 hk1b
        obtain ⟨k2, hk2⟩ : ∃ k : Nat, v' % 64 = k := ⟨_, rfl⟩
        have hk2b : k2 < 64 := by omega
        have hma2 : bits .and .u32 ((v' : Int)) 63 = (k2 : Nat) := by
          have := mask63 (v') (by omega)
          rw [show (((v' : Int)) : Int) = ((v' : Nat) : Int) by omega, this, hk2]
        have hbt2 := HLT.out k2 hk2b
        have HZ : RowKit.Hid ((acc ++ [lt k1, lt k2]) ++ sealP v' 0 (l.drop (i + 1)) = X) := by
          show _ = _
          have e := HQ'.out
          rw [show 4 + 8 = 12 from rfl, emit12, ltc hk1, ltc hk2] at e
          rw [List.append_assoc]
          exact e
        clear hk1 hk2 HQ'
        go_wp2
        refine wp_loop_rounds 3 ?_
        rw [rounds_succ]
        go_wp2_with ((go_at_call 66; refine (writeByte_any _ _ _ _ (HI.out) (by first | omega | (simp; omega)) (by first | omega | (simp; omega))).mono ?_; rintro e w' ⟨rfl, h1, b1, s1⟩))
        rw [rounds_succ]
        go_wp2_with ((go_at_call 66; refine (writeByte_any _ _ _ _ (h1) (by first | omega | (simp; omega)) (by first | omega | (simp; omega))).mono ?_; rintro e w' ⟨rfl, h2, b2, s2⟩))
        rw [rounds_succ]
        go_wp2
        go_roundw
        case rel =>
          have hz : (acc ++ [lt k1, lt k2]).length = acc.length + 2 := by rw [List.length_append]; rfl
          exact ⟨i + 1, v', 0, acc ++ [lt k1, lt k2], rfl, rfl, by go_num, by omega, hv'b, by omega, by omega, by have := h2; rw [List.append_assoc] at this; exact this, hbw.trans (b1.trans b2), HZ⟩
        case measure => simp [intOf]; omega
    · have e : i = len := by omega
      subst e
      have HQ' : RowKit.Hid (acc ++ sealP v wd [] = X) := by
        show _ = _
        have e := HQ.out
        rw [drop_end l i (by omega)] at e
        exact e
      have HI := Lib.hid hI
      clear hI HQ
      rcases hwd with ⟨rfl, hm⟩ | ⟨rfl, hm⟩ | ⟨rfl, hm⟩
      · have hX : X = acc := by rw [← HQ'.out]; simp [sealP]
        have HY : RowKit.Hid (Y = acc) := by
          show _ = _
          rw [← HP.out, hX]
          unfold padF
          rw [show (4 - acc.length % 4) % 4 = 0 by omega]
          simp
        have hm4 : (acc.length : Int) % 4 = 0 := by omega
        clear hX
        go_wp2
        refine wp_loop_rounds 1 ?_
        rw [rounds_succ]
        go_wp2_with (first | (go_at_call 85; refine (len_any _ _ _ (HI.out)).mono ?_; rintro e w' ⟨rfl, rfl⟩) | (go_at_call 67; refine (Tryd.Builder_String_any_k w.heap.size w.heap.size (acc) _ (HI.out) (by first | omega | (simp; omega))).mono ?_; rintro e w' ⟨rfl, _, bq, _⟩))
        go_ret
        exact ⟨ret_strE (by rw [HY.out]; rfl), hbw.trans bq⟩
      · skip
        obtain ⟨k1, hk1⟩ : ∃ k : Nat, v * 16 % 4294967296 % 64 = k := ⟨_, rfl⟩
        have hk1b : k1 < 64 := by omega
        have hma1 : bits .and .u32 ((v : Int) * 16 % 4294967296) 63 = (k1 : Nat) := by
          have := mask63 (v * 16 % 4294967296) (by omega)
          rw [show (((v : Int) * 16 % 4294967296) : Int) = ((v * 16 % 4294967296 : Nat) : Int) by omega, this, hk1]
        have hbt1 := HLT.out k1 hk1b
        have hX : X = acc ++ [lt k1] := by
          rw [← HQ'.out]
          simp only [sealP, Nat.reduceSub, Nat.reducePow, Nat.reduceLT, if_true]
          rw [ltc (show v * 16 % 64 = k1 by omega)]
        obtain ⟨A1, hA1⟩ : ∃ A, acc ++ [lt k1] = A := ⟨_, rfl⟩
        have HA1 := Lib.hid hA1
        have n1 : A1.length = acc.length + 1 := by rw [← hA1, List.length_append]; rfl
        obtain ⟨A2, hA2⟩ : ∃ A, A1 ++ [61] = A := ⟨_, rfl⟩
        have HA2 := Lib.hid hA2
        have n2 : A2.length = acc.length + 2 := by rw [← hA2, List.length_append, n1]; rfl
        obtain ⟨A3, hA3⟩ : ∃ A, A2 ++ [61] = A := ⟨_, rfl⟩
        have HA3 := Lib.hid hA3
        have n3 : A3.length = acc.length + 3 := by rw [← hA3, List.length_append, n2]; rfl
        have HY : RowKit.Hid (Y = A3) := by
          show _ = _
          rw [← HP.out, hX]
          unfold padF
          rw [hA1, n1, show (4 - (acc.length + 1) % 4) % 4 = 2 by omega]
          rw [← hA3, ← hA2]
          simp
        have z1 : (A1.length : Int) % 4 = 2 := by omega
        have z2 : (A2.length : Int) % 4 = 3 := by omega
        have z3 : (A3.length : Int) % 4 = 0 := by omega
        clear hX hk1 hA1 hA2 hA3
        go_wp2_with ((go_at_call 66; refine (writeAs_any _ _ A1 _ _ (HI.out) HA1 (by omega) (by first | omega | (simp; omega))).mono ?_; rintro e w' ⟨rfl, g1, d1, s1⟩))
        refine wp_loop_rounds 3 ?_
        rw [rounds_succ]
        go_wp2_with (first | (go_at_call 85; refine (len_any _ _ _ (g1)).mono ?_; rintro e w' ⟨rfl, rfl⟩) | (go_at_call 66; refine (writeEq_any _ _ A2 _ (g1) HA2 (by omega) (by first | omega | (simp; omega))).mono ?_; rintro e w' ⟨rfl, g2, d2, s2⟩))
        rw [rounds_succ]
        go_wp2_with (first | (go_at_call 85; refine (len_any _ _ _ (g2)).mono ?_; rintro e w' ⟨rfl, rfl⟩) | (go_at_call 66; refine (writeEq_any _ _ A3 _ (g2) HA3 (by omega) (by first | omega | (simp; omega))).mono ?_; rintro e w' ⟨rfl, g3, d3, s3⟩))
        rw [rounds_succ]
        go_wp2_with (first | (go_at_call 85; refine (len_any _ _ _ (g3)).mono ?_; rintro e w' ⟨rfl, rfl⟩) | (go_at_call 67; refine (Tryd.Builder_String_any_k w.heap.size w.heap.size (A3) _ (g3) (by first | omega | (simp; omega))).mono ?_; rintro e w' ⟨rfl, _, bq, _⟩))
        go_ret
        exact ⟨ret_strE (by rw [HY.out]; rfl), hbw.trans (((d1.trans d2).trans d3).trans bq)⟩
      · skip
        obtain ⟨k1, hk1⟩ : ∃ k : Nat, v * 4 % 4294967296 % 64 = k := ⟨_, rfl⟩
        have hk1b : k1 < 64 := by omega
        have hma1 : bits .and .u32 ((v : Int) * 4 % 4294967296) 63 = (k1 : Nat) := by
          have := mask63 (v * 4 % 4294967296) (by omega)
          rw [show (((v : Int) * 4 % 4294967296) : Int) = ((v * 4 % 4294967296 : Nat) : Int) by omega, this, hk1]
        have hbt1 := HLT.out k1 hk1b
        have hX : X = acc ++ [lt k1] := by
          rw [← HQ'.out]
          simp only [sealP, Nat.reduceSub, Nat.reducePow, Nat.reduceLT, if_true]
          rw [ltc (show v * 4 % 64 = k1 by omega)]
        obtain ⟨A1, hA1⟩ : ∃ A, acc ++ [lt k1] = A := ⟨_, rfl⟩
        have HA1 := Lib.hid hA1
        have n1 : A1.length = acc.length + 1 := by rw [← hA1, List.length_append]; rfl
        obtain ⟨A2, hA2⟩ : ∃ A, A1 ++ [61] = A := ⟨_, rfl⟩
        have HA2 := Lib.hid hA2
        have n2 : A2.length = acc.length + 2 := by rw [← hA2, List.length_append, n1]; rfl
        have HY : RowKit.Hid (Y = A2) := by
          show _ = _
          rw [← HP.out, hX]
          unfold padF
          rw [hA1, n1, show (4 - (acc.length + 1) % 4) % 4 = 1 by omega]
          rw [← hA2]
          simp
        have z1 : (A1.length : Int) % 4 = 3 := by omega
        have z2 : (A2.length : Int) % 4 = 0 := by omega
        clear hX hk1 hA1 hA2
        go_wp2_with ((go_at_call 66; refine (writeAs_any _ _ A1 _ _ (HI.out) HA1 (by omega) (by first | omega | (simp; omega))).mono ?_; rintro e w' ⟨rfl, g1, d1, s1⟩))
        refine wp_loop_rounds 2 ?_
        rw [rounds_succ]
        go_wp2_with (first | (go_at_call 85; refine (len_any _ _ _ (g1)).mono ?_; rintro e w' ⟨rfl, rfl⟩) | (go_at_call 66; refine (writeEq_any _ _ A2 _ (g1) HA2 (by omega) (by first | omega | (simp; omega))).mono ?_; rintro e w' ⟨rfl, g2, d2, s2⟩))
        rw [rounds_succ]
        go_wp2_with (first | (go_at_call 85; refine (len_any _ _ _ (g2)).mono ?_; rintro e w' ⟨rfl, rfl⟩) | (go_at_call 67; refine (Tryd.Builder_String_any_k w.heap.size w.heap.size (A2) _ (g2) (by first | omega | (simp; omega))).mono ?_; rintro e w' ⟨rfl, _, bq, _⟩))
        go_ret
        exact ⟨ret_strE (by rw [HY.out]; rfl), hbw.trans ((d1.trans d2).trans bq)⟩
end Go.Proofs.YtkledfalplekeaaDoor
