/- Bytes sealed by the document's answer. -/
import Derived.Test.YtkledfalplekeaaDoorWrdE
import Derived.Test.YtkledfalplekeaaDoorWrdS
import Derived.Test.YtkledfalplekeaaDoorMemA
namespace Go.Proofs.YtkledfalplekeaaDoor
open Go.RowKit Go.PlainAid
set_option linter.unusedVariables false

/-- Bytes as numbers. -/
def bz (l : List UInt8) : List Int := l.map fun b => (b.toNat : Int)
theorem bz_len (l : List UInt8) : (bz l).length = l.length := by simp [bz]
theorem bz_get (l : List UInt8) (j : Nat) : (bz l).getD j 0 = ((l.getD j 0).toNat : Int) := by
  unfold bz
  rw [List.getD_eq_getElem?_getD, List.getD_eq_getElem?_getD, List.getElem?_map]
  cases l[j]? <;> rfl
theorem text_bz (l : List UInt8) : textOf (bz l) = ba l := by
  have h : ∀ (l : List UInt8) (r : ByteArray), (bz l).foldl (fun r n => r.push (UInt8.ofNat n.toNat)) r = r ++ ba l := by
    intro l
    induction l with
    | nil =>
      intro r
      rw [← ba_list r, ba_append]
      simp [bz]
    | cons b t ih =>
      intro r
      show (bz t).foldl _ (r.push (UInt8.ofNat ((b.toNat : Int)).toNat)) = _
      rw [ih]
      have : r.push (UInt8.ofNat ((b.toNat : Int)).toNat) = r ++ ba [b] := by
        apply (ba_of (l := r.data.toList ++ [b]) ?_).trans
        · rw [← ba_append, ba_list]
        · simp
      rw [this]
      conv => lhs; rw [← ba_list r, ba_append, ba_append]
      conv => rhs; rw [← ba_list r, ba_append]
      simp
  unfold textOf
  rw [h]
  have : (ByteArray.empty : ByteArray) = ba [] := rfl
  rw [this, ba_append]
  rfl
theorem L64_fin : ∀ k : Fin 64, ((ba L64).extract k.val (k.val + 1)).data.toList = [lt k.val] := by decide +kernel
theorem refLetter_any (n : Int) (w : World) (h0 : 0 ≤ n) (h1 : n < 64) :
    Calls Tryd.prog 26 #[.int .i64 n] w fun e w' => (∃ R : ByteArray, e = .returned (.string R) ∧ R.size = 1 ∧ RowKit.Hid (R = ba [lt n.toNat])) ∧ w = w' := by
  have hx : (ba L64).extract n.toNat (n + 1).toNat = ba [lt n.toNat] := by
    apply ba_of
    have := L64_fin ⟨n.toNat, by omega⟩
    simp only at this
    rw [← this, show (n + 1).toNat = n.toNat + 1 by omega]
  go_enter Tryd.func26, Tryd.ntmps26
  go_wp2
  go_ret
  refine ⟨⟨_, rfl, ?_, hx⟩, rfl⟩
  show ((ba L64).extract n.toNat (n + 1).toNat).size = 1
  rw [hx, ba_size]
  rfl

theorem drop_cons (l : List UInt8) (i : Nat) (h : i < l.length) : l.drop i = l.getD i 0 :: l.drop (i + 1) := by
  rw [List.drop_eq_getElem_cons h, List.getD_eq_getElem?_getD, List.getElem?_eq_getElem h]
  rfl
theorem drop_end (l : List UInt8) (i : Nat) (h : l.length ≤ i) : l.drop i = [] := List.drop_of_length_le h
set_option maxHeartbeats 4000000 in
set_option maxRecDepth 1000000 in
theorem refSeal_any (a : Option Addr) (l : List UInt8) (len cap B : Nat) (w : World) (hl : l.length = len) (hs : len ≤ 1000) (h : IntsAt w B .u8 a len (bz l)) :
    Calls Tryd.prog 17 #[.slice a len cap] w fun e w' => e = .returned (.string (ba (sealL l))) ∧ w = w' := by
  obtain ⟨X, hX⟩ : ∃ X, sealL l = X := ⟨_, rfl⟩
  have HX := Lib.hid hX
  rw [hX]
  clear hX
  have H := Lib.hid h
  clear h
  go_enter Tryd.func17, Tryd.ntmps17
  go_wp2
  go_loop [3, 4] (fun o v => ∃ (i : Nat) (acc : List UInt8) (q : ByteArray), o = .string q ∧ v = .int .i64 i ∧ i ≤ len + 2 ∧ q.size = acc.length ∧ acc.length ≤ 2 * i ∧ RowKit.Hid (q = ba acc ∧ acc ++ sealL (l.drop i) = X)) (fun _ v => len + 3 - (intOf v).toNat)
  case atStart => exact ⟨0, [], ⟨#[]⟩, rfl, rfl, by omega, rfl, by simp, rfl, by rw [← HX.out]; rfl⟩
  case round =>
    obtain ⟨i, acc, q, rfl, rfl, hi, hq, hqi, HQ⟩ := hrel
    by_cases hlt : i < len
    · obtain ⟨g, off, ha, hg, hlen, hcell⟩ := H.out.2.resolve_left (by omega)
      subst ha
      obtain ⟨b0, hb0⟩ : ∃ b : Nat, (l.getD i 0).toNat = b := ⟨_, rfl⟩
      have m0 : b0 < 256 := by rw [← hb0]; exact UInt8.toNat_lt _
      have c0 : w.cell? ⟨g, off + i, none⟩ = some (.int .u8 b0) := by rw [hcell i hlt, bz_get, hb0]
      by_cases h1 : i + 1 < len
      · obtain ⟨b1, hb1⟩ : ∃ b : Nat, (l.getD (i + 1) 0).toNat = b := ⟨_, rfl⟩
        have m1 : b1 < 256 := by rw [← hb1]; exact UInt8.toNat_lt _
        have c1 : w.cell? ⟨g, off + (i + 1), none⟩ = some (.int .u8 b1) := by rw [hcell (i + 1) h1, bz_get, hb1]
        by_cases h2 : i + 2 < len
        · obtain ⟨b2, hb2⟩ : ∃ b : Nat, (l.getD (i + 2) 0).toNat = b := ⟨_, rfl⟩
          have m2 : b2 < 256 := by rw [← hb2]; exact UInt8.toNat_lt _
          have c2 : w.cell? ⟨g, off + (i + 2), none⟩ = some (.int .u8 b2) := by rw [hcell (i + 2) h2, bz_get, hb2]
          clear hcell
          go_wp2_with (go_at_call 26; refine (refLetter_any _ _ (by omega) (by omega)).mono ?_; rintro e w' ⟨⟨R, rfl, hRs, HR⟩, rfl⟩)
          rename_i R0 hs0 HR0 hw R1 hs1 HR1 R2 hs2 HR2
          have HZ : RowKit.Hid (q ++ R0 ++ R1 ++ R2 ++ R = ba (acc ++ [lt (b0 / 4), lt (b0 % 4 * 16 + b1 / 16), lt (b1 % 16 * 4 + b2 / 64), lt (b2 % 64)]) ∧ (acc ++ [lt (b0 / 4), lt (b0 % 4 * 16 + b1 / 16), lt (b1 % 16 * 4 + b2 / 64), lt (b2 % 64)]) ++ sealL (l.drop (i + 3)) = X) := by
            constructor
            · rw [HQ.out.1, HR0.out, HR1.out, HR2.out, HR.out]
              show ba acc ++ ba [lt _] ++ ba [lt _] ++ ba [lt _] ++ ba [lt _] = _
              rw [ba_append, ba_append, ba_append, ba_append]
              simp only [List.append_assoc, List.cons_append, List.nil_append]
              congr 2
              rw [ltc (show ((↑b0 * 65536 + ↑b1 * 256 + ↑b2 : Int) / 262144).toNat = b0 / 4 by omega), ltc (show ((↑b0 * 65536 + ↑b1 * 256 + ↑b2 : Int) / 4096 % 64).toNat = b0 % 4 * 16 + b1 / 16 by omega), ltc (show ((↑b0 * 65536 + ↑b1 * 256 + ↑b2 : Int) / 64 % 64).toNat = b1 % 16 * 4 + b2 / 64 by omega), ltc (show ((↑b0 * 65536 + ↑b1 * 256 + ↑b2 : Int) % 64).toNat = b2 % 64 by omega)]
            · rw [← HQ.out.2, List.append_assoc]
              congr 1
              rw [drop_cons l i (by omega), drop_cons l (i + 1) (by omega), drop_cons l (i + 1 + 1) (by omega)]
              simp only [sealL, hb0, hb1, show i + 1 + 1 = i + 2 from rfl, hb2, show i + 2 + 1 = i + 3 from rfl]
              rfl
          go_round
          case rel =>
            have hz : (acc ++ [lt (b0 / 4), lt (b0 % 4 * 16 + b1 / 16), lt (b1 % 16 * 4 + b2 / 64), lt (b2 % 64)]).length = acc.length + 4 := by rw [List.length_append]; rfl
            exact ⟨i + 3, _, _, rfl, by go_num, by omega, by rw [HZ.out.1, ba_size], by omega, HZ.out⟩
          case measure => simp [intOf]; omega
        · skip
          clear hcell
          go_wp2_with (go_at_call 26; refine (refLetter_any _ _ (by omega) (by omega)).mono ?_; rintro e w' ⟨⟨R, rfl, hRs, HR⟩, rfl⟩)
          rename_i R0 hs0 HR0 hw R1 hs1 HR1 hy
          have HZ : RowKit.Hid (q ++ R0 ++ R1 ++ R ++ ⟨#[61]⟩ = ba (acc ++ [lt (b0 / 4), lt (b0 % 4 * 16 + b1 / 16), lt (b1 % 16 * 4), 61]) ∧ (acc ++ [lt (b0 / 4), lt (b0 % 4 * 16 + b1 / 16), lt (b1 % 16 * 4), 61]) ++ sealL (l.drop (i + 3)) = X) := by
            constructor
            · rw [HQ.out.1, HR0.out, HR1.out, HR.out]
              show ba acc ++ ba [lt _] ++ ba [lt _] ++ ba [lt _] ++ ba [61] = _
              rw [ba_append, ba_append, ba_append, ba_append]
              simp only [List.append_assoc, List.cons_append, List.nil_append]
              congr 2
              rw [ltc (show ((↑b0 * 65536 + ↑b1 * 256 : Int) / 262144).toNat = b0 / 4 by omega), ltc (show ((↑b0 * 65536 + ↑b1 * 256 : Int) / 4096 % 64).toNat = b0 % 4 * 16 + b1 / 16 by omega), ltc (show ((↑b0 * 65536 + ↑b1 * 256 : Int) / 64 % 64).toNat = b1 % 16 * 4 by omega)]
            · rw [← HQ.out.2, List.append_assoc]
              congr 1
              rw [drop_cons l i (by omega), drop_cons l (i + 1) (by omega), drop_end l (i + 1 + 1) (by omega), drop_end l (i + 3) (by omega)]
              simp only [sealL, hb0, hb1]
              rfl
          go_round
          case rel =>
            have hz : (acc ++ [lt (b0 / 4), lt (b0 % 4 * 16 + b1 / 16), lt (b1 % 16 * 4), 61]).length = acc.length + 4 := by rw [List.length_append]; rfl
            exact ⟨i + 3, _, _, rfl, by go_num, by omega, by rw [HZ.out.1, ba_size], by omega, HZ.out⟩
          case measure => simp [intOf]; omega
      · skip
        clear hcell
        go_wp2_with (go_at_call 26; refine (refLetter_any _ _ (by omega) (by omega)).mono ?_; rintro e w' ⟨⟨R, rfl, hRs, HR⟩, rfl⟩)
        rename_i R0 hs0 HR0 hw hy hx
        have HZ : RowKit.Hid (q ++ R0 ++ R ++ ⟨#[61]⟩ ++ ⟨#[61]⟩ = ba (acc ++ [lt (b0 / 4), lt (b0 % 4 * 16), 61, 61]) ∧ (acc ++ [lt (b0 / 4), lt (b0 % 4 * 16), 61, 61]) ++ sealL (l.drop (i + 3)) = X) := by
          constructor
          · rw [HQ.out.1, HR0.out, HR.out]
            show ba acc ++ ba [lt _] ++ ba [lt _] ++ ba [61] ++ ba [61] = _
            rw [ba_append, ba_append, ba_append, ba_append]
            simp only [List.append_assoc, List.cons_append, List.nil_append]
            congr 2
            rw [ltc (show ((↑b0 * 65536 : Int) / 262144).toNat = b0 / 4 by omega), ltc (show ((↑b0 * 65536 : Int) / 4096 % 64).toNat = b0 % 4 * 16 by omega)]
          · rw [← HQ.out.2, List.append_assoc]
            congr 1
            rw [drop_cons l i (by omega), drop_end l (i + 1) (by omega), drop_end l (i + 3) (by omega)]
            simp only [sealL, hb0]
            rfl
        go_round
        case rel =>
          have hz : (acc ++ [lt (b0 / 4), lt (b0 % 4 * 16), 61, 61]).length = acc.length + 4 := by rw [List.length_append]; rfl
          exact ⟨i + 3, _, _, rfl, by go_num, by omega, by rw [HZ.out.1, ba_size], by omega, HZ.out⟩
        case measure => simp [intOf]; omega
    · have HN : RowKit.Hid (X = acc) := by
        show _ = _
        have e := HQ.out.2
        rw [drop_end l i (by omega)] at e
        rw [← e]
        simp [sealL]
      go_wp2
      go_ret
      exact ⟨ret_strE (by rw [HQ.out.1, HN.out]), rfl⟩
end Go.Proofs.YtkledfalplekeaaDoor
