/- Which title a block is. -/
import Derived.Test.YtebfjmjdcbeekaaDoorWeaJ
namespace Go.Proofs.YtebfjmjdcbeekaaDoor
open Go.RowKit Go.PlainAid
set_option linter.unusedVariables false
set_option linter.unusedSimpArgs false

theorem equal20_any (a1 a2 : Option Addr) (n c m d : Nat) (l1 l2 : List UInt8) (w : World) (h1 : BytA w a1 n c l1) (h2 : BytA w a2 m d l2) :
    Calls Tryd.prog 31 #[.slice a1 n c, .slice a2 m d] w fun e w' => e = .returned (.bool (l1 == l2)) ∧ w = w' := by
  have k1 := h1.conv w (Below.refl _ _)
  have k2 := h2.conv w (Below.refl _ _)
  go_enter Tryd.func31, Tryd.ntmps31
  go_wp2
  go_ret
  refine ⟨?_, rfl⟩
  have e : ((ba l1).toList == (ba l2).toList) = (l1 == l2) := by rw [Lib.toList_data, Lib.toList_data, list_ba, list_ba]
  rw [← e]
  rfl
theorem BytA.tail {w : World} {r off n cap : Nat} {l : List UInt8} (h : BytA w (some ⟨r, off, none⟩) n cap l) (hn : 1 ≤ n) : BytA w (some ⟨r, off + 1, none⟩) (n - 1) (cap - 1) l.tail := by
  refine ⟨⟨by rw [nz_len, List.length_tail, h.hl], ?_⟩, by rw [List.length_tail, h.hl], by have := h.hc; omega, fun e => by cases e⟩
  by_cases h0 : n - 1 = 0
  · exact .inl h0
  · obtain ⟨b, o, e, hb, hc⟩ := h.addr (by omega)
    injection e with e
    injection e with e1 e2
    subst e1
    subst e2
    have hm : n ≤ 9223372036854775807 := by
      rcases h.hi.2 with h0 | ⟨_, _, _, _, h3, _⟩
      · omega
      · exact h3
    refine .inr ⟨r, off + 1, rfl, hb, by omega, fun j hj => ?_⟩
    have := hc (j + 1) (by omega)
    rw [show off + 1 + j = off + (j + 1) by omega, this, nz_get, nz_get]
    simp [List.getD_eq_getElem?_getD, List.getElem?_tail]
set_option maxRecDepth 100000 in
set_option maxHeartbeats 1000000 in
theorem titleOf_any (r off n cap : Nat) (l : List UInt8) (w : World) (h : BytA w (some ⟨r, off, none⟩) n cap l) (hn : 1 ≤ n) (hc : 1 < cap) (hm : cap ≤ 1000) :
    Calls Tryd.prog 21 #[.slice (some ⟨r, off, none⟩) n cap] w fun x w' => x = .returned (.tuple #[.string (ba (cutB l.tail)), .bool (blkF (titleF (cutB l.tail)) == l)]) ∧ Below w.heap.size w w' := by
  have hv := (h.tail hn).conv w (Below.refl _ _)
  have hl := h.hl
  have hcap := h.hc
  have hl1 : l.tail.length = n - 1 := by rw [List.length_tail, hl]
  have H := Lib.hid h
  have HE : RowKit.Hid (cutB l.tail = Lib.trimSuffix (Lib.trimPrefix (Lib.trimRightB l.tail 0) ahead20) behind20) := rfl
  have h1 : (Lib.trimRightB l.tail 0).length ≤ l.tail.length := by
    unfold Lib.trimRightB
    rw [List.length_reverse]
    exact Nat.le_trans (List.dropWhile_sublist _).length_le (by simp)
  have h2 := Lib.trimPrefix_le (Lib.trimRightB l.tail 0) ahead20
  have h3 := Lib.trimSuffix_le (Lib.trimPrefix (Lib.trimRightB l.tail 0) ahead20) behind20
  obtain ⟨t0, ht0⟩ : ∃ t, l.tail = t := ⟨_, rfl⟩
  rw [ht0] at hv HE hl1 h1 h2 h3 ⊢
  obtain ⟨t1, ht1⟩ : ∃ t, Lib.trimRightB t0 0 = t := ⟨_, rfl⟩
  rw [ht1] at HE h1 h2 h3
  obtain ⟨t2, ht2⟩ : ∃ t, Lib.trimPrefix t1 ahead20 = t := ⟨_, rfl⟩
  rw [ht2] at HE h2 h3
  obtain ⟨t3, ht3⟩ : ∃ t, Lib.trimSuffix t2 behind20 = t := ⟨_, rfl⟩
  rw [ht3] at HE h3
  rw [HE.out]
  have C1 := Tryd.strings_TrimRight_one (ba t0) 0 (by decide) w (by rw [ba_size]; omega)
  have C2 := Tryd.strings_TrimPrefix (ba t1) ⟨#[83, 116, 114, 101, 97, 109, 84, 105, 116, 108, 101, 61, 39]⟩ w
  have C3 := Tryd.strings_TrimSuffix (ba t2) ⟨#[39, 59]⟩ w (by rw [ba_size]; omega)
  have e1 : (⟨(Lib.trimRightB (ba t0).data.toList 0).toArray⟩ : ByteArray) = ba t1 := by rw [list_ba, ht1]; rfl
  have e2 : (⟨(Lib.trimPrefix (ba t1).data.toList (⟨#[83, 116, 114, 101, 97, 109, 84, 105, 116, 108, 101, 61, 39]⟩ : ByteArray).data.toList).toArray⟩ : ByteArray) = ba t2 := by
    rw [list_ba]
    show (⟨(Lib.trimPrefix t1 ahead20).toArray⟩ : ByteArray) = _
    rw [ht2]
    rfl
  have e3 : (⟨(Lib.trimSuffix (ba t2).data.toList (⟨#[39, 59]⟩ : ByteArray).data.toList).toArray⟩ : ByteArray) = ba t3 := by
    rw [list_ba]
    show (⟨(Lib.trimSuffix t2 behind20).toArray⟩ : ByteArray) = _
    rw [ht3]
    rfl
  rw [e1] at C1
  rw [e2] at C2
  rw [e3] at C3
  have C4 := block_any (ba t3) w (by rw [ba_size]; omega)
  rw [list_ba] at C4
  have HL : RowKit.Hid ((blkF (titleF t3)).length ≤ 81) := blkF_le (titleF_len _)
  generalize titleF t3 = T at *
  have C1 := Lib.hid C1
  have C2 := Lib.hid C2
  have C3 := Lib.hid C3
  have C4 := Lib.hid C4
  generalize ba t0 = s0 at *
  generalize ba t1 = s1 at *
  generalize ba t2 = s2 at *
  generalize ba t3 = s3 at *
  have hq : (1 : Int) ≤ (n : Int) := by omega

  have hq2 : ¬ cap = 1 := by omega
  clear e1 e2 e3 ht0 ht1 ht2 ht3 h1 h2 h3 HE h
  go_enter Tryd.func21, Tryd.ntmps21
  go_wp2_with (first
    | (go_at_call 28; go_loud (refine C1.out.mono ?_); rintro e w1 ⟨rfl, rfl⟩)
    | (go_at_call 30; go_loud (refine C2.out.mono ?_); rintro e w1 ⟨rfl, rfl⟩)
    | (go_at_call 29; go_loud (refine C3.out.mono ?_); rintro e w1 ⟨rfl, rfl⟩)
    | (go_at_call 16; go_loud (refine C4.out.mono ?_); rintro e w5 ⟨g5, rfl, hr5, hg5, hb5⟩; have HA5 := Lib.hid (BytA.row hr5 (by have := HL.out; omega)); have HB5 := Lib.hid hb5; clear hr5 hg5 hb5)
    | (go_at_call 31; go_loud (refine (equal20_any _ _ _ _ _ _ _ _ _ HA5.out (H.out.below HB5.out)).mono ?_); rintro e w6 ⟨rfl, rfl⟩)
    | fail)
  go_ret2
  exact ⟨rfl, HB5.out⟩
end Go.Proofs.YtebfjmjdcbeekaaDoor
