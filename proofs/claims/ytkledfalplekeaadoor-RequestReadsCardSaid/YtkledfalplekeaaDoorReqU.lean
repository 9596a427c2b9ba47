/- What the functions of package request give: versions, paths, passwords. -/
import Derived.Test.YtkledfalplekeaaDoorReqS
import Derived.Test.YtkledfalplekeaaDoorReqH
import Derived.Test.YtkledfalplekeaaDoorWrdX
import Derived.Test.YtkledfalplekeaaDoorWrdD
namespace Go.Proofs.YtkledfalplekeaaDoor
open Go.RowKit Go.PlainAid
set_option linter.unusedVariables false

theorem str_beq (s : ByteArray) (v : List UInt8) : (s.toList == v) = decide (s.data.toList = v) := by
  rw [ByteArray.toList_eq, Bool.eq_iff_iff, beq_iff_eq, decide_eq_true_eq]
set_option maxHeartbeats 2000000 in
theorem isVersion_any (s : ByteArray) (w : World) : Calls Tryd.prog 36 #[.string s] w fun e w' => e = .returned (.bool (verF s.data.toList)) ∧ w = w' := by
  have v1 : (s.toList == [72, 84, 84, 80, 47, 49, 46, 48]) = decide (s.data.toList = ver1) := str_beq _ _
  have v2 : (s.toList == [72, 84, 84, 80, 47, 49, 46, 49]) = decide (s.data.toList = ver2) := str_beq _ _
  have v3 : (s.toList == [73, 67, 69, 47, 49, 46, 48]) = decide (s.data.toList = ver3) := str_beq _ _
  rcases verF_cases s.data.toList with ⟨hv, h | ⟨h1, h⟩ | ⟨h1, h2, h⟩⟩ | ⟨hv, h1, h2, h3⟩
  · rw [decide_eq_true h] at v1
    rw [hv]
    clear h hv v2 v3
    go_enter Tryd.func36, Tryd.ntmps36
    go_wp2
    go_ret
    exact ⟨rfl, rfl⟩
  · rw [decide_eq_false h1] at v1
    rw [decide_eq_true h] at v2
    rw [hv]
    clear h hv h1 v3
    go_enter Tryd.func36, Tryd.ntmps36
    go_wp2
    go_ret
    exact ⟨rfl, rfl⟩
  · rw [decide_eq_false h1] at v1
    rw [decide_eq_false h2] at v2
    rw [decide_eq_true h] at v3
    rw [hv]
    clear h hv h1 h2
    go_enter Tryd.func36, Tryd.ntmps36
    go_wp2
    go_ret
    exact ⟨rfl, rfl⟩
  · rw [decide_eq_false h1] at v1
    rw [decide_eq_false h2] at v2
    rw [decide_eq_false h3] at v3
    rw [hv]
    clear hv h1 h2 h3
    go_enter Tryd.func36, Tryd.ntmps36
    go_wp2
    go_ret
    exact ⟨rfl, rfl⟩
set_option maxHeartbeats 2000000 in
theorem isPath_any (m : Nat) (s : ByteArray) (w : World) (hs : s.size ≤ 1000) : Calls Tryd.prog 35 #[.int .i64 (m : Int), .string s] w fun e w' => e = .returned (.bool (pathF m s.data.toList)) ∧ w = w' := by
  by_cases hm : m = 4
  · subst hm
    have v1 : (s.toList == [47]) = (s.data.toList == [47]) := by rw [ByteArray.toList_eq]
    have e : pathF 4 s.data.toList = (s.data.toList == [47]) := rfl
    rw [e]
    generalize (s.data.toList == [47]) = x at *
    go_enter Tryd.func35, Tryd.ntmps35
    go_wp2
    go_ret
    exact ⟨rfl, rfl⟩
  · have q : ((m : Int) == 4) = false := by
      have : ¬ (m : Int) = 4 := by omega
      simpa using this
    have e : pathF m s.data.toList = mountF s.data.toList := by unfold pathF; rw [if_neg hm]
    rw [e]
    have C := mount_any s w hs
    clear hm e
    go_enter Tryd.func35, Tryd.ntmps35
    go_wp2_with (go_at_call 44; refine C.mono ?_; rintro e w' ⟨rfl, rfl⟩)
    go_ret
    exact ⟨rfl, rfl⟩
def srcC : List UInt8 := [115, 111, 117, 114, 99, 101, 58]
theorem cut_whole (l : List UInt8) (c : UInt8) (h : cutY l c = true) : l = cutA l c ++ c :: cutB l c := by
  induction l with
  | nil => simp [cutY] at h
  | cons b l ih =>
    by_cases hb : b = c
    · simp [cutA, cutB, hb]
    · have := ih (by simpa [cutY, hb] using h)
      simp only [cutA, cutB, hb, if_false, List.cons_append]
      rw [← this]
theorem passO_prefix (o : List UInt8) : passO o = if Lib.hasPrefix o srcC then some (Lib.trimPrefix o srcC) else none := by
  by_cases h : Lib.hasPrefix o srcC = true
  · rw [if_pos h]
    have h2 : srcC <+: o := by simpa [Lib.hasPrefix] using h
    obtain ⟨t, rfl⟩ := h2
    have e : srcC ++ t = srcN ++ 58 :: t := rfl
    unfold passO Lib.trimPrefix
    rw [h, e]
    obtain ⟨e1, e2, e3⟩ := cut_join srcN t 58 (by decide)
    rw [e1, e2, e3]
    rfl
  · rw [if_neg h]
    unfold passO
    cases hy : cutY o 58 with
    | false => rfl
    | true =>
      by_cases ha : cutA o 58 = srcN
      · exfalso
        apply h
        have := cut_whole o 58 hy
        rw [ha] at this
        rw [this]
        show List.isPrefixOf srcC (srcC ++ cutB o 58) = true
        simp
      · have : (cutA o 58 == srcN) = false := by simpa using ha
        rw [this]
        rfl
/-- What a password's reading gives. -/
def PassPost (v : List UInt8) (w : World) (e : Ending) (w' : World) : Prop :=
  Below w.heap.size w w' ∧ ((∃ p, passF v = some p ∧ p.length ≤ 1000 ∧ e = .returned (.tuple #[.string (ba p), .bool true])) ∨ (passF v = none ∧ ∃ x, e = .returned (.tuple #[.string x, .bool false])))
set_option maxHeartbeats 8000000 in
set_option maxRecDepth 100000 in
theorem password_any (v : List UInt8) (w : World) (hs : v.length ≤ 1000) (hT : Lib.Utf8Tabs 1 2 w) :
    Calls Tryd.prog 42 #[.string (ba v)] w (PassPost v w) := by
  have hv1 := cutA_len v 32
  have hv2 := cutB_len v 32
  have C1 : Calls Tryd.prog 37 #[.string (ba v), .string ⟨#[32]⟩] w fun e w' => e = .returned (.tuple #[.string (ba (cutA v 32)), .string (ba (cutB v 32)), .bool (cutY v 32)]) ∧ Below w.heap.size w w' := cut_any (ba v) 32 w (by rw [ba_size]; omega)
  have C2 : ∀ W : World, Below w.heap.size w W → Calls Tryd.prog 40 #[.string (ba (cutA v 32))] W fun e w' => e = .returned (.string (ba (foldF (cutA v 32)))) ∧ Below W.heap.size W w' := fun W hb => fold_any (ba (cutA v 32)) W (by rw [ba_size]; omega) (Utf8Tabs_below hT hb)
  have C3 : ∀ W : World, Calls Tryd.prog 55 #[.string (ba (cutB v 32))] W fun e w' => Below W.heap.size W w' ∧
      ((∃ (b : List UInt8) (a : Option Addr) (c : Nat), openA (cutB v 32) = some b ∧ b.length ≤ 1000 ∧ e = .returned (.tuple #[.slice a b.length c, .int .i64 0]) ∧ IntsAt w' w'.heap.size .u8 a b.length (bz b)) ∨
        (openA (cutB v 32) = none ∧ e = .returned (.tuple #[.slice none 0 0, .int .i64 3]))) := fun W => open_any (ba (cutB v 32)) W (by rw [ba_size]; omega)
  have k3 : ((ba (foldF (cutA v 32))).toList == [98, 97, 115, 105, 99]) = decide (foldF (cutA v 32) = basN) := ba_beq _ _
  have HP : RowKit.Hid (passF v = if foldF (cutA v 32) = basN then (openA (cutB v 32)).bind passO else none) := rfl
  have HY : RowKit.Hid (cutY v 32 = false → passF v = none) := by
    intro h
    have e : cutB v 32 = [] := by
      rcases cut_idx v 32 with ⟨_, _, h3, _⟩ | ⟨i, _, _, _, _, h5⟩
      · exact h3
      · rw [h5] at h; cases h
    unfold passF
    rw [e]
    split
    · have : openA [] = some [] := openA_seal []
      rw [this]
      rfl
    · rfl
  clear hv1 hv2
  generalize cutY v 32 = y at *
  generalize cutB v 32 = tx at *
  generalize cutA v 32 = kd at *
  generalize foldF kd = fk at *
  obtain ⟨xk, hxk⟩ : ∃ x, ba kd = x := ⟨_, rfl⟩
  obtain ⟨xt, hxt⟩ : ∃ x, ba tx = x := ⟨_, rfl⟩
  obtain ⟨xg, hxg⟩ : ∃ x, ba fk = x := ⟨_, rfl⟩
  obtain ⟨xv, hxv⟩ : ∃ x, ba v = x := ⟨_, rfl⟩
  rw [hxk] at C1 C2
  rw [hxt] at C1 C3
  rw [hxg] at C2 k3
  rw [hxv] at C1 ⊢
  clear hxk hxt hxg hxv
  go_enter Tryd.func42, Tryd.ntmps42
  cases y with
  | false =>
    have hn := HY.out rfl
    go_wp2_with (go_at_call 37; refine C1.mono ?_; rintro e w1 ⟨rfl, b1⟩)
    go_ret2
    exact ⟨b1, .inr ⟨hn, _, rfl⟩⟩
  | true =>
  by_cases hb : fk = basN
  · rw [decide_eq_true hb] at k3
    have HP2 : RowKit.Hid (passF v = (openA tx).bind passO) := by
      show _ = _
      rw [HP.out, if_pos hb]
    clear hb HP HY
    cases ho : openA tx with
    | none =>
      have hn : passF v = none := by rw [HP2.out, ho]; rfl
      have C4 : ∀ W : World, Calls Tryd.prog 55 #[.string xt] W fun e w' => e = .returned (.tuple #[.slice none 0 0, .int .i64 3]) ∧ Below W.heap.size W w' := by
        intro W
        refine (C3 W).mono ?_
        rintro e w' ⟨b, ⟨_, _, _, h, _⟩ | ⟨_, h⟩⟩
        · rw [ho] at h; cases h
        · exact ⟨h, b⟩
      have HN := Lib.hid hn
      clear C3 hn ho
      go_wp2_with (first
        | (go_at_call 37; refine C1.mono ?_; rintro e w1 ⟨rfl, b1⟩)
        | (go_at_call 40; refine (C2 w1 b1).mono ?_; rintro e w2 ⟨rfl, b2⟩)
        | (go_at_call 55; refine (C4 w2).mono ?_; rintro e w3 ⟨rfl, b3⟩))
      go_ret2
      exact ⟨chain (chain b1 b2) b3, .inr ⟨HN.out, _, rfl⟩⟩
    | some o =>
      have hn : passF v = if Lib.hasPrefix o srcC then some (Lib.trimPrefix o srcC) else none := by rw [HP2.out, ho, ← passO_prefix]; rfl
      have C4 : ∀ W : World, Calls Tryd.prog 55 #[.string xt] W fun e w' => ∃ (a : Option Addr) (c : Nat), e = .returned (.tuple #[.slice a o.length c, .int .i64 0]) ∧ IntsAt w' w'.heap.size .u8 a o.length (bz o) ∧ o.length ≤ 1000 ∧ Below W.heap.size W w' := by
        intro W
        refine (C3 W).mono ?_
        rintro e w' ⟨b, ⟨o', a, c, h, hl, he, hi⟩ | ⟨h, _⟩⟩
        · rw [ho] at h
          injection h with h
          subst h
          exact ⟨a, c, he, hi, hl, b⟩
        · rw [ho] at h; cases h
      have C5 : ∀ W : World, Calls Tryd.prog 56 #[.string (ba o), .string ⟨#[115, 111, 117, 114, 99, 101, 58]⟩] W fun e w' => e = .returned (.tuple #[.string (ba (Lib.trimPrefix o srcC)), .bool (Lib.hasPrefix o srcC)]) ∧ w' = W := fun W => Tryd.strings_CutPrefix (ba o) ⟨#[115, 111, 117, 114, 99, 101, 58]⟩ W
      have HL : RowKit.Hid ((Lib.trimPrefix o srcC).length ≤ o.length) := by
        show _ ≤ _
        unfold Lib.trimPrefix
        split
        · simp
        · omega
      generalize Lib.trimPrefix o srcC = tp at *
      generalize Lib.hasPrefix o srcC = hp at *
      obtain ⟨n, hon⟩ : ∃ n, o.length = n := ⟨_, rfl⟩
      obtain ⟨xo, hxo⟩ : ∃ x, ba o = x := ⟨_, rfl⟩
      obtain ⟨xp, hxp⟩ : ∃ x, ba tp = x := ⟨_, rfl⟩
      have HXO := Lib.hid hxo
      have HXP := Lib.hid hxp
      rw [hon] at C4 HL
      rw [hxo, hxp] at C5
      have HN := Lib.hid hn
      clear C3 hn ho hon hxo hxp HP2
      go_wp2_with (first
        | (go_at_call 37; refine C1.mono ?_; rintro e w1 ⟨rfl, b1⟩)
        | (go_at_call 40; refine (C2 w1 b1).mono ?_; rintro e w2 ⟨rfl, b2⟩)
        | (go_at_call 55; refine (C4 w2).mono ?_; rintro e w3 ⟨a3, c3, rfl, i3, hl3, b3⟩; have cv := conv17 w3 w3 _ a3 n c3 o i3 (Below.refl _ _); rw [HXO.out] at cv; clear i3)
        | (go_at_call 56; refine (C5 _).mono ?_; rintro e w4 ⟨rfl, rfl⟩))
      go_ret2
      refine ⟨chain (chain b1 b2) b3, ?_⟩
      cases hp with
      | false => exact .inr ⟨by rw [HN.out]; rfl, _, rfl⟩
      | true => exact .inl ⟨tp, by rw [HN.out]; rfl, Nat.le_trans HL.out hl3, by rw [HXP.out]; rfl⟩
  · rw [decide_eq_false hb] at k3
    have hn : passF v = none := by rw [HP.out, if_neg hb]
    have HN := Lib.hid hn
    clear hn hb HP HY
    go_wp2_with (first
      | (go_at_call 37; refine C1.mono ?_; rintro e w1 ⟨rfl, b1⟩)
      | (go_at_call 40; refine (C2 w1 b1).mono ?_; rintro e w2 ⟨rfl, b2⟩))
    go_ret2
    exact ⟨chain b1 b2, .inr ⟨HN.out, _, rfl⟩⟩
end Go.Proofs.YtkledfalplekeaaDoor
