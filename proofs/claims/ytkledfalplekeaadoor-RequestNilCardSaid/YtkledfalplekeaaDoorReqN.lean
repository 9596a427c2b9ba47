/- What is asked in any of its ways, in numbers. -/
import Derived.Test.YtkledfalplekeaaDoorReqL
namespace Go.Proofs.YtkledfalplekeaaDoor
open Go
set_option linter.unusedVariables false

/-! ### Lines -/
def mkS (n : Nat) (R : Q17) (a b : Bool) : S17 := ⟨n, [], false, 0, R, a, b⟩
theorem runS_nil (S : S17) : runS S [] = S := rfl
theorem runS_cons (S : S17) (c : UInt8) (l : List UInt8) : runS S (c :: l) = runS (S.next c) l := rfl
theorem runS_append (S : S17) (l t : List UInt8) : runS S (l ++ t) = runS (runS S l) t := by unfold runS; rw [List.foldl_append]
theorem whole_append : ∀ (l t : List UInt8) (S : S17) (x : Bool), wholeF S (l ++ t) x = wholeF (runS S l) t (wholeF S l x)
  | [], _, _, _ => rfl
  | c :: l, t, S, x => by
    show wholeF (S.next c) (l ++ t) _ = wholeF (runS (S.next c) l) t (wholeF (S.next c) l _)
    rw [whole_append l t]
theorem run_bytes (R : Q17) (a b : Bool) : ∀ (l p : List UInt8) (n : Nat), (∀ c ∈ l, c ≠ 10) → n + l.length ≤ 600 → runS ⟨n, p, false, 0, R, a, b⟩ l = ⟨n + l.length, p ++ l, false, 0, R, a, b⟩
  | [], p, n, _, _ => by simp [runS_nil]
  | c :: l, p, n, h, hn => by
    have hl : n + 1 + l.length ≤ 600 := by simp at hn; omega
    have e : S17.next ⟨n, p, false, 0, R, a, b⟩ c = ⟨n + 1, p ++ [c], false, 0, R, a, b⟩ := by
      unfold S17.next S17.feed
      have h6 : ¬ n = 600 := by simp at hn; omega
      have h10 : ¬ c = 10 := h c (by simp)
      simp [h6, h10]
    rw [runS_cons, e, run_bytes R a b l (p ++ [c]) (n + 1) (fun x hx => h x (by simp [hx])) hl]
    simp
    omega
theorem next_ten (R : Q17) (a b : Bool) (l : List UInt8) (n : Nat) (hn : n < 600) (U : S17) (h : lineF (mkS (n + 1) R a b) (stripF l) = some U) : S17.next ⟨n, l, false, 0, R, a, b⟩ 10 = U := by
  unfold S17.next S17.feed
  have h6 : ¬ n = 600 := by omega
  have h2 : lineF ⟨n + 1, [], false, 0, R, a, b⟩ (stripF l) = some U := h
  simp [h6, h2]
def endF (e : Nat) : List UInt8 := if e = 0 then [10] else [13, 10]
theorem strip_cr (l : List UInt8) : stripF (l ++ [13]) = l := by simp [stripF]
theorem strip_id (l : List UInt8) (h : ∀ c ∈ l, c ≠ 13) : stripF l = l := by
  unfold stripF
  rw [if_neg]
  intro e
  exact h 13 (List.mem_of_getLast? e) rfl
/-- A line, with its end. -/
theorem run_line (n : Nat) (R : Q17) (a b : Bool) (l : List UInt8) (e : Nat) (U : S17) (h10 : ∀ c ∈ l, c ≠ 10) (h13 : ∀ c ∈ l, c ≠ 13) (hn : n + l.length + 2 ≤ 600)
    (h : lineF (mkS (n + l.length + (endF e).length) R a b) l = some U) : runS (mkS n R a b) (l ++ endF e) = U := by
  unfold endF at *
  by_cases he : e = 0
  · rw [if_pos he] at h ⊢
    unfold mkS at *
    rw [runS_append, run_bytes R a b l [] n h10 (by omega), List.nil_append, runS_cons, next_ten R a b l (n + l.length) (by omega) U (by rw [strip_id l h13]; exact h)]
    rfl
  · rw [if_neg he] at h ⊢
    unfold mkS at *
    have e1 : l ++ [13, 10] = (l ++ [13]) ++ [10] := by simp
    rw [e1, runS_append, run_bytes R a b (l ++ [13]) [] n (by
      intro c hc
      rcases List.mem_append.1 hc with hc | hc
      · exact h10 c hc
      · simp at hc
        rw [hc]
        decide) (by simp; omega), List.nil_append]
    have e2 : n + (l ++ [13]).length + 1 = n + l.length + [13, 10].length := by simp; omega
    refine next_ten R a b (l ++ [13]) (n + (l ++ [13]).length) (by simp; omega) U ?_
    rw [strip_cr]
    unfold mkS
    rw [e2]
    exact h
/-- A header that doesn't count. -/
theorem line_other (n : Nat) (R : Q17) (a b : Bool) (l : List UInt8) (hm : R.m ≠ 0) (hl : l ≠ []) (h1 : cutY l 58 = true) (h2 : nameF (cutA l 58) = true) (h3 : kindF (cutA l 58) = 0) : lineF (mkS n R a b) l = some (mkS n R a b) := by
  unfold lineF headF mkS
  simp [hm, hl, h1, h2, h3]
theorem line_icy (n : Nat) (R : Q17) (b : Bool) (l : List UInt8) (hm : R.m ≠ 0) (hl : l ≠ []) (h1 : cutY l 58 = true) (h2 : nameF (cutA l 58) = true) (h3 : kindF (cutA l 58) = 1) (h4 : (trimF (cutB l 58) == [49]) = true) : lineF (mkS n R false b) l = some (mkS n { R with icy := true } true b) := by
  unfold lineF headF mkS
  rw [h4]
  simp [hm, hl, h1, h2, h3]
theorem line_auth (n : Nat) (R : Q17) (a : Bool) (l p : List UInt8) (hm : R.m ≠ 0) (hl : l ≠ []) (h1 : cutY l 58 = true) (h2 : nameF (cutA l 58) = true) (h3 : kindF (cutA l 58) = 2) (h4 : passF (trimF (cutB l 58)) = some p) : lineF (mkS n R a false) l = some (mkS n { R with told := true, pass := p } a true) := by
  unfold lineF headF mkS
  simp [hm, hl, h1, h2, h3, h4]
theorem line_first (n : Nat) (l : List UInt8) (m : Nat) (p : List UInt8) (h : firstF l = some (m, p)) : lineF (mkS n ⟨0, [], false, false, []⟩ false false) l = some (mkS n ⟨m, p, false, false, []⟩ false false) := by
  unfold lineF mkS
  simp [h]

/-! ### The lines of the law -/
def metB (m : Nat) : List UInt8 := if m = 0 then met1 else if m = 1 then met2 else if m = 2 then met3 else met4
def verB (v : Nat) : List UInt8 := if v = 0 then ver1 else if v = 1 then ver2 else ver3
def pathB (m : Nat) : List UInt8 := if m = 3 then [47] else [47, 97, 46, 98, 45, 99, 95, 57]
def lin1 (m v : Nat) : List UInt8 := metB m ++ [32] ++ pathB m ++ [32] ++ verB v
def linU : List UInt8 := [85, 115, 101, 114, 45, 65, 103, 101, 110, 116, 58, 32, 120, 58, 121, 32, 122]
def linI : List UInt8 := [105, 67, 121, 45, 77, 69, 84, 65, 100, 97, 116, 97, 58, 9, 49, 32]
def linA : List UInt8 := [65, 117, 116, 104, 111, 114, 105, 122, 97, 116, 105, 111, 110, 58, 98, 65, 115, 73, 99, 32]
def linX : List UInt8 := [88, 45, 89, 58]
theorem lin1_fin : ∀ (m : Fin 4) (v : Fin 3), firstF (lin1 m.val v.val) = some (m.val + 1, pathB m.val) ∧ (∀ c ∈ lin1 m.val v.val, c ≠ 10) ∧ (∀ c ∈ lin1 m.val v.val, c ≠ 13) ∧ (lin1 m.val v.val).length ≤ 24 := by decide +kernel
theorem linU_ok : linU ≠ [] ∧ cutY linU 58 = true ∧ nameF (cutA linU 58) = true ∧ kindF (cutA linU 58) = 0 ∧ (∀ c ∈ linU, c ≠ 10) ∧ (∀ c ∈ linU, c ≠ 13) := by decide +kernel
theorem linX_ok : linX ≠ [] ∧ cutY linX 58 = true ∧ nameF (cutA linX 58) = true ∧ kindF (cutA linX 58) = 0 ∧ (∀ c ∈ linX, c ≠ 10) ∧ (∀ c ∈ linX, c ≠ 13) := by decide +kernel
theorem linI_ok : linI ≠ [] ∧ cutY linI 58 = true ∧ nameF (cutA linI 58) = true ∧ kindF (cutA linI 58) = 1 ∧ (trimF (cutB linI 58) == [49]) = true ∧ (∀ c ∈ linI, c ≠ 10) ∧ (∀ c ∈ linI, c ≠ 13) := by decide +kernel
theorem lt_ge_fin : ∀ n : Fin 64, 43 ≤ (lt n.val).toNat := by decide +kernel
theorem lt_ge (n : Nat) (h : n < 64) : 43 ≤ (lt n).toNat := lt_ge_fin ⟨n, h⟩
theorem seal_ge : ∀ (l : List UInt8) (x : UInt8), x ∈ sealL l → 43 ≤ x.toNat
  | [], x, h => by simp [sealL] at h
  | [a], x, h => by
    have := a.toNat_lt
    simp only [sealL, List.mem_cons, List.not_mem_nil, or_false] at h
    rcases h with rfl | rfl | rfl | rfl
    · exact lt_ge _ (by omega)
    · exact lt_ge _ (by omega)
    · decide
    · decide
  | [a, b], x, h => by
    have := a.toNat_lt
    have := b.toNat_lt
    simp only [sealL, List.mem_cons, List.not_mem_nil, or_false] at h
    rcases h with rfl | rfl | rfl | rfl
    · exact lt_ge _ (by omega)
    · exact lt_ge _ (by omega)
    · exact lt_ge _ (by omega)
    · decide
  | a :: b :: c :: t, x, h => by
    have := a.toNat_lt
    have := b.toNat_lt
    have := c.toNat_lt
    simp only [sealL, List.mem_cons] at h
    rcases h with rfl | rfl | rfl | rfl | h
    · exact lt_ge _ (by omega)
    · exact lt_ge _ (by omega)
    · exact lt_ge _ (by omega)
    · exact lt_ge _ (by omega)
    · exact seal_ge t x h
def sealX (p : List UInt8) : List UInt8 := sealL (srcC ++ p)
theorem sealX_len (p : List UInt8) : (sealX p).length = (p.length + 9) / 3 * 4 := by
  unfold sealX
  rw [sealL_len, List.length_append]
  show (7 + p.length + 2) / 3 * 4 = _
  rw [show 7 + p.length + 2 = p.length + 9 by omega]
theorem isB_no {x : UInt8} (h : 43 ≤ x.toNat) : isB x = false := by
  unfold isB
  have a : ¬ x = 32 := fun e => by rw [e] at h; exact absurd h (by decide)
  have b : ¬ x = 9 := fun e => by rw [e] at h; exact absurd h (by decide)
  simp [a, b]
theorem linA_ok (p : List UInt8) : linA ++ sealX p ≠ [] ∧ cutY (linA ++ sealX p) 58 = true ∧ nameF (cutA (linA ++ sealX p) 58) = true ∧ kindF (cutA (linA ++ sealX p) 58) = 2 ∧ passF (trimF (cutB (linA ++ sealX p) 58)) = some p ∧
    (∀ c ∈ linA ++ sealX p, c ≠ 10) ∧ (∀ c ∈ linA ++ sealX p, c ≠ 13) := by
  have hX : ∀ x ∈ sealX p, 43 ≤ x.toNat := fun x hx => seal_ge _ x hx
  have e1 : linA ++ sealX p = [65, 117, 116, 104, 111, 114, 105, 122, 97, 116, 105, 111, 110] ++ 58 :: ([98, 65, 115, 73, 99] ++ 32 :: sealX p) := rfl
  obtain ⟨c1, c2, c3⟩ := cut_join [65, 117, 116, 104, 111, 114, 105, 122, 97, 116, 105, 111, 110] ([98, 65, 115, 73, 99] ++ 32 :: sealX p) 58 (by decide)
  obtain ⟨d1, d2, _⟩ := cut_join [98, 65, 115, 73, 99] (sealX p) 32 (by decide)
  have hlast : trimF ([98, 65, 115, 73, 99] ++ 32 :: sealX p) = [98, 65, 115, 73, 99] ++ 32 :: sealX p := by
    unfold trimF
    have t1 : trimL ([98, 65, 115, 73, 99] ++ 32 :: sealX p) = [98, 65, 115, 73, 99] ++ 32 :: sealX p := rfl
    rw [t1]
    have hl := sealX_len p
    obtain ⟨n, hn⟩ : ∃ n, (sealX p).length = n + 1 := ⟨(sealX p).length - 1, by omega⟩
    have hs := last_split (sealX p) n hn
    have hb : isB ((sealX p).getD n 0) = false := isB_no (hX _ (by rw [List.getD_eq_getElem?_getD, List.getElem?_eq_getElem (by omega)]; exact List.getElem_mem _))
    generalize (sealX p).getD n 0 = y at *
    generalize (sealX p).take n = t at *
    rw [hs]
    have : [98, 65, 115, 73, 99] ++ 32 :: (t ++ [y]) = ([98, 65, 115, 73, 99] ++ 32 :: t) ++ [y] := by simp
    rw [this, trimR_snoc, hb]
    rfl
  have hp : passF ([98, 65, 115, 73, 99] ++ 32 :: sealX p) = some p := by
    unfold passF
    rw [d1, d2, if_pos (show foldF [98, 65, 115, 73, 99] = basN by decide +kernel)]
    unfold sealX
    rw [openA_seal]
    show passO (srcC ++ p) = some p
    have e : srcC ++ p = srcN ++ 58 :: p := rfl
    unfold passO
    rw [e]
    obtain ⟨f1, f2, f3⟩ := cut_join srcN p 58 (by decide)
    rw [f1, f2, f3]
    rfl
  refine ⟨by simp [linA], ?_, ?_, ?_, ?_, ?_, ?_⟩
  · rw [e1, c3]
  · rw [e1, c1]; decide +kernel
  · rw [e1, c1]; decide +kernel
  · rw [e1, c2, hlast, hp]
  · intro c hc
    rcases List.mem_append.1 hc with hc | hc
    · exact (show ∀ c ∈ linA, c ≠ 10 by decide) c hc
    · have := hX c hc
      intro e
      rw [e] at this
      exact absurd this (by decide)
  · intro c hc
    rcases List.mem_append.1 hc with hc | hc
    · exact (show ∀ c ∈ linA, c ≠ 13 by decide) c hc
    · have := hX c hc
      intro e
      rw [e] at this
      exact absurd this (by decide)

/-! ### The whole request -/
def askI (e : Nat) (ic : Bool) : List UInt8 := if ic then linI ++ endF e else []
def askA (e : Nat) (au : Bool) (p : List UInt8) : List UInt8 := if au then (linA ++ sealX p) ++ endF e else []
def askF (m v e : Nat) (ic au : Bool) (p : List UInt8) : List UInt8 := (lin1 m v ++ endF e) ++ ((linU ++ endF e) ++ (askI e ic ++ (askA e au p ++ ((linX ++ endF e) ++ endF e))))
def askR (m : Nat) (ic au : Bool) (p : List UInt8) : Q17 := ⟨m + 1, pathB m, ic, au, if au then p else []⟩
theorem endF_len (e : Nat) : 1 ≤ (endF e).length ∧ (endF e).length ≤ 2 := by unfold endF; split <;> simp
theorem run_last (n : Nat) (R : Q17) (a b : Bool) (e : Nat) (x : Bool) (hm : R.m ≠ 0) (hn : n + 2 ≤ 600) : wholeF (mkS n R a b) (endF e) x = true ∧ (runS (mkS n R a b) (endF e)).done = true ∧ (runS (mkS n R a b) (endF e)).R = R := by
  have hl : ∀ k, lineF (mkS k R a b) [] = some ⟨k, [], true, 0, R, a, b⟩ := by intro k; unfold lineF mkS; simp [hm]
  have hr : runS (mkS n R a b) (endF e) = ⟨n + (endF e).length, [], true, 0, R, a, b⟩ := by
    have := run_line n R a b [] e _ (by simp) (by simp) (by simpa using hn) (hl _)
    simpa using this
  refine ⟨?_, by rw [hr], by rw [hr]⟩
  unfold endF at *
  by_cases he : e = 0
  · rw [if_pos he] at hr ⊢
    have h1 : (mkS n R a b).next 10 = _ := hr
    show (if (mkS n R a b).done then false else ((mkS n R a b).next 10).done) = true
    rw [h1]
    rfl
  · rw [if_neg he] at hr ⊢
    have h1 : ((mkS n R a b).next 13).next 10 = _ := hr
    have h2 : (mkS n R a b).next 13 = ⟨n + 1, [] ++ [13], false, 0, R, a, b⟩ := run_bytes R a b [13] [] n (by decide) (by simp; omega)
    show (if ((mkS n R a b).next 13).done then false else (((mkS n R a b).next 13).next 10).done) = true
    rw [h1, h2]
    rfl
theorem ask_runs (m v e : Nat) (ic au : Bool) (p : List UInt8) (hm : m < 4) (hv : v < 3) (hp : p.length ≤ 100) :
    wholeF s17Zero (askF m v e ic au p) false = true ∧ (runS s17Zero (askF m v e ic au p)).done = true ∧ (runS s17Zero (askF m v e ic au p)).R = askR m ic au p ∧ (askF m v e ic au p).length ≤ 600 := by
  obtain ⟨f1, f2, f3, f4⟩ := lin1_fin ⟨m, hm⟩ ⟨v, hv⟩
  simp only at f1 f2 f3 f4
  have he := endF_len e
  have hX := sealX_len p
  have hlA : linA.length = 20 := rfl
  have hlU : linU.length = 17 := rfl
  have hlI : linI.length = 16 := rfl
  have hlX : linX.length = 4 := rfl
  obtain ⟨u1, u2, u3, u4, u5, u6⟩ := linU_ok
  obtain ⟨i1, i2, i3, i4, i5, i6, i7⟩ := linI_ok
  obtain ⟨a1, a2, a3, a4, a5, a6, a7⟩ := linA_ok p
  obtain ⟨x1, x2, x3, x4, x5, x6⟩ := linX_ok
  have R1 : runS s17Zero (lin1 m v ++ endF e) = mkS (0 + (lin1 m v).length + (endF e).length) ⟨m + 1, pathB m, false, false, []⟩ false false :=
    run_line 0 ⟨0, [], false, false, []⟩ false false _ e _ f2 f3 (by omega) (line_first _ _ _ _ f1)
  have R2 : ∀ n R a b, R.m ≠ 0 → n ≤ 400 → runS (mkS n R a b) (linU ++ endF e) = mkS (n + linU.length + (endF e).length) R a b := fun n R a b h hn =>
    run_line n R a b _ e _ u5 u6 (by omega) (line_other _ R a b _ h u1 u2 u3 u4)
  have R5 : ∀ n R a b, R.m ≠ 0 → n ≤ 400 → runS (mkS n R a b) (linX ++ endF e) = mkS (n + linX.length + (endF e).length) R a b := fun n R a b h hn =>
    run_line n R a b _ e _ x5 x6 (by omega) (line_other _ R a b _ h x1 x2 x3 x4)
  have R3 : ∀ n R, R.m ≠ 0 → R.icy = false → n ≤ 400 → ∃ k, k ≤ n + 20 ∧ runS (mkS n R false false) (askI e ic) = mkS k { R with icy := ic } ic false := by
    intro n R h hi hn
    unfold askI
    cases ic with
    | false => exact ⟨n, by omega, by rw [if_neg (by simp), runS_nil, ← hi]⟩
    | true => exact ⟨n + linI.length + (endF e).length, by omega, by rw [if_pos rfl]; exact run_line n R false false _ e _ i6 i7 (by omega) (line_icy _ R false _ h i1 i2 i3 i4 i5)⟩
  have R4 : ∀ n R a, R.m ≠ 0 → R.told = false → R.pass = [] → n ≤ 200 → ∃ k, k ≤ n + 170 ∧ runS (mkS n R a false) (askA e au p) = mkS k { R with told := au, pass := if au then p else [] } a au := by
    intro n R a h ht hq hn
    unfold askA
    cases au with
    | false => exact ⟨n, by omega, by rw [if_neg (by simp), runS_nil, if_neg (by simp), ← ht, ← hq]⟩
    | true =>
      have hl : (linA ++ sealX p).length ≤ 20 + 144 := by rw [List.length_append, hlA, hX]; omega
      refine ⟨n + (linA ++ sealX p).length + (endF e).length, by omega, ?_⟩
      rw [if_pos rfl, if_pos rfl]
      exact run_line n R a false _ e _ a6 a7 (by omega) (line_auth _ R a _ p h a1 a2 a3 a4 a5)
  obtain ⟨k3, hk3, R3'⟩ := R3 (0 + (lin1 m v).length + (endF e).length + linU.length + (endF e).length) ⟨m + 1, pathB m, false, false, []⟩ (by simp) rfl (by omega)
  obtain ⟨k4, hk4, R4'⟩ := R4 k3 ⟨m + 1, pathB m, ic, false, []⟩ ic (by simp) rfl rfl (by omega)
  have RA : runS s17Zero ((lin1 m v ++ endF e) ++ ((linU ++ endF e) ++ (askI e ic ++ (askA e au p ++ (linX ++ endF e))))) = mkS (k4 + linX.length + (endF e).length) (askR m ic au p) ic au := by
    rw [runS_append, R1, runS_append, R2 _ _ _ _ (by simp) (by omega), runS_append, R3', runS_append, R4', R5 _ _ _ _ (by simp) (by omega)]
    rfl
  have eA : askF m v e ic au p = ((lin1 m v ++ endF e) ++ ((linU ++ endF e) ++ (askI e ic ++ (askA e au p ++ (linX ++ endF e))))) ++ endF e := by
    unfold askF
    simp [List.append_assoc]
  obtain ⟨w1, w2, w3⟩ := run_last (k4 + linX.length + (endF e).length) (askR m ic au p) ic au e (wholeF s17Zero ((lin1 m v ++ endF e) ++ ((linU ++ endF e) ++ (askI e ic ++ (askA e au p ++ (linX ++ endF e))))) false) (by simp [askR]) (by omega)
  refine ⟨by rw [eA, whole_append, RA]; exact w1, by rw [eA, runS_append, RA]; exact w2, by rw [eA, runS_append, RA]; exact w3, ?_⟩
  rw [eA]
  have l3 : (askI e ic).length ≤ 18 := by unfold askI; split <;> simp <;> omega
  have l4 : (askA e au p).length ≤ 166 := by
    unfold askA
    split
    · rw [List.length_append, List.length_append, hlA, hX]; omega
    · simp
  simp only [List.length_append]
  omega
end Go.Proofs.YtkledfalplekeaaDoor
