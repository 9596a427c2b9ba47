/- The document's answer: a header. -/
import Derived.Test.YtkledfalplekeaaDoorReqR
import Derived.Test.YtkledfalplekeaaDoorWrdF
import Derived.Test.YtkledfalplekeaaDoorWrdM
namespace Go.Proofs.YtkledfalplekeaaDoor
open Go.RowKit Go.PlainAid
set_option linter.unusedVariables false

theorem conv17 (W W' : World) (B : Nat) (a : Option Addr) (n c : Nat) (l : List UInt8) (h : IntsAt W B .u8 a n (bz l)) (hb : Below B W W') :
    (convert 48 9 (.slice a n c)).run Tryd.prog W' = .ok (.string (ba l)) W' := by
  have := string_of_ints (P := Tryd.prog) (src := 48) (dst := 9) (e := 5) (c := c) Tryd.underlying48 Tryd.underlying5 Tryd.underlying9 (h.below hb)
  rw [text_bz] at this
  exact this
theorem no17 {t n m : Nat} {f i o a b : Bool} {l p q : List UInt8} {S : S17} {w W : World} (k : Keeps (· = t) w W) (c : Cel W t 29 (stC n f l S.done S.err m p i o q a b)) : LinePost t S none w (.returned (.bool false)) W :=
  ⟨k, .inr ⟨rfl, rfl, _, c, rfl, rfl⟩⟩
theorem yes17 {t : Nat} {S U : S17} {w W : World} (k : Keeps (· = t) w W) (c : Cel W t 29 (stK U)) : LinePost t S (some U) w (.returned (.bool true)) W := ⟨k, .inl ⟨_, rfl, rfl, c⟩⟩
/-- What is held while an authorization is read. -/
structure AuSt (t : Nat) (S : S17) (w wr : World) : Prop where
  k : Keeps (· = t) w wr
  c : Cel wr t 29 (stC S.n (decide (S.R.m ≠ 0)) S.line S.done S.err S.R.m S.R.path S.R.icy S.R.told S.R.pass S.a true)
theorem AuSt.start {t : Nat} {S : S17} {w W : World} (h : Cel W t 29 (stK S)) (k : Keeps (· = t) w W) : AuSt t S w (W.setCell ⟨t, 11, none⟩ (.bool true)) :=
  ⟨k.setCell (p := ⟨t, 11, none⟩) (.inl rfl) _, h.set_ 11 (.bool true)⟩
theorem AuSt.now {t : Nat} {S : S17} {w W W' : World} (h : AuSt t S w W) (b : Below W.heap.size W W') : AuSt t S w W' := ⟨h.k.then_ (G := fun _ => False) (.of_below b) (fun _ c => c.elim), h.c.below b⟩
theorem AuSt.yes {t : Nat} {S : S17} {w W : World} (h : AuSt t S w W) (p : List UInt8) : LinePost t S (some { S with b := true, R := { S.R with told := true, pass := p } }) w (.returned (.bool true)) ((W.setCell ⟨t, 8, none⟩ (.bool true)).setCell ⟨t, 9, none⟩ (.string (ba p))) :=
  yes17 ((h.k.setCell (p := ⟨t, 8, none⟩) (.inl rfl) _).setCell (p := ⟨t, 9, none⟩) (.inl rfl) _) ((h.c.set_ 8 (.bool true)).set_ 9 (.string (ba p)))
theorem icy17 {t : Nat} {S : S17} {w W : World} (h : Cel W t 29 (stK S)) (k : Keeps (· = t) w W) (x : Bool) : LinePost t S (some { S with a := true, R := { S.R with icy := x } }) w (.returned (.bool true)) ((W.setCell ⟨t, 10, none⟩ (.bool true)).setCell ⟨t, 7, none⟩ (.bool x)) :=
  yes17 ((k.setCell (p := ⟨t, 10, none⟩) (.inl rfl) _).setCell (p := ⟨t, 7, none⟩) (.inl rfl) _) ((h.set_ 10 (.bool true)).set_ 7 (.bool x))
theorem passF_no {v : List UInt8} (h : ¬ foldF (cutA v 32) = basN) : passF v = none := by unfold passF; rw [if_neg h]
theorem passF_eq {v : List UInt8} (h : foldF (cutA v 32) = basN) : passF v = if sealL (openR (cutB v 32)) = cutB v 32 then passO (openR (cutB v 32)) else none := by
  unfold passF
  rw [if_pos h, openA_eq]
  split <;> rfl
theorem icyN_ne : ¬ icyN = autN := by decide
set_option maxHeartbeats 16000000 in
set_option maxRecDepth 100000 in
theorem refHeader_any (t : Nat) (S : S17) (s : ByteArray) (w : World) (h : Cel w t 29 (stK S)) (hs : s.size ≤ 1000) :
    Calls Tryd.prog 15 #[.pointer (some ⟨t, 0, none⟩), .string s] w (LinePost t S (headF S s.data.toList) w) := by
  have e58 : (((58 : UInt8).toNat : Nat) : Int) = 58 := rfl
  have e32 : (((32 : UInt8).toNat : Nat) : Int) = 32 := rfl
  have C1 := refCut_any s 58 w hs
  rw [e58] at C1
  have hla := cutA_len s.data.toList 58
  have hlb := cutB_len s.data.toList 58
  rw [len_list] at hla hlb
  obtain ⟨F, hF⟩ : ∃ F, headF S s.data.toList = F := ⟨_, rfl⟩
  rw [hF]
  unfold headF at hF
  generalize cutA s.data.toList 58 = la at *
  generalize cutB s.data.toList 58 = lb at *
  generalize cutY s.data.toList 58 = p at *
  have hlv := trimF_len lb
  have CN : ∀ W, Calls Tryd.prog 20 #[.string (ba la)] W fun e w' => e = .returned (.bool (nameF la)) ∧ W = w' := fun W => refName_any (ba la) W (by rw [ba_size]; omega)
  have CT : ∀ W, Calls Tryd.prog 21 #[.string (ba lb)] W fun e w' => e = .returned (.string (ba (trimF lb))) ∧ W = w' := fun W => refTrim_any (ba lb) W (by rw [ba_size]; omega)
  have CF : ∀ W, Calls Tryd.prog 22 #[.string (ba la)] W fun e w' => e = .returned (.string (ba (foldF la))) ∧ W = w' := fun W => refFold_any (ba la) W (by rw [ba_size]; omega)
  generalize trimF lb = v at *
  have k1 : ((ba (foldF la)).toList == [105, 99, 121, 45, 109, 101, 116, 97, 100, 97, 116, 97]) = decide (foldF la = icyN) := ba_beq _ _
  have k2 : ((ba (foldF la)).toList == [97, 117, 116, 104, 111, 114, 105, 122, 97, 116, 105, 111, 110]) = decide (foldF la = autN) := ba_beq _ _
  have HK : RowKit.Hid (kindF la = if foldF la = icyN then 1 else if foldF la = autN then 2 else 0) := rfl
  generalize foldF la = fa at *
  obtain ⟨xa, hxa⟩ : ∃ x, ba la = x := ⟨_, rfl⟩
  obtain ⟨xb, hxb⟩ : ∃ x, ba lb = x := ⟨_, rfl⟩
  obtain ⟨xv, hxv⟩ : ∃ x, ba v = x := ⟨_, rfl⟩
  obtain ⟨xf, hxf⟩ : ∃ x, ba fa = x := ⟨_, rfl⟩
  rw [hxa] at C1 CN CF
  rw [hxb] at C1 CT
  rw [hxv] at CT
  rw [hxf] at CF k1 k2
  have HF := Lib.hid hF
  have H := Lib.hid h
  clear hF hxa hxb hxf h hla
  go_enter Tryd.func15, Tryd.ntmps15
  cases p with
  | false =>
    have hn : F = none := by rw [← HF.out]; rfl
    subst hn
    go_wp2_with (first
      | (go_at_call 18; ((with_reducible refine C1.mono ?_)); rintro e w1 ⟨rfl, b1⟩)
      | (go_at_call 20; ((with_reducible refine (CN _).mono ?_)); rintro e w2 ⟨rfl, rfl⟩))
    go_ret
    exact no17 (.of_below b1) (H.out.below b1)
  | true =>
  cases hnm : nameF la with
  | false =>
    have hn : F = none := by rw [← HF.out, hnm]; rfl
    subst hn
    rw [hnm] at CN
    go_wp2_with (first
      | (go_at_call 18; ((with_reducible refine C1.mono ?_)); rintro e w1 ⟨rfl, b1⟩)
      | (go_at_call 20; ((with_reducible refine (CN _).mono ?_)); rintro e w2 ⟨rfl, rfl⟩))
    go_ret
    exact no17 (.of_below b1) (H.out.below b1)
  | true =>
  have HF2 : RowKit.Hid ((if kindF la = 1 then (if S.a then none else some { S with a := true, R := { S.R with icy := v == [49] } })
    else if kindF la = 2 then (if S.b then none else (passF v).map fun p => { S with b := true, R := { S.R with told := true, pass := p } })
    else some S) = F) := by
    show _ = _
    rw [← HF.out, hnm]
    rfl
  rw [hnm] at CN
  clear hnm HF
  by_cases h1 : fa = icyN
  · have hk : kindF la = 1 := by rw [HK.out, if_pos h1]
    rw [decide_eq_true h1] at k1
    have HF3 : RowKit.Hid ((if S.a then none else some { S with a := true, R := { S.R with icy := v == [49] } }) = F) := by
      show _ = _
      rw [← HF2.out, hk, if_pos rfl]
    clear hk h1 k2 HF2 HK
    cases hSa : S.a with
    | true =>
      have hn : F = none := by rw [← HF3.out, hSa]; rfl
      subst hn
      go_wp2_with (first
        | (go_at_call 18; ((with_reducible refine C1.mono ?_)); rintro e w1 ⟨rfl, b1⟩; have c10 : w1.cell? ⟨t, 10, none⟩ = some (.bool true) := (by rw [(H.out.below b1).cell 10, ← hSa]; rfl))
        | (go_at_call 20; ((with_reducible refine (CN _).mono ?_)); rintro e w2 ⟨rfl, rfl⟩)
        | (go_at_call 21; ((with_reducible refine (CT _).mono ?_)); rintro e w2 ⟨rfl, rfl⟩)
        | (go_at_call 22; ((with_reducible refine (CF _).mono ?_)); rintro e w2 ⟨rfl, rfl⟩))
      go_ret
      exact no17 (.of_below b1) (H.out.below b1)
    | false =>
      have hn : F = some { S with a := true, R := { S.R with icy := v == [49] } } := by rw [← HF3.out, hSa]; rfl
      subst hn
      have k3 : (xv.toList == [49]) = (v == [49]) := by
        rw [← hxv, ba_beq]
        by_cases e : v = [49] <;> simp [e]
      generalize (v == [49]) = ic at k3 HF3 ⊢
      go_wp2_with (first
        | (go_at_call 18; ((with_reducible refine C1.mono ?_)); rintro e w1 ⟨rfl, b1⟩; have hc1 := H.out.below b1; have c10 : w1.cell? ⟨t, 10, none⟩ = some (.bool false) := (by rw [hc1.cell 10, ← hSa]; rfl); have f10 : w1.frozen? ⟨t, 10, none⟩ = false := hc1.frozen 10; have c7 : w1.cell? ⟨t, 7, none⟩ = some (.bool S.R.icy) := hc1.cell 7; have f7 : w1.frozen? ⟨t, 7, none⟩ = false := hc1.frozen 7; have H1 := Lib.hid hc1; clear hc1)
        | (go_at_call 20; ((with_reducible refine (CN _).mono ?_)); rintro e w2 ⟨rfl, rfl⟩)
        | (go_at_call 21; ((with_reducible refine (CT _).mono ?_)); rintro e w2 ⟨rfl, rfl⟩)
        | (go_at_call 22; ((with_reducible refine (CF _).mono ?_)); rintro e w2 ⟨rfl, rfl⟩))
      go_ret
      exact icy17 H1.out (.of_below b1) ic
  by_cases h2 : fa = autN
  · have hk : kindF la = 2 := by rw [HK.out, if_neg h1, if_pos h2]
    rw [decide_eq_false h1] at k1
    rw [decide_eq_true h2] at k2
    have HF3 : RowKit.Hid ((if S.b then none else (passF v).map fun p => { S with b := true, R := { S.R with told := true, pass := p } }) = F) := by
      show _ = _
      rw [← HF2.out, hk, if_neg (show ¬ (2 : Nat) = 1 by decide), if_pos rfl]
    clear hk h1 h2 HF2 HK
    cases hSb : S.b with
    | true =>
      have hn : F = none := by rw [← HF3.out, hSb]; rfl
      subst hn
      go_wp2_with (first
        | (go_at_call 18; ((with_reducible refine C1.mono ?_)); rintro e w1 ⟨rfl, b1⟩; have c11 : w1.cell? ⟨t, 11, none⟩ = some (.bool true) := (by rw [(H.out.below b1).cell 11, ← hSb]; rfl))
        | (go_at_call 20; ((with_reducible refine (CN _).mono ?_)); rintro e w2 ⟨rfl, rfl⟩)
        | (go_at_call 21; ((with_reducible refine (CT _).mono ?_)); rintro e w2 ⟨rfl, rfl⟩)
        | (go_at_call 22; ((with_reducible refine (CF _).mono ?_)); rintro e w2 ⟨rfl, rfl⟩))
      go_ret
      exact no17 (.of_below b1) (H.out.below b1)
    | false =>
      have HF4 : RowKit.Hid (((passF v).map fun p => { S with b := true, R := { S.R with told := true, pass := p } }) = F) := by
        show _ = _
        rw [← HF3.out, hSb]
        rfl
      clear HF3
      have hvs : v.length ≤ 1000 := by omega
      have hv1 := cutA_len v 32
      have hv2 := cutB_len v 32
      have C2 : ∀ W, Calls Tryd.prog 18 #[.string (ba v), .int .u8 32] W fun e w' => e = .returned (.tuple #[.string (ba (cutA v 32)), .string (ba (cutB v 32)), .bool (cutY v 32)]) ∧ Below W.heap.size W w' := fun W => refCut_any (ba v) 32 W (by rw [ba_size]; omega)
      have CO : ∀ W : World, Calls Tryd.prog 23 #[.string (ba (cutB v 32))] W fun e w' => Below W.heap.size W w' ∧ ∃ (a : Option Addr) (c : Nat),
          e = .returned (.tuple #[.slice a (openR (cutB v 32)).length c, .bool (decide (sealL (openR (cutB v 32)) = cutB v 32))]) ∧ IntsAt w' w'.heap.size .u8 a (openR (cutB v 32)).length (bz (openR (cutB v 32))) := fun W => refOpen_any (ba (cutB v 32)) W (by rw [ba_size]; omega)
      have CF2 : ∀ W, Calls Tryd.prog 22 #[.string (ba (cutA v 32))] W fun e w' => e = .returned (.string (ba (foldF (cutA v 32)))) ∧ W = w' := fun W => refFold_any (ba (cutA v 32)) W (by rw [ba_size]; omega)
      have hdl := openR_len _ (cutB v 32) (Nat.le_refl _)
      obtain ⟨d, hd⟩ : ∃ d, openR (cutB v 32) = d := ⟨_, rfl⟩
      have HP : RowKit.Hid (passF v = if foldF (cutA v 32) = basN then (if sealL d = cutB v 32 then passO d else none) else none) := by
        show _ = _
        by_cases hb : foldF (cutA v 32) = basN
        · rw [if_pos hb, passF_eq hb, hd]
        · rw [if_neg hb, passF_no hb]
      rw [hd] at CO hdl
      clear hd
      obtain ⟨n, hn⟩ : ∃ n, d.length = n := ⟨_, rfl⟩
      have C3 : ∀ W, Calls Tryd.prog 18 #[.string (ba d), .int .u8 58] W fun e w' => e = .returned (.tuple #[.string (ba (cutA d 58)), .string (ba (cutB d 58)), .bool (cutY d 58)]) ∧ Below W.heap.size W w' := fun W => refCut_any (ba d) 58 W (by rw [ba_size]; omega)
      have k3 : ((ba (foldF (cutA v 32))).toList == [98, 97, 115, 105, 99]) = decide (foldF (cutA v 32) = basN) := ba_beq _ _
      have k4 : ((ba (cutA d 58)).toList == [115, 111, 117, 114, 99, 101]) = decide (cutA d 58 = srcN) := ba_beq _ _
      have HO : RowKit.Hid (passO d = if cutY d 58 && cutA d 58 == srcN then some (cutB d 58) else none) := rfl
      rw [hn] at CO
      rw [hxv] at C2
      generalize cutY v 32 = y1 at *
      generalize cutB v 32 = tx at *
      generalize cutA v 32 = kd at *
      generalize foldF kd = fk at *
      generalize cutA d 58 = us at *
      generalize cutB d 58 = pw at *
      generalize cutY d 58 = is at *
      generalize passO d = po at *
      clear hn hdl hv1 hv2 hvs hlv hlb
      obtain ⟨ok, hok⟩ : ∃ x, decide (sealL d = tx) = x := ⟨_, rfl⟩
      have HP2 : RowKit.Hid (passF v = if fk = basN then (if ok = true then po else none) else none) := by
        show _ = _
        rw [HP.out, ← hok]
        simp
      rw [hok] at CO
      clear hok HP
      obtain ⟨xd, hxd⟩ : ∃ x, ba d = x := ⟨_, rfl⟩
      obtain ⟨xk, hxk⟩ : ∃ x, ba kd = x := ⟨_, rfl⟩
      obtain ⟨xt, hxt⟩ : ∃ x, ba tx = x := ⟨_, rfl⟩
      obtain ⟨xg, hxg⟩ : ∃ x, ba fk = x := ⟨_, rfl⟩
      obtain ⟨xu, hxu⟩ : ∃ x, ba us = x := ⟨_, rfl⟩
      obtain ⟨xp, hxp⟩ : ∃ x, ba pw = x := ⟨_, rfl⟩
      have HXD := Lib.hid hxd
      have HXP := Lib.hid hxp
      rw [hxd] at C3
      rw [hxk] at C2 CF2
      rw [hxt] at C2 CO
      rw [hxg] at CF2 k3
      rw [hxu] at C3 k4
      rw [hxp] at C3
      clear hxv hxd hxk hxt hxg hxu hxp
      by_cases hall : fk = basN ∧ ok = true ∧ is = true ∧ us = srcN
      · obtain ⟨a1, rfl, rfl, a4⟩ := hall
        have hF : F = some { S with b := true, R := { S.R with told := true, pass := pw } } := by
          rw [← HF4.out, HP2.out, if_pos a1, if_pos rfl, HO.out, a4]
          simp
        subst hF
        rw [decide_eq_true a1] at k3
        rw [decide_eq_true a4] at k4
        clear a1 a4 HF4 HP2 HO
        go_wp2_with (first
          | (go_at_call 18; ((with_reducible refine C1.mono ?_)); rintro e w1 ⟨rfl, b1⟩; have hc1 := H.out.below b1; have c11 : w1.cell? ⟨t, 11, none⟩ = some (.bool false) := (by rw [hc1.cell 11, ← hSb]; rfl); have f11 : w1.frozen? ⟨t, 11, none⟩ = false := hc1.frozen 11; have HA := Lib.hid (AuSt.start hc1 (.of_below b1)); clear hc1)
          | (go_at_call 18; ((with_reducible refine (C2 _).mono ?_)); rintro e w3 ⟨rfl, b3⟩; replace HA := Lib.hid (HA.out.now b3); clear b3)
          | (go_at_call 18; ((with_reducible refine (C3 _).mono ?_)); rintro e w5 ⟨rfl, b5⟩; replace HA := Lib.hid (HA.out.now b5); clear b5; have c8 : w5.cell? ⟨t, 8, none⟩ = some (.bool S.R.told) := HA.out.c.cell 8; have f8 : w5.frozen? ⟨t, 8, none⟩ = false := HA.out.c.frozen 8; have c9 : w5.cell? ⟨t, 9, none⟩ = some (.string (ba S.R.pass)) := HA.out.c.cell 9; have f9 : w5.frozen? ⟨t, 9, none⟩ = false := HA.out.c.frozen 9; have HY := Lib.hid (HA.out.yes pw); rw [HXP.out] at HY)
          | (go_at_call 23; ((with_reducible refine (CO _).mono ?_)); rintro e w4 ⟨b4, ad, cp, rfl, hi⟩; replace HA := Lib.hid (HA.out.now b4); have cv := conv17 w4 w4 _ ad n cp d hi (Below.refl _ _); rw [HXD.out] at cv; clear b4 hi)
          | (go_at_call 20; ((with_reducible refine (CN _).mono ?_)); rintro e w2 ⟨rfl, rfl⟩)
          | (go_at_call 21; ((with_reducible refine (CT _).mono ?_)); rintro e w2 ⟨rfl, rfl⟩)
          | (go_at_call 22; ((with_reducible refine (CF _).mono ?_)); rintro e w2 ⟨rfl, rfl⟩)
          | (go_at_call 22; ((with_reducible refine (CF2 _).mono ?_)); rintro e w2 ⟨rfl, rfl⟩))
        go_ret
        exact HY.out
      · have hF : F = none := by
          rw [← HF4.out, HP2.out]
          by_cases a1 : fk = basN
          · rw [if_pos a1]
            cases ok with
            | false => rfl
            | true =>
              rw [if_pos rfl, HO.out]
              cases is with
              | false => rfl
              | true =>
                have a4 : ¬ us = srcN := fun e => hall ⟨a1, rfl, rfl, e⟩
                have : (us == srcN) = false := by simpa using a4
                rw [this]
                rfl
          · rw [if_neg a1]; rfl
        subst hF
        have hc : ¬ fk = basN ∨ (fk = basN ∧ ok = false) ∨ (fk = basN ∧ ok = true ∧ is = false) ∨ (fk = basN ∧ ok = true ∧ is = true ∧ ¬ us = srcN) := by
          by_cases a1 : fk = basN
          · cases ok with
            | false => exact .inr (.inl ⟨a1, rfl⟩)
            | true => cases is with
              | false => exact .inr (.inr (.inl ⟨a1, rfl, rfl⟩))
              | true => exact .inr (.inr (.inr ⟨a1, rfl, rfl, fun e => hall ⟨a1, rfl, rfl, e⟩⟩))
          · exact .inl a1
        clear hall HF4 HP2 HO
        rcases hc with a1 | ⟨a1, rfl⟩ | ⟨a1, rfl, rfl⟩ | ⟨a1, rfl, rfl, a4⟩
        all_goals
          first | rw [decide_eq_true a1] at k3 | rw [decide_eq_false a1] at k3
          try rw [decide_eq_false a4] at k4
          go_wp2_with (first
            | (go_at_call 18; ((with_reducible refine C1.mono ?_)); rintro e w1 ⟨rfl, b1⟩; have hc1 := H.out.below b1; have c11 : w1.cell? ⟨t, 11, none⟩ = some (.bool false) := (by rw [hc1.cell 11, ← hSb]; rfl); have f11 : w1.frozen? ⟨t, 11, none⟩ = false := hc1.frozen 11; have HA := Lib.hid (AuSt.start hc1 (.of_below b1)); clear hc1)
            | (go_at_call 18; ((with_reducible refine (C2 _).mono ?_)); rintro e w3 ⟨rfl, b3⟩; replace HA := Lib.hid (HA.out.now b3); clear b3)
            | (go_at_call 18; ((with_reducible refine (C3 _).mono ?_)); rintro e w5 ⟨rfl, b5⟩; replace HA := Lib.hid (HA.out.now b5); clear b5)
            | (go_at_call 23; ((with_reducible refine (CO _).mono ?_)); rintro e w4 ⟨b4, ad, cp, rfl, hi⟩; replace HA := Lib.hid (HA.out.now b4); have cv := conv17 w4 w4 _ ad n cp d hi (Below.refl _ _); rw [HXD.out] at cv; clear b4 hi)
            | (go_at_call 20; ((with_reducible refine (CN _).mono ?_)); rintro e w2 ⟨rfl, rfl⟩)
            | (go_at_call 21; ((with_reducible refine (CT _).mono ?_)); rintro e w2 ⟨rfl, rfl⟩)
            | (go_at_call 22; ((with_reducible refine (CF _).mono ?_)); rintro e w2 ⟨rfl, rfl⟩)
            | (go_at_call 22; ((with_reducible refine (CF2 _).mono ?_)); rintro e w2 ⟨rfl, rfl⟩))
          go_ret
          exact no17 HA.out.k HA.out.c
  · have hk : kindF la = 0 := by rw [HK.out, if_neg h1, if_neg h2]
    rw [decide_eq_false h1] at k1
    rw [decide_eq_false h2] at k2
    have hn : F = some S := by rw [← HF2.out, hk]; rfl
    subst hn
    clear hk h1 h2 HF2 HK
    go_wp2_with (first
      | (go_at_call 18; ((with_reducible refine C1.mono ?_)); rintro e w1 ⟨rfl, b1⟩)
      | (go_at_call 20; ((with_reducible refine (CN _).mono ?_)); rintro e w2 ⟨rfl, rfl⟩)
      | (go_at_call 21; ((with_reducible refine (CT _).mono ?_)); rintro e w2 ⟨rfl, rfl⟩)
      | (go_at_call 22; ((with_reducible refine (CF _).mono ?_)); rintro e w2 ⟨rfl, rfl⟩))
    go_ret
    exact yes17 (.of_below b1) (H.out.below b1)
end Go.Proofs.YtkledfalplekeaaDoor
