/- Plain facts, and what functions give, for the proofs of this seat: several texts in one, each with its own first remark. -/
import Derived.Test.YtmgfkdmjgjlkjaaGreatAu

namespace Go.Proofs.YtmgfkdmjgjlkjaaGreat
open Go.RowKit
set_option linter.unusedVariables false
def PutSt (w : World) (base g : Nat) (v : Value) (E : EncS) (wr : World) : Prop :=
  ∃ v', EncAt wr base g v' E ∧ Keeps (fun j => j = g ∨ v.ownBlock = some j) w wr ∧ (∀ j, v'.ownBlock = some j → v.ownBlock = some j ∨ w.heap.size ≤ j)
theorem PutSt.start {w : World} {base g : Nat} {v : Value} {E : EncS} (h : EncAt w base g v E) : PutSt w base g v E w := ⟨v, h, Keeps.refl _ w, fun _ h => .inl h⟩
theorem PutSt.below {w wr w' : World} {base g : Nat} {v : Value} {E : EncS} (h : PutSt w base g v E wr) (hb : Below wr.heap.size wr w') : PutSt w base g v E w' := by
  obtain ⟨v', h1, h2, h3⟩ := h
  exact ⟨v', h1.below hb, h2.trans (.of_below hb), h3⟩
theorem PutSt.drewN {w wr : World} {base g : Nat} {v : Value} {E : EncS} (h : PutSt w base g v E wr) (n : Nat) : PutSt w base g v E (wr.drewN n) := by
  obtain ⟨v', h1, h2, h3⟩ := h
  exact ⟨v', h1.drewN n, h2.drewN n, h3⟩
theorem PutSt.ints {w wr : World} {base g len : Nat} {v : Value} {E : EncS} {a : Option Addr} {zs : List Int} (h : PutSt w base g v E wr) (hi : IntsAt w w.heap.size .i64 a len zs) (hne : ∀ r off, a = some ⟨r, off, none⟩ → r ≠ g ∧ v.ownBlock ≠ some r) : IntsAt wr w.heap.size .i64 a len zs := by
  obtain ⟨v', h1, h2, h3⟩ := h
  exact hi.keeps h2 (Nat.le_refl _) fun r off e _ _ c => by
    obtain ⟨n1, n2⟩ := hne r off e
    rcases c with c | c
    · exact n1 c
    · exact n2 c
theorem PutSt.step {w wr w' : World} {base g : Nat} {v v' v2 : Value} {E E' : EncS} (h1 : EncAt wr base g v' E) (h2 : Keeps (fun j => j = g ∨ v.ownBlock = some j) w wr) (h3 : ∀ j, v'.ownBlock = some j → v.ownBlock = some j ∨ w.heap.size ≤ j)
    (k1 : EncAt w' base g v2 E') (k2 : Keeps (fun j => j = g ∨ v'.ownBlock = some j ∨ w.heap.size ≤ j) wr w') (k3 : ∀ j, v2.ownBlock = some j → v'.ownBlock = some j ∨ wr.heap.size ≤ j) : PutSt w base g v E' w' := by
  refine ⟨v2, k1, h2.then_ k2 fun j hj => ?_, fun j hj => ?_⟩
  · rcases hj with hj | hj | hj
    · exact .inl (.inl hj)
    · rcases h3 j hj with c | c
      · exact .inl (.inr c)
      · exact .inr c
    · exact .inr hj
  · rcases k3 j hj with c | c
    · exact h3 j c
    · exact .inr (Nat.le_trans h2.size c)
set_option maxRecDepth 100000 in
theorem engAlone_any (base g : Nat) (v : Value) (e : EncS) (a : Option Addr) (cap : Nat) (zs : List Int) (d : Nat → Int) (w : World) (hE : EncAt w base g v e) (hG : GoodE e) (hk : e.k ≤ 700000)
    (hi : IntsAt w w.heap.size .i64 a 21 zs) (hr : rightB zs = true) (hne : ∀ r off, a = some ⟨r, off, none⟩ → r ≠ g ∧ v.ownBlock ≠ some r) :
    Calls Tryz.prog 161 #[.pointer (some ⟨g, 0, none⟩), .slice a 21 cap] w (PutPost base g v (putN true e (fun j => zs.getD j 0) d 21) (.int .i64 0) w) := by
  have H0 : RowKit.Hid (PutSt w base g v (putN true e (fun j => zs.getD j 0) d 0) w) := PutSt.start hE
  have HI := Lib.hid hi
  have HN := Lib.hid hne
  have HR := Lib.hid (rightB_true hr).2
  have HG := Lib.hid (fun n => putN_good (q := true) (f := fun j => zs.getD j 0) (d := d) hG n)
  have HS : RowKit.Hid (∀ n, putN true e (fun j => zs.getD j 0) d (n + 1) = encBits (putN true e (fun j => zs.getD j 0) d n) (zs.getD n 0) 5) := fun n => by rw [putN_succ, putW_alone]
  generalize putN true e (fun j => zs.getD j 0) d = P at H0 HG HS ⊢
  clear hE hi hr hne hG
  go_enter Tryz.func161, Tryz.ntmps161
  go_wp2
  go_loopw [6, 7, 10] (fun _ _ i wr => ∃ k : Nat, k ≤ 21 ∧ i = .int .i64 (k : Int) ∧ RowKit.Hid (PutSt w base g v (P k) wr)) (fun _ _ i _ => 21 - (intOf i).toNat)
  case atStart => exact ⟨0, by omega, rfl, H0.out⟩
  case round =>
    obtain ⟨k, hk2, rfl, H⟩ := hrel
    clear H0
    by_cases hlt : k < 21
    · obtain ⟨b, off, rfl, _, _, hcell⟩ := (H.out.ints HI.out HN.out).at_ hlt
      obtain ⟨x0, x1⟩ := HR.out k hlt
      obtain ⟨v', he, hke, hv⟩ := H.out
      have HE := Lib.hid he
      have HK := Lib.hid hke
      have HV := Lib.hid hv
      obtain ⟨g1, g2, _⟩ := HG.out k
      have HG1 := Lib.hid g1
      have HP := Lib.hid (HS.out k)
      clear he hke hv H g1
      generalize zs.getD k 0 = x at hcell x0 x1 HP
      have hx : x < P2 5 := by rw [show P2 5 = 32 by decide]; omega
      have HX := Lib.hid hx
      have u1 : IntKind.u32.wrap x = x := IntWalk.u32_in _ (by omega)
      clear hx
      go_wp2_with (go_at_call 159; go_loud (refine (rncBits_any base g v' (P k) x 5 _ HE.out HG1.out x0 (by omega) (by decide) HX.out (by omega)).mono ?_); rintro e2 w2 ⟨rfl, v2, k1, k2, k3⟩; have HT : RowKit.Hid (PutSt w base g v (P (k + 1)) w2) := (by rw [HP.out]; exact PutSt.step HE.out HK.out HV.out k1 (k2.mono fun j hj => hj.elim .inl fun c => .inr (.inl c)) k3); clear k1 k2 k3)
      go_roundw
      case rel => exact ⟨k + 1, by omega, by go_num, HT.out⟩
      case measure => simp [intOf] <;> omega
    · obtain rfl : k = 21 := by omega
      go_wp2
      go_ret
      exact ⟨rfl, H.out⟩
set_option maxHeartbeats 400000 in
set_option maxRecDepth 100000 in
theorem engDiffs_any (base g : Nat) (v : Value) (e : EncS) (a a2 : Option Addr) (cap cap2 : Nat) (zs ds : List Int) (w : World) (hE : EncAt w base g v e) (hG : GoodE e) (hk : e.k ≤ 700000)
    (hi : IntsAt w w.heap.size .i64 a 21 zs) (hr : rightB zs = true) (hne : ∀ r off, a = some ⟨r, off, none⟩ → r ≠ g ∧ v.ownBlock ≠ some r)
    (hi2 : IntsAt w w.heap.size .i64 a2 21 ds) (hr2 : rightB ds = true) (hne2 : ∀ r off, a2 = some ⟨r, off, none⟩ → r ≠ g ∧ v.ownBlock ≠ some r) :
    Calls Tryz.prog 162 #[.pointer (some ⟨g, 0, none⟩), .slice a 21 cap, .slice a2 21 cap2] w (PutPost base g v (putN false e (fun j => zs.getD j 0) (fun j => ds.getD j 0) 21) (.int .i64 0) w) := by
  have H00 : RowKit.Hid (PutSt w base g v (putN false e (fun j => zs.getD j 0) (fun j => ds.getD j 0) 0) w) := PutSt.start hE
  have HI := Lib.hid hi
  have HN := Lib.hid hne
  have HR := Lib.hid (rightB_true hr).2
  have HI2 := Lib.hid hi2
  have HN2 := Lib.hid hne2
  have HR2 := Lib.hid (rightB_true hr2).2
  have HL := Lib.hid difL_good
  have HG := Lib.hid (fun n => putN_good (q := false) (f := fun j => zs.getD j 0) (d := fun j => ds.getD j 0) hG n)
  have HS : RowKit.Hid (∀ n, putN false e (fun j => zs.getD j 0) (fun j => ds.getD j 0) (n + 1) = encSym (putN false e (fun j => zs.getD j 0) (fun j => ds.getD j 0) n) difL ((zs.getD n 0 - ds.getD n 0) % 32).toNat) := fun n => by rw [putN_succ, putW_diff]
  generalize putN false e (fun j => zs.getD j 0) (fun j => ds.getD j 0) = P at H00 HG HS ⊢
  clear hE hi hr hne hG hi2 hr2 hne2
  go_enter Tryz.func162, Tryz.ntmps162
  go_wp2_with (go_at_call 188; go_loud (refine (engDiff_any _).mono ?_); rintro e w1 ⟨m, rfl, hm, hM, hb⟩; have H0 : RowKit.Hid (PutSt w base g v (P 0) w1 ∧ ModAt w1 m difL true) := ⟨H00.out.below hb, hM⟩; clear hM hb)
  clear H00
  go_loopw [8, 9, 10, 14] (fun _ _ _ i wr => ∃ k : Nat, k ≤ 21 ∧ i = .int .i64 (k : Int) ∧ RowKit.Hid (PutSt w base g v (P k) wr ∧ ModAt wr m difL true)) (fun _ _ _ i _ => 21 - (intOf i).toNat)
  case atStart => exact ⟨0, by omega, rfl, H0.out⟩
  case round =>
    obtain ⟨k, hk2, rfl, H⟩ := hrel
    clear H0
    by_cases hlt : k < 21
    · obtain ⟨b, off, rfl, _, _, hcell⟩ := (H.out.1.ints HI.out HN.out).at_ hlt
      obtain ⟨b2, off2, rfl, _, _, hcell2⟩ := (H.out.1.ints HI2.out HN2.out).at_ hlt
      obtain ⟨x0, x1⟩ := HR.out k hlt
      obtain ⟨y0, y1⟩ := HR2.out k hlt
      have HM := Lib.hid H.out.2
      obtain ⟨v', he, hke, hv⟩ := H.out.1
      have HE := Lib.hid he
      have HK := Lib.hid hke
      have HV := Lib.hid hv
      have HKs := Lib.hid hke.size
      obtain ⟨g1, g2, _⟩ := HG.out k
      have HG1 := Lib.hid g1
      have HP := Lib.hid (HS.out k)
      clear he hke hv H g1
      generalize zs.getD k 0 = x at hcell x0 x1 HP
      generalize ds.getD k 0 = y at hcell2 y0 y1 HP
      have u1 : IntKind.i64.wrap (x - y) = x - y := IntWalk.i64_in _ (by omega)
      obtain ⟨s, hs⟩ : ∃ s : Nat, (x - y) % 32 = s := ⟨((x - y) % 32).toNat, by omega⟩
      have hs2 : s < difL.length := by rw [difL_len]; omega
      have HSs := Lib.hid hs
      have HSl := Lib.hid hs2
      have HSn : RowKit.Hid (((x - y) % 32).toNat = s) := by show _ = _; omega
      rw [HSn.out] at HP
      clear hs hs2
      go_wp2_with (first
        | (go_at_call 190; go_loud (refine (engWrap_any (x - y) _).mono ?_); rintro e1 w1' ⟨rfl, rfl⟩; rw [HSs.out])
        | (go_at_call 189; go_loud (refine (rncSymbol_any base g v' m (P k) difL true s _ HE.out HM.out HG1.out HL.out HSl.out (by omega)).mono ?_); rintro e2 w2 ⟨rfl, v2, k1, km, k2, k3⟩; have HT : RowKit.Hid (PutSt w base g v (P (k + 1)) w2 ∧ ModAt w2 m difL true) := ⟨(by rw [HP.out]; exact PutSt.step HE.out HK.out HV.out k1 (k2.mono fun j hj => hj.elim .inl fun c => .inr (c.elim .inl fun c => .inr (by omega))) k3), km⟩; clear k1 k2 k3 km))
      go_roundw
      case rel => exact ⟨k + 1, by omega, by go_num, HT.out⟩
      case measure => simp [intOf] <;> omega
    · obtain rfl : k = 21 := by omega
      go_wp2
      go_ret
      exact ⟨rfl, H.out.1⟩
def AheadAt (w : World) (q : Bool) (a : Option Addr) (len : Nat) (ds : List Int) : Prop := IntsAt w w.heap.size .i64 a len ds ∧ len ≤ 9223372036854775807 ∧ ((q = true ∧ len = 0) ∨ (q = false ∧ rightB ds = true ∧ len = 21))
theorem AheadAt.may {w : World} {q : Bool} {a : Option Addr} {len : Nat} {ds : List Int} (h : AheadAt w q a len ds) : (decide (len = 0) || rightB ds) = true := by
  obtain ⟨_, _, ⟨_, h⟩ | ⟨_, h, _⟩⟩ := h <;> simp [h]
theorem engPut_any (base g : Nat) (v : Value) (e : EncS) (q : Bool) (a a2 : Option Addr) (len2 cap cap2 : Nat) (zs ds : List Int) (w : World) (hE : EncAt w base g v e) (hG : GoodE e) (hk : e.k ≤ 700000)
    (hi : IntsAt w w.heap.size .i64 a 21 zs) (hr : rightB zs = true) (hne : ∀ r off, a = some ⟨r, off, none⟩ → r ≠ g ∧ v.ownBlock ≠ some r)
    (hA : AheadAt w q a2 len2 ds) (hne2 : q = false → ∀ r off, a2 = some ⟨r, off, none⟩ → r ≠ g ∧ v.ownBlock ≠ some r) :
    Calls Tryz.prog 132 #[.pointer (some ⟨g, 0, none⟩), .slice a 21 cap, .slice a2 len2 cap2] w (PutPost base g v (putN q e (fun j => zs.getD j 0) (fun j => ds.getD j 0) 21) (.int .i64 0) w) := by
  have HE := Lib.hid hE
  have HG := Lib.hid hG
  have HI := Lib.hid hi
  have HN := Lib.hid hne
  have HR := Lib.hid hr
  have HA := Lib.hid hA.1
  have HM := Lib.hid hA.may
  have hl2 := hA.2.1
  rcases hA with ⟨_, _, ⟨rfl, hl0⟩ | ⟨rfl, hr2, rfl⟩⟩
  · have q0 : ((len2 : Int) == 0) = true := by simp; omega
    clear hl0
    clear hE hG hi hne hr hne2
    go_enter Tryz.func132, Tryz.ntmps132
    go_wp2_with (first
      | (go_at_call 128; go_loud (refine (engRight_any _ _ _ _ _ HI.out (by decide)).mono ?_); rintro e1 w1 ⟨rfl, rfl⟩; rw [HR.out])
      | (go_at_call 160; go_loud (refine (engAhead_any _ _ _ _ _ HA.out hl2).mono ?_); rintro e1 w1 ⟨rfl, rfl⟩; rw [HM.out])
      | (go_at_call 161; go_loud (refine (engAlone_any base g v e a cap zs (fun j => ds.getD j 0) _ HE.out HG.out hk HI.out HR.out HN.out).mono ?_); rintro e1 w1 ⟨rfl, hp⟩; have HP := Lib.hid hp; clear hp))
    go_ret
    exact ⟨rfl, HP.out⟩
  · have HR2 := Lib.hid hr2
    have HN2 := Lib.hid (hne2 rfl)
    clear hE hG hi hne hr hne2 hr2
    go_enter Tryz.func132, Tryz.ntmps132
    go_wp2_with (first
      | (go_at_call 128; go_loud (refine (engRight_any _ _ _ _ _ HI.out (by decide)).mono ?_); rintro e1 w1 ⟨rfl, rfl⟩; rw [HR.out])
      | (go_at_call 160; go_loud (refine (engAhead_any _ _ _ _ _ HA.out (by decide)).mono ?_); rintro e1 w1 ⟨rfl, rfl⟩; rw [HM.out])
      | (go_at_call 162; go_loud (refine (engDiffs_any base g v e a a2 cap cap2 zs ds _ HE.out HG.out hk HI.out HR.out HN.out HA.out HR2.out HN2.out).mono ?_); rintro e1 w1 ⟨rfl, hp⟩; have HP := Lib.hid hp; clear hp))
    go_ret
    exact ⟨rfl, HP.out⟩
end Go.Proofs.YtmgfkdmjgjlkjaaGreat

namespace Go.Proofs.YtmgfkdmjgjlkjaaGreat
open Go.RowKit
set_option linter.unusedVariables false
set_option maxHeartbeats 1000000 in
set_option maxRecDepth 100000 in
theorem refDecSymbol_fixed (base b2 g : Nat) (v : Value) (b : List Int) (d : DecS) (mg mr : Nat) (l : List Int) (w : World) (hD : DecMem w base g v b d) (hb : ∀ j, 0 ≤ byteF b j ∧ byteF b j ≤ 255) (hbl : b.length ≤ 1000000) (hi : d.i ≤ 5000000) (hR : RefMod w b2 mg mr l true) (hG : GoodD d) (hL : GoodL l) (d1 : mg ≠ g) (d3 : mr ≠ g) (d2 : ∀ k, v.ownBlock = some k → k ≠ mg ∧ k ≠ mr) :
    Calls Tryz.prog 113 #[.pointer (some ⟨g, 0, none⟩), .pointer (some ⟨mg, 0, none⟩)] w (DecSymPost base b2 g v b mg mr (decWhich d l) (decSym b d l) l true w) := by
  obtain ⟨cm, h1, h2, h3⟩ := hR
  have HR := Lib.hid (show RefMod w b2 mg mr l true from ⟨cm, h1, h2, h3⟩)
  have HD := Lib.hid hD
  have HG := Lib.hid hG
  have HL := Lib.hid hL
  have HBy := Lib.hid hb
  have H2 := Lib.hid d2
  have hl0 := hL.1
  have hl := hL.2.1
  have c0 := h1.cell 0
  simp only [List.getElem?_toArray, List.getElem?_cons_zero] at c0
  obtain ⟨w1, w2, w3, w4⟩ := decWhich_is hG hL
  have HWl := Lib.hid w2
  have HW : RowKit.Hid (findP l (decAt d l.sum) = decWhich d l) := rfl
  have hbd : ∀ j, j < l.length → 0 ≤ l.getD j 0 ∧ l.getD j 0 ≤ 4294967295 := fun j hj => by have := HL.out.own hj; omega
  have HB := Lib.hid hbd
  have HOk := Lib.hid (okP_sym hL w1)
  have HT := Lib.hid (sumN_all l)
  have hcell := HR.out.at_ w1
  have HS : RowKit.Hid (decSym b d l = decTake (byteF b) d (sumN l (decWhich d l)) (l.getD (decWhich d l) 0) l.sum) := rfl
  rw [HS.out]
  clear h1 h2 h3 hD hG hL hb hbd d2 w2 HS
  generalize l.getD (decWhich d l) 0 = X2 at hcell HOk ⊢
  generalize hs : decWhich d l = s at w1 HWl HW HOk hcell ⊢
  clear hs
  have hsl : (s : Int) < (l.length : Int) := by omega
  go_enter Tryz.func113, Tryz.ntmps113
  go_wp2_with (first | (go_at_call 109; go_loud (refine (refSum_at b2 mg mr l true l.length _ _ (by omega) HR.out (by omega) hl HB.out).mono ?_); rintro e5 w5 ⟨rfl, rfl⟩; rw [HT.out]) | (go_at_call 111; go_loud (refine (refDecAt_any base g v b d _ _ HD.out HG.out w3 w4).mono ?_); rintro e5 w5 ⟨rfl, n5, rfl⟩) | (go_at_call 145; go_loud (refine (refFind_any b2 mg mr l true _ _ (HR.out.drewN _) hl0 hl HB.out).mono ?_); rintro e6 w6 ⟨rfl, rfl⟩; rw [HW.out]))
  have hcell2 : (w.drewN n5).cell? ⟨mr, s, none⟩ = some (.int .i64 X2) := hcell
  have c02 : (w.drewN n5).cell? ⟨mg, 0, none⟩ = some (.slice (some ⟨mr, 0, none⟩) l.length cm) := c0
  have HDq := Lib.hid (HD.out.drewN n5)
  have HRq := Lib.hid (HR.out.drewN n5)
  have HKq := Lib.hid ((Keeps.refl (fun j => j = g ∨ j = mr) w).drewN n5)
  clear c0 hcell
  generalize w.drewN n5 = wq at hcell2 c02 HDq HRq HKq ⊢
  go_still_tail 12, (by kernel_rfl)
  still_call ((refSum_at b2 mg mr l true s _ _ (by omega) (HRq.out.drewN 1) (by omega) hl HB.out).mono fun _ _ h => ⟨h.1, h.2.symm⟩)
  repeat still_step
  refine wpStill_nil ?_
  change wpList _ _ _ _ _ wq.drew
  clear c02 hcell2
  have HDd : RowKit.Hid (DecMem wq.drew base g v b d) := HDq.out.drewN 1
  have HRd : RowKit.Hid (RefMod wq.drew b2 mg mr l true) := HRq.out.drewN 1
  generalize hX1 : sumN l s = X1 at HWl HOk ⊢
  have HX1 := Lib.hid hX1
  clear hX1
  go_wp2_with (first | (go_at_call 112; go_loud (refine (refDecTake_any base g v b d _ _ _ _ HDd.out HBy.out hbl hi HG.out HOk.out HWl.out).mono ?_); rintro e5 w5 ⟨rfl, hm, hk⟩; have HM5 := Lib.hid hm; have HK5 := Lib.hid hk; have HR5 := Lib.hid (HRd.out.keeps hk d1 d3); clear hm hk) | (go_at_call 110; go_loud (refine (refLearn_fixed b2 mg mr l _ _ HR5.out).mono ?_); rintro e6 w6 ⟨rfl, rfl⟩))
  go_ret
  rw [HX1.out]
  exact ⟨rfl, HM5.out, HR5.out, (HKq.out.drewN 1).trans (HK5.out.mono fun k h => by omega)⟩
end Go.Proofs.YtmgfkdmjgjlkjaaGreat

namespace Go.Proofs.YtmgfkdmjgjlkjaaGreat
open Go.RowKit
set_option linter.unusedVariables false
theorem IFun.keeps {w w' : World} {g n : Nat} {t : TypeId} {k : IntKind} {f : Nat → Int} {F : Nat → Prop} (h : IFun w g t k n f) (hk : Keeps F w w') (hn : ¬ F g) : IFun w' g t k n f := (hk.block g h.lt hn).trans h
section
variable {w wr w' : World} {base g r : Nat} {v : Value} {b : List Int} {D D' : DecS} {f f' : Nat → Int}
end
end Go.Proofs.YtmgfkdmjgjlkjaaGreat

namespace Go.Proofs.YtmgfkdmjgjlkjaaGreat
open Go.RowKit
set_option linter.unusedVariables false
def RefSt (w : World) (B base g r : Nat) (E : EncS) (wr : World) : Prop :=
  ∃ r' c', EncMem wr base g r' c' (digL E.n (E.k + 4)) E.s E.k ∧ Keeps (fun j => j = g ∨ j = r) w wr ∧ (r' = r ∨ B ≤ r') ∧ w.heap.size ≤ B ∧ B ≤ wr.heap.size
theorem RefSt.start {w w1 : World} {base g r c : Nat} {E : EncS} (h : EncMem w base g r c (digL E.n (E.k + 4)) E.s E.k) (hb : Below w.heap.size w w1) : RefSt w w1.heap.size base g r E w1 :=
  ⟨r, c, h.below hb, .of_below hb, .inl rfl, hb.size, Nat.le_refl _⟩
theorem RefSt.ints {w wr : World} {B base g r len : Nat} {E : EncS} {a : Option Addr} {zs : List Int} (h : RefSt w B base g r E wr) (hi : IntsAt w w.heap.size .i64 a len zs) (hne : ∀ b off, a = some ⟨b, off, none⟩ → b ≠ g ∧ b ≠ r) : IntsAt wr w.heap.size .i64 a len zs := by
  obtain ⟨r', c', h1, h2, h3⟩ := h
  exact hi.keeps h2 (Nat.le_refl _) fun b off e _ _ c => by
    obtain ⟨n1, n2⟩ := hne b off e
    omega
theorem RefSt.step {w wr w' : World} {B base g r r' r2 c2 : Nat} {E' : EncS} (h2 : Keeps (fun j => j = g ∨ j = r) w wr) (h3 : (r' = r ∨ B ≤ r') ∧ w.heap.size ≤ B ∧ B ≤ wr.heap.size)
    (k1 : EncMem w' base g r2 c2 (digL E'.n (E'.k + 4)) E'.s E'.k) (k2 : Keeps (fun j => j = g ∨ j = r' ∨ w.heap.size ≤ j) wr w') (k3 : r2 = r' ∨ wr.heap.size ≤ r2) : RefSt w B base g r E' w' := by
  have hs := k2.size
  exact ⟨r2, c2, k1, h2.then_ k2 fun j hj => by omega, by omega, h3.2.1, by omega⟩
theorem RefSt.post {w wr : World} {B base g r : Nat} {E : EncS} (h : RefSt w B base g r E wr) : EncPost base g r E w (.returned (.tuple #[])) wr := by
  obtain ⟨r', c', h1, h2, h3, h4, h5⟩ := h
  exact ⟨rfl, r', c', h1, h2, by omega⟩
set_option maxRecDepth 100000 in
theorem ref10Put_alone (base g r c : Nat) (e : EncS) (a a2 : Option Addr) (len cap cap2 : Nat) (zs : List Int) (d : Nat → Int) (w : World) (hE : EncMem w base g r c (digL e.n (e.k + 4)) e.s e.k) (hG : GoodE e) (hk : e.k ≤ 700000)
    (hi : IntsAt w w.heap.size .i64 a len zs) (hl : len = 21) (hr : rightB zs = true) (hne : ∀ b off, a = some ⟨b, off, none⟩ → b ≠ g ∧ b ≠ r) :
    Calls Tryz.prog 38 #[.pointer (some ⟨g, 0, none⟩), .slice a len cap, .slice a2 0 cap2] w (EncPost base g r (putN true e (fun j => zs.getD j 0) d 21) w) := by
  have HE0 := Lib.hid hE
  have HI := Lib.hid hi
  have HN := Lib.hid hne
  have HR := Lib.hid (rightB_true hr).2
  have HG := Lib.hid (fun n => putN_good (q := true) (f := fun j => zs.getD j 0) (d := d) hG n)
  have HS : RowKit.Hid (∀ n, putN true e (fun j => zs.getD j 0) d (n + 1) = encBits (putN true e (fun j => zs.getD j 0) d n) (zs.getD n 0) 5) := fun n => by rw [putN_succ, putW_alone]
  have H00 : RowKit.Hid (∀ w1, Below w.heap.size w w1 → RefSt w w1.heap.size base g r (putN true e (fun j => zs.getD j 0) d 0) w1) := fun w1 hb => RefSt.start hE hb
  generalize putN true e (fun j => zs.getD j 0) d = P at H00 HG HS ⊢
  clear hE hi hr hne hG
  go_enter Tryz.func38, Tryz.ntmps38
  go_wp2_with (go_at_call 73; go_loud (refine (refApart_any _).mono ?_); rintro e w1 ⟨mg, mr, rfl, hM, hb⟩; have HB := Lib.hid hb; have H0 := Lib.hid (H00.out w1 hb); clear hM hb)
  clear H00
  go_loopw [7] (fun i wr => ∃ k : Nat, k ≤ 21 ∧ i = .int .i64 (k : Int) ∧ RowKit.Hid (RefSt w w1.heap.size base g r (P k) wr)) (fun i _ => 21 - (intOf i).toNat)
  case atStart => exact ⟨0, by omega, rfl, H0.out⟩
  case round =>
    obtain ⟨k, hk2, rfl, H⟩ := hrel
    clear H0
    by_cases hlt : k < 21
    · obtain ⟨b, off, rfl, _, _, hcell⟩ := (H.out.ints HI.out HN.out).at_ (j := k) (by omega)
      obtain ⟨x0, x1⟩ := HR.out k hlt
      obtain ⟨r', c', he, hke, hv⟩ := H.out
      have HE := Lib.hid he
      have HK := Lib.hid hke
      have HV := Lib.hid hv
      obtain ⟨g1, g2, _⟩ := HG.out k
      have HG1 := Lib.hid g1
      have HP := Lib.hid (HS.out k)
      clear he hke hv H g1
      generalize zs.getD k 0 = x at hcell x0 x1 HP
      have hkl : k < len := by omega
      go_wp2_with (go_at_call 36; go_loud (refine (refEncBits_any base g r' c' (P k) x 5 _ HE.out HG1.out (by omega) (by decide) x0 (by omega)).mono ?_); rintro e2 w2 ⟨rfl, r2, c2, k1, k2, k3⟩; have HT : RowKit.Hid (RefSt w w1.heap.size base g r (P (k + 1)) w2) := (by rw [HP.out]; exact RefSt.step HK.out HV.out k1 (k2.mono fun j hj => hj.elim .inl fun c => .inr (.inl c)) k3); clear k1 k2 k3)
      go_roundw
      case rel => exact ⟨k + 1, by omega, by go_num, HT.out⟩
      case measure => simp [intOf] <;> omega
    · obtain rfl : k = 21 := by omega
      have Z := Lib.hid (H.out.post)
      go_wp2
      go_end0
      exact Z.out
set_option maxHeartbeats 400000 in
set_option maxRecDepth 100000 in
theorem ref10Put_diffs (base g r c : Nat) (e : EncS) (a a2 : Option Addr) (cap cap2 : Nat) (zs ds : List Int) (w : World) (hE : EncMem w base g r c (digL e.n (e.k + 4)) e.s e.k) (hG : GoodE e) (hk : e.k ≤ 700000)
    (hi : IntsAt w w.heap.size .i64 a 21 zs) (hr : rightB zs = true) (hne : ∀ b off, a = some ⟨b, off, none⟩ → b ≠ g ∧ b ≠ r)
    (hi2 : IntsAt w w.heap.size .i64 a2 21 ds) (hr2 : rightB ds = true) (hne2 : ∀ b off, a2 = some ⟨b, off, none⟩ → b ≠ g ∧ b ≠ r) :
    Calls Tryz.prog 38 #[.pointer (some ⟨g, 0, none⟩), .slice a 21 cap, .slice a2 21 cap2] w (EncPost base g r (putN false e (fun j => zs.getD j 0) (fun j => ds.getD j 0) 21) w) := by
  have HE0 := Lib.hid hE
  have HI := Lib.hid hi
  have HN := Lib.hid hne
  have HR := Lib.hid (rightB_true hr).2
  have HI2 := Lib.hid hi2
  have HN2 := Lib.hid hne2
  have HR2 := Lib.hid (rightB_true hr2).2
  have HL := Lib.hid difL_good
  have HG := Lib.hid (fun n => putN_good (q := false) (f := fun j => zs.getD j 0) (d := fun j => ds.getD j 0) hG n)
  have HS : RowKit.Hid (∀ n, putN false e (fun j => zs.getD j 0) (fun j => ds.getD j 0) (n + 1) = encSym (putN false e (fun j => zs.getD j 0) (fun j => ds.getD j 0) n) difL ((zs.getD n 0 - ds.getD n 0) % 32).toNat) := fun n => by rw [putN_succ, putW_diff]
  have H00 : RowKit.Hid (∀ w1, Below w.heap.size w w1 → RefSt w w1.heap.size base g r (putN false e (fun j => zs.getD j 0) (fun j => ds.getD j 0) 0) w1) := fun w1 hb => RefSt.start hE hb
  have HLt := Lib.hid hE.lt
  generalize putN false e (fun j => zs.getD j 0) (fun j => ds.getD j 0) = P at H00 HG HS ⊢
  clear hE hi hr hne hG hi2 hr2 hne2
  go_enter Tryz.func38, Tryz.ntmps38
  go_wp2_with (go_at_call 73; go_loud (refine (refApart_any _).mono ?_); rintro e w1 ⟨mg, mr, rfl, hM, hb⟩; have HB := Lib.hid hb; have H0 : RowKit.Hid (RefSt w w1.heap.size base g r (P 0) w1 ∧ RefMod w1 w.heap.size mg mr difL true) := ⟨H00.out w1 hb, hM⟩; have HBs := Lib.hid hb.size; have HMl := Lib.hid hM.lt; clear hM hb)
  clear H00
  go_loopw [7] (fun i wr => ∃ k : Nat, k ≤ 21 ∧ i = .int .i64 (k : Int) ∧ RowKit.Hid (RefSt w w1.heap.size base g r (P k) wr ∧ RefMod wr w.heap.size mg mr difL true)) (fun i _ => 21 - (intOf i).toNat)
  case atStart => exact ⟨0, by omega, rfl, H0.out⟩
  case round =>
    obtain ⟨k, hk2, rfl, H⟩ := hrel
    clear H0
    by_cases hlt : k < 21
    · obtain ⟨b, off, rfl, _, _, hcell⟩ := (H.out.1.ints HI.out HN.out).at_ hlt
      obtain ⟨b2, off2, rfl, _, _, hcell2⟩ := (H.out.1.ints HI2.out HN2.out).at_ hlt
      obtain ⟨x0, x1⟩ := HR.out k hlt
      obtain ⟨y0, y1⟩ := HR2.out k hlt
      have HM := Lib.hid (H.out.2.drewN 1)
      obtain ⟨r', c', he, hke, hv⟩ := H.out.1
      have HE := Lib.hid (he.drewN 1)
      have HK := Lib.hid (hke.drewN 1)
      have HV := Lib.hid hv
      have HD : RowKit.Hid (mg ≠ g ∧ mg ≠ r' ∧ mr ≠ g ∧ mr ≠ r') := by
        have := HLt.out; have := HMl.out; have := HV.out
        refine ⟨?_, ?_, ?_, ?_⟩ <;> omega
      obtain ⟨g1, g2, _⟩ := HG.out k
      have HG1 := Lib.hid g1
      have HP := Lib.hid (HS.out k)
      clear he hke hv H g1
      generalize zs.getD k 0 = x at hcell x0 x1 HP
      generalize ds.getD k 0 = y at hcell2 y0 y1 HP
      have u0 : IntKind.i64.wrap (x + 32) = x + 32 := IntWalk.i64_in _ (by omega)
      have u1 : IntKind.i64.wrap (x + 32 - y) = x + 32 - y := IntWalk.i64_in _ (by omega)
      obtain ⟨s, hs⟩ : ∃ s : Nat, (x - y) % 32 = s := ⟨((x - y) % 32).toNat, by omega⟩
      have hs2 : s < difL.length := by rw [difL_len]; omega
      have HSl := Lib.hid hs2
      have HSn : RowKit.Hid (((x - y) % 32).toNat = s) := by show _ = _; omega
      have u2 : (x + 32 - y).tmod 32 = (s : Int) := by rw [Int.tmod_eq_emod_of_nonneg (by omega)]; omega
      rw [HSn.out] at HP
      clear hs hs2
      go_wp2
      go_still_tail 13, (by kernel_rfl)
      repeat still_step
      change wpList _ _ _ _ _ wr.drew
      go_wp2_with (go_at_call 74; go_loud (refine (refEncSymbol_any base w.heap.size g r' c' mg mr (P k) difL true s _ HE.out HM.out HG1.out HL.out HSl.out (by omega) HD.out.1 HD.out.2.1 HD.out.2.2.1 HD.out.2.2.2).mono ?_); rintro e2 w2 ⟨rfl, r2, c2, k1, km, k2, k3⟩; have HT : RowKit.Hid (RefSt w w1.heap.size base g r (P (k + 1)) w2 ∧ RefMod w2 w.heap.size mg mr difL true) := ⟨(by rw [HP.out]; exact RefSt.step HK.out HV.out k1 (k2.mono fun j hj => hj.elim .inl fun c => .inr (c.elim .inl fun c => .inr (by have := HMl.out; omega))) k3), km⟩; clear k1 k2 k3 km)
      go_roundw
      case rel => exact ⟨k + 1, by omega, by go_num, HT.out⟩
      case measure => simp [intOf] <;> omega
    · obtain rfl : k = 21 := by omega
      have Z := Lib.hid (H.out.1.post)
      go_wp2
      go_end0
      exact Z.out
end Go.Proofs.YtmgfkdmjgjlkjaaGreat
