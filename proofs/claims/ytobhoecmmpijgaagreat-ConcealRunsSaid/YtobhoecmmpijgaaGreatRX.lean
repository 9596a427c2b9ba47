/- Plain facts, and what functions give, for the proofs of this seat: several texts in one, each with its own first remark. -/
import Derived.Test.YtobhoecmmpijgaaGreatRW

/- Package conceal: the frames in the place of those that are missing. -/
namespace Go.Proofs.YtobhoecmmpijgaaGreat
open Go Go.RowKit
set_option linter.unusedVariables false
set_option linter.unusedSimpArgs false
set_option maxRecDepth 100000

theorem infoE_fr16 : (Tryz.prog.info? 22).map (fun i => (i.zero, i.size, i.bytes)) = some (some (.slice none 0 0), 1, 24) := by kernel_rfl
def ConcPost (E : E15) (ep nu : Int) (b : List Int) (e p s : Nat) (w : World) (en : Ending) (w' : World) : Prop :=
  ((E.miss ep nu = 0 ∨ E.T.may b) ∧ ∃ v, en = .returned (.tuple #[v, .int .i64 0]) ∧ RowsAt w' w.heap.size 22 51 .i16 v (fadeL E.T (E.miss ep nu)) ∧ Cel w' e 70 (earC p E) ∧ PlyAt w' p s (E.T.fadeN (E.miss ep nu)) ∧ Keeps (fun j => j = p ∨ j = s) w w' ∧ (E.miss ep nu = 0 → Below w.heap.size w w')) ∨
  (E.miss ep nu ≠ 0 ∧ ¬ E.T.may b ∧ ∃ er, en = .returned (.tuple #[.slice none 0 0, .int .i64 er]) ∧ (er = 3 ∨ er = 8) ∧ Below w.heap.size w w')
/-- What is held where frames fade. -/
structure FaSt (E : E15) (e p s k : Nat) (v : Value) (w wr : World) : Prop where
  hr : RowsAt wr w.heap.size 22 51 .i16 v (fadeL E.T k)
  he : Cel wr e 70 (earC p E)
  hp : PlyAt wr p s (E.T.fadeN k)
  hk : Keeps (fun j => j = p ∨ j = s) w wr
theorem ply_16 {w w' : World} {p s base : Nat} {S : P14} (h : PlyAt w p s S) (k : Keeps (fun j => base ≤ j ∧ OwnSl w 22 j) w w') : PlyAt w' p s S :=
  h.keeps k fun j hj => ⟨_, hj.2.typ, by decide, by decide, by decide, by decide, by decide, by decide⟩
theorem cel_16 {w w' : World} {g base : Nat} {t : TypeId} {cs : Array Value} (h : Cel w g t cs) (hne : t ≠ 22) (k : Keeps (fun j => base ≤ j ∧ OwnSl w 22 j) w w') : Cel w' g t cs :=
  h.keeps k fun hj => (Cel.typ h).ne hj.2.typ hne rfl
theorem rows_ply {w w' : World} {p s base : Nat} {S : P14} {v : Value} {fs : List (Nat → Int)} (h : RowsAt w base 22 51 .i16 v fs) (hp : PlyAt w p s S) (k : Keeps (fun j => j = p ∨ j = s) w w') : RowsAt w' base 22 51 .i16 v fs :=
  h.keeps k fun j hj => by
    rcases hj with rfl | rfl
    · exact ⟨_, hp.typs.1, by decide, by decide⟩
    · exact ⟨_, hp.typs.2, by decide, by decide⟩
theorem cel_ply {w w' : World} {p s g : Nat} {S : P14} {t : TypeId} {cs : Array Value} (h : Cel w g t cs) (h1 : t ≠ 105) (h2 : t ≠ 155) (hp : PlyAt w p s S) (k : Keeps (fun j => j = p ∨ j = s) w w') : Cel w' g t cs :=
  h.keeps k fun hj => by
    rcases hj with rfl | rfl
    · exact (Cel.typ h).ne hp.typs.1 h1 rfl
    · exact (Cel.typ h).ne hp.typs.2 h2 rfl
/-- A frame faded: all but its row's being appended. -/
theorem FaSt.fade {E : E15} {e p s k r : Nat} {v : Value} {w wr w4 : World} (h : FaSt E e p s k v w wr) (hI : IFun w4 r 51 .i16 512 (E.T.fadeN k).fades) (hp : PlyAt w4 p s (E.T.fadeN k).fade) (kk : Keeps (fun j => j = p ∨ j = s) wr w4) :
    RowsAt w4 w.heap.size 22 51 .i16 v (fadeL E.T k) ∧ Cel w4 e 70 (earC p E) ∧ PlyAt w4 p s (E.T.fadeN (k + 1)) ∧ Keeps (fun j => j = p ∨ j = s) w w4 ∧ NumAt w4 r 0 512 51 .i16 (E.T.fadeN k).fades :=
  ⟨rows_ply h.hr h.hp kk, cel_ply h.he (by decide) (by decide) h.hp kk, hp, h.hk.trans kk, by have := hI.num 0 512 (by decide); simpa using this⟩
theorem FaSt.next {E : E15} {e p s k : Nat} {v' : Value} {w w5 w6 : World} (he : Cel w5 e 70 (earC p E)) (hp : PlyAt w5 p s (E.T.fadeN (k + 1))) (hk : Keeps (fun j => j = p ∨ j = s) w w5)
    (hr : RowsAt w6 w.heap.size 22 51 .i16 v' (fadeL E.T k ++ [(E.T.fadeN k).fades])) (h6 : Keeps (fun j => w.heap.size ≤ j ∧ OwnSl w5 22 j) w5 w6) : FaSt E e p s (k + 1) v' w w6 :=
  ⟨by rw [fadeL_succ]; exact hr, cel_16 he (by decide) h6, ply_16 hp h6, hk.then_ h6 fun j hj => .inr hj.1⟩
set_option maxHeartbeats 1000000 in
theorem eConcealed_any (e p s : Nat) (E : E15) (ep nu : Int) (wh : Bool) (b : List Int) (a : Option Addr) (len cap : Nat) (w : World) (h : EarAt w e p s E) (hE : E.Ok)
    (hI : IntsAt w w.heap.size .u8 a len b) (hn : a = none → cap = 0) (hb : ∀ j, 0 ≤ byteF b j ∧ byteF b j ≤ 255) (hl : len ≤ 100000) (n0 : 0 ≤ nu) (n1 : nu ≤ 4294967295) (hw : plWh b = true ∨ E.miss ep nu = 0) :
    Calls Tryz.prog 36 #[.pointer (some ⟨e, 0, none⟩), .agg #[.int .u32 ep, .int .u32 nu, .bool wh, .slice a len cap]] w (ConcPost E ep nu b e p s w) := by
  have ba := Below.alloc_new w (.cells #[.int .u32 ep, .int .u32 nu, .bool wh, .slice a len cap] 42)
  have HE := Lib.hid (h.below ba)
  have HP := Lib.hid (Cel.new w 42 #[.int .u32 ep, .int .u32 nu, .bool wh, .slice a len cap])
  have HB0 := Lib.hid ba
  have HI := Lib.hid (hI.now ba (Nat.le_refl _))
  have HOk := Lib.hid hE
  have HNn := Lib.hid hn
  have HBy := Lib.hid hb
  obtain ⟨M, hM⟩ : ∃ M, M = E.miss ep nu := ⟨_, rfl⟩
  have HM : RowKit.Hid (E.miss ep nu = M) := hM.symm
  have HM2 : RowKit.Hid (missF E.ever E.ep E.nu ep nu = M) := hM.symm
  have HM4 : M ≤ 4 := by rw [hM]; exact E.miss_le ep nu
  rw [← hM] at hw
  have hev : M ≠ 0 → E.T.has = true := fun h0 => by
    rw [hE.e]
    cases hv : E.ever with
    | true => rfl
    | false => exact absurd (show M = 0 by rw [hM]; unfold E15.miss missF; rw [hv]; rfl) h0
  clear h hI hn hb ba hM hE
  by_cases h0 : M = 0
  · subst h0
    clear hw hev
    go_enter Tryz.func36, Tryz.ntmps36
    go_wp2_with (first
      | (go_at_call 69; go_loud (refine (eMissing_any e (.pointer (some ⟨p, 0, none⟩)) E.ever E.run E.ep E.nu ep nu _ H4.out.e).mono ?_); rintro e' w5 ⟨rfl, b5⟩; rw [HM2.out]; have H5 := Lib.hid (H4.out.below b5); have HB5 := Lib.hid (chain HB4.out b5); clear b5)
      | (go_at_call 37; go_loud (refine (ePlace_any ep nu wh a len cap _).mono ?_); rintro e' w4 ⟨rfl, b4⟩; have H4 := Lib.hid (HE.out.below b4); have HB4 := Lib.hid (chain HB0.out b4); clear b4))
    go_ret2
    exact .inl ⟨.inl HM.out, _, rfl, by rw [HM.out]; exact RowsAt.nil _ _ _ _ _, H5.out.e, by rw [HM.out]; exact H5.out.p, Keeps.of_below HB5.out, fun _ => HB5.out⟩
  · have hwh : plWh b = true := hw.resolve_right h0
    have HWh := Lib.hid hwh
    have HHas := Lib.hid (hev h0)
    have hM0 : ((M : Int) == 0) = false := by simp; omega
    have HM0 := Lib.hid h0
    clear hw hev hwh h0
    by_cases hm : E.T.may b
    · have HY := Lib.hid hm
      have HZ : RowKit.Hid (p14Zero.may b) := (P14.may_whole HWh.out E.T p14Zero).1 hm
      clear hm
      go_enter Tryz.func36, Tryz.ntmps36
      go_wp2_with (first
        | (go_at_call 69; go_loud (refine (eMissing_any e (.pointer (some ⟨p, 0, none⟩)) E.ever E.run E.ep E.nu ep nu _ H4.out.e).mono ?_); rintro e' w5 ⟨rfl, b5⟩; rw [HM2.out]; have H5 := Lib.hid (H4.out.below b5); have HB5 := Lib.hid (chain HB4.out b5); have HP5 := Lib.hid (HP4.out.below b5); have HI5 := Lib.hid (HI4.out.now b5 (Nat.le_refl _)); clear b5)
        | (go_at_call 37; go_loud (refine (ePlace_any ep nu wh a len cap _).mono ?_); rintro e' w4 ⟨rfl, b4⟩; have H4 := Lib.hid (HE.out.below b4); have HB4 := Lib.hid (chain HB0.out b4); have HP4 := Lib.hid (HP.out.below b4); have HI4 := Lib.hid (HI.out.now b4 (Nat.le_refl _)); clear b4))
      obtain ⟨f, hf⟩ : ∃ f, f = w.heap.size := ⟨_, rfl⟩
      have HF := Lib.hid hf
      rw [← hf] at HP5 ⊢
      clear hf H4 HB4 HP4 HI4 HE HP HI HB0
      have c1 : w5.cell? ⟨f, 1, none⟩ = some (.int .u32 nu) := HP5.out.cell 1
      have c3 : w5.cell? ⟨f, 3, none⟩ = some (.slice a len cap) := HP5.out.cell 3
      go_region_held3 (fun w' => w'.cell? ⟨f, 1, none⟩ = some (.int .u32 nu) ∧ w'.cell? ⟨f, 3, none⟩ = some (.slice a len cap)) (go_keep) (first
        | (go_at_call 18; have h6 := H6.out; clear h6; go_loud (refine (pPlay_any p14Zero b nu p6 s6 a len cap _ H6.out.1 p14Zero_ok HI6.out HNn.out HBy.out hl n0 n1).mono ?_); rintro e' w7 (⟨_, r, rfl, _, _, _, k7⟩ | ⟨hh, _⟩); (case inr => exact absurd HZ.out hh); have HB7 : RowKit.Hid (Below w5.heap.size w5 w7) := H6.out.2.1.trans (k7.below H6.out.2.1.size fun j hj => by have := H6.out.2.2; omega); clear k7; have HP7 := Lib.hid (HP5.out.below HB7.out); have m1 : w7.cell? ⟨f, 1, none⟩ = some (.int .u32 nu) := HP7.out.cell 1; have m3 : w7.cell? ⟨f, 3, none⟩ = some (.slice a len cap) := HP7.out.cell 3)
        | (go_at_call 16; go_loud (refine (pNew_any _).mono ?_); rintro e' w6 ⟨p6, s6, rfl, h6, s1, s2, b6⟩; have b6' : Below w5.heap.size w5 w6 := chain (Below.drewN' (Below.refl _ w5) 1) b6; have H6 : RowKit.Hid (PlyAt w6 p6 s6 p14Zero ∧ Below w5.heap.size w5 w6 ∧ w5.heap.size ≤ p6 ∧ w5.heap.size ≤ s6) := ⟨h6, b6', s1, s2⟩; have HI6 := Lib.hid (HI5.out.now b6' (Nat.le_refl _)); have HP6 := Lib.hid (HP5.out.below b6'); have m1 : w6.cell? ⟨f, 1, none⟩ = some (.int .u32 nu) := HP6.out.cell 1; have m3 : w6.cell? ⟨f, 3, none⟩ = some (.slice a len cap) := HP6.out.cell 3; clear h6 s1 s2 b6 b6')
        | fail)
      obtain ⟨F, hF⟩ : ∃ F, F = E.T := ⟨_, rfl⟩
      have H0 : RowKit.Hid (FaSt E e p s 0 (.slice none 0 0) w w7) := ⟨RowsAt.nil _ _ _ _ _, H5.out.e.below HB7.out, H5.out.p.below HB7.out, Keeps.of_below (chain HB5.out HB7.out)⟩
      have HB8 : RowKit.Hid (w.heap.size ≤ w7.heap.size) := (chain HB5.out HB7.out).size
      clear hF HP7 H6 HI6 HP6 HI5 HP5 H5 HB5 HB7 c1 c3 m1 m3
      go_wp2
      go_loopw [9, 10, 11, 31] (fun v _ _ i wr => ∃ (k : Nat) (u : Value), u = v ∧ k ≤ M ∧ i = .int .i64 ((k : Nat) : Int) ∧ RowKit.Hid (FaSt E e p s k u w wr)) (fun _ _ _ i _ => M - (intOf i).toNat)
      case atStart => exact ⟨0, _, rfl, by omega, rfl, H0.out⟩
      case round =>
        obtain ⟨k, u, rfl, hk, rfl, H⟩ := hrel
        clear H0
        by_cases hlt : k < M
        · have l1 : (k : Int) < (M : Int) := by omega
          have c0 : wr.cell? ⟨e, 0, none⟩ = some (.pointer (some ⟨p, 0, none⟩)) := H.out.he.cell 0
          go_wp2_with (first
            | (at_builtin; go_loud (refine append_frame rfl _ _ 43 rfl w.heap.size 22 51 .i16 Tryz.underlying43 infoE_fr16 (by decide) u (fadeL E.T k) rfl HR5.out.1 (by rw [fadeL_len]; omega) w4.heap.size r 512 (E.T.fadeN k).fades rfl HR5.out.2.1 HR5.out.2.2.1 HR5.out.2.2.2 ?_); intro v6 w6 hr6 hk6; have H6 : RowKit.Hid (FaSt E e p s (k + 1) v6 w w6) := FaSt.next HC5.out.1 HC5.out.2.1 HC5.out.2.2 hr6 hk6; clear hr6 hk6)
            | (go_at_call 70; go_loud (refine (pFade_any (E.T.fadeN k) p s _ H.out.hp (HOk.out.t.fadeN k) (P14.fadeN_has HHas.out k)).mono ?_); rintro e' w4 ⟨r, rfl, i4, s4, p4, k4⟩; have HX := H.out.fade i4 p4 k4; have b5 := Below.alloc_new w4 (.cells #[.slice (some ⟨r, 0, none⟩) 512 512] 22); have hs5 := HX.2.2.2.1.size; have HR5 : RowKit.Hid (RowsAt (w4.alloc (.cells #[.slice (some ⟨r, 0, none⟩) 512 512] 22)) w.heap.size 22 51 .i16 u (fadeL E.T k) ∧ Cel (w4.alloc (.cells #[.slice (some ⟨r, 0, none⟩) 512 512] 22)) w4.heap.size 22 #[.slice (some ⟨r, 0, none⟩) 512 512] ∧ NumAt (w4.alloc (.cells #[.slice (some ⟨r, 0, none⟩) 512 512] 22)) r 0 512 51 .i16 (E.T.fadeN k).fades ∧ w.heap.size ≤ (w4.alloc (.cells #[.slice (some ⟨r, 0, none⟩) 512 512] 22)).heap.size) := ⟨HX.1.below b5, Cel.new w4 _ _, HX.2.2.2.2.below b5, Nat.le_trans hs5 b5.size⟩; have HC5 : RowKit.Hid (Cel (w4.alloc (.cells #[.slice (some ⟨r, 0, none⟩) 512 512] 22)) e 70 (earC p E) ∧ PlyAt (w4.alloc (.cells #[.slice (some ⟨r, 0, none⟩) 512 512] 22)) p s (E.T.fadeN (k + 1)) ∧ Keeps (fun j => j = p ∨ j = s) w (w4.alloc (.cells #[.slice (some ⟨r, 0, none⟩) 512 512] 22))) := ⟨HX.2.1.below b5, HX.2.2.1.below b5, HX.2.2.2.1.alloc _⟩; clear i4 s4 p4 k4 HX b5 hs5))
          go_roundw
          case rel => exact ⟨k + 1, v6, rfl, by omega, by go_num, H6.out⟩
          case measure => simp [intOf] <;> omega
        · obtain rfl : k = M := by omega
          have l1 : ¬ (k : Int) < (k : Int) := by omega
          go_wp2
          go_ret2
          exact .inl ⟨.inr HY.out, u, rfl, by rw [HM.out]; exact H.out.hr, H.out.he, by rw [HM.out]; exact H.out.hp, H.out.hk, fun h => absurd (HM.out.symm.trans h) HM0.out⟩
    · have HY := Lib.hid hm
      have HZ : RowKit.Hid (¬ p14Zero.may b) := fun h => hm ((P14.may_whole HWh.out E.T p14Zero).2 h)
      clear hm
      go_enter Tryz.func36, Tryz.ntmps36
      go_wp2_with (first
        | (go_at_call 69; go_loud (refine (eMissing_any e (.pointer (some ⟨p, 0, none⟩)) E.ever E.run E.ep E.nu ep nu _ H4.out.e).mono ?_); rintro e' w5 ⟨rfl, b5⟩; rw [HM2.out]; have H5 := Lib.hid (H4.out.below b5); have HB5 := Lib.hid (chain HB4.out b5); have HP5 := Lib.hid (HP4.out.below b5); have HI5 := Lib.hid (HI4.out.now b5 (Nat.le_refl _)); clear b5)
        | (go_at_call 37; go_loud (refine (ePlace_any ep nu wh a len cap _).mono ?_); rintro e' w4 ⟨rfl, b4⟩; have H4 := Lib.hid (HE.out.below b4); have HB4 := Lib.hid (chain HB0.out b4); have HP4 := Lib.hid (HP.out.below b4); have HI4 := Lib.hid (HI.out.now b4 (Nat.le_refl _)); clear b4))
      obtain ⟨f, hf⟩ : ∃ f, f = w.heap.size := ⟨_, rfl⟩
      have HF := Lib.hid hf
      rw [← hf] at HP5 ⊢
      clear hf H4 HB4 HP4 HI4 HE HP HI HB0
      have c1 : w5.cell? ⟨f, 1, none⟩ = some (.int .u32 nu) := HP5.out.cell 1
      have c3 : w5.cell? ⟨f, 3, none⟩ = some (.slice a len cap) := HP5.out.cell 3
      go_region_held3 (fun w' => w'.cell? ⟨f, 1, none⟩ = some (.int .u32 nu) ∧ w'.cell? ⟨f, 3, none⟩ = some (.slice a len cap)) (go_keep) (first
        | (go_at_call 18; have h6 := H6.out; clear h6; go_loud (refine (pPlay_any p14Zero b nu p6 s6 a len cap _ H6.out.1 p14Zero_ok HI6.out HNn.out HBy.out hl n0 n1).mono ?_); rintro e' w7 (⟨hh, _⟩ | ⟨_, er, rfl, ho, _, _, b7⟩); (case inl => exact absurd hh HZ.out); have HER := Lib.hid ho; have hne : (er != 0) = true := (by rcases ho with h | h <;> rw [h] <;> rfl); have HB7 : RowKit.Hid (Below w5.heap.size w5 w7) := chain H6.out.2.1 b7; clear b7 ho; have HP7 := Lib.hid (HP5.out.below HB7.out); have m1 : w7.cell? ⟨f, 1, none⟩ = some (.int .u32 nu) := HP7.out.cell 1; have m3 : w7.cell? ⟨f, 3, none⟩ = some (.slice a len cap) := HP7.out.cell 3)
        | (go_at_call 16; go_loud (refine (pNew_any _).mono ?_); rintro e' w6 ⟨p6, s6, rfl, h6, s1, s2, b6⟩; have b6' : Below w5.heap.size w5 w6 := chain (Below.drewN' (Below.refl _ w5) 1) b6; have H6 : RowKit.Hid (PlyAt w6 p6 s6 p14Zero ∧ Below w5.heap.size w5 w6 ∧ w5.heap.size ≤ p6 ∧ w5.heap.size ≤ s6) := ⟨h6, b6', s1, s2⟩; have HI6 := Lib.hid (HI5.out.now b6' (Nat.le_refl _)); have HP6 := Lib.hid (HP5.out.below b6'); have m1 : w6.cell? ⟨f, 1, none⟩ = some (.int .u32 nu) := HP6.out.cell 1; have m3 : w6.cell? ⟨f, 3, none⟩ = some (.slice a len cap) := HP6.out.cell 3; clear h6 s1 s2 b6 b6')
        | fail)
      go_wp2
      go_ret2
      exact .inr ⟨by rw [HM.out]; exact HM0.out, HY.out, er, rfl, HER.out, chain HB5.out HB7.out⟩
end Go.Proofs.YtobhoecmmpijgaaGreat

/- Package conceal: Hear. -/
namespace Go.Proofs.YtobhoecmmpijgaaGreat
open Go Go.RowKit
set_option linter.unusedVariables false
set_option linter.unusedSimpArgs false
set_option maxRecDepth 100000

def HearPost15 (E : E15) (ep nu : Int) (wh : Bool) (b : List Int) (e p s : Nat) (w : World) (en : Ending) (w' : World) : Prop :=
  (E.may ep nu wh b ∧ ∃ v, en = .returned (.tuple #[v, .int .i64 0]) ∧ RowsAt w' w.heap.size 22 51 .i16 v (E.frames ep nu b) ∧ EarAt w' e p s (E.hear ep nu b) ∧ Keeps (fun j => j = e ∨ j = p ∨ j = s) w w') ∨
  (¬ E.may ep nu wh b ∧ ∃ er, en = .returned (.tuple #[.slice none 0 0, .int .i64 er]) ∧ (er = 3 ∨ er = 8) ∧ (headR b = true → plWh b = wh → wh = false → E.follows ep nu = false → er = 8) ∧ Below w.heap.size w w')
theorem mayE_er {E : E15} {ep nu : Int} {wh : Bool} {b : List Int} (h : mayE E ep nu wh b ≠ 0) : mayE E ep nu wh b = 3 ∨ mayE E ep nu wh b = 8 := by
  unfold mayE at h ⊢
  split
  · split
    · split
      · rename_i h1 h2 h3
        rw [if_pos h1, if_pos h2, if_pos h3] at h
        exact absurd rfl h
      · split
        · rename_i h1 h2 h3 h4
          rw [if_pos h1, if_pos h2, if_neg h3, if_pos h4] at h
          exact absurd rfl h
        · exact .inr rfl
    · exact .inl rfl
  · exact .inl rfl
theorem set_sizeE (w : World) (p : Addr) (u : Value) : (w.setCell p u).heap.size = w.heap.size := by simp [World.setCell]
/-- What is held behind Play. -/
structure HdSt15 (E : E15) (e p s M : Nat) (b : List Int) (nu : Int) (r : Nat) (v : Value) (w w4 : World) : Prop where
  hr : RowsAt w4 w.heap.size 22 51 .i16 v (fadeL E.T M)
  he : Cel w4 e 70 (earC p E)
  hp : PlyAt w4 p s ((E.T.fadeN M).play b nu)
  hn : NumAt w4 r 0 512 51 .i16 ((E.T.fadeN M).plays b nu)
  hk : Keeps (fun j => j = p ∨ j = s) w w4
structure HeSt15 (E : E15) (e p s M : Nat) (b : List Int) (ep nu : Int) (r : Nat) (v : Value) (w W : World) : Prop where
  hr : RowsAt W w.heap.size 22 51 .i16 v (fadeL E.T M)
  he : EarAt W e p s ⟨(E.T.fadeN M).play b nu, true, ep, nu, true⟩
  hn : NumAt W r 0 512 51 .i16 ((E.T.fadeN M).plays b nu)
  hk : Keeps (fun j => j = e ∨ j = p ∨ j = s) w W
theorem HdSt15.now {E : E15} {e p s M r : Nat} {b : List Int} {nu : Int} {v : Value} {w w4 w5 : World} (h : HdSt15 E e p s M b nu r v w w4) (k : Below w4.heap.size w4 w5) : HdSt15 E e p s M b nu r v w w5 :=
  ⟨h.hr.below k, h.he.below k, h.hp.below k, h.hn.below k, h.hk.trans (.of_below k)⟩
theorem HeSt15.now {E : E15} {e p s M r : Nat} {b : List Int} {ep nu : Int} {v : Value} {w w4 w5 : World} (h : HeSt15 E e p s M b ep nu r v w w4) (k : Below w4.heap.size w4 w5) : HeSt15 E e p s M b ep nu r v w w5 :=
  ⟨h.hr.below k, h.he.below k, h.hn.below k, h.hk.trans (.of_below k)⟩
theorem HdSt15.set {E : E15} {e p s M r : Nat} {b : List Int} {ep nu : Int} {v : Value} {w w4 : World} (h : HdSt15 E e p s M b nu r v w w4) :
    HeSt15 E e p s M b ep nu r v w ((((w4.setCell ⟨e, 1, none⟩ (.bool true)).setCell ⟨e, 2, none⟩ (.int .u32 ep)).setCell ⟨e, 3, none⟩ (.int .u32 nu)).setCell ⟨e, 4, none⟩ (.bool true)) := by
  have K : Keeps (· = e) w4 ((((w4.setCell ⟨e, 1, none⟩ (.bool true)).setCell ⟨e, 2, none⟩ (.int .u32 ep)).setCell ⟨e, 3, none⟩ (.int .u32 nu)).setCell ⟨e, 4, none⟩ (.bool true)) := (((Keeps.set1 _).trans (Keeps.set1 _)).trans (Keeps.set1 _)).trans (Keeps.set1 _)
  have ht := Cel.typ h.he
  refine ⟨h.hr.keeps K fun j hj => by subst hj; exact ⟨_, ht, by decide, by decide⟩, ⟨(((h.he.set_ 1 _).set_ 2 _).set_ 3 _).set_ 4 _, h.hp.keepsN K fun j hj => ?_⟩, h.hn.keeps K fun hj => ht.ne h.hn.1 (by decide) hj.symm, ?_⟩
  · subst hj
    exact ⟨ht.ne h.hp.typs.1 (by decide), ht.ne h.hp.typs.2 (by decide), _, ht, by decide, by decide, by decide, by decide⟩
  · exact (h.hk.mono fun j hj => .inr hj).trans (K.mono fun j hj => .inl hj)
theorem HeSt15.done {E : E15} {e p s M r : Nat} {b : List Int} {ep nu : Int} {wh : Bool} {v v' : Value} {w W W' : World} (h : HeSt15 E e p s M b ep nu r v w W) (hM : E.miss ep nu = M)
    (hr : RowsAt W' w.heap.size 22 51 .i16 v' (fadeL E.T M ++ [(E.T.fadeN M).plays b nu])) (hk : Keeps (fun j => w.heap.size ≤ j ∧ OwnSl W 22 j) W W') (hm : E.may ep nu wh b) : HearPost15 E ep nu wh b e p s w (.returned (.tuple #[v', .int .i64 0])) W' := by
  refine .inl ⟨hm, v', rfl, ?_, ?_, h.hk.then_ hk fun j hj => .inr hj.1⟩
  · unfold E15.frames
    rw [hM]
    exact hr
  · unfold E15.hear
    rw [hM]
    exact h.he.keeps hk fun j hj => ⟨_, hj.2.typ, by decide, by decide, by decide, by decide, by decide, by decide, by decide⟩
set_option maxHeartbeats 2000000 in
theorem eHear_any (e p s : Nat) (E : E15) (ep nu : Int) (wh : Bool) (b : List Int) (a : Option Addr) (len cap : Nat) (w : World) (h : EarAt w e p s E) (hE : E.Ok)
    (hI : IntsAt w w.heap.size .u8 a len b) (hn : a = none → cap = 0) (hb : ∀ j, 0 ≤ byteF b j ∧ byteF b j ≤ 255) (hl : len ≤ 100000) (n0 : 0 ≤ nu) (n1 : nu ≤ 4294967295) :
    Calls Tryz.prog 13 #[.pointer (some ⟨e, 0, none⟩), .agg #[.int .u32 ep, .int .u32 nu, .bool wh, .slice a len cap]] w (HearPost15 E ep nu wh b e p s w) := by
  have ba := Below.alloc_new w (.cells #[.int .u32 ep, .int .u32 nu, .bool wh, .slice a len cap] 42)
  have HE := Lib.hid (h.below ba)
  have HP := Lib.hid (Cel.new w 42 #[.int .u32 ep, .int .u32 nu, .bool wh, .slice a len cap])
  have HB0 := Lib.hid ba
  have HI := Lib.hid (hI.now ba (Nat.le_refl _))
  have HOk := Lib.hid hE
  have HNn := Lib.hid hn
  have HBy := Lib.hid hb
  obtain ⟨er, her⟩ : ∃ er, er = mayE E ep nu wh b := ⟨_, rfl⟩
  have HEr : RowKit.Hid (mayE E ep nu wh b = er) := her.symm
  obtain ⟨M, hM⟩ : ∃ M, M = E.miss ep nu := ⟨_, rfl⟩
  have HM : RowKit.Hid (E.miss ep nu = M) := hM.symm
  have HM4 : RowKit.Hid (M ≤ 4) := by rw [hM]; exact E.miss_le ep nu
  clear h hI hn hb ba hE her hM
  by_cases h0 : er = 0
  · subst h0
    obtain ⟨g1, g2, g3⟩ := mayE_zero HEr.out
    have HWM : RowKit.Hid (plWh b = true ∨ E.miss ep nu = 0) := by
      rcases g3 with g3 | g3
      · exact .inl (by rw [g2, g3])
      · exact .inr (HOk.out.follows g3).2.2.2.2
    by_cases hm : E.T.may b
    · have HY : RowKit.Hid (E.may ep nu wh b) := ⟨g1, g2, g3, hm⟩
      have HT := Lib.hid hm
      have HTN : RowKit.Hid ((E.T.fadeN M).may b) := by have := (HOk.out.mayN (ep := ep) (nu := nu)).2 hm; rw [HM.out] at this; exact this
      clear hm g1 g2 g3
      go_enter Tryz.func13, Tryz.ntmps13
      go_wp2_with (first
        | (go_at_call 36; have h1 := H1.out; clear h1; go_loud (refine (eConcealed_any e p s E ep nu wh b a len cap _ H1.out HOk.out HI1.out HNn.out HBy.out hl n0 n1 HWM.out).mono ?_); rintro e' w2 (⟨_, v2, rfl, r2, c2, p2, k2, k2z⟩ | ⟨_, hh, _⟩); (case inr => exact absurd HT.out hh); rw [HM.out] at r2 p2; have HR2 := Lib.hid (r2.lower HB1.out.size); have HC2 := Lib.hid c2; have HPl2 := Lib.hid p2; have HK2 : RowKit.Hid (Keeps (fun j => j = p ∨ j = s) w w2) := (Keeps.of_below HB1.out).trans k2; have HI2 := Lib.hid (bytes_far HI1.out k2 H1.out.p.odd8); have HP2 := Lib.hid (cel_ply HP1.out (by decide) (by decide) H1.out.p k2); clear r2 c2 p2 k2; have HB2z : RowKit.Hid (M = 0 → Below w.heap.size w w2) := (fun h => chain HB1.out (k2z (HM.out.trans h))); clear k2z)
        | (go_at_call 35; go_loud (refine (eMayHear_any e p s E ep nu wh b a len cap _ HE.out HI.out HNn.out HBy.out hl).mono ?_); rintro e' w1 ⟨rfl, b1⟩; rw [HEr.out]; have H1 := Lib.hid (HE.out.below b1); have HB1 := Lib.hid (chain HB0.out b1); have HP1 := Lib.hid (HP.out.below b1); have HI1 := Lib.hid (HI.out.now b1 (Nat.le_refl _)); clear b1; have p0 : w1.cell? ⟨w.heap.size, 0, none⟩ = some (.int .u32 ep) := HP1.out.cell 0; have p1 : w1.cell? ⟨w.heap.size, 1, none⟩ = some (.int .u32 nu) := HP1.out.cell 1; have p2 : w1.cell? ⟨w.heap.size, 2, none⟩ = some (.bool wh) := HP1.out.cell 2; have p3 : w1.cell? ⟨w.heap.size, 3, none⟩ = some (.slice a len cap) := HP1.out.cell 3))
      obtain ⟨f, hf⟩ : ∃ f, f = w.heap.size := ⟨_, rfl⟩
      have HF := Lib.hid hf
      rw [← hf] at HP2 ⊢
      clear hf
      have c0 : w2.cell? ⟨e, 0, none⟩ = some (.pointer (some ⟨p, 0, none⟩)) := HC2.out.cell 0
      have c1 : w2.cell? ⟨f, 1, none⟩ = some (.int .u32 nu) := HP2.out.cell 1
      have c3 : w2.cell? ⟨f, 3, none⟩ = some (.slice a len cap) := HP2.out.cell 3
      have b2' : RowKit.Hid (Below w2.heap.size w2 w2.drew) := Below.drewN' (Below.refl _ w2) 1
      have HPd := Lib.hid (HPl2.out.below b2'.out)
      have HId := Lib.hid (HI2.out.now b2'.out (Nat.le_refl _))
      go_region_held3 (fun w' => w'.cell? ⟨e, 0, none⟩ = some (.pointer (some ⟨p, 0, none⟩)) ∧ w'.cell? ⟨f, 1, none⟩ = some (.int .u32 nu) ∧ w'.cell? ⟨f, 3, none⟩ = some (.slice a len cap)) (go_keep) (first
        | (go_at_call 18; go_loud (refine (pPlay_any (E.T.fadeN M) b nu p s a len cap _ HPd.out (HOk.out.t.fadeN M) HId.out HNn.out HBy.out hl n0 n1).mono ?_); rintro e' w4 (⟨_, r, rfl, i4, s4, p4, k4⟩ | ⟨hh, _⟩); (case inr => exact absurd HTN.out hh); have k4' : Keeps (fun j => j = p ∨ j = s) w2 w4 := (Keeps.of_below b2'.out).trans k4; have H4 : RowKit.Hid (HdSt15 E e p s M b nu r v2 w w4) := ⟨rows_ply HR2.out HPl2.out k4', cel_ply HC2.out (by decide) (by decide) HPl2.out k4', p4, (by have := i4.num 0 512 (by decide); simpa using this), HK2.out.trans k4'⟩; have HP4 := Lib.hid (cel_ply HP2.out (by decide) (by decide) HPl2.out k4'); clear i4 s4 p4 k4 k4'; have m0 : w4.cell? ⟨e, 0, none⟩ = some (.pointer (some ⟨p, 0, none⟩)) := H4.out.he.cell 0; have m1 : w4.cell? ⟨f, 1, none⟩ = some (.int .u32 nu) := HP4.out.cell 1; have m3 : w4.cell? ⟨f, 3, none⟩ = some (.slice a len cap) := HP4.out.cell 3)
        | fail)
      have m2 : w4.cell? ⟨f, 0, none⟩ = some (.int .u32 ep) := HP4.out.cell 0
      have m4 : w4.cell? ⟨f, 2, none⟩ = some (.bool wh) := HP4.out.cell 2
      have HS2 : RowKit.Hid (w.heap.size ≤ w4.heap.size) := H4.out.hk.size
      clear c0 c1 c3 b2' HPd HId HI2 HK2 HPl2 HC2 HR2 HP2 HI1 HP1 HB1 H1 HE HP HB0 HI
      go_wp2_with (first
        | (at_builtin; go_loud (refine append_frame rfl _ _ 43 rfl w.heap.size 22 51 .i16 Tryz.underlying43 infoE_fr16 (by decide) v2 (fadeL E.T M) rfl HR7.out.1 (by rw [fadeL_len]; have := HM4.out; omega) _ r 512 ((E.T.fadeN M).plays b nu) rfl HR7.out.2.1 HR7.out.2.2.1 HR7.out.2.2.2 ?_); intro v8 w8 hr8 hk8; have H8 : RowKit.Hid (HearPost15 E ep nu wh b e p s w (.returned (.tuple #[v8, .int .i64 0])) w8) := H7.out.done HM.out hr8 hk8 HY.out; clear hr8 hk8)
        | (go_at_call 37; go_loud (refine (ePlace_any ep nu wh a len cap _).mono ?_); rintro e' w5 ⟨rfl, b5⟩; have H5 := Lib.hid (H4.out.now b5); have H6 := Lib.hid (H5.out.set (ep := ep)); have f1 := H5.out.he.frozen 1; have f2 := H5.out.he.frozen 2; have f3 := H5.out.he.frozen 3; have f4 := H5.out.he.frozen 4; have n1' : w5.cell? ⟨e, 1, none⟩ = some (.bool E.ever) := H5.out.he.cell 1; have n2' : w5.cell? ⟨e, 2, none⟩ = some (.int .u32 E.ep) := H5.out.he.cell 2; have n3' : w5.cell? ⟨e, 3, none⟩ = some (.int .u32 E.nu) := H5.out.he.cell 3; have n4' : w5.cell? ⟨e, 4, none⟩ = some (.bool E.run) := H5.out.he.cell 4; have hz : ((((w5.setCell ⟨e, 1, none⟩ (.bool true)).setCell ⟨e, 2, none⟩ (.int .u32 ep)).setCell ⟨e, 3, none⟩ (.int .u32 nu)).setCell ⟨e, 4, none⟩ (.bool true)).heap.size = w5.heap.size := (by simp only [set_sizeE]); have H7 := Lib.hid (H6.out.now (Below.alloc_new _ (.cells #[.slice (some ⟨r, 0, none⟩) 512 512] 22))); have hc7 := Cel.new ((((w5.setCell ⟨e, 1, none⟩ (.bool true)).setCell ⟨e, 2, none⟩ (.int .u32 ep)).setCell ⟨e, 3, none⟩ (.int .u32 nu)).setCell ⟨e, 4, none⟩ (.bool true)) 22 #[.slice (some ⟨r, 0, none⟩) 512 512]; rw [hz] at hc7; have HR7 := Lib.hid (And.intro H7.out.hr (And.intro hc7 (And.intro H7.out.hn H7.out.hk.size))); clear b5 hz hc7))
      go_ret2
      exact H8.out
    · have HT := Lib.hid hm
      have HY : RowKit.Hid (¬ E.may ep nu wh b) := fun h => hm h.2.2.2
      have HTN : RowKit.Hid (¬ (E.T.fadeN M).may b) := fun h => hm ((HOk.out.mayN (ep := ep) (nu := nu)).1 (by rw [HM.out]; exact h))
      have HS : RowKit.Hid (∀ er : Int, (er = 3 ∨ er = 8) → headR b = true → plWh b = wh → wh = false → E.follows ep nu = false → er = 8) := fun er _ _ _ h3 h4 => by
        rcases g3 with g | g
        · rw [h3] at g; cases g
        · rw [h4] at g; cases g
      clear hm g1 g2 g3
      by_cases h0 : M = 0
      · have HZ := Lib.hid h0
        clear h0
        go_enter Tryz.func13, Tryz.ntmps13
        go_wp2_with (first
          | (go_at_call 36; have h1 := H1.out; clear h1; go_loud (refine (eConcealed_any e p s E ep nu wh b a len cap _ H1.out HOk.out HI1.out HNn.out HBy.out hl n0 n1 HWM.out).mono ?_); rintro e' w2 (⟨_, v2, rfl, r2, c2, p2, k2, k2z⟩ | ⟨hh, _⟩); (case inr => exact absurd (HM.out.trans HZ.out) hh); rw [HM.out] at r2 p2; have HR2 := Lib.hid (r2.lower HB1.out.size); have HC2 := Lib.hid c2; have HPl2 := Lib.hid p2; have HK2 : RowKit.Hid (Keeps (fun j => j = p ∨ j = s) w w2) := (Keeps.of_below HB1.out).trans k2; have HI2 := Lib.hid (bytes_far HI1.out k2 H1.out.p.odd8); have HP2 := Lib.hid (cel_ply HP1.out (by decide) (by decide) H1.out.p k2); clear r2 c2 p2 k2; have HB2z : RowKit.Hid (M = 0 → Below w.heap.size w w2) := (fun h => chain HB1.out (k2z (HM.out.trans h))); clear k2z)
          | (go_at_call 35; go_loud (refine (eMayHear_any e p s E ep nu wh b a len cap _ HE.out HI.out HNn.out HBy.out hl).mono ?_); rintro e' w1 ⟨rfl, b1⟩; rw [HEr.out]; have H1 := Lib.hid (HE.out.below b1); have HB1 := Lib.hid (chain HB0.out b1); have HP1 := Lib.hid (HP.out.below b1); have HI1 := Lib.hid (HI.out.now b1 (Nat.le_refl _)); clear b1; have p0 : w1.cell? ⟨w.heap.size, 0, none⟩ = some (.int .u32 ep) := HP1.out.cell 0; have p1 : w1.cell? ⟨w.heap.size, 1, none⟩ = some (.int .u32 nu) := HP1.out.cell 1; have p2 : w1.cell? ⟨w.heap.size, 2, none⟩ = some (.bool wh) := HP1.out.cell 2; have p3 : w1.cell? ⟨w.heap.size, 3, none⟩ = some (.slice a len cap) := HP1.out.cell 3))
        obtain ⟨f, hf⟩ : ∃ f, f = w.heap.size := ⟨_, rfl⟩
        have HF := Lib.hid hf
        rw [← hf] at HP2 ⊢
        clear hf
        have c0 : w2.cell? ⟨e, 0, none⟩ = some (.pointer (some ⟨p, 0, none⟩)) := HC2.out.cell 0
        have c1 : w2.cell? ⟨f, 1, none⟩ = some (.int .u32 nu) := HP2.out.cell 1
        have c3 : w2.cell? ⟨f, 3, none⟩ = some (.slice a len cap) := HP2.out.cell 3
        have b2' : RowKit.Hid (Below w2.heap.size w2 w2.drew) := Below.drewN' (Below.refl _ w2) 1
        have HPd := Lib.hid (HPl2.out.below b2'.out)
        have HId := Lib.hid (HI2.out.now b2'.out (Nat.le_refl _))
        go_region_held3 (fun w' => w'.cell? ⟨e, 0, none⟩ = some (.pointer (some ⟨p, 0, none⟩)) ∧ w'.cell? ⟨f, 1, none⟩ = some (.int .u32 nu) ∧ w'.cell? ⟨f, 3, none⟩ = some (.slice a len cap)) (go_keep) (first
          | (go_at_call 18; go_loud (refine (pPlay_any (E.T.fadeN M) b nu p s a len cap _ HPd.out (HOk.out.t.fadeN M) HId.out HNn.out HBy.out hl n0 n1).mono ?_); rintro e' w4 (⟨hh, _⟩ | ⟨_, er, rfl, ho, _, _, b4⟩); (case inl => exact absurd hh HTN.out); have HER := Lib.hid ho; have hne : (er != 0) = true := (by rcases ho with h | h <;> rw [h] <;> rfl); have HQ := Lib.hid (chain b2'.out b4); have HP4 := Lib.hid (HP2.out.below HQ.out); have HC4 := Lib.hid (HC2.out.below HQ.out); clear b4 ho; have m0 : w4.cell? ⟨e, 0, none⟩ = some (.pointer (some ⟨p, 0, none⟩)) := HC4.out.cell 0; have m1 : w4.cell? ⟨f, 1, none⟩ = some (.int .u32 nu) := HP4.out.cell 1; have m3 : w4.cell? ⟨f, 3, none⟩ = some (.slice a len cap) := HP4.out.cell 3)
          | fail)
        go_wp2
        go_ret2
        exact .inr ⟨HY.out, er, rfl, HER.out, HS.out er HER.out, chain (HB2z.out HZ.out) HQ.out⟩
      · have HZ := Lib.hid h0
        clear h0
        go_enter Tryz.func13, Tryz.ntmps13
        go_wp2_with (first
          | (go_at_call 36; have h1 := H1.out; clear h1; go_loud (refine (eConcealed_any e p s E ep nu wh b a len cap _ H1.out HOk.out HI1.out HNn.out HBy.out hl n0 n1 HWM.out).mono ?_); rintro e' w2 (⟨hh, _⟩ | ⟨_, _, er, rfl, ho, b2⟩); (case inl => exact hh.elim (fun h => absurd (HM.out.symm.trans h) HZ.out) (fun h => absurd h HT.out)); have HER := Lib.hid ho; have hne : (er != 0) = true := (by rcases ho with h | h <;> rw [h] <;> rfl); have HB2 := Lib.hid (chain HB1.out b2); clear b2 ho)
          | (go_at_call 35; go_loud (refine (eMayHear_any e p s E ep nu wh b a len cap _ HE.out HI.out HNn.out HBy.out hl).mono ?_); rintro e' w1 ⟨rfl, b1⟩; rw [HEr.out]; have H1 := Lib.hid (HE.out.below b1); have HB1 := Lib.hid (chain HB0.out b1); have HP1 := Lib.hid (HP.out.below b1); have HI1 := Lib.hid (HI.out.now b1 (Nat.le_refl _)); clear b1; have p0 : w1.cell? ⟨w.heap.size, 0, none⟩ = some (.int .u32 ep) := HP1.out.cell 0; have p1 : w1.cell? ⟨w.heap.size, 1, none⟩ = some (.int .u32 nu) := HP1.out.cell 1; have p2 : w1.cell? ⟨w.heap.size, 2, none⟩ = some (.bool wh) := HP1.out.cell 2; have p3 : w1.cell? ⟨w.heap.size, 3, none⟩ = some (.slice a len cap) := HP1.out.cell 3))
        go_ret2
        exact .inr ⟨HY.out, er, rfl, HER.out, HS.out er HER.out, HB2.out⟩
  · have HER := Lib.hid (mayE_er (E := E) (ep := ep) (nu := nu) (wh := wh) (b := b) (by rw [HEr.out]; exact h0))
    have HY := Lib.hid (mayE_no (E := E) (ep := ep) (nu := nu) (wh := wh) (b := b) (by rw [HEr.out]; exact h0))
    have HS : RowKit.Hid (headR b = true → plWh b = wh → wh = false → E.follows ep nu = false → er = 8) := fun h1 h2 h3 h4 => HEr.out.symm.trans (mayE_state h1 h2 h3 h4)
    have hne : (er != 0) = true := by simpa using h0
    rw [HEr.out] at HER
    clear h0
    go_enter Tryz.func13, Tryz.ntmps13
    go_wp2_with (go_at_call 35; go_loud (refine (eMayHear_any e p s E ep nu wh b a len cap _ HE.out HI.out HNn.out HBy.out hl).mono ?_); rintro e' w1 ⟨rfl, b1⟩; rw [HEr.out]; have H1 := Lib.hid (HE.out.below b1); have HB1 := Lib.hid (chain HB0.out b1); have HP1 := Lib.hid (HP.out.below b1); have HI1 := Lib.hid (HI.out.now b1 (Nat.le_refl _)); clear b1; have p0 : w1.cell? ⟨w.heap.size, 0, none⟩ = some (.int .u32 ep) := HP1.out.cell 0; have p1 : w1.cell? ⟨w.heap.size, 1, none⟩ = some (.int .u32 nu) := HP1.out.cell 1; have p2 : w1.cell? ⟨w.heap.size, 2, none⟩ = some (.bool wh) := HP1.out.cell 2; have p3 : w1.cell? ⟨w.heap.size, 3, none⟩ = some (.slice a len cap) := HP1.out.cell 3)
    go_ret2
    exact .inr ⟨HY.out, er, rfl, HER.out, HS.out, HB1.out⟩
end Go.Proofs.YtobhoecmmpijgaaGreat
