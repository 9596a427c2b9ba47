/- The walk of WeaveParts. -/
import Derived.Test.YtebfjmjdcbeekaaDoorWeaX
import Derived.Test.YtebfjmjdcbeekaaDoorWeaR
import Derived.Test.YtebfjmjdcbeekaaDoorWeaH
import Derived.Test.YtebfjmjdcbeekaaDoorWeaZ
import Derived.Test.YtebfjmjdcbeekaaDoorHeld
import Derived.Deep.RegionHeld3
namespace Go.Proofs.YtebfjmjdcbeekaaDoor
open Go Go.RowKit Go.PlainAid
set_option linter.unusedVariables false
set_option linter.unusedSimpArgs false

theorem every20b (n : Int) : ∃ E : Nat, wrap64 ((IntKind.u64.wrap n).tmod 70) = (E : Int) ∧ E < 70 := by
  have hs : 0 ≤ IntKind.u64.wrap n := by rw [show IntKind.u64.wrap n = n % 18446744073709551616 by simp [IntKind.wrap, IntKind.bits, IntKind.signed]]; omega
  have e : (IntKind.u64.wrap n).tmod 70 = IntKind.u64.wrap n % 70 := Int.tmod_eq_emod_of_nonneg hs
  have l0 := Int.emod_nonneg (IntKind.u64.wrap n) (b := 70) (by omega)
  have l1 := Int.emod_lt_of_pos (IntKind.u64.wrap n) (b := 70) (by omega)
  rw [e]
  generalize IntKind.u64.wrap n % 70 = z at l0 l1
  refine ⟨z.toNat, ?_, by omega⟩
  rw [IntWalk.wrap64_in _ (by omega)]
  omega
set_option maxRecDepth 100000 in
set_option maxHeartbeats 1000000 in
theorem weaveParts_out (n : Int) (a : Option Addr) (len cap : Nat) (w : World) (h : 40 < len) :
    Calls Tryd.prog 3 #[.int .i64 n, .slice a len cap] w fun e w' => e = .returned (.bool true) ∧ Below w.heap.size w w' := by
  have q : (40 : Int) < (len : Int) := by omega
  go_enter Tryd.func3, Tryd.ntmps3
  go_wp2_with (first
    | (go_at_call 6; refine (lives20_any _).mono ?_; rintro e w4 ⟨rfl, hb⟩; have HB4 := Lib.hid (chain HB.out hb); clear hb)
    | (go_at_call 6; go_loud (refine (lives20_any _).mono ?_); rintro e w2 ⟨rfl, hb⟩; have HB := Lib.hid hb; clear hb)
    | fail)
  go_ret
  exact ⟨rfl, HB4.out⟩
/-- What lies at a base or above is not touched by what turns below it. -/
theorem PcsAt.keepsB {F : Nat → Prop} {w w' : World} {base : Nat} {X : Nat → Prop} {v : Value} {l : List Pc} (h : PcsAt w base X v l) (hk : Keeps F w w') (hF : ∀ j, F j → j < base ∨ ∃ t, Typ19 w j t ∧ t ≠ 5 ∧ t ≠ 56) : PcsAt w' base X v l := by
  obtain ⟨xs, h1, h2, h3⟩ := h
  refine ⟨xs, h1, own_keeps h2 hk fun k hg hf => ?_, fun x hx => ?_⟩
  · rcases hF k hf with h5 | ⟨t, ht, _, n2⟩
    · have := (own_typ19 h2 hg).2
      omega
    · exact ht.ne (own_typ19 h2 hg).1 n2 rfl
  · have hx := h3 x hx
    obtain ⟨p, a, c⟩ := x
    cases p with
    | told T => trivial
    | snd s =>
      have hn : ∀ r off, a = some ⟨r, off, none⟩ → 0 < s.length → ¬ F r := fun r off e h0 hf => by
        obtain ⟨k1, k2, _⟩ := hx.2 r off e h0
        rcases hF r hf with h5 | ⟨t, ht, n1, _⟩
        · omega
        · exact ht.ne k1 n1 rfl
      exact ⟨hx.1.keeps hk hn, fun r off e h0 => ⟨(hx.2 r off e h0).1.keep (hk.block r (hx.2 r off e h0).1.lt (hn r off e h0)), (hx.2 r off e h0).2⟩⟩
/-- What the law keeps on its way. -/
structure WpSt (w : World) (g gr E k : Nat) (S : P20) (vB wr0 : Value) (wr : World) : Prop where
  p : PrAt wr g S
  r : RpAt wr w.heap.size gr S vB
  ok : S.Ok (600 * k)
  e : S.e = E
  b : Below w.heap.size w wr
  hg : w.heap.size ≤ g
  hr : w.heap.size ≤ gr
/-- Both have parted the same bytes. -/
structure WpMid (w : World) (g gr base : Nat) (q : Q20) (xs : List PcX) (v u u2 vB : Value) (wr : World) : Prop where
  p : PrAt wr g q.s
  r : RpAt wr w.heap.size gr q.s vB
  b : Below w.heap.size w wr
  v : PcsAt wr base (fun _ => False) v (joinP q.d q.c)
  u : RcsAt wr base (fun j => vB.ownBlock = some j) u u2 xs q.d q.c
theorem WpMid.below {w wr w' : World} {g gr base : Nat} {q : Q20} {xs : List PcX} {v u u2 vB : Value} (h : WpMid w g gr base q xs v u u2 vB wr) (hb : Below wr.heap.size wr w') : WpMid w g gr base q xs v u u2 vB w' :=
  ⟨h.p.below hb, h.r.below hb, chain h.b hb, h.v.below hb, h.u.below hb⟩
/-- The program's parter, then the document's. -/
theorem mid_of {w wr w2 w3 : World} {g gr E k : Nat} {S : P20} {vB z : Value} {b : List UInt8} {v u u2 vB' : Value} {xs : List PcX} (h : WpSt w g gr E k S vB z wr) (hv : PcsAt w2 wr.heap.size (fun _ => False) v (joinP (S.start.run b).d (S.start.run b).c)) (hp : PrAt w2 g (S.start.run b).s) (hk : Keeps (· = g) wr w2)
    (hr : RqSt w2 w.heap.size gr vB (S.start.run b) xs u u2 vB' w3) : WpMid w g gr wr.heap.size (S.start.run b) xs v u u2 vB' w3 := by
  have hg := h.p.typ
  have hgr := h.r.typ
  have hg2 := hp.typ
  have hvB : ∀ j, vB.ownBlock = some j → j < wr.heap.size ∧ Typ19 w2 j 5 := fun j hj => by
    have k1 := own_typ19 h.r.o hj
    refine ⟨k1.1.lt, k1.1.keep (hk.block j k1.1.lt fun e => ?_)⟩
    subst e
    exact k1.1.ne hg (by decide) rfl
  have hgr2 : Typ19 w2 gr 32 := hgr.keep (hk.block gr hgr.lt fun e => by rw [e] at hgr; exact hgr.ne hg (by decide) rfl)
  refine ⟨hp.keeps hr.k fun hf => ?_, hr.r, ?_, hv.keepsB hr.k fun j hj => ?_, ?_⟩
  · rcases hf with hf | hf
    · rw [hf] at hg2; exact hg2.ne hgr2 (by decide) rfl
    · exact hg2.ne (hvB g hf).2 (by decide) rfl
  · refine (h.b.trans (hk.below h.b.size fun j hj => by subst hj; exact h.hg)).trans (hr.k.below (Nat.le_trans h.b.size hk.size) fun j hj => ?_)
    rcases hj with hj | hj
    · subst hj; exact h.hr
    · exact own_base h.r.o j hj
  · rcases hj with hj | hj
    · subst hj; exact .inr ⟨_, hgr2, by decide, by decide⟩
    · exact .inl (hvB j hj).1
  · exact ⟨hr.o.m, own_lower hr.o.o hk.size, fun y hy => (hr.o.x y hy).lower hk.size, own_lower hr.o.s hk.size, hr.o.z, hr.o.y⟩
set_option maxRecDepth 100000 in
set_option maxHeartbeats 8000000 in
theorem weaveParts_in (n : Int) (a : Option Addr) (len cap : Nat) (A : Nat → Option Addr) (L C : Nat → Nat) (D : Nat → List UInt8) (w : World) (h : BssIn w a len A L C D) (hl40 : len ≤ 40) :
    Calls Tryd.prog 3 #[.int .i64 n, .slice a len cap] w fun e w' => e = .returned (.bool true) ∧ Below w.heap.size w w' := by
  have HI := Lib.hid h
  have q40 : ¬ (40 : Int) < (len : Int) := by omega
  clear h
  obtain ⟨E, hE, hE70⟩ := every20b n
  go_enter Tryd.func3, Tryd.ntmps3
  go_wp2_with (first
    | (go_at_call 6; go_loud (refine (lives20_any _).mono ?_); rintro e w2 ⟨rfl, hb⟩; have HB := Lib.hid hb; clear hb)
    | (go_at_call 7; go_loud (refine (prNew_at E _ (by omega)).mono ?_); rintro e w4 ⟨g, rfl, hg, hgb, hb⟩; have HG := Lib.hid hg; have HGb := Lib.hid hgb; have HB4 := Lib.hid (chain HB.out hb); clear hg hgb hb)
    | fail)
  obtain ⟨gr, hgr⟩ : ∃ gr, w4.heap.size = gr := ⟨_, rfl⟩
  have H0 : RowKit.Hid (WpSt w g gr E 0 ⟨E, 0, []⟩ (.slice none 0 0) (.slice none 0 0) (w4.alloc (.cells #[.int .i64 (E : Int), .int .i64 0, .int .i64 0, .slice none 0 0] 32))) := by
    have hr := Cel.new w4 32 #[.int .i64 (E : Int), .int .i64 0, .int .i64 0, .slice none 0 0]
    rw [hgr] at hr
    have h2 := HB.out.size
    have h3 := HGb.out
    have h4 := HB4.out.size
    exact ⟨HG.out.below (Below.alloc_new _ _), ⟨hr, World.ownsRow_nil _ _ _ _⟩, ⟨Nat.zero_le _, fun _ => Nat.zero_le _, fun h => absurd rfl h⟩, rfl, HB4.out.alloc HB4.out.size _, by omega, by omega⟩
  rw [hgr]
  clear HB HB4 HG HGb hgr
  go_loopw [42] (fun i wr => ∃ (k : Nat) (S : P20) (vB : Value), i = .int .i64 (k : Int) ∧ k ≤ len ∧ RowKit.Hid (WpSt w g gr E k S vB vB wr)) (fun i _ => len - (intOf i).toNat)
  case atStart => exact ⟨0, _, _, rfl, by omega, H0⟩
  case round =>
    clear H0
    obtain ⟨k, S, vB, rfl, hk, H⟩ := hrel
    by_cases hlt : k < len
    · rcases HI.out.2 with h0 | ⟨b, off, rfl, hbl, hAA⟩
      · omega
      obtain ⟨hc, hLm, hA⟩ := hAA k hlt
      have cx : wr.cell? ⟨b, off + k, none⟩ = some (.slice (A k) (L k) (C k)) := (H.out.b.cell (p := ⟨b, off + k, none⟩) hbl).trans hc
      obtain ⟨xa, hxa⟩ : ∃ xa, A k = xa := ⟨_, rfl⟩
      obtain ⟨xl, hxl⟩ : ∃ xl, L k = xl := ⟨_, rfl⟩
      obtain ⟨xc, hxc⟩ : ∃ xc, C k = xc := ⟨_, rfl⟩
      obtain ⟨xb, hxb⟩ : ∃ xb, D k = xb := ⟨_, rfl⟩
      rw [hxa, hxl, hxc] at cx
      rw [hxa, hxl, hxc, hxb] at hA
      rw [hxl] at hLm
      have HAx := Lib.hid hA
      have hxbl := hA.hl
      have HBl : RowKit.Hid (∀ r off, xa = some ⟨r, off, none⟩ → 0 < xl → r < w.heap.size) := by
        intro r off e h0
        obtain ⟨b2, off2, e2, hb2, _⟩ := hA.addr h0
        rw [e] at e2
        injection e2 with e2
        injection e2 with e2 _
        omega
      clear hc hAA hA hxa hxc hxb hxl
      by_cases h600 : xl ≤ 600
      · have q6 : ¬ (600 : Int) < (xl : Int) := by omega
        have hxl6 : xb.length ≤ 600 := by omega
        have CP := Lib.hid (fun W (hp : PrAt W g S) (hb : BytA W xa xl xc xb) => part20_any g (600 * k) S xa xl xc xb W hp H.out.ok (by omega) hb (by omega) (fun r off e h0 => by have := HBl.out r off e h0; have := H.out.hg; omega))
        have CR := Lib.hid (fun W (hp : RpAt W w.heap.size gr S vB) (hb : BytA W xa xl xc xb) (hs : w.heap.size ≤ W.heap.size) => rpart_any w.heap.size gr (600 * k) S vB xa xl xc xb W hp H.out.ok (by omega) hb (by omega) hs (fun r off e h0 => by have h1 := HBl.out r off e h0; have h2 := H.out.hr; refine ⟨by omega, fun e2 => ?_⟩; have h3 := own_base hp.o r e2; omega))
        unfold PartPost at CP
        unfold RpartPost at CR
        have HOk2 : RowKit.Hid ((S.start.run xb).s.Ok (600 * k + xb.length)) := Q20.run_ok (q := S.start) H.out.ok xb
        have HEe : RowKit.Hid ((S.start.run xb).s.e = E) := by show _ = _; rw [Q20.run_e]; exact H.out.e
        have hd := Q20.run_d S xb
        obtain ⟨q, hq⟩ : ∃ q, S.start.run xb = q := ⟨_, rfl⟩
        have HMid := Lib.hid (fun (w2 w3 : World) (v u u2 vB' : Value) (xs : List PcX) => mid_of (w2 := w2) (w3 := w3) (b := xb) (v := v) (u := u) (u2 := u2) (vB' := vB') (xs := xs) H.out)
        rw [hq] at CP CR HOk2 HEe hd HMid
        have hjl : (joinP q.d q.c).length ≤ 1300 := by have := joinP_len q.d q.c; have : lastN q.c ≤ 1 := by unfold lastN; split <;> omega
                                                       omega
        have hsl : (soundP (joinP q.d q.c)).length ≤ 1000000 := by rw [← hq]; exact sound_le S xb (by omega)
        have HKp : RowKit.Hid (∀ W, Keeps (· = g) wr W → RpAt W w.heap.size gr S vB ∧ BytA W xa xl xc xb ∧ w.heap.size ≤ W.heap.size) := by
          intro W hK
          refine ⟨H.out.r.keeps hK (fun e => ?_) fun j hj e => ?_, (HAx.out.below H.out.b).keeps hK fun r off e h0 e2 => ?_, Nat.le_trans H.out.b.size hK.size⟩
          · have := H.out.r.typ; rw [e] at this; exact this.ne H.out.p.typ (by decide) rfl
          · subst e; exact (own_typ19 H.out.r.o hj).1.ne H.out.p.typ (by decide) rfl
          · have := HBl.out r off e h0; have := H.out.hg; omega
        clear hq hd
        cases hok : q.ok with
        | true =>
          rw [hok] at CP CR
          go_wp2_with (first
            | (go_at_call 8; go_loud (refine (CP.out _ H.out.p (HAx.out.below H.out.b)).mono ?_); rintro e w2 ⟨v2, rfl, hv2, hp2, hk2⟩; have HV2 := Lib.hid hv2; have HP2 := Lib.hid hp2; have HK2 := Lib.hid hk2; have HR2 := Lib.hid (HKp.out w2 hk2); clear hv2 hp2 hk2)
            | (go_at_call 9; go_loud (refine (CR.out _ HR2.out.1 HR2.out.2.1 HR2.out.2.2).mono ?_); rintro e w3 ⟨u3, u2, vB3, xs3, rfl, hr3⟩; obtain ⟨ua, uc, rfl⟩ := hr3.o.form; have HM3 := Lib.hid (HMid.out _ _ _ _ _ _ _ HV2.out HP2.out HK2.out hr3); rw [← joinP_len] at HM3 ⊢; clear hr3)
            | (go_at_call 10; go_loud (refine (same20_any _ _ _ _ _ _ _ _ _ _ _ HM3.out.v HM3.out.u (by omega)).mono ?_); rintro e w4 ⟨rfl, hb4⟩; have HM4 := Lib.hid (HM3.out.below hb4); clear hb4)
            | fail)
          obtain ⟨M, hM⟩ : ∃ M, (joinP q.d q.c).length = M := ⟨_, rfl⟩
          rw [hM] at HM4 hjl ⊢
          have HMx := Lib.hid hM
          obtain ⟨bs, hbs⟩ : ∃ bs, wr.heap.size = bs := ⟨_, rfl⟩
          rw [hbs] at HM4
          clear hbs
          clear HM3 HV2 HP2 HK2 HR2 hM
          go_loopw [15, 81] (fun s i wq => ∃ j : Nat, s = .string (ba (soundP ((joinP q.d q.c).take j))) ∧ i = .int .i64 (j : Int) ∧ j ≤ M ∧ RowKit.Hid (WpMid w g gr bs q xs3 v2 (.slice ua M uc) u2 vB3 wq)) (fun _ i _ => M - (intOf i).toNat)
          case atStart => exact ⟨0, rfl, rfl, by omega, HM4.out⟩
          case round =>
            clear HM4
            obtain ⟨j, rfl, rfl, hj, HJ⟩ := hrel
            by_cases hjt : j < M
            · have hlM : j < (joinP q.d q.c).length := by rw [HMx.out]; exact hjt
              obtain ⟨gu, rfl, _⟩ := HJ.out.u.addr (by rw [← joinP_len]; omega)
              obtain ⟨p, hp⟩ : ∃ p, (joinP q.d q.c)[j] = p := ⟨_, rfl⟩
              have hpi : (joinP q.d q.c)[j]? = some p := by rw [List.getElem?_eq_getElem hlM, hp]
              obtain ⟨z, hz, hzc, hzb⟩ := HJ.out.u.piece hpi
              have z0 := hzc 0 (by omega)
              have z1 := hzc 1 (by omega)
              have z2 := hzc 2 (by omega)
              rw [Nat.add_zero] at z0
              have hst := soundP_take hpi
              have hle := soundP_le (joinP q.d q.c) (j + 1)
              rw [hst, List.length_append] at hle
              obtain ⟨p', a2, c2⟩ := z
              simp only at hz
              subst hz
              cases p' with
              | told T =>
                replace z0 : wr.cell? ⟨gu, j * 3, none⟩ = some (.bool true) := z0
                replace z1 : wr.cell? ⟨gu, j * 3 + 1, none⟩ = some (.string (ba T)) := z1
                replace z2 : wr.cell? ⟨gu, j * 3 + 2, none⟩ = some (.slice none 0 0) := z2
                have cvn : ∀ W : World, (convert 30 9 (.slice none 0 0)).run Tryd.prog W = .ok (.string ⟨#[]⟩) W := fun W => (⟨⟨rfl, .inl rfl⟩, rfl, Nat.le_refl _, fun _ => rfl⟩ : BytA W none 0 0 []).conv W (Below.refl _ _)
                have HE : RowKit.Hid (ba (soundP ((joinP q.d q.c).take j)) ++ ⟨#[]⟩ = ba (soundP ((joinP q.d q.c).take (j + 1)))) := by
                  show _ = _
                  rw [hst]
                  exact ba_append _ _
                obtain ⟨X, hX⟩ : ∃ X, ba (soundP ((joinP q.d q.c).take j)) = X := ⟨_, rfl⟩
                have hXs : X.size ≤ 1000000 := by rw [← hX, ba_size]; omega
                have HJ2 := Lib.hid (HJ.out.below (Below.alloc_new wr (.cells #[.bool true, .string (ba T), .slice none 0 0] 41)))
                rw [hX] at HE ⊢
                clear hX hlM hp hpi hzc hzb hst hle
                generalize ba T = TT at *
                go_wp2
                go_roundw
                case rel => exact ⟨j + 1, by rw [← HE.out], by go_num, by omega, HJ2.out⟩
                case measure => simp [intOf] <;> omega
              | snd s =>
                replace z0 : wr.cell? ⟨gu, j * 3, none⟩ = some (.bool false) := z0
                replace z1 : wr.cell? ⟨gu, j * 3 + 1, none⟩ = some (.string ⟨#[]⟩) := z1
                replace z2 : wr.cell? ⟨gu, j * 3 + 2, none⟩ = some (.slice a2 s.length c2) := z2
                have hba := hzb s a2 c2 rfl
                have hsl2 : s.length ≤ 1000000 := by simp [soundP] at hle; omega
                have cvs : (convert 30 9 (.slice a2 s.length c2)).run Tryd.prog (wr.alloc (.cells #[.bool false, .string ⟨#[]⟩, .slice a2 s.length c2] 41)) = .ok (.string (ba s)) _ := hba.conv _ (Below.alloc_new wr _)
                have HE : RowKit.Hid (ba (soundP ((joinP q.d q.c).take j)) ++ ba s = ba (soundP ((joinP q.d q.c).take (j + 1)))) := by
                  show _ = _
                  rw [hst, ba_append]
                  simp [soundP]
                obtain ⟨X, hX⟩ : ∃ X, ba (soundP ((joinP q.d q.c).take j)) = X := ⟨_, rfl⟩
                have hXs : X.size ≤ 1000000 := by rw [← hX, ba_size]; omega
                have hYs : (ba s).size ≤ 1000000 := by rw [ba_size]; exact hsl2
                have HJ2 := Lib.hid (HJ.out.below (Below.alloc_new wr (.cells #[.bool false, .string ⟨#[]⟩, .slice a2 s.length c2] 41)))
                obtain ⟨sl, hsl3⟩ : ∃ sl, s.length = sl := ⟨_, rfl⟩
                rw [hX] at HE ⊢
                rw [hsl3] at z2 cvs HJ2
                generalize ba s = SS at *
                clear hX hlM hp hpi hzc hzb hst hle hba hsl3 hsl2
                go_wp2
                go_roundw
                case rel => exact ⟨j + 1, by rw [← HE.out], by go_num, by omega, HJ2.out⟩
                case measure => simp [intOf] <;> omega
            · obtain rfl : j = M := by omega
              have HBy := Lib.hid (fun W (hv : PcsAt W bs (fun _ => False) v2 (joinP q.d q.c)) => bytes20_any _ _ _ _ W hv (by omega) (by rw [HMx.out]; omega))
              unfold ByPost at HBy
              obtain ⟨BL, hBL⟩ : ∃ BL, (soundP (joinP q.d q.c)).length = BL := ⟨_, rfl⟩
              obtain ⟨BS, hBS⟩ : ∃ BS, ba (soundP (joinP q.d q.c)) = BS := ⟨_, rfl⟩
              rw [List.take_of_length_le (by rw [HMx.out]; omega), hBS]
              have HBL := Lib.hid hBL
              have HBS := Lib.hid hBS
              clear hBL hBS
              cases hhd : joinP q.d q.c with
              | nil =>
                have hM0 : j = 0 := by have := HMx.out; rw [hhd] at this; simpa using this.symm
                subst hM0
                go_wp2
                have hS0 : (fun w' : World => True) wr.drew := trivial
                refine wp_region_held_drew (S := fun w' => True) (by kernel_rfl) hS0 (fun hHeld => ?_)
                refine wpAnyH_take (i := 0) (v := ?_) rfl (by kernel_rfl) (by kernel_rfl) (by kernel_rfl) (fun _ _ _ h => h) (Or.inl ⟨by rfl, ?_⟩) (by assumption) ?_
                rotate_left 1
                · intro wq hSw
                  (try dsimp only at hSw)
                  go_simp
                  all_goals (with_reducible rfl)
                (try simp only [Act.put, List.setIfInBounds_toArray, List.set_cons_zero, List.set_cons_succ, List.getElem_toArray, List.getElem_cons_zero, List.getElem_cons_succ])
                refine wpAnyH_take (i := 3) (v := ?_) rfl (by kernel_rfl) (by kernel_rfl) (by kernel_rfl) (fun _ _ _ h => h) (Or.inl ⟨by rfl, ?_⟩) (by assumption) ?_
                rotate_left 1
                · intro wq hSw
                  (try dsimp only at hSw)
                  go_simp
                  all_goals (with_reducible rfl)
                (try simp only [Act.put, List.setIfInBounds_toArray, List.set_cons_zero, List.set_cons_succ, List.getElem_toArray, List.getElem_cons_zero, List.getElem_cons_succ])
                refine wpAnyH_ready (rs := [1]) (by kernel_rfl) (by simp) ?_
                refine AllReadyH.cons rfl (fun K hK => ?_) AllReadyH.nil
                go_simp
                go_at_call 11
                go_loud (refine (HBy.out _ (HJ.out.below (Below.drewN' (Below.refl _ wr) 1)).v).mono ?_)
                rintro e5 w5 ⟨v5, rfl, ho5, hb5⟩
                obtain ⟨a5, c5, rfl⟩ := ho5.form
                have cv5 := ho5.bytA.conv w5 (Below.refl _ _)
                rw [HBL.out, HBS.out] at cv5
                rw [HBL.out]
                have HM5 := Lib.hid ((HJ.out.below (Below.drewN' (Below.refl _ wr) 1)).below hb5)
                have hS5 : (fun w' : World => True) w5 := trivial
                refine hK.out _ _ hS5 (fun _ => ?_)
                clear hK K hHeld ho5 hb5
                refine wpAnyH_strong (S2 := fun w' => ((convert 30 9 (.slice a5 BL c5)).run Tryd.prog w' = .ok (.string BS) w') ∧ (True)) (fun w h => h.2) ?_
                have hHeld := And.intro cv5 hS5
                clear cv5
                (try simp only [Act.put, List.setIfInBounds_toArray, List.set_cons_zero, List.set_cons_succ, List.getElem_toArray, List.getElem_cons_zero, List.getElem_cons_succ])
                refine wpAnyH_take (i := 2) (v := ?_) rfl (by kernel_rfl) (by kernel_rfl) (by kernel_rfl) (fun _ _ _ h => h) (Or.inl ⟨by rfl, ?_⟩) (by assumption) ?_
                rotate_left 1
                · intro wq hSw
                  (try dsimp only at hSw)
                  go_simp
                  all_goals (with_reducible rfl)
                (try simp only [Act.put, List.setIfInBounds_toArray, List.set_cons_zero, List.set_cons_succ, List.getElem_toArray, List.getElem_cons_zero, List.getElem_cons_succ])
                refine wpAnyH_take (i := 4) (v := ?_) rfl (by kernel_rfl) (by kernel_rfl) (by kernel_rfl) (fun _ _ _ h => h) (Or.inl ⟨by rfl, ?_⟩) (by assumption) ?_
                rotate_left 1
                · intro wq hSw
                  (try dsimp only at hSw)
                  go_simp
                  all_goals (with_reducible rfl)
                (try simp only [Act.put, List.setIfInBounds_toArray, List.set_cons_zero, List.set_cons_succ, List.getElem_toArray, List.getElem_cons_zero, List.getElem_cons_succ])
                refine wpAnyH_take (i := 5) (v := ?_) rfl (by kernel_rfl) (by kernel_rfl) (by kernel_rfl) (fun _ _ _ h => h) (Or.inl ⟨by rfl, ?_⟩) (by assumption) ?_
                rotate_left 1
                · intro wq hSw
                  (try dsimp only at hSw)
                  go_simp
                  all_goals (with_reducible rfl)
                (try simp only [Act.put, List.setIfInBounds_toArray, List.set_cons_zero, List.set_cons_succ, List.getElem_toArray, List.getElem_cons_zero, List.getElem_cons_succ])
                refine wpAnyH_take (i := 6) (v := ?_) rfl (by kernel_rfl) (by kernel_rfl) (by kernel_rfl) (fun _ _ _ h => h) (Or.inl ⟨by rfl, ?_⟩) (by assumption) ?_
                rotate_left 1
                · intro wq hSw
                  (try dsimp only at hSw)
                  go_simp
                  all_goals (with_reducible rfl)
                (try simp only [Act.put, List.setIfInBounds_toArray, List.set_cons_zero, List.set_cons_succ, List.getElem_toArray, List.getElem_cons_zero, List.getElem_cons_succ])
                refine wpAnyH_take (i := 7) (v := ?_) rfl (by kernel_rfl) (by kernel_rfl) (by kernel_rfl) (fun _ _ _ h => h) (Or.inl ⟨by rfl, ?_⟩) (by assumption) ?_
                rotate_left 1
                · intro wq hSw
                  (try dsimp only at hSw)
                  go_simp
                  all_goals (with_reducible rfl)
                (try simp only [Act.put, List.setIfInBounds_toArray, List.set_cons_zero, List.set_cons_succ, List.getElem_toArray, List.getElem_cons_zero, List.getElem_cons_succ])
                refine wpAnyH_take (i := 8) (v := ?_) rfl (by kernel_rfl) (by kernel_rfl) (by kernel_rfl) (fun _ _ _ h => h) (Or.inl ⟨by rfl, ?_⟩) (by assumption) ?_
                rotate_left 1
                · intro wq hSw
                  (try dsimp only at hSw)
                  go_simp
                  all_goals (with_reducible rfl)
                (try simp only [Act.put, List.setIfInBounds_toArray, List.set_cons_zero, List.set_cons_succ, List.getElem_toArray, List.getElem_cons_zero, List.getElem_cons_succ])
                refine wpAnyH_take (i := 9) (v := ?_) rfl (by kernel_rfl) (by kernel_rfl) (by kernel_rfl) (fun _ _ _ h => h) (Or.inl ⟨by rfl, ?_⟩) (by assumption) ?_
                rotate_left 1
                · intro wq hSw
                  (try dsimp only at hSw)
                  go_simp
                  all_goals (with_reducible rfl)
                (try simp only [Act.put, List.setIfInBounds_toArray, List.set_cons_zero, List.set_cons_succ, List.getElem_toArray, List.getElem_cons_zero, List.getElem_cons_succ])
                refine wpAnyH_take (i := 10) (v := undef) rfl (by kernel_rfl) (by kernel_rfl) (by kernel_rfl) (fun _ _ _ h => h) (Or.inr ⟨by rfl, rfl⟩) (by assumption) ?_
                (try simp only [Act.put, List.setIfInBounds_toArray, List.set_cons_zero, List.set_cons_succ, List.getElem_toArray, List.getElem_cons_zero, List.getElem_cons_succ])
                refine wpAnyH_take (i := 11) (v := undef) rfl (by kernel_rfl) (by kernel_rfl) (by kernel_rfl) (fun _ _ _ h => h) (Or.inr ⟨by rfl, rfl⟩) (by assumption) ?_
                (try simp only [Act.put, List.setIfInBounds_toArray, List.set_cons_zero, List.set_cons_succ, List.getElem_toArray, List.getElem_cons_zero, List.getElem_cons_succ])
                refine wpAnyH_take (i := 12) (v := undef) rfl (by kernel_rfl) (by kernel_rfl) (by kernel_rfl) (fun _ _ _ h => h) (Or.inr ⟨by rfl, rfl⟩) (by assumption) ?_
                (try simp only [Act.put, List.setIfInBounds_toArray, List.set_cons_zero, List.set_cons_succ, List.getElem_toArray, List.getElem_cons_zero, List.getElem_cons_succ])
                refine wpAnyH_take (i := 13) (v := undef) rfl (by kernel_rfl) (by kernel_rfl) (by kernel_rfl) (fun _ _ _ h => h) (Or.inr ⟨by rfl, rfl⟩) (by assumption) ?_
                (try simp only [Act.put, List.setIfInBounds_toArray, List.set_cons_zero, List.set_cons_succ, List.getElem_toArray, List.getElem_cons_zero, List.getElem_cons_succ])
                refine wpAnyH_take (i := 14) (v := ?_) rfl (by kernel_rfl) (by kernel_rfl) (by kernel_rfl) (fun _ _ _ h => h) (Or.inl ⟨by rfl, ?_⟩) (by assumption) ?_
                rotate_left 1
                · intro wq hSw
                  (try dsimp only at hSw)
                  go_simp
                  all_goals (with_reducible rfl)
                (try simp only [Act.put, List.setIfInBounds_toArray, List.set_cons_zero, List.set_cons_succ, List.getElem_toArray, List.getElem_cons_zero, List.getElem_cons_succ])
                refine wpAnyH_take (i := 15) (v := ?_) rfl (by kernel_rfl) (by kernel_rfl) (by kernel_rfl) (fun _ _ _ h => h) (Or.inl ⟨by rfl, ?_⟩) (by assumption) ?_
                rotate_left 1
                · intro wq hSw
                  (try dsimp only at hSw)
                  go_simp
                  all_goals (with_reducible rfl)
                (try simp only [Act.put, List.setIfInBounds_toArray, List.set_cons_zero, List.set_cons_succ, List.getElem_toArray, List.getElem_cons_zero, List.getElem_cons_succ])
                refine wpAnyH_take (i := 16) (v := undef) rfl (by kernel_rfl) (by kernel_rfl) (by kernel_rfl) (fun _ _ _ h => h) (Or.inr ⟨by rfl, rfl⟩) (by assumption) ?_
                (try simp only [Act.put, List.setIfInBounds_toArray, List.set_cons_zero, List.set_cons_succ, List.getElem_toArray, List.getElem_cons_zero, List.getElem_cons_succ])
                refine wpAnyH_take (i := 17) (v := undef) rfl (by kernel_rfl) (by kernel_rfl) (by kernel_rfl) (fun _ _ _ h => h) (Or.inr ⟨by rfl, rfl⟩) (by assumption) ?_
                (try simp only [Act.put, List.setIfInBounds_toArray, List.set_cons_zero, List.set_cons_succ, List.getElem_toArray, List.getElem_cons_zero, List.getElem_cons_succ])
                refine wpAnyH_take (i := 18) (v := undef) rfl (by kernel_rfl) (by kernel_rfl) (by kernel_rfl) (fun _ _ _ h => h) (Or.inr ⟨by rfl, rfl⟩) (by assumption) ?_
                (try simp only [Act.put, List.setIfInBounds_toArray, List.set_cons_zero, List.set_cons_succ, List.getElem_toArray, List.getElem_cons_zero, List.getElem_cons_succ])
                refine wpAnyH_take (i := 19) (v := undef) rfl (by kernel_rfl) (by kernel_rfl) (by kernel_rfl) (fun _ _ _ h => h) (Or.inr ⟨by rfl, rfl⟩) (by assumption) ?_
                (try simp only [Act.put, List.setIfInBounds_toArray, List.set_cons_zero, List.set_cons_succ, List.getElem_toArray, List.getElem_cons_zero, List.getElem_cons_succ])
                refine wpAnyH_take (i := 20) (v := undef) rfl (by kernel_rfl) (by kernel_rfl) (by kernel_rfl) (fun _ _ _ h => h) (Or.inr ⟨by rfl, rfl⟩) (by assumption) ?_
                (try simp only [Act.put, List.setIfInBounds_toArray, List.set_cons_zero, List.set_cons_succ, List.getElem_toArray, List.getElem_cons_zero, List.getElem_cons_succ])
                refine wpAnyH_take (i := 21) (v := undef) rfl (by kernel_rfl) (by kernel_rfl) (by kernel_rfl) (fun _ _ _ h => h) (Or.inr ⟨by rfl, rfl⟩) (by assumption) ?_
                (try simp only [Act.put, List.setIfInBounds_toArray, List.set_cons_zero, List.set_cons_succ, List.getElem_toArray, List.getElem_cons_zero, List.getElem_cons_succ])
                refine wpAnyH_take (i := 22) (v := undef) rfl (by kernel_rfl) (by kernel_rfl) (by kernel_rfl) (fun _ _ _ h => h) (Or.inr ⟨by rfl, rfl⟩) (by assumption) ?_
                (try simp only [Act.put, List.setIfInBounds_toArray, List.set_cons_zero, List.set_cons_succ, List.getElem_toArray, List.getElem_cons_zero, List.getElem_cons_succ])
                refine wpAnyH_take (i := 23) (v := ?_) rfl (by kernel_rfl) (by kernel_rfl) (by kernel_rfl) (fun _ _ _ h => h) (Or.inl ⟨by rfl, ?_⟩) (by assumption) ?_
                rotate_left 1
                · intro wq hSw
                  (try dsimp only at hSw)
                  go_simp
                  all_goals (with_reducible rfl)
                (try simp only [Act.put, List.setIfInBounds_toArray, List.set_cons_zero, List.set_cons_succ, List.getElem_toArray, List.getElem_cons_zero, List.getElem_cons_succ])
                refine wpAnyH_take (i := 24) (v := ?_) rfl (by kernel_rfl) (by kernel_rfl) (by kernel_rfl) (fun _ _ _ h => h) (Or.inl ⟨by rfl, ?_⟩) (by assumption) ?_
                rotate_left 1
                · intro wq hSw
                  (try dsimp only at hSw)
                  go_simp
                  all_goals (with_reducible rfl)
                (try simp only [Act.put, List.setIfInBounds_toArray, List.set_cons_zero, List.set_cons_succ, List.getElem_toArray, List.getElem_cons_zero, List.getElem_cons_succ])
                refine wpAnyH_done (by kernel_rfl) ?_ _
                clear hHeld
                go_wp2
                go_roundw
                case rel => exact ⟨k + 1, q.s, vB3, by go_num, by omega, ⟨HM5.out.p, HM5.out.r, ⟨by have := HOk2.out.n; omega, HOk2.out.d, HOk2.out.b⟩, HEe.out, HM5.out.b, H.out.hg, H.out.hr⟩⟩
                case measure => simp [intOf] <;> omega
              | cons p t =>
                have hM0 : 0 < j := by have := HMx.out; rw [hhd] at this; simp at this; omega
                have hM1 : (0 : Int) < (j : Int) := by omega
                obtain ⟨gu, rfl, _⟩ := HJ.out.u.addr (by rw [← joinP_len, HMx.out]; exact hM0)
                have hpi : (joinP q.d q.c)[0]? = some p := by rw [hhd]; rfl
                have HHd := Lib.hid hhd
                have hpz : ∀ W, WpMid w g gr bs q xs3 v2 (.slice (some ⟨gu, 0, none⟩) j uc) u2 vB3 W → ∃ z : PcX, z.1 = p ∧ ∀ k, k < 3 → W.cell? ⟨gu, k, none⟩ = (rpCells z)[k]? := by
                  intro W hW
                  obtain ⟨z, h1, h2, _⟩ := hW.u.piece hpi
                  exact ⟨z, h1, fun k hk => by have := h2 k hk; rwa [Nat.zero_mul, Nat.zero_add] at this⟩
                cases p with
                | told T =>
                  have HZ : RowKit.Hid (∀ W, WpMid w g gr bs q xs3 v2 (.slice (some ⟨gu, 0, none⟩) j uc) u2 vB3 W → W.cell? ⟨gu, 0, none⟩ = some (.bool true) ∧ W.cell? ⟨gu, 1, none⟩ = some (.string (ba T))) := by
                    intro W hW
                    obtain ⟨⟨p', a2, c2⟩, h1, h2⟩ := hpz W hW
                    simp only at h1
                    subst h1
                    exact ⟨h2 0 (by omega), h2 1 (by omega)⟩
                  have z0 := (HZ.out _ HJ.out).1
                  have z1 := (HZ.out _ HJ.out).2
                  clear hpi hhd hpz
                  go_wp2
                  have hS0 : (fun w' : World => w'.cell? ⟨gu, 0, none⟩ = some (.bool true) ∧ w'.cell? ⟨gu, 1, none⟩ = some (.string (ba T))) wr.drew := ⟨z0, z1⟩
                  refine wp_region_held_drew (S := fun w' => w'.cell? ⟨gu, 0, none⟩ = some (.bool true) ∧ w'.cell? ⟨gu, 1, none⟩ = some (.string (ba T))) (by kernel_rfl) hS0 (fun hHeld => ?_)
                  refine wpAnyH_take (i := 0) (v := ?_) rfl (by kernel_rfl) (by kernel_rfl) (by kernel_rfl) (fun _ _ _ h => h) (Or.inl ⟨by rfl, ?_⟩) (by assumption) ?_
                  rotate_left 1
                  · intro wq hSw
                    (try dsimp only at hSw)
                    go_simp
                    all_goals (with_reducible rfl)
                  (try simp only [Act.put, List.setIfInBounds_toArray, List.set_cons_zero, List.set_cons_succ, List.getElem_toArray, List.getElem_cons_zero, List.getElem_cons_succ])
                  refine wpAnyH_take (i := 3) (v := ?_) rfl (by kernel_rfl) (by kernel_rfl) (by kernel_rfl) (fun _ _ _ h => h) (Or.inl ⟨by rfl, ?_⟩) (by assumption) ?_
                  rotate_left 1
                  · intro wq hSw
                    (try dsimp only at hSw)
                    go_simp
                    all_goals (with_reducible rfl)
                  (try simp only [Act.put, List.setIfInBounds_toArray, List.set_cons_zero, List.set_cons_succ, List.getElem_toArray, List.getElem_cons_zero, List.getElem_cons_succ])
                  refine wpAnyH_ready (rs := [1]) (by kernel_rfl) (by simp) ?_
                  refine AllReadyH.cons rfl (fun K hK => ?_) AllReadyH.nil
                  go_simp
                  go_at_call 11
                  go_loud (refine (HBy.out _ (HJ.out.below (Below.drewN' (Below.refl _ wr) 1)).v).mono ?_)
                  rintro e5 w5 ⟨v5, rfl, ho5, hb5⟩
                  obtain ⟨a5, c5, rfl⟩ := ho5.form
                  have cv5 := ho5.bytA.conv w5 (Below.refl _ _)
                  rw [HBL.out, HBS.out] at cv5
                  rw [HBL.out]
                  have HM5 := Lib.hid ((HJ.out.below (Below.drewN' (Below.refl _ wr) 1)).below hb5)
                  have hS5 : (fun w' : World => w'.cell? ⟨gu, 0, none⟩ = some (.bool true) ∧ w'.cell? ⟨gu, 1, none⟩ = some (.string (ba T))) w5 := ⟨(HZ.out _ HM5.out).1, (HZ.out _ HM5.out).2⟩
                  refine hK.out _ _ hS5 (fun _ => ?_)
                  clear hK K hHeld ho5 hb5
                  refine wpAnyH_strong (S2 := fun w' => ((convert 30 9 (.slice a5 BL c5)).run Tryd.prog w' = .ok (.string BS) w') ∧ (w'.cell? ⟨gu, 0, none⟩ = some (.bool true) ∧ w'.cell? ⟨gu, 1, none⟩ = some (.string (ba T)))) (fun w h => h.2) ?_
                  have hHeld := And.intro cv5 hS5
                  clear cv5
                  (try simp only [Act.put, List.setIfInBounds_toArray, List.set_cons_zero, List.set_cons_succ, List.getElem_toArray, List.getElem_cons_zero, List.getElem_cons_succ])
                  refine wpAnyH_take (i := 2) (v := ?_) rfl (by kernel_rfl) (by kernel_rfl) (by kernel_rfl) (fun _ _ _ h => h) (Or.inl ⟨by rfl, ?_⟩) (by assumption) ?_
                  rotate_left 1
                  · intro wq hSw
                    (try dsimp only at hSw)
                    go_simp
                    all_goals (with_reducible rfl)
                  (try simp only [Act.put, List.setIfInBounds_toArray, List.set_cons_zero, List.set_cons_succ, List.getElem_toArray, List.getElem_cons_zero, List.getElem_cons_succ])
                  refine wpAnyH_take (i := 4) (v := ?_) rfl (by kernel_rfl) (by kernel_rfl) (by kernel_rfl) (fun _ _ _ h => h) (Or.inl ⟨by rfl, ?_⟩) (by assumption) ?_
                  rotate_left 1
                  · intro wq hSw
                    (try dsimp only at hSw)
                    go_simp
                    all_goals (with_reducible rfl)
                  (try simp only [Act.put, List.setIfInBounds_toArray, List.set_cons_zero, List.set_cons_succ, List.getElem_toArray, List.getElem_cons_zero, List.getElem_cons_succ])
                  refine wpAnyH_take (i := 5) (v := ?_) rfl (by kernel_rfl) (by kernel_rfl) (by kernel_rfl) (fun _ _ _ h => h) (Or.inl ⟨by rfl, ?_⟩) (by assumption) ?_
                  rotate_left 1
                  · intro wq hSw
                    (try dsimp only at hSw)
                    go_simp
                    all_goals (with_reducible rfl)
                  (try simp only [Act.put, List.setIfInBounds_toArray, List.set_cons_zero, List.set_cons_succ, List.getElem_toArray, List.getElem_cons_zero, List.getElem_cons_succ])
                  refine wpAnyH_take (i := 6) (v := ?_) rfl (by kernel_rfl) (by kernel_rfl) (by kernel_rfl) (fun _ _ _ h => h) (Or.inl ⟨by rfl, ?_⟩) (by assumption) ?_
                  rotate_left 1
                  · intro wq hSw
                    (try dsimp only at hSw)
                    go_simp
                    all_goals (with_reducible rfl)
                  (try simp only [Act.put, List.setIfInBounds_toArray, List.set_cons_zero, List.set_cons_succ, List.getElem_toArray, List.getElem_cons_zero, List.getElem_cons_succ])
                  refine wpAnyH_take (i := 7) (v := ?_) rfl (by kernel_rfl) (by kernel_rfl) (by kernel_rfl) (fun _ _ _ h => h) (Or.inl ⟨by rfl, ?_⟩) (by assumption) ?_
                  rotate_left 1
                  · intro wq hSw
                    (try dsimp only at hSw)
                    go_simp
                    all_goals (with_reducible rfl)
                  (try simp only [Act.put, List.setIfInBounds_toArray, List.set_cons_zero, List.set_cons_succ, List.getElem_toArray, List.getElem_cons_zero, List.getElem_cons_succ])
                  refine wpAnyH_take (i := 8) (v := ?_) rfl (by kernel_rfl) (by kernel_rfl) (by kernel_rfl) (fun _ _ _ h => h) (Or.inl ⟨by rfl, ?_⟩) (by assumption) ?_
                  rotate_left 1
                  · intro wq hSw
                    (try dsimp only at hSw)
                    go_simp
                    all_goals (with_reducible rfl)
                  (try simp only [Act.put, List.setIfInBounds_toArray, List.set_cons_zero, List.set_cons_succ, List.getElem_toArray, List.getElem_cons_zero, List.getElem_cons_succ])
                  refine wpAnyH_take (i := 9) (v := ?_) rfl (by kernel_rfl) (by kernel_rfl) (by kernel_rfl) (fun _ _ _ h => h) (Or.inl ⟨by rfl, ?_⟩) (by assumption) ?_
                  rotate_left 1
                  · intro wq hSw
                    (try dsimp only at hSw)
                    go_simp
                    all_goals (with_reducible rfl)
                  (try simp only [Act.put, List.setIfInBounds_toArray, List.set_cons_zero, List.set_cons_succ, List.getElem_toArray, List.getElem_cons_zero, List.getElem_cons_succ])
                  refine wpAnyH_take (i := 10) (v := ?_) rfl (by kernel_rfl) (by kernel_rfl) (by kernel_rfl) (fun _ _ _ h => h) (Or.inl ⟨by rfl, ?_⟩) (by assumption) ?_
                  rotate_left 1
                  · intro wq hSw
                    (try dsimp only at hSw)
                    go_simp
                    all_goals (with_reducible rfl)
                  (try simp only [Act.put, List.setIfInBounds_toArray, List.set_cons_zero, List.set_cons_succ, List.getElem_toArray, List.getElem_cons_zero, List.getElem_cons_succ])
                  refine wpAnyH_take (i := 11) (v := ?_) rfl (by kernel_rfl) (by kernel_rfl) (by kernel_rfl) (fun _ _ _ h => h) (Or.inl ⟨by rfl, ?_⟩) (by assumption) ?_
                  rotate_left 1
                  · intro wq hSw
                    (try dsimp only at hSw)
                    go_simp
                    all_goals (with_reducible rfl)
                  (try simp only [Act.put, List.setIfInBounds_toArray, List.set_cons_zero, List.set_cons_succ, List.getElem_toArray, List.getElem_cons_zero, List.getElem_cons_succ])
                  refine wpAnyH_take (i := 12) (v := ?_) rfl (by kernel_rfl) (by kernel_rfl) (by kernel_rfl) (fun _ _ _ h => h) (Or.inl ⟨by rfl, ?_⟩) (by assumption) ?_
                  rotate_left 1
                  · intro wq hSw
                    (try dsimp only at hSw)
                    go_simp
                    all_goals (with_reducible rfl)
                  (try simp only [Act.put, List.setIfInBounds_toArray, List.set_cons_zero, List.set_cons_succ, List.getElem_toArray, List.getElem_cons_zero, List.getElem_cons_succ])
                  refine wpAnyH_take (i := 13) (v := ?_) rfl (by kernel_rfl) (by kernel_rfl) (by kernel_rfl) (fun _ _ _ h => h) (Or.inl ⟨by rfl, ?_⟩) (by assumption) ?_
                  rotate_left 1
                  · intro wq hSw
                    (try dsimp only at hSw)
                    go_simp
                    all_goals (with_reducible rfl)
                  (try simp only [Act.put, List.setIfInBounds_toArray, List.set_cons_zero, List.set_cons_succ, List.getElem_toArray, List.getElem_cons_zero, List.getElem_cons_succ])
                  refine wpAnyH_take (i := 14) (v := ?_) rfl (by kernel_rfl) (by kernel_rfl) (by kernel_rfl) (fun _ _ _ h => h) (Or.inl ⟨by rfl, ?_⟩) (by assumption) ?_
                  rotate_left 1
                  · intro wq hSw
                    (try dsimp only at hSw)
                    go_simp
                    all_goals (with_reducible rfl)
                  (try simp only [Act.put, List.setIfInBounds_toArray, List.set_cons_zero, List.set_cons_succ, List.getElem_toArray, List.getElem_cons_zero, List.getElem_cons_succ])
                  refine wpAnyH_take (i := 15) (v := ?_) rfl (by kernel_rfl) (by kernel_rfl) (by kernel_rfl) (fun _ _ _ h => h) (Or.inl ⟨by rfl, ?_⟩) (by assumption) ?_
                  rotate_left 1
                  · intro wq hSw
                    (try dsimp only at hSw)
                    go_simp
                    all_goals (with_reducible rfl)
                  (try simp only [Act.put, List.setIfInBounds_toArray, List.set_cons_zero, List.set_cons_succ, List.getElem_toArray, List.getElem_cons_zero, List.getElem_cons_succ])
                  refine wpAnyH_take (i := 16) (v := ?_) rfl (by kernel_rfl) (by kernel_rfl) (by kernel_rfl) (fun _ _ _ h => h) (Or.inl ⟨by rfl, ?_⟩) (by assumption) ?_
                  rotate_left 1
                  · intro wq hSw
                    (try dsimp only at hSw)
                    go_simp
                    all_goals (with_reducible rfl)
                  (try simp only [Act.put, List.setIfInBounds_toArray, List.set_cons_zero, List.set_cons_succ, List.getElem_toArray, List.getElem_cons_zero, List.getElem_cons_succ])
                  refine wpAnyH_take (i := 18) (v := ?_) rfl (by kernel_rfl) (by kernel_rfl) (by kernel_rfl) (fun _ _ _ h => h) (Or.inl ⟨by rfl, ?_⟩) (by assumption) ?_
                  rotate_left 1
                  · intro wq hSw
                    (try dsimp only at hSw)
                    go_simp
                    all_goals (with_reducible rfl)
                  (try simp only [Act.put, List.setIfInBounds_toArray, List.set_cons_zero, List.set_cons_succ, List.getElem_toArray, List.getElem_cons_zero, List.getElem_cons_succ])
                  refine wpAnyH_take (i := 19) (v := ?_) rfl (by kernel_rfl) (by kernel_rfl) (by kernel_rfl) (fun _ _ _ h => h) (Or.inl ⟨by rfl, ?_⟩) (by assumption) ?_
                  rotate_left 1
                  · intro wq hSw
                    (try dsimp only at hSw)
                    go_simp
                    all_goals (with_reducible rfl)
                  (try simp only [Act.put, List.setIfInBounds_toArray, List.set_cons_zero, List.set_cons_succ, List.getElem_toArray, List.getElem_cons_zero, List.getElem_cons_succ])
                  refine wpAnyH_take (i := 20) (v := ?_) rfl (by kernel_rfl) (by kernel_rfl) (by kernel_rfl) (fun _ _ _ h => h) (Or.inl ⟨by rfl, ?_⟩) (by assumption) ?_
                  rotate_left 1
                  · intro wq hSw
                    (try dsimp only at hSw)
                    go_simp
                    all_goals (with_reducible rfl)
                  (try simp only [Act.put, List.setIfInBounds_toArray, List.set_cons_zero, List.set_cons_succ, List.getElem_toArray, List.getElem_cons_zero, List.getElem_cons_succ])
                  refine wpAnyH_take (i := 21) (v := ?_) rfl (by kernel_rfl) (by kernel_rfl) (by kernel_rfl) (fun _ _ _ h => h) (Or.inl ⟨by rfl, ?_⟩) (by assumption) ?_
                  rotate_left 1
                  · intro wq hSw
                    (try dsimp only at hSw)
                    go_simp
                    all_goals (with_reducible rfl)
                  (try simp only [Act.put, List.setIfInBounds_toArray, List.set_cons_zero, List.set_cons_succ, List.getElem_toArray, List.getElem_cons_zero, List.getElem_cons_succ])
                  refine wpAnyH_ready (rs := [17]) (by kernel_rfl) (by simp) ?_
                  refine AllReadyH.cons rfl (fun K hK => ?_) AllReadyH.nil
                  go_simp
                  go_at_call 12
                  go_loud (refine (first20_any _ _ _ T _ _ (by have := HM5.out.v; rw [HHd.out] at this; exact this)).mono ?_)
                  rintro e6 w6 ⟨rfl, rfl⟩
                  refine hK.out _ _ hHeld (fun _ => ?_)
                  clear hK K
                  (try simp only [Act.put, List.setIfInBounds_toArray, List.set_cons_zero, List.set_cons_succ, List.getElem_toArray, List.getElem_cons_zero, List.getElem_cons_succ])
                  refine wpAnyH_take (i := 22) (v := ?_) rfl (by kernel_rfl) (by kernel_rfl) (by kernel_rfl) (fun _ _ _ h => h) (Or.inl ⟨by rfl, ?_⟩) (by assumption) ?_
                  rotate_left 1
                  · intro wq hSw
                    (try dsimp only at hSw)
                    go_simp
                    all_goals (with_reducible rfl)
                  (try simp only [Act.put, List.setIfInBounds_toArray, List.set_cons_zero, List.set_cons_succ, List.getElem_toArray, List.getElem_cons_zero, List.getElem_cons_succ])
                  refine wpAnyH_take (i := 23) (v := ?_) rfl (by kernel_rfl) (by kernel_rfl) (by kernel_rfl) (fun _ _ _ h => h) (Or.inl ⟨by rfl, ?_⟩) (by assumption) ?_
                  rotate_left 1
                  · intro wq hSw
                    (try dsimp only at hSw)
                    go_simp
                    all_goals (with_reducible rfl)
                  (try simp only [Act.put, List.setIfInBounds_toArray, List.set_cons_zero, List.set_cons_succ, List.getElem_toArray, List.getElem_cons_zero, List.getElem_cons_succ])
                  refine wpAnyH_take (i := 24) (v := ?_) rfl (by kernel_rfl) (by kernel_rfl) (by kernel_rfl) (fun _ _ _ h => h) (Or.inl ⟨by rfl, ?_⟩) (by assumption) ?_
                  rotate_left 1
                  · intro wq hSw
                    (try dsimp only at hSw)
                    go_simp
                    all_goals (with_reducible rfl)
                  (try simp only [Act.put, List.setIfInBounds_toArray, List.set_cons_zero, List.set_cons_succ, List.getElem_toArray, List.getElem_cons_zero, List.getElem_cons_succ])
                  refine wpAnyH_done (by kernel_rfl) ?_ _
                  clear hHeld
                  go_wp2
                  go_roundw
                  case rel => exact ⟨k + 1, q.s, vB3, by go_num, by omega, ⟨HM5.out.p, HM5.out.r, ⟨by have := HOk2.out.n; omega, HOk2.out.d, HOk2.out.b⟩, HEe.out, HM5.out.b, H.out.hg, H.out.hr⟩⟩
                  case measure => simp [intOf] <;> omega
                | snd s =>
                  have HZ : RowKit.Hid (∀ W, WpMid w g gr bs q xs3 v2 (.slice (some ⟨gu, 0, none⟩) j uc) u2 vB3 W → W.cell? ⟨gu, 0, none⟩ = some (.bool false)) := by
                    intro W hW
                    obtain ⟨⟨p', a2, c2⟩, h1, h2⟩ := hpz W hW
                    simp only at h1
                    subst h1
                    exact h2 0 (by omega)
                  have z0 := HZ.out _ HJ.out
                  clear hpi hhd hpz
                  go_wp2
                  have hS0 : (fun w' : World => w'.cell? ⟨gu, 0, none⟩ = some (.bool false)) wr.drew := z0
                  refine wp_region_held_drew (S := fun w' => w'.cell? ⟨gu, 0, none⟩ = some (.bool false)) (by kernel_rfl) hS0 (fun hHeld => ?_)
                  refine wpAnyH_take (i := 0) (v := ?_) rfl (by kernel_rfl) (by kernel_rfl) (by kernel_rfl) (fun _ _ _ h => h) (Or.inl ⟨by rfl, ?_⟩) (by assumption) ?_
                  rotate_left 1
                  · intro wq hSw
                    (try dsimp only at hSw)
                    go_simp
                    all_goals (with_reducible rfl)
                  (try simp only [Act.put, List.setIfInBounds_toArray, List.set_cons_zero, List.set_cons_succ, List.getElem_toArray, List.getElem_cons_zero, List.getElem_cons_succ])
                  refine wpAnyH_take (i := 3) (v := ?_) rfl (by kernel_rfl) (by kernel_rfl) (by kernel_rfl) (fun _ _ _ h => h) (Or.inl ⟨by rfl, ?_⟩) (by assumption) ?_
                  rotate_left 1
                  · intro wq hSw
                    (try dsimp only at hSw)
                    go_simp
                    all_goals (with_reducible rfl)
                  (try simp only [Act.put, List.setIfInBounds_toArray, List.set_cons_zero, List.set_cons_succ, List.getElem_toArray, List.getElem_cons_zero, List.getElem_cons_succ])
                  refine wpAnyH_ready (rs := [1]) (by kernel_rfl) (by simp) ?_
                  refine AllReadyH.cons rfl (fun K hK => ?_) AllReadyH.nil
                  go_simp
                  go_at_call 11
                  go_loud (refine (HBy.out _ (HJ.out.below (Below.drewN' (Below.refl _ wr) 1)).v).mono ?_)
                  rintro e5 w5 ⟨v5, rfl, ho5, hb5⟩
                  obtain ⟨a5, c5, rfl⟩ := ho5.form
                  have cv5 := ho5.bytA.conv w5 (Below.refl _ _)
                  rw [HBL.out, HBS.out] at cv5
                  rw [HBL.out]
                  have HM5 := Lib.hid ((HJ.out.below (Below.drewN' (Below.refl _ wr) 1)).below hb5)
                  have hS5 : (fun w' : World => w'.cell? ⟨gu, 0, none⟩ = some (.bool false)) w5 := HZ.out _ HM5.out
                  refine hK.out _ _ hS5 (fun _ => ?_)
                  clear hK K hHeld ho5 hb5
                  refine wpAnyH_strong (S2 := fun w' => ((convert 30 9 (.slice a5 BL c5)).run Tryd.prog w' = .ok (.string BS) w') ∧ (w'.cell? ⟨gu, 0, none⟩ = some (.bool false))) (fun w h => h.2) ?_
                  have hHeld := And.intro cv5 hS5
                  clear cv5
                  (try simp only [Act.put, List.setIfInBounds_toArray, List.set_cons_zero, List.set_cons_succ, List.getElem_toArray, List.getElem_cons_zero, List.getElem_cons_succ])
                  refine wpAnyH_take (i := 2) (v := ?_) rfl (by kernel_rfl) (by kernel_rfl) (by kernel_rfl) (fun _ _ _ h => h) (Or.inl ⟨by rfl, ?_⟩) (by assumption) ?_
                  rotate_left 1
                  · intro wq hSw
                    (try dsimp only at hSw)
                    go_simp
                    all_goals (with_reducible rfl)
                  (try simp only [Act.put, List.setIfInBounds_toArray, List.set_cons_zero, List.set_cons_succ, List.getElem_toArray, List.getElem_cons_zero, List.getElem_cons_succ])
                  refine wpAnyH_take (i := 4) (v := ?_) rfl (by kernel_rfl) (by kernel_rfl) (by kernel_rfl) (fun _ _ _ h => h) (Or.inl ⟨by rfl, ?_⟩) (by assumption) ?_
                  rotate_left 1
                  · intro wq hSw
                    (try dsimp only at hSw)
                    go_simp
                    all_goals (with_reducible rfl)
                  (try simp only [Act.put, List.setIfInBounds_toArray, List.set_cons_zero, List.set_cons_succ, List.getElem_toArray, List.getElem_cons_zero, List.getElem_cons_succ])
                  refine wpAnyH_take (i := 5) (v := ?_) rfl (by kernel_rfl) (by kernel_rfl) (by kernel_rfl) (fun _ _ _ h => h) (Or.inl ⟨by rfl, ?_⟩) (by assumption) ?_
                  rotate_left 1
                  · intro wq hSw
                    (try dsimp only at hSw)
                    go_simp
                    all_goals (with_reducible rfl)
                  (try simp only [Act.put, List.setIfInBounds_toArray, List.set_cons_zero, List.set_cons_succ, List.getElem_toArray, List.getElem_cons_zero, List.getElem_cons_succ])
                  refine wpAnyH_take (i := 6) (v := ?_) rfl (by kernel_rfl) (by kernel_rfl) (by kernel_rfl) (fun _ _ _ h => h) (Or.inl ⟨by rfl, ?_⟩) (by assumption) ?_
                  rotate_left 1
                  · intro wq hSw
                    (try dsimp only at hSw)
                    go_simp
                    all_goals (with_reducible rfl)
                  (try simp only [Act.put, List.setIfInBounds_toArray, List.set_cons_zero, List.set_cons_succ, List.getElem_toArray, List.getElem_cons_zero, List.getElem_cons_succ])
                  refine wpAnyH_take (i := 7) (v := ?_) rfl (by kernel_rfl) (by kernel_rfl) (by kernel_rfl) (fun _ _ _ h => h) (Or.inl ⟨by rfl, ?_⟩) (by assumption) ?_
                  rotate_left 1
                  · intro wq hSw
                    (try dsimp only at hSw)
                    go_simp
                    all_goals (with_reducible rfl)
                  (try simp only [Act.put, List.setIfInBounds_toArray, List.set_cons_zero, List.set_cons_succ, List.getElem_toArray, List.getElem_cons_zero, List.getElem_cons_succ])
                  refine wpAnyH_take (i := 8) (v := ?_) rfl (by kernel_rfl) (by kernel_rfl) (by kernel_rfl) (fun _ _ _ h => h) (Or.inl ⟨by rfl, ?_⟩) (by assumption) ?_
                  rotate_left 1
                  · intro wq hSw
                    (try dsimp only at hSw)
                    go_simp
                    all_goals (with_reducible rfl)
                  (try simp only [Act.put, List.setIfInBounds_toArray, List.set_cons_zero, List.set_cons_succ, List.getElem_toArray, List.getElem_cons_zero, List.getElem_cons_succ])
                  refine wpAnyH_take (i := 9) (v := ?_) rfl (by kernel_rfl) (by kernel_rfl) (by kernel_rfl) (fun _ _ _ h => h) (Or.inl ⟨by rfl, ?_⟩) (by assumption) ?_
                  rotate_left 1
                  · intro wq hSw
                    (try dsimp only at hSw)
                    go_simp
                    all_goals (with_reducible rfl)
                  (try simp only [Act.put, List.setIfInBounds_toArray, List.set_cons_zero, List.set_cons_succ, List.getElem_toArray, List.getElem_cons_zero, List.getElem_cons_succ])
                  refine wpAnyH_take (i := 10) (v := ?_) rfl (by kernel_rfl) (by kernel_rfl) (by kernel_rfl) (fun _ _ _ h => h) (Or.inl ⟨by rfl, ?_⟩) (by assumption) ?_
                  rotate_left 1
                  · intro wq hSw
                    (try dsimp only at hSw)
                    go_simp
                    all_goals (with_reducible rfl)
                  (try simp only [Act.put, List.setIfInBounds_toArray, List.set_cons_zero, List.set_cons_succ, List.getElem_toArray, List.getElem_cons_zero, List.getElem_cons_succ])
                  refine wpAnyH_take (i := 11) (v := ?_) rfl (by kernel_rfl) (by kernel_rfl) (by kernel_rfl) (fun _ _ _ h => h) (Or.inl ⟨by rfl, ?_⟩) (by assumption) ?_
                  rotate_left 1
                  · intro wq hSw
                    (try dsimp only at hSw)
                    go_simp
                    all_goals (with_reducible rfl)
                  (try simp only [Act.put, List.setIfInBounds_toArray, List.set_cons_zero, List.set_cons_succ, List.getElem_toArray, List.getElem_cons_zero, List.getElem_cons_succ])
                  refine wpAnyH_take (i := 12) (v := ?_) rfl (by kernel_rfl) (by kernel_rfl) (by kernel_rfl) (fun _ _ _ h => h) (Or.inl ⟨by rfl, ?_⟩) (by assumption) ?_
                  rotate_left 1
                  · intro wq hSw
                    (try dsimp only at hSw)
                    go_simp
                    all_goals (with_reducible rfl)
                  (try simp only [Act.put, List.setIfInBounds_toArray, List.set_cons_zero, List.set_cons_succ, List.getElem_toArray, List.getElem_cons_zero, List.getElem_cons_succ])
                  refine wpAnyH_take (i := 13) (v := ?_) rfl (by kernel_rfl) (by kernel_rfl) (by kernel_rfl) (fun _ _ _ h => h) (Or.inl ⟨by rfl, ?_⟩) (by assumption) ?_
                  rotate_left 1
                  · intro wq hSw
                    (try dsimp only at hSw)
                    go_simp
                    all_goals (with_reducible rfl)
                  (try simp only [Act.put, List.setIfInBounds_toArray, List.set_cons_zero, List.set_cons_succ, List.getElem_toArray, List.getElem_cons_zero, List.getElem_cons_succ])
                  refine wpAnyH_take (i := 14) (v := ?_) rfl (by kernel_rfl) (by kernel_rfl) (by kernel_rfl) (fun _ _ _ h => h) (Or.inl ⟨by rfl, ?_⟩) (by assumption) ?_
                  rotate_left 1
                  · intro wq hSw
                    (try dsimp only at hSw)
                    go_simp
                    all_goals (with_reducible rfl)
                  (try simp only [Act.put, List.setIfInBounds_toArray, List.set_cons_zero, List.set_cons_succ, List.getElem_toArray, List.getElem_cons_zero, List.getElem_cons_succ])
                  refine wpAnyH_take (i := 15) (v := ?_) rfl (by kernel_rfl) (by kernel_rfl) (by kernel_rfl) (fun _ _ _ h => h) (Or.inl ⟨by rfl, ?_⟩) (by assumption) ?_
                  rotate_left 1
                  · intro wq hSw
                    (try dsimp only at hSw)
                    go_simp
                    all_goals (with_reducible rfl)
                  (try simp only [Act.put, List.setIfInBounds_toArray, List.set_cons_zero, List.set_cons_succ, List.getElem_toArray, List.getElem_cons_zero, List.getElem_cons_succ])
                  refine wpAnyH_take (i := 16) (v := undef) rfl (by kernel_rfl) (by kernel_rfl) (by kernel_rfl) (fun _ _ _ h => h) (Or.inr ⟨by rfl, rfl⟩) (by assumption) ?_
                  (try simp only [Act.put, List.setIfInBounds_toArray, List.set_cons_zero, List.set_cons_succ, List.getElem_toArray, List.getElem_cons_zero, List.getElem_cons_succ])
                  refine wpAnyH_take (i := 17) (v := undef) rfl (by kernel_rfl) (by kernel_rfl) (by kernel_rfl) (fun _ _ _ h => h) (Or.inr ⟨by rfl, rfl⟩) (by assumption) ?_
                  (try simp only [Act.put, List.setIfInBounds_toArray, List.set_cons_zero, List.set_cons_succ, List.getElem_toArray, List.getElem_cons_zero, List.getElem_cons_succ])
                  refine wpAnyH_take (i := 18) (v := undef) rfl (by kernel_rfl) (by kernel_rfl) (by kernel_rfl) (fun _ _ _ h => h) (Or.inr ⟨by rfl, rfl⟩) (by assumption) ?_
                  (try simp only [Act.put, List.setIfInBounds_toArray, List.set_cons_zero, List.set_cons_succ, List.getElem_toArray, List.getElem_cons_zero, List.getElem_cons_succ])
                  refine wpAnyH_take (i := 19) (v := undef) rfl (by kernel_rfl) (by kernel_rfl) (by kernel_rfl) (fun _ _ _ h => h) (Or.inr ⟨by rfl, rfl⟩) (by assumption) ?_
                  (try simp only [Act.put, List.setIfInBounds_toArray, List.set_cons_zero, List.set_cons_succ, List.getElem_toArray, List.getElem_cons_zero, List.getElem_cons_succ])
                  refine wpAnyH_take (i := 20) (v := undef) rfl (by kernel_rfl) (by kernel_rfl) (by kernel_rfl) (fun _ _ _ h => h) (Or.inr ⟨by rfl, rfl⟩) (by assumption) ?_
                  (try simp only [Act.put, List.setIfInBounds_toArray, List.set_cons_zero, List.set_cons_succ, List.getElem_toArray, List.getElem_cons_zero, List.getElem_cons_succ])
                  refine wpAnyH_take (i := 21) (v := undef) rfl (by kernel_rfl) (by kernel_rfl) (by kernel_rfl) (fun _ _ _ h => h) (Or.inr ⟨by rfl, rfl⟩) (by assumption) ?_
                  (try simp only [Act.put, List.setIfInBounds_toArray, List.set_cons_zero, List.set_cons_succ, List.getElem_toArray, List.getElem_cons_zero, List.getElem_cons_succ])
                  refine wpAnyH_take (i := 22) (v := undef) rfl (by kernel_rfl) (by kernel_rfl) (by kernel_rfl) (fun _ _ _ h => h) (Or.inr ⟨by rfl, rfl⟩) (by assumption) ?_
                  (try simp only [Act.put, List.setIfInBounds_toArray, List.set_cons_zero, List.set_cons_succ, List.getElem_toArray, List.getElem_cons_zero, List.getElem_cons_succ])
                  refine wpAnyH_take (i := 23) (v := ?_) rfl (by kernel_rfl) (by kernel_rfl) (by kernel_rfl) (fun _ _ _ h => h) (Or.inl ⟨by rfl, ?_⟩) (by assumption) ?_
                  rotate_left 1
                  · intro wq hSw
                    (try dsimp only at hSw)
                    go_simp
                    all_goals (with_reducible rfl)
                  (try simp only [Act.put, List.setIfInBounds_toArray, List.set_cons_zero, List.set_cons_succ, List.getElem_toArray, List.getElem_cons_zero, List.getElem_cons_succ])
                  refine wpAnyH_take (i := 24) (v := ?_) rfl (by kernel_rfl) (by kernel_rfl) (by kernel_rfl) (fun _ _ _ h => h) (Or.inl ⟨by rfl, ?_⟩) (by assumption) ?_
                  rotate_left 1
                  · intro wq hSw
                    (try dsimp only at hSw)
                    go_simp
                    all_goals (with_reducible rfl)
                  (try simp only [Act.put, List.setIfInBounds_toArray, List.set_cons_zero, List.set_cons_succ, List.getElem_toArray, List.getElem_cons_zero, List.getElem_cons_succ])
                  refine wpAnyH_done (by kernel_rfl) ?_ _
                  clear hHeld
                  go_wp2
                  go_roundw
                  case rel => exact ⟨k + 1, q.s, vB3, by go_num, by omega, ⟨HM5.out.p, HM5.out.r, ⟨by have := HOk2.out.n; omega, HOk2.out.d, HOk2.out.b⟩, HEe.out, HM5.out.b, H.out.hg, H.out.hr⟩⟩
                  case measure => simp [intOf] <;> omega
        | false =>
          rw [hok] at CP CR
          go_wp2_with (first
            | (go_at_call 8; go_loud (refine (CP.out _ H.out.p (HAx.out.below H.out.b)).mono ?_); rintro e w2 ⟨v2, rfl, hv2, hp2, hk2⟩; have HV2 := Lib.hid hv2; have HP2 := Lib.hid hp2; have HK2 := Lib.hid hk2; have HR2 := Lib.hid (HKp.out w2 hk2); clear hv2 hp2 hk2)
            | (go_at_call 9; go_loud (refine (CR.out _ HR2.out.1 HR2.out.2.1 HR2.out.2.2).mono ?_); rintro e w3 ⟨u3, u2, vB3, xs3, rfl, hr3⟩; obtain ⟨ua, uc, rfl⟩ := hr3.o.form; have HM3 := Lib.hid (HMid.out _ _ _ _ _ _ _ HV2.out HP2.out HK2.out hr3); rw [← joinP_len] at HM3 ⊢; clear hr3)
            | (go_at_call 10; go_loud (refine (same20_any _ _ _ _ _ _ _ _ _ _ _ HM3.out.v HM3.out.u (by omega)).mono ?_); rintro e w4 ⟨rfl, hb4⟩; have HM4 := Lib.hid (HM3.out.below hb4); clear hb4)
            | fail)
          obtain ⟨M, hM⟩ : ∃ M, (joinP q.d q.c).length = M := ⟨_, rfl⟩
          rw [hM] at HM4 hjl ⊢
          have HMx := Lib.hid hM
          obtain ⟨bs, hbs⟩ : ∃ bs, wr.heap.size = bs := ⟨_, rfl⟩
          rw [hbs] at HM4
          clear hbs
          clear HM3 HV2 HP2 HK2 HR2 hM
          go_loopw [15, 81] (fun s i wq => ∃ j : Nat, s = .string (ba (soundP ((joinP q.d q.c).take j))) ∧ i = .int .i64 (j : Int) ∧ j ≤ M ∧ RowKit.Hid (WpMid w g gr bs q xs3 v2 (.slice ua M uc) u2 vB3 wq)) (fun _ i _ => M - (intOf i).toNat)
          case atStart => exact ⟨0, rfl, rfl, by omega, HM4.out⟩
          case round =>
            clear HM4
            obtain ⟨j, rfl, rfl, hj, HJ⟩ := hrel
            by_cases hjt : j < M
            · have hlM : j < (joinP q.d q.c).length := by rw [HMx.out]; exact hjt
              obtain ⟨gu, rfl, _⟩ := HJ.out.u.addr (by rw [← joinP_len]; omega)
              obtain ⟨p, hp⟩ : ∃ p, (joinP q.d q.c)[j] = p := ⟨_, rfl⟩
              have hpi : (joinP q.d q.c)[j]? = some p := by rw [List.getElem?_eq_getElem hlM, hp]
              obtain ⟨z, hz, hzc, hzb⟩ := HJ.out.u.piece hpi
              have z0 := hzc 0 (by omega)
              have z1 := hzc 1 (by omega)
              have z2 := hzc 2 (by omega)
              rw [Nat.add_zero] at z0
              have hst := soundP_take hpi
              have hle := soundP_le (joinP q.d q.c) (j + 1)
              rw [hst, List.length_append] at hle
              obtain ⟨p', a2, c2⟩ := z
              simp only at hz
              subst hz
              cases p' with
              | told T =>
                replace z0 : wr.cell? ⟨gu, j * 3, none⟩ = some (.bool true) := z0
                replace z1 : wr.cell? ⟨gu, j * 3 + 1, none⟩ = some (.string (ba T)) := z1
                replace z2 : wr.cell? ⟨gu, j * 3 + 2, none⟩ = some (.slice none 0 0) := z2
                have cvn : ∀ W : World, (convert 30 9 (.slice none 0 0)).run Tryd.prog W = .ok (.string ⟨#[]⟩) W := fun W => (⟨⟨rfl, .inl rfl⟩, rfl, Nat.le_refl _, fun _ => rfl⟩ : BytA W none 0 0 []).conv W (Below.refl _ _)
                have HE : RowKit.Hid (ba (soundP ((joinP q.d q.c).take j)) ++ ⟨#[]⟩ = ba (soundP ((joinP q.d q.c).take (j + 1)))) := by
                  show _ = _
                  rw [hst]
                  exact ba_append _ _
                obtain ⟨X, hX⟩ : ∃ X, ba (soundP ((joinP q.d q.c).take j)) = X := ⟨_, rfl⟩
                have hXs : X.size ≤ 1000000 := by rw [← hX, ba_size]; omega
                have HJ2 := Lib.hid (HJ.out.below (Below.alloc_new wr (.cells #[.bool true, .string (ba T), .slice none 0 0] 41)))
                rw [hX] at HE ⊢
                clear hX hlM hp hpi hzc hzb hst hle
                generalize ba T = TT at *
                go_wp2
                go_roundw
                case rel => exact ⟨j + 1, by rw [← HE.out], by go_num, by omega, HJ2.out⟩
                case measure => simp [intOf] <;> omega
              | snd s =>
                replace z0 : wr.cell? ⟨gu, j * 3, none⟩ = some (.bool false) := z0
                replace z1 : wr.cell? ⟨gu, j * 3 + 1, none⟩ = some (.string ⟨#[]⟩) := z1
                replace z2 : wr.cell? ⟨gu, j * 3 + 2, none⟩ = some (.slice a2 s.length c2) := z2
                have hba := hzb s a2 c2 rfl
                have hsl2 : s.length ≤ 1000000 := by simp [soundP] at hle; omega
                have cvs : (convert 30 9 (.slice a2 s.length c2)).run Tryd.prog (wr.alloc (.cells #[.bool false, .string ⟨#[]⟩, .slice a2 s.length c2] 41)) = .ok (.string (ba s)) _ := hba.conv _ (Below.alloc_new wr _)
                have HE : RowKit.Hid (ba (soundP ((joinP q.d q.c).take j)) ++ ba s = ba (soundP ((joinP q.d q.c).take (j + 1)))) := by
                  show _ = _
                  rw [hst, ba_append]
                  simp [soundP]
                obtain ⟨X, hX⟩ : ∃ X, ba (soundP ((joinP q.d q.c).take j)) = X := ⟨_, rfl⟩
                have hXs : X.size ≤ 1000000 := by rw [← hX, ba_size]; omega
                have hYs : (ba s).size ≤ 1000000 := by rw [ba_size]; exact hsl2
                have HJ2 := Lib.hid (HJ.out.below (Below.alloc_new wr (.cells #[.bool false, .string ⟨#[]⟩, .slice a2 s.length c2] 41)))
                obtain ⟨sl, hsl3⟩ : ∃ sl, s.length = sl := ⟨_, rfl⟩
                rw [hX] at HE ⊢
                rw [hsl3] at z2 cvs HJ2
                generalize ba s = SS at *
                clear hX hlM hp hpi hzc hzb hst hle hba hsl3 hsl2
                go_wp2
                go_roundw
                case rel => exact ⟨j + 1, by rw [← HE.out], by go_num, by omega, HJ2.out⟩
                case measure => simp [intOf] <;> omega
            · obtain rfl : j = M := by omega
              have HBy := Lib.hid (fun W (hv : PcsAt W bs (fun _ => False) v2 (joinP q.d q.c)) => bytes20_any _ _ _ _ W hv (by omega) (by rw [HMx.out]; omega))
              unfold ByPost at HBy
              obtain ⟨BL, hBL⟩ : ∃ BL, (soundP (joinP q.d q.c)).length = BL := ⟨_, rfl⟩
              obtain ⟨BS, hBS⟩ : ∃ BS, ba (soundP (joinP q.d q.c)) = BS := ⟨_, rfl⟩
              rw [List.take_of_length_le (by rw [HMx.out]; omega), hBS]
              have HBL := Lib.hid hBL
              have HBS := Lib.hid hBS
              clear hBL hBS
              cases hhd : joinP q.d q.c with
              | nil =>
                have hM0 : j = 0 := by have := HMx.out; rw [hhd] at this; simpa using this.symm
                subst hM0
                go_wp2
                have hS0 : (fun w' : World => True) wr.drew := trivial
                refine wp_region_held_drew (S := fun w' => True) (by kernel_rfl) hS0 (fun hHeld => ?_)
                refine wpAnyH_take (i := 0) (v := ?_) rfl (by kernel_rfl) (by kernel_rfl) (by kernel_rfl) (fun _ _ _ h => h) (Or.inl ⟨by rfl, ?_⟩) (by assumption) ?_
                rotate_left 1
                · intro wq hSw
                  (try dsimp only at hSw)
                  go_simp
                  all_goals (with_reducible rfl)
                (try simp only [Act.put, List.setIfInBounds_toArray, List.set_cons_zero, List.set_cons_succ, List.getElem_toArray, List.getElem_cons_zero, List.getElem_cons_succ])
                refine wpAnyH_take (i := 3) (v := ?_) rfl (by kernel_rfl) (by kernel_rfl) (by kernel_rfl) (fun _ _ _ h => h) (Or.inl ⟨by rfl, ?_⟩) (by assumption) ?_
                rotate_left 1
                · intro wq hSw
                  (try dsimp only at hSw)
                  go_simp
                  all_goals (with_reducible rfl)
                (try simp only [Act.put, List.setIfInBounds_toArray, List.set_cons_zero, List.set_cons_succ, List.getElem_toArray, List.getElem_cons_zero, List.getElem_cons_succ])
                refine wpAnyH_ready (rs := [1]) (by kernel_rfl) (by simp) ?_
                refine AllReadyH.cons rfl (fun K hK => ?_) AllReadyH.nil
                go_simp
                go_at_call 11
                go_loud (refine (HBy.out _ (HJ.out.below (Below.drewN' (Below.refl _ wr) 1)).v).mono ?_)
                rintro e5 w5 ⟨v5, rfl, ho5, hb5⟩
                obtain ⟨a5, c5, rfl⟩ := ho5.form
                have cv5 := ho5.bytA.conv w5 (Below.refl _ _)
                rw [HBL.out, HBS.out] at cv5
                rw [HBL.out]
                have HM5 := Lib.hid ((HJ.out.below (Below.drewN' (Below.refl _ wr) 1)).below hb5)
                have hS5 : (fun w' : World => True) w5 := trivial
                refine hK.out _ _ hS5 (fun _ => ?_)
                clear hK K hHeld ho5 hb5
                refine wpAnyH_strong (S2 := fun w' => ((convert 30 9 (.slice a5 BL c5)).run Tryd.prog w' = .ok (.string BS) w') ∧ (True)) (fun w h => h.2) ?_
                have hHeld := And.intro cv5 hS5
                clear cv5
                (try simp only [Act.put, List.setIfInBounds_toArray, List.set_cons_zero, List.set_cons_succ, List.getElem_toArray, List.getElem_cons_zero, List.getElem_cons_succ])
                refine wpAnyH_take (i := 2) (v := ?_) rfl (by kernel_rfl) (by kernel_rfl) (by kernel_rfl) (fun _ _ _ h => h) (Or.inl ⟨by rfl, ?_⟩) (by assumption) ?_
                rotate_left 1
                · intro wq hSw
                  (try dsimp only at hSw)
                  go_simp
                  all_goals (with_reducible rfl)
                (try simp only [Act.put, List.setIfInBounds_toArray, List.set_cons_zero, List.set_cons_succ, List.getElem_toArray, List.getElem_cons_zero, List.getElem_cons_succ])
                refine wpAnyH_take (i := 4) (v := ?_) rfl (by kernel_rfl) (by kernel_rfl) (by kernel_rfl) (fun _ _ _ h => h) (Or.inl ⟨by rfl, ?_⟩) (by assumption) ?_
                rotate_left 1
                · intro wq hSw
                  (try dsimp only at hSw)
                  go_simp
                  all_goals (with_reducible rfl)
                (try simp only [Act.put, List.setIfInBounds_toArray, List.set_cons_zero, List.set_cons_succ, List.getElem_toArray, List.getElem_cons_zero, List.getElem_cons_succ])
                refine wpAnyH_take (i := 5) (v := ?_) rfl (by kernel_rfl) (by kernel_rfl) (by kernel_rfl) (fun _ _ _ h => h) (Or.inl ⟨by rfl, ?_⟩) (by assumption) ?_
                rotate_left 1
                · intro wq hSw
                  (try dsimp only at hSw)
                  go_simp
                  all_goals (with_reducible rfl)
                (try simp only [Act.put, List.setIfInBounds_toArray, List.set_cons_zero, List.set_cons_succ, List.getElem_toArray, List.getElem_cons_zero, List.getElem_cons_succ])
                refine wpAnyH_take (i := 6) (v := ?_) rfl (by kernel_rfl) (by kernel_rfl) (by kernel_rfl) (fun _ _ _ h => h) (Or.inl ⟨by rfl, ?_⟩) (by assumption) ?_
                rotate_left 1
                · intro wq hSw
                  (try dsimp only at hSw)
                  go_simp
                  all_goals (with_reducible rfl)
                (try simp only [Act.put, List.setIfInBounds_toArray, List.set_cons_zero, List.set_cons_succ, List.getElem_toArray, List.getElem_cons_zero, List.getElem_cons_succ])
                refine wpAnyH_take (i := 7) (v := ?_) rfl (by kernel_rfl) (by kernel_rfl) (by kernel_rfl) (fun _ _ _ h => h) (Or.inl ⟨by rfl, ?_⟩) (by assumption) ?_
                rotate_left 1
                · intro wq hSw
                  (try dsimp only at hSw)
                  go_simp
                  all_goals (with_reducible rfl)
                (try simp only [Act.put, List.setIfInBounds_toArray, List.set_cons_zero, List.set_cons_succ, List.getElem_toArray, List.getElem_cons_zero, List.getElem_cons_succ])
                refine wpAnyH_take (i := 8) (v := ?_) rfl (by kernel_rfl) (by kernel_rfl) (by kernel_rfl) (fun _ _ _ h => h) (Or.inl ⟨by rfl, ?_⟩) (by assumption) ?_
                rotate_left 1
                · intro wq hSw
                  (try dsimp only at hSw)
                  go_simp
                  all_goals (with_reducible rfl)
                (try simp only [Act.put, List.setIfInBounds_toArray, List.set_cons_zero, List.set_cons_succ, List.getElem_toArray, List.getElem_cons_zero, List.getElem_cons_succ])
                refine wpAnyH_take (i := 9) (v := ?_) rfl (by kernel_rfl) (by kernel_rfl) (by kernel_rfl) (fun _ _ _ h => h) (Or.inl ⟨by rfl, ?_⟩) (by assumption) ?_
                rotate_left 1
                · intro wq hSw
                  (try dsimp only at hSw)
                  go_simp
                  all_goals (with_reducible rfl)
                (try simp only [Act.put, List.setIfInBounds_toArray, List.set_cons_zero, List.set_cons_succ, List.getElem_toArray, List.getElem_cons_zero, List.getElem_cons_succ])
                refine wpAnyH_take (i := 10) (v := undef) rfl (by kernel_rfl) (by kernel_rfl) (by kernel_rfl) (fun _ _ _ h => h) (Or.inr ⟨by rfl, rfl⟩) (by assumption) ?_
                (try simp only [Act.put, List.setIfInBounds_toArray, List.set_cons_zero, List.set_cons_succ, List.getElem_toArray, List.getElem_cons_zero, List.getElem_cons_succ])
                refine wpAnyH_take (i := 11) (v := undef) rfl (by kernel_rfl) (by kernel_rfl) (by kernel_rfl) (fun _ _ _ h => h) (Or.inr ⟨by rfl, rfl⟩) (by assumption) ?_
                (try simp only [Act.put, List.setIfInBounds_toArray, List.set_cons_zero, List.set_cons_succ, List.getElem_toArray, List.getElem_cons_zero, List.getElem_cons_succ])
                refine wpAnyH_take (i := 12) (v := undef) rfl (by kernel_rfl) (by kernel_rfl) (by kernel_rfl) (fun _ _ _ h => h) (Or.inr ⟨by rfl, rfl⟩) (by assumption) ?_
                (try simp only [Act.put, List.setIfInBounds_toArray, List.set_cons_zero, List.set_cons_succ, List.getElem_toArray, List.getElem_cons_zero, List.getElem_cons_succ])
                refine wpAnyH_take (i := 13) (v := undef) rfl (by kernel_rfl) (by kernel_rfl) (by kernel_rfl) (fun _ _ _ h => h) (Or.inr ⟨by rfl, rfl⟩) (by assumption) ?_
                (try simp only [Act.put, List.setIfInBounds_toArray, List.set_cons_zero, List.set_cons_succ, List.getElem_toArray, List.getElem_cons_zero, List.getElem_cons_succ])
                refine wpAnyH_take (i := 14) (v := ?_) rfl (by kernel_rfl) (by kernel_rfl) (by kernel_rfl) (fun _ _ _ h => h) (Or.inl ⟨by rfl, ?_⟩) (by assumption) ?_
                rotate_left 1
                · intro wq hSw
                  (try dsimp only at hSw)
                  go_simp
                  all_goals (with_reducible rfl)
                (try simp only [Act.put, List.setIfInBounds_toArray, List.set_cons_zero, List.set_cons_succ, List.getElem_toArray, List.getElem_cons_zero, List.getElem_cons_succ])
                refine wpAnyH_take (i := 15) (v := ?_) rfl (by kernel_rfl) (by kernel_rfl) (by kernel_rfl) (fun _ _ _ h => h) (Or.inl ⟨by rfl, ?_⟩) (by assumption) ?_
                rotate_left 1
                · intro wq hSw
                  (try dsimp only at hSw)
                  go_simp
                  all_goals (with_reducible rfl)
                (try simp only [Act.put, List.setIfInBounds_toArray, List.set_cons_zero, List.set_cons_succ, List.getElem_toArray, List.getElem_cons_zero, List.getElem_cons_succ])
                refine wpAnyH_take (i := 16) (v := undef) rfl (by kernel_rfl) (by kernel_rfl) (by kernel_rfl) (fun _ _ _ h => h) (Or.inr ⟨by rfl, rfl⟩) (by assumption) ?_
                (try simp only [Act.put, List.setIfInBounds_toArray, List.set_cons_zero, List.set_cons_succ, List.getElem_toArray, List.getElem_cons_zero, List.getElem_cons_succ])
                refine wpAnyH_take (i := 17) (v := undef) rfl (by kernel_rfl) (by kernel_rfl) (by kernel_rfl) (fun _ _ _ h => h) (Or.inr ⟨by rfl, rfl⟩) (by assumption) ?_
                (try simp only [Act.put, List.setIfInBounds_toArray, List.set_cons_zero, List.set_cons_succ, List.getElem_toArray, List.getElem_cons_zero, List.getElem_cons_succ])
                refine wpAnyH_take (i := 18) (v := undef) rfl (by kernel_rfl) (by kernel_rfl) (by kernel_rfl) (fun _ _ _ h => h) (Or.inr ⟨by rfl, rfl⟩) (by assumption) ?_
                (try simp only [Act.put, List.setIfInBounds_toArray, List.set_cons_zero, List.set_cons_succ, List.getElem_toArray, List.getElem_cons_zero, List.getElem_cons_succ])
                refine wpAnyH_take (i := 19) (v := undef) rfl (by kernel_rfl) (by kernel_rfl) (by kernel_rfl) (fun _ _ _ h => h) (Or.inr ⟨by rfl, rfl⟩) (by assumption) ?_
                (try simp only [Act.put, List.setIfInBounds_toArray, List.set_cons_zero, List.set_cons_succ, List.getElem_toArray, List.getElem_cons_zero, List.getElem_cons_succ])
                refine wpAnyH_take (i := 20) (v := undef) rfl (by kernel_rfl) (by kernel_rfl) (by kernel_rfl) (fun _ _ _ h => h) (Or.inr ⟨by rfl, rfl⟩) (by assumption) ?_
                (try simp only [Act.put, List.setIfInBounds_toArray, List.set_cons_zero, List.set_cons_succ, List.getElem_toArray, List.getElem_cons_zero, List.getElem_cons_succ])
                refine wpAnyH_take (i := 21) (v := undef) rfl (by kernel_rfl) (by kernel_rfl) (by kernel_rfl) (fun _ _ _ h => h) (Or.inr ⟨by rfl, rfl⟩) (by assumption) ?_
                (try simp only [Act.put, List.setIfInBounds_toArray, List.set_cons_zero, List.set_cons_succ, List.getElem_toArray, List.getElem_cons_zero, List.getElem_cons_succ])
                refine wpAnyH_take (i := 22) (v := undef) rfl (by kernel_rfl) (by kernel_rfl) (by kernel_rfl) (fun _ _ _ h => h) (Or.inr ⟨by rfl, rfl⟩) (by assumption) ?_
                (try simp only [Act.put, List.setIfInBounds_toArray, List.set_cons_zero, List.set_cons_succ, List.getElem_toArray, List.getElem_cons_zero, List.getElem_cons_succ])
                refine wpAnyH_take (i := 23) (v := ?_) rfl (by kernel_rfl) (by kernel_rfl) (by kernel_rfl) (fun _ _ _ h => h) (Or.inl ⟨by rfl, ?_⟩) (by assumption) ?_
                rotate_left 1
                · intro wq hSw
                  (try dsimp only at hSw)
                  go_simp
                  all_goals (with_reducible rfl)
                (try simp only [Act.put, List.setIfInBounds_toArray, List.set_cons_zero, List.set_cons_succ, List.getElem_toArray, List.getElem_cons_zero, List.getElem_cons_succ])
                refine wpAnyH_take (i := 24) (v := ?_) rfl (by kernel_rfl) (by kernel_rfl) (by kernel_rfl) (fun _ _ _ h => h) (Or.inl ⟨by rfl, ?_⟩) (by assumption) ?_
                rotate_left 1
                · intro wq hSw
                  (try dsimp only at hSw)
                  go_simp
                  all_goals (with_reducible rfl)
                (try simp only [Act.put, List.setIfInBounds_toArray, List.set_cons_zero, List.set_cons_succ, List.getElem_toArray, List.getElem_cons_zero, List.getElem_cons_succ])
                refine wpAnyH_done (by kernel_rfl) ?_ _
                clear hHeld
                go_wp2
                go_roundw
                case rel => exact ⟨k + 1, q.s, vB3, by go_num, by omega, ⟨HM5.out.p, HM5.out.r, ⟨by have := HOk2.out.n; omega, HOk2.out.d, HOk2.out.b⟩, HEe.out, HM5.out.b, H.out.hg, H.out.hr⟩⟩
                case measure => simp [intOf] <;> omega
              | cons p t =>
                have hM0 : 0 < j := by have := HMx.out; rw [hhd] at this; simp at this; omega
                have hM1 : (0 : Int) < (j : Int) := by omega
                obtain ⟨gu, rfl, _⟩ := HJ.out.u.addr (by rw [← joinP_len, HMx.out]; exact hM0)
                have hpi : (joinP q.d q.c)[0]? = some p := by rw [hhd]; rfl
                have HHd := Lib.hid hhd
                have hpz : ∀ W, WpMid w g gr bs q xs3 v2 (.slice (some ⟨gu, 0, none⟩) j uc) u2 vB3 W → ∃ z : PcX, z.1 = p ∧ ∀ k, k < 3 → W.cell? ⟨gu, k, none⟩ = (rpCells z)[k]? := by
                  intro W hW
                  obtain ⟨z, h1, h2, _⟩ := hW.u.piece hpi
                  exact ⟨z, h1, fun k hk => by have := h2 k hk; rwa [Nat.zero_mul, Nat.zero_add] at this⟩
                cases p with
                | told T =>
                  have HZ : RowKit.Hid (∀ W, WpMid w g gr bs q xs3 v2 (.slice (some ⟨gu, 0, none⟩) j uc) u2 vB3 W → W.cell? ⟨gu, 0, none⟩ = some (.bool true) ∧ W.cell? ⟨gu, 1, none⟩ = some (.string (ba T))) := by
                    intro W hW
                    obtain ⟨⟨p', a2, c2⟩, h1, h2⟩ := hpz W hW
                    simp only at h1
                    subst h1
                    exact ⟨h2 0 (by omega), h2 1 (by omega)⟩
                  have z0 := (HZ.out _ HJ.out).1
                  have z1 := (HZ.out _ HJ.out).2
                  clear hpi hhd hpz
                  go_wp2
                  have hS0 : (fun w' : World => w'.cell? ⟨gu, 0, none⟩ = some (.bool true) ∧ w'.cell? ⟨gu, 1, none⟩ = some (.string (ba T))) wr.drew := ⟨z0, z1⟩
                  refine wp_region_held_drew (S := fun w' => w'.cell? ⟨gu, 0, none⟩ = some (.bool true) ∧ w'.cell? ⟨gu, 1, none⟩ = some (.string (ba T))) (by kernel_rfl) hS0 (fun hHeld => ?_)
                  refine wpAnyH_take (i := 0) (v := ?_) rfl (by kernel_rfl) (by kernel_rfl) (by kernel_rfl) (fun _ _ _ h => h) (Or.inl ⟨by rfl, ?_⟩) (by assumption) ?_
                  rotate_left 1
                  · intro wq hSw
                    (try dsimp only at hSw)
                    go_simp
                    all_goals (with_reducible rfl)
                  (try simp only [Act.put, List.setIfInBounds_toArray, List.set_cons_zero, List.set_cons_succ, List.getElem_toArray, List.getElem_cons_zero, List.getElem_cons_succ])
                  refine wpAnyH_take (i := 3) (v := ?_) rfl (by kernel_rfl) (by kernel_rfl) (by kernel_rfl) (fun _ _ _ h => h) (Or.inl ⟨by rfl, ?_⟩) (by assumption) ?_
                  rotate_left 1
                  · intro wq hSw
                    (try dsimp only at hSw)
                    go_simp
                    all_goals (with_reducible rfl)
                  (try simp only [Act.put, List.setIfInBounds_toArray, List.set_cons_zero, List.set_cons_succ, List.getElem_toArray, List.getElem_cons_zero, List.getElem_cons_succ])
                  refine wpAnyH_ready (rs := [1]) (by kernel_rfl) (by simp) ?_
                  refine AllReadyH.cons rfl (fun K hK => ?_) AllReadyH.nil
                  go_simp
                  go_at_call 11
                  go_loud (refine (HBy.out _ (HJ.out.below (Below.drewN' (Below.refl _ wr) 1)).v).mono ?_)
                  rintro e5 w5 ⟨v5, rfl, ho5, hb5⟩
                  obtain ⟨a5, c5, rfl⟩ := ho5.form
                  have cv5 := ho5.bytA.conv w5 (Below.refl _ _)
                  rw [HBL.out, HBS.out] at cv5
                  rw [HBL.out]
                  have HM5 := Lib.hid ((HJ.out.below (Below.drewN' (Below.refl _ wr) 1)).below hb5)
                  have hS5 : (fun w' : World => w'.cell? ⟨gu, 0, none⟩ = some (.bool true) ∧ w'.cell? ⟨gu, 1, none⟩ = some (.string (ba T))) w5 := ⟨(HZ.out _ HM5.out).1, (HZ.out _ HM5.out).2⟩
                  refine hK.out _ _ hS5 (fun _ => ?_)
                  clear hK K hHeld ho5 hb5
                  refine wpAnyH_strong (S2 := fun w' => ((convert 30 9 (.slice a5 BL c5)).run Tryd.prog w' = .ok (.string BS) w') ∧ (w'.cell? ⟨gu, 0, none⟩ = some (.bool true) ∧ w'.cell? ⟨gu, 1, none⟩ = some (.string (ba T)))) (fun w h => h.2) ?_
                  have hHeld := And.intro cv5 hS5
                  clear cv5
                  (try simp only [Act.put, List.setIfInBounds_toArray, List.set_cons_zero, List.set_cons_succ, List.getElem_toArray, List.getElem_cons_zero, List.getElem_cons_succ])
                  refine wpAnyH_take (i := 2) (v := ?_) rfl (by kernel_rfl) (by kernel_rfl) (by kernel_rfl) (fun _ _ _ h => h) (Or.inl ⟨by rfl, ?_⟩) (by assumption) ?_
                  rotate_left 1
                  · intro wq hSw
                    (try dsimp only at hSw)
                    go_simp
                    all_goals (with_reducible rfl)
                  (try simp only [Act.put, List.setIfInBounds_toArray, List.set_cons_zero, List.set_cons_succ, List.getElem_toArray, List.getElem_cons_zero, List.getElem_cons_succ])
                  refine wpAnyH_take (i := 4) (v := ?_) rfl (by kernel_rfl) (by kernel_rfl) (by kernel_rfl) (fun _ _ _ h => h) (Or.inl ⟨by rfl, ?_⟩) (by assumption) ?_
                  rotate_left 1
                  · intro wq hSw
                    (try dsimp only at hSw)
                    go_simp
                    all_goals (with_reducible rfl)
                  (try simp only [Act.put, List.setIfInBounds_toArray, List.set_cons_zero, List.set_cons_succ, List.getElem_toArray, List.getElem_cons_zero, List.getElem_cons_succ])
                  refine wpAnyH_take (i := 5) (v := ?_) rfl (by kernel_rfl) (by kernel_rfl) (by kernel_rfl) (fun _ _ _ h => h) (Or.inl ⟨by rfl, ?_⟩) (by assumption) ?_
                  rotate_left 1
                  · intro wq hSw
                    (try dsimp only at hSw)
                    go_simp
                    all_goals (with_reducible rfl)
                  (try simp only [Act.put, List.setIfInBounds_toArray, List.set_cons_zero, List.set_cons_succ, List.getElem_toArray, List.getElem_cons_zero, List.getElem_cons_succ])
                  refine wpAnyH_take (i := 6) (v := ?_) rfl (by kernel_rfl) (by kernel_rfl) (by kernel_rfl) (fun _ _ _ h => h) (Or.inl ⟨by rfl, ?_⟩) (by assumption) ?_
                  rotate_left 1
                  · intro wq hSw
                    (try dsimp only at hSw)
                    go_simp
                    all_goals (with_reducible rfl)
                  (try simp only [Act.put, List.setIfInBounds_toArray, List.set_cons_zero, List.set_cons_succ, List.getElem_toArray, List.getElem_cons_zero, List.getElem_cons_succ])
                  refine wpAnyH_take (i := 7) (v := ?_) rfl (by kernel_rfl) (by kernel_rfl) (by kernel_rfl) (fun _ _ _ h => h) (Or.inl ⟨by rfl, ?_⟩) (by assumption) ?_
                  rotate_left 1
                  · intro wq hSw
                    (try dsimp only at hSw)
                    go_simp
                    all_goals (with_reducible rfl)
                  (try simp only [Act.put, List.setIfInBounds_toArray, List.set_cons_zero, List.set_cons_succ, List.getElem_toArray, List.getElem_cons_zero, List.getElem_cons_succ])
                  refine wpAnyH_take (i := 8) (v := ?_) rfl (by kernel_rfl) (by kernel_rfl) (by kernel_rfl) (fun _ _ _ h => h) (Or.inl ⟨by rfl, ?_⟩) (by assumption) ?_
                  rotate_left 1
                  · intro wq hSw
                    (try dsimp only at hSw)
                    go_simp
                    all_goals (with_reducible rfl)
                  (try simp only [Act.put, List.setIfInBounds_toArray, List.set_cons_zero, List.set_cons_succ, List.getElem_toArray, List.getElem_cons_zero, List.getElem_cons_succ])
                  refine wpAnyH_take (i := 9) (v := ?_) rfl (by kernel_rfl) (by kernel_rfl) (by kernel_rfl) (fun _ _ _ h => h) (Or.inl ⟨by rfl, ?_⟩) (by assumption) ?_
                  rotate_left 1
                  · intro wq hSw
                    (try dsimp only at hSw)
                    go_simp
                    all_goals (with_reducible rfl)
                  (try simp only [Act.put, List.setIfInBounds_toArray, List.set_cons_zero, List.set_cons_succ, List.getElem_toArray, List.getElem_cons_zero, List.getElem_cons_succ])
                  refine wpAnyH_take (i := 10) (v := ?_) rfl (by kernel_rfl) (by kernel_rfl) (by kernel_rfl) (fun _ _ _ h => h) (Or.inl ⟨by rfl, ?_⟩) (by assumption) ?_
                  rotate_left 1
                  · intro wq hSw
                    (try dsimp only at hSw)
                    go_simp
                    all_goals (with_reducible rfl)
                  (try simp only [Act.put, List.setIfInBounds_toArray, List.set_cons_zero, List.set_cons_succ, List.getElem_toArray, List.getElem_cons_zero, List.getElem_cons_succ])
                  refine wpAnyH_take (i := 11) (v := ?_) rfl (by kernel_rfl) (by kernel_rfl) (by kernel_rfl) (fun _ _ _ h => h) (Or.inl ⟨by rfl, ?_⟩) (by assumption) ?_
                  rotate_left 1
                  · intro wq hSw
                    (try dsimp only at hSw)
                    go_simp
                    all_goals (with_reducible rfl)
                  (try simp only [Act.put, List.setIfInBounds_toArray, List.set_cons_zero, List.set_cons_succ, List.getElem_toArray, List.getElem_cons_zero, List.getElem_cons_succ])
                  refine wpAnyH_take (i := 12) (v := ?_) rfl (by kernel_rfl) (by kernel_rfl) (by kernel_rfl) (fun _ _ _ h => h) (Or.inl ⟨by rfl, ?_⟩) (by assumption) ?_
                  rotate_left 1
                  · intro wq hSw
                    (try dsimp only at hSw)
                    go_simp
                    all_goals (with_reducible rfl)
                  (try simp only [Act.put, List.setIfInBounds_toArray, List.set_cons_zero, List.set_cons_succ, List.getElem_toArray, List.getElem_cons_zero, List.getElem_cons_succ])
                  refine wpAnyH_take (i := 13) (v := ?_) rfl (by kernel_rfl) (by kernel_rfl) (by kernel_rfl) (fun _ _ _ h => h) (Or.inl ⟨by rfl, ?_⟩) (by assumption) ?_
                  rotate_left 1
                  · intro wq hSw
                    (try dsimp only at hSw)
                    go_simp
                    all_goals (with_reducible rfl)
                  (try simp only [Act.put, List.setIfInBounds_toArray, List.set_cons_zero, List.set_cons_succ, List.getElem_toArray, List.getElem_cons_zero, List.getElem_cons_succ])
                  refine wpAnyH_take (i := 14) (v := ?_) rfl (by kernel_rfl) (by kernel_rfl) (by kernel_rfl) (fun _ _ _ h => h) (Or.inl ⟨by rfl, ?_⟩) (by assumption) ?_
                  rotate_left 1
                  · intro wq hSw
                    (try dsimp only at hSw)
                    go_simp
                    all_goals (with_reducible rfl)
                  (try simp only [Act.put, List.setIfInBounds_toArray, List.set_cons_zero, List.set_cons_succ, List.getElem_toArray, List.getElem_cons_zero, List.getElem_cons_succ])
                  refine wpAnyH_take (i := 15) (v := ?_) rfl (by kernel_rfl) (by kernel_rfl) (by kernel_rfl) (fun _ _ _ h => h) (Or.inl ⟨by rfl, ?_⟩) (by assumption) ?_
                  rotate_left 1
                  · intro wq hSw
                    (try dsimp only at hSw)
                    go_simp
                    all_goals (with_reducible rfl)
                  (try simp only [Act.put, List.setIfInBounds_toArray, List.set_cons_zero, List.set_cons_succ, List.getElem_toArray, List.getElem_cons_zero, List.getElem_cons_succ])
                  refine wpAnyH_take (i := 16) (v := ?_) rfl (by kernel_rfl) (by kernel_rfl) (by kernel_rfl) (fun _ _ _ h => h) (Or.inl ⟨by rfl, ?_⟩) (by assumption) ?_
                  rotate_left 1
                  · intro wq hSw
                    (try dsimp only at hSw)
                    go_simp
                    all_goals (with_reducible rfl)
                  (try simp only [Act.put, List.setIfInBounds_toArray, List.set_cons_zero, List.set_cons_succ, List.getElem_toArray, List.getElem_cons_zero, List.getElem_cons_succ])
                  refine wpAnyH_take (i := 18) (v := ?_) rfl (by kernel_rfl) (by kernel_rfl) (by kernel_rfl) (fun _ _ _ h => h) (Or.inl ⟨by rfl, ?_⟩) (by assumption) ?_
                  rotate_left 1
                  · intro wq hSw
                    (try dsimp only at hSw)
                    go_simp
                    all_goals (with_reducible rfl)
                  (try simp only [Act.put, List.setIfInBounds_toArray, List.set_cons_zero, List.set_cons_succ, List.getElem_toArray, List.getElem_cons_zero, List.getElem_cons_succ])
                  refine wpAnyH_take (i := 19) (v := ?_) rfl (by kernel_rfl) (by kernel_rfl) (by kernel_rfl) (fun _ _ _ h => h) (Or.inl ⟨by rfl, ?_⟩) (by assumption) ?_
                  rotate_left 1
                  · intro wq hSw
                    (try dsimp only at hSw)
                    go_simp
                    all_goals (with_reducible rfl)
                  (try simp only [Act.put, List.setIfInBounds_toArray, List.set_cons_zero, List.set_cons_succ, List.getElem_toArray, List.getElem_cons_zero, List.getElem_cons_succ])
                  refine wpAnyH_take (i := 20) (v := ?_) rfl (by kernel_rfl) (by kernel_rfl) (by kernel_rfl) (fun _ _ _ h => h) (Or.inl ⟨by rfl, ?_⟩) (by assumption) ?_
                  rotate_left 1
                  · intro wq hSw
                    (try dsimp only at hSw)
                    go_simp
                    all_goals (with_reducible rfl)
                  (try simp only [Act.put, List.setIfInBounds_toArray, List.set_cons_zero, List.set_cons_succ, List.getElem_toArray, List.getElem_cons_zero, List.getElem_cons_succ])
                  refine wpAnyH_take (i := 21) (v := ?_) rfl (by kernel_rfl) (by kernel_rfl) (by kernel_rfl) (fun _ _ _ h => h) (Or.inl ⟨by rfl, ?_⟩) (by assumption) ?_
                  rotate_left 1
                  · intro wq hSw
                    (try dsimp only at hSw)
                    go_simp
                    all_goals (with_reducible rfl)
                  (try simp only [Act.put, List.setIfInBounds_toArray, List.set_cons_zero, List.set_cons_succ, List.getElem_toArray, List.getElem_cons_zero, List.getElem_cons_succ])
                  refine wpAnyH_ready (rs := [17]) (by kernel_rfl) (by simp) ?_
                  refine AllReadyH.cons rfl (fun K hK => ?_) AllReadyH.nil
                  go_simp
                  go_at_call 12
                  go_loud (refine (first20_any _ _ _ T _ _ (by have := HM5.out.v; rw [HHd.out] at this; exact this)).mono ?_)
                  rintro e6 w6 ⟨rfl, rfl⟩
                  refine hK.out _ _ hHeld (fun _ => ?_)
                  clear hK K
                  (try simp only [Act.put, List.setIfInBounds_toArray, List.set_cons_zero, List.set_cons_succ, List.getElem_toArray, List.getElem_cons_zero, List.getElem_cons_succ])
                  refine wpAnyH_take (i := 22) (v := ?_) rfl (by kernel_rfl) (by kernel_rfl) (by kernel_rfl) (fun _ _ _ h => h) (Or.inl ⟨by rfl, ?_⟩) (by assumption) ?_
                  rotate_left 1
                  · intro wq hSw
                    (try dsimp only at hSw)
                    go_simp
                    all_goals (with_reducible rfl)
                  (try simp only [Act.put, List.setIfInBounds_toArray, List.set_cons_zero, List.set_cons_succ, List.getElem_toArray, List.getElem_cons_zero, List.getElem_cons_succ])
                  refine wpAnyH_take (i := 23) (v := ?_) rfl (by kernel_rfl) (by kernel_rfl) (by kernel_rfl) (fun _ _ _ h => h) (Or.inl ⟨by rfl, ?_⟩) (by assumption) ?_
                  rotate_left 1
                  · intro wq hSw
                    (try dsimp only at hSw)
                    go_simp
                    all_goals (with_reducible rfl)
                  (try simp only [Act.put, List.setIfInBounds_toArray, List.set_cons_zero, List.set_cons_succ, List.getElem_toArray, List.getElem_cons_zero, List.getElem_cons_succ])
                  refine wpAnyH_take (i := 24) (v := ?_) rfl (by kernel_rfl) (by kernel_rfl) (by kernel_rfl) (fun _ _ _ h => h) (Or.inl ⟨by rfl, ?_⟩) (by assumption) ?_
                  rotate_left 1
                  · intro wq hSw
                    (try dsimp only at hSw)
                    go_simp
                    all_goals (with_reducible rfl)
                  (try simp only [Act.put, List.setIfInBounds_toArray, List.set_cons_zero, List.set_cons_succ, List.getElem_toArray, List.getElem_cons_zero, List.getElem_cons_succ])
                  refine wpAnyH_done (by kernel_rfl) ?_ _
                  clear hHeld
                  go_wp2
                  go_roundw
                  case rel => exact ⟨k + 1, q.s, vB3, by go_num, by omega, ⟨HM5.out.p, HM5.out.r, ⟨by have := HOk2.out.n; omega, HOk2.out.d, HOk2.out.b⟩, HEe.out, HM5.out.b, H.out.hg, H.out.hr⟩⟩
                  case measure => simp [intOf] <;> omega
                | snd s =>
                  have HZ : RowKit.Hid (∀ W, WpMid w g gr bs q xs3 v2 (.slice (some ⟨gu, 0, none⟩) j uc) u2 vB3 W → W.cell? ⟨gu, 0, none⟩ = some (.bool false)) := by
                    intro W hW
                    obtain ⟨⟨p', a2, c2⟩, h1, h2⟩ := hpz W hW
                    simp only at h1
                    subst h1
                    exact h2 0 (by omega)
                  have z0 := HZ.out _ HJ.out
                  clear hpi hhd hpz
                  go_wp2
                  have hS0 : (fun w' : World => w'.cell? ⟨gu, 0, none⟩ = some (.bool false)) wr.drew := z0
                  refine wp_region_held_drew (S := fun w' => w'.cell? ⟨gu, 0, none⟩ = some (.bool false)) (by kernel_rfl) hS0 (fun hHeld => ?_)
                  refine wpAnyH_take (i := 0) (v := ?_) rfl (by kernel_rfl) (by kernel_rfl) (by kernel_rfl) (fun _ _ _ h => h) (Or.inl ⟨by rfl, ?_⟩) (by assumption) ?_
                  rotate_left 1
                  · intro wq hSw
                    (try dsimp only at hSw)
                    go_simp
                    all_goals (with_reducible rfl)
                  (try simp only [Act.put, List.setIfInBounds_toArray, List.set_cons_zero, List.set_cons_succ, List.getElem_toArray, List.getElem_cons_zero, List.getElem_cons_succ])
                  refine wpAnyH_take (i := 3) (v := ?_) rfl (by kernel_rfl) (by kernel_rfl) (by kernel_rfl) (fun _ _ _ h => h) (Or.inl ⟨by rfl, ?_⟩) (by assumption) ?_
                  rotate_left 1
                  · intro wq hSw
                    (try dsimp only at hSw)
                    go_simp
                    all_goals (with_reducible rfl)
                  (try simp only [Act.put, List.setIfInBounds_toArray, List.set_cons_zero, List.set_cons_succ, List.getElem_toArray, List.getElem_cons_zero, List.getElem_cons_succ])
                  refine wpAnyH_ready (rs := [1]) (by kernel_rfl) (by simp) ?_
                  refine AllReadyH.cons rfl (fun K hK => ?_) AllReadyH.nil
                  go_simp
                  go_at_call 11
                  go_loud (refine (HBy.out _ (HJ.out.below (Below.drewN' (Below.refl _ wr) 1)).v).mono ?_)
                  rintro e5 w5 ⟨v5, rfl, ho5, hb5⟩
                  obtain ⟨a5, c5, rfl⟩ := ho5.form
                  have cv5 := ho5.bytA.conv w5 (Below.refl _ _)
                  rw [HBL.out, HBS.out] at cv5
                  rw [HBL.out]
                  have HM5 := Lib.hid ((HJ.out.below (Below.drewN' (Below.refl _ wr) 1)).below hb5)
                  have hS5 : (fun w' : World => w'.cell? ⟨gu, 0, none⟩ = some (.bool false)) w5 := HZ.out _ HM5.out
                  refine hK.out _ _ hS5 (fun _ => ?_)
                  clear hK K hHeld ho5 hb5
                  refine wpAnyH_strong (S2 := fun w' => ((convert 30 9 (.slice a5 BL c5)).run Tryd.prog w' = .ok (.string BS) w') ∧ (w'.cell? ⟨gu, 0, none⟩ = some (.bool false))) (fun w h => h.2) ?_
                  have hHeld := And.intro cv5 hS5
                  clear cv5
                  (try simp only [Act.put, List.setIfInBounds_toArray, List.set_cons_zero, List.set_cons_succ, List.getElem_toArray, List.getElem_cons_zero, List.getElem_cons_succ])
                  refine wpAnyH_take (i := 2) (v := ?_) rfl (by kernel_rfl) (by kernel_rfl) (by kernel_rfl) (fun _ _ _ h => h) (Or.inl ⟨by rfl, ?_⟩) (by assumption) ?_
                  rotate_left 1
                  · intro wq hSw
                    (try dsimp only at hSw)
                    go_simp
                    all_goals (with_reducible rfl)
                  (try simp only [Act.put, List.setIfInBounds_toArray, List.set_cons_zero, List.set_cons_succ, List.getElem_toArray, List.getElem_cons_zero, List.getElem_cons_succ])
                  refine wpAnyH_take (i := 4) (v := ?_) rfl (by kernel_rfl) (by kernel_rfl) (by kernel_rfl) (fun _ _ _ h => h) (Or.inl ⟨by rfl, ?_⟩) (by assumption) ?_
                  rotate_left 1
                  · intro wq hSw
                    (try dsimp only at hSw)
                    go_simp
                    all_goals (with_reducible rfl)
                  (try simp only [Act.put, List.setIfInBounds_toArray, List.set_cons_zero, List.set_cons_succ, List.getElem_toArray, List.getElem_cons_zero, List.getElem_cons_succ])
                  refine wpAnyH_take (i := 5) (v := ?_) rfl (by kernel_rfl) (by kernel_rfl) (by kernel_rfl) (fun _ _ _ h => h) (Or.inl ⟨by rfl, ?_⟩) (by assumption) ?_
                  rotate_left 1
                  · intro wq hSw
                    (try dsimp only at hSw)
                    go_simp
                    all_goals (with_reducible rfl)
                  (try simp only [Act.put, List.setIfInBounds_toArray, List.set_cons_zero, List.set_cons_succ, List.getElem_toArray, List.getElem_cons_zero, List.getElem_cons_succ])
                  refine wpAnyH_take (i := 6) (v := ?_) rfl (by kernel_rfl) (by kernel_rfl) (by kernel_rfl) (fun _ _ _ h => h) (Or.inl ⟨by rfl, ?_⟩) (by assumption) ?_
                  rotate_left 1
                  · intro wq hSw
                    (try dsimp only at hSw)
                    go_simp
                    all_goals (with_reducible rfl)
                  (try simp only [Act.put, List.setIfInBounds_toArray, List.set_cons_zero, List.set_cons_succ, List.getElem_toArray, List.getElem_cons_zero, List.getElem_cons_succ])
                  refine wpAnyH_take (i := 7) (v := ?_) rfl (by kernel_rfl) (by kernel_rfl) (by kernel_rfl) (fun _ _ _ h => h) (Or.inl ⟨by rfl, ?_⟩) (by assumption) ?_
                  rotate_left 1
                  · intro wq hSw
                    (try dsimp only at hSw)
                    go_simp
                    all_goals (with_reducible rfl)
                  (try simp only [Act.put, List.setIfInBounds_toArray, List.set_cons_zero, List.set_cons_succ, List.getElem_toArray, List.getElem_cons_zero, List.getElem_cons_succ])
                  refine wpAnyH_take (i := 8) (v := ?_) rfl (by kernel_rfl) (by kernel_rfl) (by kernel_rfl) (fun _ _ _ h => h) (Or.inl ⟨by rfl, ?_⟩) (by assumption) ?_
                  rotate_left 1
                  · intro wq hSw
                    (try dsimp only at hSw)
                    go_simp
                    all_goals (with_reducible rfl)
                  (try simp only [Act.put, List.setIfInBounds_toArray, List.set_cons_zero, List.set_cons_succ, List.getElem_toArray, List.getElem_cons_zero, List.getElem_cons_succ])
                  refine wpAnyH_take (i := 9) (v := ?_) rfl (by kernel_rfl) (by kernel_rfl) (by kernel_rfl) (fun _ _ _ h => h) (Or.inl ⟨by rfl, ?_⟩) (by assumption) ?_
                  rotate_left 1
                  · intro wq hSw
                    (try dsimp only at hSw)
                    go_simp
                    all_goals (with_reducible rfl)
                  (try simp only [Act.put, List.setIfInBounds_toArray, List.set_cons_zero, List.set_cons_succ, List.getElem_toArray, List.getElem_cons_zero, List.getElem_cons_succ])
                  refine wpAnyH_take (i := 10) (v := ?_) rfl (by kernel_rfl) (by kernel_rfl) (by kernel_rfl) (fun _ _ _ h => h) (Or.inl ⟨by rfl, ?_⟩) (by assumption) ?_
                  rotate_left 1
                  · intro wq hSw
                    (try dsimp only at hSw)
                    go_simp
                    all_goals (with_reducible rfl)
                  (try simp only [Act.put, List.setIfInBounds_toArray, List.set_cons_zero, List.set_cons_succ, List.getElem_toArray, List.getElem_cons_zero, List.getElem_cons_succ])
                  refine wpAnyH_take (i := 11) (v := ?_) rfl (by kernel_rfl) (by kernel_rfl) (by kernel_rfl) (fun _ _ _ h => h) (Or.inl ⟨by rfl, ?_⟩) (by assumption) ?_
                  rotate_left 1
                  · intro wq hSw
                    (try dsimp only at hSw)
                    go_simp
                    all_goals (with_reducible rfl)
                  (try simp only [Act.put, List.setIfInBounds_toArray, List.set_cons_zero, List.set_cons_succ, List.getElem_toArray, List.getElem_cons_zero, List.getElem_cons_succ])
                  refine wpAnyH_take (i := 12) (v := ?_) rfl (by kernel_rfl) (by kernel_rfl) (by kernel_rfl) (fun _ _ _ h => h) (Or.inl ⟨by rfl, ?_⟩) (by assumption) ?_
                  rotate_left 1
                  · intro wq hSw
                    (try dsimp only at hSw)
                    go_simp
                    all_goals (with_reducible rfl)
                  (try simp only [Act.put, List.setIfInBounds_toArray, List.set_cons_zero, List.set_cons_succ, List.getElem_toArray, List.getElem_cons_zero, List.getElem_cons_succ])
                  refine wpAnyH_take (i := 13) (v := ?_) rfl (by kernel_rfl) (by kernel_rfl) (by kernel_rfl) (fun _ _ _ h => h) (Or.inl ⟨by rfl, ?_⟩) (by assumption) ?_
                  rotate_left 1
                  · intro wq hSw
                    (try dsimp only at hSw)
                    go_simp
                    all_goals (with_reducible rfl)
                  (try simp only [Act.put, List.setIfInBounds_toArray, List.set_cons_zero, List.set_cons_succ, List.getElem_toArray, List.getElem_cons_zero, List.getElem_cons_succ])
                  refine wpAnyH_take (i := 14) (v := ?_) rfl (by kernel_rfl) (by kernel_rfl) (by kernel_rfl) (fun _ _ _ h => h) (Or.inl ⟨by rfl, ?_⟩) (by assumption) ?_
                  rotate_left 1
                  · intro wq hSw
                    (try dsimp only at hSw)
                    go_simp
                    all_goals (with_reducible rfl)
                  (try simp only [Act.put, List.setIfInBounds_toArray, List.set_cons_zero, List.set_cons_succ, List.getElem_toArray, List.getElem_cons_zero, List.getElem_cons_succ])
                  refine wpAnyH_take (i := 15) (v := ?_) rfl (by kernel_rfl) (by kernel_rfl) (by kernel_rfl) (fun _ _ _ h => h) (Or.inl ⟨by rfl, ?_⟩) (by assumption) ?_
                  rotate_left 1
                  · intro wq hSw
                    (try dsimp only at hSw)
                    go_simp
                    all_goals (with_reducible rfl)
                  (try simp only [Act.put, List.setIfInBounds_toArray, List.set_cons_zero, List.set_cons_succ, List.getElem_toArray, List.getElem_cons_zero, List.getElem_cons_succ])
                  refine wpAnyH_take (i := 16) (v := undef) rfl (by kernel_rfl) (by kernel_rfl) (by kernel_rfl) (fun _ _ _ h => h) (Or.inr ⟨by rfl, rfl⟩) (by assumption) ?_
                  (try simp only [Act.put, List.setIfInBounds_toArray, List.set_cons_zero, List.set_cons_succ, List.getElem_toArray, List.getElem_cons_zero, List.getElem_cons_succ])
                  refine wpAnyH_take (i := 17) (v := undef) rfl (by kernel_rfl) (by kernel_rfl) (by kernel_rfl) (fun _ _ _ h => h) (Or.inr ⟨by rfl, rfl⟩) (by assumption) ?_
                  (try simp only [Act.put, List.setIfInBounds_toArray, List.set_cons_zero, List.set_cons_succ, List.getElem_toArray, List.getElem_cons_zero, List.getElem_cons_succ])
                  refine wpAnyH_take (i := 18) (v := undef) rfl (by kernel_rfl) (by kernel_rfl) (by kernel_rfl) (fun _ _ _ h => h) (Or.inr ⟨by rfl, rfl⟩) (by assumption) ?_
                  (try simp only [Act.put, List.setIfInBounds_toArray, List.set_cons_zero, List.set_cons_succ, List.getElem_toArray, List.getElem_cons_zero, List.getElem_cons_succ])
                  refine wpAnyH_take (i := 19) (v := undef) rfl (by kernel_rfl) (by kernel_rfl) (by kernel_rfl) (fun _ _ _ h => h) (Or.inr ⟨by rfl, rfl⟩) (by assumption) ?_
                  (try simp only [Act.put, List.setIfInBounds_toArray, List.set_cons_zero, List.set_cons_succ, List.getElem_toArray, List.getElem_cons_zero, List.getElem_cons_succ])
                  refine wpAnyH_take (i := 20) (v := undef) rfl (by kernel_rfl) (by kernel_rfl) (by kernel_rfl) (fun _ _ _ h => h) (Or.inr ⟨by rfl, rfl⟩) (by assumption) ?_
                  (try simp only [Act.put, List.setIfInBounds_toArray, List.set_cons_zero, List.set_cons_succ, List.getElem_toArray, List.getElem_cons_zero, List.getElem_cons_succ])
                  refine wpAnyH_take (i := 21) (v := undef) rfl (by kernel_rfl) (by kernel_rfl) (by kernel_rfl) (fun _ _ _ h => h) (Or.inr ⟨by rfl, rfl⟩) (by assumption) ?_
                  (try simp only [Act.put, List.setIfInBounds_toArray, List.set_cons_zero, List.set_cons_succ, List.getElem_toArray, List.getElem_cons_zero, List.getElem_cons_succ])
                  refine wpAnyH_take (i := 22) (v := undef) rfl (by kernel_rfl) (by kernel_rfl) (by kernel_rfl) (fun _ _ _ h => h) (Or.inr ⟨by rfl, rfl⟩) (by assumption) ?_
                  (try simp only [Act.put, List.setIfInBounds_toArray, List.set_cons_zero, List.set_cons_succ, List.getElem_toArray, List.getElem_cons_zero, List.getElem_cons_succ])
                  refine wpAnyH_take (i := 23) (v := ?_) rfl (by kernel_rfl) (by kernel_rfl) (by kernel_rfl) (fun _ _ _ h => h) (Or.inl ⟨by rfl, ?_⟩) (by assumption) ?_
                  rotate_left 1
                  · intro wq hSw
                    (try dsimp only at hSw)
                    go_simp
                    all_goals (with_reducible rfl)
                  (try simp only [Act.put, List.setIfInBounds_toArray, List.set_cons_zero, List.set_cons_succ, List.getElem_toArray, List.getElem_cons_zero, List.getElem_cons_succ])
                  refine wpAnyH_take (i := 24) (v := ?_) rfl (by kernel_rfl) (by kernel_rfl) (by kernel_rfl) (fun _ _ _ h => h) (Or.inl ⟨by rfl, ?_⟩) (by assumption) ?_
                  rotate_left 1
                  · intro wq hSw
                    (try dsimp only at hSw)
                    go_simp
                    all_goals (with_reducible rfl)
                  (try simp only [Act.put, List.setIfInBounds_toArray, List.set_cons_zero, List.set_cons_succ, List.getElem_toArray, List.getElem_cons_zero, List.getElem_cons_succ])
                  refine wpAnyH_done (by kernel_rfl) ?_ _
                  clear hHeld
                  go_wp2
                  go_roundw
                  case rel => exact ⟨k + 1, q.s, vB3, by go_num, by omega, ⟨HM5.out.p, HM5.out.r, ⟨by have := HOk2.out.n; omega, HOk2.out.d, HOk2.out.b⟩, HEe.out, HM5.out.b, H.out.hg, H.out.hr⟩⟩
                  case measure => simp [intOf] <;> omega
      · have q6 : (600 : Int) < (xl : Int) := by omega
        go_wp2
        go_ret
        exact ⟨rfl, H.out.b⟩
    · obtain rfl : k = len := by omega
      go_wp2
      go_ret
      exact ⟨rfl, H.out.b⟩
end Go.Proofs.YtebfjmjdcbeekaaDoor
