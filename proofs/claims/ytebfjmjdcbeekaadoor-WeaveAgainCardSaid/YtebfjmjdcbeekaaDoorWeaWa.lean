/- The walk of WeaveAgain. -/
import Derived.Test.YtebfjmjdcbeekaaDoorWeaW
import Derived.Test.YtebfjmjdcbeekaaDoorWeaZ
namespace Go.Proofs.YtebfjmjdcbeekaaDoor
open Go Go.RowKit Go.PlainAid Go.Maps
set_option linter.unusedVariables false
set_option linter.unusedSimpArgs false

theorem every20c (n : Int) : ∃ E : Nat, wrap64 ((IntKind.u64.wrap n).tmod 70) = (E : Int) ∧ E < 70 := by
  have hs : 0 ≤ IntKind.u64.wrap n := by rw [show IntKind.u64.wrap n = n % 18446744073709551616 by simp [IntKind.wrap, IntKind.bits, IntKind.signed]]; omega
  have e : (IntKind.u64.wrap n).tmod 70 = IntKind.u64.wrap n % 70 := Int.tmod_eq_emod_of_nonneg hs
  have l0 := Int.emod_nonneg (IntKind.u64.wrap n) (b := 70) (by omega)
  have l1 := Int.emod_lt_of_pos (IntKind.u64.wrap n) (b := 70) (by omega)
  rw [e]
  generalize IntKind.u64.wrap n % 70 = z at l0 l1
  refine ⟨z.toNat, ?_, by omega⟩
  rw [IntWalk.wrap64_in _ (by omega)]
  omega
theorem titleF_none : titleF [] = [] := by decide +kernel
theorem p20_of {S : W20} {k : Nat} (h : S.Ok k) : (⟨S.e, S.n, []⟩ : P20).Ok k := ⟨h.n, fun he => Nat.le_of_lt (h.d he), fun h => absurd rfl h⟩
theorem TiAt.mono {w : World} {b n n' : Nat} {Ts : List (List UInt8)} (h : TiAt w b n Ts) (hn : n ≤ n') : TiAt w b n' Ts := by
  obtain ⟨D, hD, h2⟩ := h
  exact ⟨D, hD.mono hn, h2⟩
theorem PcsAt.keepsC {F : Nat → Prop} {w w' : World} {base : Nat} {X : Nat → Prop} {v : Value} {l : List Pc} (h : PcsAt w base X v l) (hk : Keeps F w w') (hF : ∀ j, F j → j < base) : PcsAt w' base X v l := by
  obtain ⟨xs, h1, h2, h3⟩ := h
  refine ⟨xs, h1, own_keeps h2 hk fun k hg hf => ?_, fun x hx => ?_⟩
  · have := hF k hf
    have := (own_typ19 h2 hg).2
    omega
  · have hx := h3 x hx
    obtain ⟨p, a, c⟩ := x
    cases p with
    | told T => trivial
    | snd s =>
      have hn : ∀ r off, a = some ⟨r, off, none⟩ → 0 < s.length → ¬ F r := fun r off e h0 hf => by
        have := (hx.2 r off e h0).2.1
        have := hF r hf
        omega
      exact ⟨hx.1.keeps hk hn, fun r off e h0 => ⟨(hx.2 r off e h0).1.keep (hk.block r (hx.2 r off e h0).1.lt (hn r off e h0)), (hx.2 r off e h0).2⟩⟩
theorem toldP_take {l : List Pc} {i : Nat} {p : Pc} (h : l[i]? = some p) : toldP (l.take (i + 1)) = toldP (l.take i) ++ toldP [p] := by
  rw [List.take_add_one, toldP_app, h]
  rfl
theorem toldP_mem {l : List Pc} {i : Nat} {T : List UInt8} (h : l[i]? = some (.told T)) : T ∈ toldP l := by
  have e : l = l.take (i + 1) ++ l.drop (i + 1) := (List.take_append_drop _ _).symm
  rw [e, toldP_app, toldP_take h]
  simp [toldP]
theorem toldP_le (l : List Pc) (i : Nat) : (toldP (l.take i)).length ≤ (toldP l).length := by
  have e : toldP l = toldP (l.take i) ++ toldP (l.drop i) := by rw [← toldP_app, List.take_append_drop]
  rw [e, List.length_append]
  omega
/-- The numbers that the law keeps. -/
structure WaN (E k ct : Nat) (S : W20) (Ts : List (List UInt8)) (A : List UInt8) : Prop where
  ok : S.Ok (300 * k)
  e : S.e = E
  f : S.f = true → S.t ∈ Ts
  c : ct + (if S.f then 1 else 0) ≤ k
  z : E = 0 → ct = 0
  l : A.length ≤ 300 * k
/-- A title is told. -/
theorem WaN.tell {E k ct : Nat} {S : W20} {Ts : List (List UInt8)} {A : List UInt8} (h : WaN E k ct S Ts A) (s : List UInt8) : (S.tell s).Ok (300 * k) ∧ (S.tell s).e = E ∧ ((S.tell s).f = true → (S.tell s).t ∈ Ts ++ [titleF s]) ∧ ct + (if (S.tell s).f then 1 else 0) ≤ k + 1 := by
  refine ⟨h.ok.tell s, by rw [W20.tell_e]; exact h.e, ?_, ?_⟩
  · unfold W20.tell
    split
    · intro hf; exact List.mem_append_left _ (h.f hf)
    · intro _; simp
  · have := h.c
    unfold W20.tell
    split
    · omega
    · simp only [if_true]
      by_cases hf : S.f = true
      · rw [if_pos hf] at this; omega
      · rw [if_neg hf] at this; omega
theorem WaN.next {E k ct : Nat} {S1 : W20} {Ts1 : List (List UInt8)} {A d : List UInt8} (h1 : S1.Ok (300 * k)) (h2 : S1.e = E) (h3 : S1.f = true → S1.t ∈ Ts1) (h4 : ct + (if S1.f then 1 else 0) ≤ k + 1) (hz : E = 0 → ct = 0) (hl : A.length ≤ 300 * k) (hd : d.length ≤ 300) {q : Q20} (ha : Again S1 d q) : WaN E (k + 1) (ct + (toldP q.d).length) (S1.run d).2 Ts1 (A ++ d) := by
  have hn := ha.n
  refine ⟨(h1.run d).mono20 (by omega), by rw [W20.run_e]; exact h2, fun hf => ?_, ?_, fun he => ?_, by rw [List.length_append]; omega⟩
  · rw [W20.run_t]
    apply h3
    rw [if_pos hf] at hn
    by_cases hs : S1.f = true
    · exact hs
    · rw [if_neg hs] at hn; omega
  · omega
  · have : toldP q.d = [] := by
      cases ht : toldP q.d with
      | nil => rfl
      | cons T t =>
        have := (ha.t T (by rw [ht]; simp)).2.2
        omega
    rw [this, hz he]
    rfl
set_option maxRecDepth 100000 in
set_option maxHeartbeats 1000000 in
/-- Too much comes in. -/
theorem weaveAgain_out (n : Int) (a : Option Addr) (len cap : Nat) (A : Nat → Ac) (w : World) (h : AcsIn w a len A) (hf : ¬ acsFit len A) :
    Calls Tryd.prog 4 #[.int .i64 n, .slice a len cap] w fun e w' => e = .returned (.bool true) ∧ Below w.heap.size w w' := by
  have HF := Lib.hid (fitB_no hf)
  have HI := Lib.hid h
  clear h hf
  go_enter Tryd.func4, Tryd.ntmps4
  go_wp2_with (first
    | (go_at_call 13; go_loud (refine (fits20_any a len cap A _ (HI.out.below HB.out)).mono ?_); rintro e w3 ⟨rfl, hb⟩; rw [HF.out]; have HB3 := Lib.hid (chain HB.out hb); clear hb)
    | (go_at_call 6; refine (lives20_any _).mono ?_; rintro e w4 ⟨rfl, hb⟩; have HB4 := Lib.hid (chain HB3.out hb); clear hb)
    | (go_at_call 6; go_loud (refine (lives20_any _).mono ?_); rintro e w2 ⟨rfl, hb⟩; have HB := Lib.hid hb; clear hb)
    | fail)
  go_ret
  exact ⟨rfl, HB4.out⟩
set_option maxRecDepth 100000 in
set_option maxHeartbeats 8000000 in
theorem weaveAgain_in (n : Int) (a : Option Addr) (len cap : Nat) (A : Nat → Ac) (w : World) (h : AcsIn w a len A) (hf : acsFit len A) :
    Calls Tryd.prog 4 #[.int .i64 n, .slice a len cap] w fun e w' => e = .returned (.bool true) ∧ Below w.heap.size w w' := by
  have HF := Lib.hid (fitB_yes hf)
  have HI := Lib.hid h
  have HA := Lib.hid hf
  have hl40 : len ≤ 40 := hf.1
  clear h hf
  obtain ⟨E, hE, hE70⟩ := every20c n
  have hmm := @run_makeMap Tryd.prog
  go_enter Tryd.func4, Tryd.ntmps4
  go_wp2_with (first
    | (go_at_call 13; go_loud (refine (fits20_any a len cap A _ (HI.out.below HB.out)).mono ?_); rintro e w3 ⟨rfl, hb⟩; rw [HF.out]; have HB3 := Lib.hid (chain HB.out hb); clear hb)
    | (go_at_call 6; go_loud (refine (lives20_any _).mono ?_); rintro e w2 ⟨rfl, hb⟩; have HB := Lib.hid hb; clear hb)
    | (go_at_call 14; go_loud (refine (wvNew_ok E _ (by omega)).mono ?_); rintro e w4 ⟨g, rfl, hg, hgb, hb⟩; have HG := Lib.hid hg; have HGb := Lib.hid hgb; have HB4 := Lib.hid (chain HB3.out hb); clear hg hgb hb)
    | (go_at_call 7; go_loud (refine (prNew_at E _ (by omega)).mono ?_); rintro e w5 ⟨p, rfl, hp, hpb, hb⟩; have HP := Lib.hid hp; have HPb := Lib.hid hpb; have HG5 := Lib.hid (HG.out.below hb); have HB5 := Lib.hid (chain HB4.out hb); clear hp hpb hb)
    | fail)
  obtain ⟨bm, hbm⟩ : ∃ bm, w5.heap.size = bm := ⟨_, rfl⟩
  have H0 : RowKit.Hid (WaSt w g p bm ⟨E, 0, [], false⟩ ⟨E, 0, []⟩ 0 [] [] [] (.slice none 0 0) (.slice none 0 0) (w5.alloc (.map #[] 0)) ∧ WaN E 0 0 ⟨E, 0, [], false⟩ [] []) := by
    have hm := TiAt.new w5
    rw [hbm] at hm
    have h2 := HB3.out.size
    have h3 := HGb.out
    have h4 := HB4.out.size
    have h5 := HPb.out
    have h6 := HB5.out.size
    exact ⟨⟨HG5.out.below (Below.alloc_new _ _), HP.out.below (Below.alloc_new _ _), hm, World.ownsRow_nil _ _ _ _, World.ownsRow_nil _ _ _ _, fun j hj => by (cases hj), HB5.out.alloc HB5.out.size _, by omega, by omega, by omega⟩, ⟨⟨Nat.zero_le _, fun h => h, titleF_none, Nat.zero_le _⟩, rfl, fun h => by (cases h), Nat.le_refl _, fun _ => rfl, Nat.le_refl _⟩⟩
  rw [hbm]
  clear HB HB3 HB4 HG HGb HP HPb HG5 HB5 hbm
  go_loopw [10, 11, 13, 53] (fun v v2 z i wr => ∃ (k : Nat) (S : W20) (Ts : List (List UInt8)) (ct : Nat) (B : List UInt8) (u u2 : Value), u = v ∧ u2 = v2 ∧ z = .int .i64 (ct : Int) ∧ i = .int .i64 (k : Int) ∧ k ≤ len ∧ RowKit.Hid (WaSt w g p bm S ⟨S.e, S.n, []⟩ k Ts B B u u2 wr ∧ WaN E k ct S Ts B)) (fun _ _ _ i _ => len - (intOf i).toNat)
  case atStart => exact ⟨0, _, _, 0, _, _, _, rfl, rfl, rfl, rfl, by omega, H0.out⟩
  case round =>
    clear H0 hmm
    obtain ⟨k, S, Ts, ct, B, u, u2, rfl, rfl, rfl, rfl, hk, H⟩ := hrel
    by_cases hlt : k < len
    · rcases HI.out.2 with h0 | ⟨b, off, rfl, hAA⟩
      · omega
      obtain ⟨hA, hn, hs⟩ := hAA k hlt
      have hfit := HA.out.2 k hlt
      obtain ⟨x, hx⟩ : ∃ x, A k = x := ⟨_, rfl⟩
      rw [hx] at hA hn hs hfit
      have hAt := hA.below H.out.1.b
      obtain ⟨c0, c1, c2, _, _⟩ := hAt
      obtain ⟨tb, htb⟩ : ∃ tb, x.t = tb := ⟨_, rfl⟩
      rw [htb] at c0
      obtain ⟨qa, hqa⟩ : ∃ qa, wr.heap.size = qa := ⟨_, rfl⟩
      obtain ⟨W1, hW1⟩ : ∃ W1, wr.alloc (.cells #[.bool tb, .string x.s, .slice x.a x.n x.c] 52) = W1 := ⟨_, rfl⟩
      have hb1 : Below wr.heap.size wr W1 := by rw [← hW1]; exact Below.alloc_new _ _
      have HS1 := Lib.hid (H.out.1.below hb1)
      have HC1 : RowKit.Hid (AcSt w qa tb x W1) := by
        refine ⟨?_, (hA.d.below H.out.1.b).below hb1, fun r off e h0 => ?_⟩
        · rw [← hW1, ← hqa]; exact Cel.new _ _ _
        · obtain ⟨b2, off2, e2, hb2, _⟩ := hA.d.addr h0
          rw [e] at e2
          injection e2 with e2
          injection e2 with e2 _
          omega
      have HQa : RowKit.Hid (w.heap.size ≤ qa) := by show _ ≤ _; rw [← hqa]; exact H.out.1.b.size
      have HXf := Lib.hid hfit
      have HXl := Lib.hid hA.d.hl
      have HN := Lib.hid H.out.2
      have y0 : W1.cell? ⟨qa, 0, none⟩ = some (.bool tb) := HC1.out.c.cell 0
      have y1 : W1.cell? ⟨qa, 1, none⟩ = some (.string x.s) := HC1.out.c.cell 1
      have y2 : W1.cell? ⟨qa, 2, none⟩ = some (.slice x.a x.n x.c) := HC1.out.c.cell 2
      have hn3 := hfit.2
      have hs2 := hfit.1
      have HTy : RowKit.Hid (∀ W, AcSt w qa tb x W → Typ19 W qa 52) := fun W hW => hW.c.typ19
      clear hA hAA hx H htb hb1
      cases tb with
      | false =>
        have h1 : RowKit.Hid (S.Ok (300 * k) ∧ S.e = E ∧ (S.f = true → S.t ∈ Ts) ∧ ct + (if S.f then 1 else 0) ≤ k + 1) := ⟨HN.out.ok, HN.out.e, HN.out.f, by have := HN.out.c; omega⟩
        have HS : RowKit.Hid (WaSt w g p bm S ⟨S.e, S.n, []⟩ (k + 1) Ts B B u u2 W1) := { HS1.out with m := HS1.out.m.mono (by omega) }
        have HCc := HC1
        obtain ⟨ok1, e1, f1, cc1⟩ := h1.out
        have HOkS := Lib.hid ok1
        have HAg := Lib.hid (again20 S ok1 x.d)
        have HNx := Lib.hid (fun (q : Q20) (ha : Again S x.d q) => WaN.next ok1 e1 f1 cc1 HN.out.z HN.out.l (by have := HXl.out; omega) ha)
        have HOut := Lib.hid (W20.run_le ok1 x.d)
        obtain ⟨R, hR⟩ : ∃ R, S.run x.d = R := ⟨_, rfl⟩
        have HRe : RowKit.Hid (R.2.e = S.e) := by show _ = _; rw [← hR, W20.run_e]
        have hRl : R.1.length ≤ 24600 := by have := HOut.out; have := HXl.out; rw [hR] at *; omega
        have CW := Lib.hid (wvWeave_any g (300 * k) S x.a x.n x.c x.d _ HS.out.wv ok1 (by omega) HCc.out.d (by omega) (fun r off e h0 => by have := HCc.out.f r off e h0; have := HS.out.hg; omega))
        unfold WvPost at CW
        rw [hR] at CW HAg HNx
        obtain ⟨q, hq⟩ : ∃ q, (⟨S.e, S.n, []⟩ : P20).start.run R.1 = q := ⟨_, rfl⟩
        have hp20 := p20_of ok1
        have CP := Lib.hid (fun W a c (hp : PrAt W p ⟨S.e, S.n, []⟩) (hb : BytA W a R.1.length c R.1) (hr : ∀ r off, a = some ⟨r, off, none⟩ → 0 < R.1.length → r ≠ p) => part20_any p (300 * k) ⟨S.e, S.n, []⟩ a R.1.length c R.1 W hp hp20 (by omega) hb (by omega) hr)
        unfold PartPost at CP
        rw [hq] at CP HAg
        rw [HAg.out.ok] at CP
        have hqs := HAg.out.s
        rw [hR] at hqs
        rw [hqs] at CP
        have HNq := Lib.hid (HNx.out q HAg.out)
        have hsl : (soundP (joinP q.d q.c)).length ≤ 300 := by rw [HAg.out.b]; have := HXl.out; omega
        have hdl : (joinP q.d q.c).length ≤ 1000000 := by
          have h1 := Q20.run_d ⟨S.e, S.n, []⟩ R.1
          rw [hq] at h1
          have h2 := joinP_len q.d q.c
          have h3 : lastN q.c ≤ 1 := by unfold lastN; split <;> omega
          omega
        have HSo : RowKit.Hid (soundP (joinP q.d q.c) = x.d) := HAg.out.b
        have HTo : RowKit.Hid (∀ T ∈ toldP (joinP q.d q.c), T ∈ Ts ∧ titleF T = T ∧ T.length ≤ 60) := by
          intro T hT
          rw [toldP_join] at hT
          obtain ⟨k1, k2, k3⟩ := HAg.out.t T hT
          rw [k1]
          exact ⟨f1 k2, ok1.t, ok1.l⟩
        have HTl : RowKit.Hid (toldP (joinP q.d q.c) = toldP q.d) := toldP_join _ _
        have hBl2 := HN.out.l
        have HBd : RowKit.Hid (B.length + x.d.length ≤ 100000000) := by show _ ≤ _; have := HXl.out; omega
        clear ok1 e1 f1 cc1 hR hq hp20 hqs h1
        obtain ⟨M, hM⟩ : ∃ M, (joinP q.d q.c).length = M := ⟨_, rfl⟩
        have HMx := Lib.hid hM
        have hdM : M ≤ 1000000 := by omega
        clear hM
        go_wp2_with (first
          | (go_at_call 17; go_loud (refine CW.out.mono ?_); rintro e w5 ⟨v5, rfl, ho5, hw5, hk5⟩; obtain ⟨a5, c5, rfl⟩ := ho5.form; have HS5 := Lib.hid (HS.out.weaver hw5 hk5); have HC5 := Lib.hid (HCc.out.keeps hk5 (fun e => by have h9 := HTy.out _ HCc.out; rw [e] at h9; exact h9.ne HS.out.wv.typ (by decide) rfl) (fun j hj => by subst hj; exact HS.out.hg)); have HO5 := Lib.hid ho5; clear ho5 hw5 hk5)
          | (go_at_call 8; go_loud (refine (CP.out _ a5 c5 HS5.out.pr HO5.out.bytA (fun r off e h0 e2 => by subst e2; exact (own_typ19 HO5.out (g := r) (by rw [e]; rfl)).1.ne HS5.out.pr.typ (by decide) rfl)).mono ?_); rintro e w6 ⟨v6, rfl, hv6, hp6, hk6⟩; obtain ⟨ag, cg, rfl⟩ : ∃ a c, v6 = .slice a M c := (by obtain ⟨a, c, h⟩ := hv6.form; exact ⟨a, c, by rw [h, HMx.out]⟩); have HS6 := Lib.hid (HS5.out.parter hp6 hk6); have HC6 := Lib.hid (HC5.out.keeps hk6 (fun e => by have h9 := HTy.out _ HC5.out; rw [e] at h9; exact h9.ne HS5.out.pr.typ (by decide) rfl) (fun j hj => by subst hj; exact HS5.out.hp)); have HV6 := Lib.hid hv6; have z6 : w6.cell? ⟨qa, 2, none⟩ = some (.slice x.a x.n x.c) := HC6.out.c.cell 2; have hz6 : ∀ j, u.ownBlock = some j → j < w5.heap.size := (fun j hj => own_lt HS5.out.a j hj); have hz6h : ∀ j, u2.ownBlock = some j → j < w5.heap.size := (fun j hj => own_lt HS5.out.h j hj); have HZ6 := Lib.hid (And.intro hz6 hz6h); clear hv6 hp6 hk6 hz6 hz6h)
          | (at_builtin; have hx8 := HS8.out.h; go_loud (refine app_bytes rfl _ _ 30 Tryd.underlying30 rfl w.heap.size u2 B rfl HS8.out.h a8 x.d.length c8 x.d rfl HA8.out HBd.out HS8.out.b.size ?_); intro v9 w9 ho9 hg9 hv9; have HS9 := Lib.hid (HS8.out.heard ho9 hg9 hv9); have HV9 := Lib.hid (HV8.out.keepsC (Keeps.of_grown (F := fun j => u2.ownBlock = some j) hg9 fun k e => e) (fun j hj => HZ6.out.2 j hj)); obtain ⟨ah9, mh9, ch9, rfl, hmh⟩ := own_form_m ho9; obtain ⟨aa9, ma9, ca9, rfl, hma⟩ := own_form_m HS9.out.a; have cvh := HS9.out.h.bytA.conv w9 (Below.refl _ _); have cva := HS9.out.a.bytA.conv w9 (Below.refl _ _); clear ho9 hg9 hv9 hmh hma)
          | (at_builtin; go_loud (refine app_bytes rfl _ _ 30 Tryd.underlying30 rfl w.heap.size u B rfl HS6.out.a x.a x.n x.c x.d rfl HC6.out.d (by omega) HS6.out.b.size ?_); intro v7 w7 ho7 hg7 hv7; have HS7 := Lib.hid (HS6.out.all ho7 hg7 hv7); have HV7 := Lib.hid (HV6.out.keepsC (Keeps.of_grown (F := fun j => u.ownBlock = some j) hg7 fun k e => e) (fun j hj => HZ6.out.1 j hj)); clear ho7 hg7 hv7)
          | (go_at_call 11; go_loud (refine (bytes20_any _ _ _ _ _ HV7.out (by omega) hdl).mono ?_); rintro e w8 ⟨v8, rfl, ho8, hb8⟩; rw [HSo.out] at ho8; obtain ⟨a8, c8, rfl⟩ := ho8.form; have HA8 := Lib.hid ho8.bytA; have HS8 := Lib.hid (HS7.out.below hb8); have HV8 := Lib.hid (HV7.out.below hb8); clear ho8 hb8)
          | fail)
        obtain ⟨bs, hbs⟩ : ∃ bs, w5.heap.size = bs := ⟨_, rfl⟩
        rw [hbs] at HV9
        have H9 : RowKit.Hid (WaSt w g p bm R.2 ⟨S.e, R.2.n, []⟩ (k + 1) Ts (B ++ x.d) (B ++ x.d) (.slice aa9 ma9 ca9) (.slice ah9 mh9 ch9) w9 ∧ PcsAt w9 bs (fun _ => False) (.slice ag M cg) (joinP q.d q.c)) := ⟨HS9.out, HV9.out⟩
        clear HS5 HC5 HO5 HS6 HC6 HV6 HZ6 HS7 HV7 HS8 HV8 HA8 HS9 HV9 HS HCc HC1 CW CP hbs cvh cva
        go_loopw [13, 96] (fun z i wr => ∃ j : Nat, z = .int .i64 ((ct + (toldP ((joinP q.d q.c).take j)).length : Nat) : Int) ∧ i = .int .i64 (j : Int) ∧ j ≤ M ∧ RowKit.Hid (WaSt w g p bm R.2 ⟨S.e, R.2.n, []⟩ (k + 1) Ts (B ++ x.d) (B ++ x.d) (.slice aa9 ma9 ca9) (.slice ah9 mh9 ch9) wr ∧ PcsAt wr bs (fun _ => False) (.slice ag M cg) (joinP q.d q.c))) (fun _ i _ => M - (intOf i).toNat)
        case atStart => exact ⟨0, rfl, rfl, by omega, H9.out⟩
        case round =>
          clear H9
          obtain ⟨j, rfl, rfl, hj, HJ⟩ := hrel
          by_cases hjt : j < M
          · obtain ⟨gg, y, rfl, hc, _, hly, _⟩ := HJ.out.2.at_ (i := j) (by rw [HMx.out]; exact hjt)
            have htk := toldP_take hly
            have hj1 : (j : Int) < (M : Int) := by omega
            obtain ⟨pp, a1, c1⟩ := y
            cases pp with
            | snd s =>
              replace hc : wr.cell? ⟨gg, j, none⟩ = some (.iface 68 (.slice a1 s.length c1)) := hc
              have t1 := as_told_no (.slice a1 s.length c1) wr
              have HE : RowKit.Hid ((toldP ((joinP q.d q.c).take j)).length = (toldP ((joinP q.d q.c).take (j + 1))).length) := by show _ = _; rw [htk]; simp [toldP]
              clear hly htk
              go_wp2
              go_roundw
              case rel => exact ⟨j + 1, by rw [← HE.out], by go_num, by omega, HJ.out⟩
              case measure => simp [intOf] <;> omega
            | told T =>
              replace hc : wr.cell? ⟨gg, j, none⟩ = some (.iface 57 (.string (ba T))) := hc
              have t1 := as_told (.string (ba T)) wr
              have HE : RowKit.Hid ((toldP ((joinP q.d q.c).take j)).length + 1 = (toldP ((joinP q.d q.c).take (j + 1))).length) := by show _ = _; rw [htk]; simp [toldP]
              obtain ⟨tm, tf, tl⟩ := HTo.out T (toldP_mem hly)
              have CB := Lib.hid (fun W : World => block_any (ba T) W (by rw [ba_size]; omega))
              rw [list_ba, tf] at CB
              have HTm := Lib.hid (And.intro tm tl)
              have hbl3 : (blkF T).length ≤ 81 := blkF_le tl
              have htn := HNq.out.c
              have hle := toldP_le (joinP q.d q.c) (j + 1)
              rw [HTl.out, ← HE.out] at hle
              have hct : ct + (toldP ((joinP q.d q.c).take j)).length ≤ 1000 := by omega
              obtain ⟨cn, hcn⟩ : ∃ cn, ct + (toldP ((joinP q.d q.c).take j)).length = cn := ⟨_, rfl⟩
              have HCn := Lib.hid hcn
              rw [hcn] at hct ⊢
              clear hly htk tm tf tl htn hle hcn
              go_wp2_with (first
                | (go_at_call 16; go_loud (refine (CB.out _).mono ?_); rintro e w3 ⟨g3, rfl, hr3, hg3, hb3⟩; have HJ3 := Lib.hid (And.intro (HJ.out.1.below hb3) (HJ.out.2.below hb3)); have cv3 := (BytA.row hr3 (by omega)).conv w3 (Below.refl _ _); have lk3 := HJ3.out.1.m.look HTm.out.1 HTm.out.2; clear hr3 hg3 hb3)
                | fail)
              go_roundw
              case rel => exact ⟨j + 1, by rw [← HE.out, ← Nat.add_assoc, HCn.out]; rfl, by go_num, by omega, HJ3.out⟩
              case measure => simp [intOf] <;> omega
          · obtain rfl : j = M := by omega
            have HEn : RowKit.Hid ((joinP q.d q.c).take j = joinP q.d q.c) := List.take_of_length_le (by rw [HMx.out]; omega)
            rw [HEn.out, HTl.out]
            go_wp2
            go_roundw
            case rel => exact ⟨k + 1, R.2, Ts, ct + (toldP q.d).length, B ++ x.d, _, _, rfl, rfl, rfl, by go_num, by omega, by rw [HRe.out]; exact HJ.out.1, HNq.out⟩
            case measure => simp [intOf] <;> omega
      | true =>
        obtain ⟨S1, hS1⟩ : ∃ S1, S.tell x.s.data.toList = S1 := ⟨_, rfl⟩
        obtain ⟨T1, hT1⟩ : ∃ T1, titleF x.s.data.toList = T1 := ⟨_, rfl⟩
        have h1 := Lib.hid (HN.out.tell x.s.data.toList)
        have hne : S1.e = S.e ∧ S1.n = S.n := by rw [← hS1]; unfold W20.tell; split <;> exact ⟨rfl, rfl⟩
        have HT60 : RowKit.Hid (T1.length ≤ 60) := by show _ ≤ _; rw [← hT1]; exact titleF_len _
        rw [hS1, hT1] at h1
        have HNe := Lib.hid hne
        have HSl := Lib.hid hS1
        have HBk := Lib.hid (fun W : World => block_any x.s W (by omega))
        rw [hT1] at HBk
        have hBl : (blkF T1).length ≤ 81 := blkF_le HT60.out
        clear hne hS1 hT1
        go_wp2_with (first
          | (go_at_call 15; go_loud (refine (wvTitle_any g S x.s _ HS1.out.wv (by omega)).mono ?_); rintro e w2 ⟨rfl, hp2, hk2⟩; rw [HSl.out] at hp2; have HS2 := Lib.hid (HS1.out.weaver hp2 hk2); have HC2 := Lib.hid (HC1.out.keeps hk2 (fun e => by have h9 := HC1.out.c.typ19; rw [e] at h9; exact h9.ne HS1.out.wv.typ (by decide) rfl) (fun j hj => by subst hj; exact HS1.out.hg)); have z1 : w2.cell? ⟨qa, 1, none⟩ = some (.string x.s) := HC2.out.c.cell 1; clear hp2 hk2)
          | (go_at_call 16; go_loud (refine (HBk.out _).mono ?_); rintro e w3 ⟨g3, rfl, hr3, hg3, hb3⟩; have HS3 := Lib.hid (HS2.out.below hb3); have HC3 := Lib.hid (HC2.out.below hb3); have cv3 := (BytA.row hr3 (by omega)).conv w3 (Below.refl _ _); obtain ⟨D3, hD3, hM3, hk3⟩ := HS3.out.m; have HD3 := Lib.hid hD3; have HM3 := Lib.hid (And.intro hM3 hk3); clear hr3 hg3 hb3 hD3 hM3 hk3)
          | (at_mapUpdate; go_loud (refine wpList_mapUpdate_own _ rfl _ _ _ 50 rfl 9 4 law20 Tryd.underlying50 _ bm k D3 rfl HD3.out (by unfold maxLen; omega) _ _ _ rfl rfl (key20 HT60.out) _ [] (plainElem_bool Tryd.underlying4 true) ?_); intro w4 hown4 hg4; have HS4 := Lib.hid (HS3.out.mapped (TiAt.put hown4 HM3.out.1 HM3.out.2) hg4); have HC4 := Lib.hid (HC3.out.keeps (Keeps.of_grown (F := (· = bm)) hg4 fun k e => by injection e with e; exact e.symm) (fun e => HS3.out.m.ne HC3.out.c.typ19 e.symm) (fun j hj => by subst hj; exact HS3.out.hm)); have z2 : w4.cell? ⟨qa, 2, none⟩ = some (.slice x.a x.n x.c) := HC4.out.c.cell 2; clear hown4 hg4)
          | fail)
        have HS : RowKit.Hid (WaSt w g p bm S1 ⟨S1.e, S1.n, []⟩ (k + 1) (Ts ++ [T1]) B B u u2 w4) := by
          have := HS4.out
          rw [← HNe.out.1, ← HNe.out.2] at this
          exact this
        have HCc := HC4
        obtain ⟨ok1, e1, f1, cc1⟩ := h1.out
        have HOkS := Lib.hid ok1
        have HAg := Lib.hid (again20 S1 ok1 x.d)
        have HNx := Lib.hid (fun (q : Q20) (ha : Again S1 x.d q) => WaN.next ok1 e1 f1 cc1 HN.out.z HN.out.l (by have := HXl.out; omega) ha)
        have HOut := Lib.hid (W20.run_le ok1 x.d)
        obtain ⟨R, hR⟩ : ∃ R, S1.run x.d = R := ⟨_, rfl⟩
        have HRe : RowKit.Hid (R.2.e = S1.e) := by show _ = _; rw [← hR, W20.run_e]
        have hRl : R.1.length ≤ 24600 := by have := HOut.out; have := HXl.out; rw [hR] at *; omega
        have CW := Lib.hid (wvWeave_any g (300 * k) S1 x.a x.n x.c x.d _ HS.out.wv ok1 (by omega) HCc.out.d (by omega) (fun r off e h0 => by have := HCc.out.f r off e h0; have := HS.out.hg; omega))
        unfold WvPost at CW
        rw [hR] at CW HAg HNx
        obtain ⟨q, hq⟩ : ∃ q, (⟨S1.e, S1.n, []⟩ : P20).start.run R.1 = q := ⟨_, rfl⟩
        have hp20 := p20_of ok1
        have CP := Lib.hid (fun W a c (hp : PrAt W p ⟨S1.e, S1.n, []⟩) (hb : BytA W a R.1.length c R.1) (hr : ∀ r off, a = some ⟨r, off, none⟩ → 0 < R.1.length → r ≠ p) => part20_any p (300 * k) ⟨S1.e, S1.n, []⟩ a R.1.length c R.1 W hp hp20 (by omega) hb (by omega) hr)
        unfold PartPost at CP
        rw [hq] at CP HAg
        rw [HAg.out.ok] at CP
        have hqs := HAg.out.s
        rw [hR] at hqs
        rw [hqs] at CP
        have HNq := Lib.hid (HNx.out q HAg.out)
        have hsl : (soundP (joinP q.d q.c)).length ≤ 300 := by rw [HAg.out.b]; have := HXl.out; omega
        have hdl : (joinP q.d q.c).length ≤ 1000000 := by
          have h1 := Q20.run_d ⟨S1.e, S1.n, []⟩ R.1
          rw [hq] at h1
          have h2 := joinP_len q.d q.c
          have h3 : lastN q.c ≤ 1 := by unfold lastN; split <;> omega
          omega
        have HSo : RowKit.Hid (soundP (joinP q.d q.c) = x.d) := HAg.out.b
        have HTo : RowKit.Hid (∀ T ∈ toldP (joinP q.d q.c), T ∈ (Ts ++ [T1]) ∧ titleF T = T ∧ T.length ≤ 60) := by
          intro T hT
          rw [toldP_join] at hT
          obtain ⟨k1, k2, k3⟩ := HAg.out.t T hT
          rw [k1]
          exact ⟨f1 k2, ok1.t, ok1.l⟩
        have HTl : RowKit.Hid (toldP (joinP q.d q.c) = toldP q.d) := toldP_join _ _
        have hBl2 := HN.out.l
        have HBd : RowKit.Hid (B.length + x.d.length ≤ 100000000) := by show _ ≤ _; have := HXl.out; omega
        clear ok1 e1 f1 cc1 hR hq hp20 hqs h1
        obtain ⟨M, hM⟩ : ∃ M, (joinP q.d q.c).length = M := ⟨_, rfl⟩
        have HMx := Lib.hid hM
        have hdM : M ≤ 1000000 := by omega
        clear hM
        go_wp2_with (first
          | (go_at_call 17; go_loud (refine CW.out.mono ?_); rintro e w5 ⟨v5, rfl, ho5, hw5, hk5⟩; obtain ⟨a5, c5, rfl⟩ := ho5.form; have HS5 := Lib.hid (HS.out.weaver hw5 hk5); have HC5 := Lib.hid (HCc.out.keeps hk5 (fun e => by have h9 := HTy.out _ HCc.out; rw [e] at h9; exact h9.ne HS.out.wv.typ (by decide) rfl) (fun j hj => by subst hj; exact HS.out.hg)); have HO5 := Lib.hid ho5; clear ho5 hw5 hk5)
          | (go_at_call 8; go_loud (refine (CP.out _ a5 c5 HS5.out.pr HO5.out.bytA (fun r off e h0 e2 => by subst e2; exact (own_typ19 HO5.out (g := r) (by rw [e]; rfl)).1.ne HS5.out.pr.typ (by decide) rfl)).mono ?_); rintro e w6 ⟨v6, rfl, hv6, hp6, hk6⟩; obtain ⟨ag, cg, rfl⟩ : ∃ a c, v6 = .slice a M c := (by obtain ⟨a, c, h⟩ := hv6.form; exact ⟨a, c, by rw [h, HMx.out]⟩); have HS6 := Lib.hid (HS5.out.parter hp6 hk6); have HC6 := Lib.hid (HC5.out.keeps hk6 (fun e => by have h9 := HTy.out _ HC5.out; rw [e] at h9; exact h9.ne HS5.out.pr.typ (by decide) rfl) (fun j hj => by subst hj; exact HS5.out.hp)); have HV6 := Lib.hid hv6; have z6 : w6.cell? ⟨qa, 2, none⟩ = some (.slice x.a x.n x.c) := HC6.out.c.cell 2; have hz6 : ∀ j, u.ownBlock = some j → j < w5.heap.size := (fun j hj => own_lt HS5.out.a j hj); have hz6h : ∀ j, u2.ownBlock = some j → j < w5.heap.size := (fun j hj => own_lt HS5.out.h j hj); have HZ6 := Lib.hid (And.intro hz6 hz6h); clear hv6 hp6 hk6 hz6 hz6h)
          | (at_builtin; have hx8 := HS8.out.h; go_loud (refine app_bytes rfl _ _ 30 Tryd.underlying30 rfl w.heap.size u2 B rfl HS8.out.h a8 x.d.length c8 x.d rfl HA8.out HBd.out HS8.out.b.size ?_); intro v9 w9 ho9 hg9 hv9; have HS9 := Lib.hid (HS8.out.heard ho9 hg9 hv9); have HV9 := Lib.hid (HV8.out.keepsC (Keeps.of_grown (F := fun j => u2.ownBlock = some j) hg9 fun k e => e) (fun j hj => HZ6.out.2 j hj)); obtain ⟨ah9, mh9, ch9, rfl, hmh⟩ := own_form_m ho9; obtain ⟨aa9, ma9, ca9, rfl, hma⟩ := own_form_m HS9.out.a; have cvh := HS9.out.h.bytA.conv w9 (Below.refl _ _); have cva := HS9.out.a.bytA.conv w9 (Below.refl _ _); clear ho9 hg9 hv9 hmh hma)
          | (at_builtin; go_loud (refine app_bytes rfl _ _ 30 Tryd.underlying30 rfl w.heap.size u B rfl HS6.out.a x.a x.n x.c x.d rfl HC6.out.d (by omega) HS6.out.b.size ?_); intro v7 w7 ho7 hg7 hv7; have HS7 := Lib.hid (HS6.out.all ho7 hg7 hv7); have HV7 := Lib.hid (HV6.out.keepsC (Keeps.of_grown (F := fun j => u.ownBlock = some j) hg7 fun k e => e) (fun j hj => HZ6.out.1 j hj)); clear ho7 hg7 hv7)
          | (go_at_call 11; go_loud (refine (bytes20_any _ _ _ _ _ HV7.out (by omega) hdl).mono ?_); rintro e w8 ⟨v8, rfl, ho8, hb8⟩; rw [HSo.out] at ho8; obtain ⟨a8, c8, rfl⟩ := ho8.form; have HA8 := Lib.hid ho8.bytA; have HS8 := Lib.hid (HS7.out.below hb8); have HV8 := Lib.hid (HV7.out.below hb8); clear ho8 hb8)
          | fail)
        obtain ⟨bs, hbs⟩ : ∃ bs, w5.heap.size = bs := ⟨_, rfl⟩
        rw [hbs] at HV9
        have H9 : RowKit.Hid (WaSt w g p bm R.2 ⟨S1.e, R.2.n, []⟩ (k + 1) (Ts ++ [T1]) (B ++ x.d) (B ++ x.d) (.slice aa9 ma9 ca9) (.slice ah9 mh9 ch9) w9 ∧ PcsAt w9 bs (fun _ => False) (.slice ag M cg) (joinP q.d q.c)) := ⟨HS9.out, HV9.out⟩
        clear HS5 HC5 HO5 HS6 HC6 HV6 HZ6 HS7 HV7 HS8 HV8 HA8 HS9 HV9 HS HCc HC1 CW CP hbs cvh cva
        go_loopw [13, 96] (fun z i wr => ∃ j : Nat, z = .int .i64 ((ct + (toldP ((joinP q.d q.c).take j)).length : Nat) : Int) ∧ i = .int .i64 (j : Int) ∧ j ≤ M ∧ RowKit.Hid (WaSt w g p bm R.2 ⟨S1.e, R.2.n, []⟩ (k + 1) (Ts ++ [T1]) (B ++ x.d) (B ++ x.d) (.slice aa9 ma9 ca9) (.slice ah9 mh9 ch9) wr ∧ PcsAt wr bs (fun _ => False) (.slice ag M cg) (joinP q.d q.c))) (fun _ i _ => M - (intOf i).toNat)
        case atStart => exact ⟨0, rfl, rfl, by omega, H9.out⟩
        case round =>
          clear H9
          obtain ⟨j, rfl, rfl, hj, HJ⟩ := hrel
          by_cases hjt : j < M
          · obtain ⟨gg, y, rfl, hc, _, hly, _⟩ := HJ.out.2.at_ (i := j) (by rw [HMx.out]; exact hjt)
            have htk := toldP_take hly
            have hj1 : (j : Int) < (M : Int) := by omega
            obtain ⟨pp, a1, c1⟩ := y
            cases pp with
            | snd s =>
              replace hc : wr.cell? ⟨gg, j, none⟩ = some (.iface 68 (.slice a1 s.length c1)) := hc
              have t1 := as_told_no (.slice a1 s.length c1) wr
              have HE : RowKit.Hid ((toldP ((joinP q.d q.c).take j)).length = (toldP ((joinP q.d q.c).take (j + 1))).length) := by show _ = _; rw [htk]; simp [toldP]
              clear hly htk
              go_wp2
              go_roundw
              case rel => exact ⟨j + 1, by rw [← HE.out], by go_num, by omega, HJ.out⟩
              case measure => simp [intOf] <;> omega
            | told T =>
              replace hc : wr.cell? ⟨gg, j, none⟩ = some (.iface 57 (.string (ba T))) := hc
              have t1 := as_told (.string (ba T)) wr
              have HE : RowKit.Hid ((toldP ((joinP q.d q.c).take j)).length + 1 = (toldP ((joinP q.d q.c).take (j + 1))).length) := by show _ = _; rw [htk]; simp [toldP]
              obtain ⟨tm, tf, tl⟩ := HTo.out T (toldP_mem hly)
              have CB := Lib.hid (fun W : World => block_any (ba T) W (by rw [ba_size]; omega))
              rw [list_ba, tf] at CB
              have HTm := Lib.hid (And.intro tm tl)
              have hbl3 : (blkF T).length ≤ 81 := blkF_le tl
              have htn := HNq.out.c
              have hle := toldP_le (joinP q.d q.c) (j + 1)
              rw [HTl.out, ← HE.out] at hle
              have hct : ct + (toldP ((joinP q.d q.c).take j)).length ≤ 1000 := by omega
              obtain ⟨cn, hcn⟩ : ∃ cn, ct + (toldP ((joinP q.d q.c).take j)).length = cn := ⟨_, rfl⟩
              have HCn := Lib.hid hcn
              rw [hcn] at hct ⊢
              clear hly htk tm tf tl htn hle hcn
              go_wp2_with (first
                | (go_at_call 16; go_loud (refine (CB.out _).mono ?_); rintro e w3 ⟨g3, rfl, hr3, hg3, hb3⟩; have HJ3 := Lib.hid (And.intro (HJ.out.1.below hb3) (HJ.out.2.below hb3)); have cv3 := (BytA.row hr3 (by omega)).conv w3 (Below.refl _ _); have lk3 := HJ3.out.1.m.look HTm.out.1 HTm.out.2; clear hr3 hg3 hb3)
                | fail)
              go_roundw
              case rel => exact ⟨j + 1, by rw [← HE.out, ← Nat.add_assoc, HCn.out]; rfl, by go_num, by omega, HJ3.out⟩
              case measure => simp [intOf] <;> omega
          · obtain rfl : j = M := by omega
            have HEn : RowKit.Hid ((joinP q.d q.c).take j = joinP q.d q.c) := List.take_of_length_le (by rw [HMx.out]; omega)
            rw [HEn.out, HTl.out]
            go_wp2
            go_roundw
            case rel => exact ⟨k + 1, R.2, (Ts ++ [T1]), ct + (toldP q.d).length, B ++ x.d, _, _, rfl, rfl, rfl, by go_num, by omega, by rw [HRe.out]; exact HJ.out.1, HNq.out⟩
            case measure => simp [intOf] <;> omega
    · obtain rfl : k = len := by omega
      have hc := H.out.2.c
      have hc2 : (ct : Int) ≤ (k : Int) := by omega
      by_cases hE0 : 0 < E
      · have q1 : (0 : Int) < (E : Int) := by omega
        go_wp2
        go_ret
        exact ⟨rfl, H.out.1.b⟩
      · have q1 : ¬ (0 : Int) < (E : Int) := by omega
        have hct := H.out.2.z (by omega)
        have q2 : ((ct : Int) == 0) = true := by rw [hct]; rfl
        clear hct
        go_wp2
        go_ret
        exact ⟨rfl, H.out.1.b⟩
end Go.Proofs.YtebfjmjdcbeekaaDoor
