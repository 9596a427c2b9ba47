/- The walk of WeaveWeaves. -/
import Derived.Test.YtebfjmjdcbeekaaWeaG
import Derived.Test.YtebfjmjdcbeekaaWeaH
import Derived.Test.YtebfjmjdcbeekaaHeld
import Derived.Deep.RegionHeld3
namespace Go.Proofs.Ytebfjmjdcbeekaa
open Go Go.RowKit Go.PlainAid
set_option linter.unusedVariables false
set_option linter.unusedSimpArgs false

theorem titleF_nil : titleF [] = [] := by decide +kernel
theorem every20 (n : Int) : ∃ E : Nat, wrap64 ((IntKind.u64.wrap n).tmod 70) = (E : Int) ∧ E < 70 := by
  have hs : 0 ≤ IntKind.u64.wrap n := by rw [show IntKind.u64.wrap n = n % 18446744073709551616 by simp [IntKind.wrap, IntKind.bits, IntKind.signed]]; omega
  have e : (IntKind.u64.wrap n).tmod 70 = IntKind.u64.wrap n % 70 := Int.tmod_eq_emod_of_nonneg hs
  have l0 := Int.emod_nonneg (IntKind.u64.wrap n) (b := 70) (by omega)
  have l1 := Int.emod_lt_of_pos (IntKind.u64.wrap n) (b := 70) (by omega)
  rw [e]
  generalize IntKind.u64.wrap n % 70 = z at l0 l1
  refine ⟨z.toNat, ?_, by omega⟩
  rw [IntWalk.wrap64_in _ (by omega)]
  omega
set_option maxRecDepth 100000 in
set_option maxHeartbeats 1000000 in
/-- Too much comes in. -/
theorem weaveWeaves_out (n : Int) (a : Option Addr) (len cap : Nat) (A : Nat → Ac) (w : World) (h : AcsIn w a len A) (hf : ¬ acsFit len A) :
    Calls Try.prog 3 #[.int .i64 n, .slice a len cap] w fun e w' => e = .returned (.bool true) ∧ Below w.heap.size w w' := by
  have HF := Lib.hid (fitB_no hf)
  have HI := Lib.hid h
  clear h hf
  go_enter Try.func3, Try.ntmps3
  go_wp2_with (first
    | (go_at_call 5; go_loud (refine (fits20_any a len cap A _ (HI.out.below HB.out)).mono ?_); rintro e w3 ⟨rfl, hb⟩; rw [HF.out]; have HB3 := Lib.hid (chain HB.out hb); clear hb)
    | (go_at_call 4; refine (lives20_any _).mono ?_; rintro e w4 ⟨rfl, hb⟩; have HB4 := Lib.hid (chain HB3.out hb); clear hb)
    | (go_at_call 4; go_loud (refine (lives20_any _).mono ?_); rintro e w2 ⟨rfl, hb⟩; have HB := Lib.hid hb; clear hb)
    | fail)
  go_ret
  exact ⟨rfl, HB4.out⟩
/-- What the law keeps on its way. -/
structure WwSt (w : World) (g gr E k : Nat) (S : W20) (wr : World) : Prop where
  p : WvAt wr g S
  r : RvAt wr gr S
  ok : S.Ok (300 * k)
  e : S.e = E
  b : Below w.heap.size w wr
  hg : w.heap.size ≤ g
  hr : w.heap.size ≤ gr
section
variable {w wr w' : World} {g gr E k : Nat} {S : W20}
theorem WwSt.below (h : WwSt w g gr E k S wr) (hb : Below wr.heap.size wr w') : WwSt w g gr E k S w' := ⟨h.p.below hb, h.r.below hb, h.ok, h.e, chain h.b hb, h.hg, h.hr⟩
theorem WwSt.gne (h : WwSt w g gr E k S wr) : g ≠ gr := h.p.typ.ne h.r.typ (by decide)
theorem W20.Ok.mono {S : W20} {k q : Nat} (h : S.Ok k) (hq : k ≤ q) : S.Ok q := ⟨by have := h.n; omega, h.d, h.t, h.l⟩
end
/-- .. on the way through one act: the program's weaver is ahead of the document's. -/
structure WwMid (w : World) (g gr E k : Nat) (S S' : W20) (q : Nat) (tb : Bool) (x : Ac) (wr : World) : Prop where
  p : WvAt wr g S
  r : RvAt wr gr S'
  b : Below w.heap.size w wr
  hg : w.heap.size ≤ g
  hr : w.heap.size ≤ gr
  c : Cel wr q 35 #[.bool tb, .string x.s, .slice x.a x.n x.c]
  d : BytA wr x.a x.n x.c x.d
  f : ∀ r off, x.a = some ⟨r, off, none⟩ → 0 < x.n → r < w.heap.size
  z : w.heap.size ≤ q
section
variable {w wr w' : World} {g gr E k q : Nat} {S S' T : W20} {tb : Bool} {x : Ac}
theorem WwMid.below (h : WwMid w g gr E k S S' q tb x wr) (hb : Below wr.heap.size wr w') : WwMid w g gr E k S S' q tb x w' := ⟨h.p.below hb, h.r.below hb, chain h.b hb, h.hg, h.hr, h.c.below hb, h.d.below hb, h.f, h.z⟩
theorem WwMid.prog (h : WwMid w g gr E k S S' q tb x wr) (hp : WvAt w' g T) (hk : Keeps (· = g) wr w') : WwMid w g gr E k T S' q tb x w' := by
  have hn := h.p.typ
  refine ⟨hp, h.r.keeps hk fun e => ?_, h.b.trans (hk.below h.b.size fun j hj => by subst hj; exact h.hg), h.hg, h.hr, h.c.keeps hk fun e => ?_, h.d.keeps hk fun r off e h0 e2 => ?_, h.f, h.z⟩
  · subst e; exact hn.ne h.r.typ (by decide) rfl
  · subst e; exact hn.ne h.c.typ19 (by decide) rfl
  · have := h.f r off e h0; have := h.hg; omega
theorem WwMid.ref (h : WwMid w g gr E k S S' q tb x wr) (hr : RvAt w' gr T) (hk : Keeps (· = gr) wr w') : WwMid w g gr E k S T q tb x w' := by
  have hn := h.r.typ
  refine ⟨h.p.keeps hk fun e => ?_, hr, h.b.trans (hk.below h.b.size fun j hj => by subst hj; exact h.hr), h.hg, h.hr, h.c.keeps hk fun e => ?_, h.d.keeps hk fun r off e h0 e2 => ?_, h.f, h.z⟩
  · subst e; exact hn.ne h.p.typ (by decide) rfl
  · subst e; exact hn.ne h.c.typ19 (by decide) rfl
  · have := h.f r off e h0; have := h.hr; omega
theorem WwMid.prog_g (h : WwMid w g gr E k S S' q tb x wr) : ∀ r off, x.a = some ⟨r, off, none⟩ → 0 < x.n → r ≠ g := fun r off e h0 => by have := h.f r off e h0; have := h.hg; omega
theorem WwMid.ref_g (h : WwMid w g gr E k S S' q tb x wr) : ∀ r off, x.a = some ⟨r, off, none⟩ → 0 < x.n → r ≠ gr := fun r off e h0 => by have := h.f r off e h0; have := h.hr; omega
end
set_option maxRecDepth 100000 in
set_option maxHeartbeats 4000000 in
theorem weaveWeaves_in (n : Int) (a : Option Addr) (len cap : Nat) (A : Nat → Ac) (w : World) (h : AcsIn w a len A) (hf : acsFit len A) :
    Calls Try.prog 3 #[.int .i64 n, .slice a len cap] w fun e w' => e = .returned (.bool true) ∧ Below w.heap.size w w' := by
  have HF := Lib.hid (fitB_yes hf)
  have HI := Lib.hid h
  have HA := Lib.hid hf
  have hl40 : len ≤ 40 := hf.1
  clear h hf
  obtain ⟨E, hE, hE70⟩ := every20 n
  go_enter Try.func3, Try.ntmps3
  go_wp2_with (first
    | (go_at_call 5; go_loud (refine (fits20_any a len cap A _ (HI.out.below HB.out)).mono ?_); rintro e w3 ⟨rfl, hb⟩; rw [HF.out]; have HB3 := Lib.hid (chain HB.out hb); clear hb)
    | (go_at_call 4; go_loud (refine (lives20_any _).mono ?_); rintro e w2 ⟨rfl, hb⟩; have HB := Lib.hid hb; clear hb)
    | (go_at_call 6; go_loud (refine (wvNew_ok E _ (by omega)).mono ?_); rintro e w4 ⟨g, rfl, hg, hgb, hb⟩; have HG := Lib.hid hg; have HGb := Lib.hid hgb; have HB4 := Lib.hid (chain HB3.out hb); clear hg hgb hb)
    | fail)
  obtain ⟨gr, hgr⟩ : ∃ gr, w4.heap.size = gr := ⟨_, rfl⟩
  have H0 : RowKit.Hid (WwSt w g gr E 0 ⟨E, 0, [], false⟩ (w4.alloc (.cells #[.int .i64 (E : Int), .int .i64 0, .string ⟨#[]⟩, .bool false] 32))) := by
    have hr := Cel.new w4 32 #[.int .i64 (E : Int), .int .i64 0, .string ⟨#[]⟩, .bool false]
    rw [hgr] at hr
    have h2 := HB3.out.size
    have h3 := HGb.out
    have h4 := HB4.out.size
    exact ⟨HG.out.below (Below.alloc_new _ _), hr, ⟨Nat.zero_le _, fun h => h, titleF_nil, Nat.zero_le _⟩, rfl, HB4.out.alloc HB4.out.size _, by omega, by omega⟩
  have HV : RowKit.Hid (∀ (w' : World) (base c : Nat) (a : Option Addr) {l : List UInt8}, OwnB w' base (.slice a l.length c) l → (convert 33 9 (.slice a l.length c)).run Try.prog w' = .ok (.string (ba l)) w') := fun w' base c a l h => h.bytA.conv w' (Below.refl _ _)
  rw [hgr]
  clear HB HB3 HB4 HG HGb hgr
  go_loopw [36] (fun i wr => ∃ (k : Nat) (S : W20), i = .int .i64 (k : Int) ∧ k ≤ len ∧ RowKit.Hid (WwSt w g gr E k S wr)) (fun i _ => len - (intOf i).toNat)
  case atStart => exact ⟨0, _, rfl, by omega, H0⟩
  case round =>
    clear H0
    obtain ⟨k, S, rfl, hk, H⟩ := hrel
    by_cases hlt : k < len
    · rcases HI.out.2 with h0 | ⟨b, off, rfl, hAA⟩
      · omega
      obtain ⟨hA, hn, hs⟩ := hAA k hlt
      have hfit := HA.out.2 k hlt
      obtain ⟨x, hx⟩ : ∃ x, A k = x := ⟨_, rfl⟩
      rw [hx] at hA hn hs hfit
      have hAt := hA.below H.out.b
      obtain ⟨c0, c1, c2, _, _⟩ := hAt
      obtain ⟨tb, htb⟩ : ∃ tb, x.t = tb := ⟨_, rfl⟩
      rw [htb] at c0
      obtain ⟨W1, hW1⟩ : ∃ W1, wr.alloc (.cells #[.bool tb, .string x.s, .slice x.a x.n x.c] 35) = W1 := ⟨_, rfl⟩
      have HM1 : RowKit.Hid (WwMid w g gr E k S S wr.heap.size tb x W1) := by
        have hb : Below wr.heap.size wr W1 := by rw [← hW1]; exact Below.alloc_new _ _
        refine ⟨H.out.p.below hb, H.out.r.below hb, chain H.out.b hb, H.out.hg, H.out.hr, ?_, (hA.d.below H.out.b).below hb, fun r off e h0 => ?_, H.out.b.size⟩
        · rw [← hW1]; exact Cel.new _ _ _
        · obtain ⟨b2, off2, e2, hb2, _⟩ := hA.d.addr h0
          rw [e] at e2
          injection e2 with e2
          injection e2 with e2 _
          omega
      have HXf := Lib.hid hfit
      have HXl := Lib.hid hA.d.hl
      have HOk0 := Lib.hid H.out.ok
      have HEe0 := Lib.hid H.out.e
      have y0 := HM1.out.c.cell 0
      have y1 := HM1.out.c.cell 1
      have hn3 := hfit.2
      have hs2 := hfit.1
      clear hA hAA hx H htb
      cases tb with
      | false =>
        have HOk := HOk0
        have HEe := HEe0
        clear HOk0 HEe0
        go_wp2
        have HM7 := Lib.hid (HM1.out.below (Below.drewN' (Below.refl _ W1) 1))
        refine wp_region_held_drew (S := fun w' => w'.cell? ⟨wr.heap.size, 2, none⟩ = some (.slice x.a x.n x.c)) (by kernel_rfl) (HM7.out.c.cell 2) (fun hHeld => ?_)
        refine wpAnyH_take (i := 0) (v := ?_) rfl (by kernel_rfl) (by kernel_rfl) (by kernel_rfl) (fun _ _ _ h => h) (Or.inl ⟨by rfl, ?_⟩) (by assumption) ?_
        rotate_left 1
        · intro wq hSw
          (try dsimp only at hSw)
          go_simp
          all_goals (with_reducible rfl)
        (try simp only [Act.put, List.setIfInBounds_toArray, List.set_cons_zero, List.set_cons_succ, List.getElem_toArray, List.getElem_cons_zero, List.getElem_cons_succ])
        refine wpAnyH_take (i := 1) (v := ?_) rfl (by kernel_rfl) (by kernel_rfl) (by kernel_rfl) (fun _ _ _ h => h) (Or.inl ⟨by rfl, ?_⟩) (by assumption) ?_
        rotate_left 1
        · intro wq hSw
          (try dsimp only at hSw)
          go_simp
          all_goals (with_reducible rfl)
        (try simp only [Act.put, List.setIfInBounds_toArray, List.set_cons_zero, List.set_cons_succ, List.getElem_toArray, List.getElem_cons_zero, List.getElem_cons_succ])
        refine wpAnyH_take (i := 2) (v := ?_) rfl (by kernel_rfl) (by kernel_rfl) (by kernel_rfl) (fun _ _ _ h => h) (Or.inl ⟨by rfl, ?_⟩) (by assumption) ?_
        rotate_left 1
        · intro wq hSw
          (try dsimp only at hSw)
          go_simp
          all_goals (with_reducible rfl)
        (try simp only [Act.put, List.setIfInBounds_toArray, List.set_cons_zero, List.set_cons_succ, List.getElem_toArray, List.getElem_cons_zero, List.getElem_cons_succ])
        refine wpAnyH_take (i := 5) (v := ?_) rfl (by kernel_rfl) (by kernel_rfl) (by kernel_rfl) (fun _ _ _ h => h) (Or.inl ⟨by rfl, ?_⟩) (by assumption) ?_
        rotate_left 1
        · intro wq hSw
          (try dsimp only at hSw)
          go_simp
          all_goals (with_reducible rfl)
        (try simp only [Act.put, List.setIfInBounds_toArray, List.set_cons_zero, List.set_cons_succ, List.getElem_toArray, List.getElem_cons_zero, List.getElem_cons_succ])
        refine wpAnyH_take (i := 6) (v := ?_) rfl (by kernel_rfl) (by kernel_rfl) (by kernel_rfl) (fun _ _ _ h => h) (Or.inl ⟨by rfl, ?_⟩) (by assumption) ?_
        rotate_left 1
        · intro wq hSw
          (try dsimp only at hSw)
          go_simp
          all_goals (with_reducible rfl)
        (try simp only [Act.put, List.setIfInBounds_toArray, List.set_cons_zero, List.set_cons_succ, List.getElem_toArray, List.getElem_cons_zero, List.getElem_cons_succ])
        refine wpAnyH_take (i := 7) (v := ?_) rfl (by kernel_rfl) (by kernel_rfl) (by kernel_rfl) (fun _ _ _ h => h) (Or.inl ⟨by rfl, ?_⟩) (by assumption) ?_
        rotate_left 1
        · intro wq hSw
          (try dsimp only at hSw)
          go_simp
          all_goals (with_reducible rfl)
        (try simp only [Act.put, List.setIfInBounds_toArray, List.set_cons_zero, List.set_cons_succ, List.getElem_toArray, List.getElem_cons_zero, List.getElem_cons_succ])
        refine wpAnyH_ready (rs := [3]) (by kernel_rfl) (by simp) ?_
        refine AllReadyH.cons rfl (fun K hK => ?_) AllReadyH.nil
        go_simp
        go_at_call 11
        go_loud (refine (wvWeave_any g (300 * k) S x.a x.n x.c x.d _ HM7.out.p HOk.out (by omega) HM7.out.d (by have := HXf.out.2; omega) HM7.out.prog_g).mono ?_)
        rintro e8 w8 ⟨v8, rfl, ho8, hp8, hk8⟩
        obtain ⟨a8, c8, rfl⟩ := ho8.form
        have cv8 := HV.out _ _ _ _ ho8
        have HM8 := Lib.hid (HM7.out.prog hp8 hk8)
        refine hK.out _ _ (HM8.out.c.cell 2) (fun _ => ?_)
        have HO8 := Lib.hid ho8
        clear hK K hHeld
        refine wpAnyH_strong (S2 := fun w' => ((convert 33 9 (.slice a8 (S.run x.d).1.length c8)).run Try.prog w' = .ok (.string (ba (S.run x.d).1)) w') ∧ (w'.cell? ⟨wr.heap.size, 2, none⟩ = some (.slice x.a x.n x.c))) (fun w h => h.2) ?_
        have hHeld := And.intro cv8 (HM8.out.c.cell 2)
        clear cv8 ho8 hp8 hk8
        (try simp only [Act.put, List.setIfInBounds_toArray, List.set_cons_zero, List.set_cons_succ, List.getElem_toArray, List.getElem_cons_zero, List.getElem_cons_succ])
        refine wpAnyH_take (i := 4) (v := ?_) rfl (by kernel_rfl) (by kernel_rfl) (by kernel_rfl) (fun _ _ _ h => h) (Or.inl ⟨by rfl, ?_⟩) (by assumption) ?_
        rotate_left 1
        · intro wq hSw
          (try dsimp only at hSw)
          go_simp
          all_goals (with_reducible rfl)
        (try simp only [Act.put, List.setIfInBounds_toArray, List.set_cons_zero, List.set_cons_succ, List.getElem_toArray, List.getElem_cons_zero, List.getElem_cons_succ])
        refine wpAnyH_ready (rs := [8]) (by kernel_rfl) (by simp) ?_
        refine AllReadyH.cons rfl (fun K hK => ?_) AllReadyH.nil
        go_simp
        go_at_call 12
        go_loud (refine (rvWeave_any gr (300 * k) S x.a x.n x.c x.d _ HM8.out.r HOk.out (by omega) HM8.out.d (by have := HXf.out.2; omega) HM8.out.ref_g).mono ?_)
        rintro e9 w9 ⟨v9, rfl, ho9, hp9, hk9⟩
        obtain ⟨a9, c9, rfl⟩ := ho9.form
        have cv9 := HV.out _ _ _ _ ho9
        have cv8 := HV.out _ _ _ _ (HO8.out.keeps hk9 fun j hj => by subst hj; exact ⟨_, HM8.out.r.typ, by decide⟩)
        have HM9 := Lib.hid (HM8.out.ref hp9 hk9)
        refine hK.out _ _ ⟨cv8, HM9.out.c.cell 2⟩ (fun _ => ?_)
        clear hK K hHeld
        refine wpAnyH_strong (S2 := fun w' => ((convert 33 9 (.slice a9 (S.run x.d).1.length c9)).run Try.prog w' = .ok (.string (ba (S.run x.d).1)) w') ∧ ((convert 33 9 (.slice a8 (S.run x.d).1.length c8)).run Try.prog w' = .ok (.string (ba (S.run x.d).1)) w') ∧ (w'.cell? ⟨wr.heap.size, 2, none⟩ = some (.slice x.a x.n x.c))) (fun w h => h.2) ?_
        have hHeld := And.intro cv9 (And.intro cv8 (HM9.out.c.cell 2))
        clear cv9 cv8 ho9 hp9 hk9
        (try simp only [Act.put, List.setIfInBounds_toArray, List.set_cons_zero, List.set_cons_succ, List.getElem_toArray, List.getElem_cons_zero, List.getElem_cons_succ])
        refine wpAnyH_take (i := 9) (v := ?_) rfl (by kernel_rfl) (by kernel_rfl) (by kernel_rfl) (fun _ _ _ h => h) (Or.inl ⟨by rfl, ?_⟩) (by assumption) ?_
        rotate_left 1
        · intro wq hSw
          (try dsimp only at hSw)
          go_simp
          all_goals (with_reducible rfl)
        (try simp only [Act.put, List.setIfInBounds_toArray, List.set_cons_zero, List.set_cons_succ, List.getElem_toArray, List.getElem_cons_zero, List.getElem_cons_succ])
        refine wpAnyH_take (i := 10) (v := ?_) rfl (by kernel_rfl) (by kernel_rfl) (by kernel_rfl) (fun _ _ _ h => h) (Or.inl ⟨by rfl, ?_⟩) (by assumption) ?_
        rotate_left 1
        · intro wq hSw
          (try dsimp only at hSw)
          go_simp
          all_goals (with_reducible rfl)
        (try simp only [Act.put, List.setIfInBounds_toArray, List.set_cons_zero, List.set_cons_succ, List.getElem_toArray, List.getElem_cons_zero, List.getElem_cons_succ])
        refine wpAnyH_done (by kernel_rfl) ?_ _
        clear hHeld HM7 HM8
        go_wp2
        go_roundw
        case rel => exact ⟨k + 1, (S.run x.d).2, by go_num, by omega, ⟨HM9.out.p, HM9.out.r, (HOk.out.run x.d).mono (by have := HXf.out.2; have := HXl.out; omega), by rw [W20.run_e]; exact HEe.out, HM9.out.b, HM9.out.hg, HM9.out.hr⟩⟩
        case measure => simp [intOf] <;> omega
      | true =>
        obtain ⟨T, hT⟩ : ∃ T, S.tell x.s.data.toList = T := ⟨_, rfl⟩
        have HOk : RowKit.Hid (T.Ok (300 * k)) := by rw [← hT]; exact HOk0.out.tell _
        have HEe : RowKit.Hid (T.e = E) := by show _ = _; rw [← hT, W20.tell_e]; exact HEe0.out
        have HT := Lib.hid hT
        obtain ⟨B, hB⟩ : ∃ B, blkF (titleF x.s.data.toList) = B := ⟨_, rfl⟩
        have HB81 : RowKit.Hid (B.length ≤ 81) := by show _ ≤ _; rw [← hB]; exact blkF_le (titleF_len _)
        have hB81 := HB81.out
        have HRB := Lib.hid (fun W : World => refBlock_any x.s W (by omega))
        unfold RbPost at HRB
        rw [hB] at HRB
        have HBk := Lib.hid (fun W : World => block_any x.s W (by omega))
        rw [hB] at HBk
        clear HOk0 HEe0 hT hB
        go_wp2_with (first
          | (go_at_call 7; go_loud (refine (wvTitle_any g S x.s _ HM1.out.p (by omega)).mono ?_); rintro e w2 ⟨rfl, hp2, hk2⟩; rw [HT.out] at hp2; have HM2 := Lib.hid (HM1.out.prog hp2 hk2); have y2 := HM2.out.c.cell 1; clear hp2 hk2)
          | (go_at_call 8; go_loud (refine (rvTell_any gr S x.s _ HM2.out.r (by omega)).mono ?_); rintro e w3 ⟨rfl, hp3, hk3⟩; rw [HT.out] at hp3; have HM3 := Lib.hid (HM2.out.ref hp3 hk3); have y3 := HM3.out.c.cell 1; clear hp3 hk3)
          | (go_at_call 9; go_loud (refine (HBk.out _).mono ?_); rintro e w4b ⟨g4, rfl, hr4, hg4, hb4⟩; have HM4 := Lib.hid (HM3.out.below hb4); have HA4 := Lib.hid (BytA.row hr4 (by omega)); have y4 := HM4.out.c.cell 1; clear hr4 hg4 hb4)
          | fail)
        have HS4 : RowKit.Hid (∀ w', Below w4b.heap.size w4b w' → w'.cell? ⟨wr.heap.size, 1, none⟩ = some (.string x.s) ∧ (convert 33 9 (.slice (some ⟨g4, 0, none⟩) B.length B.length)).run Try.prog w' = .ok (.string (ba B)) w') :=
          fun w' hb => ⟨(HM4.out.below hb).c.cell 1, HA4.out.conv w' hb⟩
        clear HM1 HM2 HM3 y0 y1 y2 y3 HBk c0 c1 c2 hW1
        have hS0 := HS4.out _ (Below.drewN' (Below.refl _ w4b) 1)
        refine wp_region_held_drew (S := fun w' => w'.cell? ⟨wr.heap.size, 1, none⟩ = some (.string x.s) ∧ (convert 33 9 (.slice (some ⟨g4, 0, none⟩) B.length B.length)).run Try.prog w' = .ok (.string (ba B)) w') (by kernel_rfl) hS0 (fun hHeld => ?_)
        refine wpAnyH_take (i := 0) (v := ?_) rfl (by kernel_rfl) (by kernel_rfl) (by kernel_rfl) (fun _ _ _ h => h) (Or.inl ⟨by rfl, ?_⟩) (by assumption) ?_
        rotate_left 1
        · intro wq hSw
          (try dsimp only at hSw)
          go_simp
          all_goals (with_reducible rfl)
        (try simp only [Act.put, List.setIfInBounds_toArray, List.set_cons_zero, List.set_cons_succ, List.getElem_toArray, List.getElem_cons_zero, List.getElem_cons_succ])
        refine wpAnyH_take (i := 1) (v := ?_) rfl (by kernel_rfl) (by kernel_rfl) (by kernel_rfl) (fun _ _ _ h => h) (Or.inl ⟨by rfl, ?_⟩) (by assumption) ?_
        rotate_left 1
        · intro wq hSw
          (try dsimp only at hSw)
          go_simp
          all_goals (with_reducible rfl)
        (try simp only [Act.put, List.setIfInBounds_toArray, List.set_cons_zero, List.set_cons_succ, List.getElem_toArray, List.getElem_cons_zero, List.getElem_cons_succ])
        refine wpAnyH_take (i := 2) (v := ?_) rfl (by kernel_rfl) (by kernel_rfl) (by kernel_rfl) (fun _ _ _ h => h) (Or.inl ⟨by rfl, ?_⟩) (by assumption) ?_
        rotate_left 1
        · intro wq hSw
          (try dsimp only at hSw)
          go_simp
          all_goals (with_reducible rfl)
        (try simp only [Act.put, List.setIfInBounds_toArray, List.set_cons_zero, List.set_cons_succ, List.getElem_toArray, List.getElem_cons_zero, List.getElem_cons_succ])
        refine wpAnyH_take (i := 3) (v := ?_) rfl (by kernel_rfl) (by kernel_rfl) (by kernel_rfl) (fun _ _ _ h => h) (Or.inl ⟨by rfl, ?_⟩) (by assumption) ?_
        rotate_left 1
        · intro wq hSw
          (try dsimp only at hSw)
          go_simp
          all_goals (with_reducible rfl)
        (try simp only [Act.put, List.setIfInBounds_toArray, List.set_cons_zero, List.set_cons_succ, List.getElem_toArray, List.getElem_cons_zero, List.getElem_cons_succ])
        refine wpAnyH_ready (rs := [4]) (by kernel_rfl) (by simp) ?_
        refine AllReadyH.cons rfl (fun K hK => ?_) AllReadyH.nil
        go_simp
        go_at_call 10
        go_loud (refine (HRB.out _).mono ?_)
        rintro e6 w6 ⟨v6, rfl, ho6, hb6⟩
        obtain ⟨a6, c6, rfl⟩ := ho6.form
        have hb46 : Below w4b.heap.size w4b w6 := (Below.drewN' (Below.refl _ w4b) 1).trans hb6
        have hS6 := HS4.out _ hb46
        have cv6 := HV.out _ _ _ _ ho6
        have HM6 := Lib.hid (HM4.out.below hb46)
        refine hK.out _ _ hS6 (fun _ => ?_)
        have HO6 := Lib.hid ho6
        clear hK K hHeld hb6 hb46
        refine wpAnyH_strong (S2 := fun w' => ((convert 33 9 (.slice a6 B.length c6)).run Try.prog w' = .ok (.string (ba B)) w') ∧ (w'.cell? ⟨wr.heap.size, 1, none⟩ = some (.string x.s) ∧ (convert 33 9 (.slice (some ⟨g4, 0, none⟩) B.length B.length)).run Try.prog w' = .ok (.string (ba B)) w')) (fun w h => h.2) ?_
        have hHeld := And.intro (HV.out _ _ _ _ HO6.out) hS6
        clear cv6 hS6
        (try simp only [Act.put, List.setIfInBounds_toArray, List.set_cons_zero, List.set_cons_succ, List.getElem_toArray, List.getElem_cons_zero, List.getElem_cons_succ])
        refine wpAnyH_take (i := 5) (v := ?_) rfl (by kernel_rfl) (by kernel_rfl) (by kernel_rfl) (fun _ _ _ h => h) (Or.inl ⟨by rfl, ?_⟩) (by assumption) ?_
        rotate_left 1
        · intro wq hSw
          (try dsimp only at hSw)
          go_simp
          all_goals (with_reducible rfl)
        (try simp only [Act.put, List.setIfInBounds_toArray, List.set_cons_zero, List.set_cons_succ, List.getElem_toArray, List.getElem_cons_zero, List.getElem_cons_succ])
        refine wpAnyH_take (i := 6) (v := ?_) rfl (by kernel_rfl) (by kernel_rfl) (by kernel_rfl) (fun _ _ _ h => h) (Or.inl ⟨by rfl, ?_⟩) (by assumption) ?_
        rotate_left 1
        · intro wq hSw
          (try dsimp only at hSw)
          go_simp
          all_goals (with_reducible rfl)
        (try simp only [Act.put, List.setIfInBounds_toArray, List.set_cons_zero, List.set_cons_succ, List.getElem_toArray, List.getElem_cons_zero, List.getElem_cons_succ])
        refine wpAnyH_take (i := 7) (v := ?_) rfl (by kernel_rfl) (by kernel_rfl) (by kernel_rfl) (fun _ _ _ h => h) (Or.inl ⟨by rfl, ?_⟩) (by assumption) ?_
        rotate_left 1
        · intro wq hSw
          (try dsimp only at hSw)
          go_simp
          all_goals (with_reducible rfl)
        (try simp only [Act.put, List.setIfInBounds_toArray, List.set_cons_zero, List.set_cons_succ, List.getElem_toArray, List.getElem_cons_zero, List.getElem_cons_succ])
        refine wpAnyH_take (i := 8) (v := ?_) rfl (by kernel_rfl) (by kernel_rfl) (by kernel_rfl) (fun _ _ _ h => h) (Or.inl ⟨by rfl, ?_⟩) (by assumption) ?_
        rotate_left 1
        · intro wq hSw
          (try dsimp only at hSw)
          go_simp
          all_goals (with_reducible rfl)
        (try simp only [Act.put, List.setIfInBounds_toArray, List.set_cons_zero, List.set_cons_succ, List.getElem_toArray, List.getElem_cons_zero, List.getElem_cons_succ])
        refine wpAnyH_take (i := 9) (v := ?_) rfl (by kernel_rfl) (by kernel_rfl) (by kernel_rfl) (fun _ _ _ h => h) (Or.inl ⟨by rfl, ?_⟩) (by assumption) ?_
        rotate_left 1
        · intro wq hSw
          (try dsimp only at hSw)
          go_simp
          all_goals (with_reducible rfl)
        (try simp only [Act.put, List.setIfInBounds_toArray, List.set_cons_zero, List.set_cons_succ, List.getElem_toArray, List.getElem_cons_zero, List.getElem_cons_succ])
        refine wpAnyH_take (i := 10) (v := ?_) rfl (by kernel_rfl) (by kernel_rfl) (by kernel_rfl) (fun _ _ _ h => h) (Or.inl ⟨by rfl, ?_⟩) (by assumption) ?_
        rotate_left 1
        · intro wq hSw
          (try dsimp only at hSw)
          go_simp
          all_goals (with_reducible rfl)
        (try simp only [Act.put, List.setIfInBounds_toArray, List.set_cons_zero, List.set_cons_succ, List.getElem_toArray, List.getElem_cons_zero, List.getElem_cons_succ])
        refine wpAnyH_take (i := 11) (v := ?_) rfl (by kernel_rfl) (by kernel_rfl) (by kernel_rfl) (fun _ _ _ h => h) (Or.inl ⟨by rfl, ?_⟩) (by assumption) ?_
        rotate_left 1
        · intro wq hSw
          (try dsimp only at hSw)
          go_simp
          all_goals (with_reducible rfl)
        (try simp only [Act.put, List.setIfInBounds_toArray, List.set_cons_zero, List.set_cons_succ, List.getElem_toArray, List.getElem_cons_zero, List.getElem_cons_succ])
        refine wpAnyH_done (by kernel_rfl) ?_ _
        clear hHeld hS0
        clear HM4 HA4 HRB HO6 HS4 y4
        go_wp2
        have HM7 := Lib.hid (HM6.out.below (Below.drewN' (Below.refl _ w6) 1))
        refine wp_region_held_drew (S := fun w' => w'.cell? ⟨wr.heap.size, 2, none⟩ = some (.slice x.a x.n x.c)) (by kernel_rfl) (HM7.out.c.cell 2) (fun hHeld => ?_)
        refine wpAnyH_take (i := 0) (v := ?_) rfl (by kernel_rfl) (by kernel_rfl) (by kernel_rfl) (fun _ _ _ h => h) (Or.inl ⟨by rfl, ?_⟩) (by assumption) ?_
        rotate_left 1
        · intro wq hSw
          (try dsimp only at hSw)
          go_simp
          all_goals (with_reducible rfl)
        (try simp only [Act.put, List.setIfInBounds_toArray, List.set_cons_zero, List.set_cons_succ, List.getElem_toArray, List.getElem_cons_zero, List.getElem_cons_succ])
        refine wpAnyH_take (i := 1) (v := ?_) rfl (by kernel_rfl) (by kernel_rfl) (by kernel_rfl) (fun _ _ _ h => h) (Or.inl ⟨by rfl, ?_⟩) (by assumption) ?_
        rotate_left 1
        · intro wq hSw
          (try dsimp only at hSw)
          go_simp
          all_goals (with_reducible rfl)
        (try simp only [Act.put, List.setIfInBounds_toArray, List.set_cons_zero, List.set_cons_succ, List.getElem_toArray, List.getElem_cons_zero, List.getElem_cons_succ])
        refine wpAnyH_take (i := 2) (v := ?_) rfl (by kernel_rfl) (by kernel_rfl) (by kernel_rfl) (fun _ _ _ h => h) (Or.inl ⟨by rfl, ?_⟩) (by assumption) ?_
        rotate_left 1
        · intro wq hSw
          (try dsimp only at hSw)
          go_simp
          all_goals (with_reducible rfl)
        (try simp only [Act.put, List.setIfInBounds_toArray, List.set_cons_zero, List.set_cons_succ, List.getElem_toArray, List.getElem_cons_zero, List.getElem_cons_succ])
        refine wpAnyH_take (i := 5) (v := ?_) rfl (by kernel_rfl) (by kernel_rfl) (by kernel_rfl) (fun _ _ _ h => h) (Or.inl ⟨by rfl, ?_⟩) (by assumption) ?_
        rotate_left 1
        · intro wq hSw
          (try dsimp only at hSw)
          go_simp
          all_goals (with_reducible rfl)
        (try simp only [Act.put, List.setIfInBounds_toArray, List.set_cons_zero, List.set_cons_succ, List.getElem_toArray, List.getElem_cons_zero, List.getElem_cons_succ])
        refine wpAnyH_take (i := 6) (v := ?_) rfl (by kernel_rfl) (by kernel_rfl) (by kernel_rfl) (fun _ _ _ h => h) (Or.inl ⟨by rfl, ?_⟩) (by assumption) ?_
        rotate_left 1
        · intro wq hSw
          (try dsimp only at hSw)
          go_simp
          all_goals (with_reducible rfl)
        (try simp only [Act.put, List.setIfInBounds_toArray, List.set_cons_zero, List.set_cons_succ, List.getElem_toArray, List.getElem_cons_zero, List.getElem_cons_succ])
        refine wpAnyH_take (i := 7) (v := ?_) rfl (by kernel_rfl) (by kernel_rfl) (by kernel_rfl) (fun _ _ _ h => h) (Or.inl ⟨by rfl, ?_⟩) (by assumption) ?_
        rotate_left 1
        · intro wq hSw
          (try dsimp only at hSw)
          go_simp
          all_goals (with_reducible rfl)
        (try simp only [Act.put, List.setIfInBounds_toArray, List.set_cons_zero, List.set_cons_succ, List.getElem_toArray, List.getElem_cons_zero, List.getElem_cons_succ])
        refine wpAnyH_ready (rs := [3]) (by kernel_rfl) (by simp) ?_
        refine AllReadyH.cons rfl (fun K hK => ?_) AllReadyH.nil
        go_simp
        go_at_call 11
        go_loud (refine (wvWeave_any g (300 * k) T x.a x.n x.c x.d _ HM7.out.p HOk.out (by omega) HM7.out.d (by have := HXf.out.2; omega) HM7.out.prog_g).mono ?_)
        rintro e8 w8 ⟨v8, rfl, ho8, hp8, hk8⟩
        obtain ⟨a8, c8, rfl⟩ := ho8.form
        have cv8 := HV.out _ _ _ _ ho8
        have HM8 := Lib.hid (HM7.out.prog hp8 hk8)
        refine hK.out _ _ (HM8.out.c.cell 2) (fun _ => ?_)
        have HO8 := Lib.hid ho8
        clear hK K hHeld
        refine wpAnyH_strong (S2 := fun w' => ((convert 33 9 (.slice a8 (T.run x.d).1.length c8)).run Try.prog w' = .ok (.string (ba (T.run x.d).1)) w') ∧ (w'.cell? ⟨wr.heap.size, 2, none⟩ = some (.slice x.a x.n x.c))) (fun w h => h.2) ?_
        have hHeld := And.intro cv8 (HM8.out.c.cell 2)
        clear cv8 ho8 hp8 hk8
        (try simp only [Act.put, List.setIfInBounds_toArray, List.set_cons_zero, List.set_cons_succ, List.getElem_toArray, List.getElem_cons_zero, List.getElem_cons_succ])
        refine wpAnyH_take (i := 4) (v := ?_) rfl (by kernel_rfl) (by kernel_rfl) (by kernel_rfl) (fun _ _ _ h => h) (Or.inl ⟨by rfl, ?_⟩) (by assumption) ?_
        rotate_left 1
        · intro wq hSw
          (try dsimp only at hSw)
          go_simp
          all_goals (with_reducible rfl)
        (try simp only [Act.put, List.setIfInBounds_toArray, List.set_cons_zero, List.set_cons_succ, List.getElem_toArray, List.getElem_cons_zero, List.getElem_cons_succ])
        refine wpAnyH_ready (rs := [8]) (by kernel_rfl) (by simp) ?_
        refine AllReadyH.cons rfl (fun K hK => ?_) AllReadyH.nil
        go_simp
        go_at_call 12
        go_loud (refine (rvWeave_any gr (300 * k) T x.a x.n x.c x.d _ HM8.out.r HOk.out (by omega) HM8.out.d (by have := HXf.out.2; omega) HM8.out.ref_g).mono ?_)
        rintro e9 w9 ⟨v9, rfl, ho9, hp9, hk9⟩
        obtain ⟨a9, c9, rfl⟩ := ho9.form
        have cv9 := HV.out _ _ _ _ ho9
        have cv8 := HV.out _ _ _ _ (HO8.out.keeps hk9 fun j hj => by subst hj; exact ⟨_, HM8.out.r.typ, by decide⟩)
        have HM9 := Lib.hid (HM8.out.ref hp9 hk9)
        refine hK.out _ _ ⟨cv8, HM9.out.c.cell 2⟩ (fun _ => ?_)
        clear hK K hHeld
        refine wpAnyH_strong (S2 := fun w' => ((convert 33 9 (.slice a9 (T.run x.d).1.length c9)).run Try.prog w' = .ok (.string (ba (T.run x.d).1)) w') ∧ ((convert 33 9 (.slice a8 (T.run x.d).1.length c8)).run Try.prog w' = .ok (.string (ba (T.run x.d).1)) w') ∧ (w'.cell? ⟨wr.heap.size, 2, none⟩ = some (.slice x.a x.n x.c))) (fun w h => h.2) ?_
        have hHeld := And.intro cv9 (And.intro cv8 (HM9.out.c.cell 2))
        clear cv9 cv8 ho9 hp9 hk9
        (try simp only [Act.put, List.setIfInBounds_toArray, List.set_cons_zero, List.set_cons_succ, List.getElem_toArray, List.getElem_cons_zero, List.getElem_cons_succ])
        refine wpAnyH_take (i := 9) (v := ?_) rfl (by kernel_rfl) (by kernel_rfl) (by kernel_rfl) (fun _ _ _ h => h) (Or.inl ⟨by rfl, ?_⟩) (by assumption) ?_
        rotate_left 1
        · intro wq hSw
          (try dsimp only at hSw)
          go_simp
          all_goals (with_reducible rfl)
        (try simp only [Act.put, List.setIfInBounds_toArray, List.set_cons_zero, List.set_cons_succ, List.getElem_toArray, List.getElem_cons_zero, List.getElem_cons_succ])
        refine wpAnyH_take (i := 10) (v := ?_) rfl (by kernel_rfl) (by kernel_rfl) (by kernel_rfl) (fun _ _ _ h => h) (Or.inl ⟨by rfl, ?_⟩) (by assumption) ?_
        rotate_left 1
        · intro wq hSw
          (try dsimp only at hSw)
          go_simp
          all_goals (with_reducible rfl)
        (try simp only [Act.put, List.setIfInBounds_toArray, List.set_cons_zero, List.set_cons_succ, List.getElem_toArray, List.getElem_cons_zero, List.getElem_cons_succ])
        refine wpAnyH_done (by kernel_rfl) ?_ _
        clear hHeld HM7 HM8
        go_wp2
        go_roundw
        case rel => exact ⟨k + 1, (T.run x.d).2, by go_num, by omega, ⟨HM9.out.p, HM9.out.r, (HOk.out.run x.d).mono (by have := HXf.out.2; have := HXl.out; omega), by rw [W20.run_e]; exact HEe.out, HM9.out.b, HM9.out.hg, HM9.out.hr⟩⟩
        case measure => simp [intOf] <;> omega
    · obtain rfl : k = len := by omega
      go_wp2
      go_ret
      exact ⟨rfl, H.out.b⟩
end Go.Proofs.Ytebfjmjdcbeekaa
