/- What the functions of package request give: Feed, Request. -/
import Derived.Test.YtkledfalplekeaaDoorReqX
namespace Go.Proofs.YtkledfalplekeaaDoor
open Go.RowKit Go.PlainAid
set_option linter.unusedVariables false

theorem feed_err {S : S17} (c : UInt8) (h : (S.feed c).err ≠ 0) (he : S.err = 0) : (S.feed c).done = S.done := by
  unfold S17.feed at *
  by_cases h1 : S.n = 600
  · rw [if_pos h1]
  · rw [if_neg h1] at h ⊢
    by_cases h2 : c = 10
    · rw [if_pos h2] at h ⊢
      cases ho : lineF { S with n := S.n + 1, line := [] } (stripF S.line) with
      | none => rfl
      | some U =>
        rw [ho] at h
        exact absurd ((lineF_keeps ho).1.trans he) h
    · rw [if_neg h2]
theorem ten_cells (cs : Array Value) (h : cs.size = 10) : ∃ a0 a1 a2 a3 a4 a5 a6 a7 a8 a9, cs = #[a0, a1, a2, a3, a4, a5, a6, a7, a8, a9] := by
  obtain ⟨l⟩ := cs
  match l, h with
  | [a0, a1, a2, a3, a4, a5, a6, a7, a8, a9], _ => exact ⟨a0, a1, a2, a3, a4, a5, a6, a7, a8, a9, rfl⟩
/-- What Feed leaves. -/
def FeedR (base g : Nat) (T : S17) (w : World) (e : Ending) (w' : World) : Prop :=
  e = .returned (.tuple #[.bool T.done, .int .i64 (T.err : Int)]) ∧ RqAt w' base g T ∧ Keeps (RqF w base g) w w'
theorem rFeed_over (base g : Nat) (S : S17) (c : Int) (w : World) (h : RqAt w base g S) (hd : S.done = true) :
    Calls Tryd.prog 9 #[.pointer (some ⟨g, 0, none⟩), .int .u8 c] w fun e w' => e = .returned (.tuple #[.bool false, .int .i64 8]) ∧ w = w' := by
  have he : S.err = 0 := by
    by_cases e : S.err = 0
    · exact e
    · have := (h.no e).1
      rw [hd] at this
      cases this
  obtain ⟨v, hc, _⟩ := h.ok he
  have c8 : w.cell? ⟨g, 8, none⟩ = some (.bool true) := by rw [hc.cell 8, ← hd]; rfl
  clear hc h he hd
  go_enter Tryd.func9, Tryd.ntmps9
  go_wp2
  go_ret2
  exact ⟨rfl, rfl⟩
set_option maxHeartbeats 16000000 in
set_option maxRecDepth 100000 in
theorem rFeed_any (base g : Nat) (S : S17) (c : UInt8) (w : World) (h : RqAt w base g S) (hd : S.done = false) (hS : S.Ok) (hT : TabB base w) :
    Calls Tryd.prog 9 #[.pointer (some ⟨g, 0, none⟩), .int .u8 (c.toNat : Int)] w (FeedR base g (S.next c) w) := by
  have H := Lib.hid h
  have HBn : RowKit.Hid (∀ n, Below w.heap.size w (w.drewN n)) := fun n => Below.drewN' (Below.refl _ _) n
  by_cases he : S.err = 0
  · have hn : S.next c = S.feed c := by unfold S17.next; rw [hd, he]; rfl
    rw [hn]
    have CT := take_any base g S c w h he hd hS hT
    have HE := Lib.hid (feed_err (S := S) c)
    obtain ⟨v, hc, _⟩ := h.ok he
    have c8 : w.cell? ⟨g, 8, none⟩ = some (.bool false) := by rw [hc.cell 8, ← hd]; rfl
    have c9 : w.cell? ⟨g, 9, none⟩ = some (.int .i64 0) := by rw [hc.cell 9]; show some (Value.int .i64 (S.err : Int)) = _; rw [he]; rfl
    have HD := Lib.hid (hd)
    have HEz := Lib.hid he
    generalize S.feed c = T at *
    generalize (c.toNat : Int) = k at *
    clear hc h hn hd he hT hS
    obtain ⟨x, hx⟩ : ∃ x : Int, (T.err : Int) = x := ⟨_, rfl⟩
    by_cases h0 : T.err = 0
    · have CT2 : Calls Tryd.prog 16 #[.pointer (some ⟨g, 0, none⟩), .int .u8 k] w fun e w' => e = .returned (.int .i64 0) ∧ Keeps (RqF w base g) w w' ∧ RqAt w' base g T := by
        refine CT.mono ?_
        rintro e w' ⟨h1, h2, h3, _⟩
        exact ⟨by rw [h1, h0]; rfl, h2, h3 h0⟩
      have HP : RowKit.Hid (∀ W : World, RqAt W base g T → W.cell? ⟨g, 8, none⟩ = some (.bool T.done) ∧ W.cell? ⟨g, 9, none⟩ = some (.int .i64 0)) := by
        intro W h
        obtain ⟨v, hc, _⟩ := h.ok h0
        exact ⟨hc.cell 8, by rw [hc.cell 9]; show some (Value.int .i64 (T.err : Int)) = _; rw [h0]; rfl⟩
      have HTe := Lib.hid h0
      clear CT hx h0
      go_enter Tryd.func9, Tryd.ntmps9
      go_wp2_with (go_at_call 16; refine CT2.mono ?_; rintro e w2 ⟨rfl, k2, h2⟩; obtain ⟨d8, d9⟩ := HP.out w2 h2; have H2 := Lib.hid h2; have K2 := Lib.hid k2; clear h2 k2)
      go_quiet (fail)
      go_wp2
      go_ret2
      exact ⟨by rw [HTe.out]; rfl, H2.out.below (Below.drewN' (Below.refl _ _) _), K2.out.drewN _⟩
    · have CT2 : Calls Tryd.prog 16 #[.pointer (some ⟨g, 0, none⟩), .int .u8 k] w fun e w' => e = .returned (.int .i64 x) ∧ Keeps (RqF w base g) w w' ∧ ∃ a0 a1 a2 a3 a4 a5 a6 a7 a8 a9, Cel w' g 52 #[a0, a1, a2, a3, a4, a5, a6, a7, a8, a9] := by
        refine CT.mono ?_
        rintro e w' ⟨h1, h2, _, h3⟩
        obtain ⟨cs, h4, h5⟩ := h3 h0
        obtain ⟨a0, a1, a2, a3, a4, a5, a6, a7, a8, a9, rfl⟩ := ten_cells cs h5
        exact ⟨by rw [h1, hx], h2, a0, a1, a2, a3, a4, a5, a6, a7, a8, a9, h4⟩
      have HTd := Lib.hid (HE.out h0 HEz.out)
      have q0 : (x == 0) = false := by
        have : ¬ x = 0 := by omega
        simpa using this
      have q1 : (x != 0) = true := by
        have : ¬ x = 0 := by omega
        simpa using this
      have HX := Lib.hid hx
      have H0 := Lib.hid h0
      clear CT hx h0
      go_enter Tryd.func9, Tryd.ntmps9
      go_upto_region 9 with (go_at_call 16; refine CT2.mono ?_; rintro e w2 ⟨rfl, k2, a0, a1, a2, a3, a4, a5, a6, a7, a8, a9, h2⟩; have m0 := h2.cell 0; have m1 := h2.cell 1; have m2 := h2.cell 2; have m3 := h2.cell 3; have m4 := h2.cell 4; have m5 := h2.cell 5; have m6 := h2.cell 6; have m7 := h2.cell 7; have m8 := h2.cell 8; have m9 := h2.cell 9; have n0 := h2.frozen 0; have n1 := h2.frozen 1; have n2 := h2.frozen 2; have n3 := h2.frozen 3; have n4 := h2.frozen 4; have n5 := h2.frozen 5; have n6 := h2.frozen 6; have n7 := h2.frozen 7; have n8 := h2.frozen 8; have n9 := h2.frozen 9; have H2 := Lib.hid h2; have K2 := Lib.hid k2; clear h2 k2)
      go_wp2
      have HC9 : RowKit.Hid (Cel ((((((((((w2.setCell ⟨g, 0, none⟩ (.int .i64 0)).setCell ⟨g, 1, none⟩ (.slice none 0 0)).setCell ⟨g, 2, none⟩ (.int .i64 0)).setCell ⟨g, 3, none⟩ (.string ⟨#[]⟩)).setCell ⟨g, 4, none⟩ (.bool false)).setCell ⟨g, 5, none⟩ (.bool false)).setCell ⟨g, 6, none⟩ (.string ⟨#[]⟩)).setCell ⟨g, 7, none⟩ (.int .u64 0)).setCell ⟨g, 8, none⟩ (.bool false)).setCell ⟨g, 9, none⟩ (.int .i64 x)) g 52 (rdE T.err)) := by
        show Cel _ _ _ _
        unfold rdE rdK
        rw [HX.out]
        have hh := ((((((((((H2.out.set_ 0 (.int .i64 0)).set_ 1 (.slice none 0 0)).set_ 2 (.int .i64 0)).set_ 3 (.string ⟨#[]⟩)).set_ 4 (.bool false)).set_ 5 (.bool false)).set_ 6 (.string ⟨#[]⟩)).set_ 7 (.int .u64 0)).set_ 8 (.bool false)).set_ 9 (.int .i64 x))
        simp only [List.setIfInBounds_toArray, List.set_cons_zero, List.set_cons_succ] at hh
        exact hh
      have HK9 : RowKit.Hid (Keeps (RqF w base g) w ((((((((((w2.setCell ⟨g, 0, none⟩ (.int .i64 0)).setCell ⟨g, 1, none⟩ (.slice none 0 0)).setCell ⟨g, 2, none⟩ (.int .i64 0)).setCell ⟨g, 3, none⟩ (.string ⟨#[]⟩)).setCell ⟨g, 4, none⟩ (.bool false)).setCell ⟨g, 5, none⟩ (.bool false)).setCell ⟨g, 6, none⟩ (.string ⟨#[]⟩)).setCell ⟨g, 7, none⟩ (.int .u64 0)).setCell ⟨g, 8, none⟩ (.bool false)).setCell ⟨g, 9, none⟩ (.int .i64 x))) := ((((((((((K2.out.setCell (p := ⟨g, 0, none⟩) (.inl (.inl rfl)) _).setCell (p := ⟨g, 1, none⟩) (.inl (.inl rfl)) _).setCell (p := ⟨g, 2, none⟩) (.inl (.inl rfl)) _).setCell (p := ⟨g, 3, none⟩) (.inl (.inl rfl)) _).setCell (p := ⟨g, 4, none⟩) (.inl (.inl rfl)) _).setCell (p := ⟨g, 5, none⟩) (.inl (.inl rfl)) _).setCell (p := ⟨g, 6, none⟩) (.inl (.inl rfl)) _).setCell (p := ⟨g, 7, none⟩) (.inl (.inl rfl)) _).setCell (p := ⟨g, 8, none⟩) (.inl (.inl rfl)) _).setCell (p := ⟨g, 9, none⟩) (.inl (.inl rfl)) _)
      clear m0 m1 m2 m3 m4 m5 m6 m7 m8 m9 n0 n1 n2 n3 n4 n5 n6 n7 n8 n9 H2 K2 CT2
      generalize ((((((((((w2.setCell ⟨g, 0, none⟩ (.int .i64 0)).setCell ⟨g, 1, none⟩ (.slice none 0 0)).setCell ⟨g, 2, none⟩ (.int .i64 0)).setCell ⟨g, 3, none⟩ (.string ⟨#[]⟩)).setCell ⟨g, 4, none⟩ (.bool false)).setCell ⟨g, 5, none⟩ (.bool false)).setCell ⟨g, 6, none⟩ (.string ⟨#[]⟩)).setCell ⟨g, 7, none⟩ (.int .u64 0)).setCell ⟨g, 8, none⟩ (.bool false)).setCell ⟨g, 9, none⟩ (.int .i64 x)) = w9 at HC9 HK9 ⊢
      have c98 : w9.cell? ⟨g, 8, none⟩ = some (.bool false) := HC9.out.cell 8
      have c99 : w9.cell? ⟨g, 9, none⟩ = some (.int .i64 x) := by rw [← HX.out]; exact HC9.out.cell 9
      go_quiet (fail)
      go_wp2
      go_ret2
      have hTd : T.done = false := HTd.out.trans HD.out
      refine ⟨by rw [hTd, HX.out]; rfl, ⟨H.out.b, fun e => absurd e H0.out, fun _ => ⟨hTd, HC9.out.below (Below.drewN' (Below.refl _ _) _)⟩⟩, HK9.out.drewN _⟩
  · have hn : S.next c = S := by unfold S17.next; rw [hd, if_neg (by simp), if_pos he]
    rw [hn]
    obtain ⟨_, hc⟩ := h.no he
    obtain ⟨x, hx⟩ : ∃ x : Int, (S.err : Int) = x := ⟨_, rfl⟩
    have c8 : w.cell? ⟨g, 8, none⟩ = some (.bool false) := hc.cell 8
    have c9 : w.cell? ⟨g, 9, none⟩ = some (.int .i64 x) := by rw [← hx]; exact hc.cell 9
    have q0 : (x == 0) = false := by
      have : ¬ x = 0 := by omega
      simpa using this
    have q1 : (x != 0) = true := by
      have : ¬ x = 0 := by omega
      simpa using this
    have HD := Lib.hid hd
    have HX := Lib.hid hx
    clear hc h hn hd he hT hS hx
    go_enter Tryd.func9, Tryd.ntmps9
    go_wp2
    go_quiet (fail)
    go_wp2
    go_ret2
    exact ⟨by rw [HD.out, HX.out]; rfl, H.out.below (HBn.out _), .of_below (HBn.out _)⟩

/-! ### Request -/
def reqV (R : Q17) : Value := .agg #[.int .i64 (R.m : Int), .string (ba R.path), .bool R.icy, .bool R.told, .string (ba R.pass)]
def q17Zero : Q17 := ⟨0, [], false, false, []⟩
theorem results_cell17 {fn : Func} {p u : Tmp} {ty : TypeId} {tmps : Array Value} {P : Program} {w : World} {g : Nat} {v v' : Value} (h : fn.results = #[.cell p ty, .tmp u]) (hp : tmps.getD p undef = .pointer (some ⟨g, 0, none⟩)) (hv : tmps.getD u undef = v')
    (e : (loadVar ty ⟨g, 0, none⟩).run P w = .ok v w) : (results fn tmps).run P w = .ok (.tuple #[v, v']) w := by
  rw [results_cell_tmp h, hp, hv]
  simp [asAddr, Result.andThen, e]
end Go.Proofs.YtkledfalplekeaaDoor
