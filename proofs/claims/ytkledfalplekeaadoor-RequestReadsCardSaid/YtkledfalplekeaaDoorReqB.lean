/- Any bytes, one by one: the walk. -/
import Derived.Test.YtkledfalplekeaaDoorReqQ
import Derived.Test.YtkledfalplekeaaDoorHeld
import Derived.Deep.CutBlock
import Derived.Deep.DeepCutAuto
namespace Go.Proofs.YtkledfalplekeaaDoor
open Go Go.RowKit Go.PlainAid
set_option linter.unusedVariables false
set_option linter.unusedSimpArgs false

/-- What is held at a round's head. -/
structure Rd17 (w : World) (g t : Nat) (S : S17) (wr : World) : Prop where
  r : RqAt wr w.heap.size g S
  a : RefAt wr t S
  tb : TabB w.heap.size wr
  b : Below w.heap.size w wr
  ok : S.Ok
  bt : w.heap.size ≤ t
theorem RefAt.typ {w : World} {t : Nat} {S : S17} (h : RefAt w t S) : TypAt w t 29 := by
  obtain ⟨cs, h1, _⟩ := h
  exact h1.typ17
theorem RqF_ge {w W : World} {g j : Nat} (hg : w.heap.size ≤ g) (h : RqF W w.heap.size g j) : w.heap.size ≤ j := by
  rcases h with rfl | ⟨h, _⟩
  · exact hg
  · exact h
theorem Rd17.now {w : World} {g t : Nat} {S : S17} {wr w' : World} (h : Rd17 w g t S wr) (b : Below wr.heap.size wr w') : Rd17 w g t S w' :=
  ⟨h.r.below b, h.a.below b, h.tb.below b, chain h.b b, h.ok, h.bt⟩
/-- Behind the document's byte: the program's reader stands where it stood. -/
structure Rm17 (w : World) (g t : Nat) (S T : S17) (wr : World) : Prop where
  r : RqAt wr w.heap.size g S
  a : RefAt wr t T
  tb : TabB w.heap.size wr
  b : Below w.heap.size w wr
  ok : S.Ok
  bt : w.heap.size ≤ t
theorem Rd17.mid {w : World} {g t : Nat} {S T : S17} {wr w' : World} (h : Rd17 w g t S wr) (k : Keeps (· = t) wr w') (ha : RefAt w' t T) : Rm17 w g t S T w' :=
  ⟨h.r.keeps k fun j hj => by subst hj; exact ⟨_, h.a.typ, by decide, by decide⟩, ha, h.tb.keeps k fun j hj => by subst hj; exact h.bt, h.b.trans (k.below h.b.size fun j hj => by subst hj; exact h.bt), h.ok, h.bt⟩
theorem Rd17.same {w : World} {g t : Nat} {S : S17} {wr : World} (h : Rd17 w g t S wr) : Rm17 w g t S S wr := ⟨h.r, h.a, h.tb, h.b, h.ok, h.bt⟩
theorem Rm17.fed {w : World} {g t : Nat} {S T : S17} {wr w' : World} (h : Rm17 w g t S T wr) (k : Keeps (RqF wr w.heap.size g) wr w') (hr : RqAt w' w.heap.size g T) (ok : T.Ok) : Rd17 w g t T w' := by
  have hge : ∀ j, RqF wr w.heap.size g j → w.heap.size ≤ j := fun j hj => RqF_ge h.r.b hj
  refine ⟨hr, h.a.keeps k ?_, h.tb.keeps k hge, h.b.trans (k.below h.b.size hge), ok, h.bt⟩
  rintro (e | ⟨_, e⟩)
  · subst e
    exact h.a.typ.ne17 h.r.typ (by decide) rfl
  · exact h.a.typ.ne17 e (by decide) rfl
theorem RefAt.asked {w : World} {t : Nat} {S : S17} (h : RefAt w t S) (e : S.err = 0) : w.cell? ⟨t, 5, none⟩ = some (.int .i64 (S.R.m : Int)) ∧ w.cell? ⟨t, 6, none⟩ = some (.string (ba S.R.path)) ∧ w.cell? ⟨t, 7, none⟩ = some (.bool S.R.icy) ∧ w.cell? ⟨t, 8, none⟩ = some (.bool S.R.told) ∧ w.cell? ⟨t, 9, none⟩ = some (.string (ba S.R.pass)) := by
  have h := h.cel e
  exact ⟨h.cell 5, h.cell 6, h.cell 7, h.cell 8, h.cell 9⟩
set_option maxHeartbeats 16000000 in
set_option maxRecDepth 100000 in
theorem requestReads_law (s : ByteArray) (w : World) (hT : Lib.Utf8Tabs 1 2 w) :
    Calls Tryd.prog 3 #[.string s] w fun e w' => e = .returned (.bool true) ∧ Below w.heap.size w w' := by
  have C0 := lives17 w hT
  by_cases h900 : 900 < s.size
  · have C1 : ∀ W, Below w.heap.size w W → Calls Tryd.prog 6 #[] W fun e w' => e = .returned (.bool true) ∧ Below W.heap.size W w' := fun W hb => lives17 W (Utf8Tabs_below hT hb)
    go_enter Tryd.func3, Tryd.ntmps3
    go_wp2_with (first
      | (go_at_call 6; ((with_reducible refine C0.mono ?_)); rintro e w1 ⟨rfl, b1⟩)
      | (go_at_call 6; refine (C1 _ b1).mono ?_; rintro e w2 ⟨rfl, b2⟩))
    go_ret
    exact ⟨rfl, chain b1 b2⟩
  have hb := get_bt s
  have HB : RowKit.Hid (∀ k, bt s k = ((s.data.toList.getD k 0).toNat : Int)) := bt_list s
  have HT := Lib.hid (TabB.start hT)
  have hs9 : ¬ 900 < (s.size : Int) := by omega
  clear hT h900
  go_enter Tryd.func3, Tryd.ntmps3
  go_wp2_with (first
    | (go_at_call 6; ((with_reducible refine C0.mono ?_)); rintro e w1 ⟨rfl, b1⟩)
    | (go_at_call 7; refine (new_any w1).mono ?_; rintro e w2 ⟨rfl, hc, b2⟩; have H2 : RowKit.Hid (RqAt w2 w.heap.size w1.heap.size s17Zero ∧ TabB w.heap.size w2 ∧ Below w.heap.size w w2) := (by have b12 := chain b1 b2; exact ⟨.start hc b1.size, HT.out.below b12, b12⟩); clear hc b2))
  obtain ⟨g, hg⟩ : ∃ g, w1.heap.size = g := ⟨_, rfl⟩
  obtain ⟨t, ht⟩ : ∃ t, w2.heap.size = t := ⟨_, rfl⟩
  have HI : RowKit.Hid (Rd17 w g t s17Zero (w2.alloc (.cells #[.int .i64 0, .bool false, .string ⟨#[]⟩, .bool false, .int .i64 0, .int .i64 0, .string ⟨#[]⟩, .bool false, .bool false, .string ⟨#[]⟩, .bool false, .bool false] 29))) := by
    have ba := Below.alloc_new w2 (.cells #[.int .i64 0, .bool false, .string ⟨#[]⟩, .bool false, .int .i64 0, .int .i64 0, .string ⟨#[]⟩, .bool false, .bool false, .string ⟨#[]⟩, .bool false, .bool false] 29)
    obtain ⟨h1, h2, h3⟩ := H2.out
    rw [hg] at h1
    exact ⟨h1.below ba, .of (by rw [← ht]; exact Cel.new w2 _ _), h2.below ba, chain h3 ba, s17Zero_ok, by rw [← ht]; exact h3.size⟩
  rw [hg, ht]
  clear H2 C0 b1
  go_loopw [24] (fun v wr => ∃ (i : Nat) (S : S17), v = .int .i64 i ∧ i ≤ s.size ∧ RowKit.Hid (Rd17 w g t S wr)) (fun v _ => s.size - (intOf v).toNat)
  case atStart => exact ⟨0, s17Zero, rfl, by omega, HI⟩
  case round =>
    clear HI
    obtain ⟨i, S, rfl, hi, H⟩ := hrel
    by_cases hlt : i < s.size
    · obtain ⟨c, hc⟩ : ∃ c, s.data.toList.getD i 0 = c := ⟨_, rfl⟩
      have hbi : bt s i = (c.toNat : Int) := by rw [HB.out, hc]
      obtain ⟨c3, c4⟩ := H.out.a.cells
      clear hc
      cases hd : S.done with
      | true =>
        have he : S.err = 0 := by
          by_cases e : S.err = 0
          · exact e
          · have := (H.out.r.no e).1
            rw [hd] at this
            cases this
        have C := rFeed_over w.heap.size g S (c.toNat : Int) wr H.out.r hd
        have CQ := rReq_any w.heap.size g S wr H.out.r
        rw [hd, if_pos rfl] at CQ
        unfold reqV at CQ
        rw [hd] at c3
        rw [show (S.err : Int) = 0 by rw [he]; rfl] at c4
        have CF : ∀ W : World, Calls Tryd.prog 11 #[.agg #[.int .i64 (S.R.m : Int), .string (ba S.R.path), .bool S.R.icy, .bool S.R.told, .string (ba S.R.pass)]] W fun e w' => e = .returned (.agg #[.int .i64 (S.R.m : Int), .string (ba S.R.path), .bool S.R.icy, .bool S.R.told, .string (ba S.R.pass)]) ∧ Below W.heap.size W w' := fun W => of_any S.R W
        have HA : RowKit.Hid (∀ W : World, Rd17 w g t S W → (W.cell? ⟨t, 3, none⟩ = some (.bool true)) ∧ W.cell? ⟨t, 5, none⟩ = some (.int .i64 (S.R.m : Int)) ∧ W.cell? ⟨t, 6, none⟩ = some (.string (ba S.R.path)) ∧ W.cell? ⟨t, 7, none⟩ = some (.bool S.R.icy) ∧ W.cell? ⟨t, 8, none⟩ = some (.bool S.R.told) ∧ W.cell? ⟨t, 9, none⟩ = some (.string (ba S.R.pass))) := by
          intro W h
          obtain ⟨q3, _⟩ := h.a.cells
          rw [hd] at q3
          exact ⟨q3, h.a.asked he⟩
        generalize (c.toNat : Int) = k at *
        generalize (S.R.m : Int) = m at *
        generalize ba S.R.path = xp at *
        generalize S.R.icy = ic at *
        generalize S.R.told = tl at *
        generalize ba S.R.pass = xq at *
        clear hd he
        go_upto_region 17 with (first
          | (go_at_call 9; ((with_reducible refine C.mono ?_)); rintro e w2 ⟨rfl, rfl⟩)
          | (go_at_call 10; ((with_reducible refine CQ.mono ?_)); rintro e w3 ⟨rfl, b3⟩))
        have H3 := Lib.hid (H.out.now b3)
        obtain ⟨W4, hW4⟩ : ∃ W4, w3.alloc (.cells #[.int .i64 m, .string xp, .bool ic, .bool tl, .string xq] 36) = W4 := ⟨_, rfl⟩
        have H4 : RowKit.Hid (Rd17 w g t S W4) := by rw [← hW4]; exact H3.out.now (Below.alloc_new w3 _)
        have hq : Cel W4 w3.heap.size 36 #[.int .i64 m, .string xp, .bool ic, .bool tl, .string xq] := by rw [← hW4]; exact Cel.new w3 _ _
        rw [hW4]
        clear hW4 H3 C CQ
        generalize w3.heap.size = qb at *
        have HSS : RowKit.Hid (∀ w' : World, Below W4.heap.size W4 w' → Below W4.heap.size W4 w' ∧ w'.cell? ⟨t, 3, none⟩ = some (.bool true) ∧ w'.cell? ⟨t, 5, none⟩ = some (.int .i64 m) ∧ w'.cell? ⟨t, 6, none⟩ = some (.string xp) ∧ w'.cell? ⟨t, 7, none⟩ = some (.bool ic) ∧ w'.cell? ⟨t, 8, none⟩ = some (.bool tl) ∧ w'.cell? ⟨t, 9, none⟩ = some (.string xq) ∧ w'.cell? ⟨qb, 0, none⟩ = some (.int .i64 m) ∧ w'.cell? ⟨qb, 1, none⟩ = some (.string xp) ∧ w'.cell? ⟨qb, 2, none⟩ = some (.bool ic) ∧ w'.cell? ⟨qb, 3, none⟩ = some (.bool tl) ∧ w'.cell? ⟨qb, 4, none⟩ = some (.string xq)) := by
          intro w' hb
          obtain ⟨t3, t5, t6, t7, t8, t9⟩ := HA.out w' (H4.out.now hb)
          have hq' := hq.below hb
          exact ⟨hb, t3, t5, t6, t7, t8, t9, hq'.cell 0, hq'.cell 1, hq'.cell 2, hq'.cell 3, hq'.cell 4⟩
        clear hq
        go_wp2
        refine wp_region_held_drew (S := fun w' => Below W4.heap.size W4 w' ∧ w'.cell? ⟨t, 3, none⟩ = some (.bool true) ∧ w'.cell? ⟨t, 5, none⟩ = some (.int .i64 m) ∧ w'.cell? ⟨t, 6, none⟩ = some (.string xp) ∧ w'.cell? ⟨t, 7, none⟩ = some (.bool ic) ∧ w'.cell? ⟨t, 8, none⟩ = some (.bool tl) ∧ w'.cell? ⟨t, 9, none⟩ = some (.string xq) ∧ w'.cell? ⟨qb, 0, none⟩ = some (.int .i64 m) ∧ w'.cell? ⟨qb, 1, none⟩ = some (.string xp) ∧ w'.cell? ⟨qb, 2, none⟩ = some (.bool ic) ∧ w'.cell? ⟨qb, 3, none⟩ = some (.bool tl) ∧ w'.cell? ⟨qb, 4, none⟩ = some (.string xq)) rfl (HSS.out _ (Below.drewN' (Below.refl _ _) 1)) (fun hS0 => ?_)
        refine wpAnyH_take (i := 0) (v := ?_) rfl (by kernel_rfl) (by kernel_rfl) (by kernel_rfl) (fun _ _ _ h => h) (Or.inl ⟨by rfl, ?_⟩) (by assumption) ?_
        rotate_left 1
        · intro wq hSw
          (try dsimp only at hSw)
          go_simp
          all_goals (with_reducible rfl)
        (try simp only [Act.put, List.setIfInBounds_toArray, List.set_cons_zero, List.set_cons_succ, List.getElem_toArray, List.getElem_cons_zero, List.getElem_cons_succ])
        refine wpAnyH_take (i := 1) (v := ?_) rfl (by kernel_rfl) (by kernel_rfl) (by kernel_rfl) (fun _ _ _ h => h) (Or.inl ⟨by rfl, ?_⟩) (by assumption) ?_
        rotate_left 1
        · intro wq hSw
          (try dsimp only at hSw)
          go_simp
          all_goals (with_reducible rfl)
        (try simp only [Act.put, List.setIfInBounds_toArray, List.set_cons_zero, List.set_cons_succ, List.getElem_toArray, List.getElem_cons_zero, List.getElem_cons_succ])
        refine wpAnyH_take (i := 2) (v := ?_) rfl (by kernel_rfl) (by kernel_rfl) (by kernel_rfl) (fun _ _ _ h => h) (Or.inl ⟨by rfl, ?_⟩) (by assumption) ?_
        rotate_left 1
        · intro wq hSw
          (try dsimp only at hSw)
          go_simp
          all_goals (with_reducible rfl)
        (try simp only [Act.put, List.setIfInBounds_toArray, List.set_cons_zero, List.set_cons_succ, List.getElem_toArray, List.getElem_cons_zero, List.getElem_cons_succ])
        refine wpAnyH_take (i := 3) (v := ?_) rfl (by kernel_rfl) (by kernel_rfl) (by kernel_rfl) (fun _ _ _ h => h) (Or.inl ⟨by rfl, ?_⟩) (by assumption) ?_
        rotate_left 1
        · intro wq hSw
          (try dsimp only at hSw)
          go_simp
          all_goals (with_reducible rfl)
        (try simp only [Act.put, List.setIfInBounds_toArray, List.set_cons_zero, List.set_cons_succ, List.getElem_toArray, List.getElem_cons_zero, List.getElem_cons_succ])
        refine wpAnyH_take (i := 4) (v := ?_) rfl (by kernel_rfl) (by kernel_rfl) (by kernel_rfl) (fun _ _ _ h => h) (Or.inl ⟨by rfl, ?_⟩) (by assumption) ?_
        rotate_left 1
        · intro wq hSw
          (try dsimp only at hSw)
          go_simp
          all_goals (with_reducible rfl)
        (try simp only [Act.put, List.setIfInBounds_toArray, List.set_cons_zero, List.set_cons_succ, List.getElem_toArray, List.getElem_cons_zero, List.getElem_cons_succ])
        refine wpAnyH_take (i := 5) (v := ?_) rfl (by kernel_rfl) (by kernel_rfl) (by kernel_rfl) (fun _ _ _ h => h) (Or.inl ⟨by rfl, ?_⟩) (by assumption) ?_
        rotate_left 1
        · intro wq hSw
          (try dsimp only at hSw)
          go_simp
          all_goals (with_reducible rfl)
        (try simp only [Act.put, List.setIfInBounds_toArray, List.set_cons_zero, List.set_cons_succ, List.getElem_toArray, List.getElem_cons_zero, List.getElem_cons_succ])
        refine wpAnyH_take (i := 6) (v := ?_) rfl (by kernel_rfl) (by kernel_rfl) (by kernel_rfl) (fun _ _ _ h => h) (Or.inl ⟨by rfl, ?_⟩) (by assumption) ?_
        rotate_left 1
        · intro wq hSw
          (try dsimp only at hSw)
          go_simp
          all_goals (with_reducible rfl)
        (try simp only [Act.put, List.setIfInBounds_toArray, List.set_cons_zero, List.set_cons_succ, List.getElem_toArray, List.getElem_cons_zero, List.getElem_cons_succ])
        refine wpAnyH_take (i := 7) (v := ?_) rfl (by kernel_rfl) (by kernel_rfl) (by kernel_rfl) (fun _ _ _ h => h) (Or.inl ⟨by rfl, ?_⟩) (by assumption) ?_
        rotate_left 1
        · intro wq hSw
          (try dsimp only at hSw)
          go_simp
          all_goals (with_reducible rfl)
        (try simp only [Act.put, List.setIfInBounds_toArray, List.set_cons_zero, List.set_cons_succ, List.getElem_toArray, List.getElem_cons_zero, List.getElem_cons_succ])
        refine wpAnyH_take (i := 8) (v := ?_) rfl (by kernel_rfl) (by kernel_rfl) (by kernel_rfl) (fun _ _ _ h => h) (Or.inl ⟨by rfl, ?_⟩) (by assumption) ?_
        rotate_left 1
        · intro wq hSw
          (try dsimp only at hSw)
          go_simp
          all_goals (with_reducible rfl)
        (try simp only [Act.put, List.setIfInBounds_toArray, List.set_cons_zero, List.set_cons_succ, List.getElem_toArray, List.getElem_cons_zero, List.getElem_cons_succ])
        refine wpAnyH_take (i := 9) (v := ?_) rfl (by kernel_rfl) (by kernel_rfl) (by kernel_rfl) (fun _ _ _ h => h) (Or.inl ⟨by rfl, ?_⟩) (by assumption) ?_
        rotate_left 1
        · intro wq hSw
          (try dsimp only at hSw)
          go_simp
          all_goals (with_reducible rfl)
        (try simp only [Act.put, List.setIfInBounds_toArray, List.set_cons_zero, List.set_cons_succ, List.getElem_toArray, List.getElem_cons_zero, List.getElem_cons_succ])
        refine wpAnyH_take (i := 11) (v := ?_) rfl (by kernel_rfl) (by kernel_rfl) (by kernel_rfl) (fun _ _ _ h => h) (Or.inl ⟨by rfl, ?_⟩) (by assumption) ?_
        rotate_left 1
        · intro wq hSw
          (try dsimp only at hSw)
          go_simp
          all_goals (with_reducible rfl)
        (try simp only [Act.put, List.setIfInBounds_toArray, List.set_cons_zero, List.set_cons_succ, List.getElem_toArray, List.getElem_cons_zero, List.getElem_cons_succ])
        refine wpAnyH_take (i := 12) (v := ?_) rfl (by kernel_rfl) (by kernel_rfl) (by kernel_rfl) (fun _ _ _ h => h) (Or.inl ⟨by rfl, ?_⟩) (by assumption) ?_
        rotate_left 1
        · intro wq hSw
          (try dsimp only at hSw)
          go_simp
          all_goals (with_reducible rfl)
        (try simp only [Act.put, List.setIfInBounds_toArray, List.set_cons_zero, List.set_cons_succ, List.getElem_toArray, List.getElem_cons_zero, List.getElem_cons_succ])
        refine wpAnyH_take (i := 13) (v := ?_) rfl (by kernel_rfl) (by kernel_rfl) (by kernel_rfl) (fun _ _ _ h => h) (Or.inl ⟨by rfl, ?_⟩) (by assumption) ?_
        rotate_left 1
        · intro wq hSw
          (try dsimp only at hSw)
          go_simp
          all_goals (with_reducible rfl)
        (try simp only [Act.put, List.setIfInBounds_toArray, List.set_cons_zero, List.set_cons_succ, List.getElem_toArray, List.getElem_cons_zero, List.getElem_cons_succ])
        refine wpAnyH_take (i := 14) (v := ?_) rfl (by kernel_rfl) (by kernel_rfl) (by kernel_rfl) (fun _ _ _ h => h) (Or.inl ⟨by rfl, ?_⟩) (by assumption) ?_
        rotate_left 1
        · intro wq hSw
          (try dsimp only at hSw)
          go_simp
          all_goals (with_reducible rfl)
        (try simp only [Act.put, List.setIfInBounds_toArray, List.set_cons_zero, List.set_cons_succ, List.getElem_toArray, List.getElem_cons_zero, List.getElem_cons_succ])
        refine wpAnyH_ready (rs := [10]) (by kernel_rfl) (by simp) ?_
        refine AllReadyH.cons rfl (fun K hK => ?_) AllReadyH.nil
        go_simp
        go_at_call 11
        refine (CF _).mono ?_
        rintro e5 w5 ⟨rfl, b5⟩
        have b45 : Below W4.heap.size W4 w5 := chain hS0.1 b5
        have hS5 := HSS.out w5 b45
        refine hK.out _ _ hS5 (fun _ => ?_)
        clear hK K hS0 b5
        (try simp only [Act.put, List.setIfInBounds_toArray, List.set_cons_zero, List.set_cons_succ, List.getElem_toArray, List.getElem_cons_zero, List.getElem_cons_succ])
        refine wpAnyH_take (i := 15) (v := ?_) rfl (by kernel_rfl) (by kernel_rfl) (by kernel_rfl) (fun _ _ _ h => h) (Or.inl ⟨by rfl, ?_⟩) (by assumption) ?_
        rotate_left 1
        · intro wq hSw
          (try dsimp only at hSw)
          go_simp
          all_goals (with_reducible rfl)
        (try simp only [Act.put, List.setIfInBounds_toArray, List.set_cons_zero, List.set_cons_succ, List.getElem_toArray, List.getElem_cons_zero, List.getElem_cons_succ])
        refine wpAnyH_take (i := 16) (v := ?_) rfl (by kernel_rfl) (by kernel_rfl) (by kernel_rfl) (fun _ _ _ h => h) (Or.inl ⟨by rfl, ?_⟩) (by assumption) ?_
        rotate_left 1
        · intro wq hSw
          (try dsimp only at hSw)
          go_simp
          all_goals (with_reducible rfl)
        (try simp only [Act.put, List.setIfInBounds_toArray, List.set_cons_zero, List.set_cons_succ, List.getElem_toArray, List.getElem_cons_zero, List.getElem_cons_succ])
        refine wpAnyH_take (i := 17) (v := ?_) rfl (by kernel_rfl) (by kernel_rfl) (by kernel_rfl) (fun _ _ _ h => h) (Or.inl ⟨by rfl, ?_⟩) (by assumption) ?_
        rotate_left 1
        · intro wq hSw
          (try dsimp only at hSw)
          go_simp
          all_goals (with_reducible rfl)
        (try simp only [Act.put, List.setIfInBounds_toArray, List.set_cons_zero, List.set_cons_succ, List.getElem_toArray, List.getElem_cons_zero, List.getElem_cons_succ])
        refine wpAnyH_take (i := 18) (v := ?_) rfl (by kernel_rfl) (by kernel_rfl) (by kernel_rfl) (fun _ _ _ h => h) (Or.inl ⟨by rfl, ?_⟩) (by assumption) ?_
        rotate_left 1
        · intro wq hSw
          (try dsimp only at hSw)
          go_simp
          all_goals (with_reducible rfl)
        (try simp only [Act.put, List.setIfInBounds_toArray, List.set_cons_zero, List.set_cons_succ, List.getElem_toArray, List.getElem_cons_zero, List.getElem_cons_succ])
        refine wpAnyH_take (i := 19) (v := ?_) rfl (by kernel_rfl) (by kernel_rfl) (by kernel_rfl) (fun _ _ _ h => h) (Or.inl ⟨by rfl, ?_⟩) (by assumption) ?_
        rotate_left 1
        · intro wq hSw
          (try dsimp only at hSw)
          go_simp
          all_goals (with_reducible rfl)
        (try simp only [Act.put, List.setIfInBounds_toArray, List.set_cons_zero, List.set_cons_succ, List.getElem_toArray, List.getElem_cons_zero, List.getElem_cons_succ])
        refine wpAnyH_take (i := 20) (v := ?_) rfl (by kernel_rfl) (by kernel_rfl) (by kernel_rfl) (fun _ _ _ h => h) (Or.inl ⟨by rfl, ?_⟩) (by assumption) ?_
        rotate_left 1
        · intro wq hSw
          (try dsimp only at hSw)
          go_simp
          all_goals (with_reducible rfl)
        (try simp only [Act.put, List.setIfInBounds_toArray, List.set_cons_zero, List.set_cons_succ, List.getElem_toArray, List.getElem_cons_zero, List.getElem_cons_succ])
        refine wpAnyH_take (i := 21) (v := ?_) rfl (by kernel_rfl) (by kernel_rfl) (by kernel_rfl) (fun _ _ _ h => h) (Or.inl ⟨by rfl, ?_⟩) (by assumption) ?_
        rotate_left 1
        · intro wq hSw
          (try dsimp only at hSw)
          go_simp
          all_goals (with_reducible rfl)
        (try simp only [Act.put, List.setIfInBounds_toArray, List.set_cons_zero, List.set_cons_succ, List.getElem_toArray, List.getElem_cons_zero, List.getElem_cons_succ])
        refine wpAnyH_take (i := 22) (v := undef) rfl (by kernel_rfl) (by kernel_rfl) (by kernel_rfl) (fun _ _ _ h => h) (Or.inr ⟨by rfl, rfl⟩) (by assumption) ?_
        (try simp only [Act.put, List.setIfInBounds_toArray, List.set_cons_zero, List.set_cons_succ, List.getElem_toArray, List.getElem_cons_zero, List.getElem_cons_succ])
        refine wpAnyH_take (i := 23) (v := undef) rfl (by kernel_rfl) (by kernel_rfl) (by kernel_rfl) (fun _ _ _ h => h) (Or.inr ⟨by rfl, rfl⟩) (by assumption) ?_
        (try simp only [Act.put, List.setIfInBounds_toArray, List.set_cons_zero, List.set_cons_succ, List.getElem_toArray, List.getElem_cons_zero, List.getElem_cons_succ])
        refine wpAnyH_take (i := 24) (v := undef) rfl (by kernel_rfl) (by kernel_rfl) (by kernel_rfl) (fun _ _ _ h => h) (Or.inr ⟨by rfl, rfl⟩) (by assumption) ?_
        (try simp only [Act.put, List.setIfInBounds_toArray, List.set_cons_zero, List.set_cons_succ, List.getElem_toArray, List.getElem_cons_zero, List.getElem_cons_succ])
        refine wpAnyH_take (i := 25) (v := ?_) rfl (by kernel_rfl) (by kernel_rfl) (by kernel_rfl) (fun _ _ _ h => h) (Or.inl ⟨by rfl, ?_⟩) (by assumption) ?_
        rotate_left 1
        · intro wq hSw
          (try dsimp only at hSw)
          go_simp
          all_goals (with_reducible rfl)
        (try simp only [Act.put, List.setIfInBounds_toArray, List.set_cons_zero, List.set_cons_succ, List.getElem_toArray, List.getElem_cons_zero, List.getElem_cons_succ])
        refine wpAnyH_take (i := 26) (v := ?_) rfl (by kernel_rfl) (by kernel_rfl) (by kernel_rfl) (fun _ _ _ h => h) (Or.inl ⟨by rfl, ?_⟩) (by assumption) ?_
        rotate_left 1
        · intro wq hSw
          (try dsimp only at hSw)
          go_simp
          all_goals (with_reducible rfl)
        (try simp only [Act.put, List.setIfInBounds_toArray, List.set_cons_zero, List.set_cons_succ, List.getElem_toArray, List.getElem_cons_zero, List.getElem_cons_succ])
        refine wpAnyH_done (by kernel_rfl) ?_ _
        have H5 := Lib.hid (H4.out.now b45)
        clear hS5 b45 HSS H4
        go_wp2
        go_roundw
        case rel => exact ⟨i + 1, S, by go_num, by omega, H5⟩
        case measure => simp [intOf]; omega
      | false =>
        have CQ : ∀ (U : S17) (W : World), U.done = false → Rd17 w g t U W → Calls Tryd.prog 10 #[.pointer (some ⟨g, 0, none⟩)] W fun e w' => e = .returned (.tuple #[.agg #[.int .i64 0, .string ⟨#[]⟩, .bool false, .bool false, .string ⟨#[]⟩], .bool false]) ∧ Below W.heap.size W w' := by
          intro U W hU h
          have := rReq_any w.heap.size g U W h.r
          rw [hU] at this
          exact this
        have HZ : RowKit.Hid (∀ (U : S17) (W : World), U.done = false → Rd17 w g t U W → ∀ x : Int, (U.err : Int) = x → Rd17 w g t U (W.alloc (.cells #[.int .i64 0, .string ⟨#[]⟩, .bool false, .bool false, .string ⟨#[]⟩] 36)) ∧ (W.alloc (.cells #[.int .i64 0, .string ⟨#[]⟩, .bool false, .bool false, .string ⟨#[]⟩] 36)).cell? ⟨t, 3, none⟩ = some (.bool false) ∧ (W.alloc (.cells #[.int .i64 0, .string ⟨#[]⟩, .bool false, .bool false, .string ⟨#[]⟩] 36)).cell? ⟨t, 4, none⟩ = some (.int .i64 x) ∧
            ∀ j v, (#[.int .i64 0, .string ⟨#[]⟩, .bool false, .bool false, .string ⟨#[]⟩] : Array Value)[j]? = some v → (W.alloc (.cells #[.int .i64 0, .string ⟨#[]⟩, .bool false, .bool false, .string ⟨#[]⟩] 36)).cell? ⟨W.heap.size, j, none⟩ = some v) := by
          intro U W hU h x hx
          have h' := h.now (Below.alloc_new W (.cells #[.int .i64 0, .string ⟨#[]⟩, .bool false, .bool false, .string ⟨#[]⟩] 36))
          obtain ⟨q3, q4⟩ := h'.a.cells
          rw [hU] at q3
          rw [hx] at q4
          exact ⟨h', q3, q4, fun j v hv => (Cel.cell (Cel.new W _ _) j).trans hv⟩
        by_cases he : S.err = 0
        · have CR := refFeed_any t S c wr H.out.a he hd H.out.ok
          have CFd : ∀ W, Rm17 w g t S (S.feed c) W → Calls Tryd.prog 9 #[.pointer (some ⟨g, 0, none⟩), .int .u8 (c.toNat : Int)] W (FeedR w.heap.size g (S.feed c) W) := by
            intro W h
            have := rFeed_any w.heap.size g S c W h.r hd h.ok h.tb
            rw [show S.next c = S.feed c by unfold S17.next; rw [hd, he]; rfl] at this
            exact this
          have HOK := Lib.hid (feed_ok H.out.ok c)
          have HTE := Lib.hid (feed_err (S := S) c)
          have HTE2 : RowKit.Hid ((S.feed c).done = true → (S.feed c).err = 0) := by
            intro h
            by_cases e : (S.feed c).err = 0
            · exact e
            · have := HTE.out e he
              rw [h, hd] at this
              cases this
          rw [hd] at c3
          rw [show (S.err : Int) = 0 by rw [he]; rfl] at c4
          clear HTE hd he
          generalize S.feed c = T at *
          generalize (c.toNat : Int) = k at *
          cases hTd : T.done with
          | true =>
            have he := HTE2.out hTd
            have CQ : ∀ W : World, Rd17 w g t T W → Calls Tryd.prog 10 #[.pointer (some ⟨g, 0, none⟩)] W fun e w' => e = .returned (.tuple #[.agg #[.int .i64 (T.R.m : Int), .string (ba T.R.path), .bool T.R.icy, .bool T.R.told, .string (ba T.R.pass)], .bool true]) ∧ Below W.heap.size W w' := by
              intro W h
              have := rReq_any w.heap.size g T W h.r
              rw [hTd] at this
              exact this
            have CF : ∀ W : World, Calls Tryd.prog 11 #[.agg #[.int .i64 (T.R.m : Int), .string (ba T.R.path), .bool T.R.icy, .bool T.R.told, .string (ba T.R.pass)]] W fun e w' => e = .returned (.agg #[.int .i64 (T.R.m : Int), .string (ba T.R.path), .bool T.R.icy, .bool T.R.told, .string (ba T.R.pass)]) ∧ Below W.heap.size W w' := fun W => of_any T.R W
            have HA : RowKit.Hid (∀ W : World, Rd17 w g t T W → (W.cell? ⟨t, 3, none⟩ = some (.bool true)) ∧ W.cell? ⟨t, 5, none⟩ = some (.int .i64 (T.R.m : Int)) ∧ W.cell? ⟨t, 6, none⟩ = some (.string (ba T.R.path)) ∧ W.cell? ⟨t, 7, none⟩ = some (.bool T.R.icy) ∧ W.cell? ⟨t, 8, none⟩ = some (.bool T.R.told) ∧ W.cell? ⟨t, 9, none⟩ = some (.string (ba T.R.pass))) := by
              intro W h
              obtain ⟨q3, _⟩ := h.a.cells
              rw [hTd] at q3
              exact ⟨q3, h.a.asked he⟩
            have HA4 : RowKit.Hid (∀ W : World, Rd17 w g t T W → W.cell? ⟨t, 4, none⟩ = some (.int .i64 0)) := by
              intro W h
              have := h.a.cells.2
              rw [he] at this
              exact this
            have C : ∀ W, Rm17 w g t S T W → Calls Tryd.prog 9 #[.pointer (some ⟨g, 0, none⟩), .int .u8 k] W fun e w' => e = .returned (.tuple #[.bool true, .int .i64 0]) ∧ RqAt w' w.heap.size g T ∧ Keeps (RqF W w.heap.size g) W w' := by
              intro W h
              refine (CFd W h).mono ?_
              rintro e w' ⟨h1, h2, h3⟩
              rw [hTd, he] at h1
              exact ⟨h1, h2, h3⟩
            generalize (T.R.m : Int) = m at *
            generalize ba T.R.path = xp at *
            generalize T.R.icy = ic at *
            generalize T.R.told = tl at *
            generalize ba T.R.pass = xq at *
            clear hTd he HZ CFd HTE2
            go_upto_region 17 with (first
              | (go_at_call 8; refine CR.mono ?_; rintro e w5 ⟨rfl, ha, k5⟩; have M5 := Lib.hid (H.out.mid k5 ha); clear ha k5)
              | (go_at_call 9; ((with_reducible refine (C _ M5.out).mono ?_)); rintro e w2 ⟨rfl, hr, k2⟩; have H2 := Lib.hid (M5.out.fed k2 hr HOK.out); clear hr k2)
              | (go_at_call 10; ((with_reducible refine (CQ _ H2.out).mono ?_)); rintro e w3 ⟨rfl, b3⟩; have H3 := Lib.hid (H2.out.now b3); have H3' := Lib.hid (H3.out.now (Below.alloc_new w3 (.cells #[.int .i64 m, .string xp, .bool ic, .bool tl, .string xq] 36))); have e3 := (HA.out _ H3'.out).1; have e4 := HA4.out _ H3'.out))
            clear e3 e4 H3'
            obtain ⟨W4, hW4⟩ : ∃ W4, w3.alloc (.cells #[.int .i64 m, .string xp, .bool ic, .bool tl, .string xq] 36) = W4 := ⟨_, rfl⟩
            have H4 : RowKit.Hid (Rd17 w g t T W4) := by rw [← hW4]; exact H3.out.now (Below.alloc_new w3 _)
            have hq : Cel W4 w3.heap.size 36 #[.int .i64 m, .string xp, .bool ic, .bool tl, .string xq] := by rw [← hW4]; exact Cel.new w3 _ _
            rw [hW4]
            clear hW4 H3 C CQ
            generalize w3.heap.size = qb at *
            have HSS : RowKit.Hid (∀ w' : World, Below W4.heap.size W4 w' → Below W4.heap.size W4 w' ∧ w'.cell? ⟨t, 3, none⟩ = some (.bool true) ∧ w'.cell? ⟨t, 5, none⟩ = some (.int .i64 m) ∧ w'.cell? ⟨t, 6, none⟩ = some (.string xp) ∧ w'.cell? ⟨t, 7, none⟩ = some (.bool ic) ∧ w'.cell? ⟨t, 8, none⟩ = some (.bool tl) ∧ w'.cell? ⟨t, 9, none⟩ = some (.string xq) ∧ w'.cell? ⟨qb, 0, none⟩ = some (.int .i64 m) ∧ w'.cell? ⟨qb, 1, none⟩ = some (.string xp) ∧ w'.cell? ⟨qb, 2, none⟩ = some (.bool ic) ∧ w'.cell? ⟨qb, 3, none⟩ = some (.bool tl) ∧ w'.cell? ⟨qb, 4, none⟩ = some (.string xq)) := by
              intro w' hb
              obtain ⟨t3, t5, t6, t7, t8, t9⟩ := HA.out w' (H4.out.now hb)
              have hq' := hq.below hb
              exact ⟨hb, t3, t5, t6, t7, t8, t9, hq'.cell 0, hq'.cell 1, hq'.cell 2, hq'.cell 3, hq'.cell 4⟩
            clear hq
            go_wp2
            refine wp_region_held_drew (S := fun w' => Below W4.heap.size W4 w' ∧ w'.cell? ⟨t, 3, none⟩ = some (.bool true) ∧ w'.cell? ⟨t, 5, none⟩ = some (.int .i64 m) ∧ w'.cell? ⟨t, 6, none⟩ = some (.string xp) ∧ w'.cell? ⟨t, 7, none⟩ = some (.bool ic) ∧ w'.cell? ⟨t, 8, none⟩ = some (.bool tl) ∧ w'.cell? ⟨t, 9, none⟩ = some (.string xq) ∧ w'.cell? ⟨qb, 0, none⟩ = some (.int .i64 m) ∧ w'.cell? ⟨qb, 1, none⟩ = some (.string xp) ∧ w'.cell? ⟨qb, 2, none⟩ = some (.bool ic) ∧ w'.cell? ⟨qb, 3, none⟩ = some (.bool tl) ∧ w'.cell? ⟨qb, 4, none⟩ = some (.string xq)) rfl (HSS.out _ (Below.drewN' (Below.refl _ _) 1)) (fun hS0 => ?_)
            refine wpAnyH_take (i := 0) (v := ?_) rfl (by kernel_rfl) (by kernel_rfl) (by kernel_rfl) (fun _ _ _ h => h) (Or.inl ⟨by rfl, ?_⟩) (by assumption) ?_
            rotate_left 1
            · intro wq hSw
              (try dsimp only at hSw)
              go_simp
              all_goals (with_reducible rfl)
            (try simp only [Act.put, List.setIfInBounds_toArray, List.set_cons_zero, List.set_cons_succ, List.getElem_toArray, List.getElem_cons_zero, List.getElem_cons_succ])
            refine wpAnyH_take (i := 1) (v := ?_) rfl (by kernel_rfl) (by kernel_rfl) (by kernel_rfl) (fun _ _ _ h => h) (Or.inl ⟨by rfl, ?_⟩) (by assumption) ?_
            rotate_left 1
            · intro wq hSw
              (try dsimp only at hSw)
              go_simp
              all_goals (with_reducible rfl)
            (try simp only [Act.put, List.setIfInBounds_toArray, List.set_cons_zero, List.set_cons_succ, List.getElem_toArray, List.getElem_cons_zero, List.getElem_cons_succ])
            refine wpAnyH_take (i := 2) (v := ?_) rfl (by kernel_rfl) (by kernel_rfl) (by kernel_rfl) (fun _ _ _ h => h) (Or.inl ⟨by rfl, ?_⟩) (by assumption) ?_
            rotate_left 1
            · intro wq hSw
              (try dsimp only at hSw)
              go_simp
              all_goals (with_reducible rfl)
            (try simp only [Act.put, List.setIfInBounds_toArray, List.set_cons_zero, List.set_cons_succ, List.getElem_toArray, List.getElem_cons_zero, List.getElem_cons_succ])
            refine wpAnyH_take (i := 3) (v := ?_) rfl (by kernel_rfl) (by kernel_rfl) (by kernel_rfl) (fun _ _ _ h => h) (Or.inl ⟨by rfl, ?_⟩) (by assumption) ?_
            rotate_left 1
            · intro wq hSw
              (try dsimp only at hSw)
              go_simp
              all_goals (with_reducible rfl)
            (try simp only [Act.put, List.setIfInBounds_toArray, List.set_cons_zero, List.set_cons_succ, List.getElem_toArray, List.getElem_cons_zero, List.getElem_cons_succ])
            refine wpAnyH_take (i := 4) (v := ?_) rfl (by kernel_rfl) (by kernel_rfl) (by kernel_rfl) (fun _ _ _ h => h) (Or.inl ⟨by rfl, ?_⟩) (by assumption) ?_
            rotate_left 1
            · intro wq hSw
              (try dsimp only at hSw)
              go_simp
              all_goals (with_reducible rfl)
            (try simp only [Act.put, List.setIfInBounds_toArray, List.set_cons_zero, List.set_cons_succ, List.getElem_toArray, List.getElem_cons_zero, List.getElem_cons_succ])
            refine wpAnyH_take (i := 5) (v := ?_) rfl (by kernel_rfl) (by kernel_rfl) (by kernel_rfl) (fun _ _ _ h => h) (Or.inl ⟨by rfl, ?_⟩) (by assumption) ?_
            rotate_left 1
            · intro wq hSw
              (try dsimp only at hSw)
              go_simp
              all_goals (with_reducible rfl)
            (try simp only [Act.put, List.setIfInBounds_toArray, List.set_cons_zero, List.set_cons_succ, List.getElem_toArray, List.getElem_cons_zero, List.getElem_cons_succ])
            refine wpAnyH_take (i := 6) (v := ?_) rfl (by kernel_rfl) (by kernel_rfl) (by kernel_rfl) (fun _ _ _ h => h) (Or.inl ⟨by rfl, ?_⟩) (by assumption) ?_
            rotate_left 1
            · intro wq hSw
              (try dsimp only at hSw)
              go_simp
              all_goals (with_reducible rfl)
            (try simp only [Act.put, List.setIfInBounds_toArray, List.set_cons_zero, List.set_cons_succ, List.getElem_toArray, List.getElem_cons_zero, List.getElem_cons_succ])
            refine wpAnyH_take (i := 7) (v := ?_) rfl (by kernel_rfl) (by kernel_rfl) (by kernel_rfl) (fun _ _ _ h => h) (Or.inl ⟨by rfl, ?_⟩) (by assumption) ?_
            rotate_left 1
            · intro wq hSw
              (try dsimp only at hSw)
              go_simp
              all_goals (with_reducible rfl)
            (try simp only [Act.put, List.setIfInBounds_toArray, List.set_cons_zero, List.set_cons_succ, List.getElem_toArray, List.getElem_cons_zero, List.getElem_cons_succ])
            refine wpAnyH_take (i := 8) (v := ?_) rfl (by kernel_rfl) (by kernel_rfl) (by kernel_rfl) (fun _ _ _ h => h) (Or.inl ⟨by rfl, ?_⟩) (by assumption) ?_
            rotate_left 1
            · intro wq hSw
              (try dsimp only at hSw)
              go_simp
              all_goals (with_reducible rfl)
            (try simp only [Act.put, List.setIfInBounds_toArray, List.set_cons_zero, List.set_cons_succ, List.getElem_toArray, List.getElem_cons_zero, List.getElem_cons_succ])
            refine wpAnyH_take (i := 9) (v := ?_) rfl (by kernel_rfl) (by kernel_rfl) (by kernel_rfl) (fun _ _ _ h => h) (Or.inl ⟨by rfl, ?_⟩) (by assumption) ?_
            rotate_left 1
            · intro wq hSw
              (try dsimp only at hSw)
              go_simp
              all_goals (with_reducible rfl)
            (try simp only [Act.put, List.setIfInBounds_toArray, List.set_cons_zero, List.set_cons_succ, List.getElem_toArray, List.getElem_cons_zero, List.getElem_cons_succ])
            refine wpAnyH_take (i := 11) (v := ?_) rfl (by kernel_rfl) (by kernel_rfl) (by kernel_rfl) (fun _ _ _ h => h) (Or.inl ⟨by rfl, ?_⟩) (by assumption) ?_
            rotate_left 1
            · intro wq hSw
              (try dsimp only at hSw)
              go_simp
              all_goals (with_reducible rfl)
            (try simp only [Act.put, List.setIfInBounds_toArray, List.set_cons_zero, List.set_cons_succ, List.getElem_toArray, List.getElem_cons_zero, List.getElem_cons_succ])
            refine wpAnyH_take (i := 12) (v := ?_) rfl (by kernel_rfl) (by kernel_rfl) (by kernel_rfl) (fun _ _ _ h => h) (Or.inl ⟨by rfl, ?_⟩) (by assumption) ?_
            rotate_left 1
            · intro wq hSw
              (try dsimp only at hSw)
              go_simp
              all_goals (with_reducible rfl)
            (try simp only [Act.put, List.setIfInBounds_toArray, List.set_cons_zero, List.set_cons_succ, List.getElem_toArray, List.getElem_cons_zero, List.getElem_cons_succ])
            refine wpAnyH_take (i := 13) (v := ?_) rfl (by kernel_rfl) (by kernel_rfl) (by kernel_rfl) (fun _ _ _ h => h) (Or.inl ⟨by rfl, ?_⟩) (by assumption) ?_
            rotate_left 1
            · intro wq hSw
              (try dsimp only at hSw)
              go_simp
              all_goals (with_reducible rfl)
            (try simp only [Act.put, List.setIfInBounds_toArray, List.set_cons_zero, List.set_cons_succ, List.getElem_toArray, List.getElem_cons_zero, List.getElem_cons_succ])
            refine wpAnyH_take (i := 14) (v := ?_) rfl (by kernel_rfl) (by kernel_rfl) (by kernel_rfl) (fun _ _ _ h => h) (Or.inl ⟨by rfl, ?_⟩) (by assumption) ?_
            rotate_left 1
            · intro wq hSw
              (try dsimp only at hSw)
              go_simp
              all_goals (with_reducible rfl)
            (try simp only [Act.put, List.setIfInBounds_toArray, List.set_cons_zero, List.set_cons_succ, List.getElem_toArray, List.getElem_cons_zero, List.getElem_cons_succ])
            refine wpAnyH_ready (rs := [10]) (by kernel_rfl) (by simp) ?_
            refine AllReadyH.cons rfl (fun K hK => ?_) AllReadyH.nil
            go_simp
            go_at_call 11
            refine (CF _).mono ?_
            rintro e5 w5 ⟨rfl, b5⟩
            have b45 : Below W4.heap.size W4 w5 := chain hS0.1 b5
            have hS5 := HSS.out w5 b45
            refine hK.out _ _ hS5 (fun _ => ?_)
            clear hK K hS0 b5
            (try simp only [Act.put, List.setIfInBounds_toArray, List.set_cons_zero, List.set_cons_succ, List.getElem_toArray, List.getElem_cons_zero, List.getElem_cons_succ])
            refine wpAnyH_take (i := 15) (v := ?_) rfl (by kernel_rfl) (by kernel_rfl) (by kernel_rfl) (fun _ _ _ h => h) (Or.inl ⟨by rfl, ?_⟩) (by assumption) ?_
            rotate_left 1
            · intro wq hSw
              (try dsimp only at hSw)
              go_simp
              all_goals (with_reducible rfl)
            (try simp only [Act.put, List.setIfInBounds_toArray, List.set_cons_zero, List.set_cons_succ, List.getElem_toArray, List.getElem_cons_zero, List.getElem_cons_succ])
            refine wpAnyH_take (i := 16) (v := ?_) rfl (by kernel_rfl) (by kernel_rfl) (by kernel_rfl) (fun _ _ _ h => h) (Or.inl ⟨by rfl, ?_⟩) (by assumption) ?_
            rotate_left 1
            · intro wq hSw
              (try dsimp only at hSw)
              go_simp
              all_goals (with_reducible rfl)
            (try simp only [Act.put, List.setIfInBounds_toArray, List.set_cons_zero, List.set_cons_succ, List.getElem_toArray, List.getElem_cons_zero, List.getElem_cons_succ])
            refine wpAnyH_take (i := 17) (v := ?_) rfl (by kernel_rfl) (by kernel_rfl) (by kernel_rfl) (fun _ _ _ h => h) (Or.inl ⟨by rfl, ?_⟩) (by assumption) ?_
            rotate_left 1
            · intro wq hSw
              (try dsimp only at hSw)
              go_simp
              all_goals (with_reducible rfl)
            (try simp only [Act.put, List.setIfInBounds_toArray, List.set_cons_zero, List.set_cons_succ, List.getElem_toArray, List.getElem_cons_zero, List.getElem_cons_succ])
            refine wpAnyH_take (i := 18) (v := ?_) rfl (by kernel_rfl) (by kernel_rfl) (by kernel_rfl) (fun _ _ _ h => h) (Or.inl ⟨by rfl, ?_⟩) (by assumption) ?_
            rotate_left 1
            · intro wq hSw
              (try dsimp only at hSw)
              go_simp
              all_goals (with_reducible rfl)
            (try simp only [Act.put, List.setIfInBounds_toArray, List.set_cons_zero, List.set_cons_succ, List.getElem_toArray, List.getElem_cons_zero, List.getElem_cons_succ])
            refine wpAnyH_take (i := 19) (v := ?_) rfl (by kernel_rfl) (by kernel_rfl) (by kernel_rfl) (fun _ _ _ h => h) (Or.inl ⟨by rfl, ?_⟩) (by assumption) ?_
            rotate_left 1
            · intro wq hSw
              (try dsimp only at hSw)
              go_simp
              all_goals (with_reducible rfl)
            (try simp only [Act.put, List.setIfInBounds_toArray, List.set_cons_zero, List.set_cons_succ, List.getElem_toArray, List.getElem_cons_zero, List.getElem_cons_succ])
            refine wpAnyH_take (i := 20) (v := ?_) rfl (by kernel_rfl) (by kernel_rfl) (by kernel_rfl) (fun _ _ _ h => h) (Or.inl ⟨by rfl, ?_⟩) (by assumption) ?_
            rotate_left 1
            · intro wq hSw
              (try dsimp only at hSw)
              go_simp
              all_goals (with_reducible rfl)
            (try simp only [Act.put, List.setIfInBounds_toArray, List.set_cons_zero, List.set_cons_succ, List.getElem_toArray, List.getElem_cons_zero, List.getElem_cons_succ])
            refine wpAnyH_take (i := 21) (v := ?_) rfl (by kernel_rfl) (by kernel_rfl) (by kernel_rfl) (fun _ _ _ h => h) (Or.inl ⟨by rfl, ?_⟩) (by assumption) ?_
            rotate_left 1
            · intro wq hSw
              (try dsimp only at hSw)
              go_simp
              all_goals (with_reducible rfl)
            (try simp only [Act.put, List.setIfInBounds_toArray, List.set_cons_zero, List.set_cons_succ, List.getElem_toArray, List.getElem_cons_zero, List.getElem_cons_succ])
            refine wpAnyH_take (i := 22) (v := undef) rfl (by kernel_rfl) (by kernel_rfl) (by kernel_rfl) (fun _ _ _ h => h) (Or.inr ⟨by rfl, rfl⟩) (by assumption) ?_
            (try simp only [Act.put, List.setIfInBounds_toArray, List.set_cons_zero, List.set_cons_succ, List.getElem_toArray, List.getElem_cons_zero, List.getElem_cons_succ])
            refine wpAnyH_take (i := 23) (v := undef) rfl (by kernel_rfl) (by kernel_rfl) (by kernel_rfl) (fun _ _ _ h => h) (Or.inr ⟨by rfl, rfl⟩) (by assumption) ?_
            (try simp only [Act.put, List.setIfInBounds_toArray, List.set_cons_zero, List.set_cons_succ, List.getElem_toArray, List.getElem_cons_zero, List.getElem_cons_succ])
            refine wpAnyH_take (i := 24) (v := undef) rfl (by kernel_rfl) (by kernel_rfl) (by kernel_rfl) (fun _ _ _ h => h) (Or.inr ⟨by rfl, rfl⟩) (by assumption) ?_
            (try simp only [Act.put, List.setIfInBounds_toArray, List.set_cons_zero, List.set_cons_succ, List.getElem_toArray, List.getElem_cons_zero, List.getElem_cons_succ])
            refine wpAnyH_take (i := 25) (v := ?_) rfl (by kernel_rfl) (by kernel_rfl) (by kernel_rfl) (fun _ _ _ h => h) (Or.inl ⟨by rfl, ?_⟩) (by assumption) ?_
            rotate_left 1
            · intro wq hSw
              (try dsimp only at hSw)
              go_simp
              all_goals (with_reducible rfl)
            (try simp only [Act.put, List.setIfInBounds_toArray, List.set_cons_zero, List.set_cons_succ, List.getElem_toArray, List.getElem_cons_zero, List.getElem_cons_succ])
            refine wpAnyH_take (i := 26) (v := ?_) rfl (by kernel_rfl) (by kernel_rfl) (by kernel_rfl) (fun _ _ _ h => h) (Or.inl ⟨by rfl, ?_⟩) (by assumption) ?_
            rotate_left 1
            · intro wq hSw
              (try dsimp only at hSw)
              go_simp
              all_goals (with_reducible rfl)
            (try simp only [Act.put, List.setIfInBounds_toArray, List.set_cons_zero, List.set_cons_succ, List.getElem_toArray, List.getElem_cons_zero, List.getElem_cons_succ])
            refine wpAnyH_done (by kernel_rfl) ?_ _
            have H5 := Lib.hid (H4.out.now b45)
            clear hS5 b45 HSS H4
            go_wp2
            go_roundw
            case rel => exact ⟨i + 1, T, by go_num, by omega, H5⟩
            case measure => simp [intOf]; omega
          | false =>
            obtain ⟨x, hx⟩ : ∃ x : Int, (T.err : Int) = x := ⟨_, rfl⟩
            have C : ∀ W, Rm17 w g t S T W → Calls Tryd.prog 9 #[.pointer (some ⟨g, 0, none⟩), .int .u8 k] W fun e w' => e = .returned (.tuple #[.bool false, .int .i64 x]) ∧ RqAt w' w.heap.size g T ∧ Keeps (RqF W w.heap.size g) W w' := by
              intro W h
              refine (CFd W h).mono ?_
              rintro e w' ⟨h1, h2, h3⟩
              rw [hTd, hx] at h1
              exact ⟨h1, h2, h3⟩
            have CQ2 := fun W h => CQ T W hTd h
            have HZ2 := Lib.hid (fun W h => HZ.out T W hTd h x hx)
            clear hTd hx HZ CFd HTE2 CQ
            go_upto_region 17 with (first
              | (go_at_call 8; refine CR.mono ?_; rintro e w5 ⟨rfl, ha, k5⟩; have M5 := Lib.hid (H.out.mid k5 ha); clear ha k5)
              | (go_at_call 9; ((with_reducible refine (C _ M5.out).mono ?_)); rintro e w2 ⟨rfl, hr, k2⟩; have H2 := Lib.hid (M5.out.fed k2 hr HOK.out); clear hr k2)
              | (go_at_call 10; ((with_reducible refine (CQ2 _ H2.out).mono ?_)); rintro e w3 ⟨rfl, b3⟩; have H3 := Lib.hid (H2.out.now b3); obtain ⟨h4, e3, e4, eq⟩ := HZ2.out _ H3.out; have H4 := Lib.hid h4; clear h4 eq))
            clear C CQ2 HZ2
            go_quiet (fail)
            go_wp2
            go_roundw
            case rel => exact ⟨i + 1, T, by go_num, by omega, H4.out.now (Below.drewN' (Below.refl _ _) _)⟩
            case measure => simp [intOf]; omega
        · have CR : Calls Tryd.prog 9 #[.pointer (some ⟨g, 0, none⟩), .int .u8 (c.toNat : Int)] wr _ := rFeed_any w.heap.size g S c wr H.out.r hd H.out.ok H.out.tb
          rw [show S.next c = S by unfold S17.next; rw [hd, if_neg (by simp), if_pos he]] at CR
          obtain ⟨x, hx⟩ : ∃ x : Int, (S.err : Int) = x := ⟨_, rfl⟩
          have hx0 : (x == 0) = false := by
            have : ¬ x = 0 := by omega
            simpa using this
          have C : Calls Tryd.prog 9 #[.pointer (some ⟨g, 0, none⟩), .int .u8 (c.toNat : Int)] wr fun e w' => e = .returned (.tuple #[.bool false, .int .i64 x]) ∧ RqAt w' w.heap.size g S ∧ Keeps (RqF wr w.heap.size g) wr w' := by
            refine CR.mono ?_
            rintro e w' ⟨h1, h2, h3⟩
            rw [hd, hx] at h1
            exact ⟨h1, h2, h3⟩
          have CQ2 := fun W h => CQ S W hd h
          have HZ2 := Lib.hid (fun W h => HZ.out S W hd h x hx)
          rw [hd] at c3
          rw [hx] at c4
          clear hd hx HZ CR CQ he
          generalize (c.toNat : Int) = k at *
          go_upto_region 17 with (first
            | (go_at_call 9; ((with_reducible refine C.mono ?_)); rintro e w2 ⟨rfl, hr, k2⟩; have H2 := Lib.hid (H.out.same.fed k2 hr H.out.ok); clear hr k2)
            | (go_at_call 10; ((with_reducible refine (CQ2 _ H2.out).mono ?_)); rintro e w3 ⟨rfl, b3⟩; have H3 := Lib.hid (H2.out.now b3); obtain ⟨h4, e3, e4, eq⟩ := HZ2.out _ H3.out; have H4 := Lib.hid h4; clear h4 eq))
          clear C CQ2 HZ2
          go_quiet (fail)
          go_wp2
          go_roundw
          case rel => exact ⟨i + 1, S, by go_num, by omega, H4.out.now (Below.drewN' (Below.refl _ _) _)⟩
          case measure => simp [intOf]; omega
    · go_wp2
      go_ret
      exact ⟨rfl, H.out.b⟩
end Go.Proofs.YtkledfalplekeaaDoor
