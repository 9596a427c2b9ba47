/- Plain facts, and what functions give, for the proofs of this seat: several texts in one, each with its own first remark. -/
import Derived.Deep.RegionHeld3
import Derived.Test.YtgnmnmjicjcffaaGd
import Derived.Test.YtgnmnmjicjcffaaGb

/- A word of mine for regions that draw their order: the condition that is held may be made stronger on the way. -/
namespace Go.Proofs.Ytgnmnmjicjcffaa
open Go
set_option linter.unusedVariables false

theorem wpAnyH_strong {P : Program} {ops : Array Oper} {Q : Exit → Act → World → Prop} {md : Region.Mode} {S1 S2 : World → Prop} (hs : ∀ w, S2 w → S1 w) :
    ∀ {fuel : Nat} {listed : Array Bool} {a : Act} {w : World}, wpAnyH P md ops Q S2 fuel listed a w → wpAnyH P md ops Q S1 fuel listed a w := by
  intro fuel
  induction fuel with
  | zero => intro _ _ _ h; exact h
  | succ fuel ih =>
    intro listed a w h
    exact ⟨h.1, fun i hi => wpOp_mono (fun a' w' h' => ⟨hs w' h'.1, ih h'.2⟩) (h.2 i hi)⟩
end Go.Proofs.Ytgnmnmjicjcffaa

/- The walk of EnergyPuts. -/
namespace Go.Proofs.Ytgnmnmjicjcffaa
open Go.RowKit
set_option linter.unusedVariables false
set_option linter.unusedSimpArgs false

theorem energyPuts_many (a a2 : Option Addr) (len cap len2 cap2 : Nat) (w : World) (hm : len ≤ 9223372036854775807) (hm2 : len2 ≤ 9223372036854775807) (h : 60 < len ∨ 60 < len2) :
    Calls Try.prog 4 #[.slice a len cap, .slice a2 len2 cap2] w fun e w' => e = .returned (.bool true) ∧ Below w.heap.size w w' := by
  have HB := Lib.hid (Below.refl w.heap.size w)
  by_cases hl : 60 < len
  · have hd : decide ((60 : Int) < (len : Int)) = true := by simp; omega
    clear h
    go_enter Try.func4, Try.ntmps4
    go_wp2_with (go_at_call 7; go_loud (refine (lives10_any _).mono ?_); rintro e w1 ⟨rfl, hb⟩; replace HB := Lib.hid (chain HB.out hb); clear hb)
    go_ret
    exact ⟨rfl, HB.out⟩
  · have hd : decide ((60 : Int) < (len : Int)) = false := by simp; omega
    have hd2 : decide ((60 : Int) < (len2 : Int)) = true := by simp; omega
    clear h
    go_enter Try.func4, Try.ntmps4
    go_wp2_with (go_at_call 7; go_loud (refine (lives10_any _).mono ?_); rintro e w1 ⟨rfl, hb⟩; replace HB := Lib.hid (chain HB.out hb); clear hb)
    go_ret
    exact ⟨rfl, HB.out⟩

/-! ### Both encoders -/
/-- What is held of both encoders and of the ceilings: ge is the program's, gf and rf the document's and its row; before block q they were not. -/
structure PSt (w : World) (be ge bf gf rf cf ca cb : Nat) (v : Value) (zA zB : List Int) (E F : EncS) (wr : World) : Prop where
  b : Below w.heap.size w wr
  e : EncAt wr be ge v E
  f : EncMem wr bf gf rf cf (digL F.n (F.k + 4)) F.s F.k
  a : IntsAt wr ge .i64 (some ⟨ca, 0, none⟩) 21 zA
  c : IntsAt wr ge .i64 (some ⟨cb, 0, none⟩) 21 zB
  n : w.heap.size ≤ ge ∧ ge < gf ∧ ge < rf ∧ ca < ge ∧ cb < ge
  v : ∀ j, v.ownBlock = some j → gf < j ∧ j ≠ rf
section
variable {w wr w' : World} {be ge bf gf rf cf ca cb : Nat} {v : Value} {zA zB : List Int} {E E' F F' : EncS}
theorem PSt.below (h : PSt w be ge bf gf rf cf ca cb v zA zB E F wr) (hb : Below wr.heap.size wr w') : PSt w be ge bf gf rf cf ca cb v zA zB E F w' := by
  have hg := h.e.lt.1
  exact ⟨chain h.b hb, h.e.below hb, h.f.below hb, h.a.below (hb.mono (by omega)), h.c.below (hb.mono (by omega)), h.n, h.v⟩
theorem PSt.drewN (h : PSt w be ge bf gf rf cf ca cb v zA zB E F wr) (i : Nat) : PSt w be ge bf gf rf cf ca cb v zA zB E F (wr.drewN i) :=
  ⟨Below.drewN' h.b i, h.e.drewN i, h.f.drewN i, h.a.drewN i, h.c.drewN i, h.n, h.v⟩
theorem PSt.ia (h : PSt w be ge bf gf rf cf ca cb v zA zB E F wr) : IntsAt wr wr.heap.size .i64 (some ⟨ca, 0, none⟩) 21 zA := h.a.grow (Nat.le_of_lt h.e.lt.1)
theorem PSt.ic (h : PSt w be ge bf gf rf cf ca cb v zA zB E F wr) : IntsAt wr wr.heap.size .i64 (some ⟨cb, 0, none⟩) 21 zB := h.c.grow (Nat.le_of_lt h.e.lt.1)
theorem PSt.putE {x : Ending} {r : Value} (h : PSt w be ge bf gf rf cf ca cb v zA zB E F wr) (hp : PutPost be ge v E' r wr x w') : x = .returned r ∧ ∃ v', PSt w be ge bf gf rf cf ca cb v' zA zB E' F w' := by
  obtain ⟨e, v', h1, h2, h3⟩ := hp
  have hn := h.n
  have hg := h.e.lt.1
  have hfl := h.f.lt
  refine ⟨e, v', h.b.trans (h2.below h.b.size fun k hk => ?_), h1, h.f.keeps h2 (fun c => ?_) (fun c => ?_), h.a.keeps h2 (by omega) (fun r off e _ hr c => ?_), h.c.keeps h2 (by omega) (fun r off e _ hr c => ?_), hn, fun j hj => ?_⟩
  · rcases hk with c | c
    · omega
    · have := (h.v k c).1; omega
  · rcases c with c | c
    · omega
    · have := (h.v gf c).1; omega
  · rcases c with c | c
    · omega
    · exact (h.v rf c).2 rfl
  · rcases c with c | c
    · omega
    · have := (h.v r c).1; omega
  · rcases c with c | c
    · omega
    · have := (h.v r c).1; omega
  · rcases h3 j hj with c | c
    · exact h.v j c
    · omega
theorem PSt.putF {x : Ending} (h : PSt w be ge bf gf rf cf ca cb v zA zB E F wr) (hp : EncPost bf gf rf F' wr x w') : x = .returned (.tuple #[]) ∧ ∃ rf' cf', PSt w be ge bf gf rf' cf' ca cb v zA zB E F' w' := by
  obtain ⟨e, r', c', h1, h2, h3⟩ := hp
  have hn := h.n
  have hg := h.e.lt.1
  have hs := h.b.size
  refine ⟨e, r', c', h.b.trans (h2.below h.b.size fun k hk => by omega), h.e.keeps h2 (by omega) (fun j hj c => ?_), h1, h.a.keeps h2 (by omega) (fun r off e _ hr c => by omega), h.c.keeps h2 (by omega) (fun r off e _ hr c => by omega), by omega, fun j hj => ⟨(h.v j hj).1, ?_⟩⟩
  · have := h.v j hj; omega
  · have := h.v j hj; have := (h.e.own j hj).1; omega
theorem PSt.neE (h : PSt w be ge bf gf rf cf ca cb v zA zB E F wr) {c : Nat} (hc : c < ge) : ∀ r off, (some ⟨c, 0, none⟩ : Option Addr) = some ⟨r, off, none⟩ → r ≠ ge ∧ v.ownBlock ≠ some r := fun r off e => by
  injection e with e; injection e with e1
  have hn := h.n
  exact ⟨by omega, fun k => by have := (h.v r k).1; omega⟩
theorem PSt.neF (h : PSt w be ge bf gf rf cf ca cb v zA zB E F wr) {c : Nat} (hc : c < ge) : ∀ r off, (some ⟨c, 0, none⟩ : Option Addr) = some ⟨r, off, none⟩ → r ≠ gf ∧ r ≠ rf := fun r off e => by
  injection e with e; injection e with e1
  have hn := h.n
  omega
end
set_option maxHeartbeats 1000000 in
set_option maxRecDepth 100000 in
theorem energyPuts_law (a a2 : Option Addr) (len cap len2 cap2 : Nat) (xs zs : List Int) (w : World) (hx : IntsAt w w.heap.size .u8 a len xs) (hxb : ∀ j, 0 ≤ xs.getD j 0 ∧ xs.getD j 0 ≤ 255) (hz : IntsAt w w.heap.size .u8 a2 len2 zs) (hzb : ∀ j, 0 ≤ zs.getD j 0 ∧ zs.getD j 0 ≤ 255) (hl : len ≤ 60) (hl2 : len2 ≤ 60) :
    Calls Try.prog 4 #[.slice a len cap, .slice a2 len2 cap2] w fun e w' => e = .returned (.bool true) ∧ Below w.heap.size w w' := by
  have HB := Lib.hid (Below.refl w.heap.size w)
  have HX := Lib.hid hx
  have HXb := Lib.hid hxb
  have HZ := Lib.hid hz
  have HZb := Lib.hid hzb
  have hd : decide ((60 : Int) < (len : Int)) = false := by simp; omega
  have hd2 : decide ((60 : Int) < (len2 : Int)) = false := by simp; omega
  obtain ⟨zA, hzA⟩ : ∃ zA, zA = tabF 21 (cutF xs len) := ⟨_, rfl⟩
  obtain ⟨zB, hzB⟩ : ∃ zB, zB = tabF 21 (cutF zs len2) := ⟨_, rfl⟩
  have HzA := Lib.hid hzA
  have HzB := Lib.hid hzB
  have HRA : RowKit.Hid (rightB zA = true) := by show _ = _; rw [hzA]; exact cutF_right _ _
  have HRB : RowKit.Hid (rightB zB = true) := by show _ = _; rw [hzB]; exact cutF_right _ _
  obtain ⟨E1, hE1⟩ : ∃ E1, E1 = putN true encNew (fun j => zA.getD j 0) (fun j => ([] : List Int).getD j 0) 21 := ⟨_, rfl⟩
  obtain ⟨E2, hE2⟩ : ∃ E2, E2 = putN false E1 (fun j => zB.getD j 0) (fun j => zA.getD j 0) 21 := ⟨_, rfl⟩
  have HG1 : RowKit.Hid (GoodE E1 ∧ E1.k ≤ 84) := by
    have := putN_good (q := true) (f := fun j => zA.getD j 0) (d := fun j => ([] : List Int).getD j 0) goodE_new 21
    rw [← hE1] at this
    exact ⟨this.1, by have h0 : encNew.k = 0 := rfl; omega⟩
  have HG2 : RowKit.Hid (GoodE E2 ∧ E2.k ≤ 168) := by
    have := putN_good (q := false) (f := fun j => zB.getD j 0) (d := fun j => zA.getD j 0) HG1.out.1 21
    rw [← hE2] at this
    exact ⟨this.1, by have := HG1.out.2; omega⟩
  have HE1 := Lib.hid hE1.symm
  have HE2 := Lib.hid hE2.symm
  have HG0 := Lib.hid goodE_new
  clear hx hxb hz hzb hzA hzB hE1 hE2
  go_enter Try.func4, Try.ntmps4
  go_wp2_with (first
    | (go_at_call 7; go_loud (refine (lives10_any _).mono ?_); rintro e w1 ⟨rfl, hb⟩; replace HB := Lib.hid (chain HB.out hb); clear hb)
    | (go_at_call 13; have hb2 := HB2.out; go_loud (refine (cut10_any a2 len2 cap2 zs w2 (HZ.out.now HB2.out (Nat.le_refl _)) HZb.out (by omega)).mono ?_); rintro e w3 ⟨cb, rfl, hi, hg, hb3⟩; have HS3 : RowKit.Hid (Below w.heap.size w w3 ∧ IntsAt w3 w3.heap.size .i64 (some ⟨ca, 0, none⟩) 21 zA ∧ IntsAt w3 w3.heap.size .i64 (some ⟨cb, 0, none⟩) 21 zB ∧ ca < w3.heap.size ∧ cb < w3.heap.size) := ⟨chain hb2 hb3, HC2.out.1.now hb3 (Nat.le_refl _), (by rw [HzB.out]; exact hi.ints (by decide)), (by have := HC2.out.2; have := hb3.size; omega), hi.lt⟩; clear hi hg hb3 hb2 HB2 HC2)
    | (go_at_call 13; go_loud (refine (cut10_any a len cap xs w1 (HX.out.now HB.out (Nat.le_refl _)) HXb.out (by omega)).mono ?_); rintro e w2 ⟨ca, rfl, hi, hg, hb2⟩; have HB2 := Lib.hid (chain HB.out hb2); have HC2 : RowKit.Hid (IntsAt w2 w2.heap.size .i64 (some ⟨ca, 0, none⟩) 21 zA ∧ ca < w2.heap.size) := ⟨(by rw [HzA.out]; exact hi.ints (by decide)), hi.lt⟩; clear hi hg hb2 HB)
    | (go_at_call 14; go_loud (refine (rncNew_any w3).mono ?_); rintro e w4 ⟨rfl, he, hb⟩; have HS4 : RowKit.Hid (Below w.heap.size w w4 ∧ EncAt w4 w3.heap.size w3.heap.size (.slice none 0 0) encNew ∧ IntsAt w4 w3.heap.size .i64 (some ⟨ca, 0, none⟩) 21 zA ∧ IntsAt w4 w3.heap.size .i64 (some ⟨cb, 0, none⟩) 21 zB ∧ w.heap.size ≤ w3.heap.size ∧ ca < w3.heap.size ∧ cb < w3.heap.size) := ⟨chain HS3.out.1 hb, he, HS3.out.2.1.below hb, HS3.out.2.2.1.below hb, HS3.out.1.size, HS3.out.2.2.2⟩; clear he hb HS3)
    | (go_at_call 15; go_loud (refine (refEncNew_any w4).mono ?_); rintro e w5 ⟨rfl, hf, hb⟩; have HS5 : RowKit.Hid (PSt w w3.heap.size w3.heap.size w4.heap.size (w4.heap.size + 1) w4.heap.size 4 ca cb (.slice none 0 0) zA zB encNew encNew w5) := ⟨chain HS4.out.1 hb, HS4.out.2.1.below hb, hf, HS4.out.2.2.1.below (hb.mono (Nat.le_of_lt HS4.out.2.1.lt.1)), HS4.out.2.2.2.1.below (hb.mono (Nat.le_of_lt HS4.out.2.1.lt.1)), (by have := HS4.out.2.1.lt.1; have := HS4.out.2.2.2.2; omega), fun j hj => (by simp [Value.ownBlock] at hj)⟩; clear hf hb HS4)
    | (go_at_call 16; have h6 := HS6.out; go_loud (refine (engPut_any w3.heap.size w3.heap.size v6 E1 false (some ⟨cb, 0, none⟩) (some ⟨ca, 0, none⟩) 21 21 21 zB zA w6 h6.e HG1.out.1 (by have := HG1.out.2; omega) h6.ic HRB.out (h6.neE h6.n.2.2.2.2) (ahead_right h6.ia HRA.out) (fun _ => h6.neE h6.n.2.2.2.1)).mono ?_); intro e w7 hp; obtain ⟨rfl, v7, h7⟩ := h6.putE hp; rw [HE2.out] at h7; have HS7 := Lib.hid h7; clear h7 hp h6 HS6)
    | (go_at_call 16; have h5 := HS5.out; go_loud (refine (engPut_any w3.heap.size w3.heap.size (.slice none 0 0) encNew true (some ⟨ca, 0, none⟩) none 0 21 0 zA [] w5 h5.e HG0.out (by decide) h5.ia HRA.out (h5.neE h5.n.2.2.2.1) (ahead_none w5) (fun c => by cases c)).mono ?_); intro e w6 hp; obtain ⟨rfl, v6, h6⟩ := h5.putE hp; rw [HE1.out] at h6; have HS6 := Lib.hid h6; clear h6 hp h5 HS5)
    | (go_at_call 17; have h8 := HS8.out; go_loud (refine (ref10Put_any w4.heap.size (w4.heap.size + 1) r8 c8 E1 false (some ⟨cb, 0, none⟩) (some ⟨ca, 0, none⟩) 21 21 21 zB zA w8 h8.f HG1.out.1 (by have := HG1.out.2; omega) h8.ic HRB.out (h8.neF h8.n.2.2.2.2) (ahead_right h8.ia HRA.out) (fun _ => h8.neF h8.n.2.2.2.1)).mono ?_); intro e w9 hp; obtain ⟨rfl, r9, c9, h9⟩ := h8.putF hp; rw [HE2.out] at h9; have HS9 := Lib.hid h9; clear h9 hp h8 HS8)
    | (go_at_call 17; have h7 := HS7.out; go_loud (refine (ref10Put_any w4.heap.size (w4.heap.size + 1) w4.heap.size 4 encNew true (some ⟨ca, 0, none⟩) none 0 21 0 zA [] w7 h7.f HG0.out (by decide) h7.ia HRA.out (h7.neF h7.n.2.2.2.1) (ahead_none w7) (fun c => by cases c)).mono ?_); intro e w8 hp; obtain ⟨rfl, r8, c8, h8⟩ := h7.putF hp; rw [HE1.out] at h8; have HS8 := Lib.hid h8; clear h8 hp h7 HS7)
    | fail)
  obtain ⟨bb, hbb⟩ : ∃ bb, bb = bytesL (digL E2.n (E2.k + 4)) := ⟨_, rfl⟩
  have HBb := Lib.hid hbb
  have hbl : bb.length ≤ 1000 := by rw [hbb]; have := bytesL_le E2; have := HG2.out.2; omega
  have HBp : RowKit.Hid (∀ w', PSt w w3.heap.size w3.heap.size w4.heap.size (w4.heap.size + 1) r9 c9 ca cb v7 zA zB E2 E2 w' → Calls Try.prog 18 #[.pointer (some ⟨w3.heap.size, 0, none⟩)] w' (BytesPostS bb w')) := fun w' h => by
    rw [hbb]; exact rncBytes_some _ _ _ _ _ _ w' h.e (by have := HG2.out.2; omega)
  have HBr : RowKit.Hid (∀ w', PSt w w3.heap.size w3.heap.size w4.heap.size (w4.heap.size + 1) r9 c9 ca cb v7 zA zB E2 E2 w' → Calls Try.prog 19 #[.pointer (some ⟨w4.heap.size + 1, 0, none⟩)] w' (BytesPost bb w')) := fun w' h => by
    rw [hbb]; exact refEncBytes_any _ _ _ _ _ _ _ w' h.f (digL_dig _ _) (by rw [digL_len]; have := HG2.out.2; omega)
  clear hbb
  go_wp2
  refine wp_region_held_drew (S := fun w' => PSt w w3.heap.size w3.heap.size w4.heap.size (w4.heap.size + 1) r9 c9 ca cb v7 zA zB E2 E2 w') (by kernel_rfl) (HS9.out.drewN 1) (fun hHeld => ?_)
  refine wpAnyH_take (i := 0) (v := ?_) rfl (by kernel_rfl) (by kernel_rfl) (by kernel_rfl) (fun _ _ _ h => h) (Or.inl ⟨by rfl, ?_⟩) (by assumption) ?_
  rotate_left 1
  · intro wq hSw
    (try dsimp only at hSw)
    go_simp
    all_goals (with_reducible rfl)
  (try simp only [Act.put, List.setIfInBounds_toArray, List.set_cons_zero, List.set_cons_succ, List.getElem_toArray, List.getElem_cons_zero, List.getElem_cons_succ])
  refine wpAnyH_take (i := 1) (v := ?_) rfl (by kernel_rfl) (by kernel_rfl) (by kernel_rfl) (fun _ _ _ h => h) (Or.inl ⟨by rfl, ?_⟩) (by assumption) ?_
  rotate_left 1
  · intro wq hSw
    (try dsimp only at hSw)
    go_simp
    all_goals (with_reducible rfl)
  (try simp only [Act.put, List.setIfInBounds_toArray, List.set_cons_zero, List.set_cons_succ, List.getElem_toArray, List.getElem_cons_zero, List.getElem_cons_succ])
  refine wpAnyH_take (i := 2) (v := ?_) rfl (by kernel_rfl) (by kernel_rfl) (by kernel_rfl) (fun _ _ _ h => h) (Or.inl ⟨by rfl, ?_⟩) (by assumption) ?_
  rotate_left 1
  · intro wq hSw
    (try dsimp only at hSw)
    go_simp
    all_goals (with_reducible rfl)
  (try simp only [Act.put, List.setIfInBounds_toArray, List.set_cons_zero, List.set_cons_succ, List.getElem_toArray, List.getElem_cons_zero, List.getElem_cons_succ])
  refine wpAnyH_take (i := 3) (v := ?_) rfl (by kernel_rfl) (by kernel_rfl) (by kernel_rfl) (fun _ _ _ h => h) (Or.inl ⟨by rfl, ?_⟩) (by assumption) ?_
  rotate_left 1
  · intro wq hSw
    (try dsimp only at hSw)
    go_simp
    all_goals (with_reducible rfl)
  (try simp only [Act.put, List.setIfInBounds_toArray, List.set_cons_zero, List.set_cons_succ, List.getElem_toArray, List.getElem_cons_zero, List.getElem_cons_succ])
  refine wpAnyH_take (i := 4) (v := ?_) rfl (by kernel_rfl) (by kernel_rfl) (by kernel_rfl) (fun _ _ _ h => h) (Or.inl ⟨by rfl, ?_⟩) (by assumption) ?_
  rotate_left 1
  · intro wq hSw
    (try dsimp only at hSw)
    go_simp
    all_goals (with_reducible rfl)
  (try simp only [Act.put, List.setIfInBounds_toArray, List.set_cons_zero, List.set_cons_succ, List.getElem_toArray, List.getElem_cons_zero, List.getElem_cons_succ])
  refine wpAnyH_take (i := 5) (v := ?_) rfl (by kernel_rfl) (by kernel_rfl) (by kernel_rfl) (fun _ _ _ h => h) (Or.inl ⟨by rfl, ?_⟩) (by assumption) ?_
  rotate_left 1
  · intro wq hSw
    (try dsimp only at hSw)
    go_simp
    all_goals (with_reducible rfl)
  (try simp only [Act.put, List.setIfInBounds_toArray, List.set_cons_zero, List.set_cons_succ, List.getElem_toArray, List.getElem_cons_zero, List.getElem_cons_succ])
  refine wpAnyH_take (i := 6) (v := ?_) rfl (by kernel_rfl) (by kernel_rfl) (by kernel_rfl) (fun _ _ _ h => h) (Or.inl ⟨by rfl, ?_⟩) (by assumption) ?_
  rotate_left 1
  · intro wq hSw
    (try dsimp only at hSw)
    go_simp
    all_goals (with_reducible rfl)
  (try simp only [Act.put, List.setIfInBounds_toArray, List.set_cons_zero, List.set_cons_succ, List.getElem_toArray, List.getElem_cons_zero, List.getElem_cons_succ])
  refine wpAnyH_take (i := 7) (v := ?_) rfl (by kernel_rfl) (by kernel_rfl) (by kernel_rfl) (fun _ _ _ h => h) (Or.inl ⟨by rfl, ?_⟩) (by assumption) ?_
  rotate_left 1
  · intro wq hSw
    (try dsimp only at hSw)
    go_simp
    all_goals (with_reducible rfl)
  (try simp only [Act.put, List.setIfInBounds_toArray, List.set_cons_zero, List.set_cons_succ, List.getElem_toArray, List.getElem_cons_zero, List.getElem_cons_succ])
  refine wpAnyH_take (i := 10) (v := ?_) rfl (by kernel_rfl) (by kernel_rfl) (by kernel_rfl) (fun _ _ _ h => h) (Or.inl ⟨by rfl, ?_⟩) (by assumption) ?_
  rotate_left 1
  · intro wq hSw
    (try dsimp only at hSw)
    go_simp
    all_goals (with_reducible rfl)
  (try simp only [Act.put, List.setIfInBounds_toArray, List.set_cons_zero, List.set_cons_succ, List.getElem_toArray, List.getElem_cons_zero, List.getElem_cons_succ])
  refine wpAnyH_ready (rs := [8]) (by kernel_rfl) (by simp) ?_
  refine AllReadyH.cons rfl (fun K hK => ?_) AllReadyH.nil
  go_simp
  go_at_call 18
  refine (HBp.out _ hHeld).mono ?_
  rintro e10 w10 ⟨g10, c10, rfl, hI, hb⟩
  have k4 := hHeld.below hb
  have cv2 := string_of_ints (P := Try.prog) (src := 33) (dst := 9) (c := c10) Try.underlying33 Try.underlying5 Try.underlying9 hI
  refine hK.out _ _ k4 (fun _ => ?_)
  have HI10 := Lib.hid hI
  clear hK K hHeld hI hb
  refine wpAnyH_strong (S2 := fun w' => (convert 33 9 (.slice (some ⟨g10, 0, none⟩) bb.length c10)).run Try.prog w' = .ok (.string (textOf bb)) w' ∧ PSt w w3.heap.size w3.heap.size w4.heap.size (w4.heap.size + 1) r9 c9 ca cb v7 zA zB E2 E2 w') (fun w h => h.2) ?_
  have hHeld := And.intro cv2 k4
  clear cv2 k4
  (try simp only [Act.put, List.setIfInBounds_toArray, List.set_cons_zero, List.set_cons_succ, List.getElem_toArray, List.getElem_cons_zero, List.getElem_cons_succ])
  refine wpAnyH_take (i := 9) (v := ?_) rfl (by kernel_rfl) (by kernel_rfl) (by kernel_rfl) (fun _ _ _ h => h) (Or.inl ⟨by rfl, ?_⟩) (by assumption) ?_
  rotate_left 1
  · intro wq hSw
    (try dsimp only at hSw)
    go_simp
    all_goals (with_reducible rfl)
  (try simp only [Act.put, List.setIfInBounds_toArray, List.set_cons_zero, List.set_cons_succ, List.getElem_toArray, List.getElem_cons_zero, List.getElem_cons_succ])
  refine wpAnyH_ready (rs := [11]) (by kernel_rfl) (by simp) ?_
  refine AllReadyH.cons rfl (fun K hK => ?_) AllReadyH.nil
  go_simp
  go_at_call 19
  refine (HBr.out _ hHeld.2).mono ?_
  rintro e11 w11 ⟨a11, c11, rfl, hI, hb⟩
  have k4 := hHeld.2.below hb
  have cv2 := string_of_ints (P := Try.prog) (src := 33) (dst := 9) (c := c11) Try.underlying33 Try.underlying5 Try.underlying9 hI
  have cv3 := string_of_ints (P := Try.prog) (src := 33) (dst := 9) (c := c10) Try.underlying33 Try.underlying5 Try.underlying9 (HI10.out.below hb)
  refine hK.out _ _ ⟨cv3, k4⟩ (fun _ => ?_)
  clear hK K hHeld hI hb
  refine wpAnyH_strong (S2 := fun w' => (convert 33 9 (.slice a11 bb.length c11)).run Try.prog w' = .ok (.string (textOf bb)) w' ∧ (convert 33 9 (.slice (some ⟨g10, 0, none⟩) bb.length c10)).run Try.prog w' = .ok (.string (textOf bb)) w' ∧ PSt w w3.heap.size w3.heap.size w4.heap.size (w4.heap.size + 1) r9 c9 ca cb v7 zA zB E2 E2 w') (fun w h => h.2) ?_
  have hHeld := And.intro cv2 (And.intro cv3 k4)
  clear cv2 cv3 k4
  (try simp only [Act.put, List.setIfInBounds_toArray, List.set_cons_zero, List.set_cons_succ, List.getElem_toArray, List.getElem_cons_zero, List.getElem_cons_succ])
  refine wpAnyH_take (i := 12) (v := ?_) rfl (by kernel_rfl) (by kernel_rfl) (by kernel_rfl) (fun _ _ _ h => h) (Or.inl ⟨by rfl, ?_⟩) (by assumption) ?_
  rotate_left 1
  · intro wq hSw
    (try dsimp only at hSw)
    go_simp
    all_goals (with_reducible rfl)
  (try simp only [Act.put, List.setIfInBounds_toArray, List.set_cons_zero, List.set_cons_succ, List.getElem_toArray, List.getElem_cons_zero, List.getElem_cons_succ])
  refine wpAnyH_take (i := 13) (v := ?_) rfl (by kernel_rfl) (by kernel_rfl) (by kernel_rfl) (fun _ _ _ h => h) (Or.inl ⟨by rfl, ?_⟩) (by assumption) ?_
  rotate_left 1
  · intro wq hSw
    (try dsimp only at hSw)
    go_simp
    all_goals (with_reducible rfl)
  (try simp only [Act.put, List.setIfInBounds_toArray, List.set_cons_zero, List.set_cons_succ, List.getElem_toArray, List.getElem_cons_zero, List.getElem_cons_succ])
  refine wpAnyH_take (i := 14) (v := ?_) rfl (by kernel_rfl) (by kernel_rfl) (by kernel_rfl) (fun _ _ _ h => h) (Or.inl ⟨by rfl, ?_⟩) (by assumption) ?_
  rotate_left 1
  · intro wq hSw
    (try dsimp only at hSw)
    go_simp
    all_goals (with_reducible rfl)
  (try simp only [Act.put, List.setIfInBounds_toArray, List.set_cons_zero, List.set_cons_succ, List.getElem_toArray, List.getElem_cons_zero, List.getElem_cons_succ])
  refine wpAnyH_done (by kernel_rfl) ?_ _
  have HP11 := Lib.hid hHeld.2.2
  clear hHeld HBr
  have HBy : RowKit.Hid (∀ j, 0 ≤ byteF bb j ∧ byteF bb j ≤ 255) := by rw [HBb.out]; exact byteF_bd (bytesL_dig E2)
  have HGn : RowKit.Hid (GoodD (decNew (byteF bb))) := by show GoodD _; rw [HBb.out]; exact goodD_new (bytesL_dig E2)
  obtain ⟨V1, hV1⟩ : ∃ V, V = getV true bb (decNew (byteF bb)) (fun j => ([] : List Int).getD j 0) := ⟨_, rfl⟩
  obtain ⟨D1, hD1⟩ : ∃ D, D = getN true bb (decNew (byteF bb)) (fun j => ([] : List Int).getD j 0) 21 := ⟨_, rfl⟩
  obtain ⟨V2, hV2⟩ : ∃ V, V = getV false bb D1 (fun j => zA.getD j 0) := ⟨_, rfl⟩
  obtain ⟨D2, hD2⟩ : ∃ D, D = getN false bb D1 (fun j => zA.getD j 0) 21 := ⟨_, rfl⟩
  have HGd1 : RowKit.Hid (GoodD D1 ∧ D1.i ≤ 3000000) := by
    have := getN_good (q := true) (d := fun j => ([] : List Int).getD j 0) HBy.out HGn.out 21
    rw [← hD1] at this
    exact ⟨this.1, by have h4 : (decNew (byteF bb)).i = 4 := rfl; omega⟩
  have HBack : RowKit.Hid (tabF 21 V1 = zA ∧ tabF 21 V2 = zB) := by
    obtain ⟨la, ba⟩ := rightB_true HRA.out
    obtain ⟨lb, bb'⟩ := rightB_true HRB.out
    have hd : DigOf (byteF bb) E2 := by rw [HBb.out]; exact digOf_only HG2.out.1
    have hf : 1 ≤ E2.s := by have := HG2.out.1.1; omega
    have hin : Inside E1 E2 := by rw [← HE2.out]; exact (putN_good HG1.out.1 21).2.2
    have p1 := put_back (q := true) (b := bb) (F := E2) (f := fun j => zA.getD j 0) (d := fun j => ([] : List Int).getD j 0) (n := 21) (sync_new _) HG0.out (fun j hj => by have := ba j hj; omega) (by rw [HE1.out]; exact hin) hf hd 21 (Nat.le_refl _)
    rw [HE1.out, ← hD1, ← hV1] at p1
    have p2 := put_back (q := false) (b := bb) (F := E2) (f := fun j => zB.getD j 0) (d := fun j => zA.getD j 0) (n := 21) p1.1 HG1.out.1 (fun j hj => by have := bb' j hj; omega) (by rw [HE2.out]; exact Inside.refl _) hf hd 21 (Nat.le_refl _)
    rw [← hV2] at p2
    constructor
    · rw [tabF_ext (g := fun j => zA.getD j 0) p1.2]; have := tabF_of zA; rw [la] at this; exact this
    · rw [tabF_ext (g := fun j => zB.getD j 0) p2.2]; have := tabF_of zB; rw [lb] at this; exact this
  have HGet1 : RowKit.Hid (∀ (w5 : World) (base g : Nat) (v : Value), DrcAt w5 base g v bb (decNew (byteF bb)) → Calls Try.prog 21 #[.pointer (some ⟨g, 0, none⟩), .slice none 0 0] w5 (GetPost base g v bb D1 V1 w5)) := fun w5 base g v h => by
    rw [hV1, hD1]
    exact engGet_any base g v bb _ true none 0 0 [] w5 h HGn.out HBy.out (by omega) (by show 4 ≤ 3000000; decide) (ahead_none w5) (fun c => by cases c)
  have HGet2 : RowKit.Hid (∀ (w5 : World) (base g r : Nat) (v : Value), DrcAt w5 base g v bb D1 → IntsAt w5 w5.heap.size .i64 (some ⟨r, 0, none⟩) 21 zA → r ≠ g → Calls Try.prog 21 #[.pointer (some ⟨g, 0, none⟩), .slice (some ⟨r, 0, none⟩) 21 21] w5 (GetPost base g v bb D2 V2 w5)) := fun w5 base g r v h hi hr => by
    rw [hV2, hD2]
    exact engGet_any base g v bb _ false _ 21 21 zA w5 h HGd1.out.1 HBy.out (by omega) HGd1.out.2 (ahead_right hi HRA.out) fun _ r' off e => by injection e with e; injection e with e1; omega
  clear hV1 hD1 hV2 hD2
  go_wp2_with (first
    | (go_at_call 18; go_loud (refine (HBp.out w11 HP11.out).mono ?_); rintro e w12 ⟨g12, c12, rfl, hI, hb⟩; have HS12 : RowKit.Hid (PSt w w3.heap.size w3.heap.size w4.heap.size (w4.heap.size + 1) r9 c9 ca cb v7 zA zB E2 E2 w12 ∧ IntsAt w12 w12.heap.size .u8 (some ⟨g12, 0, none⟩) bb.length bb) := ⟨HP11.out.below hb, hI⟩; clear hI hb HP11 HBp)
    | (go_at_call 20; go_loud (refine (drcNew_any (some ⟨g12, 0, none⟩) bb.length c12 bb w12 HS12.out.2 (fun c => by cases c) HBy.out (by omega)).mono ?_); rintro e w13 ⟨g13, v13, rfl, h13, b13⟩; have HS13 : RowKit.Hid (DrcAt w13 w12.heap.size g13 v13 bb (decNew (byteF bb)) ∧ Below w12.heap.size w12 w13) := ⟨h13, b13⟩; clear h13 b13)
    | (go_at_call 21; have h14 := HS14.out; go_loud (refine (HGet2.out w14 _ g13 r14 v13 h14.1.d h14.2.2.1 h14.2.2.2.1).mono ?_); rintro e w15 ⟨r15, h15, rfl⟩; rw [HBack.out.2, HRB.out]; have HS15 : RowKit.Hid (Below w.heap.size w w15 ∧ IntsAt w15 w15.heap.size .i64 (some ⟨ca, 0, none⟩) 21 zA ∧ IntsAt w15 w15.heap.size .i64 (some ⟨cb, 0, none⟩) 21 zB ∧ IntsAt w15 w15.heap.size .i64 (some ⟨r14, 0, none⟩) 21 zA ∧ IntsAt w15 w15.heap.size .i64 (some ⟨r15, 0, none⟩) 21 zB) := (by have hb : Below w12.heap.size w12 w15 := h14.2.1.trans (h15.k.below h14.2.1.size fun k hk => (by have := h14.1.d.lt.2; omega)); have hp := HS12.out.1.below hb; have i15 := h15.ints; rw [HBack.out.2] at i15; exact ⟨hp.b, hp.ia, hp.ic, (h14.2.2.1.keeps h15.k (Nat.le_refl _) fun r off e _ _ c => (by injection e with e; injection e with e1; have := h14.2.2.2.1; omega)).grow h15.k.size, i15⟩); clear h15 h14 HS14)
    | (go_at_call 21; have h13 := HS13.out; go_loud (refine (HGet1.out w13 _ g13 v13 h13.1).mono ?_); rintro e w14 ⟨r14, h14, rfl⟩; rw [HBack.out.1, HRA.out]; have HS14 : RowKit.Hid (GetSt w13 w12.heap.size g13 v13 bb D1 r14 V1 w14 ∧ Below w12.heap.size w12 w14 ∧ IntsAt w14 w14.heap.size .i64 (some ⟨r14, 0, none⟩) 21 zA ∧ r14 ≠ g13 ∧ True) := ⟨h14, h13.2.trans (h14.k.below h13.2.size fun k hk => (by have := h13.1.lt.2; omega)), (by have := h14.ints; rw [HBack.out.1] at this; exact this), (by have := h14.rs; have := h14.gs.1; omega), trivial⟩; clear h14 h13 HS13)
    | (go_at_call 9; have h16 := HS16.out; go_loud (refine (equal_same _ _ 21 21 21 zB w16 h16.2.1 h16.2.2 (by decide)).mono ?_); rintro e w17 ⟨rfl, i17, hw17⟩; have HB17 : RowKit.Hid (Below w.heap.size w w17) := (by rw [hw17]; exact Below.drewN' h16.1 i17); clear hw17 h16 HS16)
    | (go_at_call 9; have h15 := HS15.out; go_loud (refine (equal_same _ _ 21 21 21 zA w15 h15.2.1 h15.2.2.2.1 (by decide)).mono ?_); rintro e w16 ⟨rfl, i16, hw16⟩; have HS16 : RowKit.Hid (Below w.heap.size w w16 ∧ IntsAt w16 w16.heap.size .i64 (some ⟨cb, 0, none⟩) 21 zB ∧ IntsAt w16 w16.heap.size .i64 (some ⟨r15, 0, none⟩) 21 zB) := (by rw [hw16]; exact ⟨Below.drewN' h15.1 i16, h15.2.2.1.drewN i16, h15.2.2.2.2.drewN i16⟩); clear hw16 h15 HS15)
    | fail)
  go_ret
  exact ⟨rfl, HB17.out⟩
end Go.Proofs.Ytgnmnmjicjcffaa
