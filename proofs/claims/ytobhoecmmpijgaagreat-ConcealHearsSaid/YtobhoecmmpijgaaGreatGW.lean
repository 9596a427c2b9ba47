/- Plain facts, and what functions give, for the proofs of this seat: several texts in one, each with its own first remark. -/
import Derived.Test.YtobhoecmmpijgaaGreatGU
import Derived.Test.YtobhoecmmpijgaaGreatGV

/- ConcealHears: what is held on the way. -/
namespace Go.Proofs.YtobhoecmmpijgaaGreat
open Go Go.RowKit
set_option linter.unusedVariables false
set_option linter.unusedSimpArgs false
set_option maxRecDepth 100000

def act15K : List PK := [.int .u8, .int .u8, .int .u8]
theorem act15_cells {cs : List Value} (h : OkAll act15K cs) : ∃ a b c : Int, cs = [.int .u8 a, .int .u8 b, .int .u8 c] ∧ (0 ≤ a ∧ a ≤ 255) ∧ (0 ≤ b ∧ b ≤ 255) ∧ (0 ≤ c ∧ c ≤ 255) := by
  obtain ⟨hl, h⟩ := h
  obtain ⟨v0, e0, a, rfl, w0⟩ := h 0 _ rfl
  obtain ⟨v1, e1, b, rfl, w1⟩ := h 1 _ rfl
  obtain ⟨v2, e2, c, rfl, w2⟩ := h 2 _ rfl
  refine ⟨a, b, c, ?_, bounds_u8 w0, bounds_u8 w1, bounds_u8 w2⟩
  match cs, hl with
  | [x0, x1, x2], _ =>
    simp at e0 e1 e2
    rw [e0, e1, e2]
theorem pkt_odd8 {ep nu : Int} {wh : Bool} {a : Option Addr} {n c : Nat} : Odd8 #[.int .u32 ep, .int .u32 nu, .bool wh, .slice a n c] := odd8_list (l := [_, _, _, _]) fun v hv x e => by
  subst e
  simp at hv
structure HaSt (w : World) (g e p s m x : Nat) (S : S13) (E E2 : E15) (wr : World) : Prop where
  hb : Below w.heap.size w wr
  hr : RefAt wr g 5 120 S
  he : EarAt wr e p s E
  hm : MdlAt wr m x E2
  ho : w.heap.size ≤ g ∧ (w.heap.size ≤ e ∧ w.heap.size ≤ p ∧ w.heap.size ≤ s) ∧ w.heap.size ≤ m ∧ w.heap.size ≤ x
theorem RefAt.odd {w : World} {g : Nat} {Q : Int} {B : Nat} {S : S13} (h : RefAt w g Q B S) : ∃ cs, Cel w g 76 cs ∧ OddC cs := by
  obtain ⟨C, va, vl, vh, o, h⟩ := h
  exact ⟨_, h.e, .inl (by show 9 < 21; decide)⟩
section
variable {w wr w' : World} {g g' e p s m x x' : Nat} {S S' : S13} {E E' E2 : E15}
theorem HaSt.now (h : HaSt w g e p s m x S E E2 wr) (k : Below wr.heap.size wr w') : HaSt w g e p s m x S E E2 w' := ⟨chain h.hb k, h.hr.below k, h.he.below k, h.hm.below k, h.ho⟩
theorem HaSt.drewN (h : HaSt w g e p s m x S E E2 wr) (n : Nat) : HaSt w g e p s m x S E E2 (wr.drewN n) := h.now (Below.drewN' (Below.refl _ _) n)
/-- A new encoder. -/
theorem HaSt.fresh (h : HaSt w g e p s m x S E E2 wr) (k : Below wr.heap.size wr w') (hr : RefAt w' g' 5 120 S') (hg : wr.heap.size ≤ g') : HaSt w g' e p s m x S' E E2 w' := ⟨chain h.hb k, hr, h.he.below k, h.hm.below k, Nat.le_trans h.hb.size hg, h.ho.2⟩
/-- The encoder goes on. -/
theorem HaSt.ref (h : HaSt w g e p s m x S E E2 wr) (hr : RefAt w' g 5 120 S') (k : Keeps (· = g) wr w') : HaSt w g e p s m x S' E E2 w' := by
  obtain ⟨cs, hc, ho⟩ := h.hr.odd
  exact ⟨h.hb.trans (k.below h.hb.size fun j hj => by subst hj; exact h.ho.1), hr, h.he.keeps k fun j hj => by subst hj; exact ⟨_, Cel.typ hc, by decide, by decide, by decide, by decide, by decide, by decide, by decide⟩, h.hm.keeps k fun j hj => by subst hj; exact ⟨_, _, hc, by decide, by decide, by decide, ho⟩, h.ho⟩
theorem EarAt.odd (h : EarAt wr e p s E) (j : Nat) (hj : j = e ∨ j = p ∨ j = s) : ∃ t cs, Cel wr j t cs ∧ (t = 70 ∨ t = 105 ∨ t = 155) ∧ OddC cs := by
  obtain ⟨⟨c1, k1, o1⟩, c2, k2, o2⟩ := h.p.odd
  rcases hj with rfl | rfl | rfl
  · exact ⟨_, _, h.e, .inl rfl, .inl (by show 5 < 21; decide)⟩
  · exact ⟨_, _, k1, .inr (.inl rfl), o1⟩
  · exact ⟨_, _, k2, .inr (.inr rfl), o2⟩
/-- The ear goes on. -/
theorem HaSt.ear (h : HaSt w g e p s m x S E E2 wr) (he : EarAt w' e p s E') (k : Keeps (fun j => j = e ∨ j = p ∨ j = s) wr w') : HaSt w g e p s m x S E' E2 w' := by
  refine ⟨h.hb.trans (k.below h.hb.size fun j hj => by have := h.ho; rcases hj with rfl | rfl | rfl <;> omega), h.hr.keeps k fun j hj => ?_, he, h.hm.keeps k fun j hj => ?_, h.ho⟩
  · obtain ⟨t, cs, hc, ht, _⟩ := h.he.odd j hj
    refine ⟨t, Cel.typ hc, ?_⟩
    rcases ht with rfl | rfl | rfl <;> exact ⟨by decide, by decide, by decide⟩
  · obtain ⟨t, cs, hc, ht, ho⟩ := h.he.odd j hj
    refine ⟨t, cs, hc, ?_⟩
    rcases ht with rfl | rfl | rfl <;> exact ⟨by decide, by decide, by decide, ho⟩
/-- The law's own ear goes on. -/
theorem HaSt.mdl (h : HaSt w g e p s m x S E E2 wr) (hm : MdlAt w' m x' E') (hx : w.heap.size ≤ x') (k : Keeps (· = m) wr w') : HaSt w g e p s m x' S E E' w' := by
  have ht := Cel.typ h.hm.hm
  exact ⟨h.hb.trans (k.below h.hb.size fun j hj => by subst hj; exact h.ho.2.2.1), h.hr.keeps k fun j hj => by subst hj; exact ⟨_, ht, by decide, by decide, by decide⟩, h.he.keeps k fun j hj => by subst hj; exact ⟨_, ht, by decide, by decide, by decide, by decide, by decide, by decide, by decide⟩, hm, h.ho.1, h.ho.2.1, h.ho.2.2.1, hx⟩
/-- The law's own ear: no run goes on. -/
theorem HaSt.brk (h : HaSt w g e p s m x S E E2 wr) : HaSt w g e p s m x S E E2.brk (wr.setCell ⟨m, 3, none⟩ (.bool false)) := by
  have K : Keeps (· = m) wr (wr.setCell ⟨m, 3, none⟩ (.bool false)) := Keeps.set1 _
  refine h.mdl ⟨h.hm.hm.set_ 3 _, h.hm.hx.keeps K fun j hj => ?_⟩ h.ho.2.2.2 K
  subst hj
  exact ⟨_, _, h.hm.hm, by decide, by decide, .inl (by show 5 < 21; decide)⟩
/-- A packet is written. -/
theorem HaSt.pkt {Pk : Nat} {pk : Array Value} (h : HaSt w g e p s m x S E E2 wr) (hp : Cel wr Pk 42 pk) (hs : pk.size = 4) (hPk : w.heap.size ≤ Pk) (k : Keeps (· = Pk) wr w') : HaSt w g e p s m x S E E2 w' :=
  ⟨h.hb.trans (k.below h.hb.size fun j hj => by subst hj; exact hPk), h.hr.keeps k fun j hj => by subst hj; exact ⟨_, Cel.typ hp, by decide, by decide, by decide⟩, h.he.keeps k fun j hj => by subst hj; exact ⟨_, Cel.typ hp, by decide, by decide, by decide, by decide, by decide, by decide, by decide⟩, h.hm.keeps k fun j hj => by subst hj; exact ⟨_, _, hp, by decide, by decide, by decide, .inl (by rw [hs]; decide)⟩, h.ho⟩
theorem EarAt.odd8' (h : EarAt wr e p s E) (j : Nat) (hj : j = e ∨ j = p ∨ j = s) : ∃ t cs, Cel wr j t cs ∧ Odd8 cs := by
  rcases hj with rfl | hj
  · refine ⟨_, _, h.e, odd8_list (l := [_, _, _, _, _]) fun v hv x e => ?_⟩
    subst e
    simp at hv
  · exact h.p.odd8 j hj
theorem MdlAt.odd8 (h : MdlAt wr m x E) : ∃ t cs, Cel wr m t cs ∧ Odd8 cs := ⟨_, _, h.hm, odd8_list (l := [_, _, _, _, _]) fun v hv y e => by
  subst e
  simp at hv⟩
end
theorem frames_bd {E : E15} {ep nu : Int} {b : List Int} {k : Nat} {f : Nat → Int} (h : (E.frames ep nu b)[k]? = some f) (j : Nat) : -32768 ≤ f j ∧ f j ≤ 32767 := by
  have hm := List.mem_of_getElem? h
  unfold E15.frames fadeL at hm
  rw [List.mem_append, List.mem_map] at hm
  rcases hm with ⟨i, _, rfl⟩ | hm
  · exact smpP_bd _
  · rw [List.mem_singleton] at hm
    subst hm
    exact smpP_bd _
/-- What is held ahead of the packet's spoiling. -/
structure HcSt (w : World) (g e p s m x A Pk : Nat) (S : S13) (E : E15) (ac pk : Array Value) (ba : Option Addr) (n : Nat) (b : List Int) (wr : World) : Prop where
  hs : HaSt w g e p s m x S E E wr
  ha : Cel wr A 36 ac
  hp : Cel wr Pk 42 pk
  hi : IntsAt wr wr.heap.size .u8 ba n b
theorem HcSt.now {w : World} {g e p s m x A Pk : Nat} {S : S13} {E : E15} {ac pk : Array Value} {ba : Option Addr} {n : Nat} {b : List Int} {wr w' : World} (h : HcSt w g e p s m x A Pk S E ac pk ba n b wr) (k : Below wr.heap.size wr w') : HcSt w g e p s m x A Pk S E ac pk ba n b w' :=
  ⟨h.hs.now k, h.ha.below k, h.hp.below k, h.hi.now k (Nat.le_refl _)⟩
/-- What is held behind it. -/
structure HpkSt (w : World) (g e p s m x Pk : Nat) (S : S13) (E : E15) (ep nu : Int) (wh : Bool) (a : Option Addr) (n c : Nat) (b : List Int) (wr : World) : Prop where
  hs : HaSt w g e p s m x S E E wr
  hp : Cel wr Pk 42 #[.int .u32 ep, .int .u32 nu, .bool wh, .slice a n c]
  hi : IntsAt wr wr.heap.size .u8 a n b
  hn : a = none → c = 0
  hv : ∀ j, 0 ≤ byteF b j ∧ byteF b j ≤ 255
  hl : n ≤ 600
/-- A byte of the packet's own copy is another one. -/
theorem spoil_end {w w4 w5 : World} {g e p s m x Pk rb i n c6 bc : Nat} {S : S13} {E : E15} {ep nu tv : Int} {wh : Bool} {ba : Option Addr} {b : List Int} (h : HaSt w g e p s m x S E E w4) (hp : Cel w4 Pk 42 #[.int .u32 ep, .int .u32 nu, .bool wh, .slice ba n bc]) (hPb : w.heap.size ≤ Pk)
    (hB : Below w4.heap.size w4 w5) (hR : BRow w5 w4.heap.size (.slice (some ⟨rb, 0, none⟩) b.length c6) b) (hl : b.length = n) (hi : i < n) (hrb : w4.heap.size ≤ rb) (hb : ∀ j, 0 ≤ byteF b j ∧ byteF b j ≤ 255) (ht : 0 ≤ tv ∧ tv ≤ 255) (hn : n ≤ 600) (q : Nat) :
    HpkSt w g e p s m x Pk S E ep nu wh (some ⟨rb, 0, none⟩) n c6 (b.set i tv) (((w5.setCell ⟨Pk, 3, none⟩ (.slice (some ⟨rb, 0, none⟩) n c6)).setCell ⟨rb, i, none⟩ (.int .u8 tv)).drewN q) := by
  have hp5 := hp.below hB
  have hlt : Pk < w4.heap.size := hp.lt
  have nrb : Pk ≠ rb := by omega
  have KP : Keeps (· = Pk) w4 ((w5.setCell ⟨Pk, 3, none⟩ (.slice (some ⟨rb, 0, none⟩) n c6)).setCell ⟨rb, i, none⟩ (.int .u8 tv)) := Keeps.setCell (p := ⟨rb, i, none⟩) (Keeps.setCell (p := ⟨Pk, 3, none⟩) (Keeps.of_below (F := (· = Pk)) hB) (.inl rfl) _) (.inr hrb) _
  have KP2 : Keeps (· = Pk) w5 (w5.setCell ⟨Pk, 3, none⟩ (.slice (some ⟨rb, 0, none⟩) n c6)) := Keeps.set1 _
  have hrow := (BRow.keeps hR KP2 fun j hj => by subst hj; exact ⟨_, Cel.typ hp5, by decide⟩).set rfl (by rw [hl]; exact hi) tv
  have hP := (hp5.set_ 3 (.slice (some ⟨rb, 0, none⟩) n c6)).far (p := ⟨rb, i, none⟩) nrb (.int .u8 tv)
  have hH := h.pkt hp rfl hPb KP
  generalize ((w5.setCell ⟨Pk, 3, none⟩ (.slice (some ⟨rb, 0, none⟩) n c6)).setCell ⟨rb, i, none⟩ (.int .u8 tv)) = W at hrow hP hH ⊢
  have bq : Below W.heap.size W (W.drewN q) := Below.drewN' (Below.refl _ _) q
  obtain ⟨a10, c10, e10, hn10, hi10, _⟩ := hrow.below bq
  injection e10 with e101 e102 e103
  subst e101
  subst e103
  rw [List.length_set, hl] at hi10
  exact ⟨hH.now bq, hP.below bq, hi10, hn10, byte_set hb ht, hn⟩
/-- What is held ahead of the encoder's making. -/
structure HmSt (w : World) (e p s m x : Nat) (wr : World) : Prop where
  hb : Below w.heap.size w wr
  he : EarAt wr e p s e15Zero
  hm : MdlAt wr m x e15Zero
  ho : 0 ≤ w.heap.size ∧ (w.heap.size ≤ e ∧ w.heap.size ≤ p ∧ w.heap.size ≤ s) ∧ w.heap.size ≤ m ∧ w.heap.size ≤ x
/-- More numbers, or more acts, than are tried. -/
theorem concealHears_many (st : Int) (a a2 : Option Addr) (len cap len2 cap2 : Nat) (w : World) (hm : len ≤ 9223372036854775807) (hm2 : len2 ≤ 9223372036854775807) (h : 2000 < len ∨ 9 < len2) :
    Calls Tryz.prog 3 #[.slice a len cap, .int .u32 st, .slice a2 len2 cap2] w fun e w' => e = .returned (.bool true) ∧ Below w.heap.size w w' := by
  have HB := Lib.hid (Below.refl w.heap.size w)
  by_cases h1 : 2000 < len
  · have hd : decide ((2000 : Int) < (len : Int)) = true := by simp; omega
    go_enter Tryz.func3, Tryz.ntmps3
    go_wp2_with (go_at_call 6; go_loud (refine (lives15_any _).mono ?_); rintro e w1 ⟨rfl, hb⟩; replace HB := Lib.hid (chain HB.out hb); clear hb)
    go_ret
    exact ⟨rfl, HB.out⟩
  · have hd : decide ((2000 : Int) < (len : Int)) = false := by simp; omega
    have hd2 : decide ((9 : Int) < (len2 : Int)) = true := by simp; omega
    clear h
    go_enter Tryz.func3, Tryz.ntmps3
    go_wp2_with (go_at_call 6; go_loud (refine (lives15_any _).mono ?_); rintro e w1 ⟨rfl, hb⟩; replace HB := Lib.hid (chain HB.out hb); clear hb)
    go_ret
    exact ⟨rfl, HB.out⟩
end Go.Proofs.YtobhoecmmpijgaaGreat
