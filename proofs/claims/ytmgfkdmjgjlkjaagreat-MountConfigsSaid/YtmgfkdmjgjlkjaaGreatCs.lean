/- Plain facts, and what functions give, for the proofs of this seat: several texts in one, each with its own first remark. -/
import Derived.Test.YtmgfkdmjgjlkjaaGreatCr

namespace Go.Proofs.YtmgfkdmjgjlkjaaGreat
open Go.RowKit
set_option linter.unusedVariables false
def RefSt (w : World) (B base g r : Nat) (E : EncS) (wr : World) : Prop :=
  ∃ r' c', EncMem wr base g r' c' (digL E.n (E.k + 4)) E.s E.k ∧ Keeps (fun j => j = g ∨ j = r) w wr ∧ (r' = r ∨ B ≤ r') ∧ w.heap.size ≤ B ∧ B ≤ wr.heap.size
theorem RefSt.start {w w1 : World} {base g r c : Nat} {E : EncS} (h : EncMem w base g r c (digL E.n (E.k + 4)) E.s E.k) (hb : Below w.heap.size w w1) : RefSt w w1.heap.size base g r E w1 :=
  ⟨r, c, h.below hb, .of_below hb, .inl rfl, hb.size, Nat.le_refl _⟩
theorem RefSt.ints {w wr : World} {B base g r len : Nat} {E : EncS} {a : Option Addr} {zs : List Int} (h : RefSt w B base g r E wr) (hi : IntsAt w w.heap.size .i64 a len zs) (hne : ∀ b off, a = some ⟨b, off, none⟩ → b ≠ g ∧ b ≠ r) : IntsAt wr w.heap.size .i64 a len zs := by
  obtain ⟨r', c', h1, h2, h3⟩ := h
  exact hi.keeps h2 (Nat.le_refl _) fun b off e _ _ c => by
    obtain ⟨n1, n2⟩ := hne b off e
    omega
theorem RefSt.step {w wr w' : World} {B base g r r' r2 c2 : Nat} {E' : EncS} (h2 : Keeps (fun j => j = g ∨ j = r) w wr) (h3 : (r' = r ∨ B ≤ r') ∧ w.heap.size ≤ B ∧ B ≤ wr.heap.size)
    (k1 : EncMem w' base g r2 c2 (digL E'.n (E'.k + 4)) E'.s E'.k) (k2 : Keeps (fun j => j = g ∨ j = r' ∨ w.heap.size ≤ j) wr w') (k3 : r2 = r' ∨ wr.heap.size ≤ r2) : RefSt w B base g r E' w' := by
  have hs := k2.size
  exact ⟨r2, c2, k1, h2.then_ k2 fun j hj => by omega, by omega, h3.2.1, by omega⟩
theorem RefSt.post {w wr : World} {B base g r : Nat} {E : EncS} (h : RefSt w B base g r E wr) : EncPost base g r E w (.returned (.tuple #[])) wr := by
  obtain ⟨r', c', h1, h2, h3, h4, h5⟩ := h
  exact ⟨rfl, r', c', h1, h2, by omega⟩
set_option maxRecDepth 100000 in
theorem ref10Put_alone (base g r c : Nat) (e : EncS) (a a2 : Option Addr) (len cap cap2 : Nat) (zs : List Int) (d : Nat → Int) (w : World) (hE : EncMem w base g r c (digL e.n (e.k + 4)) e.s e.k) (hG : GoodE e) (hk : e.k ≤ 700000)
    (hi : IntsAt w w.heap.size .i64 a len zs) (hl : len = 21) (hr : rightB zs = true) (hne : ∀ b off, a = some ⟨b, off, none⟩ → b ≠ g ∧ b ≠ r) :
    Calls Tryz.prog 38 #[.pointer (some ⟨g, 0, none⟩), .slice a len cap, .slice a2 0 cap2] w (EncPost base g r (putN true e (fun j => zs.getD j 0) d 21) w) := by
  have HE0 := Lib.hid hE
  have HI := Lib.hid hi
  have HN := Lib.hid hne
  have HR := Lib.hid (rightB_true hr).2
  have HG := Lib.hid (fun n => putN_good (q := true) (f := fun j => zs.getD j 0) (d := d) hG n)
  have HS : RowKit.Hid (∀ n, putN true e (fun j => zs.getD j 0) d (n + 1) = encBits (putN true e (fun j => zs.getD j 0) d n) (zs.getD n 0) 5) := fun n => by rw [putN_succ, putW_alone]
  have H00 : RowKit.Hid (∀ w1, Below w.heap.size w w1 → RefSt w w1.heap.size base g r (putN true e (fun j => zs.getD j 0) d 0) w1) := fun w1 hb => RefSt.start hE hb
  generalize putN true e (fun j => zs.getD j 0) d = P at H00 HG HS ⊢
  clear hE hi hr hne hG
  go_enter Tryz.func38, Tryz.ntmps38
  go_wp2_with (go_at_call 73; go_loud (refine (refApart_any _).mono ?_); rintro e w1 ⟨mg, mr, rfl, hM, hb⟩; have HB := Lib.hid hb; have H0 := Lib.hid (H00.out w1 hb); clear hM hb)
  clear H00
  go_loopw [7] (fun i wr => ∃ k : Nat, k ≤ 21 ∧ i = .int .i64 (k : Int) ∧ RowKit.Hid (RefSt w w1.heap.size base g r (P k) wr)) (fun i _ => 21 - (intOf i).toNat)
  case atStart => exact ⟨0, by omega, rfl, H0.out⟩
  case round =>
    obtain ⟨k, hk2, rfl, H⟩ := hrel
    clear H0
    by_cases hlt : k < 21
    · obtain ⟨b, off, rfl, _, _, hcell⟩ := (H.out.ints HI.out HN.out).at_ (j := k) (by omega)
      obtain ⟨x0, x1⟩ := HR.out k hlt
      obtain ⟨r', c', he, hke, hv⟩ := H.out
      have HE := Lib.hid he
      have HK := Lib.hid hke
      have HV := Lib.hid hv
      obtain ⟨g1, g2, _⟩ := HG.out k
      have HG1 := Lib.hid g1
      have HP := Lib.hid (HS.out k)
      clear he hke hv H g1
      generalize zs.getD k 0 = x at hcell x0 x1 HP
      have hkl : k < len := by omega
      go_wp2_with (go_at_call 36; go_loud (refine (refEncBits_any base g r' c' (P k) x 5 _ HE.out HG1.out (by omega) (by decide) x0 (by omega)).mono ?_); rintro e2 w2 ⟨rfl, r2, c2, k1, k2, k3⟩; have HT : RowKit.Hid (RefSt w w1.heap.size base g r (P (k + 1)) w2) := (by rw [HP.out]; exact RefSt.step HK.out HV.out k1 (k2.mono fun j hj => hj.elim .inl fun c => .inr (.inl c)) k3); clear k1 k2 k3)
      go_roundw
      case rel => exact ⟨k + 1, by omega, by go_num, HT.out⟩
      case measure => simp [intOf] <;> omega
    · obtain rfl : k = 21 := by omega
      have Z := Lib.hid (H.out.post)
      go_wp2
      go_end0
      exact Z.out
set_option maxHeartbeats 400000 in
set_option maxRecDepth 100000 in
theorem ref10Put_diffs (base g r c : Nat) (e : EncS) (a a2 : Option Addr) (cap cap2 : Nat) (zs ds : List Int) (w : World) (hE : EncMem w base g r c (digL e.n (e.k + 4)) e.s e.k) (hG : GoodE e) (hk : e.k ≤ 700000)
    (hi : IntsAt w w.heap.size .i64 a 21 zs) (hr : rightB zs = true) (hne : ∀ b off, a = some ⟨b, off, none⟩ → b ≠ g ∧ b ≠ r)
    (hi2 : IntsAt w w.heap.size .i64 a2 21 ds) (hr2 : rightB ds = true) (hne2 : ∀ b off, a2 = some ⟨b, off, none⟩ → b ≠ g ∧ b ≠ r) :
    Calls Tryz.prog 38 #[.pointer (some ⟨g, 0, none⟩), .slice a 21 cap, .slice a2 21 cap2] w (EncPost base g r (putN false e (fun j => zs.getD j 0) (fun j => ds.getD j 0) 21) w) := by
  have HE0 := Lib.hid hE
  have HI := Lib.hid hi
  have HN := Lib.hid hne
  have HR := Lib.hid (rightB_true hr).2
  have HI2 := Lib.hid hi2
  have HN2 := Lib.hid hne2
  have HR2 := Lib.hid (rightB_true hr2).2
  have HL := Lib.hid difL_good
  have HG := Lib.hid (fun n => putN_good (q := false) (f := fun j => zs.getD j 0) (d := fun j => ds.getD j 0) hG n)
  have HS : RowKit.Hid (∀ n, putN false e (fun j => zs.getD j 0) (fun j => ds.getD j 0) (n + 1) = encSym (putN false e (fun j => zs.getD j 0) (fun j => ds.getD j 0) n) difL ((zs.getD n 0 - ds.getD n 0) % 32).toNat) := fun n => by rw [putN_succ, putW_diff]
  have H00 : RowKit.Hid (∀ w1, Below w.heap.size w w1 → RefSt w w1.heap.size base g r (putN false e (fun j => zs.getD j 0) (fun j => ds.getD j 0) 0) w1) := fun w1 hb => RefSt.start hE hb
  have HLt := Lib.hid hE.lt
  generalize putN false e (fun j => zs.getD j 0) (fun j => ds.getD j 0) = P at H00 HG HS ⊢
  clear hE hi hr hne hG hi2 hr2 hne2
  go_enter Tryz.func38, Tryz.ntmps38
  go_wp2_with (go_at_call 73; go_loud (refine (refApart_any _).mono ?_); rintro e w1 ⟨mg, mr, rfl, hM, hb⟩; have HB := Lib.hid hb; have H0 : RowKit.Hid (RefSt w w1.heap.size base g r (P 0) w1 ∧ RefMod w1 w.heap.size mg mr difL true) := ⟨H00.out w1 hb, hM⟩; have HBs := Lib.hid hb.size; have HMl := Lib.hid hM.lt; clear hM hb)
  clear H00
  go_loopw [7] (fun i wr => ∃ k : Nat, k ≤ 21 ∧ i = .int .i64 (k : Int) ∧ RowKit.Hid (RefSt w w1.heap.size base g r (P k) wr ∧ RefMod wr w.heap.size mg mr difL true)) (fun i _ => 21 - (intOf i).toNat)
  case atStart => exact ⟨0, by omega, rfl, H0.out⟩
  case round =>
    obtain ⟨k, hk2, rfl, H⟩ := hrel
    clear H0
    by_cases hlt : k < 21
    · obtain ⟨b, off, rfl, _, _, hcell⟩ := (H.out.1.ints HI.out HN.out).at_ hlt
      obtain ⟨b2, off2, rfl, _, _, hcell2⟩ := (H.out.1.ints HI2.out HN2.out).at_ hlt
      obtain ⟨x0, x1⟩ := HR.out k hlt
      obtain ⟨y0, y1⟩ := HR2.out k hlt
      have HM := Lib.hid (H.out.2.drewN 1)
      obtain ⟨r', c', he, hke, hv⟩ := H.out.1
      have HE := Lib.hid (he.drewN 1)
      have HK := Lib.hid (hke.drewN 1)
      have HV := Lib.hid hv
      have HD : RowKit.Hid (mg ≠ g ∧ mg ≠ r' ∧ mr ≠ g ∧ mr ≠ r') := by
        have := HLt.out; have := HMl.out; have := HV.out
        refine ⟨?_, ?_, ?_, ?_⟩ <;> omega
      obtain ⟨g1, g2, _⟩ := HG.out k
      have HG1 := Lib.hid g1
      have HP := Lib.hid (HS.out k)
      clear he hke hv H g1
      generalize zs.getD k 0 = x at hcell x0 x1 HP
      generalize ds.getD k 0 = y at hcell2 y0 y1 HP
      have u0 : IntKind.i64.wrap (x + 32) = x + 32 := IntWalk.i64_in _ (by omega)
      have u1 : IntKind.i64.wrap (x + 32 - y) = x + 32 - y := IntWalk.i64_in _ (by omega)
      obtain ⟨s, hs⟩ : ∃ s : Nat, (x - y) % 32 = s := ⟨((x - y) % 32).toNat, by omega⟩
      have hs2 : s < difL.length := by rw [difL_len]; omega
      have HSl := Lib.hid hs2
      have HSn : RowKit.Hid (((x - y) % 32).toNat = s) := by show _ = _; omega
      have u2 : (x + 32 - y).tmod 32 = (s : Int) := by rw [Int.tmod_eq_emod_of_nonneg (by omega)]; omega
      rw [HSn.out] at HP
      clear hs hs2
      go_wp2
      go_still_tail 13, (by kernel_rfl)
      repeat still_step
      change wpList _ _ _ _ _ wr.drew
      go_wp2_with (go_at_call 74; go_loud (refine (refEncSymbol_any base w.heap.size g r' c' mg mr (P k) difL true s _ HE.out HM.out HG1.out HL.out HSl.out (by omega) HD.out.1 HD.out.2.1 HD.out.2.2.1 HD.out.2.2.2).mono ?_); rintro e2 w2 ⟨rfl, r2, c2, k1, km, k2, k3⟩; have HT : RowKit.Hid (RefSt w w1.heap.size base g r (P (k + 1)) w2 ∧ RefMod w2 w.heap.size mg mr difL true) := ⟨(by rw [HP.out]; exact RefSt.step HK.out HV.out k1 (k2.mono fun j hj => hj.elim .inl fun c => .inr (c.elim .inl fun c => .inr (by have := HMl.out; omega))) k3), km⟩; clear k1 k2 k3 km)
      go_roundw
      case rel => exact ⟨k + 1, by omega, by go_num, HT.out⟩
      case measure => simp [intOf] <;> omega
    · obtain rfl : k = 21 := by omega
      have Z := Lib.hid (H.out.1.post)
      go_wp2
      go_end0
      exact Z.out
end Go.Proofs.YtmgfkdmjgjlkjaaGreat

namespace Go.Proofs.YtmgfkdmjgjlkjaaGreat
open Go.RowKit
set_option linter.unusedVariables false
structure GotR (w : World) (B base g : Nat) (v : Value) (b : List Int) (D : DecS) (u : Value) (k : Nat) (V : Nat → Int) (wr : World) : Prop where
  d : DecMem wr base g v b D
  i : wr.ownsRow B 3 1 u k ((tabF k V).map (Value.int .i64))
  k : Keeps (fun j => j = g) w wr
  B : w.heap.size ≤ B ∧ B ≤ wr.heap.size
  gs : g < w.heap.size ∧ ∀ j, v.ownBlock = some j → j < w.heap.size
section
variable {w wr w' : World} {B base g k : Nat} {v u : Value} {b : List Int} {D D' : DecS} {V : Nat → Int}
theorem GotR.alloc (h : GotR w B base g v b D u k V wr) (o : Obj) : GotR w B base g v b D u k V (wr.alloc o) :=
  ⟨h.d.below (Below.alloc_new wr o), World.ownsRow.alloc h.i o, h.k.alloc o, ⟨h.B.1, Nat.le_trans h.B.2 (Below.alloc_new wr o).size⟩, h.gs⟩
theorem GotR.drewN (h : GotR w B base g v b D u k V wr) (n : Nat) : GotR w B base g v b D u k V (wr.drewN n) := ⟨h.d.drewN n, own_drewN h.i n, h.k.drewN n, h.B, h.gs⟩
theorem GotR.post (h : GotR w B base g v b D u 21 V wr) : ∃ a c, u = .slice a 21 c ∧ IntsAt wr wr.heap.size .i64 a 21 (tabF 21 V) ∧ DecMem wr base g v b D ∧ Keeps (fun j => j = g) w wr := by
  obtain ⟨a, c, e⟩ := own_form h.i
  subst e
  exact ⟨a, c, rfl, own_ints' h.i, h.d, h.k⟩
end
theorem ref10Put_any (base g r c : Nat) (e : EncS) (q : Bool) (a a2 : Option Addr) (len2 cap cap2 : Nat) (zs ds : List Int) (w : World) (hE : EncMem w base g r c (digL e.n (e.k + 4)) e.s e.k) (hG : GoodE e) (hk : e.k ≤ 700000)
    (hi : IntsAt w w.heap.size .i64 a 21 zs) (hr : rightB zs = true) (hne : ∀ b off, a = some ⟨b, off, none⟩ → b ≠ g ∧ b ≠ r)
    (hA : AheadAt w q a2 len2 ds) (hne2 : q = false → ∀ b off, a2 = some ⟨b, off, none⟩ → b ≠ g ∧ b ≠ r) :
    Calls Tryz.prog 38 #[.pointer (some ⟨g, 0, none⟩), .slice a 21 cap, .slice a2 len2 cap2] w (EncPost base g r (putN q e (fun j => zs.getD j 0) (fun j => ds.getD j 0) 21) w) := by
  rcases hA with ⟨h1, _, ⟨rfl, rfl⟩ | ⟨rfl, hr2, rfl⟩⟩
  · exact ref10Put_alone base g r c e a a2 21 cap cap2 zs _ w hE hG hk hi rfl hr hne
  · exact ref10Put_diffs base g r c e a a2 cap cap2 zs ds w hE hG hk hi hr hne h1 hr2 (hne2 rfl)
end Go.Proofs.YtmgfkdmjgjlkjaaGreat
