/- Plain facts, and what functions give, for the proofs of this seat: several texts in one, each with its own first remark. -/
import Derived.Test.YtobhoecmmpijgaaGreatGu
import Derived.Test.YtobhoecmmpijgaaGreatGg
import Derived.Test.YtobhoecmmpijgaaGreatGh
import Derived.Deep.RegionHeld3
import Derived.Deep.AppendLies
import Derived.Test.YtobhoecmmpijgaaGreatGs

/- What the document's Put of ceilings gives. -/
namespace Go.Proofs.YtobhoecmmpijgaaGreat
open Go.RowKit
set_option linter.unusedVariables false

/-- What is held while the document's encoder puts: its state, what else was written; its row is the first, or one from block B on. -/
def RefSt (w : World) (B base g r : Nat) (E : EncS) (wr : World) : Prop :=
  ∃ r' c', EncMem wr base g r' c' (digL E.n (E.k + 4)) E.s E.k ∧ Keeps (fun j => j = g ∨ j = r) w wr ∧ (r' = r ∨ B ≤ r') ∧ w.heap.size ≤ B ∧ B ≤ wr.heap.size
theorem RefSt.start {w w1 : World} {base g r c : Nat} {E : EncS} (h : EncMem w base g r c (digL E.n (E.k + 4)) E.s E.k) (hb : Below w.heap.size w w1) : RefSt w w1.heap.size base g r E w1 :=
  ⟨r, c, h.below hb, .of_below hb, .inl rfl, hb.size, Nat.le_refl _⟩
theorem RefSt.ints {w wr : World} {B base g r len : Nat} {E : EncS} {a : Option Addr} {zs : List Int} (h : RefSt w B base g r E wr) (hi : IntsAt w w.heap.size .i64 a len zs) (hne : ∀ b off, a = some ⟨b, off, none⟩ → b ≠ g ∧ b ≠ r) : IntsAt wr w.heap.size .i64 a len zs := by
  obtain ⟨r', c', h1, h2, h3⟩ := h
  exact hi.keeps h2 (Nat.le_refl _) fun b off e _ _ c => by
    obtain ⟨n1, n2⟩ := hne b off e
    omega
theorem RefSt.step {w wr w' : World} {B base g r r' r2 c2 : Nat} {E' : EncS} (h2 : Keeps (fun j => j = g ∨ j = r) w wr) (h3 : (r' = r ∨ B ≤ r') ∧ w.heap.size ≤ B ∧ B ≤ wr.heap.size)
    (k1 : EncMem w' base g r2 c2 (digL E'.n (E'.k + 4)) E'.s E'.k) (k2 : Keeps (fun j => j = g ∨ j = r' ∨ w.heap.size ≤ j) wr w') (k3 : r2 = r' ∨ wr.heap.size ≤ r2) : RefSt w B base g r E' w' := by
  have hs := k2.size
  exact ⟨r2, c2, k1, h2.then_ k2 fun j hj => by omega, by omega, h3.2.1, by omega⟩
theorem RefSt.post {w wr : World} {B base g r : Nat} {E : EncS} (h : RefSt w B base g r E wr) : EncPost base g r E w (.returned (.tuple #[])) wr := by
  obtain ⟨r', c', h1, h2, h3, h4, h5⟩ := h
  exact ⟨rfl, r', c', h1, h2, by omega⟩

set_option maxRecDepth 100000 in
theorem ref10Put_alone (base g r c : Nat) (e : EncS) (a a2 : Option Addr) (len cap cap2 : Nat) (zs : List Int) (d : Nat → Int) (w : World) (hE : EncMem w base g r c (digL e.n (e.k + 4)) e.s e.k) (hG : GoodE e) (hk : e.k ≤ 700000)
    (hi : IntsAt w w.heap.size .i64 a len zs) (hl : len = 21) (hr : rightB zs = true) (hne : ∀ b off, a = some ⟨b, off, none⟩ → b ≠ g ∧ b ≠ r) :
    Calls Tryz.prog 28 #[.pointer (some ⟨g, 0, none⟩), .slice a len cap, .slice a2 0 cap2] w (EncPost base g r (putN true e (fun j => zs.getD j 0) d 21) w) := by
  have HE0 := Lib.hid hE
  have HI := Lib.hid hi
  have HN := Lib.hid hne
  have HR := Lib.hid (rightB_true hr).2
  have HG := Lib.hid (fun n => putN_good (q := true) (f := fun j => zs.getD j 0) (d := d) hG n)
  have HS : RowKit.Hid (∀ n, putN true e (fun j => zs.getD j 0) d (n + 1) = encBits (putN true e (fun j => zs.getD j 0) d n) (zs.getD n 0) 5) := fun n => by rw [putN_succ, putW_alone]
  have H00 : RowKit.Hid (∀ w1, Below w.heap.size w w1 → RefSt w w1.heap.size base g r (putN true e (fun j => zs.getD j 0) d 0) w1) := fun w1 hb => RefSt.start hE hb
  generalize putN true e (fun j => zs.getD j 0) d = P at H00 HG HS ⊢
  clear hE hi hr hne hG
  go_enter Tryz.func28, Tryz.ntmps28
  go_wp2_with (go_at_call 57; go_loud (refine (refApart_any _).mono ?_); rintro e w1 ⟨mg, mr, rfl, hM, hb⟩; have HB := Lib.hid hb; have H0 := Lib.hid (H00.out w1 hb); clear hM hb)
  clear H00
  go_loopw [7] (fun i wr => ∃ k : Nat, k ≤ 21 ∧ i = .int .i64 (k : Int) ∧ RowKit.Hid (RefSt w w1.heap.size base g r (P k) wr)) (fun i _ => 21 - (intOf i).toNat)
  case atStart => exact ⟨0, by omega, rfl, H0.out⟩
  case round =>
    obtain ⟨k, hk2, rfl, H⟩ := hrel
    clear H0
    by_cases hlt : k < 21
    · obtain ⟨b, off, rfl, _, _, hcell⟩ := (H.out.ints HI.out HN.out).at_ (j := k) (by omega)
      obtain ⟨x0, x1⟩ := HR.out k hlt
      obtain ⟨r', c', he, hke, hv⟩ := H.out
      have HE := Lib.hid he
      have HK := Lib.hid hke
      have HV := Lib.hid hv
      obtain ⟨g1, g2, _⟩ := HG.out k
      have HG1 := Lib.hid g1
      have HP := Lib.hid (HS.out k)
      clear he hke hv H g1
      generalize zs.getD k 0 = x at hcell x0 x1 HP
      have hkl : k < len := by omega
      go_wp2_with (go_at_call 26; go_loud (refine (refEncBits_any base g r' c' (P k) x 5 _ HE.out HG1.out (by omega) (by decide) x0 (by omega)).mono ?_); rintro e2 w2 ⟨rfl, r2, c2, k1, k2, k3⟩; have HT : RowKit.Hid (RefSt w w1.heap.size base g r (P (k + 1)) w2) := (by rw [HP.out]; exact RefSt.step HK.out HV.out k1 (k2.mono fun j hj => hj.elim .inl fun c => .inr (.inl c)) k3); clear k1 k2 k3)
      go_roundw
      case rel => exact ⟨k + 1, by omega, by go_num, HT.out⟩
      case measure => simp [intOf] <;> omega
    · obtain rfl : k = 21 := by omega
      have Z := Lib.hid (H.out.post)
      go_wp2
      go_end0
      exact Z.out
set_option maxHeartbeats 400000 in
set_option maxRecDepth 100000 in
theorem ref10Put_diffs (base g r c : Nat) (e : EncS) (a a2 : Option Addr) (cap cap2 : Nat) (zs ds : List Int) (w : World) (hE : EncMem w base g r c (digL e.n (e.k + 4)) e.s e.k) (hG : GoodE e) (hk : e.k ≤ 700000)
    (hi : IntsAt w w.heap.size .i64 a 21 zs) (hr : rightB zs = true) (hne : ∀ b off, a = some ⟨b, off, none⟩ → b ≠ g ∧ b ≠ r)
    (hi2 : IntsAt w w.heap.size .i64 a2 21 ds) (hr2 : rightB ds = true) (hne2 : ∀ b off, a2 = some ⟨b, off, none⟩ → b ≠ g ∧ b ≠ r) :
    Calls Tryz.prog 28 #[.pointer (some ⟨g, 0, none⟩), .slice a 21 cap, .slice a2 21 cap2] w (EncPost base g r (putN false e (fun j => zs.getD j 0) (fun j => ds.getD j 0) 21) w) := by
  have HE0 := Lib.hid hE
  have HI := Lib.hid hi
  have HN := Lib.hid hne
  have HR := Lib.hid (rightB_true hr).2
  have HI2 := Lib.hid hi2
  have HN2 := Lib.hid hne2
  have HR2 := Lib.hid (rightB_true hr2).2
  have HL := Lib.hid difL_good
  have HG := Lib.hid (fun n => putN_good (q := false) (f := fun j => zs.getD j 0) (d := fun j => ds.getD j 0) hG n)
  have HS : RowKit.Hid (∀ n, putN false e (fun j => zs.getD j 0) (fun j => ds.getD j 0) (n + 1) = encSym (putN false e (fun j => zs.getD j 0) (fun j => ds.getD j 0) n) difL ((zs.getD n 0 - ds.getD n 0) % 32).toNat) := fun n => by rw [putN_succ, putW_diff]
  have H00 : RowKit.Hid (∀ w1, Below w.heap.size w w1 → RefSt w w1.heap.size base g r (putN false e (fun j => zs.getD j 0) (fun j => ds.getD j 0) 0) w1) := fun w1 hb => RefSt.start hE hb
  have HLt := Lib.hid hE.lt
  generalize putN false e (fun j => zs.getD j 0) (fun j => ds.getD j 0) = P at H00 HG HS ⊢
  clear hE hi hr hne hG hi2 hr2 hne2
  go_enter Tryz.func28, Tryz.ntmps28
  go_wp2_with (go_at_call 57; go_loud (refine (refApart_any _).mono ?_); rintro e w1 ⟨mg, mr, rfl, hM, hb⟩; have HB := Lib.hid hb; have H0 : RowKit.Hid (RefSt w w1.heap.size base g r (P 0) w1 ∧ RefMod w1 w.heap.size mg mr difL true) := ⟨H00.out w1 hb, hM⟩; have HBs := Lib.hid hb.size; have HMl := Lib.hid hM.lt; clear hM hb)
  clear H00
  go_loopw [7] (fun i wr => ∃ k : Nat, k ≤ 21 ∧ i = .int .i64 (k : Int) ∧ RowKit.Hid (RefSt w w1.heap.size base g r (P k) wr ∧ RefMod wr w.heap.size mg mr difL true)) (fun i _ => 21 - (intOf i).toNat)
  case atStart => exact ⟨0, by omega, rfl, H0.out⟩
  case round =>
    obtain ⟨k, hk2, rfl, H⟩ := hrel
    clear H0
    by_cases hlt : k < 21
    · obtain ⟨b, off, rfl, _, _, hcell⟩ := (H.out.1.ints HI.out HN.out).at_ hlt
      obtain ⟨b2, off2, rfl, _, _, hcell2⟩ := (H.out.1.ints HI2.out HN2.out).at_ hlt
      obtain ⟨x0, x1⟩ := HR.out k hlt
      obtain ⟨y0, y1⟩ := HR2.out k hlt
      have HM := Lib.hid (H.out.2.drewN 1)
      obtain ⟨r', c', he, hke, hv⟩ := H.out.1
      have HE := Lib.hid (he.drewN 1)
      have HK := Lib.hid (hke.drewN 1)
      have HV := Lib.hid hv
      have HD : RowKit.Hid (mg ≠ g ∧ mg ≠ r' ∧ mr ≠ g ∧ mr ≠ r') := by
        have := HLt.out; have := HMl.out; have := HV.out
        refine ⟨?_, ?_, ?_, ?_⟩ <;> omega
      obtain ⟨g1, g2, _⟩ := HG.out k
      have HG1 := Lib.hid g1
      have HP := Lib.hid (HS.out k)
      clear he hke hv H g1
      generalize zs.getD k 0 = x at hcell x0 x1 HP
      generalize ds.getD k 0 = y at hcell2 y0 y1 HP
      have u0 : IntKind.i64.wrap (x + 32) = x + 32 := IntWalk.i64_in _ (by omega)
      have u1 : IntKind.i64.wrap (x + 32 - y) = x + 32 - y := IntWalk.i64_in _ (by omega)
      obtain ⟨s, hs⟩ : ∃ s : Nat, (x - y) % 32 = s := ⟨((x - y) % 32).toNat, by omega⟩
      have hs2 : s < difL.length := by rw [difL_len]; omega
      have HSl := Lib.hid hs2
      have HSn : RowKit.Hid (((x - y) % 32).toNat = s) := by show _ = _; omega
      have u2 : (x + 32 - y).tmod 32 = (s : Int) := by rw [Int.tmod_eq_emod_of_nonneg (by omega)]; omega
      rw [HSn.out] at HP
      clear hs hs2
      go_wp2
      go_still_tail 13, (by kernel_rfl)
      repeat still_step
      change wpList _ _ _ _ _ wr.drew
      go_wp2_with (go_at_call 58; go_loud (refine (refEncSymbol_any base w.heap.size g r' c' mg mr (P k) difL true s _ HE.out HM.out HG1.out HL.out HSl.out (by omega) HD.out.1 HD.out.2.1 HD.out.2.2.1 HD.out.2.2.2).mono ?_); rintro e2 w2 ⟨rfl, r2, c2, k1, km, k2, k3⟩; have HT : RowKit.Hid (RefSt w w1.heap.size base g r (P (k + 1)) w2 ∧ RefMod w2 w.heap.size mg mr difL true) := ⟨(by rw [HP.out]; exact RefSt.step HK.out HV.out k1 (k2.mono fun j hj => hj.elim .inl fun c => .inr (c.elim .inl fun c => .inr (by have := HMl.out; omega))) k3), km⟩; clear k1 k2 k3 km)
      go_roundw
      case rel => exact ⟨k + 1, by omega, by go_num, HT.out⟩
      case measure => simp [intOf] <;> omega
    · obtain rfl : k = 21 := by omega
      have Z := Lib.hid (H.out.1.post)
      go_wp2
      go_end0
      exact Z.out
end Go.Proofs.YtobhoecmmpijgaaGreat

/- What the document's Get of ceilings gives. -/
namespace Go.Proofs.YtobhoecmmpijgaaGreat
open Go.RowKit
set_option linter.unusedVariables false

theorem tabE_snoc (f : Nat → Int) (n : Nat) (x : Int) (h : f n = x) : tabF n f ++ [x] = tabF (n + 1) f := by subst h; simp [tabF, List.range_succ]
/-- What is got by the document. -/
def GetPostR (base g : Nat) (v : Value) (b : List Int) (D : DecS) (V : Nat → Int) (w : World) (e : Ending) (w' : World) : Prop :=
  ∃ a c, e = .returned (.tuple #[.slice a 21 c, .bool (rightB (tabF 21 V))]) ∧ IntsAt w' w'.heap.size .i64 a 21 (tabF 21 V) ∧ DecMem w' base g v b D ∧ Keeps (fun j => j = g) w w'
/-- What is held on the way. -/
structure GotR (w : World) (B base g : Nat) (v : Value) (b : List Int) (D : DecS) (u : Value) (k : Nat) (V : Nat → Int) (wr : World) : Prop where
  d : DecMem wr base g v b D
  i : wr.ownsRow B 3 1 u k ((tabF k V).map (Value.int .i64))
  k : Keeps (fun j => j = g) w wr
  B : w.heap.size ≤ B ∧ B ≤ wr.heap.size
  gs : g < w.heap.size ∧ ∀ j, v.ownBlock = some j → j < w.heap.size
section
variable {w wr w' : World} {B base g k : Nat} {v u : Value} {b : List Int} {D D' : DecS} {V : Nat → Int}
theorem GotR.dec (h : GotR w B base g v b D u k V wr) (hd : DecMem w' base g v b D') (hk : Keeps (fun j => j = g) wr w') : GotR w B base g v b D' u k V w' :=
  ⟨hd, own_keeps h.i hk (fun j hj c => by have := own_base h.i j hj; have := h.B.1; have := h.gs.1; omega), h.k.trans hk, ⟨h.B.1, Nat.le_trans h.B.2 hk.size⟩, h.gs⟩
theorem GotR.decM {mg : Nat} (h : GotR w B base g v b D u k V wr) (hd : DecMem w' base g v b D') (hk : Keeps (fun j => j = g ∨ j = mg) wr w') (hm : w.heap.size ≤ mg ∧ mg < B) : GotR w B base g v b D' u k V w' :=
  ⟨hd, own_keeps h.i hk (fun j hj c => by have := own_base h.i j hj; have := h.B.1; have := h.gs.1; omega), h.k.then_ hk (fun j hj => by omega), ⟨h.B.1, Nat.le_trans h.B.2 hk.size⟩, h.gs⟩
theorem GotR.alloc (h : GotR w B base g v b D u k V wr) (o : Obj) : GotR w B base g v b D u k V (wr.alloc o) :=
  ⟨h.d.below (Below.alloc_new wr o), World.ownsRow.alloc h.i o, h.k.alloc o, ⟨h.B.1, Nat.le_trans h.B.2 (Below.alloc_new wr o).size⟩, h.gs⟩
theorem GotR.drewN (h : GotR w B base g v b D u k V wr) (n : Nat) : GotR w B base g v b D u k V (wr.drewN n) := ⟨h.d.drewN n, own_drewN h.i n, h.k.drewN n, h.B, h.gs⟩
theorem GotR.app (h : GotR w B base g v b D u k V wr) {u' : Value} (ho : w'.ownsRow B 3 1 u' (k + 1) ((tabF (k + 1) V).map (Value.int .i64))) (hg : wr.grownBy w' u.ownBlock) : GotR w B base g v b D u' (k + 1) V w' := by
  have hb := h.B
  have hgs := h.gs
  have hk : Keeps (fun j => u.ownBlock = some j) wr w' := Keeps.of_grown hg fun _ h => h
  exact ⟨h.d.keeps hk (fun c => by have := own_base h.i g c; omega) (fun j hj c => by have := own_base h.i j c; have := hgs.2 j hj; omega), ho,
    h.k.then_ hk (fun j hj => .inr (by have := own_base h.i j hj; omega)), ⟨hb.1, Nat.le_trans hb.2 hk.size⟩, hgs⟩
theorem GotR.post (h : GotR w B base g v b D u 21 V wr) : ∃ a c, u = .slice a 21 c ∧ IntsAt wr wr.heap.size .i64 a 21 (tabF 21 V) ∧ DecMem wr base g v b D ∧ Keeps (fun j => j = g) w wr := by
  obtain ⟨a, c, e⟩ := own_form h.i
  subst e
  exact ⟨a, c, rfl, own_ints' h.i, h.d, h.k⟩
end

set_option maxHeartbeats 400000 in
set_option maxRecDepth 100000 in
theorem ref10Get_alone (base g : Nat) (v : Value) (b : List Int) (D : DecS) (a2 : Option Addr) (cap2 : Nat) (d : Nat → Int) (w : World) (hD : DecMem w base g v b D) (hG : GoodD D) (hb : ∀ j, 0 ≤ byteF b j ∧ byteF b j ≤ 255) (hbl : b.length ≤ 1000000) (hi : D.i ≤ 3000000) :
    Calls Tryz.prog 63 #[.pointer (some ⟨g, 0, none⟩), .slice a2 0 cap2] w (GetPostR base g v b (getN true b D d 21) (getV true b D d) w) := by
  have H00 : RowKit.Hid (∀ w1, Below w.heap.size w w1 → GotR w w1.heap.size base g v b (getN true b D d 0) (.slice none 0 0) 0 (getV true b D d) w1) := fun w1 hb1 =>
    ⟨hD.below hb1, World.ownsRow_nil w1 _ _ _, .of_below hb1, ⟨hb1.size, Nat.le_refl _⟩, hD.1.lt, fun j hj => own_lt hD.2.1 j hj⟩
  have HG := Lib.hid (fun n => getN_good (q := true) (d := d) hb hG n)
  have HBd := Lib.hid (fun n => getV_bd (q := true) (d := d) hb hG n)
  have HS : RowKit.Hid (∀ n, getN true b D d (n + 1) = (decBits b (getN true b D d n) 0 5).2 ∧ getV true b D d n = (decBits b (getN true b D d n) 0 5).1) := fun n => by rw [getN_succ]; unfold getV; rw [getW_alone]; exact ⟨rfl, rfl⟩
  have HBy := Lib.hid hb
  generalize getN true b D d = N at H00 HG HS ⊢
  generalize getV true b D d = V at H00 HBd HS ⊢
  clear hD hG hb
  go_enter Tryz.func63, Tryz.ntmps63
  go_wp2_with (go_at_call 57; go_loud (refine (refApart_any _).mono ?_); rintro e w1 ⟨mg, mr, rfl, hM, hb⟩; have H0 := Lib.hid (H00.out w1 hb); clear hM hb)
  clear H00
  generalize w1.heap.size = B at H0
  go_loopw [7, 8] (fun u i wr => ∃ k : Nat, k ≤ 21 ∧ i = .int .i64 (k : Int) ∧ RowKit.Hid (GotR w B base g v b (N k) u k V wr)) (fun _ i _ => 21 - (intOf i).toNat)
  case atStart => exact ⟨0, by omega, rfl, H0.out⟩
  case round =>
    obtain ⟨k, hk2, rfl, H⟩ := hrel
    clear H0
    by_cases hlt : k < 21
    · obtain ⟨g1, g2⟩ := HG.out k
      have HG1 := Lib.hid g1
      obtain ⟨n0, n1⟩ := HBd.out k
      obtain ⟨s1, s2⟩ := HS.out k
      have HS1 := Lib.hid s1
      have HS2 := Lib.hid s2
      have HT := Lib.hid (tabE_snoc V k (V k) rfl)
      clear g1 s1 s2
      generalize V k = x at n0 n1 HS2 HT
      go_wp2_with (first
        | (go_at_call 38; go_loud (refine (refDecBits_any base g v b (N k) 5 _ H.out.d HBy.out hbl (by omega) HG1.out (by decide)).mono ?_); rintro e2 w2 ⟨rfl, k1, k2⟩; rw [← HS2.out]; rw [← HS1.out] at k1; have HA := Lib.hid ((H.out.dec k1 k2).alloc (.cells #[.int .i64 x] 3)); have hsrc := Lib.hid (lit_ints w2 3 .i64 [x] #[.int .i64 x] (0, 0) rfl (by simp)); clear k1 k2)
        | (at_builtin; have hB2 := HA.out.B.2; go_loud (refine append_ints rfl _ _ 72 rfl B 3 .i64 8 Tryz.underlying72 infoE_int u7 k (tabF k V) rfl HA.out.i (some ⟨w2.heap.size, 0, none⟩) 1 1 _ [x] rfl hsrc.out (by simp) (by unfold maxLen; omega) (by omega) hB2 ?_); intro v1 w3 hown hgrow _; rw [HT.out] at hown; have HV := Lib.hid (HA.out.app hown hgrow); clear hown hgrow))
      go_roundw
      case rel => exact ⟨k + 1, by omega, by go_num, HV.out⟩
      case measure => simp [intOf] <;> omega
    · obtain rfl : k = 21 := by omega
      obtain ⟨a, c, rfl, hI, hD, hK⟩ := H.out.post
      have HI := Lib.hid hI
      have HD := Lib.hid hD
      have HK := Lib.hid hK
      clear hI hD hK
      go_wp2_with (go_at_call 96; go_loud (refine (ref10Right_any _ _ _ _ _ HI.out (by decide)).mono ?_); rintro e1 w1 ⟨rfl, rfl⟩)
      go_ret2
      exact ⟨a, c, rfl, HI.out, HD.out, HK.out⟩
set_option maxHeartbeats 1000000 in
set_option maxRecDepth 100000 in
theorem ref10Get_diffs (base g : Nat) (v : Value) (b : List Int) (D : DecS) (a2 : Option Addr) (cap2 : Nat) (ds : List Int) (w : World) (hD : DecMem w base g v b D) (hG : GoodD D) (hb : ∀ j, 0 ≤ byteF b j ∧ byteF b j ≤ 255) (hbl : b.length ≤ 1000000) (hi : D.i ≤ 3000000)
    (hi2 : IntsAt w w.heap.size .i64 a2 21 ds) (hr2 : rightB ds = true) (hne2 : ∀ r off, a2 = some ⟨r, off, none⟩ → r ≠ g) :
    Calls Tryz.prog 63 #[.pointer (some ⟨g, 0, none⟩), .slice a2 21 cap2] w (GetPostR base g v b (getN false b D (fun j => ds.getD j 0) 21) (getV false b D (fun j => ds.getD j 0)) w) := by
  have H00 : RowKit.Hid (∀ w1, Below w.heap.size w w1 → GotR w w1.heap.size base g v b (getN false b D (fun j => ds.getD j 0) 0) (.slice none 0 0) 0 (getV false b D (fun j => ds.getD j 0)) w1) := fun w1 hb1 =>
    ⟨hD.below hb1, World.ownsRow_nil w1 _ _ _, .of_below hb1, ⟨hb1.size, Nat.le_refl _⟩, hD.1.lt, fun j hj => own_lt hD.2.1 j hj⟩
  have HG := Lib.hid (fun n => getN_good (q := false) (d := fun j => ds.getD j 0) hb hG n)
  have HBd := Lib.hid (fun n => getV_bd (q := false) (d := fun j => ds.getD j 0) hb hG n)
  have HS : RowKit.Hid (∀ n, getN false b D (fun j => ds.getD j 0) (n + 1) = decSym b (getN false b D (fun j => ds.getD j 0) n) difL ∧ getV false b D (fun j => ds.getD j 0) n = (ds.getD n 0 + decWhich (getN false b D (fun j => ds.getD j 0) n) difL) % 32) := fun n => by rw [getN_succ]; unfold getV; rw [getW_diff]; exact ⟨rfl, rfl⟩
  have HBy := Lib.hid hb
  have HL := Lib.hid difL_good
  have HLn := Lib.hid difL_len
  have HI2 := Lib.hid hi2
  have HN2 := Lib.hid hne2
  have HR2 := Lib.hid (rightB_true hr2).2
  generalize getN false b D (fun j => ds.getD j 0) = N at H00 HG HS ⊢
  generalize getV false b D (fun j => ds.getD j 0) = V at H00 HBd HS ⊢
  obtain ⟨L, hL⟩ : ∃ L, L = difL := ⟨_, rfl⟩
  have HLd := Lib.hid hL
  rw [← hL] at HS HL HLn
  clear hD hG hb hi2 hr2 hne2 hL
  go_enter Tryz.func63, Tryz.ntmps63
  go_wp2_with (go_at_call 57; go_loud (refine (refApart_any _).mono ?_); rintro e w1 ⟨mg, mr, rfl, hM, hb⟩; have H0 : RowKit.Hid (GotR w w1.heap.size base g v b (N 0) (.slice none 0 0) 0 V w1 ∧ RefMod w1 w.heap.size mg mr L true) := ⟨H00.out w1 hb, (by rw [HLd.out]; exact hM)⟩; have HMl := Lib.hid hM.lt; clear hM hb)
  clear H00
  generalize w1.heap.size = B at H0 HMl
  go_loopw [7, 8] (fun u i wr => ∃ k : Nat, k ≤ 21 ∧ i = .int .i64 (k : Int) ∧ RowKit.Hid (GotR w B base g v b (N k) u k V wr ∧ RefMod wr w.heap.size mg mr L true)) (fun _ i _ => 21 - (intOf i).toNat)
  case atStart => exact ⟨0, by omega, rfl, H0.out⟩
  case round =>
    obtain ⟨k, hk2, rfl, H⟩ := hrel
    clear H0
    by_cases hlt : k < 21
    · obtain ⟨g1, g2⟩ := HG.out k
      have HG1 := Lib.hid g1
      obtain ⟨n0, n1⟩ := HBd.out k
      obtain ⟨s1, s2⟩ := HS.out k
      have HS1 := Lib.hid s1
      obtain ⟨y0, y1⟩ := HR2.out k hlt
      have HT := Lib.hid (tabE_snoc V k (V k) rfl)
      have HJ : RowKit.Hid (IntsAt wr w.heap.size .i64 a2 21 ds) := HI2.out.keeps H.out.1.k (Nat.le_refl _) fun r off e _ _ c => HN2.out r off e c
      obtain ⟨b2, off2, rfl, hb2l, _, hcell⟩ := HJ.out.at_ hlt
      have hnr : b2 ≠ g := HN2.out _ _ rfl
      have hws := H.out.1.k.size
      obtain ⟨s, hs⟩ : ∃ s, s = decWhich (N k) L := ⟨_, rfl⟩
      have hs32 : s < 32 := by rw [hs, ← HLn.out]; exact (decWhich_is g1 HL.out).1
      rw [← hs] at s2
      have HSs := Lib.hid hs
      have HS3 := Lib.hid s2
      have HD : RowKit.Hid (mg ≠ g ∧ mr ≠ g ∧ (∀ j, v.ownBlock = some j → j ≠ mg ∧ j ≠ mr) ∧ b2 ≠ mr) := by
        have := HMl.out; have := H.out.1.gs
        exact ⟨by omega, by omega, fun j hj => by have := this.2 j hj; omega, by omega⟩
      have hik : RowKit.Hid ((N k).i ≤ 5000000) := by show _ ≤ _; omega
      have HMB : RowKit.Hid (w.heap.size ≤ mr ∧ mr < B) := ⟨HMl.out.2.2.2, HMl.out.2.1⟩
      clear g1 s1 s2 hs
      have HCl : RowKit.Hid (∀ w2, Keeps (fun j => j = g ∨ j = mr) wr w2 → w2.cell? ⟨b2, off2 + k, none⟩ = some (.int .i64 (ds.getD k 0))) := fun w2 hk => by
        exact (World.cell?_of_block (a := ⟨b2, off2 + k, none⟩) (hk.block b2 (by omega) (by have := HD.out.2.2.2; omega))).trans hcell
      have hCw : RowKit.Hid (∀ w2, Keeps (fun j => j = g) w w2 → w2.cell? ⟨b2, off2 + k, none⟩ = some (.int .i64 (ds.getD k 0))) := fun w2 hk => by
        obtain ⟨b3, off3, e, _, _, h⟩ := (HI2.out.keeps hk (Nat.le_refl _) fun r off e _ _ c => HN2.out r off e c).at_ hlt
        injection e with e
        injection e with e1 e2
        subst e1; subst e2
        exact h
      generalize ds.getD k 0 = y at y0 y1 HS3 HCl hcell hCw
      generalize V k = x at n0 n1 HS3 HT
      have u1 : IntKind.i64.wrap (y + s) = y + s := IntWalk.i64_in _ (by omega)
      have u2 : (y + (s : Int)).tmod 32 = x := by rw [Int.tmod_eq_emod_of_nonneg (by omega)]; exact HS3.out.symm
      obtain ⟨i0, hi0, hzz, hz1, hz2⟩ := info_parts infoE_int
      go_wp2
      have H1 : RowKit.Hid (GotR w B base g v b (N k) u7 k V wr.drew ∧ RefMod wr.drew w.heap.size mg mr L true) := ⟨H.out.1.drewN 1, H.out.2.drewN 1⟩
      have HCw : RowKit.Hid (∀ w2, Keeps (fun j => j = g) w w2 → w2.cell? ⟨b2, off2 + k, none⟩ = some (.int .i64 y)) := hCw
      have HCd : RowKit.Hid (∀ w2, Keeps (fun j => j = g ∨ j = mr) wr.drew w2 → w2.cell? ⟨b2, off2 + k, none⟩ = some (.int .i64 y)) := fun w2 hk => HCl.out w2 (((Keeps.refl _ wr).drewN 1).trans hk)
      go_region_held3 (fun w' => w'.cell? ⟨b2, off2 + k, none⟩ = some (.int .i64 y)) (go_keep) (first
        | (go_at_call 95; go_loud (refine (refDecSymbol_fixed base w.heap.size g v b (N k) mg mr L wr.drew H1.out.1.d HBy.out hbl hik.out H1.out.2 HG1.out HL.out HD.out.1 HD.out.2.1 HD.out.2.2.1).mono ?_); rintro e2 w2 ⟨rfl, k1, km, k2⟩; rw [← HSs.out]; rw [← HS1.out] at k1; have m0 := HCd.out w2 k2; have HK2 : Keeps (fun j => j = g ∨ j = mr) wr.drew w2 := k2; have HA0 := Lib.hid (H1.out.1.decM k1 HK2 HMB.out); have HAM := Lib.hid (km.below (Below.alloc_new w2 (.cells #[.int .i64 x] 3))); have HA := Lib.hid (HA0.out.alloc (.cells #[.int .i64 x] 3)); have hB2 := HA.out.B.2; clear k1 k2 km HK2)
        | (refine step_append_lies _ (by rfl) _ _ _ (by rfl) B 3 i0 (.int .i64 0) 1 8 Tryz.underlying72 hi0 hzz hz1 hz2 rfl (by decide) u7 k _ (by rfl) HA.out.i ⟨w2.heap.size, 0, none⟩ 1 1 [.int .i64 x] (by rfl) (by rfl) (World.news_of_block (cs := #[.int .i64 x]) (t := 3) (fr := (0, 0)) (heap_alloc_new w2 _)) (by simp [Value.oneCell']) (by omega) (by unfold maxLen; omega) (by omega) hB2 (w2.heap.size + 1) (by simp) ?_; intro gg cp w5 hown hgrow hat hlt2; have hown' : w5.ownsRow B 3 1 (.slice (some ⟨gg, 0, none⟩) (k + 1) cp) (k + 1) ((tabF (k + 1) V).map (Value.int .i64)) := (by rw [← HT.out, List.map_append]; exact hown); have HV : RowKit.Hid (GotR w B base g v b (N (k + 1)) (.slice (some ⟨gg, 0, none⟩) (k + 1) cp) (k + 1) V w5 ∧ RefMod w5 w.heap.size mg mr L true) := ⟨HA.out.app hown' hgrow, HAM.out.keeps (Keeps.of_grown (F := fun j => u7.ownBlock = some j) hgrow fun _ h => h) (fun c => by have := own_base HA.out.i mg c; have := HMl.out; omega) (fun c => by have := own_base HA.out.i mr c; have := HMl.out; omega)⟩; have m5 := HCw.out w5 HV.out.1.k; clear hown hgrow hat hlt2 hown')
        | fail)
      clear HA HAM hB2 m0 m5 H1 HCd HCw HCl
      go_wp2
      go_roundw
      case rel => exact ⟨k + 1, by omega, by go_num, HV.out⟩
      case measure => simp [intOf] <;> omega
    · obtain rfl : k = 21 := by omega
      obtain ⟨a, c, rfl, hI, hD, hK⟩ := H.out.1.post
      have HI := Lib.hid hI
      have HD := Lib.hid hD
      have HK := Lib.hid hK
      clear hI hD hK
      go_wp2_with (go_at_call 96; go_loud (refine (ref10Right_any _ _ _ _ _ HI.out (by decide)).mono ?_); rintro e1 w1 ⟨rfl, rfl⟩)
      go_ret2
      exact ⟨a, c, rfl, HI.out, HD.out, HK.out⟩
theorem ref10Get_any (base g : Nat) (v : Value) (b : List Int) (D : DecS) (q : Bool) (a2 : Option Addr) (len2 cap2 : Nat) (ds : List Int) (w : World) (hD : DecMem w base g v b D) (hG : GoodD D) (hb : ∀ j, 0 ≤ byteF b j ∧ byteF b j ≤ 255) (hbl : b.length ≤ 1000000) (hi : D.i ≤ 3000000)
    (hA : AheadAt w q a2 len2 ds) (hne2 : q = false → ∀ r off, a2 = some ⟨r, off, none⟩ → r ≠ g) :
    Calls Tryz.prog 63 #[.pointer (some ⟨g, 0, none⟩), .slice a2 len2 cap2] w (GetPostR base g v b (getN q b D (fun j => ds.getD j 0) 21) (getV q b D (fun j => ds.getD j 0)) w) := by
  rcases hA with ⟨h1, _, ⟨rfl, rfl⟩ | ⟨rfl, hr2, rfl⟩⟩
  · exact ref10Get_alone base g v b D a2 cap2 _ w hD hG hb hbl hi
  · exact ref10Get_diffs base g v b D a2 cap2 ds w hD hG hb hbl hi h1 hr2 (hne2 rfl)
theorem ref10Put_any (base g r c : Nat) (e : EncS) (q : Bool) (a a2 : Option Addr) (len2 cap cap2 : Nat) (zs ds : List Int) (w : World) (hE : EncMem w base g r c (digL e.n (e.k + 4)) e.s e.k) (hG : GoodE e) (hk : e.k ≤ 700000)
    (hi : IntsAt w w.heap.size .i64 a 21 zs) (hr : rightB zs = true) (hne : ∀ b off, a = some ⟨b, off, none⟩ → b ≠ g ∧ b ≠ r)
    (hA : AheadAt w q a2 len2 ds) (hne2 : q = false → ∀ b off, a2 = some ⟨b, off, none⟩ → b ≠ g ∧ b ≠ r) :
    Calls Tryz.prog 28 #[.pointer (some ⟨g, 0, none⟩), .slice a 21 cap, .slice a2 len2 cap2] w (EncPost base g r (putN q e (fun j => zs.getD j 0) (fun j => ds.getD j 0) 21) w) := by
  rcases hA with ⟨h1, _, ⟨rfl, rfl⟩ | ⟨rfl, hr2, rfl⟩⟩
  · exact ref10Put_alone base g r c e a a2 21 cap cap2 zs _ w hE hG hk hi rfl hr hne
  · exact ref10Put_diffs base g r c e a a2 cap cap2 zs ds w hE hG hk hi hr hne h1 hr2 (hne2 rfl)
end Go.Proofs.YtobhoecmmpijgaaGreat

/- What package quant's putting gives. -/
namespace Go.Proofs.YtobhoecmmpijgaaGreat
open Go.RowKit
set_option linter.unusedVariables false

/-- A block of another type is neither the encoder nor its row. -/
theorem EncAt.ne_cel {w : World} {base g m : Nat} {v : Value} {e : EncS} {t : TypeId} {cs : Array Value} (h : EncAt w base g v e) (k : Cel w m t cs) (h1 : t ≠ 227) (h2 : 5 ≠ t) : m ≠ g ∧ v.ownBlock ≠ some m := by
  obtain ⟨D, last, q1, q2⟩ := h
  exact ⟨cel_ne k q1.1 h1, fun c => own_ne_cel q1.2.1 k h2 m c rfl⟩
/-- What is held while lines are put: the encoder's and the model's state, and what else was written. -/
def PutQ (w : World) (base g mg : Nat) (v : Value) (S : EncS × List Int) (wr : World) : Prop :=
  ∃ v', EncAt wr base g v' S.1 ∧ ModAt wr mg S.2 false ∧ Keeps (fun j => j = g ∨ v.ownBlock = some j ∨ j = mg) w wr ∧ (∀ j, v'.ownBlock = some j → v.ownBlock = some j ∨ w.heap.size ≤ j)
section
variable {w wr w' : World} {base g mg : Nat} {v : Value} {S S' : EncS × List Int}
theorem PutQ.start (h : EncAt w base g v S.1) (hm : ModAt w mg S.2 false) : PutQ w base g mg v S w := ⟨v, h, hm, Keeps.refl _ w, fun _ h => .inl h⟩
theorem PutQ.below (h : PutQ w base g mg v S wr) (hb : Below wr.heap.size wr w') : PutQ w base g mg v S w' := by
  obtain ⟨v', h1, h2, h3, h4⟩ := h
  exact ⟨v', h1.below hb, h2.below hb, h3.trans (.of_below hb), h4⟩
theorem PutQ.drewN (h : PutQ w base g mg v S wr) (n : Nat) : PutQ w base g mg v S (wr.drewN n) := by
  obtain ⟨v', h1, h2, h3, h4⟩ := h
  exact ⟨v', h1.drewN n, h2.drewN n, h3.drewN n, h4⟩
theorem PutQ.step {v' v2 : Value} (h3 : Keeps (fun j => j = g ∨ v.ownBlock = some j ∨ j = mg) w wr) (h4 : ∀ j, v'.ownBlock = some j → v.ownBlock = some j ∨ w.heap.size ≤ j)
    (k1 : EncAt w' base g v2 S'.1) (km : ModAt w' mg S'.2 false) (k2 : Keeps (fun j => j = g ∨ v'.ownBlock = some j ∨ j = mg) wr w') (k3 : ∀ j, v2.ownBlock = some j → v'.ownBlock = some j ∨ wr.heap.size ≤ j) : PutQ w base g mg v S' w' := by
  refine ⟨v2, k1, km, h3.then_ k2 fun j hj => ?_, fun j hj => ?_⟩
  · rcases hj with hj | hj | hj
    · exact .inl (.inl hj)
    · rcases h4 j hj with c | c
      · exact .inl (.inr (.inl c))
      · exact .inr c
    · exact .inl (.inr (.inr hj))
  · rcases k3 j hj with c | c
    · exact h4 j c
    · exact .inr (Nat.le_trans h3.size c)
theorem PutQ.sym (hw : PutQ w base g mg v S wr) (hG : GoodE S.1) (hL : GoodL S.2) {s : Nat} (hs : s < S.2.length) (hk : S.1.k ≤ 800000) :
    Calls Tryz.prog 173 #[.pointer (some ⟨g, 0, none⟩), .pointer (some ⟨mg, 0, none⟩), .int .i64 s] wr fun e w' => e = .returned (.int .i64 0) ∧ PutQ w base g mg v (encSym S.1 S.2 s, learnP S.2 s) w' := by
  obtain ⟨v', h1, h2, h3, h4⟩ := hw
  refine (rncSymbol_any base g v' mg S.1 S.2 false s wr h1 h2 hG hL hs hk).mono ?_
  rintro e w2 ⟨rfl, v2, k1, km, k2, k3⟩
  exact ⟨rfl, PutQ.step (S' := (encSym S.1 S.2 s, learnP S.2 s)) h3 h4 k1 km k2 k3⟩
theorem PutQ.bits (hw : PutQ w base g mg v S wr) (hG : GoodE S.1) {n : Int} {wide : Nat} (n0 : 0 ≤ n) (hw24 : wide ≤ 24) (hn : n < P2 wide) (hk : S.1.k ≤ 800000) :
    Calls Tryz.prog 139 #[.pointer (some ⟨g, 0, none⟩), .int .u32 n, .int .i64 wide] wr fun e w' => e = .returned (.int .i64 0) ∧ PutQ w base g mg v (encBits S.1 n wide, S.2) w' := by
  obtain ⟨v', h1, h2, h3, h4⟩ := hw
  have hne := h1.ne_mod h2
  have hp : P2 wide ≤ 16777216 := by
    have := P2_mono (a := wide) (b := 24) hw24
    rw [show P2 24 = 16777216 by decide] at this
    exact this
  refine (rncBits_any base g v' S.1 n wide wr h1 hG n0 (by omega) hw24 hn hk).mono ?_
  rintro e w2 ⟨rfl, v2, k1, k2, k3⟩
  refine ⟨rfl, PutQ.step (S' := (encBits S.1 n wide, S.2)) h3 h4 k1 (h2.keeps k2 ?_) (k2.mono fun j hj => hj.elim .inl fun c => .inr (.inl c)) k3⟩
  rintro (c | c)
  · exact hne.1 c
  · exact hne.2 c
end

/-! ### Put -/
/-- Which lines' bands are told, and the lines' numbers. -/
def toldT (c s : Nat → Int) (i : Nat) : Bool := decide (s (ofN i) < c (ofN i))
def lineQ (x c s : Nat → Int) (i : Nat) : Int := if i < 512 then numQ (x i) (s (ofN i)) (c (ofN i)) else 0
theorem toldT_at {c s : Nat → Int} {b i : Nat} (hb : b < 21) (h0 : edgeK b ≤ i) (h1 : i < edgeK (b + 1)) : toldT c s i = decide (s b < c b) := by unfold toldT; rw [of_band hb h0 h1]
theorem lineQ_at {x c s : Nat → Int} {b i : Nat} (hb : b < 21) (h0 : edgeK b ≤ i) (h1 : i < edgeK (b + 1)) : lineQ x c s i = numQ (x i) (s b) (c b) := by
  have := edgeK_lt b hb
  unfold lineQ; rw [if_pos (by omega), of_band hb h0 h1]
theorem lineQ_bd {x c s : Nat → Int} (h : ∀ b, b < 21 → c b - s b ≤ 12) (i : Nat) : -4095 ≤ lineQ x c s i ∧ lineQ x c s i ≤ 4095 := by
  unfold lineQ; split
  · rename_i hi
    exact numQ_12 _ (h _ (of_lt hi))
  · decide
end Go.Proofs.YtobhoecmmpijgaaGreat
