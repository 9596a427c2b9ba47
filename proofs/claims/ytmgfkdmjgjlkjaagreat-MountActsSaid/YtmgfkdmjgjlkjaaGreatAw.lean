/- Plain facts, and what functions give, for the proofs of this seat: several texts in one, each with its own first remark. -/
import Derived.Test.YtmgfkdmjgjlkjaaGreatAv

namespace Go.Proofs.YtmgfkdmjgjlkjaaGreat
open Go.RowKit
set_option linter.unusedVariables false
theorem tabE_snoc (f : Nat → Int) (n : Nat) (x : Int) (h : f n = x) : tabF n f ++ [x] = tabF (n + 1) f := by subst h; simp [tabF, List.range_succ]
def GetPostR (base g : Nat) (v : Value) (b : List Int) (D : DecS) (V : Nat → Int) (w : World) (e : Ending) (w' : World) : Prop :=
  ∃ a c, e = .returned (.tuple #[.slice a 21 c, .bool (rightB (tabF 21 V))]) ∧ IntsAt w' w'.heap.size .i64 a 21 (tabF 21 V) ∧ DecMem w' base g v b D ∧ Keeps (fun j => j = g) w w'
structure GotR (w : World) (B base g : Nat) (v : Value) (b : List Int) (D : DecS) (u : Value) (k : Nat) (V : Nat → Int) (wr : World) : Prop where
  d : DecMem wr base g v b D
  i : wr.ownsRow B 3 1 u k ((tabF k V).map (Value.int .i64))
  k : Keeps (fun j => j = g) w wr
  B : w.heap.size ≤ B ∧ B ≤ wr.heap.size
  gs : g < w.heap.size ∧ ∀ j, v.ownBlock = some j → j < w.heap.size
section
variable {w wr w' : World} {B base g k : Nat} {v u : Value} {b : List Int} {D D' : DecS} {V : Nat → Int}
theorem GotR.dec (h : GotR w B base g v b D u k V wr) (hd : DecMem w' base g v b D') (hk : Keeps (fun j => j = g) wr w') : GotR w B base g v b D' u k V w' :=
  ⟨hd, own_keeps h.i hk (fun j hj c => by have := own_base h.i j hj; have := h.B.1; have := h.gs.1; omega), h.k.trans hk, ⟨h.B.1, Nat.le_trans h.B.2 hk.size⟩, h.gs⟩
theorem GotR.decM {mg : Nat} (h : GotR w B base g v b D u k V wr) (hd : DecMem w' base g v b D') (hk : Keeps (fun j => j = g ∨ j = mg) wr w') (hm : w.heap.size ≤ mg ∧ mg < B) : GotR w B base g v b D' u k V w' :=
  ⟨hd, own_keeps h.i hk (fun j hj c => by have := own_base h.i j hj; have := h.B.1; have := h.gs.1; omega), h.k.then_ hk (fun j hj => by omega), ⟨h.B.1, Nat.le_trans h.B.2 hk.size⟩, h.gs⟩
theorem GotR.alloc (h : GotR w B base g v b D u k V wr) (o : Obj) : GotR w B base g v b D u k V (wr.alloc o) :=
  ⟨h.d.below (Below.alloc_new wr o), World.ownsRow.alloc h.i o, h.k.alloc o, ⟨h.B.1, Nat.le_trans h.B.2 (Below.alloc_new wr o).size⟩, h.gs⟩
theorem GotR.drewN (h : GotR w B base g v b D u k V wr) (n : Nat) : GotR w B base g v b D u k V (wr.drewN n) := ⟨h.d.drewN n, own_drewN h.i n, h.k.drewN n, h.B, h.gs⟩
theorem GotR.app (h : GotR w B base g v b D u k V wr) {u' : Value} (ho : w'.ownsRow B 3 1 u' (k + 1) ((tabF (k + 1) V).map (Value.int .i64))) (hg : wr.grownBy w' u.ownBlock) : GotR w B base g v b D u' (k + 1) V w' := by
  have hb := h.B
  have hgs := h.gs
  have hk : Keeps (fun j => u.ownBlock = some j) wr w' := Keeps.of_grown hg fun _ h => h
  exact ⟨h.d.keeps hk (fun c => by have := own_base h.i g c; omega) (fun j hj c => by have := own_base h.i j c; have := hgs.2 j hj; omega), ho,
    h.k.then_ hk (fun j hj => .inr (by have := own_base h.i j hj; omega)), ⟨hb.1, Nat.le_trans hb.2 hk.size⟩, hgs⟩
theorem GotR.post (h : GotR w B base g v b D u 21 V wr) : ∃ a c, u = .slice a 21 c ∧ IntsAt wr wr.heap.size .i64 a 21 (tabF 21 V) ∧ DecMem wr base g v b D ∧ Keeps (fun j => j = g) w wr := by
  obtain ⟨a, c, e⟩ := own_form h.i
  subst e
  exact ⟨a, c, rfl, own_ints' h.i, h.d, h.k⟩
end
set_option maxHeartbeats 400000 in
set_option maxRecDepth 100000 in
theorem ref10Get_alone (base g : Nat) (v : Value) (b : List Int) (D : DecS) (a2 : Option Addr) (cap2 : Nat) (d : Nat → Int) (w : World) (hD : DecMem w base g v b D) (hG : GoodD D) (hb : ∀ j, 0 ≤ byteF b j ∧ byteF b j ≤ 255) (hbl : b.length ≤ 1000000) (hi : D.i ≤ 3000000) :
    Calls Tryz.prog 80 #[.pointer (some ⟨g, 0, none⟩), .slice a2 0 cap2] w (GetPostR base g v b (getN true b D d 21) (getV true b D d) w) := by
  have H00 : RowKit.Hid (∀ w1, Below w.heap.size w w1 → GotR w w1.heap.size base g v b (getN true b D d 0) (.slice none 0 0) 0 (getV true b D d) w1) := fun w1 hb1 =>
    ⟨hD.below hb1, World.ownsRow_nil w1 _ _ _, .of_below hb1, ⟨hb1.size, Nat.le_refl _⟩, hD.1.lt, fun j hj => own_lt hD.2.1 j hj⟩
  have HG := Lib.hid (fun n => getN_good (q := true) (d := d) hb hG n)
  have HBd := Lib.hid (fun n => getV_bd (q := true) (d := d) hb hG n)
  have HS : RowKit.Hid (∀ n, getN true b D d (n + 1) = (decBits b (getN true b D d n) 0 5).2 ∧ getV true b D d n = (decBits b (getN true b D d n) 0 5).1) := fun n => by rw [getN_succ]; unfold getV; rw [getW_alone]; exact ⟨rfl, rfl⟩
  have HBy := Lib.hid hb
  generalize getN true b D d = N at H00 HG HS ⊢
  generalize getV true b D d = V at H00 HBd HS ⊢
  clear hD hG hb
  go_enter Tryz.func80, Tryz.ntmps80
  go_wp2_with (go_at_call 73; go_loud (refine (refApart_any _).mono ?_); rintro e w1 ⟨mg, mr, rfl, hM, hb⟩; have H0 := Lib.hid (H00.out w1 hb); clear hM hb)
  clear H00
  generalize w1.heap.size = B at H0
  go_loopw [7, 8] (fun u i wr => ∃ k : Nat, k ≤ 21 ∧ i = .int .i64 (k : Int) ∧ RowKit.Hid (GotR w B base g v b (N k) u k V wr)) (fun _ i _ => 21 - (intOf i).toNat)
  case atStart => exact ⟨0, by omega, rfl, H0.out⟩
  case round =>
    obtain ⟨k, hk2, rfl, H⟩ := hrel
    clear H0
    by_cases hlt : k < 21
    · obtain ⟨g1, g2⟩ := HG.out k
      have HG1 := Lib.hid g1
      obtain ⟨n0, n1⟩ := HBd.out k
      obtain ⟨s1, s2⟩ := HS.out k
      have HS1 := Lib.hid s1
      have HS2 := Lib.hid s2
      have HT := Lib.hid (tabE_snoc V k (V k) rfl)
      clear g1 s1 s2
      generalize V k = x at n0 n1 HS2 HT
      go_wp2_with (first
        | (go_at_call 79; go_loud (refine (refDecBits_any base g v b (N k) 5 _ H.out.d HBy.out hbl (by omega) HG1.out (by decide)).mono ?_); rintro e2 w2 ⟨rfl, k1, k2⟩; rw [← HS2.out]; rw [← HS1.out] at k1; have HA := Lib.hid ((H.out.dec k1 k2).alloc (.cells #[.int .i64 x] 3)); have hsrc := Lib.hid (lit_ints w2 3 .i64 [x] #[.int .i64 x] (0, 0) rfl (by simp)); clear k1 k2)
        | (at_builtin; have hB2 := HA.out.B.2; go_loud (refine append_ints rfl _ _ 68 rfl B 3 .i64 8 Tryz.underlying68 infoE_int u7 k (tabF k V) rfl HA.out.i (some ⟨w2.heap.size, 0, none⟩) 1 1 _ [x] rfl hsrc.out (by simp) (by unfold maxLen; omega) (by omega) hB2 ?_); intro v1 w3 hown hgrow _; rw [HT.out] at hown; have HV := Lib.hid (HA.out.app hown hgrow); clear hown hgrow))
      go_roundw
      case rel => exact ⟨k + 1, by omega, by go_num, HV.out⟩
      case measure => simp [intOf] <;> omega
    · obtain rfl : k = 21 := by omega
      obtain ⟨a, c, rfl, hI, hD, hK⟩ := H.out.post
      have HI := Lib.hid hI
      have HD := Lib.hid hD
      have HK := Lib.hid hK
      clear hI hD hK
      go_wp2_with (go_at_call 114; go_loud (refine (ref10Right_any _ _ _ _ _ HI.out (by decide)).mono ?_); rintro e1 w1 ⟨rfl, rfl⟩)
      go_ret2
      exact ⟨a, c, rfl, HI.out, HD.out, HK.out⟩
set_option maxHeartbeats 1000000 in
set_option maxRecDepth 100000 in
theorem ref10Get_diffs (base g : Nat) (v : Value) (b : List Int) (D : DecS) (a2 : Option Addr) (cap2 : Nat) (ds : List Int) (w : World) (hD : DecMem w base g v b D) (hG : GoodD D) (hb : ∀ j, 0 ≤ byteF b j ∧ byteF b j ≤ 255) (hbl : b.length ≤ 1000000) (hi : D.i ≤ 3000000)
    (hi2 : IntsAt w w.heap.size .i64 a2 21 ds) (hr2 : rightB ds = true) (hne2 : ∀ r off, a2 = some ⟨r, off, none⟩ → r ≠ g) :
    Calls Tryz.prog 80 #[.pointer (some ⟨g, 0, none⟩), .slice a2 21 cap2] w (GetPostR base g v b (getN false b D (fun j => ds.getD j 0) 21) (getV false b D (fun j => ds.getD j 0)) w) := by
  have H00 : RowKit.Hid (∀ w1, Below w.heap.size w w1 → GotR w w1.heap.size base g v b (getN false b D (fun j => ds.getD j 0) 0) (.slice none 0 0) 0 (getV false b D (fun j => ds.getD j 0)) w1) := fun w1 hb1 =>
    ⟨hD.below hb1, World.ownsRow_nil w1 _ _ _, .of_below hb1, ⟨hb1.size, Nat.le_refl _⟩, hD.1.lt, fun j hj => own_lt hD.2.1 j hj⟩
  have HG := Lib.hid (fun n => getN_good (q := false) (d := fun j => ds.getD j 0) hb hG n)
  have HBd := Lib.hid (fun n => getV_bd (q := false) (d := fun j => ds.getD j 0) hb hG n)
  have HS : RowKit.Hid (∀ n, getN false b D (fun j => ds.getD j 0) (n + 1) = decSym b (getN false b D (fun j => ds.getD j 0) n) difL ∧ getV false b D (fun j => ds.getD j 0) n = (ds.getD n 0 + decWhich (getN false b D (fun j => ds.getD j 0) n) difL) % 32) := fun n => by rw [getN_succ]; unfold getV; rw [getW_diff]; exact ⟨rfl, rfl⟩
  have HBy := Lib.hid hb
  have HL := Lib.hid difL_good
  have HLn := Lib.hid difL_len
  have HI2 := Lib.hid hi2
  have HN2 := Lib.hid hne2
  have HR2 := Lib.hid (rightB_true hr2).2
  generalize getN false b D (fun j => ds.getD j 0) = N at H00 HG HS ⊢
  generalize getV false b D (fun j => ds.getD j 0) = V at H00 HBd HS ⊢
  obtain ⟨L, hL⟩ : ∃ L, L = difL := ⟨_, rfl⟩
  have HLd := Lib.hid hL
  rw [← hL] at HS HL HLn
  clear hD hG hb hi2 hr2 hne2 hL
  go_enter Tryz.func80, Tryz.ntmps80
  go_wp2_with (go_at_call 73; go_loud (refine (refApart_any _).mono ?_); rintro e w1 ⟨mg, mr, rfl, hM, hb⟩; have H0 : RowKit.Hid (GotR w w1.heap.size base g v b (N 0) (.slice none 0 0) 0 V w1 ∧ RefMod w1 w.heap.size mg mr L true) := ⟨H00.out w1 hb, (by rw [HLd.out]; exact hM)⟩; have HMl := Lib.hid hM.lt; clear hM hb)
  clear H00
  generalize w1.heap.size = B at H0 HMl
  go_loopw [7, 8] (fun u i wr => ∃ k : Nat, k ≤ 21 ∧ i = .int .i64 (k : Int) ∧ RowKit.Hid (GotR w B base g v b (N k) u k V wr ∧ RefMod wr w.heap.size mg mr L true)) (fun _ i _ => 21 - (intOf i).toNat)
  case atStart => exact ⟨0, by omega, rfl, H0.out⟩
  case round =>
    obtain ⟨k, hk2, rfl, H⟩ := hrel
    clear H0
    by_cases hlt : k < 21
    · obtain ⟨g1, g2⟩ := HG.out k
      have HG1 := Lib.hid g1
      obtain ⟨n0, n1⟩ := HBd.out k
      obtain ⟨s1, s2⟩ := HS.out k
      have HS1 := Lib.hid s1
      obtain ⟨y0, y1⟩ := HR2.out k hlt
      have HT := Lib.hid (tabE_snoc V k (V k) rfl)
      have HJ : RowKit.Hid (IntsAt wr w.heap.size .i64 a2 21 ds) := HI2.out.keeps H.out.1.k (Nat.le_refl _) fun r off e _ _ c => HN2.out r off e c
      obtain ⟨b2, off2, rfl, hb2l, _, hcell⟩ := HJ.out.at_ hlt
      have hnr : b2 ≠ g := HN2.out _ _ rfl
      have hws := H.out.1.k.size
      obtain ⟨s, hs⟩ : ∃ s, s = decWhich (N k) L := ⟨_, rfl⟩
      have hs32 : s < 32 := by rw [hs, ← HLn.out]; exact (decWhich_is g1 HL.out).1
      rw [← hs] at s2
      have HSs := Lib.hid hs
      have HS3 := Lib.hid s2
      have HD : RowKit.Hid (mg ≠ g ∧ mr ≠ g ∧ (∀ j, v.ownBlock = some j → j ≠ mg ∧ j ≠ mr) ∧ b2 ≠ mr) := by
        have := HMl.out; have := H.out.1.gs
        exact ⟨by omega, by omega, fun j hj => by have := this.2 j hj; omega, by omega⟩
      have hik : RowKit.Hid ((N k).i ≤ 5000000) := by show _ ≤ _; omega
      have HMB : RowKit.Hid (w.heap.size ≤ mr ∧ mr < B) := ⟨HMl.out.2.2.2, HMl.out.2.1⟩
      clear g1 s1 s2 hs
      have HCl : RowKit.Hid (∀ w2, Keeps (fun j => j = g ∨ j = mr) wr w2 → w2.cell? ⟨b2, off2 + k, none⟩ = some (.int .i64 (ds.getD k 0))) := fun w2 hk => by
        exact (World.cell?_of_block (a := ⟨b2, off2 + k, none⟩) (hk.block b2 (by omega) (by have := HD.out.2.2.2; omega))).trans hcell
      have hCw : RowKit.Hid (∀ w2, Keeps (fun j => j = g) w w2 → w2.cell? ⟨b2, off2 + k, none⟩ = some (.int .i64 (ds.getD k 0))) := fun w2 hk => by
        obtain ⟨b3, off3, e, _, _, h⟩ := (HI2.out.keeps hk (Nat.le_refl _) fun r off e _ _ c => HN2.out r off e c).at_ hlt
        injection e with e
        injection e with e1 e2
        subst e1; subst e2
        exact h
      generalize ds.getD k 0 = y at y0 y1 HS3 HCl hcell hCw
      generalize V k = x at n0 n1 HS3 HT
      have u1 : IntKind.i64.wrap (y + s) = y + s := IntWalk.i64_in _ (by omega)
      have u2 : (y + (s : Int)).tmod 32 = x := by rw [Int.tmod_eq_emod_of_nonneg (by omega)]; exact HS3.out.symm
      obtain ⟨i0, hi0, hzz, hz1, hz2⟩ := info_parts infoE_int
      go_wp2
      have H1 : RowKit.Hid (GotR w B base g v b (N k) u7 k V wr.drew ∧ RefMod wr.drew w.heap.size mg mr L true) := ⟨H.out.1.drewN 1, H.out.2.drewN 1⟩
      have HCw : RowKit.Hid (∀ w2, Keeps (fun j => j = g) w w2 → w2.cell? ⟨b2, off2 + k, none⟩ = some (.int .i64 y)) := hCw
      have HCd : RowKit.Hid (∀ w2, Keeps (fun j => j = g ∨ j = mr) wr.drew w2 → w2.cell? ⟨b2, off2 + k, none⟩ = some (.int .i64 y)) := fun w2 hk => HCl.out w2 (((Keeps.refl _ wr).drewN 1).trans hk)
      go_region_held3 (fun w' => w'.cell? ⟨b2, off2 + k, none⟩ = some (.int .i64 y)) (go_keep) (first
        | (go_at_call 113; go_loud (refine (refDecSymbol_fixed base w.heap.size g v b (N k) mg mr L wr.drew H1.out.1.d HBy.out hbl hik.out H1.out.2 HG1.out HL.out HD.out.1 HD.out.2.1 HD.out.2.2.1).mono ?_); rintro e2 w2 ⟨rfl, k1, km, k2⟩; rw [← HSs.out]; rw [← HS1.out] at k1; have m0 := HCd.out w2 k2; have HK2 : Keeps (fun j => j = g ∨ j = mr) wr.drew w2 := k2; have HA0 := Lib.hid (H1.out.1.decM k1 HK2 HMB.out); have HAM := Lib.hid (km.below (Below.alloc_new w2 (.cells #[.int .i64 x] 3))); have HA := Lib.hid (HA0.out.alloc (.cells #[.int .i64 x] 3)); have hB2 := HA.out.B.2; clear k1 k2 km HK2)
        | (refine step_append_lies _ (by rfl) _ _ _ (by rfl) B 3 i0 (.int .i64 0) 1 8 Tryz.underlying68 hi0 hzz hz1 hz2 rfl (by decide) u7 k _ (by rfl) HA.out.i ⟨w2.heap.size, 0, none⟩ 1 1 [.int .i64 x] (by rfl) (by rfl) (World.news_of_block (cs := #[.int .i64 x]) (t := 3) (fr := (0, 0)) (heap_alloc_new w2 _)) (by simp [Value.oneCell']) (by omega) (by unfold maxLen; omega) (by omega) hB2 (w2.heap.size + 1) (by simp) ?_; intro gg cp w5 hown hgrow hat hlt2; have hown' : w5.ownsRow B 3 1 (.slice (some ⟨gg, 0, none⟩) (k + 1) cp) (k + 1) ((tabF (k + 1) V).map (Value.int .i64)) := (by rw [← HT.out, List.map_append]; exact hown); have HV : RowKit.Hid (GotR w B base g v b (N (k + 1)) (.slice (some ⟨gg, 0, none⟩) (k + 1) cp) (k + 1) V w5 ∧ RefMod w5 w.heap.size mg mr L true) := ⟨HA.out.app hown' hgrow, HAM.out.keeps (Keeps.of_grown (F := fun j => u7.ownBlock = some j) hgrow fun _ h => h) (fun c => by have := own_base HA.out.i mg c; have := HMl.out; omega) (fun c => by have := own_base HA.out.i mr c; have := HMl.out; omega)⟩; have m5 := HCw.out w5 HV.out.1.k; clear hown hgrow hat hlt2 hown')
        | fail)
      clear HA HAM hB2 m0 m5 H1 HCd HCw HCl
      go_wp2
      go_roundw
      case rel => exact ⟨k + 1, by omega, by go_num, HV.out⟩
      case measure => simp [intOf] <;> omega
    · obtain rfl : k = 21 := by omega
      obtain ⟨a, c, rfl, hI, hD, hK⟩ := H.out.1.post
      have HI := Lib.hid hI
      have HD := Lib.hid hD
      have HK := Lib.hid hK
      clear hI hD hK
      go_wp2_with (go_at_call 114; go_loud (refine (ref10Right_any _ _ _ _ _ HI.out (by decide)).mono ?_); rintro e1 w1 ⟨rfl, rfl⟩)
      go_ret2
      exact ⟨a, c, rfl, HI.out, HD.out, HK.out⟩
theorem ref10Get_any (base g : Nat) (v : Value) (b : List Int) (D : DecS) (q : Bool) (a2 : Option Addr) (len2 cap2 : Nat) (ds : List Int) (w : World) (hD : DecMem w base g v b D) (hG : GoodD D) (hb : ∀ j, 0 ≤ byteF b j ∧ byteF b j ≤ 255) (hbl : b.length ≤ 1000000) (hi : D.i ≤ 3000000)
    (hA : AheadAt w q a2 len2 ds) (hne2 : q = false → ∀ r off, a2 = some ⟨r, off, none⟩ → r ≠ g) :
    Calls Tryz.prog 80 #[.pointer (some ⟨g, 0, none⟩), .slice a2 len2 cap2] w (GetPostR base g v b (getN q b D (fun j => ds.getD j 0) 21) (getV q b D (fun j => ds.getD j 0)) w) := by
  rcases hA with ⟨h1, _, ⟨rfl, rfl⟩ | ⟨rfl, hr2, rfl⟩⟩
  · exact ref10Get_alone base g v b D a2 cap2 _ w hD hG hb hbl hi
  · exact ref10Get_diffs base g v b D a2 cap2 ds w hD hG hb hbl hi h1 hr2 (hne2 rfl)
theorem ref10Put_any (base g r c : Nat) (e : EncS) (q : Bool) (a a2 : Option Addr) (len2 cap cap2 : Nat) (zs ds : List Int) (w : World) (hE : EncMem w base g r c (digL e.n (e.k + 4)) e.s e.k) (hG : GoodE e) (hk : e.k ≤ 700000)
    (hi : IntsAt w w.heap.size .i64 a 21 zs) (hr : rightB zs = true) (hne : ∀ b off, a = some ⟨b, off, none⟩ → b ≠ g ∧ b ≠ r)
    (hA : AheadAt w q a2 len2 ds) (hne2 : q = false → ∀ b off, a2 = some ⟨b, off, none⟩ → b ≠ g ∧ b ≠ r) :
    Calls Tryz.prog 38 #[.pointer (some ⟨g, 0, none⟩), .slice a 21 cap, .slice a2 len2 cap2] w (EncPost base g r (putN q e (fun j => zs.getD j 0) (fun j => ds.getD j 0) 21) w) := by
  rcases hA with ⟨h1, _, ⟨rfl, rfl⟩ | ⟨rfl, hr2, rfl⟩⟩
  · exact ref10Put_alone base g r c e a a2 21 cap cap2 zs _ w hE hG hk hi rfl hr hne
  · exact ref10Put_diffs base g r c e a a2 cap cap2 zs ds w hE hG hk hi hr hne h1 hr2 (hne2 rfl)
end Go.Proofs.YtmgfkdmjgjlkjaaGreat
