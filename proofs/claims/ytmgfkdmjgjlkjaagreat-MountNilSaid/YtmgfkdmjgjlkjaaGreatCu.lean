/- Plain facts, and what functions give, for the proofs of this seat: several texts in one, each with its own first remark. -/
import Derived.Test.YtmgfkdmjgjlkjaaGreatCt

namespace Go.Proofs.YtmgfkdmjgjlkjaaGreat
open Go.RowKit
set_option linter.unusedVariables false
def outF (c s n : Nat → Int) (seed : Int) (i : Nat) : Int := if toldT c s i then n i * P2 (s (ofN i)).toNat else noiseP seed i (c (ofN i))
theorem outF_told {c s n : Nat → Int} {seed : Int} {b i : Nat} (hb : b < 21) (h0 : edgeK b ≤ i) (h1 : i < edgeK (b + 1)) (h : s b < c b) : outF c s n seed i = n i * P2 (s b).toNat := by
  unfold outF; rw [toldT_at hb h0 h1, of_band hb h0 h1, if_pos (by simpa using h)]
theorem outF_not {c s n : Nat → Int} {seed : Int} {b i : Nat} (hb : b < 21) (h0 : edgeK b ≤ i) (h1 : i < edgeK (b + 1)) (h : ¬ s b < c b) : outF c s n seed i = noiseP seed i (c b) := by
  unfold outF; rw [toldT_at hb h0 h1, of_band hb h0 h1, if_neg (by simpa using h)]
def ClPost (F : Nat → Prop) (n : Nat → Int) (ok : Nat → Bool) (St : Nat → World → Prop) (i : Nat) (w : World) (e : Ending) (w' : World) : Prop :=
  Keeps F w w' ∧ (ok i = true → e = .returned (.tuple #[.int .i32 (n i), .int .i64 0]) ∧ St (i + 1) w') ∧ (ok i = false → e = .returned (.tuple #[.int .i32 0, .int .i64 3]))
def FramePost (F : Nat → Prop) (ok : Nat → Bool) (St : Nat → World → Prop) (H : Nat → Int) (w : World) (e : Ending) (w' : World) : Prop :=
  Keeps F w w' ∧ (((∀ i, i < 512 → ok i = true) ∧ ∃ r, e = .returned (.tuple #[.slice (some ⟨r, 0, none⟩) 512 512, .int .i64 0]) ∧ IFun w' r 21 .i32 512 H ∧ w.heap.size ≤ r ∧ St 512 w') ∨
    ((∃ i, i < 512 ∧ ok i = false) ∧ e = .returned (.tuple #[.slice none 0 0, .int .i64 3])))
structure FrQ (w0 w2 : World) (F : Nat → Prop) (r : Nat) (ok : Nat → Bool) (St : Nat → World → Prop) (H : Nat → Int) (i : Nat) (wx : World) : Prop where
  f : IFun wx r 21 .i32 512 (preF H i)
  s : St i wx
  k : Keeps (fun j => F j ∨ j = r) w2 wx
  o : ∀ j, j < i → ok j = true
  d : w0.heap.size ≤ r ∧ r < w2.heap.size ∧ w0.heap.size ≤ w2.heap.size
section
variable {w0 w2 wx w' : World} {F : Nat → Prop} {r : Nat} {ok : Nat → Bool} {St : Nat → World → Prop} {H : Nat → Int} {i : Nat}
theorem FrQ.below (hSt : ∀ i wx w', St i wx → w0.heap.size ≤ wx.heap.size → Keeps (fun j => w0.heap.size ≤ j) wx w' → St i w') (h : FrQ w0 w2 F r ok St H i wx) (hb : Below wx.heap.size wx w') : FrQ w0 w2 F r ok St H i w' :=
  ⟨h.f.below hb h.f.lt, hSt i wx w' h.s (Nat.le_trans h.d.2.2 h.k.size) (.of_below hb), h.k.trans (.of_below hb), h.o, h.d⟩
theorem FrQ.set (hSt : ∀ i wx w', St i wx → w0.heap.size ≤ wx.heap.size → Keeps (fun j => w0.heap.size ≤ j) wx w' → St i w') (h : FrQ w0 w2 F r ok St H i wx) (hs : St (i + 1) wx) (hi : i < 512) (ho : ok i = true) : FrQ w0 w2 F r ok St H (i + 1) (wx.setCell ⟨r, i, none⟩ (.int .i32 (H i))) :=
  ⟨IFun.ext (h.f.set (j := i) hi (H i)) fun j _ => preF_next H i j, hSt (i + 1) wx _ hs (Nat.le_trans h.d.2.2 h.k.size) (Keeps.setCell (F := fun j => w0.heap.size ≤ j) (p := ⟨r, i, none⟩) (Keeps.refl _ wx) (.inl h.d.1) _),
    Keeps.setCell (p := ⟨r, i, none⟩) h.k (.inl (.inr rfl)) _, fun j hj => by
      by_cases e : j = i
      · rw [e]; exact ho
      · exact h.o j (by omega), h.d⟩
theorem FrQ.call (h : FrQ w0 w2 F r ok St H i wx) (hk : Keeps F wx w') (hF : ∀ j, F j → j < w0.heap.size) : IFun w' r 21 .i32 512 (preF H i) ∧ Keeps (fun j => F j ∨ j = r) w2 w' :=
  ⟨h.f.keeps hk (fun c => by have := hF r c; have := h.d.1; omega), h.k.trans (hk.mono fun j hj => .inl hj)⟩
end
set_option maxHeartbeats 1000000 in
set_option maxRecDepth 100000 in
theorem qFrameHeard_any (x0 : Value) (a a2 : Option Addr) (cap cap2 : Nat) (zs ss : List Int) (seed : Int) (w : World) (h : IntsAt w w.heap.size .i64 a 21 zs) (h2 : IntsAt w w.heap.size .i64 a2 21 ss) (hmay : mayQ zs ss = true) (sd0 : 0 ≤ seed) (sd1 : seed ≤ 4294967295)
    (F : Nat → Prop) (hF : ∀ j, F j → j < w.heap.size) (n : Nat → Int) (ok : Nat → Bool) (St : Nat → World → Prop)
    (hSt : ∀ i wx w', St i wx → w.heap.size ≤ wx.heap.size → Keeps (fun j => w.heap.size ≤ j) wx w' → St i w') (h0 : St 0 w)
    (hskip : ∀ i wx, i < 512 → toldT (fun j => zs.getD j 0) (fun j => ss.getD j 0) i = false → St i wx → St (i + 1) wx)
    (hok : ∀ i, i < 512 → toldT (fun j => zs.getD j 0) (fun j => ss.getD j 0) i = false → ok i = true)
    (hn : ∀ k i, k < 21 → edgeK k ≤ i → i < edgeK (k + 1) → ss.getD k 0 < zs.getD k 0 → ok i = true → -2147483648 ≤ n i * P2 (ss.getD k 0).toNat ∧ n i * P2 (ss.getD k 0).toNat ≤ 2147483647)
    (hcall : ∀ k i wx, k < 21 → edgeK k ≤ i → i < edgeK (k + 1) → ss.getD k 0 < zs.getD k 0 → St i wx → w.heap.size ≤ wx.heap.size → Calls Tryz.prog 137 #[.agg #[.int .i64 (edgeK k : Int), .int .i64 (edgeK (k + 1) : Int), .int .i64 (zs.getD k 0), .int .i64 (ss.getD k 0)], .int .i64 (i : Int), x0] wx (ClPost F n ok St i wx)) :
    Calls Tryz.prog 136 #[.slice a 21 cap, .slice a2 21 cap2, .int .u32 seed, .func (.func 137) #[] #[x0]] w
      (FramePost F ok St (outF (fun j => zs.getD j 0) (fun j => ss.getD j 0) n seed) w) := by
  obtain ⟨hr1, hr2, h12⟩ := mayQ_true hmay
  have HI := Lib.hid h
  have HI2 := Lib.hid h2
  have HC := Lib.hid (rightB_true hr1).2
  have HSs := Lib.hid (rightB_true hr2).2
  have H12 := Lib.hid h12
  have HF := Lib.hid hF
  have HSt := Lib.hid hSt
  have HCall := Lib.hid hcall
  have HNb := Lib.hid hn
  have HTf : RowKit.Hid (∀ k i, k < 21 → edgeK k ≤ i → i < edgeK (k + 1) → zs.getD k 0 ≤ ss.getD k 0 → ok i = true ∧ ∀ wx, St i wx → St (i + 1) wx) := fun k i hk i0 i1 hnt => by
    have ht : toldT (fun j => zs.getD j 0) (fun j => ss.getD j 0) i = false := by rw [toldT_at hk i0 i1]; simpa using hnt
    have := edgeK_lt k hk
    exact ⟨hok i (by omega) ht, fun wx hs => hskip i wx (by omega) ht hs⟩
  obtain ⟨H, hH⟩ : ∃ H, H = outF (fun j => zs.getD j 0) (fun j => ss.getD j 0) n seed := ⟨_, rfl⟩
  have HHt : RowKit.Hid (∀ k i, k < 21 → edgeK k ≤ i → i < edgeK (k + 1) → ss.getD k 0 < zs.getD k 0 → n i * P2 (ss.getD k 0).toNat = H i) := fun k i hk i0 i1 ht => by rw [hH]; exact (outF_told (c := fun j => zs.getD j 0) (s := fun j => ss.getD j 0) hk i0 i1 ht).symm
  have HHn : RowKit.Hid (∀ k i, k < 21 → edgeK k ≤ i → i < edgeK (k + 1) → zs.getD k 0 ≤ ss.getD k 0 → noiseP seed i (zs.getD k 0) = H i) := fun k i hk i0 i1 ht => by rw [hH]; exact (outF_not (c := fun j => zs.getD j 0) (s := fun j => ss.getD j 0) hk i0 i1 (by omega)).symm
  rw [← hH]
  have hmk : ∀ w : World, (Instr.makeSlice 118 (.int .i64 512) (.int .i64 512)).run Tryz.prog w = .ok (.slice (some ⟨w.heap.size, 0, none⟩) 512 512) (w.alloc (.cells (madeCells #[.int .i32 0] 512) 21)) :=
    fun w => make_zeros (P := Tryz.prog) Tryz.underlying118 infoE_i32 512 (by decide) (by decide) w
  have hmf : ∀ (fn : Fn) (first cap : Array Value) (w : World), (Instr.makeFunc fn first cap).run Tryz.prog w = .ok (.func fn first cap) w := fun _ _ _ _ => rfl
  have HZ := Lib.hid (fun w => IFun.zeros w 21 .i32 512)
  generalize madeCells #[Value.int .i32 0] 512 = mc at hmk HZ
  have H00 : RowKit.Hid (IFun (w.alloc (.cells mc 21)) w.heap.size 21 .i32 512 (fun _ => 0) ∧ Below w.heap.size w (w.alloc (.cells mc 21)) ∧ w.heap.size < (w.alloc (.cells mc 21)).heap.size) := ⟨HZ.out w, Below.alloc_new w _, (HZ.out w).lt⟩
  have HS0 := Lib.hid h0
  clear HZ hr1 hr2 h12 hH h h2 hmay hF hSt h0 hskip hok hn hcall
  go_enter Tryz.func136, Tryz.ntmps136
  go_wp2_with (go_at_call 164; go_loud (refine (qParts_any _ _ _ _ zs ss _ (HI.out.now H00.out.2.1 (Nat.le_refl _)) (HI2.out.now H00.out.2.1 (Nat.le_refl _))).mono ?_); rintro e1 w2 ⟨pg, rfl, hp, hg, hb⟩; have HP2 := Lib.hid hp; have HB2 := Lib.hid (chain H00.out.2.1 hb); have HF2 := Lib.hid (H00.out.1.below hb H00.out.2.2); have hpg := Nat.lt_of_lt_of_le H00.out.2.2 hg; have hpl := hp.lt; clear hg hp hb)
  clear hmk
  obtain ⟨r, hr⟩ : ∃ r, r = w.heap.size := ⟨_, rfl⟩
  have hrl : RowKit.Hid (w.heap.size ≤ r ∧ r < pg ∧ r < w2.heap.size ∧ w.heap.size ≤ w2.heap.size) := by have := HF2.out.lt; have := HB2.out.size; show _ ∧ _; omega
  have HFw : RowKit.Hid (∀ j, F j → j < r) := fun j hj => by rw [hr]; exact HF.out j hj
  rw [← hr] at HF2 ⊢
  have H0 : RowKit.Hid (FrQ w w2 F r ok St H (edgeK 0) w2) := ⟨IFun.ext HF2.out fun j _ => (preF_zero H j).symm, HSt.out 0 w w2 HS0.out (Nat.le_refl _) (.of_below HB2.out), Keeps.refl _ _, fun j hj => by rw [edgeK_zero] at hj; omega, hrl.out.1, hrl.out.2.2.1, hrl.out.2.2.2⟩
  have HNp : RowKit.Hid (¬ (F pg ∨ pg = r)) := by
    rintro (c | c)
    · have := HF.out pg c; have := hrl.out; omega
    · have := hrl.out; omega
  clear HF2 HS0 hr H00 hpg
  go_loopw [21] (fun i wr => ∃ k : Nat, k ≤ 21 ∧ i = .int .i64 (k : Int) ∧ RowKit.Hid (FrQ w w2 F r ok St H (edgeK k) wr)) (fun i _ => 21 - (intOf i).toNat)
  case atStart => exact ⟨0, by omega, rfl, H0.out⟩
  case round =>
    obtain ⟨k, hk, rfl, G0⟩ := hrel
    clear H0
    by_cases hlt : k < 21
    · have hrow : IFun wr pg 221 .i64 84 (partF (fun j => zs.getD j 0) (fun j => ss.getD j 0)) := HP2.out.keeps G0.out.k HNp.out
      have d0 := hrow.cell (j := k * 4) (by omega)
      have d1 := hrow.cell (j := k * 4 + 1) (by omega)
      have d2 := hrow.cell (j := k * 4 + 2) (by omega)
      have d3 := hrow.cell (j := k * 4 + 3) (by omega)
      rw [partF_0] at d0
      rw [partF_1] at d1
      rw [partF_2] at d2
      rw [partF_3] at d3
      clear hrow
      obtain ⟨c0, c1⟩ := HC.out k hlt
      obtain ⟨s0, s1⟩ := HSs.out k hlt
      have cs := H12.out k hlt
      obtain ⟨ed1, ed2⟩ := edgeK_lt k hlt
      have HCk : RowKit.Hid (∀ i wx, edgeK k ≤ i → i < edgeK (k + 1) → ss.getD k 0 < zs.getD k 0 → St i wx → w.heap.size ≤ wx.heap.size → Calls Tryz.prog 137 #[.agg #[.int .i64 (edgeK k : Int), .int .i64 (edgeK (k + 1) : Int), .int .i64 (zs.getD k 0), .int .i64 (ss.getD k 0)], .int .i64 (i : Int), x0] wx (ClPost F n ok St i wx)) := fun i wx => HCall.out k i wx hlt
      have HNk : RowKit.Hid (∀ i, edgeK k ≤ i → i < edgeK (k + 1) → ss.getD k 0 < zs.getD k 0 → ok i = true → -2147483648 ≤ n i * P2 (ss.getD k 0).toNat ∧ n i * P2 (ss.getD k 0).toNat ≤ 2147483647) := fun i => HNb.out k i hlt
      have HTk : RowKit.Hid (∀ i, edgeK k ≤ i → i < edgeK (k + 1) → zs.getD k 0 ≤ ss.getD k 0 → ok i = true ∧ ∀ wx, St i wx → St (i + 1) wx) := fun i => HTf.out k i hlt
      have HHk : RowKit.Hid (∀ i, edgeK k ≤ i → i < edgeK (k + 1) → ss.getD k 0 < zs.getD k 0 → n i * P2 (ss.getD k 0).toNat = H i) := fun i => HHt.out k i hlt
      have HHm : RowKit.Hid (∀ i, edgeK k ≤ i → i < edgeK (k + 1) → zs.getD k 0 ≤ ss.getD k 0 → noiseP seed i (zs.getD k 0) = H i) := fun i => HHn.out k i hlt
      generalize zs.getD k 0 = c at d2 c0 c1 cs HCk HNk HTk HHk HHm
      generalize ss.getD k 0 = s at d3 s0 s1 cs HCk HNk HTk HHk HHm
      obtain ⟨B, hB⟩ : ∃ B, B = edgeK (k + 1) := ⟨_, rfl⟩
      rw [← hB] at d1 ed1 ed2 HCk HNk HTk HHk HHm
      have HBk := Lib.hid hB
      clear hB
      generalize edgeK k = A at d0 ed1 HCk HNk HTk HHk HHm G0
      have l0 : (k : Int) < 21 := by omega
      obtain ⟨nn, hnn⟩ : ∃ nn, nn = B - A := ⟨_, rfl⟩
      have hB2 : B = A + nn := by omega
      have HEnd : RowKit.Hid (edgeK (k + 1) = A + nn) := by show _ = _; rw [← HBk.out]; exact hB2
      have HAB := Lib.hid hB2
      have HCn := Lib.hid (Cel.new wr 221 #[.int .i64 (A : Int), .int .i64 (B : Int), .int .i64 c, .int .i64 s])
      have HG1 := Lib.hid (G0.out.below HSt.out (Below.alloc_new wr (.cells #[.int .i64 (A : Int), .int .i64 (B : Int), .int .i64 c, .int .i64 s] 221)))
      have HWs : RowKit.Hid (w2.heap.size ≤ wr.heap.size) := G0.out.k.size
      clear hnn HBk hB2
      go_wp2
      generalize (wr.alloc (.cells #[.int .i64 (A : Int), .int .i64 (B : Int), .int .i64 c, .int .i64 s] 221)) = w3 at HCn HG1 ⊢
      obtain ⟨pb, hpb⟩ : ∃ pb, pb = wr.heap.size := ⟨_, rfl⟩
      rw [← hpb] at HCn HWs ⊢
      clear hpb d0 d1 d2 d3 G0
      go_loopw [13] (fun i wx => ∃ m : Nat, m ≤ nn ∧ i = .int .i64 ((A + m : Nat) : Int) ∧ RowKit.Hid (FrQ w w2 F r ok St H (A + m) wx ∧ Cel wx pb 221 #[.int .i64 (A : Int), .int .i64 (B : Int), .int .i64 c, .int .i64 s])) (fun i _ => A + nn - (intOf i).toNat)
      case atStart => exact ⟨0, by omega, rfl, HG1.out, HCn.out⟩
      case round =>
        obtain ⟨m, hm, rfl, G⟩ := hrel
        clear HG1 HCn
        obtain ⟨q0, q1, q2, q3⟩ := part_at G.out.2
        obtain ⟨I, hI⟩ : ∃ I, I = A + m := ⟨_, rfl⟩
        rw [← hI] at G ⊢
        have hAB := HAB.out
        by_cases hmn : m < nn
        · have l1 : (I : Int) < (B : Int) := by omega
          have i1 : I < 512 := by omega
          have hAI : A ≤ I := by omega
          have hIB : I < B := by omega
          have HI1 : RowKit.Hid (I + 1 = A + (m + 1)) := by show _ = _; omega
          have HIE : RowKit.Hid (I < A + nn) := by show _ < _; omega
          have HPbl : RowKit.Hid (¬ F pb ∧ pb ≠ r) := ⟨fun c => by have := HFw.out pb c; have := hrl.out; have := HWs.out; omega, by have := hrl.out; have := HWs.out; omega⟩
          clear hI hAB
          by_cases htd : s < c
          · have HTd : RowKit.Hid (decide (s < c) = true) := decide_eq_true htd
            have HCi := Lib.hid (fun wx => HCk.out I wx hAI hIB htd)
            have hHi := HHk.out I hAI hIB htd
            have HNi := Lib.hid (HNk.out I hAI hIB htd)
            cases hoki : ok I with
            | true =>
              obtain ⟨y0, y1⟩ := HNi.out hoki
              obtain ⟨sn, hsn⟩ : ∃ sn : Nat, s = sn := ⟨s.toNat, by omega⟩
              subst hsn
              rw [Int.toNat_natCast] at hHi y0 y1
              rw [hHi] at y0 y1
              have HHi := Lib.hid hHi
              have HOk := Lib.hid hoki
              clear hHi hoki
              go_wp2_with (first
                | (go_at_call 165; go_loud (refine (qTold_any (A : Int) (B : Int) c (sn : Int) _).mono ?_); rintro e w5 ⟨rfl, hb⟩; rw [HTd.out]; have HQ5 := Lib.hid (G.out.1.below HSt.out hb); have HC5 := Lib.hid (G.out.2.below hb); obtain ⟨t0, t1, t2, t3⟩ := part_at HC5.out; clear hb)
                | (go_at_call 137; go_loud (refine (HCi.out w5 HQ5.out.s (Nat.le_trans HQ5.out.d.2.2 HQ5.out.k.size)).mono ?_); rintro e w6 ⟨hk6, hy6, _⟩; obtain ⟨rfl, hs6⟩ := hy6 HOk.out; have hc6 := HQ5.out.call hk6 HF.out; have HQ6 : RowKit.Hid (IFun w6 r 21 .i32 512 (preF H I) ∧ Keeps (fun j => F j ∨ j = r) w2 w6 ∧ St (I + 1) w6) := ⟨hc6.1, hc6.2, hs6⟩; have HC6 := Lib.hid (HC5.out.keeps hk6 HPbl.out.1); obtain ⟨v0, v1, v2, v3⟩ := part_at HC6.out; clear hk6 hy6 hs6 hc6)
                | (go_at_call 169; go_loud (refine (qLine_any (A : Int) (B : Int) c (n I) (H I) sn _ (by omega) HHi.out y0 y1).mono ?_); rintro e w7 ⟨rfl, hb⟩; have HF7 := Lib.hid (HQ6.out.1.below hb HQ6.out.1.lt); have hD := HQ5.out.d; have HS7 := Lib.hid (HSt.out (I + 1) w6 w7 HQ6.out.2.2 (Nat.le_trans hD.2.2 HQ6.out.2.1.size) (.of_below hb)); have HK7 := Lib.hid (HQ6.out.2.1.trans (.of_below hb)); have HC7 := Lib.hid (HC6.out.below hb); have o1 := HF7.out.cell (j := I) i1; have f1 := HF7.out.frozen I; have HT : RowKit.Hid (FrQ w w2 F r ok St H (I + 1) (w7.setCell ⟨r, I, none⟩ (.int .i32 (H I))) ∧ Cel (w7.setCell ⟨r, I, none⟩ (.int .i32 (H I))) pb 221 #[.int .i64 (A : Int), .int .i64 (B : Int), .int .i64 c, .int .i64 (sn : Int)]) := ⟨⟨IFun.ext (HF7.out.set (j := I) i1 (H I)) fun j _ => preF_next H I j, HSt.out (I + 1) w7 _ HS7.out (Nat.le_trans hD.2.2 HK7.out.size) (Keeps.setCell (F := fun j => w.heap.size ≤ j) (p := ⟨r, I, none⟩) (Keeps.refl _ w7) (.inl hD.1) _), Keeps.setCell (p := ⟨r, I, none⟩) HK7.out (.inl (.inr rfl)) _, (fun j hj => (Nat.lt_or_eq_of_le (Nat.le_of_lt_succ hj)).elim (HQ5.out.o j) fun e => e ▸ HOk.out), hD⟩, HC7.out.far (p := ⟨r, I, none⟩) HPbl.out.2 _⟩; clear hb)
                | fail)
              go_roundw
              case rel => exact ⟨m + 1, by omega, by rw [← HI1.out]; go_num, by rw [← HI1.out]; exact HT.out⟩
              case measure => have := HIE.out; simp [intOf] <;> omega
            | false =>
              have HOk := Lib.hid hoki
              clear hHi hoki
              go_wp2_with (first
                | (go_at_call 165; go_loud (refine (qTold_any (A : Int) (B : Int) c s _).mono ?_); rintro e w5 ⟨rfl, hb⟩; rw [HTd.out]; have HQ5 := Lib.hid (G.out.1.below HSt.out hb); have HC5 := Lib.hid (G.out.2.below hb); obtain ⟨t0, t1, t2, t3⟩ := part_at HC5.out; clear hb)
                | (go_at_call 137; go_loud (refine (HCi.out w5 HQ5.out.s (Nat.le_trans HQ5.out.d.2.2 HQ5.out.k.size)).mono ?_); rintro e w6 ⟨hk6, _, hy6⟩; obtain rfl := hy6 HOk.out; have HK6 := Lib.hid (HQ5.out.k.trans (hk6.mono fun j hj => .inl hj)); clear hk6 hy6)
                | fail)
              go_ret2
              exact ⟨(Keeps.of_below HB2.out).then_ HK6.out (fun j hj => hj.elim .inl fun e => .inr (by have := hrl.out; omega)), .inr ⟨⟨I, i1, HOk.out⟩, rfl⟩⟩
          · have HTd : RowKit.Hid (decide (s < c) = false) := decide_eq_false htd
            have HHi := Lib.hid (HHm.out I hAI hIB (by omega))
            have HTi := Lib.hid (HTk.out I hAI hIB (by omega))
            clear htd
            go_wp2_with (first
              | (go_at_call 165; go_loud (refine (qTold_any (A : Int) (B : Int) c s _).mono ?_); rintro e w5 ⟨rfl, hb⟩; rw [HTd.out]; have HQ5 := Lib.hid (G.out.1.below HSt.out hb); have HC5 := Lib.hid (G.out.2.below hb); obtain ⟨t0, t1, t2, t3⟩ := part_at HC5.out; have o1 := HQ5.out.f.cell (j := I) i1; have f1 := HQ5.out.f.frozen I; have HT : RowKit.Hid (FrQ w w2 F r ok St H (I + 1) (w5.setCell ⟨r, I, none⟩ (.int .i32 (H I))) ∧ Cel (w5.setCell ⟨r, I, none⟩ (.int .i32 (H I))) pb 221 #[.int .i64 (A : Int), .int .i64 (B : Int), .int .i64 c, .int .i64 s]) := ⟨HQ5.out.set HSt.out (HTi.out.2 w5 HQ5.out.s) i1 HTi.out.1, HC5.out.far (p := ⟨r, I, none⟩) HPbl.out.2 _⟩; clear hb)
              | (go_at_call 168; go_loud (refine (qNoise_any seed (I : Int) c _ sd0 sd1 (by omega) (by omega)).mono ?_); rintro e w6 ⟨rfl, rfl⟩; rw [HHi.out])
              | fail)
            go_roundw
            case rel => exact ⟨m + 1, by omega, by rw [← HI1.out]; go_num, by rw [← HI1.out]; exact HT.out⟩
            case measure => have := HIE.out; simp [intOf] <;> omega
        · obtain rfl : m = nn := by omega
          have l1 : ¬ (I : Int) < (B : Int) := by omega
          have Z : RowKit.Hid (FrQ w w2 F r ok St H (edgeK (k + 1)) wr) := by rw [HEnd.out, ← hI]; exact G.out.1
          clear hI hAB hmn hm
          go_wp2
          go_roundw
          case rel => exact ⟨k + 1, by omega, by go_num, Z.out⟩
          case measure => simp [intOf] <;> omega
    · obtain rfl : k = 21 := by omega
      have Z := Lib.hid G0.out
      rw [edgeK_last] at Z
      go_wp2
      go_ret2
      refine ⟨(Keeps.of_below HB2.out).then_ Z.out.k (fun j hj => hj.elim .inl fun e => .inr (by have := hrl.out; omega)), .inl ⟨Z.out.o, r, rfl, IFun.ext Z.out.f fun i hi => preF_end _ hi, hrl.out.1, Z.out.s⟩⟩
end Go.Proofs.YtmgfkdmjgjlkjaaGreat

namespace Go.Proofs.YtmgfkdmjgjlkjaaGreat
open Go.RowKit
set_option linter.unusedVariables false
theorem scaled_bd {q s n : Int} (s0 : 0 ≤ s) (h : s < n) (n1 : n ≤ 26) (q0 : -(P2 (n - s).toNat) ≤ q) (q1 : q ≤ P2 (n - s).toNat) : -67108864 ≤ q * P2 s.toNat ∧ q * P2 s.toNat ≤ 67108864 := by
  have hM := P2_add (n - s).toNat s.toNat
  rw [show (n - s).toNat + s.toNat = n.toNat by omega] at hM
  have p0 := P2_pos s.toNat
  have hn := P2_mono (a := n.toNat) (b := 26) (by omega)
  rw [show P2 26 = 67108864 by decide] at hn
  have a1 := Int.mul_le_mul_of_nonneg_right q1 (show 0 ≤ P2 s.toNat by omega)
  have a2 := Int.mul_le_mul_of_nonneg_right q0 (show 0 ≤ P2 s.toNat by omega)
  rw [Int.neg_mul] at a2
  omega
def HeardPost (H : Nat → Int) (w : World) (e : Ending) (w' : World) : Prop :=
  ∃ r, e = .returned (.tuple #[.slice (some ⟨r, 0, none⟩) 512 512, .int .i64 0]) ∧ IFun w' r 21 .i32 512 H ∧ w.heap.size ≤ r ∧ Below w.heap.size w w'
set_option maxHeartbeats 400000 in
set_option maxRecDepth 100000 in
theorem qHeard_any (lb lo lcap : Nat) (x : Nat → Int) (a a2 : Option Addr) (cap cap2 : Nat) (zs ss : List Int) (seed : Int) (w : World) (hlb : lb < w.heap.size) (hx : ∀ i, i < 512 → w.cell? ⟨lb, lo + i, none⟩ = some (.int .i32 (x i))) (hxb : ∀ i, i < 512 → -2147483648 ≤ x i ∧ x i ≤ 2147483647)
    (h : IntsAt w w.heap.size .i64 a 21 zs) (h2 : IntsAt w w.heap.size .i64 a2 21 ss) (hmay : mayQ zs ss = true) (sd0 : 0 ≤ seed) (sd1 : seed ≤ 4294967295) :
    Calls Tryz.prog 99 #[.slice (some ⟨lb, lo, none⟩) 512 lcap, .slice a 21 cap, .slice a2 21 cap2, .int .u32 seed] w (HeardPost (outF (fun j => zs.getD j 0) (fun j => ss.getD j 0) (lineQ x (fun j => zs.getD j 0) (fun j => ss.getD j 0)) seed) w) := by
  obtain ⟨hr1, hr2, h12⟩ := mayQ_true hmay
  have hc := (rightB_true hr1).2
  have hs := (rightB_true hr2).2
  have HB := Lib.hid (Below.alloc_new w (.cells #[.slice (some ⟨lb, lo, none⟩) 512 lcap] 118))
  have HI := Lib.hid (h.now HB.out (Nat.le_refl _))
  have HI2 := Lib.hid (h2.now HB.out (Nat.le_refl _))
  have HMay := Lib.hid hmay
  have hmf : ∀ (fn : Fn) (first cap : Array Value) (w : World), (Instr.makeFunc fn first cap).run Tryz.prog w = .ok (.func fn first cap) w := fun _ _ _ _ => rfl
  have HCx := Lib.hid (Cel.new w 118 #[.slice (some ⟨lb, lo, none⟩) 512 lcap])
  have HXx : RowKit.Hid (∀ i, i < 512 → (w.alloc (.cells #[.slice (some ⟨lb, lo, none⟩) 512 lcap] 118)).cell? ⟨lb, lo + i, none⟩ = some (.int .i32 (x i))) := fun i hi => (HB.out.cell (p := ⟨lb, lo + i, none⟩) hlb).trans (hx i hi)
  obtain ⟨w1, hw1⟩ : ∃ w1, w1 = w.alloc (.cells #[.slice (some ⟨lb, lo, none⟩) 512 lcap] 118) := ⟨_, rfl⟩
  obtain ⟨xb, hxbk⟩ : ∃ xb, xb = w.heap.size := ⟨_, rfl⟩
  have HFr : RowKit.Hid (Calls Tryz.prog 136 #[.slice a 21 cap, .slice a2 21 cap2, .int .u32 seed, .func (.func 137) #[] #[.pointer (some ⟨xb, 0, none⟩)]] w1
      (FramePost (fun _ => False) (fun _ => true) (fun i wx => Cel wx xb 118 #[.slice (some ⟨lb, lo, none⟩) 512 lcap] ∧ ∀ i, i < 512 → wx.cell? ⟨lb, lo + i, none⟩ = some (.int .i32 (x i))) (outF (fun j => zs.getD j 0) (fun j => ss.getD j 0) (lineQ x (fun j => zs.getD j 0) (fun j => ss.getD j 0)) seed) w1)) := by
    rw [← hw1] at HI HI2 HCx HXx
    rw [← hxbk] at HCx hlb
    have hxl : xb < w1.heap.size := HCx.out.lt
    refine qFrameHeard_any _ a a2 cap cap2 zs ss seed w1 HI.out HI2.out hmay sd0 sd1 _ (fun j hj => hj.elim) _ _ _ (fun i wx w' hs1 hsz hk => ?_) ⟨HCx.out, HXx.out⟩ (fun i wx _ _ hs1 => hs1) (fun i _ _ => rfl) (fun k i hk i0 i1 ht _ => ?_) (fun k i wx hk i0 i1 ht hs1 hsz => ?_)
    · refine ⟨hs1.1.keeps hk (by omega), fun j hj => ?_⟩
      exact (World.cell?_of_block (a := ⟨lb, lo + j, none⟩) (hk.block lb (by omega) (by omega))).trans (hs1.2 j hj)
    · have b1 := hc k hk
      have b2 := hs k hk
      rw [lineQ_at (c := fun j => zs.getD j 0) (s := fun j => ss.getD j 0) hk i0 i1]
      have hb := numQ_bd (x i) (ss.getD k 0) (zs.getD k 0)
      have := scaled_bd (q := numQ (x i) (ss.getD k 0) (zs.getD k 0)) b2.1 ht b1.2 (by omega) (by omega)
      omega
    · have b1 := hc k hk
      have b2 := hs k hk
      have he := edgeK_lt k hk
      have hxi := hxb i (by omega)
      refine (qLitHeard_any xb lb lo lcap i _ _ _ _ (x i) wx hs1.1 (hs1.2 i (by omega)) (by omega) b2.1 (by omega) ht (h12 k hk) hxi.1 hxi.2).mono ?_
      rintro e w' ⟨rfl, hb⟩
      refine ⟨.of_below hb, fun _ => ⟨by rw [lineQ_at (c := fun j => zs.getD j 0) (s := fun j => ss.getD j 0) hk i0 i1], hs1.1.below hb, fun j hj => ?_⟩, fun c => by cases c⟩
      exact (hb.cell (p := ⟨lb, lo + j, none⟩) (by show lb < _; omega)).trans (hs1.2 j hj)
  have HFs : RowKit.Hid (Calls Tryz.prog 136 #[.slice a 21 cap, .slice a2 21 cap2, .int .u32 seed, .func (.func 137) #[] #[.pointer (some ⟨xb, 0, none⟩)]] w1 (HeardPost (outF (fun j => zs.getD j 0) (fun j => ss.getD j 0) (lineQ x (fun j => zs.getD j 0) (fun j => ss.getD j 0)) seed) w1)) := by
    refine HFr.out.mono ?_
    rintro e w' ⟨hk, ⟨_, r, rfl, hf, hr, _⟩ | ⟨⟨_, _, c⟩, _⟩⟩
    · exact ⟨r, rfl, hf, hr, hk.below (Nat.le_refl _) fun j hj => hj.elim⟩
    · cases c
  rw [hw1, hxbk] at HFs
  clear h h2 hmay hr1 hr2 h12 hc hs hx hxb HCx HXx HFr hw1 hxbk
  go_enter Tryz.func99, Tryz.ntmps99
  go_wp2_with (first
    | (go_at_call 135; go_loud (refine (qMay_any _ _ _ _ _ _ _ _ _ HI.out (by decide) HI2.out (by decide)).mono ?_); rintro e1 w5 ⟨rfl, rfl⟩; rw [HMay.out])
    | (go_at_call 136; go_loud (refine HFs.out.mono ?_); rintro e1 w6 ⟨r, rfl, hf, hr, hk6⟩; have HF6 := Lib.hid hf; have HR6 := Lib.hid hr; have HK6 := Lib.hid hk6; clear hf hr hk6)
    | fail)
  go_ret2
  have hbw := HB.out.size
  exact ⟨r, rfl, HF6.out, Nat.le_trans hbw HR6.out, chain HB.out HK6.out⟩
end Go.Proofs.YtmgfkdmjgjlkjaaGreat

namespace Go.Proofs.YtmgfkdmjgjlkjaaGreat
open Go Go.RowKit
set_option linter.unusedVariables false
set_option linter.unusedSimpArgs false
def payE (wh : Bool) (br qu lo : Int) (l ah x : Nat → Int) : EncS :=
  (putL (toldT l (stepF l qu lo)) (lineQ x l (stepF l qu lo)) (ceilE wh br qu lo l ah) 512).1
theorem stepF_12 {l : Nat → Int} (q x : Int) {b : Nat} (h : 0 ≤ l b) : l b - stepF l q x b ≤ 12 := by have := stepF_bd q x h; omega
theorem payE_good {wh : Bool} {br qu lo : Int} {l ah x : Nat → Int} (hl : ∀ b, 0 ≤ l b) : GoodE (payE wh br qu lo l ah x) ∧ (payE wh br qu lo l ah x).k ≤ 5212 ∧ Inside (ceilE wh br qu lo l ah) (payE wh br qu lo l ah x) := by
  obtain ⟨a, b⟩ := ceilE_good wh br qu lo l ah
  have hq := lineQ_bd (x := x) (c := l) (s := stepF l qu lo) fun b _ => stepF_12 _ _ (hl b)
  obtain ⟨c, d, e, f⟩ := putL_good (T := toldT l (stepF l qu lo)) a hq 512
  refine ⟨c, by unfold payE; omega, ?_⟩
  have i := putL_inside (T := toldT l (stepF l qu lo)) a hq 0 512
  rw [putL_zero] at i
  exact i
theorem payE_worst {wh : Bool} {br qu : Int} {l ah x : Nat → Int} (hl : ∀ b, 0 ≤ l b) (hq : qu ≤ 10) : (payE wh br qu 31 l ah x).k ≤ 26 := by
  have e : payE wh br qu 31 l ah x = ceilE wh br qu 31 l ah := by
    unfold payE
    rw [putL_skip (a := 0) (b := 512) _ _ (by decide) (fun i _ hi => ?_), putL_zero]
    exact decide_eq_false (by rw [stepF_worst (hl _) (of_lt hi) hq]; omega)
  rw [e]
  exact ceilE_k _ _ _ _ _ _
theorem isLoss_ends {B : Nat} {wh : Bool} {br qu : Int} {l ah x : Nat → Int} (hl : ∀ b, 0 ≤ l b) (hq : qu ≤ 10) (hB : 32 ≤ B) : (bytesE (payE wh br qu 31 l ah x)).length ≤ B := by
  have a := bytesE_le (payE wh br qu 31 l ah x)
  have b := payE_worst (wh := wh) (br := br) (ah := ah) (x := x) hl hq
  omega
end Go.Proofs.YtmgfkdmjgjlkjaaGreat

namespace Go.Proofs.YtmgfkdmjgjlkjaaGreat
open Go
set_option linter.unusedVariables false
set_option linter.unusedSimpArgs false
def absI (x : Int) : Int := if x < 0 then -x else x
theorem absI_max (x : Int) (a : Int) : max (max a x) (-x) = max a (absI x) := by unfold absI; split <;> omega
def peakTo (f : Nat → Int) (a : Nat) : Nat → Int
  | 0 => 0
  | n + 1 => max (peakTo f a n) (absI (f (a + n)))
theorem peakTo_succ (f : Nat → Int) (a n : Nat) : peakTo f a (n + 1) = max (peakTo f a n) (absI (f (a + n))) := rfl
theorem peakTo_bd {f : Nat → Int} {a : Nat} : ∀ {n : Nat}, (∀ i, i < n → -32768 ≤ f (a + i) ∧ f (a + i) ≤ 32767) → 0 ≤ peakTo f a n ∧ peakTo f a n ≤ 32768
  | 0, _ => ⟨Int.le_refl _, by show (0 : Int) ≤ _; omega⟩
  | n + 1, h => by
    have h1 := peakTo_bd (n := n) fun i hi => h i (by omega)
    have h2 := h n (by omega)
    rw [peakTo_succ]
    unfold absI
    split <;> omega
def pkF (f : Nat → Int) (k q : Nat) : Int := peakTo f (128 * q) (min (k - 128 * q) 128)
theorem pkF_zero (f : Nat → Int) (q : Nat) : pkF f 0 q = 0 := by
  unfold pkF
  rw [show min (0 - 128 * q) 128 = 0 by omega]; rfl
theorem pkF_next (f : Nat → Int) {k q : Nat} (hq : k / 128 = q) : pkF f (k + 1) q = max (pkF f k q) (absI (f k)) := by
  unfold pkF
  rw [show min (k + 1 - 128 * q) 128 = min (k - 128 * q) 128 + 1 by omega, peakTo_succ, show 128 * q + min (k - 128 * q) 128 = k by omega]
theorem pkF_other (f : Nat → Int) {k q : Nat} (hq : k / 128 ≠ q) : pkF f (k + 1) q = pkF f k q := by
  unfold pkF
  rw [show min (k + 1 - 128 * q) 128 = min (k - 128 * q) 128 by omega]
theorem pkF_all (f : Nat → Int) {q : Nat} (h : q < 4) : pkF f 512 q = peakTo f (128 * q) 128 := by
  unfold pkF
  rw [show min (512 - 128 * q) 128 = 128 by omega]
def peakQ (f : Nat → Int) (q : Nat) : Int := peakTo f (128 * q) 128
theorem peakQ_bd {f : Nat → Int} (h : ∀ i, i < 512 → -32768 ≤ f i ∧ f i ≤ 32767) {q : Nat} (hq : q < 4) : 0 ≤ peakQ f q ∧ peakQ f q ≤ 32768 := peakTo_bd fun i hi => h _ (by omega)
def knB (a p : Int) : Bool := decide (1000 < p) && decide (8 * a < p)
def briefB (A p0 p1 p2 p3 : Int) : Bool := knB A p0 || knB p0 p1 || knB p1 p2 || knB p2 p3
def briefF (A : Int) (f : Nat → Int) : Bool := briefB A (peakQ f 0) (peakQ f 1) (peakQ f 2) (peakQ f 3)
end Go.Proofs.YtmgfkdmjgjlkjaaGreat
