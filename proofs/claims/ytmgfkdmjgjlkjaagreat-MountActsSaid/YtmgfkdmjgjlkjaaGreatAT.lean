/- Plain facts, and what functions give, for the proofs of this seat: several texts in one, each with its own first remark. -/
import Derived.Test.YtmgfkdmjgjlkjaaGreatAS

namespace Go.Proofs.YtmgfkdmjgjlkjaaGreat
open Go Go.RowKit
set_option linter.unusedVariables false
set_option linter.unusedSimpArgs false
def EncodeRPost (g : Nat) (Q : Int) (B : Nat) (S : S13) (f : Nat → Int) (n : Int) (r : Bool) (w : World) (e : Ending) (w' : World) : Prop :=
  ∃ a cp, e = .returned (.tuple #[.slice a (S.F Q B f r).bytes.length cp, .bool (r || S.fs)]) ∧ IntsAt w' w'.heap.size .u8 a (S.F Q B f r).bytes.length (S.F Q B f r).bytes ∧ RefAt w' g Q B (S.next Q B f n r) ∧ Keeps (· = g) w w' ∧ (a = none → cp = 0) ∧ (∀ q off, a = some ⟨q, off, none⟩ → w.heap.size ≤ q)
theorem RSt.below {w wr : World} {base g : Nat} {E : EncS} (h : RSt w base g E wr) : Below w.heap.size w wr := by
  obtain ⟨r, c, h1, h2, h3⟩ := h
  exact h2
theorem hd_chain (wh br Q : Int) : (GoodE (encBits encNew wh 1) ∧ (encBits encNew wh 1).k ≤ 1000) ∧ (GoodE (encBits (encBits encNew wh 1) br 1) ∧ (encBits (encBits encNew wh 1) br 1).k ≤ 1000) ∧ (GoodE (encBits (encBits (encBits encNew wh 1) br 1) Q 4) ∧ (encBits (encBits (encBits encNew wh 1) br 1) Q 4).k ≤ 1000) := by
  obtain ⟨z1, _, _⟩ := bits_good12 (n := wh) (wide := 1) goodE_new (by decide)
  obtain ⟨z2, _, y2⟩ := bits_good12 (n := br) (wide := 1) z1 (by decide)
  obtain ⟨z3, _, y3⟩ := bits_good12 (n := Q) (wide := 4) z2 (by decide)
  have z : encNew.k = 0 := rfl
  have := encBits_k encNew wh (wide := 1) (by decide)
  exact ⟨⟨z1, by omega⟩, ⟨z2, by omega⟩, z3, by omega⟩
theorem all_ahead (al f : Nat → Int) : tabF 128 (fun j => al j * 16) = tabF (128 + 0) (allF al f) := tabF_ext fun j hj => by
  unfold allF
  rw [if_pos hj]
theorem rfC_at {w : World} {g C : Nat} {va vl cv vh : Value} {Q B P R : Int} (h : Cel w g 70 (rfC C va vl Q B P cv vh R)) :
    w.cell? ⟨g, 0, none⟩ = some (.slice (some ⟨C, 0, none⟩) 1025 1025) ∧ w.cell? ⟨g, 1, none⟩ = some va ∧ w.cell? ⟨g, 2, none⟩ = some vl ∧ w.cell? ⟨g, 3, none⟩ = some (.int .i64 Q) ∧ w.cell? ⟨g, 4, none⟩ = some (.int .i64 B) ∧ w.cell? ⟨g, 5, none⟩ = some (.int .i64 P) ∧ w.cell? ⟨g, 6, none⟩ = some cv ∧ w.cell? ⟨g, 7, none⟩ = some vh ∧ w.cell? ⟨g, 8, none⟩ = some (.int .i64 R) :=
  ⟨h.cell 0, h.cell 1, h.cell 2, h.cell 3, h.cell 4, h.cell 5, h.cell 6, h.cell 7, h.cell 8⟩
theorem ints_dec {w : World} {B len b off base g : Nat} {a : Option Addr} {zs bb : List Int} {v : Value} {D : DecS} (h : IntsAt w B .u8 a len zs) (h0 : 0 < len) (k : DecMem w base g v bb D) (ha : a = some ⟨b, off, none⟩) : b ≠ g := by
  rintro rfl
  obtain ⟨b', off', e, _, _, hc⟩ := h.at_ h0
  rw [ha] at e
  injection e with e
  injection e with e1 e2
  subst e1
  subst e2
  rw [k.1.cell, Nat.add_zero] at hc
  obtain ⟨a', c', rfl⟩ := own_form k.2.1
  match off, hc with
  | 0, hc => cases hc
  | 1, hc => cases hc
  | 2, hc => cases hc
  | 3, hc => cases hc
  | n + 4, hc => rw [Array.getElem?_eq_none (by show 4 ≤ n + 4; omega)] at hc; cases hc
theorem play_at (F : Frm) (n : Int) (C gd x xo base : Nat) (v : Value) (o : Option Nat) (left : Nat → Int) (w : World) (pl : Array Value) (hF : F.Ok) (hC : IFun w C 2 .i64 1025 cosN) (hx : NumAt w x xo 128 2 .i64 left) (hlb : ∀ j, j < 128 → (left j).natAbs ≤ 1073741000) (hA : AhAt w F.wh o F.ah)
    (hD : DecMem w base gd v F.bytes (decNew (byteF F.bytes))) (hp : pl = plC C (.slice (some ⟨x, xo, none⟩) 128 128) (.slice (ahA o) (ahN o) (ahN o)) (!F.wh) (.slice none 0 0) false) (n0 : 0 ≤ n) (n1 : n ≤ 4294967295) :
    Calls Tryz.prog 44 #[.pointer (some ⟨w.heap.size, 0, none⟩), .pointer (some ⟨gd, 0, none⟩), .int .u32 n] (w.alloc (.cells pl 94)).drew fun e w' =>
      ∃ b cap x off av vt, e = .returned (.tuple #[.slice (some ⟨b, 0, none⟩) 512 cap, .bool true]) ∧ NumAt w' b 0 512 2 .i64 (samplesF F.br (F.held n) left) ∧ Cel w' w.heap.size 94 (plC C (.slice (some ⟨x, off, none⟩) 128 128) av true vt F.br) ∧ NumAt w' x off 128 2 .i64 (leftF F.br (F.held n)) ∧ Keeps (fun j => j = w.heap.size ∨ j = gd) w w' := by
  subst hp
  have b : Below w.heap.size w (w.alloc (.cells (plC C (.slice (some ⟨x, xo, none⟩) 128 128) (.slice (ahA o) (ahN o) (ahN o)) (!F.wh) (.slice none 0 0) false) 94)).drew := Below.drewN' (Below.alloc_new w _) 1
  refine (rPlay_any F n C w.heap.size base gd x xo v o left _ hF (hC.below b hC.lt) (Cel.new w _ _) (hx.below b) hlb (hA.below b) (hD.below b) n0 n1).mono ?_
  rintro e w' ⟨b1, cap, x1, off, av, vt, h1, h2, h3, h4, h5⟩
  exact ⟨b1, cap, x1, off, av, vt, h1, h2, h3, h4, (Keeps.of_below b).trans h5⟩
theorem rec_end {g bw p2 C c x1 c1 x2 o2 : Nat} {Q : Int} {B : Nat} {S : S13} {f : Nat → Int} {n : Int} {r : Bool} {F0 : Frm} {vl vh : Value} {w w20 : World} {a14 : Option Addr} {nE c14 : Nat} {v : Value} (hF : mkFrm r S.fs F0.br Q B S.al f S.ah = F0) (hbr : briefF S.P f = F0.br) (hOk : F0.Ok)
    (hE : Cel w20 g 70 (rfC C (.slice (some ⟨bw, 0, none⟩) 640 p2) vl Q B (peakQ f 3) (.slice (some ⟨c, 0, none⟩) 21 21) vh F0.reach)) (hC : IFun w20 C 2 .i64 1025 cosN) (hA : NumAt w20 bw 0 640 2 .i64 (allF S.al f)) (hp : 640 ≤ p2 ∧ p2 ≤ 9223372036854775807) (hc : CutAt w20 c F0.l)
    (hs : NumAt w20 x1 0 512 2 .i64 (samplesF F0.br (F0.held n) S.left)) (hl : NumAt w20 x2 o2 128 2 .i64 (leftF F0.br (F0.held n))) (hn : nE = F0.bytes.length) (hi : IntsAt w20 w20.heap.size .u8 a14 nE F0.bytes) (ha : ∀ b off, a14 = some ⟨b, off, none⟩ → b ≠ g) (hk : Keeps (· = g) w w20)
    (hv : v = .tuple #[.slice a14 nE c14, .bool (r || S.fs)]) (hna : a14 = none → c14 = 0) (hfr : ∀ b off, a14 = some ⟨b, off, none⟩ → w.heap.size ≤ b) : EncodeRPost g Q B S f n r w (.returned v) ((w20.setCell ⟨g, 7, none⟩ (.slice (some ⟨x1, 0, none⟩) 512 c1)).setCell ⟨g, 2, none⟩ (.slice (some ⟨x2, o2, none⟩) 128 128)) := by
  have eF : S.F Q B f r = F0 := by unfold S13.F; rw [hbr, hF]
  have eN : S.next Q B f n r = ⟨peakQ f 3, false, F0.l, fun j => f (384 + j), leftF F0.br (F0.held n), some (samplesF F0.br (F0.held n) S.left), F0.reach⟩ := by unfold S13.next; rw [eF, hbr]
  have K : Keeps (· = g) w20 ((w20.setCell ⟨g, 7, none⟩ (.slice (some ⟨x1, 0, none⟩) 512 c1)).setCell ⟨g, 2, none⟩ (.slice (some ⟨x2, o2, none⟩) 128 128)) := (Keeps.set1 _).trans (Keeps.set1 _)
  have nt : ∀ {b : Nat}, Typ w20 b 2 → b ≠ g := fun h => h.ne (Cel.typ hE) (by decide)
  refine ⟨a14, c14, by rw [hv, eF, hn], ?_, ?_, hk.trans K, hna, hfr⟩
  · rw [eF, ← hn]
    exact (hi.keeps K (Nat.le_refl _) fun b off e _ _ => ha b off e).grow K.size
  · rw [eN]
    refine ⟨C, _, _, _, some c, (hE.set_ 7 _).set_ 2 _, Cel.keeps hC K (Cel.ne hC hE (by decide)), ⟨bw, p2, rfl, hp.1, hp.2, ?_⟩, ⟨x2, o2, rfl, hl.keeps K (nt hl.1)⟩, .inr ⟨rfl, hOk.l, c, rfl, Cel.keeps hc K (Cel.ne hc hE (by decide))⟩, x1, c1, rfl, hs.keeps K (nt hs.1)⟩
    have := hA.keeps K (nt hA.1)
    refine ⟨this.1, fun j hj => ?_⟩
    have e := this.2 (512 + j) (by omega)
    rw [Nat.zero_add] at e
    refine e.trans ?_
    show some (Value.int .i64 (allF S.al f (512 + j))) = some (Value.int .i64 (f (384 + j) * 16))
    unfold allF
    rw [if_neg (by omega), show 512 + j - 128 = 384 + j by omega]
set_option maxHeartbeats 4000000 in
set_option maxRecDepth 100000 in
theorem rEncode_any (g x : Nat) (Q : Int) (B : Nat) (S : S13) (f : Nat → Int) (n : Int) (r : Bool) (w : World) (h : RefAt w g Q B S) (hS : S.Ok) (hq : 1 ≤ Q ∧ Q ≤ 10) (hB : 32 ≤ B ∧ B ≤ 600) (hf : IFun w x 77 .i16 512 f) (hb : ∀ i, i < 512 → -32768 ≤ f i ∧ f i ≤ 32767) (n0 : 0 ≤ n) (n1 : n ≤ 4294967295) :
    Calls Tryz.prog 14 #[.pointer (some ⟨g, 0, none⟩), .int .u32 n, .slice (some ⟨x, 0, none⟩) 512 512, .bool r] w (EncodeRPost g Q B S f n r w) := by
  obtain ⟨C, va, vl, vh, o, h⟩ := h
  obtain ⟨ba, ca, rfl, va1, va2, hna⟩ := h.a
  obtain ⟨bl, ol, rfl, hnl⟩ := h.l
  have H := Lib.hid h
  have HNA := Lib.hid hna
  have HNL := Lib.hid hnl
  have HVA := Lib.hid (And.intro va1 va2)
  have HS := Lib.hid hS
  have HQ := Lib.hid hq
  have HB := Lib.hid hB
  have HX := Lib.hid hf
  have HXb := Lib.hid hb
  have HN := Lib.hid (And.intro n0 n1)
  obtain ⟨br, hbr⟩ : ∃ br, br = briefF S.P f := ⟨_, rfl⟩
  have HBR : RowKit.Hid (briefF S.P f = br) := hbr.symm
  have hgx := Lib.hid (Cel.ne hf h.e (by decide))
  have hga := Lib.hid (hna.1.ne (Cel.typ h.e) (by decide))
  clear h hna hnl va1 va2 hS hq hB hf hb n0 n1 hbr
  go_enter Tryz.func14, Tryz.ntmps14
  go_wp2_with (first
    | (go_at_call 32; go_loud (refine (rBrief_any g C x _ _ _ _ Q B S.P S.R f w H.out.e HX.out HS.out.P HXb.out).mono ?_); rintro e w1 ⟨rfl, e1, k1⟩; rw [HBR.out]; have HE1 := Lib.hid e1; have HK1 := Lib.hid k1; have HX1 : RowKit.Hid (IFun w1 x 77 .i16 512 f) := Cel.keeps HX.out k1 hgx.out; have HNA1 := Lib.hid (HNA.out.keeps k1 hga.out); clear e1 k1; have c1 : w1.cell? ⟨g, 1, none⟩ = some (.slice (some ⟨ba, 0, none⟩) 640 ca) := HE1.out.cell 1; have l1 : g < w1.heap.size := HE1.out.lt; have HVA1 := HVA.out.1; have HVA2 := HVA.out.2; have HO0 := Lib.hid (World.ownsRow_lit (base := w1.heap.size) (e := 2) (size := 1) w1 #[] 0 (Nat.le_refl _) (by decide) rfl); have HB0 := Lib.hid (Below.alloc_new w1 (.cells #[] 2)))
    | (at_builtin; go_loud (refine append_ints rfl _ _ 66 rfl w1.heap.size 2 .i64 8 Tryz.underlying66 infoC_i64 _ 0 [] rfl HO0.out (some ⟨ba, 512, none⟩) 128 (ca - 512) _ (tabF 128 fun j => S.al j * 16) rfl ((NumAt.ints (HNA1.out.below HB0.out) (by decide))) (by simp) (by unfold maxLen; omega) (by omega) (by simp) ?_); intro v2 w2 hown hgrow _; have H2 : RowKit.Hid (w2.ownsRow w1.heap.size 2 1 v2 (128 + 0) ((tabF (128 + 0) (allF S.al f)).map (Value.int .i64)) ∧ Below w1.heap.size w1 w2) := ⟨by rw [← all_ahead S.al f]; simpa using hown, HB0.out.grown hgrow (by simp) (own_base HO0.out)⟩; clear hown hgrow c1 HVA1 HVA2))
  go_loopw [11, 12] (fun v i wr => ∃ (k : Nat) (u : Value), u = v ∧ k ≤ 512 ∧ i = .int .i64 (k : Int) ∧ RowKit.Hid (wr.ownsRow w1.heap.size 2 1 u (128 + k) ((tabF (128 + k) (allF S.al f)).map (Value.int .i64)) ∧ Below w1.heap.size w1 wr)) (fun _ i _ => 512 - (intOf i).toNat)
  case atStart => exact ⟨0, _, rfl, by omega, rfl, H2.out⟩
  case round =>
    obtain ⟨k, u, rfl, hk, rfl, HH⟩ := hrel
    clear H2
    by_cases hlt : k < 512
    · have hsz := HH.out.2.size
      have k1 := (HH.out.2.cell (p := ⟨x, k, none⟩) HX1.out.lt).trans (HX1.out.cell hlt)
      obtain ⟨x0, x1⟩ := HXb.out k hlt
      have HE : RowKit.Hid (tabF (128 + k) (allF S.al f) ++ [16 * f k] = tabF (128 + k + 1) (allF S.al f)) := tab_snoc _ _ _ (by unfold allF; rw [if_neg (by omega), show 128 + k - 128 = k by omega]; omega)
      generalize f k = y at k1 x0 x1 HE
      have lk : (k : Int) < 512 := by omega
      have HA := Lib.hid (World.ownsRow.alloc HH.out.1 (.cells #[.int .i64 (16 * y)] 2))
      have HAB := Lib.hid (HH.out.2.alloc hsz (.cells #[.int .i64 (16 * y)] 2))
      have hsrc := Lib.hid (lit_ints wr 2 .i64 [16 * y] #[.int .i64 (16 * y)] (0, 0) rfl (by simp))
      have u1 : IntKind.i64.wrap y = y := IntWalk.i64_in _ (by omega)
      have u2 : IntKind.i64.wrap (16 * y) = 16 * y := IntWalk.i64_in _ (by omega)
      go_wp2_with (at_builtin; go_loud (refine append_ints rfl _ _ 66 rfl w1.heap.size 2 .i64 8 Tryz.underlying66 infoC_i64 _ (128 + k) (tabF (128 + k) (allF S.al f)) rfl HA.out (some ⟨wr.heap.size, 0, none⟩) 1 1 _ [16 * y] rfl hsrc.out (by simp) (by unfold maxLen; omega) (by omega) (by simp; omega) ?_); intro v3 w3 hown hgrow _; have H3 : RowKit.Hid (w3.ownsRow w1.heap.size 2 1 v3 (128 + k + 1) ((tabF (128 + k + 1) (allF S.al f)).map (Value.int .i64)) ∧ Below w1.heap.size w1 w3) := ⟨by rw [← HE.out]; exact hown, HAB.out.grown hgrow (by simp; omega) (own_base HA.out)⟩; clear hown hgrow)
      go_roundw
      case rel => exact ⟨k + 1, v3, rfl, by omega, by go_num, by rw [← Nat.add_assoc]; exact H3.out⟩
      case measure => simp [intOf] <;> omega
    · obtain rfl : k = 512 := by omega
      have HHn : wr.ownsRow w1.heap.size 2 1 u 640 ((tabF 640 (allF S.al f)).map (Value.int .i64)) := HH.out.1
      obtain ⟨bw, p2, rfl, s2, t2, n2, _⟩ := own_num HHn (by decide)
      have HPs := Lib.hid (And.intro s2 t2)
      have HN2 := Lib.hid n2
      have HB2 := Lib.hid HH.out.2
      have HE2 := Lib.hid (HE1.out.below HB2.out)
      have c1 : wr.cell? ⟨g, 1, none⟩ = some (.slice (some ⟨ba, 0, none⟩) 640 ca) := HE2.out.cell 1
      have z1 := HE2.out.frozen 1
      clear HH n2 HHn s2 t2
      go_wp2
      have HE3 : RowKit.Hid (Cel (wr.setCell ⟨g, 1, none⟩ (.slice (some ⟨bw, 0, none⟩) 640 p2)) g 70 (rfC C (.slice (some ⟨bw, 0, none⟩) 640 p2) (.slice (some ⟨bl, ol, none⟩) 128 128) Q B (peakQ f 3) (.slice (ahA o) (ahN o) (ahN o)) vh S.R)) := HE2.out.set_ 1 _
      have HN3 : RowKit.Hid (NumAt (wr.setCell ⟨g, 1, none⟩ (.slice (some ⟨bw, 0, none⟩) 640 p2)) bw 0 640 2 .i64 (allF S.al f)) := HN2.out.keeps (Keeps.set1 _) (HN2.out.1.ne (Cel.typ HE2.out) (by decide))
      have HK3 : RowKit.Hid (Keeps (· = g) w (wr.setCell ⟨g, 1, none⟩ (.slice (some ⟨bw, 0, none⟩) 640 p2))) := (HK1.out.trans (Keeps.of_below HB2.out)).trans (Keeps.set1 _)
      generalize (wr.setCell ⟨g, 1, none⟩ (.slice (some ⟨bw, 0, none⟩) 640 p2)) = w3 at HE3 HN3 HK3 ⊢
      have HC3 := Lib.hid (Cel.keeps H.out.c HK3.out (Cel.ne H.out.c H.out.e (by decide)))
      have c30 : w3.cell? ⟨g, 0, none⟩ = some (.slice (some ⟨C, 0, none⟩) 1025 1025) := HE3.out.cell 0
      have c31 : w3.cell? ⟨g, 1, none⟩ = some (.slice (some ⟨bw, 0, none⟩) 640 p2) := HE3.out.cell 1
      clear c1 z1 HE2 HN2 HB2
      go_region_held3 (fun w' => w'.cell? ⟨g, 0, none⟩ = some (.slice (some ⟨C, 0, none⟩) 1025 1025) ∧ w'.cell? ⟨g, 1, none⟩ = some (.slice (some ⟨bw, 0, none⟩) 640 p2)) (go_keep) (first
        | (go_at_call 33; go_loud (refine (ref9Lines_any C p2 (some ⟨bw, 0, none⟩) (allF S.al f) br w3.drew HC3.out (show FnAt w3 w3.heap.size .i64 _ 640 _ from HN3.out.fn) (allF_abs HS.out.al HXb.out) HPs.out.1 HPs.out.2).mono ?_); rintro e w4 ⟨lb, rfl, i4, _, b4⟩; have HI4 := Lib.hid i4; have HB4 : RowKit.Hid (Below w3.heap.size w3 w4) := chain (Below.drewN' (Below.refl _ w3) 1) b4; clear i4 b4; have c40 : w4.cell? ⟨g, 0, none⟩ = some (.slice (some ⟨C, 0, none⟩) 1025 1025) := (HE3.out.below HB4.out).cell 0; have c41 : w4.cell? ⟨g, 1, none⟩ = some (.slice (some ⟨bw, 0, none⟩) 640 p2) := (HE3.out.below HB4.out).cell 1)
        | fail)
      have HCs : RowKit.Hid (r = true ∨ (r = false ∧ S.fs = true ∧ o = none) ∨ (r = false ∧ S.fs = false ∧ ∃ q, o = some q)) := by
        show _ ∨ _
        cases r with
        | true => exact .inl rfl
        | false =>
          rcases H.out.h with ⟨h1, h2, _⟩ | ⟨h1, _, q, h2, _⟩
          · exact .inr (.inl ⟨rfl, h1, h2⟩)
          · exact .inr (.inr ⟨rfl, h1, q, h2⟩)
      clear c30 c31 c40 c41
      obtain ⟨F0, hF0⟩ : ∃ F0, F0 = mkFrm r S.fs br Q B S.al f S.ah := ⟨_, rfl⟩
      have HF0 : RowKit.Hid (mkFrm r S.fs br Q B S.al f S.ah = F0) := hF0.symm
      have HOk : RowKit.Hid F0.Ok := by rw [hF0]; exact mkFrm_ok HQ.out HB.out
      have HFq : RowKit.Hid (F0.Q = Q ∧ F0.B = B ∧ F0.br = br) := by rw [hF0]; exact ⟨rfl, rfl, rfl⟩
      have HFx : RowKit.Hid (F0.x = linesF br (allF S.al f)) := by rw [hF0]; rfl
      have HFw : RowKit.Hid (F0.wh = (r || S.fs)) := by rw [hF0]; rfl
      have HFa : RowKit.Hid (AhAt w F0.wh (if r then none else o) F0.ah) := by rw [hF0]; exact H.out.h.turn r
      clear hF0
      rcases HCs.out with rfl | ⟨rfl, hfs, rfl⟩ | ⟨rfl, hfs, q, rfl⟩
      all_goals
        have hq0 : ((ahN none : Nat) : Int) = 0 := rfl
        have hq1 : ∀ q, ((ahN (some q) : Nat) : Int) = 21 := fun _ => rfl
        go_wp2_with (first
          | (go_at_call 34; go_loud (refine (ref10Ceil_any lb 0 512 (linesF br (allF S.al f)) w4 HI4.out.lt (fun i hi => by rw [Nat.zero_add]; exact HI4.out.cell hi) (fun i _ => by have := linesF_bd br (allF S.al f) i; omega)).mono ?_); rintro e w5 ⟨c, rfl, i5, _, b5⟩; have HL5 : RowKit.Hid (CutAt w5 c F0.l) := (by unfold Frm.l; rw [HFx.out]; exact ceil_cut i5); have HI5 : RowKit.Hid (IFun w5 lb 2 .i64 512 F0.x) := (by rw [HFx.out]; exact HI4.out.below b5 HI4.out.lt); have HB5 := Lib.hid (chain HB4.out b5); have HE5 := Lib.hid (HE3.out.below HB5.out); have HK5 : RowKit.Hid (Keeps (· = g) w w5) := HK3.out.trans (Keeps.of_below HB5.out); clear i5 b5; obtain ⟨c0, c1, c2, c3, c4, c5, c6, c7, c8⟩ := rfC_at HE5.out)
          | fail)
        have HFa5 : RowKit.Hid (AhAt w5 F0.wh _ F0.ah) := HFa.out.keeps HK5.out fun r hr => Cel.ne hr H.out.e (by decide)
        first
          | have HWl : RowKit.Hid (b2 true = b2 F0.wh) := (by show _ = _; rw [HFw.out]; rfl)
          | have HWl : RowKit.Hid (b2 true = b2 F0.wh) := (by show _ = _; rw [HFw.out, hfs]; rfl)
          | have HWl : RowKit.Hid (b2 false = b2 F0.wh) := (by show _ = _; rw [HFw.out, hfs]; rfl)
        first
          | have HNw : RowKit.Hid (false = !F0.wh) := (by show _ = _; rw [HFw.out]; rfl)
          | have HNw : RowKit.Hid (false = !F0.wh) := (by show _ = _; rw [HFw.out, hfs]; rfl)
          | have HNw : RowKit.Hid (true = !F0.wh) := (by show _ = _; rw [HFw.out, hfs]; rfl)
        have HZ := Lib.hid (hd_chain (b2 F0.wh) (b2 br) Q)
        have HZb : RowKit.Hid (0 ≤ b2 F0.wh ∧ 0 ≤ b2 br ∧ b2 br ≤ 4294967295 ∧ b2 F0.wh ≤ 4294967295) := by
          have := b2_bd F0.wh; have := b2_bd br; exact ⟨by omega, by omega, by omega, by omega⟩
        have HHd : RowKit.Hid (∀ k : Nat, headE (b2 F0.wh) (b2 br) Q k = F0.H k) := fun k => by unfold Frm.H; rw [HFq.out.1, HFq.out.2.2]
        have HQ1 := HQ.out.1
        have HQ2 := HQ.out.2
        clear c0 c1 c2 c5 c6 c7 c8
        go_loopw [17, 18, 19] (fun _ _ i wr => ∃ k : Nat, k ≤ 32 ∧ i = .int .i64 (k : Int) ∧ RowKit.Hid (Below w5.heap.size w5 wr ∧ ∀ j, j < k → F0.B < (bytesE (F0.E j)).length)) (fun _ _ i _ => 32 - (intOf i).toNat)
        case atStart => exact ⟨0, by omega, rfl, Below.refl _ _, fun j hj => by omega⟩
        case round =>
          obtain ⟨k, hk, rfl, HL⟩ := hrel
          by_cases hlt : k < 32
          · have lk : (k : Int) < 32 := by omega
            obtain ⟨nE, hne⟩ : ∃ nE, nE = (bytesE (F0.E k)).length := ⟨_, rfl⟩
            have HNE : RowKit.Hid ((bytesE (F0.E k)).length = nE) := hne.symm
            by_cases hle : nE ≤ B
            · have HLo : RowKit.Hid (F0.lo = k) := Frm.lo_is ⟨hlt, by rw [← hne, HFq.out.2.1]; exact hle, HL.out.2⟩
              have HBy : RowKit.Hid (F0.bytes = bytesE (F0.E k)) := by show _ = _; unfold Frm.bytes; rw [HLo.out]
              have HRe : RowKit.Hid (reachTo F0.l (stepF F0.l Q k) 21 = F0.reach) := by show _ = _; unfold Frm.reach Frm.steps Frm.st; rw [HLo.out, HFq.out.1]
              have lB : (nE : Int) ≤ (B : Int) := by omega
              have lB2 : nE ≤ 600 := by have := HB.out; omega
              clear hne hle
              go_wp2_with (first
                | (go_at_call 35; go_loud (refine (RSt.new w5 _ HL.out.1).mono ?_); rintro e w6 ⟨rfl, h6⟩; have H6 := Lib.hid h6; clear h6)
                | (go_at_call 37; go_loud (refine (refBit_any _ _).mono ?_); rintro e wq ⟨rfl, rfl⟩; try rw [HWl.out])
                | (go_at_call 36; go_loud (refine (H9.out.bits HZ.out.2.2.1 HZ.out.2.2.2 (n := (k : Int)) (wide := 5) (by omega) (by omega) (by decide)).mono ?_); rintro e w10 ⟨rfl, h10⟩; have H10 : RowKit.Hid (RSt w5 _ _ (F0.H k) w10) := (by rw [← HHd.out k]; exact h10); clear h10)
                | (go_at_call 36; go_loud (refine (H8.out.bits HZ.out.2.1.1 HZ.out.2.1.2 (n := Q) (wide := 4) (by omega) (by omega) (by decide)).mono ?_); rintro e w9 ⟨rfl, h9⟩; have H9 := Lib.hid h9; clear h9)
                | (go_at_call 36; go_loud (refine (H7.out.bits HZ.out.1.1 HZ.out.1.2 (n := b2 br) (wide := 1) HZb.out.2.1 HZb.out.2.2.1 (by decide)).mono ?_); rintro e w8 ⟨rfl, h8⟩; have H8 := Lib.hid h8; clear h8; have d3 : w8.cell? ⟨g, 3, none⟩ = some (.int .i64 Q) := (HE5.out.below H8.out.below).cell 3; have d4 : w8.cell? ⟨g, 4, none⟩ = some (.int .i64 B) := (HE5.out.below H8.out.below).cell 4)
                | (go_at_call 36; go_loud (refine (H6.out.bits goodE_new (Nat.zero_le 1000) (n := b2 F0.wh) (wide := 1) HZb.out.1 HZb.out.2.2.2 (by decide)).mono ?_); rintro e w7 ⟨rfl, h7⟩; have H7 := Lib.hid h7; clear h7)
                | (go_at_call 38; go_loud (refine (H10.out.put (F0.goodH k).1 (Nat.le_trans (F0.goodH k).2 (by decide)) HL5.out HOk.out.l HFa5.out).mono ?_); rintro e w11 ⟨rfl, h11⟩; have H11 : RowKit.Hid (RSt w5 _ _ (F0.C k) w11) := h11; clear h11; have d3 : w11.cell? ⟨g, 3, none⟩ = some (.int .i64 Q) := (HE5.out.below H11.out.below).cell 3; have d4 : w11.cell? ⟨g, 4, none⟩ = some (.int .i64 B) := (HE5.out.below H11.out.below).cell 4)
                | (go_at_call 39; go_loud (refine (rSteps_any (some ⟨c, 0, none⟩) 21 (tabF 21 F0.l) Q k _ (CutAt.ints (HL5.out.below H11.out.below HL5.out.lt)) ⟨HOk.out.l.right, HQ.out.1, HQ.out.2, by omega, by omega⟩).mono ?_); rintro e w12 ⟨a12, c12, rfl, i12, n12, b12⟩; rw [HOk.out.l.tab] at i12; have HI12 := Lib.hid i12; have HN12 := Lib.hid n12; have HB12 := Lib.hid b12; clear i12 n12 b12)
                | (go_at_call 40; go_loud (refine (RSt.lines (l := F0.l) (q := Q) (lo := (k : Int)) H11.out HB12.out (F0.goodC k).1 (Nat.le_trans (F0.goodC k).2 (by decide)) HI5.out HOk.out.x HL5.out HOk.out.l HI12.out HN12.out).mono ?_); rintro e w13 ⟨rfl, h13, t13⟩; have HT13 := Lib.hid t13; clear t13; have H13 : RowKit.Hid (RSt w5 _ _ (F0.E k) w13) := (by rw [← HFq.out.1] at h13; exact h13); clear h13)
                | (go_at_call 41; go_loud (refine (H13.out.bytes (Nat.le_trans (HOk.out.good k).2 (by decide))).mono ?_); rintro e w14 ⟨a14, c14, rfl, i14, n14, f14, b14⟩; have HI14 := Lib.hid i14; have HN14 := Lib.hid n14; have HB14 := Lib.hid (chain H13.out.below b14); have HS14 := Lib.hid (HT13.out.now b14 (Nat.le_refl _)); have HE14 := Lib.hid (HE5.out.below HB14.out); have HF14 : RowKit.Hid (∀ b off, a14 = some ⟨b, off, none⟩ → w.heap.size ≤ b) := (fun b off e => by have := f14 b off e; have := H13.out.below.size; have := HK5.out.size; omega); have HA14 : RowKit.Hid (∀ b off, a14 = some ⟨b, off, none⟩ → b ≠ g) := (fun b off e => by have := f14 b off e; have := H13.out.below.size; have := HE5.out.lt; omega); have HA12 : RowKit.Hid (∀ b off, a12 = some ⟨b, off, none⟩ → b ≠ g) := (fun b off e => by have := HN12.out b off e; have := H11.out.below.size; have := HE5.out.lt; omega); clear i14 n14 f14 b14; rw [HNE.out]; obtain ⟨y0, y1, y2, y3, y4, y5, y6, y7, y8⟩ := rfC_at HE14.out; have z6 := HE14.out.frozen 6)
                | (go_at_call 42; have HE15 : RowKit.Hid (Cel (w14.setCell ⟨g, 6, none⟩ (.slice (some ⟨c, 0, none⟩) 21 21)) g 70 (rfC C (.slice (some ⟨bw, 0, none⟩) 640 p2) (.slice (some ⟨bl, ol, none⟩) 128 128) Q B (peakQ f 3) (.slice (some ⟨c, 0, none⟩) 21 21) vh S.R)) := HE14.out.set_ 6 _; have HK15 : RowKit.Hid (Keeps (· = g) w14 (w14.setCell ⟨g, 6, none⟩ (.slice (some ⟨c, 0, none⟩) 21 21))) := Keeps.set1 _; have HC15 : RowKit.Hid (CutAt (w14.setCell ⟨g, 6, none⟩ (.slice (some ⟨c, 0, none⟩) 21 21)) c F0.l) := Cel.keeps (HL5.out.below HB14.out HL5.out.lt) HK15.out (Cel.ne HL5.out HE5.out (by decide)); have HS15 : RowKit.Hid (IntsAt (w14.setCell ⟨g, 6, none⟩ (.slice (some ⟨c, 0, none⟩) 21 21)) ((w14.setCell ⟨g, 6, none⟩ (.slice (some ⟨c, 0, none⟩) 21 21))).heap.size .i64 a12 21 (tabF 21 (stepF F0.l Q k))) := (HS14.out.keeps HK15.out (Nat.le_refl _) fun b off e _ _ => HA12.out b off e).grow HK15.out.size; have HI15 : RowKit.Hid (IntsAt (w14.setCell ⟨g, 6, none⟩ (.slice (some ⟨c, 0, none⟩) 21 21)) ((w14.setCell ⟨g, 6, none⟩ (.slice (some ⟨c, 0, none⟩) 21 21))).heap.size .u8 a14 nE (bytesE (F0.E k))) := (by have := (HI14.out.keeps HK15.out (Nat.le_refl _) fun b off e _ _ => HA14.out b off e).grow HK15.out.size; rw [HNE.out] at this; exact this); go_loud (refine (ref10Reach_any (some ⟨c, 0, none⟩) a12 21 c12 (tabF 21 F0.l) (tabF 21 (stepF F0.l Q k)) _ (CutAt.ints HC15.out) HS15.out HOk.out.l.right (HOk.out.l.step Q k).right).mono ?_); rintro e w16 ⟨rfl, b16⟩; rw [HOk.out.l.tab, (HOk.out.l.step Q k).tab, HRe.out]; have HB16 := Lib.hid b16; have HE16 := Lib.hid (HE15.out.below b16); have HI16 := Lib.hid (HI15.out.now b16 (Nat.le_refl _)); have HC16 := Lib.hid (HC15.out.below b16 HC15.out.lt); have HK16 : RowKit.Hid (Keeps (· = g) w w16) := (((HK5.out.trans (Keeps.of_below HB14.out)).trans HK15.out).trans (Keeps.of_below b16)); clear b16; obtain ⟨x0, x1, x2, x3, x4, x5, x6, x7, x8⟩ := rfC_at HE16.out; have z8 := HE16.out.frozen 8)
                | (go_at_call 43; have HE17 : RowKit.Hid (Cel (w16.setCell ⟨g, 8, none⟩ (.int .i64 F0.reach)) g 70 (rfC C (.slice (some ⟨bw, 0, none⟩) 640 p2) (.slice (some ⟨bl, ol, none⟩) 128 128) Q B (peakQ f 3) (.slice (some ⟨c, 0, none⟩) 21 21) vh F0.reach)) := HE16.out.set_ 8 _; have HK17 : RowKit.Hid (Keeps (· = g) w16 (w16.setCell ⟨g, 8, none⟩ (.int .i64 F0.reach))) := Keeps.set1 _; have HC17 : RowKit.Hid (CutAt (w16.setCell ⟨g, 8, none⟩ (.int .i64 F0.reach)) c F0.l) := Cel.keeps HC16.out HK17.out (Cel.ne HC16.out HE16.out (by decide)); have HI17 : RowKit.Hid (IntsAt (w16.setCell ⟨g, 8, none⟩ (.int .i64 F0.reach)) ((w16.setCell ⟨g, 8, none⟩ (.int .i64 F0.reach))).heap.size .u8 a14 nE F0.bytes) := (by have := (HI16.out.keeps HK17.out (Nat.le_refl _) fun b off e _ _ => HA14.out b off e).grow HK17.out.size; rw [← HBy.out] at this; exact this); go_loud (refine (refOpen_any a14 nE c14 F0.bytes _ HI17.out HN14.out F0.bytes_bd (by have := HOk.out.len; rw [HBy.out, HNE.out] at this; omega)).mono ?_); rintro e w18 ⟨g18, v18, rfl, d18, b18⟩; have HD18 := Lib.hid d18; have HB18 := Lib.hid b18; have HE18 := Lib.hid (HE17.out.below b18); have HI18 := Lib.hid (HI17.out.now b18 (Nat.le_refl _)); have HC18 : RowKit.Hid (IFun w18 C 2 .i64 1025 cosN ∧ CutAt w18 c F0.l) := ⟨Cel.keeps H.out.c ((HK16.out.trans HK17.out).trans (Keeps.of_below b18)) (Cel.ne H.out.c H.out.e (by decide)), HC17.out.below b18 HC17.out.lt⟩; have HK18 : RowKit.Hid (Keeps (· = g) w w18) := (HK16.out.trans HK17.out).trans (Keeps.of_below b18); clear d18 b18; have k0 : w18.cell? ⟨g, 0, none⟩ = some (.slice (some ⟨C, 0, none⟩) 1025 1025) := HE18.out.cell 0; have k2 : w18.cell? ⟨g, 2, none⟩ = some (.slice (some ⟨bl, ol, none⟩) 128 128) := HE18.out.cell 2; clear x0 x1 x2 x3 x4 x5 x6 x7 x8 z8))
              go_region_held3 (fun w' => w'.cell? ⟨g, 0, none⟩ = some (.slice (some ⟨C, 0, none⟩) 1025 1025) ∧ w'.cell? ⟨g, 2, none⟩ = some (.slice (some ⟨bl, ol, none⟩) 128 128)) (go_keep) (fail)
              go_wp2_with (go_at_call 44; go_loud (refine (play_at F0 n C g18 bl ol _ v18 _ S.left w18 _ HOk.out HC18.out.1 (HNL.out.keeps HK18.out (HNL.out.1.ne (Cel.typ H.out.e) (by decide))) HS.out.left (HFa.out.keeps HK18.out fun r hr => Cel.ne hr H.out.e (by decide)) HD18.out (by rw [← HNw.out]; rfl) HN.out.1 HN.out.2).mono ?_); rintro e w20 ⟨x1, c1, x2, o2, av, vt, rfl, s20, p20, l20, k20⟩; have HP20 := Lib.hid p20; have HS20 := Lib.hid s20; have HL20 := Lib.hid l20; have HK20 : RowKit.Hid (Keeps (fun j => j = w18.heap.size ∨ j = g18) w18 w20) := k20; have ng1 : g ≠ w18.heap.size := Nat.ne_of_lt HE18.out.lt; have HG18 : RowKit.Hid (g ≠ g18) := HE18.out.ne HD18.out.1 (by decide); have HE20 : RowKit.Hid (Cel w20 g 70 (rfC C (.slice (some ⟨bw, 0, none⟩) 640 p2) (.slice (some ⟨bl, ol, none⟩) 128 128) Q B (peakQ f 3) (.slice (some ⟨c, 0, none⟩) 21 21) vh F0.reach)) := HE18.out.keeps HK20.out (fun e => e.elim ng1 HG18.out); have np1 : w18.heap.size ≠ g := fun e => ng1 e.symm; clear s20 p20 l20 k20 k0 k2; have j7 : w20.cell? ⟨g, 7, none⟩ = some vh := HE20.out.cell 7; have j2 : w20.cell? ⟨g, 2, none⟩ = some (.slice (some ⟨bl, ol, none⟩) 128 128) := HE20.out.cell 2; have z7 := HE20.out.frozen 7; have z2 := HE20.out.frozen 2; have j1 : w20.cell? ⟨w18.heap.size, 1, none⟩ = some (.slice (some ⟨x2, o2, none⟩) 128 128) := HP20.out.cell 1)
              go_ret2
              have n64 : ∀ {b off m : Nat} {f : Nat → Int}, NumAt w18 b off m 2 .i64 f → ¬ (b = w18.heap.size ∨ b = g18) := fun h e => e.elim (Nat.ne_of_lt h.1.lt) (h.1.ne (Cel.typ HD18.out.1) (by decide))
              have HN18 : NumAt w18 bw 0 640 2 .i64 (allF S.al f) := (((((HN3.out.below HB5.out).below HB14.out).keeps HK15.out (HN3.out.1.ne (Cel.typ HE3.out) (by decide))).below HB16.out).keeps HK17.out (HN3.out.1.ne (Cel.typ HE3.out) (by decide))).below HB18.out
              have HCN : IFun w18 C 2 .i64 1025 cosN := Cel.keeps H.out.c HK18.out (Cel.ne H.out.c H.out.e (by decide))
              exact rec_end (by rw [HFq.out.2.2]; exact HF0.out) (by rw [HFq.out.2.2]; exact HBR.out) HOk.out HE20.out (Cel.keeps HCN HK20.out fun e => e.elim (Nat.ne_of_lt HCN.lt) (Cel.ne HCN HD18.out.1 (by decide))) (HN18.keeps HK20.out (n64 HN18)) HPs.out
                (Cel.keeps HC18.out.2 HK20.out fun e => e.elim (Nat.ne_of_lt HC18.out.2.lt) (Cel.ne HC18.out.2 HD18.out.1 (by decide))) HS20.out HL20.out (by rw [HBy.out, HNE.out])
                ((HI18.out.keeps HK20.out (Nat.le_refl _) fun b off e h0 hl c => c.elim (Nat.ne_of_lt hl) (ints_dec HI18.out h0 HD18.out e)).grow HK20.out.size) HA14.out (HK18.out.then_ HK20.out fun j hj => .inr (hj.elim (fun e => by rw [e]; exact HK18.out.size) fun e => by rw [e]; exact Nat.le_trans (Nat.le_trans HK16.out.size HK17.out.size) HD18.out.2.2)) (by first | rfl | (rw [hfs]; rfl)) HN14.out HF14.out
            · have HX2 : RowKit.Hid (∀ j, j < k + 1 → F0.B < (bytesE (F0.E j)).length) := fun j hj => by
                by_cases e : j = k
                · subst e; rw [HFq.out.2.1]; omega
                · exact HL.out.2 j (by omega)
              have lB : ¬ (nE : Int) ≤ (B : Int) := by omega
              clear hne hle
              go_wp2_with (first
                | (go_at_call 35; go_loud (refine (RSt.new w5 _ HL.out.1).mono ?_); rintro e w6 ⟨rfl, h6⟩; have H6 := Lib.hid h6; clear h6)
                | (go_at_call 37; go_loud (refine (refBit_any _ _).mono ?_); rintro e wq ⟨rfl, rfl⟩; try rw [HWl.out])
                | (go_at_call 36; go_loud (refine (H9.out.bits HZ.out.2.2.1 HZ.out.2.2.2 (n := (k : Int)) (wide := 5) (by omega) (by omega) (by decide)).mono ?_); rintro e w10 ⟨rfl, h10⟩; have H10 : RowKit.Hid (RSt w5 _ _ (F0.H k) w10) := (by rw [← HHd.out k]; exact h10); clear h10)
                | (go_at_call 36; go_loud (refine (H8.out.bits HZ.out.2.1.1 HZ.out.2.1.2 (n := Q) (wide := 4) (by omega) (by omega) (by decide)).mono ?_); rintro e w9 ⟨rfl, h9⟩; have H9 := Lib.hid h9; clear h9)
                | (go_at_call 36; go_loud (refine (H7.out.bits HZ.out.1.1 HZ.out.1.2 (n := b2 br) (wide := 1) HZb.out.2.1 HZb.out.2.2.1 (by decide)).mono ?_); rintro e w8 ⟨rfl, h8⟩; have H8 := Lib.hid h8; clear h8; have d3 : w8.cell? ⟨g, 3, none⟩ = some (.int .i64 Q) := (HE5.out.below H8.out.below).cell 3; have d4 : w8.cell? ⟨g, 4, none⟩ = some (.int .i64 B) := (HE5.out.below H8.out.below).cell 4)
                | (go_at_call 36; go_loud (refine (H6.out.bits goodE_new (Nat.zero_le 1000) (n := b2 F0.wh) (wide := 1) HZb.out.1 HZb.out.2.2.2 (by decide)).mono ?_); rintro e w7 ⟨rfl, h7⟩; have H7 := Lib.hid h7; clear h7)
                | (go_at_call 38; go_loud (refine (H10.out.put (F0.goodH k).1 (Nat.le_trans (F0.goodH k).2 (by decide)) HL5.out HOk.out.l HFa5.out).mono ?_); rintro e w11 ⟨rfl, h11⟩; have H11 : RowKit.Hid (RSt w5 _ _ (F0.C k) w11) := h11; clear h11; have d3 : w11.cell? ⟨g, 3, none⟩ = some (.int .i64 Q) := (HE5.out.below H11.out.below).cell 3; have d4 : w11.cell? ⟨g, 4, none⟩ = some (.int .i64 B) := (HE5.out.below H11.out.below).cell 4)
                | (go_at_call 39; go_loud (refine (rSteps_any (some ⟨c, 0, none⟩) 21 (tabF 21 F0.l) Q k _ (CutAt.ints (HL5.out.below H11.out.below HL5.out.lt)) ⟨HOk.out.l.right, HQ.out.1, HQ.out.2, by omega, by omega⟩).mono ?_); rintro e w12 ⟨a12, c12, rfl, i12, n12, b12⟩; rw [HOk.out.l.tab] at i12; have HI12 := Lib.hid i12; have HN12 := Lib.hid n12; have HB12 := Lib.hid b12; clear i12 n12 b12)
                | (go_at_call 40; go_loud (refine (RSt.lines (l := F0.l) (q := Q) (lo := (k : Int)) H11.out HB12.out (F0.goodC k).1 (Nat.le_trans (F0.goodC k).2 (by decide)) HI5.out HOk.out.x HL5.out HOk.out.l HI12.out HN12.out).mono ?_); rintro e w13 ⟨rfl, h13, t13⟩; have HT13 := Lib.hid t13; clear t13; have H13 : RowKit.Hid (RSt w5 _ _ (F0.E k) w13) := (by rw [← HFq.out.1] at h13; exact h13); clear h13)
                | (go_at_call 41; go_loud (refine (H13.out.bytes (Nat.le_trans (HOk.out.good k).2 (by decide))).mono ?_); rintro e w14 ⟨a14, c14, rfl, i14, n14, f14, b14⟩; have HB14 := Lib.hid (chain H13.out.below b14); clear i14 n14 f14 b14; rw [HNE.out]; have d3 : w14.cell? ⟨g, 3, none⟩ = some (.int .i64 Q) := (HE5.out.below HB14.out).cell 3; have d4 : w14.cell? ⟨g, 4, none⟩ = some (.int .i64 B) := (HE5.out.below HB14.out).cell 4))
              go_roundw
              case rel => exact ⟨k + 1, by omega, by go_num, HB14.out, HX2.out⟩
              case measure => simp [intOf] <;> omega
          · obtain rfl : k = 32 := by omega
            obtain ⟨l1, l2, l3⟩ := HOk.out.loss
            have := HL.out.2 _ l1
            omega
end Go.Proofs.YtmgfkdmjgjlkjaaGreat
