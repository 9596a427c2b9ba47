/- Plain facts, and what functions give, for the proofs of this seat: several texts in one, each with its own first remark. -/
import Derived.Test.YtobhoecmmpijgaaGreatRA
import Derived.Test.YtobhoecmmpijgaaGreatRo
import Derived.Test.YtobhoecmmpijgaaGreatRd
import Derived.Test.YtobhoecmmpijgaaGreatRn
import Derived.Test.YtobhoecmmpijgaaGreatRr
import Derived.Test.YtobhoecmmpijgaaGreatRa
import Derived.Test.YtobhoecmmpijgaaGreatRt
import Derived.Test.YtobhoecmmpijgaaGreatRi
import Derived.Lib.SliceRun
import Derived.Test.YtobhoecmmpijgaaGreatRs

/- What Heard and Get of package quant give. -/
namespace Go.Proofs.YtobhoecmmpijgaaGreat
open Go.RowKit
set_option linter.unusedVariables false

theorem scaled_bd {q s n : Int} (s0 : 0 ≤ s) (h : s < n) (n1 : n ≤ 26) (q0 : -(P2 (n - s).toNat) ≤ q) (q1 : q ≤ P2 (n - s).toNat) : -67108864 ≤ q * P2 s.toNat ∧ q * P2 s.toNat ≤ 67108864 := by
  have hM := P2_add (n - s).toNat s.toNat
  rw [show (n - s).toNat + s.toNat = n.toNat by omega] at hM
  have p0 := P2_pos s.toNat
  have hn := P2_mono (a := n.toNat) (b := 26) (by omega)
  rw [show P2 26 = 67108864 by decide] at hn
  have a1 := Int.mul_le_mul_of_nonneg_right q1 (show 0 ≤ P2 s.toNat by omega)
  have a2 := Int.mul_le_mul_of_nonneg_right q0 (show 0 ≤ P2 s.toNat by omega)
  rw [Int.neg_mul] at a2
  omega
/-! ### Heard -/
def HeardPost (H : Nat → Int) (w : World) (e : Ending) (w' : World) : Prop :=
  ∃ r, e = .returned (.tuple #[.slice (some ⟨r, 0, none⟩) 512 512, .int .i64 0]) ∧ IFun w' r 21 .i32 512 H ∧ w.heap.size ≤ r ∧ Below w.heap.size w w'
set_option maxHeartbeats 400000 in
set_option maxRecDepth 100000 in
theorem qHeard_any (lb lo lcap : Nat) (x : Nat → Int) (a a2 : Option Addr) (cap cap2 : Nat) (zs ss : List Int) (seed : Int) (w : World) (hlb : lb < w.heap.size) (hx : ∀ i, i < 512 → w.cell? ⟨lb, lo + i, none⟩ = some (.int .i32 (x i))) (hxb : ∀ i, i < 512 → -2147483648 ≤ x i ∧ x i ≤ 2147483647)
    (h : IntsAt w w.heap.size .i64 a 21 zs) (h2 : IntsAt w w.heap.size .i64 a2 21 ss) (hmay : mayQ zs ss = true) (sd0 : 0 ≤ seed) (sd1 : seed ≤ 4294967295) :
    Calls Tryz.prog 78 #[.slice (some ⟨lb, lo, none⟩) 512 lcap, .slice a 21 cap, .slice a2 21 cap2, .int .u32 seed] w (HeardPost (outF (fun j => zs.getD j 0) (fun j => ss.getD j 0) (lineQ x (fun j => zs.getD j 0) (fun j => ss.getD j 0)) seed) w) := by
  obtain ⟨hr1, hr2, h12⟩ := mayQ_true hmay
  have hc := (rightB_true hr1).2
  have hs := (rightB_true hr2).2
  have HB := Lib.hid (Below.alloc_new w (.cells #[.slice (some ⟨lb, lo, none⟩) 512 lcap] 101))
  have HI := Lib.hid (h.now HB.out (Nat.le_refl _))
  have HI2 := Lib.hid (h2.now HB.out (Nat.le_refl _))
  have HMay := Lib.hid hmay
  have hmf : ∀ (fn : Fn) (first cap : Array Value) (w : World), (Instr.makeFunc fn first cap).run Tryz.prog w = .ok (.func fn first cap) w := fun _ _ _ _ => rfl
  have HCx := Lib.hid (Cel.new w 101 #[.slice (some ⟨lb, lo, none⟩) 512 lcap])
  have HXx : RowKit.Hid (∀ i, i < 512 → (w.alloc (.cells #[.slice (some ⟨lb, lo, none⟩) 512 lcap] 101)).cell? ⟨lb, lo + i, none⟩ = some (.int .i32 (x i))) := fun i hi => (HB.out.cell (p := ⟨lb, lo + i, none⟩) hlb).trans (hx i hi)
  obtain ⟨w1, hw1⟩ : ∃ w1, w1 = w.alloc (.cells #[.slice (some ⟨lb, lo, none⟩) 512 lcap] 101) := ⟨_, rfl⟩
  obtain ⟨xb, hxbk⟩ : ∃ xb, xb = w.heap.size := ⟨_, rfl⟩
  have HFr : RowKit.Hid (Calls Tryz.prog 115 #[.slice a 21 cap, .slice a2 21 cap2, .int .u32 seed, .func (.func 116) #[] #[.pointer (some ⟨xb, 0, none⟩)]] w1
      (FramePost (fun _ => False) (fun _ => true) (fun i wx => Cel wx xb 101 #[.slice (some ⟨lb, lo, none⟩) 512 lcap] ∧ ∀ i, i < 512 → wx.cell? ⟨lb, lo + i, none⟩ = some (.int .i32 (x i))) (outF (fun j => zs.getD j 0) (fun j => ss.getD j 0) (lineQ x (fun j => zs.getD j 0) (fun j => ss.getD j 0)) seed) w1)) := by
    rw [← hw1] at HI HI2 HCx HXx
    rw [← hxbk] at HCx hlb
    have hxl : xb < w1.heap.size := HCx.out.lt
    refine qFrameHeard_any _ a a2 cap cap2 zs ss seed w1 HI.out HI2.out hmay sd0 sd1 _ (fun j hj => hj.elim) _ _ _ (fun i wx w' hs1 hsz hk => ?_) ⟨HCx.out, HXx.out⟩ (fun i wx _ _ hs1 => hs1) (fun i _ _ => rfl) (fun k i hk i0 i1 ht _ => ?_) (fun k i wx hk i0 i1 ht hs1 hsz => ?_)
    · refine ⟨hs1.1.keeps hk (by omega), fun j hj => ?_⟩
      exact (World.cell?_of_block (a := ⟨lb, lo + j, none⟩) (hk.block lb (by omega) (by omega))).trans (hs1.2 j hj)
    · have b1 := hc k hk
      have b2 := hs k hk
      rw [lineQ_at (c := fun j => zs.getD j 0) (s := fun j => ss.getD j 0) hk i0 i1]
      have hb := numQ_bd (x i) (ss.getD k 0) (zs.getD k 0)
      have := scaled_bd (q := numQ (x i) (ss.getD k 0) (zs.getD k 0)) b2.1 ht b1.2 (by omega) (by omega)
      omega
    · have b1 := hc k hk
      have b2 := hs k hk
      have he := edgeK_lt k hk
      have hxi := hxb i (by omega)
      refine (qLitHeard_any xb lb lo lcap i _ _ _ _ (x i) wx hs1.1 (hs1.2 i (by omega)) (by omega) b2.1 (by omega) ht (h12 k hk) hxi.1 hxi.2).mono ?_
      rintro e w' ⟨rfl, hb⟩
      refine ⟨.of_below hb, fun _ => ⟨by rw [lineQ_at (c := fun j => zs.getD j 0) (s := fun j => ss.getD j 0) hk i0 i1], hs1.1.below hb, fun j hj => ?_⟩, fun c => by cases c⟩
      exact (hb.cell (p := ⟨lb, lo + j, none⟩) (by show lb < _; omega)).trans (hs1.2 j hj)
  have HFs : RowKit.Hid (Calls Tryz.prog 115 #[.slice a 21 cap, .slice a2 21 cap2, .int .u32 seed, .func (.func 116) #[] #[.pointer (some ⟨xb, 0, none⟩)]] w1 (HeardPost (outF (fun j => zs.getD j 0) (fun j => ss.getD j 0) (lineQ x (fun j => zs.getD j 0) (fun j => ss.getD j 0)) seed) w1)) := by
    refine HFr.out.mono ?_
    rintro e w' ⟨hk, ⟨_, r, rfl, hf, hr, _⟩ | ⟨⟨_, _, c⟩, _⟩⟩
    · exact ⟨r, rfl, hf, hr, hk.below (Nat.le_refl _) fun j hj => hj.elim⟩
    · cases c
  rw [hw1, hxbk] at HFs
  clear h h2 hmay hr1 hr2 h12 hc hs hx hxb HCx HXx HFr hw1 hxbk
  go_enter Tryz.func78, Tryz.ntmps78
  go_wp2_with (first
    | (go_at_call 114; go_loud (refine (qMay_any _ _ _ _ _ _ _ _ _ HI.out (by decide) HI2.out (by decide)).mono ?_); rintro e1 w5 ⟨rfl, rfl⟩; rw [HMay.out])
    | (go_at_call 115; go_loud (refine HFs.out.mono ?_); rintro e1 w6 ⟨r, rfl, hf, hr, hk6⟩; have HF6 := Lib.hid hf; have HR6 := Lib.hid hr; have HK6 := Lib.hid hk6; clear hf hr hk6)
    | fail)
  go_ret2
  have hbw := HB.out.size
  exact ⟨r, rfl, HF6.out, Nat.le_trans hbw HR6.out, chain HB.out HK6.out⟩

/-! ### Get -/
/-- A line's number has no more bits than may be. -/
def okG (c s : Nat → Int) (b : List Int) (D : DecS) (i : Nat) : Bool := !(toldT c s i) || decide (getK (toldT c s) b D i ≤ (c (ofN i) - s (ofN i)).toNat)
def GotPostF (g : Nat) (c s : Nat → Int) (b : List Int) (D : DecS) (seed : Int) (w : World) (e : Ending) (w' : World) : Prop :=
  Keeps (fun j => j = g) w w' ∧ (((∀ i, i < 512 → okG c s b D i = true) ∧ ∃ r, e = .returned (.tuple #[.slice (some ⟨r, 0, none⟩) 512 512, .int .i64 0]) ∧ IFun w' r 21 .i32 512 (outF c s (getQ (toldT c s) b D) seed) ∧ w.heap.size ≤ r) ∨
    ((∃ i, i < 512 ∧ okG c s b D i = false) ∧ e = .returned (.tuple #[.slice none 0 0, .int .i64 3])))
set_option maxHeartbeats 400000 in
set_option maxRecDepth 100000 in
theorem qGet_any (base g : Nat) (v : Value) (b : List Int) (D : DecS) (a a2 : Option Addr) (cap cap2 : Nat) (zs ss : List Int) (seed : Int) (w : World) (hD : DrcAt w base g v b D) (hG : GoodD D) (hb : ∀ j, 0 ≤ byteF b j ∧ byteF b j ≤ 255) (hbl : b.length ≤ 1000000) (hi : D.i ≤ 1000000)
    (h : IntsAt w w.heap.size .i64 a 21 zs) (h2 : IntsAt w w.heap.size .i64 a2 21 ss) (hmay : mayQ zs ss = true) (sd0 : 0 ≤ seed) (sd1 : seed ≤ 4294967295) :
    Calls Tryz.prog 127 #[.pointer (some ⟨g, 0, none⟩), .slice a 21 cap, .slice a2 21 cap2, .int .u32 seed] w (GotPostF g (fun j => zs.getD j 0) (fun j => ss.getD j 0) b D seed w) := by
  obtain ⟨hr1, hr2, h12⟩ := mayQ_true hmay
  have hc := (rightB_true hr1).2
  have hs := (rightB_true hr2).2
  have HB := Lib.hid (Below.alloc_new w (.cells #[.pointer (some ⟨g, 0, none⟩)] 169))
  have HI := Lib.hid (h.now HB.out (Nat.le_refl _))
  have HI2 := Lib.hid (h2.now HB.out (Nat.le_refl _))
  have HMay := Lib.hid hmay
  have hmf : ∀ (fn : Fn) (first cap : Array Value) (w : World), (Instr.makeFunc fn first cap).run Tryz.prog w = .ok (.func fn first cap) w := fun _ _ _ _ => rfl
  have HCd := Lib.hid (Cel.new w 169 #[.pointer (some ⟨g, 0, none⟩)])
  have HD := Lib.hid (hD.below HB.out)
  obtain ⟨w1, hw1⟩ : ∃ w1, w1 = w.alloc (.cells #[.pointer (some ⟨g, 0, none⟩)] 169) := ⟨_, rfl⟩
  obtain ⟨db, hdb⟩ : ∃ db, db = w.heap.size := ⟨_, rfl⟩
  have hgl := hD.lt.1
  have HOw : RowKit.Hid (∀ r, v.ownBlock = some r → r < w.heap.size) := fun r hr => (hD.own r hr).1
  have HFs : RowKit.Hid (∀ (w2 : World) (mg : Nat), Below w1.heap.size w1 w2 → w1.heap.size ≤ mg → ModAt w2 mg (List.replicate 13 1) false →
      Calls Tryz.prog 115 #[.slice a 21 cap, .slice a2 21 cap2, .int .u32 seed, .func (.func 160) #[] #[.pointer (some ⟨db, 0, none⟩), .pointer (some ⟨w2.heap.size, 0, none⟩)]] (w2.alloc (.cells #[.pointer (some ⟨mg, 0, none⟩)] 234))
        fun e w' => GotPostF g (fun j => zs.getD j 0) (fun j => ss.getD j 0) b D seed w e w' ∧ ∃ y1 y2 : Value, e = .returned (.tuple #[y1, y2])) := fun w2 mg hb2 hmg hm => by
    have hb3 := chain hb2 (Below.alloc_new w2 (.cells #[.pointer (some ⟨mg, 0, none⟩)] 234))
    have hCm := Cel.new w2 234 #[.pointer (some ⟨mg, 0, none⟩)]
    have hbw := HB.out
    have hD1 := HD.out
    have hCd := HCd.out
    have hI := HI.out
    have hI2 := HI2.out
    rw [← hw1] at hbw hD1 hCd hI hI2
    rw [← hdb] at hCd
    have hdl := hCd.lt
    have hm3 := hm.below (Below.alloc_new w2 (.cells #[.pointer (some ⟨mg, 0, none⟩)] 234))
    have hml := hm.lt
    generalize hw3 : w2.alloc (.cells #[.pointer (some ⟨mg, 0, none⟩)] 234) = w3 at hb3 hCm hm3
    obtain ⟨mb, hmb⟩ : ∃ mb, mb = w2.heap.size := ⟨_, rfl⟩
    rw [← hmb] at hCm ⊢
    have hsz3 := hb3.size
    have hszw := hbw.size
    have hml3 := hm3.lt
    have hmb3 := hCm.lt
    have hall := hbw.trans (hb3.mono hszw)
    refine (qFrameGet_any _ _ a a2 cap cap2 zs ss seed w3 (hI.now hb3 (Nat.le_refl _)) (hI2.now hb3 (Nat.le_refl _)) hmay sd0 sd1 (fun j => j = g ∨ j = mg) (fun j hj => by omega) (getQ (toldT (fun j => zs.getD j 0) (fun j => ss.getD j 0)) b D) (okG (fun j => zs.getD j 0) (fun j => ss.getD j 0) b D)
      (fun i wx => GetQ base g mg v b (getL (toldT (fun j => zs.getD j 0) (fun j => ss.getD j 0)) b D i) wx ∧ Cel wx db 169 #[.pointer (some ⟨g, 0, none⟩)] ∧ Cel wx mb 234 #[.pointer (some ⟨mg, 0, none⟩)])
      (fun i wx w' hs1 hsz hk => ?_) ?_ (fun i wx _ ht hs1 => ?_) (fun i _ ht => ?_) (fun k i hk i0 i1 ht hok => ?_) (fun k i wx hk i0 i1 ht hs1 hsz => ?_)).mono ?_
    · exact ⟨hs1.1.keeps hk (by omega) (fun r hr => by have := HOw.out r hr; omega) (by omega), hs1.2.1.keeps hk (by omega), hs1.2.2.keeps hk (by omega)⟩
    · exact ⟨⟨hD1.below hb3, hm3⟩, hCd.below hb3, hCm⟩
    · rw [getL_not b D ht]; exact hs1
    · unfold okG; rw [ht]; rfl
    · have b1 := hc k hk
      have b2 := hs k hk
      have hT : toldT (fun j => zs.getD j 0) (fun j => ss.getD j 0) i = true := by rw [toldT_at (c := fun j => zs.getD j 0) (s := fun j => ss.getD j 0) hk i0 i1]; simpa using ht
      unfold okG at hok
      rw [hT, of_band hk i0 i1] at hok
      simp only [Bool.not_true, Bool.false_or, decide_eq_true_eq] at hok
      have hq := getQ_bd (T := toldT (fun j => zs.getD j 0) (fun j => ss.getD j 0)) hb hG i
      have hmo := P2_mono hok
      have := scaled_bd (q := getQ (toldT (fun j => zs.getD j 0) (fun j => ss.getD j 0)) b D i) b2.1 ht b1.2 (by omega) (by omega)
      omega
    · have b1 := hc k hk
      have b2 := hs k hk
      have he := edgeK_lt k hk
      have hT : toldT (fun j => zs.getD j 0) (fun j => ss.getD j 0) i = true := by rw [toldT_at (c := fun j => zs.getD j 0) (s := fun j => ss.getD j 0) hk i0 i1]; simpa using ht
      obtain ⟨g1, g2, g3, g4⟩ := getL_good (T := toldT (fun j => zs.getD j 0) (fun j => ss.getD j 0)) hb hG i
      have hmo := h12 k hk
      have hne := hs1.1.d.ne_mod hs1.1.m
      have hokE : okG (fun j => zs.getD j 0) (fun j => ss.getD j 0) b D i = decide (getK (toldT (fun j => zs.getD j 0) (fun j => ss.getD j 0)) b D i ≤ (zs.getD k 0 - ss.getD k 0).toNat) := by
        unfold okG; rw [hT, of_band hk i0 i1]; rfl
      refine (qLitGet_any base g mg db mb v b _ _ _ _ _ i (zs.getD k 0 - ss.getD k 0).toNat wx hs1.1 g1 g2 g3 hb hbl (by omega) (by omega) (by omega) hs1.2.1 hs1.2.2).mono ?_
      rintro e w' ⟨hk1, hor⟩
      have hCd2 := hs1.2.1.keeps hk1 (by omega)
      have hCm2 := hs1.2.2.keeps hk1 (by omega)
      refine ⟨hk1, fun hy => ?_, fun hy => ?_⟩
      · rw [hokE] at hy
        have hy2 := of_decide_eq_true hy
        rcases hor with ⟨_, rfl, hq⟩ | ⟨hx, _⟩
        · refine ⟨rfl, ?_, hCd2, hCm2⟩
          rw [getL_told b D hT]
          exact hq
        · unfold getK at hy2; omega
      · rw [hokE] at hy
        have hy2 := of_decide_eq_false hy
        rcases hor with ⟨hx, _, _⟩ | ⟨_, rfl⟩
        · unfold getK at hy2; omega
        · rfl
    · rintro e w' ⟨hk, hor⟩
      have hkk : Keeps (fun j => j = g) w w' := (Keeps.of_below hall).then_ hk fun j hj => by omega
      rcases hor with ⟨ho, r, rfl, hf, hr, _⟩ | ⟨ho, rfl⟩
      · exact ⟨⟨hkk, .inl ⟨ho, r, rfl, hf, by omega⟩⟩, _, _, rfl⟩
      · exact ⟨⟨hkk, .inr ⟨ho, rfl⟩⟩, _, _, rfl⟩
  rw [hw1, hdb] at HFs
  have hsz1 : w.heap.size ≤ (w.alloc (.cells #[.pointer (some ⟨g, 0, none⟩)] 169)).heap.size := HB.out.size
  clear h h2 hmay hr1 hr2 h12 hc hs hb hG hD HD HCd hw1 hdb
  go_enter Tryz.func127, Tryz.ntmps127
  go_wp2_with (first
    | (go_at_call 114; go_loud (refine (qMay_any _ _ _ _ _ _ _ _ _ HI.out (by decide) HI2.out (by decide)).mono ?_); rintro e1 w5 ⟨rfl, rfl⟩; rw [HMay.out])
    | (go_at_call 142; go_loud (refine (qSizes_any _).mono ?_); rintro e1 w2 ⟨mg, rfl, hg, hm, hb2⟩; have HFr := Lib.hid (HFs.out w2 mg hb2 hg hm); clear hg hm hb2)
    | (go_at_call 115; go_loud (refine HFr.out.mono ?_); rintro e1 w6 ⟨hp, y1, y2, rfl⟩; have HP := Lib.hid hp; clear hp)
    | fail)
  go_ret2
  exact HP.out
end Go.Proofs.YtobhoecmmpijgaaGreat

/- Plain facts of layer 13: a payload, what comes back of it, and how near. Nothing here speaks of the program. -/
namespace Go.Proofs.YtobhoecmmpijgaaGreat
open Go Go.RowKit
set_option linter.unusedVariables false
set_option linter.unusedSimpArgs false

/-- The whole of it. -/
def payE (wh : Bool) (br qu lo : Int) (l ah x : Nat → Int) : EncS :=
  (putL (toldT l (stepF l qu lo)) (lineQ x l (stepF l qu lo)) (ceilE wh br qu lo l ah) 512).1
theorem stepF_12 {l : Nat → Int} (q x : Int) {b : Nat} (h : 0 ≤ l b) : l b - stepF l q x b ≤ 12 := by have := stepF_bd q x h; omega
theorem payE_good {wh : Bool} {br qu lo : Int} {l ah x : Nat → Int} (hl : ∀ b, 0 ≤ l b) : GoodE (payE wh br qu lo l ah x) ∧ (payE wh br qu lo l ah x).k ≤ 5212 ∧ Inside (ceilE wh br qu lo l ah) (payE wh br qu lo l ah x) := by
  obtain ⟨a, b⟩ := ceilE_good wh br qu lo l ah
  have hq := lineQ_bd (x := x) (c := l) (s := stepF l qu lo) fun b _ => stepF_12 _ _ (hl b)
  obtain ⟨c, d, e, f⟩ := putL_good (T := toldT l (stepF l qu lo)) a hq 512
  refine ⟨c, by unfold payE; omega, ?_⟩
  have i := putL_inside (T := toldT l (stepF l qu lo)) a hq 0 512
  rw [putL_zero] at i
  exact i
theorem payE_worst {wh : Bool} {br qu : Int} {l ah x : Nat → Int} (hl : ∀ b, 0 ≤ l b) (hq : qu ≤ 10) : (payE wh br qu 31 l ah x).k ≤ 26 := by
  have e : payE wh br qu 31 l ah x = ceilE wh br qu 31 l ah := by
    unfold payE
    rw [putL_skip (a := 0) (b := 512) _ _ (by decide) (fun i _ hi => ?_), putL_zero]
    exact decide_eq_false (by rw [stepF_worst (hl _) (of_lt hi) hq]; omega)
  rw [e]
  exact ceilE_k _ _ _ _ _ _
theorem isLoss_ends {B : Nat} {wh : Bool} {br qu : Int} {l ah x : Nat → Int} (hl : ∀ b, 0 ≤ l b) (hq : qu ≤ 10) (hB : 32 ≤ B) : (bytesE (payE wh br qu 31 l ah x)).length ≤ B := by
  have a := bytesE_le (payE wh br qu 31 l ah x)
  have b := payE_worst (wh := wh) (br := br) (ah := ah) (x := x) hl hq
  omega

/-! ### What comes back -/
/-- A decoder of a payload, behind its head. -/
def headD (b : List Int) : DecS := (decBits b (decBits b (decBits b (decBits b (decNew (byteF b)) 0 1).2 0 1).2 0 4).2 0 5).2
theorem pay_back {wh : Bool} {br qu lo : Int} {l ah x : Nat → Int} {F : EncS} {b : List Int} (hF : F = payE wh br qu lo l ah x) (hb : b = bytesE F) (br0 : 0 ≤ br) (br1 : br ≤ 1) (q0 : 0 ≤ qu) (q1 : qu ≤ 15) (lo0 : 0 ≤ lo) (lo1 : lo ≤ 31)
    (hl : ∀ b, 0 ≤ l b) (hl2 : ∀ b, b < 21 → l b ≤ 26) :
    (decBits b (decNew (byteF b)) 0 1).1 = (if wh then 1 else 0) ∧ (decBits b (decBits b (decNew (byteF b)) 0 1).2 0 1).1 = br ∧ (decBits b (decBits b (decBits b (decNew (byteF b)) 0 1).2 0 1).2 0 4).1 = qu ∧
    (decBits b (decBits b (decBits b (decBits b (decNew (byteF b)) 0 1).2 0 1).2 0 4).2 0 5).1 = lo ∧ (∀ i, i < 21 → getV wh b (headD b) ah i = l i) ∧
    (∀ i, i < 512 → toldT l (stepF l qu lo) i = true → getQ (toldT l (stepF l qu lo)) b (getN wh b (headD b) ah 21) i = lineQ x l (stepF l qu lo) i) ∧
    (∀ i, i < 512 → okG l (stepF l qu lo) b (getN wh b (headD b) ah 21) i = true) := by
  obtain ⟨F1, F2, F3⟩ := payE_good (wh := wh) (br := br) (qu := qu) (lo := lo) (l := l) (ah := ah) (x := x) hl
  rw [← hF] at F1 F2 F3
  have hd : DigOf (byteF b) F := by rw [hb]; exact digOf_only F1
  have hf : 1 ≤ F.s := by have := F1.1; omega
  obtain ⟨a1, _, _⟩ := bits_good12 (n := if wh then 1 else 0) (wide := 1) goodE_new (by decide)
  obtain ⟨b1, b2, _⟩ := bits_good12 (n := br) (wide := 1) a1 (by decide)
  obtain ⟨c1, c2, _⟩ := bits_good12 (n := qu) (wide := 4) b1 (by decide)
  obtain ⟨d1, d2, _⟩ := bits_good12 (n := lo) (wide := 5) c1 (by decide)
  have i5 : Inside (headE (if wh then 1 else 0) br qu lo) F := (putN_good (q := wh) (f := l) (d := ah) d1 21).2.2.trans F3
  have i4 := d2.trans i5
  have i3 := c2.trans i4
  have i2 := b2.trans i3
  obtain ⟨s1, t1⟩ := bits_back (wide := 1) (sync_new (byteF b)) goodE_new (by decide) (n := if wh then 1 else 0) (by split <;> decide) (by rw [show P2 1 = 2 by decide]; split <;> decide) i2 hf hd
  obtain ⟨s2, t2⟩ := bits_back (wide := 1) t1 a1 (by decide) br0 (by rw [show P2 1 = 2 by decide]; omega) i3 hf hd
  obtain ⟨s3, t3⟩ := bits_back (wide := 4) t2 b1 (by decide) q0 (by rw [show P2 4 = 16 by decide]; omega) i4 hf hd
  obtain ⟨s4, t4⟩ := bits_back (wide := 5) t3 c1 (by decide) lo0 (by rw [show P2 5 = 32 by decide]; omega) i5 hf hd
  obtain ⟨u1, u2⟩ := put_back (q := wh) (d := ah) (f := l) t4 d1 (fun j hj => ⟨hl j, by have := hl2 j hj; omega⟩) F3 hf hd 21 (Nat.le_refl _)
  have hq := lineQ_bd (x := x) (c := l) (s := stepF l qu lo) fun b _ => stepF_12 _ _ (hl b)
  have i6 : Inside (putL (toldT l (stepF l qu lo)) (lineQ x l (stepF l qu lo)) (ceilE wh br qu lo l ah) 512).1 F := by rw [hF]; exact Inside.refl _
  obtain ⟨_, _, v3⟩ := put_got (T := toldT l (stepF l qu lo)) u1 (ceilE_good wh br qu lo l ah).1 hq i6 hf hd 512 (Nat.le_refl _)
  refine ⟨s1, s2, s3, s4, u2, fun i hi ht => (v3 i hi ht).1, fun i hi => ?_⟩
  unfold okG
  cases ht : toldT l (stepF l qu lo) i with
  | false => rfl
  | true =>
    change decide (getK (toldT l (stepF l qu lo)) b (getN wh b (headD b) ah 21) i ≤ _) = true
    have k := (v3 i hi ht).2
    unfold headD
    rw [k]
    refine decide_eq_true ?_
    unfold lineQ
    rw [if_pos hi]
    exact numQ_bits _ _ _
/-- .. and so what is heard of it. -/
theorem heard_back {c s n m : Nat → Int} {seed : Int} {i : Nat} (h : toldT c s i = true → n i = m i) : outF c s n seed i = outF c s m seed i := by
  unfold outF
  split
  · rw [h (by assumption)]
  · rfl

/-! ### How near -/
end Go.Proofs.YtobhoecmmpijgaaGreat

/- Plain facts of layer 13: what is put of a frame, as functions of what it is made of. Nothing here speaks of the program. -/
namespace Go.Proofs.YtobhoecmmpijgaaGreat
open Go
set_option linter.unusedVariables false
set_option linter.unusedSimpArgs false

/-- A truth as a number. -/
def b2 (b : Bool) : Int := if b then 1 else 0
theorem b2_bd (b : Bool) : 0 ≤ b2 b ∧ b2 b ≤ 1 := by cases b <;> decide
/-- Lines held. -/
def heldF (f : Nat → Int) (i : Nat) : Int := satP (f i) 26
theorem heldF_bd (f : Nat → Int) (i : Nat) : -33554432 ≤ heldF f i ∧ heldF f i ≤ 33554431 := by
  unfold heldF
  rw [satP_in (by decide) (by decide), show P2 ((26 : Int).toNat - 1) = 33554432 by decide]
  split
  · omega
  · split <;> omega
theorem heldF_max (f : Nat → Int) (i : Nat) : max (-33554432) (min (f i) 33554431) = heldF f i := by
  unfold heldF
  rw [satP_in (by decide) (by decide), show P2 ((26 : Int).toNat - 1) = 33554432 by decide]
  split
  · omega
  · split <;> omega
/-! ### Twenty-one numbers -/
def c21 (f : Nat → Int) (j : Nat) : Int := if j < 21 then f j else 0
theorem c21_at (f : Nat → Int) {j : Nat} (h : j < 21) : c21 f j = f j := if_pos h
structure CutOk (l : Nat → Int) : Prop where
  bd : ∀ b, 0 ≤ l b ∧ l b ≤ 26
  out : ∀ j, 21 ≤ j → l j = 0
theorem c21_ok {f : Nat → Int} (h : ∀ b, b < 21 → 0 ≤ f b ∧ f b ≤ 26) : CutOk (c21 f) := by
  refine ⟨fun b => ?_, fun j hj => if_neg (by omega)⟩
  unfold c21
  split
  · exact h b (by assumption)
  · omega
theorem CutOk.zero : CutOk (fun _ => 0) := ⟨fun _ => by omega, fun _ _ => rfl⟩
theorem CutOk.tab {l : Nat → Int} (h : CutOk l) : (fun j => (tabF 21 l).getD j 0) = l := by
  funext j
  by_cases hj : j < 21
  · exact tabF_getD l hj
  · rw [List.getD_eq_getElem?_getD, List.getElem?_eq_none (by rw [tabF_len]; omega), h.out j (by omega)]
    rfl
theorem CutOk.step {l : Nat → Int} (h : CutOk l) (q x : Int) : CutOk (stepF l q x) := by
  refine ⟨fun b => ?_, fun j hj => ?_⟩
  · have := h.bd b; have := stepF_bd (l := l) q x this.1; omega
  · have := h.out j hj; have := stepF_bd (l := l) q x (h.bd j).1; omega
theorem CutOk.right {l : Nat → Int} (h : CutOk l) : rightB (tabF 21 l) = true := rightB_of (tabF_len _ _) fun j hj => by rw [tabF_getD _ hj]; exact h.bd j
theorem CutOk.may {l : Nat → Int} (h : CutOk l) (q x : Int) : mayQ (tabF 21 l) (tabF 21 (stepF l q x)) = true :=
  mayQ_of h.right (h.step q x).right fun j hj => by rw [tabF_getD _ hj, tabF_getD _ hj]; have := stepF_bd (l := l) q x (h.bd j).1; omega
theorem bits_26 {x : Int} (h : -33554432 ≤ x ∧ x ≤ 33554431) : bitsI x ≤ 26 := bitLen_le (by omega)
theorem ceil_26 {x : Nat → Int} (hx : ∀ i, -33554432 ≤ x i ∧ x i ≤ 33554431) (b : Nat) : 0 ≤ ceilF x b ∧ ceilF x b ≤ 26 :=
  maxTo_bd (by decide) _ fun i _ => by have := bits_26 (hx (edgeK b + i)); unfold bitF; omega

/-! ### The least loss -/
theorem isLoss_ex {B : Nat} {E : Nat → EncS} (h : (bytesE (E 31)).length ≤ B) : ∃ x, IsLoss B E x := by
  have a : ∀ n, (∃ x, x < n ∧ (bytesE (E x)).length ≤ B ∧ ∀ j, j < x → B < (bytesE (E j)).length) ∨ ∀ j, j < n → B < (bytesE (E j)).length := by
    intro n
    induction n with
    | zero => exact .inr fun j hj => by omega
    | succ n ih =>
      rcases ih with ⟨x, h1, h2, h3⟩ | h4
      · exact .inl ⟨x, by omega, h2, h3⟩
      · by_cases c : (bytesE (E n)).length ≤ B
        · exact .inl ⟨n, by omega, c, h4⟩
        · refine .inr fun j hj => ?_
          by_cases e : j = n
          · subst e; omega
          · exact h4 j (by omega)
  rcases a 32 with ⟨x, h1⟩ | h2
  · exact ⟨x, h1⟩
  · have := h2 31 (by omega); omega
noncomputable def lossF (B : Nat) (E : Nat → EncS) : Nat := Classical.epsilon (IsLoss B E)
theorem lossF_ok {B : Nat} {E : Nat → EncS} (h : ∃ x, IsLoss B E x) : IsLoss B E (lossF B E) := Classical.epsilon_spec h
theorem lossF_is {B : Nat} {E : Nat → EncS} {x : Nat} (h : IsLoss B E x) : lossF B E = x := IsLoss.same (lossF_ok ⟨x, h⟩) h

/-! ### A frame -/
/-- What a payload is made of: whole, brief, the quality, the budget, the lines, the ceilings ahead. -/
structure Frm where
  wh : Bool
  br : Bool
  Q : Int
  B : Nat
  x : Nat → Int
  ah : Nat → Int
structure Frm.Ok (F : Frm) : Prop where
  q : 1 ≤ F.Q ∧ F.Q ≤ 10
  b : 32 ≤ F.B ∧ F.B ≤ 600
  x : ∀ i, -33554432 ≤ F.x i ∧ F.x i ≤ 33554431
/-- Its ceilings. -/
def Frm.l (F : Frm) : Nat → Int := c21 (ceilF F.x)
/-- Its steps, by a loss. -/
def Frm.st (F : Frm) (lo : Nat) : Nat → Int := stepF F.l F.Q lo
/-- Its payload's encoder. -/
def Frm.E (F : Frm) (lo : Nat) : EncS := payE F.wh (b2 F.br) F.Q lo F.l F.ah F.x
/-- .. behind the ceilings. -/
def Frm.C (F : Frm) (lo : Nat) : EncS := ceilE F.wh (b2 F.br) F.Q lo F.l F.ah
/-- .. behind the head. -/
def Frm.H (F : Frm) (lo : Nat) : EncS := headE (b2 F.wh) (b2 F.br) F.Q lo
noncomputable def Frm.lo (F : Frm) : Nat := lossF F.B F.E
noncomputable def Frm.steps (F : Frm) : Nat → Int := F.st F.lo
noncomputable def Frm.bytes (F : Frm) : List Int := bytesE (F.E F.lo)
/-- What is heard of it, line by line. -/
noncomputable def Frm.out (F : Frm) (seed : Int) : Nat → Int := outF F.l F.steps (lineQ F.x F.l F.steps) seed
noncomputable def Frm.held (F : Frm) (seed : Int) : Nat → Int := heldF (F.out seed)
noncomputable def Frm.reach (F : Frm) : Int := reachTo F.l F.steps 21
variable {F : Frm}
theorem Frm.Ok.l (h : F.Ok) : CutOk F.l := c21_ok fun b _ => ceil_26 h.x b
theorem Frm.Ok.st (h : F.Ok) (lo : Nat) : CutOk (F.st lo) := h.l.step _ _
theorem Frm.Ok.ends (h : F.Ok) : (bytesE (F.E 31)).length ≤ F.B := isLoss_ends (fun b => (h.l.bd b).1) h.q.2 h.b.1
theorem Frm.Ok.loss (h : F.Ok) : IsLoss F.B F.E F.lo := lossF_ok (isLoss_ex h.ends)
theorem Frm.lo_is {x : Nat} (h : IsLoss F.B F.E x) : F.lo = x := lossF_is h
theorem Frm.Ok.good (h : F.Ok) (lo : Nat) : GoodE (F.E lo) ∧ (F.E lo).k ≤ 5212 := by
  obtain ⟨a, b, _⟩ := payE_good (wh := F.wh) (br := b2 F.br) (qu := F.Q) (lo := lo) (ah := F.ah) (x := F.x) (fun b => (h.l.bd b).1)
  exact ⟨a, b⟩
theorem Frm.goodC (F : Frm) (lo : Nat) : GoodE (F.C lo) ∧ (F.C lo).k ≤ 92 := ceilE_good _ _ _ _ _ _
theorem Frm.goodH (F : Frm) (lo : Nat) : GoodE (F.H lo) ∧ (F.H lo).k ≤ 8 := headE_good _ _ _ _
theorem Frm.Ok.bytes_le (h : F.Ok) : F.bytes.length ≤ F.B := h.loss.2.1
theorem byteF_bdE {D : List Int} (h : IsDig D) (j : Nat) : 0 ≤ byteF D j ∧ byteF D j ≤ 255 := by
  unfold byteF
  by_cases hj : j < D.length
  · exact h j hj
  · rw [List.getD_eq_getElem?_getD, List.getElem?_eq_none (by omega)]; decide
theorem Frm.bytes_bd (F : Frm) : ∀ j, 0 ≤ byteF F.bytes j ∧ byteF F.bytes j ≤ 255 := by
  intro j
  unfold Frm.bytes bytesE
  rw [bytesL_get]
  exact byteF_bdE (digL_dig _ _) j
theorem Frm.Ok.reach (h : F.Ok) : 0 ≤ F.reach ∧ F.reach ≤ 1443109011456 := by
  have := reachTo_bd (l := F.l) (s := F.steps) 21 (by decide) fun j _ => ⟨(h.l.bd j).2, ((h.st F.lo).bd j).2⟩
  unfold Frm.reach
  omega
theorem Frm.held_bd (F : Frm) (seed : Int) (i : Nat) : -33554432 ≤ F.held seed i ∧ F.held seed i ≤ 33554431 := heldF_bd _ _
end Go.Proofs.YtobhoecmmpijgaaGreat

/- What the small functions of package coder give. -/
namespace Go.Proofs.YtobhoecmmpijgaaGreat
open Go.RowKit
set_option linter.unusedVariables false
set_option linter.unusedSimpArgs false

theorem cBit_any (b : Bool) (w : World) : Calls Tryz.prog 138 #[.bool b] w fun e w' => e = .returned (.int .u32 (b2 b)) ∧ w = w' := by
  cases b
  all_goals
    go_enter Tryz.func138, Tryz.ntmps138
    go_wp2
    go_ret
    exact ⟨rfl, rfl⟩
theorem refBit_any (b : Bool) (w : World) : Calls Tryz.prog 27 #[.bool b] w fun e w' => e = .returned (.int .i64 (b2 b)) ∧ w = w' := by
  cases b
  all_goals
    go_enter Tryz.func27, Tryz.ntmps27
    go_wp2
    go_ret
    exact ⟨rfl, rfl⟩
theorem cWhole_any (br : Bool) (Q : Int) (la ca aa : Option Addr) (ll lc cl cc al ac : Nat) (w : World) (h : al ≤ 9223372036854775807) :
    Calls Tryz.prog 47 #[.agg #[.bool br, .int .i64 Q, .slice la ll lc, .slice ca cl cc, .slice aa al ac]] w fun e w' => e = .returned (.bool (decide (al = 0))) ∧ Below w.heap.size w w' := by
  have HB := Lib.hid (Below.alloc_new w (.cells #[.bool br, .int .i64 Q, .slice la ll lc, .slice ca cl cc, .slice aa al ac] 109))
  obtain ⟨q, hq⟩ : ∃ q, q = decide (al = 0) := ⟨_, rfl⟩
  have hq2 : ((al : Int) == 0) = q := by rw [hq]; by_cases h : al = 0 <;> simp [h]
  rw [← hq]
  clear hq
  go_enter Tryz.func47, Tryz.ntmps47
  go_wp2
  go_ret
  exact ⟨rfl, HB.out⟩
/-! ### Copies -/
theorem infoC_i16 : (Tryz.prog.info? 51).map (fun i => (i.zero, i.size, i.bytes)) = some (some (.int .i16 0), 1, 2) := by kernel_rfl
/-! ### Lines held -/
theorem infoC_i32 : (Tryz.prog.info? 21).map (fun i => (i.zero, i.size, i.bytes)) = some (some (.int .i32 0), 1, 4) := by kernel_rfl
def HeldPost (n : Nat) (f : Nat → Int) (w : World) (e : Ending) (w' : World) : Prop :=
  ∃ g, e = .returned (.slice (some ⟨g, 0, none⟩) n n) ∧ IFun w' g 21 .i32 n (heldF f) ∧ w.heap.size ≤ g ∧ Below w.heap.size w w'
theorem cHeld_any (x cap n : Nat) (f : Nat → Int) (w : World) (hf : IFun w x 21 .i32 n f) (hb : ∀ j, j < n → -2147483648 ≤ f j ∧ f j ≤ 2147483647) (hn : n ≤ 1000) :
    Calls Tryz.prog 80 #[.slice (some ⟨x, 0, none⟩) n cap] w (HeldPost n f w) := by
  have HF := Lib.hid hf
  have HFb := Lib.hid hb
  have hmk : ∀ w : World, (Instr.makeSlice 101 (.int .i64 (n : Int)) (.int .i64 (n : Int))).run Tryz.prog w = .ok (.slice (some ⟨w.heap.size, 0, none⟩) n n) (w.alloc (.cells (madeCells #[.int .i32 0] n) 21)) :=
    fun w => make_zeros (P := Tryz.prog) Tryz.underlying101 infoC_i32 n (by omega) (by omega) w
  have H0 : RowKit.Hid (IFun (w.alloc (.cells (madeCells #[.int .i32 0] n) 21)) w.heap.size 21 .i32 n (upTo (heldF f) (fun _ => 0) 0) ∧ Below w.heap.size w (w.alloc (.cells (madeCells #[.int .i32 0] n) 21))) :=
    ⟨IFun.ext (IFun.zeros w 21 .i32 n) fun j _ => (upTo_start (heldF f) (fun _ => 0) j).symm, Below.alloc_new w _⟩
  clear hf hb
  generalize madeCells #[Value.int .i32 0] n = mc at H0 hmk
  go_enter Tryz.func80, Tryz.ntmps80
  go_wp2
  clear hmk
  generalize hg : w.heap.size = g at H0 ⊢
  generalize (w.alloc (.cells mc 21)) = w1 at H0 ⊢
  go_loopw [11] (fun i wr => ∃ k : Nat, k ≤ n ∧ i = .int .i64 (k : Int) ∧ RowKit.Hid (IFun wr g 21 .i32 n (upTo (heldF f) (fun _ => 0) k) ∧ Below g w wr)) (fun i _ => n - (intOf i).toNat)
  case atStart => exact ⟨0, by omega, rfl, H0.out⟩
  case round =>
    obtain ⟨k, hk, rfl, HI⟩ := hrel
    clear H0
    by_cases hlt : k < n
    · have o1 := HI.out.1.cell (j := k) hlt
      rw [upTo_here] at o1
      have f1 := HI.out.1.frozen k
      have HS : RowKit.Hid (∀ v, v = heldF f k → IFun (wr.setCell ⟨g, k, none⟩ (.int .i32 v)) g 21 .i32 n (upTo (heldF f) (fun _ => 0) (k + 1)) ∧ Below g w (wr.setCell ⟨g, k, none⟩ (.int .i32 v))) := fun v hv => by
        rw [hv]; exact ⟨IFun.ext (HI.out.1.set (j := k) hlt (heldF f k)) fun j _ => upTo_next _ _ k j, Below.setCell (p := ⟨g, k, none⟩) HI.out.2 (Nat.le_refl _) _⟩
      have k1 := (HI.out.2.cell (p := ⟨x, k, none⟩) (by rw [← hg]; exact HF.out.lt)).trans (HF.out.cell hlt)
      have HM := Lib.hid (heldF_max f k)
      obtain ⟨y0, y1⟩ := HFb.out k hlt
      generalize f k = y at k1 y0 y1 HM
      have l1 : (k : Int) < (n : Int) := by omega
      clear HI
      go_wp2
      all_goals
        go_roundw
        case rel => exact ⟨k + 1, by omega, by go_num, HS.out _ (by rw [← HM.out]; omega)⟩
        case measure => simp [intOf] <;> omega
    · obtain rfl : k = n := by omega
      have Z : RowKit.Hid (IFun wr g 21 .i32 k (heldF f) ∧ Below g w wr) := ⟨IFun.ext HI.out.1 fun i hi => upTo_end _ _ k i hi, HI.out.2⟩
      go_wp2
      go_ret
      exact ⟨g, rfl, Z.out.1, by omega, by rw [hg]; exact Z.out.2⟩
end Go.Proofs.YtobhoecmmpijgaaGreat
