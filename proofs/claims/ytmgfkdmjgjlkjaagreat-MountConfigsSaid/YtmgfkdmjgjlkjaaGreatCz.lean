/- Plain facts, and what functions give, for the proofs of this seat: several texts in one, each with its own first remark. -/
import Derived.Test.YtmgfkdmjgjlkjaaGreatCy

namespace Go.Proofs.YtmgfkdmjgjlkjaaGreat
open Go Go.RowKit
set_option linter.unusedVariables false
set_option linter.unusedSimpArgs false
def HdSt (w : World) (base g : Nat) (v : Value) (h : Nat) (ph : Array Value) (E : EncS) (wr : World) : Prop := PutSt w base g v E wr ∧ Cel wr h 241 ph
theorem HdSt.bits {w wr : World} {base g h : Nat} {v : Value} {ph : Array Value} {E : EncS} (H : HdSt w base g v h ph E wr) (hG : GoodE E) (hk : E.k ≤ 1000) {n : Int} {wide : Nat} (n0 : 0 ≤ n) (h12 : wide ≤ 12) (hn : n < P2 wide) (o : Obj) :
    Calls Tryz.prog 159 #[.pointer (some ⟨g, 0, none⟩), .int .u32 n, .int .i64 wide] (wr.alloc o) fun e w' => e = .returned (.int .i64 0) ∧ HdSt w base g v h ph (encBits E n wide) w' := by
  obtain ⟨⟨v', h1, h2, h3⟩, hc⟩ := H
  have b := Below.alloc_new wr o
  have p := P2_12 h12
  refine (rncBits_any base g v' E n wide _ (h1.below b) hG n0 (by omega) (by omega) hn (by omega)).mono ?_
  rintro e w2 ⟨rfl, v2, k1, k2, k3⟩
  obtain ⟨n1, n2⟩ := EncAt.ne_cel h1 hc (by decide) (by decide)
  have s := b.size
  refine ⟨rfl, PutSt.step h1 h2 h3 k1 ((Keeps.of_below b).trans (k2.mono fun j hj => hj.elim .inl fun c => .inr (.inl c))) (fun j hj => (k3 j hj).elim .inl fun c => .inr (by omega)), ?_⟩
  exact (hc.below b).keeps k2 fun c => c.elim n1 n2
def hdE (wh br Q lo : Int) : Nat → EncS
  | 0 => encNew
  | 1 => encBits encNew wh 1
  | 2 => encBits (encBits encNew wh 1) br 1
  | 3 => encBits (encBits (encBits encNew wh 1) br 1) Q 4
  | _ + 4 => headE wh br Q lo
set_option maxRecDepth 100000 in
theorem cHead_any (base g : Nat) (v : Value) (wh br : Bool) (Q lo : Int) (la ca aa : Option Addr) (ll lc cl cc al ac : Nat) (w : World) (hE : EncAt w base g v encNew) (hw : wh = decide (al = 0)) (hal : al ≤ 9223372036854775807) (q0 : 0 ≤ Q) (q1 : Q ≤ 15) (lo0 : 0 ≤ lo) (lo1 : lo ≤ 31) :
    Calls Tryz.prog 131 #[.agg #[.bool br, .int .i64 Q, .slice la ll lc, .slice ca cl cc, .slice aa al ac], .pointer (some ⟨g, 0, none⟩), .int .i64 lo] w (PutPost base g v (headE (b2 wh) (b2 br) Q lo) (.int .i64 0) w) := by
  have HE := Lib.hid hE
  have HW : RowKit.Hid (decide (al = 0) = wh) := hw.symm
  have HB0 := Lib.hid (Below.alloc_new w (.cells #[.bool br, .int .i64 Q, .slice la ll lc, .slice ca cl cc, .slice aa al ac] 120))
  clear hE hw
  go_enter Tryz.func131, Tryz.ntmps131
  go_wp2
  have u1 : IntKind.u32.wrap Q = Q := IntWalk.u32_in _ (by omega)
  have u2 : IntKind.u32.wrap lo = lo := IntWalk.u32_in _ (by omega)
  have HC0 := Lib.hid (Cel.new w 120 #[.bool br, .int .i64 Q, .slice la ll lc, .slice ca cl cc, .slice aa al ac])
  generalize (w.alloc (.cells #[.bool br, .int .i64 Q, .slice la ll lc, .slice ca cl cc, .slice aa al ac] 120)) = w0 at HB0 HC0 ⊢
  obtain ⟨f, hf⟩ : ∃ f, f = w.heap.size := ⟨_, rfl⟩
  have HF : RowKit.Hid (f = w.heap.size) := hf
  rw [← hf] at HC0 ⊢
  clear hf
  have c0 : w0.cell? ⟨f, 0, none⟩ = some (.bool br) := HC0.out.cell 0
  have c1 : w0.cell? ⟨f, 1, none⟩ = some (.int .i64 Q) := HC0.out.cell 1
  have c2 : w0.cell? ⟨f, 2, none⟩ = some (.slice la ll lc) := HC0.out.cell 2
  have c3 : w0.cell? ⟨f, 3, none⟩ = some (.slice ca cl cc) := HC0.out.cell 3
  have c4 : w0.cell? ⟨f, 4, none⟩ = some (.slice aa al ac) := HC0.out.cell 4
  go_region_held3 (fun w' => w'.cell? ⟨f, 0, none⟩ = some (.bool br) ∧ w'.cell? ⟨f, 1, none⟩ = some (.int .i64 Q) ∧ w'.cell? ⟨f, 2, none⟩ = some (.slice la ll lc) ∧ w'.cell? ⟨f, 3, none⟩ = some (.slice ca cl cc) ∧ w'.cell? ⟨f, 4, none⟩ = some (.slice aa al ac)) (go_keep) (first | (go_at_call 64; go_loud (refine (cWhole_any br Q la ca aa ll lc cl cc al ac _ hal).mono ?_); rintro e w1 ⟨rfl, b1⟩; have HC1 := Lib.hid (Cel.below (w := w0.drew) HC0.out b1); have HB1 := Lib.hid b1; clear b1; have m0 : w1.cell? ⟨f, 0, none⟩ = some (.bool br) := HC1.out.cell 0; have m1 : w1.cell? ⟨f, 1, none⟩ = some (.int .i64 Q) := HC1.out.cell 1; have m2 : w1.cell? ⟨f, 2, none⟩ = some (.slice la ll lc) := HC1.out.cell 2; have m3 : w1.cell? ⟨f, 3, none⟩ = some (.slice ca cl cc) := HC1.out.cell 3; have m4 : w1.cell? ⟨f, 4, none⟩ = some (.slice aa al ac) := HC1.out.cell 4; rw [HW.out]) | (go_at_call 158; go_loud (refine (cBit_any _ _).mono ?_); rintro e w2 ⟨rfl, rfl⟩) | fail)
  go_wp2
  clear m0 m1 m2 m3 m4 c0 c1 c2 c3 c4 HC0
  obtain ⟨ph, hph⟩ : ∃ ph : Array Value, ph = #[.int .u32 (b2 wh), .int .i64 1, .int .u32 (b2 br), .int .i64 1, .int .u32 Q, .int .i64 4, .int .u32 lo, .int .i64 5] := ⟨_, rfl⟩
  rw [← hph]
  have HB2 : RowKit.Hid (Below w.heap.size w (w1.alloc (.cells ph 241))) := chain (chain (chain HB0.out (Below.drewN' (Below.refl _ w0) 1)) HB1.out) (Below.alloc_new w1 _)
  have HS : RowKit.Hid (HdSt w base g v w1.heap.size ph encNew (w1.alloc (.cells ph 241))) := ⟨(PutSt.start HE.out).below HB2.out, Cel.new _ _ _⟩
  generalize (w1.alloc (.cells ph 241)) = w2 at HS HB2 ⊢
  generalize w1.heap.size = h at HS ⊢
  have HPH := Lib.hid hph
  clear HB1 HC1 HB0 HF hph
  obtain ⟨z1, _, _⟩ := bits_good12 (n := b2 wh) (wide := 1) goodE_new (by decide)
  obtain ⟨z2, _, y2⟩ := bits_good12 (n := b2 br) (wide := 1) z1 (by decide)
  obtain ⟨z3, _, y3⟩ := bits_good12 (n := Q) (wide := 4) z2 (by decide)
  have hn0 : encNew.k = 0 := rfl
  have Z1 := Lib.hid z1
  have Z2 := Lib.hid z2
  have Z3 := Lib.hid z3
  have HZ : RowKit.Hid ((encBits encNew (b2 wh) 1).k ≤ 1000 ∧ (encBits (encBits encNew (b2 wh) 1) (b2 br) 1).k ≤ 1000 ∧ (encBits (encBits (encBits encNew (b2 wh) 1) (b2 br) 1) Q 4).k ≤ 1000) := by
    have := encBits_k encNew (b2 wh) (wide := 1) (by decide)
    exact ⟨by omega, by omega, by omega⟩
  have Hwh := Lib.hid (b2_bd wh)
  have Hbr := Lib.hid (b2_bd br)
  clear z1 z2 z3 y2 y3 hn0
  go_loopw [6, 27] (fun _ i wr => ∃ k : Nat, k ≤ 4 ∧ i = .int .i64 (k : Int) ∧ RowKit.Hid (HdSt w base g v h ph (hdE (b2 wh) (b2 br) Q lo k) wr)) (fun _ i _ => 4 - (intOf i).toNat)
  case atStart => exact ⟨0, by omega, rfl, HS.out⟩
  case round =>
    obtain ⟨k, hk, rfl, H⟩ := hrel
    clear HS
    have HCC := Lib.hid H.out.2
    rw [HPH.out] at HCC
    by_cases e0 : k = 4
    · subst e0
      go_wp2
      go_ret
      exact ⟨rfl, H.out.1⟩
    · have e4 : k = 0 ∨ k = 1 ∨ k = 2 ∨ k = 3 := by omega
      clear e0
      rcases e4 with rfl | rfl | rfl | rfl
      · have c0 : wr.cell? ⟨h, 0, none⟩ = some (.int .u32 (b2 wh)) := HCC.out.cell 0
        have c1 : wr.cell? ⟨h, 1, none⟩ = some (.int .i64 1) := HCC.out.cell 1
        go_wp2_with (go_at_call 159; go_loud (refine (HdSt.bits (wide := 1) H.out goodE_new (Nat.zero_le 1000) Hwh.out.1 (by decide) (by rw [show P2 1 = 2 by decide]; have := Hwh.out.2; omega) _).mono ?_); rintro e w3 ⟨rfl, h3⟩; have H3 := Lib.hid h3; clear h3)
        go_roundw
        case rel => exact ⟨1, by decide, by go_num, H3.out⟩
        case measure => simp [intOf] <;> omega
      · have c0 : wr.cell? ⟨h, 2, none⟩ = some (.int .u32 (b2 br)) := HCC.out.cell 2
        have c1 : wr.cell? ⟨h, 3, none⟩ = some (.int .i64 1) := HCC.out.cell 3
        go_wp2_with (go_at_call 159; go_loud (refine (HdSt.bits (wide := 1) H.out Z1.out HZ.out.1 Hbr.out.1 (by decide) (by rw [show P2 1 = 2 by decide]; have := Hbr.out.2; omega) _).mono ?_); rintro e w3 ⟨rfl, h3⟩; have H3 := Lib.hid h3; clear h3)
        go_roundw
        case rel => exact ⟨2, by decide, by go_num, H3.out⟩
        case measure => simp [intOf] <;> omega
      · have c0 : wr.cell? ⟨h, 4, none⟩ = some (.int .u32 (Q)) := HCC.out.cell 4
        have c1 : wr.cell? ⟨h, 5, none⟩ = some (.int .i64 4) := HCC.out.cell 5
        go_wp2_with (go_at_call 159; go_loud (refine (HdSt.bits (wide := 4) H.out Z2.out HZ.out.2.1 q0 (by decide) (by rw [show P2 4 = 16 by decide]; omega) _).mono ?_); rintro e w3 ⟨rfl, h3⟩; have H3 := Lib.hid h3; clear h3)
        go_roundw
        case rel => exact ⟨3, by decide, by go_num, H3.out⟩
        case measure => simp [intOf] <;> omega
      · have c0 : wr.cell? ⟨h, 6, none⟩ = some (.int .u32 (lo)) := HCC.out.cell 6
        have c1 : wr.cell? ⟨h, 7, none⟩ = some (.int .i64 5) := HCC.out.cell 7
        go_wp2_with (go_at_call 159; go_loud (refine (HdSt.bits (wide := 5) H.out Z3.out HZ.out.2.2 lo0 (by decide) (by rw [show P2 5 = 32 by decide]; omega) _).mono ?_); rintro e w3 ⟨rfl, h3⟩; have H3 := Lib.hid h3; clear h3)
        go_roundw
        case rel => exact ⟨4, by decide, by go_num, H3.out⟩
        case measure => simp [intOf] <;> omega
end Go.Proofs.YtmgfkdmjgjlkjaaGreat

namespace Go.Proofs.YtmgfkdmjgjlkjaaGreat
open Go Go.RowKit
set_option linter.unusedVariables false
set_option linter.unusedSimpArgs false
structure FrAt (F : Frm) (w : World) (lb c : Nat) (o : Option Nat) : Prop where
  ok : F.Ok
  x : IFun w lb 21 .i32 512 F.x
  l : CutAt w c F.l
  a : AhAt w F.wh o F.ah
theorem FrAt.below {F : Frm} {w w' : World} {lb c : Nat} {o : Option Nat} (h : FrAt F w lb c o) (hb : Below w.heap.size w w') : FrAt F w' lb c o := ⟨h.ok, h.x.below hb h.x.lt, h.l.below hb h.l.lt, h.a.below hb⟩
theorem ahN_le (o : Option Nat) : ahN o ≤ 21 := by cases o with
  | none => exact Nat.zero_le _
  | some r => exact Nat.le_refl _
def PayPost (F : Frm) (lo : Nat) (w : World) (e : Ending) (w' : World) : Prop :=
  ∃ r cp, e = .returned (.tuple #[.slice (some ⟨r, 0, none⟩) (bytesE (F.E lo)).length cp, .int .i64 0]) ∧ IntsAt w' w'.heap.size .u8 (some ⟨r, 0, none⟩) (bytesE (F.E lo)).length (bytesE (F.E lo)) ∧ Below w.heap.size w w'
def frC (F : Frm) (lb c : Nat) (o : Option Nat) : Array Value := #[.bool F.br, .int .i64 F.Q, .slice (some ⟨lb, 0, none⟩) 512 512, .slice (some ⟨c, 0, none⟩) 21 21, .slice (ahA o) (ahN o) (ahN o)]
theorem frC_at {F : Frm} {lb c g : Nat} {o : Option Nat} {w : World} (h : Cel w g 120 (frC F lb c o)) : w.cell? ⟨g, 0, none⟩ = some (.bool F.br) ∧ w.cell? ⟨g, 1, none⟩ = some (.int .i64 F.Q) ∧ w.cell? ⟨g, 2, none⟩ = some (.slice (some ⟨lb, 0, none⟩) 512 512) ∧ w.cell? ⟨g, 3, none⟩ = some (.slice (some ⟨c, 0, none⟩) 21 21) ∧ w.cell? ⟨g, 4, none⟩ = some (.slice (ahA o) (ahN o) (ahN o)) :=
  ⟨h.cell 0, h.cell 1, h.cell 2, h.cell 3, h.cell 4⟩
structure PaySt (F : Frm) (lb c : Nat) (o : Option Nat) (w : World) (base g : Nat) (E : EncS) (v : Value) (wr : World) : Prop where
  e : EncAt wr base g v E
  b : Below w.heap.size w wr
  s : w.heap.size < base
  f : Cel wr w.heap.size 120 (frC F lb c o)
theorem PaySt.next {F : Frm} {lb c : Nat} {o : Option Nat} {w wr w' : World} {base g : Nat} {E E' : EncS} {v v' : Value} (h : PaySt F lb c o w base g E v wr) (k1 : EncAt w' base g v' E') (k2 : Keeps (fun j => j = g ∨ v.ownBlock = some j) wr w') : PaySt F lb c o w base g E' v' w' := by
  have hb : ∀ j, (j = g ∨ v.ownBlock = some j) → base ≤ j := fun j hj => hj.elim (fun e => by rw [e]; exact h.e.lt.2) fun e => (h.e.own j e).2.1
  exact ⟨k1, h.b.trans (k2.below h.b.size fun j hj => Nat.le_trans (Nat.le_of_lt h.s) (hb j hj)), h.s, h.f.keeps k2 fun c => by have := hb _ c; have := h.s; omega⟩
set_option maxRecDepth 100000 in
theorem cPay_any (F : Frm) (lb c s : Nat) (o : Option Nat) (lo : Nat) (w : World) (h : FrAt F w lb c o) (hlo : lo ≤ 31) (hs : CutAt w s (F.st lo)) :
    Calls Tryz.prog 98 #[.agg #[.bool F.br, .int .i64 F.Q, .slice (some ⟨lb, 0, none⟩) 512 512, .slice (some ⟨c, 0, none⟩) 21 21, .slice (ahA o) (ahN o) (ahN o)], .int .i64 (lo : Int), .slice (some ⟨s, 0, none⟩) 21 21] w (PayPost F lo w) := by
  have HF := Lib.hid h
  have HS := Lib.hid hs
  have HL := Lib.hid (ahN_le o)
  obtain ⟨q0, q1⟩ := h.ok.q
  have HW := Lib.hid h.a.len
  clear h hs
  go_enter Tryz.func98, Tryz.ntmps98
  have HB0 := Lib.hid (Below.alloc_new w (.cells #[.bool F.br, .int .i64 F.Q, .slice (some ⟨lb, 0, none⟩) 512 512, .slice (some ⟨c, 0, none⟩) 21 21, .slice (ahA o) (ahN o) (ahN o)] 120))
  have HC0 : RowKit.Hid (Cel (w.alloc (.cells #[.bool F.br, .int .i64 F.Q, .slice (some ⟨lb, 0, none⟩) 512 512, .slice (some ⟨c, 0, none⟩) 21 21, .slice (ahA o) (ahN o) (ahN o)] 120)) w.heap.size 120 (frC F lb c o)) := Cel.new w _ _
  go_wp2_with (first
    | (go_at_call 130; go_loud (refine (rncNew_any _).mono ?_); rintro e w1 ⟨rfl, h1, b1⟩; rw [alloc_sizeB] at h1; have H1 : RowKit.Hid (PaySt F lb c o w (w.heap.size + 1) (w.heap.size + 1) encNew (.slice none 0 0) w1) := ⟨h1, chain HB0.out b1, Nat.lt_succ_self _, HC0.out.below b1⟩; clear h1 b1; obtain ⟨d10, d11, d12, d13, d14⟩ := frC_at H1.out.f)
    | (go_at_call 131; go_loud (refine (cHead_any (w.heap.size + 1) (w.heap.size + 1) _ F.wh F.br F.Q lo _ _ (ahA o) 512 512 21 21 (ahN o) (ahN o) w1 H1.out.e HW.out.symm (by have := HL.out; omega) (by omega) (by omega) (by omega) (by omega)).mono ?_); rintro e w2 ⟨rfl, v2, k2, l2, _⟩; have H2 := Lib.hid (PaySt.next H1.out k2 l2); clear k2 l2; obtain ⟨d20, d21, d22, d23, d24⟩ := frC_at H2.out.f)
    | (go_at_call 132; go_loud (refine (fPut_any (w.heap.size + 1) (w.heap.size + 1) v2 (F.H lo) F.wh c 21 (ahN o) o F.l F.ah w2 H2.out.e (F.goodH lo).1 (by have := (F.goodH lo).2; omega) (HF.out.l.below H2.out.b HF.out.l.lt) HF.out.ok.l (HF.out.a.below H2.out.b)).mono ?_); rintro e w3 ⟨rfl, v3, k3, l3, _⟩; have H3 := Lib.hid (PaySt.next H2.out k3 l3); clear k3 l3; obtain ⟨d30, d31, d32, d33, d34⟩ := frC_at H3.out.f)
    | (go_at_call 133; go_loud (refine (fQPut_any (w.heap.size + 1) (w.heap.size + 1) v3 (F.C lo) lb c s 21 21 F.x F.l F.Q lo w3 H3.out.e (F.goodC lo).1 (by have := (F.goodC lo).2; omega) (HF.out.x.below H3.out.b HF.out.x.lt) HF.out.ok.x (HF.out.l.below H3.out.b HF.out.l.lt) HF.out.ok.l (HS.out.below H3.out.b HS.out.lt)).mono ?_); rintro e w4 ⟨rfl, v4, k4, l4, _⟩; have H4 := Lib.hid (PaySt.next H3.out k4 l4); clear k4 l4; obtain ⟨d40, d41, d42, d43, d44⟩ := frC_at H4.out.f)
    | (go_at_call 134; go_loud (refine (rncBytes_some (w.heap.size + 1) (w.heap.size + 1) v4 (F.E lo).n (F.E lo).k _ w4 H4.out.e (by have := (HF.out.ok.good lo).2; omega)).mono ?_); rintro e w5 ⟨r5, c5, rfl, i5, b5⟩; have HI5 := Lib.hid i5; have HB5 := Lib.hid (chain H4.out.b b5); clear i5 b5))
  go_ret2
  exact ⟨r5, c5, rfl, HI5.out, HB5.out⟩
end Go.Proofs.YtmgfkdmjgjlkjaaGreat

namespace Go.Proofs.YtmgfkdmjgjlkjaaGreat
open Go Go.RowKit
set_option linter.unusedVariables false
set_option linter.unusedSimpArgs false
def FitPost (F : Frm) (w : World) (e : Ending) (w' : World) : Prop :=
  ∃ r cp s, e = .returned (.tuple #[.slice (some ⟨r, 0, none⟩) F.bytes.length cp, .slice (some ⟨s, 0, none⟩) 21 21, .int .i64 0]) ∧ IntsAt w' w'.heap.size .u8 (some ⟨r, 0, none⟩) F.bytes.length F.bytes ∧ CutAt w' s F.steps ∧ Below w.heap.size w w'
structure FitSt (F : Frm) (lb c : Nat) (o : Option Nat) (w : World) (k : Nat) (wr : World) : Prop where
  b : Below w.heap.size w wr
  f : Cel wr w.heap.size 120 (frC F lb c o)
  n : ∀ j, j < k → F.B < (bytesE (F.E j)).length
theorem FitSt.now {F : Frm} {lb c : Nat} {o : Option Nat} {w wr w' : World} {k : Nat} (h : FitSt F lb c o w k wr) (hb : Below wr.heap.size wr w') : FitSt F lb c o w k w' := ⟨chain h.b hb, h.f.below hb, h.n⟩
set_option maxRecDepth 100000 in
theorem cFit_any (F : Frm) (lb c : Nat) (o : Option Nat) (B : Int) (w : World) (h : FrAt F w lb c o) (hB : B = (F.B : Int)) :
    Calls Tryz.prog 62 #[.agg #[.bool F.br, .int .i64 F.Q, .slice (some ⟨lb, 0, none⟩) 512 512, .slice (some ⟨c, 0, none⟩) 21 21, .slice (ahA o) (ahN o) (ahN o)], .int .i64 B] w (FitPost F w) := by
  have HF := Lib.hid h
  have HQ := Lib.hid h.ok.q
  have HBB : RowKit.Hid (B = (F.B : Int)) := hB
  have hb6 : B ≤ 600 ∧ 0 ≤ B := by have := h.ok.b; omega
  clear h hB
  go_enter Tryz.func62, Tryz.ntmps62
  have H0 : RowKit.Hid (FitSt F lb c o w 0 (w.alloc (.cells #[.bool F.br, .int .i64 F.Q, .slice (some ⟨lb, 0, none⟩) 512 512, .slice (some ⟨c, 0, none⟩) 21 21, .slice (ahA o) (ahN o) (ahN o)] 120))) := ⟨Below.alloc_new w _, Cel.new w _ _, fun j hj => by omega⟩
  go_wp2
  generalize (w.alloc (.cells #[.bool F.br, .int .i64 F.Q, .slice (some ⟨lb, 0, none⟩) 512 512, .slice (some ⟨c, 0, none⟩) 21 21, .slice (ahA o) (ahN o) (ahN o)] 120)) = w0 at H0 ⊢
  go_loopw [4, 5, 6, 11] (fun _ _ _ i wr => ∃ k : Nat, k ≤ 32 ∧ i = .int .i64 (k : Int) ∧ RowKit.Hid (FitSt F lb c o w k wr)) (fun _ _ _ i _ => 32 - (intOf i).toNat)
  case atStart => exact ⟨0, by omega, rfl, H0.out⟩
  case round =>
    obtain ⟨k, hk, rfl, H⟩ := hrel
    clear H0
    by_cases hlt : k < 32
    · obtain ⟨d0, d1, d2, d3, d4⟩ := frC_at H.out.f
      have lk : (k : Int) < 32 := by omega
      obtain ⟨n, hn⟩ : ∃ n, n = (bytesE (F.E k)).length := ⟨_, rfl⟩
      have HN : RowKit.Hid ((bytesE (F.E k)).length = n) := hn.symm
      by_cases hle : n ≤ F.B
      · have HI : RowKit.Hid (F.lo = k) := Frm.lo_is ⟨hlt, by rw [← hn]; exact hle, H.out.n⟩
        have lB : (n : Int) ≤ B := by rw [HBB.out]; omega
        clear hn hle
        go_wp2_with (first
          | (go_at_call 97; go_loud (refine (fSteps_any c 21 F.l F.Q k _ (HF.out.l.below H.out.b HF.out.l.lt) HF.out.ok.l HQ.out.1 HQ.out.2 (by omega) (by omega)).mono ?_); rintro e w1 ⟨s, rfl, i1, s1, b1⟩; have HS1 : RowKit.Hid (CutAt w1 s (F.st k)) := i1; have H1 := Lib.hid (H.out.now b1); clear i1 s1 b1; obtain ⟨e0, e1, e2, e3, e4⟩ := frC_at H1.out.f)
          | (go_at_call 98; go_loud (refine (cPay_any F lb c s o k _ (HF.out.below H1.out.b) (by omega) HS1.out).mono ?_); rintro e w2 ⟨r, cp, rfl, i2, b2⟩; have HI2 := Lib.hid i2; have H2 := Lib.hid (H1.out.now b2); have HS2 := Lib.hid (HS1.out.below b2 HS1.out.lt); clear i2 b2; rw [HN.out] at HI2 ⊢; obtain ⟨f0, f1, f2, f3, f4⟩ := frC_at H2.out.f))
        go_ret3
        have e : F.bytes = bytesE (F.E k) := by unfold Frm.bytes; rw [HI.out]
        refine ⟨r, cp, s, by rw [e, HN.out]; rfl, ?_, ?_, H2.out.b⟩
        · rw [e, HN.out]; exact HI2.out
        · unfold Frm.steps; rw [HI.out]; exact HS2.out
      · have HX : RowKit.Hid (∀ j, j < k + 1 → F.B < (bytesE (F.E j)).length) := fun j hj => by
          by_cases e : j = k
          · subst e; omega
          · exact H.out.n j (by omega)
        have lB : ¬ (n : Int) ≤ B := by rw [HBB.out]; omega
        clear hn hle
        go_wp2_with (first
          | (go_at_call 97; go_loud (refine (fSteps_any c 21 F.l F.Q k _ (HF.out.l.below H.out.b HF.out.l.lt) HF.out.ok.l HQ.out.1 HQ.out.2 (by omega) (by omega)).mono ?_); rintro e w1 ⟨s, rfl, i1, s1, b1⟩; have HS1 : RowKit.Hid (CutAt w1 s (F.st k)) := i1; have H1 := Lib.hid (H.out.now b1); clear i1 s1 b1; obtain ⟨e0, e1, e2, e3, e4⟩ := frC_at H1.out.f)
          | (go_at_call 98; go_loud (refine (cPay_any F lb c s o k _ (HF.out.below H1.out.b) (by omega) HS1.out).mono ?_); rintro e w2 ⟨r, cp, rfl, i2, b2⟩; have H2 := Lib.hid (H1.out.now b2); clear i2 b2; rw [HN.out]; obtain ⟨f0, f1, f2, f3, f4⟩ := frC_at H2.out.f))
        go_roundw
        case rel => exact ⟨k + 1, by omega, by go_num, ⟨H2.out.b, H2.out.f, HX.out⟩⟩
        case measure => simp [intOf] <;> omega
    · obtain rfl : k = 32 := by omega
      obtain ⟨l1, l2, l3⟩ := HF.out.ok.loss
      have := H.out.n _ l1
      omega
end Go.Proofs.YtmgfkdmjgjlkjaaGreat

namespace Go.Proofs.YtmgfkdmjgjlkjaaGreat
open Go.RowKit
set_option linter.unusedVariables false
section
variable {zs : List Int} {len : Nat}
end
theorem OvAt.keeps {t t' : TypeId} {k : IntKind} {w w' : World} {s b c p q : Nat} {f : Nat → Int} {cs : Array Value} (h : OvAt t k w s c p q f) (hb : Cel w b t' cs) (hne : s ≠ b) (h1 : t' ≠ 234) (h2 : t' ≠ 232) (hk : Keeps (· = b) w w') : OvAt t k w' s c p q f :=
  ⟨h.1.keep (hk.block _ h.1.lt hne), h.2.keeps hb h1 h2 hk⟩
end Go.Proofs.YtmgfkdmjgjlkjaaGreat

namespace Go.Proofs.YtmgfkdmjgjlkjaaGreat
open Go Go.RowKit
set_option linter.unusedVariables false
set_option linter.unusedSimpArgs false
theorem outF_bdC {c s n : Nat → Int} (seed : Int) (hc : ∀ b, b < 21 → c b ≤ 26) (hs : ∀ b, b < 21 → 0 ≤ s b) (hn : ∀ i, i < 512 → toldT c s i = true → -(P2 (c (ofN i) - s (ofN i)).toNat) ≤ n i ∧ n i ≤ P2 (c (ofN i) - s (ofN i)).toNat) {i : Nat} (hi : i < 512) : -2147483648 ≤ outF c s n seed i ∧ outF c s n seed i ≤ 2147483647 := by
  have hb := of_lt hi
  unfold outF
  split
  · rename_i ht
    have h1 := hn i hi ht
    unfold toldT at ht
    have h2 := scaled_bd (q := n i) (hs _ hb) (of_decide_eq_true ht) (hc _ hb) h1.1 h1.2
    omega
  · have := noiseP_bd (n := c (ofN i)) seed i
    omega
theorem outL_bdC {c s x : Nat → Int} (seed : Int) (hc : ∀ b, b < 21 → c b ≤ 26) (hs : ∀ b, b < 21 → 0 ≤ s b) {i : Nat} (hi : i < 512) : -2147483648 ≤ outF c s (lineQ x c s) seed i ∧ outF c s (lineQ x c s) seed i ≤ 2147483647 := by
  refine outF_bdC seed hc hs (fun i hi ht => ?_) hi
  unfold lineQ
  rw [if_pos hi]
  have h2 := numQ_bd (x i) (s (ofN i)) (c (ofN i))
  omega
theorem Frm.Ok.out {F : Frm} (h : F.Ok) (seed : Int) {i : Nat} (hi : i < 512) : -2147483648 ≤ F.out seed i ∧ F.out seed i ≤ 2147483647 :=
  outL_bdC seed (fun b _ => (h.l.bd b).2) (fun b _ => ((h.st F.lo).bd b).1) hi
def codC (Q B : Int) (a s : Nat) (P : Int) (cv hv : Value) (R : Int) : Array Value := #[.int .i64 Q, .int .i64 B, .pointer (some ⟨a, 0, none⟩), .pointer (some ⟨s, 0, none⟩), .int .i64 P, cv, hv, .int .i64 R]
theorem codC_at {w : World} {g a s : Nat} {Q B P R : Int} {cv hv : Value} (h : Cel w g 115 (codC Q B a s P cv hv R)) :
    w.cell? ⟨g, 0, none⟩ = some (.int .i64 Q) ∧ w.cell? ⟨g, 1, none⟩ = some (.int .i64 B) ∧ w.cell? ⟨g, 2, none⟩ = some (.pointer (some ⟨a, 0, none⟩)) ∧ w.cell? ⟨g, 3, none⟩ = some (.pointer (some ⟨s, 0, none⟩)) ∧ w.cell? ⟨g, 4, none⟩ = some (.int .i64 P) ∧ w.cell? ⟨g, 5, none⟩ = some cv ∧ w.cell? ⟨g, 6, none⟩ = some hv ∧ w.cell? ⟨g, 7, none⟩ = some (.int .i64 R) :=
  ⟨h.cell 0, h.cell 1, h.cell 2, h.cell 3, h.cell 4, h.cell 5, h.cell 6, h.cell 7⟩
def HearPost (F : Frm) (n : Int) (g a s cs ps qs : Nat) (Q B P : Int) (cv : Value) (left : Nat → Int) (w : World) (e : Ending) (w' : World) : Prop :=
  ∃ hd, e = .returned (.int .i64 0) ∧ Cel w' g 115 (codC Q B a s P cv (.slice (some ⟨hd, 0, none⟩) 512 512) F.reach) ∧ IFun w' hd 77 .i16 512 (samplesF F.br (F.held n) left) ∧ OvAt 175 .i32 w' s cs ps qs (leftF F.br (F.held n)) ∧ w.heap.size ≤ hd ∧ Keeps (fun j => j = g ∨ j = s) w w'
set_option maxRecDepth 100000 in
theorem cHear_any (F : Frm) (lb c so : Nat) (o : Option Nat) (g a s cs ps qs : Nat) (Q B P R n : Int) (cv hv : Value) (left : Nat → Int) (w : World) (h : FrAt F w lb c o) (hs : CutAt w so F.steps) (hE : Cel w g 115 (codC Q B a s P cv hv R))
    (hS : OvAt 175 .i32 w s cs ps qs left) (hl : ∀ j, j < 128 → (left j).natAbs ≤ 1073741000) (n0 : 0 ≤ n) (n1 : n ≤ 4294967295) :
    Calls Tryz.prog 63 #[.pointer (some ⟨g, 0, none⟩), .agg #[.bool F.br, .int .i64 F.Q, .slice (some ⟨lb, 0, none⟩) 512 512, .slice (some ⟨c, 0, none⟩) 21 21, .slice (ahA o) (ahN o) (ahN o)], .slice (some ⟨so, 0, none⟩) 21 21, .int .u32 n] w (HearPost F n g a s cs ps qs Q B P cv left w) := by
  have HF := Lib.hid h
  have HSo := Lib.hid hs
  have HE := Lib.hid hE
  have HS := Lib.hid hS
  have HL := Lib.hid hl
  have hgs := Lib.hid (hE.ne hS.1 (by decide))
  clear h hs hE hS hl
  go_enter Tryz.func63, Tryz.ntmps63
  have HB0 := Lib.hid (Below.alloc_new w (.cells #[.bool F.br, .int .i64 F.Q, .slice (some ⟨lb, 0, none⟩) 512 512, .slice (some ⟨c, 0, none⟩) 21 21, .slice (ahA o) (ahN o) (ahN o)] 120))
  have HC0 : RowKit.Hid (Cel (w.alloc (.cells #[.bool F.br, .int .i64 F.Q, .slice (some ⟨lb, 0, none⟩) 512 512, .slice (some ⟨c, 0, none⟩) 21 21, .slice (ahA o) (ahN o) (ahN o)] 120)) w.heap.size 120 (frC F lb c o)) := Cel.new w _ _
  go_wp2_with (go_at_call 99; go_loud (refine (fHeard_any lb c so 21 21 F.x F.l F.Q F.lo n _ (HF.out.x.below HB0.out HF.out.x.lt) HF.out.ok.x (HF.out.l.below HB0.out HF.out.l.lt) HF.out.ok.l (HSo.out.below HB0.out HSo.out.lt) n0 n1).mono ?_); rintro e w1 ⟨r1, rfl, i1, s1, b1⟩; have HI1 : RowKit.Hid (IFun w1 r1 21 .i32 512 (F.out n)) := i1; have HC1 := Lib.hid (HC0.out.below b1); have HB1 := Lib.hid (chain HB0.out b1); clear i1 s1 b1; obtain ⟨d0, d1, d2, d3, d4⟩ := frC_at HC1.out; obtain ⟨e0, e1, e2, e3, e4, e5, e6, e7⟩ := codC_at (HE.out.below HB1.out))
  go_region_held3 (fun w' => w'.cell? ⟨w.heap.size, 0, none⟩ = some (.bool F.br) ∧ w'.cell? ⟨g, 3, none⟩ = some (.pointer (some ⟨s, 0, none⟩))) (go_keep) (first
    | (go_at_call 101; go_loud (refine (cHeld_any r1 512 512 (F.out n) w1.drew HI1.out (fun j hj => HF.out.ok.out n hj) (by decide)).mono ?_); rintro e w2 ⟨r2, rfl, i2, s2, b2⟩; have HI2 : RowKit.Hid (IFun w2 r2 21 .i32 512 (F.held n)) := i2; have HC2 : RowKit.Hid (Cel w2 w.heap.size 120 (frC F lb c o)) := Cel.below (w := w1.drew) HC1.out b2; have HB2 : RowKit.Hid (Below w.heap.size w w2) := chain (Below.drewN' HB1.out 1) b2; clear i2 s2 b2; obtain ⟨f0, f1, f2, f3, f4⟩ := frC_at HC2.out; obtain ⟨h0, h1, h2, h3, h4, h5, h6, h7⟩ := codC_at (HE.out.below HB2.out))
    | (go_at_call 100; go_loud (refine (synSamples_any s cs ps qs r2 left (F.held n) F.br w2 (HS.out.below HB2.out) HI2.out (fun j _ => F.held_bd n j) HL.out).mono ?_); rintro e w3 ⟨r3, rfl, i3, s3, o3, k3⟩; have HI3 : RowKit.Hid (IFun w3 r3 77 .i16 512 (samplesF F.br (F.held n) left)) := i3; have HS3 : RowKit.Hid (w.heap.size ≤ r3) := Nat.le_trans HB2.out.size s3; have HO3 : RowKit.Hid (OvAt 175 .i32 w3 s cs ps qs (leftF F.br (F.held n))) := o3; have HK3 : RowKit.Hid (Keeps (· = s) w w3) := (Keeps.of_below HB2.out).trans k3; have HC3 : RowKit.Hid (Cel w3 w.heap.size 120 (frC F lb c o)) := HC2.out.keeps k3 (fun e => by have := HS.out.1.lt; omega); have HE3 : RowKit.Hid (Cel w3 g 115 (codC Q B a s P cv hv R)) := HE.out.keeps HK3.out hgs.out; have HX3 : RowKit.Hid (CutAt w3 c F.l ∧ CutAt w3 so F.steps) := (by obtain ⟨x1, y1⟩ := HF.out.l.cel; obtain ⟨x2, y2⟩ := HSo.out.cel; exact ⟨Cel.keeps HF.out.l HK3.out (y1.ne HS.out.1 (by decide)), Cel.keeps HSo.out HK3.out (y2.ne HS.out.1 (by decide))⟩); clear i3 s3 o3 k3; obtain ⟨f0, f1, f2, f3, f4⟩ := frC_at HC3.out; obtain ⟨h0, h1, h2, h3, h4, h5, h6, h7⟩ := codC_at HE3.out)
    | fail)
  go_wp2_with (go_at_call 102; go_loud (refine (fReach_any c so 21 21 F.l F.steps _ HX3.out.1 HF.out.ok.l HX3.out.2 (HF.out.ok.st F.lo)).mono ?_); rintro e w4 ⟨rfl, b4⟩; have HB4 := Lib.hid b4; have HE4 := Lib.hid (HE3.out.below b4); clear b4; have z6 := HE4.out.frozen 6; have z7 := HE4.out.frozen 7; obtain ⟨_, _, _, _, _, _, y6, y7⟩ := codC_at HE4.out)
  go_ret
  have E : Cel ((w4.setCell ⟨g, 6, none⟩ (.slice (some ⟨r3, 0, none⟩) 512 512)).setCell ⟨g, 7, none⟩ (.int .i64 F.reach)) g 115 (codC Q B a s P cv (.slice (some ⟨r3, 0, none⟩) 512 512) F.reach) := (HE4.out.set_ 6 _).set_ 7 _
  have K : Keeps (· = g) w4 ((w4.setCell ⟨g, 6, none⟩ (.slice (some ⟨r3, 0, none⟩) 512 512)).setCell ⟨g, 7, none⟩ (.int .i64 F.reach)) := (Keeps.set1 _).trans (Keeps.set1 _)
  refine ⟨r3, rfl, E, ?_, ?_, HS3.out, ?_⟩
  · exact Cel.keeps (HI3.out.below HB4.out HI3.out.lt) K (by obtain ⟨x1, y1⟩ := (HI3.out.below HB4.out HI3.out.lt).cel; exact y1.ne HE4.out (by decide))
  · exact (HO3.out.below HB4.out).keeps HE4.out (fun e => hgs.out e.symm) (by decide) (by decide) K
  · exact ((HK3.out.mono fun j hj => .inr hj).trans (Keeps.of_below HB4.out)).trans (K.mono fun j hj => .inl hj)
end Go.Proofs.YtmgfkdmjgjlkjaaGreat

namespace Go.Proofs.YtmgfkdmjgjlkjaaGreat
open Go Go.RowKit
set_option linter.unusedVariables false
set_option linter.unusedSimpArgs false
noncomputable def mkFrm (r fs b : Bool) (Q : Int) (B : Nat) (al f ah : Nat → Int) : Frm := ⟨r || fs, b, Q, B, linesF b (allF al f), if r || fs then fun _ => 0 else ah⟩
theorem mkFrm_ok {r fs b : Bool} {Q : Int} {B : Nat} {al f ah : Nat → Int} (hq : 1 ≤ Q ∧ Q ≤ 10) (hB : 32 ≤ B ∧ B ≤ 600) : (mkFrm r fs b Q B al f ah).Ok := ⟨hq, hB, fun i => linesF_bd _ _ i⟩
theorem AhAt.turn {w : World} {fs : Bool} {o : Option Nat} {ah : Nat → Int} (h : AhAt w fs o ah) (r : Bool) : AhAt w (r || fs) (if r then none else o) (if r || fs then fun _ => 0 else ah) := by
  cases r with
  | true => exact .inl ⟨rfl, rfl, rfl⟩
  | false =>
    rcases h with ⟨rfl, rfl, rfl⟩ | ⟨rfl, h2, r, rfl, h4⟩
    · exact .inl ⟨rfl, rfl, rfl⟩
    · exact .inr ⟨rfl, h2, r, rfl, h4⟩
def MadePost (r fs b : Bool) (Q : Int) (B : Nat) (a ca pa qa : Nat) (al f ah : Nat → Int) (w : World) (e : Ending) (w' : World) : Prop :=
  ∃ lb c o, e = .returned (.tuple #[.agg #[.bool b, .int .i64 Q, .slice (some ⟨lb, 0, none⟩) 512 512, .slice (some ⟨c, 0, none⟩) 21 21, .slice (ahA o) (ahN o) (ahN o)], .int .i64 0]) ∧ FrAt (mkFrm r fs b Q B al f ah) w' lb c o ∧ OvAt 172 .i16 w' a ca pa qa (fun j => f (384 + j)) ∧ Keeps (· = a) w w'
theorem infoC_frame : (Tryz.prog.info? 120).map (·.size) = some 5 := by kernel_rfl
theorem made_end {r fs b : Bool} {Q : Int} {B a ca pa qa r1 r2 : Nat} {o : Option Nat} {al f ah : Nat → Int} {w w2 W : World} {zc : Array Value} {v : Value} (hA : OvAt 172 .i16 w a ca pa qa al) (hh : AhAt w fs o ah)
    (hx : IFun w2 r1 21 .i32 512 (linesF b (allF al f))) (hl : CutAt w2 r2 (mkFrm r fs b Q B al f ah).l) (ho : OvAt 172 .i16 w2 a ca pa qa (fun j => f (384 + j))) (hk : Keeps (· = a) w w2) (hc : Cel w2 w.heap.size 120 zc)
    (hok : (mkFrm r fs b Q B al f ah).Ok) (hv : v = .tuple #[.agg #[.bool b, .int .i64 Q, .slice (some ⟨r1, 0, none⟩) 512 512, .slice (some ⟨r2, 0, none⟩) 21 21, .slice (ahA (if r then none else o)) (ahN (if r then none else o)) (ahN (if r then none else o))], .int .i64 0])
    (K : Keeps (· = w.heap.size) w2 W) : MadePost r fs b Q B a ca pa qa al f ah w (.returned v) W := by
  have KK : Keeps (· = a) w W := hk.then_ K fun j hj => .inr (by omega)
  refine ⟨r1, r2, if r then none else o, by rw [hv], ⟨hok, ?_, ?_, ?_⟩, ?_, KK⟩
  · obtain ⟨cs, y⟩ := hx.cel
    exact Cel.keeps hx K (y.ne hc (by decide))
  · obtain ⟨cs, y⟩ := hl.cel
    exact Cel.keeps hl K (y.ne hc (by decide))
  · refine (hh.turn r).keeps KK fun q hq => ?_
    obtain ⟨cs, y⟩ := IFun.cel hq
    exact y.ne hA.1 (by decide)
  · exact ho.keeps hc (fun e => by have := hA.1.lt; omega) (by decide) (by decide) K
set_option maxHeartbeats 2000000 in
set_option maxRecDepth 100000 in
theorem cFrame_any (r fs b : Bool) (Q : Int) (B : Nat) (g a s x ca pa qa : Nat) (P R BB : Int) (o : Option Nat) (hv : Value) (al f ah : Nat → Int) (w : World) (hq : 1 ≤ Q ∧ Q ≤ 10) (hB : 32 ≤ B ∧ B ≤ 600) (hE : Cel w g 115 (codC Q BB a s P (.slice (ahA o) (ahN o) (ahN o)) hv R))
    (hA : OvAt 172 .i16 w a ca pa qa al) (hah : AhAt w fs o ah) (hf : IFun w x 77 .i16 512 f) (h0 : ∀ j, j < 128 → -32768 ≤ al j ∧ al j ≤ 32767) (h1 : ∀ j, j < 512 → -32768 ≤ f j ∧ f j ≤ 32767) :
    Calls Tryz.prog 60 #[.pointer (some ⟨g, 0, none⟩), .slice (some ⟨x, 0, none⟩) 512 512, .bool b, .bool r] w (MadePost r fs b Q B a ca pa qa al f ah w) := by
  cases r
  all_goals
    have HE := Lib.hid hE
    have HA := Lib.hid hA
    have HH := Lib.hid hah
    have HF := Lib.hid hf
    have H0 := Lib.hid h0
    have H1 := Lib.hid h1
    have HO : RowKit.Hid (∀ r', (mkFrm r' fs b Q B al f ah).Ok) := fun _ => mkFrm_ok hq hB
    have hga := Lib.hid (hE.ne hA.1 (by decide))
    have d2 : w.cell? ⟨g, 2, none⟩ = some (.pointer (some ⟨a, 0, none⟩)) := hE.cell 2
    have gl := hE.lt
    clear hE hA hah hf h0 h1
    obtain ⟨zc, hz⟩ : ∃ zc : Array Value, zc = #[.bool false, .int .i64 0, .slice none 0 0, .slice none 0 0, .slice none 0 0] := ⟨_, rfl⟩
    have HZ : RowKit.Hid (zc = #[.bool false, .int .i64 0, .slice none 0 0, .slice none 0 0, .slice none 0 0]) := hz
    have HB0 := Lib.hid (Below.alloc_new w (.cells #[.bool false, .int .i64 0, .slice none 0 0, .slice none 0 0, .slice none 0 0] 120))
    have HC0 : RowKit.Hid (Cel (w.alloc (.cells #[.bool false, .int .i64 0, .slice none 0 0, .slice none 0 0, .slice none 0 0] 120)) w.heap.size 120 zc) := by rw [hz]; exact Cel.new w _ _
    clear hz
    go_enter Tryz.func60, Tryz.ntmps60
    go_wp2_with (first
      | (go_at_call 95; go_loud (refine (anaLines_any a ca pa qa x al f b _ (HA.out.below HB0.out) (HF.out.below HB0.out HF.out.lt) H0.out H1.out).mono ?_); rintro e w1 ⟨r1, rfl, i1, s1, o1, k1⟩; have HI1 := Lib.hid i1; have HS1 : RowKit.Hid (w.heap.size ≤ r1) := Nat.le_trans HB0.out.size s1; have HO1 := Lib.hid o1; have HK1 : RowKit.Hid (Keeps (· = a) w w1) := (Keeps.of_below HB0.out).trans k1; have HC1 : RowKit.Hid (Cel w1 w.heap.size 120 zc) := HC0.out.keeps k1 (fun e => by have := HA.out.1.lt; omega); clear i1 s1 o1 k1; clear d2)
      | (go_at_call 96; go_loud (refine (fCeil_any r1 512 (linesF b (allF al f)) _ HI1.out (fun i => linesF_bd _ _ i) (by decide) (by decide)).mono ?_); rintro e w2 ⟨r2, rfl, i2, s2, b2⟩; have HI2 : RowKit.Hid (∀ r', CutAt w2 r2 (mkFrm r' fs b Q B al f ah).l) := fun _ => ceil_cut i2; have HI1b := Lib.hid (HI1.out.below b2 HI1.out.lt); have HO2 := Lib.hid (HO1.out.below b2); have HK2 : RowKit.Hid (Keeps (· = a) w w2) := HK1.out.trans (Keeps.of_below b2); have HC2 := Lib.hid (HC1.out.below b2); clear i2 s2 b2; have f0 : w2.cell? ⟨g, 0, none⟩ = some (.int .i64 Q) := (HE.out.keeps HK2.out hga.out).cell 0; have f5 : w2.cell? ⟨g, 5, none⟩ = some (.slice (ahA o) (ahN o) (ahN o)) := (HE.out.keeps HK2.out hga.out).cell 5; have gl2 : g < w2.heap.size := Nat.lt_of_lt_of_le gl HK2.out.size; have HCz : RowKit.Hid (Cel w2 w.heap.size 120 #[.bool false, .int .i64 0, .slice none 0 0, .slice none 0 0, .slice none 0 0]) := (by rw [← HZ.out]; exact HC2.out); have cl2 := HCz.out.lt; have p0 : w2.cell? ⟨w.heap.size, 0, none⟩ = some (.bool false) := HCz.out.cell 0; have p1 : w2.cell? ⟨w.heap.size, 1, none⟩ = some (.int .i64 0) := HCz.out.cell 1; have p2 : w2.cell? ⟨w.heap.size, 2, none⟩ = some (.slice none 0 0) := HCz.out.cell 2; have p3 : w2.cell? ⟨w.heap.size, 3, none⟩ = some (.slice none 0 0) := HCz.out.cell 3; have p4 : w2.cell? ⟨w.heap.size, 4, none⟩ = some (.slice none 0 0) := HCz.out.cell 4; have z0 := HCz.out.frozen 0; have z1 := HCz.out.frozen 1; have z2 := HCz.out.frozen 2; have z3 := HCz.out.frozen 3; have z4 := HCz.out.frozen 4))
    refine bodyPost_ret (results_cell2 rfl rfl rfl (run_loadVar_row _ w.heap.size _ _ _ (0, 0) _ ((((((HCz.out.set_ 0 _).set_ 1 _).set_ 2 _).set_ 3 _).set_ 4 _).alloc _) Tryz.underlying120 rfl infoC_frame)) rfl ?_
    exact made_end HA.out HH.out HI1b.out (HI2.out _) HO2.out HK2.out HCz.out (HO.out _) rfl ((((((Keeps.set1 _).trans (Keeps.set1 _)).trans (Keeps.set1 _)).trans (Keeps.set1 _)).trans (Keeps.set1 _)).alloc _)
end Go.Proofs.YtmgfkdmjgjlkjaaGreat
