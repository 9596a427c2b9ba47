/- Plain facts, and what functions give, for the proofs of this seat: several texts in one, each with its own first remark. -/
import Derived.Test.YtmgfkdmjgjlkjaaGreatAD

namespace Go.Proofs.YtmgfkdmjgjlkjaaGreat
open Go Go.RowKit
set_option linter.unusedVariables false
set_option linter.unusedSimpArgs false
def HdSt (w : World) (base g : Nat) (v : Value) (h : Nat) (ph : Array Value) (E : EncS) (wr : World) : Prop := PutSt w base g v E wr ∧ Cel wr h 241 ph
theorem HdSt.bits {w wr : World} {base g h : Nat} {v : Value} {ph : Array Value} {E : EncS} (H : HdSt w base g v h ph E wr) (hG : GoodE E) (hk : E.k ≤ 1000) {n : Int} {wide : Nat} (n0 : 0 ≤ n) (h12 : wide ≤ 12) (hn : n < P2 wide) (o : Obj) :
    Calls Tryz.prog 159 #[.pointer (some ⟨g, 0, none⟩), .int .u32 n, .int .i64 wide] (wr.alloc o) fun e w' => e = .returned (.int .i64 0) ∧ HdSt w base g v h ph (encBits E n wide) w' := by
  obtain ⟨⟨v', h1, h2, h3⟩, hc⟩ := H
  have b := Below.alloc_new wr o
  have p := P2_12 h12
  refine (rncBits_any base g v' E n wide _ (h1.below b) hG n0 (by omega) (by omega) hn (by omega)).mono ?_
  rintro e w2 ⟨rfl, v2, k1, k2, k3⟩
  obtain ⟨n1, n2⟩ := EncAt.ne_cel h1 hc (by decide) (by decide)
  have s := b.size
  refine ⟨rfl, PutSt.step h1 h2 h3 k1 ((Keeps.of_below b).trans (k2.mono fun j hj => hj.elim .inl fun c => .inr (.inl c))) (fun j hj => (k3 j hj).elim .inl fun c => .inr (by omega)), ?_⟩
  exact (hc.below b).keeps k2 fun c => c.elim n1 n2
def hdE (wh br Q lo : Int) : Nat → EncS
  | 0 => encNew
  | 1 => encBits encNew wh 1
  | 2 => encBits (encBits encNew wh 1) br 1
  | 3 => encBits (encBits (encBits encNew wh 1) br 1) Q 4
  | _ + 4 => headE wh br Q lo
set_option maxRecDepth 100000 in
theorem cHead_any (base g : Nat) (v : Value) (wh br : Bool) (Q lo : Int) (la ca aa : Option Addr) (ll lc cl cc al ac : Nat) (w : World) (hE : EncAt w base g v encNew) (hw : wh = decide (al = 0)) (hal : al ≤ 9223372036854775807) (q0 : 0 ≤ Q) (q1 : Q ≤ 15) (lo0 : 0 ≤ lo) (lo1 : lo ≤ 31) :
    Calls Tryz.prog 131 #[.agg #[.bool br, .int .i64 Q, .slice la ll lc, .slice ca cl cc, .slice aa al ac], .pointer (some ⟨g, 0, none⟩), .int .i64 lo] w (PutPost base g v (headE (b2 wh) (b2 br) Q lo) (.int .i64 0) w) := by
  have HE := Lib.hid hE
  have HW : RowKit.Hid (decide (al = 0) = wh) := hw.symm
  have HB0 := Lib.hid (Below.alloc_new w (.cells #[.bool br, .int .i64 Q, .slice la ll lc, .slice ca cl cc, .slice aa al ac] 120))
  clear hE hw
  go_enter Tryz.func131, Tryz.ntmps131
  go_wp2
  have u1 : IntKind.u32.wrap Q = Q := IntWalk.u32_in _ (by omega)
  have u2 : IntKind.u32.wrap lo = lo := IntWalk.u32_in _ (by omega)
  have HC0 := Lib.hid (Cel.new w 120 #[.bool br, .int .i64 Q, .slice la ll lc, .slice ca cl cc, .slice aa al ac])
  generalize (w.alloc (.cells #[.bool br, .int .i64 Q, .slice la ll lc, .slice ca cl cc, .slice aa al ac] 120)) = w0 at HB0 HC0 ⊢
  obtain ⟨f, hf⟩ : ∃ f, f = w.heap.size := ⟨_, rfl⟩
  have HF : RowKit.Hid (f = w.heap.size) := hf
  rw [← hf] at HC0 ⊢
  clear hf
  have c0 : w0.cell? ⟨f, 0, none⟩ = some (.bool br) := HC0.out.cell 0
  have c1 : w0.cell? ⟨f, 1, none⟩ = some (.int .i64 Q) := HC0.out.cell 1
  have c2 : w0.cell? ⟨f, 2, none⟩ = some (.slice la ll lc) := HC0.out.cell 2
  have c3 : w0.cell? ⟨f, 3, none⟩ = some (.slice ca cl cc) := HC0.out.cell 3
  have c4 : w0.cell? ⟨f, 4, none⟩ = some (.slice aa al ac) := HC0.out.cell 4
  go_region_held3 (fun w' => w'.cell? ⟨f, 0, none⟩ = some (.bool br) ∧ w'.cell? ⟨f, 1, none⟩ = some (.int .i64 Q) ∧ w'.cell? ⟨f, 2, none⟩ = some (.slice la ll lc) ∧ w'.cell? ⟨f, 3, none⟩ = some (.slice ca cl cc) ∧ w'.cell? ⟨f, 4, none⟩ = some (.slice aa al ac)) (go_keep) (first | (go_at_call 64; go_loud (refine (cWhole_any br Q la ca aa ll lc cl cc al ac _ hal).mono ?_); rintro e w1 ⟨rfl, b1⟩; have HC1 := Lib.hid (Cel.below (w := w0.drew) HC0.out b1); have HB1 := Lib.hid b1; clear b1; have m0 : w1.cell? ⟨f, 0, none⟩ = some (.bool br) := HC1.out.cell 0; have m1 : w1.cell? ⟨f, 1, none⟩ = some (.int .i64 Q) := HC1.out.cell 1; have m2 : w1.cell? ⟨f, 2, none⟩ = some (.slice la ll lc) := HC1.out.cell 2; have m3 : w1.cell? ⟨f, 3, none⟩ = some (.slice ca cl cc) := HC1.out.cell 3; have m4 : w1.cell? ⟨f, 4, none⟩ = some (.slice aa al ac) := HC1.out.cell 4; rw [HW.out]) | (go_at_call 158; go_loud (refine (cBit_any _ _).mono ?_); rintro e w2 ⟨rfl, rfl⟩) | fail)
  go_wp2
  clear m0 m1 m2 m3 m4 c0 c1 c2 c3 c4 HC0
  obtain ⟨ph, hph⟩ : ∃ ph : Array Value, ph = #[.int .u32 (b2 wh), .int .i64 1, .int .u32 (b2 br), .int .i64 1, .int .u32 Q, .int .i64 4, .int .u32 lo, .int .i64 5] := ⟨_, rfl⟩
  rw [← hph]
  have HB2 : RowKit.Hid (Below w.heap.size w (w1.alloc (.cells ph 241))) := chain (chain (chain HB0.out (Below.drewN' (Below.refl _ w0) 1)) HB1.out) (Below.alloc_new w1 _)
  have HS : RowKit.Hid (HdSt w base g v w1.heap.size ph encNew (w1.alloc (.cells ph 241))) := ⟨(PutSt.start HE.out).below HB2.out, Cel.new _ _ _⟩
  generalize (w1.alloc (.cells ph 241)) = w2 at HS HB2 ⊢
  generalize w1.heap.size = h at HS ⊢
  have HPH := Lib.hid hph
  clear HB1 HC1 HB0 HF hph
  obtain ⟨z1, _, _⟩ := bits_good12 (n := b2 wh) (wide := 1) goodE_new (by decide)
  obtain ⟨z2, _, y2⟩ := bits_good12 (n := b2 br) (wide := 1) z1 (by decide)
  obtain ⟨z3, _, y3⟩ := bits_good12 (n := Q) (wide := 4) z2 (by decide)
  have hn0 : encNew.k = 0 := rfl
  have Z1 := Lib.hid z1
  have Z2 := Lib.hid z2
  have Z3 := Lib.hid z3
  have HZ : RowKit.Hid ((encBits encNew (b2 wh) 1).k ≤ 1000 ∧ (encBits (encBits encNew (b2 wh) 1) (b2 br) 1).k ≤ 1000 ∧ (encBits (encBits (encBits encNew (b2 wh) 1) (b2 br) 1) Q 4).k ≤ 1000) := by
    have := encBits_k encNew (b2 wh) (wide := 1) (by decide)
    exact ⟨by omega, by omega, by omega⟩
  have Hwh := Lib.hid (b2_bd wh)
  have Hbr := Lib.hid (b2_bd br)
  clear z1 z2 z3 y2 y3 hn0
  go_loopw [6, 27] (fun _ i wr => ∃ k : Nat, k ≤ 4 ∧ i = .int .i64 (k : Int) ∧ RowKit.Hid (HdSt w base g v h ph (hdE (b2 wh) (b2 br) Q lo k) wr)) (fun _ i _ => 4 - (intOf i).toNat)
  case atStart => exact ⟨0, by omega, rfl, HS.out⟩
  case round =>
    obtain ⟨k, hk, rfl, H⟩ := hrel
    clear HS
    have HCC := Lib.hid H.out.2
    rw [HPH.out] at HCC
    by_cases e0 : k = 4
    · subst e0
      go_wp2
      go_ret
      exact ⟨rfl, H.out.1⟩
    · have e4 : k = 0 ∨ k = 1 ∨ k = 2 ∨ k = 3 := by omega
      clear e0
      rcases e4 with rfl | rfl | rfl | rfl
      · have c0 : wr.cell? ⟨h, 0, none⟩ = some (.int .u32 (b2 wh)) := HCC.out.cell 0
        have c1 : wr.cell? ⟨h, 1, none⟩ = some (.int .i64 1) := HCC.out.cell 1
        go_wp2_with (go_at_call 159; go_loud (refine (HdSt.bits (wide := 1) H.out goodE_new (Nat.zero_le 1000) Hwh.out.1 (by decide) (by rw [show P2 1 = 2 by decide]; have := Hwh.out.2; omega) _).mono ?_); rintro e w3 ⟨rfl, h3⟩; have H3 := Lib.hid h3; clear h3)
        go_roundw
        case rel => exact ⟨1, by decide, by go_num, H3.out⟩
        case measure => simp [intOf] <;> omega
      · have c0 : wr.cell? ⟨h, 2, none⟩ = some (.int .u32 (b2 br)) := HCC.out.cell 2
        have c1 : wr.cell? ⟨h, 3, none⟩ = some (.int .i64 1) := HCC.out.cell 3
        go_wp2_with (go_at_call 159; go_loud (refine (HdSt.bits (wide := 1) H.out Z1.out HZ.out.1 Hbr.out.1 (by decide) (by rw [show P2 1 = 2 by decide]; have := Hbr.out.2; omega) _).mono ?_); rintro e w3 ⟨rfl, h3⟩; have H3 := Lib.hid h3; clear h3)
        go_roundw
        case rel => exact ⟨2, by decide, by go_num, H3.out⟩
        case measure => simp [intOf] <;> omega
      · have c0 : wr.cell? ⟨h, 4, none⟩ = some (.int .u32 (Q)) := HCC.out.cell 4
        have c1 : wr.cell? ⟨h, 5, none⟩ = some (.int .i64 4) := HCC.out.cell 5
        go_wp2_with (go_at_call 159; go_loud (refine (HdSt.bits (wide := 4) H.out Z2.out HZ.out.2.1 q0 (by decide) (by rw [show P2 4 = 16 by decide]; omega) _).mono ?_); rintro e w3 ⟨rfl, h3⟩; have H3 := Lib.hid h3; clear h3)
        go_roundw
        case rel => exact ⟨3, by decide, by go_num, H3.out⟩
        case measure => simp [intOf] <;> omega
      · have c0 : wr.cell? ⟨h, 6, none⟩ = some (.int .u32 (lo)) := HCC.out.cell 6
        have c1 : wr.cell? ⟨h, 7, none⟩ = some (.int .i64 5) := HCC.out.cell 7
        go_wp2_with (go_at_call 159; go_loud (refine (HdSt.bits (wide := 5) H.out Z3.out HZ.out.2.2 lo0 (by decide) (by rw [show P2 5 = 32 by decide]; omega) _).mono ?_); rintro e w3 ⟨rfl, h3⟩; have H3 := Lib.hid h3; clear h3)
        go_roundw
        case rel => exact ⟨4, by decide, by go_num, H3.out⟩
        case measure => simp [intOf] <;> omega
end Go.Proofs.YtmgfkdmjgjlkjaaGreat

namespace Go.Proofs.YtmgfkdmjgjlkjaaGreat
open Go Go.RowKit
set_option linter.unusedVariables false
set_option linter.unusedSimpArgs false
structure FrAt (F : Frm) (w : World) (lb c : Nat) (o : Option Nat) : Prop where
  ok : F.Ok
  x : IFun w lb 21 .i32 512 F.x
  l : CutAt w c F.l
  a : AhAt w F.wh o F.ah
theorem FrAt.below {F : Frm} {w w' : World} {lb c : Nat} {o : Option Nat} (h : FrAt F w lb c o) (hb : Below w.heap.size w w') : FrAt F w' lb c o := ⟨h.ok, h.x.below hb h.x.lt, h.l.below hb h.l.lt, h.a.below hb⟩
theorem ahN_le (o : Option Nat) : ahN o ≤ 21 := by cases o with
  | none => exact Nat.zero_le _
  | some r => exact Nat.le_refl _
def PayPost (F : Frm) (lo : Nat) (w : World) (e : Ending) (w' : World) : Prop :=
  ∃ r cp, e = .returned (.tuple #[.slice (some ⟨r, 0, none⟩) (bytesE (F.E lo)).length cp, .int .i64 0]) ∧ IntsAt w' w'.heap.size .u8 (some ⟨r, 0, none⟩) (bytesE (F.E lo)).length (bytesE (F.E lo)) ∧ Below w.heap.size w w'
def frC (F : Frm) (lb c : Nat) (o : Option Nat) : Array Value := #[.bool F.br, .int .i64 F.Q, .slice (some ⟨lb, 0, none⟩) 512 512, .slice (some ⟨c, 0, none⟩) 21 21, .slice (ahA o) (ahN o) (ahN o)]
theorem frC_at {F : Frm} {lb c g : Nat} {o : Option Nat} {w : World} (h : Cel w g 120 (frC F lb c o)) : w.cell? ⟨g, 0, none⟩ = some (.bool F.br) ∧ w.cell? ⟨g, 1, none⟩ = some (.int .i64 F.Q) ∧ w.cell? ⟨g, 2, none⟩ = some (.slice (some ⟨lb, 0, none⟩) 512 512) ∧ w.cell? ⟨g, 3, none⟩ = some (.slice (some ⟨c, 0, none⟩) 21 21) ∧ w.cell? ⟨g, 4, none⟩ = some (.slice (ahA o) (ahN o) (ahN o)) :=
  ⟨h.cell 0, h.cell 1, h.cell 2, h.cell 3, h.cell 4⟩
structure PaySt (F : Frm) (lb c : Nat) (o : Option Nat) (w : World) (base g : Nat) (E : EncS) (v : Value) (wr : World) : Prop where
  e : EncAt wr base g v E
  b : Below w.heap.size w wr
  s : w.heap.size < base
  f : Cel wr w.heap.size 120 (frC F lb c o)
theorem PaySt.next {F : Frm} {lb c : Nat} {o : Option Nat} {w wr w' : World} {base g : Nat} {E E' : EncS} {v v' : Value} (h : PaySt F lb c o w base g E v wr) (k1 : EncAt w' base g v' E') (k2 : Keeps (fun j => j = g ∨ v.ownBlock = some j) wr w') : PaySt F lb c o w base g E' v' w' := by
  have hb : ∀ j, (j = g ∨ v.ownBlock = some j) → base ≤ j := fun j hj => hj.elim (fun e => by rw [e]; exact h.e.lt.2) fun e => (h.e.own j e).2.1
  exact ⟨k1, h.b.trans (k2.below h.b.size fun j hj => Nat.le_trans (Nat.le_of_lt h.s) (hb j hj)), h.s, h.f.keeps k2 fun c => by have := hb _ c; have := h.s; omega⟩
set_option maxRecDepth 100000 in
theorem cPay_any (F : Frm) (lb c s : Nat) (o : Option Nat) (lo : Nat) (w : World) (h : FrAt F w lb c o) (hlo : lo ≤ 31) (hs : CutAt w s (F.st lo)) :
    Calls Tryz.prog 98 #[.agg #[.bool F.br, .int .i64 F.Q, .slice (some ⟨lb, 0, none⟩) 512 512, .slice (some ⟨c, 0, none⟩) 21 21, .slice (ahA o) (ahN o) (ahN o)], .int .i64 (lo : Int), .slice (some ⟨s, 0, none⟩) 21 21] w (PayPost F lo w) := by
  have HF := Lib.hid h
  have HS := Lib.hid hs
  have HL := Lib.hid (ahN_le o)
  obtain ⟨q0, q1⟩ := h.ok.q
  have HW := Lib.hid h.a.len
  clear h hs
  go_enter Tryz.func98, Tryz.ntmps98
  have HB0 := Lib.hid (Below.alloc_new w (.cells #[.bool F.br, .int .i64 F.Q, .slice (some ⟨lb, 0, none⟩) 512 512, .slice (some ⟨c, 0, none⟩) 21 21, .slice (ahA o) (ahN o) (ahN o)] 120))
  have HC0 : RowKit.Hid (Cel (w.alloc (.cells #[.bool F.br, .int .i64 F.Q, .slice (some ⟨lb, 0, none⟩) 512 512, .slice (some ⟨c, 0, none⟩) 21 21, .slice (ahA o) (ahN o) (ahN o)] 120)) w.heap.size 120 (frC F lb c o)) := Cel.new w _ _
  go_wp2_with (first
    | (go_at_call 130; go_loud (refine (rncNew_any _).mono ?_); rintro e w1 ⟨rfl, h1, b1⟩; rw [alloc_sizeB] at h1; have H1 : RowKit.Hid (PaySt F lb c o w (w.heap.size + 1) (w.heap.size + 1) encNew (.slice none 0 0) w1) := ⟨h1, chain HB0.out b1, Nat.lt_succ_self _, HC0.out.below b1⟩; clear h1 b1; obtain ⟨d10, d11, d12, d13, d14⟩ := frC_at H1.out.f)
    | (go_at_call 131; go_loud (refine (cHead_any (w.heap.size + 1) (w.heap.size + 1) _ F.wh F.br F.Q lo _ _ (ahA o) 512 512 21 21 (ahN o) (ahN o) w1 H1.out.e HW.out.symm (by have := HL.out; omega) (by omega) (by omega) (by omega) (by omega)).mono ?_); rintro e w2 ⟨rfl, v2, k2, l2, _⟩; have H2 := Lib.hid (PaySt.next H1.out k2 l2); clear k2 l2; obtain ⟨d20, d21, d22, d23, d24⟩ := frC_at H2.out.f)
    | (go_at_call 132; go_loud (refine (fPut_any (w.heap.size + 1) (w.heap.size + 1) v2 (F.H lo) F.wh c 21 (ahN o) o F.l F.ah w2 H2.out.e (F.goodH lo).1 (by have := (F.goodH lo).2; omega) (HF.out.l.below H2.out.b HF.out.l.lt) HF.out.ok.l (HF.out.a.below H2.out.b)).mono ?_); rintro e w3 ⟨rfl, v3, k3, l3, _⟩; have H3 := Lib.hid (PaySt.next H2.out k3 l3); clear k3 l3; obtain ⟨d30, d31, d32, d33, d34⟩ := frC_at H3.out.f)
    | (go_at_call 133; go_loud (refine (fQPut_any (w.heap.size + 1) (w.heap.size + 1) v3 (F.C lo) lb c s 21 21 F.x F.l F.Q lo w3 H3.out.e (F.goodC lo).1 (by have := (F.goodC lo).2; omega) (HF.out.x.below H3.out.b HF.out.x.lt) HF.out.ok.x (HF.out.l.below H3.out.b HF.out.l.lt) HF.out.ok.l (HS.out.below H3.out.b HS.out.lt)).mono ?_); rintro e w4 ⟨rfl, v4, k4, l4, _⟩; have H4 := Lib.hid (PaySt.next H3.out k4 l4); clear k4 l4; obtain ⟨d40, d41, d42, d43, d44⟩ := frC_at H4.out.f)
    | (go_at_call 134; go_loud (refine (rncBytes_some (w.heap.size + 1) (w.heap.size + 1) v4 (F.E lo).n (F.E lo).k _ w4 H4.out.e (by have := (HF.out.ok.good lo).2; omega)).mono ?_); rintro e w5 ⟨r5, c5, rfl, i5, b5⟩; have HI5 := Lib.hid i5; have HB5 := Lib.hid (chain H4.out.b b5); clear i5 b5))
  go_ret2
  exact ⟨r5, c5, rfl, HI5.out, HB5.out⟩
end Go.Proofs.YtmgfkdmjgjlkjaaGreat

namespace Go.Proofs.YtmgfkdmjgjlkjaaGreat
open Go Go.RowKit
set_option linter.unusedVariables false
set_option linter.unusedSimpArgs false
def FitPost (F : Frm) (w : World) (e : Ending) (w' : World) : Prop :=
  ∃ r cp s, e = .returned (.tuple #[.slice (some ⟨r, 0, none⟩) F.bytes.length cp, .slice (some ⟨s, 0, none⟩) 21 21, .int .i64 0]) ∧ IntsAt w' w'.heap.size .u8 (some ⟨r, 0, none⟩) F.bytes.length F.bytes ∧ CutAt w' s F.steps ∧ Below w.heap.size w w'
structure FitSt (F : Frm) (lb c : Nat) (o : Option Nat) (w : World) (k : Nat) (wr : World) : Prop where
  b : Below w.heap.size w wr
  f : Cel wr w.heap.size 120 (frC F lb c o)
  n : ∀ j, j < k → F.B < (bytesE (F.E j)).length
theorem FitSt.now {F : Frm} {lb c : Nat} {o : Option Nat} {w wr w' : World} {k : Nat} (h : FitSt F lb c o w k wr) (hb : Below wr.heap.size wr w') : FitSt F lb c o w k w' := ⟨chain h.b hb, h.f.below hb, h.n⟩
set_option maxRecDepth 100000 in
theorem cFit_any (F : Frm) (lb c : Nat) (o : Option Nat) (B : Int) (w : World) (h : FrAt F w lb c o) (hB : B = (F.B : Int)) :
    Calls Tryz.prog 62 #[.agg #[.bool F.br, .int .i64 F.Q, .slice (some ⟨lb, 0, none⟩) 512 512, .slice (some ⟨c, 0, none⟩) 21 21, .slice (ahA o) (ahN o) (ahN o)], .int .i64 B] w (FitPost F w) := by
  have HF := Lib.hid h
  have HQ := Lib.hid h.ok.q
  have HBB : RowKit.Hid (B = (F.B : Int)) := hB
  have hb6 : B ≤ 600 ∧ 0 ≤ B := by have := h.ok.b; omega
  clear h hB
  go_enter Tryz.func62, Tryz.ntmps62
  have H0 : RowKit.Hid (FitSt F lb c o w 0 (w.alloc (.cells #[.bool F.br, .int .i64 F.Q, .slice (some ⟨lb, 0, none⟩) 512 512, .slice (some ⟨c, 0, none⟩) 21 21, .slice (ahA o) (ahN o) (ahN o)] 120))) := ⟨Below.alloc_new w _, Cel.new w _ _, fun j hj => by omega⟩
  go_wp2
  generalize (w.alloc (.cells #[.bool F.br, .int .i64 F.Q, .slice (some ⟨lb, 0, none⟩) 512 512, .slice (some ⟨c, 0, none⟩) 21 21, .slice (ahA o) (ahN o) (ahN o)] 120)) = w0 at H0 ⊢
  go_loopw [4, 5, 6, 11] (fun _ _ _ i wr => ∃ k : Nat, k ≤ 32 ∧ i = .int .i64 (k : Int) ∧ RowKit.Hid (FitSt F lb c o w k wr)) (fun _ _ _ i _ => 32 - (intOf i).toNat)
  case atStart => exact ⟨0, by omega, rfl, H0.out⟩
  case round =>
    obtain ⟨k, hk, rfl, H⟩ := hrel
    clear H0
    by_cases hlt : k < 32
    · obtain ⟨d0, d1, d2, d3, d4⟩ := frC_at H.out.f
      have lk : (k : Int) < 32 := by omega
      obtain ⟨n, hn⟩ : ∃ n, n = (bytesE (F.E k)).length := ⟨_, rfl⟩
      have HN : RowKit.Hid ((bytesE (F.E k)).length = n) := hn.symm
      by_cases hle : n ≤ F.B
      · have HI : RowKit.Hid (F.lo = k) := Frm.lo_is ⟨hlt, by rw [← hn]; exact hle, H.out.n⟩
        have lB : (n : Int) ≤ B := by rw [HBB.out]; omega
        clear hn hle
        go_wp2_with (first
          | (go_at_call 97; go_loud (refine (fSteps_any c 21 F.l F.Q k _ (HF.out.l.below H.out.b HF.out.l.lt) HF.out.ok.l HQ.out.1 HQ.out.2 (by omega) (by omega)).mono ?_); rintro e w1 ⟨s, rfl, i1, s1, b1⟩; have HS1 : RowKit.Hid (CutAt w1 s (F.st k)) := i1; have H1 := Lib.hid (H.out.now b1); clear i1 s1 b1; obtain ⟨e0, e1, e2, e3, e4⟩ := frC_at H1.out.f)
          | (go_at_call 98; go_loud (refine (cPay_any F lb c s o k _ (HF.out.below H1.out.b) (by omega) HS1.out).mono ?_); rintro e w2 ⟨r, cp, rfl, i2, b2⟩; have HI2 := Lib.hid i2; have H2 := Lib.hid (H1.out.now b2); have HS2 := Lib.hid (HS1.out.below b2 HS1.out.lt); clear i2 b2; rw [HN.out] at HI2 ⊢; obtain ⟨f0, f1, f2, f3, f4⟩ := frC_at H2.out.f))
        go_ret3
        have e : F.bytes = bytesE (F.E k) := by unfold Frm.bytes; rw [HI.out]
        refine ⟨r, cp, s, by rw [e, HN.out]; rfl, ?_, ?_, H2.out.b⟩
        · rw [e, HN.out]; exact HI2.out
        · unfold Frm.steps; rw [HI.out]; exact HS2.out
      · have HX : RowKit.Hid (∀ j, j < k + 1 → F.B < (bytesE (F.E j)).length) := fun j hj => by
          by_cases e : j = k
          · subst e; omega
          · exact H.out.n j (by omega)
        have lB : ¬ (n : Int) ≤ B := by rw [HBB.out]; omega
        clear hn hle
        go_wp2_with (first
          | (go_at_call 97; go_loud (refine (fSteps_any c 21 F.l F.Q k _ (HF.out.l.below H.out.b HF.out.l.lt) HF.out.ok.l HQ.out.1 HQ.out.2 (by omega) (by omega)).mono ?_); rintro e w1 ⟨s, rfl, i1, s1, b1⟩; have HS1 : RowKit.Hid (CutAt w1 s (F.st k)) := i1; have H1 := Lib.hid (H.out.now b1); clear i1 s1 b1; obtain ⟨e0, e1, e2, e3, e4⟩ := frC_at H1.out.f)
          | (go_at_call 98; go_loud (refine (cPay_any F lb c s o k _ (HF.out.below H1.out.b) (by omega) HS1.out).mono ?_); rintro e w2 ⟨r, cp, rfl, i2, b2⟩; have H2 := Lib.hid (H1.out.now b2); clear i2 b2; rw [HN.out]; obtain ⟨f0, f1, f2, f3, f4⟩ := frC_at H2.out.f))
        go_roundw
        case rel => exact ⟨k + 1, by omega, by go_num, ⟨H2.out.b, H2.out.f, HX.out⟩⟩
        case measure => simp [intOf] <;> omega
    · obtain rfl : k = 32 := by omega
      obtain ⟨l1, l2, l3⟩ := HF.out.ok.loss
      have := H.out.n _ l1
      omega
end Go.Proofs.YtmgfkdmjgjlkjaaGreat

namespace Go.Proofs.YtmgfkdmjgjlkjaaGreat
open Go.RowKit
set_option linter.unusedVariables false
set_option maxRecDepth 100000 in
theorem ref9Shape_any (c N cap : Nat) (a : Option Addr) (x : Nat → Int) (w : World) (hC : IFun w c 2 .i64 1025 cosN) (h1 : 1 ≤ N) (h2 : N ≤ 1000) (hx : FnAt w w.heap.size .i64 a N x) (hb : ∀ j, j < N → (x j).natAbs ≤ 2147483647) :
    Calls Tryz.prog 67 #[.slice (some ⟨c, 0, none⟩) 1025 1025, .slice a N cap] w (RowPost .i64 2 N (shapeF N x) w) := by
  obtain ⟨b, off, rfl, hbl, hc⟩ := hx
  have HC := Lib.hid hc
  have HB := Lib.hid hb
  have HT := Lib.hid hC
  have tl := hC.lt
  have hmk : ∀ w : World, (Instr.makeSlice 66 (.int .i64 (N : Int)) (.int .i64 (N : Int))).run Tryz.prog w = .ok (.slice (some ⟨w.heap.size, 0, none⟩) N N) (w.alloc (.cells (madeCells #[.int .i64 0] N) 2)) :=
    fun w => make_zeros (P := Tryz.prog) Tryz.underlying66 info_i64 N (by omega) (by omega) w
  have H0 : RowKit.Hid (IFun (w.alloc (.cells (madeCells #[.int .i64 0] N) 2)) w.heap.size 2 .i64 N (upTo (shapeF N x) (fun _ => 0) 0) ∧ Below w.heap.size w (w.alloc (.cells (madeCells #[.int .i64 0] N) 2))) :=
    ⟨IFun.ext (IFun.zeros w 2 .i64 N) fun j _ => (upTo_start (shapeF N x) (fun _ => 0) j).symm, Below.alloc_new w _⟩
  clear hc hb hC
  go_enter Tryz.func67, Tryz.ntmps67
  go_wp2
  clear hmk
  generalize hg : w.heap.size = g at H0 hbl tl ⊢
  generalize (w.alloc (.cells (madeCells #[.int .i64 0] N) 2)) = w1 at H0 ⊢
  go_loopw [7] (fun i wr => ∃ k : Nat, k ≤ N ∧ i = .int .i64 (k : Int) ∧ RowKit.Hid (IFun wr g 2 .i64 N (upTo (shapeF N x) (fun _ => 0) k) ∧ Below g w wr)) (fun i _ => N - (intOf i).toNat)
  case atStart => exact ⟨0, by omega, rfl, H0.out⟩
  case round =>
    obtain ⟨k, hk, rfl, HI⟩ := hrel
    clear H0
    by_cases hlt : k < N
    · obtain ⟨m, hm⟩ : ∃ m, m = N - 1 - k := ⟨_, rfl⟩
      have k1 := (HI.out.2.cell (p := ⟨b, off + k, none⟩) hbl).trans (HC.out k hlt)
      have o1 := HI.out.1.cell (j := k) (by omega)
      have f1 := HI.out.1.frozen k
      obtain ⟨R, hR⟩ : ∃ R : Int → Int, R = riseP := ⟨_, rfl⟩
      have HX : RowKit.Hid (∀ (z : Int), 0 ≤ z → z ≤ 1000 → Calls Tryz.prog 103 #[.slice (some ⟨c, 0, none⟩) 1025 1025, .int .i64 z] wr fun e w' => e = .returned (.int .i64 (R z)) ∧ wr = w') := fun z h0 h1 => by
        rw [hR]
        exact ref04Rise_any c z wr (HT.out.below HI.out.2 tl) (by omega) (by omega)
      have hs : slopeF N k = if R (m : Int) < R (k : Int) then R (m : Int) else R (k : Int) := by rw [hm, hR]; rfl
      have r1 : 0 ≤ R (k : Int) ∧ R (k : Int) ≤ 16777216 := by rw [hR]; exact riseP_bd (k : Int) (by omega)
      have r2 : 0 ≤ R (m : Int) ∧ R (m : Int) ≤ 16777216 := by rw [hR]; exact riseP_bd (m : Int) (by omega)
      obtain ⟨s0, s1⟩ := slopeF_bd N k
      have hx := HB.out k hlt
      obtain ⟨Y, hY⟩ : ∃ Y, Y = x k * slopeF N k := ⟨_, rfl⟩
      have hYb : Y.natAbs ≤ 2147483647 * 16777216 := by rw [hY]; exact mul_abs hx (by omega)
      have HS : RowKit.Hid (IFun (wr.setCell ⟨g, k, none⟩ (.int .i64 (shapeF N x k))) g 2 .i64 N (upTo (shapeF N x) (fun _ => 0) (k + 1)) ∧ Below g w (wr.setCell ⟨g, k, none⟩ (.int .i64 (shapeF N x k)))) :=
        ⟨IFun.ext (HI.out.1.set (j := k) (by omega) (shapeF N x k)) fun j _ => upTo_next _ _ k j, Below.setCell (p := ⟨g, k, none⟩) HI.out.2 (Nat.le_refl _) _⟩
      have HR : RowKit.Hid (rndP Y 24 = shapeF N x k) := by show _ = _; rw [hY]; rfl
      have e1 : (N : Int) - 1 - (k : Int) = (m : Int) := by omega
      clear hm HI hR hbl
      generalize shapeF N x k = y at HS HR
      generalize slopeF N k = sl at hs hY s0 s1
      generalize x k = xk at k1 hx hY
      generalize upTo (shapeF N x) (fun _ => 0) k k = old at o1
      have l1 : (k : Int) < (N : Int) := by omega
      have x0 : -2147483647 ≤ xk := by omega
      have x1 : xk ≤ 2147483647 := by omega
      have y0 : -36028797018963968 ≤ Y := by omega
      have y1 : Y ≤ 36028797018963968 := by omega
      clear hx hYb
      by_cases hv : R (m : Int) < R (k : Int)
      · rw [if_pos hv] at hs
        have hYe : xk * R (m : Int) = Y := by rw [hY, hs]
        clear hY hs
        go_wp2_with (first | (go_at_call 103; refine (HX.out _ (by omega) (by omega)).mono ?_; rintro e w' ⟨rfl, rfl⟩) | (go_at_call 104; refine (refRound_any Y 24 _ (by omega) (by omega)).mono ?_; rintro e w' ⟨rfl, rfl⟩; rw [HR.out]))
        go_roundw
        case rel => exact ⟨k + 1, by omega, by go_num, HS.out⟩
        case measure => simp [intOf] <;> omega
      · rw [if_neg hv] at hs
        have hYe : xk * R (k : Int) = Y := by rw [hY, hs]
        clear hY hs
        go_wp2_with (first | (go_at_call 103; refine (HX.out _ (by omega) (by omega)).mono ?_; rintro e w' ⟨rfl, rfl⟩) | (go_at_call 104; refine (refRound_any Y 24 _ (by omega) (by omega)).mono ?_; rintro e w' ⟨rfl, rfl⟩; rw [HR.out]))
        go_roundw
        case rel => exact ⟨k + 1, by omega, by go_num, HS.out⟩
        case measure => simp [intOf] <;> omega
    · obtain rfl : k = N := by omega
      have Z : RowKit.Hid (IFun wr g 2 .i64 k (shapeF k x) ∧ Below g w wr) := ⟨IFun.ext HI.out.1 fun i hi => upTo_end _ _ k i hi, HI.out.2⟩
      go_wp2
      go_ret
      exact ⟨g, rfl, Z.out.1, by omega, by rw [hg]; exact Z.out.2⟩
set_option maxRecDepth 100000 in
theorem ref9Lines_long (c cap : Nat) (a : Option Addr) (all : Nat → Int) (w : World) (hC : IFun w c 2 .i64 1025 cosN) (ha : FnAt w w.heap.size .i64 a 640 all) (hb : ∀ j, j < 640 → (all j).natAbs ≤ 524288) :
    Calls Tryz.prog 33 #[.slice (some ⟨c, 0, none⟩) 1025 1025, .slice a 640 cap, .bool false] w (RowPost .i64 2 512 (linesF false all) w) := by
  have HB := Lib.hid hb
  have HX0 := Lib.hid (IFun.zeros w 2 .i64 1024)
  have HB0 := Lib.hid (Below.alloc_new w (.cells (madeCells #[.int .i64 0] 1024) 2))
  have HC0 := Lib.hid (hC.below HB0.out hC.lt)
  have HCl := Lib.hid hC.lt
  have HA0 := Lib.hid (ha.now HB0.out)
  have hmk : ∀ w : World, (Instr.makeSlice 66 (.int .i64 1024) (.int .i64 1024)).run Tryz.prog w = .ok (.slice (some ⟨w.heap.size, 0, none⟩) 1024 1024) (w.alloc (.cells (madeCells #[.int .i64 0] 1024) 2)) :=
    fun w => make_zeros (P := Tryz.prog) Tryz.underlying66 info_i64 1024 (by decide) (by decide) w
  clear hC ha hb
  generalize madeCells #[Value.int .i64 0] 1024 = mc at HX0 HB0 HC0 HA0 hmk
  go_enter Tryz.func33, Tryz.ntmps33
  go_wp2_with (go_at_call 67; go_loud (refine (ref9Shape_any c 640 cap a all _ HC0.out (by decide) (by decide) HA0.out (fun j hj => by have := HB.out j hj; omega)).mono ?_); rintro e w3 ⟨g3, rfl, i3, s3, z3⟩; have HI3 := Lib.hid i3; have HN3 : RowKit.Hid (w.heap.size < g3) := Nat.lt_of_lt_of_le HX0.out.lt s3; have HX3 : RowKit.Hid (IFun w3 w.heap.size 2 .i64 1024 (cpyF (fun _ => 0) (shapeF 640 all) 192 0)) := IFun.ext (HX0.out.below z3 HX0.out.lt) fun j _ => (if_neg (by omega)).symm; have HC3 := Lib.hid (HC0.out.below z3 HC0.out.lt); have HB3 := Lib.hid (chain HB0.out z3); clear i3 s3 z3)
  clear hmk HX0 HC0 HA0
  go_loopw [9] (fun i wr => ∃ k : Nat, k ≤ 640 ∧ i = .int .i64 (k : Int) ∧ RowKit.Hid (IFun wr w.heap.size 2 .i64 1024 (cpyF (fun _ => 0) (shapeF 640 all) 192 k) ∧ IFun wr g3 2 .i64 640 (shapeF 640 all) ∧ IFun wr c 2 .i64 1025 cosN ∧ Below w.heap.size w wr)) (fun i _ => 640 - (intOf i).toNat)
  case atStart => exact ⟨0, by omega, rfl, HX3.out, HI3.out, HC3.out, HB3.out⟩
  case round =>
    obtain ⟨k, hk, rfl, HJ⟩ := hrel
    clear HX3 HI3
    by_cases hlt : k < 640
    · obtain ⟨P, hP⟩ : ∃ P, P = 192 + k := ⟨_, rfl⟩
      have eP : 192 + (k : Int) = (P : Int) := by omega
      have k1 := HJ.out.2.1.cell hlt
      have o1 := HJ.out.1.cell (j := P) (by omega)
      have f1 := HJ.out.1.frozen P
      have HS : RowKit.Hid (IFun (wr.setCell ⟨w.heap.size, P, none⟩ (.int .i64 (shapeF 640 all k))) w.heap.size 2 .i64 1024 (cpyF (fun _ => 0) (shapeF 640 all) 192 (k + 1)) ∧ IFun (wr.setCell ⟨w.heap.size, P, none⟩ (.int .i64 (shapeF 640 all k))) g3 2 .i64 640 (shapeF 640 all) ∧ IFun (wr.setCell ⟨w.heap.size, P, none⟩ (.int .i64 (shapeF 640 all k))) c 2 .i64 1025 cosN ∧ Below w.heap.size w (wr.setCell ⟨w.heap.size, P, none⟩ (.int .i64 (shapeF 640 all k)))) := by
        have hn := HN3.out
        have hc := HCl.out
        refine ⟨IFun.ext (HJ.out.1.set (j := P) (by omega) (shapeF 640 all k)) fun i _ => ?_, HJ.out.2.1.far (by show g3 ≠ w.heap.size; omega) _, HJ.out.2.2.1.far (by show c ≠ w.heap.size; omega) _, HJ.out.2.2.2.setCell (Nat.le_refl _) _⟩
        unfold cpyF
        by_cases e : i = P
        · rw [if_pos e, if_pos (by omega), show i - 192 = k by omega]
        · rw [if_neg e]
          by_cases d : 192 ≤ i ∧ i < 192 + k
          · rw [if_pos d, if_pos (by omega)]
          · rw [if_neg d, if_neg (by omega)]
      generalize shapeF 640 all k = x at k1 HS
      generalize cpyF (fun _ => 0) (shapeF 640 all) 192 k P = old at o1
      have l1 : (k : Int) < 640 := by omega
      have l2 : (P : Int) < 1024 := by omega
      clear HJ hP
      go_wp2
      go_roundw
      case rel => exact ⟨k + 1, by omega, by go_num, HS.out⟩
      case measure => simp [intOf] <;> omega
    · have l1 : ¬ (k : Int) < 640 := by omega
      have HXe : RowKit.Hid (IFun wr w.heap.size 2 .i64 1024 (winF all)) := IFun.ext HJ.out.1 fun i _ => by rw [show k = 640 by omega]; exact win_all all i
      have hWb : RowKit.Hid (∀ j, j < 1024 → -1048576 ≤ winF all j ∧ winF all j ≤ 1048575) := fun j _ => by have := winF_abs HB.out j; omega
      have HBw := Lib.hid HJ.out.2.2.2
      have HCw := Lib.hid HJ.out.2.2.1
      clear HJ
      go_wp2_with (go_at_call 68; go_loud (refine (refForward_any c 512 1024 1024 _ (winF all) _ HCw.out (.inr rfl) rfl (FnAt.of_ifun HXe.out) hWb.out).mono ?_); rintro e w5 ⟨g5, rfl, i5, s5, z5⟩; have HI5 := Lib.hid i5; have S5 := Lib.hid s5; have HB5 := Lib.hid (chain HBw.out z5); clear i5 s5 z5)
      go_ret
      exact ⟨g5, rfl, by rw [linesF_long]; exact HI5.out, Nat.le_trans HBw.out.size S5.out, HB5.out⟩
end Go.Proofs.YtmgfkdmjgjlkjaaGreat
