/- Plain facts, and what functions give, for the proofs of this seat: several texts in one, each with its own first remark. -/
import Derived.Test.YtobhoecmmpijgaaGreatRb
import Derived.Test.YtobhoecmmpijgaaGreatRG
import Derived.Test.YtobhoecmmpijgaaGreatRn

/- When a frame knocks, by the document; lines held, by the document. -/
namespace Go.Proofs.YtobhoecmmpijgaaGreat
open Go Go.RowKit
set_option linter.unusedVariables false
set_option linter.unusedSimpArgs false

/-- The greatest of the quarter ahead. -/
def prevQ (P : Int) (f : Nat → Int) : Nat → Int
  | 0 => P
  | q + 1 => peakQ f q
def outQ (P : Int) (f : Nat → Int) : Nat → Bool
  | 0 => false
  | q + 1 => outQ P f q || knB (prevQ P f q) (peakQ f q)
theorem outQ_all (P : Int) (f : Nat → Int) : outQ P f 4 = briefF P f := by
  unfold briefF briefB
  simp [outQ, prevQ]
theorem outQ_succ (P : Int) (f : Nat → Int) (q : Nat) : outQ P f (q + 1) = (outQ P f q || knB (prevQ P f q) (peakQ f q)) := rfl
/-- An encoder's cells, by the document. -/
def rfC (C : Nat) (va vl : Value) (Q B P : Int) (cv vh : Value) (R : Int) : Array Value := #[.slice (some ⟨C, 0, none⟩) 1025 1025, va, vl, .int .i64 Q, .int .i64 B, .int .i64 P, cv, vh, .int .i64 R]
def BriefPost (g C : Nat) (va vl cv vh : Value) (Q B P R : Int) (f : Nat → Int) (w : World) (e : Ending) (w' : World) : Prop :=
  e = .returned (.bool (briefF P f)) ∧ Cel w' g 76 (rfC C va vl Q B (peakQ f 3) cv vh R) ∧ Keeps (· = g) w w'
set_option maxHeartbeats 1000000 in
set_option maxRecDepth 100000 in
theorem rBrief_any (g C x : Nat) (va vl cv vh : Value) (Q B P R : Int) (f : Nat → Int) (w : World) (hE : Cel w g 76 (rfC C va vl Q B P cv vh R)) (hf : IFun w x 51 .i16 512 f) (hP : 0 ≤ P ∧ P ≤ 32768) (hb : ∀ i, i < 512 → -32768 ≤ f i ∧ f i ≤ 32767) :
    Calls Tryz.prog 22 #[.pointer (some ⟨g, 0, none⟩), .slice (some ⟨x, 0, none⟩) 512 512] w (BriefPost g C va vl cv vh Q B P R f w) := by
  have H0 : RowKit.Hid (Cel w g 76 (rfC C va vl Q B (prevQ P f 0) cv vh R) ∧ Keeps (· = g) w w) := ⟨hE, Keeps.refl _ _⟩
  have HX := Lib.hid hf
  have HXb := Lib.hid hb
  have HP := Lib.hid hP
  have hgx := Lib.hid (Cel.ne hf hE (by decide))
  have HO := Lib.hid (outQ_all P f)
  rw [show BriefPost g C va vl cv vh Q B P R f w = fun e w' => e = .returned (.bool (briefF P f)) ∧ Cel w' g 76 (rfC C va vl Q B (prevQ P f 4) cv vh R) ∧ Keeps (· = g) w w' from rfl, ← HO.out]
  clear hE hf hP hb
  go_enter Tryz.func22, Tryz.ntmps22
  go_wp2
  go_loopw [5, 6] (fun o i wr => ∃ q : Nat, q ≤ 4 ∧ i = .int .i64 (q : Int) ∧ o = .bool (outQ P f q) ∧ RowKit.Hid (Cel wr g 76 (rfC C va vl Q B (prevQ P f q) cv vh R) ∧ Keeps (· = g) w wr)) (fun _ i _ => 4 - (intOf i).toNat)
  case atStart => exact ⟨0, by omega, rfl, rfl, H0.out⟩
  case round =>
    obtain ⟨q, hq, rfl, rfl, H⟩ := hrel
    clear H0
    by_cases hlt : q < 4
    · have lq : (q : Int) < 4 := by omega
      have HXr : RowKit.Hid (IFun wr x 51 .i16 512 f) := Cel.keeps HX.out H.out.2 hgx.out
      go_wp2
      go_loopw [7, 8] (fun p i wr' => ∃ k : Nat, k ≤ 128 ∧ i = .int .i64 (k : Int) ∧ p = .int .i64 (peakTo f (128 * q) k) ∧ wr' = wr) (fun _ i _ => 128 - (intOf i).toNat)
      case atStart => exact ⟨0, by omega, rfl, rfl, rfl⟩
      case round =>
        obtain ⟨k, hk, rfl, rfl, rfl⟩ := hrel
        by_cases hlk : k < 128
        · have lk : (k : Int) < 128 := by omega
          have k1 := HXr.out.cell (j := 128 * q + k) (by omega)
          obtain ⟨y0, y1⟩ := HXb.out (128 * q + k) (by omega)
          have HPk : RowKit.Hid (peakTo f (128 * q) (k + 1) = max (peakTo f (128 * q) k) (absI (f (128 * q + k)))) := peakTo_succ _ _ _
          obtain ⟨z0, z1⟩ := peakTo_bd (f := f) (a := 128 * q) (n := k) fun i hi => HXb.out _ (by omega)
          generalize f (128 * q + k) = y at k1 y0 y1 HPk
          generalize peakTo f (128 * q) k = z at z0 z1 HPk
          have u1 : IntKind.i64.wrap (-y) = -y := IntWalk.i64_in _ (by omega)
          have u2 : IntKind.i64.wrap y = y := IntWalk.i64_in _ (by omega)
          have u3 : IntKind.i64.wrap (128 * (q : Int)) = 128 * (q : Int) := IntWalk.i64_in _ (by omega)
          have u4 : IntKind.i64.wrap (128 * (q : Int) + (k : Int)) = ((128 * q + k : Nat) : Int) := by rw [IntWalk.i64_in _ (by omega)]; omega
          by_cases c1 : y < 0
          · by_cases c2 : z < -y
            · go_wp2
              go_roundw
              case rel => exact ⟨k + 1, by omega, by go_num, congrArg (Value.int .i64) (by rw [HPk.out]; unfold absI; rw [if_pos c1]; omega), trivial⟩
              case measure => simp [intOf] <;> omega
            · go_wp2
              go_roundw
              case rel => exact ⟨k + 1, by omega, by go_num, congrArg (Value.int .i64) (by rw [HPk.out]; unfold absI; rw [if_pos c1]; omega), trivial⟩
              case measure => simp [intOf] <;> omega
          · by_cases c2 : z < y
            · go_wp2
              go_roundw
              case rel => exact ⟨k + 1, by omega, by go_num, congrArg (Value.int .i64) (by rw [HPk.out]; unfold absI; rw [if_neg c1]; omega), trivial⟩
              case measure => simp [intOf] <;> omega
            · go_wp2
              go_roundw
              case rel => exact ⟨k + 1, by omega, by go_num, congrArg (Value.int .i64) (by rw [HPk.out]; unfold absI; rw [if_neg c1]; omega), trivial⟩
              case measure => simp [intOf] <;> omega
        · obtain rfl : k = 128 := by omega
          obtain ⟨pk, hpk⟩ : ∃ pk, pk = peakTo f (128 * q) 128 := ⟨_, rfl⟩
          have HPK : RowKit.Hid (peakQ f q = pk) := hpk.symm
          have HPR : RowKit.Hid (0 ≤ prevQ P f q ∧ prevQ P f q ≤ 32768) := by
            cases q with
            | zero => exact HP.out
            | succ q => exact peakQ_bd HXb.out (by omega)
          have HKN : RowKit.Hid (outQ P f (q + 1) = (outQ P f q || knB (prevQ P f q) pk)) := by show _ = _; rw [outQ_succ, HPK.out]
          have HNX : RowKit.Hid (prevQ P f (q + 1) = pk) := HPK.out
          have d5 : wr.cell? ⟨g, 5, none⟩ = some (.int .i64 (prevQ P f q)) := H.out.1.cell 5
          have z5 := H.out.1.frozen 5
          have HE : RowKit.Hid (Cel (wr.setCell ⟨g, 5, none⟩ (.int .i64 pk)) g 76 (rfC C va vl Q B pk cv vh R) ∧ Keeps (· = g) w (wr.setCell ⟨g, 5, none⟩ (.int .i64 pk))) := ⟨H.out.1.set_ 5 _, H.out.2.trans (Keeps.set1 _)⟩
          obtain ⟨kn, hkn⟩ : ∃ kn, knB (prevQ P f q) pk = kn := ⟨_, rfl⟩
          rw [hkn] at HKN
          obtain ⟨v0, v1⟩ := HPR.out
          rw [← hpk]
          have hkc := kn_cases hkn
          clear hpk hkn H HPR
          generalize prevQ P f q = pr at d5 v0 v1 hkc
          have u8 : IntKind.i64.wrap (8 * pr) = 8 * pr := IntWalk.i64_in _ (by omega)
          rcases hkc with ⟨t1, t2, e⟩ | ⟨t1, e⟩ | ⟨t1, t2, e⟩
          all_goals
            go_wp2
            go_roundw
            case rel => exact ⟨q + 1, by omega, by go_num, congrArg Value.bool (by rw [HKN.out, e]; simp), by rw [HNX.out]; exact HE.out⟩
            case measure => simp [intOf] <;> omega
    · obtain rfl : q = 4 := by omega
      go_wp2
      go_ret
      exact ⟨rfl, H.out⟩
end Go.Proofs.YtobhoecmmpijgaaGreat

/- The bytes of an encoder: they lie in a row, also where there are none. -/
namespace Go.Proofs.YtobhoecmmpijgaaGreat
open Go.RowKit
set_option linter.unusedVariables false

/-- Bytes that lie in a row. -/
def BytesPostS (b : List Int) (w : World) (x : Ending) (w' : World) : Prop := ∃ g c, x = .returned (.slice (some ⟨g, 0, none⟩) b.length c) ∧ IntsAt w' w'.heap.size .u8 (some ⟨g, 0, none⟩) b.length b ∧ Below w.heap.size w w'
set_option maxHeartbeats 1000000 in
set_option maxRecDepth 100000 in
theorem rncBytes_some (base g : Nat) (v : Value) (n : Int) (k : Nat) (less : Int) (w : World) (hE : EncR w base g v n k less) (hk : k ≤ 900000) :
    Calls Tryz.prog 113 #[.pointer (some ⟨g, 0, none⟩)] w (BytesPostS (bytesL (digL n (k + 4))) w) := by
  have HR := Lib.hid hE
  obtain ⟨D, last, h1, h2, h3, h4, h5, h6⟩ := hE
  obtain ⟨c0, c1, c2⟩ := h1.cells
  have ho := h1.2.1
  rw [h3] at ho
  obtain ⟨a, c, rfl⟩ := own_form ho
  have HD4 := Lib.hid (four_dig h2 h3 h4 h5 h6)
  have HI := Lib.hid (own_ints' ho)
  have HN := Lib.hid (own_none ho)
  have H1 := Lib.hid h1
  have hgl := h1.lt
  have hmk := make_empty (P := Tryz.prog) Tryz.underlying37 info_u806 ((k : Int) + 4) (k + 4) (by omega) (by omega) (by omega) w
  have hsz : (madeCells #[Value.int .u8 0] (k + 4)).size = (k + 4) * 1 := by rw [size_madeCells]; omega
  have HO0 := Lib.hid (World.ownsRow_made (base := w.heap.size) (e := 5) (size := 1) w (madeCells #[Value.int .u8 0] (k + 4)) (k + 4) (Nat.le_refl _) (by unfold maxLen; omega) hsz)
  have HB0 := Lib.hid (Below.alloc_new w (.cells (madeCells #[Value.int .u8 0] (k + 4)) 5))
  have hk1 : k ≤ 1000000 := by omega
  clear h1 h2 h3 h6 ho c2 hsz
  generalize madeCells #[Value.int .u8 0] (k + 4) = mc at hmk HO0 HB0
  go_enter Tryz.func113, Tryz.ntmps113
  go_wp2_with (first | (go_at_call 146; ((with_reducible refine (rncLen_any base g _ n k less _ HR.out hk1).mono ?_)); rintro e w' ⟨rfl, rfl⟩) | (at_builtin; go_loud (refine append_ints rfl _ _ 37 rfl w.heap.size 5 .u8 1 Tryz.underlying37 info_u806 _ 0 [] rfl HO0.out a k c w.heap.size D rfl (HI.out.below HB0.out) HN.out ?c1 ?c2 ?c3 ?_)))
  case c1 => unfold maxLen; omega
  case c2 => omega
  case c3 => simp
  intro v2 w2 hown hgrow _
  have hb2 := HB0.out.grown hgrow (by simp) (own_base HO0.out)
  obtain ⟨a2, cp2, rfl⟩ := own_form hown
  have c1' : w2.cell? ⟨g, 1, none⟩ = some (.int .u32 last) := (hb2.cell (p := ⟨g, 1, none⟩) hgl).trans c1
  have HO2 := Lib.hid hown
  have HB2 := Lib.hid hb2
  clear hown hgrow hb2 c0 c1 hmk
  obtain ⟨q0, hq0⟩ : ∃ q, q = last / 16777216 % 256 := ⟨_, rfl⟩
  obtain ⟨q1, hq1⟩ : ∃ q, q = last / 65536 % 256 := ⟨_, rfl⟩
  obtain ⟨q2, hq2⟩ : ∃ q, q = last / 256 % 256 := ⟨_, rfl⟩
  obtain ⟨q3, hq3⟩ : ∃ q, q = last % 256 := ⟨_, rfl⟩
  have HF : RowKit.Hid (four last = [q0, q1, q2, q3]) := by show _ = _; unfold four; rw [hq0, hq1, hq2, hq3]
  have e0 : IntKind.u8.wrap (last / 16777216) = q0 := by rw [hq0]; rfl
  have e1 : IntKind.u8.wrap (last / 65536) = q1 := by rw [hq1]; rfl
  have e2 : IntKind.u8.wrap (last / 256) = q2 := by rw [hq2]; rfl
  have e3 : IntKind.u8.wrap last = q3 := by rw [hq3]; rfl
  clear hq0 hq1 hq2 hq3
  have ag : some g ≠ (Value.slice a2 k cp2).ownBlock := fun e => by
    have := own_base HO2.out g e.symm
    omega
  obtain ⟨i0, hi, hzz, hz1, hz2⟩ := info_parts info_u806
  have hsz2 := HB2.out.size
  have HO4 := Lib.hid (World.ownsRow.alloc HO2.out (.cells #[.int .u8 q0, .int .u8 q1, .int .u8 q2, .int .u8 q3] 5))
  have HB4 := Lib.hid (HB2.out.alloc hsz2 (.cells #[.int .u8 q0, .int .u8 q1, .int .u8 q2, .int .u8 q3] 5))
  go_wp2
  go_region_held3 (fun w' => w'.cell? ⟨g, 1, none⟩ = some (.int .u32 last))
    (first | go_keep | (rw [hgrow.cell_far _ (by simp; omega) ag]; assumption))
    ((refine step_append_lies _ (by rfl) _ _ _ (by rfl) w.heap.size 5 i0 (.int .u8 0) 1 1 Tryz.underlying37 hi hzz hz1 hz2 rfl (by decide) (.slice a2 k cp2) k _ (by rfl) HO4.out.drew ⟨w2.heap.size, 0, none⟩ 4 4 [.int .u8 q0, .int .u8 q1, .int .u8 q2, .int .u8 q3] (by rfl) (by rfl) (World.news_of_block (cs := #[.int .u8 q0, .int .u8 q1, .int .u8 q2, .int .u8 q3]) (t := 5) (fr := (0, 0)) (heap_alloc_new w2 _)) (by simp [Value.oneCell']) (by omega) (by unfold maxLen; omega) (by omega) (by simp; omega) (w2.heap.size + 1) (by simp) ?_; intro gg cp w5 hown hgrow hat hlt2))
  have hown5 : w5.ownsRow w.heap.size 5 1 (.slice (some ⟨gg, 0, none⟩) (k + 4) cp) (k + 4) ((digL n (k + 4)).map (Value.int .u8)) := by
    rw [← HD4.out, HF.out]; simpa using hown
  have HB5 : RowKit.Hid (Below w.heap.size w w5) := (Below.drewN' HB4.out 1).grown hgrow (by simp; omega) (own_base HO4.out)
  have hcp : k + 4 ≤ cp ∧ cp ≤ 9223372036854775807 := by
    rcases hown5.2 with ⟨h, _⟩ | ⟨g', cap, cur, h, _, _, h2, h3, _⟩
    · injection h with h; cases h
    · unfold maxLen at h3; injection h with _ _ h; omega
  obtain ⟨hcp, hcpm⟩ := hcp
  have HO5 := Lib.hid hown5
  obtain ⟨L, hL⟩ : ∃ L, L = digL n (k + 4) := ⟨_, rfl⟩
  have HLd : RowKit.Hid (IsDig L ∧ L.length = k + 4) := by rw [hL]; exact ⟨digL_dig _ _, digL_len _ _⟩
  rw [← hL] at HO5
  have HLq : RowKit.Hid (digL n (k + 4) = L) := hL.symm
  clear hown hgrow hown5 hL HO4 HB4 HO2 HB2 HD4 HF hat hlt2 ag HO0 HB0 HI HN H1 HR
  go_wp2
  go_loopw [4] (fun i wr => ∃ j : Nat, j ≤ k + 4 ∧ i = .int .i64 j ∧ RowKit.Hid (lastK L j = lastK L (k + 4)) ∧ wr = w5) (fun i _ => (intOf i).toNat)
  case atStart => exact ⟨k + 4, by omega, by go_num, rfl, rfl⟩
  case round =>
    obtain ⟨j, hj, rfl, H, rfl⟩ := hrel
    by_cases hz : j = 0
    · have hm : lastK L (k + 4) = -1 := by rw [← H.out, hz]; rfl
      have HE : RowKit.Hid (bytesL L = []) := by
        show _ = _
        unfold bytesL; rw [HLd.out.2, hm]; rfl
      subst hz
      clear H hm
      go_wp2
      go_ret
      rw [HLq.out, HE.out]
      exact ⟨gg, cp, rfl, ⟨rfl, .inl rfl⟩, HB5.out⟩
    · obtain ⟨p, hp⟩ : ∃ p, j = p + 1 := ⟨j - 1, by omega⟩
      subst hp
      have hcell : wr.cell? ⟨gg, p, none⟩ = some (.int .u8 (L.getD p 0)) := by
        rw [HO5.out.cellAt p (by omega), List.getElem?_map, List.getElem?_eq_getElem (by rw [HLd.out.2]; omega)]
        simp [List.getD, show p < L.length by rw [HLd.out.2]; omega]
      have E : RowKit.Hid (lastK L (p + 1) = if L.getD p 0 = 0 then lastK L p else p) := rfl
      generalize L.getD p 0 = x at hcell E
      by_cases hx : x = 0
      · have hq : (x == 0) = true := by simpa using hx
        have E2 : RowKit.Hid (lastK L p = lastK L (k + 4)) := by
          show _ = _
          rw [← H.out, E.out, if_pos hx]
        clear hx
        go_wp2
        go_roundw
        case rel => exact ⟨p, by omega, rfl, E2.out, trivial⟩
        case measure => simp [intOf] <;> omega
      · have hq : (x == 0) = false := by simpa using hx
        have HE : RowKit.Hid (bytesL L = L.take (p + 1)) := by
          have hm : lastK L (k + 4) = p := by rw [← H.out, E.out, if_neg hx]
          show _ = _
          unfold bytesL
          rw [HLd.out.2, hm]
          congr 1
        have HI5 := Lib.hid (own_ints' HO5.out)
        clear hx
        go_wp2
        go_ret
        rw [HLq.out, HE.out]
        have e : (L.take (p + 1)).length = p + 1 := by rw [List.length_take, HLd.out.2]; omega
        refine ⟨gg, cp, by rw [e]; rfl, ?_, HB5.out⟩
        rw [e]
        exact HI5.out.take hj
end Go.Proofs.YtobhoecmmpijgaaGreat

/- A frame as bytes: the walks of package coder. -/
namespace Go.Proofs.YtobhoecmmpijgaaGreat
open Go Go.RowKit
set_option linter.unusedVariables false
set_option linter.unusedSimpArgs false

/-- What is held on the way. -/
def HdSt (w : World) (base g : Nat) (v : Value) (h : Nat) (ph : Array Value) (E : EncS) (wr : World) : Prop := PutSt w base g v E wr ∧ Cel wr h 229 ph
theorem HdSt.bits {w wr : World} {base g h : Nat} {v : Value} {ph : Array Value} {E : EncS} (H : HdSt w base g v h ph E wr) (hG : GoodE E) (hk : E.k ≤ 1000) {n : Int} {wide : Nat} (n0 : 0 ≤ n) (h12 : wide ≤ 12) (hn : n < P2 wide) (o : Obj) :
    Calls Tryz.prog 139 #[.pointer (some ⟨g, 0, none⟩), .int .u32 n, .int .i64 wide] (wr.alloc o) fun e w' => e = .returned (.int .i64 0) ∧ HdSt w base g v h ph (encBits E n wide) w' := by
  obtain ⟨⟨v', h1, h2, h3⟩, hc⟩ := H
  have b := Below.alloc_new wr o
  have p := P2_12 h12
  refine (rncBits_any base g v' E n wide _ (h1.below b) hG n0 (by omega) (by omega) hn (by omega)).mono ?_
  rintro e w2 ⟨rfl, v2, k1, k2, k3⟩
  obtain ⟨n1, n2⟩ := EncAt.ne_cel h1 hc (by decide) (by decide)
  have s := b.size
  refine ⟨rfl, PutSt.step h1 h2 h3 k1 ((Keeps.of_below b).trans (k2.mono fun j hj => hj.elim .inl fun c => .inr (.inl c))) (fun j hj => (k3 j hj).elim .inl fun c => .inr (by omega)), ?_⟩
  exact (hc.below b).keeps k2 fun c => c.elim n1 n2
/-- The head, part by part. -/
def hdE (wh br Q lo : Int) : Nat → EncS
  | 0 => encNew
  | 1 => encBits encNew wh 1
  | 2 => encBits (encBits encNew wh 1) br 1
  | 3 => encBits (encBits (encBits encNew wh 1) br 1) Q 4
  | _ + 4 => headE wh br Q lo
set_option maxRecDepth 100000 in
theorem cHead_any (base g : Nat) (v : Value) (wh br : Bool) (Q lo : Int) (la ca aa : Option Addr) (ll lc cl cc al ac : Nat) (w : World) (hE : EncAt w base g v encNew) (hw : wh = decide (al = 0)) (hal : al ≤ 9223372036854775807) (q0 : 0 ≤ Q) (q1 : Q ≤ 15) (lo0 : 0 ≤ lo) (lo1 : lo ≤ 31) :
    Calls Tryz.prog 110 #[.agg #[.bool br, .int .i64 Q, .slice la ll lc, .slice ca cl cc, .slice aa al ac], .pointer (some ⟨g, 0, none⟩), .int .i64 lo] w (PutPost base g v (headE (b2 wh) (b2 br) Q lo) (.int .i64 0) w) := by
  have HE := Lib.hid hE
  have HW : RowKit.Hid (decide (al = 0) = wh) := hw.symm
  have HB0 := Lib.hid (Below.alloc_new w (.cells #[.bool br, .int .i64 Q, .slice la ll lc, .slice ca cl cc, .slice aa al ac] 109))
  clear hE hw
  go_enter Tryz.func110, Tryz.ntmps110
  go_wp2
  have u1 : IntKind.u32.wrap Q = Q := IntWalk.u32_in _ (by omega)
  have u2 : IntKind.u32.wrap lo = lo := IntWalk.u32_in _ (by omega)
  have HC0 := Lib.hid (Cel.new w 109 #[.bool br, .int .i64 Q, .slice la ll lc, .slice ca cl cc, .slice aa al ac])
  generalize (w.alloc (.cells #[.bool br, .int .i64 Q, .slice la ll lc, .slice ca cl cc, .slice aa al ac] 109)) = w0 at HB0 HC0 ⊢
  obtain ⟨f, hf⟩ : ∃ f, f = w.heap.size := ⟨_, rfl⟩
  have HF : RowKit.Hid (f = w.heap.size) := hf
  rw [← hf] at HC0 ⊢
  clear hf
  have c0 : w0.cell? ⟨f, 0, none⟩ = some (.bool br) := HC0.out.cell 0
  have c1 : w0.cell? ⟨f, 1, none⟩ = some (.int .i64 Q) := HC0.out.cell 1
  have c2 : w0.cell? ⟨f, 2, none⟩ = some (.slice la ll lc) := HC0.out.cell 2
  have c3 : w0.cell? ⟨f, 3, none⟩ = some (.slice ca cl cc) := HC0.out.cell 3
  have c4 : w0.cell? ⟨f, 4, none⟩ = some (.slice aa al ac) := HC0.out.cell 4
  go_region_held3 (fun w' => w'.cell? ⟨f, 0, none⟩ = some (.bool br) ∧ w'.cell? ⟨f, 1, none⟩ = some (.int .i64 Q) ∧ w'.cell? ⟨f, 2, none⟩ = some (.slice la ll lc) ∧ w'.cell? ⟨f, 3, none⟩ = some (.slice ca cl cc) ∧ w'.cell? ⟨f, 4, none⟩ = some (.slice aa al ac)) (go_keep) (first | (go_at_call 47; go_loud (refine (cWhole_any br Q la ca aa ll lc cl cc al ac _ hal).mono ?_); rintro e w1 ⟨rfl, b1⟩; have HC1 := Lib.hid (Cel.below (w := w0.drew) HC0.out b1); have HB1 := Lib.hid b1; clear b1; have m0 : w1.cell? ⟨f, 0, none⟩ = some (.bool br) := HC1.out.cell 0; have m1 : w1.cell? ⟨f, 1, none⟩ = some (.int .i64 Q) := HC1.out.cell 1; have m2 : w1.cell? ⟨f, 2, none⟩ = some (.slice la ll lc) := HC1.out.cell 2; have m3 : w1.cell? ⟨f, 3, none⟩ = some (.slice ca cl cc) := HC1.out.cell 3; have m4 : w1.cell? ⟨f, 4, none⟩ = some (.slice aa al ac) := HC1.out.cell 4; rw [HW.out]) | (go_at_call 138; go_loud (refine (cBit_any _ _).mono ?_); rintro e w2 ⟨rfl, rfl⟩) | fail)
  go_wp2
  clear m0 m1 m2 m3 m4 c0 c1 c2 c3 c4 HC0
  obtain ⟨ph, hph⟩ : ∃ ph : Array Value, ph = #[.int .u32 (b2 wh), .int .i64 1, .int .u32 (b2 br), .int .i64 1, .int .u32 Q, .int .i64 4, .int .u32 lo, .int .i64 5] := ⟨_, rfl⟩
  rw [← hph]
  have HB2 : RowKit.Hid (Below w.heap.size w (w1.alloc (.cells ph 229))) := chain (chain (chain HB0.out (Below.drewN' (Below.refl _ w0) 1)) HB1.out) (Below.alloc_new w1 _)
  have HS : RowKit.Hid (HdSt w base g v w1.heap.size ph encNew (w1.alloc (.cells ph 229))) := ⟨(PutSt.start HE.out).below HB2.out, Cel.new _ _ _⟩
  generalize (w1.alloc (.cells ph 229)) = w2 at HS HB2 ⊢
  generalize w1.heap.size = h at HS ⊢
  have HPH := Lib.hid hph
  clear HB1 HC1 HB0 HF hph
  obtain ⟨z1, _, _⟩ := bits_good12 (n := b2 wh) (wide := 1) goodE_new (by decide)
  obtain ⟨z2, _, y2⟩ := bits_good12 (n := b2 br) (wide := 1) z1 (by decide)
  obtain ⟨z3, _, y3⟩ := bits_good12 (n := Q) (wide := 4) z2 (by decide)
  have hn0 : encNew.k = 0 := rfl
  have Z1 := Lib.hid z1
  have Z2 := Lib.hid z2
  have Z3 := Lib.hid z3
  have HZ : RowKit.Hid ((encBits encNew (b2 wh) 1).k ≤ 1000 ∧ (encBits (encBits encNew (b2 wh) 1) (b2 br) 1).k ≤ 1000 ∧ (encBits (encBits (encBits encNew (b2 wh) 1) (b2 br) 1) Q 4).k ≤ 1000) := by
    have := encBits_k encNew (b2 wh) (wide := 1) (by decide)
    exact ⟨by omega, by omega, by omega⟩
  have Hwh := Lib.hid (b2_bd wh)
  have Hbr := Lib.hid (b2_bd br)
  clear z1 z2 z3 y2 y3 hn0
  go_loopw [6, 27] (fun _ i wr => ∃ k : Nat, k ≤ 4 ∧ i = .int .i64 (k : Int) ∧ RowKit.Hid (HdSt w base g v h ph (hdE (b2 wh) (b2 br) Q lo k) wr)) (fun _ i _ => 4 - (intOf i).toNat)
  case atStart => exact ⟨0, by omega, rfl, HS.out⟩
  case round =>
    obtain ⟨k, hk, rfl, H⟩ := hrel
    clear HS
    have HCC := Lib.hid H.out.2
    rw [HPH.out] at HCC
    by_cases e0 : k = 4
    · subst e0
      go_wp2
      go_ret
      exact ⟨rfl, H.out.1⟩
    · have e4 : k = 0 ∨ k = 1 ∨ k = 2 ∨ k = 3 := by omega
      clear e0
      rcases e4 with rfl | rfl | rfl | rfl
      · have c0 : wr.cell? ⟨h, 0, none⟩ = some (.int .u32 (b2 wh)) := HCC.out.cell 0
        have c1 : wr.cell? ⟨h, 1, none⟩ = some (.int .i64 1) := HCC.out.cell 1
        go_wp2_with (go_at_call 139; go_loud (refine (HdSt.bits (wide := 1) H.out goodE_new (Nat.zero_le 1000) Hwh.out.1 (by decide) (by rw [show P2 1 = 2 by decide]; have := Hwh.out.2; omega) _).mono ?_); rintro e w3 ⟨rfl, h3⟩; have H3 := Lib.hid h3; clear h3)
        go_roundw
        case rel => exact ⟨1, by decide, by go_num, H3.out⟩
        case measure => simp [intOf] <;> omega
      · have c0 : wr.cell? ⟨h, 2, none⟩ = some (.int .u32 (b2 br)) := HCC.out.cell 2
        have c1 : wr.cell? ⟨h, 3, none⟩ = some (.int .i64 1) := HCC.out.cell 3
        go_wp2_with (go_at_call 139; go_loud (refine (HdSt.bits (wide := 1) H.out Z1.out HZ.out.1 Hbr.out.1 (by decide) (by rw [show P2 1 = 2 by decide]; have := Hbr.out.2; omega) _).mono ?_); rintro e w3 ⟨rfl, h3⟩; have H3 := Lib.hid h3; clear h3)
        go_roundw
        case rel => exact ⟨2, by decide, by go_num, H3.out⟩
        case measure => simp [intOf] <;> omega
      · have c0 : wr.cell? ⟨h, 4, none⟩ = some (.int .u32 (Q)) := HCC.out.cell 4
        have c1 : wr.cell? ⟨h, 5, none⟩ = some (.int .i64 4) := HCC.out.cell 5
        go_wp2_with (go_at_call 139; go_loud (refine (HdSt.bits (wide := 4) H.out Z2.out HZ.out.2.1 q0 (by decide) (by rw [show P2 4 = 16 by decide]; omega) _).mono ?_); rintro e w3 ⟨rfl, h3⟩; have H3 := Lib.hid h3; clear h3)
        go_roundw
        case rel => exact ⟨3, by decide, by go_num, H3.out⟩
        case measure => simp [intOf] <;> omega
      · have c0 : wr.cell? ⟨h, 6, none⟩ = some (.int .u32 (lo)) := HCC.out.cell 6
        have c1 : wr.cell? ⟨h, 7, none⟩ = some (.int .i64 5) := HCC.out.cell 7
        go_wp2_with (go_at_call 139; go_loud (refine (HdSt.bits (wide := 5) H.out Z3.out HZ.out.2.2 lo0 (by decide) (by rw [show P2 5 = 32 by decide]; omega) _).mono ?_); rintro e w3 ⟨rfl, h3⟩; have H3 := Lib.hid h3; clear h3)
        go_roundw
        case rel => exact ⟨4, by decide, by go_num, H3.out⟩
        case measure => simp [intOf] <;> omega
end Go.Proofs.YtobhoecmmpijgaaGreat

/- A frame's payload: the walks of package coder. -/
namespace Go.Proofs.YtobhoecmmpijgaaGreat
open Go Go.RowKit
set_option linter.unusedVariables false
set_option linter.unusedSimpArgs false

/-- A frame's parts in memory. -/
structure FrAt (F : Frm) (w : World) (lb c : Nat) (o : Option Nat) : Prop where
  ok : F.Ok
  x : IFun w lb 21 .i32 512 F.x
  l : CutAt w c F.l
  a : AhAt w F.wh o F.ah
theorem FrAt.below {F : Frm} {w w' : World} {lb c : Nat} {o : Option Nat} (h : FrAt F w lb c o) (hb : Below w.heap.size w w') : FrAt F w' lb c o := ⟨h.ok, h.x.below hb h.x.lt, h.l.below hb h.l.lt, h.a.below hb⟩
theorem ahN_le (o : Option Nat) : ahN o ≤ 21 := by cases o with
  | none => exact Nat.zero_le _
  | some r => exact Nat.le_refl _
def PayPost (F : Frm) (lo : Nat) (w : World) (e : Ending) (w' : World) : Prop :=
  ∃ r cp, e = .returned (.tuple #[.slice (some ⟨r, 0, none⟩) (bytesE (F.E lo)).length cp, .int .i64 0]) ∧ IntsAt w' w'.heap.size .u8 (some ⟨r, 0, none⟩) (bytesE (F.E lo)).length (bytesE (F.E lo)) ∧ Below w.heap.size w w'
/-- A frame's cells. -/
def frC (F : Frm) (lb c : Nat) (o : Option Nat) : Array Value := #[.bool F.br, .int .i64 F.Q, .slice (some ⟨lb, 0, none⟩) 512 512, .slice (some ⟨c, 0, none⟩) 21 21, .slice (ahA o) (ahN o) (ahN o)]
theorem frC_at {F : Frm} {lb c g : Nat} {o : Option Nat} {w : World} (h : Cel w g 109 (frC F lb c o)) : w.cell? ⟨g, 0, none⟩ = some (.bool F.br) ∧ w.cell? ⟨g, 1, none⟩ = some (.int .i64 F.Q) ∧ w.cell? ⟨g, 2, none⟩ = some (.slice (some ⟨lb, 0, none⟩) 512 512) ∧ w.cell? ⟨g, 3, none⟩ = some (.slice (some ⟨c, 0, none⟩) 21 21) ∧ w.cell? ⟨g, 4, none⟩ = some (.slice (ahA o) (ahN o) (ahN o)) :=
  ⟨h.cell 0, h.cell 1, h.cell 2, h.cell 3, h.cell 4⟩
/-- An encoder on the way. -/
structure PaySt (F : Frm) (lb c : Nat) (o : Option Nat) (w : World) (base g : Nat) (E : EncS) (v : Value) (wr : World) : Prop where
  e : EncAt wr base g v E
  b : Below w.heap.size w wr
  s : w.heap.size < base
  f : Cel wr w.heap.size 109 (frC F lb c o)
theorem PaySt.next {F : Frm} {lb c : Nat} {o : Option Nat} {w wr w' : World} {base g : Nat} {E E' : EncS} {v v' : Value} (h : PaySt F lb c o w base g E v wr) (k1 : EncAt w' base g v' E') (k2 : Keeps (fun j => j = g ∨ v.ownBlock = some j) wr w') : PaySt F lb c o w base g E' v' w' := by
  have hb : ∀ j, (j = g ∨ v.ownBlock = some j) → base ≤ j := fun j hj => hj.elim (fun e => by rw [e]; exact h.e.lt.2) fun e => (h.e.own j e).2.1
  exact ⟨k1, h.b.trans (k2.below h.b.size fun j hj => Nat.le_trans (Nat.le_of_lt h.s) (hb j hj)), h.s, h.f.keeps k2 fun c => by have := hb _ c; have := h.s; omega⟩
set_option maxRecDepth 100000 in
theorem cPay_any (F : Frm) (lb c s : Nat) (o : Option Nat) (lo : Nat) (w : World) (h : FrAt F w lb c o) (hlo : lo ≤ 31) (hs : CutAt w s (F.st lo)) :
    Calls Tryz.prog 77 #[.agg #[.bool F.br, .int .i64 F.Q, .slice (some ⟨lb, 0, none⟩) 512 512, .slice (some ⟨c, 0, none⟩) 21 21, .slice (ahA o) (ahN o) (ahN o)], .int .i64 (lo : Int), .slice (some ⟨s, 0, none⟩) 21 21] w (PayPost F lo w) := by
  have HF := Lib.hid h
  have HS := Lib.hid hs
  have HL := Lib.hid (ahN_le o)
  obtain ⟨q0, q1⟩ := h.ok.q
  have HW := Lib.hid h.a.len
  clear h hs
  go_enter Tryz.func77, Tryz.ntmps77
  have HB0 := Lib.hid (Below.alloc_new w (.cells #[.bool F.br, .int .i64 F.Q, .slice (some ⟨lb, 0, none⟩) 512 512, .slice (some ⟨c, 0, none⟩) 21 21, .slice (ahA o) (ahN o) (ahN o)] 109))
  have HC0 : RowKit.Hid (Cel (w.alloc (.cells #[.bool F.br, .int .i64 F.Q, .slice (some ⟨lb, 0, none⟩) 512 512, .slice (some ⟨c, 0, none⟩) 21 21, .slice (ahA o) (ahN o) (ahN o)] 109)) w.heap.size 109 (frC F lb c o)) := Cel.new w _ _
  go_wp2_with (first
    | (go_at_call 109; go_loud (refine (rncNew_any _).mono ?_); rintro e w1 ⟨rfl, h1, b1⟩; rw [alloc_sizeB] at h1; have H1 : RowKit.Hid (PaySt F lb c o w (w.heap.size + 1) (w.heap.size + 1) encNew (.slice none 0 0) w1) := ⟨h1, chain HB0.out b1, Nat.lt_succ_self _, HC0.out.below b1⟩; clear h1 b1; obtain ⟨d10, d11, d12, d13, d14⟩ := frC_at H1.out.f)
    | (go_at_call 110; go_loud (refine (cHead_any (w.heap.size + 1) (w.heap.size + 1) _ F.wh F.br F.Q lo _ _ (ahA o) 512 512 21 21 (ahN o) (ahN o) w1 H1.out.e HW.out.symm (by have := HL.out; omega) (by omega) (by omega) (by omega) (by omega)).mono ?_); rintro e w2 ⟨rfl, v2, k2, l2, _⟩; have H2 := Lib.hid (PaySt.next H1.out k2 l2); clear k2 l2; obtain ⟨d20, d21, d22, d23, d24⟩ := frC_at H2.out.f)
    | (go_at_call 111; go_loud (refine (fPut_any (w.heap.size + 1) (w.heap.size + 1) v2 (F.H lo) F.wh c 21 (ahN o) o F.l F.ah w2 H2.out.e (F.goodH lo).1 (by have := (F.goodH lo).2; omega) (HF.out.l.below H2.out.b HF.out.l.lt) HF.out.ok.l (HF.out.a.below H2.out.b)).mono ?_); rintro e w3 ⟨rfl, v3, k3, l3, _⟩; have H3 := Lib.hid (PaySt.next H2.out k3 l3); clear k3 l3; obtain ⟨d30, d31, d32, d33, d34⟩ := frC_at H3.out.f)
    | (go_at_call 112; go_loud (refine (fQPut_any (w.heap.size + 1) (w.heap.size + 1) v3 (F.C lo) lb c s 21 21 F.x F.l F.Q lo w3 H3.out.e (F.goodC lo).1 (by have := (F.goodC lo).2; omega) (HF.out.x.below H3.out.b HF.out.x.lt) HF.out.ok.x (HF.out.l.below H3.out.b HF.out.l.lt) HF.out.ok.l (HS.out.below H3.out.b HS.out.lt)).mono ?_); rintro e w4 ⟨rfl, v4, k4, l4, _⟩; have H4 := Lib.hid (PaySt.next H3.out k4 l4); clear k4 l4; obtain ⟨d40, d41, d42, d43, d44⟩ := frC_at H4.out.f)
    | (go_at_call 113; go_loud (refine (rncBytes_some (w.heap.size + 1) (w.heap.size + 1) v4 (F.E lo).n (F.E lo).k _ w4 H4.out.e (by have := (HF.out.ok.good lo).2; omega)).mono ?_); rintro e w5 ⟨r5, c5, rfl, i5, b5⟩; have HI5 := Lib.hid i5; have HB5 := Lib.hid (chain H4.out.b b5); clear i5 b5))


  go_ret2
  exact ⟨r5, c5, rfl, HI5.out, HB5.out⟩
end Go.Proofs.YtobhoecmmpijgaaGreat
