/- Plain facts, and what functions give, for the proofs of this seat: several texts in one, each with its own first remark. -/
import Derived.Test.YtmgfkdmjgjlkjaaGreatAQ
import Derived.Test.YtmgfkdmjgjlkjaaGreatAO

namespace Go.Proofs.YtmgfkdmjgjlkjaaGreat
open Go.RowKit
set_option linter.unusedVariables false
theorem oneF_nat {n s : Nat} : oneF (n : Int) (s : Int) = if s < n then 2 ^ s else 2 ^ (n + 1) := by
  unfold oneF
  by_cases h : s < n
  · rw [if_pos (by omega), if_pos h]; rfl
  · rw [if_neg (by omega), if_neg h]; rfl
set_option maxHeartbeats 1000000 in
set_option maxRecDepth 100000 in
theorem ref10Reach_any (a a2 : Option Addr) (cap cap2 : Nat) (zs ss : List Int) (w : World) (h : IntsAt w w.heap.size .i64 a 21 zs) (h2 : IntsAt w w.heap.size .i64 a2 21 ss) (hr : rightB zs = true) (hs : rightB ss = true) :
    Calls Tryz.prog 42 #[.slice a 21 cap, .slice a2 21 cap2] w fun e w' => e = .returned (.int .i64 (reachTo (fun j => zs.getD j 0) (fun j => ss.getD j 0) 21)) ∧ Below w.heap.size w w' := by
  have H0 := Lib.hid h
  have H2 := Lib.hid h2
  have HZb := Lib.hid (rightB_true hr).2
  have HSb := Lib.hid (rightB_true hs).2
  obtain ⟨T, hT⟩ : ∃ T, T = reachTo (fun j => zs.getD j 0) (fun j => ss.getD j 0) := ⟨_, rfl⟩
  have HB : RowKit.Hid (∀ n, n ≤ 21 → 0 ≤ T n ∧ T n ≤ 68719476736 * n) := fun n hn => by rw [hT]; exact reachTo_bd n hn fun j hj => ⟨(HZb.out j (by omega)).2, (HSb.out j (by omega)).2⟩
  have HS : RowKit.Hid (∀ n, T (n + 1) = T n + ((edgeK (n + 1) : Int) - edgeK n) * oneF (zs.getD n 0) (ss.getD n 0)) := fun n => by rw [hT]; rfl
  have HZ : RowKit.Hid (T 0 = 0) := by show _ = _; rw [hT]; rfl
  rw [← hT]
  clear h h2 hr hs hT
  go_enter Tryz.func42, Tryz.ntmps42
  go_wp2_with (go_at_call 69; go_loud (refine (ref04Edges_any _).mono ?_); rintro e w1 ⟨ea, ec, rfl, hi, hbl⟩; obtain ⟨eb, eo, rfl⟩ := ints_some hi (by decide); have HE1 := Lib.hid hi; have HB1 := Lib.hid hbl; clear hi hbl)
  have HL0 : RowKit.Hid (IntsAt w1 w1.heap.size .i64 a 21 zs) := H0.out.now HB1.out (Nat.le_refl _)
  have HL2 : RowKit.Hid (IntsAt w1 w1.heap.size .i64 a2 21 ss) := H2.out.now HB1.out (Nat.le_refl _)
  have HE : RowKit.Hid (∀ k, k < 22 → w1.cell? ⟨eb, eo + k, none⟩ = some (.int .i64 (edgeK k : Int))) := fun k hk => edges_at HE1.out hk
  clear HE1
  go_loopw [6, 7] (fun m i wr => ∃ k : Nat, k ≤ 21 ∧ i = .int .i64 (k : Int) ∧ m = .int .i64 (T k) ∧ RowKit.Hid (∃ q, wr = w1.drewN q)) (fun _ i _ => 21 - (intOf i).toNat)
  case atStart => exact ⟨0, by omega, rfl, by rw [HZ.out], 0, rfl⟩
  case round =>
    obtain ⟨k, hk, rfl, rfl, HW⟩ := hrel
    by_cases hlt : k < 21
    · obtain ⟨b, off, rfl, _, _, c1⟩ := HL0.out.at_ hlt
      obtain ⟨b2, off2, rfl, _, _, c2⟩ := HL2.out.at_ hlt
      have HV := Lib.hid (HS.out k)
      obtain ⟨n0, n1⟩ := HZb.out k hlt
      obtain ⟨s0, s1⟩ := HSb.out k hlt
      obtain ⟨y0, y1⟩ := oneF_bd (n := zs.getD k 0) (s := ss.getD k 0) n1 s1
      generalize zs.getD k 0 = nz at c1 HV n0 n1 y0 y1
      generalize ss.getD k 0 = sz at c2 HV s0 s1 y0 y1
      obtain ⟨n, rfl⟩ := Int.eq_ofNat_of_zero_le n0
      obtain ⟨s, rfl⟩ := Int.eq_ofNat_of_zero_le s0
      have HK : RowKit.Hid (∀ v : World, (∃ q, v = w1.drewN q) → v.cell? ⟨b, off + k, none⟩ = some (.int .i64 (n : Int)) ∧ v.cell? ⟨b2, off2 + k, none⟩ = some (.int .i64 (s : Int)) ∧ v.cell? ⟨eb, eo + k, none⟩ = some (.int .i64 (edgeK k : Int)) ∧ v.cell? ⟨eb, eo + (k + 1), none⟩ = some (.int .i64 (edgeK (k + 1) : Int))) := fun v hv => by
        obtain ⟨q, rfl⟩ := hv
        exact ⟨c1, c2, HE.out k (by omega), HE.out (k + 1) (by omega)⟩
      have HD : RowKit.Hid (∀ (v : World) (m : Nat), (∃ q, v = w1.drewN q) → ∃ q, v.drewN m = w1.drewN q) := fun v m hv => by obtain ⟨q, rfl⟩ := hv; exact ⟨q + m, drewE_add _ _ _⟩
      clear c1 c2
      obtain ⟨e1, e2⟩ := edgeK_lt k hlt
      obtain ⟨t0, t1⟩ := HB.out k (by omega)
      have ht1 : T k ≤ 1443109011456 := by omega
      generalize edgeK (k + 1) = E1 at HK e1 e2 HV
      generalize edgeK k = E0 at HK e1 HV
      obtain ⟨pn0, pn1⟩ := pow_bd27 (k := n) (by omega)
      obtain ⟨pn2, pn3⟩ := pow_bd27 (k := n + 1) (by omega)
      have gn : IntKind.i64.wrap (2 * 2 ^ n) = 2 * 2 ^ n := IntWalk.i64_in _ (by omega)
      have HPn : RowKit.Hid ((2 : Int) * 2 ^ n = 2 ^ (n + 1)) := by show _ = _; rw [Int.pow_succ]; omega
      obtain ⟨ps0, ps1⟩ := pow_bd27 (k := s) (by omega)
      have gs : IntKind.i64.wrap (2 ^ s) = 2 ^ s := IntWalk.i64_in _ (by omega)
      rw [oneF_nat] at HV y0 y1
      obtain ⟨D, hD⟩ : ∃ D, D = (E1 : Int) - E0 := ⟨_, rfl⟩
      rw [← hD] at HV
      have d1 : (E1 : Int) - E0 = D := hD.symm
      have E1b : E1 ≤ 512 := e2
      have D0 : 0 ≤ D := by omega
      have D1 : D ≤ 512 := by omega
      have l1 : (k : Int) < 21 := by omega
      clear hD t1 e1 e2
      generalize T k = t at t0 ht1 HV
      by_cases hc : s < n
      · rw [if_pos hc] at HV y0 y1
        have l2 : (s : Int) < (n : Int) := by omega
        obtain ⟨P, hP⟩ : ∃ P, P = D * 2 ^ s := ⟨_, rfl⟩
        have p0 : 0 ≤ D * 2 ^ s := Int.mul_nonneg (by omega) (by omega)
        have p1 : D * 2 ^ s ≤ 512 * 134217728 := Int.mul_le_mul (by omega) y1 (by omega) (by decide)
        rw [← hP] at HV p0 p1
        have d2 : D * 2 ^ s = P := hP.symm
        have HP1 : P ≤ 68719476736 := by omega
        clear hP p1 hc
        obtain ⟨i1, i2, i3, i4⟩ := HK.out wr HW.out
        go_wp2
        go_quiet (fail)
        obtain ⟨wq, hw⟩ : ∃ wq, wq = wr.drewN nq := ⟨_, rfl⟩
        rw [← hw]
        have HW1 : RowKit.Hid (∃ q, wq = w1.drewN q) := by show ∃ q, _; rw [hw]; exact HD.out _ _ HW.out
        clear hw i1 i2 i3 i4 nq
        obtain ⟨i1, i2, i3, i4⟩ := HK.out wq HW1.out
        go_wp2
        go_quiet (fail)
        obtain ⟨wp, hw⟩ : ∃ wp, wp = wq.drewN nq := ⟨_, rfl⟩
        rw [← hw]
        have HW2 : RowKit.Hid (∃ q, wp = w1.drewN q) := by show ∃ q, _; rw [hw]; exact HD.out _ _ HW1.out
        clear hw i1 i2 i3 i4 nq
        go_wp2
        go_roundw
        case rel => exact ⟨k + 1, by omega, by go_num, by rw [HV.out], HW2.out⟩
        case measure => simp [intOf] <;> omega
      · rw [if_neg hc] at HV y0 y1
        have l2 : ¬ (s : Int) < (n : Int) := by omega
        obtain ⟨P, hP⟩ : ∃ P, P = D * 2 ^ (n + 1) := ⟨_, rfl⟩
        have p0 : 0 ≤ D * 2 ^ (n + 1) := Int.mul_nonneg (by omega) (by omega)
        have p1 : D * 2 ^ (n + 1) ≤ 512 * 134217728 := Int.mul_le_mul (by omega) y1 (by omega) (by decide)
        rw [← hP] at HV p0 p1
        have d2 : D * 2 ^ (n + 1) = P := hP.symm
        have HP1 : P ≤ 68719476736 := by omega
        clear hP p1 hc
        rw [← HPn.out] at d2
        obtain ⟨i1, i2, i3, i4⟩ := HK.out wr HW.out
        go_wp2
        go_quiet (fail)
        obtain ⟨wq, hw⟩ : ∃ wq, wq = wr.drewN nq := ⟨_, rfl⟩
        rw [← hw]
        have HW1 : RowKit.Hid (∃ q, wq = w1.drewN q) := by show ∃ q, _; rw [hw]; exact HD.out _ _ HW.out
        clear hw i1 i2 i3 i4 nq
        obtain ⟨i1, i2, i3, i4⟩ := HK.out wq HW1.out
        go_wp2
        go_quiet (fail)
        obtain ⟨wp, hw⟩ : ∃ wp, wp = wq.drewN nq := ⟨_, rfl⟩
        rw [← hw]
        have HW2 : RowKit.Hid (∃ q, wp = w1.drewN q) := by show ∃ q, _; rw [hw]; exact HD.out _ _ HW1.out
        clear hw i1 i2 i3 i4 nq
        go_wp2
        go_roundw
        case rel => exact ⟨k + 1, by omega, by go_num, by rw [HV.out], HW2.out⟩
        case measure => simp [intOf] <;> omega
    · obtain rfl : k = 21 := by omega
      have HK : RowKit.Hid (Below w.heap.size w wr) := by obtain ⟨q, e⟩ := HW.out; show Below _ _ _; rw [e]; exact Below.drewN' HB1.out q
      go_wp2
      go_ret
      exact ⟨rfl, HK.out⟩
end Go.Proofs.YtmgfkdmjgjlkjaaGreat

namespace Go.Proofs.YtmgfkdmjgjlkjaaGreat
open Go Go.RowKit
set_option linter.unusedVariables false
set_option linter.unusedSimpArgs false
structure Frm.Back (F : Frm) : Prop where
  w : (decBits F.bytes (decNew (byteF F.bytes)) 0 1).1 = b2 F.wh
  r : (decBits F.bytes (decBits F.bytes (decNew (byteF F.bytes)) 0 1).2 0 1).1 = b2 F.br
  q : (decBits F.bytes (decBits F.bytes (decBits F.bytes (decNew (byteF F.bytes)) 0 1).2 0 1).2 0 4).1 = F.Q
  lo : (decBits F.bytes (decBits F.bytes (decBits F.bytes (decBits F.bytes (decNew (byteF F.bytes)) 0 1).2 0 1).2 0 4).2 0 5).1 = F.lo
  l : ∀ i, i < 21 → getV F.wh F.bytes (headD F.bytes) F.ah i = F.l i
  o : ∀ seed i, i < 512 → outF F.l F.steps (getQ (toldT F.l F.steps) F.bytes (getN F.wh F.bytes (headD F.bytes) F.ah 21)) seed i = F.out seed i
  k : ∀ i, i < 512 → okG F.l F.steps F.bytes (getN F.wh F.bytes (headD F.bytes) F.ah 21) i = true
theorem Frm.Ok.back {F : Frm} (h : F.Ok) : F.Back := by
  have hl := h.loss.1
  have hb := b2_bd F.br
  have hq := h.q
  obtain ⟨a1, a2, a3, a4, a5, a6, a7⟩ := pay_back (wh := F.wh) (br := b2 F.br) (qu := F.Q) (lo := F.lo) (l := F.l) (ah := F.ah) (x := F.x) (F := F.E F.lo) (b := F.bytes) rfl rfl hb.1 hb.2 (by omega) (by omega) (by omega) (by omega) (fun b => (h.l.bd b).1) (fun b _ => (h.l.bd b).2)
  exact ⟨a1, a2, a3, a4, a5, fun seed i hi => heard_back fun ht => a6 i hi ht, a7⟩
theorem Frm.good0 (F : Frm) : GoodD (decNew (byteF F.bytes)) := by
  show GoodD (decNew (byteF (bytesE (F.E F.lo))))
  exact goodD_new (bytesL_dig _)
theorem Frm.Ok.len {F : Frm} (h : F.Ok) : F.bytes.length ≤ 600 := Nat.le_trans h.bytes_le h.b.2
def plC (C : Nat) (vl av : Value) (has : Bool) (vt : Value) (br : Bool) : Array Value := #[.slice (some ⟨C, 0, none⟩) 1025 1025, vl, av, .bool has, vt, .bool br]
def SoundPost (C p : Nat) (av : Value) (has : Bool) (vt : Value) (br : Bool) (l left : Nat → Int) (w : World) (e : Ending) (w' : World) : Prop :=
  ∃ b cap x off, e = .returned (.slice (some ⟨b, 0, none⟩) 512 cap) ∧ NumAt w' b 0 512 2 .i64 (samplesF br l left) ∧ Cel w' p 94 (plC C (.slice (some ⟨x, off, none⟩) 128 128) av has vt br) ∧ NumAt w' x off 128 2 .i64 (leftF br l) ∧ Keeps (· = p) w w'
set_option maxRecDepth 100000 in
theorem rSound_any (C p b off cap x xo : Nat) (av : Value) (has br : Bool) (l left : Nat → Int) (w : World) (hC : IFun w C 2 .i64 1025 cosN) (hP : Cel w p 94 (plC C (.slice (some ⟨x, xo, none⟩) 128 128) av has (.slice (some ⟨b, off, none⟩) 512 cap) br))
    (hl : NumAt w b off 512 2 .i64 l) (hx : NumAt w x xo 128 2 .i64 left) (hb : ∀ j, j < 512 → -33554432 ≤ l j ∧ l j ≤ 33554431) (hlb : ∀ j, j < 128 → (left j).natAbs ≤ 1073741000) :
    Calls Tryz.prog 83 #[.pointer (some ⟨p, 0, none⟩)] w (SoundPost C p av has (.slice (some ⟨b, off, none⟩) 512 cap) br l left w) := by
  have HC := Lib.hid hC
  have HP := Lib.hid hP
  have HL := Lib.hid hl
  have HX := Lib.hid hx
  have HB := Lib.hid hb
  have HLB := Lib.hid hlb
  have c0 : w.cell? ⟨p, 0, none⟩ = some (.slice (some ⟨C, 0, none⟩) 1025 1025) := hP.cell 0
  have c1 : w.cell? ⟨p, 1, none⟩ = some (.slice (some ⟨x, xo, none⟩) 128 128) := hP.cell 1
  have c4 : w.cell? ⟨p, 4, none⟩ = some (.slice (some ⟨b, off, none⟩) 512 cap) := hP.cell 4
  have c5 : w.cell? ⟨p, 5, none⟩ = some (.bool br) := hP.cell 5
  have HW : RowKit.Hid (∀ j : Nat, j < 128 → bothF br l left (512 + j) = leftF br l j) := fun j _ => by
    unfold bothF leftF
    rw [if_neg (by omega), Int.add_zero]
  clear hC hP hl hx hb hlb
  go_enter Tryz.func83, Tryz.ntmps83
  go_wp2
  go_region_held3 (fun w' => w'.cell? ⟨p, 0, none⟩ = some (.slice (some ⟨C, 0, none⟩) 1025 1025) ∧ w'.cell? ⟨p, 1, none⟩ = some (.slice (some ⟨x, xo, none⟩) 128 128) ∧ w'.cell? ⟨p, 4, none⟩ = some (.slice (some ⟨b, off, none⟩) 512 cap) ∧ w'.cell? ⟨p, 5, none⟩ = some (.bool br)) (go_keep) (first
    | (go_at_call 116; go_loud (refine (ref9Samples_any C cap 128 (some ⟨b, off, none⟩) (some ⟨x, xo, none⟩) l left br w.drew HC.out (show FnAt w w.heap.size .i64 _ 512 l from HL.out.fn) (show FnAt w w.heap.size .i64 _ 128 left from HX.out.fn) HB.out HLB.out).mono ?_); rintro e w1 ⟨v1, g1, rfl, o1, i1, s1, b1⟩; have HO1 := Lib.hid o1; have HI1 := Lib.hid i1; have HB1 : RowKit.Hid (Below w.heap.size w w1) := chain (Below.drewN' (Below.refl _ w) 1) b1; have HP1 := Lib.hid (HP.out.below HB1.out); clear o1 i1 s1 b1; have d0 : w1.cell? ⟨p, 0, none⟩ = some (.slice (some ⟨C, 0, none⟩) 1025 1025) := HP1.out.cell 0; have d1 : w1.cell? ⟨p, 1, none⟩ = some (.slice (some ⟨x, xo, none⟩) 128 128) := HP1.out.cell 1; have d4 : w1.cell? ⟨p, 4, none⟩ = some (.slice (some ⟨b, off, none⟩) 512 cap) := HP1.out.cell 4; have d5 : w1.cell? ⟨p, 5, none⟩ = some (.bool br) := HP1.out.cell 5; have z1 := HP1.out.frozen 1)
    | fail)
  go_wp2
  go_ret
  obtain ⟨b2, cap2, rfl, e1, e2, e3, e4⟩ := own_num HO1.out (by decide)
  have K : Keeps (· = p) w1 (w1.setCell ⟨p, 1, none⟩ (.slice (some ⟨g1, 512, none⟩) 128 128)) := Keeps.set1 _
  have N : NumAt w1 g1 512 128 2 .i64 (leftF br l) := by
    have := HI1.out.num 512 128 (by decide)
    exact ⟨this.1, fun j hj => (this.2 j hj).trans (by show some (Value.int .i64 (bothF br l left (512 + j))) = _; rw [HW.out j hj])⟩
  have ne : ∀ {q off n : Nat} {f : Nat → Int}, NumAt w1 q off n 2 .i64 f → q ≠ p := fun h => h.1.ne (Cel.typ HP1.out) (by decide)
  exact ⟨b2, cap2, g1, 512, rfl, e3.keeps K (ne e3), HP1.out.set_ 1 _, N.keeps K (ne N), (Keeps.of_below HB1.out).trans K⟩
end Go.Proofs.YtmgfkdmjgjlkjaaGreat

namespace Go.Proofs.YtmgfkdmjgjlkjaaGreat
open Go Go.RowKit
set_option linter.unusedVariables false
set_option linter.unusedSimpArgs false
structure PlayB (F : Frm) (b : List Int) (D0 D1 D2 D3 D4 D5 : DecS) : Prop where
  e1 : decBits b D0 0 1 = (b2 F.wh, D1)
  e2 : decBits b D1 0 1 = (b2 F.br, D2)
  e3 : decBits b D2 0 4 = (F.Q, D3)
  e4 : decBits b D3 0 5 = ((F.lo : Int), D4)
  l : ∀ i, i < 21 → getV F.wh b D4 F.ah i = F.l i
  e5 : getN F.wh b D4 F.ah 21 = D5
  o : ∀ seed i, i < 512 → outF F.l F.steps (getQ (toldT F.l F.steps) b D5) seed i = F.out seed i
  k : ∀ i, i < 512 → okG F.l F.steps b D5 i = true
  g : GoodD D0 ∧ GoodD D1 ∧ GoodD D2 ∧ GoodD D3 ∧ GoodD D4 ∧ GoodD D5
  i : D0.i ≤ 100 ∧ D1.i ≤ 100 ∧ D2.i ≤ 100 ∧ D3.i ≤ 100 ∧ D4.i ≤ 100 ∧ D5.i ≤ 100
  bd : ∀ j, 0 ≤ byteF b j ∧ byteF b j ≤ 255
  len : b.length ≤ 600
theorem Frm.Ok.playB {F : Frm} (h : F.Ok) : ∃ D0 D1 D2 D3 D4 D5, decNew (byteF F.bytes) = D0 ∧ PlayB F F.bytes D0 D1 D2 D3 D4 D5 := by
  obtain ⟨a1, a2, a3, a4, a5, a6, a7⟩ := h.back
  have hb := F.bytes_bd
  have hl := h.len
  have g0 := F.good0
  have i0 : (decNew (byteF F.bytes)).i = 4 := rfl
  generalize F.bytes = b at *
  unfold headD at a5 a6 a7
  generalize h0 : decNew (byteF b) = D0 at *
  obtain ⟨g1, i1, _⟩ := decBitsQ_good (k := 1) hb g0 (by decide)
  have e1 : decBits b D0 0 1 = (b2 F.wh, (decBits b D0 0 1).2) := Prod.ext a1 rfl
  generalize (decBits b D0 0 1).2 = D1 at *
  obtain ⟨g2, i2, _⟩ := decBitsQ_good (k := 1) hb g1 (by decide)
  have e2 : decBits b D1 0 1 = (b2 F.br, (decBits b D1 0 1).2) := Prod.ext a2 rfl
  generalize (decBits b D1 0 1).2 = D2 at *
  obtain ⟨g3, i3, _⟩ := decBitsQ_good (k := 4) hb g2 (by decide)
  have e3 : decBits b D2 0 4 = (F.Q, (decBits b D2 0 4).2) := Prod.ext a3 rfl
  generalize (decBits b D2 0 4).2 = D3 at *
  obtain ⟨g4, i4, _⟩ := decBitsQ_good (k := 5) hb g3 (by decide)
  have e4 : decBits b D3 0 5 = ((F.lo : Int), (decBits b D3 0 5).2) := Prod.ext a4 rfl
  generalize (decBits b D3 0 5).2 = D4 at *
  obtain ⟨g5, i5⟩ := getN_good (q := F.wh) (d := F.ah) hb g4 21
  exact ⟨D0, D1, D2, D3, D4, _, rfl, e1, e2, e3, e4, a5, rfl, a6, a7, ⟨g0, g1, g2, g3, g4, g5⟩, ⟨by omega, by omega, by omega, by omega, by omega, by omega⟩, hb, hl⟩
theorem rBits_at (base g : Nat) (v : Value) (b : List Int) (D D' : DecS) (n : Int) (wide : Nat) (w : World) (hD : DecMem w base g v b D) (hb : ∀ j, 0 ≤ byteF b j ∧ byteF b j ≤ 255) (hbl : b.length ≤ 600) (hi : D.i ≤ 100) (hG : GoodD D) (hw : wide ≤ 24) (e : decBits b D 0 wide = (n, D')) :
    Calls Tryz.prog 79 #[.pointer (some ⟨g, 0, none⟩), .int .i64 wide] w (DecBitsPost base g v b n D' w) := by
  have := refDecBits_any base g v b D wide w hD hb (by omega) (by omega) hG hw
  rw [e] at this
  exact this
theorem rGet_any (base gd : Nat) (v : Value) (b : List Int) (D D5 : DecS) (wh : Bool) (o : Option Nat) (ah l : Nat → Int) (cap2 : Nat) (w : World) (hD : DecMem w base gd v b D) (hG : GoodD D) (hb : ∀ j, 0 ≤ byteF b j ∧ byteF b j ≤ 255) (hbl : b.length ≤ 600) (hi : D.i ≤ 100)
    (hA : AhAt w wh o ah) (hl : ∀ i, i < 21 → getV wh b D ah i = l i) (hc : CutOk l) (he : getN wh b D ah 21 = D5) :
    Calls Tryz.prog 80 #[.pointer (some ⟨gd, 0, none⟩), .slice (ahA o) (ahN o) cap2] w fun e w' => ∃ a c, e = .returned (.tuple #[.slice a 21 c, .bool true]) ∧ IntsAt w' w'.heap.size .i64 a 21 (tabF 21 l) ∧ DecMem w' base gd v b D5 ∧ Keeps (fun j => j = gd) w w' := by
  obtain ⟨ds, d1, d2⟩ := hA.at_
  refine (ref10Get_any base gd v b D wh (ahA o) (ahN o) cap2 ds w hD hG hb (by omega) (by omega) d1 (fun hw r off e => ?_)).mono ?_
  · rcases hA with ⟨rfl, _⟩ | ⟨_, _, r', rfl, h4⟩
    · cases hw
    · have e : some (⟨r', 0, none⟩ : Addr) = some ⟨r, off, none⟩ := e
      injection e with e; injection e with e; subst e
      exact Cel.ne h4 hD.1 (by decide)
  · rintro e w' ⟨a, c, rfl, h1, h2, h3⟩
    rw [d2] at h1 h2
    have t : tabF 21 (getV wh b D ah) = tabF 21 l := tabF_ext hl
    rw [d2, t]
    rw [t] at h1
    rw [he] at h2
    exact ⟨a, c, by rw [hc.right], h1, h2, h3⟩
theorem ints_long {w : World} {B r off m n : Nat} {zs : List Int} {t : TypeId} {cs : Array Value} {a : Option Addr} (h : IntsAt w B .i64 a n zs) (k : Cel w m t cs) (hn : cs.size < n) (ha : a = some ⟨r, off, none⟩) : r ≠ m := by
  rintro rfl
  obtain ⟨b', off', e, _, _, hcell⟩ := h.at_ (j := cs.size) hn
  rw [ha] at e
  injection e with e
  injection e with e1 e2
  subst e1
  rw [k.cell, Array.getElem?_eq_none (by omega)] at hcell
  cases hcell
theorem rLines_any (F : Frm) (base gd : Nat) (v : Value) (b : List Int) (D5 : DecS) (a a2 : Option Addr) (cap cap2 : Nat) (seed : Int) (w : World) (hF : F.Ok) (hD : DecMem w base gd v b D5) (hG : GoodD D5) (hb : ∀ j, 0 ≤ byteF b j ∧ byteF b j ≤ 255) (hbl : b.length ≤ 600) (hi : D5.i ≤ 100)
    (h : IntsAt w w.heap.size .i64 a 21 (tabF 21 F.l)) (h2 : IntsAt w w.heap.size .i64 a2 21 (tabF 21 F.steps)) (s0 : 0 ≤ seed) (s1 : seed ≤ 4294967295)
    (ho : ∀ seed i, i < 512 → outF F.l F.steps (getQ (toldT F.l F.steps) b D5) seed i = F.out seed i) (hk : ∀ i, i < 512 → okG F.l F.steps b D5 i = true) :
    Calls Tryz.prog 81 #[.pointer (some ⟨gd, 0, none⟩), .slice a 21 cap, .slice a2 21 cap2, .int .u32 seed] w fun e w' => ∃ x off cp, e = .returned (.tuple #[.slice (some ⟨x, off, none⟩) 512 cp, .bool true]) ∧ x < w'.heap.size ∧ (∀ j, j < 512 → w'.cell? ⟨x, off + j, none⟩ = some (.int .i64 (F.out seed j))) ∧ Keeps (fun j => j = gd) w w' := by
  have := refGetLines_any base gd v b D5 a a2 cap cap2 (tabF 21 F.l) (tabF 21 F.steps) seed w hD hG hb (by omega) (by omega) h h2 (hF.l.may F.Q F.lo) s0 s1 (fun r off e => ints_long h hD.1 (by show 4 < 21; decide) e) (fun r off e => ints_long h2 hD.1 (by show 4 < 21; decide) e)
  rw [hF.l.tab, show (fun j => (tabF 21 F.steps).getD j 0) = F.steps from (hF.st F.lo).tab] at this
  refine this.mono ?_
  rintro e w' ⟨k, ⟨_, a', cp, rfl, i'⟩ | ⟨⟨i, hi1, hi2⟩, _⟩⟩
  · obtain ⟨x, off, rfl, _, _, _⟩ := i'.at_ (j := 0) (by decide)
    refine ⟨x, off, cp, rfl, ?_, fun j hj => ?_, k⟩
    · obtain ⟨x', off', e, hx, _, _⟩ := i'.at_ (j := 0) (by decide)
      cases e; exact hx
    · obtain ⟨x', off', e, hx, _, hc⟩ := i'.at_ hj
      injection e with e; injection e with e1 e2
      subst e1; subst e2
      rw [hc, tabF_getD _ hj, ho seed j hj]
  · have := hk i hi1
    rw [this] at hi2
    cases hi2
def PlayPost (F : Frm) (n : Int) (C p gd : Nat) (left : Nat → Int) (w : World) (e : Ending) (w' : World) : Prop :=
  ∃ b cap x off av vt, e = .returned (.tuple #[.slice (some ⟨b, 0, none⟩) 512 cap, .bool true]) ∧ NumAt w' b 0 512 2 .i64 (samplesF F.br (F.held n) left) ∧ Cel w' p 94 (plC C (.slice (some ⟨x, off, none⟩) 128 128) av true vt F.br) ∧ NumAt w' x off 128 2 .i64 (leftF F.br (F.held n)) ∧ Keeps (fun j => j = p ∨ j = gd) w w'
theorem plC_at {w : World} {C p : Nat} {vl av vt : Value} {has br : Bool} (h : Cel w p 94 (plC C vl av has vt br)) : w.cell? ⟨p, 0, none⟩ = some (.slice (some ⟨C, 0, none⟩) 1025 1025) ∧ w.cell? ⟨p, 1, none⟩ = some vl ∧ w.cell? ⟨p, 2, none⟩ = some av ∧ w.cell? ⟨p, 3, none⟩ = some (.bool has) ∧ w.cell? ⟨p, 4, none⟩ = some vt ∧ w.cell? ⟨p, 5, none⟩ = some (.bool br) :=
  ⟨h.cell 0, h.cell 1, h.cell 2, h.cell 3, h.cell 4, h.cell 5⟩
set_option maxHeartbeats 2000000 in
set_option maxRecDepth 100000 in
theorem rPlay_any (F : Frm) (n : Int) (C p base gd x xo : Nat) (v : Value) (o : Option Nat) (left : Nat → Int) (w : World) (hF : F.Ok) (hC : IFun w C 2 .i64 1025 cosN) (hP : Cel w p 94 (plC C (.slice (some ⟨x, xo, none⟩) 128 128) (.slice (ahA o) (ahN o) (ahN o)) (!F.wh) (.slice none 0 0) false))
    (hx : NumAt w x xo 128 2 .i64 left) (hlb : ∀ j, j < 128 → (left j).natAbs ≤ 1073741000) (hA : AhAt w F.wh o F.ah) (hD : DecMem w base gd v F.bytes (decNew (byteF F.bytes))) (n0 : 0 ≤ n) (n1 : n ≤ 4294967295) :
    Calls Tryz.prog 44 #[.pointer (some ⟨p, 0, none⟩), .pointer (some ⟨gd, 0, none⟩), .int .u32 n] w (PlayPost F n C p gd left w) := by
  obtain ⟨D0, D1, D2, D3, D4, D5, h0, hB⟩ := hF.playB
  rw [h0] at hD
  generalize F.bytes = b at hD hB
  have HF := Lib.hid hF
  have HC := Lib.hid hC
  have HX := Lib.hid hx
  have HLB := Lib.hid hlb
  have HA := Lib.hid hA
  have HD0 := Lib.hid hD
  have HB := Lib.hid hB
  have HN := Lib.hid (And.intro n0 n1)
  have hpg := Lib.hid (hP.ne hD.1 (by decide))
  have HQ := Lib.hid hF.q
  obtain ⟨bb, hbb⟩ : ∃ bb, bb = b2 F.br := ⟨_, rfl⟩
  have HBB : RowKit.Hid (b2 F.br = bb) := hbb.symm
  have hb1 : (bb == 1) = F.br := by rw [hbb]; cases F.br <;> rfl
  obtain ⟨Q, hQ⟩ : ∃ Q, Q = F.Q := ⟨_, rfl⟩
  have HQQ : RowKit.Hid (F.Q = Q) := hQ.symm
  have q0 : 1 ≤ Q := by rw [hQ]; exact hF.q.1
  have q1 : Q ≤ 10 := by rw [hQ]; exact hF.q.2
  obtain ⟨wh, hwh⟩ : ∃ wh, wh = F.wh := ⟨_, rfl⟩
  have HWB : RowKit.Hid (b2 F.wh = b2 wh) := by show _ = _; rw [hwh]
  have HON : RowKit.Hid (wh = true → o = none) := fun e => by
    rcases hA with ⟨_, h, _⟩ | ⟨h, _⟩
    · exact h
    · rw [← hwh, e] at h; cases h
  rw [← hwh] at hP
  have HP := Lib.hid hP
  have HLo := Lib.hid hF.loss.1
  clear hF hC hP hx hlb hA hD hB n0 n1 h0 hbb hQ hwh
  have hb2 : (b2 wh = 1 ∧ wh = true) ∨ (b2 wh = 0 ∧ wh = false) := by cases wh <;> simp [b2]
  obtain ⟨wb, hwb⟩ : ∃ wb, wb = b2 wh := ⟨_, rfl⟩
  rw [← hwb] at HWB hb2
  clear hwb
  rcases hb2 with ⟨rfl, rfl⟩ | ⟨rfl, rfl⟩
  all_goals
    try (obtain rfl := HON.out rfl)
    go_enter Tryz.func44, Tryz.ntmps44
    go_wp2_with (first
      | (go_at_call 79; go_loud (refine (rBits_at base gd v b D3 D4 F.lo 5 _ HD3.out HB.out.bd HB.out.len HB.out.i.2.2.2.1 HB.out.g.2.2.2.1 (by decide) HB.out.e4).mono ?_); rintro e w4 ⟨rfl, d4, k4⟩; have HD4 := Lib.hid d4; have HK4 : RowKit.Hid (Keeps (fun j => j = gd) w w4) := HK3.out.trans k4; clear d4 k4; have HP4 := Lib.hid (HP.out.keeps HK4.out hpg.out); obtain ⟨c0, c1, c2, c3, c4, c5⟩ := plC_at HP4.out)
      | (go_at_call 79; go_loud (refine (rBits_at base gd v b D2 D3 F.Q 4 _ HD2.out HB.out.bd HB.out.len HB.out.i.2.2.1 HB.out.g.2.2.1 (by decide) HB.out.e3).mono ?_); rintro e w3 ⟨rfl, d3, k3⟩; have HD3 := Lib.hid d3; have HK3 : RowKit.Hid (Keeps (fun j => j = gd) w w3) := HK2.out.trans k3; clear d3 k3; rw [HQQ.out])
      | (go_at_call 79; go_loud (refine (rBits_at base gd v b D1 D2 (b2 F.br) 1 _ HD1.out HB.out.bd HB.out.len HB.out.i.2.1 HB.out.g.2.1 (by decide) HB.out.e2).mono ?_); rintro e w2 ⟨rfl, d2, k2⟩; have HD2 := Lib.hid d2; have HK2 : RowKit.Hid (Keeps (fun j => j = gd) w w2) := HK1.out.trans k2; clear d2 k2; rw [HBB.out])
      | (go_at_call 79; go_loud (refine (rBits_at base gd v b D0 D1 (b2 F.wh) 1 _ HD0.out HB.out.bd HB.out.len HB.out.i.1 HB.out.g.1 (by decide) HB.out.e1).mono ?_); rintro e w1 ⟨rfl, d1, k1⟩; have HD1 := Lib.hid d1; have HK1 := Lib.hid k1; clear d1 k1; rw [HWB.out])
      | (go_at_call 80; go_loud (refine (rGet_any base gd v b D4 D5 F.wh _ F.ah F.l _ w4 HD4.out HB.out.g.2.2.2.2.1 HB.out.bd HB.out.len HB.out.i.2.2.2.2.1 (HA.out.keeps HK4.out fun r hr => Cel.ne hr HD0.out.1 (by decide)) HB.out.l HF.out.l HB.out.e5).mono ?_); rintro e w5 ⟨a5, c5', rfl, i5, d5, k5⟩; have HI5 := Lib.hid i5; have HD5 := Lib.hid d5; have HK5 : RowKit.Hid (Keeps (fun j => j = gd) w w5) := HK4.out.trans k5; clear i5 d5 k5)
      | (go_at_call 39; go_loud (refine (ref10Steps_any a5 c5' (tabF 21 F.l) Q F.lo _ HI5.out ⟨HF.out.l.right, q0, q1, by omega, by have := HLo.out; omega⟩).mono ?_); rintro e w6 ⟨a6, c6, rfl, i6, b6⟩; rw [HF.out.l.tab] at i6; have HI6 : RowKit.Hid (IntsAt w6 w6.heap.size .i64 a6 21 (tabF 21 F.steps)) := (by rw [← HQQ.out] at i6; exact i6); have HI5b := Lib.hid (HI5.out.now b6 (Nat.le_refl _)); have HD6 := Lib.hid (HD5.out.below b6); have HK6 : RowKit.Hid (Keeps (fun j => j = gd) w w6) := HK5.out.trans (Keeps.of_below b6); clear i6 b6)
      | (go_at_call 81; go_loud (refine (rLines_any F base gd v b D5 a5 a6 c5' c6 n _ HF.out HD6.out HB.out.g.2.2.2.2.2 HB.out.bd HB.out.len HB.out.i.2.2.2.2.2 HI5b.out HI6.out HN.out.1 HN.out.2 HB.out.o HB.out.k).mono ?_); rintro e w7 ⟨x7, o7, c7, rfl, l7, h7, k7⟩; have HL7 := Lib.hid l7; have HH7 := Lib.hid h7; have HK7 : RowKit.Hid (Keeps (fun j => j = gd) w w7) := HK6.out.trans k7; clear l7 h7 k7)
      | (go_at_call 82; go_loud (refine (rHeld_any x7 o7 c7 (F.out n) _ HL7.out HH7.out (fun j hj => HF.out.out n hj)).mono ?_); rintro e w8 ⟨v8, rfl, o8, b8⟩; obtain ⟨y8, p8, rfl, s8, t8, u8, _⟩ := own_num o8 (by decide); have HU8 : RowKit.Hid (NumAt w8 y8 0 512 2 .i64 (F.held n)) := u8; have HK8 : RowKit.Hid (Keeps (fun j => j = gd) w w8) := HK7.out.trans (Keeps.of_below b8); have HP8 := Lib.hid (HP.out.keeps HK8.out hpg.out); clear o8 b8 u8; obtain ⟨k0, k1, k2, k3, k4, k5⟩ := plC_at HP8.out; have z2 := HP8.out.frozen 2; have z3 := HP8.out.frozen 3; have z4 := HP8.out.frozen 4; have z5 := HP8.out.frozen 5)
      | (go_at_call 83; have KW : RowKit.Hid (Keeps (· = p) w8 ((((w8.setCell ⟨p, 4, none⟩ (.slice (some ⟨y8, 0, none⟩) 512 p8)).setCell ⟨p, 5, none⟩ (.bool F.br)).setCell ⟨p, 2, none⟩ (.slice a5 21 c5')).setCell ⟨p, 3, none⟩ (.bool true))) := ((((Keeps.set1 _).trans (Keeps.set1 _)).trans (Keeps.set1 _)).trans (Keeps.set1 _)); have PW : RowKit.Hid (Cel ((((w8.setCell ⟨p, 4, none⟩ (.slice (some ⟨y8, 0, none⟩) 512 p8)).setCell ⟨p, 5, none⟩ (.bool F.br)).setCell ⟨p, 2, none⟩ (.slice a5 21 c5')).setCell ⟨p, 3, none⟩ (.bool true)) p 94 (plC C (.slice (some ⟨x, xo, none⟩) 128 128) (.slice a5 21 c5') true (.slice (some ⟨y8, 0, none⟩) 512 p8) F.br)) := ((((HP8.out.set_ 4 _).set_ 5 _).set_ 2 _).set_ 3 _); have CW := Lib.hid (Cel.keeps (Cel.keeps HC.out HK8.out (Cel.ne HC.out HD0.out.1 (by decide))) KW.out (Cel.ne (Cel.keeps HC.out HK8.out (Cel.ne HC.out HD0.out.1 (by decide))) HP8.out (by decide))); have YW := Lib.hid (HU8.out.keeps KW.out (HU8.out.1.ne (Cel.typ HP8.out) (by decide))); have XW := Lib.hid ((HX.out.keeps HK8.out (HX.out.1.ne (Cel.typ HD0.out.1) (by decide))).keeps KW.out (HX.out.1.ne (Cel.typ HP.out) (by decide))); go_loud (refine (rSound_any C p y8 0 p8 x xo (.slice a5 21 c5') true F.br (F.held n) left _ CW.out PW.out YW.out XW.out (fun j _ => F.held_bd n j) HLB.out).mono ?_); rintro e w9 ⟨b9, c9, x9, o9, rfl, n9, p9, l9, k9⟩; have HN9 := Lib.hid n9; have HP9 := Lib.hid p9; have HL9 := Lib.hid l9; have HK9 : RowKit.Hid (Keeps (fun j => j = p ∨ j = gd) w w9) := ((HK8.out.mono fun j hj => .inr hj).trans (KW.out.mono fun j hj => .inl hj)).trans (k9.mono fun j hj => .inl hj); clear n9 p9 l9 k9))
    go_ret2
    exact ⟨b9, c9, x9, o9, _, _, rfl, HN9.out, HP9.out, HL9.out, HK9.out⟩
end Go.Proofs.YtmgfkdmjgjlkjaaGreat
