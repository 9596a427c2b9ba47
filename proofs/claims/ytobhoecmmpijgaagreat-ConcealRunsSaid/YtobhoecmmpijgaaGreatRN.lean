/- Plain facts, and what functions give, for the proofs of this seat: several texts in one, each with its own first remark. -/
import Derived.Test.YtobhoecmmpijgaaGreatRt
import Derived.Test.YtobhoecmmpijgaaGreatRK
import Derived.Test.YtobhoecmmpijgaaGreatRx
import Derived.Test.YtobhoecmmpijgaaGreatRM
import Derived.Test.YtobhoecmmpijgaaGreatRn

/- What the document's Steps and Reach give. -/
namespace Go.Proofs.YtobhoecmmpijgaaGreat
open Go.RowKit
set_option linter.unusedVariables false

theorem tabF_snocM (F : Nat → Int) (k : Nat) {y : Int} (h : y = F k) : tabF k F ++ [y] = tabF (k + 1) F := by
  subst h; unfold tabF; rw [List.range_succ, List.map_append]; rfl
/-- What the document's steps' making leaves. -/
def RefStepsPost (l : Nat → Int) (q x : Int) (w : World) (e : Ending) (w' : World) : Prop :=
  ∃ a c, e = .returned (.slice a 21 c) ∧ IntsAt w' w'.heap.size .i64 a 21 (tabF 21 (stepF l q x)) ∧ Below w.heap.size w w'
set_option maxHeartbeats 1000000 in
set_option maxRecDepth 100000 in
theorem ref10Steps_any (a : Option Addr) (cap : Nat) (zs : List Int) (q x : Int) (w : World) (h : IntsAt w w.heap.size .i64 a 21 zs) (hok : mayStep zs q x) :
    Calls Tryz.prog 29 #[.slice a 21 cap, .int .i64 q, .int .i64 x] w (RefStepsPost (fun j => zs.getD j 0) q x w) := by
  obtain ⟨hr, q0, q1, x0, x1⟩ := hok
  have H0 := Lib.hid h
  have HRb := Lib.hid (rightB_true hr).2
  obtain ⟨F, hF⟩ : ∃ F, F = stepF (fun j => zs.getD j 0) q x := ⟨_, rfl⟩
  have HF := Lib.hid hF
  have HE : RowKit.Hid (∀ k, F k = min (max (max (thrTo (fun j => zs.getD j 0) k 21 - q + x) (zs.getD k 0 - 12)) 0) (zs.getD k 0)) := fun k => by rw [hF]; rfl
  have HI0 : RowKit.Hid (w.ownsRow w.heap.size 3 1 (.slice none 0 0) 0 ((tabF 0 F).map (Value.int .i64)) ∧ Below w.heap.size w w) := ⟨World.ownsRow_nil w w.heap.size 3 1, Below.refl _ _⟩
  have HSn := Lib.hid (fun k (y : Int) (h : y = F k) => tabF_snocM F k h)
  clear h hr hF
  go_enter Tryz.func29, Tryz.ntmps29
  go_wp2
  go_loopw [7, 8] (fun v i wr => ∃ (k : Nat) (u : Value), u = v ∧ k ≤ 21 ∧ i = .int .i64 (k : Int) ∧ RowKit.Hid (wr.ownsRow w.heap.size 3 1 u k ((tabF k F).map (Value.int .i64)) ∧ Below w.heap.size w wr)) (fun _ i _ => 21 - (intOf i).toNat)
  case atStart => exact ⟨0, _, rfl, by omega, rfl, HI0.out⟩
  case round =>
    obtain ⟨k, u, rfl, hk, rfl, H⟩ := hrel
    clear HI0
    by_cases hlt : k < 21
    · have HW : RowKit.Hid (IntsAt wr wr.heap.size .i64 a 21 zs) := H0.out.now H.out.2 (Nat.le_refl _)
      have hsz := H.out.2.size
      have HA : RowKit.Hid (∀ y, (wr.alloc (.cells #[.int .i64 y] 3)).ownsRow w.heap.size 3 1 u k ((tabF k F).map (Value.int .i64))) := fun y => World.ownsRow.alloc H.out.1 _
      have HAB : RowKit.Hid (∀ y, Below w.heap.size w (wr.alloc (.cells #[.int .i64 y] 3))) := fun y => H.out.2.alloc hsz _
      have HSr : RowKit.Hid (∀ y, IntsAt (wr.alloc (.cells #[.int .i64 y] 3)) (wr.alloc (.cells #[.int .i64 y] 3)).heap.size .i64 (some ⟨wr.heap.size, 0, none⟩) 1 [y]) := fun y => lit_ints wr 3 .i64 [y] #[.int .i64 y] (0, 0) rfl (by simp)
      have HOB := Lib.hid (own_base H.out.1)
      obtain ⟨T, hT⟩ : ∃ T, T = thrTo (fun j => zs.getD j 0) k := ⟨_, rfl⟩
      have HV := Lib.hid (HE.out k)
      have HB : RowKit.Hid (∀ n, n ≤ 21 → 0 ≤ T n ∧ T n ≤ 26) := fun n hn => by rw [hT]; exact thrTo_bd hlt n hn fun j hj => HRb.out j (by omega)
      have HS : RowKit.Hid (∀ n, T (n + 1) = max (T n) (zs.getD n 0 - fadeF n k)) := fun n => by rw [hT]; rfl
      have HZ : RowKit.Hid (T 0 = 0) := by show _ = _; rw [hT]; rfl
      rw [← hT] at HV
      clear hT H
      have l1 : (k : Int) < 21 := by omega
      go_wp2
      go_loop [9, 10] (fun m i => ∃ j : Nat, j ≤ 21 ∧ i = .int .i64 (j : Int) ∧ m = .int .i64 (T j)) (fun _ i => 21 - (intOf i).toNat)
      case atStart => exact ⟨0, by omega, rfl, by rw [HZ.out]⟩
      case round =>
        obtain ⟨j, hj, rfl, rfl⟩ := hrel
        by_cases hlj : j < 21
        · obtain ⟨bb, off, rfl, _, _, hcell⟩ := HW.out.at_ hlj
          obtain ⟨x0, x1⟩ := HRb.out j hlj
          obtain ⟨t0, t1⟩ := HB.out j (by omega)
          have HN := Lib.hid (HS.out j)
          generalize zs.getD j 0 = x at hcell x0 x1 HN
          generalize T j = t at t0 t1 HN
          have l2 : (j : Int) < 21 := by omega
          by_cases hjk : j < k
          · have HFd := Lib.hid (fadeF_below hjk)
            have l3 : ¬ (k : Int) < (j : Int) := by omega
            go_wp2
            all_goals
              go_round
              case rel => exact ⟨j + 1, by omega, by go_num, by rw [HN.out, HFd.out]; go_num⟩
              case measure => simp [intOf] <;> omega
          · have HFd := Lib.hid (fadeF_above hjk)
            by_cases hjk2 : j = k
            · subst hjk2
              clear hjk
              have l3 : ¬ (j : Int) < (j : Int) := by omega
              go_wp2
              all_goals
                go_round
                case rel => exact ⟨j + 1, by omega, by go_num, by rw [HN.out, HFd.out]; go_num⟩
                case measure => simp [intOf] <;> omega
            · have l3 : (k : Int) < (j : Int) := by omega
              go_wp2
              all_goals
                go_round
                case rel => exact ⟨j + 1, by omega, by go_num, by rw [HN.out, HFd.out]; go_num⟩
                case measure => simp [intOf] <;> omega
        · obtain rfl : j = 21 := by omega
          obtain ⟨bb, off, rfl, _, _, hcell⟩ := HW.out.at_ hlt
          obtain ⟨n0, n1⟩ := HRb.out k hlt
          obtain ⟨t0, t1⟩ := HB.out 21 (by omega)
          generalize zs.getD k 0 = n at hcell n0 n1 HV
          generalize T 21 = t at t0 t1 HV
          go_wp2_with (at_builtin; go_loud (refine append_ints rfl _ _ 72 rfl w.heap.size 3 .i64 8 Tryz.underlying72 infoE_int _ k (tabF k F) rfl (HA.out _) (some ⟨wr.heap.size, 0, none⟩) 1 1 _ [_] rfl (HSr.out _) (by simp) (by unfold maxLen; omega) (by omega) (by simp; omega) ?_); intro v2 w2 hown hgrow _; rw [HSn.out k _ (by rw [HV.out]; omega)] at hown; have H2 : RowKit.Hid (w2.ownsRow w.heap.size 3 1 v2 (k + 1) ((tabF (k + 1) F).map (Value.int .i64)) ∧ Below w.heap.size w w2) := ⟨hown, (HAB.out _).grown hgrow (by simp; omega) HOB.out⟩; clear hown hgrow)
          all_goals
            go_roundw
            case rel => exact ⟨k + 1, v2, rfl, by omega, by go_num, H2.out⟩
            case measure => simp [intOf] <;> omega
    · obtain rfl : k = 21 := by omega
      have HI := Lib.hid (own_ints H.out.1)
      have HB := Lib.hid H.out.2
      clear H
      go_wp2
      go_ret
      obtain ⟨a, c, rfl, hi⟩ := HI.out
      exact ⟨a, c, rfl, by rw [← HF.out]; exact hi, HB.out⟩
end Go.Proofs.YtobhoecmmpijgaaGreat

/- What the document's Reach gives. -/
namespace Go.Proofs.YtobhoecmmpijgaaGreat
open Go.RowKit
set_option linter.unusedVariables false

theorem oneF_nat {n s : Nat} : oneF (n : Int) (s : Int) = if s < n then 2 ^ s else 2 ^ (n + 1) := by
  unfold oneF
  by_cases h : s < n
  · rw [if_pos (by omega), if_pos h]; rfl
  · rw [if_neg (by omega), if_neg h]; rfl
set_option maxHeartbeats 1000000 in
set_option maxRecDepth 100000 in
theorem ref10Reach_any (a a2 : Option Addr) (cap cap2 : Nat) (zs ss : List Int) (w : World) (h : IntsAt w w.heap.size .i64 a 21 zs) (h2 : IntsAt w w.heap.size .i64 a2 21 ss) (hr : rightB zs = true) (hs : rightB ss = true) :
    Calls Tryz.prog 32 #[.slice a 21 cap, .slice a2 21 cap2] w fun e w' => e = .returned (.int .i64 (reachTo (fun j => zs.getD j 0) (fun j => ss.getD j 0) 21)) ∧ Below w.heap.size w w' := by
  have H0 := Lib.hid h
  have H2 := Lib.hid h2
  have HZb := Lib.hid (rightB_true hr).2
  have HSb := Lib.hid (rightB_true hs).2
  obtain ⟨T, hT⟩ : ∃ T, T = reachTo (fun j => zs.getD j 0) (fun j => ss.getD j 0) := ⟨_, rfl⟩
  have HB : RowKit.Hid (∀ n, n ≤ 21 → 0 ≤ T n ∧ T n ≤ 68719476736 * n) := fun n hn => by rw [hT]; exact reachTo_bd n hn fun j hj => ⟨(HZb.out j (by omega)).2, (HSb.out j (by omega)).2⟩
  have HS : RowKit.Hid (∀ n, T (n + 1) = T n + ((edgeK (n + 1) : Int) - edgeK n) * oneF (zs.getD n 0) (ss.getD n 0)) := fun n => by rw [hT]; rfl
  have HZ : RowKit.Hid (T 0 = 0) := by show _ = _; rw [hT]; rfl
  rw [← hT]
  clear h h2 hr hs hT
  go_enter Tryz.func32, Tryz.ntmps32
  go_wp2_with (go_at_call 53; go_loud (refine (ref04Edges_any _).mono ?_); rintro e w1 ⟨ea, ec, rfl, hi, hbl⟩; obtain ⟨eb, eo, rfl⟩ := ints_some hi (by decide); have HE1 := Lib.hid hi; have HB1 := Lib.hid hbl; clear hi hbl)
  have HL0 : RowKit.Hid (IntsAt w1 w1.heap.size .i64 a 21 zs) := H0.out.now HB1.out (Nat.le_refl _)
  have HL2 : RowKit.Hid (IntsAt w1 w1.heap.size .i64 a2 21 ss) := H2.out.now HB1.out (Nat.le_refl _)
  have HE : RowKit.Hid (∀ k, k < 22 → w1.cell? ⟨eb, eo + k, none⟩ = some (.int .i64 (edgeK k : Int))) := fun k hk => edges_at HE1.out hk
  clear HE1
  go_loopw [6, 7] (fun m i wr => ∃ k : Nat, k ≤ 21 ∧ i = .int .i64 (k : Int) ∧ m = .int .i64 (T k) ∧ RowKit.Hid (∃ q, wr = w1.drewN q)) (fun _ i _ => 21 - (intOf i).toNat)
  case atStart => exact ⟨0, by omega, rfl, by rw [HZ.out], 0, rfl⟩
  case round =>
    obtain ⟨k, hk, rfl, rfl, HW⟩ := hrel
    by_cases hlt : k < 21
    · obtain ⟨b, off, rfl, _, _, c1⟩ := HL0.out.at_ hlt
      obtain ⟨b2, off2, rfl, _, _, c2⟩ := HL2.out.at_ hlt
      have HV := Lib.hid (HS.out k)
      obtain ⟨n0, n1⟩ := HZb.out k hlt
      obtain ⟨s0, s1⟩ := HSb.out k hlt
      obtain ⟨y0, y1⟩ := oneF_bd (n := zs.getD k 0) (s := ss.getD k 0) n1 s1
      generalize zs.getD k 0 = nz at c1 HV n0 n1 y0 y1
      generalize ss.getD k 0 = sz at c2 HV s0 s1 y0 y1
      obtain ⟨n, rfl⟩ := Int.eq_ofNat_of_zero_le n0
      obtain ⟨s, rfl⟩ := Int.eq_ofNat_of_zero_le s0
      have HK : RowKit.Hid (∀ v : World, (∃ q, v = w1.drewN q) → v.cell? ⟨b, off + k, none⟩ = some (.int .i64 (n : Int)) ∧ v.cell? ⟨b2, off2 + k, none⟩ = some (.int .i64 (s : Int)) ∧ v.cell? ⟨eb, eo + k, none⟩ = some (.int .i64 (edgeK k : Int)) ∧ v.cell? ⟨eb, eo + (k + 1), none⟩ = some (.int .i64 (edgeK (k + 1) : Int))) := fun v hv => by
        obtain ⟨q, rfl⟩ := hv
        exact ⟨c1, c2, HE.out k (by omega), HE.out (k + 1) (by omega)⟩
      have HD : RowKit.Hid (∀ (v : World) (m : Nat), (∃ q, v = w1.drewN q) → ∃ q, v.drewN m = w1.drewN q) := fun v m hv => by obtain ⟨q, rfl⟩ := hv; exact ⟨q + m, drewE_add _ _ _⟩
      clear c1 c2
      obtain ⟨e1, e2⟩ := edgeK_lt k hlt
      obtain ⟨t0, t1⟩ := HB.out k (by omega)
      have ht1 : T k ≤ 1443109011456 := by omega
      generalize edgeK (k + 1) = E1 at HK e1 e2 HV
      generalize edgeK k = E0 at HK e1 HV
      obtain ⟨pn0, pn1⟩ := pow_bd27 (k := n) (by omega)
      obtain ⟨pn2, pn3⟩ := pow_bd27 (k := n + 1) (by omega)
      have gn : IntKind.i64.wrap (2 * 2 ^ n) = 2 * 2 ^ n := IntWalk.i64_in _ (by omega)
      have HPn : RowKit.Hid ((2 : Int) * 2 ^ n = 2 ^ (n + 1)) := by show _ = _; rw [Int.pow_succ]; omega
      obtain ⟨ps0, ps1⟩ := pow_bd27 (k := s) (by omega)
      have gs : IntKind.i64.wrap (2 ^ s) = 2 ^ s := IntWalk.i64_in _ (by omega)
      rw [oneF_nat] at HV y0 y1
      obtain ⟨D, hD⟩ : ∃ D, D = (E1 : Int) - E0 := ⟨_, rfl⟩
      rw [← hD] at HV
      have d1 : (E1 : Int) - E0 = D := hD.symm
      have E1b : E1 ≤ 512 := e2
      have D0 : 0 ≤ D := by omega
      have D1 : D ≤ 512 := by omega
      have l1 : (k : Int) < 21 := by omega
      clear hD t1 e1 e2
      generalize T k = t at t0 ht1 HV
      by_cases hc : s < n
      · rw [if_pos hc] at HV y0 y1
        have l2 : (s : Int) < (n : Int) := by omega
        obtain ⟨P, hP⟩ : ∃ P, P = D * 2 ^ s := ⟨_, rfl⟩
        have p0 : 0 ≤ D * 2 ^ s := Int.mul_nonneg (by omega) (by omega)
        have p1 : D * 2 ^ s ≤ 512 * 134217728 := Int.mul_le_mul (by omega) y1 (by omega) (by decide)
        rw [← hP] at HV p0 p1
        have d2 : D * 2 ^ s = P := hP.symm
        have HP1 : P ≤ 68719476736 := by omega
        clear hP p1 hc
        obtain ⟨i1, i2, i3, i4⟩ := HK.out wr HW.out
        go_wp2
        go_quiet (fail)
        obtain ⟨wq, hw⟩ : ∃ wq, wq = wr.drewN nq := ⟨_, rfl⟩
        rw [← hw]
        have HW1 : RowKit.Hid (∃ q, wq = w1.drewN q) := by show ∃ q, _; rw [hw]; exact HD.out _ _ HW.out
        clear hw i1 i2 i3 i4 nq
        obtain ⟨i1, i2, i3, i4⟩ := HK.out wq HW1.out
        go_wp2
        go_quiet (fail)
        obtain ⟨wp, hw⟩ : ∃ wp, wp = wq.drewN nq := ⟨_, rfl⟩
        rw [← hw]
        have HW2 : RowKit.Hid (∃ q, wp = w1.drewN q) := by show ∃ q, _; rw [hw]; exact HD.out _ _ HW1.out
        clear hw i1 i2 i3 i4 nq
        go_wp2
        go_roundw
        case rel => exact ⟨k + 1, by omega, by go_num, by rw [HV.out], HW2.out⟩
        case measure => simp [intOf] <;> omega
      · rw [if_neg hc] at HV y0 y1
        have l2 : ¬ (s : Int) < (n : Int) := by omega
        obtain ⟨P, hP⟩ : ∃ P, P = D * 2 ^ (n + 1) := ⟨_, rfl⟩
        have p0 : 0 ≤ D * 2 ^ (n + 1) := Int.mul_nonneg (by omega) (by omega)
        have p1 : D * 2 ^ (n + 1) ≤ 512 * 134217728 := Int.mul_le_mul (by omega) y1 (by omega) (by decide)
        rw [← hP] at HV p0 p1
        have d2 : D * 2 ^ (n + 1) = P := hP.symm
        have HP1 : P ≤ 68719476736 := by omega
        clear hP p1 hc
        rw [← HPn.out] at d2
        obtain ⟨i1, i2, i3, i4⟩ := HK.out wr HW.out
        go_wp2
        go_quiet (fail)
        obtain ⟨wq, hw⟩ : ∃ wq, wq = wr.drewN nq := ⟨_, rfl⟩
        rw [← hw]
        have HW1 : RowKit.Hid (∃ q, wq = w1.drewN q) := by show ∃ q, _; rw [hw]; exact HD.out _ _ HW.out
        clear hw i1 i2 i3 i4 nq
        obtain ⟨i1, i2, i3, i4⟩ := HK.out wq HW1.out
        go_wp2
        go_quiet (fail)
        obtain ⟨wp, hw⟩ : ∃ wp, wp = wq.drewN nq := ⟨_, rfl⟩
        rw [← hw]
        have HW2 : RowKit.Hid (∃ q, wp = w1.drewN q) := by show ∃ q, _; rw [hw]; exact HD.out _ _ HW1.out
        clear hw i1 i2 i3 i4 nq
        go_wp2
        go_roundw
        case rel => exact ⟨k + 1, by omega, by go_num, by rw [HV.out], HW2.out⟩
        case measure => simp [intOf] <;> omega
    · obtain rfl : k = 21 := by omega
      have HK : RowKit.Hid (Below w.heap.size w wr) := by obtain ⟨q, e⟩ := HW.out; show Below _ _ _; rw [e]; exact Below.drewN' HB1.out q
      go_wp2
      go_ret
      exact ⟨rfl, HK.out⟩
end Go.Proofs.YtobhoecmmpijgaaGreat

/- What comes back of a frame; a player's sound, by the document. -/
namespace Go.Proofs.YtobhoecmmpijgaaGreat
open Go Go.RowKit
set_option linter.unusedVariables false
set_option linter.unusedSimpArgs false

structure Frm.Back (F : Frm) : Prop where
  w : (decBits F.bytes (decNew (byteF F.bytes)) 0 1).1 = b2 F.wh
  r : (decBits F.bytes (decBits F.bytes (decNew (byteF F.bytes)) 0 1).2 0 1).1 = b2 F.br
  q : (decBits F.bytes (decBits F.bytes (decBits F.bytes (decNew (byteF F.bytes)) 0 1).2 0 1).2 0 4).1 = F.Q
  lo : (decBits F.bytes (decBits F.bytes (decBits F.bytes (decBits F.bytes (decNew (byteF F.bytes)) 0 1).2 0 1).2 0 4).2 0 5).1 = F.lo
  l : ∀ i, i < 21 → getV F.wh F.bytes (headD F.bytes) F.ah i = F.l i
  o : ∀ seed i, i < 512 → outF F.l F.steps (getQ (toldT F.l F.steps) F.bytes (getN F.wh F.bytes (headD F.bytes) F.ah 21)) seed i = F.out seed i
  k : ∀ i, i < 512 → okG F.l F.steps F.bytes (getN F.wh F.bytes (headD F.bytes) F.ah 21) i = true
theorem Frm.Ok.back {F : Frm} (h : F.Ok) : F.Back := by
  have hl := h.loss.1
  have hb := b2_bd F.br
  have hq := h.q
  obtain ⟨a1, a2, a3, a4, a5, a6, a7⟩ := pay_back (wh := F.wh) (br := b2 F.br) (qu := F.Q) (lo := F.lo) (l := F.l) (ah := F.ah) (x := F.x) (F := F.E F.lo) (b := F.bytes) rfl rfl hb.1 hb.2 (by omega) (by omega) (by omega) (by omega) (fun b => (h.l.bd b).1) (fun b _ => (h.l.bd b).2)
  exact ⟨a1, a2, a3, a4, a5, fun seed i hi => heard_back fun ht => a6 i hi ht, a7⟩
/-- The decoder's states. -/
theorem Frm.good0 (F : Frm) : GoodD (decNew (byteF F.bytes)) := by
  show GoodD (decNew (byteF (bytesE (F.E F.lo))))
  exact goodD_new (bytesL_dig _)
theorem Frm.Ok.len {F : Frm} (h : F.Ok) : F.bytes.length ≤ 600 := Nat.le_trans h.bytes_le h.b.2
/-! ### A player -/
def plC (C : Nat) (vl av : Value) (has : Bool) (vt : Value) (br : Bool) : Array Value := #[.slice (some ⟨C, 0, none⟩) 1025 1025, vl, av, .bool has, vt, .bool br]
def SoundPost (C p : Nat) (av : Value) (has : Bool) (vt : Value) (br : Bool) (l left : Nat → Int) (w : World) (e : Ending) (w' : World) : Prop :=
  ∃ b cap x off, e = .returned (.slice (some ⟨b, 0, none⟩) 512 cap) ∧ NumAt w' b 0 512 2 .i64 (samplesF br l left) ∧ Cel w' p 74 (plC C (.slice (some ⟨x, off, none⟩) 128 128) av has vt br) ∧ NumAt w' x off 128 2 .i64 (leftF br l) ∧ Keeps (· = p) w w'
set_option maxRecDepth 100000 in
theorem rSound_any (C p b off cap x xo : Nat) (av : Value) (has br : Bool) (l left : Nat → Int) (w : World) (hC : IFun w C 2 .i64 1025 cosN) (hP : Cel w p 74 (plC C (.slice (some ⟨x, xo, none⟩) 128 128) av has (.slice (some ⟨b, off, none⟩) 512 cap) br))
    (hl : NumAt w b off 512 2 .i64 l) (hx : NumAt w x xo 128 2 .i64 left) (hb : ∀ j, j < 512 → -33554432 ≤ l j ∧ l j ≤ 33554431) (hlb : ∀ j, j < 128 → (left j).natAbs ≤ 1073741000) :
    Calls Tryz.prog 66 #[.pointer (some ⟨p, 0, none⟩)] w (SoundPost C p av has (.slice (some ⟨b, off, none⟩) 512 cap) br l left w) := by
  have HC := Lib.hid hC
  have HP := Lib.hid hP
  have HL := Lib.hid hl
  have HX := Lib.hid hx
  have HB := Lib.hid hb
  have HLB := Lib.hid hlb
  have c0 : w.cell? ⟨p, 0, none⟩ = some (.slice (some ⟨C, 0, none⟩) 1025 1025) := hP.cell 0
  have c1 : w.cell? ⟨p, 1, none⟩ = some (.slice (some ⟨x, xo, none⟩) 128 128) := hP.cell 1
  have c4 : w.cell? ⟨p, 4, none⟩ = some (.slice (some ⟨b, off, none⟩) 512 cap) := hP.cell 4
  have c5 : w.cell? ⟨p, 5, none⟩ = some (.bool br) := hP.cell 5
  have HW : RowKit.Hid (∀ j : Nat, j < 128 → bothF br l left (512 + j) = leftF br l j) := fun j _ => by
    unfold bothF leftF
    rw [if_neg (by omega), Int.add_zero]
  clear hC hP hl hx hb hlb
  go_enter Tryz.func66, Tryz.ntmps66
  go_wp2
  go_region_held3 (fun w' => w'.cell? ⟨p, 0, none⟩ = some (.slice (some ⟨C, 0, none⟩) 1025 1025) ∧ w'.cell? ⟨p, 1, none⟩ = some (.slice (some ⟨x, xo, none⟩) 128 128) ∧ w'.cell? ⟨p, 4, none⟩ = some (.slice (some ⟨b, off, none⟩) 512 cap) ∧ w'.cell? ⟨p, 5, none⟩ = some (.bool br)) (go_keep) (first
    | (go_at_call 98; go_loud (refine (ref9Samples_any C cap 128 (some ⟨b, off, none⟩) (some ⟨x, xo, none⟩) l left br w.drew HC.out (show FnAt w w.heap.size .i64 _ 512 l from HL.out.fn) (show FnAt w w.heap.size .i64 _ 128 left from HX.out.fn) HB.out HLB.out).mono ?_); rintro e w1 ⟨v1, g1, rfl, o1, i1, s1, b1⟩; have HO1 := Lib.hid o1; have HI1 := Lib.hid i1; have HB1 : RowKit.Hid (Below w.heap.size w w1) := chain (Below.drewN' (Below.refl _ w) 1) b1; have HP1 := Lib.hid (HP.out.below HB1.out); clear o1 i1 s1 b1; have d0 : w1.cell? ⟨p, 0, none⟩ = some (.slice (some ⟨C, 0, none⟩) 1025 1025) := HP1.out.cell 0; have d1 : w1.cell? ⟨p, 1, none⟩ = some (.slice (some ⟨x, xo, none⟩) 128 128) := HP1.out.cell 1; have d4 : w1.cell? ⟨p, 4, none⟩ = some (.slice (some ⟨b, off, none⟩) 512 cap) := HP1.out.cell 4; have d5 : w1.cell? ⟨p, 5, none⟩ = some (.bool br) := HP1.out.cell 5; have z1 := HP1.out.frozen 1)
    | fail)
  go_wp2
  go_ret
  obtain ⟨b2, cap2, rfl, e1, e2, e3, e4⟩ := own_num HO1.out (by decide)
  have K : Keeps (· = p) w1 (w1.setCell ⟨p, 1, none⟩ (.slice (some ⟨g1, 512, none⟩) 128 128)) := Keeps.set1 _
  have N : NumAt w1 g1 512 128 2 .i64 (leftF br l) := by
    have := HI1.out.num 512 128 (by decide)
    exact ⟨this.1, fun j hj => (this.2 j hj).trans (by show some (Value.int .i64 (bothF br l left (512 + j))) = _; rw [HW.out j hj])⟩
  have ne : ∀ {q off n : Nat} {f : Nat → Int}, NumAt w1 q off n 2 .i64 f → q ≠ p := fun h => h.1.ne (Cel.typ HP1.out) (by decide)
  exact ⟨b2, cap2, g1, 512, rfl, e3.keeps K (ne e3), HP1.out.set_ 1 _, N.keeps K (ne N), (Keeps.of_below HB1.out).trans K⟩
end Go.Proofs.YtobhoecmmpijgaaGreat
