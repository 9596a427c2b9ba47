/- Plain facts, and what functions give, for the proofs of this seat: several texts in one, each with its own first remark. -/
import Derived.Test.YtmgfkdmjgjlkjaaGreatAR

namespace Go.Proofs.YtmgfkdmjgjlkjaaGreat
open Go Go.RowKit
set_option linter.unusedVariables false
set_option linter.unusedSimpArgs false
theorem own_intsN {w : World} {base e n : Nat} {v : Value} {k : IntKind} {zs : List Int} (h : w.ownsRow base e 1 v n (zs.map (Value.int k))) : ∃ a c, v = .slice a n c ∧ IntsAt w w.heap.size k a n zs ∧ (a = none → c = 0) ∧ (∀ b off, a = some ⟨b, off, none⟩ → base ≤ b) := by
  obtain ⟨a, c, rfl, hi⟩ := own_ints h
  refine ⟨a, c, rfl, hi, own_none h, fun b off e => own_base h b ?_⟩
  rw [e]; rfl
def BytesPostN (b : List Int) (w : World) (x : Ending) (w' : World) : Prop := ∃ a c, x = .returned (.slice a b.length c) ∧ IntsAt w' w'.heap.size .u8 a b.length b ∧ (a = none → c = 0) ∧ (∀ q off, a = some ⟨q, off, none⟩ → w.heap.size ≤ q) ∧ Below w.heap.size w w'
set_option maxRecDepth 100000 in
theorem rBytes_any (base g r c : Nat) (D : List Int) (s : Int) (k : Nat) (w : World) (hE : EncMem w base g r c D s k) (hd : IsDig D) (hl : D.length ≤ 2000000) :
    Calls Tryz.prog 41 #[.pointer (some ⟨g, 0, none⟩)] w (BytesPostN (bytesL D) w) := by
  obtain ⟨c0, c1, c2⟩ := hE.cells
  have HE := Lib.hid hE
  have HD := Lib.hid hd
  clear hE hd c1 c2
  have HO := Lib.hid (World.ownsRow_nil w w.heap.size 5 1)
  go_enter Tryz.func41, Tryz.ntmps41
  go_wp2
  go_loop [4, 5] (fun a i => ∃ j : Nat, j ≤ D.length ∧ i = .int .i64 j ∧ a = .int .i64 (lastK D j)) (fun _ i => D.length - (intOf i).toNat)
  case atStart => exact ⟨0, by omega, rfl, rfl⟩
  case round =>
    obtain ⟨j, hj, rfl, rfl⟩ := hrel
    by_cases hlt : j < D.length
    · have hcell := HE.out.at_ hlt
      have E : RowKit.Hid (lastK D (j + 1) = if D.getD j 0 = 0 then lastK D j else j) := rfl
      have hjl : (j : Int) < (D.length : Int) := by omega
      generalize D.getD j 0 = x at hcell E
      by_cases hx : x = 0
      · have hq : (x != 0) = false := by simpa using hx
        have E2 : RowKit.Hid (lastK D j = lastK D (j + 1)) := by show _ = _; rw [E.out, if_pos hx]
        clear hx
        go_wp2
        go_round
        case rel => exact ⟨j + 1, by omega, by go_num, by rw [E2.out]⟩
        case measure => simp [intOf] <;> omega
      · have hq : (x != 0) = true := by simpa using hx
        have E2 : RowKit.Hid ((j : Int) = lastK D (j + 1)) := by show _ = _; rw [E.out, if_neg hx]
        clear hx
        go_wp2
        go_round
        case rel => exact ⟨j + 1, by omega, by go_num, by rw [E2.out]⟩
        case measure => simp [intOf] <;> omega
    · obtain rfl : j = D.length := by omega
      obtain ⟨b0, b1⟩ := lastK_bd D D.length
      have hbl := bytesL_len D
      obtain ⟨m, hm⟩ : ∃ m : Nat, lastK D D.length = (m : Int) - 1 := ⟨(lastK D D.length + 1).toNat, by omega⟩
      have hbm : (bytesL D).length = m := by rw [hbl, hm]; omega
      have HBm := Lib.hid hbm
      have HTk : RowKit.Hid (bytesL D = D.take m) := by
        show _ = _
        unfold bytesL; rw [hm]; congr 1; omega
      have hmD : m ≤ D.length := by omega
      rw [hm]
      clear hbl hm hbm b0 b1
      go_wp2
      go_loopw [3, 6] (fun v i wr => ∃ q : Nat, q ≤ m ∧ i = .int .i64 q ∧ RowKit.Hid (wr.ownsRow w.heap.size 5 1 v q ((D.take q).map (Value.int .u8)) ∧ Below w.heap.size w wr)) (fun _ i _ => m - (intOf i).toNat)
      case atStart => exact ⟨0, by omega, rfl, HO.out, Below.refl _ _⟩
      case round =>
        obtain ⟨q, hq, rfl, H⟩ := hrel
        clear c0
        have HEr := Lib.hid (HE.out.below H.out.2)
        obtain ⟨c0, _, _⟩ := HEr.out.cells
        by_cases hlt2 : q < m
        · have hcell := HEr.out.at_ (j := q) (by omega)
          obtain ⟨x0, x1⟩ := HD.out q (by omega)
          have HT := Lib.hid (take_snocI D q (by omega))
          have hql : (q : Int) < (D.length : Int) := by omega
          generalize D.getD q 0 = x at hcell x0 x1 HT
          have hsz := H.out.2.size
          have hown0 := Lib.hid (World.ownsRow.alloc H.out.1 (.cells #[.int .u8 x] 5))
          have hsrc := Lib.hid (lit_ints wr 5 .u8 [x] #[.int .u8 x] (0, 0) rfl (by simp))
          have hbel := Lib.hid (H.out.2.alloc hsz (.cells #[.int .u8 x] 5))
          have hob := Lib.hid (own_base H.out.1)
          have e1 : x % 256 = x := by omega
          go_wp2_with (at_builtin; go_loud (refine append_ints rfl _ _ 43 rfl w.heap.size 5 .u8 1 Tryz.underlying43 info_u806 _ q (D.take q) rfl hown0.out (some ⟨wr.heap.size, 0, none⟩) 1 1 _ [x] rfl hsrc.out (by simp) ?c1 ?c2 ?c3 ?_))
          case c1 => unfold maxLen; omega
          case c2 => omega
          case c3 => first | omega | (simp; omega)
          intro v2 w2 hown hgrow _
          have H2 : RowKit.Hid (w2.ownsRow w.heap.size 5 1 v2 (q + 1) ((D.take (q + 1)).map (Value.int .u8)) ∧ Below w.heap.size w w2) := by
            refine ⟨?_, hbel.out.grown hgrow (by simp; omega) hob.out⟩
            rw [HT.out]; simpa [List.map_take] using hown
          clear hown hgrow
          go_wp2
          go_roundw
          case rel => exact ⟨q + 1, by omega, by go_num, H2.out⟩
          case measure => simp [intOf] <;> omega
        · obtain rfl : q = m := by omega
          have HI := Lib.hid (own_intsN H.out.1)
          have HB2 := Lib.hid H.out.2
          clear H
          go_wp2
          go_ret
          obtain ⟨a, cc, rfl, hi, hn, hn2⟩ := HI.out
          refine ⟨a, cc, by rw [HBm.out]; rfl, ?_, hn, hn2, HB2.out⟩
          rw [HBm.out, HTk.out]; exact hi
theorem own_intsB {w : World} {base e n : Nat} {v : Value} {k : IntKind} {zs : List Int} (h : w.ownsRow base e 1 v n (zs.map (Value.int k))) : ∃ a c, v = .slice a n c ∧ IntsAt w w.heap.size k a n zs ∧ (∀ b off, a = some ⟨b, off, none⟩ → base ≤ b) := by
  obtain ⟨a, c, rfl, hi⟩ := own_ints h
  refine ⟨a, c, rfl, hi, fun b off e => own_base h b ?_⟩
  rw [e]; rfl
def StepsPostN (l : Nat → Int) (q x : Int) (w : World) (e : Ending) (w' : World) : Prop :=
  ∃ a c, e = .returned (.slice a 21 c) ∧ IntsAt w' w'.heap.size .i64 a 21 (tabF 21 (stepF l q x)) ∧ (∀ b off, a = some ⟨b, off, none⟩ → w.heap.size ≤ b) ∧ Below w.heap.size w w'
set_option maxHeartbeats 1000000 in
set_option maxRecDepth 100000 in
theorem rSteps_any (a : Option Addr) (cap : Nat) (zs : List Int) (q x : Int) (w : World) (h : IntsAt w w.heap.size .i64 a 21 zs) (hok : mayStep zs q x) :
    Calls Tryz.prog 39 #[.slice a 21 cap, .int .i64 q, .int .i64 x] w (StepsPostN (fun j => zs.getD j 0) q x w) := by
  obtain ⟨hr, q0, q1, x0, x1⟩ := hok
  have H0 := Lib.hid h
  have HRb := Lib.hid (rightB_true hr).2
  obtain ⟨F, hF⟩ : ∃ F, F = stepF (fun j => zs.getD j 0) q x := ⟨_, rfl⟩
  have HF := Lib.hid hF
  have HE : RowKit.Hid (∀ k, F k = min (max (max (thrTo (fun j => zs.getD j 0) k 21 - q + x) (zs.getD k 0 - 12)) 0) (zs.getD k 0)) := fun k => by rw [hF]; rfl
  have HI0 : RowKit.Hid (w.ownsRow w.heap.size 3 1 (.slice none 0 0) 0 ((tabF 0 F).map (Value.int .i64)) ∧ Below w.heap.size w w) := ⟨World.ownsRow_nil w w.heap.size 3 1, Below.refl _ _⟩
  have HSn := Lib.hid (fun k (y : Int) (h : y = F k) => tabF_snocM F k h)
  clear h hr hF
  go_enter Tryz.func39, Tryz.ntmps39
  go_wp2
  go_loopw [7, 8] (fun v i wr => ∃ (k : Nat) (u : Value), u = v ∧ k ≤ 21 ∧ i = .int .i64 (k : Int) ∧ RowKit.Hid (wr.ownsRow w.heap.size 3 1 u k ((tabF k F).map (Value.int .i64)) ∧ Below w.heap.size w wr)) (fun _ i _ => 21 - (intOf i).toNat)
  case atStart => exact ⟨0, _, rfl, by omega, rfl, HI0.out⟩
  case round =>
    obtain ⟨k, u, rfl, hk, rfl, H⟩ := hrel
    clear HI0
    by_cases hlt : k < 21
    · have HW : RowKit.Hid (IntsAt wr wr.heap.size .i64 a 21 zs) := H0.out.now H.out.2 (Nat.le_refl _)
      have hsz := H.out.2.size
      have HA : RowKit.Hid (∀ y, (wr.alloc (.cells #[.int .i64 y] 3)).ownsRow w.heap.size 3 1 u k ((tabF k F).map (Value.int .i64))) := fun y => World.ownsRow.alloc H.out.1 _
      have HAB : RowKit.Hid (∀ y, Below w.heap.size w (wr.alloc (.cells #[.int .i64 y] 3))) := fun y => H.out.2.alloc hsz _
      have HSr : RowKit.Hid (∀ y, IntsAt (wr.alloc (.cells #[.int .i64 y] 3)) (wr.alloc (.cells #[.int .i64 y] 3)).heap.size .i64 (some ⟨wr.heap.size, 0, none⟩) 1 [y]) := fun y => lit_ints wr 3 .i64 [y] #[.int .i64 y] (0, 0) rfl (by simp)
      have HOB := Lib.hid (own_base H.out.1)
      obtain ⟨T, hT⟩ : ∃ T, T = thrTo (fun j => zs.getD j 0) k := ⟨_, rfl⟩
      have HV := Lib.hid (HE.out k)
      have HB : RowKit.Hid (∀ n, n ≤ 21 → 0 ≤ T n ∧ T n ≤ 26) := fun n hn => by rw [hT]; exact thrTo_bd hlt n hn fun j hj => HRb.out j (by omega)
      have HS : RowKit.Hid (∀ n, T (n + 1) = max (T n) (zs.getD n 0 - fadeF n k)) := fun n => by rw [hT]; rfl
      have HZ : RowKit.Hid (T 0 = 0) := by show _ = _; rw [hT]; rfl
      rw [← hT] at HV
      clear hT H
      have l1 : (k : Int) < 21 := by omega
      go_wp2
      go_loop [9, 10] (fun m i => ∃ j : Nat, j ≤ 21 ∧ i = .int .i64 (j : Int) ∧ m = .int .i64 (T j)) (fun _ i => 21 - (intOf i).toNat)
      case atStart => exact ⟨0, by omega, rfl, by rw [HZ.out]⟩
      case round =>
        obtain ⟨j, hj, rfl, rfl⟩ := hrel
        by_cases hlj : j < 21
        · obtain ⟨bb, off, rfl, _, _, hcell⟩ := HW.out.at_ hlj
          obtain ⟨x0, x1⟩ := HRb.out j hlj
          obtain ⟨t0, t1⟩ := HB.out j (by omega)
          have HN := Lib.hid (HS.out j)
          generalize zs.getD j 0 = x at hcell x0 x1 HN
          generalize T j = t at t0 t1 HN
          have l2 : (j : Int) < 21 := by omega
          by_cases hjk : j < k
          · have HFd := Lib.hid (fadeF_below hjk)
            have l3 : ¬ (k : Int) < (j : Int) := by omega
            go_wp2
            all_goals
              go_round
              case rel => exact ⟨j + 1, by omega, by go_num, by rw [HN.out, HFd.out]; go_num⟩
              case measure => simp [intOf] <;> omega
          · have HFd := Lib.hid (fadeF_above hjk)
            by_cases hjk2 : j = k
            · subst hjk2
              clear hjk
              have l3 : ¬ (j : Int) < (j : Int) := by omega
              go_wp2
              all_goals
                go_round
                case rel => exact ⟨j + 1, by omega, by go_num, by rw [HN.out, HFd.out]; go_num⟩
                case measure => simp [intOf] <;> omega
            · have l3 : (k : Int) < (j : Int) := by omega
              go_wp2
              all_goals
                go_round
                case rel => exact ⟨j + 1, by omega, by go_num, by rw [HN.out, HFd.out]; go_num⟩
                case measure => simp [intOf] <;> omega
        · obtain rfl : j = 21 := by omega
          obtain ⟨bb, off, rfl, _, _, hcell⟩ := HW.out.at_ hlt
          obtain ⟨n0, n1⟩ := HRb.out k hlt
          obtain ⟨t0, t1⟩ := HB.out 21 (by omega)
          generalize zs.getD k 0 = n at hcell n0 n1 HV
          generalize T 21 = t at t0 t1 HV
          go_wp2_with (at_builtin; go_loud (refine append_ints rfl _ _ 68 rfl w.heap.size 3 .i64 8 Tryz.underlying68 infoE_int _ k (tabF k F) rfl (HA.out _) (some ⟨wr.heap.size, 0, none⟩) 1 1 _ [_] rfl (HSr.out _) (by simp) (by unfold maxLen; omega) (by omega) (by simp; omega) ?_); intro v2 w2 hown hgrow _; rw [HSn.out k _ (by rw [HV.out]; omega)] at hown; have H2 : RowKit.Hid (w2.ownsRow w.heap.size 3 1 v2 (k + 1) ((tabF (k + 1) F).map (Value.int .i64)) ∧ Below w.heap.size w w2) := ⟨hown, (HAB.out _).grown hgrow (by simp; omega) HOB.out⟩; clear hown hgrow)
          all_goals
            go_roundw
            case rel => exact ⟨k + 1, v2, rfl, by omega, by go_num, H2.out⟩
            case measure => simp [intOf] <;> omega
    · obtain rfl : k = 21 := by omega
      have HI := Lib.hid (own_intsB H.out.1)
      have HB := Lib.hid H.out.2
      clear H
      go_wp2
      go_ret
      obtain ⟨a, c, rfl, hi, hn⟩ := HI.out
      exact ⟨a, c, rfl, by rw [← HF.out]; exact hi, hn, HB.out⟩
def RSt (w : World) (base g : Nat) (E : EncS) (wr : World) : Prop := ∃ r c, EncMem wr base g r c (digL E.n (E.k + 4)) E.s E.k ∧ Below w.heap.size w wr ∧ w.heap.size ≤ base
theorem RSt.bits {w wr : World} {base g : Nat} {E : EncS} (h : RSt w base g E wr) (hG : GoodE E) (hk : E.k ≤ 1000) {n : Int} {wide : Nat} (n0 : 0 ≤ n) (n1 : n ≤ 4294967295) (hw : wide ≤ 24) :
    Calls Tryz.prog 36 #[.pointer (some ⟨g, 0, none⟩), .int .i64 n, .int .i64 wide] wr fun e w' => e = .returned (.tuple #[]) ∧ RSt w base g (encBits E n wide) w' := by
  obtain ⟨r, c, h1, h2, h3⟩ := h
  refine (refEncBits_any base g r c E n wide wr h1 hG (by omega) hw n0 n1).mono ?_
  rintro e w' ⟨rfl, r', c', k1, k2, k3⟩
  obtain ⟨l1, l2, l3, l4, l5⟩ := h1.lt
  exact ⟨rfl, r', c', k1, h2.trans (k2.below h2.size fun j hj => by rcases hj with e | e <;> omega), h3⟩
theorem RSt.put {w wr : World} {base g c cap cap2 : Nat} {E : EncS} {wh : Bool} {o : Option Nat} {l ah : Nat → Int} (h : RSt w base g E wr) (hG : GoodE E) (hk : E.k ≤ 1000) (hc : CutAt w c l) (hl : CutOk l) (hA : AhAt w wh o ah) :
    Calls Tryz.prog 38 #[.pointer (some ⟨g, 0, none⟩), .slice (some ⟨c, 0, none⟩) 21 cap, .slice (ahA o) (ahN o) cap2] wr fun e w' => e = .returned (.tuple #[]) ∧ RSt w base g (putN wh E l ah 21) w' := by
  obtain ⟨r, c', h1, h2, h3⟩ := h
  obtain ⟨l1, l2, l3, l4, l5⟩ := h1.lt
  obtain ⟨ds, d1, d2⟩ := (hA.below h2).at_
  have hcl := hc.lt
  have := ref10Put_any base g r c' E wh (some ⟨c, 0, none⟩) (ahA o) (ahN o) cap cap2 (tabF 21 l) ds wr h1 hG (by omega) (CutAt.ints (hc.below h2 hcl)) hl.right (fun b off e => by injection e with e; injection e with e; omega) d1 (fun hw b off e => by
    rcases hA with ⟨rfl, _⟩ | ⟨_, _, r', rfl, h4⟩
    · cases hw
    · have e : some (⟨r', 0, none⟩ : Addr) = some ⟨b, off, none⟩ := e
      injection e with e; injection e with e
      have := IFun.lt h4
      omega)
  rw [hl.tab, d2] at this
  refine this.mono ?_
  rintro e w' ⟨rfl, r2, c2, k1, k2, k3⟩
  exact ⟨rfl, r2, c2, k1, h2.trans (k2.below h2.size fun j hj => by rcases hj with e | e <;> omega), h3⟩
theorem RSt.lines {w wr : World} {base g lb c cap cap2 : Nat} {E : EncS} {a2 : Option Addr} {x l : Nat → Int} {q lo : Int} {w1 : World} (h1 : RSt w base g E w1) (hb : Below w1.heap.size w1 wr) (hG : GoodE E) (hk : E.k ≤ 1000) (hx : IFun w lb 2 .i64 512 x) (hxb : ∀ i, -33554432 ≤ x i ∧ x i ≤ 33554431) (hc : CutAt w c l) (hl : CutOk l)
    (h2 : IntsAt wr wr.heap.size .i64 a2 21 (tabF 21 (stepF l q lo))) (hn : ∀ b off, a2 = some ⟨b, off, none⟩ → w1.heap.size ≤ b) :
    Calls Tryz.prog 40 #[.pointer (some ⟨g, 0, none⟩), .slice (some ⟨lb, 0, none⟩) 512 512, .slice (some ⟨c, 0, none⟩) 21 cap, .slice a2 21 cap2] wr fun e w' => e = .returned (.tuple #[]) ∧ RSt w base g (putL (toldT l (stepF l q lo)) (lineQ x l (stepF l q lo)) E 512).1 w' ∧ IntsAt w' w'.heap.size .i64 a2 21 (tabF 21 (stepF l q lo)) := by
  obtain ⟨r, c', e1, e2, e3⟩ := h1
  obtain ⟨l1, l2, l3, l4, l5⟩ := e1.lt
  have e4 : Below w.heap.size w wr := chain e2 hb
  have hcl := hc.lt
  have hxl := hx.lt
  have hxw := hx.below e4 hxl
  have := refPutLines_any base g r c' E lb 0 512 x (some ⟨c, 0, none⟩) a2 cap cap2 (tabF 21 l) (tabF 21 (stepF l q lo)) wr (e1.below hb) hG (by omega) hxw.lt (fun i hi => by rw [Nat.zero_add]; exact hxw.cell hi) (fun i _ => by have := hxb i; omega) ⟨by omega, by omega⟩
    (CutAt.ints (hc.below e4 hcl)) h2 (hl.may q lo) (fun b off e => by injection e with e; injection e with e; omega) (fun b off e => by have := hn b off e; omega)
  rw [hl.tab, (hl.step q lo).tab] at this
  refine this.mono ?_
  rintro e w' ⟨rfl, r2, c2, k1, k2, k3⟩
  exact ⟨rfl, ⟨r2, c2, k1, e4.trans (k2.below e4.size fun j hj => by rcases hj with e | e <;> omega), e3⟩, (h2.keeps k2 (Nat.le_refl _) fun b off e _ _ hj => by have := hn b off e; rcases hj with e | e <;> omega).grow k2.size⟩
theorem RSt.bytes {w wr : World} {base g : Nat} {E : EncS} (h : RSt w base g E wr) (hk : E.k ≤ 10000) :
    Calls Tryz.prog 41 #[.pointer (some ⟨g, 0, none⟩)] wr (BytesPostN (bytesE E) wr) := by
  obtain ⟨r, c, h1, h2, h3⟩ := h
  exact rBytes_any base g r c _ _ _ wr h1 (digL_dig _ _) (by rw [digL_len]; omega)
theorem RSt.new (w wr : World) (h : Below w.heap.size w wr) : Calls Tryz.prog 35 #[] wr fun e w' => e = .returned (.pointer (some ⟨wr.heap.size + 1, 0, none⟩)) ∧ RSt w wr.heap.size (wr.heap.size + 1) encNew w' := by
  refine (refEncNew_any wr).mono ?_
  rintro e w' ⟨rfl, h1, h2⟩
  exact ⟨rfl, _, _, h1, chain h h2, h.size⟩
end Go.Proofs.YtmgfkdmjgjlkjaaGreat

namespace Go.Proofs.YtmgfkdmjgjlkjaaGreat
open Go Go.RowKit
set_option linter.unusedVariables false
set_option linter.unusedSimpArgs false
def NewRPost (Q : Int) (B : Nat) (w : World) (e : Ending) (w' : World) : Prop := ∃ g, e = .returned (.pointer (some ⟨g, 0, none⟩)) ∧ RefAt w' g Q B s13Zero ∧ w.heap.size ≤ g ∧ Below w.heap.size w w'
theorem drew_sizeB (w : World) : w.drew.heap.size = w.heap.size := rfl
theorem cel_new_at {X : World} {g : Nat} {t : TypeId} {cs : Array Value} (h : X.heap.size = g) : Cel (X.alloc (.cells cs t)) g t cs := h ▸ Cel.new X t cs
theorem ifun_new_at {X : World} {g n : Nat} {t : TypeId} {k : IntKind} {f : Nat → Int} {mc : Array Value} (h0 : ∀ w : World, IFun (w.alloc (.cells mc t)) w.heap.size t k n f) (h : X.heap.size = g) : IFun (X.alloc (.cells mc t)) g t k n f := h ▸ h0 X
theorem new_end {w W : World} {g C x1 x2 : Nat} {Q : Int} {B : Nat} (h : Cel W g 70 (rfC C (.slice (some ⟨x1, 0, none⟩) 640 640) (.slice (some ⟨x2, 0, none⟩) 128 128) Q B 0 (.slice none 0 0) (.slice none 0 0) 0))
    (hc : IFun W C 2 .i64 1025 cosN) (h1 : IFun W x1 2 .i64 640 (fun _ => 0)) (h2 : IFun W x2 2 .i64 128 (fun _ => 0)) (hs : w.heap.size ≤ g) (hb : Below w.heap.size w W) : NewRPost Q B w (.returned (.pointer (some ⟨g, 0, none⟩))) W :=
  ⟨g, rfl, ⟨C, _, _, _, none, h, hc, ⟨x1, 640, rfl, by decide, by decide, h1.num 512 128 (by decide)⟩, ⟨x2, 0, rfl, h2.num 0 128 (by decide) |> fun n => ⟨n.1, fun j hj => n.2 j hj⟩⟩, .inl ⟨rfl, rfl, rfl⟩, rfl⟩, hs, hb⟩
set_option maxHeartbeats 1000000 in
theorem rNew_any (Q : Int) (B : Nat) (w : World) : Calls Tryz.prog 9 #[.int .i64 Q, .int .i64 (B : Int)] w (NewRPost Q B w) := by
  have m1 : ∀ w : World, (Instr.makeSlice 66 (.int .i64 640) (.int .i64 640)).run Tryz.prog w = .ok (.slice (some ⟨w.heap.size, 0, none⟩) 640 640) (w.alloc (.cells (madeCells #[.int .i64 0] 640) 2)) :=
    fun w => make_zeros (P := Tryz.prog) Tryz.underlying66 infoC_i64 640 (by omega) (by omega) w
  have m2 : ∀ w : World, (Instr.makeSlice 66 (.int .i64 128) (.int .i64 128)).run Tryz.prog w = .ok (.slice (some ⟨w.heap.size, 0, none⟩) 128 128) (w.alloc (.cells (madeCells #[.int .i64 0] 128) 2)) :=
    fun w => make_zeros (P := Tryz.prog) Tryz.underlying66 infoC_i64 128 (by omega) (by omega) w
  have I1 : RowKit.Hid (∀ w : World, IFun (w.alloc (.cells (madeCells #[.int .i64 0] 640) 2)) w.heap.size 2 .i64 640 (fun _ => 0)) := fun w => IFun.zeros w 2 .i64 640
  have I2 : RowKit.Hid (∀ w : World, IFun (w.alloc (.cells (madeCells #[.int .i64 0] 128) 2)) w.heap.size 2 .i64 128 (fun _ => 0)) := fun w => IFun.zeros w 2 .i64 128
  generalize madeCells #[Value.int .i64 0] 640 = mc1 at m1 I1
  generalize madeCells #[Value.int .i64 0] 128 = mc2 at m2 I2
  go_enter Tryz.func9, Tryz.ntmps9
  go_wp2
  go_region_held3 (fun w' => True) (go_keep) (first | (go_at_call 27; go_loud (refine (ref04Quarter_any _).mono ?_); rintro e w1 ⟨rfl, i1, b1⟩; have HI1 := Lib.hid i1; have HB1 := Lib.hid b1; clear i1 b1) | fail)
  · go_wp2
    go_ret
    have hc := HI1.out
    have hB : Below w.heap.size w w1 := chain (Below.drewN' (Below.refl _ w) 1) HB1.out
    have HBB : Below w.heap.size w w1 := hB
    have hsz := HBB.size
    exact new_end (cel_new_at (by first | rfl | simp [alloc_sizeB])) (((hc.alloc _).alloc _).alloc _) (((ifun_new_at I1.out (by first | rfl | simp [alloc_sizeB])).alloc _).alloc _) ((ifun_new_at I2.out (by first | rfl | simp [alloc_sizeB])).alloc _) (by first | omega | (simp only [alloc_sizeB]; omega)) (chain (chain (chain HBB (Below.alloc_new _ _)) (Below.alloc_new _ _)) (Below.alloc_new _ _))
  · go_wp2
    go_ret
    have hc := HI1.out
    have hB : Below w.heap.size w w1 := chain (Below.drewN' (Below.refl _ w) 1) HB1.out
    have HBB : Below w.heap.size w w1 := hB
    have hsz := HBB.size
    exact new_end (cel_new_at (by first | rfl | simp [alloc_sizeB])) (((hc.alloc _).alloc _).alloc _) ((ifun_new_at I1.out (by first | rfl | simp [alloc_sizeB])).alloc _) (((ifun_new_at I2.out (by first | rfl | simp [alloc_sizeB])).alloc _).alloc _) (by first | omega | (simp only [alloc_sizeB]; omega)) (chain (chain (chain HBB (Below.alloc_new _ _)) (Below.alloc_new _ _)) (Below.alloc_new _ _))
  · go_wp2
    go_ret
    have hc := HI1.out
    simp only [drew_sizeB, alloc_sizeB] at hc
    have hB : Below (w.alloc (.cells mc1 2)).heap.size (w.alloc (.cells mc1 2)) w1 := chain (Below.drewN' (Below.refl _ (w.alloc (.cells mc1 2))) 1) HB1.out
    have HBB : Below w.heap.size w w1 := (chain (Below.alloc_new w _) hB)
    have hsz := HBB.size
    have f1 : IFun (w.alloc (.cells mc1 2)) w.heap.size 2 .i64 640 (fun _ => 0) := by have := (I1.out w); exact this
    exact new_end (cel_new_at (by first | rfl | simp [alloc_sizeB])) ((hc.alloc _).alloc _) (((f1.below hB f1.lt).alloc _).alloc _) ((ifun_new_at I2.out (by first | rfl | simp [alloc_sizeB])).alloc _) (by first | omega | (simp only [alloc_sizeB]; omega)) (chain (chain HBB (Below.alloc_new _ _)) (Below.alloc_new _ _))
  · go_wp2
    go_ret
    have hc := HI1.out
    simp only [drew_sizeB, alloc_sizeB] at hc
    have hB : Below ((w.alloc (.cells mc1 2)).alloc (.cells mc2 2)).heap.size ((w.alloc (.cells mc1 2)).alloc (.cells mc2 2)) w1 := chain (Below.drewN' (Below.refl _ ((w.alloc (.cells mc1 2)).alloc (.cells mc2 2))) 1) HB1.out
    have HBB : Below w.heap.size w w1 := (chain (chain (Below.alloc_new w _) (Below.alloc_new _ _)) hB)
    have hsz := HBB.size
    have f1 : IFun ((w.alloc (.cells mc1 2)).alloc (.cells mc2 2)) w.heap.size 2 .i64 640 (fun _ => 0) := by have := (I1.out w); exact this.alloc _
    have f2 : IFun ((w.alloc (.cells mc1 2)).alloc (.cells mc2 2)) (w.heap.size + 1) 2 .i64 128 (fun _ => 0) := by have := (I2.out (w.alloc (.cells mc1 2))); rw [alloc_sizeB] at this; exact this
    exact new_end (cel_new_at (by first | rfl | simp [alloc_sizeB])) (hc.alloc _) ((f1.below hB f1.lt).alloc _) ((f2.below hB f2.lt).alloc _) (by first | omega | (simp only [alloc_sizeB]; omega)) (chain HBB (Below.alloc_new _ _))
  · go_wp2
    go_ret
    have hc := HI1.out
    simp only [drew_sizeB, alloc_sizeB] at hc
    have hB : Below (w.alloc (.cells mc2 2)).heap.size (w.alloc (.cells mc2 2)) w1 := chain (Below.drewN' (Below.refl _ (w.alloc (.cells mc2 2))) 1) HB1.out
    have HBB : Below w.heap.size w w1 := (chain (Below.alloc_new w _) hB)
    have hsz := HBB.size
    have f2 : IFun (w.alloc (.cells mc2 2)) w.heap.size 2 .i64 128 (fun _ => 0) := by have := (I2.out w); exact this
    exact new_end (cel_new_at (by first | rfl | simp [alloc_sizeB])) ((hc.alloc _).alloc _) ((ifun_new_at I1.out (by first | rfl | simp [alloc_sizeB])).alloc _) (((f2.below hB f2.lt).alloc _).alloc _) (by first | omega | (simp only [alloc_sizeB]; omega)) (chain (chain HBB (Below.alloc_new _ _)) (Below.alloc_new _ _))
  · go_wp2
    go_ret
    have hc := HI1.out
    simp only [drew_sizeB, alloc_sizeB] at hc
    have hB : Below ((w.alloc (.cells mc2 2)).alloc (.cells mc1 2)).heap.size ((w.alloc (.cells mc2 2)).alloc (.cells mc1 2)) w1 := chain (Below.drewN' (Below.refl _ ((w.alloc (.cells mc2 2)).alloc (.cells mc1 2))) 1) HB1.out
    have HBB : Below w.heap.size w w1 := (chain (chain (Below.alloc_new w _) (Below.alloc_new _ _)) hB)
    have hsz := HBB.size
    have f2 : IFun ((w.alloc (.cells mc2 2)).alloc (.cells mc1 2)) w.heap.size 2 .i64 128 (fun _ => 0) := by have := (I2.out w); exact this.alloc _
    have f1 : IFun ((w.alloc (.cells mc2 2)).alloc (.cells mc1 2)) (w.heap.size + 1) 2 .i64 640 (fun _ => 0) := by have := (I1.out (w.alloc (.cells mc2 2))); rw [alloc_sizeB] at this; exact this
    exact new_end (cel_new_at (by first | rfl | simp [alloc_sizeB])) (hc.alloc _) ((f1.below hB f1.lt).alloc _) ((f2.below hB f2.lt).alloc _) (by first | omega | (simp only [alloc_sizeB]; omega)) (chain HBB (Below.alloc_new _ _))
end Go.Proofs.YtmgfkdmjgjlkjaaGreat
