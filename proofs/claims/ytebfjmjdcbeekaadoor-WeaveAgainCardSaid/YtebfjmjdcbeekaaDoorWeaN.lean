/- What a parter tells of bytes. -/
import Derived.Test.YtebfjmjdcbeekaaDoorWeaM
import Derived.Test.YtebfjmjdcbeekaaDoorWeaD
namespace Go.Proofs.YtebfjmjdcbeekaaDoor
open Go.RowKit Go.PlainAid
set_option linter.unusedVariables false
set_option linter.unusedSimpArgs false

/-- Where the loop stands. -/
structure PtSt (w : World) (g : Nat) (q : Q20) (v v2 : Value) (wr : World) : Prop where
  p : PcsAt wr w.heap.size (fun j => v2.ownBlock = some j) v q.d
  s : OwnB wr w.heap.size v2 q.c
  r : PrAt wr g q.s
  k : Keeps (· = g) w wr
section
variable {w wr w' : World} {g : Nat} {q : Q20} {v v2 v3 : Value}
theorem PtSt.below (h : PtSt w g q v v2 wr) (hb : Below wr.heap.size wr w') : PtSt w g q v v2 w' := ⟨h.p.below hb, h.s.below hb, h.r.below hb, h.k.trans (.of_below hb)⟩
/-- A byte of sound more. -/
theorem PtSt.sound {x : UInt8} {w4 : World} (h : PtSt w g q v v2 wr) (ho : OwnB w4 w.heap.size v3 (q.c ++ [x])) (hg : wr.grownBy w4 v2.ownBlock) (hv : v3.ownBlock = v2.ownBlock ∨ v3.ownBlock = some wr.heap.size) : PtSt w g ⟨q.d, q.c ++ [x], q.ok, q.s⟩ v v3 w4 := by
  have hk : Keeps (fun j => v2.ownBlock = some j) wr w4 := Keeps.of_grown hg fun k hk => hk
  refine ⟨h.p.grown hk (fun j hj => ⟨hj, (own_typ19 h.s hj).1⟩) (fun j hj => by rcases hv with e | e <;> rw [e] at hj; exact .inl hj; injection hj with hj; exact .inr (by omega)), ho, h.r.keeps hk fun hf => (own_typ19 h.s hf).1.ne h.r.typ (by decide) rfl, h.k.then_ hk fun j hj => .inr (own_base h.s j hj)⟩
theorem PtSt.since (h : PtSt w g q v v2 wr) (n' : Nat) : PtSt w g ⟨q.d, q.c, q.ok, ⟨q.s.e, n', q.s.b⟩⟩ v v2 (wr.setCell ⟨g, 1, none⟩ (.int .i64 (n' : Int))) := by
  have hk : Keeps (· = g) wr (wr.setCell ⟨g, 1, none⟩ (.int .i64 (n' : Int))) := Keeps.setCell (F := (· = g)) (Keeps.refl _ wr) (p := ⟨g, 1, none⟩) (.inl rfl) _
  exact ⟨h.p.keeps hk fun j hj => by subst hj; exact .inr ⟨_, h.r.typ, by decide, by decide⟩, h.s.keeps hk fun j hj => by subst hj; exact ⟨_, h.r.typ, by decide⟩, h.r.set_n n', h.k.trans hk⟩
/-- The parter itself has changed. -/
theorem PtSt.took {S : P20} {ok : Bool} (h : PtSt w g q v v2 wr) (hr : PrAt w' g S) (hk : Keeps (· = g) wr w') : PtSt w g ⟨q.d, q.c, ok, S⟩ v v2 w' :=
  ⟨h.p.keeps hk fun j hj => by subst hj; exact .inr ⟨_, h.r.typ, by decide, by decide⟩, h.s.keeps hk fun j hj => by subst hj; exact ⟨_, h.r.typ, by decide⟩, hr, h.k.trans hk⟩
end
theorem PtSt.joined {w wr w' : World} {g : Nat} {q : Q20} {v v2 v5 : Value} {d : List Pc} (h : PtSt w g q v v2 wr) (hp : PcsAt w' w.heap.size (fun _ => False) v5 d) (hk : Keeps (fun j => w.heap.size ≤ j ∧ Typ19 wr j 56) wr w') :
    PcsAt w' w.heap.size (fun _ => False) v5 d ∧ PrAt w' g q.s ∧ Keeps (· = g) w w' :=
  ⟨hp, h.r.keeps hk fun hf => hf.2.ne h.r.typ (by decide) rfl, h.k.then_ hk fun j hj => .inr hj.1⟩
theorem told_end {w w5 w6 w7 : World} {g : Nat} {S : P20} {ok : Bool} {v7 : Value} {d : List Pc} {T : List UInt8} (hr : PrAt w5 g S) (hk : Keeps (· = g) w w5) (hb : Below w5.heap.size w5 w6) (hp7 : PcsAt w7 w.heap.size (fun _ => False) v7 (d ++ [.told T])) (hk7 : Keeps (fun j => w.heap.size ≤ j ∧ Typ19 w6 j 56) w6 w7) :
    PtSt w g ⟨d ++ [.told T], [], ok, S⟩ v7 (.slice none 0 0) w7 :=
  ⟨hp7.fresh (fun g e => by cases e), World.ownsRow_nil _ _ _ _, (hr.below hb).keeps hk7 fun hf => hf.2.ne (hr.below hb).typ (by decide) rfl, (hk.trans (.of_below hb)).then_ hk7 fun j hj => .inr hj.1⟩
theorem join_le (d : List Pc) (c : List UInt8) (h : d.length ≤ 900000) : (joinP d c).length ≤ 1000000 := by
  unfold joinP
  split
  · omega
  · simp; omega
theorem part_firstY {w : World} {g m c y : Nat} {l : List UInt8} (h : BytA w (some ⟨g, 2, none⟩) m c l) (hm : 1 ≤ m) (h0 : (l.getD 0 0).toNat = y) : w.cell? ⟨g, 2, none⟩ = some (.int .u8 (y : Int)) := by
  obtain ⟨r, off, e, hc⟩ := h.byte (j := 0) (by omega)
  injection e with e
  injection e with e1 e2
  subst e1
  subst e2
  rw [h0] at hc
  exact hc
theorem part_first {w : World} {g m c : Nat} {l : List UInt8} (h : BytA w (some ⟨g, 2, none⟩) m c l) (hm : 1 ≤ m) (h0 : l.getD 0 0 = 0) : w.cell? ⟨g, 2, none⟩ = some (.int .u8 0) := part_firstY (y := 0) h hm (by rw [h0]; rfl)
/-- What bytes bring, and where the parter stands then. -/
def PartPost (g : Nat) (S : P20) (b : List UInt8) (w : World) (x : Ending) (w' : World) : Prop :=
  ∃ v, x = .returned (.tuple #[v, .int .i64 (if (S.start.run b).ok then 0 else 3)]) ∧ PcsAt w' w.heap.size (fun _ => False) v (joinP (S.start.run b).d (S.start.run b).c) ∧ PrAt w' g (S.start.run b).s ∧ Keeps (· = g) w w'
set_option maxRecDepth 100000 in
set_option maxHeartbeats 4000000 in
theorem part20_any (g K : Nat) (S : P20) (a : Option Addr) (n cap : Nat) (b : List UInt8) (w : World) (h : PrAt w g S) (hS : S.Ok K) (hK : K ≤ 100000000) (hb : BytA w a n cap b) (hn : n ≤ 400000) (hg : ∀ r off, a = some ⟨r, off, none⟩ → 0 < n → r ≠ g) :
    Calls Tryd.prog 8 #[.pointer (some ⟨g, 0, none⟩), .slice a n cap] w (PartPost g S b w) := by
  have H0 : RowKit.Hid (PtSt w g S.start (.slice none 0 0) (.slice none 0 0) w) := ⟨.nil _ _ _, World.ownsRow_nil _ _ _ _, h, .refl _ _⟩
  have hbl := hb.hl
  have HA := Lib.hid hb
  have HG := Lib.hid hg
  have HSK := Lib.hid hS
  have hgl := h.typ.lt
  clear hb hg h
  go_enter Tryd.func8, Tryd.ntmps8
  go_wp2
  go_loopw [6, 7, 8, 18] (fun v v2 z i wr => ∃ (k : Nat) (u u2 : Value) (q : Q20), u = v ∧ u2 = v2 ∧ z = .int .i64 (if q.ok then 0 else 3) ∧ i = .int .i64 (k : Int) ∧ k ≤ n ∧ RowKit.Hid (q = S.start.run (b.take k) ∧ PtSt w g q u u2 wr)) (fun _ _ _ i _ => n - (intOf i).toNat)
  case atStart => exact ⟨0, _, _, S.start, rfl, rfl, rfl, rfl, by omega, by simp [Q20.run], H0.out⟩
  case round =>
    clear H0
    obtain ⟨k, u, u2, q, rfl, rfl, rfl, rfl, hk, H⟩ := hrel
    have hlk : (b.take k).length = k := by rw [List.length_take]; omega
    by_cases hlt : k < n
    · have hOk : q.s.Ok (K + k) := by rw [H.out.1]; have := Q20.run_ok (q := S.start) hS (b.take k); rwa [hlk] at this
      have hd := Q20.run_d S (b.take k)
      rw [hlk, ← H.out.1] at hd
      have hmore := take_more (b := b) (k := k) (by omega)
      obtain ⟨x, hx⟩ : ∃ x, b.getD k 0 = x := ⟨_, rfl⟩
      rw [hx] at hmore
      have hHA := HA.out.keeps H.out.2.k (fun r off e h0 c => HG.out r off e h0 c)
      obtain ⟨r, off, rfl, cx⟩ := hHA.byte hlt
      rw [hx] at cx
      have HM : RowKit.Hid (q.step x = S.start.run (b.take (k + 1))) := by
        show _ = _
        rw [hmore, Q20.run_more, ← H.out.1]
      have HP := Lib.hid H.out.2
      have HO := Lib.hid hOk
      have hd1 : q.d.length ≤ 900000 := by omega
      have hc1 : q.c.length ≤ 400000 := by omega
      obtain ⟨c0, c1, f1⟩ := HP.out.r.cells
      have hqn : q.s.n ≤ 100400000 := by have := hOk.n; omega
      clear H hHA hmore hx hd hOk
      by_cases hdue : 0 < q.s.e ∧ q.s.n = q.s.e
      · have HD : RowKit.Hid (decide (0 < q.s.e ∧ q.s.n = q.s.e) = true) := decide_eq_true hdue
        have hbl2 := HO.out.b_le
        have CD := Lib.hid (fun W (c0 : W.cell? ⟨g, 0, none⟩ = some (.int .i64 (q.s.e : Int))) (c1 : W.cell? ⟨g, 1, none⟩ = some (.int .i64 (q.s.n : Int))) => due_any g q.s.e q.s.n W c0 c1)
        rw [HD.out] at CD
        by_cases hw : q.s.b.length + 1 ≤ 16 * ((q.s.b ++ [x]).headD 0).toNat
        · rw [step_wait HO.out x hdue hw] at HM
          have CT := Lib.hid (fun W (h : PrAt W g q.s) => prTake_any g q.s x W h (by omega))
          unfold PrTakePost at CT
          simp only [if_pos hw] at CT
          clear hdue hw hbl2 HD
          go_wp2_with (first
            | (go_at_call 19; go_loud (refine (CD.out _ c0 c1).mono ?_); rintro e w2 ⟨rfl, hb2⟩; have HP2 := Lib.hid (HP.out.below hb2); clear hb2)
            | (go_at_call 20; go_loud (refine (CT.out _ HP2.out.r).mono ?_); rintro e w3 ⟨rfl, hr3, hk3⟩; have HP3 := Lib.hid (HP2.out.took (ok := q.ok) hr3 hk3); clear hr3 hk3)
            | fail)
          go_roundw
          case rel => exact ⟨k + 1, u, u2, ⟨q.d, q.c, q.ok, ⟨q.s.e, q.s.n, q.s.b ++ [x]⟩⟩, rfl, rfl, rfl, by go_num, by omega, HM.out, HP3.out⟩
          case measure => simp [intOf] <;> omega
        · have CT := Lib.hid (fun W (h : PrAt W g q.s) => prTake_any g q.s x W h (by omega))
          unfold PrTakePost at CT
          simp only [if_neg hw] at CT
          obtain ⟨L, hL⟩ : ∃ L, (q.s.b ++ [x]).take 81 = L := ⟨_, rfl⟩
          have hL0 : L.headD 0 = (q.s.b ++ [x]).headD 0 := by rw [← hL]; cases q.s.b <;> rfl
          have hLl : 1 ≤ L.length := by rw [← hL, List.length_take, List.length_append, List.length_singleton]; omega
          have hg0 : L.getD 0 0 = L.headD 0 := by cases L <;> rfl
          by_cases hb : q.s.b = []
          · have hx0 : x = 0 := by
              rw [hb] at hw
              apply u8_zero
              simp at hw
              omega
            have h0 : L.getD 0 0 = 0 := by rw [hg0, hL0, hb, hx0]; rfl
            rw [hL] at CT
            rw [hx0, step_empty hdue hb] at HM
            have HLl := Lib.hid hLl
            have H00 := Lib.hid h0
            clear hdue hw hbl2 HD hL hL0 hLl hg0 h0 hx0 hb
            go_wp2_with (first
              | (go_at_call 19; go_loud (refine (CD.out _ c0 c1).mono ?_); rintro e w2 ⟨rfl, hb2⟩; have HP2 := Lib.hid (HP.out.below hb2); clear hb2)
              | (go_at_call 20; go_loud (refine (CT.out _ HP2.out.r).mono ?_); rintro e w3 ⟨m3, rfl, ha3, hr3, hk3⟩; have HP3 := Lib.hid (HP2.out.took (ok := q.ok) hr3 hk3); have hm3 : 1 ≤ m3 := (by have := ha3.hl; have := HLl.out; omega); have hm4 : (1 : Int) ≤ (m3 : Int) := (by omega); have hm5 : ((m3 : Int) == 0) = false := (by simp; omega); have d2 : w3.cell? ⟨g, 2, none⟩ = some (.int .u8 0) := part_first ha3 hm3 H00.out; clear hr3 hk3 ha3)
              | fail)
            go_roundw
            case rel => exact ⟨k + 1, u, u2, ⟨q.d, q.c, q.ok, ⟨q.s.e, 0, []⟩⟩, rfl, rfl, rfl, by go_num, by omega, HM.out, HP3.out⟩
            case measure => simp [intOf] <;> omega
          · obtain ⟨hwl, hsome, hnone⟩ := step_whole HO.out x hb hw
            have hne : L.getD 0 0 ≠ 0 := by rw [hg0, hL0, headD_app hb]; exact (HO.out.b hb).2.2.1
            obtain ⟨y, hy⟩ : ∃ y : Nat, (L.getD 0 0).toNat = y := ⟨_, rfl⟩
            have hy0 : ((y : Int) == 0) = false := by
              have := u8_pos hne
              simp; omega
            have hkept := kept_tell hwl
            rw [hL] at CT hkept
            have HLl := Lib.hid hLl
            have HY := Lib.hid hy
            have CF := Lib.hid (fun W m (h : BytA W (some ⟨g, 2, none⟩) m 81 L) (hm : 1 ≤ m) => titleOf_any g 2 m 81 L W h hm (by decide) (by decide))
            rcases hkept with ⟨hT, hF⟩ | ⟨T, hT, hcut, hF, hT60⟩
            · rw [hnone hT] at HM
              rw [hF] at CF
              clear hdue hw hbl2 HD hL hL0 hLl hg0 hsome hnone hne hy hwl
              generalize ba (cutB L.tail) = tt at *
              go_wp2_with (first
                | (go_at_call 19; go_loud (refine (CD.out _ c0 c1).mono ?_); rintro e w2 ⟨rfl, hb2⟩; have HP2 := Lib.hid (HP.out.below hb2); clear hb2)
                | (go_at_call 20; go_loud (refine (CT.out _ HP2.out.r).mono ?_); rintro e w3 ⟨m3, rfl, ha3, hr3, hk3⟩; have HP3 := Lib.hid (HP2.out.took (ok := false) hr3 hk3); have hm3 : 1 ≤ m3 := (by have := ha3.hl; have := HLl.out; omega); have hm4 : (1 : Int) ≤ (m3 : Int) := (by omega); have hm5 : ((m3 : Int) == 0) = false := (by simp; omega); have d2 : w3.cell? ⟨g, 2, none⟩ = some (.int .u8 (y : Int)) := part_firstY ha3 hm3 HY.out; have HA3 := Lib.hid ha3; clear hr3 hk3 ha3)
                | (go_at_call 21; go_loud (refine (CF.out _ _ HA3.out hm3).mono ?_); rintro e w4 ⟨rfl, hb4⟩; have HP4 := Lib.hid (HP3.out.below hb4); clear hb4)
                | fail)
              go_roundw
              case rel => exact ⟨k + 1, u, u2, ⟨q.d, q.c, false, ⟨q.s.e, 0, []⟩⟩, rfl, rfl, rfl, by go_num, by omega, HM.out, HP4.out⟩
              case measure => simp [intOf] <;> omega
            · rw [hsome T hT] at HM
              rw [hF, hcut] at CF
              clear hdue hw hbl2 HD hL hL0 hLl hg0 hsome hnone hne hy hwl hT hF hcut
              go_wp2_with (first
                | (go_at_call 19; go_loud (refine (CD.out _ c0 c1).mono ?_); rintro e w2 ⟨rfl, hb2⟩; have HP2 := Lib.hid (HP.out.below hb2); clear hb2)
                | (go_at_call 20; go_loud (refine (CT.out _ HP2.out.r).mono ?_); rintro e w3 ⟨m3, rfl, ha3, hr3, hk3⟩; have HP3 := Lib.hid (HP2.out.took (ok := q.ok) hr3 hk3); have hm3 : 1 ≤ m3 := (by have := ha3.hl; have := HLl.out; omega); have hm4 : (1 : Int) ≤ (m3 : Int) := (by omega); have hm5 : ((m3 : Int) == 0) = false := (by simp; omega); have d2 : w3.cell? ⟨g, 2, none⟩ = some (.int .u8 (y : Int)) := part_firstY ha3 hm3 HY.out; have HA3 := Lib.hid ha3; clear hr3 hk3 ha3)
                | (go_at_call 21; go_loud (refine (CF.out _ _ HA3.out hm3).mono ?_); rintro e w4 ⟨rfl, hb4⟩; have HP4 := Lib.hid (HP3.out.below hb4); clear hb4)
                | (go_at_call 22; go_loud (refine (join20_any w.heap.size w.heap.size _ u u2 q.d q.c _ HP4.out.p HP4.out.s (by omega) (Nat.le_refl _) HP4.out.k.size).mono ?_); rintro e w5 ⟨v5, rfl, hp5, hk5⟩; have HJ5 := Lib.hid (HP4.out.joined hp5 hk5); clear hp5 hk5)
                | (at_builtin; have hb6 := Below.alloc_new w5 (.cells #[.iface 57 (.string (ba T))] 56); go_loud (refine append_pc rfl _ _ rfl w.heap.size (fun _ => False) v5 (joinP q.d q.c) rfl (HJ5.out.1.below hb6) w5.heap.size (.told T, none, 0) rfl ((Cel.new w5 56 #[.iface 57 (.string (ba T))]).cell 0) trivial (join_le q.d q.c hd1) (HJ5.out.2.2.alloc _).size ?_); intro v7 w7 hp7 hk7; have HP7 := Lib.hid (told_end (ok := q.ok) HJ5.out.2.1 HJ5.out.2.2 hb6 hp7 hk7); clear hp7 hk7)
                | fail)
              go_roundw
              case rel => exact ⟨k + 1, v7, .slice none 0 0, ⟨joinP q.d q.c ++ [.told T], [], q.ok, ⟨q.s.e, 0, []⟩⟩, rfl, rfl, rfl, by go_num, by omega, HM.out, HP7.out⟩
              case measure => simp [intOf] <;> omega
      · have HD : RowKit.Hid (decide (0 < q.s.e ∧ q.s.n = q.s.e) = false) := decide_eq_false hdue
        obtain ⟨hb0, hst⟩ := step_sound HO.out x hdue
        rw [hst] at HM
        have HB0 := Lib.hid hb0
        have hw1 : IntKind.i64.wrap ((q.s.n : Int) + 1) = (q.s.n : Int) + 1 := IntWalk.i64_in _ (by omega)
        obtain ⟨m, hm⟩ : ∃ m, q.s.n + 1 = m := ⟨_, rfl⟩
        have hm1 : (q.s.n : Int) + 1 = (m : Int) := by omega
        rw [hm] at HM
        clear hdue hb0 hst
        go_wp2_with (first
          | (go_at_call 19; go_loud (refine (due_any g q.s.e q.s.n _ c0 c1).mono ?_); rintro e w2 ⟨rfl, hb2⟩; rw [HD.out]; have HX : RowKit.Hid (BytA (w2.alloc (.cells #[.int .u8 (x.toNat : Int)] 5)) (some ⟨w2.heap.size, 0, none⟩) 1 1 [x]) := BytA.lit w2 5 #[.int .u8 (x.toNat : Int)] (0, 0) [x] rfl (by simp); have HP2 := Lib.hid ((HP.out.below hb2).below (Below.alloc_new w2 (.cells #[.int .u8 (x.toNat : Int)] 5))); clear hb2)
          | (at_builtin; go_loud (refine app_bytes rfl _ _ 68 Tryd.underlying68 rfl w.heap.size u2 q.c rfl HP2.out.s _ 1 1 [x] rfl HX.out (by omega) HP2.out.k.size ?_); intro v4 w4 ho4 hg4 hv4; have HP4 := Lib.hid (HP2.out.sound ho4 hg4 hv4); obtain ⟨d0, d1, g1⟩ := HP4.out.r.cells; simp only at d0 d1; have HP5 := Lib.hid (HP4.out.since m); clear ho4 hg4 hv4)
          | fail)
        go_roundw
        case rel => exact ⟨k + 1, u, v4, ⟨q.d, q.c ++ [x], q.ok, ⟨q.s.e, m, []⟩⟩, rfl, rfl, rfl, by go_num, by omega, HM.out, by have := HP5.out; rw [HB0.out] at this; exact this⟩
        case measure => simp [intOf] <;> omega
    · obtain rfl : k = n := by omega
      have hq := H.out.1
      rw [List.take_of_length_le (by omega)] at hq
      have hd := Q20.run_d S b
      rw [← hq] at hd
      have hd1 : q.d.length ≤ 900000 := by omega
      have HQ := Lib.hid hq
      have HP := Lib.hid H.out.2
      clear H hq hd
      cases hok : q.ok with
      | true =>
        go_wp2_with (first
          | (go_at_call 22; go_loud (refine (join20_any w.heap.size w.heap.size _ u u2 q.d q.c _ HP.out.p HP.out.s (by omega) (Nat.le_refl _) HP.out.k.size).mono ?_); rintro e w5 ⟨v5, rfl, hp5, hk5⟩; have HJ5 := Lib.hid (HP.out.joined hp5 hk5); clear hp5 hk5)
          | fail)
        go_ret2
        unfold PartPost
        rw [← HQ.out]
        exact ⟨v5, by rw [hok]; rfl, HJ5.out.1, HJ5.out.2.1, HJ5.out.2.2⟩
      | false =>
        go_wp2_with (first
          | (go_at_call 22; go_loud (refine (join20_any w.heap.size w.heap.size _ u u2 q.d q.c _ HP.out.p HP.out.s (by omega) (Nat.le_refl _) HP.out.k.size).mono ?_); rintro e w5 ⟨v5, rfl, hp5, hk5⟩; have HJ5 := Lib.hid (HP.out.joined hp5 hk5); clear hp5 hk5)
          | fail)
        go_ret2
        unfold PartPost
        rw [← HQ.out]
        exact ⟨v5, by rw [hok]; rfl, HJ5.out.1, HJ5.out.2.1, HJ5.out.2.2⟩
theorem part20_nil (a : Option Addr) (n cap : Nat) (w : World) : Calls Tryd.prog 8 #[.pointer none, .slice a n cap] w fun x w' => x = .returned (.tuple #[.slice none 0 0, .int .i64 1]) ∧ w = w' := by
  go_enter Tryd.func8, Tryd.ntmps8
  go_wp2
  go_ret2
  exact ⟨rfl, rfl⟩
end Go.Proofs.YtebfjmjdcbeekaaDoor
