/- What the document's parter tells of bytes. -/
import Derived.Test.YtebfjmjdcbeekaaDoorWeaV
import Derived.Test.YtebfjmjdcbeekaaDoorWeaD
namespace Go.Proofs.YtebfjmjdcbeekaaDoor
open Go.RowKit Go.PlainAid
set_option linter.unusedVariables false
set_option linter.unusedSimpArgs false

theorem hv_new {v : Value} {gg n cp H : Nat} (h : v.ownBlock = some gg ∨ gg = H) {j : Nat} (hj : (Value.slice (some ⟨gg, 0, none⟩) n cp).ownBlock = some j) : v.ownBlock = some j ∨ H ≤ j := by
  have e : some gg = some j := hj
  injection e with e
  subst e
  rcases h with h | h
  · exact .inl h
  · exact .inr (by omega)
/-- What bytes bring, and where the document's parter stands then. -/
def RpartPost (B g : Nat) (S : P20) (vB0 : Value) (b : List UInt8) (w : World) (x : Ending) (w' : World) : Prop :=
  ∃ v v2 vB xs, x = .returned (.tuple #[v, .bool (S.start.run b).ok]) ∧ RqSt w B g vB0 (S.start.run b) xs v v2 vB w'
set_option maxRecDepth 100000 in
set_option maxHeartbeats 4000000 in
theorem rpart_any (B g K : Nat) (S : P20) (vB0 : Value) (a : Option Addr) (n cap : Nat) (b : List UInt8) (w : World) (h : RpAt w B g S vB0) (hS : S.Ok K) (hK : K ≤ 100000000) (hb : BytA w a n cap b) (hn : n ≤ 400000) (hB : B ≤ w.heap.size) (hg : ∀ r off, a = some ⟨r, off, none⟩ → 0 < n → r ≠ g ∧ vB0.ownBlock ≠ some r) :
    Calls Tryd.prog 9 #[.pointer (some ⟨g, 0, none⟩), .slice a n cap] w (RpartPost B g S vB0 b w) := by
  have H0 : RowKit.Hid (RqSt w B g vB0 S.start [] (.slice none 0 0) (.slice none 0 0) vB0 w) := ⟨.nil _ _ _, h, .refl _ _, fun j hj => .inl hj, .inl rfl⟩
  have hbl := hb.hl
  have HA := Lib.hid hb
  have HG := Lib.hid hg
  have HSK := Lib.hid hS
  have hgl := h.typ.lt
  clear hb hg h
  go_enter Tryd.func9, Tryd.ntmps9
  go_wp2
  go_loopw [6, 7, 8] (fun v z i wr => ∃ (k : Nat) (u u2 uB : Value) (xs : List PcX) (q : Q20), u = v ∧ z = .bool q.ok ∧ i = .int .i64 (k : Int) ∧ k ≤ n ∧ RowKit.Hid (q = S.start.run (b.take k) ∧ RqSt w B g vB0 q xs u u2 uB wr)) (fun _ _ i _ => n - (intOf i).toNat)
  case atStart => exact ⟨0, _, _, vB0, [], S.start, rfl, rfl, rfl, by omega, by simp [Q20.run], H0.out⟩
  case round =>
    clear H0
    obtain ⟨k, u, u2, uB, xs, q, rfl, rfl, rfl, hk, H⟩ := hrel
    have hlk : (b.take k).length = k := by rw [List.length_take]; omega
    by_cases hlt : k < n
    · have hOk : q.s.Ok (K + k) := by rw [H.out.1]; have := Q20.run_ok (q := S.start) hS (b.take k); rwa [hlk] at this
      have hd := Q20.run_d S (b.take k)
      rw [hlk, ← H.out.1] at hd
      have hmore := take_more (b := b) (k := k) (by omega)
      obtain ⟨x, hx⟩ : ∃ x, b.getD k 0 = x := ⟨_, rfl⟩
      rw [hx] at hmore
      have hHA := HA.out.keeps H.out.2.k (fun r off e h0 c => by have := HG.out r off e h0; rcases c with c | c; exact this.1 c; exact this.2 c)
      obtain ⟨r, off, rfl, cx⟩ := hHA.byte hlt
      rw [hx] at cx
      have HM : RowKit.Hid (q.step x = S.start.run (b.take (k + 1))) := by
        show _ = _
        rw [hmore, Q20.run_more, ← H.out.1]
      have HP := Lib.hid H.out.2
      have HO := Lib.hid hOk
      have hd1 : q.d.length ≤ 900000 := by omega
      have hc1 : q.c.length ≤ 400000 := by omega
      have hqn : q.s.n ≤ 100400000 := by have := hOk.n; omega
      have c0 := HP.out.r.c.cell 0
      have c1 := HP.out.r.c.cell 1
      have c2 := HP.out.r.c.cell 2
      have c3 := HP.out.r.c.cell 3
      have f1 := HP.out.r.c.frozen 1
      have f2 := HP.out.r.c.frozen 2
      have f3 := HP.out.r.c.frozen 3
      simp only [List.getElem?_toArray, List.getElem?_cons_zero, List.getElem?_cons_succ] at c0 c1 c2 c3
      clear H hHA hmore hx hd hOk
      by_cases hb : q.s.b = []
      · rw [if_pos hb] at c1 c2
        by_cases hdue : 0 < q.s.e ∧ q.s.n = q.s.e
        · have q0 : (0 : Int) < (q.s.e : Int) := by omega
          rw [hdue.2] at c1
          obtain ⟨X, hX⟩ : ∃ X, x.toNat = X := ⟨_, rfl⟩
          have hX255 : X ≤ 255 := by have := x.toNat_lt; omega
          rw [hX] at cx
          have hrg : r ≠ g := (HG.out r off rfl (by omega)).1
          obtain ⟨W1, hW1⟩ : ∃ W1, wr.setCell ⟨g, 1, none⟩ (.int .i64 0) = W1 := ⟨_, rfl⟩
          have hK1 : Keeps (· = g) wr W1 := by rw [← hW1]; exact Keeps.setCell (F := (· = g)) (Keeps.refl _ wr) (p := ⟨g, 1, none⟩) (.inl rfl) _
          have hC1 := HP.out.r.c.set_ 1 (.int .i64 0)
          rw [hW1] at hC1
          have cx1 : W1.cell? ⟨r, off + k, none⟩ = some (.int .u8 (X : Int)) := (World.cell?_of_block (a := ⟨r, off + k, none⟩) (hK1.block r (cell_block cx) hrg)).trans cx
          simp only [hb, if_true] at hC1
          have hC1 : Cel W1 g 32 #[.int .i64 (q.s.e : Int), .int .i64 0, .int .i64 0, uB] := hC1
          have d2 : W1.cell? ⟨g, 2, none⟩ = some (.int .i64 0) := hC1.cell 2
          have e2 := hC1.frozen 2
          have HC2 : RowKit.Hid (Cel ((W1.setCell ⟨g, 2, none⟩ (.int .i64 (16 * (X : Int)))).drew) g 32 #[.int .i64 (q.s.e : Int), .int .i64 0, .int .i64 (16 * (X : Int)), uB] ∧ Keeps (· = g) wr (W1.setCell ⟨g, 2, none⟩ (.int .i64 (16 * (X : Int)))).drew) :=
            ⟨hC1.set_ 2 _, Keeps.drewN (Keeps.setCell (F := (· = g)) hK1 (p := ⟨g, 2, none⟩) (.inl rfl) _) 1⟩
          have HB := Lib.hid hb
          have HX := Lib.hid hX
          by_cases hx0 : x = 0
          · have HN : RowKit.Hid (q.step x = ⟨q.d, q.c, q.ok, ⟨q.s.e, 0, []⟩⟩) := by show _ = _; rw [hx0]; exact step_empty hdue hb
            have hX0 : X = 0 := by rw [← hX, hx0]; rfl
            rw [HN.out] at HM
            have HX0 := Lib.hid hX0
            clear hx0 hX0 hC1
            go_wp2
            go_region
            go_wp2
            go_roundw
            case rel => exact ⟨k + 1, u, u2, uB, xs, ⟨q.d, q.c, q.ok, ⟨q.s.e, 0, []⟩⟩, rfl, rfl, by go_num, by omega, HM.out, HP.out.own HC2.out.2 (by have := HC2.out.1; rw [HX0.out] at this ⊢; exact this) (by rw [HB.out])⟩
            case measure => simp [intOf] <;> omega
          · have HN : RowKit.Hid (q.step x = ⟨q.d, q.c, q.ok, ⟨q.s.e, q.s.n, [x]⟩⟩) := by
              show _ = _
              unfold Q20.step
              rw [if_pos hb, if_pos hdue, if_neg hx0]
            rw [HN.out] at HM
            have hleft : (16 * (X : Int)) = ((16 * X + 1 - 1 : Nat) : Int) := by omega
            have HLf := Lib.hid hleft
            clear hleft hC1
            go_wp2
            go_region
            go_wp2
            go_roundw
            case rel => exact ⟨k + 1, u, u2, uB, xs, ⟨q.d, q.c, q.ok, ⟨q.s.e, q.s.n, [x]⟩⟩, rfl, rfl, by go_num, by omega, HM.out, HP.out.own HC2.out.2 (by refine cel_cast HC2.out.1 ?_; rw [HLf.out, ← HX.out]; rfl) (by rw [HB.out]; rfl)⟩
            case measure => simp [intOf] <;> omega
        · obtain ⟨_, hst⟩ := step_sound HO.out x hdue
          rw [hst] at HM
          obtain ⟨m, hm⟩ : ∃ m, q.s.n + 1 = m := ⟨_, rfl⟩
          have hm1 : (q.s.n : Int) + 1 = (m : Int) := by omega
          rw [hm] at HM
          have hrg : r ≠ g := (HG.out r off rfl (by omega)).1
          obtain ⟨W1, hW1⟩ : ∃ W1, wr.setCell ⟨g, 1, none⟩ (.int .i64 (m : Int)) = W1 := ⟨_, rfl⟩
          have hK1 : Keeps (· = g) wr W1 := by rw [← hW1]; exact Keeps.setCell (F := (· = g)) (Keeps.refl _ wr) (p := ⟨g, 1, none⟩) (.inl rfl) _
          have hC1 := HP.out.r.c.set_ 1 (.int .i64 (m : Int))
          rw [hW1] at hC1
          have cx1 : W1.cell? ⟨r, off + k, none⟩ = some (.int .u8 (x.toNat : Int)) := (World.cell?_of_block (a := ⟨r, off + k, none⟩) (hK1.block r (cell_block cx) hrg)).trans cx
          simp only [hb, if_true] at hC1
          have HP1 : RowKit.Hid (RqSt w B g vB0 ⟨q.d, q.c, q.ok, ⟨q.s.e, m, []⟩⟩ xs u u2 uB W1.drew) := (HP.out.own (S := ⟨q.s.e, m, []⟩) (ok := q.ok) hK1 hC1 (by rw [hb])).below (Below.drewN' (Below.refl _ W1) 1)
          obtain ⟨ua, ucp, rfl⟩ := HP1.out.o.form
          obtain ⟨M, hM⟩ : ∃ M, q.d.length + lastN q.c = M := ⟨_, rfl⟩
          simp only at HP1
          rw [hM] at HP1 HP ⊢
          have hM2 : M ≤ 1000000 := by have : lastN q.c ≤ 1 := by unfold lastN; split <;> omega
                                       omega
          have cx2 : W1.drew.cell? ⟨r, off + k, none⟩ = some (.int .u8 (x.toNat : Int)) := cx1
          have hdn : ¬ (0 < q.s.e ∧ q.s.n = q.s.e) := hdue
          have hlen : xs.length = q.d.length := by have := congrArg List.length HP1.out.o.m; rwa [List.length_map] at this
          by_cases hcc : q.c = []
          · have hMd : M = xs.length := by rw [hlen, ← hM]; unfold lastN; rw [if_pos hcc]; rfl
            have hLn : lastN q.c = 0 := by unfold lastN; rw [if_pos hcc]
            have hLc : lastC u2 q.c = [] := by unfold lastC; rw [if_pos hcc]
            have HOw := HP1.out.o.o
            simp only at HOw
            rw [hLn, hLc, Nat.add_zero, List.append_nil, ← hMd] at HOw
            have hends := HP1.out.e
            obtain ⟨Wz, hWz⟩ : ∃ Wz, (W1.drew.alloc (.cells #[.int .u8 (x.toNat : Int)] 5)).alloc (.cells #[.bool false, .string ⟨#[]⟩, .slice (some ⟨W1.heap.size, 0, none⟩) 1 1] 41) = Wz := ⟨_, rfl⟩
            have hbz : Below W1.drew.heap.size W1.drew Wz := by
              rw [← hWz]
              have b1 : Below W1.drew.heap.size W1.drew (W1.drew.alloc (.cells #[.int .u8 (x.toNat : Int)] 5)) := Below.alloc_new _ _
              exact b1.alloc b1.size _
            have HZ : RowKit.Hid (Wz.ownsRow w.heap.size 41 3 (.slice ua M ucp) M (rpFlat xs) ∧ Cel Wz (W1.heap.size + 1) 41 #[.bool false, .string ⟨#[]⟩, .slice (some ⟨W1.heap.size, 0, none⟩) 1 1] ∧ w.heap.size ≤ Wz.heap.size) := by
              refine ⟨own_below HOw hbz, ?_, Nat.le_trans HP1.out.k.size hbz.size⟩
              rw [← hWz]
              exact cel_new2 W1.drew _ _ _
            rw [← hWz] at HZ
            have HMx : RowKit.Hid (M = xs.length) := hMd
            have HBx := Lib.hid hb
            have hM1 : M ≤ 1000000 := hM2
            have HMc : RowKit.Hid ((⟨q.d, [x], q.ok, ⟨q.s.e, m, []⟩⟩ : Q20) = S.start.run (b.take (k + 1))) := by
              have := HM.out
              rw [hcc] at this
              exact this
            rcases hends with hd0 | ⟨d', T, hdT⟩
            · have hM0 : M = 0 := by
                have : q.d.length = 0 := by rw [hd0]; rfl
                omega
              have hMn : ¬ (0 : Int) < (M : Int) := by omega
              clear hM hMd hlen hst hC1 hdn hLn hLc HOw hWz hd0 hM0
              by_cases he0 : 0 < q.s.e
              · have q0 : (0 : Int) < (q.s.e : Int) := by omega
                have q1 : ((q.s.n : Int) == (q.s.e : Int)) = false := by simp; omega
                go_wp2
                go_region
                go_wp2_with (first
                  | (at_builtin; go_loud (refine append_rp rfl _ _ rfl w.heap.size _ _ (rpFlat xs) rfl HZ.out.1 (W1.heap.size + 1) (.bool false) (.string ⟨#[]⟩) (.slice (some ⟨W1.heap.size, 0, none⟩) 1 1) rfl HZ.out.2.1 (by simp [Value.oneCell']) hM1 HZ.out.2.2 ?_); intro v5 w5 ho5 hk5; rw [HMx.out] at ho5; have HP5 := Lib.hid (HP1.out.first hcc ho5 hk5); clear ho5 hk5)
                  | fail)
                go_roundw
                case rel => exact ⟨k + 1, _, _, uB, xs, ⟨q.d, [x], q.ok, ⟨q.s.e, m, []⟩⟩, rfl, rfl, by go_num, by omega, HMc.out, HP5.out⟩
                case measure => simp [intOf] <;> omega
              · have q0 : ¬ (0 : Int) < (q.s.e : Int) := by omega
                go_wp2
                go_region
                go_wp2_with (first
                  | (at_builtin; go_loud (refine append_rp rfl _ _ rfl w.heap.size _ _ (rpFlat xs) rfl HZ.out.1 (W1.heap.size + 1) (.bool false) (.string ⟨#[]⟩) (.slice (some ⟨W1.heap.size, 0, none⟩) 1 1) rfl HZ.out.2.1 (by simp [Value.oneCell']) hM1 HZ.out.2.2 ?_); intro v5 w5 ho5 hk5; rw [HMx.out] at ho5; have HP5 := Lib.hid (HP1.out.first hcc ho5 hk5); clear ho5 hk5)
                  | fail)
                go_roundw
                case rel => exact ⟨k + 1, _, _, uB, xs, ⟨q.d, [x], q.ok, ⟨q.s.e, m, []⟩⟩, rfl, rfl, by go_num, by omega, HMc.out, HP5.out⟩
                case measure => simp [intOf] <;> omega
            · have hMp : 0 < M := by
                have : q.d.length = d'.length + 1 := by rw [hdT]; simp
                omega
              obtain ⟨gv, rfl, hgv⟩ := HP1.out.o.addr (by simp only; rw [hM]; omega)
              obtain ⟨N, hN⟩ : ∃ N, M - 1 = N := ⟨_, rfl⟩
              have hxN : N < xs.length := by omega
              have l0 : W1.cell? ⟨gv, N * 3, none⟩ = some (.bool true) := by
                have k0 := HP1.out.o.cell (i := N) (k := 0) hxN (by omega)
                rw [Nat.add_zero] at k0
                have hx1 : xs[N].1 = .told T := by
                  have e1 : (xs.map (·.1))[N]? = (d' ++ [Pc.told T])[N]? := by rw [HP1.out.o.m]; exact congrArg (·[N]?) hdT
                  have e2 : N = d'.length := by
                    have : q.d.length = d'.length + 1 := by rw [hdT]; simp
                    omega
                  have e3 : (d' ++ [Pc.told T])[N]? = some (.told T) := by rw [e2]; simp
                  rw [List.getElem?_map, List.getElem?_eq_getElem hxN, e3] at e1
                  simpa using e1
                have : rpCells xs[N] = [.bool true, .string (ba T), .slice none 0 0] := by
                  rcases hxx : xs[N] with ⟨p, a, c⟩
                  rw [hxx] at hx1
                  have hx2 : p = .told T := hx1
                  rw [hx2]
                  rfl
                rw [this] at k0
                exact k0
              have hMi : (M : Int) - 1 = (N : Int) := by omega
              have hwN : IntKind.i64.wrap (N : Int) = (N : Int) := IntWalk.i64_in _ (by omega)
              have hM0 : (0 : Int) < (M : Int) := by omega
              have hNM : (N : Int) < (M : Int) := by omega
              clear hM hMd hlen hst hC1 hdn hLn hLc HOw hWz hdT hN hxN
              by_cases he0 : 0 < q.s.e
              · have q0 : (0 : Int) < (q.s.e : Int) := by omega
                have q1 : ((q.s.n : Int) == (q.s.e : Int)) = false := by simp; omega
                go_wp2
                go_region
                go_wp2_with (first
                  | (at_builtin; go_loud (refine append_rp rfl _ _ rfl w.heap.size _ _ (rpFlat xs) rfl HZ.out.1 (W1.heap.size + 1) (.bool false) (.string ⟨#[]⟩) (.slice (some ⟨W1.heap.size, 0, none⟩) 1 1) rfl HZ.out.2.1 (by simp [Value.oneCell']) hM1 HZ.out.2.2 ?_); intro v5 w5 ho5 hk5; rw [HMx.out] at ho5; have HP5 := Lib.hid (HP1.out.first hcc ho5 hk5); clear ho5 hk5)
                  | fail)
                go_roundw
                case rel => exact ⟨k + 1, _, _, uB, xs, ⟨q.d, [x], q.ok, ⟨q.s.e, m, []⟩⟩, rfl, rfl, by go_num, by omega, HMc.out, HP5.out⟩
                case measure => simp [intOf] <;> omega
              · have q0 : ¬ (0 : Int) < (q.s.e : Int) := by omega
                go_wp2
                go_region
                go_wp2_with (first
                  | (at_builtin; go_loud (refine append_rp rfl _ _ rfl w.heap.size _ _ (rpFlat xs) rfl HZ.out.1 (W1.heap.size + 1) (.bool false) (.string ⟨#[]⟩) (.slice (some ⟨W1.heap.size, 0, none⟩) 1 1) rfl HZ.out.2.1 (by simp [Value.oneCell']) hM1 HZ.out.2.2 ?_); intro v5 w5 ho5 hk5; rw [HMx.out] at ho5; have HP5 := Lib.hid (HP1.out.first hcc ho5 hk5); clear ho5 hk5)
                  | fail)
                go_roundw
                case rel => exact ⟨k + 1, _, _, uB, xs, ⟨q.d, [x], q.ok, ⟨q.s.e, m, []⟩⟩, rfl, rfl, by go_num, by omega, HMc.out, HP5.out⟩
                case measure => simp [intOf] <;> omega
          · have hMd : M = xs.length + 1 := by rw [hlen, ← hM]; unfold lastN; rw [if_neg hcc]
            obtain ⟨gv, rfl, hgv⟩ := HP1.out.o.addr (by simp only; rw [hM]; omega)
            obtain ⟨N, hN⟩ : ∃ N, xs.length = N := ⟨_, rfl⟩
            have l0 : W1.cell? ⟨gv, N * 3, none⟩ = some (.bool false) := by rw [← hN]; exact (HP1.out.o.last hcc (k := 0) (by omega)).1
            have l2 : W1.cell? ⟨gv, N * 3 + 2, none⟩ = some u2 := by rw [← hN]; exact (HP1.out.o.last hcc (k := 2) (by omega)).1
            have lf : W1.frozen? ⟨gv, N * 3 + 2, none⟩ = false := by rw [← hN]; exact (HP1.out.o.last hcc (k := 2) (by omega)).2
            have hMi : (M : Int) - 1 = (N : Int) := by omega
            have hM0 : (0 : Int) < (M : Int) := by omega
            have hNM : (N : Int) < (M : Int) := by omega
            have hwN : IntKind.i64.wrap (N : Int) = (N : Int) := IntWalk.i64_in _ (by omega)
            have HNx := Lib.hid hN
            have HMx : RowKit.Hid (M = N + 1) := by show _ = _; omega
            have HBx := Lib.hid hb
            have hsz := HP1.out.k.size
            clear hM hMd hlen hN hst hC1 hdn
            have hb3 : Below W1.drew.heap.size W1.drew (W1.drew.alloc (.cells #[.int .u8 (x.toNat : Int)] 5)).drew := Below.drewN' (Below.alloc_new _ _) 1
            have HO3 : RowKit.Hid (OwnB (W1.drew.alloc (.cells #[.int .u8 (x.toNat : Int)] 5)).drew w.heap.size u2 q.c) := HP1.out.o.s.below hb3
            have HX3 : RowKit.Hid ((W1.drew.alloc (.cells #[.int .u8 (x.toNat : Int)] 5)).drew.cell? ⟨W1.heap.size, 0, none⟩ = some (.int .u8 (x.toNat : Int))) := (Cel.new W1.drew 5 #[.int .u8 (x.toNat : Int)]).cell 0
            have HB3 : RowKit.Hid (w.heap.size ≤ (W1.drew.alloc (.cells #[.int .u8 (x.toNat : Int)] 5)).drew.heap.size ∧ Below W1.drew.heap.size W1.drew (W1.drew.alloc (.cells #[.int .u8 (x.toNat : Int)] 5)).drew) := ⟨Nat.le_trans HP1.out.k.size hb3.size, hb3⟩
            have hba : Below W1.heap.size W1 (W1.alloc (.cells #[.int .u8 (x.toNat : Int)] 5)) := Below.alloc_new _ _
            have l2a : (W1.alloc (.cells #[.int .u8 (x.toNat : Int)] 5)).cell? ⟨gv, N * 3 + 2, none⟩ = some u2 := (hba.cell (p := ⟨gv, N * 3 + 2, none⟩) (cell_block l2)).trans l2
            clear hb3 hba
            by_cases he0 : 0 < q.s.e
            · have q0 : (0 : Int) < (q.s.e : Int) := by omega
              have q1 : ((q.s.n : Int) == (q.s.e : Int)) = false := by simp; omega
              go_wp2
              go_region
              go_wp2
              go_region_law ((refine step_app_byte (by rfl) _ _ (by rfl) w.heap.size u2 q.c (by rfl) HO3.out W1.heap.size x (by rfl) HX3.out (by omega) HB3.out.1 (W1.heap.size + 1) (by simp) ?_; intro gg cp4 w4 ho4 hg4 hv4 hlt4; obtain ⟨l4, lf4⟩ := HP1.out.more_cell hcc HB3.out.2 hg4; have HP4 := Lib.hid (HP1.out.more hcc HB3.out.2 ho4 hg4 (fun j hj => by have := hv_new hv4 hj; simpa using this)); rw [HNx.out] at l4 lf4 HP4))
              all_goals
                go_wp2
                go_roundw
                case rel => exact ⟨k + 1, _, _, uB, xs, ⟨q.d, q.c ++ [x], q.ok, ⟨q.s.e, m, []⟩⟩, rfl, rfl, by go_num, by omega, HM.out, HP4.out⟩
                case measure => simp [intOf] <;> omega
            · have q0 : ¬ (0 : Int) < (q.s.e : Int) := by omega
              go_wp2
              go_region
              go_wp2
              go_region_law ((refine step_app_byte (by rfl) _ _ (by rfl) w.heap.size u2 q.c (by rfl) HO3.out W1.heap.size x (by rfl) HX3.out (by omega) HB3.out.1 (W1.heap.size + 1) (by simp) ?_; intro gg cp4 w4 ho4 hg4 hv4 hlt4; obtain ⟨l4, lf4⟩ := HP1.out.more_cell hcc HB3.out.2 hg4; have HP4 := Lib.hid (HP1.out.more hcc HB3.out.2 ho4 hg4 (fun j hj => by have := hv_new hv4 hj; simpa using this)); rw [HNx.out] at l4 lf4 HP4))
              all_goals
                go_wp2
                go_roundw
                case rel => exact ⟨k + 1, _, _, uB, xs, ⟨q.d, q.c ++ [x], q.ok, ⟨q.s.e, m, []⟩⟩, rfl, rfl, by go_num, by omega, HM.out, HP4.out⟩
                case measure => simp [intOf] <;> omega
      · have hbne := hb
        rw [if_neg hb] at c1 c2
        obtain ⟨b1, b2, b3, b4⟩ := HO.out.b hb
        have h81 := HO.out.b_le
        obtain ⟨tl, htlx⟩ : ∃ tl, q.s.b.tail = tl := ⟨_, rfl⟩
        have htl : tl.length ≤ 4080 := by rw [← htlx, List.length_tail]; omega
        have HTLx := Lib.hid htlx
        obtain ⟨Lz, hLz⟩ : ∃ Lz, 16 * (q.s.b.headD 0).toNat + 1 - q.s.b.length = Lz := ⟨_, rfl⟩
        have hL1 : 1 ≤ Lz := by omega
        obtain ⟨L1, hL⟩ : ∃ L1, Lz = L1 + 1 := ⟨Lz - 1, by omega⟩
        rw [hLz] at c2
        have hC0 : Cel wr g 32 #[.int .i64 (q.s.e : Int), .int .i64 0, .int .i64 (Lz : Int), uB] := by
          have := HP.out.r.c
          rw [if_neg hb, if_neg hb, hLz] at this
          exact this
        have hl0 : (0 : Int) < (Lz : Int) := by omega
        have hl1 : (Lz : Int) - 1 = (L1 : Int) := by omega
        have hL1b : L1 ≤ 5000 := by have := (q.s.b.headD 0).toNat_lt; omega
        have Hw64 : RowKit.Hid (wrap64 (L1 : Int) = (L1 : Int)) := IntWalk.wrap64_in _ (by omega)
        clear hL1b
        have hb3 : Below wr.heap.size wr (wr.alloc (.cells #[.int .u8 (x.toNat : Int)] 5)).drew := Below.drewN' (Below.alloc_new _ _) 1
        have HO3 : RowKit.Hid (OwnB (wr.alloc (.cells #[.int .u8 (x.toNat : Int)] 5)).drew B uB tl) := by
          have := HP.out.r.o.below hb3
          rw [htlx] at this
          exact this
        have HX3 : RowKit.Hid ((wr.alloc (.cells #[.int .u8 (x.toNat : Int)] 5)).drew.cell? ⟨wr.heap.size, 0, none⟩ = some (.int .u8 (x.toNat : Int))) := (Cel.new wr 5 #[.int .u8 (x.toNat : Int)]).cell 0
        have HB3 : RowKit.Hid (B ≤ (wr.alloc (.cells #[.int .u8 (x.toNat : Int)] 5)).drew.heap.size ∧ Below wr.heap.size wr (wr.alloc (.cells #[.int .u8 (x.toNat : Int)] 5)).drew) := ⟨Nat.le_trans hB (Nat.le_trans HP.out.k.size hb3.size), hb3⟩
        have c3a : (wr.alloc (.cells #[.int .u8 (x.toNat : Int)] 5)).cell? ⟨g, 3, none⟩ = some uB := (hC0.alloc _).cell 3
        have HC0 := Lib.hid hC0
        have hstp : q.s.b.length + 1 ≤ 16 * ((q.s.b ++ [x]).headD 0).toNat ↔ L1 ≠ 0 := by rw [headD_app hb]; omega
        have HLz := Lib.hid hLz
        have HLL := Lib.hid hL
        have HBn := Lib.hid hb
        have HB1 := Lib.hid (And.intro b1 b2)
        have hxn := x.toNat_lt
        have HIX : RowKit.Hid (xs.length = q.d.length) := by
          show _ = _
          have := congrArg List.length HP.out.o.m
          rwa [List.length_map] at this
        by_cases hw : L1 ≠ 0
        · have HN : RowKit.Hid (q.step x = ⟨q.d, q.c, q.ok, ⟨q.s.e, q.s.n, q.s.b ++ [x]⟩⟩) := step_wait HO.out x ⟨b1, b2⟩ (hstp.2 hw)
          rw [HN.out] at HM
          have hl9 : ((L1 : Int) == 0) = false := by simp; omega
          have HEq : RowKit.Hid (∀ z : Value, (#[.int .i64 (q.s.e : Int), .int .i64 0, .int .i64 (L1 : Int), z] : Array Value) = #[.int .i64 (q.s.e : Int), .int .i64 ((if q.s.b ++ [x] = [] then q.s.n else 0 : Nat) : Int), .int .i64 ((if q.s.b ++ [x] = [] then 0 else 16 * ((q.s.b ++ [x]).headD 0).toNat + 1 - (q.s.b ++ [x]).length : Nat) : Int), z]) := by
            intro z
            rw [if_neg (by simp), if_neg (by simp), headD_app hb, List.length_append, List.length_singleton, show 16 * (q.s.b.headD 0).toNat + 1 - (q.s.b.length + 1) = L1 by omega]
            rfl
          have HTl : RowKit.Hid (tl ++ [x] = (q.s.b ++ [x]).tail) := by
            show _ = _
            rw [← htlx]
            cases hq2 : q.s.b with
            | nil => exact absurd hq2 hb
            | cons y t => rfl
          clear hb hbne b1 b2 b3 b4 h81 hLz hL hstp hC0 hb3 hw hL1 htlx
          go_wp2
          go_region_law ((refine step_app_byte (by rfl) _ _ (by rfl) B uB tl (by rfl) HO3.out wr.heap.size x (by rfl) HX3.out (by omega) HB3.out.1 (wr.heap.size + 1) (by simp) ?_; intro gg cp4 w4 ho4 hg4 hv4 hlt4; have R4 := Lib.hid (HP.out.blk HB3.out.2 (by rw [HTLx.out]; exact ho4) hg4 (fun j hj => by have := hv_new hv4 hj; simpa using this) _ _ _ HC0.out); rw [HTLx.out] at R4; have R5 := Lib.hid (R4.out.set 2 (.int .i64 (L1 : Int))); obtain ⟨s3, sf3⟩ := HP.out.blk_cell HB3.out.2 hg4 HC0.out; obtain ⟨W4, hW4⟩ : ∃ W4, w4.setCell ⟨g, 3, none⟩ (.slice (some ⟨gg, 0, none⟩) (tl.length + 1) cp4) = W4 := ⟨_, rfl⟩; rw [hW4] at R4 R5; have p2 : W4.cell? ⟨g, 2, none⟩ = some (.int .i64 (Lz : Int)) := R4.out.c.cell 2; have pf2 := R4.out.c.frozen 2; obtain ⟨W5, hW5⟩ : ∃ W5, W4.setCell ⟨g, 2, none⟩ (.int .i64 (L1 : Int)) = W5 := ⟨_, rfl⟩; rw [hW5] at R5; have t2 : W5.cell? ⟨g, 2, none⟩ = some (.int .i64 (L1 : Int)) := R5.out.c.cell 2; have t3 : W5.cell? ⟨g, 3, none⟩ = some (.slice (some ⟨gg, 0, none⟩) (tl.length + 1) cp4) := R5.out.c.cell 3; have tf3 := R5.out.c.frozen 3; clear ho4 hg4 hv4))
          all_goals
            have hw64 := Hw64.out
            go_wp2
            go_roundw
            case rel => exact ⟨k + 1, u, u2, _, xs, ⟨q.d, q.c, q.ok, ⟨q.s.e, q.s.n, q.s.b ++ [x]⟩⟩, rfl, rfl, by go_num, by omega, HM.out, R5.out.st q.ok HP.out.e (HEq.out _) HTl.out⟩
            case measure => simp [intOf] <;> omega
        · have hw0 : L1 = 0 := by omega
          obtain ⟨hwl, hsome, hnone⟩ := step_whole HO.out x hb (fun c => hw (hstp.1 c))
          obtain ⟨hh, ht, hbt⟩ : ∃ hh ht, q.s.b = hh :: ht := by
            cases hq2 : q.s.b with
            | nil => exact absurd hq2 hb
            | cons y t => exact ⟨y, t, rfl⟩
          have hfull : q.s.b ++ [x] = hh :: (tl ++ [x]) := by rw [← htlx, hbt]; rfl
          have hn16 : tl.length + 1 = 16 * hh.toNat := by
            have := hwl
            rw [hfull] at this
            simpa using this
          have HT := Lib.hid (fun W cp gg (hb : BytA W (some ⟨gg, 0, none⟩) (tl.length + 1) cp (tl ++ [x])) => rTitle_any (some ⟨gg, 0, none⟩) (tl.length + 1) cp (tl ++ [x]) hh W hb hn16)
          unfold RtPost at HT
          rw [← hfull] at HT
          have hl9 : ((L1 : Int) == 0) = true := by rw [hw0]; rfl
          have HEq : RowKit.Hid (∀ z : Value, (#[.int .i64 (q.s.e : Int), .int .i64 0, .int .i64 (L1 : Int), z] : Array Value) = #[.int .i64 (q.s.e : Int), .int .i64 ((0 : Nat) : Int), .int .i64 ((0 : Nat) : Int), z]) := by intro z; rw [hw0]; rfl
          cases htell : tellF (q.s.b ++ [x]) with
          | none =>
            rw [hnone htell] at HM
            rw [htell] at HT
            simp only [Option.getD_none, Option.isSome_none] at HT
            clear hb hbne b1 b2 b3 b4 h81 hLz hL hstp hC0 hb3 hw hL1 hwl hsome hnone hbt hfull hn16 htell hw0 htlx
            go_wp2
            go_region_law ((refine step_app_byte (by rfl) _ _ (by rfl) B uB tl (by rfl) HO3.out wr.heap.size x (by rfl) HX3.out (by omega) HB3.out.1 (wr.heap.size + 1) (by simp) ?_; intro gg cp4 w4 ho4 hg4 hv4 hlt4; have R4 := Lib.hid (HP.out.blk HB3.out.2 (by rw [HTLx.out]; exact ho4) hg4 (fun j hj => by have := hv_new hv4 hj; simpa using this) _ _ _ HC0.out); rw [HTLx.out] at R4; have R5 := Lib.hid (R4.out.set 2 (.int .i64 (L1 : Int))); obtain ⟨s3, sf3⟩ := HP.out.blk_cell HB3.out.2 hg4 HC0.out; obtain ⟨W4, hW4⟩ : ∃ W4, w4.setCell ⟨g, 3, none⟩ (.slice (some ⟨gg, 0, none⟩) (tl.length + 1) cp4) = W4 := ⟨_, rfl⟩; rw [hW4] at R4 R5; have p2 : W4.cell? ⟨g, 2, none⟩ = some (.int .i64 (Lz : Int)) := R4.out.c.cell 2; have pf2 := R4.out.c.frozen 2; obtain ⟨W5, hW5⟩ : ∃ W5, W4.setCell ⟨g, 2, none⟩ (.int .i64 (L1 : Int)) = W5 := ⟨_, rfl⟩; rw [hW5] at R5; have t2 : W5.cell? ⟨g, 2, none⟩ = some (.int .i64 (L1 : Int)) := R5.out.c.cell 2; have t3 : W5.cell? ⟨g, 3, none⟩ = some (.slice (some ⟨gg, 0, none⟩) (tl.length + 1) cp4) := R5.out.c.cell 3; have tf3 := R5.out.c.frozen 3; clear ho4 hg4 hv4))
            all_goals
              have hw64 := Hw64.out
              have HBy : RowKit.Hid (BytA W5 (some ⟨gg, 0, none⟩) (tl.length + 1) cp4 (tl ++ [x])) := by
                have := R5.out.b
                have h2 := this
                rw [show tl.length + 1 = (tl ++ [x]).length by simp] at h2
                have h3 := h2.bytA
                rwa [List.length_append, List.length_singleton] at h3
              go_wp2_with (first
                | (go_at_call 23; go_loud (refine (HT.out _ _ _ HBy.out).mono ?_); rintro e6 w6 ⟨rfl, hb6⟩; have R6 := Lib.hid (R5.out.below hb6); have R7 := Lib.hid R6.out.drop; have u3 : w6.cell? ⟨g, 3, none⟩ = some (.slice (some ⟨gg, 0, none⟩) (tl.length + 1) cp4) := R6.out.c.cell 3; have uf3 := R6.out.c.frozen 3; clear hb6)
                | fail)
              go_roundw
              case rel => exact ⟨k + 1, u, u2, .slice none 0 0, xs, ⟨q.d, q.c, false, ⟨q.s.e, 0, []⟩⟩, rfl, rfl, by go_num, by omega, HM.out, R7.out.st (S := ⟨q.s.e, 0, []⟩) false HP.out.e (HEq.out _) rfl⟩
              case measure => simp [intOf] <;> omega
          | some T =>
            rw [hsome T htell] at HM
            rw [htell] at HT
            simp only [Option.getD_some, Option.isSome_some] at HT
            have HOw := HP.out.o.o
            obtain ⟨ua, ucp, rfl⟩ := HP.out.o.form
            obtain ⟨M, hM⟩ : ∃ M, q.d.length + lastN q.c = M := ⟨_, rfl⟩
            have HMx : RowKit.Hid (M = xs.length + lastN q.c) := by show _ = _; rw [HIX.out, hM]
            have hM2 : M ≤ 1000000 := by
              have : lastN q.c ≤ 1 := by unfold lastN; split <;> omega
              omega
            rw [hM] at HP ⊢
            have HEnd : RowKit.Hid (endsT (joinP q.d q.c ++ [.told T])) := .inr ⟨_, _, rfl⟩
            clear hb hbne b1 b2 b3 b4 h81 hLz hL hstp hC0 hb3 hw hL1 hwl hsome hnone hbt hfull hn16 htell hw0 hM HOw htlx
            go_wp2
            go_region_law ((refine step_app_byte (by rfl) _ _ (by rfl) B uB tl (by rfl) HO3.out wr.heap.size x (by rfl) HX3.out (by omega) HB3.out.1 (wr.heap.size + 1) (by simp) ?_; intro gg cp4 w4 ho4 hg4 hv4 hlt4; have R4 := Lib.hid (HP.out.blk HB3.out.2 (by rw [HTLx.out]; exact ho4) hg4 (fun j hj => by have := hv_new hv4 hj; simpa using this) _ _ _ HC0.out); rw [HTLx.out] at R4; have R5 := Lib.hid (R4.out.set 2 (.int .i64 (L1 : Int))); obtain ⟨s3, sf3⟩ := HP.out.blk_cell HB3.out.2 hg4 HC0.out; obtain ⟨W4, hW4⟩ : ∃ W4, w4.setCell ⟨g, 3, none⟩ (.slice (some ⟨gg, 0, none⟩) (tl.length + 1) cp4) = W4 := ⟨_, rfl⟩; rw [hW4] at R4 R5; have p2 : W4.cell? ⟨g, 2, none⟩ = some (.int .i64 (Lz : Int)) := R4.out.c.cell 2; have pf2 := R4.out.c.frozen 2; obtain ⟨W5, hW5⟩ : ∃ W5, W4.setCell ⟨g, 2, none⟩ (.int .i64 (L1 : Int)) = W5 := ⟨_, rfl⟩; rw [hW5] at R5; have t2 : W5.cell? ⟨g, 2, none⟩ = some (.int .i64 (L1 : Int)) := R5.out.c.cell 2; have t3 : W5.cell? ⟨g, 3, none⟩ = some (.slice (some ⟨gg, 0, none⟩) (tl.length + 1) cp4) := R5.out.c.cell 3; have tf3 := R5.out.c.frozen 3; clear ho4 hg4 hv4))
            all_goals
              have hw64 := Hw64.out
              have HBy : RowKit.Hid (BytA W5 (some ⟨gg, 0, none⟩) (tl.length + 1) cp4 (tl ++ [x])) := by
                have h2 := R5.out.b
                rw [show tl.length + 1 = (tl ++ [x]).length by simp] at h2
                have h3 := h2.bytA
                rwa [List.length_append, List.length_singleton] at h3
              go_wp2_with (first
                | (go_at_call 23; go_loud (refine (HT.out _ _ _ HBy.out).mono ?_); rintro e6 w6 ⟨rfl, hb6⟩; have R6 := Lib.hid (R5.out.below hb6); have hb7 := Below.alloc_new w6 (.cells #[.bool true, .string (ba T), .slice none 0 0] 41); have HO7 := Lib.hid (own_below R6.out.o.o hb7); rw [← HMx.out] at HO7; have HC7 := Lib.hid (Cel.new w6 41 #[.bool true, .string (ba T), .slice none 0 0]); have HB7 := Lib.hid hb7; have hs7 := Nat.le_trans R6.out.k.size hb7.size; have HS7 := Lib.hid hs7; clear hb6 hb7 hs7)
                | (at_builtin; go_loud (refine append_rp rfl _ _ rfl w.heap.size _ _ _ rfl HO7.out w6.heap.size (.bool true) (.string (ba T)) (.slice none 0 0) rfl HC7.out (by simp [Value.oneCell']) hM2 HS7.out ?_); intro v8 w8 ho8 hk8; rw [HMx.out] at ho8; obtain ⟨xs8, hr8⟩ := R6.out.told HB7.out ho8 hk8; have R8 := Lib.hid hr8; have R9 := Lib.hid hr8.drop; have u3 : w8.cell? ⟨g, 3, none⟩ = some (.slice (some ⟨gg, 0, none⟩) (tl.length + 1) cp4) := R8.out.c.cell 3; have uf3 := R8.out.c.frozen 3; clear ho8 hk8 hr8)
                | fail)
              go_roundw
              case rel => exact ⟨k + 1, v8, .slice none 0 0, .slice none 0 0, xs8, ⟨joinP q.d q.c ++ [.told T], [], q.ok, ⟨q.s.e, 0, []⟩⟩, rfl, rfl, by go_num, by omega, HM.out, R9.out.st (S := ⟨q.s.e, 0, []⟩) q.ok HEnd.out (HEq.out _) rfl⟩
              case measure => simp [intOf] <;> omega
    · obtain rfl : k = n := by omega
      have hq := H.out.1
      rw [List.take_of_length_le (by omega)] at hq
      have HE : RowKit.Hid (RpartPost B g S vB0 b w (.returned (.tuple #[u, .bool q.ok])) wr) := by
        show RpartPost B g S vB0 b w _ _
        unfold RpartPost
        rw [← hq]
        exact ⟨u, u2, uB, xs, rfl, H.out.2⟩
      clear H hq
      go_wp2
      go_ret2
      exact HE.out
end Go.Proofs.YtebfjmjdcbeekaaDoor
