/- What the document's weaver gives: bytes with blocks between. -/
import Derived.Test.YtebfjmjdcbeekaaWeaF
namespace Go.Proofs.Ytebfjmjdcbeekaa
open Go.RowKit Go.PlainAid
set_option linter.unusedVariables false
set_option linter.unusedSimpArgs false

theorem rv_drew {w W6 : World} {g : Nat} {T : W20} {e m : Nat} {t : List UInt8} {f : Bool} (h : RvAt w g ⟨e, m, t, f⟩) (hw : w.drew.setCell ⟨g, 1, none⟩ (.int .i64 0) = W6) : RvAt W6 g ⟨e, 0, t, f⟩ ∧ Keeps (· = g) w W6 := by
  rw [← hw]
  exact ⟨Cel.set_ (cs := #[.int .i64 (e : Int), .int .i64 (m : Int), .string (ba t), .bool f]) (w := w.drew) h 1 _, Keeps.setCell (F := (· = g)) (Keeps.drewN (Keeps.refl _ w) 1) (p := ⟨g, 1, none⟩) (.inl rfl) _⟩
theorem rv_last {w w8 : World} {g base e : Nat} {t : List UInt8} {f : Bool} {v : Value} {O : List UInt8} (h : RvAt w8 g ⟨e, 0, t, f⟩) (ho : OwnB w8 base v O) (hk : Keeps (· = g) w w8) :
    RvAt (w8.setCell ⟨g, 3, none⟩ (.bool false)) g ⟨e, 0, t, false⟩ ∧ OwnB (w8.setCell ⟨g, 3, none⟩ (.bool false)) base v O ∧ Keeps (· = g) w (w8.setCell ⟨g, 3, none⟩ (.bool false)) :=
  ⟨Cel.set_ h 3 _, own_far ho (p := ⟨g, 3, none⟩) (fun k hk => (own_typ19 ho hk).1.ne (Cel.typ19 h) (by decide)) _, Keeps.setCell (F := (· = g)) hk (p := ⟨g, 3, none⟩) (.inl rfl) _⟩
set_option maxRecDepth 100000 in
set_option maxHeartbeats 2000000 in
theorem rvWeave_any (g K : Nat) (S : W20) (a : Option Addr) (n cap : Nat) (b : List UInt8) (w : World) (h : RvAt w g S) (hS : S.Ok K) (hK : K ≤ 1000000) (hb : BytA w a n cap b) (hn : n ≤ 100000) (hg : ∀ r off, a = some ⟨r, off, none⟩ → 0 < n → r ≠ g) :
    Calls Try.prog 12 #[.pointer (some ⟨g, 0, none⟩), .slice a n cap] w (RvPost g S b w) := by
  have H0 : RowKit.Hid (RvSt w g S [] (.slice none 0 0) w) := ⟨World.ownsRow_nil _ _ _ _, h, .refl _ _⟩
  have hbl := hb.hl
  have HA := Lib.hid hb
  have HG := Lib.hid hg
  have HSK := Lib.hid hS
  have hgl := h.typ.lt
  clear hb hg h
  go_enter Try.func12, Try.ntmps12
  go_wp2
  go_loopw [5, 6] (fun v i wr => ∃ (k : Nat) (u : Value), u = v ∧ i = .int .i64 (k : Int) ∧ k ≤ n ∧ RowKit.Hid (RvSt w g S (b.take k) u wr)) (fun _ i _ => n - (intOf i).toNat)
  case atStart => exact ⟨0, _, rfl, rfl, by omega, by simpa using H0⟩
  case round =>
    clear H0
    obtain ⟨k, u, rfl, rfl, hk, H⟩ := hrel
    by_cases hlt : k < n
    · have hlk : (b.take k).length = k := by rw [List.length_take]; omega
      have hOk := HSK.out.run (b.take k)
      rw [hlk] at hOk
      have hle := W20.run_le HSK.out (b.take k)
      rw [hlk] at hle
      have hmore := take_more (b := b) (k := k) (by omega)
      obtain ⟨x, hx⟩ : ∃ x, b.getD k 0 = x := ⟨_, rfl⟩
      rw [hx] at hmore
      have hHA := HA.out.keeps H.out.k (fun r off e h0 c => HG.out r off e h0 c)
      obtain ⟨r, off, rfl, cx⟩ := hHA.byte hlt
      rw [hx] at cx
      have HRM : RowKit.Hid (∀ R, S.run (b.take k) = R → S.run (b.take (k + 1)) = (R.1 ++ R.2.out x, R.2.next)) := by
        intro R hR
        rw [hmore, W20.run_more, hR]
      obtain ⟨o, c, kp⟩ := H.out
      rcases hR : S.run (b.take k) with ⟨O, T⟩
      have HM := Lib.hid (HRM.out _ hR)
      rw [hR] at o c hOk hle
      simp only at o c hOk hle HM
      have HO := Lib.hid o
      have HC := Lib.hid c
      have HKp := Lib.hid kp
      have HT := Lib.hid hOk
      have HL := Lib.hid hle
      have HX : RowKit.Hid (BytA (wr.alloc (.cells #[.int .u8 (x.toNat : Int)] 5)) (some ⟨wr.heap.size, 0, none⟩) 1 1 [x]) := BytA.lit wr 5 #[.int .u8 (x.toNat : Int)] (0, 0) [x] rfl (by simp)
      have HO2 : RowKit.Hid (OwnB (wr.alloc (.cells #[.int .u8 (x.toNat : Int)] 5)) w.heap.size u O) := HO.out.below (Below.alloc_new _ _)
      have HSz : RowKit.Hid (w.heap.size ≤ (wr.alloc (.cells #[.int .u8 (x.toNat : Int)] 5)).heap.size) := by
        show _ ≤ _
        have := HKp.out.size
        rw [World.size_alloc]; omega
      have ht := HT.out.t
      have hTn : T.n ≤ 1100000 := by have := hOk.n; omega
      have hO8 : O.length ≤ 8200000 := by omega
      clear o c kp hOk hle hR HRM H hHA hmore hx
      obtain ⟨m, hm⟩ : ∃ m, T.n + 1 = m := ⟨_, rfl⟩
      have hm1 : (T.n : Int) + 1 = (m : Int) := by omega
      have HMm := Lib.hid hm
      by_cases hd : T.due = true
      · have HD : RowKit.Hid (decide (0 < T.e ∧ m = T.e) = true) := by
          have h2 := hd
          simp only [W20.due, Bool.and_eq_true, decide_eq_true_eq, hm] at h2
          exact decide_eq_true h2
        have HF : RowKit.Hid ((T.out x) = x :: (if T.f then blkF T.t else [0]) ∧ T.next = ⟨T.e, 0, T.t, false⟩ ∧ (if T.f then blkF T.t else [0]).length ≤ 81) := by
          refine ⟨by simp [W20.out, hd], by simp [W20.next, hd], ?_⟩
          have := blkF_le HT.out.l
          split
          · exact this
          · simp
        obtain ⟨blk, hblk⟩ : ∃ blk, (if T.f then blkF T.t else [0]) = blk := ⟨_, rfl⟩
        rw [hblk] at HF
        have HBk := Lib.hid hblk
        clear hd hm hblk
        go_wp2_with (first
          | (at_builtin; go_loud (refine app_bytes rfl _ _ 33 Try.underlying33 rfl w.heap.size u O rfl HO2.out _ 1 1 [x] rfl HX.out (by omega) HSz.out ?_); intro v1 w4 ho1 hg1 _; obtain ⟨hC4, hK4⟩ := rv_grown HC.out HO.out hg1; obtain ⟨W5, hW5⟩ : ∃ W5, w4.setCell ⟨g, 1, none⟩ (.int .i64 (m : Int)) = W5 := ⟨_, rfl⟩; have HC4 := Lib.hid hC4; have HK4 := Lib.hid hK4; have HO4 := Lib.hid ho1; have HC5 := Lib.hid (rv_since hC4 hW5); have HKp5 := Lib.hid (rv_keeps_set (rv_keeps HKp.out HO.out hK4) hW5); have HO5 := Lib.hid (rv_far hC4 ho1 hW5); obtain ⟨c0, c1, c2, c3, f1, f2, f3⟩ := HC4.out.cells; obtain ⟨d0, d1, d2, d3, k1, k2, k3⟩ := HC5.out.cells; clear hg1 hC4 hK4 ho1)
          | fail)
        have hme : 0 < T.e ∧ m = T.e := by simpa using HD.out
        obtain ⟨he0, rfl⟩ := hme
        have q0 : (0 : Int) < (T.e : Int) := by omega
        obtain ⟨W6, hW6⟩ : ∃ W6, W5.drew.setCell ⟨g, 1, none⟩ (.int .i64 0) = W6 := ⟨_, rfl⟩
        obtain ⟨hC6, hK6⟩ := rv_drew (T := T) HC5.out hW6
        have HC6 := Lib.hid hC6
        have HKp6 := Lib.hid (HKp5.out.trans hK6)
        have HO6 := Lib.hid (HO5.out.keeps hK6 fun j hj => by subst hj; exact ⟨_, HC5.out.typ, by decide⟩)
        obtain ⟨e0, e1, e2, e3, l1, l2, l3⟩ := hC6.cells
        clear hK6 hC6 c0 c1 c2 c3 f1 f2 f3
        go_region
        cases hf : T.f with
        | true =>
          rw [hf] at e3
          simp only at e2
          have CB := refBlock_any (ba T.t) W6 (by have := HT.out.l; rw [ba_size]; omega)
          rw [list_ba, ht] at CB
          have HBk2 : RowKit.Hid (blkF T.t = blk) := by show _ = _; have := HBk.out; rw [hf] at this; simpa using this
          go_wp2_with (first
            | (go_at_call 10; go_loud (refine CB.mono ?_); rintro e w7 ⟨v7, rfl, ho7, hb7⟩; rw [HBk2.out] at ho7; obtain ⟨a7, c7, rfl⟩ := ho7.form; have HB7 := Lib.hid ho7.bytA; have HO7 := Lib.hid (HO6.out.below hb7); have HC7 := Lib.hid (HC6.out.below hb7); have HKp7 := Lib.hid (HKp6.out.trans (.of_below hb7)); have HSz7 : RowKit.Hid ((O ++ [x]).length + blk.length ≤ 100000000) := (by show _ ≤ _; have h2 := HF.out.2.2; rw [List.length_append, List.length_singleton]; omega); have HS7 := Lib.hid HKp7.out.size; clear ho7 hb7)
            | (at_builtin; go_loud (refine app_bytes rfl _ _ 33 Try.underlying33 rfl w.heap.size v1 (O ++ [x]) rfl HO7.out a7 blk.length c7 blk rfl HB7.out HSz7.out HS7.out ?_); intro v8 w8 ho8 hg8 _; obtain ⟨hC8, hK8⟩ := rv_grown0 HC7.out HO7.out hg8; have HE8 := Lib.hid (rv_last hC8 ho8 (rv_keeps HKp7.out HO7.out hK8)); have y3 := hC8.cells.2.2.2.1; have y3f := hC8.cells.2.2.2.2.2.2; clear hg8 ho8 hC8 hK8)
            | fail)
          go_roundw
          case rel => exact ⟨k + 1, v8, rfl, by go_num, by omega, ⟨by rw [HM.out, HF.out.1]; have := HE8.out.2.1; rw [List.append_assoc] at this; exact this, by rw [HM.out, HF.out.2.1]; exact HE8.out.1, HE8.out.2.2⟩⟩
          case measure => simp [intOf] <;> omega
        | false =>
          rw [hf] at e3
          have HBk2 : RowKit.Hid ([0] = blk) := by show _ = _; have := HBk.out; rw [hf] at this; simpa using this
          have HB7 : RowKit.Hid (BytA (W6.alloc (.cells #[.int .u8 0] 5)) (some ⟨W6.heap.size, 0, none⟩) 1 1 [0]) := BytA.lit W6 5 #[.int .u8 0] (0, 0) [0] rfl (by simp)
          have HO7 := Lib.hid (HO6.out.below (Below.alloc_new W6 (.cells #[.int .u8 0] 5)))
          have HC7 := Lib.hid (HC6.out.below (Below.alloc_new W6 (.cells #[.int .u8 0] 5)))
          have HKp7 := Lib.hid (HKp6.out.alloc (.cells #[.int .u8 0] 5))
          go_wp2_with (first
            | (at_builtin; go_loud (refine app_bytes rfl _ _ 33 Try.underlying33 rfl w.heap.size v1 (O ++ [x]) rfl HO7.out _ 1 1 [0] rfl HB7.out (by rw [List.length_append, List.length_singleton]; omega) HKp7.out.size ?_); intro v8 w8 ho8 hg8 _; rw [HBk2.out] at ho8; obtain ⟨hC8, hK8⟩ := rv_grown0 HC7.out HO7.out hg8; have HE8 := Lib.hid (rv_last hC8 ho8 (rv_keeps HKp7.out HO7.out hK8)); have y3 := hC8.cells.2.2.2.1; have y3f := hC8.cells.2.2.2.2.2.2; clear hg8 ho8 hC8 hK8)
            | fail)
          go_roundw
          case rel => exact ⟨k + 1, v8, rfl, by go_num, by omega, ⟨by rw [HM.out, HF.out.1]; have := HE8.out.2.1; rw [List.append_assoc] at this; exact this, by rw [HM.out, HF.out.2.1]; exact HE8.out.1, HE8.out.2.2⟩⟩
          case measure => simp [intOf] <;> omega
      · have HD : RowKit.Hid (decide (0 < T.e ∧ m = T.e) = false) := by
          have h2 := hd
          simp only [W20.due, Bool.and_eq_true, decide_eq_true_eq, hm] at h2
          exact decide_eq_false h2
        have HF : RowKit.Hid ((T.out x) = [x] ∧ T.next = ⟨T.e, m, T.t, T.f⟩) := ⟨by simp [W20.out, hd], by simp [W20.next, hd, hm]⟩
        clear hd hm
        go_wp2_with (first
          | (at_builtin; go_loud (refine app_bytes rfl _ _ 33 Try.underlying33 rfl w.heap.size u O rfl HO2.out _ 1 1 [x] rfl HX.out (by omega) HSz.out ?_); intro v1 w4 ho1 hg1 _; obtain ⟨hC4, hK4⟩ := rv_grown HC.out HO.out hg1; obtain ⟨W5, hW5⟩ : ∃ W5, w4.setCell ⟨g, 1, none⟩ (.int .i64 (m : Int)) = W5 := ⟨_, rfl⟩; have HC4 := Lib.hid hC4; have HK4 := Lib.hid hK4; have HO4 := Lib.hid ho1; have HC5 := Lib.hid (rv_since hC4 hW5); have HKp5 := Lib.hid (rv_keeps_set (rv_keeps HKp.out HO.out hK4) hW5); have HO5 := Lib.hid (rv_far hC4 ho1 hW5); obtain ⟨c0, c1, c2, c3, f1, f2, f3⟩ := HC4.out.cells; obtain ⟨d0, d1, d2, d3, k1, k2, k3⟩ := HC5.out.cells; clear hg1 hC4 hK4 ho1)
          | fail)
        have HE6 : RowKit.Hid (RvSt w g S (b.take (k + 1)) v1 W5.drew) := by
          have hb6 : Below W5.heap.size W5 W5.drew := Below.drewN' (Below.refl _ W5) 1
          exact ⟨by rw [HM.out, HF.out.1]; exact HO5.out.below hb6, by rw [HM.out, HF.out.2]; exact HC5.out.below hb6, HKp5.out.trans (.of_below hb6)⟩
        clear c0 c1 c2 c3 f1 f2 f3
        by_cases he0 : 0 < T.e
        · have hme : ¬ m = T.e := by have := HD.out; simpa [he0] using this
          have q0 : (0 : Int) < (T.e : Int) := by omega
          have q1 : ((m : Int) == (T.e : Int)) = false := by simp; omega
          go_region
          go_wp2
          go_roundw
          case rel => exact ⟨k + 1, v1, rfl, by go_num, by omega, HE6.out⟩
          case measure => simp [intOf] <;> omega
        · have q0 : ¬ (0 : Int) < (T.e : Int) := by omega
          go_region
          go_wp2
          go_roundw
          case rel => exact ⟨k + 1, v1, rfl, by go_num, by omega, HE6.out⟩
          case measure => simp [intOf] <;> omega
    · obtain rfl : k = n := by omega
      have HE : RowKit.Hid (RvPost g S b w (.returned u) wr) := by
        have := H.out
        rw [List.take_of_length_le (by omega)] at this
        exact ⟨u, rfl, this.o, this.c, this.k⟩
      clear H
      go_wp2
      go_ret
      exact HE.out
end Go.Proofs.Ytebfjmjdcbeekaa
