/- What a weaver gives: bytes with blocks between. -/
import Derived.Test.YtebfjmjdcbeekaaDoorWeaC
namespace Go.Proofs.YtebfjmjdcbeekaaDoor
open Go.RowKit Go.PlainAid
set_option linter.unusedVariables false
set_option linter.unusedSimpArgs false

/-- What is woven, and where the weaver stands then. -/
def WvPost (g : Nat) (S : W20) (b : List UInt8) (w : World) (x : Ending) (w' : World) : Prop :=
  ∃ v, x = .returned v ∧ OwnB w' w.heap.size v (S.run b).1 ∧ WvAt w' g (S.run b).2 ∧ Keeps (· = g) w w'
theorem wv_grown {w w4 : World} {g base : Nat} {T : W20} {v : Value} {O : List UInt8} {o : Obj} (h : WvAt w g T) (ho : OwnB w base v O) (hg : (w.alloc o).grownBy w4 v.ownBlock) : WvAt w4 g T ∧ Keeps (fun j => v.ownBlock = some j) w w4 := by
  have k : Keeps (fun j => v.ownBlock = some j) w w4 := ((Keeps.refl _ w).alloc o).trans (Keeps.of_grown hg fun k hk => hk)
  exact ⟨h.keeps k fun hf => (own_typ19 ho hf).1.ne (Cel.typ19 h) (by decide) rfl, k⟩
theorem wv_grown0 {w w4 : World} {g base : Nat} {T : W20} {v : Value} {O : List UInt8} (h : WvAt w g T) (ho : OwnB w base v O) (hg : w.grownBy w4 v.ownBlock) : WvAt w4 g T ∧ Keeps (fun j => v.ownBlock = some j) w w4 := by
  have k : Keeps (fun j => v.ownBlock = some j) w w4 := Keeps.of_grown hg fun k hk => hk
  exact ⟨h.keeps k fun hf => (own_typ19 ho hf).1.ne (Cel.typ19 h) (by decide) rfl, k⟩
theorem wv_since {w w' : World} {g m : Nat} {T : W20} (h : WvAt w g T) (hw : w.setCell ⟨g, 1, none⟩ (.int .i64 (m : Int)) = w') : WvAt w' g ⟨T.e, m, T.t, T.f⟩ := by
  rw [← hw]
  exact Cel.set_ h 1 _
theorem wv_far {w w' : World} {g m base : Nat} {T : W20} {v : Value} {O : List UInt8} (h : WvAt w g T) (ho : OwnB w base v O) (hw : w.setCell ⟨g, 1, none⟩ (.int .i64 (m : Int)) = w') : OwnB w' base v O := by
  rw [← hw]
  exact own_far ho (p := ⟨g, 1, none⟩) (fun k hk => (own_typ19 ho hk).1.ne (Cel.typ19 h) (by decide)) _
theorem wv_keeps {w wr w4 : World} {g : Nat} {u : Value} {O : List UInt8} (h : Keeps (· = g) w wr) (ho : OwnB wr w.heap.size u O) (hk : Keeps (fun j => u.ownBlock = some j) wr w4) : Keeps (· = g) w w4 :=
  h.then_ hk fun j hj => .inr (own_base ho j hj)
theorem wv_keeps_set {w w4 W5 : World} {g m : Nat} (h : Keeps (· = g) w w4) (hw : w4.setCell ⟨g, 1, none⟩ (.int .i64 (m : Int)) = W5) : Keeps (· = g) w W5 := by
  rw [← hw]
  exact Keeps.setCell (F := (· = g)) h (p := ⟨g, 1, none⟩) (.inl rfl) _
theorem wvBlock_as (g m : Nat) (T : W20) (blk : List UInt8) (hb : (if T.f then blkF T.t else [0]) = blk) (w : World) (h : WvAt w g ⟨T.e, m, T.t, T.f⟩) (ht : titleF T.t = T.t) :
    Calls Tryd.prog 27 #[.pointer (some ⟨g, 0, none⟩)] w fun x w' => ∃ (a : Addr) (n : Nat), x = .returned (.slice (some a) n n) ∧ BytA w' (some a) n n blk ∧ WvAt w' g ⟨T.e, 0, T.t, false⟩ ∧ Keeps (· = g) w w' := by
  subst hb
  exact wvBlock_any g ⟨T.e, m, T.t, T.f⟩ w h ht
/-- Where the loop stands. -/
structure WvSt (w : World) (g : Nat) (S : W20) (l : List UInt8) (v : Value) (wr : World) : Prop where
  o : OwnB wr w.heap.size v (S.run l).1
  c : WvAt wr g (S.run l).2
  k : Keeps (· = g) w wr
theorem WvAt.typ {w : World} {g : Nat} {S : W20} (h : WvAt w g S) : Typ19 w g 76 := Cel.typ19 h
theorem take_more {b : List UInt8} {k : Nat} (h : k < b.length) : b.take (k + 1) = b.take k ++ [b.getD k 0] := by
  rw [List.take_add_one]
  congr 1
  rw [List.getD_eq_getElem?_getD, List.getElem?_eq_getElem h]
  rfl
set_option maxRecDepth 100000 in
set_option maxHeartbeats 2000000 in
theorem wvWeave_any (g K : Nat) (S : W20) (a : Option Addr) (n cap : Nat) (b : List UInt8) (w : World) (h : WvAt w g S) (hS : S.Ok K) (hK : K ≤ 1000000) (hb : BytA w a n cap b) (hn : n ≤ 100000) (hg : ∀ r off, a = some ⟨r, off, none⟩ → 0 < n → r ≠ g) :
    Calls Tryd.prog 17 #[.pointer (some ⟨g, 0, none⟩), .slice a n cap] w (WvPost g S b w) := by
  have H0 : RowKit.Hid (WvSt w g S [] (.slice none 0 0) w) := ⟨World.ownsRow_nil _ _ _ _, h, .refl _ _⟩
  have hbl := hb.hl
  have HA := Lib.hid hb
  have HG := Lib.hid hg
  have HSK := Lib.hid hS
  have hgl := h.typ.lt
  clear hb hg h
  go_enter Tryd.func17, Tryd.ntmps17
  go_wp2
  go_loopw [5, 12] (fun v i wr => ∃ (k : Nat) (u : Value), u = v ∧ i = .int .i64 (k : Int) ∧ k ≤ n ∧ RowKit.Hid (WvSt w g S (b.take k) u wr)) (fun _ i _ => n - (intOf i).toNat)
  case atStart => exact ⟨0, _, rfl, rfl, by omega, by simpa using H0⟩
  case round =>
    clear H0
    obtain ⟨k, u, rfl, rfl, hk, H⟩ := hrel
    by_cases hlt : k < n
    · have hlk : (b.take k).length = k := by rw [List.length_take]; omega
      have hOk := HSK.out.run (b.take k)
      rw [hlk] at hOk
      have hle := W20.run_le HSK.out (b.take k)
      rw [hlk] at hle
      have hmore := take_more (b := b) (k := k) (by omega)
      obtain ⟨x, hx⟩ : ∃ x, b.getD k 0 = x := ⟨_, rfl⟩
      rw [hx] at hmore
      have hHA := HA.out.keeps H.out.k (fun r off e h0 c => HG.out r off e h0 c)
      obtain ⟨r, off, rfl, cx⟩ := hHA.byte hlt
      rw [hx] at cx
      have HRM : RowKit.Hid (∀ R, S.run (b.take k) = R → S.run (b.take (k + 1)) = (R.1 ++ R.2.out x, R.2.next)) := by
        intro R hR
        rw [hmore, W20.run_more, hR]
      obtain ⟨o, c, kp⟩ := H.out
      rcases hR : S.run (b.take k) with ⟨O, T⟩
      have HM := Lib.hid (HRM.out _ hR)
      rw [hR] at o c hOk hle
      simp only at o c hOk hle HM
      have HO := Lib.hid o
      have HC := Lib.hid c
      have HKp := Lib.hid kp
      have HT := Lib.hid hOk
      have HL := Lib.hid hle
      have HX : RowKit.Hid (BytA (wr.alloc (.cells #[.int .u8 (x.toNat : Int)] 5)) (some ⟨wr.heap.size, 0, none⟩) 1 1 [x]) := BytA.lit wr 5 #[.int .u8 (x.toNat : Int)] (0, 0) [x] rfl (by simp)
      have HO2 : RowKit.Hid (OwnB (wr.alloc (.cells #[.int .u8 (x.toNat : Int)] 5)) w.heap.size u O) := HO.out.below (Below.alloc_new _ _)
      have HSz : RowKit.Hid (w.heap.size ≤ (wr.alloc (.cells #[.int .u8 (x.toNat : Int)] 5)).heap.size) := by
        show _ ≤ _
        have := HKp.out.size
        rw [World.size_alloc]; omega
      have ht := HT.out.t
      have hTn : T.n ≤ 1100000 := by have := hOk.n; omega
      have hO8 : O.length ≤ 8200000 := by omega
      clear o c kp hOk hle hR HRM H hHA hmore hx
      obtain ⟨m, hm⟩ : ∃ m, T.n + 1 = m := ⟨_, rfl⟩
      have hm1 : (T.n : Int) + 1 = (m : Int) := by omega
      have HMm := Lib.hid hm
      by_cases hd : T.due = true
      · have HD : RowKit.Hid (decide (0 < T.e ∧ m = T.e) = true) := by
          have h2 := hd
          simp only [W20.due, Bool.and_eq_true, decide_eq_true_eq, hm] at h2
          exact decide_eq_true h2
        have HF : RowKit.Hid ((T.out x) = x :: (if T.f then blkF T.t else [0]) ∧ T.next = ⟨T.e, 0, T.t, false⟩ ∧ (if T.f then blkF T.t else [0]).length ≤ 81) := by
          refine ⟨by simp [W20.out, hd], by simp [W20.next, hd], ?_⟩
          have := blkF_le HT.out.l
          split
          · exact this
          · simp
        obtain ⟨blk, hblk⟩ : ∃ blk, (if T.f then blkF T.t else [0]) = blk := ⟨_, rfl⟩
        rw [hblk] at HF
        have HBk := Lib.hid hblk
        clear hd hm hblk
        go_wp2_with (first
          | (at_builtin; refine app_bytes rfl _ _ 30 Tryd.underlying30 rfl w.heap.size v1 (O ++ [x]) rfl HO7.out (some a7) n7 n7 blk rfl HB7.out HSz7.out HS7.out ?_; intro v8 w8 ho8 hg8 _; obtain ⟨hC8, hK8⟩ := wv_grown0 HC7.out HO7.out hg8; have HC8 := Lib.hid hC8; have HO8 := Lib.hid ho8; have HK8 := Lib.hid (wv_keeps HKp7.out HO7.out hK8); clear hg8 ho8 hC8 hK8)
          | (at_builtin; go_loud (refine app_bytes rfl _ _ 30 Tryd.underlying30 rfl w.heap.size u O rfl HO2.out _ 1 1 [x] rfl HX.out (by omega) HSz.out ?_); intro v1 w4 ho1 hg1 _; obtain ⟨hC4, hK4⟩ := wv_grown HC.out HO.out hg1; obtain ⟨W5, hW5⟩ : ∃ W5, w4.setCell ⟨g, 1, none⟩ (.int .i64 (m : Int)) = W5 := ⟨_, rfl⟩; have HC4 := Lib.hid hC4; have HK4 := Lib.hid hK4; have HO4 := Lib.hid ho1; have HW5 := Lib.hid hW5; obtain ⟨c0, c1, c2, c3, f1, f2, f3⟩ := HC4.out.cells; clear hg1 hC4 hK4 ho1 hW5)
          | (go_at_call 19; go_loud (rw [HW5.out]); have hC5 := wv_since HC4.out HW5.out; go_loud (refine (due_any g T.e m _ hC5.cells.1 hC5.cells.2.1).mono ?_); rintro e w6 ⟨rfl, hb6⟩; rw [HD.out]; have HC6 := Lib.hid (hC5.below hb6); have HKp6 := Lib.hid ((wv_keeps_set (wv_keeps HKp.out HO.out HK4.out) HW5.out).trans (.of_below hb6)); have HO6 := Lib.hid ((wv_far HC4.out HO4.out HW5.out).below hb6); clear hC5 hb6 c0 c1 c2 c3 f1 f2 f3)
          | (go_at_call 27; go_loud (refine (wvBlock_as g m T blk HBk.out _ HC6.out ht).mono ?_); rintro e w7 ⟨a7, n7, rfl, hb7, hc7, hk7⟩; have HO7 := Lib.hid (HO6.out.keeps hk7 fun j hj => by subst hj; exact ⟨_, HC6.out.typ, by decide⟩); have HB7 := Lib.hid hb7; have HC7 := Lib.hid hc7; have HKp7 := Lib.hid (HKp6.out.trans hk7); have HSz7 : RowKit.Hid ((O ++ [x]).length + n7 ≤ 100000000) := (by show _ ≤ _; have h1 := HB7.out.hl; have h2 := HF.out.2.2; rw [List.length_append, List.length_singleton]; omega); have HS7 := Lib.hid HKp7.out.size; clear hb7 hc7 hk7)
          | fail)
        go_roundw
        case rel => exact ⟨k + 1, v8, rfl, by go_num, by omega, ⟨by rw [HM.out, HF.out.1]; have := HO8.out; rw [List.append_assoc] at this; exact this, by rw [HM.out, HF.out.2.1]; exact HC8.out, HK8.out⟩⟩
        case measure => simp [intOf] <;> omega
      · have HD : RowKit.Hid (decide (0 < T.e ∧ m = T.e) = false) := by
          have h2 := hd
          simp only [W20.due, Bool.and_eq_true, decide_eq_true_eq, hm] at h2
          exact decide_eq_false h2
        have HF : RowKit.Hid ((T.out x) = [x] ∧ T.next = ⟨T.e, m, T.t, T.f⟩) := ⟨by simp [W20.out, hd], by simp [W20.next, hd, hm]⟩
        clear hd hm
        go_wp2_with (first
          | (at_builtin; go_loud (refine app_bytes rfl _ _ 30 Tryd.underlying30 rfl w.heap.size u O rfl HO2.out _ 1 1 [x] rfl HX.out (by omega) HSz.out ?_); intro v1 w4 ho1 hg1 _; obtain ⟨hC4, hK4⟩ := wv_grown HC.out HO.out hg1; obtain ⟨W5, hW5⟩ : ∃ W5, w4.setCell ⟨g, 1, none⟩ (.int .i64 (m : Int)) = W5 := ⟨_, rfl⟩; have HC4 := Lib.hid hC4; have HK4 := Lib.hid hK4; have HO4 := Lib.hid ho1; have HW5 := Lib.hid hW5; obtain ⟨c0, c1, c2, c3, f1, f2, f3⟩ := HC4.out.cells; clear hg1 hC4 hK4 ho1 hW5)
          | (go_at_call 19; go_loud (rw [HW5.out]); have hC5 := wv_since HC4.out HW5.out; go_loud (refine (due_any g T.e m _ hC5.cells.1 hC5.cells.2.1).mono ?_); rintro e w6 ⟨rfl, hb6⟩; rw [HD.out]; have HC6 := Lib.hid (hC5.below hb6); have HB6 := Lib.hid hb6; have HO6 := Lib.hid ((wv_far HC4.out HO4.out HW5.out).below hb6); clear hC5 hb6)
          | fail)
        go_roundw
        case rel => exact ⟨k + 1, v1, rfl, by go_num, by omega, ⟨by rw [HM.out, HF.out.1]; exact HO6.out, by rw [HM.out, HF.out.2]; exact HC6.out, (wv_keeps_set (wv_keeps HKp.out HO.out HK4.out) HW5.out).trans (.of_below HB6.out)⟩⟩
        case measure => simp [intOf] <;> omega
    · obtain rfl : k = n := by omega
      have HE : RowKit.Hid (WvPost g S b w (.returned u) wr) := by
        have := H.out
        rw [List.take_of_length_le (by omega)] at this
        exact ⟨u, rfl, this.o, this.c, this.k⟩
      clear H
      go_wp2
      go_ret
      exact HE.out
theorem wvWeave_nil (a : Option Addr) (n cap : Nat) (w : World) : Calls Tryd.prog 17 #[.pointer none, .slice a n cap] w fun x w' => x = .returned (.slice none 0 0) ∧ w = w' := by
  go_enter Tryd.func17, Tryd.ntmps17
  go_wp2
  go_ret
  exact ⟨rfl, rfl⟩
end Go.Proofs.YtebfjmjdcbeekaaDoor
