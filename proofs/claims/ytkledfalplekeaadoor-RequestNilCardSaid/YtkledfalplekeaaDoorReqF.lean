/- The document's answer: a byte more. -/
import Derived.Test.YtkledfalplekeaaDoorReqH
import Derived.BigRegion
import Derived.Lib.SlBytesConst
namespace Go.Proofs.YtkledfalplekeaaDoor
open Go.RowKit Go.PlainAid
set_option linter.unusedVariables false

/-- Block t is a state of the document's reader. -/
def RefAt (w : World) (t : Nat) (S : S17) : Prop := ∃ cs, Cel w t 29 cs ∧ cs[3]? = some (.bool S.done) ∧ cs[4]? = some (.int .i64 (S.err : Int)) ∧ (S.err = 0 → cs = stK S)
theorem RefAt.of {w : World} {t : Nat} {S : S17} (h : Cel w t 29 (stK S)) : RefAt w t S := ⟨_, h, rfl, rfl, fun _ => rfl⟩
theorem RefAt.keeps {w w' : World} {t : Nat} {S : S17} {F : Nat → Prop} (h : RefAt w t S) (k : Keeps F w w') (n : ¬ F t) : RefAt w' t S := by
  obtain ⟨cs, h1, h2⟩ := h
  exact ⟨cs, h1.keeps k n, h2⟩
theorem RefAt.below {w w' : World} {t : Nat} {S : S17} (h : RefAt w t S) (b : Below w.heap.size w w') : RefAt w' t S := by
  obtain ⟨cs, h1, h2⟩ := h
  exact ⟨cs, h1.below b, h2⟩
theorem RefAt.cells {w : World} {t : Nat} {S : S17} (h : RefAt w t S) : w.cell? ⟨t, 3, none⟩ = some (.bool S.done) ∧ w.cell? ⟨t, 4, none⟩ = some (.int .i64 (S.err : Int)) := by
  obtain ⟨cs, h1, h2, h3, _⟩ := h
  exact ⟨(h1.cell 3).trans h2, (h1.cell 4).trans h3⟩
theorem RefAt.cel {w : World} {t : Nat} {S : S17} (h : RefAt w t S) (e : S.err = 0) : Cel w t 29 (stK S) := by
  obtain ⟨cs, h1, h2, h3, h4⟩ := h
  rw [← h4 e]
  exact h1
theorem strip_none (l : List UInt8) (h : l.length = 0) : stripF l = l := by
  rw [List.eq_nil_of_length_eq_zero h]
  rfl
theorem strip_last (l : List UInt8) (n : Nat) (h : l.length = n + 1) : stripF l = if l.getD n 0 = 13 then l.take n else l := by
  have e := last_split l n h
  generalize l.getD n 0 = x at *
  have h2 : l.getLast? = some x := by rw [e]; simp
  have h3 : l.dropLast = l.take n := by
    rw [e, List.dropLast_concat, ← e]
  unfold stripF
  rw [h2, h3]
  by_cases k : x = 13 <;> simp [k]
theorem bt_eq (x : UInt8) (v : UInt8) (b k : Nat) (hx : x.toNat = b) (hv : v.toNat = k) : (x = v) ↔ b = k := by rw [← UInt8.toNat_inj, hx, hv]
/-- What is asked of a byte more. -/
def FeedPost (t : Nat) (S : S17) (w : World) (e : Ending) (w' : World) : Prop := e = .returned (.tuple #[]) ∧ RefAt w' t S ∧ Keeps (· = t) w w'
theorem LinePost.cases {t : Nat} {S : S17} {o : Option S17} {w w' : World} {e : Ending} (h : LinePost t S o w e w') : Keeps (· = t) w w' ∧
    ((∃ U, o = some U ∧ e = .returned (.bool true) ∧ RefAt w' t U) ∨ (o = none ∧ e = .returned (.bool false) ∧ w'.cell? ⟨t, 4, none⟩ = some (.int .i64 (S.err : Int)) ∧ w'.frozen? ⟨t, 4, none⟩ = false ∧ RefAt (w'.setCell ⟨t, 4, none⟩ (.int .i64 3)) t { S with err := 3 })) := by
  obtain ⟨k, h⟩ := h
  refine ⟨k, ?_⟩
  rcases h with ⟨U, h1, h2, h3⟩ | ⟨h1, h2, cs, h3, h4, h5⟩
  · exact .inl ⟨U, h1, h2, .of h3⟩
  · refine .inr ⟨h1, h2, (h3.cell 4).trans h5, h3.frozen 4, _, h3.set_ 4 _, ?_, ?_, fun e => absurd e (show ¬ (3 : Nat) = 0 by decide)⟩
    · simp [h4]
    · have : 4 < cs.size := by
        rcases Nat.lt_or_ge 4 cs.size with h | h
        · exact h
        · rw [Array.getElem?_eq_none h] at h5; cases h5
      simp [this]
set_option maxHeartbeats 16000000 in
set_option maxRecDepth 100000 in
theorem refFeed_any (t : Nat) (S : S17) (c : UInt8) (w : World) (h : RefAt w t S) (he : S.err = 0) (hd : S.done = false) (hS : S.Ok) :
    Calls Tryd.prog 8 #[.pointer (some ⟨t, 0, none⟩), .int .u8 (c.toNat : Int)] w (FeedPost t (S.feed c) w) := by
  have hc := h.cel he
  obtain ⟨o1, o2⟩ := hS
  have hst0 : stK S = stC S.n (decide (S.R.m ≠ 0)) S.line S.done S.err S.R.m S.R.path S.R.icy S.R.told S.R.pass S.a S.b := rfl
  obtain ⟨z, hz⟩ : ∃ z : Int, (S.n : Int) = z := ⟨_, rfl⟩
  have c0 : w.cell? ⟨t, 0, none⟩ = some (.int .i64 z) := by rw [← hz]; exact hc.cell 0
  have f0 : w.frozen? ⟨t, 0, none⟩ = false := hc.frozen 0
  have hc1 : Cel (w.setCell ⟨t, 0, none⟩ (.int .i64 (z + 1))) t 29 (stK { S with n := S.n + 1 }) := by rw [← hz]; exact hc.set_ 0 _
  have k1 : Keeps (· = t) w (w.setCell ⟨t, 0, none⟩ (.int .i64 (z + 1))) := Keeps.setCell (F := (· = t)) (p := ⟨t, 0, none⟩) (Keeps.refl _ _) (.inl rfl) _
  obtain ⟨w1, hw1⟩ : ∃ w1, w.setCell ⟨t, 0, none⟩ (.int .i64 (z + 1)) = w1 := ⟨_, rfl⟩
  have c10 : w1.cell? ⟨t, 0, none⟩ = some (.int .i64 (z + 1)) := by rw [← hw1, ← hz]; rw [← hz] at hc1; exact hc1.cell 0
  rw [hw1] at hc1 k1
  have c12 : w1.cell? ⟨t, 2, none⟩ = some (.string (ba S.line)) := hc1.cell 2
  have f12 : w1.frozen? ⟨t, 2, none⟩ = false := hc1.frozen 2
  have c14 : w1.cell? ⟨t, 4, none⟩ = some (.int .i64 0) := by rw [hc1.cell 4]; show some (Value.int .i64 (S.err : Int)) = _; rw [he]; rfl
  have f14 : w1.frozen? ⟨t, 4, none⟩ = false := hc1.frozen 4
  have HC1 := Lib.hid hc1
  have HK1 := Lib.hid k1
  clear hc hc1 k1 h
  obtain ⟨F, hF⟩ : ∃ F, S.feed c = F := ⟨_, rfl⟩
  have HF : RowKit.Hid (S.feed c = F) := hF
  rw [hF]
  clear hF
  obtain ⟨k, hk⟩ : ∃ k : Nat, c.toNat = k := ⟨_, rfl⟩
  rw [hk]
  have hz0 : 0 ≤ z ∧ z ≤ 600 := by omega
  obtain ⟨z0, z1⟩ := hz0
  go_enter Tryd.func8, Tryd.ntmps8
  by_cases hl : S.n = 600
  · have hFe : F = { S with err := 5 } := by rw [← HF.out]; unfold S17.feed; rw [if_pos hl]
    subst hFe
    have HE : RowKit.Hid (FeedPost t { S with err := 5 } w (.returned (.tuple #[])) (w1.setCell ⟨t, 4, none⟩ (.int .i64 5))) := by
      refine ⟨rfl, ⟨_, HC1.out.set_ 4 _, rfl, rfl, fun e => absurd e (show ¬ (5 : Nat) = 0 by decide)⟩, HK1.out.setCell (p := ⟨t, 4, none⟩) (.inl rfl) _⟩
    have hgt : (600 : Int) < z + 1 := by omega
    clear hl hz HF
    go_wp2
    first | go_end0 | ((try simp only [Exit.inBlock, Exit.then]); refine bodyPost_ret (results_none rfl _ _ _) rfl ?_)
    exact HE.out
  · have hlt : ¬ (600 : Int) < z + 1 := by omega
    by_cases h10 : k = 10
    · have hFe : F = (lineF { S with n := S.n + 1, line := [] } (stripF S.line)).getD { S with err := 3 } := by
        rw [← HF.out]
        unfold S17.feed
        have : c = 10 := UInt8.toNat_inj.1 (by rw [hk, h10]; rfl)
        rw [if_neg hl, if_pos this]
      have HFe := Lib.hid hFe
      clear hFe HF
      subst h10
      obtain ⟨S1, hS1⟩ : ∃ S1, ({ S with n := S.n + 1, line := [] } : S17) = S1 := ⟨_, rfl⟩
      have HS1 : RowKit.Hid (S1.R = S.R ∧ S1.err = 0 ∧ S1.done = false ∧ { S with err := 3 } = ({ S with err := 3 } : S17)) := by rw [← hS1]; exact ⟨rfl, he, hd, rfl⟩
      have hc2 : Cel (w1.setCell ⟨t, 2, none⟩ (.string ⟨#[]⟩)) t 29 (stK S1) := by rw [← hS1]; exact HC1.out.set_ 2 (.string ⟨#[]⟩)
      have k2 : Keeps (· = t) w (w1.setCell ⟨t, 2, none⟩ (.string ⟨#[]⟩)) := HK1.out.setCell (p := ⟨t, 2, none⟩) (.inl rfl) _
      obtain ⟨w2, hw2⟩ : ∃ w2, w1.setCell ⟨t, 2, none⟩ (.string ⟨#[]⟩) = w2 := ⟨_, rfl⟩
      rw [hw2] at hc2 k2
      have HK2 := Lib.hid k2
      have HC2 := Lib.hid hc2
      obtain ⟨L, hL⟩ : ∃ L, stripF S.line = L := ⟨_, rfl⟩
      have c21 : w2.cell? ⟨t, 1, none⟩ = some (.bool (decide (S1.R.m ≠ 0))) := hc2.cell 1
      have c23 : w2.cell? ⟨t, 3, none⟩ = some (.bool S1.done) := hc2.cell 3
      have f23 : w2.frozen? ⟨t, 3, none⟩ = false := hc2.frozen 3
      clear hc2 k2
      have HFL : RowKit.Hid (F = (lineF S1 L).getD { S with err := 3 }) := by
        show _ = _
        rw [HFe.out, hS1, hL]
      have H3 : RowKit.Hid (∀ W : World, RefAt W t { S1 with err := 3 } → RefAt W t { S with err := 3 }) := by
        intro W h
        obtain ⟨cs, g1, g2, g3, _⟩ := h
        exact ⟨cs, g1, by rw [g2, HS1.out.2.2.1]; show some (Value.bool false) = some (Value.bool S.done); rw [hd], g3, fun e => absurd e (show ¬ (3 : Nat) = 0 by decide)⟩
      clear HFe hS1
      -- the text
      have hxs : (ba S.line).size ≤ 600 := by rw [ba_size]; omega
      have HXL : RowKit.Hid ((ba S.line).data.toList = S.line) := rfl
      have HLn : RowKit.Hid (S.line.length = (ba S.line).size) := (ba_size _).symm
      generalize hxl : ba S.line = xl at *
      have hb := get_bt xl
      have HB : RowKit.Hid (∀ k, bt xl k = ((S.line.getD k 0).toNat : Int)) := by intro k; rw [bt_list xl k, HXL.out]
      have hcs : (xl.size = 0 ∧ S.line = L) ∨ ∃ n b : Nat, xl.size = n + 1 ∧ bt xl n = b ∧ ((b = 13 ∧ (xl.extract 0 n).data.toList = L) ∨ (¬ b = 13 ∧ S.line = L)) := by
        by_cases h0 : xl.size = 0
        · exact .inl ⟨h0, by rw [← hL, strip_none _ (by rw [HLn.out, h0])]⟩
        · obtain ⟨n, hn⟩ : ∃ n, xl.size = n + 1 := ⟨xl.size - 1, by omega⟩
          refine .inr ⟨n, (S.line.getD n 0).toNat, hn, HB.out n, ?_⟩
          have e := strip_last S.line n (by rw [HLn.out, hn])
          rw [hL] at e
          by_cases h13 : S.line.getD n 0 = 13
          · rw [if_pos h13] at e
            exact .inl ⟨by rw [h13]; rfl, by rw [head17, HXL.out, list_ba, e]⟩
          · rw [if_neg h13] at e
            exact .inr ⟨fun k => h13 (UInt8.toNat_inj.1 (by rw [k]; rfl)), e.symm⟩
      have CX : RowKit.Hid (∀ q : ByteArray, q.data.toList = L → q.size ≤ 600 → S1.R.m = 0 → Calls Tryd.prog 14 #[.pointer (some ⟨t, 0, none⟩), .string q] w2 (LinePost t S1 (lineF S1 L) w2)) := by
        intro q hq hs hm
        have := refFirst_any t S1 q w2 HC2.out hm (by omega)
        rw [hq] at this
        unfold lineF
        rw [if_pos hm]
        exact this
      have CY : RowKit.Hid (∀ q : ByteArray, q.data.toList = L → q.size ≤ 600 → ¬ S1.R.m = 0 → ¬ L = [] → Calls Tryd.prog 15 #[.pointer (some ⟨t, 0, none⟩), .string q] w2 (LinePost t S1 (lineF S1 L) w2)) := by
        intro q hq hs hm hne
        have := refHeader_any t S1 q w2 HC2.out (by omega)
        rw [hq] at this
        unfold lineF
        rw [if_neg hm, if_neg hne]
        exact this
      have HEm : RowKit.Hid (∀ q : ByteArray, q.data.toList = L → (q.toList.isEmpty = L.isEmpty)) := by
        intro q hq
        rw [ByteArray.toList_eq, hq]
      have HDn : RowKit.Hid (¬ S1.R.m = 0 → L = [] → FeedPost t F w (.returned (.tuple #[])) (w2.setCell ⟨t, 3, none⟩ (.bool true))) := by
        intro hm hne
        have e : F = { S1 with done := true } := by
          rw [HFL.out]
          unfold lineF
          rw [if_neg hm, if_pos hne]
          rfl
        rw [e]
        exact ⟨rfl, .of (HC2.out.set_ 3 (.bool true)), HK2.out.setCell (p := ⟨t, 3, none⟩) (.inl rfl) _⟩
      have HYes : RowKit.Hid (∀ (e : Ending) (W : World), LinePost t S1 (lineF S1 L) w2 e W → (e = .returned (.bool true) ∧ FeedPost t F w (.returned (.tuple #[])) W) ∨ (e = .returned (.bool false) ∧ W.cell? ⟨t, 4, none⟩ = some (.int .i64 0) ∧ W.frozen? ⟨t, 4, none⟩ = false ∧ FeedPost t F w (.returned (.tuple #[])) (W.setCell ⟨t, 4, none⟩ (.int .i64 3)))) := by
        intro e W h
        obtain ⟨kp, h⟩ := h.cases
        rcases h with ⟨U, ho, he1, hr⟩ | ⟨ho, he1, g1, g2, hr⟩
        · refine .inl ⟨he1, rfl, ?_, HK2.out.trans kp⟩
          rw [HFL.out, ho]
          exact hr
        · refine .inr ⟨he1, by rw [g1, HS1.out.2.1]; rfl, g2, rfl, ?_, (HK2.out.trans kp).setCell (p := ⟨t, 4, none⟩) (.inl rfl) _⟩
          rw [HFL.out, ho]
          exact H3.out _ hr
      clear hL hxl HC1 HK1 f14 c14 hl hz hk
      have hmm : (S1.R.m = 0) ∨ (¬ S1.R.m = 0 ∧ L = []) ∨ (¬ S1.R.m = 0 ∧ ¬ L = []) := by
        by_cases a : S1.R.m = 0
        · exact .inl a
        · by_cases b : L = []
          · exact .inr (.inl ⟨a, b⟩)
          · exact .inr (.inr ⟨a, b⟩)
      rcases hcs with ⟨hs0, hq⟩ | ⟨n, b, hn, hbn, ⟨rfl, hq⟩ | ⟨h13, hq⟩⟩
      · have hq2 : xl.data.toList = L := by rw [HXL.out, hq]
        have CX2 := Lib.hid (CX.out xl hq2 (by omega))
        have CY2 := Lib.hid (CY.out xl hq2 (by omega))
        have hem := HEm.out xl hq2
        clear hq hq2 CX CY HEm
        rcases hmm with hm | ⟨hm, hne⟩ | ⟨hm, hne⟩
        · rw [show decide (S1.R.m ≠ 0) = false by simp [hm]] at c21
          have C := CX2.out hm
          clear CX2 CY2 HDn hem
          go_wp2_with (go_at_call 14; refine C.mono ?_; rintro e w3 hp; rcases HYes.out e w3 hp with ⟨rfl, hy⟩ | ⟨rfl, c4, f4, hy⟩)
          all_goals first | go_end0 | ((try simp only [Exit.inBlock, Exit.then]); refine bodyPost_ret (results_none rfl _ _ _) rfl ?_)
          all_goals exact hy
        · rw [show decide (S1.R.m ≠ 0) = true by simp [hm]] at c21
          rw [show L.isEmpty = true by rw [hne]; rfl] at hem
          have HD := Lib.hid (HDn.out hm hne)
          clear CX2 CY2 HYes
          go_wp2
          all_goals first | go_end0 | ((try simp only [Exit.inBlock, Exit.then]); refine bodyPost_ret (results_none rfl _ _ _) rfl ?_)
          all_goals exact HD.out
        · rw [show decide (S1.R.m ≠ 0) = true by simp [hm]] at c21
          rw [show L.isEmpty = false by cases L; exact absurd rfl hne; rfl] at hem
          have C := CY2.out hm hne
          clear CX2 CY2 HDn
          go_wp2_with (go_at_call 15; refine C.mono ?_; rintro e w3 hp; rcases HYes.out e w3 hp with ⟨rfl, hy⟩ | ⟨rfl, c4, f4, hy⟩)
          all_goals first | go_end0 | ((try simp only [Exit.inBlock, Exit.then]); refine bodyPost_ret (results_none rfl _ _ _) rfl ?_)
          all_goals exact hy
      · have hpos : (0 : Int) < (xl.size : Int) := by omega
        have hl1 : (xl.size : Int) - 1 = (n : Int) := by omega
        obtain ⟨q, hqe⟩ : ∃ q, xl.extract 0 n = q := ⟨_, rfl⟩
        have hqs : q.size ≤ 600 := by rw [← hqe]; simp; omega
        rw [hqe] at hq
        have CX2 := Lib.hid (CX.out q hq (by omega))
        have CY2 := Lib.hid (CY.out q hq (by omega))
        have hem := HEm.out q hq
        clear hq CX CY HEm
        rcases hmm with hm | ⟨hm, hne⟩ | ⟨hm, hne⟩
        · rw [show decide (S1.R.m ≠ 0) = false by simp [hm]] at c21
          have C := CX2.out hm
          clear CX2 CY2 HDn hem
          go_wp2_with (go_at_call 14; refine C.mono ?_; rintro e w3 hp; rcases HYes.out e w3 hp with ⟨rfl, hy⟩ | ⟨rfl, c4, f4, hy⟩)
          all_goals first | go_end0 | ((try simp only [Exit.inBlock, Exit.then]); refine bodyPost_ret (results_none rfl _ _ _) rfl ?_)
          all_goals exact hy
        · rw [show decide (S1.R.m ≠ 0) = true by simp [hm]] at c21
          rw [show L.isEmpty = true by rw [hne]; rfl] at hem
          have HD := Lib.hid (HDn.out hm hne)
          clear CX2 CY2 HYes
          go_wp2
          all_goals first | go_end0 | ((try simp only [Exit.inBlock, Exit.then]); refine bodyPost_ret (results_none rfl _ _ _) rfl ?_)
          all_goals exact HD.out
        · rw [show decide (S1.R.m ≠ 0) = true by simp [hm]] at c21
          rw [show L.isEmpty = false by cases L; exact absurd rfl hne; rfl] at hem
          have C := CY2.out hm hne
          clear CX2 CY2 HDn
          go_wp2_with (go_at_call 15; refine C.mono ?_; rintro e w3 hp; rcases HYes.out e w3 hp with ⟨rfl, hy⟩ | ⟨rfl, c4, f4, hy⟩)
          all_goals first | go_end0 | ((try simp only [Exit.inBlock, Exit.then]); refine bodyPost_ret (results_none rfl _ _ _) rfl ?_)
          all_goals exact hy
      · have hpos : (0 : Int) < (xl.size : Int) := by omega
        have hl1 : (xl.size : Int) - 1 = (n : Int) := by omega
        have hb13 : ((b : Int) == 13) = false := by
          have : ¬ (b : Int) = 13 := by omega
          simpa using this
        have hq2 : xl.data.toList = L := by rw [HXL.out, hq]
        have CX2 := Lib.hid (CX.out xl hq2 (by omega))
        have CY2 := Lib.hid (CY.out xl hq2 (by omega))
        have hem := HEm.out xl hq2
        clear hq hq2 CX CY HEm h13
        rcases hmm with hm | ⟨hm, hne⟩ | ⟨hm, hne⟩
        · rw [show decide (S1.R.m ≠ 0) = false by simp [hm]] at c21
          have C := CX2.out hm
          clear CX2 CY2 HDn hem
          go_wp2_with (go_at_call 14; refine C.mono ?_; rintro e w3 hp; rcases HYes.out e w3 hp with ⟨rfl, hy⟩ | ⟨rfl, c4, f4, hy⟩)
          all_goals first | go_end0 | ((try simp only [Exit.inBlock, Exit.then]); refine bodyPost_ret (results_none rfl _ _ _) rfl ?_)
          all_goals exact hy
        · rw [show decide (S1.R.m ≠ 0) = true by simp [hm]] at c21
          rw [show L.isEmpty = true by rw [hne]; rfl] at hem
          have HD := Lib.hid (HDn.out hm hne)
          clear CX2 CY2 HYes
          go_wp2
          all_goals first | go_end0 | ((try simp only [Exit.inBlock, Exit.then]); refine bodyPost_ret (results_none rfl _ _ _) rfl ?_)
          all_goals exact HD.out
        · rw [show decide (S1.R.m ≠ 0) = true by simp [hm]] at c21
          rw [show L.isEmpty = false by cases L; exact absurd rfl hne; rfl] at hem
          have C := CY2.out hm hne
          clear CX2 CY2 HDn
          go_wp2_with (go_at_call 15; refine C.mono ?_; rintro e w3 hp; rcases HYes.out e w3 hp with ⟨rfl, hy⟩ | ⟨rfl, c4, f4, hy⟩)
          all_goals first | go_end0 | ((try simp only [Exit.inBlock, Exit.then]); refine bodyPost_ret (results_none rfl _ _ _) rfl ?_)
          all_goals exact hy
    · have hq : ((k : Int) == 10) = false := by
        have : ¬ (k : Int) = 10 := by omega
        simpa using this
      have hFe : F = { S with n := S.n + 1, line := S.line ++ [c] } := by
        rw [← HF.out]
        unfold S17.feed
        have : ¬ c = 10 := fun e => h10 (by rw [← hk, e]; rfl)
        rw [if_neg hl, if_neg this]
      subst hFe
      obtain ⟨w2, hw2⟩ : ∃ w2, (w1.alloc (.cells #[.int .u8 (k : Int)] 5)).drew = w2 := ⟨_, rfl⟩
      have b2 : Below w1.heap.size w1 w2 := by rw [← hw2]; exact Below.drewN' (Below.alloc_new w1 _) 1
      have hconv := conv17 (w1.alloc (.cells #[.int .u8 (k : Int)] 5)) (w1.alloc (.cells #[.int .u8 (k : Int)] 5)).drew _ (some ⟨w1.heap.size, 0, none⟩) 1 1 [c] (by rw [← hk]; exact lit_ints w1 5 .u8 (bz [c]) _ (0, 0) rfl (by simp [bz])) (Below.drewN' (Below.refl _ _) 1)
      rw [hw2] at hconv
      have hc2 := HC1.out.below b2
      have c22 : w2.cell? ⟨t, 2, none⟩ = some (.string (ba S.line)) := hc2.cell 2
      have f22 : w2.frozen? ⟨t, 2, none⟩ = false := hc2.frozen 2
      have HE : RowKit.Hid (FeedPost t { S with n := S.n + 1, line := S.line ++ [c] } w (.returned (.tuple #[])) (w2.setCell ⟨t, 2, none⟩ (.string (ba S.line ++ ba [c])))) := by
        have h2 := hc2.set_ 2 (.string (ba (S.line ++ [c])))
        rw [ba_append]
        refine ⟨rfl, .of h2, (HK1.out.then_ (G := fun _ => False) (.of_below b2) (fun _ c => c.elim)).setCell (p := ⟨t, 2, none⟩) (.inl rfl) _⟩
      have hxs : (ba S.line).size ≤ 600 := by rw [ba_size]; omega
      have hqs : (ba [c]).size = 1 := ba_size [c]
      generalize ba S.line = xl at *
      generalize ba [c] = xq at *
      clear hc2 b2 c14 f14
      clear h10 hk hl hz HF
      go_wp2
      go_region
      all_goals go_wp2
      all_goals first | go_end0 | ((try simp only [Exit.inBlock, Exit.then]); refine bodyPost_ret (results_none rfl _ _ _) rfl ?_)
      all_goals exact HE.out
end Go.Proofs.YtkledfalplekeaaDoor
