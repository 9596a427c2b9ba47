/- Plain facts, and what functions give, for the proofs of this seat: several texts in one, each with its own first remark. -/
import Derived.Test.YtmgfkdmjgjlkjaaGreatCH

namespace Go.Proofs.YtmgfkdmjgjlkjaaGreat
open Go Go.RowKit
set_option linter.unusedVariables false
set_option linter.unusedSimpArgs false
set_option maxRecDepth 100000
set_option maxHeartbeats 8000000 in
theorem mountConfigs_any (c : Cfg) (w : World) (hf : c.Fit) : Calls Tryz.prog 4 #[.agg c.vals] w fun e w' => e = .returned (.bool true) ∧ Below w.heap.size w w' := by
  have HC := Lib.hid (Cel.new w 27 c.vals)
  have HB := Lib.hid (Below.alloc_new w (.cells c.vals 27))
  have HF := Lib.hid hf
  unfold Cfg.vals at HC HB ⊢
  obtain ⟨q, hq⟩ : ∃ q, decide ((500 : Int) < wrap64 (wrap64 ((c.path.size : Int) + (c.name.size : Int)) + (c.fall.size : Int))) = q := ⟨_, rfl⟩
  clear hf
  cases q with
  | true =>
    go_enter Tryz.func4, Tryz.ntmps4
    go_wp2_with (go_at_call 6; go_loud (refine (lives23_any _).mono ?_); rintro e w2 ⟨rfl, hb⟩; replace HC := Lib.hid (HC.out.below hb); replace HB := Lib.hid (chain HB.out hb); clear hb; have x0 := HC.out.cell 0; have x1 := HC.out.cell 1; have x3 := HC.out.cell 3)
    go_ret
    exact ⟨rfl, HB.out⟩
  | false =>
    go_enter Tryz.func4, Tryz.ntmps4
    go_upto_region 3 with (go_at_call 6; go_loud (refine (lives23_any _).mono ?_); rintro e w2 ⟨rfl, hb⟩; replace HC := Lib.hid (HC.out.below hb); replace HB := Lib.hid (chain HB.out hb); clear hb; have x0 := HC.out.cell 0; have x1 := HC.out.cell 1; have x3 := HC.out.cell 3)
    clear x0 x1 x3
    obtain ⟨s, hs⟩ : ∃ s, c.path = s := ⟨_, rfl⟩
    obtain ⟨n, hn⟩ : ∃ n, c.name = n := ⟨_, rfl⟩
    obtain ⟨f, hff⟩ : ∃ f, c.fall = f := ⟨_, rfl⟩
    have C1 : ∀ W : World, Calls Tryz.prog 24 #[.string s] W fun e w' => e = .returned (.bool (mountF s.data.toList)) ∧ Below W.heap.size W w' := fun W => by rw [← hs]; exact (refMount_any c.path W HF.out.p).mono fun e w' h => ⟨h.1, h.2 ▸ Below.refl _ _⟩
    have C2 : ∀ W : World, Calls Tryz.prog 16 #[.string n] W fun e w' => e = .returned (.string (ba (titleF n.data.toList))) ∧ Below W.heap.size W w' := fun W => by rw [← hn]; exact (refTitle_any c.name W HF.out.n).mono fun e w' h => ⟨h.1, h.2 ▸ Below.refl _ _⟩
    have C3 : ∀ W : World, Calls Tryz.prog 24 #[.string f] W fun e w' => e = .returned (.bool (mountF f.data.toList)) ∧ Below W.heap.size W w' := fun W => by rw [← hff]; exact (refMount_any c.fall W HF.out.f).mono fun e w' h => ⟨h.1, h.2 ▸ Below.refl _ _⟩
    obtain ⟨b1, h1⟩ : ∃ b, mountF s.data.toList = b := ⟨_, rfl⟩
    obtain ⟨t, ht⟩ : ∃ t, ba (titleF n.data.toList) = t := ⟨_, rfl⟩
    obtain ⟨b3, h3⟩ : ∃ b, mountF f.data.toList = b := ⟨_, rfl⟩
    have q2 : (t.toList == n.toList) = decide (t = n) := txt_beq _ _
    have q3 : f.toList.isEmpty = decide (f = ⟨#[]⟩) := txt_empty f
    obtain ⟨b2, h2⟩ : ∃ b, decide (t = n) = b := ⟨_, rfl⟩
    obtain ⟨b4, h4⟩ : ∃ b, decide (f = ⟨#[]⟩) = b := ⟨_, rfl⟩
    obtain ⟨n1, e1⟩ : ∃ b, decide ((1 : Int) ≤ c.q) = b := ⟨_, rfl⟩
    obtain ⟨n2, e2⟩ : ∃ b, decide (c.q ≤ 10) = b := ⟨_, rfl⟩
    obtain ⟨n3, e3⟩ : ∃ b, decide ((32 : Int) ≤ c.b) = b := ⟨_, rfl⟩
    obtain ⟨n4, e4⟩ : ∃ b, decide (c.b ≤ 600) = b := ⟨_, rfl⟩
    obtain ⟨n5, e5⟩ : ∃ b, decide ((1 : Int) ≤ c.p) = b := ⟨_, rfl⟩
    obtain ⟨n6, e6⟩ : ∃ b, decide (c.p ≤ c.r) = b := ⟨_, rfl⟩
    obtain ⟨n7, e7⟩ : ∃ b, decide (c.r ≤ 1024) = b := ⟨_, rfl⟩
    obtain ⟨n8, e8⟩ : ∃ b, decide ((1 : Int) ≤ c.e) = b := ⟨_, rfl⟩
    obtain ⟨n9, e9⟩ : ∃ b, decide (c.e ≤ 65536) = b := ⟨_, rfl⟩
    have HR : RowKit.Hid (c.right = ((b1 && b2 && (b4 || b3)) && ((n1 && n2) && (n3 && n4) && (n5 && n6) && n7 && (n8 && n9)))) := by
      unfold Cfg.right Cfg.texts nameOk fallOk Cfg.nums inB
      rw [hs, hn, hff, h1, ht, h3, h2, h4, e1, e2, e3, e4, e5, e6, e7, e8, e9]
      exact Lib.hid rfl
    rw [h1] at C1
    rw [ht] at C2
    rw [h3] at C3
    rw [h2] at q2
    rw [h4] at q3
    have HCs : RowKit.Hid (Cel w2 w.heap.size 27 #[.string s, .string n, .string c.pass, .string f, .int .i64 c.q, .int .i64 c.b, .int .i64 c.p, .int .i64 c.r, .int .i64 c.e]) := by
      rw [← hs, ← hn, ← hff]
      exact HC.out
    have HNn : RowKit.Hid (c.path = s ∧ c.name = n ∧ c.fall = f) := ⟨hs, hn, hff⟩
    clear h1 ht h3 h2 h4 hs hn hff
    have hN : (n1 = false) ∨ (n1 = true ∧ n2 = false) ∨ (n1 = true ∧ n2 = true ∧ n3 = false) ∨ (n1 = true ∧ n2 = true ∧ n3 = true ∧ n4 = false) ∨ (n1 = true ∧ n2 = true ∧ n3 = true ∧ n4 = true ∧ n5 = false) ∨ (n1 = true ∧ n2 = true ∧ n3 = true ∧ n4 = true ∧ n5 = true ∧ n6 = false) ∨ (n1 = true ∧ n2 = true ∧ n3 = true ∧ n4 = true ∧ n5 = true ∧ n6 = true ∧ n7 = false) ∨ (n1 = true ∧ n2 = true ∧ n3 = true ∧ n4 = true ∧ n5 = true ∧ n6 = true ∧ n7 = true ∧ n8 = false) ∨ (n1 = true ∧ n2 = true ∧ n3 = true ∧ n4 = true ∧ n5 = true ∧ n6 = true ∧ n7 = true ∧ n8 = true ∧ n9 = false) ∨ (n1 = true ∧ n2 = true ∧ n3 = true ∧ n4 = true ∧ n5 = true ∧ n6 = true ∧ n7 = true ∧ n8 = true ∧ n9 = true) := by
      cases n1 <;> cases n2 <;> cases n3 <;> cases n4 <;> cases n5 <;> cases n6 <;> cases n7 <;> cases n8 <;> cases n9 <;> simp
    have hT : b1 = false ∨ (b1 = true ∧ b2 = false) ∨ (b1 = true ∧ b2 = true ∧ b4 = false ∧ b3 = false) ∨ (b1 = true ∧ b2 = true ∧ b4 = true) ∨ (b1 = true ∧ b2 = true ∧ b4 = false ∧ b3 = true) := by
      cases b1 <;> cases b2 <;> cases b3 <;> cases b4 <;> simp
    go_cut [3] (fun v wx => v = .bool c.right ∧ Below w2.heap.size w2 wx)
    case first =>
      have x0 : w2.cell? ⟨w.heap.size, 0, none⟩ = some (.string s) := HCs.out.cell 0
      have x1 : w2.cell? ⟨w.heap.size, 1, none⟩ = some (.string n) := HCs.out.cell 1
      have x3 : w2.cell? ⟨w.heap.size, 3, none⟩ = some (.string f) := HCs.out.cell 3
      have x4 : w2.cell? ⟨w.heap.size, 4, none⟩ = some (.int .i64 c.q) := HCs.out.cell 4
      have x5 : w2.cell? ⟨w.heap.size, 5, none⟩ = some (.int .i64 c.b) := HCs.out.cell 5
      have x6 : w2.cell? ⟨w.heap.size, 6, none⟩ = some (.int .i64 c.p) := HCs.out.cell 6
      have x7 : w2.cell? ⟨w.heap.size, 7, none⟩ = some (.int .i64 c.r) := HCs.out.cell 7
      have x8 : w2.cell? ⟨w.heap.size, 8, none⟩ = some (.int .i64 c.e) := HCs.out.cell 8
      have k0 := cell_regrown x0
      have k1 := cell_regrown x1
      have k3 := cell_regrown x3
      have k4 := cell_regrown x4
      have k5 := cell_regrown x5
      have k6 := cell_regrown x6
      have k7 := cell_regrown x7
      have k8 := cell_regrown x8
      have c1 := fun d os => Calls.regrown_of (w := w2) (d := d) (os := os) (C1 _)
      have c2 := fun d os => Calls.regrown_of (w := w2) (d := d) (os := os) (C2 _)
      have c3 := fun d os => Calls.regrown_of (w := w2) (d := d) (os := os) (C3 _)
      clear C1 C2 C3 x0 x1 x3 x4 x5 x6 x7 x8 HC HCs
      refine wp_region_quiet_below rfl (by kernel_rfl) ?_
      simp only [List.append_eq, List.cons_append, List.nil_append]
      rcases hT with rfl | ⟨rfl, rfl⟩ | ⟨rfl, rfl, rfl, rfl⟩ | ⟨rfl, rfl, rfl⟩ | ⟨rfl, rfl, rfl, rfl⟩
      · as_aux_lemma =>
        repeat (go_big_quiet_step (first | (with_reducible exact c1 _ _) | (with_reducible exact c2 _ _) | (with_reducible exact c3 _ _)))
        refine wpQuiet_nil ?_
        intro _ hw'
        obtain ⟨⟨dq, osq⟩, hw''⟩ := hw'
        subst hw''
        go_wp2
        go_meet
        exact ⟨by rw [HR.out]; simp, below_regrown w2 dq osq⟩
      · as_aux_lemma =>
        repeat (go_big_quiet_step (first | (with_reducible exact c1 _ _) | (with_reducible exact c2 _ _) | (with_reducible exact c3 _ _)))
        refine wpQuiet_nil ?_
        intro _ hw'
        obtain ⟨⟨dq, osq⟩, hw''⟩ := hw'
        subst hw''
        go_wp2
        go_meet
        exact ⟨by rw [HR.out]; simp, below_regrown w2 dq osq⟩
      · as_aux_lemma =>
        repeat (go_big_quiet_step (first | (with_reducible exact c1 _ _) | (with_reducible exact c2 _ _) | (with_reducible exact c3 _ _)))
        refine wpQuiet_nil ?_
        intro _ hw'
        obtain ⟨⟨dq, osq⟩, hw''⟩ := hw'
        subst hw''
        go_wp2
        go_meet
        exact ⟨by rw [HR.out]; simp, below_regrown w2 dq osq⟩
      · rcases hN with rfl | ⟨rfl, rfl⟩ | ⟨rfl, rfl, rfl⟩ | ⟨rfl, rfl, rfl, rfl⟩ | ⟨rfl, rfl, rfl, rfl, rfl⟩ | ⟨rfl, rfl, rfl, rfl, rfl, rfl⟩ | ⟨rfl, rfl, rfl, rfl, rfl, rfl, rfl⟩ | ⟨rfl, rfl, rfl, rfl, rfl, rfl, rfl, rfl⟩ | ⟨rfl, rfl, rfl, rfl, rfl, rfl, rfl, rfl, rfl⟩ | ⟨rfl, rfl, rfl, rfl, rfl, rfl, rfl, rfl, rfl⟩
        all_goals as_aux_lemma =>
          repeat (go_big_quiet_step (first | (with_reducible exact c1 _ _) | (with_reducible exact c2 _ _) | (with_reducible exact c3 _ _)))
          refine wpQuiet_nil ?_
          intro _ hw'
          obtain ⟨⟨dq, osq⟩, hw''⟩ := hw'
          subst hw''
          go_wp2
          go_meet
          exact ⟨by rw [HR.out]; simp, below_regrown w2 dq osq⟩
      · rcases hN with rfl | ⟨rfl, rfl⟩ | ⟨rfl, rfl, rfl⟩ | ⟨rfl, rfl, rfl, rfl⟩ | ⟨rfl, rfl, rfl, rfl, rfl⟩ | ⟨rfl, rfl, rfl, rfl, rfl, rfl⟩ | ⟨rfl, rfl, rfl, rfl, rfl, rfl, rfl⟩ | ⟨rfl, rfl, rfl, rfl, rfl, rfl, rfl, rfl⟩ | ⟨rfl, rfl, rfl, rfl, rfl, rfl, rfl, rfl, rfl⟩ | ⟨rfl, rfl, rfl, rfl, rfl, rfl, rfl, rfl, rfl⟩
        all_goals as_aux_lemma =>
          repeat (go_big_quiet_step (first | (with_reducible exact c1 _ _) | (with_reducible exact c2 _ _) | (with_reducible exact c3 _ _)))
          refine wpQuiet_nil ?_
          intro _ hw'
          obtain ⟨⟨dq, osq⟩, hw''⟩ := hw'
          subst hw''
          go_wp2
          go_meet
          exact ⟨by rw [HR.out]; simp, below_regrown w2 dq osq⟩
    case rest =>
      obtain ⟨rfl, hbc⟩ := hcut
      have HCc := Lib.hid (HC.out.below hbc)
      have HBc := Lib.hid (chain HB.out hbc)
      clear C1 C2 C3 hN hT q2 q3 e1 e2 e3 e4 e5 e6 e7 e8 e9 HR HCs HC HB hbc HNn
      have y0 : wc.cell? ⟨w.heap.size, 0, none⟩ = some (.string c.path) := HCc.out.cell 0
      have y1 : wc.cell? ⟨w.heap.size, 1, none⟩ = some (.string c.name) := HCc.out.cell 1
      have y2 : wc.cell? ⟨w.heap.size, 2, none⟩ = some (.string c.pass) := HCc.out.cell 2
      have y3 : wc.cell? ⟨w.heap.size, 3, none⟩ = some (.string c.fall) := HCc.out.cell 3
      have y4 : wc.cell? ⟨w.heap.size, 4, none⟩ = some (.int .i64 c.q) := HCc.out.cell 4
      have y5 : wc.cell? ⟨w.heap.size, 5, none⟩ = some (.int .i64 c.b) := HCc.out.cell 5
      have y6 : wc.cell? ⟨w.heap.size, 6, none⟩ = some (.int .i64 c.p) := HCc.out.cell 6
      have y7 : wc.cell? ⟨w.heap.size, 7, none⟩ = some (.int .i64 c.r) := HCc.out.cell 7
      have y8 : wc.cell? ⟨w.heap.size, 8, none⟩ = some (.int .i64 c.e) := HCc.out.cell 8
      have HRg : RowKit.Hid (∀ W, Calls Tryz.prog 25 #[.agg c.vals] W fun e w' => e = .returned (.bool c.right) ∧ Below W.heap.size W w') := fun W => right_any c W HF.out
      unfold Cfg.vals at HRg
      obtain ⟨R, hR⟩ : ∃ R, c.right = R := ⟨_, rfl⟩
      rw [hR] at HRg ⊢
      cases R with
      | false => as_aux_lemma =>
        have HNo := Lib.hid (fun W => mtNew_no c W HF.out hR)
        unfold Cfg.vals at HNo
        go_upto_region 5 with (go_at_call 8; go_loud (refine (HNo.out _).mono ?_); rintro e w4 ⟨rfl, hb⟩; have HB4 := Lib.hid (chain HBc.out hb); have HC4 := Lib.hid (HCc.out.below hb); clear hb)
        have k0 := cell_regrown (show w4.cell? ⟨w.heap.size, 0, none⟩ = some (.string c.path) from HC4.out.cell 0)
        have k1 := cell_regrown (show w4.cell? ⟨w.heap.size, 1, none⟩ = some (.string c.name) from HC4.out.cell 1)
        have k2 := cell_regrown (show w4.cell? ⟨w.heap.size, 2, none⟩ = some (.string c.pass) from HC4.out.cell 2)
        have k3 := cell_regrown (show w4.cell? ⟨w.heap.size, 3, none⟩ = some (.string c.fall) from HC4.out.cell 3)
        have k4 := cell_regrown (show w4.cell? ⟨w.heap.size, 4, none⟩ = some (.int .i64 c.q) from HC4.out.cell 4)
        have k5 := cell_regrown (show w4.cell? ⟨w.heap.size, 5, none⟩ = some (.int .i64 c.b) from HC4.out.cell 5)
        have k6 := cell_regrown (show w4.cell? ⟨w.heap.size, 6, none⟩ = some (.int .i64 c.p) from HC4.out.cell 6)
        have k7 := cell_regrown (show w4.cell? ⟨w.heap.size, 7, none⟩ = some (.int .i64 c.r) from HC4.out.cell 7)
        have k8 := cell_regrown (show w4.cell? ⟨w.heap.size, 8, none⟩ = some (.int .i64 c.e) from HC4.out.cell 8)
        have c1 := fun d os => Calls.regrown_of (w := w4) (d := d) (os := os) (HRg.out _)
        clear y0 y1 y2 y3 y4 y5 y6 y7 y8
        refine wp_region_quiet_below rfl (by kernel_rfl) ?_
        try simp only [List.append_eq, List.cons_append, List.nil_append]
        repeat (go_big_quiet_step (with_reducible exact c1 _ _))
        refine wpQuiet_nil ?_
        intro _ hw'
        obtain ⟨⟨dq, osq⟩, hw''⟩ := hw'
        subst hw''
        go_wp2
        go_ret
        exact ⟨rfl, chain HB4.out (below_regrown w4 dq osq)⟩
      | true => as_aux_lemma =>
        have HYe := Lib.hid (fun W => mtNew_any c W HF.out hR)
        unfold Cfg.vals at HYe
        go_upto_region 5 with (go_at_call 8; go_loud (refine (HYe.out _).mono ?_); rintro e w4 ⟨g, rfl, hm, hb⟩; have HB4 := Lib.hid (chain HBc.out hb); have HC4 := Lib.hid (HCc.out.below hb); have HM4 := Lib.hid (hm noX); clear hb hm)
        have k0 := cell_regrown (show w4.cell? ⟨w.heap.size, 0, none⟩ = some (.string c.path) from HC4.out.cell 0)
        have k1 := cell_regrown (show w4.cell? ⟨w.heap.size, 1, none⟩ = some (.string c.name) from HC4.out.cell 1)
        have k2 := cell_regrown (show w4.cell? ⟨w.heap.size, 2, none⟩ = some (.string c.pass) from HC4.out.cell 2)
        have k3 := cell_regrown (show w4.cell? ⟨w.heap.size, 3, none⟩ = some (.string c.fall) from HC4.out.cell 3)
        have k4 := cell_regrown (show w4.cell? ⟨w.heap.size, 4, none⟩ = some (.int .i64 c.q) from HC4.out.cell 4)
        have k5 := cell_regrown (show w4.cell? ⟨w.heap.size, 5, none⟩ = some (.int .i64 c.b) from HC4.out.cell 5)
        have k6 := cell_regrown (show w4.cell? ⟨w.heap.size, 6, none⟩ = some (.int .i64 c.p) from HC4.out.cell 6)
        have k7 := cell_regrown (show w4.cell? ⟨w.heap.size, 7, none⟩ = some (.int .i64 c.r) from HC4.out.cell 7)
        have k8 := cell_regrown (show w4.cell? ⟨w.heap.size, 8, none⟩ = some (.int .i64 c.e) from HC4.out.cell 8)
        have g0 : w4.cell? ⟨g, 0, none⟩ = some (.string c.path) := by
          obtain ⟨r, eb, ev, a, n, cc, nu, h⟩ := HM4.out
          exact h.ce.cell 0
        have kg := cell_regrown g0
        have c1 := fun d os => Calls.regrown_of (w := w4) (d := d) (os := os) (HRg.out _)
        have c2 := fun d os => Calls.regrown_of (w := w4) (d := d) (os := os) (v := .bool false) ((mtLive_any (HM4.out.below (below_regrown w4 d os))).mono fun e w' h => ⟨h.1, h.2 ▸ Below.refl _ _⟩)
        have c3 := fun d os => Calls.regrown_of (w := w4) (d := d) (os := os) (v := .string ⟨#[]⟩) (mtNow_any (HM4.out.below (below_regrown w4 d os)))
        have c4 := fun d os => Calls.regrown_of (w := w4) (d := d) (os := os) ((mtBurst_dead (HM4.out.below (below_regrown w4 d os))).mono fun e w' h => ⟨h.1, h.2 ▸ Below.refl _ _⟩)
        have qp : (c.path.toList == c.path.toList) = true := by rw [txt_beq]; exact decide_eq_true rfl
        clear y0 y1 y2 y3 y4 y5 y6 y7 y8 g0
        refine wp_region_quiet_below rfl (by kernel_rfl) ?_
        try simp only [List.append_eq, List.cons_append, List.nil_append]
        repeat (go_big_quiet_step (first | (with_reducible exact c1 _ _) | (with_reducible exact c2 _ _) | (with_reducible exact c3 _ _) | (with_reducible exact c4 _ _)))
        refine wpQuiet_nil ?_
        intro _ hw'
        obtain ⟨⟨dq, osq⟩, hw''⟩ := hw'
        subst hw''
        go_wp2
        go_ret
        exact ⟨rfl, chain HB4.out (below_regrown w4 dq osq)⟩
end Go.Proofs.YtmgfkdmjgjlkjaaGreat
