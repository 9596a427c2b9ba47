/- Plain facts, and what functions give, for the proofs of this seat: several texts in one, each with its own first remark. -/
import Derived.Test.YtmgfkdmjgjlkjaaGreatAM

namespace Go.Proofs.YtmgfkdmjgjlkjaaGreat
open Go Go.RowKit
set_option linter.unusedVariables false
set_option linter.unusedSimpArgs false
set_option maxRecDepth 100000
theorem txt_empty (f : ByteArray) : f.toList.isEmpty = decide (f = ⟨#[]⟩) := by
  rw [← txt_beq]
  have : (ByteArray.mk #[]).toList = [] := by rw [ByteArray.toList_eq]
  rw [this]
  cases f.toList <;> rfl
structure Cfg.Fit (c : Cfg) : Prop where
  p : c.path.size ≤ 9223372036854775807
  n : c.name.size ≤ 9223372036854775807
  f : c.fall.size ≤ 9223372036854775807
set_option maxHeartbeats 4000000 in
theorem nums_any (c : Cfg) (w : World) : Calls Tryz.prog 54 #[.agg c.vals] w fun e w' => e = .returned (.bool c.nums) ∧ Below w.heap.size w w' := by
  have HB := Lib.hid (Below.alloc_new w (.cells #[.string c.path, .string c.name, .string c.pass, .string c.fall, .int .i64 c.q, .int .i64 c.b, .int .i64 c.p, .int .i64 c.r, .int .i64 c.e] 27))
  unfold Cfg.vals Cfg.nums
  obtain ⟨b1, h1⟩ : ∃ b, inB c.q 1 10 = b := ⟨_, rfl⟩
  obtain ⟨b2, h2⟩ : ∃ b, inB c.b 32 600 = b := ⟨_, rfl⟩
  obtain ⟨b3, h3⟩ : ∃ b, inB c.p 1 c.r = b := ⟨_, rfl⟩
  obtain ⟨b4, h4⟩ : ∃ b, decide (c.r ≤ 1024) = b := ⟨_, rfl⟩
  obtain ⟨b5, h5⟩ : ∃ b, inB c.e 1 65536 = b := ⟨_, rfl⟩
  have H1 := Lib.hid h1
  have H2 := Lib.hid h2
  have H3 := Lib.hid h3
  have H5 := Lib.hid h5
  rw [h1, h2, h3, h4, h5]
  clear h1 h2 h3 h5
  have hc : b1 = false ∨ (b1 = true ∧ b2 = false) ∨ (b1 = true ∧ b2 = true ∧ b3 = false) ∨ (b1 = true ∧ b2 = true ∧ b3 = true ∧ b4 = false) ∨ (b1 = true ∧ b2 = true ∧ b3 = true ∧ b4 = true) := by
    cases b1 <;> cases b2 <;> cases b3 <;> cases b4 <;> simp
  rcases hc with rfl | ⟨rfl, rfl⟩ | ⟨rfl, rfl, rfl⟩ | ⟨rfl, rfl, rfl, rfl⟩ | ⟨rfl, rfl, rfl, rfl⟩
  all_goals
    go_enter Tryz.func54, Tryz.ntmps54
    go_wp2_with (go_at_call 93; refine (within_any _ _ _ _).mono ?_; rintro e w2 ⟨rfl, rfl⟩; first | rw [H1.out] | rw [H2.out] | rw [H3.out] | rw [H5.out] | fail)
    go_ret
    exact ⟨by simp, HB.out⟩
set_option maxHeartbeats 4000000 in
theorem texts_any (c : Cfg) (w : World) (hf : c.Fit) : Calls Tryz.prog 53 #[.agg c.vals] w fun e w' => e = .returned (.bool c.texts) ∧ Below w.heap.size w w' := by
  have HC := Lib.hid (Cel.new w 27 #[.string c.path, .string c.name, .string c.pass, .string c.fall, .int .i64 c.q, .int .i64 c.b, .int .i64 c.p, .int .i64 c.r, .int .i64 c.e])
  have HB := Lib.hid (Below.alloc_new w (.cells #[.string c.path, .string c.name, .string c.pass, .string c.fall, .int .i64 c.q, .int .i64 c.b, .int .i64 c.p, .int .i64 c.r, .int .i64 c.e] 27))
  have C1 : ∀ W : World, Calls Tryz.prog 92 #[.string c.path] W fun e w' => e = .returned (.bool (mountF c.path.data.toList)) ∧ Below W.heap.size W w' := fun W => (mount_any c.path W hf.p).mono fun e w' h => ⟨h.1, h.2 ▸ Below.refl _ _⟩
  have C2 : ∀ W : World, Calls Tryz.prog 45 #[.string c.name] W fun e w' => e = .returned (.string (ba (titleF c.name.data.toList))) ∧ Below W.heap.size W w' := fun W => title_any c.name W (by have := hf.n; omega)
  have C3 : ∀ W : World, Calls Tryz.prog 92 #[.string c.fall] W fun e w' => e = .returned (.bool (mountF c.fall.data.toList)) ∧ Below W.heap.size W w' := fun W => (mount_any c.fall W hf.f).mono fun e w' h => ⟨h.1, h.2 ▸ Below.refl _ _⟩
  unfold Cfg.vals Cfg.texts nameOk fallOk
  obtain ⟨s, hs⟩ : ∃ s, c.path = s := ⟨_, rfl⟩
  obtain ⟨n, hn⟩ : ∃ n, c.name = n := ⟨_, rfl⟩
  obtain ⟨f, hf⟩ : ∃ f, c.fall = f := ⟨_, rfl⟩
  rw [hs, hn, hf] at HC HB
  rw [hs] at C1 ⊢
  rw [hn] at C2 ⊢
  rw [hf] at C3 ⊢
  clear hs hn hf
  obtain ⟨b1, h1⟩ : ∃ b, mountF s.data.toList = b := ⟨_, rfl⟩
  obtain ⟨t, ht⟩ : ∃ t, ba (titleF n.data.toList) = t := ⟨_, rfl⟩
  obtain ⟨b3, h3⟩ : ∃ b, mountF f.data.toList = b := ⟨_, rfl⟩
  rw [h1] at C1 ⊢
  rw [ht] at C2 ⊢
  rw [h3] at C3 ⊢
  clear h1 ht h3
  have q2 : (t.toList == n.toList) = decide (t = n) := txt_beq _ _
  have q3 : f.toList.isEmpty = decide (f = ⟨#[]⟩) := txt_empty f
  obtain ⟨b2, h2⟩ : ∃ b, decide (t = n) = b := ⟨_, rfl⟩
  obtain ⟨b4, h4⟩ : ∃ b, decide (f = ⟨#[]⟩) = b := ⟨_, rfl⟩
  rw [h2] at q2 ⊢
  rw [h4] at q3 ⊢
  clear h2 h4
  have hc : b1 = false ∨ (b1 = true ∧ b2 = false) ∨ (b1 = true ∧ b2 = true ∧ b4 = true) ∨ (b1 = true ∧ b2 = true ∧ b4 = false) := by
    cases b1 <;> cases b2 <;> cases b4 <;> simp
  obtain ⟨W, hW⟩ : ∃ W, w.alloc (.cells #[.string s, .string n, .string c.pass, .string f, .int .i64 c.q, .int .i64 c.b, .int .i64 c.p, .int .i64 c.r, .int .i64 c.e] 27) = W := ⟨_, rfl⟩
  rw [hW] at HB HC
  have x0 : W.cell? ⟨w.heap.size, 0, none⟩ = some (.string s) := HC.out.cell 0
  have x1 : W.cell? ⟨w.heap.size, 1, none⟩ = some (.string n) := HC.out.cell 1
  have x3 : W.cell? ⟨w.heap.size, 3, none⟩ = some (.string f) := HC.out.cell 3
  have HW := Lib.hid hW
  clear hW
  go_enter Tryz.func53, Tryz.ntmps53
  go_upto_region 1 with (fail)
  rw [HW.out]
  have k0 := cell_regrown x0
  have k1 := cell_regrown x1
  have k3 := cell_regrown x3
  have c1 := fun d os => Calls.regrown_of (w := W) (d := d) (os := os) (C1 _)
  have c2 := fun d os => Calls.regrown_of (w := W) (d := d) (os := os) (C2 _)
  have c3 := fun d os => Calls.regrown_of (w := W) (d := d) (os := os) (C3 _)
  clear C1 C2 C3 x0 x1 x3 HC
  refine wp_region_quiet_below rfl (by kernel_rfl) ?_
  rcases hc with rfl | ⟨rfl, rfl⟩ | ⟨rfl, rfl, rfl⟩ | ⟨rfl, rfl, rfl⟩
  all_goals
    repeat (go_big_quiet_step (first | (with_reducible exact c1 _ _) | (with_reducible exact c2 _ _) | (with_reducible exact c3 _ _)))
    refine wpQuiet_nil ?_
    intro _ hw'
    obtain ⟨⟨dq, osq⟩, hw''⟩ := hw'
    subst hw''
    go_wp2
    go_ret
    exact ⟨by simp, chain HB.out (below_regrown W dq osq)⟩
end Go.Proofs.YtmgfkdmjgjlkjaaGreat

namespace Go.Proofs.YtmgfkdmjgjlkjaaGreat
open Go Go.RowKit
set_option linter.unusedVariables false
set_option linter.unusedSimpArgs false
set_option maxRecDepth 100000
set_option maxHeartbeats 4000000 in
theorem right_any (c : Cfg) (w : World) (hf : c.Fit) : Calls Tryz.prog 25 #[.agg c.vals] w fun e w' => e = .returned (.bool c.right) ∧ Below w.heap.size w w' := by
  have HB := Lib.hid (Below.alloc_new w (.cells c.vals 27))
  have C1 := Lib.hid (fun W => texts_any c W hf)
  have C2 := Lib.hid (fun W => nums_any c W)
  unfold Cfg.right
  obtain ⟨b1, h1⟩ : ∃ b, c.texts = b := ⟨_, rfl⟩
  obtain ⟨b2, h2⟩ : ∃ b, c.nums = b := ⟨_, rfl⟩
  rw [h1] at C1 ⊢
  rw [h2] at C2 ⊢
  have HC := Lib.hid (Cel.new w 27 c.vals)
  unfold Cfg.vals at C1 C2 HB HC ⊢
  clear h1 h2
  have hc : b1 = false ∨ b1 = true := by cases b1 <;> simp
  rcases hc with rfl | rfl
  all_goals
    go_enter Tryz.func25, Tryz.ntmps25
    go_wp2_with (first
      | (go_at_call 53; go_loud (refine (C1.out _).mono ?_); rintro e w2 ⟨rfl, hb⟩; have HB2 := Lib.hid (chain HB.out hb); have HC2 := Lib.hid (HC.out.below hb); clear hb; have y0 := HC2.out.cell 0; have y1 := HC2.out.cell 1; have y2 := HC2.out.cell 2; have y3 := HC2.out.cell 3; have y4 := HC2.out.cell 4; have y5 := HC2.out.cell 5; have y6 := HC2.out.cell 6; have y7 := HC2.out.cell 7; have y8 := HC2.out.cell 8)
      | (go_at_call 54; go_loud (refine (C2.out _).mono ?_); rintro e w3 ⟨rfl, hb⟩; have HB3 := Lib.hid (chain HB2.out hb); clear hb)
      | fail)
    go_ret
    first
      | exact ⟨by simp, HB3.out⟩
      | exact ⟨by simp, HB2.out⟩
set_option maxHeartbeats 4000000 in
theorem mtNew_any (c : Cfg) (w : World) (hf : c.Fit) (hr : c.right = true) : Calls Tryz.prog 8 #[.agg c.vals] w fun e w' => ∃ g, e = .returned (.tuple #[.pointer (some ⟨g, 0, none⟩), .int .i64 0]) ∧ (∀ X, MtAt w' w.heap.size g X c 0 none [] []) ∧ Below w.heap.size w w' := by
  have HB := Lib.hid (Below.alloc_new w (.cells c.vals 27))
  have C1 := Lib.hid (fun W => right_any c W hf)
  have HO := Lib.hid (Cfg.right_ok hr)
  rw [hr] at C1
  have HC := Lib.hid (Cel.new w 27 c.vals)
  unfold Cfg.vals at C1 HB HC ⊢
  clear hr
  go_enter Tryz.func8, Tryz.ntmps8
  go_wp2_with (first
    | (go_at_call 25; go_loud (refine (C1.out _).mono ?_); rintro e w2 ⟨rfl, hb⟩; have HB2 := Lib.hid (chain HB.out hb); have HC2 := Lib.hid (HC.out.below hb); clear hb; have HE2 : RowKit.Hid (Cel (w2.alloc (.cells (mtC c (.pointer none) (.pointer none) 0 0 (.slice none 0 0)) 64)) w2.heap.size 64 (mtC c (.pointer none) (.pointer none) 0 0 (.slice none 0 0))) := Cel.new _ _ _; have y0 := HC2.out.cell 0; have y1 := HC2.out.cell 1; have y2 := HC2.out.cell 2; have y3 := HC2.out.cell 3; have y4 := HC2.out.cell 4; have y5 := HC2.out.cell 5; have y6 := HC2.out.cell 6; have y7 := HC2.out.cell 7; have y8 := HC2.out.cell 8)
    | (go_at_call 26; go_loud (refine (mtForget_any w2.heap.size c _ _ _ 0 0 _ HE2.out HO.out).mono ?_); rintro e w3 ⟨⟨v, rfl⟩, r3, hr, hq, he, hk⟩; have HR := Lib.hid hr; have HQ := Lib.hid hq; have HE3 := Lib.hid he; have HK := Lib.hid hk; clear hr hq he hk)
    | fail)
  go_ret2
  have hs := HB2.out.size
  have hr := HR.out
  rw [World.size_alloc] at hr
  have hn : Below w2.heap.size w2 (w2.alloc (.cells (mtC c (.pointer none) (.pointer none) 0 0 (.slice none 0 0)) 64)) := Below.alloc_new _ _
  have hk : Below w.heap.size w w3 := (chain HB2.out hn).trans (HK.out.below (by rw [World.size_alloc]; omega) (fun j hj => by omega))
  refine ⟨_, rfl, fun X => ⟨r3, [], .pointer none, none, 0, 0, 0, ⟨HE3.out, HQ.out.weaken (fun j hj _ => hj.elim) (fun e => e.1 rfl), ⟨rfl, rfl⟩, TxAt.nil _, (by omega), (fun _ => rfl), (fun b off e => by cases e), ⟨hs, (by omega), (fun j hj => by simp at hj)⟩, (fun S hS => by cases hS), HO.out⟩⟩, hk⟩
end Go.Proofs.YtmgfkdmjgjlkjaaGreat

namespace Go.Proofs.YtmgfkdmjgjlkjaaGreat
open Go Go.RowKit
set_option linter.unusedVariables false
set_option linter.unusedSimpArgs false
set_option maxRecDepth 100000
set_option maxRecDepth 100000 in
theorem frame23_any (a : Option Addr) (len cap fr : Nat) (zs : List Int) (w : World) (hl : IntsAt w w.heap.size .i16 a len zs) (hlen : len ≤ 3000) (hf : fr ≤ 100000) :
    Calls Tryz.prog 13 #[.slice a len cap, .int .i64 fr] w (RowPost .i16 77 512 (frmF zs len fr) w) := by
  have HL := Lib.hid hl
  have hmk : ∀ w : World, (Instr.makeSlice 22 (.int .i64 512) (.int .i64 512)).run Tryz.prog w = .ok (.slice (some ⟨w.heap.size, 0, none⟩) 512 512) (w.alloc (.cells (madeCells #[.int .i16 0] 512) 77)) :=
    fun w => make_zeros (P := Tryz.prog) Tryz.underlying22 infoC_i16 512 (by decide) (by decide) w
  have H0 : RowKit.Hid (IFun (w.alloc (.cells (madeCells #[.int .i16 0] 512) 77)) w.heap.size 77 .i16 512 (upTo (frmF zs len fr) (fun _ => 0) 0) ∧ Below w.heap.size w (w.alloc (.cells (madeCells #[.int .i16 0] 512) 77))) :=
    ⟨IFun.ext (IFun.zeros w 77 .i16 512) fun j _ => (upTo_start (frmF zs len fr) (fun _ => 0) j).symm, Below.alloc_new w _⟩
  clear hl
  generalize madeCells #[Value.int .i16 0] 512 = mc at H0 hmk
  go_enter Tryz.func13, Tryz.ntmps13
  go_wp2
  clear hmk
  generalize hg : w.heap.size = g at H0 ⊢
  generalize (w.alloc (.cells mc 77)) = w1 at H0 ⊢
  go_loopw [10] (fun i wr => ∃ k : Nat, k ≤ 512 ∧ i = .int .i64 (k : Int) ∧ RowKit.Hid (IFun wr g 77 .i16 512 (upTo (frmF zs len fr) (fun _ => 0) k) ∧ Below g w wr)) (fun i _ => 512 - (intOf i).toNat)
  case atStart => exact ⟨0, by omega, rfl, H0.out⟩
  case round =>
    obtain ⟨k, hk, rfl, HI⟩ := hrel
    clear H0
    by_cases hlt : k < 512
    · have o1 := HI.out.1.cell (j := k) (by omega)
      rw [upTo_here] at o1
      have f1 := HI.out.1.frozen k
      have HS : RowKit.Hid (IFun (wr.setCell ⟨g, k, none⟩ (.int .i16 (frmF zs len fr k))) g 77 .i16 512 (upTo (frmF zs len fr) (fun _ => 0) (k + 1)) ∧ Below g w (wr.setCell ⟨g, k, none⟩ (.int .i16 (frmF zs len fr k)))) :=
        ⟨IFun.ext (HI.out.1.set (j := k) (by omega) (frmF zs len fr k)) fun j _ => upTo_next _ _ k j, Below.setCell (p := ⟨g, k, none⟩) HI.out.2 (Nat.le_refl _) _⟩
      have l1 : (k : Int) < 512 := by omega
      by_cases hl0 : len = 0
      · have HN : RowKit.Hid (IFun wr g 77 .i16 512 (upTo (frmF zs len fr) (fun _ => 0) (k + 1)) ∧ Below g w wr) := ⟨IFun.ext HI.out.1 fun i _ => by
          unfold upTo frmF
          rw [if_pos hl0]
          split <;> split <;> rfl, HI.out.2⟩
        have ll : ¬ 0 < (len : Int) := by omega
        clear HI HS hl0
        go_wp2
        go_roundw
        case rel => exact ⟨k + 1, by omega, by go_num, HN.out⟩
        case measure => simp [intOf] <;> omega
      · obtain ⟨m, hm⟩ : ∃ m, m = (fr + k) % len := ⟨_, rfl⟩
        have hml : m < len := by rw [hm]; exact Nat.mod_lt _ (by omega)
        have f3 : ((fr : Int) + (k : Int)) % (len : Int) = (m : Int) := by rw [hm]; simp
        have f4 : ((fr : Int) + (k : Int)).tmod (len : Int) = (m : Int) := by rw [Int.tmod_eq_emod_of_nonneg (by omega)]; exact f3
        obtain ⟨b, off, rfl, hbl, _, hc⟩ := HL.out.at_ hml
        have k1 := (HI.out.2.cell (p := ⟨b, off + m, none⟩) (by rw [← hg]; exact hbl)).trans hc
        have HE : RowKit.Hid (zs.getD m 0 = frmF zs len fr k) := by show _ = _; unfold frmF; rw [if_neg hl0, hm]
        rw [← HE.out] at HS
        clear HI hm hc HE
        generalize zs.getD m 0 = y at k1 HS
        have l2 : (m : Int) < (len : Int) := by omega
        have l3 : ¬ (len : Int) = 0 := by omega
        have l4 : 0 < (len : Int) := by omega
        clear hl0
        go_wp2
        go_roundw
        case rel => exact ⟨k + 1, by omega, by go_num, HS.out⟩
        case measure => simp [intOf] <;> omega
    · obtain rfl : k = 512 := by omega
      have Z : RowKit.Hid (IFun wr g 77 .i16 512 (frmF zs len fr) ∧ Below g w wr) := ⟨IFun.ext HI.out.1 fun i hi => upTo_end _ _ 512 i hi, HI.out.2⟩
      go_wp2
      go_ret
      exact ⟨g, rfl, Z.out.1, by omega, by rw [hg]; exact Z.out.2⟩
theorem info23_cfg : (Tryz.prog.info? 27).map (·.size) = some 9 := by kernel_rfl
def plainC (p : Int) : Cfg := ⟨⟨#[47, 108, 105, 118, 101]⟩, ⟨#[82, 97, 100, 105, 111]⟩, ⟨#[]⟩, ⟨#[]⟩, 4, 100, p, 8, 64⟩
theorem plain_texts (q p r : Int) : (⟨⟨#[47, 108, 105, 118, 101]⟩, ⟨#[82, 97, 100, 105, 111]⟩, ⟨#[]⟩, ⟨#[]⟩, q, 100, p, r, 64⟩ : Cfg).texts = true := by
  show (mountF (ByteArray.mk #[47, 108, 105, 118, 101]).data.toList && nameOk ⟨#[82, 97, 100, 105, 111]⟩ && fallOk ⟨#[]⟩) = true
  decide +kernel
theorem plain_right (q p r : Int) (hq : 1 ≤ q ∧ q ≤ 10) (hp : 1 ≤ p) (hr : p ≤ r ∧ r ≤ 1024) : (⟨⟨#[47, 108, 105, 118, 101]⟩, ⟨#[82, 97, 100, 105, 111]⟩, ⟨#[]⟩, ⟨#[]⟩, q, 100, p, r, 64⟩ : Cfg).right = true := by
  unfold Cfg.right
  rw [plain_texts]
  simp only [Cfg.nums, inB, Bool.and_eq_true, decide_eq_true_eq, Bool.true_and]
  omega
theorem plain_fit (q p r : Int) : (⟨⟨#[47, 108, 105, 118, 101]⟩, ⟨#[82, 97, 100, 105, 111]⟩, ⟨#[]⟩, ⟨#[]⟩, q, 100, p, r, 64⟩ : Cfg).Fit := by
  refine ⟨?_, ?_, ?_⟩
  · show (ByteArray.mk #[47, 108, 105, 118, 101]).size ≤ 9223372036854775807
    decide
  · show (ByteArray.mk #[82, 97, 100, 105, 111]).size ≤ 9223372036854775807
    decide
  · show (ByteArray.mk #[]).size ≤ 9223372036854775807
    decide
theorem plain23_any (p : Int) (w : World) : Calls Tryz.prog 7 #[.int .i64 p] w fun e w' => e = .returned (.agg (plainC p).vals) ∧ Below w.heap.size w w' := by
  have HC := Lib.hid (Cel.new w 27 (plainC p).vals)
  have HB := Lib.hid (Below.alloc_new w (.cells (plainC p).vals 27))
  go_enter Tryz.func7, Tryz.ntmps7
  go_wp2
  refine bodyPost_ret (results_cell1 rfl rfl (run_loadVar_row _ w.heap.size _ _ _ (0, 0) _ HC.out Tryz.underlying27 rfl info23_cfg)) rfl ⟨rfl, HB.out⟩
theorem last23_any (a : Option Addr) (n c : Nat) (T : List ByteArray) (w : World) (h : TxAt w a n c T) (hn : n ≤ 100000) : Calls Tryz.prog 17 #[.slice a n c] w fun e w' => e = .returned (.string (nowT T)) ∧ Below w.heap.size w w' := by
  have HT := Lib.hid h
  have HB := Lib.hid (fun k => Below.drewN' (Below.refl w.heap.size w) k)
  clear h
  rcases Nat.eq_zero_or_pos n with h0 | h0
  · subst h0
    have : T = [] := List.eq_nil_of_length_eq_zero HT.out.len
    subst this
    go_enter Tryz.func17, Tryz.ntmps17
    go_wp2
    go_ret
    exact ⟨rfl, HB.out 0⟩
  · obtain ⟨b, off, rfl, hc⟩ := HT.out.at_ (j := n - 1) (by omega)
    have e0 : nowT T = T.getD (n - 1) ⟨#[]⟩ := by unfold nowT; rw [HT.out.len]
    rw [e0]
    clear HT e0
    generalize T.getD (n - 1) ⟨#[]⟩ = x at hc ⊢
    obtain ⟨m, rfl⟩ : ∃ m, n = m + 1 := ⟨n - 1, by omega⟩
    rw [show m + 1 - 1 = m by omega] at hc
    have q : (((m + 1 : Nat) : Int) == 0) = false := by simp; omega
    have e1 : IntKind.i64.wrap (((m + 1 : Nat) : Int) - 1) = (m : Int) := by rw [show (((m + 1 : Nat) : Int) - 1) = (m : Int) by omega]; exact IntWalk.i64_in _ (by omega)
    have e2 : (((m + 1 : Nat) : Int) - 1) = (m : Int) := by omega
    have l1 : (m : Int) < ((m + 1 : Nat) : Int) := by omega
    go_enter Tryz.func17, Tryz.ntmps17
    go_wp2
    go_ret
    exact ⟨rfl, HB.out 0⟩
theorem burst23_none (a2 : Option Addr) (n2 c2 : Nat) (live : Bool) (P : Int) (a : Option Addr) (c : Nat) (w : World) (h : live = false ∨ n2 = 0) : Calls Tryz.prog 22 #[.slice a 0 c, .slice a2 n2 c2, .bool live, .int .i64 P] w fun e w' => e = .returned (.bool true) ∧ Below w.heap.size w w' := by
  have HB := Lib.hid (Below.refl w.heap.size w)
  have hc : live = false ∨ (live = true ∧ n2 = 0) := by
    cases live
    · exact .inl rfl
    · rcases h with h | h
      · cases h
      · exact .inr ⟨rfl, h⟩
  clear h
  rcases hc with rfl | ⟨rfl, rfl⟩
  all_goals
    go_enter Tryz.func22, Tryz.ntmps22
    go_wp2
    go_ret
    exact ⟨rfl, HB.out⟩
set_option maxHeartbeats 4000000 in
theorem burst23_some (a a2 : Option Addr) (n c n2 c2 P : Nat) (b1 B1 b2 B2 : Nat) (K : List Pk) (w : World) (hP : 1 ≤ P) (hP2 : P ≤ 1024) (h0 : 0 < K.length) (hl : K.length ≤ 1000) (hb : PksAt w b1 B1 45 (.slice a n c) (K.drop (fromN P K.length))) (hk : PksAt w b2 B2 45 (.slice a2 n2 c2) K) :
    Calls Tryz.prog 22 #[.slice a n c, .slice a2 n2 c2, .bool true, .int .i64 P] w fun e w' => e = .returned (.bool true) ∧ Below w.heap.size w w' := by
  have HB := Lib.hid (Below.refl w.heap.size w)
  have HQ := Lib.hid hb
  have HK := Lib.hid hk
  have hn2 := hk.len
  have hn := hb.len
  rw [List.length_drop] at hn
  obtain ⟨f, hf⟩ : ∃ f, fromN P K.length = f := ⟨_, rfl⟩
  have hfb := fromN_bd hP h0
  have hf1 : (n2 - 1) / P * P = f := by rw [hn2]; exact hf
  rw [hf] at HQ hn hfb
  rw [← hn2] at h0 hl hn hfb
  have HN2 := Lib.hid hn2
  clear hb hk hf hn2
  obtain ⟨m, rfl⟩ : ∃ m, n2 = m + 1 := ⟨n2 - 1, by omega⟩
  rw [show m + 1 - 1 = m by omega] at hf1
  obtain ⟨d, hd⟩ : ∃ d, m / P = d := ⟨_, rfl⟩
  have hdm := Nat.div_le_self m P
  rw [hd] at hf1 hdm
  have z0 : ((m : Int) + 1 == 0) = false := by simp; omega
  have z3 : (m : Int).tdiv (P : Int) = (d : Int) := by rw [Int.tdiv_eq_ediv_of_nonneg (by omega), ← hd]; rfl
  have z5 : (d : Int) * (P : Int) = (f : Int) := by rw [← hf1]; simp
  have z7 : ¬ (P : Int) = 0 := by omega
  have z9 : ((n : Int) != (m : Int) + 1 - (f : Int)) = false := by simp; omega
  have HNn : RowKit.Hid (n + f = m + 1) := by rw [hn]; exact Lib.hid (by omega)
  have hf9 : f ≤ 1000 := by omega
  have hn9 : n ≤ 1000 := by omega
  have hn10 : (n : Int) + (f : Int) ≤ (m : Int) + 1 := by omega
  have hn11 : (m : Int) + 1 ≤ (n : Int) + (f : Int) := by omega
  clear hn hfb hf1 hd h0
  go_enter Tryz.func22, Tryz.ntmps22
  go_wp2
  go_loopw [39] (fun i wr => ∃ t : Nat, t ≤ n ∧ i = .int .i64 t ∧ RowKit.Hid (Below w.heap.size w wr)) (fun i _ => n - (intOf i).toNat)
  case atStart => exact ⟨0, by omega, rfl, HB.out⟩
  case round =>
    obtain ⟨t, ht, rfl, H⟩ := hrel
    clear HB
    by_cases hlt : t < n
    · obtain ⟨g1, p, a3, c3, hp, rfl, py, x0, x1, x2, x3⟩ := (HQ.out.below H.out).at_ (i := t) (by rw [List.length_drop, ← HN2.out]; have := HNn.out; omega)
      obtain ⟨g2, p', a4, c4, hp', rfl, py', y0, y1, y2, y3⟩ := (HK.out.below H.out).at_ (i := f + t) (by rw [← HN2.out]; have := HNn.out; omega)
      rw [List.getElem?_drop] at hp
      obtain rfl : p = p' := by rw [hp] at hp'; injection hp'
      obtain ⟨l, hl⟩ : ∃ l, p.pl.length = l := ⟨_, rfl⟩
      have hi1 := py.i
      have hi2 := py'.i
      rw [show ((p, a3, c3) : PkX).1 = p from rfl, hl] at hi1
      rw [show ((p, a4, c4) : PkX).1 = p from rfl, hl] at hi2
      rw [hl] at x3 y3
      have HBq : RowKit.Hid (Below wr.heap.size wr ((wr.alloc (.cells #[.int .u32 p.ep, .int .u32 p.nu, .bool p.wh, .slice a3 l c3] 45)).alloc (.cells #[.int .u32 p.ep, .int .u32 p.nu, .bool p.wh, .slice a4 l c4] 45))) := ((Below.refl _ wr).alloc (Nat.le_refl _) _).alloc (by simp) _
      have HBw := Lib.hid (chain H.out HBq.out)
      have s1 := string_of_ints (P := Tryz.prog) (src := 43) (dst := 9) (e := 5) (c := c3) Tryz.underlying43 Tryz.underlying5 Tryz.underlying9 (hi1.below HBq.out)
      have s2 := string_of_ints (P := Tryz.prog) (src := 43) (dst := 9) (e := 5) (c := c4) Tryz.underlying43 Tryz.underlying5 Tryz.underlying9 (hi2.below HBq.out)
      obtain ⟨u, hu⟩ : ∃ u, f + t = u := ⟨_, rfl⟩
      rw [hu] at y0 y1 y2 y3
      have hg2 := cell_block y0
      simp only at hg2
      have hq2 := Below.alloc_new wr (.cells #[.int .u32 p.ep, .int .u32 p.nu, .bool p.wh, .slice a3 l c3] 45)
      have v0 := (hq2.cell (p := ⟨g2, u * 4, none⟩) hg2).trans y0
      have v1 := (hq2.cell (p := ⟨g2, u * 4 + 1, none⟩) hg2).trans y1
      have v2 := (hq2.cell (p := ⟨g2, u * 4 + 2, none⟩) hg2).trans y2
      have v3 := (hq2.cell (p := ⟨g2, u * 4 + 3, none⟩) hg2).trans y3
      have l1 : (t : Int) < (n : Int) := by omega
      have l2 : (f : Int) + (t : Int) = (u : Int) := by omega
      have l3 : (u : Int) < (m : Int) + 1 := by have := HNn.out; omega
      have l4 : u < m + 1 := by have := HNn.out; omega
      generalize textOf p.pl = tx at s1 s2
      clear hp hp' py py' hi1 hi2 hl hu HQ HK hq2 y0 y1 y2 y3
      go_wp2
      go_roundw
      case rel => exact ⟨t + 1, by omega, by go_num, HBw.out⟩
      case measure => simp [intOf] <;> omega
    · obtain rfl : t = n := by omega
      go_wp2
      go_ret
      exact ⟨rfl, H.out⟩
end Go.Proofs.YtmgfkdmjgjlkjaaGreat

namespace Go.Proofs.YtmgfkdmjgjlkjaaGreat
open Go Go.RowKit
set_option linter.unusedVariables false
set_option linter.unusedSimpArgs false
set_option maxRecDepth 100000
structure PsOk (P : Nat) (ps : List Pk) : Prop where
  per : PerOk P ps
  nu : ∀ (i : Nat) (p : Pk), ps[i]? = some p → p.nu = (i : Int)
  len : ∀ p, p ∈ ps → p.pl.length ≤ 1000
theorem PsOk.nil (P : Nat) : PsOk P [] := ⟨PerOk.nil P, fun i p h => (by simp at h), fun p h => (by simp at h)⟩
theorem PsOk.more {P : Nat} {ps : List Pk} {c : Cfg} {ep : Int} {S : S13} {f : Nat → Int} (h : PsOk P ps) (hc : c.Ok) (hP : c.p.toNat = P) (hfs : S.fs = true → ps = []) : PsOk P (ps ++ [nextP c ep S ps.length f]) := by
  refine ⟨h.per.more ?_, fun i p hp => ?_, fun p hp => ?_⟩
  · show (asksW c ps.length || S.fs) = _
    unfold asksW
    rw [hP]
    cases hS : S.fs with
    | false => rw [Bool.or_false]
    | true =>
      rw [hfs hS]
      simp
  · by_cases hl : i < ps.length
    · rw [List.getElem?_append_left hl] at hp
      exact h.nu i p hp
    · have hi : i = ps.length := by
        have := (List.getElem?_eq_some_iff.1 hp).1
        rw [List.length_append, List.length_singleton] at this
        omega
      subst hi
      rw [List.getElem?_append_right (Nat.le_refl _), Nat.sub_self] at hp
      injection hp with hp
      subst hp
      rfl
  · rcases List.mem_append.1 hp with h1 | h1
    · exact h.len p h1
    · have h1 : p = nextP c ep S ps.length f := by simpa using h1
      subst h1
      have := nextP_len c hc ep S ps.length f
      omega
theorem mtF_below {w wr w' : World} {B : Nat} (h : Below w.heap.size w wr) (hB : w.heap.size ≤ B) (hk : Keeps (MtF wr B) wr w') : Below w.heap.size w w' := h.trans (hk.below h.size fun j hj => Nat.le_trans hB hj.1)
def noX (_ : Nat) : Prop := False
structure LvSt23 (w : World) (B g k : Nat) (wr : World) : Prop where
  b : Below w.heap.size w wr
  hB : w.heap.size ≤ B ∧ B ≤ wr.heap.size
  m : ∃ S ps, MtAt wr B g noX (plainC 3) 1 (some S) ps [] ∧ ps.length = k ∧ PsOk 3 ps ∧ (S.fs = true → ps = [])
theorem LvSt23.frame {w wr : World} {B g k x : Nat} {f : Nat → Int} (h : LvSt23 w B g k wr) (hk : k ≤ 100) (hx : IFun wr x 77 .i16 512 f) (hb : ∀ i, i < 512 → -32768 ≤ f i ∧ f i ≤ 32767) :
    Calls Tryz.prog 12 #[.pointer (some ⟨g, 0, none⟩), .slice (some ⟨x, 0, none⟩) 512 512] wr fun e w' => (∃ v, e = .returned v) ∧ LvSt23 w B g (k + 1) w' := by
  obtain ⟨S, ps, hm, hl, hp, hs⟩ := h.m
  obtain ⟨M, hm⟩ := hm.m
  refine (mtFrame_any x f hm (fun j hj => hj.elim) h.hB.2 (by omega) hx hb).mono ?_
  rintro e w' ⟨rr, cp, rfl, _, hm', hk'⟩
  exact ⟨⟨_, rfl⟩, mtF_below h.b h.hB.1 (hk'.mono fun j hj => hj.out), ⟨h.hB.1, Nat.le_trans h.hB.2 hk'.size⟩, _, _, hm'.at_, (by rw [List.length_append, List.length_singleton, hl]), hp.more hm.at_.ok rfl hs, (fun e => by cases e)⟩
theorem LvSt23.below {w wr w' : World} {B g k : Nat} (h : LvSt23 w B g k wr) (hb : Below wr.heap.size wr w') : LvSt23 w B g k w' := by
  obtain ⟨S, ps, hm, x⟩ := h.m
  exact ⟨chain h.b hb, ⟨h.hB.1, Nat.le_trans h.hB.2 hb.size⟩, S, ps, hm.below hb, x⟩
theorem LvSt23.burst {w wr : World} {B g : Nat} (h : LvSt23 w B g 5 wr) : Calls Tryz.prog 23 #[.pointer (some ⟨g, 0, none⟩)] wr fun e w' => ∃ r c, e = .returned (.slice (some ⟨r, 0, none⟩) 2 c) ∧ w'.cell? ⟨r, 1, none⟩ = some (.int .u32 3) ∧ w'.cell? ⟨r, 2, none⟩ = some (.bool true) ∧ w'.cell? ⟨r, 5, none⟩ = some (.int .u32 4) ∧ Below w.heap.size w w' := by
  obtain ⟨S, ps, hm, hl, hp, hs⟩ := h.m
  refine (mtBurst_any hm (by omega) hp.len).mono ?_
  rintro e w' ⟨v, rfl, hv, hb⟩
  have e1 : burstF ps (plainC 3).r.toNat = ps.drop 3 := by
    have := burstF_per (P := 3) (R := 8) (by decide) (by decide) hp.per (by omega)
    rw [hl] at this
    exact this
  rw [e1] at hv
  obtain ⟨a, n, c, rfl, hn⟩ := hv.form
  have hn2 : n = 2 := by rw [hn, List.length_drop, hl]
  subst hn2
  obtain ⟨r, p, a2, c2, h1, rfl, _, _, x1, x2, _⟩ := hv.at_ (i := 0) (by rw [List.length_drop]; omega)
  obtain ⟨r', p', a2', c2', h1', e', _, _, y1, _⟩ := hv.at_ (i := 1) (by rw [List.length_drop]; omega)
  injection e' with e'
  injection e' with e'
  subst e'
  rw [List.getElem?_drop] at h1 h1'
  have q1 := hp.nu _ _ h1
  have q2 := hp.per _ _ h1
  have q3 := hp.nu _ _ h1'
  rw [q1] at x1
  rw [q2] at x2
  rw [q3] at y1
  exact ⟨r, c, rfl, x1, x2, y1, chain h.b hb⟩
set_option maxHeartbeats 4000000 in
theorem lives23_any (w : World) : Calls Tryz.prog 6 #[] w fun e w' => e = .returned (.bool true) ∧ Below w.heap.size w w' := by
  have hmk : ∀ w : World, (Instr.makeSlice 22 (.int .i64 512) (.int .i64 512)).run Tryz.prog w = .ok (.slice (some ⟨w.heap.size, 0, none⟩) 512 512) (w.alloc (.cells (madeCells #[.int .i16 0] 512) 77)) :=
    fun w => make_zeros (P := Tryz.prog) Tryz.underlying22 infoC_i16 512 (by decide) (by decide) w
  have HZ : RowKit.Hid (∀ w : World, IFun (w.alloc (.cells (madeCells #[.int .i16 0] 512) 77)) w.heap.size 77 .i16 512 (fun _ => 0) ∧ Below w.heap.size w (w.alloc (.cells (madeCells #[.int .i16 0] 512) 77))) := fun w => ⟨IFun.zeros w 77 .i16 512, Below.alloc_new w _⟩
  have HP := Lib.hid (fun W => plain23_any 3 W)
  have HN := Lib.hid (fun W => mtNew_any (plainC 3) W (plain_fit 4 3 8) (plain_right 4 3 8 (by decide) (by decide) (by decide)))
  generalize madeCells #[Value.int .i16 0] 512 = mc at hmk HZ
  go_enter Tryz.func6, Tryz.ntmps6
  go_wp2_with (first
    | (go_at_call 7; go_loud (refine (HP.out _).mono ?_); rintro e w1 ⟨rfl, hb⟩; have HB1 := Lib.hid hb; clear hb)
    | (go_at_call 8; go_loud (refine (HN.out _).mono ?_); rintro e w2 ⟨g, rfl, hm, hb⟩; have HM2 := Lib.hid (hm noX); have HB2 := Lib.hid (chain HB1.out hb); have HS2 : RowKit.Hid (w1.heap.size ≤ w2.heap.size) := hb.size; clear hm hb)
    | (go_at_call 10; go_loud (refine (mtStart_any 1 HM2.out HS2.out).mono ?_); rintro e w3 ⟨rfl, hm, hk⟩; go_loud (have HL3 : RowKit.Hid (LvSt23 w w1.heap.size g 0 w3) := ⟨mtF_below HB2.out HB1.out.size hk, ⟨HB1.out.size, Nat.le_trans HS2.out hk.size⟩, _, _, hm, rfl, PsOk.nil 3, fun _ => rfl⟩); clear hm hk)
    | fail)
  generalize w1.heap.size = B at HL3
  clear HB2 HM2 HS2 HN HP
  go_loopw [16] (fun i wr => ∃ k : Nat, k ≤ 5 ∧ i = .int .i64 (k : Int) ∧ RowKit.Hid (LvSt23 w B g k wr)) (fun i _ => 5 - (intOf i).toNat)
  case atStart => exact ⟨0, by omega, rfl, HL3.out⟩
  case round =>
    obtain ⟨k, hk, rfl, H⟩ := hrel
    clear HL3
    by_cases hlt : k < 5
    · have l1 : (k : Int) < 5 := by omega
      have HF := Lib.hid ((H.out.below (HZ.out wr).2).frame (by omega) (HZ.out wr).1 (fun i _ => (by decide)))
      clear H
      go_wp2_with (go_at_call 12; go_loud (refine HF.out.mono ?_); rintro e w5 ⟨⟨v, rfl⟩, h5⟩; have H5 := Lib.hid h5; clear h5)
      go_roundw
      case rel => exact ⟨k + 1, by omega, by go_num, H5.out⟩
      case measure => simp [intOf] <;> omega
    · obtain rfl : k = 5 := by omega
      have HF := Lib.hid H.out.burst
      clear H
      go_wp2_with (go_at_call 23; go_loud (refine HF.out.mono ?_); rintro e w5 ⟨r, c, rfl, x1, x2, x5, hb⟩; have H5 := Lib.hid hb; clear hb)
      go_ret
      exact ⟨rfl, H5.out⟩
end Go.Proofs.YtmgfkdmjgjlkjaaGreat
