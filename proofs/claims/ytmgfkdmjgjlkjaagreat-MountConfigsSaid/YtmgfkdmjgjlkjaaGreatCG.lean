/- Plain facts, and what functions give, for the proofs of this seat: several texts in one, each with its own first remark. -/
import Derived.Test.YtmgfkdmjgjlkjaaGreatCF

namespace Go.Proofs.YtmgfkdmjgjlkjaaGreat
open Go Go.RowKit
set_option linter.unusedVariables false
set_option linter.unusedSimpArgs false
set_option maxRecDepth 100000
theorem txt_empty (f : ByteArray) : f.toList.isEmpty = decide (f = ⟨#[]⟩) := by
  rw [← txt_beq]
  have : (ByteArray.mk #[]).toList = [] := by rw [ByteArray.toList_eq]
  rw [this]
  cases f.toList <;> rfl
structure Cfg.Fit (c : Cfg) : Prop where
  p : c.path.size ≤ 9223372036854775807
  n : c.name.size ≤ 9223372036854775807
  f : c.fall.size ≤ 9223372036854775807
set_option maxHeartbeats 4000000 in
theorem nums_any (c : Cfg) (w : World) : Calls Tryz.prog 54 #[.agg c.vals] w fun e w' => e = .returned (.bool c.nums) ∧ Below w.heap.size w w' := by
  have HB := Lib.hid (Below.alloc_new w (.cells #[.string c.path, .string c.name, .string c.pass, .string c.fall, .int .i64 c.q, .int .i64 c.b, .int .i64 c.p, .int .i64 c.r, .int .i64 c.e] 27))
  unfold Cfg.vals Cfg.nums
  obtain ⟨b1, h1⟩ : ∃ b, inB c.q 1 10 = b := ⟨_, rfl⟩
  obtain ⟨b2, h2⟩ : ∃ b, inB c.b 32 600 = b := ⟨_, rfl⟩
  obtain ⟨b3, h3⟩ : ∃ b, inB c.p 1 c.r = b := ⟨_, rfl⟩
  obtain ⟨b4, h4⟩ : ∃ b, decide (c.r ≤ 1024) = b := ⟨_, rfl⟩
  obtain ⟨b5, h5⟩ : ∃ b, inB c.e 1 65536 = b := ⟨_, rfl⟩
  have H1 := Lib.hid h1
  have H2 := Lib.hid h2
  have H3 := Lib.hid h3
  have H5 := Lib.hid h5
  rw [h1, h2, h3, h4, h5]
  clear h1 h2 h3 h5
  have hc : b1 = false ∨ (b1 = true ∧ b2 = false) ∨ (b1 = true ∧ b2 = true ∧ b3 = false) ∨ (b1 = true ∧ b2 = true ∧ b3 = true ∧ b4 = false) ∨ (b1 = true ∧ b2 = true ∧ b3 = true ∧ b4 = true) := by
    cases b1 <;> cases b2 <;> cases b3 <;> cases b4 <;> simp
  rcases hc with rfl | ⟨rfl, rfl⟩ | ⟨rfl, rfl, rfl⟩ | ⟨rfl, rfl, rfl, rfl⟩ | ⟨rfl, rfl, rfl, rfl⟩
  all_goals
    go_enter Tryz.func54, Tryz.ntmps54
    go_wp2_with (go_at_call 93; refine (within_any _ _ _ _).mono ?_; rintro e w2 ⟨rfl, rfl⟩; first | rw [H1.out] | rw [H2.out] | rw [H3.out] | rw [H5.out] | fail)
    go_ret
    exact ⟨by simp, HB.out⟩
set_option maxHeartbeats 4000000 in
theorem texts_any (c : Cfg) (w : World) (hf : c.Fit) : Calls Tryz.prog 53 #[.agg c.vals] w fun e w' => e = .returned (.bool c.texts) ∧ Below w.heap.size w w' := by
  have HC := Lib.hid (Cel.new w 27 #[.string c.path, .string c.name, .string c.pass, .string c.fall, .int .i64 c.q, .int .i64 c.b, .int .i64 c.p, .int .i64 c.r, .int .i64 c.e])
  have HB := Lib.hid (Below.alloc_new w (.cells #[.string c.path, .string c.name, .string c.pass, .string c.fall, .int .i64 c.q, .int .i64 c.b, .int .i64 c.p, .int .i64 c.r, .int .i64 c.e] 27))
  have C1 : ∀ W : World, Calls Tryz.prog 92 #[.string c.path] W fun e w' => e = .returned (.bool (mountF c.path.data.toList)) ∧ Below W.heap.size W w' := fun W => (mount_any c.path W hf.p).mono fun e w' h => ⟨h.1, h.2 ▸ Below.refl _ _⟩
  have C2 : ∀ W : World, Calls Tryz.prog 45 #[.string c.name] W fun e w' => e = .returned (.string (ba (titleF c.name.data.toList))) ∧ Below W.heap.size W w' := fun W => title_any c.name W (by have := hf.n; omega)
  have C3 : ∀ W : World, Calls Tryz.prog 92 #[.string c.fall] W fun e w' => e = .returned (.bool (mountF c.fall.data.toList)) ∧ Below W.heap.size W w' := fun W => (mount_any c.fall W hf.f).mono fun e w' h => ⟨h.1, h.2 ▸ Below.refl _ _⟩
  unfold Cfg.vals Cfg.texts nameOk fallOk
  obtain ⟨s, hs⟩ : ∃ s, c.path = s := ⟨_, rfl⟩
  obtain ⟨n, hn⟩ : ∃ n, c.name = n := ⟨_, rfl⟩
  obtain ⟨f, hf⟩ : ∃ f, c.fall = f := ⟨_, rfl⟩
  rw [hs, hn, hf] at HC HB
  rw [hs] at C1 ⊢
  rw [hn] at C2 ⊢
  rw [hf] at C3 ⊢
  clear hs hn hf
  obtain ⟨b1, h1⟩ : ∃ b, mountF s.data.toList = b := ⟨_, rfl⟩
  obtain ⟨t, ht⟩ : ∃ t, ba (titleF n.data.toList) = t := ⟨_, rfl⟩
  obtain ⟨b3, h3⟩ : ∃ b, mountF f.data.toList = b := ⟨_, rfl⟩
  rw [h1] at C1 ⊢
  rw [ht] at C2 ⊢
  rw [h3] at C3 ⊢
  clear h1 ht h3
  have q2 : (t.toList == n.toList) = decide (t = n) := txt_beq _ _
  have q3 : f.toList.isEmpty = decide (f = ⟨#[]⟩) := txt_empty f
  obtain ⟨b2, h2⟩ : ∃ b, decide (t = n) = b := ⟨_, rfl⟩
  obtain ⟨b4, h4⟩ : ∃ b, decide (f = ⟨#[]⟩) = b := ⟨_, rfl⟩
  rw [h2] at q2 ⊢
  rw [h4] at q3 ⊢
  clear h2 h4
  have hc : b1 = false ∨ (b1 = true ∧ b2 = false) ∨ (b1 = true ∧ b2 = true ∧ b4 = true) ∨ (b1 = true ∧ b2 = true ∧ b4 = false) := by
    cases b1 <;> cases b2 <;> cases b4 <;> simp
  obtain ⟨W, hW⟩ : ∃ W, w.alloc (.cells #[.string s, .string n, .string c.pass, .string f, .int .i64 c.q, .int .i64 c.b, .int .i64 c.p, .int .i64 c.r, .int .i64 c.e] 27) = W := ⟨_, rfl⟩
  rw [hW] at HB HC
  have x0 : W.cell? ⟨w.heap.size, 0, none⟩ = some (.string s) := HC.out.cell 0
  have x1 : W.cell? ⟨w.heap.size, 1, none⟩ = some (.string n) := HC.out.cell 1
  have x3 : W.cell? ⟨w.heap.size, 3, none⟩ = some (.string f) := HC.out.cell 3
  have HW := Lib.hid hW
  clear hW
  go_enter Tryz.func53, Tryz.ntmps53
  go_upto_region 1 with (fail)
  rw [HW.out]
  have k0 := cell_regrown x0
  have k1 := cell_regrown x1
  have k3 := cell_regrown x3
  have c1 := fun d os => Calls.regrown_of (w := W) (d := d) (os := os) (C1 _)
  have c2 := fun d os => Calls.regrown_of (w := W) (d := d) (os := os) (C2 _)
  have c3 := fun d os => Calls.regrown_of (w := W) (d := d) (os := os) (C3 _)
  clear C1 C2 C3 x0 x1 x3 HC
  refine wp_region_quiet_below rfl (by kernel_rfl) ?_
  rcases hc with rfl | ⟨rfl, rfl⟩ | ⟨rfl, rfl, rfl⟩ | ⟨rfl, rfl, rfl⟩
  all_goals
    repeat (go_big_quiet_step (first | (with_reducible exact c1 _ _) | (with_reducible exact c2 _ _) | (with_reducible exact c3 _ _)))
    refine wpQuiet_nil ?_
    intro _ hw'
    obtain ⟨⟨dq, osq⟩, hw''⟩ := hw'
    subst hw''
    go_wp2
    go_ret
    exact ⟨by simp, chain HB.out (below_regrown W dq osq)⟩
end Go.Proofs.YtmgfkdmjgjlkjaaGreat

namespace Go.Proofs.YtmgfkdmjgjlkjaaGreat
open Go Go.RowKit
set_option linter.unusedVariables false
set_option linter.unusedSimpArgs false
set_option maxRecDepth 100000
set_option maxHeartbeats 4000000 in
theorem right_any (c : Cfg) (w : World) (hf : c.Fit) : Calls Tryz.prog 25 #[.agg c.vals] w fun e w' => e = .returned (.bool c.right) ∧ Below w.heap.size w w' := by
  have HB := Lib.hid (Below.alloc_new w (.cells c.vals 27))
  have C1 := Lib.hid (fun W => texts_any c W hf)
  have C2 := Lib.hid (fun W => nums_any c W)
  unfold Cfg.right
  obtain ⟨b1, h1⟩ : ∃ b, c.texts = b := ⟨_, rfl⟩
  obtain ⟨b2, h2⟩ : ∃ b, c.nums = b := ⟨_, rfl⟩
  rw [h1] at C1 ⊢
  rw [h2] at C2 ⊢
  have HC := Lib.hid (Cel.new w 27 c.vals)
  unfold Cfg.vals at C1 C2 HB HC ⊢
  clear h1 h2
  have hc : b1 = false ∨ b1 = true := by cases b1 <;> simp
  rcases hc with rfl | rfl
  all_goals
    go_enter Tryz.func25, Tryz.ntmps25
    go_wp2_with (first
      | (go_at_call 53; go_loud (refine (C1.out _).mono ?_); rintro e w2 ⟨rfl, hb⟩; have HB2 := Lib.hid (chain HB.out hb); have HC2 := Lib.hid (HC.out.below hb); clear hb; have y0 := HC2.out.cell 0; have y1 := HC2.out.cell 1; have y2 := HC2.out.cell 2; have y3 := HC2.out.cell 3; have y4 := HC2.out.cell 4; have y5 := HC2.out.cell 5; have y6 := HC2.out.cell 6; have y7 := HC2.out.cell 7; have y8 := HC2.out.cell 8)
      | (go_at_call 54; go_loud (refine (C2.out _).mono ?_); rintro e w3 ⟨rfl, hb⟩; have HB3 := Lib.hid (chain HB2.out hb); clear hb)
      | fail)
    go_ret
    first
      | exact ⟨by simp, HB3.out⟩
      | exact ⟨by simp, HB2.out⟩
theorem mtNew_no (c : Cfg) (w : World) (hf : c.Fit) (hr : c.right = false) : Calls Tryz.prog 8 #[.agg c.vals] w fun e w' => e = .returned (.tuple #[.pointer none, .int .i64 1]) ∧ Below w.heap.size w w' := by
  have HB := Lib.hid (Below.alloc_new w (.cells c.vals 27))
  have C1 := Lib.hid (fun W => right_any c W hf)
  rw [hr] at C1
  have HC := Lib.hid (Cel.new w 27 c.vals)
  unfold Cfg.vals at C1 HB HC ⊢
  clear hr
  go_enter Tryz.func8, Tryz.ntmps8
  go_wp2_with (go_at_call 25; go_loud (refine (C1.out _).mono ?_); rintro e w2 ⟨rfl, hb⟩; have HB2 := Lib.hid (chain HB.out hb); clear hb)
  go_ret2
  exact ⟨rfl, HB2.out⟩
set_option maxHeartbeats 4000000 in
theorem mtNew_any (c : Cfg) (w : World) (hf : c.Fit) (hr : c.right = true) : Calls Tryz.prog 8 #[.agg c.vals] w fun e w' => ∃ g, e = .returned (.tuple #[.pointer (some ⟨g, 0, none⟩), .int .i64 0]) ∧ (∀ X, MtAt w' w.heap.size g X c 0 none [] []) ∧ Below w.heap.size w w' := by
  have HB := Lib.hid (Below.alloc_new w (.cells c.vals 27))
  have C1 := Lib.hid (fun W => right_any c W hf)
  have HO := Lib.hid (Cfg.right_ok hr)
  rw [hr] at C1
  have HC := Lib.hid (Cel.new w 27 c.vals)
  unfold Cfg.vals at C1 HB HC ⊢
  clear hr
  go_enter Tryz.func8, Tryz.ntmps8
  go_wp2_with (first
    | (go_at_call 25; go_loud (refine (C1.out _).mono ?_); rintro e w2 ⟨rfl, hb⟩; have HB2 := Lib.hid (chain HB.out hb); have HC2 := Lib.hid (HC.out.below hb); clear hb; have HE2 : RowKit.Hid (Cel (w2.alloc (.cells (mtC c (.pointer none) (.pointer none) 0 0 (.slice none 0 0)) 64)) w2.heap.size 64 (mtC c (.pointer none) (.pointer none) 0 0 (.slice none 0 0))) := Cel.new _ _ _; have y0 := HC2.out.cell 0; have y1 := HC2.out.cell 1; have y2 := HC2.out.cell 2; have y3 := HC2.out.cell 3; have y4 := HC2.out.cell 4; have y5 := HC2.out.cell 5; have y6 := HC2.out.cell 6; have y7 := HC2.out.cell 7; have y8 := HC2.out.cell 8)
    | (go_at_call 26; go_loud (refine (mtForget_any w2.heap.size c _ _ _ 0 0 _ HE2.out HO.out).mono ?_); rintro e w3 ⟨⟨v, rfl⟩, r3, hr, hq, he, hk⟩; have HR := Lib.hid hr; have HQ := Lib.hid hq; have HE3 := Lib.hid he; have HK := Lib.hid hk; clear hr hq he hk)
    | fail)
  go_ret2
  have hs := HB2.out.size
  have hr := HR.out
  rw [World.size_alloc] at hr
  have hn : Below w2.heap.size w2 (w2.alloc (.cells (mtC c (.pointer none) (.pointer none) 0 0 (.slice none 0 0)) 64)) := Below.alloc_new _ _
  have hk : Below w.heap.size w w3 := (chain HB2.out hn).trans (HK.out.below (by rw [World.size_alloc]; omega) (fun j hj => by omega))
  refine ⟨_, rfl, fun X => ⟨r3, [], .pointer none, none, 0, 0, 0, ⟨HE3.out, HQ.out.weaken (fun j hj _ => hj.elim) (fun e => e.1 rfl), ⟨rfl, rfl⟩, TxAt.nil _, (by omega), (fun _ => rfl), (fun b off e => by cases e), ⟨hs, (by omega), (fun j hj => by simp at hj)⟩, (fun S hS => by cases hS), HO.out⟩⟩, hk⟩
end Go.Proofs.YtmgfkdmjgjlkjaaGreat

namespace Go.Proofs.YtmgfkdmjgjlkjaaGreat
open Go Go.RowKit
set_option linter.unusedVariables false
set_option linter.unusedSimpArgs false
set_option maxRecDepth 100000
theorem info23_cfg : (Tryz.prog.info? 27).map (·.size) = some 9 := by kernel_rfl
def plainC (p : Int) : Cfg := ⟨⟨#[47, 108, 105, 118, 101]⟩, ⟨#[82, 97, 100, 105, 111]⟩, ⟨#[]⟩, ⟨#[]⟩, 4, 100, p, 8, 64⟩
theorem plain_texts (q p r : Int) : (⟨⟨#[47, 108, 105, 118, 101]⟩, ⟨#[82, 97, 100, 105, 111]⟩, ⟨#[]⟩, ⟨#[]⟩, q, 100, p, r, 64⟩ : Cfg).texts = true := by
  show (mountF (ByteArray.mk #[47, 108, 105, 118, 101]).data.toList && nameOk ⟨#[82, 97, 100, 105, 111]⟩ && fallOk ⟨#[]⟩) = true
  decide +kernel
theorem plain_right (q p r : Int) (hq : 1 ≤ q ∧ q ≤ 10) (hp : 1 ≤ p) (hr : p ≤ r ∧ r ≤ 1024) : (⟨⟨#[47, 108, 105, 118, 101]⟩, ⟨#[82, 97, 100, 105, 111]⟩, ⟨#[]⟩, ⟨#[]⟩, q, 100, p, r, 64⟩ : Cfg).right = true := by
  unfold Cfg.right
  rw [plain_texts]
  simp only [Cfg.nums, inB, Bool.and_eq_true, decide_eq_true_eq, Bool.true_and]
  omega
theorem plain_fit (q p r : Int) : (⟨⟨#[47, 108, 105, 118, 101]⟩, ⟨#[82, 97, 100, 105, 111]⟩, ⟨#[]⟩, ⟨#[]⟩, q, 100, p, r, 64⟩ : Cfg).Fit := by
  refine ⟨?_, ?_, ?_⟩
  · show (ByteArray.mk #[47, 108, 105, 118, 101]).size ≤ 9223372036854775807
    decide
  · show (ByteArray.mk #[82, 97, 100, 105, 111]).size ≤ 9223372036854775807
    decide
  · show (ByteArray.mk #[]).size ≤ 9223372036854775807
    decide
theorem plain23_any (p : Int) (w : World) : Calls Tryz.prog 7 #[.int .i64 p] w fun e w' => e = .returned (.agg (plainC p).vals) ∧ Below w.heap.size w w' := by
  have HC := Lib.hid (Cel.new w 27 (plainC p).vals)
  have HB := Lib.hid (Below.alloc_new w (.cells (plainC p).vals 27))
  go_enter Tryz.func7, Tryz.ntmps7
  go_wp2
  refine bodyPost_ret (results_cell1 rfl rfl (run_loadVar_row _ w.heap.size _ _ _ (0, 0) _ HC.out Tryz.underlying27 rfl info23_cfg)) rfl ⟨rfl, HB.out⟩
end Go.Proofs.YtmgfkdmjgjlkjaaGreat

namespace Go.Proofs.YtmgfkdmjgjlkjaaGreat
open Go Go.RowKit
set_option linter.unusedVariables false
set_option linter.unusedSimpArgs false
set_option maxRecDepth 100000
structure PsOk (P : Nat) (ps : List Pk) : Prop where
  per : PerOk P ps
  nu : ∀ (i : Nat) (p : Pk), ps[i]? = some p → p.nu = (i : Int)
  len : ∀ p, p ∈ ps → p.pl.length ≤ 1000
theorem PsOk.nil (P : Nat) : PsOk P [] := ⟨PerOk.nil P, fun i p h => (by simp at h), fun p h => (by simp at h)⟩
theorem PsOk.more {P : Nat} {ps : List Pk} {c : Cfg} {ep : Int} {S : S13} {f : Nat → Int} (h : PsOk P ps) (hc : c.Ok) (hP : c.p.toNat = P) (hfs : S.fs = true → ps = []) : PsOk P (ps ++ [nextP c ep S ps.length f]) := by
  refine ⟨h.per.more ?_, fun i p hp => ?_, fun p hp => ?_⟩
  · show (asksW c ps.length || S.fs) = _
    unfold asksW
    rw [hP]
    cases hS : S.fs with
    | false => rw [Bool.or_false]
    | true =>
      rw [hfs hS]
      simp
  · by_cases hl : i < ps.length
    · rw [List.getElem?_append_left hl] at hp
      exact h.nu i p hp
    · have hi : i = ps.length := by
        have := (List.getElem?_eq_some_iff.1 hp).1
        rw [List.length_append, List.length_singleton] at this
        omega
      subst hi
      rw [List.getElem?_append_right (Nat.le_refl _), Nat.sub_self] at hp
      injection hp with hp
      subst hp
      rfl
  · rcases List.mem_append.1 hp with h1 | h1
    · exact h.len p h1
    · have h1 : p = nextP c ep S ps.length f := by simpa using h1
      subst h1
      have := nextP_len c hc ep S ps.length f
      omega
theorem mtF_below {w wr w' : World} {B : Nat} (h : Below w.heap.size w wr) (hB : w.heap.size ≤ B) (hk : Keeps (MtF wr B) wr w') : Below w.heap.size w w' := h.trans (hk.below h.size fun j hj => Nat.le_trans hB hj.1)
def noX (_ : Nat) : Prop := False
structure LvSt23 (w : World) (B g k : Nat) (wr : World) : Prop where
  b : Below w.heap.size w wr
  hB : w.heap.size ≤ B ∧ B ≤ wr.heap.size
  m : ∃ S ps, MtAt wr B g noX (plainC 3) 1 (some S) ps [] ∧ ps.length = k ∧ PsOk 3 ps ∧ (S.fs = true → ps = [])
theorem LvSt23.frame {w wr : World} {B g k x : Nat} {f : Nat → Int} (h : LvSt23 w B g k wr) (hk : k ≤ 100) (hx : IFun wr x 77 .i16 512 f) (hb : ∀ i, i < 512 → -32768 ≤ f i ∧ f i ≤ 32767) :
    Calls Tryz.prog 12 #[.pointer (some ⟨g, 0, none⟩), .slice (some ⟨x, 0, none⟩) 512 512] wr fun e w' => (∃ v, e = .returned v) ∧ LvSt23 w B g (k + 1) w' := by
  obtain ⟨S, ps, hm, hl, hp, hs⟩ := h.m
  obtain ⟨M, hm⟩ := hm.m
  refine (mtFrame_any x f hm (fun j hj => hj.elim) h.hB.2 (by omega) hx hb).mono ?_
  rintro e w' ⟨rr, cp, rfl, _, hm', hk'⟩
  exact ⟨⟨_, rfl⟩, mtF_below h.b h.hB.1 (hk'.mono fun j hj => hj.out), ⟨h.hB.1, Nat.le_trans h.hB.2 hk'.size⟩, _, _, hm'.at_, (by rw [List.length_append, List.length_singleton, hl]), hp.more hm.at_.ok rfl hs, (fun e => by cases e)⟩
theorem LvSt23.below {w wr w' : World} {B g k : Nat} (h : LvSt23 w B g k wr) (hb : Below wr.heap.size wr w') : LvSt23 w B g k w' := by
  obtain ⟨S, ps, hm, x⟩ := h.m
  exact ⟨chain h.b hb, ⟨h.hB.1, Nat.le_trans h.hB.2 hb.size⟩, S, ps, hm.below hb, x⟩
theorem LvSt23.burst {w wr : World} {B g : Nat} (h : LvSt23 w B g 5 wr) : Calls Tryz.prog 23 #[.pointer (some ⟨g, 0, none⟩)] wr fun e w' => ∃ r c, e = .returned (.slice (some ⟨r, 0, none⟩) 2 c) ∧ w'.cell? ⟨r, 1, none⟩ = some (.int .u32 3) ∧ w'.cell? ⟨r, 2, none⟩ = some (.bool true) ∧ w'.cell? ⟨r, 5, none⟩ = some (.int .u32 4) ∧ Below w.heap.size w w' := by
  obtain ⟨S, ps, hm, hl, hp, hs⟩ := h.m
  refine (mtBurst_any hm (by omega) hp.len).mono ?_
  rintro e w' ⟨v, rfl, hv, hb⟩
  have e1 : burstF ps (plainC 3).r.toNat = ps.drop 3 := by
    have := burstF_per (P := 3) (R := 8) (by decide) (by decide) hp.per (by omega)
    rw [hl] at this
    exact this
  rw [e1] at hv
  obtain ⟨a, n, c, rfl, hn⟩ := hv.form
  have hn2 : n = 2 := by rw [hn, List.length_drop, hl]
  subst hn2
  obtain ⟨r, p, a2, c2, h1, rfl, _, _, x1, x2, _⟩ := hv.at_ (i := 0) (by rw [List.length_drop]; omega)
  obtain ⟨r', p', a2', c2', h1', e', _, _, y1, _⟩ := hv.at_ (i := 1) (by rw [List.length_drop]; omega)
  injection e' with e'
  injection e' with e'
  subst e'
  rw [List.getElem?_drop] at h1 h1'
  have q1 := hp.nu _ _ h1
  have q2 := hp.per _ _ h1
  have q3 := hp.nu _ _ h1'
  rw [q1] at x1
  rw [q2] at x2
  rw [q3] at y1
  exact ⟨r, c, rfl, x1, x2, y1, chain h.b hb⟩
set_option maxHeartbeats 4000000 in
theorem lives23_any (w : World) : Calls Tryz.prog 6 #[] w fun e w' => e = .returned (.bool true) ∧ Below w.heap.size w w' := by
  have hmk : ∀ w : World, (Instr.makeSlice 22 (.int .i64 512) (.int .i64 512)).run Tryz.prog w = .ok (.slice (some ⟨w.heap.size, 0, none⟩) 512 512) (w.alloc (.cells (madeCells #[.int .i16 0] 512) 77)) :=
    fun w => make_zeros (P := Tryz.prog) Tryz.underlying22 infoC_i16 512 (by decide) (by decide) w
  have HZ : RowKit.Hid (∀ w : World, IFun (w.alloc (.cells (madeCells #[.int .i16 0] 512) 77)) w.heap.size 77 .i16 512 (fun _ => 0) ∧ Below w.heap.size w (w.alloc (.cells (madeCells #[.int .i16 0] 512) 77))) := fun w => ⟨IFun.zeros w 77 .i16 512, Below.alloc_new w _⟩
  have HP := Lib.hid (fun W => plain23_any 3 W)
  have HN := Lib.hid (fun W => mtNew_any (plainC 3) W (plain_fit 4 3 8) (plain_right 4 3 8 (by decide) (by decide) (by decide)))
  generalize madeCells #[Value.int .i16 0] 512 = mc at hmk HZ
  go_enter Tryz.func6, Tryz.ntmps6
  go_wp2_with (first
    | (go_at_call 7; go_loud (refine (HP.out _).mono ?_); rintro e w1 ⟨rfl, hb⟩; have HB1 := Lib.hid hb; clear hb)
    | (go_at_call 8; go_loud (refine (HN.out _).mono ?_); rintro e w2 ⟨g, rfl, hm, hb⟩; have HM2 := Lib.hid (hm noX); have HB2 := Lib.hid (chain HB1.out hb); have HS2 : RowKit.Hid (w1.heap.size ≤ w2.heap.size) := hb.size; clear hm hb)
    | (go_at_call 10; go_loud (refine (mtStart_any 1 HM2.out HS2.out).mono ?_); rintro e w3 ⟨rfl, hm, hk⟩; go_loud (have HL3 : RowKit.Hid (LvSt23 w w1.heap.size g 0 w3) := ⟨mtF_below HB2.out HB1.out.size hk, ⟨HB1.out.size, Nat.le_trans HS2.out hk.size⟩, _, _, hm, rfl, PsOk.nil 3, fun _ => rfl⟩); clear hm hk)
    | fail)
  generalize w1.heap.size = B at HL3
  clear HB2 HM2 HS2 HN HP
  go_loopw [16] (fun i wr => ∃ k : Nat, k ≤ 5 ∧ i = .int .i64 (k : Int) ∧ RowKit.Hid (LvSt23 w B g k wr)) (fun i _ => 5 - (intOf i).toNat)
  case atStart => exact ⟨0, by omega, rfl, HL3.out⟩
  case round =>
    obtain ⟨k, hk, rfl, H⟩ := hrel
    clear HL3
    by_cases hlt : k < 5
    · have l1 : (k : Int) < 5 := by omega
      have HF := Lib.hid ((H.out.below (HZ.out wr).2).frame (by omega) (HZ.out wr).1 (fun i _ => (by decide)))
      clear H
      go_wp2_with (go_at_call 12; go_loud (refine HF.out.mono ?_); rintro e w5 ⟨⟨v, rfl⟩, h5⟩; have H5 := Lib.hid h5; clear h5)
      go_roundw
      case rel => exact ⟨k + 1, by omega, by go_num, H5.out⟩
      case measure => simp [intOf] <;> omega
    · obtain rfl : k = 5 := by omega
      have HF := Lib.hid H.out.burst
      clear H
      go_wp2_with (go_at_call 23; go_loud (refine HF.out.mono ?_); rintro e w5 ⟨r, c, rfl, x1, x2, x5, hb⟩; have H5 := Lib.hid hb; clear hb)
      go_ret
      exact ⟨rfl, H5.out⟩
end Go.Proofs.YtmgfkdmjgjlkjaaGreat

namespace Go.Proofs.YtmgfkdmjgjlkjaaGreat
open Go Go.RowKit
set_option linter.unusedVariables false
set_option linter.unusedSimpArgs false
def rfC (C : Nat) (va vl : Value) (Q B P : Int) (cv vh : Value) (R : Int) : Array Value := #[.slice (some ⟨C, 0, none⟩) 1025 1025, va, vl, .int .i64 Q, .int .i64 B, .int .i64 P, cv, vh, .int .i64 R]
end Go.Proofs.YtmgfkdmjgjlkjaaGreat

namespace Go.Proofs.YtmgfkdmjgjlkjaaGreat
open Go Go.RowKit
set_option linter.unusedVariables false
set_option linter.unusedSimpArgs false
def Typ (w : World) (b : Nat) (t : TypeId) : Prop := ∃ cs fr, w.heap[b]? = some (.cells cs t fr)
theorem Typ.lt {w : World} {b : Nat} {t : TypeId} (h : Typ w b t) : b < w.heap.size := by
  obtain ⟨cs, fr, h⟩ := h
  exact (Array.getElem?_eq_some_iff.1 h).1
theorem Typ.ne {w : World} {b b' : Nat} {t t' : TypeId} (h : Typ w b t) (h' : Typ w b' t') (hne : t ≠ t') : b ≠ b' := by
  rintro rfl
  obtain ⟨cs, fr, h⟩ := h
  obtain ⟨cs', fr', h'⟩ := h'
  rw [h] at h'
  injection h' with h'
  injection h' with _ e
  exact hne e
theorem Cel.typ {w : World} {b : Nat} {t : TypeId} {cs : Array Value} (h : Cel w b t cs) : Typ w b t := ⟨cs, (0, 0), h⟩
theorem Typ.keep {w w' : World} {b : Nat} {t : TypeId} (h : Typ w b t) (hk : w'.heap[b]? = w.heap[b]?) : Typ w' b t := by
  obtain ⟨cs, fr, h⟩ := h
  exact ⟨cs, fr, hk.trans h⟩
def NumAt (w : World) (b off n : Nat) (t : TypeId) (k : IntKind) (f : Nat → Int) : Prop := Typ w b t ∧ ∀ j, j < n → w.cell? ⟨b, off + j, none⟩ = some (.int k (f j))
theorem NumAt.keep {w w' : World} {b off n : Nat} {t : TypeId} {k : IntKind} {f : Nat → Int} (h : NumAt w b off n t k f) (hk : w'.heap[b]? = w.heap[b]?) : NumAt w' b off n t k f :=
  ⟨h.1.keep hk, fun j hj => (World.cell?_of_block (a := ⟨b, off + j, none⟩) hk).trans (h.2 j hj)⟩
theorem NumAt.below {w w' : World} {b off n : Nat} {t : TypeId} {k : IntKind} {f : Nat → Int} (h : NumAt w b off n t k f) (hb : Below w.heap.size w w') : NumAt w' b off n t k f := h.keep (hb.block b h.1.lt)
theorem NumAt.keeps {F : Nat → Prop} {w w' : World} {b off n : Nat} {t : TypeId} {k : IntKind} {f : Nat → Int} (h : NumAt w b off n t k f) (hk : Keeps F w w') (hn : ¬ F b) : NumAt w' b off n t k f := h.keep (hk.block b h.1.lt hn)
theorem NumAt.fn {w : World} {b off n : Nat} {t : TypeId} {k : IntKind} {f : Nat → Int} (h : NumAt w b off n t k f) : FnAt w w.heap.size k (some ⟨b, off, none⟩) n f := ⟨b, off, rfl, h.1.lt, h.2⟩
theorem NumAt.ints {w : World} {b off n : Nat} {t : TypeId} {k : IntKind} {f : Nat → Int} (h : NumAt w b off n t k f) (hn : n ≤ 9223372036854775807) : IntsAt w w.heap.size k (some ⟨b, off, none⟩) n (tabF n f) :=
  ⟨tabF_len _ _, .inr ⟨b, off, rfl, h.1.lt, hn, fun j hj => by rw [h.2 j hj, tabF_getD _ hj]⟩⟩
def AllAt (w : World) (va : Value) (al : Nat → Int) : Prop := ∃ b cap, va = .slice (some ⟨b, 0, none⟩) 640 cap ∧ 640 ≤ cap ∧ cap ≤ 9223372036854775807 ∧ NumAt w b 512 128 2 .i64 (fun j => al j * 16)
def LeftAt (w : World) (vl : Value) (left : Nat → Int) : Prop := ∃ b off, vl = .slice (some ⟨b, off, none⟩) 128 128 ∧ NumAt w b off 128 2 .i64 left
def HrAt (w : World) (vh : Value) : Option (Nat → Int) → Prop
  | none => vh = .slice none 0 0
  | some H => ∃ b cap, vh = .slice (some ⟨b, 0, none⟩) 512 cap ∧ NumAt w b 0 512 2 .i64 H
structure RefIn (w : World) (g C : Nat) (va vl vh : Value) (o : Option Nat) (Q : Int) (B : Nat) (S : S13) : Prop where
  e : Cel w g 70 (rfC C va vl Q B S.P (.slice (ahA o) (ahN o) (ahN o)) vh S.R)
  c : IFun w C 2 .i64 1025 cosN
  a : AllAt w va S.al
  l : LeftAt w vl S.left
  h : AhAt w S.fs o S.ah
  d : HrAt w vh S.hd
def RefAt (w : World) (g : Nat) (Q : Int) (B : Nat) (S : S13) : Prop := ∃ C va vl vh o, RefIn w g C va vl vh o Q B S
theorem RefAt.keeps {w w' : World} {g : Nat} {Q : Int} {B : Nat} {S : S13} {F : Nat → Prop} (h : RefAt w g Q B S) (hk : Keeps F w w')
    (hF : ∀ j, F j → ∃ t, Typ w j t ∧ t ≠ 70 ∧ t ≠ 2 ∧ t ≠ 3) : RefAt w' g Q B S := by
  obtain ⟨C, va, vl, vh, o, h⟩ := h
  have n1 : ∀ {j : Nat}, Typ w j 70 → ¬ F j := fun hc hf => by obtain ⟨t', c', x⟩ := hF _ hf; exact hc.ne c' x.1.symm rfl
  have n2 : ∀ {j : Nat}, Typ w j 2 → ¬ F j := fun hc hf => by obtain ⟨t', c', x⟩ := hF _ hf; exact hc.ne c' x.2.1.symm rfl
  have n3 : ∀ {j : Nat}, Typ w j 3 → ¬ F j := fun hc hf => by obtain ⟨t', c', x⟩ := hF _ hf; exact hc.ne c' x.2.2.symm rfl
  refine ⟨C, va, vl, vh, o, h.e.keeps hk (n1 (Cel.typ h.e)), Cel.keeps h.c hk (n2 (Cel.typ h.c)), ?_, ?_, h.h.keeps hk (fun r hr => n3 (Cel.typ hr)), ?_⟩
  · obtain ⟨b, cap, e1, e2, e3, e4⟩ := h.a
    exact ⟨b, cap, e1, e2, e3, e4.keeps hk (n2 e4.1)⟩
  · obtain ⟨b, off, e1, e4⟩ := h.l
    exact ⟨b, off, e1, e4.keeps hk (n2 e4.1)⟩
  · have hd := h.d
    cases hh : S.hd with
    | none => rw [hh] at hd; exact hd
    | some H => rw [hh] at hd; obtain ⟨b, cap, e1, e4⟩ := hd; exact ⟨b, cap, e1, e4.keeps hk (n2 e4.1)⟩
theorem RefAt.below {w w' : World} {g : Nat} {Q : Int} {B : Nat} {S : S13} (h : RefAt w g Q B S) (b : Below w.heap.size w w') : RefAt w' g Q B S := h.keeps (F := fun _ => False) (Keeps.of_below b) fun _ c => c.elim
theorem RefAt.drewN {w : World} {g : Nat} {Q : Int} {B : Nat} {S : S13} (h : RefAt w g Q B S) (n : Nat) : RefAt (w.drewN n) g Q B S := h.below (Below.drewN' (Below.refl _ _) n)
theorem RefAt.typ {w : World} {g : Nat} {Q : Int} {B : Nat} {S : S13} (h : RefAt w g Q B S) : ∃ cs, Cel w g 70 cs := by
  obtain ⟨C, va, vl, vh, o, h⟩ := h
  exact ⟨_, h.e⟩
end Go.Proofs.YtmgfkdmjgjlkjaaGreat

namespace Go.Proofs.YtmgfkdmjgjlkjaaGreat
open Go.RowKit
set_option linter.unusedVariables false
structure RefQ (w : World) (B base g r mg mr er : Nat) (S : EncS × List Int) (wr : World) : Prop where
  e : RefSt w B base g r S.1 wr
  m : RefMod wr w.heap.size mg mr S.2 false
  d : ∀ k, k < 22 → wr.cell? ⟨er, k, none⟩ = some (.int .i64 (edgeK k : Int))
  o : mg < er ∧ mr < er ∧ er < B ∧ w.heap.size ≤ mg ∧ w.heap.size ≤ mr ∧ g < w.heap.size ∧ r < w.heap.size
section
variable {w wr w' : World} {B base g r mg mr er : Nat} {S S' : EncS × List Int}
theorem RefQ.drewN (h : RefQ w B base g r mg mr er S wr) (n : Nat) : RefQ w B base g r mg mr er S (wr.drewN n) := by
  obtain ⟨r', c', h1, h2, h3⟩ := h.e
  exact ⟨⟨r', c', h1.drewN n, h2.drewN n, h3⟩, h.m.drewN n, h.d, h.o⟩
theorem RefQ.keep (h : RefQ w B base g r mg mr er S wr) : Keeps (fun j => j = g ∨ j = r) w wr := by
  obtain ⟨r', c', h1, h2, h3⟩ := h.e
  exact h2
theorem RefQ.sym (h : RefQ w B base g r mg mr er S wr) (hG : GoodE S.1) (hL : GoodL S.2) {s : Nat} (hs : s < S.2.length) (hk : S.1.k ≤ 800000) :
    Calls Tryz.prog 74 #[.pointer (some ⟨g, 0, none⟩), .pointer (some ⟨mg, 0, none⟩), .int .i64 s] wr fun e w' => e = .returned (.tuple #[]) ∧ RefQ w B base g r mg mr er (encSym S.1 S.2 s, learnP S.2 s) w' := by
  obtain ⟨r', c', h1, h2, h3⟩ := h.e
  have ho := h.o
  have hs2 := h2.size
  refine (refEncSymbol_any base w.heap.size g r' c' mg mr S.1 S.2 false s wr h1 h.m hG hL hs (by omega) (by omega) (by omega) (by omega) (by omega)).mono ?_
  rintro e w2 ⟨rfl, r2, c2, k1, km, k2, k3⟩
  refine ⟨rfl, RefSt.step h2 h3 k1 (k2.mono fun j hj => by omega) k3, km, fun k hk => ?_, ho⟩
  exact (World.cell?_of_block (a := ⟨er, k, none⟩) (k2.block er (by omega) (by omega))).trans (h.d k hk)
theorem RefQ.bits (h : RefQ w B base g r mg mr er S wr) (hG : GoodE S.1) {n : Int} {wide : Nat} (n0 : 0 ≤ n) (hw24 : wide ≤ 24) (hn : n < P2 wide) (hk : S.1.k ≤ 800000) :
    Calls Tryz.prog 36 #[.pointer (some ⟨g, 0, none⟩), .int .i64 n, .int .i64 wide] wr fun e w' => e = .returned (.tuple #[]) ∧ RefQ w B base g r mg mr er (encBits S.1 n wide, S.2) w' := by
  obtain ⟨r', c', h1, h2, h3⟩ := h.e
  have ho := h.o
  have hs2 := h2.size
  have hp : P2 wide ≤ 16777216 := by
    have := P2_mono (a := wide) (b := 24) hw24
    rw [show P2 24 = 16777216 by decide] at this
    exact this
  have hml := h.m.lt
  refine (refEncBits_any base g r' c' S.1 n wide wr h1 hG (by omega) hw24 n0 (by omega)).mono ?_
  rintro e w2 ⟨rfl, r2, c2, k1, k2, k3⟩
  refine ⟨rfl, RefSt.step h2 h3 k1 (k2.mono fun j hj => by omega) k3, h.m.keeps k2 (by omega) (by omega), fun k hk => ?_, ho⟩
  exact (World.cell?_of_block (a := ⟨er, k, none⟩) (k2.block er (by omega) (by omega))).trans (h.d k hk)
end
end Go.Proofs.YtmgfkdmjgjlkjaaGreat

namespace Go.Proofs.YtmgfkdmjgjlkjaaGreat
open Go.RowKit
set_option linter.unusedVariables false
structure GotL (w : World) (B base g mg mr er : Nat) (v : Value) (b : List Int) (S : DecS × List Int) (u : Value) (k : Nat) (V : Nat → Int) (wr : World) : Prop where
  d : DecMem wr base g v b S.1
  m : RefMod wr w.heap.size mg mr S.2 false
  e : ∀ j, j < 22 → wr.cell? ⟨er, j, none⟩ = some (.int .i64 (edgeK j : Int))
  i : wr.ownsRow B 2 1 u k ((tabF k V).map (Value.int .i64))
  k : Keeps (fun j => j = g) w wr
  o : mg < er ∧ mr < er ∧ er < B ∧ w.heap.size ≤ mg ∧ w.heap.size ≤ mr ∧ g < w.heap.size ∧ B ≤ wr.heap.size
  v : ∀ j, v.ownBlock = some j → j < w.heap.size
section
variable {w wr w' : World} {B base g mg mr er k : Nat} {v u : Value} {b : List Int} {S : DecS × List Int} {V : Nat → Int}
theorem GotL.drewN (h : GotL w B base g mg mr er v b S u k V wr) (n : Nat) : GotL w B base g mg mr er v b S u k V (wr.drewN n) :=
  ⟨h.d.drewN n, h.m.drewN n, h.e, own_drewN h.i n, h.k.drewN n, h.o, h.v⟩
theorem GotL.alloc (h : GotL w B base g mg mr er v b S u k V wr) (o : Obj) : GotL w B base g mg mr er v b S u k V (wr.alloc o) := by
  have hb := Below.alloc_new wr o
  have ho := h.o
  have hs := h.k.size
  exact ⟨h.d.below hb, h.m.below hb, fun j hj => (hb.cell (p := ⟨er, j, none⟩) (by show er < _; omega)).trans (h.e j hj), World.ownsRow.alloc h.i o, h.k.alloc o, by have := hb.size; omega, h.v⟩
theorem GotL.sym (h : GotL w B base g mg mr er v b S u k V wr) (hG : GoodD S.1) (hL : GoodL S.2) (hb : ∀ j, 0 ≤ byteF b j ∧ byteF b j ≤ 255) (hbl : b.length ≤ 1000000) (hi : S.1.i ≤ 5000000) :
    Calls Tryz.prog 113 #[.pointer (some ⟨g, 0, none⟩), .pointer (some ⟨mg, 0, none⟩)] wr fun e w' => e = .returned (.int .i64 (decWhich S.1 S.2)) ∧ GotL w B base g mg mr er v b (decSym b S.1 S.2, learnP S.2 (decWhich S.1 S.2)) u k V w' := by
  have ho := h.o
  have hs := h.k.size
  refine (refDecSymbol_any base w.heap.size g v b S.1 mg mr S.2 wr h.d hb hbl hi h.m hG hL (by omega) (by omega) (fun j hj => by have := h.v j hj; omega)).mono ?_
  rintro e w2 ⟨rfl, k1, km, k2⟩
  have hs2 := k2.size
  exact ⟨rfl, k1, km, fun j hj => (World.cell?_of_block (a := ⟨er, j, none⟩) (k2.block er (by omega) (by omega))).trans (h.e j hj), own_keeps h.i k2 (fun j hj => by have := own_base h.i j hj; omega), h.k.then_ k2 (fun j hj => by omega), by omega, h.v⟩
theorem GotL.bits (h : GotL w B base g mg mr er v b S u k V wr) (hG : GoodD S.1) (hb : ∀ j, 0 ≤ byteF b j ∧ byteF b j ≤ 255) (hbl : b.length ≤ 1000000) (hi : S.1.i ≤ 4000000) {n : Nat} (hn : n ≤ 24) :
    Calls Tryz.prog 79 #[.pointer (some ⟨g, 0, none⟩), .int .i64 (n : Int)] wr fun e w' => e = .returned (.int .i64 (decBits b S.1 0 n).1) ∧ GotL w B base g mg mr er v b ((decBits b S.1 0 n).2, S.2) u k V w' := by
  have ho := h.o
  have hs := h.k.size
  have hml := h.m.lt
  refine (refDecBits_any base g v b S.1 n wr h.d hb hbl hi hG hn).mono ?_
  rintro e w2 ⟨rfl, k1, k2⟩
  have hs2 := k2.size
  exact ⟨rfl, k1, h.m.keeps k2 (by omega) (by omega), fun j hj => (World.cell?_of_block (a := ⟨er, j, none⟩) (k2.block er (by omega) (by omega))).trans (h.e j hj), own_keeps h.i k2 (fun j hj => by have := own_base h.i j hj; omega), h.k.then_ k2 (fun j hj => by omega), by omega, h.v⟩
end
end Go.Proofs.YtmgfkdmjgjlkjaaGreat

namespace Go.Proofs.YtmgfkdmjgjlkjaaGreat
open Go Go.RowKit
set_option linter.unusedVariables false
set_option linter.unusedSimpArgs false
theorem Frm.Ok.len {F : Frm} (h : F.Ok) : F.bytes.length ≤ 600 := Nat.le_trans h.bytes_le h.b.2
end Go.Proofs.YtmgfkdmjgjlkjaaGreat
