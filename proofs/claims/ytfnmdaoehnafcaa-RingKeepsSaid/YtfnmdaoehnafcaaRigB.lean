/- What a ring's Push gives. -/
import Derived.Test.YtfnmdaoehnafcaaRigA
import Derived.StillTailTactics
namespace Go.Proofs.Ytfnmdaoehnafcaa
open Go.RowKit
set_option linter.unusedVariables false
set_option linter.unusedSimpArgs false

theorem rgPush_nil (v : Value) (p : Pk) (a : Option Addr) (m c : Nat) (w : World) : Calls Try.prog 7 #[.pointer none, .agg (pkC p a m c)] w fun e w' => e = .returned (.int .i64 0) ∧ Below w.heap.size w w' := by
  unfold pkC
  have HB := Lib.hid (Below.alloc_new w (.cells #[.int .u32 p.ep, .int .u32 p.nu, .bool p.wh, .slice a m c] 32))
  go_enter Try.func7, Try.ntmps7
  go_wp2
  go_ret
  exact ⟨rfl, HB.out⟩
set_option maxRecDepth 100000 in
set_option maxHeartbeats 2000000 in
/-- One more is pushed. -/
theorem rgPush_any (g n : Nat) (ps : List Pk) (D : Nat → Prop) (p : Pk) (a : Option Addr) (c : Nat) (w : World) (h : RgAt w g n ps D) (hp : PlAt w (fun j => j ≠ g) a p.pl.length c p.pl) (hl : p.pl.length ≤ 1000000) (hN : ps.length ≤ 1000000) :
    Calls Try.prog 7 #[.pointer (some ⟨g, 0, none⟩), .agg (pkC p a p.pl.length c)] w fun e w' => e = .returned (.int .i64 ps.length) ∧ RgAt w' g n (ps ++ [p]) (fun j => D j ∨ w.heap.size ≤ j) ∧ Keeps (fun j => j = g) w w' := by
  have hgl := h.lt
  obtain ⟨n1, n2, hg, cs, hc, hr⟩ := h
  have HG := Lib.hid hg
  have HR := Lib.hid hr
  obtain ⟨m, hm⟩ : ∃ m, ps.length = m := ⟨_, rfl⟩
  have HM := Lib.hid hm
  have k0 : w.cell? ⟨g, 0, none⟩ = some (.int .i64 n) := by rw [hc.cell]; exact hr.room
  have k1 : w.cell? ⟨g, 1, none⟩ = some (.int .i64 m) := by rw [hc.cell, ← hm]; exact hr.next
  have f1 := hc.frozen 1
  have e1 : IntKind.i64.wrap ((m : Int) + 1) = (m : Int) + 1 := IntWalk.i64_in _ (by omega)
  have q0 : decide ((0 : Int) < (n : Int)) = true := by simp; omega
  rw [hm] at hN ⊢
  have HCp : RowKit.Hid (∀ W, Keeps (fun j => j = g) w W → Calls Try.prog 12 #[.agg (pkC p a p.pl.length c)] W fun e w' => ∃ a2 c2, e = .returned (.agg (pkC p a2 p.pl.length c2)) ∧ w'.ownsRow W.heap.size 5 1 (.slice a2 p.pl.length c2) p.pl.length (p.pl.map (Value.int .u8)) ∧ Below W.heap.size W w') :=
    fun W hW => rgCopied_any p a c W ((hp.keeps hW fun j e hj => hj e).weaken fun _ _ _ => trivial) hl
  obtain ⟨l, hl2⟩ : ∃ l, p.pl.length = l := ⟨_, rfl⟩
  have HL := Lib.hid hl2
  unfold pkC at HCp ⊢
  rw [hl2] at hl HCp ⊢
  obtain ⟨W2, hW2⟩ : ∃ W2, (w.setCell ⟨g, 1, none⟩ (.int .i64 ((m : Int) + 1))).alloc (.cells #[.int .u32 p.ep, .int .u32 p.nu, .bool p.wh, .slice a l c] 32) = W2 := ⟨_, rfl⟩
  have hk2 : Keeps (fun j => j = g) w W2 := by rw [← hW2]; exact (((Keeps.refl (fun j => j = g) w).setCell (p := ⟨g, 1, none⟩) (.inl rfl) _).alloc _)
  have hc2 : Cel W2 g 46 (cs.setIfInBounds 1 (.int .i64 ((m : Int) + 1))) := by rw [← hW2]; exact (hc.set_ 1 _).alloc _
  have HW2 := Lib.hid hW2
  have HK2 := Lib.hid hk2
  have HC2 := Lib.hid hc2
  have HP := Lib.hid hp
  have hm2 : m % n < n := Nat.mod_lt _ n1
  have HRm : RowKit.Hid (cs[0]? = some (.int .i64 n) ∧ cs.size = 1026) := ⟨hr.room, hr.size⟩
  obtain ⟨s, hs⟩ : ∃ s, m % n = s := ⟨_, rfl⟩
  have HS := Lib.hid hs
  rw [hs] at hm2
  clear hg hr hc hm hp hl2 hW2 hk2 hc2 hs
  go_enter Try.func7, Try.ntmps7
  go_wp2_with (go_at_call 12; rw [HW2.out]; go_loud (refine (HCp.out W2 HK2.out).mono ?_); rintro e w3 ⟨a2, c2, rfl, ho, hb⟩; have HO := Lib.hid ho; have HB3 := Lib.hid hb; have HK3 := Lib.hid (HK2.out.trans (.of_below hb)); have HC3 := Lib.hid (HC2.out.below hb); obtain ⟨W5, hW5⟩ : ∃ W5, w3.alloc (.cells #[.int .u32 p.ep, .int .u32 p.nu, .bool p.wh, .slice a2 l c2] 32) = W5 := ⟨_, rfl⟩; have HW5 := Lib.hid hW5; have hc5 := HC3.out.alloc (.cells #[.int .u32 p.ep, .int .u32 p.nu, .bool p.wh, .slice a2 l c2] 32); have hq5 := Cel.new w3 32 #[.int .u32 p.ep, .int .u32 p.nu, .bool p.wh, .slice a2 l c2]; have hb5 := Below.alloc_new w3 (.cells #[.int .u32 p.ep, .int .u32 p.nu, .bool p.wh, .slice a2 l c2] 32); rw [hW5] at hc5 hq5 hb5; have HC5 := Lib.hid hc5; have HQ5 := Lib.hid hq5; have HB5 := Lib.hid hb5; clear ho hb hc5 hq5 hb5 hW5)
  rw [HW5.out]
  have q2 : (s : Int) < 1024 := by omega
  have HSl : RowKit.Hid (Calls Try.prog 13 #[.pointer (some ⟨g, 0, none⟩), .int .i64 m] W5.drew fun e w' => e = .returned (.int .i64 s) ∧ w' = W5.drew) := by
    have kk : W5.cell? ⟨g, 0, none⟩ = some (.int .i64 n) := by rw [HC5.out.cell, Array.getElem?_setIfInBounds_ne (by omega)]; exact HRm.out.1
    have := rgSlot_any g n m W5.drew kk n1 n2 (by omega)
    rw [HS.out] at this
    exact this.mono fun _ _ h => ⟨h.1, h.2.symm⟩
  have kv : ∃ v, W5.cell? ⟨g, 2 + s, none⟩ = some v := by
    refine ⟨_, (HC5.out.cell _).trans (Array.getElem?_eq_getElem (by rw [Array.size_setIfInBounds, HRm.out.2]; omega))⟩
  obtain ⟨v0, kv⟩ := kv
  have kf := HC5.out.frozen (2 + s)
  go_still_tail 7, (by kernel_rfl)
  still_call HSl.out
  repeat still_step
  try refine wpStill_nil ?_
  change wpList _ _ _ _ _ W5.drew
  go_wp2
  go_ret
  obtain ⟨WF, hWF⟩ : ∃ WF, (W5.setCell ⟨g, 2 + s, none⟩ (.pointer (some ⟨w3.heap.size, 0, none⟩))).drew = WF := ⟨_, rfl⟩
  have k3F : Keeps (fun j => j = g) w3 WF := by rw [← hWF]; exact (((Keeps.of_below (F := fun j => j = g) HB5.out).setCell (p := ⟨g, 2 + s, none⟩) (.inl rfl) _).drewN 1)
  have kF := HK3.out.trans k3F
  have hcF : Cel WF g 46 ((cs.setIfInBounds 1 (.int .i64 ((m : Int) + 1))).setIfInBounds (2 + s) (.pointer (some ⟨w3.heap.size, 0, none⟩))) := by rw [← hWF]; exact (HC5.out.set_ (2 + s) _)
  have hs3 := HK3.out.size
  have hqF : Cel WF w3.heap.size 32 (pkC p a2 p.pl.length c2) := by rw [← hWF, HL.out]; exact HQ5.out.far (by simp; omega) _
  have hs2 := HK2.out.size
  have hpF : PlAt WF (fun j => w.heap.size ≤ j) a2 p.pl.length c2 p.pl := by
    have := (PlAt.own HO.out).keeps k3F fun j e hj => (by omega)
    rw [HL.out]
    exact this.weaken fun j hj _ => (by omega)
  rw [hWF]
  have hmore := HR.out.more n1 n2 HG.out kF hs3 hqF hpF
  rw [HM.out, HS.out] at hmore
  exact ⟨rfl, ⟨n1, n2, fun h => (by rcases h with h | h; exact HG.out h; omega), _, hcF, hmore⟩, kF⟩
end Go.Proofs.Ytfnmdaoehnafcaa
