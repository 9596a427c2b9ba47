/- The small functions of layer 21's laws, by the contracts of what they call. -/
import Derived.Test.YtfnmdaoehnafcaaRigB
import Derived.Test.YtfnmdaoehnafcaaRigC
import Derived.Test.YtfnmdaoehnafcaaRigD
namespace Go.Proofs.Ytfnmdaoehnafcaa
open Go.RowKit
set_option linter.unusedVariables false
set_option linter.unusedSimpArgs false

theorem lawSame21_any (p : Pk) (a1 a2 : Option Addr) (c1 c2 : Nat) (w : World) (h1 : IntsAt w w.heap.size .u8 a1 p.pl.length p.pl) (h2 : IntsAt w w.heap.size .u8 a2 p.pl.length p.pl) :
    Calls Try.prog 9 #[.agg (pkC p a1 p.pl.length c1), .agg (pkC p a2 p.pl.length c2)] w fun e w' => e = .returned (.bool true) ∧ Below w.heap.size w w' := by
  unfold pkC
  obtain ⟨ep, nu, wh, pl⟩ := p
  simp only at h1 h2 ⊢
  obtain ⟨m, hm⟩ : ∃ m, pl.length = m := ⟨_, rfl⟩
  rw [hm] at h1 h2 ⊢
  have HB : RowKit.Hid (Below w.heap.size w ((w.alloc (.cells #[.int .u32 ep, .int .u32 nu, .bool wh, .slice a1 m c1] 32)).alloc (.cells #[.int .u32 ep, .int .u32 nu, .bool wh, .slice a2 m c2] 32))) := ((Below.refl _ w).alloc (Nat.le_refl _) _).alloc (by simp) _
  have q1 := string_of_ints (P := Try.prog) (src := 30) (dst := 9) (e := 5) (c := c1) Try.underlying30 Try.underlying5 Try.underlying9 (h1.below HB.out)
  have q2 := string_of_ints (P := Try.prog) (src := 30) (dst := 9) (e := 5) (c := c2) Try.underlying30 Try.underlying5 Try.underlying9 (h2.below HB.out)
  generalize textOf pl = T at q1 q2
  clear h1 h2 hm
  go_enter Try.func9, Try.ntmps9
  go_wp2
  go_ret
  exact ⟨rfl, HB.out⟩
/-! ### The chapter's example -/
def pkW : Pk := ⟨0, 0, true, []⟩
theorem plNil (w : World) (D : Nat → Prop) : PlAt w D none 0 0 [] := ⟨⟨rfl, .inl rfl⟩, fun _ => rfl, fun _ _ e => by cases e⟩
/-- What is held of the example's ring. -/
structure LvSt (w : World) (g : Nat) (ps : List Pk) (wr : World) : Prop where
  b : Below w.heap.size w wr
  r : RgAt wr g 2 ps (fun j => j ≠ g)
  g1 : w.heap.size ≤ g
theorem LvSt.push {w wr w' : World} {g : Nat} {ps qs : List Pk} {D : Nat → Prop} (h : LvSt w g ps wr) (hr : RgAt w' g 2 qs D) (hk : Keeps (fun j => j = g) wr w') : LvSt w g qs w' :=
  ⟨h.b.trans ((hk.below h.b.size fun j e => e ▸ h.g1)), hr.weaken (fun j hj _ e => hr.dg (e ▸ hj)) (fun e => e rfl), h.g1⟩
theorem LvSt.drewN {w wr : World} {g : Nat} {ps : List Pk} (h : LvSt w g ps wr) (k : Nat) : LvSt w g ps (wr.drewN k) :=
  ⟨Below.drewN' h.b k, h.r.below (Below.drewN' (Below.refl _ _) k), h.g1⟩
theorem LvSt.pushed {w wr : World} {g : Nat} {ps : List Pk} (h : LvSt w g ps wr) (hN : ps.length ≤ 1000) (p : Pk) (hp : p.pl = []) :
    Calls Try.prog 7 #[.pointer (some ⟨g, 0, none⟩), .agg #[.int .u32 p.ep, .int .u32 p.nu, .bool p.wh, .slice none 0 0]] wr fun e w' => (∃ x, e = .returned x) ∧ LvSt w g (ps ++ [p]) w' := by
  have := rgPush_any g 2 ps _ p none 0 wr h.r (by rw [hp]; exact plNil _ _) (by rw [hp]; decide) (by omega)
  unfold pkC at this
  rw [hp] at this
  refine this.mono ?_
  rintro e w' ⟨rfl, hr, hk⟩
  exact ⟨⟨_, rfl⟩, h.push hr hk⟩
set_option maxRecDepth 100000 in
set_option maxHeartbeats 2000000 in
theorem lives21_any (w : World) : Calls Try.prog 5 #[] w fun e w' => e = .returned (.bool true) ∧ Below w.heap.size w w' := by
  have j1 : RowKit.Hid (∀ g wr, LvSt w g [pkW, pkN] wr → Calls Try.prog 11 #[.pointer (some ⟨g, 0, none⟩)] wr fun e w' => e = .returned (.tuple #[.int .i64 0, .bool true]) ∧ LvSt w g [pkW, pkN] w') := by
    intro g wr h
    refine (rgJoin_any g 2 _ _ wr h.r (by decide)).mono ?_
    rintro e w' ⟨rfl, k, rfl⟩
    exact ⟨by rfl, h.drewN k⟩
  have j2 : RowKit.Hid (∀ g wr, LvSt w g [pkW, pkN, pkN] wr → Calls Try.prog 11 #[.pointer (some ⟨g, 0, none⟩)] wr fun e w' => e = .returned (.tuple #[.int .i64 0, .bool false]) ∧ Below w.heap.size w w') := by
    intro g wr h
    refine (rgJoin_any g 2 _ _ wr h.r (by decide)).mono ?_
    rintro e w' ⟨rfl, k, rfl⟩
    exact ⟨by rfl, (h.drewN k).b⟩
  have HN := Lib.hid (rgNew_any 2 w (by decide) (by decide))
  go_enter Try.func5, Try.ntmps5
  go_wp2_with (first
    | (go_at_call 6; refine HN.out.mono ?_; rintro e w2 ⟨g, rfl, hg, hr, hb⟩; have H1 : RowKit.Hid (LvSt w g [] w2) := ⟨hb, hr.weaken (fun j hj => hj.elim) (fun e => e rfl), hg⟩; clear hg hr hb)
    | (go_at_call 7; refine (H1.out.pushed (by decide) pkW rfl).mono ?_; rintro e w3 ⟨⟨x3, rfl⟩, h⟩; have H2 := Lib.hid h; clear h H1)
    | (go_at_call 7; refine (H2.out.pushed (by decide) pkN rfl).mono ?_; rintro e w4 ⟨⟨x4, rfl⟩, h⟩; have H3 := Lib.hid h; clear h H2)
    | (go_at_call 11; refine (j1.out g _ H3.out).mono ?_; rintro e w5 ⟨rfl, h⟩; have H4 := Lib.hid h; clear h H3 j1)
    | (go_at_call 7; refine (H4.out.pushed (by decide) pkN rfl).mono ?_; rintro e w6 ⟨⟨x6, rfl⟩, h⟩; have H5 := Lib.hid h; clear h H4)
    | (go_at_call 11; refine (j2.out g _ H5.out).mono ?_; rintro e w7 ⟨rfl, h⟩; have H6 := Lib.hid h; clear h H5)
    | fail)
  go_ret
  exact ⟨rfl, H6.out⟩
end Go.Proofs.Ytfnmdaoehnafcaa
