/- Plain facts, and what functions give, for the proofs of this seat: several texts in one, each with its own first remark. -/
import Derived.Test.YtmgfkdmjgjlkjaaGreatAI

namespace Go.Proofs.YtmgfkdmjgjlkjaaGreat
open Go Go.RowKit
set_option linter.unusedVariables false
set_option linter.unusedSimpArgs false
set_option maxRecDepth 100000
set_option maxHeartbeats 2000000
section
variable {w w' : World} {B g r n cc : Nat} {eb : List Nat} {ev : Value} {a : Option Addr} {nu ep : Int} {X : Nat → Prop} {c : Cfg} {o : Option S13} {ps : List Pk} {T : List ByteArray} {S S' : S13} {ge ae se : Nat}
theorem MtIn.enc (h : MtIn w B g r [ge, ae, se] (.pointer (some ⟨ge, 0, none⟩)) a n cc nu X c ep (some S) ps T) (hk : Keeps (fun j => j = ge ∨ j = ae ∨ j = se) w w') (hc : CodAt w' ge ae se c.q c.b.toNat S') (hs : S'.Ok) :
    MtIn w' B g r [ge, ae, se] (.pointer (some ⟨ge, 0, none⟩)) a n cc nu X c ep (some S') ps T := by
  have hm : ∀ j, (j = ge ∨ j = ae ∨ j = se) → j ∈ [ge, ae, se] := by
    intro j hj
    simpa using hj
  obtain ⟨rs, hr1, hr2⟩ := h.cr.c
  refine ⟨h.ce.keeps hk fun hf => ?_, h.cr.keeps hk fun j hj => ⟨fun hd => hd.2.2.1 (hm j hj), fun e => ?_⟩, ⟨ge, ae, se, rfl, rfl, hc, hs⟩, h.ct.keeps hk fun j hj => ?_, h.n5, h.cz, h.cx, h.lo, fun S0 h0 => h.nn S rfl, h.ok⟩
  · obtain ⟨t, cs, hx, ht⟩ := h.ck.typ (hm g hf)
    exact h.ce.ne hx (by rcases ht with rfl | rfl | rfl <;> decide) rfl
  · subst e
    obtain ⟨t, cs, hx, ht⟩ := h.ck.typ (hm j hj)
    exact hr1.ne hx (by rcases ht with rfl | rfl | rfl <;> decide) rfl
  · obtain ⟨t, cs, hx, ht⟩ := h.ck.typ (hm j hj)
    exact ⟨t, hx.typ19, by rcases ht with rfl | rfl | rfl <;> decide⟩
theorem MtIn.pushed {p : Pk} (h : MtIn w B g r eb ev a n cc ps.length X c ep (some S) ps T) (hX : ∀ j, X j → j < w.heap.size) (hk : Keeps (fun j => j = r) w w') (hr : RgAt w' r c.r.toNat (ps ++ [p]) (fun j => Dm g r eb X j ∨ w.heap.size ≤ j)) :
    MtIn (w'.setCell ⟨g, 12, none⟩ (.int .u32 ((ps.length : Int) + 1))) B g r eb ev a n cc ((ps.length : Int) + 1) X c ep (some S) (ps ++ [p]) T := by
  obtain ⟨rs, hr1, hr2⟩ := h.cr.c
  have hgr := h.ne_r
  have K : Keeps (· = g) w' (w'.setCell ⟨g, 12, none⟩ (.int .u32 ((ps.length : Int) + 1))) := Keeps.set1 _
  have hce := h.ce.keeps hk (fun e => hgr e.symm)
  have ho : ∀ j, j = r → ∃ t cs, Cel w j t cs ∧ t ≠ 234 ∧ t ≠ 232 ∧ t ≠ 115 ∧ t ≠ 172 ∧ t ≠ 175 ∧ t ≠ 3 ∧ t ≠ 77 := by
    rintro j rfl
    exact ⟨_, _, hr1, by decide, by decide, by decide, by decide, by decide, by decide, by decide⟩
  have ho2 : ∀ j, j = g → ∃ t cs, Cel w' j t cs ∧ t ≠ 234 ∧ t ≠ 232 ∧ t ≠ 115 ∧ t ≠ 172 ∧ t ≠ 175 ∧ t ≠ 3 ∧ t ≠ 77 := by
    rintro j rfl
    exact ⟨_, _, hce, by decide, by decide, by decide, by decide, by decide, by decide, by decide⟩
  have ht1 : ∀ j, j = r → ∃ t, Typ19 w j t ∧ t ≠ 9 := by
    rintro j rfl
    exact ⟨_, hr1.typ19, by decide⟩
  have ht2 : ∀ j, j = g → ∃ t, Typ19 w' j t ∧ t ≠ 9 := by
    rintro j rfl
    exact ⟨_, hce.typ19, by decide⟩
  have hnew : ∀ j, w.heap.size ≤ j → Dm g r eb X j := by
    intro j hj
    refine ⟨fun e => ?_, fun e => ?_, fun e => ?_, fun e => ?_⟩
    · have := hr1.lt; omega
    · have := h.ce.lt; omega
    · obtain ⟨t, cs, hx, _⟩ := h.ck.typ e
      have := hx.lt
      omega
    · have := hX j e; omega
  have hw : RgAt w' r c.r.toNat (ps ++ [p]) (Dm g r eb X) := hr.weaken (fun j hj _ => hj.elim id (hnew j)) fun e => e.1 rfl
  exact ⟨hce.set_ 12 _, hw.keeps K (fun j hj => ⟨fun hd => hd.2.1 hj, fun e => hgr (e.symm.trans hj)⟩), (h.ck.keeps hk ho).keeps K ho2, (h.ct.keeps hk ht1).keeps K ht2, h.n5, h.cz, h.cx, h.lo, fun S0 h0 => by rw [List.length_append, List.length_singleton]; omega, h.ok⟩
theorem ints_stays {rr len : Nat} {zs : List Int} {F : Nat → Prop} (h : IntsAt w w.heap.size .u8 (some ⟨rr, 0, none⟩) len zs) (hk : Keeps F w w') (hF : ∀ j, F j → ∃ t cs v0, Cel w j t cs ∧ cs[0]? = some v0 ∧ ∀ x, v0 ≠ .int .u8 x) : IntsAt w' w'.heap.size .u8 (some ⟨rr, 0, none⟩) len zs := by
  refine (h.keeps hk (Nat.le_refl _) fun r' off e h0 _ hf => ?_).grow hk.size
  injection e with e
  injection e with e
  subst e
  obtain ⟨t, cs, v0, hc, h1, h2⟩ := hF _ hf
  exact ints_ne8 h h0 hc h1 h2 rfl
end
theorem mtFrame_len (g : Nat) (p : Option Addr) (len cap : Nat) (w : World) (hl : len ≤ 9223372036854775807) (h : len ≠ 512) : Calls Tryz.prog 12 #[.pointer (some ⟨g, 0, none⟩), .slice p len cap] w fun e w' => e = .returned (.tuple #[.agg (pkC pkN none 0 0), .int .i64 1]) ∧ Below w.heap.size w w' := by
  have HC := Lib.hid (Cel.new w 45 #[.int .u32 0, .int .u32 0, .bool false, .slice none 0 0])
  have HB := Lib.hid (Below.alloc_new w (.cells #[.int .u32 0, .int .u32 0, .bool false, .slice none 0 0] 45))
  have q : ((len : Int) != 512) = true := by simp; omega
  go_enter Tryz.func12, Tryz.ntmps12
  go_wp2
  refine bodyPost_ret (results21_2 rfl rfl rfl (run_loadVar_row _ w.heap.size _ _ _ (0, 0) _ HC.out Tryz.underlying45 rfl info21_pk)) rfl ?_
  exact ⟨rfl, HB.out⟩
def MtM (w : World) (B g : Nat) (M : List Nat) (X : Nat → Prop) (c : Cfg) (ep : Int) (o : Option S13) (ps : List Pk) (T : List ByteArray) : Prop := ∃ r eb ev a n cc nu, M = g :: r :: eb ∧ MtIn w B g r eb ev a n cc nu X c ep o ps T
def MtG (w : World) (B : Nat) (M : List Nat) (j : Nat) : Prop := MtF w B j ∧ j ∈ M
section
variable {w w' : World} {B g : Nat} {M : List Nat} {X Y F : Nat → Prop} {c : Cfg} {ep : Int} {o : Option S13} {ps : List Pk} {T : List ByteArray}
theorem MtM.at_ (h : MtM w B g M X c ep o ps T) : MtAt w B g X c ep o ps T := by
  obtain ⟨r, eb, ev, a, n, cc, nu, _, h⟩ := h
  exact ⟨r, eb, ev, a, n, cc, nu, h⟩
theorem MtAt.m (h : MtAt w B g X c ep o ps T) : ∃ M, MtM w B g M X c ep o ps T := by
  obtain ⟨r, eb, ev, a, n, cc, nu, h⟩ := h
  exact ⟨_, r, eb, ev, a, n, cc, nu, rfl, h⟩
theorem MtM.keeps (h : MtM w B g M X c ep o ps T) (hk : Keeps F w w') (hF : ∀ j, F j → MtO w X j) : MtM w' B g M X c ep o ps T := by
  obtain ⟨r, eb, ev, a, n, cc, nu, e, h⟩ := h
  exact ⟨r, eb, ev, a, n, cc, nu, e, h.keeps hk hF⟩
theorem MtM.below (h : MtM w B g M X c ep o ps T) (hb : Below w.heap.size w w') : MtM w' B g M X c ep o ps T := h.keeps (F := fun _ => False) (.of_below hb) fun _ c => c.elim
theorem MtM.weaken (h : MtM w B g M X c ep o ps T) (hX : ∀ j, j < w.heap.size → Y j → X j) : MtM w B g M Y c ep o ps T := by
  obtain ⟨r, eb, ev, a, n, cc, nu, e, h⟩ := h
  exact ⟨r, eb, ev, a, n, cc, nu, e, h.weaken hX⟩
theorem MtM.lt (h : MtM w B g M X c ep o ps T) : ∀ j, j ∈ M → j < w.heap.size := by
  obtain ⟨r, eb, ev, a, n, cc, nu, rfl, h⟩ := h
  intro j hj
  simp only [List.mem_cons] at hj
  rcases hj with rfl | rfl | hj
  · exact h.ce.lt
  · exact h.cr.lt
  · obtain ⟨t, cs, hx, _⟩ := h.ck.typ hj
    exact hx.lt
theorem MtG.out {j : Nat} (h : MtG w B M j) : MtF w B j := h.1
end
section
variable {w : World} {B g : Nat} {X : Nat → Prop} {c : Cfg} {ep : Int} {ps : List Pk} {T : List ByteArray}
theorem mtFrame_dead (h : MtAt w B g X c ep none ps T) (p : Option Addr) (cap : Nat) : Calls Tryz.prog 12 #[.pointer (some ⟨g, 0, none⟩), .slice p 512 cap] w fun e w' => e = .returned (.tuple #[.agg (pkC pkN none 0 0), .int .i64 8]) ∧ Below w.heap.size w w' := by
  have HC := Lib.hid (Cel.new w 45 #[.int .u32 0, .int .u32 0, .bool false, .slice none 0 0])
  have HB := Lib.hid (Below.alloc_new w (.cells #[.int .u32 0, .int .u32 0, .bool false, .slice none 0 0] 45))
  have HL := Lib.hid (mtLive_any (h.below HB.out))
  clear h
  go_enter Tryz.func12, Tryz.ntmps12
  go_wp2_with (go_at_call 18; go_loud (refine HL.out.mono ?_); rintro e w2 ⟨rfl, rfl⟩; try simp only [Option.isSome_none])
  refine bodyPost_ret (results21_2 rfl rfl rfl (run_loadVar_row _ w.heap.size _ _ _ (0, 0) _ HC.out Tryz.underlying45 rfl info21_pk)) rfl ?_
  exact ⟨rfl, HB.out⟩
theorem mt_cells {w : World} {g : Nat} {c : Cfg} {rv ev tv : Value} {ep nu : Int} (h : Cel w g 64 (mtC c rv ev ep nu tv)) :
    w.cell? ⟨g, 0, none⟩ = some (.string c.path) ∧ w.cell? ⟨g, 1, none⟩ = some (.string c.name) ∧ w.cell? ⟨g, 2, none⟩ = some (.string c.pass) ∧ w.cell? ⟨g, 3, none⟩ = some (.string c.fall) ∧ w.cell? ⟨g, 4, none⟩ = some (.int .i64 c.q) ∧ w.cell? ⟨g, 5, none⟩ = some (.int .i64 c.b) ∧ w.cell? ⟨g, 6, none⟩ = some (.int .i64 c.p) ∧ w.cell? ⟨g, 7, none⟩ = some (.int .i64 c.r) ∧ w.cell? ⟨g, 8, none⟩ = some (.int .i64 c.e) ∧
    w.cell? ⟨g, 9, none⟩ = some rv ∧ w.cell? ⟨g, 10, none⟩ = some ev ∧ w.cell? ⟨g, 11, none⟩ = some (.int .u32 ep) ∧ w.cell? ⟨g, 12, none⟩ = some (.int .u32 nu) ∧ w.cell? ⟨g, 13, none⟩ = some tv :=
  ⟨h.cell 0, h.cell 1, h.cell 2, h.cell 3, h.cell 4, h.cell 5, h.cell 6, h.cell 7, h.cell 8, h.cell 9, h.cell 10, h.cell 11, h.cell 12, h.cell 13⟩
def asksW (c : Cfg) (n : Nat) : Bool := decide (n % c.p.toNat = 0)
noncomputable def nextP (c : Cfg) (ep : Int) (S : S13) (n : Nat) (f : Nat → Int) : Pk := ⟨ep, n, asksW c n || S.fs, (S.F c.q c.b.toNat f (asksW c n)).bytes⟩
theorem nextP_len (c : Cfg) (h : c.Ok) (ep : Int) (S : S13) (n : Nat) (f : Nat → Int) : (nextP c ep S n f).pl.length ≤ 600 := by
  have hb := h.b
  have h1 := (S.F_ok (Q := c.q) (B := c.b.toNat) h.q (by omega) f (asksW c n)).bytes_le
  have h2 : (S.F c.q c.b.toNat f (asksW c n)).B = c.b.toNat := rfl
  show (S.F c.q c.b.toNat f (asksW c n)).bytes.length ≤ 600
  omega
set_option maxHeartbeats 4000000 in
theorem mtFrame_any {S : S13} {M : List Nat} (x : Nat) (f : Nat → Int) (h : MtM w B g M X c ep (some S) ps T) (hX : ∀ j, X j → j < w.heap.size) (hB : B ≤ w.heap.size) (hN : ps.length ≤ 1000) (hf : IFun w x 77 .i16 512 f) (hb : ∀ i, i < 512 → -32768 ≤ f i ∧ f i ≤ 32767) :
    Calls Tryz.prog 12 #[.pointer (some ⟨g, 0, none⟩), .slice (some ⟨x, 0, none⟩) 512 512] w fun e w' => ∃ rr cp, e = .returned (.tuple #[.agg (pkC (nextP c ep S ps.length f) (some ⟨rr, 0, none⟩) (nextP c ep S ps.length f).pl.length cp), .int .i64 0]) ∧
      IntsAt w' w'.heap.size .u8 (some ⟨rr, 0, none⟩) (nextP c ep S ps.length f).pl.length (nextP c ep S ps.length f).pl ∧ MtM w' B g M X c ep (some (S.next c.q c.b.toNat f ps.length (asksW c ps.length))) (ps ++ [nextP c ep S ps.length f]) T ∧ Keeps (MtG w B M) w w' := by
  have HB0 := Lib.hid (Below.alloc_new w (.cells #[.int .u32 0, .int .u32 0, .bool false, .slice none 0 0] 45))
  have HL := Lib.hid (mtLive_any (h.at_.below HB0.out))
  have hlen := nextP_len c h.at_.ok ep S ps.length f
  obtain ⟨r, eb, ev, a, n, cc, nu, rfl, h⟩ := h
  obtain rfl := h.nn S rfl
  obtain ⟨ge, ae, se, rfl, rfl, hk, hs⟩ := h.ck
  have H := Lib.hid h
  have HX := Lib.hid hX
  have HB := Lib.hid hB
  have HF := Lib.hid hf
  have HFb := Lib.hid hb
  have HS := Lib.hid hs
  have HOk := Lib.hid h.ok
  have HY : RowKit.Hid (MtIn w B g r [ge, ae, se] (.pointer (some ⟨ge, 0, none⟩)) a n cc ps.length (fun j => X j ∨ j = w.heap.size) c ep (some S) ps T) := h.weaken fun j hl hj => hj.elim id fun e => (by omega)
  obtain ⟨m, hm⟩ : ∃ m, ps.length = m := ⟨_, rfl⟩
  have HM := Lib.hid hm
  obtain ⟨p, hp⟩ : ∃ p, nextP c ep S m f = p := ⟨_, rfl⟩
  obtain ⟨wb, hwb⟩ : ∃ wb, asksW c m = wb := ⟨_, rfl⟩
  have HPs : RowKit.Hid (p.ep = ep ∧ p.nu = m ∧ (wb || S.fs) = p.wh ∧ (S.F c.q c.b.toNat f wb).bytes = p.pl) := by rw [← hp, ← hwb]; exact ⟨rfl, rfl, rfl, rfl⟩
  have HPl : RowKit.Hid (p.pl.length ≤ 600) := by rw [← hp, ← hm]; exact hlen
  have HW : RowKit.Hid (∀ W, Calls Tryz.prog 30 #[.agg c.vals, .int .u32 m] W fun e w' => e = .returned (.bool wb) ∧ Below W.heap.size W w') := Lib.hid fun W => by rw [← hwb]; exact wants_any c m W h.ok (by omega)
  have HNx : RowKit.Hid ((S.next c.q c.b.toNat f m wb).Ok) := S13.Ok.next c.q c.b.toNat hb m wb
  rw [hm, hp, hwb]
  rw [hm] at hN
  have hbt : RowKit.Hid (32 ≤ c.b.toNat ∧ c.b.toNat ≤ 600) := by have := h.ok.b; exact ⟨by omega, by omega⟩
  have m0 : (0 : Int) ≤ (m : Int) := by omega
  have m1 : (m : Int) ≤ 4294967295 := by omega
  clear hlen
  unfold Cfg.vals at HW
  clear h hX hB hf hb hk hs hm hp hwb
  go_enter Tryz.func12, Tryz.ntmps12
  go_wp2_with (go_at_call 18; go_loud (refine HL.out.mono ?_); rintro e w2 ⟨rfl, rfl⟩; try simp only [Option.isSome_some])
  have HK0 := Lib.hid (Cel.new w 45 #[.int .u32 0, .int .u32 0, .bool false, .slice none 0 0])
  have hs0 : (w.alloc (.cells #[.int .u32 0, .int .u32 0, .bool false, .slice none 0 0] 45)).heap.size = w.heap.size + 1 := World.size_alloc _ _
  have HS0 := Lib.hid hs0
  generalize w.alloc (.cells #[.int .u32 0, .int .u32 0, .bool false, .slice none 0 0] 45) = W0 at HB0 HK0 HS0 ⊢
  have HI0 := Lib.hid (HY.out.below HB0.out)
  obtain ⟨z0, z1, z2, z3, z4, z5, z6, z7, z8, z9, z10, z11, z12, z13⟩ := mt_cells HI0.out.ce
  rw [HM.out] at z12
  clear HL hs0 z9 z11 z13
  go_region_held3 (fun w' => w'.cell? ⟨g, 0, none⟩ = some (.string c.path) ∧ w'.cell? ⟨g, 1, none⟩ = some (.string c.name) ∧ w'.cell? ⟨g, 2, none⟩ = some (.string c.pass) ∧ w'.cell? ⟨g, 3, none⟩ = some (.string c.fall) ∧ w'.cell? ⟨g, 4, none⟩ = some (.int .i64 c.q) ∧ w'.cell? ⟨g, 5, none⟩ = some (.int .i64 c.b) ∧ w'.cell? ⟨g, 6, none⟩ = some (.int .i64 c.p) ∧ w'.cell? ⟨g, 7, none⟩ = some (.int .i64 c.r) ∧ w'.cell? ⟨g, 8, none⟩ = some (.int .i64 c.e) ∧ w'.cell? ⟨g, 10, none⟩ = some (.pointer (some ⟨ge, 0, none⟩)) ∧ w'.cell? ⟨g, 12, none⟩ = some (.int .u32 m)) (go_keep) (first
    | (go_at_call 30; go_loud (refine (HW.out _).mono ?_); go_loud (rintro e w3 ⟨rfl, hb⟩); go_loud (have HB3 : RowKit.Hid (Below W0.heap.size W0 w3) := chain (Below.drewN' (Below.refl _ _) 1) hb); clear hb; go_loud (have HI3 := Lib.hid (HI0.out.below HB3.out)); go_loud (obtain ⟨z0, z1, z2, z3, z4, z5, z6, z7, z8, z9, z10, z11, z12, z13⟩ := mt_cells HI3.out.ce); go_loud (rw [HM.out] at z12))
    | (go_at_call 29; go_loud (obtain ⟨ge', ae', se', e1, e2, hk, hs⟩ := HI3.out.ck); go_loud (have hk3 : CodAt w3 ge ae se c.q c.b.toNat S := (by injection e2 with q1 q2; injection q2 with q2 q3; injection q3 with q3; subst q1; subst q2; subst q3; exact hk)); clear e1 e2 hk hs; go_loud (refine (cEncode_any ge ae se x c.q c.b.toNat S f m wb _ hk3 HS.out HOk.out.q hbt.out (HF.out.below (chain HB0.out HB3.out) HF.out.lt) HFb.out m0 m1).mono ?_); go_loud (rintro e w4 ⟨rr, cp, rfl, i4, c4, k4⟩); go_loud (rw [HPs.out.2.2.2] at i4 ⊢); go_loud (rw [HPs.out.2.2.1]); go_loud (have HI4 := Lib.hid (HI3.out.enc k4 c4 HNx.out)); have HK4 := Lib.hid k4; have HI4i := Lib.hid i4; clear hk3 i4 c4 k4; go_loud (obtain ⟨z0, z1, z2, z3, z4, z5, z6, z7, z8, z9, z10, z11, z12, z13⟩ := mt_cells HI4.out.ce); go_loud (rw [HM.out] at z12))
    | fail)
  obtain ⟨l, hl⟩ : ∃ l, p.pl.length = l := ⟨_, rfl⟩
  have HLl := Lib.hid hl
  rw [hl] at HI4i HPl ⊢
  have hs4 : w4.heap.size ≠ g := Nat.ne_of_gt HI4.out.ce.lt
  clear hl z0 z1 z2 z3 z4 z5 z6 z7 z8 z9 z10 z11 z12 z13
  obtain ⟨_, _, _, _, _, _, _, _, _, y9, _, y11, y12, _⟩ := mt_cells HI4.out.ce
  rw [HM.out] at y12
  have x11 : (w4.alloc (.cells #[.int .u32 0, .int .u32 0, .bool false, .slice none 0 0] 45)).cell? ⟨g, 11, none⟩ = some (.int .u32 ep) := (HI4.out.ce.alloc _).cell 11
  have x12 : (w4.alloc (.cells #[.int .u32 0, .int .u32 0, .bool false, .slice none 0 0] 45)).cell? ⟨g, 12, none⟩ = some (.int .u32 m) := (by rw [← HM.out]; exact (HI4.out.ce.alloc _).cell 12)
  go_wp2
  go_region
  have HB5 : RowKit.Hid (Below w4.heap.size w4 (w4.alloc (.cells #[.int .u32 ep, .int .u32 m, .bool p.wh, .slice (some ⟨rr, 0, none⟩) l cp] 45)).drew) := Below.drewN' (Below.alloc_new _ _) 1
  have HQ5 : RowKit.Hid (Cel (w4.alloc (.cells #[.int .u32 ep, .int .u32 m, .bool p.wh, .slice (some ⟨rr, 0, none⟩) l cp] 45)).drew w4.heap.size 45 #[.int .u32 ep, .int .u32 m, .bool p.wh, .slice (some ⟨rr, 0, none⟩) l cp]) := Cel.new w4 _ _
  clear x11 x12 y9 y11 y12 hs4
  generalize (w4.alloc (.cells #[.int .u32 ep, .int .u32 m, .bool p.wh, .slice (some ⟨rr, 0, none⟩) l cp] 45)).drew = W5 at HB5 HQ5 ⊢
  have HSq : RowKit.Hid (w.heap.size < w4.heap.size) := by
    have h0 := HS0.out
    have h1 := HB3.out.size
    have h2 := HK4.out.size
    exact Lib.hid (by omega)
  generalize w4.heap.size = q at HQ5 HSq ⊢
  have HI5 := Lib.hid (HI4.out.below HB5.out)
  have HI5i := Lib.hid (HI4i.out.now HB5.out (Nat.le_refl _))
  have HPu : RowKit.Hid (∀ W, Below W5.heap.size W5 W → Calls Tryz.prog 31 #[.pointer (some ⟨r, 0, none⟩), .agg #[.int .u32 ep, .int .u32 m, .bool p.wh, .slice (some ⟨rr, 0, none⟩) l cp]] W fun e w' => e = .returned (.int .i64 m) ∧ RgAt w' r c.r.toNat (ps ++ [p]) (fun j => Dm g r [ge, ae, se] (fun j => X j ∨ j = w.heap.size) j ∨ W.heap.size ≤ j) ∧ Keeps (fun j => j = r) W w') := by
    refine Lib.hid fun W hb => ?_
    have hI := HI5.out.below hb
    obtain ⟨rs, hr1, hr2⟩ := hI.cr.c
    have hi := HI5i.out.now hb (Nat.le_refl _)
    have hp : PlAt W (fun j => j ≠ r) (some ⟨rr, 0, none⟩) p.pl.length cp p.pl := by
      rw [HLl.out]
      refine ⟨hi, fun e => (by cases e), fun r' off e h0 he => ?_⟩
      injection e with e
      injection e with e
      subst e
      have h2 := hr2.room
      exact ints_ne8 hi h0 hr1 h2 (by intro x e; injection e with e; cases e) he
    have := rgPush_any r c.r.toNat ps _ p (some ⟨rr, 0, none⟩) cp W hI.cr hp (by rw [HLl.out]; have := HPl.out; omega) (by rw [HM.out]; omega)
    unfold pkC at this
    rw [HLl.out, HPs.out.1, HPs.out.2.1, HM.out] at this
    exact this
  have x9 : W5.cell? ⟨g, 9, none⟩ = some (.pointer (some ⟨r, 0, none⟩)) := HI5.out.ce.cell 9
  obtain ⟨q0, q1, q2, q3⟩ := cel4 HQ5.out
  go_wp2
  go_region_held3 (fun w' => w'.cell? ⟨g, 9, none⟩ = some (.pointer (some ⟨r, 0, none⟩)) ∧ w'.cell? ⟨q, 0, none⟩ = some (.int .u32 ep) ∧ w'.cell? ⟨q, 1, none⟩ = some (.int .u32 m) ∧ w'.cell? ⟨q, 2, none⟩ = some (.bool p.wh) ∧ w'.cell? ⟨q, 3, none⟩ = some (.slice (some ⟨rr, 0, none⟩) l cp)) (go_keep) (first
    | (go_at_call 31; go_loud (refine (HPu.out _ (Below.drewN' (Below.refl _ _) 1)).mono ?_); go_loud (rintro e w6 ⟨rfl, hr, hk⟩); go_loud (have HK6 : RowKit.Hid (Keeps (fun j => j = r) W5 w6) := (Keeps.of_below (Below.drewN' (Below.refl _ _) 1)).trans hk); have HR6 := Lib.hid hr; clear hr hk; go_loud (have HE6 := Lib.hid (HI5.out.ce.keeps HK6.out (fun e => HI5.out.ne_r e.symm))); go_loud (have HQ6 : RowKit.Hid (Cel w6 q 45 #[.int .u32 ep, .int .u32 m, .bool p.wh, .slice (some ⟨rr, 0, none⟩) l cp]) := HQ5.out.keeps HK6.out (by obtain ⟨rs, hr1, hr2⟩ := HI5.out.cr.c; exact HQ5.out.ne hr1 (by decide))); go_loud (have x9 : w6.cell? ⟨g, 9, none⟩ = some (.pointer (some ⟨r, 0, none⟩)) := (HE6.out.cell 9)); go_loud (obtain ⟨q0, q1, q2, q3⟩ := cel4 HQ6.out))
    | fail)
  have HI6 : RowKit.Hid (MtIn (w6.setCell ⟨g, 12, none⟩ (.int .u32 ((m : Int) + 1))) B g r [ge, ae, se] (.pointer (some ⟨ge, 0, none⟩)) a n cc ((m : Int) + 1) (fun j => X j ∨ j = w.heap.size) c ep (some (S.next c.q c.b.toNat f m wb)) (ps ++ [p]) T) := by
    have hX2 : ∀ j, (X j ∨ j = w.heap.size) → j < W5.heap.size := by
      intro j hj
      have h0 := HS0.out
      have h1 := HB3.out.size
      have h2 := HK4.out.size
      have h3 := HB5.out.size
      rcases hj with hj | hj
      · have := HX.out j hj
        omega
      · omega
    have := HI5.out.pushed hX2 HK6.out (p := p) HR6.out
    rw [HM.out] at this
    exact this
  have x12 : w6.cell? ⟨g, 12, none⟩ = some (.int .u32 m) := by rw [← HM.out]; exact HE6.out.cell 12
  have f12 := HE6.out.frozen 12
  have e12 : IntKind.u32.wrap ((m : Int) + 1) = (m : Int) + 1 := by show ((m : Int) + 1) % 4294967296 = _; omega
  have HK3 := Lib.hid (HK0.out.below HB3.out)
  have HK5 : RowKit.Hid (Cel W5 w.heap.size 45 #[.int .u32 0, .int .u32 0, .bool false, .slice none 0 0]) := by
    refine Lib.hid ((HK3.out.keeps HK4.out fun hj => ?_).below HB5.out)
    obtain ⟨t, cs, hx, ht⟩ := HI3.out.ck.typ (j := w.heap.size) (by simpa using hj)
    exact HK3.out.ne hx (by rcases ht with rfl | rfl | rfl <;> decide) rfl
  have HK6k : RowKit.Hid (Cel w6 w.heap.size 45 #[.int .u32 0, .int .u32 0, .bool false, .slice none 0 0]) := by
    obtain ⟨rs, hr1, hr2⟩ := HI5.out.cr.c
    exact HK5.out.keeps HK6.out (HK5.out.ne hr1 (by decide))
  have HKs : RowKit.Hid (Keeps (MtG w B [g, r, ge, ae, se]) w W5) := by
    refine Lib.hid (((Keeps.of_below (chain HB0.out HB3.out)).then_ HK4.out fun j hj => .inl ⟨H.out.f_e (by simpa using hj), by rcases hj with rfl | rfl | rfl <;> simp⟩).trans (Keeps.of_below HB5.out))
  obtain ⟨k0, hk0⟩ : ∃ k0, w.heap.size = k0 := ⟨_, rfl⟩
  have HK0n := Lib.hid hk0
  rw [hk0] at HK6k HK5 HI6 HSq ⊢
  have hgq : g ≠ q := HE6.out.ne HQ6.out (by decide)
  have hqg : q ≠ g := fun e => hgq e.symm
  have hgk : g ≠ k0 := HE6.out.ne HK6k.out (by decide)
  have hkg : k0 ≠ g := fun e => hgk e.symm
  have hqk : q ≠ k0 := Nat.ne_of_gt HSq.out
  obtain ⟨k00, k01, k02, k03⟩ := cel4 HK6k.out
  obtain ⟨g00, g01, g02, g03⟩ := frz4 HK6k.out
  have HK7 := Lib.hid (HK6k.out.far (p := ⟨g, 12, none⟩) hkg (.int .u32 ((m : Int) + 1)))
  clear x9 hk0 hN m0 m1
  go_wp2
  refine bodyPost_ret (results21_2 rfl rfl rfl (run_loadVar_row _ k0 _ _ _ (0, 0) _ (cel_set4 HK7.out rfl _ _ _ _) Tryz.underlying45 rfl info21_pk)) rfl ?_
  obtain ⟨W7, hW7⟩ : ∃ W7, w6.setCell ⟨g, 12, none⟩ (.int .u32 ((m : Int) + 1)) = W7 := ⟨_, rfl⟩
  have K7 : Keeps (· = g) w6 W7 := by rw [← hW7]; exact Keeps.set1 _
  have hI7 := HI6.out
  have hk7 := HK7.out
  rw [hW7] at hI7 hk7 ⊢
  have K8 : Keeps (· = k0) W7 ((((W7.setCell ⟨k0, 0, none⟩ (.int .u32 ep)).setCell ⟨k0, 1, none⟩ (.int .u32 m)).setCell ⟨k0, 2, none⟩ (.bool p.wh)).setCell ⟨k0, 3, none⟩ (.slice (some ⟨rr, 0, none⟩) l cp)) := (((Keeps.set1 _).trans (Keeps.set1 _)).trans (Keeps.set1 _)).trans (Keeps.set1 _)
  have hk := HK0n.out
  have hall : Keeps (fun j => j = r ∨ j = g ∨ j = k0) W5 _ := ((HK6.out.mono fun j hj => .inl hj).trans (K7.mono fun j hj => .inr (.inl hj))).trans (K8.mono fun j hj => .inr (.inr hj))
  have hst := ints_stays HI5i.out hall (by
    rintro j (rfl | rfl | rfl)
    · obtain ⟨rs, hr1, hr2⟩ := HI5.out.cr.c
      exact ⟨_, _, _, hr1, hr2.room, by intro x e; injection e with e; cases e⟩
    · exact ⟨_, _, _, HI5.out.ce, rfl, by intro x e; cases e⟩
    · exact ⟨_, _, _, HK5.out, rfl, by intro x e; injection e with e; cases e⟩)
  have hmt := hI7.keeps K8 (by
    rintro j rfl
    exact ⟨.inr rfl, _, _, hk7, by decide, by decide, by decide, by decide, by decide, by decide, by decide, by decide, by decide⟩)
  refine ⟨rr, cp, ?_, ?_, ⟨r, [ge, ae, se], _, a, n, cc, _, rfl, hmt.weaken fun j _ hj => .inl hj⟩, ?_⟩
  · unfold pkC
    rw [HPs.out.1, HPs.out.2.1, HLl.out]
    rfl
  · rw [HLl.out]
    exact hst
  · have k1 := HKs.out.then_ hall (fun j hj => by
      rcases hj with rfl | rfl | rfl
      · exact .inl ⟨H.out.f_r, by simp⟩
      · exact .inl ⟨H.out.f_g, by simp⟩
      · exact .inr (by omega))
    exact k1
end
end Go.Proofs.YtmgfkdmjgjlkjaaGreat
