/- The walks of the statements of layer 6: what may be, the example, no encoder. -/
import Derived.Test.YthoabpfcpkmhfaaRncJ
import Derived.Test.YthoabpfcpkmhfaaModF
import Derived.OwnWalk
namespace Go.Proofs.Ythoabpfcpkmhfaa
open Go.RowKit
set_option linter.unusedVariables false

theorem may06_yes (low own all : Int) (w : World) (h : OkP low own all) :
    Calls Try.prog 17 #[.agg #[.int .u32 low, .int .u32 own, .int .u32 all]] w fun e w' => e = .returned (.bool true) ∧ Below w.heap.size w w' := by
  obtain ⟨p1, p2, p3, p4, p5⟩ := h
  have HB := Lib.hid (Below.alloc_new w (.cells #[.int .u32 low, .int .u32 own, .int .u32 all] 40))
  have d1 : decide (1 ≤ all) = true := by simpa using p1
  have d2 : decide (all ≤ 8192) = true := by simpa using p2
  have d3 : decide (1 ≤ own) = true := by simpa using p3
  have d5 : decide (low + own ≤ all) = true := by simp; omega
  have q0 : low ≤ 8192 := by omega
  have q1 : own ≤ 8192 := by omega
  go_enter Try.func17, Try.ntmps17
  go_wp2
  go_ret
  exact ⟨rfl, HB.out⟩
theorem may06_no (low own all : Int) (w : World) (l0 : 0 ≤ low) (l1 : low ≤ 4294967295) (o0 : 0 ≤ own) (o1 : own ≤ 4294967295) (a0 : 0 ≤ all) (a1 : all ≤ 4294967295) (h : ¬ OkP low own all) :
    Calls Try.prog 17 #[.agg #[.int .u32 low, .int .u32 own, .int .u32 all]] w fun e w' => e = .returned (.bool false) ∧ Below w.heap.size w w' := by
  have HB := Lib.hid (Below.alloc_new w (.cells #[.int .u32 low, .int .u32 own, .int .u32 all] 40))
  by_cases p1 : 1 ≤ all
  · have d1 : decide (1 ≤ all) = true := by simpa using p1
    by_cases p2 : all ≤ 8192
    · have d2 : decide (all ≤ 8192) = true := by simpa using p2
      by_cases p3 : 1 ≤ own
      · have d3 : decide (1 ≤ own) = true := by simpa using p3
        have d5 : decide (low + own ≤ all) = false := by
          simp
          rcases Int.lt_or_le all (low + own) with h5 | h5
          · omega
          · exact absurd ⟨p1, p2, p3, l0, by omega⟩ h
        clear h
        go_enter Try.func17, Try.ntmps17
        go_wp2
        go_ret
        exact ⟨rfl, HB.out⟩
      · have d3 : decide (1 ≤ own) = false := by simpa using p3
        clear h
        go_enter Try.func17, Try.ntmps17
        go_wp2
        go_ret
        exact ⟨rfl, HB.out⟩
    · have d2 : decide (all ≤ 8192) = false := by simpa using p2
      clear h
      go_enter Try.func17, Try.ntmps17
      go_wp2
      go_ret
      exact ⟨rfl, HB.out⟩
  · have d1 : decide (1 ≤ all) = false := by simpa using p1
    clear h
    go_enter Try.func17, Try.ntmps17
    go_wp2
    go_ret
    exact ⟨rfl, HB.out⟩

theorem rncBits_at (base g : Nat) (v : Value) (e f : EncS) (n : Int) (wide : Nat) (i : Int) (w : World) (hi : i = wide) (hf : encBits e n wide = f) (hE : EncAt w base g v e) (hG : GoodE e) (n0 : 0 ≤ n) (n1 : n ≤ 4294967295) (hw : wide ≤ 24) (h : n < P2 wide) (hk : e.k ≤ 800000) :
    Calls Try.prog 14 #[.pointer (some ⟨g, 0, none⟩), .int .u32 n, .int .i64 i] w (PutPost base g v f (.int .i64 0) w) := by
  subst hi; subst hf; exact rncBits_any base g v e n wide w hE hG n0 n1 hw h hk
theorem rncBytes_at (base g : Nat) (v : Value) (e : EncS) (b : List Int) (w : World) (hE : EncAt w base g v e) (hk : e.k ≤ 900000) (hb : bytesL (digL e.n (e.k + 4)) = b) :
    Calls Try.prog 20 #[.pointer (some ⟨g, 0, none⟩)] w (BytesPost b w) := by
  subst hb; exact rncBytes_any base g v _ _ _ w hE hk

/-- The two encoders of the example. -/
def exA : EncS := ⟨0, 4294967040, 1⟩
def exB : EncS := ⟨549755781120, 4294967040, 1⟩
theorem exA_eq : encBits encNew 0 8 = exA := by kernel_rfl
theorem exB_eq : encBits encNew 128 8 = exB := by kernel_rfl
theorem exA_bytes : bytesL (digL exA.n (exA.k + 4)) = [] := by decide
theorem exB_bytes : bytesL (digL exB.n (exB.k + 4)) = [127, 255, 255, 128] := by decide

theorem enc_two {w w' : World} {b1 g1 b2 g2 : Nat} {v1 v2 : Value} {e1 e2 f : EncS} (h1 : EncAt w b1 g1 v1 e1) (h2 : EncAt w b2 g2 v2 e2) (hne : g1 ≠ g2) (ho1 : v1.ownBlock ≠ some g2) (ho2 : v2.ownBlock ≠ some g1) (ho : ∀ r, v1.ownBlock = some r → v2.ownBlock ≠ some r)
    (hk : Keeps (fun j => j = g1 ∨ v1.ownBlock = some j) w w') : EncAt w' b2 g2 v2 e2 :=
  h2.keeps hk (by rintro (c | c); exact hne c.symm; exact ho1 c) (by rintro r hr (c | c); exact ho2 (c ▸ hr); exact ho r c hr)
set_option maxHeartbeats 400000 in
set_option maxRecDepth 100000 in
theorem lives06_any (w : World) : Calls Try.prog 5 #[] w fun e w' => e = .returned (.bool true) ∧ Below w.heap.size w w' := by
  have HG := Lib.hid goodE_new
  have HA := Lib.hid exA_eq
  have HB := Lib.hid exB_eq
  have HBa := Lib.hid exA_bytes
  have HBb := Lib.hid exB_bytes
  have hq : ∀ (wx wy : World) (x y : Value) {g1 g2 : Nat}, (EncAt wx g1 g1 x exA ∧ EncAt wx g2 g2 y exB ∧ Below w.heap.size w wx) → Below wx.heap.size wx wy → EncAt wy g1 g1 x exA ∧ EncAt wy g2 g2 y exB ∧ Below w.heap.size w wy :=
    fun wx wy x y _ _ p q => ⟨p.1.below q, p.2.1.below q, p.2.2.trans (q.mono p.2.2.size)⟩
  have HQ := Lib.hid hq
  clear hq
  have hk0 : encNew.k ≤ 800000 := by decide
  have ha1 : exA.k ≤ 900000 := by decide
  have hb1 : exB.k ≤ 900000 := by decide
  go_enter Try.func5, Try.ntmps5
  go_wp2_with (first
    | (go_at_call 10; have hq := HN1.out; go_loud (refine (rncNew_any _).mono ?_); rintro e2 w2 ⟨rfl, hm, hb⟩; have HM2 := Lib.hid hm; have HM1 := Lib.hid (HN1.out.below hb); have HB2 := Lib.hid (HB1.out.trans (hb.mono HB1.out.size)); have hlt := HN1.out.lt.1; clear hm hb hq HN1)
    | (go_at_call 10; go_loud (refine (rncNew_any _).mono ?_); rintro e1 w1 ⟨rfl, hm, hb⟩; have HN1 := Lib.hid hm; have HB1 := Lib.hid hb; clear hm hb)
    | (go_at_call 14; have hq := HP1.out; go_loud (refine (rncBits_at w1.heap.size w1.heap.size (.slice none 0 0) encNew exB 128 8 _ _ (by rfl) HB.out HP2.out HG.out (by decide) (by decide) (by decide) (by decide) hk0).mono ?_); rintro e4 w4 ⟨rfl, v4, hm, hk, ho⟩; have hsz := HB2.out.size; have hs3 := HM2.out.lt.1; have HS := Lib.hid (show EncAt w4 w.heap.size w.heap.size v3 exA ∧ EncAt w4 w1.heap.size w1.heap.size v4 exB ∧ Below w.heap.size w w4 from ⟨HP1.out.keeps hk (by rintro (c | c); omega; cases c) (by rintro r hr (c | c); (rcases HO3.out r hr with h | h; cases h; omega); cases c), hm, HB3.out.trans (hk.below HB3.out.size (by rintro j (c | c); omega; cases c))⟩); clear hm hk ho hq HP1 HP2 HO3 HB3 HM1 HM2 HB2 HB1)
    | (go_at_call 20; go_loud (with_reducible refine (rncBytes_at w.heap.size w.heap.size v3 exA _ _ HS.out.1 ha1 HBa.out).mono ?_); rintro e5 w5 ⟨a5, c5, rfl, hI5, hb⟩; clear hI5; replace HS := Lib.hid (HQ.out _ _ v3 v4 HS.out hb); clear hb)
    | (go_at_call 20; go_loud (with_reducible refine (rncBytes_at w1.heap.size w1.heap.size v4 exB _ _ HS.out.2.1 hb1 HBb.out).mono ?_); rintro e5 w5 ⟨a5, c5, rfl, hI5, hb⟩; obtain ⟨b5, off5, rfl, _, _, hc5⟩ := hI5.at_ (j := 0) (by decide); have hd5 : w5.cell? ⟨b5, off5, none⟩ = some (.int .u8 127) := hc5; clear hI5 hc5; replace HS := Lib.hid (HQ.out _ _ v3 v4 HS.out hb); clear hb)
    | (go_at_call 14; go_loud (refine (rncBits_at w.heap.size w.heap.size (.slice none 0 0) encNew exA 0 8 _ _ (by rfl) HA.out HM1.out HG.out (by decide) (by decide) (by decide) (by decide) hk0).mono ?_); rintro e3 w3 ⟨rfl, v3, hm, hk, ho⟩; have HP1 := Lib.hid hm; have HO3 := Lib.hid ho; have HP2 := Lib.hid (HM2.out.keeps hk (by rintro (c | c); omega; cases c) (by rintro r c; cases c)); have HB3 := Lib.hid (HB2.out.trans (hk.below HB2.out.size (by rintro j (c | c); omega; cases c))); clear hm hk ho))
  go_ret
  exact ⟨rfl, HS.out.2.2⟩

theorem rangeencNil_law (n wide s : Int) (w0 : (Lit.int .u32 n).wf = true) (w1 : (Lit.int .i64 wide).wf = true) (w2 : (Lit.int .i64 s).wf = true) (w : World) :
    Calls Try.prog 4 #[.int .u32 n, .int .i64 wide, .int .i64 s] w fun e w' => e = .returned (.bool true) ∧ Below w.heap.size w w' := by
  have hB := Lib.hid (Below.refl w.heap.size w)
  have HG := Lib.hid (goodL_ones (n := 3) (by decide) (by decide))
  have hq : ∀ (wx wy : World) (g : Nat), (ModAt wx g (List.replicate 3 1) false ∧ Below w.heap.size w wx) → Below wx.heap.size wx wy → ModAt wy g (List.replicate 3 1) false ∧ Below w.heap.size w wy :=
    fun wx wy g p q => ⟨p.1.below q, p.2.trans (q.mono p.2.size)⟩
  have HQ := Lib.hid hq
  clear hq
  go_enter Try.func4, Try.ntmps4
  go_wp2_with (first
    | (go_at_call 5; refine (lives06_any _).mono ?_; rintro e w1 ⟨rfl, hb⟩; replace hB := Lib.hid (chain hB.out hb); clear hb)
    | (go_at_call 6; go_loud (refine (modNew_at 3 _ _ (by decide) (by decide) (by decide)).mono ?_); rintro e w2 ⟨g, rfl, hg, hm, hb⟩; have HS := Lib.hid (show ModAt w2 g (List.replicate 3 1) false ∧ Below w.heap.size w w2 from ⟨hm, hB.out.trans (hb.mono hB.out.size)⟩); clear hm hb hB)
    | (go_at_call 16; go_loud (refine (rncPut_nil _ _ _ _).mono ?_); rintro e w3 ⟨rfl, hb⟩; replace HS := Lib.hid (HQ.out _ _ _ HS.out hb); clear hb)
    | (go_at_call 14; refine (rncBits_nil _ _ _).mono ?_; rintro e w3 ⟨rfl, rfl⟩)
    | (go_at_call 19; refine (rncLen_nil _).mono ?_; rintro e w3 ⟨rfl, rfl⟩)
    | (go_at_call 20; refine (rncBytes_nil _).mono ?_; rintro e w3 ⟨rfl, rfl⟩)
    | (go_at_call 10; refine (rncNew_any _).mono ?_; rintro e w3 ⟨rfl, _, hb⟩; replace HS := Lib.hid (HQ.out _ _ _ HS.out hb); clear hb)
    | (go_at_call 12; (with_reducible refine (rncSymbol_nil g _ false s _ HS.out.1 HG.out).mono ?_); rintro e w3 ⟨rfl, hb⟩; replace HS := Lib.hid (HQ.out _ _ _ HS.out hb); clear hb)
    | (go_at_call 12; go_loud (with_reducible refine (rncSymbol_none _ s _).mono ?_); rintro e w3 ⟨rfl, hb⟩; replace HS := Lib.hid (HQ.out _ _ _ HS.out hb); clear hb))
  go_ret
  exact ⟨rfl, HS.out.2⟩
end Go.Proofs.Ythoabpfcpkmhfaa
