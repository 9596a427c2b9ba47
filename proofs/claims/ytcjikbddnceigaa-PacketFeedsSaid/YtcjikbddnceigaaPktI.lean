/- What the document's Parse gives where the bytes are all there. -/
import Derived.Test.YtcjikbddnceigaaPktH
namespace Go.Proofs.Ytcjikbddnceigaa
open Go.RowKit
set_option linter.unusedVariables false
set_option linter.unusedSimpArgs false

/-- The packet, its payload where it lies. -/
def refPV (P : Pk) (z : Nat) (r off cap : Nat) : Value := .agg #[.int .u32 P.ep, .int .u32 P.nu, .bool P.wh, .slice (some ⟨r, off + 13, none⟩) z (cap - 13)]
/-- Where the comparing stands. -/
structure LtSt (w : World) (r off n cap : Nat) (b : List Int) (g4 o4 m4 c4 : Nat) (BB : List Int) (ep nu : Int) (wx : Bool) (z k : Nat) (wr : World) : Prop where
  hb : Below w.heap.size w wr
  hc : Cel wr w.heap.size 33 #[.int .u32 0, .int .u32 0, .bool false, .slice none 0 0]
  hp : Cel wr (w.heap.size + 1) 33 #[.int .u32 ep, .int .u32 nu, .bool wx, .slice (some ⟨r, off + 13, none⟩) z (cap - 13)]
  ha : ByL wr (some ⟨g4, o4, none⟩) m4 c4 BB
  hr : ByL wr (some ⟨r, off, none⟩) n cap b
  ag : ∀ i, i < k → BB.getD i 0 = b.getD i 0
section
variable {w wr : World} {r off n cap g4 o4 m4 c4 z k : Nat} {b BB : List Int} {ep nu : Int} {wx : Bool}
theorem LtSt.drewN (h : LtSt w r off n cap b g4 o4 m4 c4 BB ep nu wx z k wr) (q : Nat) : LtSt w r off n cap b g4 o4 m4 c4 BB ep nu wx z k (wr.drewN q) := ⟨Below.drewN' h.hb q, h.hc, h.hp, h.ha.drewN q, h.hr.drewN q, h.ag⟩
theorem LtSt.next (h : LtSt w r off n cap b g4 o4 m4 c4 BB ep nu wx z k wr) (c : BB.getD k 0 = b.getD k 0) : LtSt w r off n cap b g4 o4 m4 c4 BB ep nu wx z (k + 1) wr :=
  ⟨h.hb, h.hc, h.hp, h.ha, h.hr, fun i hi => by
    by_cases e : i = k
    · subst e; exact c
    · exact h.ag i (by omega)⟩
end
set_option maxRecDepth 100000 in
set_option maxHeartbeats 4000000 in
theorem refParse_late (r off n cap : Nat) (b : List Int) (w : World) (h : ByL w (some ⟨r, off, none⟩) n cap b) (hn2 : n ≤ 1000000) (hf : formP b = true) (hn : 13 ≤ n) (hz : lenP b ≤ 600) (hq : 17 + lenP b ≤ n) :
    Calls Try.prog 12 #[.slice (some ⟨r, off, none⟩) n cap] w fun e w' => ((prsE b = 0 ∧ e = .returned (.tuple #[refPV (pkOf b) (lenP b) r off cap, .int .i64 ((17 + lenP b : Nat) : Int), .int .i64 0])) ∨ (prsE b = 4 ∧ e = .returned (.tuple #[pkZ, .int .i64 0, .int .i64 4]))) ∧ Below w.heap.size w w' := by
  have hl := h.len
  have hc := h.hc
  have hm := h.hm
  have HB := Lib.hid (Below.alloc_new w (.cells #[.int .u32 0, .int .u32 0, .bool false, .slice none 0 0] 33))
  have HC := Lib.hid (Cel.new w 33 #[.int .u32 0, .int .u32 0, .bool false, .slice none 0 0])
  have W : RowKit.Hid (∀ j, j < n → (w.alloc (.cells #[.int .u32 0, .int .u32 0, .bool false, .slice none 0 0] 33)).cell? ⟨r, off + j, none⟩ = some (.int .u8 (b.getD j 0))) := fun j hj => (h.below HB.out).cell hj
  have HH := Lib.hid h
  have CL := Lib.hid (refValue_any (some ⟨r, off + 11, none⟩) 2 (cap - 11) ((b.drop 11).take 2) (w.alloc (.cells #[.int .u32 0, .int .u32 0, .bool false, .slice none 0 0] 33)) ((h.below HB.out).sub 11 2 (by omega)).hi ((h.hb.drop _).take _) (by omega))
  obtain ⟨e1, e2⟩ := lenP_bd h.hb
  have k0 := W.out 0 (by omega)
  have k1 := W.out 1 (by omega)
  have k2 := W.out 2 (by omega)
  obtain ⟨g0, g1, g2, g3⟩ := form_three h.hb hf (by omega)
  rw [Nat.add_zero, g0] at k0
  rw [g1] at k1
  obtain ⟨x, hx⟩ : ∃ x, b.getD 2 0 = x := ⟨_, rfl⟩
  rw [hx] at k2 g3
  have q : decide (1 < x) = false := by simp; omega
  obtain ⟨z, hzz⟩ : ∃ z, lenP b = z := ⟨_, rfl⟩
  rw [← e1, hzz] at CL
  rw [hzz] at e2 hz hq
  have HF : RowKit.Hid (formP b = true ∧ lenP b = z ∧ b.getD 2 0 = x ∧ b.length = n) := ⟨hf, hzz, hx, hl⟩
  have CE := Lib.hid (fun W (hb : Below w.heap.size w W) => refValue_any (some ⟨r, off + 3, none⟩) 4 (cap - 3) ((b.drop 3).take 4) W ((h.below hb).sub 3 4 (by omega)).hi ((h.hb.drop _).take _) (by omega))
  have CU := Lib.hid (fun W (hb : Below w.heap.size w W) => refValue_any (some ⟨r, off + 7, none⟩) 4 (cap - 7) ((b.drop 7).take 4) W ((h.below hb).sub 7 4 (by omega)).hi ((h.hb.drop _).take _) (by omega))
  have hrB := cell_block k2
  have hr0 := cell_block (h.cell (j := 2) (by omega))
  simp only at hr0
  have HP := Lib.hid (pkOf_ok h.hb)
  have hpl : (pkOf b).pl.length = z := by show ((b.drop 13).take (lenP b)).length = z; rw [hzz]; simp; omega
  have EP : RowKit.Hid ((pkOf b).ep = valL19 ((b.drop 3).take 4) ∧ (pkOf b).nu = valL19 ((b.drop 7).take 4) ∧ (pkOf b).wh = (x == 1) ∧ (pkOf b).pl.length = z) := ⟨rfl, rfl, by rw [← hx]; rfl, hpl⟩
  have CB := Lib.hid (fun W (hb : Below w.heap.size w W) => refBytes_any (pkOf b) (some ⟨r, off + 13, none⟩) (cap - 13) W (pkOf_ok h.hb) (by
    have := ((h.below hb).sub 13 z (by omega)).hi
    have e : (pkOf b).pl = (b.drop 13).take z := by rw [← hzz]; rfl
    rw [e]
    rw [e] at hpl
    rw [hpl]
    exact this) (fun e => by cases e) (by omega))
  unfold pkV19 at CB
  rw [EP.out.1, EP.out.2.1, EP.out.2.2.1, EP.out.2.2.2] at CB
  have HBb := Lib.hid (Pk.bytes_byts (pkOf_ok h.hb).b)
  have HBl : RowKit.Hid ((pkOf b).bytes.length = 17 + z) := by show _ = _; rw [Pk.bytes_len, hpl]
  have HAg := Lib.hid (bytes_agree h.hb hf (by omega) (by rw [hzz]; omega))
  rw [hzz] at HAg
  obtain ⟨ep, hep⟩ : ∃ ep, valL19 ((b.drop 3).take 4) = ep := ⟨_, rfl⟩
  obtain ⟨nu, hnu⟩ : ∃ nu, valL19 ((b.drop 7).take 4) = nu := ⟨_, rfl⟩
  rw [hep] at CE CB EP
  rw [hnu] at CU CB EP
  obtain ⟨BB, hBB⟩ : ∃ BB, (pkOf b).bytes = BB := ⟨_, rfl⟩
  rw [hBB] at CB HBb HBl HAg
  clear h hf hl W g0 g1 g2 g3 e1 hzz hx hrB hpl hep hnu hBB
  have t1 : IntKind.i64.wrap (13 + (z : Int)) = 13 + (z : Int) := IntWalk.i64_in _ (by omega)
  have t2 : IntKind.i64.wrap (17 + (z : Int)) = 17 + (z : Int) := IntWalk.i64_in _ (by omega)
  go_enter Try.func12, Try.ntmps12
  go_upto_region 10 with (go_at_call 24; go_loud (refine CL.out.mono ?_); rintro e w3 ⟨rfl, rfl⟩)
  obtain ⟨W1, hW1⟩ : ∃ W1, w.alloc (.cells #[.int .u32 0, .int .u32 0, .bool false, .slice none 0 0] 33) = W1 := ⟨_, rfl⟩
  rw [hW1] at HB HC k0 k1 k2 ⊢
  have hsz : W1.heap.size = w.heap.size + 1 := by rw [← hW1]; simp
  clear hW1 CL k0 k1
  have s1 : (0 : Int) ≤ 13 + (z : Int) := by omega
  have s2 : (13 : Int) ≤ 13 + (z : Int) := by omega
  have s3 : (13 : Int) + (z : Int) ≤ (cap : Int) := by omega
  have s4 : (7 : Int) ≤ (cap : Int) := by omega
  have s5 : (11 : Int) ≤ (cap : Int) := by omega
  have s6 : ¬ cap = 3 := by omega
  have s7 : ¬ cap = 7 := by omega
  have s8 : ¬ cap = 13 := by omega
  have s9 : (2 : Int) < (n : Int) := by omega
  have s10 : (13 + (z : Int)).toNat = 13 + z := by omega
  have v1 := World.new_ne W1 ⟨r, off + 2, none⟩ k2
  have v2 := World.new_ne W1.drew ⟨r, off + 2, none⟩ k2
  go_region_held3 (fun w' => w'.cell? ⟨r, off + 2, none⟩ = some (.int .u8 x)) (go_keep)
    (first
      | (go_at_call 24; have hq9 := HE9.out; go_loud (refine (CU.out _ (by first | exact Below.drewN' HB.out 1 | exact (Below.drewN' HB.out 1).alloc (Below.drewN' HB.out 1).size _)).mono ?_); rintro e w3 ⟨rfl, rfl⟩; clear hq9)
      | (go_at_call 24; go_loud (refine (CE.out _ (by first | exact Below.drewN' HB.out 1 | exact (Below.drewN' HB.out 1).alloc (Below.drewN' HB.out 1).size _)).mono ?_); rintro e w3 ⟨rfl, rfl⟩; have HE9 := Lib.hid hz)
      | fail)
  all_goals
    obtain ⟨W2, hW2⟩ : ∃ W2, (W1.alloc (.cells #[.int .u32 ep, .int .u32 nu, .bool (x == 1), .slice (some ⟨r, off + 13, none⟩) z (cap - 13)] 33)).drew = W2 := ⟨_, rfl⟩
    have HB2 : RowKit.Hid (Below w.heap.size w W2) := by rw [← hW2]; exact Below.drewN' (HB.out.alloc HB.out.size _) 1
    have HC2 : RowKit.Hid (Cel W2 w.heap.size 33 #[.int .u32 0, .int .u32 0, .bool false, .slice none 0 0]) := by rw [← hW2]; exact HC.out.alloc _
    have HP2 : RowKit.Hid (Cel W2 (w.heap.size + 1) 33 #[.int .u32 ep, .int .u32 nu, .bool (x == 1), .slice (some ⟨r, off + 13, none⟩) z (cap - 13)]) := by rw [← hW2, ← hsz]; exact Cel.new W1 _ _
    rw [hW2]
    clear hW2 s1 s2 s3 s4 s5 s6 s7 s8 s9 s10 v1 v2 k2 HE9 HB HC CE CU hsz
    obtain ⟨c0, c1, c2, c3⟩ := cel4 HP2.out
    go_wp2_with (go_at_call 9; go_loud (refine (CB.out _ HB2.out).mono ?_); rintro e w4 ⟨v4, rfl, ho, hb⟩; obtain ⟨a4, m4, c4, rfl, hm4⟩ := own_form_m ho; have HM4 := Lib.hid hm4; have HO4 := Lib.hid ho; have HB4 := Lib.hid (chain HB2.out hb); have HC4 := Lib.hid (HC2.out.below hb); have HP4 := Lib.hid (HP2.out.below hb); clear ho hb hm4)
    obtain ⟨g4, o4, rfl⟩ := (ByL.own HO4.out HBb.out (by rw [HBl.out]; omega)).form (by rw [HM4.out, HBl.out]; omega)
    have hm4 : 17 + z ≤ m4 := by rw [HM4.out, HBl.out]; exact Nat.le_refl _
    have hm5 : m4 ≤ 1000000 := by rw [HM4.out, HBl.out]; omega
    have H0 : RowKit.Hid (LtSt w r off n cap b g4 o4 m4 c4 BB ep nu (x == 1) z 0 w4) :=
      ⟨HB4.out, HC4.out, HP4.out, ByL.own HO4.out HBb.out (by rw [HBl.out]; omega), HH.out.below HB4.out, fun i hi => by omega⟩
    clear HO4 HB4 HC4 HP4 HM4 c0 c1 c2 c3 HB2 HC2 HP2 CB HBb HBl HH
    go_loopw [8] (fun i wr => ∃ k : Nat, k ≤ 17 + z ∧ i = .int .i64 k ∧ RowKit.Hid (LtSt w r off n cap b g4 o4 m4 c4 BB ep nu (x == 1) z k wr)) (fun i _ => 17 + z - (intOf i).toNat)
    case atStart => exact ⟨0, by omega, rfl, H0.out⟩
    case round =>
      obtain ⟨k, hk, rfl, H⟩ := hrel
      clear H0
      by_cases hlt : k < 17 + z
      · have k1 := H.out.ha.cell (j := k) (by omega)
        have k2 := H.out.hr.cell (j := k) (by omega)
        have b1 : (k : Int) < (m4 : Int) := by omega
        have b2 : (k : Int) < (n : Int) := by omega
        have b3 : (k : Int) < 17 + (z : Int) := by omega
        by_cases c : BB.getD k 0 = b.getD k 0
        · have HN : RowKit.Hid (∀ wx, LtSt w r off n cap b g4 o4 m4 c4 BB ep nu (x == 1) z k wx → LtSt w r off n cap b g4 o4 m4 c4 BB ep nu (x == 1) z (k + 1) wx) := fun wx h => h.next c
          rw [c] at k1
          generalize b.getD k 0 = y at k1 k2
          clear c
          go_wp2
          go_quiet (fail)
          go_wp2
          go_roundw
          case rel => exact ⟨k + 1, by omega, by go_num, HN.out _ (H.out.drewN _)⟩
          case measure => simp [intOf] <;> omega
        · have HF4 : RowKit.Hid (prsE b = 4) := prsE_sum HF.out.1 (by rw [HF.out.2.2.2]; exact hn) (by rw [HF.out.2.1]; exact hz) (by rw [HF.out.2.1, HF.out.2.2.2]; exact hq) (by rw [HF.out.2.1]; exact fun h => c (HAg.out.2 h k hlt))
          have qq : (BB.getD k 0 != b.getD k 0) = true := by simpa using c
          generalize b.getD k 0 = y at k2 qq
          generalize BB.getD k 0 = y2 at k1 qq
          clear c
          go_wp2
          go_quiet (fail)
          have HX := Lib.hid (H.out.drewN nq)
          generalize wr.drewN nq = wq at HX ⊢
          obtain ⟨c0, c1, c2, c3⟩ := cel4 HX.out.hc
          obtain ⟨f0, f1, f2, f3⟩ := frz4 HX.out.hc
          clear k1 k2
          go_wp2
          refine bodyPost_ret (results19_3 rfl rfl rfl rfl (run_loadVar_row _ w.heap.size _ _ _ (0, 0) _ (cel_set4 HX.out.hc rfl _ _ _ _) Try.underlying33 rfl info19_rpk)) rfl ?_
          exact ⟨.inr ⟨HF4.out, rfl⟩, below_set4 HX.out.hb (Nat.le_refl _) _ _ _ _⟩
      · obtain rfl : k = 17 + z := by omega
        have HF0 : RowKit.Hid (prsE b = 0) := prsE_all HF.out.1 (by rw [HF.out.2.2.2]; exact hn) (by rw [HF.out.2.1]; exact hz) (by rw [HF.out.2.1, HF.out.2.2.2]; exact hq) (by rw [HF.out.2.1]; exact HAg.out.1 H.out.ag)
        obtain ⟨c0, c1, c2, c3⟩ := cel4 H.out.hc
        obtain ⟨f0, f1, f2, f3⟩ := frz4 H.out.hc
        obtain ⟨p0, p1, p2, p3⟩ := cel4 H.out.hp
        go_wp2
        refine bodyPost_ret (results19_3 rfl rfl rfl rfl (run_loadVar_row _ w.heap.size _ _ _ (0, 0) _ (cel_set4 H.out.hc rfl _ _ _ _) Try.underlying33 rfl info19_rpk)) rfl ?_
        exact ⟨.inl ⟨HF0.out, by unfold refPV; rw [EP.out.1, EP.out.2.1, EP.out.2.2.1, HF.out.2.1]; rfl⟩, below_set4 H.out.hb (Nat.le_refl _) _ _ _ _⟩
end Go.Proofs.Ytcjikbddnceigaa
