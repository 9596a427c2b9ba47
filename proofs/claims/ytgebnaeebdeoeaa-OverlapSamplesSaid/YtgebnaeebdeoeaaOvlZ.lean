/- Layer 9's statements, walked: samples. -/
import Derived.Test.YtgebnaeebdeoeaaOvlX
namespace Go.Proofs.Ytgebnaeebdeoeaa
open Go.RowKit
set_option linter.unusedVariables false

/-- More numbers, or more frames, than are tried: only whether it lives. -/
theorem overlapSamples_many (a a2 : Option Addr) (len cap len2 cap2 : Nat) (w : World) (hm : len ≤ 9223372036854775807) (hm2 : len2 ≤ 9223372036854775807) (h : 3000 < len ∨ 5 < len2) :
    Calls Try.prog 4 #[.slice a len cap, .slice a2 len2 cap2] w fun e w' => e = .returned (.bool true) ∧ Below w.heap.size w w' := by
  have HB := Lib.hid (Below.refl w.heap.size w)
  by_cases h1 : 3000 < len
  · have hd : decide ((3000 : Int) < (len : Int)) = true := by simp; omega
    go_enter Try.func4, Try.ntmps4
    go_wp2_with (go_at_call 7; go_loud (refine (lives09_any _).mono ?_); rintro e w1 ⟨rfl, hb⟩; replace HB := Lib.hid (chain HB.out hb); clear hb)
    go_ret
    exact ⟨rfl, HB.out⟩
  · have hd : decide ((3000 : Int) < (len : Int)) = false := by simp; omega
    have hd2 : decide ((5 : Int) < (len2 : Int)) = true := by simp; omega
    clear h
    go_enter Try.func4, Try.ntmps4
    go_wp2_with (go_at_call 7; go_loud (refine (lives09_any _).mono ?_); rintro e w1 ⟨rfl, hb⟩; replace HB := Lib.hid (chain HB.out hb); clear hb)
    go_ret
    exact ⟨rfl, HB.out⟩
/-- What was left, in a row of its own. -/
def LeftAt (w : World) (a : Option Addr) (lf : Nat → Int) : Prop :=
  ∃ g off N F, a = some ⟨g, off, none⟩ ∧ off + 128 ≤ N ∧ IFun w g 2 .i64 N F ∧ ∀ j, j < 128 → F (off + j) = lf j
theorem LeftAt.fn {w : World} {a : Option Addr} {lf : Nat → Int} (h : LeftAt w a lf) : FnAt w w.heap.size .i64 a 128 lf := by
  obtain ⟨g, off, N, F, e, h1, h2, h3⟩ := h
  exact ⟨g, off, e, h2.lt, fun j hj => by rw [← h3 j hj]; exact h2.cell (by omega)⟩
theorem LeftAt.below {w w' : World} {a : Option Addr} {lf : Nat → Int} (h : LeftAt w a lf) (hb : Below w.heap.size w w') : LeftAt w' a lf := by
  obtain ⟨g, off, N, F, e, h1, h2, h3⟩ := h
  exact ⟨g, off, N, F, e, h1, h2.below hb h2.lt, h3⟩
theorem LeftAt.keeps {w w' : World} {a : Option Addr} {lf : Nat → Int} {b : Nat} {t : TypeId} {cs : Array Value} (h : LeftAt w a lf) (hb : Cel w b t cs) (hne : 2 ≠ t) (hk : Keeps (· = b) w w') : LeftAt w' a lf := by
  obtain ⟨g, off, N, F, e, h1, h2, h3⟩ := h
  obtain ⟨cg, hcg⟩ := h2.cel
  exact ⟨g, off, N, F, e, h1, Cel.keeps h2 hk (hcg.ne hb hne), h3⟩
/-- What is held of a synth, the cosines, and what was left. -/
structure St11 (w wr : World) (s c p q qb : Nat) (a : Option Addr) (lf mf : Nat → Int) : Prop where
  b : Below w.heap.size w wr
  S : OvAt 60 .i32 wr s c p q lf
  Q : IFun wr qb 2 .i64 1025 cosN
  L : LeftAt wr a mf
theorem St11.below {w wr w' : World} {s c p q qb : Nat} {a : Option Addr} {lf mf : Nat → Int} (h : St11 w wr s c p q qb a lf mf) (hb : Below wr.heap.size wr w') : St11 w w' s c p q qb a lf mf :=
  ⟨chain h.b hb, h.S.below hb, h.Q.below hb h.Q.lt, h.L.below hb⟩
theorem St11.drewN {w wr : World} {s c p q qb : Nat} {a : Option Addr} {lf mf : Nat → Int} (h : St11 w wr s c p q qb a lf mf) (i : Nat) : St11 w (wr.drewN i) s c p q qb a lf mf :=
  ⟨Below.drewN' h.b i, h.S, h.Q, h.L⟩
theorem St11.synOf {w wr w' : World} {s c p q qb : Nat} {a : Option Addr} {lf lf' mf : Nat → Int} (h : St11 w wr s c p q qb a lf mf) (hs : w.heap.size ≤ s) (hk : Keeps (· = s) wr w') (hS : OvAt 60 .i32 w' s c p q lf') : St11 w w' s c p q qb a lf' mf := by
  obtain ⟨cq, hcq⟩ := h.Q.cel
  exact ⟨below_keep1 h.b hk hs, hS, Cel.keeps h.Q hk (hcq.ne h.S.1 (by decide)), h.L.keeps h.S.1 (by decide) hk⟩
theorem St11.otherOf {w wr w' : World} {s o c p q qb : Nat} {a : Option Addr} {lf mf : Nat → Int} {cs : Array Value} (h : St11 w wr s c p q qb a lf mf) (ho : w.heap.size ≤ o) (hso : s ≠ o) (hc : Cel wr o 60 cs) (hk : Keeps (· = o) wr w') : St11 w w' s c p q qb a lf mf := by
  obtain ⟨cq, hcq⟩ := h.Q.cel
  exact ⟨below_keep1 h.b hk ho, h.S.keeps hc hso (by decide) (by decide) hk, Cel.keeps h.Q hk (hcq.ne hc (by decide)), h.L.keeps hc (by decide) hk⟩
theorem row_keeps {w w' : World} {g n s : Nat} {t : TypeId} {k : IntKind} {f : Nat → Int} {cs : Array Value} (h : IFun w g t k n f) (hs : Cel w s 60 cs) (hne : t ≠ 60) (hk : Keeps (· = s) w w') : IFun w' g t k n f := by
  obtain ⟨cg, hcg⟩ := h.cel
  exact Cel.keeps h hk (hcg.ne hs hne)
theorem left_both {b : Bool} {l left : Nat → Int} (j : Nat) : bothF b l left (512 + j) = leftF b l j := by
  unfold bothF leftF
  rw [if_neg (by omega), Int.add_zero]
/-- Number k of a frame of lines. -/
def linV (zs : List Int) (len T k : Nat) : Int := if len = 0 then 0 else (zs.getD ((T + k) % len) 0).tmod 33554432
theorem linV_bd (zs : List Int) (len T k : Nat) : -33554432 < linV zs len T k ∧ linV zs len T k < 33554432 := by
  unfold linV
  split
  · omega
  · exact tmod_bd (by decide)
set_option maxHeartbeats 1000000 in
set_option maxRecDepth 100000 in
theorem overlapSamples_law (a a2 : Option Addr) (len cap len2 cap2 : Nat) (zs : List Int) (bs : Nat → Bool) (w : World) (hz : IntsAt w w.heap.size .i32 a len zs) (hzb : ∀ j, -2147483648 ≤ zs.getD j 0 ∧ zs.getD j 0 ≤ 2147483647) (hbs : BoolsAt w w.heap.size a2 len2 bs) (hl : len ≤ 3000) (hl2 : len2 ≤ 5) :
    Calls Try.prog 4 #[.slice a len cap, .slice a2 len2 cap2] w fun e w' => e = .returned (.bool true) ∧ Below w.heap.size w w' := by
  have HB := Lib.hid (Below.refl w.heap.size w)
  have HZ := Lib.hid hz
  have HZb := Lib.hid hzb
  have HBs := Lib.hid hbs
  have hd : decide ((3000 : Int) < (len : Int)) = false := by simp; omega
  have hd2 : decide ((5 : Int) < (len2 : Int)) = false := by simp; omega
  have hmk : ∀ w : World, (Instr.makeSlice 25 (.int .i64 128) (.int .i64 128)).run Try.prog w = .ok (.slice (some ⟨w.heap.size, 0, none⟩) 128 128) (w.alloc (.cells (madeCells #[.int .i64 0] 128) 2)) :=
    fun w => make_zeros (P := Try.prog) Try.underlying25 info_i649 128 (by decide) (by decide) w
  have HZr : RowKit.Hid (∀ w : World, IFun (w.alloc (.cells (madeCells #[.int .i64 0] 128) 2)) w.heap.size 2 .i64 128 (fun _ => 0)) := fun w => IFun.zeros w 2 .i64 128
  have hmk5 : ∀ w : World, (Instr.makeSlice 31 (.int .i64 512) (.int .i64 512)).run Try.prog w = .ok (.slice (some ⟨w.heap.size, 0, none⟩) 512 512) (w.alloc (.cells (madeCells #[.int .i32 0] 512) 21)) :=
    fun w => make_zeros (P := Try.prog) Try.underlying31 info_i32 512 (by decide) (by decide) w
  have hmk6 : ∀ w : World, (Instr.makeSlice 25 (.int .i64 512) (.int .i64 512)).run Try.prog w = .ok (.slice (some ⟨w.heap.size, 0, none⟩) 512 512) (w.alloc (.cells (madeCells #[.int .i64 0] 512) 2)) :=
    fun w => make_zeros (P := Try.prog) Try.underlying25 info_i649 512 (by decide) (by decide) w
  have HZ5 : RowKit.Hid (∀ w : World, IFun (w.alloc (.cells (madeCells #[.int .i32 0] 512) 21)) w.heap.size 21 .i32 512 (fun _ => 0)) := fun w => IFun.zeros w 21 .i32 512
  have HZ6 : RowKit.Hid (∀ w : World, IFun (w.alloc (.cells (madeCells #[.int .i64 0] 512) 2)) w.heap.size 2 .i64 512 (fun _ => 0)) := fun w => IFun.zeros w 2 .i64 512
  clear hz hbs hzb
  generalize madeCells #[Value.int .i64 0] 128 = mc at HZr hmk
  generalize madeCells #[Value.int .i32 0] 512 = m5 at HZ5 hmk5
  generalize madeCells #[Value.int .i64 0] 512 = m6 at HZ6 hmk6
  go_enter Try.func4, Try.ntmps4
  go_wp2_with (first | (go_at_call 7; go_loud (refine (lives09_any _).mono ?_); rintro e w1 ⟨rfl, hb⟩; replace HB := Lib.hid (chain HB.out hb); clear hb) | (go_at_call 8; go_loud (refine (ref04Quarter_any _).mono ?_); rintro e w2 ⟨rfl, iq, zq⟩; have HQ := Lib.hid iq; replace HB := Lib.hid (chain HB.out zq); clear iq zq) | (go_at_call 13; go_loud (refine (newSynth_any _).mono ?_); rintro e w3 ⟨s, c, p, q, rfl, os, ss, z1⟩; have HSl : RowKit.Hid (w.heap.size ≤ s) := Nat.le_trans HB.out.size ss; have hz2 := Below.alloc_new w3 (.cells mc 2); have H0 : RowKit.Hid (St11 w (w3.alloc (.cells mc 2)) s c p q w1.heap.size (some ⟨w3.heap.size, 0, none⟩) (fun _ => 0) (fun _ => 0)) := ⟨chain (chain HB.out z1) hz2, os.below hz2, (HQ.out.below z1 HQ.out.lt).below hz2 (Nat.lt_of_lt_of_le HQ.out.lt z1.size), ⟨_, 0, 128, _, rfl, by decide, HZr.out w3, fun _ _ => rfl⟩⟩; clear os ss z1 hz2 HQ HB))
  clear hd hd2 hmk HZr
  generalize w1.heap.size = qb at H0 ⊢
  generalize (some ⟨w3.heap.size, 0, none⟩ : Option Addr) = a4 at H0 ⊢
  generalize w3.alloc (.cells mc 2) = w4 at H0 ⊢
  go_loopw [7, 40] (fun v i wr => ∃ t lf a4, t ≤ len2 ∧ i = .int .i64 ((t : Nat) : Int) ∧ v = .slice a4 128 128 ∧ RowKit.Hid (St11 w wr s c p q qb a4 lf lf ∧ ∀ r, r < 128 → (lf r).natAbs ≤ 1073741000)) (fun _ i _ => len2 - (intOf i).toNat)
  case atStart => exact ⟨0, fun _ => 0, a4, by omega, rfl, rfl, H0.out, fun r _ => by simp⟩
  case round =>
    obtain ⟨t, lf, a4, ht, rfl, rfl, H⟩ := hrel
    clear H0
    by_cases hlt : t < len2
    · obtain ⟨bb, bo, rfl, bbl, hbc⟩ := HBs.out.at_ hlt
      have k1 := (H.out.1.b.cell (p := ⟨bb, bo + t, none⟩) bbl).trans (hbc t hlt)
      clear hbc
      generalize bs t = b at k1
      have l1 : (t : Int) < (len2 : Int) := by omega
      obtain ⟨T, hT⟩ : ∃ T, T = 512 * t := ⟨_, rfl⟩
      have e1 : 512 * (t : Int) = (T : Int) := by omega
      have HTt := Lib.hid hT
      have T1 : T ≤ 2048 := by omega
      clear hT
      obtain ⟨wh, rfl⟩ : ∃ wh, wh = wr := ⟨_, rfl⟩
      go_wp2
      go_region
      all_goals (first | (obtain ⟨w5, hw5⟩ : ∃ w5, w5 = ((wh.alloc (.cells m5 21)).alloc (.cells m6 2)).drew := ⟨_, rfl⟩; rw [← hw5]; obtain ⟨ab, hb2⟩ : ∃ b2, b2 = wh.heap.size + 1 := ⟨_, rfl⟩; rw [← hb2]; obtain ⟨lb, hb1⟩ : ∃ b1, b1 = wh.heap.size := ⟨_, rfl⟩; rw [← hb1]; have H5 : RowKit.Hid (Below wh.heap.size wh w5 ∧ IFun w5 lb 21 .i32 512 (fun _ => 0) ∧ IFun w5 ab 2 .i64 512 (fun _ => 0) ∧ wh.heap.size ≤ lb ∧ wh.heap.size ≤ ab) := (by have h2 := Below.drewN' (chain (Below.alloc_new wh (.cells m5 21)) (Below.alloc_new _ (.cells m6 2))) 1; have h3 := IFun.drewN ((HZ5.out wh).alloc (.cells m6 2)) 1; have h4 := IFun.drewN (HZ6.out (wh.alloc (.cells m5 21))) 1; rw [alloc_size, ← hb2] at h4; rw [← hb1] at h3; rw [hw5]; exact ⟨h2, h3, h4, by omega, by omega⟩); clear hw5 hb1 hb2) | (obtain ⟨w5, hw5⟩ : ∃ w5, w5 = ((wh.alloc (.cells m6 2)).alloc (.cells m5 21)).drew := ⟨_, rfl⟩; rw [← hw5]; obtain ⟨lb, hb2⟩ : ∃ b2, b2 = wh.heap.size + 1 := ⟨_, rfl⟩; rw [← hb2]; obtain ⟨ab, hb1⟩ : ∃ b1, b1 = wh.heap.size := ⟨_, rfl⟩; rw [← hb1]; have H5 : RowKit.Hid (Below wh.heap.size wh w5 ∧ IFun w5 lb 21 .i32 512 (fun _ => 0) ∧ IFun w5 ab 2 .i64 512 (fun _ => 0) ∧ wh.heap.size ≤ lb ∧ wh.heap.size ≤ ab) := (by have h2 := Below.drewN' (chain (Below.alloc_new wh (.cells m6 2)) (Below.alloc_new _ (.cells m5 21))) 1; have h3 := IFun.drewN ((HZ6.out wh).alloc (.cells m5 21)) 1; have h4 := IFun.drewN (HZ5.out (wh.alloc (.cells m6 2))) 1; rw [alloc_size, ← hb2] at h4; rw [← hb1] at h3; rw [hw5]; exact ⟨h2, h4, h3, by omega, by omega⟩); clear hw5 hb1 hb2))
      all_goals
        clear hmk5 hmk6 HZ5 HZ6
        have H6 : RowKit.Hid (Below wh.heap.size wh w5 ∧ IFun w5 lb 21 .i32 512 (upTo (linV zs len T) (fun _ => 0) 0) ∧ IFun w5 ab 2 .i64 512 (upTo (linV zs len T) (fun _ => 0) 0)) := ⟨H5.out.1, IFun.ext H5.out.2.1 fun j _ => (upTo_start (linV zs len T) (fun _ => 0) j).symm, IFun.ext H5.out.2.2.1 fun j _ => (upTo_start (linV zs len T) (fun _ => 0) j).symm⟩
        have HN : RowKit.Hid (wh.heap.size ≤ lb ∧ wh.heap.size ≤ ab ∧ lb ≠ ab) := ⟨H5.out.2.2.2.1, H5.out.2.2.2.2, by obtain ⟨c1, h1⟩ := H5.out.2.1.cel; obtain ⟨c2, h2⟩ := H5.out.2.2.1.cel; exact h1.ne h2 (by decide)⟩
        clear H5
        go_wp2
        go_loopw [49] (fun i wx => ∃ k : Nat, k ≤ 512 ∧ i = .int .i64 (k : Int) ∧ RowKit.Hid (Below wh.heap.size wh wx ∧ IFun wx lb 21 .i32 512 (upTo (linV zs len T) (fun _ => 0) k) ∧ IFun wx ab 2 .i64 512 (upTo (linV zs len T) (fun _ => 0) k))) (fun i _ => 512 - (intOf i).toNat)
        case atStart => exact ⟨0, by omega, rfl, H6.out⟩
        case round =>
          obtain ⟨k, hk, rfl, HJ⟩ := hrel
          clear H6
          by_cases hlk : k < 512
          · have o1 := HJ.out.2.1.cell (j := k) hlk
            have o2 := HJ.out.2.2.cell (j := k) hlk
            rw [upTo_here] at o1 o2
            have f1 := HJ.out.2.1.frozen k
            have f2 := HJ.out.2.2.frozen k
            obtain ⟨na, nb, nc⟩ := HN.out
            have hv := linV_bd zs len T k
            have l3 : (k : Int) < 512 := by omega
            have nd : ¬ ab = lb := fun e => nc e.symm
            by_cases hl0 : len = 0
            · have hv0 : linV zs len T k = 0 := by unfold linV; rw [if_pos hl0]
              have HS : RowKit.Hid (Below wh.heap.size wh (wr.setCell ⟨ab, k, none⟩ (.int .i64 0)) ∧ IFun (wr.setCell ⟨ab, k, none⟩ (.int .i64 0)) lb 21 .i32 512 (upTo (linV zs len T) (fun _ => 0) (k + 1)) ∧ IFun (wr.setCell ⟨ab, k, none⟩ (.int .i64 0)) ab 2 .i64 512 (upTo (linV zs len T) (fun _ => 0) (k + 1))) := by
                refine ⟨HJ.out.1.setCell nb _, IFun.ext (HJ.out.2.1.far nc _) fun i _ => ?_, IFun.ext (HJ.out.2.2.set (j := k) hlk 0) fun i _ => ?_⟩
                · rw [← upTo_next (linV zs len T) (fun _ => 0) k i]
                  by_cases e : i = k
                  · rw [if_pos e, e, upTo_here, hv0]
                  · rw [if_neg e]
                · rw [← upTo_next (linV zs len T) (fun _ => 0) k i, hv0]
              have ll : ¬ 0 < (len : Int) := by omega
              clear HJ hl0 hv0 hv
              go_wp2
              go_roundw
              case rel => exact ⟨k + 1, by omega, by go_num, HS.out⟩
              case measure => simp [intOf] <;> omega
            · obtain ⟨m, hm⟩ : ∃ m, m = (T + k) % len := ⟨_, rfl⟩
              have hml : m < len := by rw [hm]; exact Nat.mod_lt _ (by omega)
              have f3 : ((T : Int) + (k : Int)) % (len : Int) = (m : Int) := by rw [hm]; simp
              have f4 : ((T : Int) + (k : Int)).tmod (len : Int) = (m : Int) := by rw [Int.tmod_eq_emod_of_nonneg (by omega)]; exact f3
              obtain ⟨yb, yo, rfl, ybl, _, hc⟩ := HZ.out.at_ hml
              have k3 := (HJ.out.1.cell (p := ⟨yb, yo + m, none⟩) (Nat.lt_of_lt_of_le ybl H.out.1.b.size)).trans ((H.out.1.b.cell (p := ⟨yb, yo + m, none⟩) ybl).trans hc)
              obtain ⟨z0, z1⟩ := HZb.out m
              have hvE : (zs.getD m 0).tmod 33554432 = linV zs len T k := by unfold linV; rw [if_neg hl0, hm]
              have HS : RowKit.Hid (Below wh.heap.size wh ((wr.setCell ⟨lb, k, none⟩ (.int .i32 (linV zs len T k))).setCell ⟨ab, k, none⟩ (.int .i64 (linV zs len T k))) ∧ IFun ((wr.setCell ⟨lb, k, none⟩ (.int .i32 (linV zs len T k))).setCell ⟨ab, k, none⟩ (.int .i64 (linV zs len T k))) lb 21 .i32 512 (upTo (linV zs len T) (fun _ => 0) (k + 1)) ∧ IFun ((wr.setCell ⟨lb, k, none⟩ (.int .i32 (linV zs len T k))).setCell ⟨ab, k, none⟩ (.int .i64 (linV zs len T k))) ab 2 .i64 512 (upTo (linV zs len T) (fun _ => 0) (k + 1))) :=
                ⟨(HJ.out.1.setCell na _).setCell nb _, IFun.ext ((HJ.out.2.1.set (j := k) hlk (linV zs len T k)).far nc _) fun i _ => upTo_next (linV zs len T) _ k i, IFun.ext ((HJ.out.2.2.far nd _).set (j := k) hlk (linV zs len T k)) fun i _ => upTo_next (linV zs len T) _ k i⟩
              clear HJ hm hc hl0
              generalize linV zs len T k = v at hv hvE HS
              generalize zs.getD m 0 = y at k3 z0 z1 hvE
              obtain ⟨v0, v1⟩ := hv
              have l4 : (m : Int) < (len : Int) := by omega
              have l5 : ¬ (len : Int) = 0 := by omega
              have l6 : 0 < (len : Int) := by omega
              go_wp2
              go_roundw
              case rel => exact ⟨k + 1, by omega, by go_num, HS.out⟩
              case measure => simp [intOf] <;> omega
          · have l3 : ¬ (k : Int) < 512 := by omega
            have H7 : RowKit.Hid (St11 w wr s c p q qb a4 lf lf) := H.out.1.below HJ.out.1
            have HL7 : RowKit.Hid (IFun wr lb 21 .i32 512 (linV zs len T)) := IFun.ext HJ.out.2.1 fun i hi => upTo_end (linV zs len T) _ k i (by omega)
            have HA7 : RowKit.Hid (IFun wr ab 2 .i64 512 (linV zs len T)) := IFun.ext HJ.out.2.2 fun i hi => upTo_end (linV zs len T) _ k i (by omega)
            have HLf := Lib.hid H.out.2
            have HVb : RowKit.Hid (∀ j, j < 512 → -33554432 ≤ linV zs len T j ∧ linV zs len T j ≤ 33554431) := fun j _ => by have := linV_bd zs len T j; omega
            clear HJ H HN
            generalize (linV zs len T) = V at HL7 HA7 HVb
            go_wp2_with (first | (go_at_call 14; go_loud (refine (clone_any _ s c p q lf H7.out.S).mono ?_); rintro e w8 ⟨rfl, oo, z8⟩; have HO8 := Lib.hid oo; have HSO : RowKit.Hid (s ≠ wr.heap.size ∧ w.heap.size ≤ wr.heap.size) := ⟨(by have := H7.out.S.1.lt; omega), H7.out.b.size⟩; have H8 := Lib.hid (H7.out.below z8); have HL8 := Lib.hid (HL7.out.below z8 HL7.out.lt); have HA8 := Lib.hid (HA7.out.below z8 HA7.out.lt); clear oo z8 H7 HL7 HA7) | (go_at_call 15; have hq := HG10.out; go_loud (refine (synSamples_len s (some ⟨lb, 0, none⟩) 511 512 b _ (by decide) (by decide)).mono ?_); rintro e w' ⟨rfl, rfl⟩) | (go_at_call 15; have hq := HG9.out; go_loud (refine (synSamples_any wr.heap.size c p q lb lf V b _ HO9.out HL9.out HVb.out HLf.out).mono ?_); rintro e w10 ⟨g10, rfl, i10, s10, o10, k10⟩; have HG10 := Lib.hid i10; have HGB := Lib.hid (row_keeps HG9.out HO9.out.1 (by decide) k10); have H10 := Lib.hid (H9.out.otherOf HSO.out.2 HSO.out.1 HO9.out.1 k10); have HA10 := Lib.hid (row_keeps HA9.out HO9.out.1 (by decide) k10); clear i10 s10 o10 k10 hq HG9 H9 HA9 HL9 HO9) | (go_at_call 15; go_loud (refine (synSamples_any s c p q lb lf V b _ H8.out.S HL8.out HVb.out HLf.out).mono ?_); rintro e w9 ⟨g9, rfl, i9, s9, o9, k9⟩; have HG9 := Lib.hid i9; have H9 := Lib.hid (H8.out.synOf HSl.out k9 o9); have HO9 := Lib.hid (HO8.out.keeps H8.out.S.1 HSO.out.1.symm (by decide) (by decide) k9); have HL9 := Lib.hid (row_keeps HL8.out H8.out.S.1 (by decide) k9); have HA9 := Lib.hid (row_keeps HA8.out H8.out.S.1 (by decide) k9); clear i9 s9 o9 k9 H8 HL8 HA8 HO8) | (go_at_call 16; go_loud (refine (ref9Samples_any qb 512 128 (some ⟨ab, 0, none⟩) a4 V lf b _ H10.out.Q (FnAt.of_ifun HA10.out) H10.out.L.fn HVb.out HLf.out).mono ?_); rintro e w11 ⟨v11, g11, rfl, o11, i11, s11, z11⟩; obtain ⟨b11, c11, rfl, f11, m11⟩ := fill_fn o11 (by decide); have HF11 := Lib.hid f11; have HG11 := Lib.hid (HG10.out.below z11 HG10.out.lt); have HGB11 := Lib.hid (HGB.out.below z11 HGB.out.lt); have H11 : RowKit.Hid (St11 w w11 s c p q qb (some ⟨g11, 512, none⟩) (leftF b V) (leftF b V)) := ⟨chain H10.out.b z11, H10.out.S.below z11, H10.out.Q.below z11 H10.out.Q.lt, ⟨g11, 512, 640, _, rfl, by decide, i11, fun j _ => left_both j⟩⟩; clear o11 i11 s11 z11 f11 m11 HG10 HGB H10 HA10))
            have HNx : RowKit.Hid (∀ r, r < 128 → (leftF b V r).natAbs ≤ 1073741000) := fun r hr => leftF_abs (fun j hj => by have := HVb.out j hj; omega) b hr
            obtain ⟨vb, vo, rfl, _, hvc⟩ := HF11.out
            have HVc := Lib.hid hvc
            clear hvc HF11 HVb HLf HSO
            generalize wr.heap.size = ob
            go_loopw [132] (fun i wx => ∃ k : Nat, k ≤ 512 ∧ i = .int .i64 (k : Int) ∧ RowKit.Hid (∃ m, wx = w11.drewN m)) (fun i _ => 512 - (intOf i).toNat)
            case atStart => exact ⟨0, by omega, rfl, 0, rfl⟩
            case round =>
              obtain ⟨k, hk, rfl, HM⟩ := hrel
              obtain ⟨m, rfl⟩ := HM.out
              clear HM
              by_cases hlk : k < 512
              · have k2 : (w11.drewN m).cell? ⟨g9, k, none⟩ = some (.int .i16 (samplesF b V lf k)) := HGB11.out.cell hlk
                have k3 : (w11.drewN m).cell? ⟨g10, k, none⟩ = some (.int .i16 (samplesF b V lf k)) := HG11.out.cell hlk
                have k4 : (w11.drewN m).cell? ⟨vb, vo + k, none⟩ = some (.int .i64 (samplesF b V lf k)) := HVc.out k hlk
                obtain ⟨x0, x1⟩ := smpP_bd (bothF b V lf k)
                rw [show smpP (bothF b V lf k) = samplesF b V lf k from rfl] at x0 x1
                have HD : RowKit.Hid (∀ i, (w11.drewN m).drewN i = w11.drewN (m + i)) := fun i => World.drewN_drewN _ _ _
                generalize samplesF b V lf k = y at k2 k3 k4 x0 x1
                generalize w11.drewN m = wq at k2 k3 k4 HD ⊢
                have l3 : (k : Int) < 512 := by omega
                have g1 : IntKind.i64.wrap y = y := IntWalk.i64_in _ (by omega)
                go_wp2
                go_quiet (fail)
                go_wp2
                go_roundw
                case rel => exact ⟨k + 1, by omega, by go_num, _, HD.out _⟩
                case measure => simp [intOf] <;> omega
              · have l3 : ¬ (k : Int) < 512 := by omega
                have HNN : RowKit.Hid (St11 w (w11.drewN m) s c p q qb (some ⟨g11, 512, none⟩) (leftF b V) (leftF b V) ∧ ∀ r, r < 128 → (leftF b V r).natAbs ≤ 1073741000) := ⟨H11.out.drewN m, HNx.out⟩
                clear H11 HG11 HGB11 HVc HNx
                go_wp2
                go_roundw
                case rel => exact ⟨t + 1, _, _, by omega, by go_num, rfl, HNN.out⟩
                case measure => simp [intOf] <;> omega
    · have l1 : ¬ (t : Int) < (len2 : Int) := by omega
      have Z := Lib.hid H.out.1.b
      clear H
      go_wp2
      go_ret
      exact ⟨rfl, Z.out⟩
end Go.Proofs.Ytgebnaeebdeoeaa
