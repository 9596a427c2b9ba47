/- What is asked in any of its ways: the walk. -/
import Derived.Test.YtkledfalplekeaaDoorReqN
import Derived.Test.YtkledfalplekeaaDoorReqQ
import Derived.Deep.CutBlock
import Derived.Deep.DeepCutAuto
import Derived.BigRegion
namespace Go.Proofs.YtkledfalplekeaaDoor
open Go Go.RowKit Go.PlainAid
set_option linter.unusedVariables false
set_option linter.unusedSimpArgs false

set_option maxHeartbeats 2000000 in
theorem sealS_any (x : ByteArray) (w : World) (hs : x.size ≤ 1000) : Calls Tryd.prog 12 #[.string x] w fun e w' => e = .returned (.string (ba (sealL x.data.toList))) ∧ Below w.heap.size w w' := by
  have hc := Lib.run_convert_string_bytes w 9 48 5 x Tryd.underlying9 Tryd.underlying48 Tryd.underlying5
  obtain ⟨w1, hw1⟩ : ∃ w1, Lib.bytesWorld w 5 x = w1 := ⟨_, rfl⟩
  have b1 : Below w.heap.size w w1 := by rw [← hw1]; exact Lib.bytesWorld_below _ _ _
  have hI : IntsAt w1 w1.heap.size .u8 (some ⟨w.heap.size, 0, none⟩) x.size (bz x.data.toList) := by
    refine ⟨by rw [bz_len, len_list], ?_⟩
    by_cases h0 : x.size = 0
    · exact .inl h0
    · refine .inr ⟨w.heap.size, 0, rfl, by rw [← hw1, Lib.bytesWorld_size]; omega, by omega, fun j hj => ?_⟩
      rw [Nat.zero_add, ← hw1, Lib.bytesWorld_cell w _ x j hj, bz_get]
  rw [hw1] at hc
  have C := fun cap => refSeal_any (some ⟨w.heap.size, 0, none⟩) x.data.toList x.size cap w1.heap.size w1 (len_list x) hs hI
  clear hw1 hI
  generalize ba (sealL x.data.toList) = y at *
  go_enter Tryd.func12, Tryd.ntmps12
  go_wp2_with (go_at_call 17; refine (C _).mono ?_; rintro e w2 ⟨rfl, rfl⟩)
  go_ret
  exact ⟨rfl, b1⟩
def endS (e : Nat) : ByteArray := if e = 0 then ⟨#[10]⟩ else ⟨#[13, 10]⟩
def verS (v : Nat) : ByteArray := if v = 0 then ⟨#[72, 84, 84, 80, 47, 49, 46, 48]⟩ else if v = 1 then ⟨#[72, 84, 84, 80, 47, 49, 46, 49]⟩ else ⟨#[73, 67, 69, 47, 49, 46, 48]⟩
theorem metL_size (m : Nat) : (metL m).size ≤ 6 := by
  unfold metL
  repeat' split
  all_goals decide
theorem verS_size (v : Nat) : (verS v).size ≤ 8 := by
  unfold verS
  repeat' split
  all_goals decide
theorem endS_size (e : Nat) : (endS e).size ≤ 2 := by
  unfold endS
  split
  all_goals decide
theorem endS_ba (e : Nat) (he : e < 2) : endS e = ba (endF e) := by
  match e, he with
  | 0, _ => rfl
  | 1, _ => rfl
theorem verS_ba (v : Nat) (hv : v < 3) : verS v = ba (verB v) := by
  match v, hv with
  | 0, _ => rfl
  | 1, _ => rfl
  | 2, _ => rfl
theorem metL_ba (m : Nat) (hm : m < 4) : metL m = ba (metB m) := by
  match m, hm with
  | 0, _ => rfl
  | 1, _ => rfl
  | 2, _ => rfl
  | 3, _ => rfl
theorem askQ (m v e : Nat) (pt : ByteArray) (hm : m < 4) (hv : v < 3) (he : e < 2) (hp : pt = ba (pathB m)) :
    ((((((metL m ++ ⟨#[32]⟩) ++ pt) ++ ⟨#[32]⟩) ++ verS v) ++ endS e) ++ (⟨#[85, 115, 101, 114, 45, 65, 103, 101, 110, 116, 58, 32, 120, 58, 121, 32, 122]⟩ : ByteArray)) ++ endS e = ba ((lin1 m v ++ endF e) ++ (linU ++ endF e)) := by
  rw [metL_ba m hm, verS_ba v hv, endS_ba e he, hp, show (⟨#[32]⟩ : ByteArray) = ba [32] from rfl, show (⟨#[85, 115, 101, 114, 45, 65, 103, 101, 110, 116, 58, 32, 120, 58, 121, 32, 122]⟩ : ByteArray) = ba linU from rfl]
  simp only [ba_append]
  congr 1
  unfold lin1
  simp [List.append_assoc]
theorem askE00 (z0 xe xX : ByteArray) (m v e : Nat) (p : List UInt8) (h0 : z0 = ba ((lin1 m v ++ endF e) ++ (linU ++ endF e))) (he : xe = ba (endF e)) (hX : xX = ba (sealX p)) : z0 ++ (((⟨#[88, 45, 89, 58]⟩ : ByteArray) ++ xe) ++ xe) = ba (askF m v e false false p) := by
  rw [h0, he, show (⟨#[88, 45, 89, 58]⟩ : ByteArray) = ba linX from rfl]
  simp only [ba_append]
  congr 1
  unfold askF askI askA
  simp [List.append_assoc]
theorem askE01 (z0 xe xX : ByteArray) (m v e : Nat) (p : List UInt8) (h0 : z0 = ba ((lin1 m v ++ endF e) ++ (linU ++ endF e))) (he : xe = ba (endF e)) (hX : xX = ba (sealX p)) : (z0 ++ (((⟨#[65, 117, 116, 104, 111, 114, 105, 122, 97, 116, 105, 111, 110, 58, 98, 65, 115, 73, 99, 32]⟩ : ByteArray) ++ xX) ++ xe)) ++ (((⟨#[88, 45, 89, 58]⟩ : ByteArray) ++ xe) ++ xe) = ba (askF m v e false true p) := by
  rw [h0, he, hX, show (⟨#[88, 45, 89, 58]⟩ : ByteArray) = ba linX from rfl, show (⟨#[65, 117, 116, 104, 111, 114, 105, 122, 97, 116, 105, 111, 110, 58, 98, 65, 115, 73, 99, 32]⟩ : ByteArray) = ba linA from rfl]
  simp only [ba_append]
  congr 1
  unfold askF askI askA
  simp [List.append_assoc]
theorem askE10 (z0 xe xX : ByteArray) (m v e : Nat) (p : List UInt8) (h0 : z0 = ba ((lin1 m v ++ endF e) ++ (linU ++ endF e))) (he : xe = ba (endF e)) (hX : xX = ba (sealX p)) : (z0 ++ ((⟨#[105, 67, 121, 45, 77, 69, 84, 65, 100, 97, 116, 97, 58, 9, 49, 32]⟩ : ByteArray) ++ xe)) ++ (((⟨#[88, 45, 89, 58]⟩ : ByteArray) ++ xe) ++ xe) = ba (askF m v e true false p) := by
  rw [h0, he, show (⟨#[88, 45, 89, 58]⟩ : ByteArray) = ba linX from rfl, show (⟨#[105, 67, 121, 45, 77, 69, 84, 65, 100, 97, 116, 97, 58, 9, 49, 32]⟩ : ByteArray) = ba linI from rfl]
  simp only [ba_append]
  congr 1
  unfold askF askI askA
  simp [List.append_assoc]
theorem askE11 (z0 xe xX : ByteArray) (m v e : Nat) (p : List UInt8) (h0 : z0 = ba ((lin1 m v ++ endF e) ++ (linU ++ endF e))) (he : xe = ba (endF e)) (hX : xX = ba (sealX p)) : ((z0 ++ ((⟨#[105, 67, 121, 45, 77, 69, 84, 65, 100, 97, 116, 97, 58, 9, 49, 32]⟩ : ByteArray) ++ xe)) ++ (((⟨#[65, 117, 116, 104, 111, 114, 105, 122, 97, 116, 105, 111, 110, 58, 98, 65, 115, 73, 99, 32]⟩ : ByteArray) ++ xX) ++ xe)) ++ (((⟨#[88, 45, 89, 58]⟩ : ByteArray) ++ xe) ++ xe) = ba (askF m v e true true p) := by
  rw [h0, he, hX, show (⟨#[88, 45, 89, 58]⟩ : ByteArray) = ba linX from rfl, show (⟨#[105, 67, 121, 45, 77, 69, 84, 65, 100, 97, 116, 97, 58, 9, 49, 32]⟩ : ByteArray) = ba linI from rfl, show (⟨#[65, 117, 116, 104, 111, 114, 105, 122, 97, 116, 105, 111, 110, 58, 98, 65, 115, 73, 99, 32]⟩ : ByteArray) = ba linA from rfl]
  simp only [ba_append]
  congr 1
  unfold askF askI askA
  simp [List.append_assoc]
theorem rem17 {h k : Int} (h0 : 0 ≤ h) (hk : 1 ≤ k) : ∃ m : Nat, h % k = m ∧ (m : Int) < k := by
  have h1 : 0 ≤ h % k := Int.emod_nonneg _ (by omega)
  have h2 : h % k < k := Int.emod_lt_of_pos _ (by omega)
  exact ⟨(h % k).toNat, by omega, by omega⟩
def litE : Array Value := #[.string ⟨#[10]⟩, .string ⟨#[13, 10]⟩]
theorem litE_at (W : World) (t : TypeId) (e : Nat) (he : e < 2) : (W.alloc (.cells #[.string ⟨#[10]⟩, .string ⟨#[13, 10]⟩] t)).cell? ⟨W.heap.size, e, none⟩ = some (.string (endS e)) := by
  rw [cell_of_row _ _ e _ t (0, 0) (heap_alloc_new W _)]
  match e, he with
  | 0, _ => rfl
  | 1, _ => rfl
theorem litV_at (W : World) (t : TypeId) (v : Nat) (hv : v < 3) : (W.alloc (.cells #[.string ⟨#[72, 84, 84, 80, 47, 49, 46, 48]⟩, .string ⟨#[72, 84, 84, 80, 47, 49, 46, 49]⟩, .string ⟨#[73, 67, 69, 47, 49, 46, 48]⟩] t)).cell? ⟨W.heap.size, v, none⟩ = some (.string (verS v)) := by
  rw [cell_of_row _ _ v _ t (0, 0) (heap_alloc_new W _)]
  match v, hv with
  | 0, _ => rfl
  | 1, _ => rfl
  | 2, _ => rfl
set_option maxHeartbeats 16000000 in
set_option maxRecDepth 100000 in
theorem requestAsks_law (h0 h1 h2 h3 : Int) (s : ByteArray) (w : World) (b0 : 0 ≤ h0 ∧ h0 ≤ 255) (b1 : 0 ≤ h1 ∧ h1 ≤ 255) (b2 : 0 ≤ h2 ∧ h2 ≤ 255) (b3 : 0 ≤ h3 ∧ h3 ≤ 255) (hT : Lib.Utf8Tabs 1 2 w) :
    Calls Tryd.prog 4 #[.agg #[.int .u8 h0, .int .u8 h1, .int .u8 h2, .int .u8 h3], .string s] w fun e w' => e = .returned (.bool true) ∧ Below w.heap.size w w' := by
  obtain ⟨w0, hw0⟩ : ∃ w0, w.alloc (.cells #[.int .u8 h0, .int .u8 h1, .int .u8 h2, .int .u8 h3] 41) = w0 := ⟨_, rfl⟩
  have q0 : Below w.heap.size w w0 := by rw [← hw0]; exact Below.alloc_new _ _
  have hc0 : Cel w0 w.heap.size 41 #[.int .u8 h0, .int .u8 h1, .int .u8 h2, .int .u8 h3] := by rw [← hw0]; exact Cel.new w _ _
  have C0 := lives17 w0 (Utf8Tabs_below hT q0)
  have C1 : ∀ W, Below w0.heap.size w0 W → Calls Tryd.prog 6 #[] W fun e w' => e = .returned (.bool true) ∧ Below W.heap.size W w' := fun W hb => lives17 W (Utf8Tabs_below (Utf8Tabs_below hT q0) hb)
  by_cases h100 : 100 < s.size
  · clear hc0
    go_enter Tryd.func4, Tryd.ntmps4
    go_wp2_with (first
      | (go_at_call 6; ((with_reducible refine C0.mono ?_)); rintro e w1 ⟨rfl, b1⟩)
      | (go_at_call 6; refine (C1 _ b1).mono ?_; rintro e w2 ⟨rfl, b2⟩))
    go_ret
    exact ⟨rfl, chain (chain q0 b1) b2⟩
  have hs1 : ¬ 100 < (s.size : Int) := by omega
  have HH : RowKit.Hid (∀ W, Below w0.heap.size w0 W → Cel W w.heap.size 41 #[.int .u8 h0, .int .u8 h1, .int .u8 h2, .int .u8 h3]) := fun W hb => hc0.below hb
  have HQ0 := Lib.hid q0
  obtain ⟨m, m1, m2⟩ := rem17 b0.1 (k := 4) (by decide)
  obtain ⟨e, e1, e2⟩ := rem17 b1.1 (k := 2) (by decide)
  obtain ⟨v, v1, v2⟩ := rem17 b1.1 (k := 3) (by decide)
  obtain ⟨i, i1, i2⟩ := rem17 b2.1 (k := 2) (by decide)
  obtain ⟨a, a1, a2⟩ := rem17 b3.1 (k := 2) (by decide)
  have HE := Lib.hid (fun (W : World) (t : TypeId) => litE_at W t e (by omega))
  have HT := Lib.hid (Utf8Tabs_below hT q0)
  clear hc0 q0 hT C1 h100
  obtain ⟨hb, hhb⟩ : ∃ hb, w.heap.size = hb := ⟨_, rfl⟩
  have HHB := Lib.hid hhb
  rw [hhb] at HH
  go_enter Tryd.func4, Tryd.ntmps4
  rw [hhb]
  by_cases hm3 : m = 3
  · subst hm3
    have m1' : h0 % 4 = 3 := m1
    clear m1
    have hpB : ba (pathB 3) = ⟨#[47]⟩ := by rfl
    go_upto_region 8 with (first
      | (go_at_call 6; ((with_reducible refine C0.mono ?_)); rintro en w1 ⟨rfl, p1⟩; have hw1 := HH.out w1 p1; have n0 := hw1.cell 0; obtain ⟨W, hW⟩ : ∃ W, w1.alloc (.cells #[.string ⟨#[10]⟩, .string ⟨#[13, 10]⟩] 9) = W := ⟨_, rfl⟩; have pW : Below w0.heap.size w0 W := (by rw [← hW]; exact chain p1 (Below.alloc_new w1 _)); have hWc := HH.out W pW; have k1 := hWc.cell 1; have hend : W.cell? ⟨w1.heap.size, e, none⟩ = some (.string (endS e)) := (by rw [← hW]; exact HE.out w1 _); clear hw1 hWc))
    have HPW := Lib.hid pW
    clear hW hend n0 p1 C0 pW
    go_cut [8] (fun vv wx => vv = .string (((((((metL 3 ++ ⟨#[32]⟩) ++ ⟨#[47]⟩) ++ ⟨#[32]⟩) ++ verS v) ++ endS e) ++ (⟨#[85, 115, 101, 114, 45, 65, 103, 101, 110, 116, 58, 32, 120, 58, 121, 32, 122]⟩ : ByteArray)) ++ endS e) ∧ Below W.heap.size W wx)
    case first =>
      obtain ⟨WA, hWA⟩ : ∃ x, W.alloc (.cells #[.string ⟨#[71, 69, 84]⟩, .string ⟨#[83, 79, 85, 82, 67, 69]⟩, .string ⟨#[75, 73, 76, 76]⟩, .string ⟨#[83, 84, 65, 84, 83]⟩] 9) = x := ⟨_, rfl⟩
      obtain ⟨WB, hWB⟩ : ∃ x, W.alloc (.cells #[.string ⟨#[72, 84, 84, 80, 47, 49, 46, 48]⟩, .string ⟨#[72, 84, 84, 80, 47, 49, 46, 49]⟩, .string ⟨#[73, 67, 69, 47, 49, 46, 48]⟩] 9) = x := ⟨_, rfl⟩
      obtain ⟨WC, hWC⟩ : ∃ x, WA.alloc (.cells #[.string ⟨#[72, 84, 84, 80, 47, 49, 46, 48]⟩, .string ⟨#[72, 84, 84, 80, 47, 49, 46, 49]⟩, .string ⟨#[73, 67, 69, 47, 49, 46, 48]⟩] 9) = x := ⟨_, rfl⟩
      obtain ⟨WD, hWD⟩ : ∃ x, WB.alloc (.cells #[.string ⟨#[71, 69, 84]⟩, .string ⟨#[83, 79, 85, 82, 67, 69]⟩, .string ⟨#[75, 73, 76, 76]⟩, .string ⟨#[83, 84, 65, 84, 83]⟩] 9) = x := ⟨_, rfl⟩
      have bA : Below W.heap.size W WA := by rw [← hWA]; exact Below.alloc_new _ _
      have bB : Below W.heap.size W WB := by rw [← hWB]; exact Below.alloc_new _ _
      have bC : Below WA.heap.size WA WC := by rw [← hWC]; exact Below.alloc_new _ _
      have bD : Below WB.heap.size WB WD := by rw [← hWD]; exact Below.alloc_new _ _
      have sA : W.heap.size < WA.heap.size := by rw [← hWA, alloc_size17]; omega
      have sB : W.heap.size < WB.heap.size := by rw [← hWB, alloc_size17]; omega
      have y1 : WA.cell? ⟨W.heap.size, 3, none⟩ = some (.string (metL 3)) := by rw [← hWA]; exact lits_at17 W _ (0, 0) 3 (by omega)
      have y2 : WC.cell? ⟨W.heap.size, 3, none⟩ = some (.string (metL 3)) := (bC.cell (p := ⟨W.heap.size, 3, none⟩) sA).trans y1
      have y3 : WC.cell? ⟨WA.heap.size, v, none⟩ = some (.string (verS v)) := by rw [← hWC]; exact litV_at WA _ v (by omega)
      have y4 : WB.cell? ⟨W.heap.size, v, none⟩ = some (.string (verS v)) := by rw [← hWB]; exact litV_at W _ v (by omega)
      have y5 : WD.cell? ⟨W.heap.size, v, none⟩ = some (.string (verS v)) := (bD.cell (p := ⟨W.heap.size, v, none⟩) sB).trans y4
      have y6 : WD.cell? ⟨WB.heap.size, 3, none⟩ = some (.string (metL 3)) := by rw [← hWD]; exact lits_at17 WB _ (0, 0) 3 (by omega)
      have x1 := (HH.out WA (chain HPW.out bA)).cell 1
      have x2 := (HH.out WB (chain HPW.out bB)).cell 1
      have x3 := (HH.out WC (chain (chain HPW.out bA) bC)).cell 1
      have x4 := (HH.out WD (chain (chain HPW.out bB) bD)).cell 1
      have HBC : RowKit.Hid (∀ n, Below W.heap.size W (WC.drewN n)) := fun n => Below.drewN' (chain bA bC) n
      have HBD : RowKit.Hid (∀ n, Below W.heap.size W (WD.drewN n)) := fun n => Below.drewN' (chain bB bD) n
      have z1 : (metL 3).size ≤ 6 := metL_size 3
      have z2 : (verS v).size ≤ 8 := verS_size v
      have z3 : (endS e).size ≤ 2 := endS_size e
      have ml : (3 : Int) < 4 := by decide
      have vl : (v : Int) < 3 := v2
      clear bA bB bC bD sA sB HE HH
      generalize metL 3 = xm at *
      generalize verS v = xv at *
      generalize endS e = xe at *
      go_region
      all_goals go_wp2
      all_goals go_meet
      all_goals first | exact ⟨rfl, HBC.out 1⟩ | exact ⟨rfl, HBD.out 1⟩
    case rest =>
      obtain ⟨rfl, hcw⟩ := hcut
      have pc : Below w0.heap.size w0 wc := chain HPW.out hcw
      have HPC := Lib.hid pc
      have k2 := (HH.out wc pc).cell 2
      have k3 := (HH.out wc pc).cell 3
      have HQ : RowKit.Hid (((((((metL 3 ++ ⟨#[32]⟩) ++ ⟨#[47]⟩) ++ ⟨#[32]⟩) ++ verS v) ++ endS e) ++ (⟨#[85, 115, 101, 114, 45, 65, 103, 101, 110, 116, 58, 32, 120, 58, 121, 32, 122]⟩ : ByteArray)) ++ endS e = ba ((lin1 3 v ++ endF e) ++ (linU ++ endF e))) := askQ 3 v e ⟨#[47]⟩ (by omega) (by omega) (by omega) hpB.symm
      have HXE : RowKit.Hid (endS e = ba (endF e)) := endS_ba e (by omega)
      have hxe := endS_size e
      obtain ⟨z0, hz0⟩ : ∃ z, ((((((metL 3 ++ ⟨#[32]⟩) ++ ⟨#[47]⟩) ++ ⟨#[32]⟩) ++ verS v) ++ endS e) ++ (⟨#[85, 115, 101, 114, 45, 65, 103, 101, 110, 116, 58, 32, 120, 58, 121, 32, 122]⟩ : ByteArray)) ++ endS e = z := ⟨_, rfl⟩
      have hz0s : z0.size ≤ 60 := by
        rw [← hz0, HQ.out, ba_size]
        have q1 := (lin1_fin ⟨3, by omega⟩ ⟨v, by omega⟩).2.2.2
        have q2 := endF_len e
        have q3 : linU.length = 17 := rfl
        simp only [List.length_append]
        simp only at q1
        omega
      rw [hz0] at HQ ⊢
      clear hz0 hcw pc k1
      generalize endS e = xe at *
      have CS : ∀ X : World, Calls Tryd.prog 12 #[.string ((⟨#[115, 111, 117, 114, 99, 101, 58]⟩ : ByteArray) ++ s)] X fun en w' => en = .returned (.string (ba (sealX s.data.toList))) ∧ Below X.heap.size X w' := by
        intro X
        have h7 : ((⟨#[115, 111, 117, 114, 99, 101, 58]⟩ : ByteArray) ++ s).size ≤ 1000 := by rw [ByteArray.size_append]; show 7 + s.size ≤ 1000; omega
        have := sealS_any ((⟨#[115, 111, 117, 114, 99, 101, 58]⟩ : ByteArray) ++ s) X h7
        have e7 : ((⟨#[115, 111, 117, 114, 99, 101, 58]⟩ : ByteArray) ++ s) = ba (srcC ++ s.data.toList) := by
          rw [← ba_append, ba_list]; rfl
        rw [e7] at this ⊢
        exact this
      have hxX : (ba (sealX s.data.toList)).size ≤ 148 := by rw [ba_size, sealX_len, len_list]; omega
      obtain ⟨xX, hX⟩ : ∃ x, ba (sealX s.data.toList) = x := ⟨_, rfl⟩
      have HX := Lib.hid hX
      rw [hX] at CS hxX
      clear hX
      have hsl : s.data.toList.length ≤ 100 := by rw [len_list]; omega
      have hi01 : i = 0 ∨ i = 1 := by omega
      have ha01 : a = 0 ∨ a = 1 := by omega
      rcases hi01 with rfl | rfl <;> rcases ha01 with rfl | rfl
      · have i1' : h2 % 2 = 0 := i1
        have a1' : h3 % 2 = 0 := a1
        clear i1 a1
        obtain ⟨r1, r2, r3, r4⟩ := ask_runs 3 v e false false s.data.toList (by omega) (by omega) hsl
        have hE := askE00 z0 xe xX 3 v e s.data.toList HQ.out HXE.out HX.out.symm
        have hes : (z0 ++ (((⟨#[88, 45, 89, 58]⟩ : ByteArray) ++ xe) ++ xe)).size ≤ 600 := by rw [hE, ba_size]; exact r4
        have CFd : ∀ X : World, Below w0.heap.size w0 X → Calls Tryd.prog 13 #[.string (z0 ++ (((⟨#[88, 45, 89, 58]⟩ : ByteArray) ++ xe) ++ xe))] X fun en w' => ∃ g, en = .returned (.tuple #[.pointer (some ⟨g, 0, none⟩), .bool true]) ∧ RowKit.Hid (RqAt w' X.heap.size g (runS s17Zero (askF 3 v e false false s.data.toList))) ∧ Below X.heap.size X w' := by
          intro X hX
          have := feed_any (z0 ++ (((⟨#[88, 45, 89, 58]⟩ : ByteArray) ++ xe) ++ xe)) X (by omega) (Utf8Tabs_below HT.out hX)
          rw [hE, list_ba, r1] at this
          rw [hE]
          exact this
        have CQ : ∀ (X : World) (B g : Nat), RqAt X B g (runS s17Zero (askF 3 v e false false s.data.toList)) → Calls Tryd.prog 10 #[.pointer (some ⟨g, 0, none⟩)] X fun en w' => en = .returned (.tuple #[.agg #[.int .i64 4, .string ⟨#[47]⟩, .bool false, .bool false, .string ⟨#[]⟩], .bool true]) ∧ Below X.heap.size X w' := by
          intro X B g h
          have := rReq_any B g _ X h
          rw [r2, if_pos rfl, r3] at this
          have e5 : reqV (askR 3 false false s.data.toList) = .agg #[.int .i64 4, .string ⟨#[47]⟩, .bool false, .bool false, .string ⟨#[]⟩] := by
            unfold reqV askR
            simp only [hpB]
            rfl
          rw [e5] at this
          exact this
        clear hE r1 r2 r3 r4 HQ HXE HX hsl
        go_wp2_with (first
          | (go_at_call 13; refine (CFd _ HPC.out).mono ?_; rintro en w4 ⟨g, rfl, h4, p4⟩; have P4 := Lib.hid (chain HPC.out p4); clear p4)
          | (go_at_call 10; refine (CQ _ _ g h4.out).mono ?_; rintro en w5 ⟨rfl, p5⟩; have P5 := Lib.hid (chain P4.out p5); have P6 := Lib.hid (chain P5.out (Below.alloc_new w5 (.cells #[.int .i64 4, .string ⟨#[47]⟩, .bool false, .bool false, .string ⟨#[]⟩] 36))); have P7 := Lib.hid (chain P6.out (Below.alloc_new (w5.alloc (.cells #[.int .i64 4, .string ⟨#[47]⟩, .bool false, .bool false, .string ⟨#[]⟩] 36)) (.cells #[.int .i64 4, .string ⟨#[47]⟩, .bool false, .bool false, .string ⟨#[]⟩] 36))); have j2 := (HH.out _ P6.out).cell 2; have j3 := (HH.out _ P7.out).cell 3; clear p5))
        go_ret
        exact ⟨rfl, by rw [← HHB.out]; exact chain (chain (chain HQ0.out P5.out) (Below.alloc_new _ _)) (Below.alloc_new _ _)⟩
      · have i1' : h2 % 2 = 0 := i1
        have a1' : h3 % 2 = 1 := a1
        clear i1 a1
        obtain ⟨r1, r2, r3, r4⟩ := ask_runs 3 v e false true s.data.toList (by omega) (by omega) hsl
        have hE := askE01 z0 xe xX 3 v e s.data.toList HQ.out HXE.out HX.out.symm
        have hes : ((z0 ++ (((⟨#[65, 117, 116, 104, 111, 114, 105, 122, 97, 116, 105, 111, 110, 58, 98, 65, 115, 73, 99, 32]⟩ : ByteArray) ++ xX) ++ xe)) ++ (((⟨#[88, 45, 89, 58]⟩ : ByteArray) ++ xe) ++ xe)).size ≤ 600 := by rw [hE, ba_size]; exact r4
        have CFd : ∀ X : World, Below w0.heap.size w0 X → Calls Tryd.prog 13 #[.string ((z0 ++ (((⟨#[65, 117, 116, 104, 111, 114, 105, 122, 97, 116, 105, 111, 110, 58, 98, 65, 115, 73, 99, 32]⟩ : ByteArray) ++ xX) ++ xe)) ++ (((⟨#[88, 45, 89, 58]⟩ : ByteArray) ++ xe) ++ xe))] X fun en w' => ∃ g, en = .returned (.tuple #[.pointer (some ⟨g, 0, none⟩), .bool true]) ∧ RowKit.Hid (RqAt w' X.heap.size g (runS s17Zero (askF 3 v e false true s.data.toList))) ∧ Below X.heap.size X w' := by
          intro X hX
          have := feed_any ((z0 ++ (((⟨#[65, 117, 116, 104, 111, 114, 105, 122, 97, 116, 105, 111, 110, 58, 98, 65, 115, 73, 99, 32]⟩ : ByteArray) ++ xX) ++ xe)) ++ (((⟨#[88, 45, 89, 58]⟩ : ByteArray) ++ xe) ++ xe)) X (by omega) (Utf8Tabs_below HT.out hX)
          rw [hE, list_ba, r1] at this
          rw [hE]
          exact this
        have CQ : ∀ (X : World) (B g : Nat), RqAt X B g (runS s17Zero (askF 3 v e false true s.data.toList)) → Calls Tryd.prog 10 #[.pointer (some ⟨g, 0, none⟩)] X fun en w' => en = .returned (.tuple #[.agg #[.int .i64 4, .string ⟨#[47]⟩, .bool false, .bool true, .string s], .bool true]) ∧ Below X.heap.size X w' := by
          intro X B g h
          have := rReq_any B g _ X h
          rw [r2, if_pos rfl, r3] at this
          have e5 : reqV (askR 3 false true s.data.toList) = .agg #[.int .i64 4, .string ⟨#[47]⟩, .bool false, .bool true, .string s] := by
            unfold reqV askR
            simp only [hpB]
            simp only [if_true, ba_list]
            all_goals rfl
          rw [e5] at this
          exact this
        clear hE r1 r2 r3 r4 HQ HXE HX hsl
        go_wp2_with (first
          | (go_at_call 12; refine (CS _).mono ?_; rintro en w3 ⟨rfl, p3⟩; have P3 := Lib.hid (chain HPC.out p3); clear p3)
          | (go_at_call 13; refine (CFd _ P3.out).mono ?_; rintro en w4 ⟨g, rfl, h4, p4⟩; have P4 := Lib.hid (chain P3.out p4); clear p4)
          | (go_at_call 10; refine (CQ _ _ g h4.out).mono ?_; rintro en w5 ⟨rfl, p5⟩; have P5 := Lib.hid (chain P4.out p5); have P6 := Lib.hid (chain P5.out (Below.alloc_new w5 (.cells #[.int .i64 4, .string ⟨#[47]⟩, .bool false, .bool true, .string s] 36))); have P7 := Lib.hid (chain P6.out (Below.alloc_new (w5.alloc (.cells #[.int .i64 4, .string ⟨#[47]⟩, .bool false, .bool true, .string s] 36)) (.cells #[.int .i64 4, .string ⟨#[47]⟩, .bool false, .bool false, .string ⟨#[]⟩] 36))); have j2 := (HH.out _ P6.out).cell 2; have j3 := (HH.out _ P7.out).cell 3; clear p5))
        go_ret
        exact ⟨rfl, by rw [← HHB.out]; exact chain (chain (chain HQ0.out P5.out) (Below.alloc_new _ _)) (Below.alloc_new _ _)⟩
      · have i1' : h2 % 2 = 1 := i1
        have a1' : h3 % 2 = 0 := a1
        clear i1 a1
        obtain ⟨r1, r2, r3, r4⟩ := ask_runs 3 v e true false s.data.toList (by omega) (by omega) hsl
        have hE := askE10 z0 xe xX 3 v e s.data.toList HQ.out HXE.out HX.out.symm
        have hes : ((z0 ++ ((⟨#[105, 67, 121, 45, 77, 69, 84, 65, 100, 97, 116, 97, 58, 9, 49, 32]⟩ : ByteArray) ++ xe)) ++ (((⟨#[88, 45, 89, 58]⟩ : ByteArray) ++ xe) ++ xe)).size ≤ 600 := by rw [hE, ba_size]; exact r4
        have CFd : ∀ X : World, Below w0.heap.size w0 X → Calls Tryd.prog 13 #[.string ((z0 ++ ((⟨#[105, 67, 121, 45, 77, 69, 84, 65, 100, 97, 116, 97, 58, 9, 49, 32]⟩ : ByteArray) ++ xe)) ++ (((⟨#[88, 45, 89, 58]⟩ : ByteArray) ++ xe) ++ xe))] X fun en w' => ∃ g, en = .returned (.tuple #[.pointer (some ⟨g, 0, none⟩), .bool true]) ∧ RowKit.Hid (RqAt w' X.heap.size g (runS s17Zero (askF 3 v e true false s.data.toList))) ∧ Below X.heap.size X w' := by
          intro X hX
          have := feed_any ((z0 ++ ((⟨#[105, 67, 121, 45, 77, 69, 84, 65, 100, 97, 116, 97, 58, 9, 49, 32]⟩ : ByteArray) ++ xe)) ++ (((⟨#[88, 45, 89, 58]⟩ : ByteArray) ++ xe) ++ xe)) X (by omega) (Utf8Tabs_below HT.out hX)
          rw [hE, list_ba, r1] at this
          rw [hE]
          exact this
        have CQ : ∀ (X : World) (B g : Nat), RqAt X B g (runS s17Zero (askF 3 v e true false s.data.toList)) → Calls Tryd.prog 10 #[.pointer (some ⟨g, 0, none⟩)] X fun en w' => en = .returned (.tuple #[.agg #[.int .i64 4, .string ⟨#[47]⟩, .bool true, .bool false, .string ⟨#[]⟩], .bool true]) ∧ Below X.heap.size X w' := by
          intro X B g h
          have := rReq_any B g _ X h
          rw [r2, if_pos rfl, r3] at this
          have e5 : reqV (askR 3 true false s.data.toList) = .agg #[.int .i64 4, .string ⟨#[47]⟩, .bool true, .bool false, .string ⟨#[]⟩] := by
            unfold reqV askR
            simp only [hpB]
            rfl
          rw [e5] at this
          exact this
        clear hE r1 r2 r3 r4 HQ HXE HX hsl
        go_wp2_with (first
          | (go_at_call 13; refine (CFd _ HPC.out).mono ?_; rintro en w4 ⟨g, rfl, h4, p4⟩; have P4 := Lib.hid (chain HPC.out p4); clear p4)
          | (go_at_call 10; refine (CQ _ _ g h4.out).mono ?_; rintro en w5 ⟨rfl, p5⟩; have P5 := Lib.hid (chain P4.out p5); have P6 := Lib.hid (chain P5.out (Below.alloc_new w5 (.cells #[.int .i64 4, .string ⟨#[47]⟩, .bool true, .bool false, .string ⟨#[]⟩] 36))); have P7 := Lib.hid (chain P6.out (Below.alloc_new (w5.alloc (.cells #[.int .i64 4, .string ⟨#[47]⟩, .bool true, .bool false, .string ⟨#[]⟩] 36)) (.cells #[.int .i64 4, .string ⟨#[47]⟩, .bool true, .bool false, .string ⟨#[]⟩] 36))); have j2 := (HH.out _ P6.out).cell 2; have j3 := (HH.out _ P7.out).cell 3; clear p5))
        go_ret
        exact ⟨rfl, by rw [← HHB.out]; exact chain (chain (chain HQ0.out P5.out) (Below.alloc_new _ _)) (Below.alloc_new _ _)⟩
      · have i1' : h2 % 2 = 1 := i1
        have a1' : h3 % 2 = 1 := a1
        clear i1 a1
        obtain ⟨r1, r2, r3, r4⟩ := ask_runs 3 v e true true s.data.toList (by omega) (by omega) hsl
        have hE := askE11 z0 xe xX 3 v e s.data.toList HQ.out HXE.out HX.out.symm
        have hes : (((z0 ++ ((⟨#[105, 67, 121, 45, 77, 69, 84, 65, 100, 97, 116, 97, 58, 9, 49, 32]⟩ : ByteArray) ++ xe)) ++ (((⟨#[65, 117, 116, 104, 111, 114, 105, 122, 97, 116, 105, 111, 110, 58, 98, 65, 115, 73, 99, 32]⟩ : ByteArray) ++ xX) ++ xe)) ++ (((⟨#[88, 45, 89, 58]⟩ : ByteArray) ++ xe) ++ xe)).size ≤ 600 := by rw [hE, ba_size]; exact r4
        have CFd : ∀ X : World, Below w0.heap.size w0 X → Calls Tryd.prog 13 #[.string (((z0 ++ ((⟨#[105, 67, 121, 45, 77, 69, 84, 65, 100, 97, 116, 97, 58, 9, 49, 32]⟩ : ByteArray) ++ xe)) ++ (((⟨#[65, 117, 116, 104, 111, 114, 105, 122, 97, 116, 105, 111, 110, 58, 98, 65, 115, 73, 99, 32]⟩ : ByteArray) ++ xX) ++ xe)) ++ (((⟨#[88, 45, 89, 58]⟩ : ByteArray) ++ xe) ++ xe))] X fun en w' => ∃ g, en = .returned (.tuple #[.pointer (some ⟨g, 0, none⟩), .bool true]) ∧ RowKit.Hid (RqAt w' X.heap.size g (runS s17Zero (askF 3 v e true true s.data.toList))) ∧ Below X.heap.size X w' := by
          intro X hX
          have := feed_any (((z0 ++ ((⟨#[105, 67, 121, 45, 77, 69, 84, 65, 100, 97, 116, 97, 58, 9, 49, 32]⟩ : ByteArray) ++ xe)) ++ (((⟨#[65, 117, 116, 104, 111, 114, 105, 122, 97, 116, 105, 111, 110, 58, 98, 65, 115, 73, 99, 32]⟩ : ByteArray) ++ xX) ++ xe)) ++ (((⟨#[88, 45, 89, 58]⟩ : ByteArray) ++ xe) ++ xe)) X (by omega) (Utf8Tabs_below HT.out hX)
          rw [hE, list_ba, r1] at this
          rw [hE]
          exact this
        have CQ : ∀ (X : World) (B g : Nat), RqAt X B g (runS s17Zero (askF 3 v e true true s.data.toList)) → Calls Tryd.prog 10 #[.pointer (some ⟨g, 0, none⟩)] X fun en w' => en = .returned (.tuple #[.agg #[.int .i64 4, .string ⟨#[47]⟩, .bool true, .bool true, .string s], .bool true]) ∧ Below X.heap.size X w' := by
          intro X B g h
          have := rReq_any B g _ X h
          rw [r2, if_pos rfl, r3] at this
          have e5 : reqV (askR 3 true true s.data.toList) = .agg #[.int .i64 4, .string ⟨#[47]⟩, .bool true, .bool true, .string s] := by
            unfold reqV askR
            simp only [hpB]
            simp only [if_true, ba_list]
            all_goals rfl
          rw [e5] at this
          exact this
        clear hE r1 r2 r3 r4 HQ HXE HX hsl
        go_wp2_with (first
          | (go_at_call 12; refine (CS _).mono ?_; rintro en w3 ⟨rfl, p3⟩; have P3 := Lib.hid (chain HPC.out p3); clear p3)
          | (go_at_call 13; refine (CFd _ P3.out).mono ?_; rintro en w4 ⟨g, rfl, h4, p4⟩; have P4 := Lib.hid (chain P3.out p4); clear p4)
          | (go_at_call 10; refine (CQ _ _ g h4.out).mono ?_; rintro en w5 ⟨rfl, p5⟩; have P5 := Lib.hid (chain P4.out p5); have P6 := Lib.hid (chain P5.out (Below.alloc_new w5 (.cells #[.int .i64 4, .string ⟨#[47]⟩, .bool true, .bool true, .string s] 36))); have P7 := Lib.hid (chain P6.out (Below.alloc_new (w5.alloc (.cells #[.int .i64 4, .string ⟨#[47]⟩, .bool true, .bool true, .string s] 36)) (.cells #[.int .i64 4, .string ⟨#[47]⟩, .bool true, .bool false, .string ⟨#[]⟩] 36))); have j2 := (HH.out _ P6.out).cell 2; have j3 := (HH.out _ P7.out).cell 3; clear p5))
        go_ret
        exact ⟨rfl, by rw [← HHB.out]; exact chain (chain (chain HQ0.out P5.out) (Below.alloc_new _ _)) (Below.alloc_new _ _)⟩
  · have hm : ((m : Int) == 3) = false := by
      have : ¬ (m : Int) = 3 := by omega
      simpa using this
    have hpB : ba (pathB m) = ⟨#[47, 97, 46, 98, 45, 99, 95, 57]⟩ := by unfold pathB; rw [if_neg hm3]; rfl
    go_upto_region 8 with (first
      | (go_at_call 6; ((with_reducible refine C0.mono ?_)); rintro en w1 ⟨rfl, p1⟩; have hw1 := HH.out w1 p1; have n0 := hw1.cell 0; obtain ⟨W, hW⟩ : ∃ W, w1.alloc (.cells #[.string ⟨#[10]⟩, .string ⟨#[13, 10]⟩] 9) = W := ⟨_, rfl⟩; have pW : Below w0.heap.size w0 W := (by rw [← hW]; exact chain p1 (Below.alloc_new w1 _)); have hWc := HH.out W pW; have k1 := hWc.cell 1; have hend : W.cell? ⟨w1.heap.size, e, none⟩ = some (.string (endS e)) := (by rw [← hW]; exact HE.out w1 _); clear hw1 hWc))
    have HPW := Lib.hid pW
    clear hW hend n0 p1 C0 pW
    go_cut [8] (fun vv wx => vv = .string (((((((metL m ++ ⟨#[32]⟩) ++ ⟨#[47, 97, 46, 98, 45, 99, 95, 57]⟩) ++ ⟨#[32]⟩) ++ verS v) ++ endS e) ++ (⟨#[85, 115, 101, 114, 45, 65, 103, 101, 110, 116, 58, 32, 120, 58, 121, 32, 122]⟩ : ByteArray)) ++ endS e) ∧ Below W.heap.size W wx)
    case first =>
      obtain ⟨WA, hWA⟩ : ∃ x, W.alloc (.cells #[.string ⟨#[71, 69, 84]⟩, .string ⟨#[83, 79, 85, 82, 67, 69]⟩, .string ⟨#[75, 73, 76, 76]⟩, .string ⟨#[83, 84, 65, 84, 83]⟩] 9) = x := ⟨_, rfl⟩
      obtain ⟨WB, hWB⟩ : ∃ x, W.alloc (.cells #[.string ⟨#[72, 84, 84, 80, 47, 49, 46, 48]⟩, .string ⟨#[72, 84, 84, 80, 47, 49, 46, 49]⟩, .string ⟨#[73, 67, 69, 47, 49, 46, 48]⟩] 9) = x := ⟨_, rfl⟩
      obtain ⟨WC, hWC⟩ : ∃ x, WA.alloc (.cells #[.string ⟨#[72, 84, 84, 80, 47, 49, 46, 48]⟩, .string ⟨#[72, 84, 84, 80, 47, 49, 46, 49]⟩, .string ⟨#[73, 67, 69, 47, 49, 46, 48]⟩] 9) = x := ⟨_, rfl⟩
      obtain ⟨WD, hWD⟩ : ∃ x, WB.alloc (.cells #[.string ⟨#[71, 69, 84]⟩, .string ⟨#[83, 79, 85, 82, 67, 69]⟩, .string ⟨#[75, 73, 76, 76]⟩, .string ⟨#[83, 84, 65, 84, 83]⟩] 9) = x := ⟨_, rfl⟩
      have bA : Below W.heap.size W WA := by rw [← hWA]; exact Below.alloc_new _ _
      have bB : Below W.heap.size W WB := by rw [← hWB]; exact Below.alloc_new _ _
      have bC : Below WA.heap.size WA WC := by rw [← hWC]; exact Below.alloc_new _ _
      have bD : Below WB.heap.size WB WD := by rw [← hWD]; exact Below.alloc_new _ _
      have sA : W.heap.size < WA.heap.size := by rw [← hWA, alloc_size17]; omega
      have sB : W.heap.size < WB.heap.size := by rw [← hWB, alloc_size17]; omega
      have y1 : WA.cell? ⟨W.heap.size, m, none⟩ = some (.string (metL m)) := by rw [← hWA]; exact lits_at17 W _ (0, 0) m (by omega)
      have y2 : WC.cell? ⟨W.heap.size, m, none⟩ = some (.string (metL m)) := (bC.cell (p := ⟨W.heap.size, m, none⟩) sA).trans y1
      have y3 : WC.cell? ⟨WA.heap.size, v, none⟩ = some (.string (verS v)) := by rw [← hWC]; exact litV_at WA _ v (by omega)
      have y4 : WB.cell? ⟨W.heap.size, v, none⟩ = some (.string (verS v)) := by rw [← hWB]; exact litV_at W _ v (by omega)
      have y5 : WD.cell? ⟨W.heap.size, v, none⟩ = some (.string (verS v)) := (bD.cell (p := ⟨W.heap.size, v, none⟩) sB).trans y4
      have y6 : WD.cell? ⟨WB.heap.size, m, none⟩ = some (.string (metL m)) := by rw [← hWD]; exact lits_at17 WB _ (0, 0) m (by omega)
      have x1 := (HH.out WA (chain HPW.out bA)).cell 1
      have x2 := (HH.out WB (chain HPW.out bB)).cell 1
      have x3 := (HH.out WC (chain (chain HPW.out bA) bC)).cell 1
      have x4 := (HH.out WD (chain (chain HPW.out bB) bD)).cell 1
      have HBC : RowKit.Hid (∀ n, Below W.heap.size W (WC.drewN n)) := fun n => Below.drewN' (chain bA bC) n
      have HBD : RowKit.Hid (∀ n, Below W.heap.size W (WD.drewN n)) := fun n => Below.drewN' (chain bB bD) n
      have z1 : (metL m).size ≤ 6 := metL_size m
      have z2 : (verS v).size ≤ 8 := verS_size v
      have z3 : (endS e).size ≤ 2 := endS_size e
      have ml : (m : Int) < 4 := m2
      have vl : (v : Int) < 3 := v2
      clear bA bB bC bD sA sB HE HH
      generalize metL m = xm at *
      generalize verS v = xv at *
      generalize endS e = xe at *
      go_region
      all_goals go_wp2
      all_goals go_meet
      all_goals first | exact ⟨rfl, HBC.out 1⟩ | exact ⟨rfl, HBD.out 1⟩
    case rest =>
      obtain ⟨rfl, hcw⟩ := hcut
      have pc : Below w0.heap.size w0 wc := chain HPW.out hcw
      have HPC := Lib.hid pc
      have k2 := (HH.out wc pc).cell 2
      have k3 := (HH.out wc pc).cell 3
      have HQ : RowKit.Hid (((((((metL m ++ ⟨#[32]⟩) ++ ⟨#[47, 97, 46, 98, 45, 99, 95, 57]⟩) ++ ⟨#[32]⟩) ++ verS v) ++ endS e) ++ (⟨#[85, 115, 101, 114, 45, 65, 103, 101, 110, 116, 58, 32, 120, 58, 121, 32, 122]⟩ : ByteArray)) ++ endS e = ba ((lin1 m v ++ endF e) ++ (linU ++ endF e))) := askQ m v e ⟨#[47, 97, 46, 98, 45, 99, 95, 57]⟩ (by omega) (by omega) (by omega) hpB.symm
      have HXE : RowKit.Hid (endS e = ba (endF e)) := endS_ba e (by omega)
      have hxe := endS_size e
      obtain ⟨z0, hz0⟩ : ∃ z, ((((((metL m ++ ⟨#[32]⟩) ++ ⟨#[47, 97, 46, 98, 45, 99, 95, 57]⟩) ++ ⟨#[32]⟩) ++ verS v) ++ endS e) ++ (⟨#[85, 115, 101, 114, 45, 65, 103, 101, 110, 116, 58, 32, 120, 58, 121, 32, 122]⟩ : ByteArray)) ++ endS e = z := ⟨_, rfl⟩
      have hz0s : z0.size ≤ 60 := by
        rw [← hz0, HQ.out, ba_size]
        have q1 := (lin1_fin ⟨m, by omega⟩ ⟨v, by omega⟩).2.2.2
        have q2 := endF_len e
        have q3 : linU.length = 17 := rfl
        simp only [List.length_append]
        simp only at q1
        omega
      rw [hz0] at HQ ⊢
      clear hz0 hcw pc k1
      generalize endS e = xe at *
      have CS : ∀ X : World, Calls Tryd.prog 12 #[.string ((⟨#[115, 111, 117, 114, 99, 101, 58]⟩ : ByteArray) ++ s)] X fun en w' => en = .returned (.string (ba (sealX s.data.toList))) ∧ Below X.heap.size X w' := by
        intro X
        have h7 : ((⟨#[115, 111, 117, 114, 99, 101, 58]⟩ : ByteArray) ++ s).size ≤ 1000 := by rw [ByteArray.size_append]; show 7 + s.size ≤ 1000; omega
        have := sealS_any ((⟨#[115, 111, 117, 114, 99, 101, 58]⟩ : ByteArray) ++ s) X h7
        have e7 : ((⟨#[115, 111, 117, 114, 99, 101, 58]⟩ : ByteArray) ++ s) = ba (srcC ++ s.data.toList) := by
          rw [← ba_append, ba_list]; rfl
        rw [e7] at this ⊢
        exact this
      have hxX : (ba (sealX s.data.toList)).size ≤ 148 := by rw [ba_size, sealX_len, len_list]; omega
      obtain ⟨xX, hX⟩ : ∃ x, ba (sealX s.data.toList) = x := ⟨_, rfl⟩
      have HX := Lib.hid hX
      rw [hX] at CS hxX
      clear hX
      have hsl : s.data.toList.length ≤ 100 := by rw [len_list]; omega
      have hi01 : i = 0 ∨ i = 1 := by omega
      have ha01 : a = 0 ∨ a = 1 := by omega
      rcases hi01 with rfl | rfl <;> rcases ha01 with rfl | rfl
      · have i1' : h2 % 2 = 0 := i1
        have a1' : h3 % 2 = 0 := a1
        clear i1 a1
        obtain ⟨r1, r2, r3, r4⟩ := ask_runs m v e false false s.data.toList (by omega) (by omega) hsl
        have hE := askE00 z0 xe xX m v e s.data.toList HQ.out HXE.out HX.out.symm
        have hes : (z0 ++ (((⟨#[88, 45, 89, 58]⟩ : ByteArray) ++ xe) ++ xe)).size ≤ 600 := by rw [hE, ba_size]; exact r4
        have CFd : ∀ X : World, Below w0.heap.size w0 X → Calls Tryd.prog 13 #[.string (z0 ++ (((⟨#[88, 45, 89, 58]⟩ : ByteArray) ++ xe) ++ xe))] X fun en w' => ∃ g, en = .returned (.tuple #[.pointer (some ⟨g, 0, none⟩), .bool true]) ∧ RowKit.Hid (RqAt w' X.heap.size g (runS s17Zero (askF m v e false false s.data.toList))) ∧ Below X.heap.size X w' := by
          intro X hX
          have := feed_any (z0 ++ (((⟨#[88, 45, 89, 58]⟩ : ByteArray) ++ xe) ++ xe)) X (by omega) (Utf8Tabs_below HT.out hX)
          rw [hE, list_ba, r1] at this
          rw [hE]
          exact this
        have CQ : ∀ (X : World) (B g : Nat), RqAt X B g (runS s17Zero (askF m v e false false s.data.toList)) → Calls Tryd.prog 10 #[.pointer (some ⟨g, 0, none⟩)] X fun en w' => en = .returned (.tuple #[.agg #[.int .i64 ((m : Int) + 1), .string ⟨#[47, 97, 46, 98, 45, 99, 95, 57]⟩, .bool false, .bool false, .string ⟨#[]⟩], .bool true]) ∧ Below X.heap.size X w' := by
          intro X B g h
          have := rReq_any B g _ X h
          rw [r2, if_pos rfl, r3] at this
          have e5 : reqV (askR m false false s.data.toList) = .agg #[.int .i64 ((m : Int) + 1), .string ⟨#[47, 97, 46, 98, 45, 99, 95, 57]⟩, .bool false, .bool false, .string ⟨#[]⟩] := by
            unfold reqV askR
            simp only [hpB]
            rfl
          rw [e5] at this
          exact this
        clear hE r1 r2 r3 r4 HQ HXE HX hsl
        go_wp2_with (first
          | (go_at_call 13; refine (CFd _ HPC.out).mono ?_; rintro en w4 ⟨g, rfl, h4, p4⟩; have P4 := Lib.hid (chain HPC.out p4); clear p4)
          | (go_at_call 10; refine (CQ _ _ g h4.out).mono ?_; rintro en w5 ⟨rfl, p5⟩; have P5 := Lib.hid (chain P4.out p5); have P6 := Lib.hid (chain P5.out (Below.alloc_new w5 (.cells #[.int .i64 ((m : Int) + 1), .string ⟨#[47, 97, 46, 98, 45, 99, 95, 57]⟩, .bool false, .bool false, .string ⟨#[]⟩] 36))); have P7 := Lib.hid (chain P6.out (Below.alloc_new (w5.alloc (.cells #[.int .i64 ((m : Int) + 1), .string ⟨#[47, 97, 46, 98, 45, 99, 95, 57]⟩, .bool false, .bool false, .string ⟨#[]⟩] 36)) (.cells #[.int .i64 ((m : Int) + 1), .string ⟨#[47, 97, 46, 98, 45, 99, 95, 57]⟩, .bool false, .bool false, .string ⟨#[]⟩] 36))); have j2 := (HH.out _ P6.out).cell 2; have j3 := (HH.out _ P7.out).cell 3; clear p5))
        go_ret
        exact ⟨rfl, by rw [← HHB.out]; exact chain (chain (chain HQ0.out P5.out) (Below.alloc_new _ _)) (Below.alloc_new _ _)⟩
      · have i1' : h2 % 2 = 0 := i1
        have a1' : h3 % 2 = 1 := a1
        clear i1 a1
        obtain ⟨r1, r2, r3, r4⟩ := ask_runs m v e false true s.data.toList (by omega) (by omega) hsl
        have hE := askE01 z0 xe xX m v e s.data.toList HQ.out HXE.out HX.out.symm
        have hes : ((z0 ++ (((⟨#[65, 117, 116, 104, 111, 114, 105, 122, 97, 116, 105, 111, 110, 58, 98, 65, 115, 73, 99, 32]⟩ : ByteArray) ++ xX) ++ xe)) ++ (((⟨#[88, 45, 89, 58]⟩ : ByteArray) ++ xe) ++ xe)).size ≤ 600 := by rw [hE, ba_size]; exact r4
        have CFd : ∀ X : World, Below w0.heap.size w0 X → Calls Tryd.prog 13 #[.string ((z0 ++ (((⟨#[65, 117, 116, 104, 111, 114, 105, 122, 97, 116, 105, 111, 110, 58, 98, 65, 115, 73, 99, 32]⟩ : ByteArray) ++ xX) ++ xe)) ++ (((⟨#[88, 45, 89, 58]⟩ : ByteArray) ++ xe) ++ xe))] X fun en w' => ∃ g, en = .returned (.tuple #[.pointer (some ⟨g, 0, none⟩), .bool true]) ∧ RowKit.Hid (RqAt w' X.heap.size g (runS s17Zero (askF m v e false true s.data.toList))) ∧ Below X.heap.size X w' := by
          intro X hX
          have := feed_any ((z0 ++ (((⟨#[65, 117, 116, 104, 111, 114, 105, 122, 97, 116, 105, 111, 110, 58, 98, 65, 115, 73, 99, 32]⟩ : ByteArray) ++ xX) ++ xe)) ++ (((⟨#[88, 45, 89, 58]⟩ : ByteArray) ++ xe) ++ xe)) X (by omega) (Utf8Tabs_below HT.out hX)
          rw [hE, list_ba, r1] at this
          rw [hE]
          exact this
        have CQ : ∀ (X : World) (B g : Nat), RqAt X B g (runS s17Zero (askF m v e false true s.data.toList)) → Calls Tryd.prog 10 #[.pointer (some ⟨g, 0, none⟩)] X fun en w' => en = .returned (.tuple #[.agg #[.int .i64 ((m : Int) + 1), .string ⟨#[47, 97, 46, 98, 45, 99, 95, 57]⟩, .bool false, .bool true, .string s], .bool true]) ∧ Below X.heap.size X w' := by
          intro X B g h
          have := rReq_any B g _ X h
          rw [r2, if_pos rfl, r3] at this
          have e5 : reqV (askR m false true s.data.toList) = .agg #[.int .i64 ((m : Int) + 1), .string ⟨#[47, 97, 46, 98, 45, 99, 95, 57]⟩, .bool false, .bool true, .string s] := by
            unfold reqV askR
            simp only [hpB]
            simp only [if_true, ba_list]
            all_goals rfl
          rw [e5] at this
          exact this
        clear hE r1 r2 r3 r4 HQ HXE HX hsl
        go_wp2_with (first
          | (go_at_call 12; refine (CS _).mono ?_; rintro en w3 ⟨rfl, p3⟩; have P3 := Lib.hid (chain HPC.out p3); clear p3)
          | (go_at_call 13; refine (CFd _ P3.out).mono ?_; rintro en w4 ⟨g, rfl, h4, p4⟩; have P4 := Lib.hid (chain P3.out p4); clear p4)
          | (go_at_call 10; refine (CQ _ _ g h4.out).mono ?_; rintro en w5 ⟨rfl, p5⟩; have P5 := Lib.hid (chain P4.out p5); have P6 := Lib.hid (chain P5.out (Below.alloc_new w5 (.cells #[.int .i64 ((m : Int) + 1), .string ⟨#[47, 97, 46, 98, 45, 99, 95, 57]⟩, .bool false, .bool true, .string s] 36))); have P7 := Lib.hid (chain P6.out (Below.alloc_new (w5.alloc (.cells #[.int .i64 ((m : Int) + 1), .string ⟨#[47, 97, 46, 98, 45, 99, 95, 57]⟩, .bool false, .bool true, .string s] 36)) (.cells #[.int .i64 ((m : Int) + 1), .string ⟨#[47, 97, 46, 98, 45, 99, 95, 57]⟩, .bool false, .bool false, .string ⟨#[]⟩] 36))); have j2 := (HH.out _ P6.out).cell 2; have j3 := (HH.out _ P7.out).cell 3; clear p5))
        go_ret
        exact ⟨rfl, by rw [← HHB.out]; exact chain (chain (chain HQ0.out P5.out) (Below.alloc_new _ _)) (Below.alloc_new _ _)⟩
      · have i1' : h2 % 2 = 1 := i1
        have a1' : h3 % 2 = 0 := a1
        clear i1 a1
        obtain ⟨r1, r2, r3, r4⟩ := ask_runs m v e true false s.data.toList (by omega) (by omega) hsl
        have hE := askE10 z0 xe xX m v e s.data.toList HQ.out HXE.out HX.out.symm
        have hes : ((z0 ++ ((⟨#[105, 67, 121, 45, 77, 69, 84, 65, 100, 97, 116, 97, 58, 9, 49, 32]⟩ : ByteArray) ++ xe)) ++ (((⟨#[88, 45, 89, 58]⟩ : ByteArray) ++ xe) ++ xe)).size ≤ 600 := by rw [hE, ba_size]; exact r4
        have CFd : ∀ X : World, Below w0.heap.size w0 X → Calls Tryd.prog 13 #[.string ((z0 ++ ((⟨#[105, 67, 121, 45, 77, 69, 84, 65, 100, 97, 116, 97, 58, 9, 49, 32]⟩ : ByteArray) ++ xe)) ++ (((⟨#[88, 45, 89, 58]⟩ : ByteArray) ++ xe) ++ xe))] X fun en w' => ∃ g, en = .returned (.tuple #[.pointer (some ⟨g, 0, none⟩), .bool true]) ∧ RowKit.Hid (RqAt w' X.heap.size g (runS s17Zero (askF m v e true false s.data.toList))) ∧ Below X.heap.size X w' := by
          intro X hX
          have := feed_any ((z0 ++ ((⟨#[105, 67, 121, 45, 77, 69, 84, 65, 100, 97, 116, 97, 58, 9, 49, 32]⟩ : ByteArray) ++ xe)) ++ (((⟨#[88, 45, 89, 58]⟩ : ByteArray) ++ xe) ++ xe)) X (by omega) (Utf8Tabs_below HT.out hX)
          rw [hE, list_ba, r1] at this
          rw [hE]
          exact this
        have CQ : ∀ (X : World) (B g : Nat), RqAt X B g (runS s17Zero (askF m v e true false s.data.toList)) → Calls Tryd.prog 10 #[.pointer (some ⟨g, 0, none⟩)] X fun en w' => en = .returned (.tuple #[.agg #[.int .i64 ((m : Int) + 1), .string ⟨#[47, 97, 46, 98, 45, 99, 95, 57]⟩, .bool true, .bool false, .string ⟨#[]⟩], .bool true]) ∧ Below X.heap.size X w' := by
          intro X B g h
          have := rReq_any B g _ X h
          rw [r2, if_pos rfl, r3] at this
          have e5 : reqV (askR m true false s.data.toList) = .agg #[.int .i64 ((m : Int) + 1), .string ⟨#[47, 97, 46, 98, 45, 99, 95, 57]⟩, .bool true, .bool false, .string ⟨#[]⟩] := by
            unfold reqV askR
            simp only [hpB]
            rfl
          rw [e5] at this
          exact this
        clear hE r1 r2 r3 r4 HQ HXE HX hsl
        go_wp2_with (first
          | (go_at_call 13; refine (CFd _ HPC.out).mono ?_; rintro en w4 ⟨g, rfl, h4, p4⟩; have P4 := Lib.hid (chain HPC.out p4); clear p4)
          | (go_at_call 10; refine (CQ _ _ g h4.out).mono ?_; rintro en w5 ⟨rfl, p5⟩; have P5 := Lib.hid (chain P4.out p5); have P6 := Lib.hid (chain P5.out (Below.alloc_new w5 (.cells #[.int .i64 ((m : Int) + 1), .string ⟨#[47, 97, 46, 98, 45, 99, 95, 57]⟩, .bool true, .bool false, .string ⟨#[]⟩] 36))); have P7 := Lib.hid (chain P6.out (Below.alloc_new (w5.alloc (.cells #[.int .i64 ((m : Int) + 1), .string ⟨#[47, 97, 46, 98, 45, 99, 95, 57]⟩, .bool true, .bool false, .string ⟨#[]⟩] 36)) (.cells #[.int .i64 ((m : Int) + 1), .string ⟨#[47, 97, 46, 98, 45, 99, 95, 57]⟩, .bool true, .bool false, .string ⟨#[]⟩] 36))); have j2 := (HH.out _ P6.out).cell 2; have j3 := (HH.out _ P7.out).cell 3; clear p5))
        go_ret
        exact ⟨rfl, by rw [← HHB.out]; exact chain (chain (chain HQ0.out P5.out) (Below.alloc_new _ _)) (Below.alloc_new _ _)⟩
      · have i1' : h2 % 2 = 1 := i1
        have a1' : h3 % 2 = 1 := a1
        clear i1 a1
        obtain ⟨r1, r2, r3, r4⟩ := ask_runs m v e true true s.data.toList (by omega) (by omega) hsl
        have hE := askE11 z0 xe xX m v e s.data.toList HQ.out HXE.out HX.out.symm
        have hes : (((z0 ++ ((⟨#[105, 67, 121, 45, 77, 69, 84, 65, 100, 97, 116, 97, 58, 9, 49, 32]⟩ : ByteArray) ++ xe)) ++ (((⟨#[65, 117, 116, 104, 111, 114, 105, 122, 97, 116, 105, 111, 110, 58, 98, 65, 115, 73, 99, 32]⟩ : ByteArray) ++ xX) ++ xe)) ++ (((⟨#[88, 45, 89, 58]⟩ : ByteArray) ++ xe) ++ xe)).size ≤ 600 := by rw [hE, ba_size]; exact r4
        have CFd : ∀ X : World, Below w0.heap.size w0 X → Calls Tryd.prog 13 #[.string (((z0 ++ ((⟨#[105, 67, 121, 45, 77, 69, 84, 65, 100, 97, 116, 97, 58, 9, 49, 32]⟩ : ByteArray) ++ xe)) ++ (((⟨#[65, 117, 116, 104, 111, 114, 105, 122, 97, 116, 105, 111, 110, 58, 98, 65, 115, 73, 99, 32]⟩ : ByteArray) ++ xX) ++ xe)) ++ (((⟨#[88, 45, 89, 58]⟩ : ByteArray) ++ xe) ++ xe))] X fun en w' => ∃ g, en = .returned (.tuple #[.pointer (some ⟨g, 0, none⟩), .bool true]) ∧ RowKit.Hid (RqAt w' X.heap.size g (runS s17Zero (askF m v e true true s.data.toList))) ∧ Below X.heap.size X w' := by
          intro X hX
          have := feed_any (((z0 ++ ((⟨#[105, 67, 121, 45, 77, 69, 84, 65, 100, 97, 116, 97, 58, 9, 49, 32]⟩ : ByteArray) ++ xe)) ++ (((⟨#[65, 117, 116, 104, 111, 114, 105, 122, 97, 116, 105, 111, 110, 58, 98, 65, 115, 73, 99, 32]⟩ : ByteArray) ++ xX) ++ xe)) ++ (((⟨#[88, 45, 89, 58]⟩ : ByteArray) ++ xe) ++ xe)) X (by omega) (Utf8Tabs_below HT.out hX)
          rw [hE, list_ba, r1] at this
          rw [hE]
          exact this
        have CQ : ∀ (X : World) (B g : Nat), RqAt X B g (runS s17Zero (askF m v e true true s.data.toList)) → Calls Tryd.prog 10 #[.pointer (some ⟨g, 0, none⟩)] X fun en w' => en = .returned (.tuple #[.agg #[.int .i64 ((m : Int) + 1), .string ⟨#[47, 97, 46, 98, 45, 99, 95, 57]⟩, .bool true, .bool true, .string s], .bool true]) ∧ Below X.heap.size X w' := by
          intro X B g h
          have := rReq_any B g _ X h
          rw [r2, if_pos rfl, r3] at this
          have e5 : reqV (askR m true true s.data.toList) = .agg #[.int .i64 ((m : Int) + 1), .string ⟨#[47, 97, 46, 98, 45, 99, 95, 57]⟩, .bool true, .bool true, .string s] := by
            unfold reqV askR
            simp only [hpB]
            simp only [if_true, ba_list]
            all_goals rfl
          rw [e5] at this
          exact this
        clear hE r1 r2 r3 r4 HQ HXE HX hsl
        go_wp2_with (first
          | (go_at_call 12; refine (CS _).mono ?_; rintro en w3 ⟨rfl, p3⟩; have P3 := Lib.hid (chain HPC.out p3); clear p3)
          | (go_at_call 13; refine (CFd _ P3.out).mono ?_; rintro en w4 ⟨g, rfl, h4, p4⟩; have P4 := Lib.hid (chain P3.out p4); clear p4)
          | (go_at_call 10; refine (CQ _ _ g h4.out).mono ?_; rintro en w5 ⟨rfl, p5⟩; have P5 := Lib.hid (chain P4.out p5); have P6 := Lib.hid (chain P5.out (Below.alloc_new w5 (.cells #[.int .i64 ((m : Int) + 1), .string ⟨#[47, 97, 46, 98, 45, 99, 95, 57]⟩, .bool true, .bool true, .string s] 36))); have P7 := Lib.hid (chain P6.out (Below.alloc_new (w5.alloc (.cells #[.int .i64 ((m : Int) + 1), .string ⟨#[47, 97, 46, 98, 45, 99, 95, 57]⟩, .bool true, .bool true, .string s] 36)) (.cells #[.int .i64 ((m : Int) + 1), .string ⟨#[47, 97, 46, 98, 45, 99, 95, 57]⟩, .bool true, .bool false, .string ⟨#[]⟩] 36))); have j2 := (HH.out _ P6.out).cell 2; have j3 := (HH.out _ P7.out).cell 3; clear p5))
        go_ret
        exact ⟨rfl, by rw [← HHB.out]; exact chain (chain (chain HQ0.out P5.out) (Below.alloc_new _ _)) (Below.alloc_new _ _)⟩
end Go.Proofs.YtkledfalplekeaaDoor
