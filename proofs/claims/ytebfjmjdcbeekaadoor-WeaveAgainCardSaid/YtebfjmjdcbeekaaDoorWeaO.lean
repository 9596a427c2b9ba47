/- What the document's answer gives: which title a block is. -/
import Derived.Test.YtebfjmjdcbeekaaDoorWeaE
import Derived.Test.YtebfjmjdcbeekaaDoorWeaL
import Derived.Test.YtebfjmjdcbeekaaDoorHeld
import Derived.Deep.RegionHeld3
namespace Go.Proofs.YtebfjmjdcbeekaaDoor
open Go.RowKit Go.PlainAid
set_option linter.unusedVariables false
set_option linter.unusedSimpArgs false

theorem BytA.sub {w : World} {r off n cap : Nat} {l : List UInt8} (h : BytA w (some ⟨r, off, none⟩) n cap l) (lo m : Nat) (hm : lo + m ≤ n) : BytA w (some ⟨r, off + lo, none⟩) m (cap - lo) ((l.drop lo).take m) := by
  have hl := h.hl
  refine ⟨⟨by rw [nz_len, List.length_take, List.length_drop]; omega, ?_⟩, by rw [List.length_take, List.length_drop]; omega, by have := h.hc; omega, fun e => by cases e⟩
  by_cases h0 : m = 0
  · exact .inl h0
  · obtain ⟨b, o, e, hb, hc⟩ := h.addr (by omega)
    injection e with e
    injection e with e1 e2
    subst e1
    subst e2
    have hm2 : n ≤ 9223372036854775807 := by
      rcases h.hi.2 with h0 | ⟨_, _, _, _, h3, _⟩
      · omega
      · exact h3
    refine .inr ⟨r, off + lo, rfl, hb, by omega, fun j hj => ?_⟩
    have := hc (lo + j) (by omega)
    rw [show off + lo + j = off + (lo + j) by omega, this, nz_get, nz_get]
    simp [List.getD_eq_getElem?_getD, List.getElem?_take, List.getElem?_drop, hj]
/-- The title that would stand there. -/
def midB (l : List UInt8) (j : Nat) : List UInt8 := (l.drop 13).take j
def hitB (l : List UInt8) (j : Nat) : Prop := titleF (midB l j) = midB l j ∧ tailB (midB l j) = l
/-- A block's bytes behind the first. -/
theorem block_tail {W : World} {base c g : Nat} {t : List UInt8} (ho : OwnB W base (.slice (some ⟨g, 0, none⟩) (blkF t).length c) (blkF t)) : ¬ c = 1 ∧ (1 : Int) ≤ (c : Int) ∧ (1 : Int) ≤ ((blkF t).length : Int) ∧ (convert 30 9 (.slice (some ⟨g, 1, none⟩) ((blkF t).length - 1) (c - 1))).run Tryd.prog W = .ok (.string (ba (tailB t))) W := by
  have hb := ho.bytA
  have hc := hb.hc
  have hl := blkF_len t
  have hu := unitsB_pos t
  exact ⟨by omega, by omega, by omega, (hb.tail (by omega)).conv W (Below.refl _ _)⟩
theorem tell_none {h : UInt8} {l : List UInt8} {j : Nat} (hj : l.length < j + 15) (hno : ∀ i, i < j → ¬ hitB l i) : tellF (h :: l) = none := by
  refine tellF_no fun T hT e => ?_
  have e2 : tailB T = l := by injection e
  have hlen := unitsB_ge T
  have hl := tailB_len T
  rw [e2] at hl
  have hm := tailB_mid T
  rw [e2] at hm
  refine hno T.length (by omega) ⟨?_, ?_⟩
  · unfold midB; rw [hm, hT]
  · unfold midB; rw [hm, e2]
theorem tell_hit {h : UInt8} {l : List UInt8} {j : Nat} (hl : l.length = 16 * h.toNat) (hh : hitB l j) : tellF (h :: l) = some (midB l j) := by
  have hlen := tailB_len (midB l j)
  rw [hh.2] at hlen
  have hu : unitsB (midB l j) = h.toNat := by omega
  have e : blkF (midB l j) = h :: l := by
    unfold blkF
    rw [hh.2, hu]
    congr 1
    simp
  rw [← e]
  exact tellF_blk hh.1
def RtPost (r : Option (List UInt8)) (w : World) (x : Ending) (w' : World) : Prop := x = .returned (.tuple #[.string (ba (r.getD [])), .bool r.isSome]) ∧ Below w.heap.size w w'
set_option maxRecDepth 100000 in
set_option maxHeartbeats 2000000 in
theorem rTitle_any (a : Option Addr) (n cap : Nat) (l : List UInt8) (h : UInt8) (w : World) (hb : BytA w a n cap l) (hn : n = 16 * h.toNat) :
    Calls Tryd.prog 23 #[.slice a n cap] w (RtPost (tellF (h :: l)) w) := by
  have hh := h.toNat_lt
  have hl := hb.hl
  have hcap := hb.hc
  have HL : RowKit.Hid (l.length = 16 * h.toNat) := by show _ = _; omega
  have HA := Lib.hid hb
  have hn5 : n ≤ 4080 := by omega
  have HLn := Lib.hid hn
  clear hb hn hh
  go_enter Tryd.func23, Tryd.ntmps23
  go_wp2
  go_loopw [4] (fun i wr => ∃ j : Nat, i = .int .i64 (j : Int) ∧ j ≤ n ∧ RowKit.Hid ((∀ q, q < j → ¬ hitB l q) ∧ Below w.heap.size w wr)) (fun i _ => n + 1 - (intOf i).toNat)
  case atStart => exact ⟨0, rfl, by omega, fun q hq => by omega, Below.refl _ _⟩
  case round =>
    obtain ⟨j, rfl, hj, H⟩ := hrel
    by_cases hlt : j + 15 ≤ n
    · have q1 : (j : Int) + 15 ≤ (n : Int) := by omega
      obtain ⟨r, off, rfl, _⟩ := HA.out.byte (j := 0) (by omega)
      have hAr := HA.out.below H.out.2
      have hS := hAr.sub 13 j (by omega)
      have hcv := hS.conv wr (Below.refl _ _)
      have hSl := hS.hl
      have HW : RowKit.Hid (∀ W, Below wr.heap.size wr W → (convert 30 9 (.slice (some ⟨r, off, none⟩) n cap)).run Tryd.prog W = .ok (.string (ba l)) W) := fun W hW => hAr.conv W hW
      obtain ⟨t, ht⟩ : ∃ t, midB l j = t := ⟨_, rfl⟩
      unfold midB at ht
      rw [ht] at hcv hSl
      have hts : (ba t).size ≤ 5000 := by rw [ba_size]; omega
      have CT := Lib.hid (fun W : World => refTitle_any (ba t) W hts)
      have CB := Lib.hid (fun W : World => refBlock_any (ba t) W hts)
      rw [list_ba] at CT CB
      have HT : RowKit.Hid (midB l j = t) := ht
      have s1 : (13 : Int) ≤ 13 + (j : Int) := by omega
      have s2 : 13 + (j : Int) ≤ (cap : Int) := by omega
      have s3 : ¬ cap = 13 := by omega
      have s4 : (13 : Int) ≤ (cap : Int) := by omega
      have s5 : (13 + (j : Int) - 13) = (j : Int) := by omega
      have s6 : (13 + (j : Int)).toNat = 13 + j := by omega
      have s7 : 13 + j - 13 = j := by omega
      have cv1 := HW.out wr (Below.refl _ _)
      clear hS hAr hts ht
      by_cases hti : titleF t = t
      · have heq : ((ba t).toList == (ba t).toList) = true := by simp
        rw [hti] at CT CB
        have HI := Lib.hid hti
        by_cases htl : tailB t = l
        · have heq2 : ((ba (tailB t)).toList == (ba l).toList) = true := by rw [htl]; simp
          have HR : RowKit.Hid (tellF (h :: l) = some t) := by
            have := tell_hit (h := h) (l := l) (j := j) HL.out ⟨by rw [HT.out]; exact hti, by rw [HT.out]; exact htl⟩
            rw [HT.out] at this
            exact this
          have HBr := Lib.hid H.out.2
          clear H
          go_wp2
          have hHeld : (convert 30 9 (.slice (some ⟨r, off, none⟩) n cap)).run Tryd.prog wr.drew = .ok (.string (ba l)) wr.drew := HW.out _ (Below.drewN' (Below.refl _ wr) 1)
          refine wp_region_held_drew (S := fun w' => (convert 30 9 (.slice (some ⟨r, off, none⟩) n cap)).run Tryd.prog w' = .ok (.string (ba l)) w') (by kernel_rfl) hHeld (fun hHeld => ?_)
          refine wpAnyH_take (i := 0) (v := ?_) rfl (by kernel_rfl) (by kernel_rfl) (by kernel_rfl) (fun _ _ _ h => h) (Or.inl ⟨by rfl, ?_⟩) (by assumption) ?_
          rotate_left 1
          · intro wq hSw
            (try dsimp only at hSw)
            go_simp
            all_goals (with_reducible rfl)
          (try simp only [Act.put, List.setIfInBounds_toArray, List.set_cons_zero, List.set_cons_succ, List.getElem_toArray, List.getElem_cons_zero, List.getElem_cons_succ])
          refine wpAnyH_take (i := 2) (v := ?_) rfl (by kernel_rfl) (by kernel_rfl) (by kernel_rfl) (fun _ _ _ h => h) (Or.inl ⟨by rfl, ?_⟩) (by assumption) ?_
          rotate_left 1
          · intro wq hSw
            (try dsimp only at hSw)
            go_simp
            all_goals (with_reducible rfl)
          (try simp only [Act.put, List.setIfInBounds_toArray, List.set_cons_zero, List.set_cons_succ, List.getElem_toArray, List.getElem_cons_zero, List.getElem_cons_succ])
          refine wpAnyH_ready (rs := [1]) (by kernel_rfl) (by simp) ?_
          refine AllReadyH.cons rfl (fun K hK => ?_) AllReadyH.nil
          go_simp
          go_at_call 32
          go_loud (refine (CT.out _).mono ?_)
          rintro e2 w2 ⟨rfl, rfl⟩
          refine hK.out _ _ hHeld (fun _ => ?_)
          clear hK K
          (try simp only [Act.put, List.setIfInBounds_toArray, List.set_cons_zero, List.set_cons_succ, List.getElem_toArray, List.getElem_cons_zero, List.getElem_cons_succ])
          refine wpAnyH_take (i := 3) (v := ?_) rfl (by kernel_rfl) (by kernel_rfl) (by kernel_rfl) (fun _ _ _ h => h) (Or.inl ⟨by rfl, ?_⟩) (by assumption) ?_
          rotate_left 1
          · intro wq hSw
            (try dsimp only at hSw)
            go_simp
            all_goals (with_reducible rfl)
          (try simp only [Act.put, List.setIfInBounds_toArray, List.set_cons_zero, List.set_cons_succ, List.getElem_toArray, List.getElem_cons_zero, List.getElem_cons_succ])
          refine wpAnyH_take (i := 4) (v := ?_) rfl (by kernel_rfl) (by kernel_rfl) (by kernel_rfl) (fun _ _ _ h => h) (Or.inl ⟨by rfl, ?_⟩) (by assumption) ?_
          rotate_left 1
          · intro wq hSw
            (try dsimp only at hSw)
            go_simp
            all_goals (with_reducible rfl)
          (try simp only [Act.put, List.setIfInBounds_toArray, List.set_cons_zero, List.set_cons_succ, List.getElem_toArray, List.getElem_cons_zero, List.getElem_cons_succ])
          refine wpAnyH_take (i := 5) (v := ?_) rfl (by kernel_rfl) (by kernel_rfl) (by kernel_rfl) (fun _ _ _ h => h) (Or.inl ⟨by rfl, ?_⟩) (by assumption) ?_
          rotate_left 1
          · intro wq hSw
            (try dsimp only at hSw)
            go_simp
            all_goals (with_reducible rfl)
          (try simp only [Act.put, List.setIfInBounds_toArray, List.set_cons_zero, List.set_cons_succ, List.getElem_toArray, List.getElem_cons_zero, List.getElem_cons_succ])
          refine wpAnyH_take (i := 9) (v := ?_) rfl (by kernel_rfl) (by kernel_rfl) (by kernel_rfl) (fun _ _ _ h => h) (Or.inl ⟨by rfl, ?_⟩) (by assumption) ?_
          rotate_left 1
          · intro wq hSw
            (try dsimp only at hSw)
            go_simp
            all_goals (with_reducible rfl)
          (try simp only [Act.put, List.setIfInBounds_toArray, List.set_cons_zero, List.set_cons_succ, List.getElem_toArray, List.getElem_cons_zero, List.getElem_cons_succ])
          refine wpAnyH_take (i := 10) (v := ?_) rfl (by kernel_rfl) (by kernel_rfl) (by kernel_rfl) (fun _ _ _ h => h) (Or.inl ⟨by rfl, ?_⟩) (by assumption) ?_
          rotate_left 1
          · intro wq hSw
            (try dsimp only at hSw)
            go_simp
            all_goals (with_reducible rfl)
          (try simp only [Act.put, List.setIfInBounds_toArray, List.set_cons_zero, List.set_cons_succ, List.getElem_toArray, List.getElem_cons_zero, List.getElem_cons_succ])
          refine wpAnyH_ready (rs := [6]) (by kernel_rfl) (by simp) ?_
          refine AllReadyH.cons rfl (fun K hK => ?_) AllReadyH.nil
          go_simp
          go_at_call 33
          go_loud (refine (CB.out _).mono ?_)
          rintro e3 w3 ⟨v3, rfl, ho3, hb3⟩
          obtain ⟨g3, c3, rfl, _⟩ := ho3.some_ (by simp [blkF])
          obtain ⟨y1, y2, y3, hcv3⟩ := block_tail ho3
          have HB3 := Lib.hid (HBr.out.trans (((Below.drewN' (Below.refl _ wr) 1).trans hb3).mono HBr.out.size))
          have hcl3 := HW.out _ ((Below.drewN' (Below.refl _ wr) 1).trans hb3)
          refine hK.out _ _ hcl3 (fun _ => ?_)
          clear hK K hHeld ho3 hb3
          refine wpAnyH_strong (S2 := fun w' => ((convert 30 9 (.slice (some ⟨g3, 1, none⟩) ((blkF t).length - 1) (c3 - 1))).run Tryd.prog w' = .ok (.string (ba (tailB t))) w') ∧ ((convert 30 9 (.slice (some ⟨r, off, none⟩) n cap)).run Tryd.prog w' = .ok (.string (ba l)) w')) (fun w h => h.2) ?_
          have hHeld := And.intro hcv3 hcl3
          clear hcv3 hcl3
          (try simp only [Act.put, List.setIfInBounds_toArray, List.set_cons_zero, List.set_cons_succ, List.getElem_toArray, List.getElem_cons_zero, List.getElem_cons_succ])
          refine wpAnyH_take (i := 7) (v := ?_) rfl (by kernel_rfl) (by kernel_rfl) (by kernel_rfl) (fun _ _ _ h => h) (Or.inl ⟨by rfl, ?_⟩) (by assumption) ?_
          rotate_left 1
          · intro wq hSw
            (try dsimp only at hSw)
            go_simp
            all_goals (with_reducible rfl)
          (try simp only [Act.put, List.setIfInBounds_toArray, List.set_cons_zero, List.set_cons_succ, List.getElem_toArray, List.getElem_cons_zero, List.getElem_cons_succ])
          refine wpAnyH_take (i := 8) (v := ?_) rfl (by kernel_rfl) (by kernel_rfl) (by kernel_rfl) (fun _ _ _ h => h) (Or.inl ⟨by rfl, ?_⟩) (by assumption) ?_
          rotate_left 1
          · intro wq hSw
            (try dsimp only at hSw)
            go_simp
            all_goals (with_reducible rfl)
          (try simp only [Act.put, List.setIfInBounds_toArray, List.set_cons_zero, List.set_cons_succ, List.getElem_toArray, List.getElem_cons_zero, List.getElem_cons_succ])
          refine wpAnyH_take (i := 11) (v := ?_) rfl (by kernel_rfl) (by kernel_rfl) (by kernel_rfl) (fun _ _ _ h => h) (Or.inl ⟨by rfl, ?_⟩) (by assumption) ?_
          rotate_left 1
          · intro wq hSw
            (try dsimp only at hSw)
            go_simp
            all_goals (with_reducible rfl)
          (try simp only [Act.put, List.setIfInBounds_toArray, List.set_cons_zero, List.set_cons_succ, List.getElem_toArray, List.getElem_cons_zero, List.getElem_cons_succ])
          refine wpAnyH_take (i := 12) (v := ?_) rfl (by kernel_rfl) (by kernel_rfl) (by kernel_rfl) (fun _ _ _ h => h) (Or.inl ⟨by rfl, ?_⟩) (by assumption) ?_
          rotate_left 1
          · intro wq hSw
            (try dsimp only at hSw)
            go_simp
            all_goals (with_reducible rfl)
          (try simp only [Act.put, List.setIfInBounds_toArray, List.set_cons_zero, List.set_cons_succ, List.getElem_toArray, List.getElem_cons_zero, List.getElem_cons_succ])
          refine wpAnyH_done (by kernel_rfl) ?_ _
          go_wp2
          go_ret2
          rw [HR.out]
          exact ⟨rfl, HB3.out⟩
        · have heq2 : ((ba (tailB t)).toList == (ba l).toList) = false := by
            rw [Lib.toList_data, Lib.toList_data, list_ba, list_ba]
            simpa using htl
          have HN : RowKit.Hid (∀ q, q < j + 1 → ¬ hitB l q) := by
            intro q hq hh
            by_cases e : q = j
            · subst e
              have := hh.2
              rw [HT.out] at this
              exact htl this
            · exact H.out.1 q (by omega) hh
          have HBr := Lib.hid H.out.2
          clear H
          go_wp2
          have hHeld : (convert 30 9 (.slice (some ⟨r, off, none⟩) n cap)).run Tryd.prog wr.drew = .ok (.string (ba l)) wr.drew := HW.out _ (Below.drewN' (Below.refl _ wr) 1)
          refine wp_region_held_drew (S := fun w' => (convert 30 9 (.slice (some ⟨r, off, none⟩) n cap)).run Tryd.prog w' = .ok (.string (ba l)) w') (by kernel_rfl) hHeld (fun hHeld => ?_)
          refine wpAnyH_take (i := 0) (v := ?_) rfl (by kernel_rfl) (by kernel_rfl) (by kernel_rfl) (fun _ _ _ h => h) (Or.inl ⟨by rfl, ?_⟩) (by assumption) ?_
          rotate_left 1
          · intro wq hSw
            (try dsimp only at hSw)
            go_simp
            all_goals (with_reducible rfl)
          (try simp only [Act.put, List.setIfInBounds_toArray, List.set_cons_zero, List.set_cons_succ, List.getElem_toArray, List.getElem_cons_zero, List.getElem_cons_succ])
          refine wpAnyH_take (i := 2) (v := ?_) rfl (by kernel_rfl) (by kernel_rfl) (by kernel_rfl) (fun _ _ _ h => h) (Or.inl ⟨by rfl, ?_⟩) (by assumption) ?_
          rotate_left 1
          · intro wq hSw
            (try dsimp only at hSw)
            go_simp
            all_goals (with_reducible rfl)
          (try simp only [Act.put, List.setIfInBounds_toArray, List.set_cons_zero, List.set_cons_succ, List.getElem_toArray, List.getElem_cons_zero, List.getElem_cons_succ])
          refine wpAnyH_ready (rs := [1]) (by kernel_rfl) (by simp) ?_
          refine AllReadyH.cons rfl (fun K hK => ?_) AllReadyH.nil
          go_simp
          go_at_call 32
          go_loud (refine (CT.out _).mono ?_)
          rintro e2 w2 ⟨rfl, rfl⟩
          refine hK.out _ _ hHeld (fun _ => ?_)
          clear hK K
          (try simp only [Act.put, List.setIfInBounds_toArray, List.set_cons_zero, List.set_cons_succ, List.getElem_toArray, List.getElem_cons_zero, List.getElem_cons_succ])
          refine wpAnyH_take (i := 3) (v := ?_) rfl (by kernel_rfl) (by kernel_rfl) (by kernel_rfl) (fun _ _ _ h => h) (Or.inl ⟨by rfl, ?_⟩) (by assumption) ?_
          rotate_left 1
          · intro wq hSw
            (try dsimp only at hSw)
            go_simp
            all_goals (with_reducible rfl)
          (try simp only [Act.put, List.setIfInBounds_toArray, List.set_cons_zero, List.set_cons_succ, List.getElem_toArray, List.getElem_cons_zero, List.getElem_cons_succ])
          refine wpAnyH_take (i := 4) (v := ?_) rfl (by kernel_rfl) (by kernel_rfl) (by kernel_rfl) (fun _ _ _ h => h) (Or.inl ⟨by rfl, ?_⟩) (by assumption) ?_
          rotate_left 1
          · intro wq hSw
            (try dsimp only at hSw)
            go_simp
            all_goals (with_reducible rfl)
          (try simp only [Act.put, List.setIfInBounds_toArray, List.set_cons_zero, List.set_cons_succ, List.getElem_toArray, List.getElem_cons_zero, List.getElem_cons_succ])
          refine wpAnyH_take (i := 5) (v := ?_) rfl (by kernel_rfl) (by kernel_rfl) (by kernel_rfl) (fun _ _ _ h => h) (Or.inl ⟨by rfl, ?_⟩) (by assumption) ?_
          rotate_left 1
          · intro wq hSw
            (try dsimp only at hSw)
            go_simp
            all_goals (with_reducible rfl)
          (try simp only [Act.put, List.setIfInBounds_toArray, List.set_cons_zero, List.set_cons_succ, List.getElem_toArray, List.getElem_cons_zero, List.getElem_cons_succ])
          refine wpAnyH_take (i := 9) (v := ?_) rfl (by kernel_rfl) (by kernel_rfl) (by kernel_rfl) (fun _ _ _ h => h) (Or.inl ⟨by rfl, ?_⟩) (by assumption) ?_
          rotate_left 1
          · intro wq hSw
            (try dsimp only at hSw)
            go_simp
            all_goals (with_reducible rfl)
          (try simp only [Act.put, List.setIfInBounds_toArray, List.set_cons_zero, List.set_cons_succ, List.getElem_toArray, List.getElem_cons_zero, List.getElem_cons_succ])
          refine wpAnyH_take (i := 10) (v := ?_) rfl (by kernel_rfl) (by kernel_rfl) (by kernel_rfl) (fun _ _ _ h => h) (Or.inl ⟨by rfl, ?_⟩) (by assumption) ?_
          rotate_left 1
          · intro wq hSw
            (try dsimp only at hSw)
            go_simp
            all_goals (with_reducible rfl)
          (try simp only [Act.put, List.setIfInBounds_toArray, List.set_cons_zero, List.set_cons_succ, List.getElem_toArray, List.getElem_cons_zero, List.getElem_cons_succ])
          refine wpAnyH_ready (rs := [6]) (by kernel_rfl) (by simp) ?_
          refine AllReadyH.cons rfl (fun K hK => ?_) AllReadyH.nil
          go_simp
          go_at_call 33
          go_loud (refine (CB.out _).mono ?_)
          rintro e3 w3 ⟨v3, rfl, ho3, hb3⟩
          obtain ⟨g3, c3, rfl, _⟩ := ho3.some_ (by simp [blkF])
          obtain ⟨y1, y2, y3, hcv3⟩ := block_tail ho3
          have HB3 := Lib.hid (HBr.out.trans (((Below.drewN' (Below.refl _ wr) 1).trans hb3).mono HBr.out.size))
          have hcl3 := HW.out _ ((Below.drewN' (Below.refl _ wr) 1).trans hb3)
          refine hK.out _ _ hcl3 (fun _ => ?_)
          clear hK K hHeld ho3 hb3
          refine wpAnyH_strong (S2 := fun w' => ((convert 30 9 (.slice (some ⟨g3, 1, none⟩) ((blkF t).length - 1) (c3 - 1))).run Tryd.prog w' = .ok (.string (ba (tailB t))) w') ∧ ((convert 30 9 (.slice (some ⟨r, off, none⟩) n cap)).run Tryd.prog w' = .ok (.string (ba l)) w')) (fun w h => h.2) ?_
          have hHeld := And.intro hcv3 hcl3
          clear hcv3 hcl3
          (try simp only [Act.put, List.setIfInBounds_toArray, List.set_cons_zero, List.set_cons_succ, List.getElem_toArray, List.getElem_cons_zero, List.getElem_cons_succ])
          refine wpAnyH_take (i := 7) (v := ?_) rfl (by kernel_rfl) (by kernel_rfl) (by kernel_rfl) (fun _ _ _ h => h) (Or.inl ⟨by rfl, ?_⟩) (by assumption) ?_
          rotate_left 1
          · intro wq hSw
            (try dsimp only at hSw)
            go_simp
            all_goals (with_reducible rfl)
          (try simp only [Act.put, List.setIfInBounds_toArray, List.set_cons_zero, List.set_cons_succ, List.getElem_toArray, List.getElem_cons_zero, List.getElem_cons_succ])
          refine wpAnyH_take (i := 8) (v := ?_) rfl (by kernel_rfl) (by kernel_rfl) (by kernel_rfl) (fun _ _ _ h => h) (Or.inl ⟨by rfl, ?_⟩) (by assumption) ?_
          rotate_left 1
          · intro wq hSw
            (try dsimp only at hSw)
            go_simp
            all_goals (with_reducible rfl)
          (try simp only [Act.put, List.setIfInBounds_toArray, List.set_cons_zero, List.set_cons_succ, List.getElem_toArray, List.getElem_cons_zero, List.getElem_cons_succ])
          refine wpAnyH_take (i := 11) (v := ?_) rfl (by kernel_rfl) (by kernel_rfl) (by kernel_rfl) (fun _ _ _ h => h) (Or.inl ⟨by rfl, ?_⟩) (by assumption) ?_
          rotate_left 1
          · intro wq hSw
            (try dsimp only at hSw)
            go_simp
            all_goals (with_reducible rfl)
          (try simp only [Act.put, List.setIfInBounds_toArray, List.set_cons_zero, List.set_cons_succ, List.getElem_toArray, List.getElem_cons_zero, List.getElem_cons_succ])
          refine wpAnyH_take (i := 12) (v := ?_) rfl (by kernel_rfl) (by kernel_rfl) (by kernel_rfl) (fun _ _ _ h => h) (Or.inl ⟨by rfl, ?_⟩) (by assumption) ?_
          rotate_left 1
          · intro wq hSw
            (try dsimp only at hSw)
            go_simp
            all_goals (with_reducible rfl)
          (try simp only [Act.put, List.setIfInBounds_toArray, List.set_cons_zero, List.set_cons_succ, List.getElem_toArray, List.getElem_cons_zero, List.getElem_cons_succ])
          refine wpAnyH_done (by kernel_rfl) ?_ _
          go_wp2
          go_roundw
          case rel => exact ⟨j + 1, by go_num, by omega, HN.out, HB3.out⟩
          case measure => simp [intOf] <;> omega
      · have hne : ((ba (titleF t)).toList == (ba t).toList) = false := by
          rw [Lib.toList_data, Lib.toList_data, list_ba, list_ba]
          simpa using hti
        have HN : RowKit.Hid (∀ q, q < j + 1 → ¬ hitB l q) := by
          intro q hq hh
          by_cases e : q = j
          · subst e
            have := hh.1
            rw [HT.out] at this
            exact hti this
          · exact H.out.1 q (by omega) hh
        have HBr := Lib.hid H.out.2
        generalize ba (titleF t) = tt at *
        generalize ba t = ts at *
        clear H
        go_wp2
        have hHeld : (convert 30 9 (.slice (some ⟨r, off, none⟩) n cap)).run Tryd.prog wr.drew = .ok (.string (ba l)) wr.drew := HW.out _ (Below.drewN' (Below.refl _ wr) 1)
        refine wp_region_held_drew (S := fun w' => (convert 30 9 (.slice (some ⟨r, off, none⟩) n cap)).run Tryd.prog w' = .ok (.string (ba l)) w') (by kernel_rfl) hHeld (fun hHeld => ?_)
        refine wpAnyH_take (i := 0) (v := ?_) rfl (by kernel_rfl) (by kernel_rfl) (by kernel_rfl) (fun _ _ _ h => h) (Or.inl ⟨by rfl, ?_⟩) (by assumption) ?_
        rotate_left 1
        · intro wq hSw
          (try dsimp only at hSw)
          go_simp
          all_goals (with_reducible rfl)
        (try simp only [Act.put, List.setIfInBounds_toArray, List.set_cons_zero, List.set_cons_succ, List.getElem_toArray, List.getElem_cons_zero, List.getElem_cons_succ])
        refine wpAnyH_take (i := 2) (v := ?_) rfl (by kernel_rfl) (by kernel_rfl) (by kernel_rfl) (fun _ _ _ h => h) (Or.inl ⟨by rfl, ?_⟩) (by assumption) ?_
        rotate_left 1
        · intro wq hSw
          (try dsimp only at hSw)
          go_simp
          all_goals (with_reducible rfl)
        (try simp only [Act.put, List.setIfInBounds_toArray, List.set_cons_zero, List.set_cons_succ, List.getElem_toArray, List.getElem_cons_zero, List.getElem_cons_succ])
        refine wpAnyH_ready (rs := [1]) (by kernel_rfl) (by simp) ?_
        refine AllReadyH.cons rfl (fun K hK => ?_) AllReadyH.nil
        go_simp
        go_at_call 32
        go_loud (refine (CT.out _).mono ?_)
        rintro e2 w2 ⟨rfl, rfl⟩
        refine hK.out _ _ hHeld (fun _ => ?_)
        clear hK K
        (try simp only [Act.put, List.setIfInBounds_toArray, List.set_cons_zero, List.set_cons_succ, List.getElem_toArray, List.getElem_cons_zero, List.getElem_cons_succ])
        refine wpAnyH_take (i := 3) (v := ?_) rfl (by kernel_rfl) (by kernel_rfl) (by kernel_rfl) (fun _ _ _ h => h) (Or.inl ⟨by rfl, ?_⟩) (by assumption) ?_
        rotate_left 1
        · intro wq hSw
          (try dsimp only at hSw)
          go_simp
          all_goals (with_reducible rfl)
        (try simp only [Act.put, List.setIfInBounds_toArray, List.set_cons_zero, List.set_cons_succ, List.getElem_toArray, List.getElem_cons_zero, List.getElem_cons_succ])
        refine wpAnyH_take (i := 4) (v := ?_) rfl (by kernel_rfl) (by kernel_rfl) (by kernel_rfl) (fun _ _ _ h => h) (Or.inl ⟨by rfl, ?_⟩) (by assumption) ?_
        rotate_left 1
        · intro wq hSw
          (try dsimp only at hSw)
          go_simp
          all_goals (with_reducible rfl)
        (try simp only [Act.put, List.setIfInBounds_toArray, List.set_cons_zero, List.set_cons_succ, List.getElem_toArray, List.getElem_cons_zero, List.getElem_cons_succ])
        refine wpAnyH_take (i := 5) (v := undef) rfl (by kernel_rfl) (by kernel_rfl) (by kernel_rfl) (fun _ _ _ h => h) (Or.inr ⟨by rfl, rfl⟩) (by assumption) ?_
        (try simp only [Act.put, List.setIfInBounds_toArray, List.set_cons_zero, List.set_cons_succ, List.getElem_toArray, List.getElem_cons_zero, List.getElem_cons_succ])
        refine wpAnyH_take (i := 6) (v := undef) rfl (by kernel_rfl) (by kernel_rfl) (by kernel_rfl) (fun _ _ _ h => h) (Or.inr ⟨by rfl, rfl⟩) (by assumption) ?_
        (try simp only [Act.put, List.setIfInBounds_toArray, List.set_cons_zero, List.set_cons_succ, List.getElem_toArray, List.getElem_cons_zero, List.getElem_cons_succ])
        refine wpAnyH_take (i := 7) (v := undef) rfl (by kernel_rfl) (by kernel_rfl) (by kernel_rfl) (fun _ _ _ h => h) (Or.inr ⟨by rfl, rfl⟩) (by assumption) ?_
        (try simp only [Act.put, List.setIfInBounds_toArray, List.set_cons_zero, List.set_cons_succ, List.getElem_toArray, List.getElem_cons_zero, List.getElem_cons_succ])
        refine wpAnyH_take (i := 8) (v := undef) rfl (by kernel_rfl) (by kernel_rfl) (by kernel_rfl) (fun _ _ _ h => h) (Or.inr ⟨by rfl, rfl⟩) (by assumption) ?_
        (try simp only [Act.put, List.setIfInBounds_toArray, List.set_cons_zero, List.set_cons_succ, List.getElem_toArray, List.getElem_cons_zero, List.getElem_cons_succ])
        refine wpAnyH_take (i := 9) (v := undef) rfl (by kernel_rfl) (by kernel_rfl) (by kernel_rfl) (fun _ _ _ h => h) (Or.inr ⟨by rfl, rfl⟩) (by assumption) ?_
        (try simp only [Act.put, List.setIfInBounds_toArray, List.set_cons_zero, List.set_cons_succ, List.getElem_toArray, List.getElem_cons_zero, List.getElem_cons_succ])
        refine wpAnyH_take (i := 10) (v := undef) rfl (by kernel_rfl) (by kernel_rfl) (by kernel_rfl) (fun _ _ _ h => h) (Or.inr ⟨by rfl, rfl⟩) (by assumption) ?_
        (try simp only [Act.put, List.setIfInBounds_toArray, List.set_cons_zero, List.set_cons_succ, List.getElem_toArray, List.getElem_cons_zero, List.getElem_cons_succ])
        refine wpAnyH_take (i := 11) (v := undef) rfl (by kernel_rfl) (by kernel_rfl) (by kernel_rfl) (fun _ _ _ h => h) (Or.inr ⟨by rfl, rfl⟩) (by assumption) ?_
        (try simp only [Act.put, List.setIfInBounds_toArray, List.set_cons_zero, List.set_cons_succ, List.getElem_toArray, List.getElem_cons_zero, List.getElem_cons_succ])
        refine wpAnyH_take (i := 12) (v := ?_) rfl (by kernel_rfl) (by kernel_rfl) (by kernel_rfl) (fun _ _ _ h => h) (Or.inl ⟨by rfl, ?_⟩) (by assumption) ?_
        rotate_left 1
        · intro wq hSw
          (try dsimp only at hSw)
          go_simp
          all_goals (with_reducible rfl)
        (try simp only [Act.put, List.setIfInBounds_toArray, List.set_cons_zero, List.set_cons_succ, List.getElem_toArray, List.getElem_cons_zero, List.getElem_cons_succ])
        refine wpAnyH_done (by kernel_rfl) ?_ _
        go_wp2
        go_roundw
        case rel => exact ⟨j + 1, by go_num, by omega, HN.out, Below.drewN' HBr.out 1⟩
        case measure => simp [intOf] <;> omega
    · have q1 : ¬ (j : Int) + 15 ≤ (n : Int) := by omega
      have HE : RowKit.Hid (tellF (h :: l) = none) := tell_none (by omega) H.out.1
      go_wp2
      go_ret2
      rw [HE.out]
      exact ⟨rfl, H.out.2⟩
end Go.Proofs.YtebfjmjdcbeekaaDoor
