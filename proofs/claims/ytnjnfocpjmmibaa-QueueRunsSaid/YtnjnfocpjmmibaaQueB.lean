/- What is said: all of it; bytes behind others. -/
import Derived.Test.YtnjnfocpjmmibaaQueA
namespace Go.Proofs.Ytnjnfocpjmmibaa
open Go.RowKit
set_option linter.unusedVariables false
set_option linter.unusedSimpArgs false

theorem own_len22 {w : World} {base e n : Nat} {v : Value} {zs : List Int} (h : w.ownsRow base e 1 v n (zs.map (Value.int .u8))) : w.ownsRow base e 1 v zs.length (zs.map (Value.int .u8)) := by
  have h1 := h.1
  rw [List.length_map, Nat.mul_one] at h1
  rw [h1]; exact h
theorem concat22_call (n1 c1 n2 c2 : Nat) (a1 a2 : Option Addr) (b1 b2 : List Int) (w : World) (D1 D2 : Nat → Prop) (h1 : By22 w D1 a1 n1 c1 b1) (h2 : By22 w D2 a2 n2 c2 b2) (hl1 : n1 ≤ 1000000) (hl2 : n2 ≤ 1000000) :
    Calls Try.prog 27 #[.slice (some ⟨w.heap.size, 0, none⟩) 2 2] (w.alloc (.cells #[.slice a1 n1 c1, .slice a2 n2 c2] 31)) fun e w' => ∃ a m c, e = .returned (.slice a m c) ∧ m = n1 + n2 ∧ RowKit.Hid (w'.ownsRow w.heap.size 5 1 (.slice a m c) m ((b1 ++ b2).map (Value.int .u8)) ∧ Below w.heap.size w w') := by
  have hb := Below.alloc_new w (.cells #[.slice a1 n1 c1, .slice a2 n2 c2] 31)
  have hc := Cel.new w 31 #[.slice a1 n1 c1, .slice a2 n2 c2]
  refine (concat22_any w.heap.size n1 c1 n2 c2 a1 a2 b1 b2 _ D1 D2 (h1.below hb) (h2.below hb) (hc.cell 0) (hc.cell 1) hl1 hl2).mono ?_
  rintro e w' ⟨v, rfl, ho, hb2⟩
  obtain ⟨a, m, c, rfl, hm⟩ := own_form_m ho
  have h3 := h1.len
  have h4 := h2.len
  rw [List.length_append] at hm ho
  refine ⟨a, m, c, rfl, by omega, own_lower (hm ▸ ho) hb.size, chain hb hb2⟩
set_option maxRecDepth 100000 in
set_option maxHeartbeats 1000000 in
theorem said_all (p : Option Addr) (ls : List (List Int)) (D : Nat → Prop) (w : World) (h : SaidAt w D ls p) (hl : (allS ls).length ≤ 1000000) :
    Calls Try.prog 25 #[.pointer p] w fun e w' => ∃ a m c, e = .returned (.slice a m c) ∧ m = (allS ls).length ∧ RowKit.Hid (w'.ownsRow w.heap.size 5 1 (.slice a m c) m ((allS ls).map (Value.int .u8)) ∧ Below w.heap.size w w') := by
  have H := Lib.hid h
  have HO := Lib.hid (World.ownsRow_nil w w.heap.size 5 1)
  obtain ⟨L, hL⟩ : ∃ L, allS ls = L := ⟨_, rfl⟩
  have HL := Lib.hid hL
  rw [hL] at hl ⊢
  clear h hL
  go_enter Try.func25, Try.ntmps25
  go_wp2
  go_loopw [0, 3] (fun s v wr => ∃ rs q acc a m c, s = .pointer q ∧ v = .slice a m c ∧ RowKit.Hid (SaidAt w D rs q ∧ allS rs ++ acc = L ∧ rs.length ≤ ls.length ∧ m = acc.length ∧ wr.ownsRow w.heap.size 5 1 (.slice a m c) m (acc.map (Value.int .u8)) ∧ Below w.heap.size w wr)) (fun s _ _ => hops w ls.length (ptrOf22 s))
  case atStart => exact ⟨ls, p, [], none, 0, 0, rfl, rfl, H.out, by rw [HL.out, List.append_nil], Nat.le_refl _, rfl, HO.out, Below.refl _ _⟩
  case round =>
    obtain ⟨rs, q, acc, a, m, c, rfl, rfl, HR⟩ := hrel
    obtain ⟨r1, r2, r3, r4, r5, r6⟩ := HR.out
    cases rs with
    | nil =>
      obtain rfl : q = none := r1
      have e0 : acc = L := r2
      rw [e0] at r4 r5
      have HF : RowKit.Hid (m = L.length ∧ wr.ownsRow w.heap.size 5 1 (.slice a m c) m (L.map (Value.int .u8)) ∧ Below w.heap.size w wr) := ⟨r4, r5, r6⟩
      clear r2 r3 r4 r5 r6 HR e0
      go_wp2
      go_ret
      exact ⟨a, m, c, rfl, HF.out.1, HF.out.2⟩
    | cons z zs =>
      obtain ⟨q', p', a3, c3, rfl, h2, h3, h4, h5⟩ := r1
      have k0 : wr.cell? ⟨q', 0, none⟩ = some (.pointer p') := (h3.below r6).cell 0
      have k1 : wr.cell? ⟨q', 1, none⟩ = some (.slice a3 z.length c3) := (h3.below r6).cell 1
      have HH := Lib.hid (HR.out.1.hops HR.out.2.2.1)
      have HH5 := Lib.hid (h5.hops (k := ls.length) (by simp at r3; omega))
      have hlen := congrArg List.length r2
      simp [allS] at hlen
      have CC := Lib.hid (concat22_call z.length c3 m c a3 a z acc wr D (fun j => w.heap.size ≤ j) (h4.below r6) (By22.own r5) (by omega) (by omega))
      have kg : q' < wr.heap.size := (h3.below r6).lt
      have HS : RowKit.Hid (SaidAt w D zs p' ∧ allS zs ++ (z ++ acc) = L ∧ zs.length ≤ ls.length ∧ z.length + m = (z ++ acc).length ∧ Below w.heap.size w wr ∧ Cel wr q' 59 #[.pointer p', .slice a3 z.length c3]) := ⟨h5, by simpa [allS] using r2, by simp at r3; omega, by rw [List.length_append]; omega, r6, h3.below r6⟩
      clear r2 r3 r4 r5 r6 h2 h3 h4 h5 HR hlen
      go_wp2_with (go_at_call 27; go_loud (refine CC.out.mono ?_); rintro e w2 ⟨a4, m4, c4, rfl, hm4, HB⟩; have kk0 := (HS.out.2.2.2.2.2.below HB.out.2).cell 0; have HM4 := Lib.hid hm4; clear hm4)
      go_roundw
      case rel => exact ⟨zs, p', z ++ acc, a4, m4, c4, rfl, rfl, HS.out.1, HS.out.2.1, HS.out.2.2.1, HM4.out.trans HS.out.2.2.2.1, own_lower HB.out.1 HS.out.2.2.2.2.1.size, chain HS.out.2.2.2.2.1 HB.out.2⟩
      case measure =>
        rw [show ptrOf22 (.pointer p') = p' from rfl, show ptrOf22 (.pointer (some ⟨q', 0, none⟩)) = some ⟨q', 0, none⟩ from rfl, HH.out, HH5.out]
        simp
/-- What is said behind others. -/
def SaidPost (D : Nat → Prop) (L : List Int) (w : World) (x : Ending) (w' : World) : Prop :=
  ∃ p ls, x = .returned (.pointer p) ∧ RowKit.Hid (SaidAt w' (fun j => D j ∨ w.heap.size ≤ j) ls p ∧ allS ls = L ∧ Below w.heap.size w w')
set_option maxRecDepth 100000 in
set_option maxHeartbeats 1000000 in
theorem said_behind (p : Option Addr) (ls : List (List Int)) (D E : Nat → Prop) (a : Option Addr) (m c : Nat) (b : List Int) (w : World) (h : SaidAt w D ls p) (hb : By22 w E a m c b) (hl : (allS ls).length + m ≤ 1000000) :
    Calls Try.prog 23 #[.pointer p, .slice a m c] w (SaidPost D (allS ls ++ b) w) := by
  have H := Lib.hid h
  have HB := Lib.hid hb
  have HO := Lib.hid (World.ownsRow_nil w w.heap.size 5 1)
  obtain ⟨L, hL⟩ : ∃ L, allS ls ++ b = L := ⟨_, rfl⟩
  have HL := Lib.hid hL
  have hLl : L.length ≤ 1000000 := by rw [← hL, List.length_append, hb.len]; exact hl
  have HZ := Lib.hid info22_u8
  rw [hL]
  clear h hb hL
  go_enter Try.func23, Try.ntmps23
  go_wp2_with (at_builtin; go_loud (refine append_ints rfl _ _ 31 rfl w.heap.size 5 .u8 1 Try.underlying31 HZ.out (.slice none 0 0) 0 [] rfl HO.out a m c w.heap.size b rfl HB.out.hi HB.out.hn (by unfold maxLen; omega) (by omega) (Nat.le_refl _) ?_); intro v2 w2 ho hg hv; replace ho := own_len22 ho; rw [List.nil_append] at ho; obtain ⟨a2, m2, c2, rfl, hm2⟩ := own_form_m ho; have HF2 : RowKit.Hid (m2 = b.length ∧ w2.ownsRow w.heap.size 5 1 (.slice a2 m2 c2) m2 (b.map (Value.int .u8)) ∧ Below w.heap.size w w2) := ⟨hm2, hm2 ▸ ho, (Below.refl w.heap.size w).grown hg (Nat.le_refl _) (fun j e => (by simp [Value.ownBlock] at e))⟩; clear ho hg hv hm2)
  go_loopw [0, 5] (fun s v wr => ∃ rs q acc a m c, s = .pointer q ∧ v = .slice a m c ∧ RowKit.Hid (SaidAt w D rs q ∧ allS rs ++ acc = L ∧ rs.length ≤ ls.length ∧ m = acc.length ∧ wr.ownsRow w.heap.size 5 1 (.slice a m c) m (acc.map (Value.int .u8)) ∧ Below w.heap.size w wr)) (fun s _ _ => hops w ls.length (ptrOf22 s))
  case atStart => exact ⟨ls, p, b, a2, m2, c2, rfl, rfl, H.out, HL.out, Nat.le_refl _, HF2.out.1, HF2.out.2.1, HF2.out.2.2⟩
  case round =>
    obtain ⟨rs, q, acc, a5, m5, c5, rfl, rfl, HR⟩ := hrel
    obtain ⟨r1, r2, r3, r4, r5, r6⟩ := HR.out
    clear HF2 HO
    have done : RowKit.Hid (SaidPost D L w (.returned (.pointer (some ⟨wr.heap.size, 0, none⟩))) (wr.alloc (.cells #[.pointer q, .slice a5 m5 c5] 59))) := by
      have hb2 := Below.alloc_new wr (.cells #[.pointer q, .slice a5 m5 c5] 59)
      subst r4
      exact ⟨_, acc :: rs, rfl, ⟨wr.heap.size, q, a5, c5, rfl, .inr r6.size, Cel.new wr _ _, ((By22.own r5).below hb2).weaken (E := fun j => D j ∨ w.heap.size ≤ j) fun j hj _ => .inr hj, ((r1.below r6).below hb2).weaken fun j hj _ => .inl hj⟩, r2, chain r6 hb2⟩
    cases rs with
    | nil =>
      obtain rfl : q = none := r1
      clear r2 r3 r4 r5 r6 HR
      go_wp2
      go_ret
      exact done.out
    | cons z zs =>
      obtain ⟨q', p', a3, c3, rfl, h2, h3, h4, h5⟩ := r1
      have k0 : wr.cell? ⟨q', 0, none⟩ = some (.pointer p') := (h3.below r6).cell 0
      have k1 : wr.cell? ⟨q', 1, none⟩ = some (.slice a3 z.length c3) := (h3.below r6).cell 1
      have HH := Lib.hid (HR.out.1.hops HR.out.2.2.1)
      have HH5 := Lib.hid (h5.hops (k := ls.length) (by simp at r3; omega))
      have hlen := congrArg List.length r2
      simp [allS] at hlen
      have hz : z.length ≤ 1000000 := by omega
      have CC := Lib.hid (concat22_call z.length c3 m5 c5 a3 a5 z acc wr D (fun j => w.heap.size ≤ j) (h4.below r6) (By22.own r5) (by omega) (by omega))
      have kg : q' < wr.heap.size := (h3.below r6).lt
      have HS : RowKit.Hid (SaidAt w D zs p' ∧ allS zs ++ (z ++ acc) = L ∧ zs.length ≤ ls.length ∧ z.length + m5 = (z ++ acc).length ∧ Below w.heap.size w wr ∧ Cel wr q' 59 #[.pointer p', .slice a3 z.length c3]) := ⟨h5, by simpa [allS] using r2, by simp at r3; omega, by rw [List.length_append]; omega, r6, h3.below r6⟩
      clear r2 r3 r4 r5 r6 h2 h3 h4 h5 HR hlen
      obtain ⟨zl, hzl⟩ : ∃ zl, z.length = zl := ⟨_, rfl⟩
      rw [hzl] at k1 hz
      have e2 : (zl : Int).tdiv 2 = ((zl / 2 : Nat) : Int) := by rw [Int.tdiv_eq_ediv_of_nonneg (by omega)]; omega
      by_cases hle : zl / 2 ≤ m5
      · have d1 : decide (((zl / 2 : Nat) : Int) ≤ (m5 : Int)) = true := by simp; omega
        clear done
        go_wp2_with (go_at_call 27; rw [hzl] at CC; go_loud (refine CC.out.mono ?_); rintro e w2 ⟨a4, m4, c4, rfl, hm4, HB2⟩; have kk0 := (HS.out.2.2.2.2.2.below HB2.out.2).cell 0; have HM4 := Lib.hid hm4; clear hm4)
        go_roundw
        case rel => exact ⟨zs, p', z ++ acc, a4, m4, c4, rfl, rfl, HS.out.1, HS.out.2.1, HS.out.2.2.1, HM4.out.trans (by rw [← hzl]; exact HS.out.2.2.2.1), own_lower HB2.out.1 HS.out.2.2.2.2.1.size, chain HS.out.2.2.2.2.1 HB2.out.2⟩
        case measure =>
          rw [show ptrOf22 (.pointer p') = p' from rfl, show ptrOf22 (.pointer (some ⟨q', 0, none⟩)) = some ⟨q', 0, none⟩ from rfl, HH.out, HH5.out]
          simp
      · have d1 : decide (((zl / 2 : Nat) : Int) ≤ (m5 : Int)) = false := by simp; omega
        clear CC
        go_wp2
        go_ret
        exact done.out
end Go.Proofs.Ytnjnfocpjmmibaa
