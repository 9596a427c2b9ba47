/- The walk of PacketBytes. -/
import Derived.Test.YtcjikbddnceigaaPktL
import Derived.OrdersHeld
namespace Go.Proofs.Ytcjikbddnceigaa
open Go.RowKit
set_option linter.unusedVariables false
set_option linter.unusedSimpArgs false

set_option maxRecDepth 100000 in
set_option maxHeartbeats 2000000 in
/-- Too much comes in. -/
theorem packetBytes_out (ep nu : Int) (wh : Bool) (a : Option Addr) (n cap : Nat) (a2 : Option Addr) (n2 cap2 : Nat) (w : World) (h : 800 < n ∨ 100 < n2) :
    Calls Try.prog 3 #[.agg #[.int .u32 ep, .int .u32 nu, .bool wh, .slice a n cap], .slice a2 n2 cap2] w fun e w' => e = .returned (.bool true) ∧ Below w.heap.size w w' := by
  have HB := Lib.hid (Below.alloc_new w (.cells #[.int .u32 ep, .int .u32 nu, .bool wh, .slice a n cap] 25))
  have HC := Lib.hid (Cel.new w 25 #[.int .u32 ep, .int .u32 nu, .bool wh, .slice a n cap])
  by_cases h8 : 800 < n
  · have q : decide ((800 : Int) < (n : Int)) = true := by simp; omega
    clear h
    go_enter Try.func3, Try.ntmps3
    go_wp2_with (go_at_call 6; go_loud (refine (lives19_any _).mono ?_); rintro e w2 ⟨rfl, hb⟩; replace HC := Lib.hid (HC.out.below hb); replace HB := Lib.hid (chain HB.out hb); obtain ⟨c0, c1, c2, c3⟩ := cel4 HC.out; clear hb)
    go_ret
    exact ⟨rfl, HB.out⟩
  · have q : decide ((800 : Int) < (n : Int)) = false := by simp; omega
    have q2 : decide ((100 : Int) < (n2 : Int)) = true := by simp; omega
    clear h
    go_enter Try.func3, Try.ntmps3
    go_wp2_with (go_at_call 6; go_loud (refine (lives19_any _).mono ?_); rintro e w2 ⟨rfl, hb⟩; replace HC := Lib.hid (HC.out.below hb); replace HB := Lib.hid (chain HB.out hb); obtain ⟨c0, c1, c2, c3⟩ := cel4 HC.out; clear hb)
    go_ret
    exact ⟨rfl, HB.out⟩
set_option maxRecDepth 100000 in
set_option maxHeartbeats 2000000 in
/-- Too long a payload. -/
theorem packetBytes_long (P : Pk) (a : Option Addr) (n cap : Nat) (a2 : Option Addr) (n2 cap2 : Nat) (w : World) (h : 600 < n) (h8 : n ≤ 800) (h1 : n2 ≤ 100) :
    Calls Try.prog 3 #[.agg #[.int .u32 P.ep, .int .u32 P.nu, .bool P.wh, .slice a n cap], .slice a2 n2 cap2] w fun e w' => e = .returned (.bool true) ∧ Below w.heap.size w w' := by
  have HB := Lib.hid (Below.alloc_new w (.cells #[.int .u32 P.ep, .int .u32 P.nu, .bool P.wh, .slice a n cap] 25))
  have HC := Lib.hid (Cel.new w 25 #[.int .u32 P.ep, .int .u32 P.nu, .bool P.wh, .slice a n cap])
  have HL := Lib.hid (fun W => bytes19_long P a n cap W h)
  have q : decide ((800 : Int) < (n : Int)) = false := by simp; omega
  have q2 : decide ((100 : Int) < (n2 : Int)) = false := by simp; omega
  have q3 : decide ((600 : Int) < (n : Int)) = true := by simp; omega
  clear h h8 h1
  go_enter Try.func3, Try.ntmps3
  go_wp2_with (first
    | (go_at_call 6; go_loud (refine (lives19_any _).mono ?_); rintro e w2 ⟨rfl, hb⟩; replace HC := Lib.hid (HC.out.below hb); replace HB := Lib.hid (chain HB.out hb); obtain ⟨c0, c1, c2, c3⟩ := cel4 HC.out; clear hb)
    | (go_at_call 7; go_loud (refine (HL.out _).mono ?_); rintro e w3 ⟨rfl, hb⟩; replace HC := Lib.hid (HC.out.below hb); replace HB := Lib.hid (chain HB.out hb); obtain ⟨c0, c1, c2, c3⟩ := cel4 HC.out; clear hb)
    | fail)
  go_ret
  exact ⟨rfl, HB.out⟩

/-! ### The packet's bytes, there and back -/
/-- What is held where all is compared. -/
structure MbSt (w : World) (P : Pk) (a : Option Addr) (n cap : Nat) (a3 : Option Addr) (m3 : Nat) (a7 : Option Addr) (c7 gq : Nat) (wr : World) : Prop where
  b : Below w.heap.size w wr
  p : Cel wr w.heap.size 25 #[.int .u32 P.ep, .int .u32 P.nu, .bool P.wh, .slice a n cap]
  q : Cel wr gq 25 #[.int .u32 P.ep, .int .u32 P.nu, .bool P.wh, .slice a7 n c7]
  i3 : IntsAt wr wr.heap.size .u8 a3 m3 P.bytes
  i1 : IntsAt wr wr.heap.size .u8 a n P.pl
  i7 : IntsAt wr wr.heap.size .u8 a7 n P.pl
section
variable {w wr w' : World} {P : Pk} {a a3 a7 : Option Addr} {n cap m3 c7 gq : Nat}
theorem MbSt.below (h : MbSt w P a n cap a3 m3 a7 c7 gq wr) (hb : Below wr.heap.size wr w') : MbSt w P a n cap a3 m3 a7 c7 gq w' :=
  ⟨chain h.b hb, h.p.below hb, h.q.below hb, h.i3.now hb (Nat.le_refl _), h.i1.now hb (Nat.le_refl _), h.i7.now hb (Nat.le_refl _)⟩
theorem MbSt.drew (h : MbSt w P a n cap a3 m3 a7 c7 gq wr) : MbSt w P a n cap a3 m3 a7 c7 gq wr.drew := ⟨Below.drewN' h.b 1, h.p, h.q, h.i3, h.i1, h.i7⟩
theorem conv19 {wr : World} {a : Option Addr} {m : Nat} {b : List Int} (h : IntsAt wr wr.heap.size .u8 a m b) (c : Nat) : (convert 23 9 (.slice a m c)).run Try.prog wr = .ok (.string (textOf b)) wr :=
  string_of_ints (P := Try.prog) (src := 23) (dst := 9) (e := 5) (c := c) Try.underlying23 Try.underlying5 Try.underlying9 h
theorem MbSt.conv (h : MbSt w P a n cap a3 m3 a7 c7 gq wr) (c : Nat) : (convert 23 9 (.slice a3 m3 c)).run Try.prog wr = .ok (.string (textOf P.bytes)) wr := conv19 h.i3 c
end
set_option maxRecDepth 100000 in
set_option maxHeartbeats 4000000 in
theorem packetBytes_in (P : Pk) (a : Option Addr) (cap : Nat) (a2 : Option Addr) (n2 cap2 : Nat) (mo : List Int) (w : World) (hP : P.Ok) (hi : IntsAt w w.heap.size .u8 a P.pl.length P.pl) (ha : a = none → cap = 0) (hm : ByL w a2 n2 cap2 mo) (h8 : P.pl.length ≤ 600) (h1 : n2 ≤ 100) :
    Calls Try.prog 3 #[pkV19 P a cap, .slice a2 n2 cap2] w fun e w' => e = .returned (.bool true) ∧ Below w.heap.size w w' := by
  have HB := Lib.hid (Below.alloc_new w (.cells #[.int .u32 P.ep, .int .u32 P.nu, .bool P.wh, .slice a P.pl.length cap] 25))
  have HC := Lib.hid (Cel.new w 25 #[.int .u32 P.ep, .int .u32 P.nu, .bool P.wh, .slice a P.pl.length cap])
  have HBy := Lib.hid (fun W (hb : Below w.heap.size w W) => bytes19_any P a cap W hP (hi.now hb (Nat.le_refl _)) ha h8)
  have HR := Lib.hid (pk_reads hP h8 mo)
  have HL := Lib.hid P.bytes_len
  have HBb := Lib.hid (Pk.bytes_byts hP.b)
  have HI := Lib.hid hi
  have HM := Lib.hid hm
  have hml := hm.len
  obtain ⟨n, hn⟩ : ∃ n, P.pl.length = n := ⟨_, rfl⟩
  unfold pkV19 at HBy ⊢
  rw [hn] at h8 HB HC HBy HL HI HR ⊢
  have q : decide ((800 : Int) < (n : Int)) = false := by simp; omega
  have q2 : decide ((100 : Int) < (n2 : Int)) = false := by simp; omega
  have q3 : decide ((600 : Int) < (n : Int)) = false := by simp; omega
  have HN := Lib.hid hn
  have HOk := Lib.hid hP
  have HA := Lib.hid ha
  clear hi hm hn hP
  go_enter Try.func3, Try.ntmps3
  go_wp2_with (first
    | (go_at_call 6; go_loud (refine (lives19_any _).mono ?_); rintro e w2 ⟨rfl, hb⟩; replace HC := Lib.hid (HC.out.below hb); replace HB := Lib.hid (chain HB.out hb); obtain ⟨c0, c1, c2, c3⟩ := cel4 HC.out; clear hb)
    | (go_at_call 7; go_loud (refine (HBy.out _ HB.out).mono ?_); rintro e w3 ⟨v3, rfl, ho, hb⟩; obtain ⟨a3, m3, c3x, rfl, hm3⟩ := own_form_m ho; have HO3 := Lib.hid ho; have HM3 := Lib.hid hm3; have HB3 := Lib.hid (chain HB.out hb); have HC3 := Lib.hid (HC.out.below hb); obtain ⟨c0, c1, c2, c3⟩ := cel4 HC3.out; obtain ⟨W4, hW4⟩ : ∃ W4, w3.alloc (.cells #[] 5) = W4 := ⟨_, rfl⟩; have HW4 := Lib.hid hW4; have hb4 := Below.alloc_new w3 (.cells #[] 5); have hx4 := World.ownsRow_lit (base := w3.heap.size) (e := 5) (size := 1) w3 #[] 0 (Nat.le_refl _) (by decide) rfl; rw [hW4] at hb4 hx4; have HB4 := Lib.hid hb4; have HX4 : RowKit.Hid (W4.ownsRow w3.heap.size 5 1 (.slice (some ⟨w3.heap.size, 0, none⟩) 0 0) ([] : List Int).length (([] : List Int).map (Value.int .u8))) := hx4; have hm3b : m3 ≤ 617 := (by rw [hm3, HL.out]; omega); have HE3 : RowKit.Hid (17 + n = m3) := (by show _ = _; rw [hm3, HL.out]); clear ho hb hm3 hb4 hx4 hW4)
    | (at_builtin; have hq4 := HX4.out; rw [HW4.out]; go_loud (refine append_ints rfl _ _ 23 rfl w3.heap.size 5 .u8 1 Try.underlying23 info19_u8 _ _ _ rfl HX4.out a3 m3 c3x _ P.bytes rfl ((own_ints_m HO3.out).below HB4.out) (own_none19 HO3.out) (by unfold maxLen; simp; omega) (by simp; omega) HB4.out.size ?_); intro v5 w5 ho hg _; have HX5 := Lib.hid (own_len ho); have HB5 := Lib.hid (HB4.out.grown hg HB4.out.size fun j e => own_base HX4.out j e); clear ho hg hq4 HX4)
    | (at_builtin; have hq5 := HX5.out; go_loud (refine append_ints rfl _ _ 23 rfl w3.heap.size 5 .u8 1 Try.underlying23 info19_u8 _ _ _ rfl HX5.out a2 n2 cap2 _ mo rfl (HM.out.below (chain HB3.out HB5.out)).hi HM.out.ha (by unfold maxLen; rw [List.nil_append, HL.out]; omega) (by rw [List.nil_append, HL.out]; omega) HB5.out.size ?_); intro v6 w6 ho hg _; obtain ⟨a6, m6, c6, rfl, hm6⟩ := own_form_m (own_len ho); have HX6 := Lib.hid (own_len ho); have HM6 := Lib.hid hm6; have HB6 := Lib.hid (HB5.out.grown hg HB5.out.size fun j e => own_base HX5.out j e); clear ho hg hq5 HX5 hm6)
    | (go_at_call 8; have HY := Lib.hid (ByL.own HX6.out (by rw [List.nil_append]; exact HBb.out.app HM.out.hb) (by rw [List.nil_append, List.length_append, HL.out, HM.out.len]; omega)); go_loud (refine (parse_ok a6 m6 c6 _ _ HY.out (by rw [HM6.out, List.nil_append, List.length_append, HL.out, HM.out.len]; omega) (by rw [List.nil_append]; exact HR.out.1)).mono ?_); rintro e w7 ⟨v7, he, ho, hb⟩; rw [List.nil_append] at he ho; rw [HR.out.2.1, HR.out.2.2, HE3.out] at he; rw [HR.out.2.1, HN.out] at ho; subst he; obtain ⟨a7, c7, rfl⟩ := own_form ho; have HO7 := Lib.hid ho; have HB7 := Lib.hid (chain HB6.out hb); clear ho hb)
    | fail)
  have HB37 := Lib.hid HB7.out
  have HBw7 := Lib.hid (chain HB3.out HB37.out)
  have HC7 := Lib.hid (HC3.out.below HB37.out)
  have HI3 := Lib.hid ((own_ints_m HO3.out).now HB37.out (Nat.le_refl _))
  have HI1 := Lib.hid (HI.out.now HBw7.out (Nat.le_refl _))
  have HI7 := Lib.hid (own_ints_m HO7.out)
  obtain ⟨gq, hgq⟩ : ∃ gq, w7.heap.size = gq := ⟨_, rfl⟩
  obtain ⟨W8, hW8⟩ : ∃ W8, w7.alloc (.cells #[.int .u32 P.ep, .int .u32 P.nu, .bool P.wh, .slice a7 n c7] 25) = W8 := ⟨_, rfl⟩
  have hb8 := Below.alloc_new w7 (.cells #[.int .u32 P.ep, .int .u32 P.nu, .bool P.wh, .slice a7 n c7] 25)
  have hq8 := Cel.new w7 25 #[.int .u32 P.ep, .int .u32 P.nu, .bool P.wh, .slice a7 n c7]
  rw [hW8] at hb8 hq8 ⊢
  rw [hgq] at hq8 ⊢
  have H8 : RowKit.Hid (MbSt w P a n cap a3 m3 a7 c7 gq W8) := ⟨chain HBw7.out hb8, HC7.out.below hb8, hq8, HI3.out.now hb8 (Nat.le_refl _), HI1.out.now hb8 (Nat.le_refl _), HI7.out.now hb8 (Nat.le_refl _)⟩
  clear hW8 hb8 hq8 hgq HB37 HBw7 HC7 HI3 HI1 HI7 HX6 HM6 HB6 HB7 HO7 HB3 HC3 HB4 HW4 HO3 HM3 HC HB HBy HR HBb HI HM HB5 HY HL c0 c1 c2 c3 ha hml
  obtain ⟨p0, p1, p2, p3⟩ := cel4 H8.out.p
  obtain ⟨q0, q1, q2, q3⟩ := cel4 H8.out.q
  have cv := H8.out.conv c3x
  have CO := Lib.hid (fun W => lawOf_any P a cap W)
  have CY := Lib.hid (fun W (h : MbSt w P a n cap a3 m3 a7 c7 gq W) => refBytes_any P a cap W HOk.out (by rw [HN.out]; exact h.i1) HA.out (by rw [HN.out]; omega))
  have CS := Lib.hid (fun W (h : MbSt w P a n cap a3 m3 a7 c7 gq W) => lawSame_any P a7 a c7 cap W (by rw [HN.out]; exact h.i7) (by rw [HN.out]; exact h.i1))
  unfold pkV19 at CO CY CS
  rw [HN.out] at CO CY CS
  have b1 : (m3 : Int) ≤ 617 := by omega
  have cvd := H8.out.drew.conv c3x
  have HV : RowKit.Hid (∀ W, MbSt w P a n cap a3 m3 a7 c7 gq W → (convert 23 9 (.slice a3 m3 c3x)).run Try.prog W = .ok (.string (textOf P.bytes)) W) := fun W h => h.conv c3x
  have HV2 : RowKit.Hid (∀ W base a9 m9 c9, W.ownsRow base 5 1 (.slice a9 m9 c9) P.bytes.length (P.bytes.map (Value.int .u8)) → (convert 23 9 (.slice a9 m9 c9)).run Try.prog W = .ok (.string (textOf P.bytes)) W) := fun W base a9 m9 c9 h => conv19 (own_ints_m h) c9
  generalize textOf P.bytes = T at cv cvd HV HV2
  have HSS : RowKit.Hid (∀ w' : World, MbSt w P a n cap a3 m3 a7 c7 gq w' → (fun w' => MbSt w P a n cap a3 m3 a7 c7 gq w' ∧ (convert 23 9 (.slice a3 m3 c3x)).run Try.prog w' = .ok (.string T) w' ∧ w'.cell? ⟨w.heap.size, 0, none⟩ = some (.int .u32 P.ep) ∧ w'.cell? ⟨w.heap.size, 1, none⟩ = some (.int .u32 P.nu) ∧ w'.cell? ⟨w.heap.size, 2, none⟩ = some (.bool P.wh) ∧ w'.cell? ⟨w.heap.size, 3, none⟩ = some (.slice a n cap) ∧ w'.cell? ⟨gq, 0, none⟩ = some (.int .u32 P.ep) ∧ w'.cell? ⟨gq, 1, none⟩ = some (.int .u32 P.nu) ∧ w'.cell? ⟨gq, 2, none⟩ = some (.bool P.wh) ∧ w'.cell? ⟨gq, 3, none⟩ = some (.slice a7 n c7)) w') := by
    intro w' h
    exact ⟨h, HV.out w' h, h.p.cell 0, h.p.cell 1, h.p.cell 2, h.p.cell 3, h.q.cell 0, h.q.cell 1, h.q.cell 2, h.q.cell 3⟩
  clear p0 p1 p2 p3 q0 q1 q2 q3 cv cvd HV
  go_wp2
  refine wp_region_held_drew (S := (fun w' => MbSt w P a n cap a3 m3 a7 c7 gq w' ∧ (convert 23 9 (.slice a3 m3 c3x)).run Try.prog w' = .ok (.string T) w' ∧ w'.cell? ⟨w.heap.size, 0, none⟩ = some (.int .u32 P.ep) ∧ w'.cell? ⟨w.heap.size, 1, none⟩ = some (.int .u32 P.nu) ∧ w'.cell? ⟨w.heap.size, 2, none⟩ = some (.bool P.wh) ∧ w'.cell? ⟨w.heap.size, 3, none⟩ = some (.slice a n cap) ∧ w'.cell? ⟨gq, 0, none⟩ = some (.int .u32 P.ep) ∧ w'.cell? ⟨gq, 1, none⟩ = some (.int .u32 P.nu) ∧ w'.cell? ⟨gq, 2, none⟩ = some (.bool P.wh) ∧ w'.cell? ⟨gq, 3, none⟩ = some (.slice a7 n c7))) rfl (HSS.out _ H8.out.drew) (fun hS0 => ?_)
  refine wpAnyH_take (i := 0) (v := ?_) rfl (by kernel_rfl) (by kernel_rfl) (by kernel_rfl) (fun _ _ _ h => h) (Or.inl ⟨by rfl, ?_⟩) (by assumption) ?_
  rotate_left 1
  · intro wq hSw
    (try dsimp only at hSw)
    go_simp
    all_goals (with_reducible rfl)
  (try simp only [Act.put, List.setIfInBounds_toArray, List.set_cons_zero, List.set_cons_succ, List.getElem_toArray, List.getElem_cons_zero, List.getElem_cons_succ])
  refine wpAnyH_take (i := 1) (v := ?_) rfl (by kernel_rfl) (by kernel_rfl) (by kernel_rfl) (fun _ _ _ h => h) (Or.inl ⟨by rfl, ?_⟩) (by assumption) ?_
  rotate_left 1
  · intro wq hSw
    (try dsimp only at hSw)
    go_simp
    all_goals (with_reducible rfl)
  (try simp only [Act.put, List.setIfInBounds_toArray, List.set_cons_zero, List.set_cons_succ, List.getElem_toArray, List.getElem_cons_zero, List.getElem_cons_succ])
  refine wpAnyH_take (i := 2) (v := ?_) rfl (by kernel_rfl) (by kernel_rfl) (by kernel_rfl) (fun _ _ _ h => h) (Or.inl ⟨by rfl, ?_⟩) (by assumption) ?_
  rotate_left 1
  · intro wq hSw
    (try dsimp only at hSw)
    go_simp
    all_goals (with_reducible rfl)
  (try simp only [Act.put, List.setIfInBounds_toArray, List.set_cons_zero, List.set_cons_succ, List.getElem_toArray, List.getElem_cons_zero, List.getElem_cons_succ])
  refine wpAnyH_take (i := 3) (v := ?_) rfl (by kernel_rfl) (by kernel_rfl) (by kernel_rfl) (fun _ _ _ h => h) (Or.inl ⟨by rfl, ?_⟩) (by assumption) ?_
  rotate_left 1
  · intro wq hSw
    (try dsimp only at hSw)
    go_simp
    all_goals (with_reducible rfl)
  (try simp only [Act.put, List.setIfInBounds_toArray, List.set_cons_zero, List.set_cons_succ, List.getElem_toArray, List.getElem_cons_zero, List.getElem_cons_succ])
  refine wpAnyH_take (i := 4) (v := ?_) rfl (by kernel_rfl) (by kernel_rfl) (by kernel_rfl) (fun _ _ _ h => h) (Or.inl ⟨by rfl, ?_⟩) (by assumption) ?_
  rotate_left 1
  · intro wq hSw
    (try dsimp only at hSw)
    go_simp
    all_goals (with_reducible rfl)
  (try simp only [Act.put, List.setIfInBounds_toArray, List.set_cons_zero, List.set_cons_succ, List.getElem_toArray, List.getElem_cons_zero, List.getElem_cons_succ])
  refine wpAnyH_take (i := 5) (v := ?_) rfl (by kernel_rfl) (by kernel_rfl) (by kernel_rfl) (fun _ _ _ h => h) (Or.inl ⟨by rfl, ?_⟩) (by assumption) ?_
  rotate_left 1
  · intro wq hSw
    (try dsimp only at hSw)
    go_simp
    all_goals (with_reducible rfl)
  (try simp only [Act.put, List.setIfInBounds_toArray, List.set_cons_zero, List.set_cons_succ, List.getElem_toArray, List.getElem_cons_zero, List.getElem_cons_succ])
  refine wpAnyH_ready (rs := [6]) (by kernel_rfl) (by simp) ?_
  refine AllReadyH.cons rfl (fun K hK => ?_) AllReadyH.nil
  go_simp
  go_at_call 10
  go_loud (refine (CO.out _).mono ?_)
  rintro e9 w9 ⟨rfl, b9⟩
  have h9 := hS0.1.below b9
  have hS9 := HSS.out w9 h9
  refine hK.out _ _ hS9 (fun _ => ?_)
  clear hK K hS0 b9
  (try simp only [Act.put, List.setIfInBounds_toArray, List.set_cons_zero, List.set_cons_succ, List.getElem_toArray, List.getElem_cons_zero, List.getElem_cons_succ])
  refine wpAnyH_ready (rs := [7]) (by kernel_rfl) (by simp) ?_
  refine AllReadyH.cons rfl (fun K hK => ?_) AllReadyH.nil
  go_simp
  go_at_call 9
  go_loud (refine (CY.out _ hS9.1).mono ?_)
  rintro e10 w10 ⟨v10, rfl, ho, b10⟩
  obtain ⟨a10, m10, c10, rfl, hm10⟩ := own_form_m ho
  have cr10 := HV2.out _ _ _ _ _ ho
  have h10 := hS9.1.below b10
  have hS10 := HSS.out w10 h10
  refine hK.out _ _ hS10 (fun _ => ?_)
  clear hK K hS9 h9 b10 hm10 ho
  (try simp only [Act.put, List.setIfInBounds_toArray, List.set_cons_zero, List.set_cons_succ, List.getElem_toArray, List.getElem_cons_zero, List.getElem_cons_succ])
  refine wpAnyH_ready (rs := [8]) (by kernel_rfl) (by simp) ?_
  refine AllReadyH.cons rfl (fun K hK => ?_) AllReadyH.nil
  go_simp
  refine hK.out _ _ hS10 (fun _ => ?_)
  clear hK K cr10
  (try simp only [Act.put, List.setIfInBounds_toArray, List.set_cons_zero, List.set_cons_succ, List.getElem_toArray, List.getElem_cons_zero, List.getElem_cons_succ])
  refine wpAnyH_take (i := 9) (v := ?_) rfl (by kernel_rfl) (by kernel_rfl) (by kernel_rfl) (fun _ _ _ h => h) (Or.inl ⟨by rfl, ?_⟩) (by assumption) ?_
  rotate_left 1
  · intro wq hSw
    (try dsimp only at hSw)
    go_simp
    all_goals (with_reducible rfl)
  (try simp only [Act.put, List.setIfInBounds_toArray, List.set_cons_zero, List.set_cons_succ, List.getElem_toArray, List.getElem_cons_zero, List.getElem_cons_succ])
  refine wpAnyH_take (i := 10) (v := ?_) rfl (by kernel_rfl) (by kernel_rfl) (by kernel_rfl) (fun _ _ _ h => h) (Or.inl ⟨by rfl, ?_⟩) (by assumption) ?_
  rotate_left 1
  · intro wq hSw
    (try dsimp only at hSw)
    go_simp
    all_goals (with_reducible rfl)
  (try simp only [Act.put, List.setIfInBounds_toArray, List.set_cons_zero, List.set_cons_succ, List.getElem_toArray, List.getElem_cons_zero, List.getElem_cons_succ])
  refine wpAnyH_take (i := 11) (v := ?_) rfl (by kernel_rfl) (by kernel_rfl) (by kernel_rfl) (fun _ _ _ h => h) (Or.inl ⟨by rfl, ?_⟩) (by assumption) ?_
  rotate_left 1
  · intro wq hSw
    (try dsimp only at hSw)
    go_simp
    all_goals (with_reducible rfl)
  (try simp only [Act.put, List.setIfInBounds_toArray, List.set_cons_zero, List.set_cons_succ, List.getElem_toArray, List.getElem_cons_zero, List.getElem_cons_succ])
  refine wpAnyH_take (i := 12) (v := ?_) rfl (by kernel_rfl) (by kernel_rfl) (by kernel_rfl) (fun _ _ _ h => h) (Or.inl ⟨by rfl, ?_⟩) (by assumption) ?_
  rotate_left 1
  · intro wq hSw
    (try dsimp only at hSw)
    go_simp
    all_goals (with_reducible rfl)
  (try simp only [Act.put, List.setIfInBounds_toArray, List.set_cons_zero, List.set_cons_succ, List.getElem_toArray, List.getElem_cons_zero, List.getElem_cons_succ])
  refine wpAnyH_take (i := 13) (v := ?_) rfl (by kernel_rfl) (by kernel_rfl) (by kernel_rfl) (fun _ _ _ h => h) (Or.inl ⟨by rfl, ?_⟩) (by assumption) ?_
  rotate_left 1
  · intro wq hSw
    (try dsimp only at hSw)
    go_simp
    all_goals (with_reducible rfl)
  (try simp only [Act.put, List.setIfInBounds_toArray, List.set_cons_zero, List.set_cons_succ, List.getElem_toArray, List.getElem_cons_zero, List.getElem_cons_succ])
  refine wpAnyH_take (i := 14) (v := ?_) rfl (by kernel_rfl) (by kernel_rfl) (by kernel_rfl) (fun _ _ _ h => h) (Or.inl ⟨by rfl, ?_⟩) (by assumption) ?_
  rotate_left 1
  · intro wq hSw
    (try dsimp only at hSw)
    go_simp
    all_goals (with_reducible rfl)
  (try simp only [Act.put, List.setIfInBounds_toArray, List.set_cons_zero, List.set_cons_succ, List.getElem_toArray, List.getElem_cons_zero, List.getElem_cons_succ])
  refine wpAnyH_take (i := 15) (v := ?_) rfl (by kernel_rfl) (by kernel_rfl) (by kernel_rfl) (fun _ _ _ h => h) (Or.inl ⟨by rfl, ?_⟩) (by assumption) ?_
  rotate_left 1
  · intro wq hSw
    (try dsimp only at hSw)
    go_simp
    all_goals (with_reducible rfl)
  (try simp only [Act.put, List.setIfInBounds_toArray, List.set_cons_zero, List.set_cons_succ, List.getElem_toArray, List.getElem_cons_zero, List.getElem_cons_succ])
  refine wpAnyH_take (i := 16) (v := ?_) rfl (by kernel_rfl) (by kernel_rfl) (by kernel_rfl) (fun _ _ _ h => h) (Or.inl ⟨by rfl, ?_⟩) (by assumption) ?_
  rotate_left 1
  · intro wq hSw
    (try dsimp only at hSw)
    go_simp
    all_goals (with_reducible rfl)
  (try simp only [Act.put, List.setIfInBounds_toArray, List.set_cons_zero, List.set_cons_succ, List.getElem_toArray, List.getElem_cons_zero, List.getElem_cons_succ])
  refine wpAnyH_take (i := 17) (v := ?_) rfl (by kernel_rfl) (by kernel_rfl) (by kernel_rfl) (fun _ _ _ h => h) (Or.inl ⟨by rfl, ?_⟩) (by assumption) ?_
  rotate_left 1
  · intro wq hSw
    (try dsimp only at hSw)
    go_simp
    all_goals (with_reducible rfl)
  (try simp only [Act.put, List.setIfInBounds_toArray, List.set_cons_zero, List.set_cons_succ, List.getElem_toArray, List.getElem_cons_zero, List.getElem_cons_succ])
  refine wpAnyH_take (i := 18) (v := ?_) rfl (by kernel_rfl) (by kernel_rfl) (by kernel_rfl) (fun _ _ _ h => h) (Or.inl ⟨by rfl, ?_⟩) (by assumption) ?_
  rotate_left 1
  · intro wq hSw
    (try dsimp only at hSw)
    go_simp
    all_goals (with_reducible rfl)
  (try simp only [Act.put, List.setIfInBounds_toArray, List.set_cons_zero, List.set_cons_succ, List.getElem_toArray, List.getElem_cons_zero, List.getElem_cons_succ])
  refine wpAnyH_take (i := 19) (v := ?_) rfl (by kernel_rfl) (by kernel_rfl) (by kernel_rfl) (fun _ _ _ h => h) (Or.inl ⟨by rfl, ?_⟩) (by assumption) ?_
  rotate_left 1
  · intro wq hSw
    (try dsimp only at hSw)
    go_simp
    all_goals (with_reducible rfl)
  (try simp only [Act.put, List.setIfInBounds_toArray, List.set_cons_zero, List.set_cons_succ, List.getElem_toArray, List.getElem_cons_zero, List.getElem_cons_succ])
  refine wpAnyH_take (i := 20) (v := ?_) rfl (by kernel_rfl) (by kernel_rfl) (by kernel_rfl) (fun _ _ _ h => h) (Or.inl ⟨by rfl, ?_⟩) (by assumption) ?_
  rotate_left 1
  · intro wq hSw
    (try dsimp only at hSw)
    go_simp
    all_goals (with_reducible rfl)
  (try simp only [Act.put, List.setIfInBounds_toArray, List.set_cons_zero, List.set_cons_succ, List.getElem_toArray, List.getElem_cons_zero, List.getElem_cons_succ])
  refine wpAnyH_take (i := 21) (v := ?_) rfl (by kernel_rfl) (by kernel_rfl) (by kernel_rfl) (fun _ _ _ h => h) (Or.inl ⟨by rfl, ?_⟩) (by assumption) ?_
  rotate_left 1
  · intro wq hSw
    (try dsimp only at hSw)
    go_simp
    all_goals (with_reducible rfl)
  (try simp only [Act.put, List.setIfInBounds_toArray, List.set_cons_zero, List.set_cons_succ, List.getElem_toArray, List.getElem_cons_zero, List.getElem_cons_succ])
  refine wpAnyH_take (i := 22) (v := ?_) rfl (by kernel_rfl) (by kernel_rfl) (by kernel_rfl) (fun _ _ _ h => h) (Or.inl ⟨by rfl, ?_⟩) (by assumption) ?_
  rotate_left 1
  · intro wq hSw
    (try dsimp only at hSw)
    go_simp
    all_goals (with_reducible rfl)
  (try simp only [Act.put, List.setIfInBounds_toArray, List.set_cons_zero, List.set_cons_succ, List.getElem_toArray, List.getElem_cons_zero, List.getElem_cons_succ])
  refine wpAnyH_take (i := 23) (v := ?_) rfl (by kernel_rfl) (by kernel_rfl) (by kernel_rfl) (fun _ _ _ h => h) (Or.inl ⟨by rfl, ?_⟩) (by assumption) ?_
  rotate_left 1
  · intro wq hSw
    (try dsimp only at hSw)
    go_simp
    all_goals (with_reducible rfl)
  (try simp only [Act.put, List.setIfInBounds_toArray, List.set_cons_zero, List.set_cons_succ, List.getElem_toArray, List.getElem_cons_zero, List.getElem_cons_succ])
  refine wpAnyH_ready (rs := [24]) (by kernel_rfl) (by simp) ?_
  refine AllReadyH.cons rfl (fun K hK => ?_) AllReadyH.nil
  go_simp
  go_at_call 10
  go_loud (refine (CO.out _).mono ?_)
  rintro e11 w11 ⟨rfl, b11⟩
  have h11 := hS10.1.below b11
  have hS11 := HSS.out w11 h11
  refine hK.out _ _ hS11 (fun _ => ?_)
  clear hK K hS10 h10 b11
  (try simp only [Act.put, List.setIfInBounds_toArray, List.set_cons_zero, List.set_cons_succ, List.getElem_toArray, List.getElem_cons_zero, List.getElem_cons_succ])
  refine wpAnyH_ready (rs := [25]) (by kernel_rfl) (by simp) ?_
  refine AllReadyH.cons rfl (fun K hK => ?_) AllReadyH.nil
  go_simp
  go_at_call 11
  go_loud (refine (CS.out _ hS11.1).mono ?_)
  rintro e12 w12 ⟨rfl, b12⟩
  have h12 := hS11.1.below b12
  have hS12 := HSS.out w12 h12
  refine hK.out _ _ hS12 (fun _ => ?_)
  clear hK K hS11 h11 b12
  (try simp only [Act.put, List.setIfInBounds_toArray, List.set_cons_zero, List.set_cons_succ, List.getElem_toArray, List.getElem_cons_zero, List.getElem_cons_succ])
  refine wpAnyH_take (i := 26) (v := ?_) rfl (by kernel_rfl) (by kernel_rfl) (by kernel_rfl) (fun _ _ _ h => h) (Or.inl ⟨by rfl, ?_⟩) (by assumption) ?_
  rotate_left 1
  · intro wq hSw
    (try dsimp only at hSw)
    go_simp
    all_goals (with_reducible rfl)
  (try simp only [Act.put, List.setIfInBounds_toArray, List.set_cons_zero, List.set_cons_succ, List.getElem_toArray, List.getElem_cons_zero, List.getElem_cons_succ])
  refine wpAnyH_take (i := 27) (v := ?_) rfl (by kernel_rfl) (by kernel_rfl) (by kernel_rfl) (fun _ _ _ h => h) (Or.inl ⟨by rfl, ?_⟩) (by assumption) ?_
  rotate_left 1
  · intro wq hSw
    (try dsimp only at hSw)
    go_simp
    all_goals (with_reducible rfl)
  (try simp only [Act.put, List.setIfInBounds_toArray, List.set_cons_zero, List.set_cons_succ, List.getElem_toArray, List.getElem_cons_zero, List.getElem_cons_succ])
  refine wpAnyH_take (i := 28) (v := ?_) rfl (by kernel_rfl) (by kernel_rfl) (by kernel_rfl) (fun _ _ _ h => h) (Or.inl ⟨by rfl, ?_⟩) (by assumption) ?_
  rotate_left 1
  · intro wq hSw
    (try dsimp only at hSw)
    go_simp
    all_goals (with_reducible rfl)
  (try simp only [Act.put, List.setIfInBounds_toArray, List.set_cons_zero, List.set_cons_succ, List.getElem_toArray, List.getElem_cons_zero, List.getElem_cons_succ])
  refine wpAnyH_take (i := 29) (v := ?_) rfl (by kernel_rfl) (by kernel_rfl) (by kernel_rfl) (fun _ _ _ h => h) (Or.inl ⟨by rfl, ?_⟩) (by assumption) ?_
  rotate_left 1
  · intro wq hSw
    (try dsimp only at hSw)
    go_simp
    all_goals (with_reducible rfl)
  (try simp only [Act.put, List.setIfInBounds_toArray, List.set_cons_zero, List.set_cons_succ, List.getElem_toArray, List.getElem_cons_zero, List.getElem_cons_succ])
  refine wpAnyH_take (i := 30) (v := ?_) rfl (by kernel_rfl) (by kernel_rfl) (by kernel_rfl) (fun _ _ _ h => h) (Or.inl ⟨by rfl, ?_⟩) (by assumption) ?_
  rotate_left 1
  · intro wq hSw
    (try dsimp only at hSw)
    go_simp
    all_goals (with_reducible rfl)
  (try simp only [Act.put, List.setIfInBounds_toArray, List.set_cons_zero, List.set_cons_succ, List.getElem_toArray, List.getElem_cons_zero, List.getElem_cons_succ])
  refine wpAnyH_take (i := 31) (v := ?_) rfl (by kernel_rfl) (by kernel_rfl) (by kernel_rfl) (fun _ _ _ h => h) (Or.inl ⟨by rfl, ?_⟩) (by assumption) ?_
  rotate_left 1
  · intro wq hSw
    (try dsimp only at hSw)
    go_simp
    all_goals (with_reducible rfl)
  (try simp only [Act.put, List.setIfInBounds_toArray, List.set_cons_zero, List.set_cons_succ, List.getElem_toArray, List.getElem_cons_zero, List.getElem_cons_succ])
  refine wpAnyH_done (by kernel_rfl) ?_ _
  have H12 := Lib.hid h12.b
  clear hS12 h12 HSS
  go_wp2
  go_ret
  exact ⟨rfl, H12.out⟩
end Go.Proofs.Ytcjikbddnceigaa
