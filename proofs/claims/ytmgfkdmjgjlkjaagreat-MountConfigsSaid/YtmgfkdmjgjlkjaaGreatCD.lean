/- Plain facts, and what functions give, for the proofs of this seat: several texts in one, each with its own first remark. -/
import Derived.Test.YtmgfkdmjgjlkjaaGreatCC
import Derived.Lib.MapLaws
import Derived.PlainAid
import Derived.Lib.Strings
import Derived.WalkSpells
import Derived.Shelf.Small.Strs
import Derived.Shelf.Small.Utf8
import Derived.Shelf.Small.Wraps
import Derived.Shelf.Strings.BuilderF
import Derived.Shelf.Strings.BuilderK
import Derived.Shelf.Strings.BuilderRune
import Derived.Shelf.Strings.Prefix
import Derived.Test.YtmgfkdmjgjlkjaaGreatProg

namespace Go.Proofs.YtmgfkdmjgjlkjaaGreat
open Go Go.RowKit
set_option linter.unusedVariables false
set_option linter.unusedSimpArgs false
set_option maxRecDepth 100000
theorem mtHistory_nil (w : World) : Calls Tryz.prog 21 #[.pointer none] w fun e w' => e = .returned (.slice none 0 0) ∧ w = w' := by
  go_enter Tryz.func21, Tryz.ntmps21
  go_wp2
  go_ret
  exact ⟨rfl, rfl⟩
theorem mtBurst_nil (w : World) : Calls Tryz.prog 23 #[.pointer none] w fun e w' => e = .returned (.slice none 0 0) ∧ w = w' := by
  go_enter Tryz.func23, Tryz.ntmps23
  go_wp2_with (go_at_call 18; go_loud (refine (mtLive_nil _).mono ?_); rintro e w2 ⟨rfl, rfl⟩)
  go_ret
  exact ⟨rfl, rfl⟩
section
variable {w : World} {B g : Nat} {X : Nat → Prop} {c : Cfg} {ep : Int} {o : Option S13} {ps : List Pk} {T : List ByteArray}
theorem mtBurst_dead (h : MtAt w B g X c ep none ps T) : Calls Tryz.prog 23 #[.pointer (some ⟨g, 0, none⟩)] w fun e w' => e = .returned (.slice none 0 0) ∧ w = w' := by
  have HL := Lib.hid (mtLive_any h)
  clear h
  go_enter Tryz.func23, Tryz.ntmps23
  go_wp2_with (go_at_call 18; go_loud (refine HL.out.mono ?_); rintro e w2 ⟨rfl, rfl⟩; try simp only [Option.isSome_none])
  go_ret
  exact ⟨rfl, rfl⟩
theorem info23_pks : (Tryz.prog.info? 45).map (fun i => (i.zero, i.size, i.bytes)) = some (some (.agg #[.int .u32 0, .int .u32 0, .bool false, .slice none 0 0]), 4, 40) := by kernel_rfl
def BurstPost (ps : List Pk) (w : World) (e : Ending) (w' : World) : Prop := ∃ v, e = .returned v ∧ PksAt w' w.heap.size 0 45 v ps ∧ Below w.heap.size w w'
set_option maxHeartbeats 4000000 in
theorem mtBurst_any {S : S13} (h : MtAt w B g X c ep (some S) ps T) (hN : ps.length ≤ 1000) (hl : ∀ p, p ∈ ps → p.pl.length ≤ 1000) : Calls Tryz.prog 23 #[.pointer (some ⟨g, 0, none⟩)] w (BurstPost (burstF ps c.r.toNat) w) := by
  have HL := Lib.hid (mtLive_any h)
  obtain ⟨r, eb, ev, a, n, cc, nu, h⟩ := h
  obtain ⟨D, hD⟩ : ∃ D, Dm g r eb X = D := ⟨_, rfl⟩
  have hr := h.cr
  have c9 : w.cell? ⟨g, 9, none⟩ = some (.pointer (some ⟨r, 0, none⟩)) := h.ce.cell 9
  have hgl := h.ce.lt
  clear h
  obtain ⟨R, hR⟩ : ∃ R, c.r.toNat = R := ⟨_, rfl⟩
  rw [hD] at hr
  rw [hR] at hr ⊢
  clear hD hR
  obtain ⟨m, hm⟩ : ∃ m, ps.length = m := ⟨_, rfl⟩
  obtain ⟨f, hf⟩ : ∃ f, firstP R m = f := ⟨_, rfl⟩
  have hm1 : m ≤ 1000 := by omega
  have hf2 : f ≤ m ∧ m ≤ f + R := by rw [← hf]; unfold firstP; exact ⟨by omega, by omega⟩
  obtain ⟨J, hJ⟩ : ∃ J, lastW ps f m = J := ⟨_, rfl⟩
  have hJb := lastW_ge ps f m
  have hJl := fun hz => lastW_lo ps f (k := m) hz
  rw [hJ] at hJb hJl
  have HC9 : RowKit.Hid (∀ W, Below w.heap.size w W → W.cell? ⟨g, 9, none⟩ = some (.pointer (some ⟨r, 0, none⟩))) := Lib.hid fun W hb => (hb.cell (p := ⟨g, 9, none⟩) hgl).trans c9
  have CE : RowKit.Hid (∀ W, Below w.heap.size w W → Calls Tryz.prog 50 #[.pointer (some ⟨r, 0, none⟩)] W fun e w' => e = .returned (.tuple #[.int .i64 f, .int .i64 m]) ∧ Below w.heap.size w w') := by
    refine Lib.hid fun W hb => ?_
    have hrW := hr.below hb
    obtain ⟨k0, k1⟩ := hrW.head
    have := rgEnds_any r R m W k0 (by rw [k1, hm]) hrW.n2 (by omega)
    rw [hf] at this
    refine this.mono ?_
    rintro e w' ⟨rfl, k, rfl⟩
    exact ⟨rfl, Below.drewN' hb k⟩
  have CJ : RowKit.Hid (∀ W, Below w.heap.size w W → Calls Tryz.prog 49 #[.pointer (some ⟨r, 0, none⟩)] W fun e w' => e = .returned (.tuple #[.int .i64 (joinV J), .bool (decide (0 ≤ J))]) ∧ Below w.heap.size w w') := by
    refine Lib.hid fun W hb => ?_
    have := rgJoin_any r R ps D W (hr.below hb) (by omega)
    rw [hm, hf, hJ] at this
    refine this.mono ?_
    rintro e w' ⟨rfl, k, rfl⟩
    exact ⟨rfl, Below.drewN' hb k⟩
  have CA : RowKit.Hid (∀ W i p, Below w.heap.size w W → ps[i]? = some p → f ≤ i → Calls Tryz.prog 51 #[.pointer (some ⟨r, 0, none⟩), .int .i64 (i : Int)] W fun e w' => ∃ a c, e = .returned (.tuple #[.agg (pkC p a p.pl.length c), .bool true]) ∧ w'.ownsRow W.heap.size 5 1 (.slice a p.pl.length c) p.pl.length (p.pl.map (Value.int .u8)) ∧ Below W.heap.size W w') := by
    refine Lib.hid fun W i p hb hp hi => ?_
    exact rgAt_yes r R ps D i p W (hr.below hb) (by omega) hp (by have := hl p (List.mem_of_getElem? hp); omega) (by omega)
  have HB0 := Lib.hid (Below.refl w.heap.size w)
  have HM := Lib.hid hm
  have HBu : RowKit.Hid (burstF ps R = if 0 ≤ J then ps.drop J.toNat else []) := by unfold burstF; rw [hm, hf, hJ]; exact Lib.hid rfl
  have HPl := Lib.hid hl
  clear hr hl hf hJ hm c9
  by_cases hJ0 : 0 ≤ J
  · obtain ⟨k, rfl⟩ : ∃ k : Nat, J = (k : Int) := ⟨J.toNat, by omega⟩
    have hfk : f ≤ k := by have := hJl (by omega); omega
    have hkm : k < m := by omega
    have e1 : joinV (k : Int) = (k : Int) := by unfold joinV; rw [if_pos (by omega)]
    have e2 : decide (0 ≤ (k : Int)) = true := by simp
    rw [e1, e2] at CJ
    have HBv : RowKit.Hid (burstF ps R = ps.drop k) := by rw [HBu.out, if_pos hJ0, Int.toNat_natCast]; exact Lib.hid rfl
    rw [HBv.out]
    clear e1 e2 hJb hJl hJ0 HBu HBv
    have HKf : RowKit.Hid (f ≤ k) := hfk
    clear hfk
    have x9 := HC9.out w HB0.out
    go_enter Tryz.func23, Tryz.ntmps23
    go_wp2_with (first
      | (go_at_call 18; go_loud (refine HL.out.mono ?_); rintro e w2 ⟨rfl, rfl⟩; try simp only [Option.isSome_some])
      | (go_at_call 49; go_loud (refine (CJ.out _ HB0.out).mono ?_); rintro e w3 ⟨rfl, hb⟩; have HB3 := Lib.hid hb; have y9 := HC9.out _ hb; clear hb)
      | (go_at_call 50; go_loud (refine (CE.out _ HB3.out).mono ?_); rintro e w4 ⟨rfl, hb⟩; have HB4 := Lib.hid hb; clear hb)
      | fail)
    go_loopw [3, 5] (fun i v wr => ∃ t : Nat, k ≤ t ∧ t ≤ m ∧ i = .int .i64 t ∧ RowKit.Hid (PksAt wr w.heap.size 0 45 v (upToK ps k t) ∧ Below w.heap.size w wr)) (fun i _ _ => m - (intOf i).toNat)
    case atStart => exact ⟨k, Nat.le_refl _, by omega, rfl, by rw [upToK_start]; exact PksAt.nil _ _ _ _, HB4.out⟩
    case round =>
      obtain ⟨t, ht, htm, rfl, H⟩ := hrel
      clear HB3 HB4 y9 x9 HB0 HL CJ CE
      by_cases hlt : t < m
      · obtain ⟨p, hp⟩ : ∃ p, ps[t]? = some p := ⟨ps[t]'(by rw [HM.out]; omega), List.getElem?_eq_getElem _⟩
        have HA := Lib.hid (CA.out wr t p H.out.2 hp (Nat.le_trans HKf.out ht))
        have HU := Lib.hid (upToK_step ht hp)
        have HUl := Lib.hid (upToK_len (ps := ps) (k := k) (t := t) (by rw [HM.out]; omega))
        obtain ⟨l, hl⟩ : ∃ l, p.pl.length = l := ⟨_, rfl⟩
        have HLl := Lib.hid hl
        unfold pkC at HA
        rw [hl] at HA
        have x9 := HC9.out _ H.out.2
        have l1 : (t : Int) < (m : Int) := by omega
        obtain ⟨a5, n5, c5, rfl, hn5⟩ := H.out.1.form
        have HN5 := Lib.hid hn5
        have HBs : RowKit.Hid (w.heap.size ≤ wr.heap.size) := H.out.2.size
        clear hl hp hn5
        go_wp2_with (first
          | (go_at_call 51; go_loud (refine HA.out.mono ?_); rintro e w4 ⟨a4, c4, rfl, ho, hb⟩; obtain ⟨W5, hW5⟩ : ∃ W5, (w4.alloc (.cells #[.int .u32 p.ep, .int .u32 p.nu, .bool p.wh, .slice a4 l c4] 45)).alloc (.cells #[.int .u32 p.ep, .int .u32 p.nu, .bool p.wh, .slice a4 l c4] 45) = W5 := ⟨_, rfl⟩; have HW5 := Lib.hid hW5; have HB5 : RowKit.Hid (Below wr.heap.size wr W5) := (by rw [← hW5]; exact (hb.alloc hb.size _).alloc (Nat.le_trans hb.size (by simp)) _); have HC5 : RowKit.Hid (Cel W5 (w4.heap.size + 1) 45 #[.int .u32 p.ep, .int .u32 p.nu, .bool p.wh, .slice a4 l c4]) := (by have k := Cel.new (w4.alloc (.cells #[.int .u32 p.ep, .int .u32 p.nu, .bool p.wh, .slice a4 l c4] 45)) 45 #[.int .u32 p.ep, .int .u32 p.nu, .bool p.wh, .slice a4 l c4]; rw [hW5, World.size_alloc] at k; exact k); have HPy : RowKit.Hid (PyAt W5 0 (p, a4, c4)) := (by rw [← HLl.out] at ho; have k := ((PyAt.own ho 0).below (Below.alloc_new w4 (.cells #[.int .u32 p.ep, .int .u32 p.nu, .bool p.wh, .slice a4 l c4] 45))).below (Below.alloc_new _ (.cells #[.int .u32 p.ep, .int .u32 p.nu, .bool p.wh, .slice a4 l c4] 45)); rw [hW5] at k; exact k); clear ho hb hW5)
          | (at_builtin; go_loud (rw [HW5.out]); go_loud (refine append_pks rfl _ _ 36 rfl w.heap.size 0 45 _ 40 Tryz.underlying36 info23_pks rfl (by decide) (by decide) (Nat.zero_le _) _ (upToK ps k t) rfl (H.out.1.below HB5.out) (some ⟨w4.heap.size + 1, 0, none⟩) 1 1 [(p, a4, c4)] rfl rfl (fun e => by cases e) (fun ad e => by injection e with e; subst e; have k := World.news_of_block HC5.out; rw [← HLl.out] at k; exact k) (fun y hy => by simp at hy; subst hy; exact HPy.out) (by have := HUl.out; have := HM.out; omega) (Nat.le_trans HBs.out HB5.out.size) ?_); intro v6 w6 hp6 hk6; have H6 : RowKit.Hid (PksAt w6 w.heap.size 0 45 v6 (upToK ps k (t + 1)) ∧ Below w.heap.size w w6) := (by rw [HU.out]; exact ⟨hp6, (chain H.out.2 HB5.out).trans (hk6.below (Nat.le_trans HBs.out HB5.out.size) fun j hj => hj.1)⟩); clear hp6 hk6)
          | fail)
        go_roundw
        case rel => exact ⟨t + 1, by omega, by omega, by go_num, H6.out⟩
        case measure => simp [intOf]; omega
      · obtain rfl : t = m := by omega
        have HZ := Lib.hid H.out
        clear H
        go_wp2
        go_ret
        refine ⟨_, rfl, ?_, HZ.out.2⟩
        have := HZ.out.1
        rw [← HM.out, upToK_end] at this
        exact this
  · have e2 : decide (0 ≤ J) = false := by simpa using hJ0
    rw [e2] at CJ
    rw [HBu.out, if_neg hJ0]
    clear e2 HBu hJb hJl hJ0
    have x9 := HC9.out w HB0.out
    go_enter Tryz.func23, Tryz.ntmps23
    go_wp2_with (first
      | (go_at_call 18; go_loud (refine HL.out.mono ?_); rintro e w2 ⟨rfl, rfl⟩; try simp only [Option.isSome_some])
      | (go_at_call 49; go_loud (refine (CJ.out _ HB0.out).mono ?_); rintro e w3 ⟨rfl, hb⟩; have HB3 := Lib.hid hb; clear hb)
      | fail)
    go_ret
    exact ⟨_, rfl, PksAt.nil _ _ _ _, HB3.out⟩
end
end Go.Proofs.YtmgfkdmjgjlkjaaGreat

namespace Go.Proofs.YtmgfkdmjgjlkjaaGreat
open Go
set_option linter.unusedVariables false
def headI (l : List UInt8) : Option Nat := if (Lib.decodeL l).1 = 65533 ∧ (Lib.decodeL l).2 = 1 then none else some (Lib.decodeL l).1
def itemsN : Nat → List UInt8 → List (Option Nat)
  | 0, _ => []
  | n + 1, l => if l = [] then [] else headI l :: itemsN n (l.drop (Lib.decodeL l).2)
def items (l : List UInt8) : List (Option Nat) := itemsN l.length l
theorem itemsN_nil : ∀ n, itemsN n [] = []
  | 0 => rfl
  | _ + 1 => by simp [itemsN]
theorem itemsN_fuel : ∀ (n m : Nat) (l : List UInt8), l.length ≤ n → l.length ≤ m → itemsN n l = itemsN m l
  | 0, m, l, hn, _ => by
    have : l = [] := List.eq_nil_of_length_eq_zero (by omega)
    subst this
    rw [itemsN_nil, itemsN_nil]
  | n + 1, 0, l, _, hm => by
    have : l = [] := List.eq_nil_of_length_eq_zero (by omega)
    subst this
    rw [itemsN_nil, itemsN_nil]
  | n + 1, m + 1, l, hn, hm => by
    by_cases hne : l = []
    · subst hne
      rw [itemsN_nil, itemsN_nil]
    · have hw := Lib.decodeL_width l
      have hl : 0 < l.length := List.length_pos_iff.2 hne
      simp only [itemsN, if_neg hne]
      rw [itemsN_fuel n m _ (by rw [List.length_drop]; omega) (by rw [List.length_drop]; omega)]
theorem items_nil : items [] = [] := rfl
theorem items_step (l : List UInt8) (hne : l ≠ []) : items l = headI l :: items (l.drop (Lib.decodeL l).2) := by
  have hw := Lib.decodeL_width l
  have hl : 0 < l.length := List.length_pos_iff.2 hne
  unfold items
  obtain ⟨n, hn⟩ : ∃ n, l.length = n + 1 := ⟨l.length - 1, by omega⟩
  rw [hn]
  simp only [itemsN, if_neg hne]
  rw [itemsN_fuel n _ _ (by rw [List.length_drop]; omega) (Nat.le_refl _)]
def enc (rs : List Nat) : List UInt8 := rs.flatMap (fun r : Nat => Lib.encodeRune (r : Int))
theorem enc_nil : enc [] = [] := rfl
theorem enc_cons (r : Nat) (rs : List Nat) : enc (r :: rs) = Lib.encodeRune (r : Int) ++ enc rs := by simp [enc]
def okR (r : Nat) : Prop := r < 55296 ∨ (57344 ≤ r ∧ r ≤ 1114111)
theorem decN_two (n b0 b1 b2 b3 r : Nat) (hn : 2 ≤ n) (h0 : b0 = 192 + r / 64) (h1 : b1 = 128 + r % 64) (hr : 128 ≤ r) (hr2 : r ≤ 2047) : Lib.decodeN n b0 b1 b2 b3 = (r, 2) := by
  unfold Lib.decodeN
  repeat' split
  all_goals first | (exfalso; omega) | (apply Prod.ext <;> simp only <;> omega)
theorem decN_three (n b0 b1 b2 b3 r : Nat) (hn : 3 ≤ n) (h0 : b0 = 224 + r / 4096) (h1 : b1 = 128 + r / 64 % 64) (h2 : b2 = 128 + r % 64) (hr : 2048 ≤ r) (hr2 : r ≤ 65535) (ho : r < 55296 ∨ 57344 ≤ r) : Lib.decodeN n b0 b1 b2 b3 = (r, 3) := by
  unfold Lib.decodeN
  repeat' split
  all_goals first | (exfalso; omega) | (apply Prod.ext <;> simp only <;> omega)
theorem decN_four (n b0 b1 b2 b3 r : Nat) (hn : 4 ≤ n) (h0 : b0 = 240 + r / 262144) (h1 : b1 = 128 + r / 4096 % 64) (h2 : b2 = 128 + r / 64 % 64) (h3 : b3 = 128 + r % 64) (hr : 65536 ≤ r) (hr2 : r ≤ 1114111) : Lib.decodeN n b0 b1 b2 b3 = (r, 4) := by
  unfold Lib.decodeN
  repeat' split
  all_goals first | (exfalso; omega) | (apply Prod.ext <;> simp only <;> omega)
theorem byte_of (x : Int) (h0 : 0 ≤ x) (h1 : x < 256) : (x.toNat.toUInt8).toNat = x.toNat := by simp; omega
theorem dec_enc (r : Nat) (h : okR r) (t : List UInt8) : Lib.decodeL (Lib.encodeRune (r : Int) ++ t) = (r, (Lib.encodeRune (r : Int)).length) := by
  rw [Lib.decodeL_N]
  unfold okR at h
  rcases Nat.lt_or_ge r 128 with c | c
  · have e : Lib.encodeRune (r : Int) = [((r : Int)).toNat.toUInt8] := by
      unfold Lib.encodeRune; rw [Lib.encodeRuneZ_one (by omega) (by omega)]; rfl
    rw [e]
    have b0 := byte_of (r : Int) (by omega) (by omega)
    simp only [List.cons_append, List.nil_append, List.length_cons, List.length_nil, List.getD_cons_zero, b0]
    rw [Lib.decodeN_ascii _ _ _ _ _ (by omega)]
    simp
  rcases Nat.lt_or_ge r 2048 with c2 | c2
  · have e : Lib.encodeRune (r : Int) = [(192 + (r : Int) / 64).toNat.toUInt8, (128 + (r : Int) % 64).toNat.toUInt8] := by
      unfold Lib.encodeRune; rw [Lib.encodeRuneZ_two (by omega) (by omega)]; rfl
    rw [e]
    have b0 := byte_of (192 + (r : Int) / 64) (by omega) (by omega)
    have b1 := byte_of (128 + (r : Int) % 64) (by omega) (by omega)
    simp only [List.cons_append, List.nil_append, List.length_cons, List.length_nil, List.getD_cons_zero, List.getD_cons_succ, b0, b1]
    exact decN_two _ _ _ _ _ r (by omega) (by omega) (by omega) c (by omega)
  rcases Nat.lt_or_ge r 65536 with c3 | c3
  · have e : Lib.encodeRune (r : Int) = [(224 + (r : Int) / 4096).toNat.toUInt8, (128 + (r : Int) / 64 % 64).toNat.toUInt8, (128 + (r : Int) % 64).toNat.toUInt8] := by
      unfold Lib.encodeRune; rw [Lib.encodeRuneZ_three (by omega)]; rfl
    rw [e]
    have b0 := byte_of (224 + (r : Int) / 4096) (by omega) (by omega)
    have b1 := byte_of (128 + (r : Int) / 64 % 64) (by omega) (by omega)
    have b2 := byte_of (128 + (r : Int) % 64) (by omega) (by omega)
    simp only [List.cons_append, List.nil_append, List.length_cons, List.length_nil, List.getD_cons_zero, List.getD_cons_succ, b0, b1, b2]
    exact decN_three _ _ _ _ _ r (by omega) (by omega) (by omega) (by omega) c2 (by omega) (by omega)
  · have e : Lib.encodeRune (r : Int) = [(240 + (r : Int) / 262144).toNat.toUInt8, (128 + (r : Int) / 4096 % 64).toNat.toUInt8, (128 + (r : Int) / 64 % 64).toNat.toUInt8, (128 + (r : Int) % 64).toNat.toUInt8] := by
      unfold Lib.encodeRune; rw [Lib.encodeRuneZ_four (by omega) (by omega)]; rfl
    rw [e]
    have b0 := byte_of (240 + (r : Int) / 262144) (by omega) (by omega)
    have b1 := byte_of (128 + (r : Int) / 4096 % 64) (by omega) (by omega)
    have b2 := byte_of (128 + (r : Int) / 64 % 64) (by omega) (by omega)
    have b3 := byte_of (128 + (r : Int) % 64) (by omega) (by omega)
    simp only [List.cons_append, List.nil_append, List.length_cons, List.length_nil, List.getD_cons_zero, List.getD_cons_succ, b0, b1, b2, b3]
    exact decN_four _ _ _ _ _ r (by omega) (by omega) (by omega) (by omega) (by omega) c3 (by omega)
theorem enc_len (r : Int) : 1 ≤ (Lib.encodeRune r).length ∧ (Lib.encodeRune r).length ≤ 4 := by
  have := Lib.encodeRuneZ_length r
  simpa [Lib.encodeRune] using this
theorem headI_some {l : List UInt8} {r : Nat} (hne : l ≠ []) (h : headI l = some r) : okR r ∧ (Lib.decodeL l).1 = r ∧ Lib.encodeRune (r : Int) = l.take (Lib.decodeL l).2 ∧ (Lib.decodeL l).2 ≤ l.length ∧ ¬ ((Lib.decodeL l).1 = 65533 ∧ (Lib.decodeL l).2 = 1) := by
  unfold headI at h
  split at h
  · cases h
  · rename_i hs
    injection h with h
    have e := Lib.encode_decode l hne hs
    have w := Lib.decodeL_le l hne
    refine ⟨?_, h, by rw [← h]; exact e, w, hs⟩
    rw [← h]
    rw [Lib.decodeL_N] at hs ⊢
    have k0 := (l.getD 0 0).toNat_lt
    unfold okR
    rcases Lib.decodeN_shape l.length (l.getD 0 0).toNat (l.getD 1 0).toNat (l.getD 2 0).toNat (l.getD 3 0).toNat with ⟨c, e⟩ | ⟨c1, c2, c3, cv, e⟩ | ⟨c1, c2, c3, c4, cv, cs, e⟩ | ⟨c1, c2, c3, c4, c5, cv, cw, e⟩ | e
    all_goals (rw [e] at hs ⊢; dsimp only at hs ⊢)
    all_goals omega
theorem headI_none {l : List UInt8} (h : headI l = none) : (Lib.decodeL l).1 = 65533 ∧ (Lib.decodeL l).2 = 1 := by
  unfold headI at h
  split at h
  · assumption
  · cases h
def shownR : Option Nat → Nat
  | none => 32
  | some r => if r < 32 ∨ r = 127 ∨ r = 59 then 32 else if r = 39 then 8217 else r
def titleN (n : Nat) : List (Option Nat) → List Nat
  | [] => []
  | x :: xs => if n + (Lib.encodeRune (shownR x : Int)).length > 60 then [] else shownR x :: titleN (n + (Lib.encodeRune (shownR x : Int)).length) xs
def titleF (l : List UInt8) : List UInt8 := enc (titleN 0 (items l))
theorem shownR_ok {x : Option Nat} (h : ∀ r, x = some r → okR r) : okR (shownR x) := by
  cases x with
  | none => exact .inl (by decide)
  | some r =>
    have := h r rfl
    simp only [shownR]
    split
    · exact .inl (by decide)
    · split
      · exact .inl (by decide)
      · exact this
end Go.Proofs.YtmgfkdmjgjlkjaaGreat

namespace Go.Proofs.YtmgfkdmjgjlkjaaGreat
open Go Go.PlainAid
set_option linter.unusedVariables false
theorem bt_list (s : ByteArray) (k : Nat) : bt s k = ((s.data.toList.getD k 0).toNat : Int) := by
  unfold bt
  by_cases h : k < s.size
  · rw [dif_pos h]
    have h' : k < s.data.toList.length := by simpa using h
    rw [List.getD_eq_getElem?_getD, List.getElem?_eq_getElem h']
    rfl
  · rw [dif_neg h]
    have h' : s.data.toList.length ≤ k := by simpa using h
    rw [List.getD_eq_getElem?_getD, List.getElem?_eq_none h']
    rfl
theorem len_list (s : ByteArray) : s.data.toList.length = s.size := by simp
theorem tail_list (s : ByteArray) (i : Nat) : (s.extract i s.size).data.toList = s.data.toList.drop i := by
  rw [Lib.extract_data, List.take_of_length_le (by simp)]
theorem tail_size (s : ByteArray) (i : Nat) (h : i ≤ s.size) : (s.extract i s.size).size = s.size - i := by
  rw [← len_list, tail_list, List.length_drop, len_list]
def runeR (l : List UInt8) : Nat := match headI l with
  | none => 0
  | some r => r
def runeN (l : List UInt8) : Nat := match headI l with
  | none => 0
  | some _ => (Lib.decodeL l).2
theorem rune_bad {l : List UInt8} {r n : Int} (h : Lib.decodeN l.length (l.getD 0 0).toNat (l.getD 1 0).toNat (l.getD 2 0).toNat (l.getD 3 0).toNat = (65533, 1)) (hr : r = 0) (hn : n = 0) :
    Ending.returned (.tuple #[.int .i64 r, .int .i64 n]) = .returned (.tuple #[.int .i64 (runeR l : Nat), .int .i64 (runeN l : Nat)]) := by
  have e : headI l = none := by
    unfold headI
    rw [Lib.decodeL_N, h]
    simp
  unfold runeR runeN
  rw [e, hr, hn]
  rfl
theorem rune_good {l : List UInt8} {r n : Int} {q k : Nat} (h : Lib.decodeN l.length (l.getD 0 0).toNat (l.getD 1 0).toNat (l.getD 2 0).toNat (l.getD 3 0).toNat = (q, k)) (hk : ¬ (q = 65533 ∧ k = 1)) (hr : r = q) (hn : n = k) :
    Ending.returned (.tuple #[.int .i64 r, .int .i64 n]) = .returned (.tuple #[.int .i64 (runeR l : Nat), .int .i64 (runeN l : Nat)]) := by
  have e : headI l = some q := by
    unfold headI
    rw [Lib.decodeL_N, h, if_neg hk]
  unfold runeR runeN
  rw [e, hr, hn]
  simp only []
  rw [Lib.decodeL_N, h]
theorem decN_bad (n b0 b1 b2 b3 : Nat) (h0 : 128 ≤ b0) (hb : b0 < 256) (h : b0 < 194 ∨ 245 ≤ b0 ∨ n < 2 ∨ (b1 < 128 ∨ 191 < b1) ∨ (224 ≤ b0 ∧ (n < 3 ∨ (b2 < 128 ∨ 191 < b2))) ∨ (240 ≤ b0 ∧ (n < 4 ∨ (b3 < 128 ∨ 191 < b3)))
    ∨ (224 ≤ b0 ∧ b0 < 240 ∧ 128 ≤ b1 ∧ b1 ≤ 191 ∧ 128 ≤ b2 ∧ b2 ≤ 191 ∧ ((b0 - 224) * 4096 + (b1 - 128) * 64 + (b2 - 128) < 2048 ∨ (55296 ≤ (b0 - 224) * 4096 + (b1 - 128) * 64 + (b2 - 128) ∧ (b0 - 224) * 4096 + (b1 - 128) * 64 + (b2 - 128) < 57344)))
    ∨ (240 ≤ b0 ∧ 128 ≤ b1 ∧ b1 ≤ 191 ∧ 128 ≤ b2 ∧ b2 ≤ 191 ∧ 128 ≤ b3 ∧ b3 ≤ 191 ∧ ((b0 - 240) * 262144 + (b1 - 128) * 4096 + (b2 - 128) * 64 + (b3 - 128) < 65536 ∨ 1114111 < (b0 - 240) * 262144 + (b1 - 128) * 4096 + (b2 - 128) * 64 + (b3 - 128)))) :
    Lib.decodeN n b0 b1 b2 b3 = (65533, 1) := by
  unfold Lib.decodeN
  repeat' split
  all_goals first | rfl | (exfalso; omega)
theorem decN_2 (n b0 b1 b2 b3 : Nat) (h0 : 194 ≤ b0) (h1 : b0 < 224) (hn : 2 ≤ n) (hb1 : 128 ≤ b1) (hb1' : b1 ≤ 191) : Lib.decodeN n b0 b1 b2 b3 = ((b0 - 192) * 64 + (b1 - 128), 2) := by
  unfold Lib.decodeN
  repeat' split
  all_goals first | (exfalso; omega) | (apply Prod.ext <;> simp only <;> omega)
theorem decN_3 (n b0 b1 b2 b3 : Nat) (h0 : 224 ≤ b0) (h1 : b0 < 240) (hn : 3 ≤ n) (hb1 : 128 ≤ b1) (hb1' : b1 ≤ 191) (hb2 : 128 ≤ b2) (hb2' : b2 ≤ 191) (hr : 2048 ≤ (b0 - 224) * 4096 + (b1 - 128) * 64 + (b2 - 128))
    (ho : (b0 - 224) * 4096 + (b1 - 128) * 64 + (b2 - 128) < 55296 ∨ 57344 ≤ (b0 - 224) * 4096 + (b1 - 128) * 64 + (b2 - 128)) : Lib.decodeN n b0 b1 b2 b3 = ((b0 - 224) * 4096 + (b1 - 128) * 64 + (b2 - 128), 3) := by
  unfold Lib.decodeN
  repeat' split
  all_goals first | (exfalso; omega) | (apply Prod.ext <;> simp only <;> omega)
theorem decN_4 (n b0 b1 b2 b3 : Nat) (h0 : 240 ≤ b0) (h1 : b0 < 245) (hn : 4 ≤ n) (hb1 : 128 ≤ b1) (hb1' : b1 ≤ 191) (hb2 : 128 ≤ b2) (hb2' : b2 ≤ 191) (hb3 : 128 ≤ b3) (hb3' : b3 ≤ 191) (hr : 65536 ≤ (b0 - 240) * 262144 + (b1 - 128) * 4096 + (b2 - 128) * 64 + (b3 - 128))
    (ho : (b0 - 240) * 262144 + (b1 - 128) * 4096 + (b2 - 128) * 64 + (b3 - 128) ≤ 1114111) : Lib.decodeN n b0 b1 b2 b3 = ((b0 - 240) * 262144 + (b1 - 128) * 4096 + (b2 - 128) * 64 + (b3 - 128), 4) := by
  unfold Lib.decodeN
  repeat' split
  all_goals first | (exfalso; omega) | (apply Prod.ext <;> simp only <;> omega)
end Go.Proofs.YtmgfkdmjgjlkjaaGreat

namespace Go.Proofs.YtmgfkdmjgjlkjaaGreat
open Go.RowKit Go.PlainAid
set_option linter.unusedVariables false
theorem ret_boolE {a b : Bool} (h : a = b) : Ending.returned (.bool a) = .returned (.bool b) := by rw [h]
def plainB (c : Int) : Bool := decide ((97 ≤ c ∧ c ≤ 122) ∨ (65 ≤ c ∧ c ≤ 90) ∨ (48 ≤ c ∧ c ≤ 57))
def okTo (p : Int → Bool) (l : List UInt8) : Bool := l.all fun c => p c.toNat
theorem okTo_take (p : Int → Bool) (l : List UInt8) (i : Nat) (h : i < l.length) : okTo p (l.take (i + 1)) = (okTo p (l.take i) && p (l.getD i 0).toNat) := by
  unfold okTo
  rw [List.take_succ_eq_append_getElem h, List.all_append]
  simp [List.getD_eq_getElem?_getD, List.getElem?_eq_getElem h]
theorem okTo_no (p : Int → Bool) (l : List UInt8) (i : Nat) (h : i < l.length) (hp : p (l.getD i 0).toNat = false) : okTo p l = false := by
  unfold okTo
  rw [List.all_eq_false]
  refine ⟨l[i], List.getElem_mem h, ?_⟩
  rw [List.getD_eq_getElem?_getD, List.getElem?_eq_getElem h] at hp
  simpa using hp
theorem okTo_all (p : Int → Bool) (l : List UInt8) (i : Nat) (h : l.length ≤ i) : okTo p (l.take i) = okTo p l := by rw [List.take_of_length_le h]
theorem refPlain_any (c : Int) (w : World) : Calls Tryz.prog 52 #[.int .u8 c] w fun e w' => e = .returned (.bool (plainB c)) ∧ w = w' := by
  by_cases c1 : 97 ≤ c ∧ c ≤ 122
  · have e : plainB c = true := by unfold plainB; simp only [c1]; simp
    rw [e]
    go_enter Tryz.func52, Tryz.ntmps52
    go_wp2
    all_goals first | (go_ret; exact ⟨rfl, rfl⟩) | (exfalso; omega)
  by_cases c2 : 65 ≤ c ∧ c ≤ 90
  · have e : plainB c = true := by unfold plainB; simp only [c2]; simp
    rw [e]
    go_enter Tryz.func52, Tryz.ntmps52
    go_wp2
    all_goals first | (go_ret; exact ⟨rfl, rfl⟩) | (exfalso; omega)
  by_cases c3 : 48 ≤ c ∧ c ≤ 57
  · have e : plainB c = true := by unfold plainB; simp only [c3]; simp
    rw [e]
    go_enter Tryz.func52, Tryz.ntmps52
    go_wp2
    all_goals first | (go_ret; exact ⟨rfl, rfl⟩) | (exfalso; omega)
  · have e : plainB c = false := by unfold plainB; simp only [c1, c2, c3]; simp
    rw [e]
    go_enter Tryz.func52, Tryz.ntmps52
    go_wp2
    all_goals first | (go_ret; exact ⟨rfl, rfl⟩) | (go_ret; exact ⟨ret_boolE (by simp; omega), rfl⟩) | (exfalso; omega)
theorem n45 {b : Nat} (h : ¬ b = 45) : ((b : Int) != 45) = true := by
  have : ¬ (b : Int) = 45 := by omega
  simpa using this
end Go.Proofs.YtmgfkdmjgjlkjaaGreat

set_option linter.unusedVariables false
namespace Go.Proofs
open Go.Shelf
def Tryz.lays170_ren : Go.Shelf.Ren := ⟨fun | 170 => 86 | n => n, fun | 70 => 151 | 3 => 3 | 0 => 0 | 72 => 153 | 37 => 43 | 5 => 5 | n => n, fun | n => n⟩
theorem Tryz.lays170 : Go.Proofs.Lays.n170 Tryz.prog Tryz.lays170_ren := {
  mixed := by kernel_rfl
  f170 := Tryz.func86.trans (congrArg some (by kernel_rfl))
  t0 := Tryz.underlying0
  a0 := Tryz.isAgg0
  z0 := Tryz.sizeOf0
  v0 := Tryz.zeroValue0
  t3 := Tryz.underlying3
  a3 := Tryz.isAgg3
  z3 := Tryz.sizeOf3
  v3 := Tryz.zeroValue3
  t37 := Tryz.underlying43
  a37 := Tryz.isAgg43
  z37 := Tryz.sizeOf43
  v37 := Tryz.zeroValue43
  t70 := Tryz.underlying151
  a70 := Tryz.isAgg151
  z70 := Tryz.sizeOf151
  v70 := Tryz.zeroValue151
  t72 := Tryz.underlying153
  a72 := Tryz.isAgg153
  z72 := Tryz.sizeOf153
  v72 := Tryz.zeroValue153 }
open Go.RowKit in
theorem Tryz.Builder_Len_f (B b : Nat) (bs : List Value) (w : World) (h : Lib.IsBuilderF 153 5 B b bs w) :
    Calls Tryz.prog 86 #[.pointer (some ⟨b, 0, none⟩)] w fun e w' => e = .returned (.int .i64 bs.length) ∧ w' = w := Any.Builder_Len_f Tryz.lays170 B b bs w h
def Tryz.lays169_ren : Go.Shelf.Ren := ⟨fun | 169 => 89 | n => n, fun | 70 => 151 | 9 => 9 | 0 => 0 | 72 => 153 | 37 => 43 | 127 => 204 | 3 => 3 | 5 => 5 | n => n, fun | n => n⟩
theorem Tryz.lays169 : Go.Proofs.Lays.n169 Tryz.prog Tryz.lays169_ren := {
  mixed := by kernel_rfl
  f169 := Tryz.func89.trans (congrArg some (by kernel_rfl))
  t0 := Tryz.underlying0
  a0 := Tryz.isAgg0
  z0 := Tryz.sizeOf0
  v0 := Tryz.zeroValue0
  t3 := Tryz.underlying3
  a3 := Tryz.isAgg3
  z3 := Tryz.sizeOf3
  v3 := Tryz.zeroValue3
  t9 := Tryz.underlying9
  a9 := Tryz.isAgg9
  z9 := Tryz.sizeOf9
  v9 := Tryz.zeroValue9
  t37 := Tryz.underlying43
  a37 := Tryz.isAgg43
  z37 := Tryz.sizeOf43
  v37 := Tryz.zeroValue43
  t70 := Tryz.underlying151
  a70 := Tryz.isAgg151
  z70 := Tryz.sizeOf151
  v70 := Tryz.zeroValue151
  t72 := Tryz.underlying153
  a72 := Tryz.isAgg153
  z72 := Tryz.sizeOf153
  v72 := Tryz.zeroValue153
  t127 := Tryz.underlying204
  a127 := Tryz.isAgg204
  z127 := Tryz.sizeOf204
  v127 := Tryz.zeroValue204 }
theorem Tryz.Builder_Extra_169 : Builder.Extra Tryz.prog Tryz.lays169_ren := {
  sizeBuilder := by kernel_rfl
  liesBuilder := by kernel_rfl
  t5 := Tryz.underlying5
  a5 := Tryz.isAgg5
  z5 := Tryz.sizeOf5
  v5 := Tryz.zeroValue5
  infoByte := by kernel_rfl
  cellsByte := by kernel_rfl
  sizeByte := by kernel_rfl
  neB5 := by decide }
open Go.RowKit in
theorem Tryz.Builder_String_any_k (B b : Nat) (l : List UInt8) (w : World) (h : Lib.IsBuilderF 153 5 B b (Lib.byteCells l) w) (hBw : B ≤ w.heap.size) :
    Calls Tryz.prog 89 #[.pointer (some ⟨b, 0, none⟩)] w fun e w' => e = .returned (.string ⟨l.toArray⟩) ∧ (Lib.IsBuilderF 153 5 B b (Lib.byteCells l) w' ∧ Below B w w' ∧ Lib.OthersKept 5 (some b) w w') := Any.Builder_String_any_k Tryz.lays169 Tryz.Builder_Extra_169 B b l w h hBw
def Tryz.lays168_ren : Go.Shelf.Ren := ⟨fun | 168 => 88 | 240 => 118 | 242 => 119 | 276 => 148 | 278 => 149 | n => n, fun | 0 => 0 | 3 => 3 | 4 => 4 | 5 => 5 | 9 => 9 | 20 => 20 | 21 => 21 | 37 => 43 | 46 => 29 | 51 => 34 | 70 => 151 | 72 => 153 | 75 => 159 | 80 => 54 | 164 => 227 | n => n, fun | n => n⟩
theorem Tryz.lays168 : Go.Proofs.Lays.n168 Tryz.prog Tryz.lays168_ren := {
  mixed := by kernel_rfl
  f168 := Tryz.func88.trans (congrArg some (by kernel_rfl))
  f240 := Tryz.func118.trans (congrArg some (by kernel_rfl))
  f242 := Tryz.func119.trans (congrArg some (by kernel_rfl))
  f276 := Tryz.func148.trans (congrArg some (by kernel_rfl))
  f278 := Tryz.func149.trans (congrArg some (by kernel_rfl))
  t0 := Tryz.underlying0
  a0 := Tryz.isAgg0
  z0 := Tryz.sizeOf0
  v0 := Tryz.zeroValue0
  t3 := Tryz.underlying3
  a3 := Tryz.isAgg3
  z3 := Tryz.sizeOf3
  v3 := Tryz.zeroValue3
  t4 := Tryz.underlying4
  a4 := Tryz.isAgg4
  z4 := Tryz.sizeOf4
  v4 := Tryz.zeroValue4
  t5 := Tryz.underlying5
  a5 := Tryz.isAgg5
  z5 := Tryz.sizeOf5
  v5 := Tryz.zeroValue5
  t9 := Tryz.underlying9
  a9 := Tryz.isAgg9
  z9 := Tryz.sizeOf9
  v9 := Tryz.zeroValue9
  t20 := Tryz.underlying20
  a20 := Tryz.isAgg20
  z20 := Tryz.sizeOf20
  v20 := Tryz.zeroValue20
  t21 := Tryz.underlying21
  a21 := Tryz.isAgg21
  z21 := Tryz.sizeOf21
  v21 := Tryz.zeroValue21
  t37 := Tryz.underlying43
  a37 := Tryz.isAgg43
  z37 := Tryz.sizeOf43
  v37 := Tryz.zeroValue43
  t46 := Tryz.underlying29
  a46 := Tryz.isAgg29
  z46 := Tryz.sizeOf29
  v46 := Tryz.zeroValue29
  t51 := Tryz.underlying34
  a51 := Tryz.isAgg34
  z51 := Tryz.sizeOf34
  v51 := Tryz.zeroValue34
  t70 := Tryz.underlying151
  a70 := Tryz.isAgg151
  z70 := Tryz.sizeOf151
  v70 := Tryz.zeroValue151
  t72 := Tryz.underlying153
  a72 := Tryz.isAgg153
  z72 := Tryz.sizeOf153
  v72 := Tryz.zeroValue153
  t75 := Tryz.underlying159
  a75 := Tryz.isAgg159
  z75 := Tryz.sizeOf159
  v75 := Tryz.zeroValue159
  t164 := Tryz.underlying227
  a164 := Tryz.isAgg227
  z164 := Tryz.sizeOf227
  v164 := Tryz.zeroValue227 }
theorem Tryz.Builder_Extra_168 : Builder.Extra Tryz.prog Tryz.lays168_ren := {
  sizeBuilder := by kernel_rfl
  liesBuilder := by kernel_rfl
  t5 := Tryz.underlying5
  a5 := Tryz.isAgg5
  z5 := Tryz.sizeOf5
  v5 := Tryz.zeroValue5
  infoByte := by kernel_rfl
  cellsByte := by kernel_rfl
  sizeByte := by kernel_rfl
  neB5 := by decide }
open Go.RowKit in
theorem Tryz.Builder_WriteRune_k (B b : Nat) (bs : List Value) (r : Int) (hr0 : -2147483648 ≤ r) (hr1 : r ≤ 2147483647) (w : World) (h : Lib.IsBuilderF 153 5 B b bs w) (hlen : bs.length + 4 ≤ 140737488355328) (hBw : B ≤ w.heap.size) :
    Calls Tryz.prog 88 #[.pointer (some ⟨b, 0, none⟩), .int .i32 r] w fun e w' => e = .returned (.tuple #[.int .i64 (Lib.runeCells r).length, .nilIface]) ∧ (Lib.BuilderAtF 153 5 B b (.pointer (some ⟨b, 0, none⟩)) (bs ++ Lib.runeCells r) w' ∧ Below B w w' ∧ Lib.OthersKept 5 (some b) w w') := Any.Builder_WriteRune_k Tryz.lays168 Tryz.Builder_Extra_168 B b bs r hr0 hr1 w h hlen hBw
def Tryz.lays118_ren : Go.Shelf.Ren := ⟨fun | 118 => 87 | n => n, fun | 21 => 21 | 3 => 3 | 4 => 4 | n => n, fun | n => n⟩
theorem Tryz.lays118 : Go.Proofs.Lays.n118 Tryz.prog Tryz.lays118_ren := {
  mixed := by kernel_rfl
  f118 := Tryz.func87.trans (congrArg some (by kernel_rfl))
  t3 := Tryz.underlying3
  a3 := Tryz.isAgg3
  z3 := Tryz.sizeOf3
  v3 := Tryz.zeroValue3
  t4 := Tryz.underlying4
  a4 := Tryz.isAgg4
  z4 := Tryz.sizeOf4
  v4 := Tryz.zeroValue4
  t21 := Tryz.underlying21
  a21 := Tryz.isAgg21
  z21 := Tryz.sizeOf21
  v21 := Tryz.zeroValue21 }
theorem Tryz.utf8_RuneLen (r : Int) (w : World) :
    Calls Tryz.prog 87 #[.int .i32 r] w fun e w' => e = .returned (.int .i64 (Lib.runeLen r)) ∧ w' = w := Any.utf8_RuneLen Tryz.lays118 r w
def Tryz.lays99_ren : Go.Shelf.Ren := ⟨fun | 99 => 117 | 206 => 147 | n => n, fun | 9 => 9 | 4 => 4 | 3 => 3 | n => n, fun | n => n⟩
theorem Tryz.lays99 : Go.Proofs.Lays.n99 Tryz.prog Tryz.lays99_ren := {
  mixed := by kernel_rfl
  f99 := Tryz.func117.trans (congrArg some (by kernel_rfl))
  f206 := Tryz.func147.trans (congrArg some (by kernel_rfl))
  t3 := Tryz.underlying3
  a3 := Tryz.isAgg3
  z3 := Tryz.sizeOf3
  v3 := Tryz.zeroValue3
  t4 := Tryz.underlying4
  a4 := Tryz.isAgg4
  z4 := Tryz.sizeOf4
  v4 := Tryz.zeroValue4
  t9 := Tryz.underlying9
  a9 := Tryz.isAgg9
  z9 := Tryz.sizeOf9
  v9 := Tryz.zeroValue9 }
open Go.RowKit Go.Lib in
theorem Tryz.strings_HasPrefix (s p : ByteArray) (w : World) :
    Calls Tryz.prog 117 #[.string s, .string p] w fun e w' => e = .returned (.bool (Lib.hasPrefix s.data.toList p.data.toList)) ∧ w' = w := Any.strings_HasPrefix Tryz.lays99 s p w
def Tryz.lays103_ren : Go.Shelf.Ren := ⟨fun | 103 => 120 | 210 => 150 | 206 => 147 | n => n, fun | 9 => 9 | 4 => 4 | 24 => 205 | 3 => 3 | n => n, fun | n => n⟩
theorem Tryz.lays103 : Go.Proofs.Lays.n103 Tryz.prog Tryz.lays103_ren := {
  mixed := by kernel_rfl
  f103 := Tryz.func120.trans (congrArg some (by kernel_rfl))
  f206 := Tryz.func147.trans (congrArg some (by kernel_rfl))
  f210 := Tryz.func150.trans (congrArg some (by kernel_rfl))
  t3 := Tryz.underlying3
  a3 := Tryz.isAgg3
  z3 := Tryz.sizeOf3
  v3 := Tryz.zeroValue3
  t4 := Tryz.underlying4
  a4 := Tryz.isAgg4
  z4 := Tryz.sizeOf4
  v4 := Tryz.zeroValue4
  t9 := Tryz.underlying9
  a9 := Tryz.isAgg9
  z9 := Tryz.sizeOf9
  v9 := Tryz.zeroValue9
  t24 := Tryz.underlying205
  a24 := Tryz.isAgg205
  z24 := Tryz.sizeOf205
  v24 := Tryz.zeroValue205 }
open Go.RowKit in
theorem Tryz.strings_CutPrefix (s p : ByteArray) (w : World) :
    Calls Tryz.prog 120 #[.string s, .string p] w fun e w' => e = .returned (.tuple #[.string ⟨(Lib.trimPrefix s.data.toList p.data.toList).toArray⟩, .bool (Lib.hasPrefix s.data.toList p.data.toList)]) ∧ w' = w := Any.strings_CutPrefix Tryz.lays103 s p w
def Tryz.lays137_ren : Go.Shelf.Ren := ⟨fun | 137 => 151 | 217 => 178 | 266 => 194 | n => n, fun | 9 => 9 | 5 => 5 | 3 => 3 | n => n, fun | n => n⟩
theorem Tryz.lays137 : Go.Proofs.Lays.n137 Tryz.prog Tryz.lays137_ren := {
  mixed := by kernel_rfl
  f137 := Tryz.func151.trans (congrArg some (by kernel_rfl))
  f217 := Tryz.func178.trans (congrArg some (by kernel_rfl))
  f266 := Tryz.func194.trans (congrArg some (by kernel_rfl))
  t3 := Tryz.underlying3
  a3 := Tryz.isAgg3
  z3 := Tryz.sizeOf3
  v3 := Tryz.zeroValue3
  t5 := Tryz.underlying5
  a5 := Tryz.isAgg5
  z5 := Tryz.sizeOf5
  v5 := Tryz.zeroValue5
  t9 := Tryz.underlying9
  a9 := Tryz.isAgg9
  z9 := Tryz.sizeOf9
  v9 := Tryz.zeroValue9 }
open Go.RowKit in
theorem Tryz.strings_IndexByte (s : ByteArray) (c : Int) (w : World) :
    Calls Tryz.prog 151 #[.string s, .int .u8 c] w fun e w' => e = .returned (.int .i64 (Lib.indexByte s.data.toList c.toNat.toUInt8)) ∧ w' = w := Any.strings_IndexByte Tryz.lays137 s c w
end Go.Proofs
