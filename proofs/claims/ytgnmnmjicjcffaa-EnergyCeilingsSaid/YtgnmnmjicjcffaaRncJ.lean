/- What the functions of package rangeenc give: symbols that there aren't, the bytes. -/
import Derived.Test.YtgnmnmjicjcffaaRncI
import Derived.Deep.RegionHeld3
namespace Go.Proofs.Ytgnmnmjicjcffaa
open Go.RowKit
set_option linter.unusedVariables false

set_option maxRecDepth 100000 in
theorem rncSymbol_out (p : Option Addr) (mg : Nat) (l : List Int) (fx : Bool) (s : Int) (w : World) (hM : ModAt w mg l fx) (hs : ¬ (0 ≤ s ∧ s < l.length)) :
    Calls Try.prog 44 #[.pointer p, .pointer (some ⟨mg, 0, none⟩), .int .i64 s] w fun e w' => e = .returned (.int .i64 1) ∧ Below w.heap.size w w' := by
  have HZ : RowKit.Hid (partZ = .agg #[.int .u32 0, .int .u32 0, .int .u32 0]) := rfl
  have HM := Lib.hid hM
  have HS := Lib.hid hs
  clear hM hs
  go_enter Try.func44, Try.ntmps44
  go_wp2_with (go_at_call 58; go_loud (refine (modPart_out mg l fx s _ HM.out HS.out).mono ?_); rintro e1 w1 ⟨rfl, hb⟩; rw [HZ.out]; have HB1 := Lib.hid (hb.trans ((Below.alloc_new w1 (.cells #[.int .u32 0, .int .u32 0, .int .u32 0] 91)).mono hb.size)); clear hb)
  go_ret
  exact ⟨rfl, HB1.out⟩
set_option maxRecDepth 100000 in
theorem rncSymbol_none (p : Option Addr) (s : Int) (w : World) :
    Calls Try.prog 44 #[.pointer p, .pointer none, .int .i64 s] w fun e w' => e = .returned (.int .i64 1) ∧ Below w.heap.size w w' := by
  have HZ : RowKit.Hid (partZ = .agg #[.int .u32 0, .int .u32 0, .int .u32 0]) := rfl
  go_enter Try.func44, Try.ntmps44
  go_wp2_with (go_at_call 58; go_loud (refine (modPart_nil s _).mono ?_); rintro e1 w1 ⟨rfl, hb⟩; rw [HZ.out]; have HB1 := Lib.hid (hb.trans ((Below.alloc_new w1 (.cells #[.int .u32 0, .int .u32 0, .int .u32 0] 91)).mono hb.size)); clear hb)
  go_ret
  exact ⟨rfl, HB1.out⟩
set_option maxRecDepth 100000 in
theorem rncSymbol_nil (mg : Nat) (l : List Int) (fx : Bool) (s : Int) (w : World) (hM : ModAt w mg l fx) (hL : GoodL l) :
    Calls Try.prog 44 #[.pointer none, .pointer (some ⟨mg, 0, none⟩), .int .i64 s] w fun e w' => e = .returned (.int .i64 1) ∧ Below w.heap.size w w' := by
  by_cases hs : 0 ≤ s ∧ s < l.length
  · obtain ⟨k, hk⟩ : ∃ k : Nat, s = k := ⟨s.toNat, by omega⟩
    subst hk
    have hk : k < l.length := by omega
    have HV : RowKit.Hid (partV l k = .agg #[.int .u32 (sumN l k), .int .u32 (l.getD k 0), .int .u32 l.sum]) := rfl
    have HM := Lib.hid hM
    have HL := Lib.hid hL
    clear hM hL hs
    generalize l.getD k 0 = x at HV
    generalize l.sum = t at HV
    generalize sumN l k = y at HV
    go_enter Try.func44, Try.ntmps44
    go_wp2_with (first | (go_at_call 58; go_loud (refine (modPart_at mg l fx k _ _ _ rfl HM.out HL.out hk HV.out).mono ?_); rintro e1 w1 ⟨rfl, hb⟩; have HB1 := Lib.hid (hb.trans ((Below.alloc_new w1 (.cells #[.int .u32 y, .int .u32 x, .int .u32 t] 91)).mono hb.size)); clear hb) | (go_at_call 56; go_loud (with_reducible refine (rncPut_nil y x t _).mono ?_); rintro e2 w2 ⟨rfl, hb⟩; have HB2 := Lib.hid (HB1.out.trans (hb.mono HB1.out.size)); clear hb))
    go_ret
    exact ⟨rfl, HB2.out⟩
  · exact rncSymbol_out none mg l fx s w hM hs

theorem make_empty {P : Program} {t e : TypeId} {k : IntKind} {b : Nat} (ht : P.underlying t = some (.slice e)) (hi : (P.info? e).map (fun i => (i.zero, i.size, i.bytes)) = some (some (.int k 0), 1, b))
    (n : Int) (c : Nat) (hn0 : n = c) (hb : b * c ≤ 281474976710656) (hn : c ≤ 9223372036854775807) (w : World) :
    (Instr.makeSlice t (.int .i64 0) (.int .i64 n)).run P w = .ok (.slice (some ⟨w.heap.size, 0, none⟩) 0 c) (w.alloc (.cells (madeCells #[.int k 0] c) e)) := by
  subst hn0
  obtain ⟨i, h1, h2, h3, h4⟩ := info_parts hi
  have hb' : (i.bytes : Int) * (c : Int) ≤ 281474976710656 := by
    have h : ((i.bytes * c : Nat) : Int) ≤ 281474976710656 := by rw [h4]; omega
    rwa [Int.natCast_mul] at h
  have hr := run_make (P := P) w t e i (.int k 0) ht h1 h2 .i64 .i64 0 c (by omega) (by omega) hb' (by omega)
  rw [hr, h3]
  simp [Value.cells]
theorem own_none {w : World} {base e n c : Nat} {a : Option Addr} {xs : List Value} (h : w.ownsRow base e 1 (.slice a n c) n xs) : a = none → c = 0 := by
  rintro rfl
  rcases h.2 with ⟨h1, _⟩ | ⟨g, cap, cur, h1, _⟩
  · injection h1
  · injection h1 with h1; cases h1
theorem rncBytes_nil (w : World) :
    Calls Try.prog 18 #[.pointer none] w fun e w' => e = .returned (.slice none 0 0) ∧ w = w' := by
  go_enter Try.func18, Try.ntmps18
  go_wp2
  go_ret
  exact ⟨rfl, rfl⟩

set_option maxRecDepth 100000 in
theorem rncBytes_any (base g : Nat) (v : Value) (n : Int) (k : Nat) (less : Int) (w : World) (hE : EncR w base g v n k less) (hk : k ≤ 900000) :
    Calls Try.prog 18 #[.pointer (some ⟨g, 0, none⟩)] w (BytesPost (bytesL (digL n (k + 4))) w) := by
  have HR := Lib.hid hE
  obtain ⟨D, last, h1, h2, h3, h4, h5, h6⟩ := hE
  obtain ⟨c0, c1, c2⟩ := h1.cells
  have ho := h1.2.1
  rw [h3] at ho
  obtain ⟨a, c, rfl⟩ := own_form ho
  have HD4 := Lib.hid (four_dig h2 h3 h4 h5 h6)
  have HI := Lib.hid (own_ints' ho)
  have HN := Lib.hid (own_none ho)
  have H1 := Lib.hid h1
  have hgl := h1.lt
  have hmk := make_empty (P := Try.prog) Try.underlying33 info_u806 ((k : Int) + 4) (k + 4) (by omega) (by omega) (by omega) w
  have hsz : (madeCells #[Value.int .u8 0] (k + 4)).size = (k + 4) * 1 := by rw [size_madeCells]; omega
  have HO0 := Lib.hid (World.ownsRow_made (base := w.heap.size) (e := 5) (size := 1) w (madeCells #[Value.int .u8 0] (k + 4)) (k + 4) (Nat.le_refl _) (by unfold maxLen; omega) hsz)
  have HB0 := Lib.hid (Below.alloc_new w (.cells (madeCells #[Value.int .u8 0] (k + 4)) 5))
  have hk1 : k ≤ 1000000 := by omega
  clear h1 h2 h3 h6 ho c2 hsz
  generalize madeCells #[Value.int .u8 0] (k + 4) = mc at hmk HO0 HB0
  go_enter Try.func18, Try.ntmps18
  go_wp2_with (first | (go_at_call 34; ((with_reducible refine (rncLen_any base g _ n k less _ HR.out hk1).mono ?_)); rintro e w' ⟨rfl, rfl⟩) | (at_builtin; go_loud (refine append_ints rfl _ _ 33 rfl w.heap.size 5 .u8 1 Try.underlying33 info_u806 _ 0 [] rfl HO0.out a k c w.heap.size D rfl (HI.out.below HB0.out) HN.out ?c1 ?c2 ?c3 ?_)))
  case c1 => unfold maxLen; omega
  case c2 => omega
  case c3 => simp
  intro v2 w2 hown hgrow _
  have hb2 := HB0.out.grown hgrow (by simp) (own_base HO0.out)
  obtain ⟨a2, cp2, rfl⟩ := own_form hown
  have c1' : w2.cell? ⟨g, 1, none⟩ = some (.int .u32 last) := (hb2.cell (p := ⟨g, 1, none⟩) hgl).trans c1
  have HO2 := Lib.hid hown
  have HB2 := Lib.hid hb2
  clear hown hgrow hb2 c0 c1 hmk
  obtain ⟨q0, hq0⟩ : ∃ q, q = last / 16777216 % 256 := ⟨_, rfl⟩
  obtain ⟨q1, hq1⟩ : ∃ q, q = last / 65536 % 256 := ⟨_, rfl⟩
  obtain ⟨q2, hq2⟩ : ∃ q, q = last / 256 % 256 := ⟨_, rfl⟩
  obtain ⟨q3, hq3⟩ : ∃ q, q = last % 256 := ⟨_, rfl⟩
  have HF : RowKit.Hid (four last = [q0, q1, q2, q3]) := by show _ = _; unfold four; rw [hq0, hq1, hq2, hq3]
  have e0 : IntKind.u8.wrap (last / 16777216) = q0 := by rw [hq0]; rfl
  have e1 : IntKind.u8.wrap (last / 65536) = q1 := by rw [hq1]; rfl
  have e2 : IntKind.u8.wrap (last / 256) = q2 := by rw [hq2]; rfl
  have e3 : IntKind.u8.wrap last = q3 := by rw [hq3]; rfl
  clear hq0 hq1 hq2 hq3
  have ag : some g ≠ (Value.slice a2 k cp2).ownBlock := fun e => by
    have := own_base HO2.out g e.symm
    omega
  obtain ⟨i0, hi, hzz, hz1, hz2⟩ := info_parts info_u806
  have hsz2 := HB2.out.size
  have HO4 := Lib.hid (World.ownsRow.alloc HO2.out (.cells #[.int .u8 q0, .int .u8 q1, .int .u8 q2, .int .u8 q3] 5))
  have HB4 := Lib.hid (HB2.out.alloc hsz2 (.cells #[.int .u8 q0, .int .u8 q1, .int .u8 q2, .int .u8 q3] 5))
  go_wp2
  go_region_held3 (fun w' => w'.cell? ⟨g, 1, none⟩ = some (.int .u32 last))
    (first | go_keep | (rw [hgrow.cell_far _ (by simp; omega) ag]; assumption))
    ((refine step_append_lies _ (by rfl) _ _ _ (by rfl) w.heap.size 5 i0 (.int .u8 0) 1 1 Try.underlying33 hi hzz hz1 hz2 rfl (by decide) (.slice a2 k cp2) k _ (by rfl) HO4.out.drew ⟨w2.heap.size, 0, none⟩ 4 4 [.int .u8 q0, .int .u8 q1, .int .u8 q2, .int .u8 q3] (by rfl) (by rfl) (World.news_of_block (cs := #[.int .u8 q0, .int .u8 q1, .int .u8 q2, .int .u8 q3]) (t := 5) (fr := (0, 0)) (heap_alloc_new w2 _)) (by simp [Value.oneCell']) (by omega) (by unfold maxLen; omega) (by omega) (by simp; omega) (w2.heap.size + 1) (by simp) ?_; intro gg cp w5 hown hgrow hat hlt2))
  have hown5 : w5.ownsRow w.heap.size 5 1 (.slice (some ⟨gg, 0, none⟩) (k + 4) cp) (k + 4) ((digL n (k + 4)).map (Value.int .u8)) := by
    rw [← HD4.out, HF.out]; simpa using hown
  have HB5 : RowKit.Hid (Below w.heap.size w w5) := (Below.drewN' HB4.out 1).grown hgrow (by simp; omega) (own_base HO4.out)
  have hcp : k + 4 ≤ cp ∧ cp ≤ 9223372036854775807 := by
    rcases hown5.2 with ⟨h, _⟩ | ⟨g', cap, cur, h, _, _, h2, h3, _⟩
    · injection h with h; cases h
    · unfold maxLen at h3; injection h with _ _ h; omega
  obtain ⟨hcp, hcpm⟩ := hcp
  have HO5 := Lib.hid hown5
  obtain ⟨L, hL⟩ : ∃ L, L = digL n (k + 4) := ⟨_, rfl⟩
  have HLd : RowKit.Hid (IsDig L ∧ L.length = k + 4) := by rw [hL]; exact ⟨digL_dig _ _, digL_len _ _⟩
  rw [← hL] at HO5
  have HLq : RowKit.Hid (digL n (k + 4) = L) := hL.symm
  clear hown hgrow hown5 hL HO4 HB4 HO2 HB2 HD4 HF hat hlt2 ag HO0 HB0 HI HN H1 HR
  go_wp2
  go_loopw [4] (fun i wr => ∃ j : Nat, j ≤ k + 4 ∧ i = .int .i64 j ∧ RowKit.Hid (lastK L j = lastK L (k + 4)) ∧ wr = w5) (fun i _ => (intOf i).toNat)
  case atStart => exact ⟨k + 4, by omega, by go_num, rfl, rfl⟩
  case round =>
    obtain ⟨j, hj, rfl, H, rfl⟩ := hrel
    by_cases hz : j = 0
    · have hm : lastK L (k + 4) = -1 := by rw [← H.out, hz]; rfl
      have HE : RowKit.Hid (bytesL L = []) := by
        show _ = _
        unfold bytesL; rw [HLd.out.2, hm]; rfl
      subst hz
      clear H hm
      go_wp2
      go_ret
      rw [HLq.out, HE.out]
      exact ⟨some ⟨gg, 0, none⟩, cp, rfl, ⟨rfl, .inl rfl⟩, HB5.out⟩
    · obtain ⟨p, hp⟩ : ∃ p, j = p + 1 := ⟨j - 1, by omega⟩
      subst hp
      have hcell : wr.cell? ⟨gg, p, none⟩ = some (.int .u8 (L.getD p 0)) := by
        rw [HO5.out.cellAt p (by omega), List.getElem?_map, List.getElem?_eq_getElem (by rw [HLd.out.2]; omega)]
        simp [List.getD, show p < L.length by rw [HLd.out.2]; omega]
      have E : RowKit.Hid (lastK L (p + 1) = if L.getD p 0 = 0 then lastK L p else p) := rfl
      generalize L.getD p 0 = x at hcell E
      by_cases hx : x = 0
      · have hq : (x == 0) = true := by simpa using hx
        have E2 : RowKit.Hid (lastK L p = lastK L (k + 4)) := by
          show _ = _
          rw [← H.out, E.out, if_pos hx]
        clear hx
        go_wp2
        go_roundw
        case rel => exact ⟨p, by omega, rfl, E2.out, trivial⟩
        case measure => simp [intOf] <;> omega
      · have hq : (x == 0) = false := by simpa using hx
        have HE : RowKit.Hid (bytesL L = L.take (p + 1)) := by
          have hm : lastK L (k + 4) = p := by rw [← H.out, E.out, if_neg hx]
          show _ = _
          unfold bytesL
          rw [HLd.out.2, hm]
          congr 1
        have HI5 := Lib.hid (own_ints' HO5.out)
        clear hx
        go_wp2
        go_ret
        rw [HLq.out, HE.out]
        have e : (L.take (p + 1)).length = p + 1 := by rw [List.length_take, HLd.out.2]; omega
        refine ⟨some ⟨gg, 0, none⟩, cp, by rw [e]; rfl, ?_, HB5.out⟩
        rw [e]
        exact HI5.out.take hj
end Go.Proofs.Ytgnmnmjicjcffaa
