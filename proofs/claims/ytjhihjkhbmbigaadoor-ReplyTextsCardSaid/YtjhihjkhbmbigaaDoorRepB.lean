/- What the functions of package reply give: a reply's lines, its text. -/
import Derived.Test.YtjhihjkhbmbigaaDoorRepA
namespace Go.Proofs.YtjhihjkhbmbigaaDoor
open Go.RowKit Go.PlainAid
set_option linter.unusedVariables false

/-- What the texts of numbers lean on: the library's table of the powers of ten. -/
structure PowT (w : World) : Prop where
  tab : Lib.TabIs Tryd.prog w "internal/strconv.uint64pow10" .u64 Lib.pow10Tab
theorem NumTabs.pow {w : World} (h : NumTabs w) : PowT w := ⟨h.tab⟩
theorem PowT.below {w w' : World} (h : PowT w) (hb : Below w.heap.size w w') : PowT w' := ⟨var_on (g := 1) (by kernel_rfl) h.tab hb⟩
theorem itoa_any18 (n : Int) (w : World) (h0 : -9223372036854775808 ≤ n) (h1 : n ≤ 9223372036854775807) (hT : PowT w) :
    Calls Tryd.prog 19 #[.int .i64 n] w fun e w' => e = .returned (.string (ba (Lib.itoa n))) ∧ Below w.heap.size w w' := by
  refine (Tryd.strconv_Itoa n h0 h1 w hT.tab).mono ?_
  rintro e w' ⟨he, k, os, rfl⟩
  exact ⟨he, (Below.refl _ _).trans (Lib.below_grow _ _ (Nat.le_refl _) _ _)⟩
/-- A row of texts that the call has made. -/
def TxtAt (w : World) (base b : Nat) (L : List (List UInt8)) : Prop := Cel w b 9 (L.map fun l => Value.string (ba l)).toArray ∧ base ≤ b
theorem field18 (x : ByteArray) (W : World) : (Instr.field 43 (.agg #[.string x]) 0).run Tryd.prog W = .ok (.string x) W := by
  kernel_rfl
theorem lit1 (l : List UInt8) : (⟨l.toArray⟩ : ByteArray) = ba l := rfl
set_option maxHeartbeats 8000000 in
set_option maxRecDepth 100000 in
theorem lines_any (c ev : Int) (s : ByteArray) (w : World) (hs : s.size ≤ 1000) (hc0 : -9223372036854775808 ≤ c) (hc1 : c ≤ 9223372036854775807) (he0 : -9223372036854775808 ≤ ev) (he1 : ev ≤ 9223372036854775807) (hT : PowT w) :
    Calls Tryd.prog 15 #[.agg #[.int .i64 c, .string s, .int .i64 ev]] w fun e w' =>
      ∃ b, e = .returned (.slice (some ⟨b, 0, none⟩) (linesF ⟨c, s.data.toList, ev⟩).length (linesF ⟨c, s.data.toList, ev⟩).length) ∧ TxtAt w' w.heap.size b (linesF ⟨c, s.data.toList, ev⟩) ∧ Below w.heap.size w w' := by
  obtain ⟨L, hL⟩ : ∃ L, linesF ⟨c, s.data.toList, ev⟩ = L := ⟨_, rfl⟩
  have HL := Lib.hid hL
  rw [hL]
  clear hL
  have CM : ∀ W : World, Below w.heap.size w W → Calls Tryd.prog 16 #[] W fun e w' => ∃ M : Nat, e = .returned (.map (some M)) ∧ (∀ W' : World, Below w'.heap.size w' W' → (Instr.lookup 45 (.map (some M)) (.int .i64 c) false).run Tryd.prog W' = .ok (.agg #[.string (ba (wordsF c))]) W') ∧ Below w.heap.size w w' ∧ Below W.heap.size W w' := by
    intro W hb
    refine (meanings_any W).mono ?_
    rintro e w' ⟨he, h1, h2⟩
    exact ⟨_, he, fun W' h3 => (h1.below h3).look c hc0 hc1, hb.trans (h2.mono hb.size), h2⟩
  have CI : ∀ W : World, Below w.heap.size w W → Calls Tryd.prog 19 #[.int .i64 c] W fun e w' => e = .returned (.string (ba (Lib.itoa c))) ∧ Below w.heap.size w w' ∧ Below W.heap.size W w' := by
    intro W hb
    refine (itoa_any18 c W hc0 hc1 (hT.below hb)).mono ?_
    rintro e w' ⟨he, h2⟩
    exact ⟨he, hb.trans (h2.mono hb.size), h2⟩
  have CE : ∀ W : World, Below w.heap.size w W → Calls Tryd.prog 19 #[.int .i64 ev] W fun e w' => e = .returned (.string (ba (Lib.itoa ev))) ∧ Below w.heap.size w w' ∧ Below W.heap.size W w' := by
    intro W hb
    refine (itoa_any18 ev W he0 he1 (hT.below hb)).mono ?_
    rintro e w' ⟨he, h2⟩
    exact ⟨he, hb.trans (h2.mono hb.size), h2⟩
  have i1 : (ba (Lib.itoa c)).size ≤ 21 := by rw [ba_size]; exact Lib.itoa_length_le c hc0 hc1
  have i2 : (ba (Lib.itoa ev)).size ≤ 21 := by rw [ba_size]; exact Lib.itoa_length_le ev he0 he1
  have i3 : (ba (wordsF c)).size ≤ 15 := by rw [ba_size]; exact words_len c
  obtain ⟨g, hg⟩ : ∃ g, w.heap.size = g := ⟨_, rfl⟩
  obtain ⟨wb, hwb⟩ : ∃ wb, w.alloc (.cells #[.int .i64 c, .string s, .int .i64 ev] 23) = wb := ⟨_, rfl⟩
  have hcel : Cel wb g 23 #[.int .i64 c, .string s, .int .i64 ev] := by rw [← hwb, ← hg]; exact Cel.new w _ _
  have bb : Below w.heap.size w wb := by rw [← hwb]; exact Below.alloc_new _ _
  have HS : RowKit.Hid (((⟨#[32]⟩ ++ ba (Lib.itoa c)) ++ ⟨#[32]⟩) ++ ba (wordsF c) = ba (saidF c)) := by
    show _ = _
    rw [show (⟨#[32]⟩ : ByteArray) = ba [32] from rfl, ba_append, ba_append, ba_append]
    simp [saidF]
  go_enter Tryd.func15, Tryd.ntmps15
  go_upto_region 1 with (fail)
  go_cut [3] (fun v wx => v = .string (ba (saidF c)) ∧ RowKit.Hid (Below w.heap.size w wx ∧ Cel wx g 23 #[.int .i64 c, .string s, .int .i64 ev]))
  case first =>
    have hc : wb.cell? ⟨g, 0, none⟩ = some (.int .i64 c) := hcel.cell 0
    have HC : RowKit.Hid (∀ W W' : World, W.cell? ⟨g, 0, none⟩ = some (.int .i64 c) → Below W.heap.size W W' → W'.cell? ⟨g, 0, none⟩ = some (.int .i64 c)) := fun W W' h k => (k.cell (p := ⟨g, 0, none⟩) (cell_block h)).trans h
    generalize ba (Lib.itoa c) = I at *
    generalize ba (wordsF c) = Wd at *
    have n1 : ¬ 9223372036854775807 < 1 + I.size := by omega
    have n2 : ¬ 9223372036854775807 < 1 + I.size + 1 := by omega
    have n3 : ¬ 9223372036854775807 < 1 + I.size + 1 + Wd.size := by omega
    have hfd : ∀ W : World, (Instr.field 43 (.agg #[.string Wd]) 0).run Tryd.prog W = .ok (.string Wd) W := fun W => field18 Wd W
    go_region_held3 (fun w' => w'.cell? ⟨g, 0, none⟩ = some (.int .i64 c)) (go_keep) (first
      | (go_at_call 19; refine (CI _ (Below.drewN' bb 1)).mono ?_; rintro e w3 ⟨rfl, b3, b4⟩; have b5 := chain (Below.drewN' (Below.refl _ _) 1) b4; have m0 : w3.cell? ⟨g, 0, none⟩ = some (.int .i64 c) := HC.out wb w3 hc b5)
      | (go_at_call 16; refine (CM _ (Below.drewN' bb 1)).mono ?_; rintro e w3 ⟨M, rfl, hlk, b3, b4⟩; have hl1 := hlk w3 (Below.refl _ _); have b5 := chain (Below.drewN' (Below.refl _ _) 1) b4; have m0 : w3.cell? ⟨g, 0, none⟩ = some (.int .i64 c) := HC.out wb w3 hc b5)
      | (go_at_call 16; refine (CM _ b3).mono ?_; rintro e w4 ⟨M, rfl, hlk, b6, b7⟩; have hl1 := hlk w4 (Below.refl _ _); have b8 := chain b5 b7; have m1 : w4.cell? ⟨g, 0, none⟩ = some (.int .i64 c) := HC.out w3 w4 m0 b7)
      | (go_at_call 19; refine (CI _ b3).mono ?_; rintro e w4 ⟨rfl, b6, b7⟩; have hl2 := hlk w4 b7; have b8 := chain b5 b7; have m1 : w4.cell? ⟨g, 0, none⟩ = some (.int .i64 c) := HC.out w3 w4 m0 b7))
    all_goals
      go_wp2
      go_meet
      exact ⟨congrArg Value.string HS.out, b6, hcel.below b8⟩
  case rest =>
    obtain ⟨rfl, H⟩ := hcut
    have x0 : wc.cell? ⟨g, 0, none⟩ = some (.int .i64 c) := H.out.2.cell 0
    have x1 : wc.cell? ⟨g, 1, none⟩ = some (.string s) := H.out.2.cell 1
    have x2 : wc.cell? ⟨g, 2, none⟩ = some (.int .i64 ev) := H.out.2.cell 2
    have i4 : (ba (saidF c)).size ≤ 60 := by
      rw [ba_size] at i1 i3 ⊢
      unfold saidF
      simp only [List.length_cons, List.length_append]
      omega
    have HB : RowKit.Hid (∀ (W : World) (cs : Array Value), Below w.heap.size w W → w.heap.size ≤ W.heap.size ∧ Below w.heap.size w (W.alloc (.cells cs 9)) ∧ Cel (W.alloc (.cells cs 9)) W.heap.size 9 cs) := fun W cs h => ⟨h.size, h.alloc h.size _, Cel.new W _ _⟩
    have e1 : (⟨#[72, 84, 84, 80, 47, 49, 46, 48]⟩ : ByteArray) ++ ba (saidF c) = ba (http18 ++ saidF c) := ba_append http18 (saidF c)
    have e2 : (⟨#[73, 67, 89]⟩ : ByteArray) ++ ba (saidF c) = ba (icy18 ++ saidF c) := ba_append icy18 (saidF c)
    have e3 : (⟨#[105, 99, 121, 45, 110, 97, 109, 101, 58]⟩ : ByteArray) ++ s = ba (name18 ++ s.data.toList) := by
      have := ba_append name18 s.data.toList
      rw [ba_list] at this
      exact this
    have e4 : (⟨#[105, 99, 121, 45, 109, 101, 116, 97, 105, 110, 116, 58]⟩ : ByteArray) ++ ba (Lib.itoa ev) = ba (every18 ++ Lib.itoa ev) := ba_append every18 (Lib.itoa ev)
    have HE : RowKit.Hid _ := Lib.hid (And.intro e1 (And.intro e2 (And.intro e3 e4)))
    clear e1 e2 e3 e4
    by_cases hc2 : c = 200
    · by_cases he : ev = 0
      · have hL : L = [http18 ++ saidF c, name18 ++ s.data.toList] := by
          rw [← HL.out]; unfold linesF
          rw [if_neg (show ¬ c ≠ 200 by simpa using hc2), if_pos he]
        have HLL := Lib.hid hL
        have hF : RowKit.Hid (L.length = 2 ∧ (L.map fun l => Value.string (ba l)).toArray = #[.string ((⟨#[72, 84, 84, 80, 47, 49, 46, 48]⟩ : ByteArray) ++ ba (saidF c)), .string ((⟨#[105, 99, 121, 45, 110, 97, 109, 101, 58]⟩ : ByteArray) ++ s)]) := by
          refine ⟨by rw [hL]; rfl, ?_⟩
          rw [hL, HE.out.1, HE.out.2.2.1]
          rfl
        clear hL HL HE
        generalize ba (saidF c) = SD at *
        subst hc2 he
        go_wp2
        go_ret
        refine ⟨wc.heap.size, by rw [hF.out.1]; rfl, ⟨?_, (HB.out wc #[] H.out.1).1⟩, ?_⟩
        · rw [hF.out.2]
          exact (HB.out wc _ H.out.1).2.2
        · exact (HB.out wc _ H.out.1).2.1
      · have hL : L = [icy18 ++ saidF c, name18 ++ s.data.toList, every18 ++ Lib.itoa ev] := by
          rw [← HL.out]; unfold linesF
          rw [if_neg (show ¬ c ≠ 200 by simpa using hc2), if_neg he]
        have hF : RowKit.Hid (L.length = 3 ∧ (L.map fun l => Value.string (ba l)).toArray = #[.string ((⟨#[73, 67, 89]⟩ : ByteArray) ++ ba (saidF c)), .string ((⟨#[105, 99, 121, 45, 110, 97, 109, 101, 58]⟩ : ByteArray) ++ s), .string ((⟨#[105, 99, 121, 45, 109, 101, 116, 97, 105, 110, 116, 58]⟩ : ByteArray) ++ ba (Lib.itoa ev))]) := by
          refine ⟨by rw [hL]; rfl, ?_⟩
          rw [hL, HE.out.2.1, HE.out.2.2.1, HE.out.2.2.2]
          rfl
        clear hL HL HE
        generalize ba (saidF c) = SD at *
        generalize ba (Lib.itoa ev) = J at *
        subst hc2
        have hc5 : (ev == 0) = false := by simpa using he
        have HC : RowKit.Hid (∀ W W' : World, W.cell? ⟨g, 1, none⟩ = some (.string s) ∧ W.cell? ⟨g, 2, none⟩ = some (.int .i64 ev) → Below W.heap.size W W' → W'.cell? ⟨g, 1, none⟩ = some (.string s) ∧ W'.cell? ⟨g, 2, none⟩ = some (.int .i64 ev)) := fun W W' h k => ⟨(k.cell (p := ⟨g, 1, none⟩) (cell_block h.1)).trans h.1, (k.cell (p := ⟨g, 2, none⟩) (cell_block h.2)).trans h.2⟩
        have n1 : ¬ 9223372036854775807 < 3 + SD.size := by omega
        have n2 : ¬ 9223372036854775807 < 9 + s.size := by omega
        have n3 : ¬ 9223372036854775807 < 12 + J.size := by omega
        go_upto_region 6 with (fail)
        go_region_held3 (fun w' => w'.cell? ⟨g, 1, none⟩ = some (.string s) ∧ w'.cell? ⟨g, 2, none⟩ = some (.int .i64 ev)) (go_keep) (first
          | (go_at_call 19; refine (CE _ (Below.drewN' H.out.1 1)).mono ?_; rintro e w3 ⟨rfl, b3, b4⟩; have b5 := chain (Below.drewN' (Below.refl _ _) 1) b4; obtain ⟨m0, m1⟩ := HC.out wc w3 ⟨x1, x2⟩ b5))
        all_goals
          go_wp2
          go_ret
          refine ⟨w3.heap.size, by rw [hF.out.1]; rfl, ⟨?_, (HB.out w3 #[] b3).1⟩, ?_⟩
          · rw [hF.out.2]
            exact (HB.out w3 _ b3).2.2
          · exact (HB.out w3 _ b3).2.1
    · have hL : L = [http18 ++ saidF c, cont18] := by
        rw [← HL.out]; unfold linesF
        rw [if_pos hc2]
      have hF : RowKit.Hid (L.length = 2 ∧ (L.map fun l => Value.string (ba l)).toArray = #[.string ((⟨#[72, 84, 84, 80, 47, 49, 46, 48]⟩ : ByteArray) ++ ba (saidF c)), .string ⟨#[67, 111, 110, 116, 101, 110, 116, 45, 76, 101, 110, 103, 116, 104, 58, 32, 48]⟩]) := by
        refine ⟨by rw [hL]; rfl, ?_⟩
        rw [hL, HE.out.1]
        rfl
      have hc3 : (c != 200) = true := by simpa using hc2
      clear hL HL HE
      generalize ba (saidF c) = SD at *
      go_wp2
      go_ret
      refine ⟨wc.heap.size, by rw [hF.out.1]; rfl, ⟨?_, (HB.out wc #[] H.out.1).1⟩, ?_⟩
      · rw [hF.out.2]
        exact (HB.out wc _ H.out.1).2.2
      · exact (HB.out wc _ H.out.1).2.1
end Go.Proofs.YtjhihjkhbmbigaaDoor
