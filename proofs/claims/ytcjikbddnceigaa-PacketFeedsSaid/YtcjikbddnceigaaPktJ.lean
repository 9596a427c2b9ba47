/- What the document's All gives. -/
import Derived.Test.YtcjikbddnceigaaPktI
namespace Go.Proofs.Ytcjikbddnceigaa
open Go.RowKit
set_option linter.unusedVariables false
set_option linter.unusedSimpArgs false

/-- No packet. -/
theorem refParse_no (a : Option Addr) (n cap : Nat) (b : List Int) (w : World) (h : ByL w a n cap b) (hn : n ≤ 1000000) (he : prsE b ≠ 0) :
    Calls Try.prog 12 #[.slice a n cap] w fun e w' => e = .returned (.tuple #[pkZ, .int .i64 0, .int .i64 (prsE b)]) ∧ Below w.heap.size w w' := by
  have hl := h.len
  by_cases hf : formP b = true
  · by_cases l : n < 13
    · exact refParse_few a n cap b w h hf l
    · by_cases hz : 600 < lenP b ∨ n < 17 + lenP b
      · exact refParse_long a n cap b w h hf (by omega) hn hz
      · obtain ⟨r, off, rfl⟩ := h.form (by omega)
        refine (refParse_late r off n cap b w h hn hf (by omega) (by omega) (by omega)).mono ?_
        rintro e w' ⟨⟨h1, _⟩ | ⟨h1, h2⟩, hb⟩
        · exact absurd h1 he
        · exact ⟨by rw [h2, h1], hb⟩
  · exact refParse_form a n cap b w h hn (by simpa using hf)
theorem refParse_ok (r off n cap : Nat) (b : List Int) (w : World) (h : ByL w (some ⟨r, off, none⟩) n cap b) (hn : n ≤ 1000000) (he : prsE b = 0) :
    Calls Try.prog 12 #[.slice (some ⟨r, off, none⟩) n cap] w fun e w' => e = .returned (.tuple #[refPV (pkOf b) (lenP b) r off cap, .int .i64 ((17 + lenP b : Nat) : Int), .int .i64 0]) ∧ Below w.heap.size w w' := by
  obtain ⟨f, l, m6, q, hs⟩ := prsE_ok he
  have hl := h.len
  refine (refParse_late r off n cap b w h hn f (by omega) m6 (by omega)).mono ?_
  rintro e w' ⟨⟨_, h2⟩ | ⟨h1, _⟩, hb⟩
  · exact ⟨h2, hb⟩
  · omega
theorem info19_rpks : (Try.prog.info? 33).map (fun i => (i.zero, i.size, i.bytes)) = some (some (.agg #[.int .u32 0, .int .u32 0, .bool false, .slice none 0 0]), 4, 40) := by kernel_rfl
theorem results19_t3 {fn : Func} {p u x : Tmp} {tmps : Array Value} {P : Program} {w : World} (h : fn.results = #[.tmp p, .tmp u, .tmp x]) (_ : True) : (results fn tmps).run P w = .ok (.tuple #[tmps.getD p undef, tmps.getD u undef, tmps.getD x undef]) w := by
  simp only [results, h]
  simp [Sem.run_bind, Result.andThen]
/-- Where the document's reading stands. -/
structure AlSt (w : World) (B : Nat) (all : List Int) (v : Value) (ps : List Pk) (lo : Nat) (a : Option Addr) (n c : Nat) (rest : List Int) (wr : World) : Prop where
  o : OnWay all ps lo rest
  l : rest.length ≤ all.length
  r : ByL wr a n c rest
  t : ∀ r off, a = some ⟨r, off, none⟩ → 0 < n → r < B
  p : PksAt wr w.heap.size B 33 v ps
  k : Below w.heap.size w wr
theorem AlSt.take {w wr W5 w6 : World} {B r off n c lo z : Nat} {v v6 : Value} {all rest : List Int} {ps : List Pk} {P : Pk} (H : AlSt w B all v ps lo (some ⟨r, off, none⟩) n c rest wr) (hB : B ≤ w.heap.size) (h0 : prsE rest = 0) (hP : pkOf rest = P) (hz : 17 + lenP rest = z) (hB5 : Below wr.heap.size wr W5)
    (p6 : PksAt w6 w.heap.size B 33 v6 (ps ++ [P])) (k6 : Keeps (fun j => w.heap.size ≤ j ∧ Typ19 W5 j 33) W5 w6) :
    AlSt w B all v6 (ps ++ [P]) lo (if c = z then some ⟨r, off, none⟩ else some ⟨r, off + z, none⟩) (n - z) (c - z) (rest.drop z) w6 := by
  have hl := H.r.len
  have hzn : z ≤ n := by have := (prsE_ok h0).2.2.2.1; omega
  have hp := len_pos (b := rest) (by omega)
  have hT := H.t r off rfl (by omega)
  have kk : Keeps (fun j => w.heap.size ≤ j) wr w6 := (Keeps.of_below hB5).then_ k6 fun j hj => .inl hj.1
  refine ⟨?_, ?_, ?_, ?_, p6, ?_⟩
  · have := H.o.ok h0
    rw [hP, hz] at this
    exact this
  · have := H.l; rw [List.length_drop]; omega
  · refine (H.r.rest hzn).keeps kk fun r2 off2 e _ hf => ?_
    have := rest_form e
    subst this
    omega
  · intro r2 off2 e _
    have := rest_form e
    subst this
    exact hT
  · exact H.k.trans (kk.below H.k.size fun j hj => hj)
theorem AlSt.pass {w wr w4 : World} {B r off n c lo : Nat} {v : Value} {all rest : List Int} {ps : List Pk} (H : AlSt w B all v ps lo (some ⟨r, off, none⟩) n c rest wr) (h0 : prsE rest ≠ 0) (h2 : prsE rest ≠ 2) (hB4 : Below wr.heap.size wr w4) :
    AlSt w B all v ps (lo + 1) (if c = 1 then some ⟨r, off, none⟩ else some ⟨r, off + 1, none⟩) (n - 1) (c - 1) (rest.drop 1) w4 := by
  have hl := H.r.len
  have hp := len_pos (b := rest) (by omega)
  refine ⟨H.o.bad h2 h0, ?_, (H.r.rest (by omega)).below hB4, ?_, H.p.below hB4, chain H.k hB4⟩
  · have := H.l; rw [List.length_drop]; omega
  · intro r2 off2 e _
    have := rest_form e
    subst this
    exact H.t _ _ rfl (by omega)
/-- What all bytes say. -/
def AllPost19 (B : Nat) (all : List Int) (w : World) (x : Ending) (w' : World) : Prop :=
  ∃ v, x = .returned (.tuple #[v, .int .i64 ((scan all).lost : Int), .int .i64 ((scan all).left.length : Int)]) ∧ PksAt w' w.heap.size B 33 v (scan all).ps ∧ Below w.heap.size w w'
set_option maxRecDepth 100000 in
set_option maxHeartbeats 4000000 in
theorem refAll_any (B : Nat) (a : Option Addr) (n cap : Nat) (b : List Int) (w : World) (hb : ByL w a n cap b) (hn : n ≤ 10000) (hB : B ≤ w.heap.size) (hr : ∀ r off, a = some ⟨r, off, none⟩ → 0 < n → r < B) :
    Calls Try.prog 14 #[.slice a n cap] w (AllPost19 B b w) := by
  have H0 : RowKit.Hid (AlSt w B b (.slice none 0 0) [] 0 a n cap b w) := ⟨.start b, Nat.le_refl _, hb, hr, .nil _ _ _ _, Below.refl _ _⟩
  have hlen := hb.len
  have HAl : RowKit.Hid (b.length ≤ 10000) := by show _ ≤ _; omega
  clear hb hr hlen
  go_enter Try.func14, Try.ntmps14
  go_wp2
  go_loopw [0, 5, 6] (fun u v lo wr => ∃ (ps : List Pk) (k : Nat) (a : Option Addr) (n c : Nat) (rest : List Int), u = .slice a n c ∧ lo = .int .i64 (k : Int) ∧ RowKit.Hid (AlSt w B b v ps k a n c rest wr)) (fun u _ _ _ => lenV19 u)
  case atStart => exact ⟨[], 0, a, n, cap, b, rfl, rfl, H0.out⟩
  case round =>
    obtain ⟨ps, lo, a3, n3, c3, rest, rfl, rfl, H⟩ := hrel
    clear H0
    have hrl := H.out.r.len
    have hnum := H.out.o.nums
    have hal := HAl.out
    have hrn : n3 ≤ 10000 := by have := H.out.l; omega
    obtain ⟨a5, n5, c5, rfl, hn5⟩ := H.out.p.form
    by_cases h2 : prsE rest = 2
    · have HCt := Lib.hid (H.out.o.cut h2)
      have HL := Lib.hid hrl
      by_cases l0 : n3 = 0
      · subst l0
        clear hn5 hrl hnum h2
        go_wp2
        refine bodyPost_ret (results19_t3 rfl trivial) rfl ?_
        exact ⟨_, by rw [HCt.out, HL.out]; rfl, by rw [HCt.out]; exact H.out.p, H.out.k⟩
      · have HP := Lib.hid (refParse_no a3 n3 c3 rest _ H.out.r (by omega) (by omega))
        rw [h2] at HP
        unfold pkZ at HP
        have l1 : (0 : Int) < (n3 : Int) := by omega
        clear hn5 hrl hnum h2
        go_wp2_with (go_at_call 12; go_loud (refine HP.out.mono ?_); rintro e w4 ⟨rfl, hb⟩; have HB5 := Lib.hid (hb.alloc hb.size (.cells #[.int .u32 0, .int .u32 0, .bool false, .slice none 0 0] 33)); clear hb)
        refine bodyPost_ret (results19_t3 rfl trivial) rfl ?_
        exact ⟨_, by rw [HCt.out, HL.out]; rfl, by rw [HCt.out]; exact H.out.p.below HB5.out, chain H.out.k HB5.out⟩
    · have hp := len_pos h2
      obtain ⟨r, off, rfl⟩ := H.out.r.form (by omega)
      have hrc := H.out.r.hc
      have l1 : (0 : Int) < (n3 : Int) := by omega
      by_cases h0 : prsE rest = 0
      · have hzn := (prsE_ok h0).2.2.2.1
        have hz13 := prsE_ok h0
        obtain ⟨P, hP⟩ : ∃ P, pkOf rest = P := ⟨_, rfl⟩
        obtain ⟨y, hy⟩ : ∃ y, lenP rest = y := ⟨_, rfl⟩
        obtain ⟨z, hz⟩ : ∃ z, 17 + lenP rest = z := ⟨_, rfl⟩
        have HP := Lib.hid (refParse_ok r off n3 c3 rest _ H.out.r (by omega) h0)
        have HPl : RowKit.Hid (P.pl.length = y ∧ P.pl = (rest.drop 13).take y) := by
          refine ⟨?_, ?_⟩
          · rw [← hP]; show ((rest.drop 13).take (lenP rest)).length = y; rw [hy]; simp; omega
          · rw [← hP]; show (rest.drop 13).take (lenP rest) = _; rw [hy]
        have HPy : RowKit.Hid (PyAt wr B (P, some ⟨r, off + 13, none⟩, c3 - 13)) := by
          have hs := H.out.r.sub 13 y (by omega)
          refine ⟨?_, (fun e => by cases e), fun r2 off2 e h0 => .inr ?_⟩
          · show IntsAt wr wr.heap.size .u8 (some ⟨r, off + 13, none⟩) P.pl.length P.pl
            rw [HPl.out.1, HPl.out.2]
            exact hs.hi
          · injection e with e
            injection e with e _
            rw [← e]
            exact H.out.t r off rfl (by omega)
        unfold refPV at HP
        rw [hP, hz, hy] at HP
        have HPz : RowKit.Hid (prsE rest = 0 ∧ pkOf rest = P ∧ 17 + lenP rest = z) := ⟨h0, hP, hz⟩
        have HN5 := Lib.hid hn5
        have z1 : (0 : Int) ≤ (z : Int) := by omega
        have z2 : (z : Int) ≤ (n3 : Int) := by omega
        have z3 : z ≤ n3 := by omega
        have z4 : 0 < z := by omega
        clear hP hz hy h0 h2 hn5 hrl hp hz13
        go_wp2_with (first
          | (go_at_call 12; go_loud (refine HP.out.mono ?_); rintro e w4 ⟨rfl, hb⟩; obtain ⟨W5, hW5⟩ : ∃ W5, (w4.alloc (.cells #[.int .u32 P.ep, .int .u32 P.nu, .bool P.wh, .slice (some ⟨r, off + 13, none⟩) y (c3 - 13)] 33)).alloc (.cells #[.int .u32 P.ep, .int .u32 P.nu, .bool P.wh, .slice (some ⟨r, off + 13, none⟩) y (c3 - 13)] 33) = W5 := ⟨_, rfl⟩; have HW5 := Lib.hid hW5; have HB5 : RowKit.Hid (Below wr.heap.size wr W5) := (by rw [← hW5]; exact (hb.alloc hb.size _).alloc (Nat.le_trans hb.size (by simp)) _); have HC5 : RowKit.Hid (Cel W5 (w4.heap.size + 1) 33 #[.int .u32 P.ep, .int .u32 P.nu, .bool P.wh, .slice (some ⟨r, off + 13, none⟩) P.pl.length (c3 - 13)]) := (by have k := Cel.new (w4.alloc (.cells #[.int .u32 P.ep, .int .u32 P.nu, .bool P.wh, .slice (some ⟨r, off + 13, none⟩) y (c3 - 13)] 33)) 33 #[.int .u32 P.ep, .int .u32 P.nu, .bool P.wh, .slice (some ⟨r, off + 13, none⟩) y (c3 - 13)]; rw [hW5, World.size_alloc] at k; rw [HPl.out.1]; exact k); have HPy5 : RowKit.Hid (PyAt W5 B (P, some ⟨r, off + 13, none⟩, c3 - 13)) := HPy.out.below HB5.out; clear hb hW5)
          | (at_builtin; rw [HW5.out]; go_loud (refine append_pks rfl _ _ 44 rfl w.heap.size B 33 _ 40 Try.underlying44 info19_rpks rfl (by decide) (by decide) hB _ ps rfl (H.out.p.below HB5.out) (some ⟨w4.heap.size + 1, 0, none⟩) 1 1 [(P, some ⟨r, off + 13, none⟩, c3 - 13)] rfl rfl (fun e => by cases e) (fun ad e => by injection e with e; subst e; exact World.news_of_block HC5.out) (fun y hy => by simp at hy; subst hy; exact HPy5.out) (by omega) (Nat.le_trans H.out.k.size HB5.out.size) ?_); intro v6 w6 hp6 hk6; go_loud (have H6 := Lib.hid (H.out.take hB HPz.out.1 HPz.out.2.1 HPz.out.2.2 HB5.out hp6 hk6)); clear hp6 hk6)
          | fail)
        go_roundw
        case rel => exact ⟨_, _, _, _, _, _, rfl, rfl, H6.out⟩
        case measure => show n3 - z < n3; omega
      · have HP := Lib.hid (refParse_no _ n3 c3 rest _ H.out.r (by omega) h0)
        obtain ⟨z, hz⟩ : ∃ z, prsE rest = z := ⟨_, rfl⟩
        rw [hz] at HP
        have HZ : RowKit.Hid (prsE rest ≠ 0 ∧ prsE rest ≠ 2) := ⟨h0, h2⟩
        have q0 : (z == 0) = false := by rw [hz] at h0; simpa using h0
        have q2 : (z == 2) = false := by rw [hz] at h2; simpa using h2
        have hw1 : IntKind.i64.wrap ((lo : Int) + 1) = (lo : Int) + 1 := IntWalk.i64_in _ (by omega)
        have z3 : 1 ≤ n3 := by omega
        unfold pkZ at HP
        clear hz h0 h2 hn5 hrl hp hnum
        go_wp2_with (go_at_call 12; go_loud (refine HP.out.mono ?_); rintro e w4 ⟨rfl, hb⟩; have HB5 := Lib.hid (hb.alloc hb.size (.cells #[.int .u32 0, .int .u32 0, .bool false, .slice none 0 0] 33)); clear hb)
        go_roundw
        case rel => exact ⟨_, lo + 1, _, _, _, _, rfl, by go_num, H.out.pass HZ.out.1 HZ.out.2 HB5.out⟩
        case measure => show n3 - 1 < n3; omega
end Go.Proofs.Ytcjikbddnceigaa
