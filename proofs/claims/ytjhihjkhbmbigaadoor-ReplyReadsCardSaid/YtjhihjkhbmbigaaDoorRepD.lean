/- What the functions of package reply give: the one reply whose lines these may be. -/
import Derived.Test.YtjhihjkhbmbigaaDoorRepC
namespace Go.Proofs.YtjhihjkhbmbigaaDoor
open Go.RowKit Go.PlainAid
set_option linter.unusedVariables false
set_option linter.unusedSimpArgs false

/-- A result that lies in memory. -/
theorem results18_1 {fn : Func} {p : Tmp} {ty : TypeId} {tmps : Array Value} {P : Program} {w : World} {g : Nat} {v : Value} (h : fn.results = #[.cell p ty]) (hp : tmps.getD p undef = .pointer (some ⟨g, 0, none⟩))
    (e : (loadVar ty ⟨g, 0, none⟩).run P w = .ok v w) : (results fn tmps).run P w = .ok v w := by
  have hp' : tmps[p]?.getD undef = .pointer (some ⟨g, 0, none⟩) := by simpa using hp
  simp only [results, h]
  simp [Sem.run_bind, hp', asAddr, Result.andThen, e]
theorem info_rep : (Tryd.prog.info? 23).map (·.size) = some 3 := by kernel_rfl
/-- Pieces of a text in a row. -/
def PcsAt (w : World) (b : Nat) (ps : List ByteArray) : Prop := Cel w b 9 (ps.map Value.string).toArray
theorem PcsAt.at {w : World} {b : Nat} {ps : List ByteArray} (h : PcsAt w b ps) (k : Nat) (hk : k < ps.length) : w.cell? ⟨b, k, none⟩ = some (.string (ps.getD k ⟨#[]⟩)) := by
  rw [Cel.cell h k]
  simp [List.getD_eq_getElem?_getD, List.getElem?_eq_getElem hk]
theorem PcsAt.below {w w' : World} {b : Nat} {ps : List ByteArray} (h : PcsAt w b ps) (hb : Below w.heap.size w w') : PcsAt w' b ps := Cel.below h hb
def repC (c : Int) (x : List UInt8 × Int) : Array Value := #[.int .i64 c, .string (ba x.1), .int .i64 x.2]
/-- A way round the loop over the lines. -/
structure Lk18 (w : World) (b g q : Nat) (p0 : ByteArray) (ps : List ByteArray) (c : Int) (x : List UInt8 × Int) (wr : World) : Prop where
  hp : PcsAt wr b (p0 :: ps)
  hr : Cel wr g 23 #[.int .i64 0, .string ⟨#[]⟩, .int .i64 0]
  hq : Cel wr q 23 (repC c x)
  hb : Below w.heap.size w wr
  hn : b ≠ q ∧ g ≠ q ∧ w.heap.size ≤ q
theorem Lk18.name {w : World} {b g q : Nat} {p0 : ByteArray} {ps : List ByteArray} {c : Int} {x : List UInt8 × Int} {wr : World} (h : Lk18 w b g q p0 ps c x wr) (t : List UInt8) : Lk18 w b g q p0 ps c (t, x.2) (wr.setCell ⟨q, 1, none⟩ (.string (ba t))) :=
  ⟨Cel.far h.hp h.hn.1 _, h.hr.far h.hn.2.1 _, h.hq.set_ 1 _, h.hb.setCell (p := ⟨q, 1, none⟩) h.hn.2.2 _, h.hn⟩
theorem Lk18.every {w : World} {b g q : Nat} {p0 : ByteArray} {ps : List ByteArray} {c : Int} {x : List UInt8 × Int} {wr : World} (h : Lk18 w b g q p0 ps c x wr) (n : Int) : Lk18 w b g q p0 ps c (x.1, n) (wr.setCell ⟨q, 2, none⟩ (.int .i64 n)) :=
  ⟨Cel.far h.hp h.hn.1 _, h.hr.far h.hn.2.1 _, h.hq.set_ 2 _, h.hb.setCell (p := ⟨q, 2, none⟩) h.hn.2.2 _, h.hn⟩
theorem Lk18.below {w : World} {b g q : Nat} {p0 : ByteArray} {ps : List ByteArray} {c : Int} {x : List UInt8 × Int} {wr w' : World} (h : Lk18 w b g q p0 ps c x wr) (k : Below wr.heap.size wr w') : Lk18 w b g q p0 ps c x w' :=
  ⟨h.hp.below k, h.hr.below k, h.hq.below k, chain h.hb k, h.hn⟩
theorem Lk18.cells {w : World} {b g q : Nat} {p0 : ByteArray} {ps : List ByteArray} {c : Int} {x : List UInt8 × Int} {wr : World} (h : Lk18 w b g q p0 ps c x wr) :
    wr.cell? ⟨q, 1, none⟩ = some (.string (ba x.1)) ∧ wr.frozen? ⟨q, 1, none⟩ = false ∧ wr.cell? ⟨q, 2, none⟩ = some (.int .i64 x.2) ∧ wr.frozen? ⟨q, 2, none⟩ = false := ⟨h.hq.cell 1, h.hq.frozen 1, h.hq.cell 2, h.hq.frozen 2⟩
theorem step_take (ps : List ByteArray) (k : Nat) (h : k < ps.length) : (ps.take (k + 1)).foldl stepF ([], 0) = stepF ((ps.take k).foldl stepF ([], 0)) (ps.getD k ⟨#[]⟩) := by
  rw [List.take_add_one, List.foldl_append, List.getElem?_eq_getElem h]
  simp [List.getD_eq_getElem?_getD, List.getElem?_eq_getElem h]
theorem trimP_len (l p : List UInt8) : (Lib.trimPrefix l p).length ≤ l.length := Lib.trimPrefix_le l p
theorem number18 (s : ByteArray) (most : Int) (w : World) (hs : s.size ≤ 1000) (hm : most ≤ 9223372036854775807) (hT : NumTabs w) :
    Calls Tryd.prog 38 #[.string s, .int .i64 most] w fun e w' => e = .returned (.int .i64 (numF s.data.toList most)) ∧ Below w.heap.size w w' := by
  rw [← numP_eq _ _ hm]
  exact number_any s most w hs hT
set_option maxHeartbeats 8000000 in
set_option maxRecDepth 100000 in
theorem likely_any (b : Nat) (p0 : ByteArray) (ps : List ByteArray) (w : World) (h : PcsAt w b (p0 :: ps)) (hn : ps.length ≤ 1000) (hp0 : p0.size ≤ 1000) (hps : ∀ k, k < ps.length → (ps.getD k ⟨#[]⟩).size ≤ 1000) (hT : NumTabs w) :
    Calls Tryd.prog 21 #[.slice (some ⟨b, 0, none⟩) (ps.length + 1) (ps.length + 1)] w fun e w' =>
      e = .returned (.agg #[.int .i64 (likelyF (p0 :: ps)).c, .string (ba (likelyF (p0 :: ps)).nm), .int .i64 (likelyF (p0 :: ps)).ev]) ∧ Below w.heap.size w w' := by
  obtain ⟨c, hc⟩ : ∃ c, (likelyF (p0 :: ps)).c = c := ⟨_, rfl⟩
  have e1 : likelyF (p0 :: ps) = ⟨c, (ps.foldl stepF ([], 0)).1, (ps.foldl stepF ([], 0)).2⟩ := by rw [← hc]; rfl
  have C1 : ∀ W : World, Calls Tryd.prog 37 #[.string p0, .string ⟨#[32]⟩] W fun e w' =>
      e = .returned (.tuple #[.string (ba (cutA p0.data.toList 32)), .string (ba (cutB p0.data.toList 32)), .bool (cutY p0.data.toList 32)]) ∧ Below W.heap.size W w' := fun W => cut18_any p0 32 W hp0
  have hl1 := cutB_len p0.data.toList 32
  rw [len_list] at hl1
  have C2 : ∀ W : World, Calls Tryd.prog 37 #[.string (ba (cutB p0.data.toList 32)), .string ⟨#[32]⟩] W fun e w' =>
      e = .returned (.tuple #[.string (ba (cutA (cutB p0.data.toList 32) 32)), .string (ba (cutB (cutB p0.data.toList 32) 32)), .bool (cutY (cutB p0.data.toList 32) 32)]) ∧ Below W.heap.size W w' := fun W => cut18_any (ba (cutB p0.data.toList 32)) 32 W (by rw [ba_size]; omega)
  have hl2 := cutA_len (cutB p0.data.toList 32) 32
  have C3 : ∀ W : World, Below w.heap.size w W → Calls Tryd.prog 38 #[.string (ba (cutA (cutB p0.data.toList 32) 32)), .int .i64 503] W fun e w' => e = .returned (.int .i64 c) ∧ Below W.heap.size W w' := by
    intro W hb
    have := number18 (ba (cutA (cutB p0.data.toList 32) 32)) 503 W (by rw [ba_size]; omega) (by decide) (hT.below hb)
    rw [list_ba, show numF (cutA (cutB p0.data.toList 32) 32) 503 = c from hc] at this
    exact this
  rw [e1]
  clear hc e1 hl1 hl2
  generalize ba (cutA (cutB p0.data.toList 32) 32) = s1 at *
  generalize ba (cutB (cutB p0.data.toList 32) 32) = s2 at *
  generalize cutY (cutB p0.data.toList 32) 32 = y2 at *
  generalize ba (cutB p0.data.toList 32) = s3 at *
  generalize ba (cutA p0.data.toList 32) = s4 at *
  generalize cutY p0.data.toList 32 = y1 at *
  have H := Lib.hid h
  have hbl := h.lt
  have hx : w.cell? ⟨b, 0, none⟩ = some (.string p0) := h.at 0 (by simp)
  have HX : RowKit.Hid (∀ W : World, Below w.heap.size w W → W.cell? ⟨b, 0, none⟩ = some (.string p0)) := fun W hb => (hb.cell (p := ⟨b, 0, none⟩) hbl).trans hx
  clear h hx
  by_cases hps0 : ps.length = 0
  · obtain rfl : ps = [] := List.eq_nil_of_length_eq_zero hps0
    go_enter Tryd.func21, Tryd.ntmps21
    obtain ⟨w1, hw1⟩ : ∃ w1, (w.alloc (.cells #[.int .i64 0, .string ⟨#[]⟩, .int .i64 0] 23)).alloc (.cells #[.int .i64 0, .string ⟨#[]⟩, .int .i64 0] 23) = w1 := ⟨_, rfl⟩
    have hb1 : Below w.heap.size w w1 := by rw [← hw1]; exact (Below.alloc_new _ _).alloc (by simp) _
    have hg1 : Cel w1 w.heap.size 23 #[.int .i64 0, .string ⟨#[]⟩, .int .i64 0] := by rw [← hw1]; exact (Cel.new _ _ _).alloc _
    have hq1 : Cel w1 (w.heap.size + 1) 23 #[.int .i64 0, .string ⟨#[]⟩, .int .i64 0] := by
      have := Cel.new (w.alloc (.cells #[.int .i64 0, .string ⟨#[]⟩, .int .i64 0] 23)) 23 #[.int .i64 0, .string ⟨#[]⟩, .int .i64 0]
      rw [hw1] at this
      simpa using this
    have hx1 := HX.out w1 hb1
    have H1 : RowKit.Hid (Below w.heap.size w w1 ∧ Cel w1 w.heap.size 23 #[.int .i64 0, .string ⟨#[]⟩, .int .i64 0] ∧ Cel w1 (w.heap.size + 1) 23 #[.int .i64 0, .string ⟨#[]⟩, .int .i64 0]) := ⟨hb1, hg1, hq1⟩
    clear hb1 hg1 hq1
    go_wp2_with (first
      | (go_at_call 37; ((with_reducible refine (C1 w1).mono ?_)); rintro e w2 ⟨rfl, b2⟩)
      | (go_at_call 37; ((with_reducible refine (C2 w2).mono ?_)); rintro e w3 ⟨rfl, b3⟩; have b23 := chain b2 b3)
      | (go_at_call 38; ((with_reducible refine (C3 _ (H1.out.1.trans (b23.mono H1.out.1.size))).mono ?_)); rintro e w4 ⟨rfl, b4⟩; have b24 := chain b23 b4; have hq4 := H1.out.2.2.below b24; have d0 : w4.cell? ⟨w.heap.size + 1, 0, none⟩ = some (.int .i64 0) := hq4.cell 0; have d1 : w4.frozen? ⟨w.heap.size + 1, 0, none⟩ = false := hq4.frozen 0; have HQ4 := Lib.hid hq4; clear hq4))
    have H4 : RowKit.Hid (Lk18 w b w.heap.size (w.heap.size + 1) p0 [] c ([], 0) (w4.setCell ⟨w.heap.size + 1, 0, none⟩ (.int .i64 c))) := by
      have bw4 := H1.out.1.trans (b24.mono H1.out.1.size)
      exact ⟨(H.out.below bw4).far (Nat.ne_of_lt (Nat.lt_succ_of_lt hbl)) _, (H1.out.2.1.below b24).far (by simp) _, HQ4.out.set_ 0 (.int .i64 c), bw4.setCell (by simp) _, Nat.ne_of_lt (Nat.lt_succ_of_lt hbl), by simp, by simp⟩
    clear H1 HQ4 d0 d1
    generalize w4.setCell ⟨w.heap.size + 1, 0, none⟩ (.int .i64 c) = w5 at H4 ⊢
    obtain ⟨g, hg⟩ : ∃ g, w.heap.size = g := ⟨_, rfl⟩
    have HL : RowKit.Hid (Lk18 w b g (g + 1) p0 [] c ([], 0) w5) := by rw [← hg]; exact H4.out
    clear H4
    rw [hg]
    go_loopw [36] (fun i wr => ∃ k : Nat, i = .int .i64 (k : Int) ∧ k = 0 ∧ RowKit.Hid (Lk18 w b g (g + 1) p0 [] c ([], 0) wr)) (fun i _ => 0)
    case atStart => exact ⟨0, rfl, rfl, HL⟩
    case round =>
      clear HL
      obtain ⟨k, rfl, rfl, H5⟩ := hrel
      have HQ : RowKit.Hid (Cel wr (g + 1) 23 (repC c (([] : List ByteArray).foldl stepF ([], 0)))) := H5.out.hq
      have HB : RowKit.Hid (Below w.heap.size w wr) := H5.out.hb
      have HR := Lib.hid H5.out.hr
      unfold repC at HQ
      have z0 : wr.cell? ⟨g + 1, 0, none⟩ = some (.int .i64 c) := HQ.out.cell 0
      have z1 : wr.cell? ⟨g + 1, 1, none⟩ = some (.string (ba (([] : List ByteArray).foldl stepF ([], 0)).1)) := HQ.out.cell 1
      have z2 : wr.cell? ⟨g + 1, 2, none⟩ = some (.int .i64 (([] : List ByteArray).foldl stepF ([], 0)).2) := HQ.out.cell 2
      have y0 : wr.cell? ⟨g, 0, none⟩ = some (.int .i64 0) := HR.out.cell 0
      have y1 : wr.cell? ⟨g, 1, none⟩ = some (.string ⟨#[]⟩) := HR.out.cell 1
      have y2 : wr.cell? ⟨g, 2, none⟩ = some (.int .i64 0) := HR.out.cell 2
      have f0 : wr.frozen? ⟨g, 0, none⟩ = false := HR.out.frozen 0
      have f1 : wr.frozen? ⟨g, 1, none⟩ = false := HR.out.frozen 1
      have f2 : wr.frozen? ⟨g, 2, none⟩ = false := HR.out.frozen 2
      clear H5 HQ
      go_wp2
      refine bodyPost_ret (results18_1 rfl rfl (run_loadVar_row _ g _ _ _ (0, 0) _ (((HR.out.set_ 0 _).set_ 1 _).set_ 2 _) Tryd.underlying23 rfl info_rep)) rfl ⟨rfl, ?_⟩
      have hge : w.heap.size ≤ g := Nat.le_of_eq hg
      exact ((HB.out.setCell (p := ⟨g, 0, none⟩) hge _).setCell (p := ⟨g, 1, none⟩) hge _).setCell (p := ⟨g, 2, none⟩) hge _
  · have hpos : 0 < ps.length := by omega
    have hpi : (0 : Int) < (ps.length : Int) := by omega
    go_enter Tryd.func21, Tryd.ntmps21
    obtain ⟨w1, hw1⟩ : ∃ w1, (w.alloc (.cells #[.int .i64 0, .string ⟨#[]⟩, .int .i64 0] 23)).alloc (.cells #[.int .i64 0, .string ⟨#[]⟩, .int .i64 0] 23) = w1 := ⟨_, rfl⟩
    have hb1 : Below w.heap.size w w1 := by rw [← hw1]; exact (Below.alloc_new _ _).alloc (by simp) _
    have hg1 : Cel w1 w.heap.size 23 #[.int .i64 0, .string ⟨#[]⟩, .int .i64 0] := by rw [← hw1]; exact (Cel.new _ _ _).alloc _
    have hq1 : Cel w1 (w.heap.size + 1) 23 #[.int .i64 0, .string ⟨#[]⟩, .int .i64 0] := by
      have := Cel.new (w.alloc (.cells #[.int .i64 0, .string ⟨#[]⟩, .int .i64 0] 23)) 23 #[.int .i64 0, .string ⟨#[]⟩, .int .i64 0]
      rw [hw1] at this
      simpa using this
    have hx1 := HX.out w1 hb1
    have H1 : RowKit.Hid (Below w.heap.size w w1 ∧ Cel w1 w.heap.size 23 #[.int .i64 0, .string ⟨#[]⟩, .int .i64 0] ∧ Cel w1 (w.heap.size + 1) 23 #[.int .i64 0, .string ⟨#[]⟩, .int .i64 0]) := ⟨hb1, hg1, hq1⟩
    clear hb1 hg1 hq1
    go_wp2_with (first
      | (go_at_call 37; ((with_reducible refine (C1 w1).mono ?_)); rintro e w2 ⟨rfl, b2⟩)
      | (go_at_call 37; ((with_reducible refine (C2 w2).mono ?_)); rintro e w3 ⟨rfl, b3⟩; have b23 := chain b2 b3)
      | (go_at_call 38; ((with_reducible refine (C3 _ (H1.out.1.trans (b23.mono H1.out.1.size))).mono ?_)); rintro e w4 ⟨rfl, b4⟩; have b24 := chain b23 b4; have hq4 := H1.out.2.2.below b24; have d0 : w4.cell? ⟨w.heap.size + 1, 0, none⟩ = some (.int .i64 0) := hq4.cell 0; have d1 : w4.frozen? ⟨w.heap.size + 1, 0, none⟩ = false := hq4.frozen 0; have HQ4 := Lib.hid hq4; clear hq4))
    have H4 : RowKit.Hid (Lk18 w b w.heap.size (w.heap.size + 1) p0 ps c ([], 0) (w4.setCell ⟨w.heap.size + 1, 0, none⟩ (.int .i64 c))) := by
      have bw4 := H1.out.1.trans (b24.mono H1.out.1.size)
      exact ⟨(H.out.below bw4).far (Nat.ne_of_lt (Nat.lt_succ_of_lt hbl)) _, (H1.out.2.1.below b24).far (by simp) _, HQ4.out.set_ 0 (.int .i64 c), bw4.setCell (by simp) _, Nat.ne_of_lt (Nat.lt_succ_of_lt hbl), by simp, by simp⟩
    clear H1 HQ4 d0 d1
    generalize w4.setCell ⟨w.heap.size + 1, 0, none⟩ (.int .i64 c) = w5 at H4 ⊢
    obtain ⟨g, hg⟩ : ∃ g, w.heap.size = g := ⟨_, rfl⟩
    have HL : RowKit.Hid (Lk18 w b g (g + 1) p0 ps c ([], 0) w5) := by rw [← hg]; exact H4.out
    clear H4
    rw [hg]
    go_loopw [11, 12, 13, 14, 15, 36] (fun _ _ _ _ _ i wr => ∃ k : Nat, i = .int .i64 (k : Int) ∧ k ≤ ps.length ∧ RowKit.Hid (Lk18 w b g (g + 1) p0 ps c ((ps.take k).foldl stepF ([], 0)) wr)) (fun _ _ _ _ _ i _ => ps.length - (intOf i).toNat)
    case atStart => exact ⟨0, rfl, by omega, HL⟩
    case round =>
      clear HL
      obtain ⟨k, rfl, hk, H5⟩ := hrel
      by_cases hlt : k < ps.length
      · have l1 : (k : Int) < (ps.length : Int) := by omega
        obtain ⟨l, hl⟩ : ∃ l, ps.getD k ⟨#[]⟩ = l := ⟨_, rfl⟩
        have hls : l.size ≤ 1000 := by rw [← hl]; exact hps k hlt
        have x0 : wr.cell? ⟨b, 1 + k, none⟩ = some (.string l) := by
          have := H5.out.hp.at (k + 1) (by simpa using hlt)
          rw [Nat.add_comm 1 k, this, ← hl]
          simp
        have hst := step_take ps k hlt
        rw [hl] at hst
        have HST := Lib.hid hst
        obtain ⟨p1, hp1⟩ : ∃ p1, Lib.hasPrefix l.data.toList name18 = p1 := ⟨_, rfl⟩
        obtain ⟨p2, hp2⟩ : ∃ p2, Lib.hasPrefix l.data.toList every18 = p2 := ⟨_, rfl⟩
        obtain ⟨t1, ht1⟩ : ∃ t1, Lib.trimPrefix l.data.toList name18 = t1 := ⟨_, rfl⟩
        obtain ⟨n2, hn2⟩ : ∃ n2, numF (Lib.trimPrefix l.data.toList every18) 65536 = n2 := ⟨_, rfl⟩
        have CP1 : ∀ W : World, Calls Tryd.prog 39 #[.string l, .string ⟨#[105, 99, 121, 45, 110, 97, 109, 101, 58]⟩] W fun e w' => e = .returned (.tuple #[.string (ba t1), .bool p1]) ∧ w' = W := by
          intro W
          rw [← hp1, ← ht1]
          exact Tryd.strings_CutPrefix l _ W
        have CP2 : ∀ W : World, Calls Tryd.prog 39 #[.string l, .string ⟨#[105, 99, 121, 45, 109, 101, 116, 97, 105, 110, 116, 58]⟩] W fun e w' => e = .returned (.tuple #[.string (ba (Lib.trimPrefix l.data.toList every18)), .bool p2]) ∧ w' = W := by
          intro W
          rw [← hp2]
          exact Tryd.strings_CutPrefix l _ W
        have CN : ∀ W : World, Below w.heap.size w W → Calls Tryd.prog 38 #[.string (ba (Lib.trimPrefix l.data.toList every18)), .int .i64 65536] W fun e w' => e = .returned (.int .i64 n2) ∧ Below W.heap.size W w' := by
          intro W hb
          rw [← hn2]
          refine number18 _ 65536 W ?_ (by decide) (hT.below hb)
          rw [ba_size]
          have := trimP_len l.data.toList every18
          rw [len_list] at this
          omega
        have hst2 : (ps.take (k + 1)).foldl stepF ([], 0) = (if p1 = true then t1 else ((ps.take k).foldl stepF ([], 0)).1, if p2 = true then n2 else ((ps.take k).foldl stepF ([], 0)).2) := by
          rw [hst]
          unfold stepF
          rw [hp1, hp2, ht1, hn2]
        have HST := Lib.hid hst2
        clear hst hst2 hl hp1 hp2 ht1 hn2
        generalize (ps.take k).foldl stepF ([], 0) = X0 at *
        generalize ba (Lib.trimPrefix l.data.toList every18) = T2 at *
        obtain ⟨c1, c2, c3, c4⟩ := H5.out.cells
        have HN1 : RowKit.Hid (∀ t, Lk18 w b g (g + 1) p0 ps c (t, X0.2) (wr.setCell ⟨g + 1, 1, none⟩ (.string (ba t)))) := fun t => H5.out.name t
        obtain ⟨TT, hTT⟩ : ∃ T, ba t1 = T := ⟨_, rfl⟩
        have HTT := Lib.hid hTT
        rw [hTT] at CP1
        clear hTT
        cases p1 with
        | false =>
          cases p2 with
          | false =>
            go_wp2_with (first
              | (go_at_call 39; ((with_reducible refine (CP1 _).mono ?_)); rintro e w6 ⟨rfl, rfl⟩)
              | (go_at_call 39; ((with_reducible refine (CP2 _).mono ?_)); rintro e w6 ⟨rfl, rfl⟩))
            go_roundw
            case rel => exact ⟨k + 1, by go_num, by omega, by rw [HST.out]; exact H5.out⟩
            case measure => simp [intOf] <;> omega
          | true =>
            go_wp2_with (first
              | (go_at_call 39; ((with_reducible refine (CP1 _).mono ?_)); rintro e w6 ⟨rfl, rfl⟩)
              | (go_at_call 39; ((with_reducible refine (CP2 _).mono ?_)); rintro e w6 ⟨rfl, rfl⟩)
              | (go_at_call 38; ((with_reducible refine (CN _ H5.out.hb).mono ?_)); rintro e w7 ⟨rfl, b7⟩; have H7 := Lib.hid (H5.out.below b7); have H8 := Lib.hid (H7.out.every n2); obtain ⟨d1, d2, d3, d4⟩ := H7.out.cells))
            go_roundw
            case rel => exact ⟨k + 1, by go_num, by omega, by rw [HST.out]; exact H8.out⟩
            case measure => simp [intOf] <;> omega
        | true =>
          cases p2 with
          | false =>
            have H6 : RowKit.Hid (Lk18 w b g (g + 1) p0 ps c (t1, X0.2) (wr.setCell ⟨g + 1, 1, none⟩ (.string TT))) := by rw [← HTT.out]; exact HN1.out t1
            go_wp2_with (first
              | (go_at_call 39; ((with_reducible refine (CP1 _).mono ?_)); rintro e w6 ⟨rfl, rfl⟩)
              | (go_at_call 39; ((with_reducible refine (CP2 _).mono ?_)); rintro e w6 ⟨rfl, rfl⟩))
            go_roundw
            case rel => exact ⟨k + 1, by go_num, by omega, by rw [HST.out]; exact H6.out⟩
            case measure => simp [intOf] <;> omega
          | true =>
            obtain ⟨W6, hW6⟩ : ∃ W6, wr.setCell ⟨g + 1, 1, none⟩ (.string TT) = W6 := ⟨_, rfl⟩
            have H6 : RowKit.Hid (Lk18 w b g (g + 1) p0 ps c (t1, X0.2) W6) := by rw [← hW6, ← HTT.out]; exact HN1.out t1
            go_wp2_with (first
              | (go_at_call 39; ((with_reducible refine (CP1 _).mono ?_)); rintro e w6 ⟨rfl, rfl⟩)
              | (go_at_call 39; ((with_reducible refine (CP2 _).mono ?_)); rintro e w6 ⟨rfl, rfl⟩)
              | (go_at_call 38; ((with_reducible refine (CN _ H6.out.hb).mono ?_)); rintro e w7 ⟨rfl, b7⟩; have H7 := Lib.hid (H6.out.below b7); have H8 := Lib.hid (H7.out.every n2); obtain ⟨d1, d2, d3, d4⟩ := H7.out.cells))
            go_roundw
            case rel => exact ⟨k + 1, by go_num, by omega, by rw [HST.out]; exact H8.out⟩
            case measure => simp [intOf] <;> omega
      · obtain rfl : k = ps.length := by omega
        have HQ : RowKit.Hid (Cel wr (g + 1) 23 (repC c (ps.foldl stepF ([], 0)))) := by
                  have := H5.out.hq
                  rw [List.take_length] at this
                  exact this
        have HB : RowKit.Hid (Below w.heap.size w wr) := H5.out.hb
        have HR := Lib.hid H5.out.hr
        unfold repC at HQ
        have z0 : wr.cell? ⟨g + 1, 0, none⟩ = some (.int .i64 c) := HQ.out.cell 0
        have z1 : wr.cell? ⟨g + 1, 1, none⟩ = some (.string (ba (ps.foldl stepF ([], 0)).1)) := HQ.out.cell 1
        have z2 : wr.cell? ⟨g + 1, 2, none⟩ = some (.int .i64 (ps.foldl stepF ([], 0)).2) := HQ.out.cell 2
        have y0 : wr.cell? ⟨g, 0, none⟩ = some (.int .i64 0) := HR.out.cell 0
        have y1 : wr.cell? ⟨g, 1, none⟩ = some (.string ⟨#[]⟩) := HR.out.cell 1
        have y2 : wr.cell? ⟨g, 2, none⟩ = some (.int .i64 0) := HR.out.cell 2
        have f0 : wr.frozen? ⟨g, 0, none⟩ = false := HR.out.frozen 0
        have f1 : wr.frozen? ⟨g, 1, none⟩ = false := HR.out.frozen 1
        have f2 : wr.frozen? ⟨g, 2, none⟩ = false := HR.out.frozen 2
        clear H5 HQ
        go_wp2
        refine bodyPost_ret (results18_1 rfl rfl (run_loadVar_row _ g _ _ _ (0, 0) _ (((HR.out.set_ 0 _).set_ 1 _).set_ 2 _) Tryd.underlying23 rfl info_rep)) rfl ⟨rfl, ?_⟩
        have hge : w.heap.size ≤ g := Nat.le_of_eq hg
        exact ((HB.out.setCell (p := ⟨g, 0, none⟩) hge _).setCell (p := ⟨g, 1, none⟩) hge _).setCell (p := ⟨g, 2, none⟩) hge _
end Go.Proofs.YtjhihjkhbmbigaaDoor
