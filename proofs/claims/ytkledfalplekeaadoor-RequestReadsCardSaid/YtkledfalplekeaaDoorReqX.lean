/- What the functions of package request give: lines, bytes, requests. -/
import Derived.Test.YtkledfalplekeaaDoorReqW
import Derived.BigRegion
namespace Go.Proofs.YtkledfalplekeaaDoor
open Go.RowKit Go.PlainAid
set_option linter.unusedVariables false

theorem info_u817 : (Tryd.prog.info? 5).map (fun i => (i.zero, i.size, i.bytes)) = some (some (.int .u8 0), 1, 1) := by kernel_rfl
set_option maxHeartbeats 4000000 in
theorem takeLine_any (B g : Nat) (S : S17) (s : ByteArray) (w : World) (h : Cel w g 52 (rdS S nilV)) (he : S.err = 0) (hT : TabB B w) (hg : B ≤ g) (hs : s.size ≤ 1000) :
    Calls Tryd.prog 25 #[.pointer (some ⟨g, 0, none⟩), .string s] w (LineR g (lineF S s.data.toList) w) := by
  have CX := takeFirst_any g S s w h hs
  have CY := takeHeader_any B g S s w h hT hg hs
  have hem : s.toList.isEmpty = s.data.toList.isEmpty := by rw [ByteArray.toList_eq]
  generalize s.data.toList = L at *
  have c8 : w.cell? ⟨g, 8, none⟩ = some (.bool S.done) := h.cell 8
  have f8 : w.frozen? ⟨g, 8, none⟩ = false := h.frozen 8
  by_cases hm : S.R.m = 0
  · have c2 : w.cell? ⟨g, 2, none⟩ = some (.int .i64 0) := by rw [h.cell 2]; show some (Value.int .i64 (S.R.m : Int)) = _; rw [hm]; rfl
    have e : lineF S L = (firstF L).map fun q => { S with R := { S.R with m := q.1, path := q.2 } } := by unfold lineF; rw [if_pos hm]
    rw [e]
    clear hem CY hm e
    go_enter Tryd.func25, Tryd.ntmps25
    go_wp2_with (go_at_call 30; refine CX.mono ?_; rintro e w1 hp; obtain ⟨x, hx⟩ : ∃ x, e = .returned (.int .i64 x) := (by rcases hp.2 with ⟨_, _, h, _⟩ | ⟨_, h, _⟩; exact ⟨_, h⟩; exact ⟨_, h⟩); subst hx)
    go_ret
    exact hp
  · obtain ⟨m, hmm⟩ : ∃ m, S.R.m = m := ⟨_, rfl⟩
    have c2 : w.cell? ⟨g, 2, none⟩ = some (.int .i64 (m : Int)) := by rw [h.cell 2, ← hmm]; rfl
    have q0 : ((m : Int) == 0) = false := by
      have : ¬ (m : Int) = 0 := by omega
      simpa using this
    by_cases hL : L = []
    · have e : lineF S L = some { S with done := true } := by unfold lineF; rw [if_neg hm, if_pos hL]
      rw [e]
      rw [show L.isEmpty = true by rw [hL]; rfl] at hem
      have HY : RowKit.Hid (LineR g (some { S with done := true }) w (.returned (.int .i64 0)) (w.setCell ⟨g, 8, none⟩ (.bool true))) :=
        .yes (Keeps.setCell (F := (· = g)) (p := ⟨g, 8, none⟩) (Keeps.refl _ _) (.inl rfl) _) (h.set_ 8 (.bool true))
      clear CX CY hm e hmm
      go_enter Tryd.func25, Tryd.ntmps25
      go_wp2
      go_ret
      exact HY.out
    · have e : lineF S L = headF S L := by unfold lineF; rw [if_neg hm, if_neg hL]
      rw [e]
      rw [show L.isEmpty = false by cases L; exact absurd rfl hL; rfl] at hem
      clear CX hm e hmm
      go_enter Tryd.func25, Tryd.ntmps25
      go_wp2_with (go_at_call 31; refine CY.mono ?_; rintro e w1 hp; obtain ⟨x, hx⟩ : ∃ x, e = .returned (.int .i64 x) := (by rcases hp.2 with ⟨_, _, h, _⟩ | ⟨_, h, _⟩; exact ⟨_, h⟩; exact ⟨_, h⟩); subst hx)
      go_ret
      exact hp

/-! ### A reader -/
def TypAt (w : World) (j : Nat) (t : TypeId) : Prop := ∃ cs fr, w.heap[j]? = some (.cells cs t fr)
theorem Cel.typ17 {w : World} {g : Nat} {t : TypeId} {cs : Array Value} (h : Cel w g t cs) : TypAt w g t := ⟨_, _, h⟩
theorem TypAt.ne17 {w : World} {i j : Nat} {t u : TypeId} (h : TypAt w i t) (k : TypAt w j u) (n : t ≠ u) : i ≠ j := by
  rintro rfl
  obtain ⟨cs, fr, h⟩ := h
  obtain ⟨cs', fr', k⟩ := k
  rw [h] at k
  injection k with k
  injection k with _ k
  exact n k
theorem own_typ {w : World} {base e size n : Nat} {v : Value} {xs : List Value} (h : w.ownsRow base e size v n xs) (k : Nat) (hk : v.ownBlock = some k) : base ≤ k ∧ TypAt w k e := by
  rcases h.2 with ⟨rfl, _⟩ | ⟨g', cap, cur, rfl, hb, hh, _⟩
  · simp [Value.ownBlock] at hk
  · simp [Value.ownBlock] at hk
    subst hk
    exact ⟨hb, _, _, hh⟩
theorem own_set {w : World} {base e size n g i : Nat} {v u : Value} {xs : List Value} (h : w.ownsRow base e size v n xs) (hne : ∀ k, v.ownBlock = some k → k ≠ g) : (w.setCell ⟨g, i, none⟩ u).ownsRow base e size v n xs := by
  refine ⟨h.1, ?_⟩
  rcases h.2 with h0 | ⟨g', cap, cur, h1, h2, h3, h4⟩
  · exact .inl h0
  · exact .inr ⟨g', cap, cur, h1, h2, (Below.heap_setCell w ⟨g, i, none⟩ u g' (hne g' (by rw [h1]; rfl))).trans h3, h4⟩
theorem own_keeps17 {w w' : World} {F : Nat → Prop} {base e size n : Nat} {v : Value} {xs : List Value} (h : w.ownsRow base e size v n xs) (k : Keeps F w w') (hne : ∀ k, v.ownBlock = some k → ¬ F k) : w'.ownsRow base e size v n xs := by
  refine ⟨h.1, ?_⟩
  rcases h.2 with h0 | ⟨g', cap, cur, h1, h2, h3, h4⟩
  · exact .inl h0
  · have hl := own_lt h g' (by rw [h1]; rfl)
    exact .inr ⟨g', cap, cur, h1, h2, (k.block g' hl (hne g' (by rw [h1]; rfl))).trans h3, h4⟩
/-- What a reader may write. -/
def RqF (w : World) (base g j : Nat) : Prop := j = g ∨ (base ≤ j ∧ TypAt w j 5)
def rdE (e : Nat) : Array Value := rdK 0 nilV 0 [] false false [] 0 false e
/-- Block g is a reader that stands at S. -/
structure RqAt (w : World) (base g : Nat) (S : S17) : Prop where
  b : base ≤ g
  ok : S.err = 0 → ∃ v, Cel w g 52 (rdS S v) ∧ w.ownsRow base 5 1 v S.line.length ((bz S.line).map (Value.int .u8))
  no : S.err ≠ 0 → S.done = false ∧ Cel w g 52 (rdE S.err)
theorem RqAt.typ {w : World} {base g : Nat} {S : S17} (h : RqAt w base g S) : TypAt w g 52 := by
  by_cases e : S.err = 0
  · obtain ⟨v, h1, _⟩ := h.ok e
    exact h1.typ17
  · exact (h.no e).2.typ17
theorem RqAt.keeps {w w' : World} {base g : Nat} {S : S17} {F : Nat → Prop} (h : RqAt w base g S) (k : Keeps F w w') (hF : ∀ j, F j → ∃ t, TypAt w j t ∧ t ≠ 52 ∧ t ≠ 5) : RqAt w' base g S := by
  have ng : ¬ F g := fun c => by
    obtain ⟨t, h1, h2, _⟩ := hF g c
    exact h1.ne17 h.typ h2 rfl
  refine ⟨h.b, fun e => ?_, fun e => ⟨(h.no e).1, (h.no e).2.keeps k ng⟩⟩
  obtain ⟨v, h1, h2⟩ := h.ok e
  refine ⟨v, h1.keeps k ng, own_keeps17 h2 k fun j hj c => ?_⟩
  obtain ⟨t, h3, _, h4⟩ := hF j c
  exact h3.ne17 (own_typ h2 j hj).2 h4 rfl
theorem RqAt.below {w w' : World} {base g : Nat} {S : S17} (h : RqAt w base g S) (b : Below w.heap.size w w') : RqAt w' base g S := h.keeps (F := fun _ => False) (.of_below b) (fun _ c => c.elim)
theorem RqAt.start {w : World} {base g : Nat} (h : Cel w g 52 (rdS s17Zero nilV)) (b : base ≤ g) : RqAt w base g s17Zero :=
  ⟨b, fun _ => ⟨nilV, h, World.ownsRow_nil _ _ _ _⟩, fun e => absurd rfl e⟩
set_option maxHeartbeats 2000000 in
theorem new_any (w : World) : Calls Tryd.prog 7 #[] w fun e w' => e = .returned (.pointer (some ⟨w.heap.size, 0, none⟩)) ∧ Cel w' w.heap.size 52 (rdS s17Zero nilV) ∧ Below w.heap.size w w' := by
  have HC : RowKit.Hid (Cel (w.alloc (.cells #[.int .i64 0, .slice none 0 0, .int .i64 0, .string ⟨#[]⟩, .bool false, .bool false, .string ⟨#[]⟩, .int .u64 0, .bool false, .int .i64 0] 52)) w.heap.size 52 (rdS s17Zero nilV)) := Cel.new w _ _
  have HB := Lib.hid (Below.alloc_new w (.cells #[.int .i64 0, .slice none 0 0, .int .i64 0, .string ⟨#[]⟩, .bool false, .bool false, .string ⟨#[]⟩, .int .u64 0, .bool false, .int .i64 0] 52))
  go_enter Tryd.func7, Tryd.ntmps7
  go_wp2
  go_ret
  exact ⟨rfl, HC.out, HB.out⟩
/-- What a byte's taking leaves. -/
def TakeR (base g : Nat) (T : S17) (w : World) (e : Ending) (w' : World) : Prop :=
  e = .returned (.int .i64 (T.err : Int)) ∧ Keeps (RqF w base g) w w' ∧ (T.err = 0 → RqAt w' base g T) ∧ (T.err ≠ 0 → ∃ cs, Cel w' g 52 cs ∧ cs.size = 10)
theorem keeps_g {w w' : World} {base g : Nat} (k : Keeps (· = g) w w') : Keeps (RqF w base g) w w' := k.mono fun j hj => .inl hj
set_option maxHeartbeats 16000000 in
set_option maxRecDepth 100000 in
theorem take_any (base g : Nat) (S : S17) (c : UInt8) (w : World) (h : RqAt w base g S) (he : S.err = 0) (hd : S.done = false) (hS : S.Ok) (hT : TabB base w) :
    Calls Tryd.prog 16 #[.pointer (some ⟨g, 0, none⟩), .int .u8 (c.toNat : Int)] w (TakeR base g (S.feed c) w) := by
  obtain ⟨v, hc, ho⟩ := h.ok he
  have hbg := h.b
  obtain ⟨o1, o2⟩ := hS
  obtain ⟨a, cp, rfl⟩ := own_form ho
  obtain ⟨z, hz⟩ : ∃ z : Int, (S.n : Int) = z := ⟨_, rfl⟩
  have c0 : w.cell? ⟨g, 0, none⟩ = some (.int .i64 z) := by rw [← hz]; exact hc.cell 0
  have f0 : w.frozen? ⟨g, 0, none⟩ = false := hc.frozen 0
  have hne : ∀ k, (Value.slice a S.line.length cp).ownBlock = some k → k ≠ g := fun k hk => own_ne_cel ho hc (by decide) k hk
  have hc1 : Cel (w.setCell ⟨g, 0, none⟩ (.int .i64 (z + 1))) g 52 (rdS { S with n := S.n + 1 } (.slice a S.line.length cp)) := by rw [← hz]; exact hc.set_ 0 _
  have ho1 := own_set (g := g) (i := 0) (u := .int .i64 (z + 1)) ho hne
  have k1 : Keeps (· = g) w (w.setCell ⟨g, 0, none⟩ (.int .i64 (z + 1))) := Keeps.setCell (F := (· = g)) (p := ⟨g, 0, none⟩) (Keeps.refl _ _) (.inl rfl) _
  obtain ⟨w1, hw1⟩ : ∃ w1, w.setCell ⟨g, 0, none⟩ (.int .i64 (z + 1)) = w1 := ⟨_, rfl⟩
  rw [hw1] at hc1 k1 ho1
  have c11 : w1.cell? ⟨g, 1, none⟩ = some (.slice a S.line.length cp) := hc1.cell 1
  have f11 : w1.frozen? ⟨g, 1, none⟩ = false := hc1.frozen 1
  have HC1 := Lib.hid hc1
  have HO1 := Lib.hid ho1
  have HK1 := Lib.hid k1
  have HN1 := Lib.hid hne
  have HT1 := Lib.hid (hT.keeps k1 (fun j hj => by subst hj; exact hbg))
  have HBG := Lib.hid hbg
  have HC0 := Lib.hid hc
  have HO0 := Lib.hid (own_typ ho)
  clear hc hc1 k1 h ho ho1 hne hT hbg
  obtain ⟨F, hF⟩ : ∃ F, S.feed c = F := ⟨_, rfl⟩
  have HF : RowKit.Hid (S.feed c = F) := hF
  rw [hF]
  clear hF
  obtain ⟨k, hk⟩ : ∃ k : Nat, c.toNat = k := ⟨_, rfl⟩
  rw [hk]
  have hz0 : 0 ≤ z ∧ z ≤ 600 := by omega
  obtain ⟨z0, z1⟩ := hz0
  go_enter Tryd.func16, Tryd.ntmps16
  by_cases hl : S.n = 600
  · have hFe : F = { S with err := 5 } := by rw [← HF.out]; unfold S17.feed; rw [if_pos hl]
    have hz6 : z = 600 := by omega
    subst hFe
    subst hz6
    clear hl hz HF
    go_wp2
    go_ret
    exact ⟨rfl, Keeps.refl _ _, fun e => absurd e (show ¬ (5 : Nat) = 0 by decide), fun _ => ⟨_, HC0.out, rfl⟩⟩
  · have q6 : (z == 600) = false := by
      have : ¬ z = 600 := by omega
      simpa using this
    by_cases h10 : k = 10
    · have hFe : F = (lineF { S with n := S.n + 1, line := [] } (stripF S.line)).getD { S with err := 3 } := by
        rw [← HF.out]
        unfold S17.feed
        have : c = 10 := UInt8.toNat_inj.1 (by rw [hk, h10]; rfl)
        rw [if_neg hl, if_pos this]
      have HFe := Lib.hid hFe
      clear hFe HF
      subst h10
      have cv := conv17 w1 w1 _ a S.line.length cp S.line (own_ints' HO1.out) (Below.refl _ _)
      have CS := strip_any (ba S.line) w1 (by rw [ba_size]; omega)
      rw [list_ba] at CS
      have hsl : (stripF S.line).length ≤ 600 := by
        unfold stripF
        split
        · rw [List.length_dropLast]; omega
        · omega
      have hc2 : Cel (w1.setCell ⟨g, 1, none⟩ (.slice none 0 0)) g 52 (rdS { S with n := S.n + 1, line := [] } nilV) := HC1.out.set_ 1 _
      have k2 : Keeps (· = g) w (w1.setCell ⟨g, 1, none⟩ (.slice none 0 0)) := HK1.out.setCell (p := ⟨g, 1, none⟩) (.inl rfl) _
      have t2 : TabB base (w1.setCell ⟨g, 1, none⟩ (.slice none 0 0)) := HT1.out.keeps (F := (· = g)) (Keeps.setCell (F := (· = g)) (p := ⟨g, 1, none⟩) (Keeps.refl _ _) (.inl rfl) _) (fun j hj => by subst hj; exact HBG.out)
      obtain ⟨w2, hw2⟩ : ∃ w2, w1.setCell ⟨g, 1, none⟩ (.slice none 0 0) = w2 := ⟨_, rfl⟩
      rw [hw2] at hc2 k2 t2
      have CL := takeLine_any base g { S with n := S.n + 1, line := [] } (ba (stripF S.line)) w2 hc2 he t2 HBG.out (by rw [ba_size]; omega)
      rw [list_ba] at CL
      have HK2 := Lib.hid k2
      obtain ⟨xl, hxl⟩ : ∃ x, ba S.line = x := ⟨_, rfl⟩
      obtain ⟨xs, hxs⟩ : ∃ x, ba (stripF S.line) = x := ⟨_, rfl⟩
      rw [hxl] at cv CS
      rw [hxs] at CS CL
      clear hc2 k2 t2 hxl hxs hsl hl hz hk
      go_wp2_with (first
        | (go_at_call 24; refine CS.mono ?_; rintro e w4 ⟨rfl, rfl⟩)
        | (go_at_call 25; refine CL.mono ?_; rintro e w5 hp; obtain ⟨x, hx⟩ : ∃ x, e = .returned (.int .i64 x) := (by rcases hp.2 with ⟨_, _, h, _⟩ | ⟨_, h, _⟩; exact ⟨_, h⟩; exact ⟨_, h⟩); subst hx))
      go_ret
      obtain ⟨k5, hp⟩ := hp
      have k6 := keeps_g (base := base) (HK2.out.trans k5)
      rcases hp with ⟨U, h1, h2, h3⟩ | ⟨h1, h2, cs, h3, h4⟩
      · have hU := lineF_keeps h1
        have e : F = U := by rw [HFe.out, h1]; rfl
        rw [e]
        have e0 : U.err = 0 := hU.1.trans he
        refine ⟨by rw [e0]; exact h2, k6, fun _ => ⟨HBG.out, fun _ => ⟨nilV, h3, ?_⟩, fun e => absurd e0 e⟩, fun e => absurd e0 e⟩
        rw [show U.line = [] from hU.2.1]
        exact World.ownsRow_nil _ _ _ _
      · have e : F = { S with err := 3 } := by rw [HFe.out, h1]; rfl
        rw [e]
        exact ⟨h2, k6, fun e => absurd e (show ¬ (3 : Nat) = 0 by decide), fun _ => ⟨cs, h3, h4⟩⟩
    · have hq : ((k : Int) == 10) = false := by
        have : ¬ (k : Int) = 10 := by omega
        simpa using this
      have hFe : F = { S with n := S.n + 1, line := S.line ++ [c] } := by
        rw [← HF.out]
        unfold S17.feed
        have : ¬ c = 10 := fun e => h10 (by rw [← hk, e]; rfl)
        rw [if_neg hl, if_neg this]
      subst hFe
      have hsrc : RowKit.Hid (IntsAt (w1.alloc (.cells #[.int .u8 (k : Int)] 5)) (w1.alloc (.cells #[.int .u8 (k : Int)] 5)).heap.size .u8 (some ⟨w1.heap.size, 0, none⟩) 1 [(k : Int)]) := lit_ints w1 5 .u8 [(k : Int)] _ (0, 0) rfl (by simp)
      have hb2 := Below.alloc_new w1 (.cells #[.int .u8 (k : Int)] 5)
      have HO2 := Lib.hid (own_below HO1.out hb2)
      have HC2 := Lib.hid (HC1.out.below hb2)
      have HK2 := Lib.hid (HK1.out.then_ (G := fun _ => False) (.of_below hb2) (fun _ c => c.elim))
      have hbs : base ≤ (w1.alloc (.cells #[.int .u8 (k : Int)] 5)).heap.size := by
        have := HC2.out.lt
        have := HBG.out
        omega
      have hbzk : RowKit.Hid (bz S.line ++ [(k : Int)] = bz (S.line ++ [c])) := by show _ = _; rw [bz_snoc, hk]
      obtain ⟨n, hn⟩ : ∃ n, S.line.length = n := ⟨_, rfl⟩
      have hn6 : n ≤ 600 := by omega
      rw [hn] at HO1 HO2 HC1 HC2 c11 HN1 HO0
      clear hb2 h10 hl hz HF hk
      go_wp2_with (at_builtin; go_loud (refine append_ints rfl _ _ 48 rfl base 5 .u8 1 Tryd.underlying48 info_u817 _ n (bz S.line) rfl HO2.out (some ⟨w1.heap.size, 0, none⟩) 1 1 _ [(k : Int)] rfl hsrc.out (by simp) (by unfold maxLen; omega) (by omega) (by omega) ?_); intro v2 w3 hown hgrow hloc; have HG3 : RowKit.Hid ((w1.alloc (.cells #[.int .u8 (k : Int)] 5)).grownBy w3 (Value.slice a n cp).ownBlock) := hgrow; clear hgrow hloc; obtain ⟨a2, cp2, rfl⟩ := own_form hown; have HO3 := Lib.hid hown; clear hown; have HK3 : RowKit.Hid (Keeps (fun j => (Value.slice a n cp).ownBlock = some j) (w1.alloc (.cells #[.int .u8 (k : Int)] 5)) w3) := Keeps.of_grown HG3.out (fun k e => e); have HC3 := Lib.hid (HC2.out.keeps HK3.out (fun c => HN1.out g c rfl)); have c31 : w3.cell? ⟨g, 1, none⟩ = some (.slice a n cp) := HC3.out.cell 1; have f31 : w3.frozen? ⟨g, 1, none⟩ = false := HC3.out.frozen 1)
      go_ret
      have hown := HO3.out
      rw [hbzk.out] at hown
      refine ⟨by rw [show ({ S with n := S.n + 1, line := S.line ++ [c] } : S17).err = 0 from he]; rfl, ?_, fun _ => ⟨HBG.out, fun _ => ⟨.slice a2 (n + 1) cp2, HC3.out.set_ 1 _, ?_⟩, fun e => absurd he e⟩, fun e => absurd he e⟩
      · have k3 : Keeps (RqF w base g) w w3 := (keeps_g HK2.out).then_ HK3.out fun j hj => .inl (.inr (HO0.out j hj))
        exact k3.setCell (p := ⟨g, 1, none⟩) (.inl (.inl rfl)) _
      · have hl : (S.line ++ [c]).length = n + 1 := by rw [List.length_append, hn]; rfl
        show (w3.setCell ⟨g, 1, none⟩ (.slice a2 (n + 1) cp2)).ownsRow base 5 1 (.slice a2 (n + 1) cp2) (S.line ++ [c]).length _
        rw [hl]
        exact own_set hown (fun k hk => own_ne_cel hown HC3.out (by decide) k hk)
end Go.Proofs.YtkledfalplekeaaDoor
