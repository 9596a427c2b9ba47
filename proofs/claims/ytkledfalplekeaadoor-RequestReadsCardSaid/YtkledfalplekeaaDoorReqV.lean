/- What the functions of package request give: a first line. -/
import Derived.Test.YtkledfalplekeaaDoorReqU
import Derived.Deep.RegionHeld3
namespace Go.Proofs.YtkledfalplekeaaDoor
open Go.RowKit Go.PlainAid
set_option linter.unusedVariables false

/-! ### What a reader's block holds -/
def rdK (n : Nat) (v : Value) (m : Nat) (p : List UInt8) (i o : Bool) (q : List UInt8) (c : Nat) (d : Bool) (e : Nat) : Array Value :=
  #[.int .i64 (n : Int), v, .int .i64 (m : Int), .string (ba p), .bool i, .bool o, .string (ba q), .int .u64 (c : Int), .bool d, .int .i64 (e : Int)]
def cameN (a b : Bool) : Nat := (if a then 1 else 0) + (if b then 2 else 0)
def rdS (S : S17) (v : Value) : Array Value := rdK S.n v S.R.m S.R.path S.R.icy S.R.told S.R.pass (cameN S.a S.b) S.done S.err
def nilV : Value := .slice none 0 0
/-- Behind a call that takes a line. -/
def LineR (g : Nat) (o : Option S17) (w : World) (e : Ending) (w' : World) : Prop :=
  Keeps (· = g) w w' ∧ ((∃ U, o = some U ∧ e = .returned (.int .i64 0) ∧ Cel w' g 52 (rdS U nilV)) ∨
    (o = none ∧ e = .returned (.int .i64 3) ∧ ∃ cs, Cel w' g 52 cs ∧ cs.size = 10))
theorem LineR.no {g : Nat} {S : S17} {w W : World} {v : Value} (k : Keeps (· = g) w W) (h : Cel W g 52 (rdS S v)) : LineR g none w (.returned (.int .i64 3)) W := ⟨k, .inr ⟨rfl, rfl, _, h, rfl⟩⟩
theorem LineR.noC {g : Nat} {w W : World} {cs : Array Value} (k : Keeps (· = g) w W) (h : Cel W g 52 cs) (hs : cs.size = 10) : LineR g none w (.returned (.int .i64 3)) W := ⟨k, .inr ⟨rfl, rfl, _, h, hs⟩⟩
theorem LineR.yes {g : Nat} {U : S17} {w W : World} (k : Keeps (· = g) w W) (h : Cel W g 52 (rdS U nilV)) : LineR g (some U) w (.returned (.int .i64 0)) W := ⟨k, .inl ⟨_, rfl, rfl, h⟩⟩
theorem firstR {g : Nat} {S : S17} {w W : World} (k : Keeps (· = g) w W) (h : Cel W g 52 (rdS S nilV)) (m : Nat) (p : List UInt8) :
    LineR g (some { S with R := { S.R with m := m, path := p } }) w (.returned (.int .i64 0)) ((W.setCell ⟨g, 2, none⟩ (.int .i64 (m : Int))).setCell ⟨g, 3, none⟩ (.string (ba p))) :=
  .yes ((k.setCell (p := ⟨g, 2, none⟩) (.inl rfl) _).setCell (p := ⟨g, 3, none⟩) (.inl rfl) _) ((h.set_ 2 (.int .i64 (m : Int))).set_ 3 (.string (ba p)))
set_option maxHeartbeats 8000000 in
set_option maxRecDepth 100000 in
theorem takeFirst_any (g : Nat) (S : S17) (s : ByteArray) (w : World) (h : Cel w g 52 (rdS S nilV)) (hs : s.size ≤ 1000) :
    Calls Tryd.prog 30 #[.pointer (some ⟨g, 0, none⟩), .string s] w (LineR g ((firstF s.data.toList).map fun q => { S with R := { S.R with m := q.1, path := q.2 } }) w) := by
  have C1 := split_any s 32 w hs
  have HP := Lib.hid (pieces17 s 32)
  have hl1 := cutA_len s.data.toList 32
  have hlr := cutB_len s.data.toList 32
  have hl2 := cutA_len (cutB s.data.toList 32) 32
  have hl3 := cutB_len (cutB s.data.toList 32) 32
  rw [len_list] at hl1 hlr
  have HV := Lib.hid (ver_no_blank (cutB (cutB s.data.toList 32) 32))
  obtain ⟨F, hF⟩ : ∃ F, firstF s.data.toList = F := ⟨_, rfl⟩
  have HF : RowKit.Hid (firstF s.data.toList = F) := hF
  unfold firstF at hF
  rw [HF.out]
  clear HF
  have hS := h
  generalize (Lib.countB s ⟨#[32]⟩ + 1) = n at *
  generalize (Lib.splitB ⟨#[32]⟩ 0 (Lib.countB s ⟨#[32]⟩) s) = sp at *
  generalize (cutB (cutB s.data.toList 32) 32) = lc at *
  generalize (cutA (cutB s.data.toList 32) 32) = lb at *
  generalize cutY (cutB s.data.toList 32) 32 = q at *
  generalize cutY s.data.toList 32 = p at *
  generalize cutA s.data.toList 32 = la at *
  generalize cutB s.data.toList 32 = lr at *
  have H := Lib.hid h
  have HFF := Lib.hid hF
  clear h hF hS
  go_enter Tryd.func30, Tryd.ntmps30
  by_cases hn : n = 3
  · obtain ⟨rfl, rfl, hsp⟩ : p = true ∧ q = true ∧ sp.map Value.string = [.string (ba la), .string (ba lb), .string (ba lc)] := by
      rcases HP.out with ⟨_, h1, h2, h3⟩ | ⟨h1, _⟩
      · exact ⟨h1, h2, h3⟩
      · exact absurd hn h1
    subst hn
    rw [hsp] at C1
    obtain ⟨w1, hw1⟩ : ∃ w1, w.alloc (.cells #[.string (ba la), .string (ba lb), .string (ba lc)] 9) = w1 := ⟨_, rfl⟩
    have b1 : Below w.heap.size w w1 := by rw [← hw1]; exact Below.alloc_new _ _
    have hx0 : w1.cell? ⟨w.heap.size, 0, none⟩ = some (.string (ba la)) := by rw [← hw1]; exact cell_of_row _ _ 0 _ _ (0, 0) (heap_alloc_new w _)
    have hx1 : w1.cell? ⟨w.heap.size, 1, none⟩ = some (.string (ba lb)) := by rw [← hw1]; exact cell_of_row _ _ 1 _ _ (0, 0) (heap_alloc_new w _)
    have hx2 : w1.cell? ⟨w.heap.size, 2, none⟩ = some (.string (ba lc)) := by rw [← hw1]; exact cell_of_row _ _ 2 _ _ (0, 0) (heap_alloc_new w _)
    have hgs : w.heap.size < w1.heap.size := cell_block hx0
    have H1 : RowKit.Hid (Keeps (· = g) w w1 ∧ Cel w1 g 52 (rdS S nilV)) := ⟨.of_below b1, H.out.below b1⟩
    clear b1 H
    have hC1 : Calls Tryd.prog 33 #[.string s, .string ⟨#[32]⟩] w fun e w' => e = .returned (.slice (some ⟨w.heap.size, 0, none⟩) 3 3) ∧ w' = w1 := by
      refine C1.mono ?_
      rintro e w' ⟨he, hw⟩
      exact ⟨he, by rw [hw, ← hw1]⟩
    clear C1 hw1 hsp HP
    generalize w.heap.size = B at *
    have CM : ∀ W : World, Below w1.heap.size w1 W → Calls Tryd.prog 34 #[] W fun e w' => ∃ M : Nat, e = .returned (.map (some M)) ∧ RowKit.Hid (MapM w' M) ∧ Below W.heap.size W w' := by
      intro W _
      refine (methods_any W).mono ?_
      rintro e w' ⟨he, h1, h2⟩
      exact ⟨_, he, h1, h2⟩
    obtain ⟨μ, hμ⟩ : ∃ m, metF la = m := ⟨_, rfl⟩
    have HL : RowKit.Hid (∀ (W : World) (M : Nat), MapM W M → (Instr.lookup 66 (.map (some M)) (.string (ba la)) false).run Tryd.prog W = .ok (.int .i64 (μ : Int)) W) := by
      intro W M h
      have := MapM.look h (ba la) (by rw [ba_size]; omega)
      rw [list_ba, hμ] at this
      exact this
    have CP : ∀ W : World, Calls Tryd.prog 35 #[.int .i64 (μ : Int), .string (ba lb)] W fun e w' => e = .returned (.bool (pathF μ lb)) ∧ W = w' := fun W => isPath_any μ (ba lb) W (by rw [ba_size]; omega)
    have CV : ∀ W : World, Calls Tryd.prog 36 #[.string (ba lc)] W fun e w' => e = .returned (.bool (verF lc)) ∧ W = w' := fun W => isVersion_any (ba lc) W
    rw [hμ] at HFF
    generalize pathF μ lb = pb at *
    generalize verF lc = vb at *
    generalize ba la = xa at *
    obtain ⟨xb, hxb⟩ : ∃ x, ba lb = x := ⟨_, rfl⟩
    have HXB := Lib.hid hxb
    rw [hxb] at hx1 CP
    clear hxb
    generalize ba lc = xc at *
    have hF : (μ = 0 ∧ F = none) ∨ (¬ μ = 0 ∧ pb = false ∧ F = none) ∨ (¬ μ = 0 ∧ pb = true ∧ vb = false ∧ F = none) ∨ (¬ μ = 0 ∧ pb = true ∧ vb = true ∧ F = some (μ, lb)) := by
      have := HFF.out
      by_cases a : μ = 0
      · exact .inl ⟨a, by rw [← this]; cases vb <;> simp [a]⟩
      · cases pb with
        | false => exact .inr (.inl ⟨a, rfl, by rw [← this]; simp⟩)
        | true => cases vb with
          | false => exact .inr (.inr (.inl ⟨a, rfl, rfl, by rw [← this]; simp⟩))
          | true => exact .inr (.inr (.inr ⟨a, rfl, rfl, by rw [← this]; simp [a]⟩))
    clear HFF hμ
    have q0 : ¬ μ = 0 → ((μ : Int) == 0) = false := fun a => by
      have : ¬ (μ : Int) = 0 := by omega
      simpa using this
    rcases hF with ⟨rfl, rfl⟩ | ⟨h0, rfl, rfl⟩ | ⟨h0, rfl, rfl, rfl⟩ | ⟨h0, rfl, rfl, rfl⟩
    all_goals
      try (replace q0 := q0 h0; clear h0)
      go_wp2_with (go_at_call 33; refine hC1.mono ?_; rintro e w2 ⟨rfl, rfl⟩)
      go_region_held3 (fun w' => w'.cell? ⟨B, 0, none⟩ = some (.string xa) ∧ w'.cell? ⟨B, 1, none⟩ = some (.string xb) ∧ w'.cell? ⟨B, 2, none⟩ = some (.string xc)) (go_keep) (first
        | (go_at_call 34; refine (CM _ (Below.drewN' (Below.refl _ _) 1)).mono ?_; rintro e w3 ⟨M, rfl, hM, b3⟩; have hlk := HL.out w3 M hM.out; have hb3 : Below w2.heap.size w2 w3 := chain (Below.drewN' (Below.refl _ _) 1) b3; have m0 : w3.cell? ⟨B, 0, none⟩ = some (.string xa) := (hb3.cell (p := ⟨B, 0, none⟩) hgs).trans hx0; have m1 : w3.cell? ⟨B, 1, none⟩ = some (.string xb) := (hb3.cell (p := ⟨B, 1, none⟩) hgs).trans hx1; have m2 : w3.cell? ⟨B, 2, none⟩ = some (.string xc) := (hb3.cell (p := ⟨B, 2, none⟩) hgs).trans hx2; have H3 : RowKit.Hid (Keeps (· = g) w w3 ∧ Cel w3 g 52 (rdS S nilV)) := ⟨H1.out.1.then_ (G := fun _ => False) (.of_below hb3) (fun _ c => c.elim), H1.out.2.below hb3⟩))
      have c2 : w3.cell? ⟨g, 2, none⟩ = some (.int .i64 (S.R.m : Int)) := H3.out.2.cell 2
      have f2 : w3.frozen? ⟨g, 2, none⟩ = false := H3.out.2.frozen 2
      have c3 : w3.cell? ⟨g, 3, none⟩ = some (.string (ba S.R.path)) := H3.out.2.cell 3
      have f3 : w3.frozen? ⟨g, 3, none⟩ = false := H3.out.2.frozen 3
      go_wp2_with (first
        | (go_at_call 35; refine (CP _).mono ?_; rintro e w4 ⟨rfl, rfl⟩)
        | (go_at_call 36; refine (CV _).mono ?_; rintro e w4 ⟨rfl, rfl⟩))
      go_ret
      first
        | exact .no H3.out.1 H3.out.2
        | (have hy := firstR H3.out.1 H3.out.2 μ lb; rw [HXB.out] at hy; exact hy)
  · have hF : F = none := by
      rw [← HFF.out]
      rcases HP.out with ⟨h1, _⟩ | ⟨_, h⟩
      · exact absurd h1 hn
      · rcases h with h | h
        · rw [h]; rfl
        · rw [HV.out h]; cases (p && q) <;> rfl
    subst hF
    have hn3 : (((n : Nat) : Int) != 3) = true := by
      have : ¬ ((n : Nat) : Int) = 3 := by omega
      simpa using this
    have hn4 : (((n : Nat) : Int) == 3) = false := by
      have : ¬ ((n : Nat) : Int) = 3 := by omega
      simpa using this
    have CS : Calls Tryd.prog 33 #[.string s, .string ⟨#[32]⟩] w fun e w' => e = .returned (.slice (some ⟨w.heap.size, 0, none⟩) n n) ∧ Below w.heap.size w w' := by
      refine C1.mono ?_
      rintro e w' ⟨he, rfl⟩
      exact ⟨he, Below.alloc_new _ _⟩
    clear C1 HFF HP hn
    go_wp2_with (go_at_call 33; refine CS.mono ?_; rintro e w2 ⟨rfl, b2⟩)
    go_ret
    exact .no (.of_below b2) (H.out.below b2)
end Go.Proofs.YtkledfalplekeaaDoor
