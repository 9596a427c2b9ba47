/- What the functions of package request give: a header. -/
import Derived.Test.YtkledfalplekeaaDoorReqV
import Derived.Laws.BitsAllLaws
namespace Go.Proofs.YtkledfalplekeaaDoor
open Go.RowKit Go.PlainAid
set_option linter.unusedVariables false

/-- The tables of runes lie where they lay, below all that is made. -/
def TabB (B : Nat) (w : World) : Prop := Lib.Utf8Tabs 1 2 w ∧ 1 < B ∧ 2 < B
theorem cell_same {w w' : World} {p : Addr} (h : w'.heap[p.block]? = w.heap[p.block]?) : w'.cell? p = w.cell? p := by
  unfold World.cell?
  rw [h]
theorem TabB.keeps {B : Nat} {w w' : World} {F : Nat → Prop} (h : TabB B w) (k : Keeps F w w') (hF : ∀ j, F j → B ≤ j) : TabB B w' := by
  obtain ⟨⟨h1, h2⟩, h3, h4⟩ := h
  have key : ∀ (p : Addr) (v : Value), (p.block = 1 ∨ p.block = 2) → w.cell? p = some v → w'.cell? p = some v := by
    intro p v hp hc
    rw [cell_same (k.block p.block (cell_block hc) fun c => by have := hF _ c; rcases hp with hp | hp <;> omega)]
    exact hc
  exact ⟨⟨fun c hc => key _ _ (.inl rfl) (h1 c hc), fun i hi => ⟨key _ _ (.inr rfl) (h2 i hi).1, key _ _ (.inr rfl) (h2 i hi).2⟩⟩, h3, h4⟩
theorem TabB.below {B : Nat} {w w' : World} (h : TabB B w) (b : Below w.heap.size w w') : TabB B w' := h.keeps (F := fun _ => False) (.of_below b) (fun _ c => c.elim)
theorem TabB.start {w : World} (h : Lib.Utf8Tabs 1 2 w) : TabB w.heap.size w :=
  ⟨h, cell_block (h.1 0 (by decide)), cell_block (h.2 0 (by decide)).1⟩
/-- A header came. -/
theorem came17 {g : Nat} {S : S17} {w W : World} (k : Keeps (· = g) w W) (h : Cel W g 52 (rdS S nilV)) (x : Nat) :
    Keeps (· = g) w (W.setCell ⟨g, 7, none⟩ (.int .u64 (x : Int))) ∧ Cel (W.setCell ⟨g, 7, none⟩ (.int .u64 (x : Int))) g 52 (rdK S.n nilV S.R.m S.R.path S.R.icy S.R.told S.R.pass x S.done S.err) :=
  ⟨k.setCell (p := ⟨g, 7, none⟩) (.inl rfl) _, h.set_ 7 _⟩
theorem icyR {g : Nat} {S : S17} {w W : World} (x y : Bool) (h : Keeps (· = g) w W ∧ Cel W g 52 (rdK S.n nilV S.R.m S.R.path S.R.icy S.R.told S.R.pass (cameN true S.b) S.done S.err)) :
    LineR g (some { S with a := true, R := { S.R with icy := x } }) w (.returned (.int .i64 0)) (W.setCell ⟨g, 4, none⟩ (.bool x)) :=
  .yes (h.1.setCell (p := ⟨g, 4, none⟩) (.inl rfl) _) (h.2.set_ 4 (.bool x))
theorem passR {g : Nat} {S : S17} {w W : World} (p : List UInt8) (h : Keeps (· = g) w W ∧ Cel W g 52 (rdK S.n nilV S.R.m S.R.path S.R.icy S.R.told S.R.pass (cameN S.a true) S.done S.err)) :
    LineR g (some { S with b := true, R := { S.R with told := true, pass := p } }) w (.returned (.int .i64 0)) ((W.setCell ⟨g, 6, none⟩ (.string (ba p))).setCell ⟨g, 5, none⟩ (.bool true)) :=
  .yes ((h.1.setCell (p := ⟨g, 6, none⟩) (.inl rfl) _).setCell (p := ⟨g, 5, none⟩) (.inl rfl) _) ((h.2.set_ 6 (.string (ba p))).set_ 5 (.bool true))
theorem passN {g : Nat} {S : S17} {w W : World} {c : Nat} (x : ByteArray) (h : Keeps (· = g) w W ∧ Cel W g 52 (rdK S.n nilV S.R.m S.R.path S.R.icy S.R.told S.R.pass c S.done S.err)) :
    LineR g none w (.returned (.int .i64 3)) ((W.setCell ⟨g, 6, none⟩ (.string x)).setCell ⟨g, 5, none⟩ (.bool false)) :=
  .noC ((h.1.setCell (p := ⟨g, 6, none⟩) (.inl rfl) _).setCell (p := ⟨g, 5, none⟩) (.inl rfl) _) ((h.2.set_ 6 (.string x)).set_ 5 (.bool false)) rfl
theorem and17 (a b : Bool) : bits .and .u64 (cameN a b : Int) 1 = (if a then 1 else 0) ∧ bits .and .u64 (cameN a b : Int) 2 = (if b then 2 else 0) ∧ bits .and .u64 (cameN a b : Int) 0 = 0 := by cases a <;> cases b <;> decide
theorem or17 (a b : Bool) : bits .or .u64 (cameN a b : Int) 1 = (cameN true b : Int) ∧ bits .or .u64 (cameN a b : Int) 2 = (cameN a true : Int) ∧ bits .or .u64 (cameN a b : Int) 0 = (cameN a b : Int) := by cases a <;> cases b <;> decide
theorem kind17 (l : List UInt8) : kindF l = 0 ∨ kindF l = 1 ∨ kindF l = 2 := by
  unfold kindF
  split
  · exact .inr (.inl rfl)
  · split
    · exact .inr (.inr rfl)
    · exact .inl rfl
set_option maxHeartbeats 16000000 in
set_option maxRecDepth 100000 in
theorem takeHeader_any (B g : Nat) (S : S17) (s : ByteArray) (w : World) (h : Cel w g 52 (rdS S nilV)) (hT : TabB B w) (hg : B ≤ g) (hs : s.size ≤ 1000) :
    Calls Tryd.prog 31 #[.pointer (some ⟨g, 0, none⟩), .string s] w (LineR g (headF S s.data.toList) w) := by
  have C1 := cut_any s 58 w hs
  have hla := cutA_len s.data.toList 58
  have hlb := cutB_len s.data.toList 58
  rw [len_list] at hla hlb
  obtain ⟨F, hF⟩ : ∃ F, headF S s.data.toList = F := ⟨_, rfl⟩
  rw [hF]
  unfold headF at hF
  generalize cutA s.data.toList 58 = la at *
  generalize cutB s.data.toList 58 = lb at *
  generalize cutY s.data.toList 58 = p at *
  have hlv := trimF_len lb
  have CN : ∀ W, Calls Tryd.prog 38 #[.string (ba la)] W fun e w' => e = .returned (.bool (nameF la)) ∧ W = w' := fun W => name_any (ba la) W (by rw [ba_size]; omega)
  have CT : ∀ W, Calls Tryd.prog 41 #[.string (ba lb), .string ⟨#[32, 9]⟩] W fun e w' => e = .returned (.string (ba (trimF lb))) ∧ Below W.heap.size W w' := fun W => trim_any (ba lb) W (by rw [ba_size]; omega)
  have CF : ∀ W, TabB B W → Calls Tryd.prog 40 #[.string (ba la)] W fun e w' => e = .returned (.string (ba (foldF la))) ∧ Below W.heap.size W w' := fun W h => fold_any (ba la) W (by rw [ba_size]; omega) h.1
  have CH : ∀ W : World, Calls Tryd.prog 39 #[] W fun e w' => ∃ M : Nat, e = .returned (.map (some M)) ∧ RowKit.Hid (MapH w' M) ∧ Below W.heap.size W w' := by
    intro W
    refine (headers_any W).mono ?_
    rintro e w' ⟨he, h1, h2⟩
    exact ⟨_, he, h1, h2⟩
  have hfs : (ba (foldF la)).size ≤ 1000 := by
    have : (foldF la).length ≤ la.length := by
      rw [foldF_valid, List.length_map]
      exact validF_len la
    rw [ba_size]
    omega
  have HL : RowKit.Hid (∀ (W : World) (M : Nat), MapH W M → (Instr.lookup 70 (.map (some M)) (.string (ba (foldF la))) false).run Tryd.prog W = .ok (.int .u64 (kindF la : Int)) W) := by
    intro W M h
    have := MapH.look h (ba (foldF la)) hfs
    rw [list_ba] at this
    exact this
  have CPw : ∀ W, TabB B W → Calls Tryd.prog 42 #[.string (ba (trimF lb))] W (PassPost (trimF lb) W) := fun W h => password_any (trimF lb) W (by omega) h.1
  clear hfs hla hlb hlv
  generalize trimF lb = v at *
  generalize foldF la = fa at *
  have hk := kind17 la
  generalize kindF la = kd at *
  have k3 : ((ba v).toList == [49]) = (v == [49]) := by
    rw [ba_beq]
    by_cases e : v = [49] <;> simp [e]
  obtain ⟨xa, hxa⟩ : ∃ x, ba la = x := ⟨_, rfl⟩
  obtain ⟨xb, hxb⟩ : ∃ x, ba lb = x := ⟨_, rfl⟩
  obtain ⟨xv, hxv⟩ : ∃ x, ba v = x := ⟨_, rfl⟩
  obtain ⟨xf, hxf⟩ : ∃ x, ba fa = x := ⟨_, rfl⟩
  rw [hxa] at C1 CN CF
  rw [hxb] at C1 CT
  rw [hxv] at CT CPw k3
  rw [hxf] at CF HL
  have HF := Lib.hid hF
  have H := Lib.hid h
  have HT := Lib.hid hT
  have HG := Lib.hid hg
  clear hF hxa hxb hxf hxv h hT hg
  go_enter Tryd.func31, Tryd.ntmps31
  cases p with
  | false =>
    have hn : F = none := by rw [← HF.out]; rfl
    subst hn
    go_wp2_with (first
      | (go_at_call 37; ((with_reducible refine C1.mono ?_)); rintro e w1 ⟨rfl, b1⟩)
      | (go_at_call 38; ((with_reducible refine (CN _).mono ?_)); rintro e w2 ⟨rfl, rfl⟩))
    go_ret
    exact .no (.of_below b1) (H.out.below b1)
  | true =>
  cases hnm : nameF la with
  | false =>
    have hn : F = none := by rw [← HF.out, hnm]; rfl
    subst hn
    rw [hnm] at CN
    go_wp2_with (first
      | (go_at_call 37; ((with_reducible refine C1.mono ?_)); rintro e w1 ⟨rfl, b1⟩)
      | (go_at_call 38; ((with_reducible refine (CN _).mono ?_)); rintro e w2 ⟨rfl, rfl⟩))
    go_ret
    exact .no (.of_below b1) (H.out.below b1)
  | true =>
  have HF2 : RowKit.Hid ((if kd = 1 then (if S.a then none else some { S with a := true, R := { S.R with icy := v == [49] } })
    else if kd = 2 then (if S.b then none else (passF v).map fun p => { S with b := true, R := { S.R with told := true, pass := p } })
    else some S) = F) := by
    show _ = _
    rw [← HF.out, hnm]
    rfl
  rw [hnm] at CN
  clear hnm HF
  obtain ⟨a1, a2, a0⟩ := and17 S.a S.b
  obtain ⟨o1, o2, o0⟩ := or17 S.a S.b
  obtain ⟨z, hz⟩ : ∃ z : Int, (cameN S.a S.b : Int) = z := ⟨_, rfl⟩
  rw [hz] at a1 a2 a0 o1 o2 o0
  have HC7 : RowKit.Hid (∀ W : World, Cel W g 52 (rdS S nilV) → W.cell? ⟨g, 7, none⟩ = some (.int .u64 z) ∧ W.frozen? ⟨g, 7, none⟩ = false) := by
    intro W h
    exact ⟨by rw [h.cell 7, ← hz]; rfl, h.frozen 7⟩
  rcases hk with rfl | rfl | rfl
  · have hn : F = some S := by rw [← HF2.out]; rfl
    subst hn
    clear HF2 a1 a2 o1 o2 CPw k3
    go_wp2_with (first
      | (go_at_call 37; ((with_reducible refine C1.mono ?_)); rintro e w1 ⟨rfl, b1⟩)
      | (go_at_call 38; ((with_reducible refine (CN _).mono ?_)); rintro e w2 ⟨rfl, rfl⟩)
      | (go_at_call 39; ((with_reducible refine (CH _).mono ?_)); rintro e w2 ⟨M, rfl, hM, b2⟩)
      | (go_at_call 40; ((with_reducible refine (CF _ (HT.out.below (chain b1 b2))).mono ?_)); rintro e w3 ⟨rfl, b3⟩; have hlk := HL.out w3 M (hM.out.below b3); have b13 : Below w.heap.size w w3 := chain (chain b1 b2) b3; have hc3 := H.out.below b13; obtain ⟨c7, f7⟩ := HC7.out w3 hc3; have H4 := Lib.hid (came17 (.of_below b13) hc3 (cameN S.a S.b)); rw [hz] at H4; clear hc3)
      | (go_at_call 41; ((with_reducible refine (CT _).mono ?_)); rintro e w5 ⟨rfl, b5⟩))
    go_ret
    exact .yes (H4.out.1.then_ (G := fun _ => False) (.of_below b5) (fun _ c => c.elim)) (H4.out.2.below b5)
  · cases hSa : S.a with
    | true =>
      have hn : F = none := by rw [← HF2.out, hSa]; rfl
      subst hn
      rw [hSa] at a1
      clear HF2 a0 a2 o0 o1 o2 CPw k3
      go_wp2_with (first
        | (go_at_call 37; ((with_reducible refine C1.mono ?_)); rintro e w1 ⟨rfl, b1⟩)
        | (go_at_call 38; ((with_reducible refine (CN _).mono ?_)); rintro e w2 ⟨rfl, rfl⟩)
        | (go_at_call 39; ((with_reducible refine (CH _).mono ?_)); rintro e w2 ⟨M, rfl, hM, b2⟩)
        | (go_at_call 40; ((with_reducible refine (CF _ (HT.out.below (chain b1 b2))).mono ?_)); rintro e w3 ⟨rfl, b3⟩; have hlk := HL.out w3 M (hM.out.below b3); have b13 : Below w.heap.size w w3 := chain (chain b1 b2) b3; have hc3 := H.out.below b13; obtain ⟨c7, f7⟩ := HC7.out w3 hc3; clear hc3))
      go_ret
      exact .no (.of_below b13) (H.out.below b13)
    | false =>
      have hn : F = some { S with a := true, R := { S.R with icy := v == [49] } } := by rw [← HF2.out, hSa]; rfl
      subst hn
      rw [hSa] at a1
      generalize (v == [49]) = ic at k3 HF2 ⊢
      clear HF2 a0 a2 o0 o2 CPw
      obtain ⟨y, hy⟩ : ∃ y : Int, (cameN true S.b : Int) = y := ⟨_, rfl⟩
      rw [hy] at o1
      go_wp2_with (first
        | (go_at_call 37; ((with_reducible refine C1.mono ?_)); rintro e w1 ⟨rfl, b1⟩)
        | (go_at_call 38; ((with_reducible refine (CN _).mono ?_)); rintro e w2 ⟨rfl, rfl⟩)
        | (go_at_call 39; ((with_reducible refine (CH _).mono ?_)); rintro e w2 ⟨M, rfl, hM, b2⟩)
        | (go_at_call 40; ((with_reducible refine (CF _ (HT.out.below (chain b1 b2))).mono ?_)); rintro e w3 ⟨rfl, b3⟩; have hlk := HL.out w3 M (hM.out.below b3); have b13 : Below w.heap.size w w3 := chain (chain b1 b2) b3; have hc3 := H.out.below b13; obtain ⟨c7, f7⟩ := HC7.out w3 hc3; have H4 := Lib.hid (came17 (.of_below b13) hc3 (cameN true S.b)); rw [hy] at H4; clear hc3)
        | (go_at_call 41; ((with_reducible refine (CT _).mono ?_)); rintro e w5 ⟨rfl, b5⟩; have H5 : RowKit.Hid _ := (⟨H4.out.1.then_ (G := fun _ => False) (.of_below b5) (fun _ c => c.elim), H4.out.2.below b5⟩ : Keeps (· = g) w w5 ∧ Cel w5 g 52 _); have c4 : w5.cell? ⟨g, 4, none⟩ = some (.bool S.R.icy) := H5.out.2.cell 4; have f4 : w5.frozen? ⟨g, 4, none⟩ = false := H5.out.2.frozen 4))
      go_ret
      exact icyR ic ic H5.out
  · cases hSb : S.b with
    | true =>
      have hn : F = none := by rw [← HF2.out, hSb]; rfl
      subst hn
      rw [hSb] at a2
      clear HF2 a0 a1 o0 o1 o2 CPw k3
      go_wp2_with (first
        | (go_at_call 37; ((with_reducible refine C1.mono ?_)); rintro e w1 ⟨rfl, b1⟩)
        | (go_at_call 38; ((with_reducible refine (CN _).mono ?_)); rintro e w2 ⟨rfl, rfl⟩)
        | (go_at_call 39; ((with_reducible refine (CH _).mono ?_)); rintro e w2 ⟨M, rfl, hM, b2⟩)
        | (go_at_call 40; ((with_reducible refine (CF _ (HT.out.below (chain b1 b2))).mono ?_)); rintro e w3 ⟨rfl, b3⟩; have hlk := HL.out w3 M (hM.out.below b3); have b13 : Below w.heap.size w w3 := chain (chain b1 b2) b3; have hc3 := H.out.below b13; obtain ⟨c7, f7⟩ := HC7.out w3 hc3; clear hc3))
      go_ret
      exact .no (.of_below b13) (H.out.below b13)
    | false =>
      have HF4 : RowKit.Hid (((passF v).map fun p => { S with b := true, R := { S.R with told := true, pass := p } }) = F) := by
        show _ = _
        rw [← HF2.out, hSb]
        rfl
      rw [hSb] at a2
      clear HF2 a0 a1 o0 o1 k3
      obtain ⟨y, hy⟩ : ∃ y : Int, (cameN S.a true : Int) = y := ⟨_, rfl⟩
      rw [hy] at o2
      cases hpf : passF v with
      | none =>
        have hn : F = none := by rw [← HF4.out, hpf]; rfl
        subst hn
        have CP2 : ∀ W, TabB B W → Calls Tryd.prog 42 #[.string xv] W fun e w' => ∃ x, e = .returned (.tuple #[.string x, .bool false]) ∧ Below W.heap.size W w' := by
          intro W hW
          refine (CPw W hW).mono ?_
          rintro e w' ⟨hb, ⟨p, h1, _⟩ | ⟨_, x, h2⟩⟩
          · rw [hpf] at h1; cases h1
          · exact ⟨x, h2, hb⟩
        clear CPw HF4 hpf
        go_wp2_with (first
          | (go_at_call 37; ((with_reducible refine C1.mono ?_)); rintro e w1 ⟨rfl, b1⟩)
          | (go_at_call 38; ((with_reducible refine (CN _).mono ?_)); rintro e w2 ⟨rfl, rfl⟩)
          | (go_at_call 39; ((with_reducible refine (CH _).mono ?_)); rintro e w2 ⟨M, rfl, hM, b2⟩)
          | (go_at_call 40; ((with_reducible refine (CF _ (HT.out.below (chain b1 b2))).mono ?_)); rintro e w3 ⟨rfl, b3⟩; have hlk := HL.out w3 M (hM.out.below b3); have b13 : Below w.heap.size w w3 := chain (chain b1 b2) b3; have hc3 := H.out.below b13; obtain ⟨c7, f7⟩ := HC7.out w3 hc3; have H4 := Lib.hid (came17 (.of_below b13) hc3 (cameN S.a true)); rw [hy] at H4; clear hc3)
          | (go_at_call 41; ((with_reducible refine (CT _).mono ?_)); rintro e w5 ⟨rfl, b5⟩; have H5 : RowKit.Hid _ := (⟨H4.out.1.then_ (G := fun _ => False) (.of_below b5) (fun _ c => c.elim), H4.out.2.below b5⟩ : Keeps (· = g) w w5 ∧ Cel w5 g 52 _); have hT5 := Lib.hid (HT.out.keeps H5.out.1 (fun j hj => by subst hj; exact HG.out)))
          | (go_at_call 42; ((with_reducible refine (CP2 _ hT5.out).mono ?_)); rintro e w6 ⟨x, rfl, b6⟩; have H6 : RowKit.Hid _ := (⟨H5.out.1.then_ (G := fun _ => False) (.of_below b6) (fun _ c => c.elim), H5.out.2.below b6⟩ : Keeps (· = g) w w6 ∧ Cel w6 g 52 _); have c6 : w6.cell? ⟨g, 6, none⟩ = some (.string (ba S.R.pass)) := H6.out.2.cell 6; have f6 : w6.frozen? ⟨g, 6, none⟩ = false := H6.out.2.frozen 6; have c5 : w6.cell? ⟨g, 5, none⟩ = some (.bool S.R.told) := H6.out.2.cell 5; have f5 : w6.frozen? ⟨g, 5, none⟩ = false := H6.out.2.frozen 5))
        go_ret
        exact passN x H6.out
      | some p =>
        have hn : F = some { S with b := true, R := { S.R with told := true, pass := p } } := by rw [← HF4.out, hpf]; rfl
        subst hn
        have CP2 : ∀ W, TabB B W → Calls Tryd.prog 42 #[.string xv] W fun e w' => e = .returned (.tuple #[.string (ba p), .bool true]) ∧ Below W.heap.size W w' := by
          intro W hW
          refine (CPw W hW).mono ?_
          rintro e w' ⟨hb, ⟨p2, h1, _, h2⟩ | ⟨h1, _⟩⟩
          · rw [hpf] at h1
            injection h1 with h1
            subst h1
            exact ⟨h2, hb⟩
          · rw [hpf] at h1; cases h1
        obtain ⟨xp, hxp⟩ : ∃ x, ba p = x := ⟨_, rfl⟩
        have HXP := Lib.hid hxp
        rw [hxp] at CP2
        clear CPw HF4 hpf hxp
        go_wp2_with (first
          | (go_at_call 37; ((with_reducible refine C1.mono ?_)); rintro e w1 ⟨rfl, b1⟩)
          | (go_at_call 38; ((with_reducible refine (CN _).mono ?_)); rintro e w2 ⟨rfl, rfl⟩)
          | (go_at_call 39; ((with_reducible refine (CH _).mono ?_)); rintro e w2 ⟨M, rfl, hM, b2⟩)
          | (go_at_call 40; ((with_reducible refine (CF _ (HT.out.below (chain b1 b2))).mono ?_)); rintro e w3 ⟨rfl, b3⟩; have hlk := HL.out w3 M (hM.out.below b3); have b13 : Below w.heap.size w w3 := chain (chain b1 b2) b3; have hc3 := H.out.below b13; obtain ⟨c7, f7⟩ := HC7.out w3 hc3; have H4 := Lib.hid (came17 (.of_below b13) hc3 (cameN S.a true)); rw [hy] at H4; clear hc3)
          | (go_at_call 41; ((with_reducible refine (CT _).mono ?_)); rintro e w5 ⟨rfl, b5⟩; have H5 : RowKit.Hid _ := (⟨H4.out.1.then_ (G := fun _ => False) (.of_below b5) (fun _ c => c.elim), H4.out.2.below b5⟩ : Keeps (· = g) w w5 ∧ Cel w5 g 52 _); have hT5 := Lib.hid (HT.out.keeps H5.out.1 (fun j hj => by subst hj; exact HG.out)))
          | (go_at_call 42; ((with_reducible refine (CP2 _ hT5.out).mono ?_)); rintro e w6 ⟨rfl, b6⟩; have H6 : RowKit.Hid _ := (⟨H5.out.1.then_ (G := fun _ => False) (.of_below b6) (fun _ c => c.elim), H5.out.2.below b6⟩ : Keeps (· = g) w w6 ∧ Cel w6 g 52 _); have c6 : w6.cell? ⟨g, 6, none⟩ = some (.string (ba S.R.pass)) := H6.out.2.cell 6; have f6 : w6.frozen? ⟨g, 6, none⟩ = false := H6.out.2.frozen 6; have c5 : w6.cell? ⟨g, 5, none⟩ = some (.bool S.R.told) := H6.out.2.cell 5; have f5 : w6.frozen? ⟨g, 5, none⟩ = false := H6.out.2.frozen 5; have HY := Lib.hid (passR p H6.out); rw [HXP.out] at HY))
        go_ret
        exact HY.out
end Go.Proofs.YtkledfalplekeaaDoor
