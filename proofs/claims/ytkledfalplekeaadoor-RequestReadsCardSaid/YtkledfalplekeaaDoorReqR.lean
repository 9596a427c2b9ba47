/- The document's answer: a first line. -/
import Derived.Test.YtkledfalplekeaaDoorReqA
namespace Go.Proofs.YtkledfalplekeaaDoor
open Go.RowKit Go.PlainAid
set_option linter.unusedVariables false

/-! ### What a state's block holds -/
def stC (n : Nat) (f : Bool) (l : List UInt8) (d : Bool) (e m : Nat) (p : List UInt8) (i o : Bool) (q : List UInt8) (a b : Bool) : Array Value :=
  #[.int .i64 (n : Int), .bool f, .string (ba l), .bool d, .int .i64 (e : Int), .int .i64 (m : Int), .string (ba p), .bool i, .bool o, .string (ba q), .bool a, .bool b]
def stK (S : S17) : Array Value := stC S.n (decide (S.R.m ≠ 0)) S.line S.done S.err S.R.m S.R.path S.R.icy S.R.told S.R.pass S.a S.b
/-- Behind a call that tells whether a line was right. -/
def LinePost (t : Nat) (S : S17) (o : Option S17) (w : World) (e : Ending) (w' : World) : Prop :=
  Keeps (· = t) w w' ∧ ((∃ U, o = some U ∧ e = .returned (.bool true) ∧ Cel w' t 29 (stK U)) ∨
    (o = none ∧ e = .returned (.bool false) ∧ ∃ cs, Cel w' t 29 cs ∧ cs[3]? = some (.bool S.done) ∧ cs[4]? = some (.int .i64 (S.err : Int))))
theorem bytes_same (x y : ByteArray) : (x.toList == y.toList) = true ↔ x = y := by
  rw [beq_iff_eq, Lib.toList_data, Lib.toList_data]
  exact ⟨fun h => by rw [← ba_list x, ← ba_list y, h], fun h => by rw [h]⟩
theorem bytes_other (x y : ByteArray) : (x.toList == y.toList) = false ↔ x ≠ y := by
  rw [← Bool.not_eq_true, bytes_same]
theorem str_ne {q : ByteArray} {l : List UInt8} {v : ByteArray} (h : q.data.toList = l) (k : ¬ l = v.data.toList) : (q.toList == v.toList) = false :=
  (bytes_other q v).2 fun e => k (by rw [← h, e])
theorem str_eq {q : ByteArray} {l : List UInt8} {v : ByteArray} (h : q.data.toList = l) (k : l = v.data.toList) : q = v := by
  rw [← ba_list q, ← ba_list v, h, k]
def metL (i : Nat) : ByteArray := if i = 0 then ⟨#[71, 69, 84]⟩ else if i = 1 then ⟨#[83, 79, 85, 82, 67, 69]⟩ else if i = 2 then ⟨#[75, 73, 76, 76]⟩ else ⟨#[83, 84, 65, 84, 83]⟩
theorem metL_eq (q : ByteArray) (i : Nat) (hi : i < 4) : ((metL i).toList == q.toList) = decide (metF q.data.toList = i + 1) := by
  have hl : ∀ v : ByteArray, (v.toList == q.toList) = decide (q.data.toList = v.data.toList) := by
    intro v
    rw [Bool.eq_iff_iff, bytes_same, decide_eq_true_eq]
    exact ⟨fun e => by rw [e], fun e => (str_eq e rfl).symm⟩
  rw [hl, decide_eq_decide]
  have d12 : ¬ met1 = met2 := by decide
  have d13 : ¬ met1 = met3 := by decide
  have d14 : ¬ met1 = met4 := by decide
  have d23 : ¬ met2 = met3 := by decide
  have d24 : ¬ met2 = met4 := by decide
  have d34 : ¬ met3 = met4 := by decide
  have m1 : (metL 0).data.toList = met1 := rfl
  have m2 : (metL 1).data.toList = met2 := rfl
  have m3 : (metL 2).data.toList = met3 := rfl
  have m4 : (metL 3).data.toList = met4 := rfl
  generalize q.data.toList = l
  unfold metF
  match i, hi with
  | 0, _ => rw [m1]; repeat' split
            all_goals simp_all
  | 1, _ => rw [m2]; repeat' split
            all_goals simp_all
            all_goals (intro e; simp_all)
  | 2, _ => rw [m3]; repeat' split
            all_goals simp_all
            all_goals (intro e; simp_all)
  | 3, _ => rw [m4]; repeat' split
            all_goals simp_all
            all_goals (intro e; simp_all)
theorem verF_cases (l : List UInt8) : (verF l = true ∧ (l = ver1 ∨ (¬ l = ver1 ∧ l = ver2) ∨ (¬ l = ver1 ∧ ¬ l = ver2 ∧ l = ver3))) ∨ (verF l = false ∧ ¬ l = ver1 ∧ ¬ l = ver2 ∧ ¬ l = ver3) := by
  unfold verF
  by_cases h1 : l = ver1
  · exact .inl ⟨by simp [h1], .inl h1⟩
  by_cases h2 : l = ver2
  · exact .inl ⟨by simp [h2], .inr (.inl ⟨h1, h2⟩)⟩
  by_cases h3 : l = ver3
  · exact .inl ⟨by simp [h3], .inr (.inr ⟨h1, h2, h3⟩)⟩
  · exact .inr ⟨by simp [h1, h2, h3], h1, h2, h3⟩
def mAt (m i : Nat) : Nat := if m ≤ i then m else 0
theorem ba_beq (l v : List UInt8) : ((ba l).toList == v) = decide (l = v) := by
  rw [ByteArray.toList_eq, Bool.eq_iff_iff, beq_iff_eq, decide_eq_true_eq]
  rfl
theorem stC_set1 (n : Nat) (f x : Bool) (l : List UInt8) (d : Bool) (e m : Nat) (p : List UInt8) (i o : Bool) (q : List UInt8) (a b : Bool) : (stC n f l d e m p i o q a b).setIfInBounds 1 (.bool x) = stC n x l d e m p i o q a b := rfl
theorem stC_set5 (n : Nat) (f : Bool) (l : List UInt8) (d : Bool) (e m x : Nat) (p : List UInt8) (i o : Bool) (q : List UInt8) (a b : Bool) : (stC n f l d e m p i o q a b).setIfInBounds 5 (.int .i64 (x : Int)) = stC n f l d e x p i o q a b := rfl
theorem stC_set6 (n : Nat) (f : Bool) (l : List UInt8) (d : Bool) (e m : Nat) (p x : List UInt8) (i o : Bool) (q : List UInt8) (a b : Bool) : (stC n f l d e m p i o q a b).setIfInBounds 6 (.string (ba x)) = stC n f l d e m x i o q a b := rfl
/-- What is held while the methods are gone through. -/
structure FiSt (t B : Nat) (S : S17) (m i : Nat) (w wr : World) : Prop where
  k : Keeps (· = t) w wr
  c : Cel wr t 29 (stC S.n false S.line S.done S.err (mAt m i) S.R.path S.R.icy S.R.told S.R.pass S.a S.b)
  l : ∀ j, j < 4 → wr.cell? ⟨B, j, none⟩ = some (.string (metL j))
  n : t ≠ B
theorem lits_at17 (W : World) (e : TypeId) (fr : Nat × Nat) : ∀ j, j < 4 → (W.alloc (.cells #[.string ⟨#[71, 69, 84]⟩, .string ⟨#[83, 79, 85, 82, 67, 69]⟩, .string ⟨#[75, 73, 76, 76]⟩, .string ⟨#[83, 84, 65, 84, 83]⟩] e fr)).cell? ⟨W.heap.size, j, none⟩ = some (.string (metL j)) := by
  intro j hj
  rw [cell_of_row _ _ j _ e fr (heap_alloc_new W _)]
  match j, hj with
  | 0, _ => rfl
  | 1, _ => rfl
  | 2, _ => rfl
  | 3, _ => rfl
theorem FiSt.hit {t B : Nat} {S : S17} {m i : Nat} {w wr : World} (h : FiSt t B S m i w wr) (hm : m = i + 1) : FiSt t B S m (i + 1) w (wr.setCell ⟨t, 5, none⟩ (.int .i64 ((i : Int) + 1))) := by
  refine ⟨h.k.setCell (p := ⟨t, 5, none⟩) (.inl rfl) _, ?_, fun j hj => ?_, h.n⟩
  · have := h.c.set_ 5 (.int .i64 ((i : Int) + 1))
    rw [show (i : Int) + 1 = ((i + 1 : Nat) : Int) by omega, stC_set5] at this
    have e : mAt m (i + 1) = i + 1 := by unfold mAt; rw [if_pos (by omega), hm]
    rw [show (i : Int) + 1 = ((i + 1 : Nat) : Int) by omega, e]
    exact this
  · rw [World.cell?_setCell_other wr _ _ _ (by intro c; injection c with c; exact h.n c)]
    exact h.l j hj
theorem FiSt.miss {t B : Nat} {S : S17} {m i : Nat} {w wr : World} (h : FiSt t B S m i w wr) (hm : ¬ m = i + 1) : FiSt t B S m (i + 1) w wr := by
  refine ⟨h.k, ?_, h.l, h.n⟩
  have e : mAt m (i + 1) = mAt m i := by
    unfold mAt
    by_cases k : m ≤ i
    · rw [if_pos k, if_pos (by omega)]
    · rw [if_neg k, if_neg (by omega)]
  rw [e]
  exact h.c
theorem FiSt.no {t B : Nat} {S : S17} {m i : Nat} {w wr : World} (h : FiSt t B S m i w wr) (f : Q17 → Q17) : LinePost t S none w (.returned (.bool false)) wr :=
  ⟨h.k, .inr ⟨rfl, rfl, _, h.c, rfl, rfl⟩⟩
theorem FiSt.yes {t B : Nat} {S : S17} {m i : Nat} {w wr : World} (h : FiSt t B S m i w wr) (hm : mAt m i = m) (h0 : m ≠ 0) (lb : List UInt8) :
    LinePost t S (some { S with R := { S.R with m := m, path := lb } }) w (.returned (.bool true)) ((wr.setCell ⟨t, 6, none⟩ (.string (ba lb))).setCell ⟨t, 1, none⟩ (.bool true)) := by
  refine ⟨(h.k.setCell (p := ⟨t, 6, none⟩) (.inl rfl) _).setCell (p := ⟨t, 1, none⟩) (.inl rfl) _, .inl ⟨_, rfl, rfl, ?_⟩⟩
  have := (h.c.set_ 6 (.string (ba lb))).set_ 1 (.bool true)
  rw [stC_set6, stC_set1, hm] at this
  unfold stK
  rw [decide_eq_true (show ¬ m = 0 from h0)]
  exact this
set_option maxHeartbeats 8000000 in
set_option maxRecDepth 100000 in
theorem refFirst_any (t : Nat) (S : S17) (s : ByteArray) (w : World) (h : Cel w t 29 (stK S)) (hm : S.R.m = 0) (hs : s.size ≤ 1000) :
    Calls Tryd.prog 14 #[.pointer (some ⟨t, 0, none⟩), .string s] w (LinePost t S ((firstF s.data.toList).map fun q => { S with R := { S.R with m := q.1, path := q.2 } }) w) := by
  have C1 := refCut_any s 32 w hs
  have hlr := cutB_len s.data.toList 32
  have hlb := cutA_len (cutB s.data.toList 32) 32
  rw [len_list] at hlr
  have C2 : ∀ W, Calls Tryd.prog 18 #[.string (ba (cutB s.data.toList 32)), .int .u8 32] W _ := fun W => refCut_any (ba (cutB s.data.toList 32)) 32 W (by rw [ba_size]; omega)
  simp only [list_ba] at C2
  have C3 : ∀ W, Calls Tryd.prog 19 #[.string (ba (cutA (cutB s.data.toList 32) 32))] W _ := fun W => refMount_any (ba (cutA (cutB s.data.toList 32) 32)) W (by rw [ba_size]; omega)
  simp only [list_ba] at C3
  have e32 : (((32 : UInt8).toNat : Nat) : Int) = 32 := rfl
  rw [e32] at C1
  obtain ⟨F, hF⟩ : ∃ F, firstF s.data.toList = F := ⟨_, rfl⟩
  have HF : RowKit.Hid (firstF s.data.toList = F) := hF
  unfold firstF at hF
  rw [HF.out]
  generalize cutB (cutB s.data.toList 32) 32 = lc at *
  generalize cutA (cutB s.data.toList 32) 32 = lb at *
  generalize cutY (cutB s.data.toList 32) 32 = q at *
  generalize cutY s.data.toList 32 = p at *
  generalize cutA s.data.toList 32 = la at *
  generalize cutB s.data.toList 32 = lr at *
  clear HF
  obtain ⟨μ, hμ⟩ : ∃ m, metF la = m := ⟨_, rfl⟩
  have hμ4 : μ ≤ 4 := by rw [← hμ]; exact metF_le la
  have HM : RowKit.Hid (∀ i, i < 4 → ((metL i).toList == (ba la).toList) = decide (μ = i + 1)) := by
    intro i hi
    rw [metL_eq _ i hi, list_ba, hμ]
  rw [hμ] at hF
  clear hμ
  have HFF : RowKit.Hid ((if (p && q) && (verF lc && (decide (μ ≠ 0) && pathF μ lb)) then some (μ, lb) else none) = F) := hF
  clear hF
  have v1 : ((ba lc).toList == [72, 84, 84, 80, 47, 49, 46, 48]) = decide (lc = ver1) := ba_beq _ _
  have v2 : ((ba lc).toList == [72, 84, 84, 80, 47, 49, 46, 49]) = decide (lc = ver2) := ba_beq _ _
  have v3 : ((ba lc).toList == [73, 67, 69, 47, 49, 46, 48]) = decide (lc = ver3) := ba_beq _ _
  have v4 : ((ba lb).toList == [47]) = decide (lb = [47]) := ba_beq _ _
  have h0 : Cel w t 29 (stC S.n false S.line S.done S.err 0 S.R.path S.R.icy S.R.told S.R.pass S.a S.b) := by
    have := h
    unfold stK at this
    rw [hm] at this
    exact this
  have H0 := Lib.hid h0
  obtain ⟨xa, hxa⟩ : ∃ x, ba la = x := ⟨_, rfl⟩
  obtain ⟨xb, hxb⟩ : ∃ x, ba lb = x := ⟨_, rfl⟩
  obtain ⟨xc, hxc⟩ : ∃ x, ba lc = x := ⟨_, rfl⟩
  obtain ⟨xr, hxr⟩ : ∃ x, ba lr = x := ⟨_, rfl⟩
  rw [hxb] at C2 C3 v4
  rw [hxa] at C1 HM
  rw [hxr] at C1 C2
  rw [hxc] at C2 v1 v2 v3
  have HXB := Lib.hid hxb
  clear hxa hxb hxc hxr h h0 hlr hlb
  have HNo : RowKit.Hid (F = none → ∀ (W : World), Below w.heap.size w W → LinePost t S (F.map fun q => { S with R := { S.R with m := q.1, path := q.2 } }) w (.returned (.bool false)) W) := by
    intro hF W hb
    rw [hF]
    exact ⟨.of_below hb, .inr ⟨rfl, rfl, _, H0.out.below hb, rfl, rfl⟩⟩
  go_enter Tryd.func14, Tryd.ntmps14
  by_cases hall : (p && q) = true ∧ verF lc = true
  · obtain ⟨hpq, hv⟩ := hall
    obtain ⟨rfl, rfl⟩ : p = true ∧ q = true := by simpa using hpq
    have HFF2 : RowKit.Hid (F = if (decide (μ ≠ 0) && pathF μ lb) then some (μ, lb) else none) := by
      have := HFF.out
      rw [hv] at this
      show _ = _
      rw [← this]
      simp
    have hvv : (lc = ver1 ∨ (¬ lc = ver1 ∧ lc = ver2) ∨ (¬ lc = ver1 ∧ ¬ lc = ver2 ∧ lc = ver3)) := by
      rcases verF_cases lc with ⟨_, h⟩ | ⟨h, _⟩
      · exact h
      · rw [h] at hv; cases hv
    clear hpq hv HFF HNo
    obtain ⟨M, hM⟩ : ∃ M, mountF lb = M := ⟨_, rfl⟩
    have HMo : RowKit.Hid (mountF lb = M) := hM
    rw [hM] at C3
    clear hM
    rcases hvv with hv | ⟨hva, hv⟩ | ⟨hva, hvb, hv⟩
    all_goals
      (first
        | (rw [decide_eq_false hva] at v1; rw [decide_eq_false hvb] at v2; rw [decide_eq_true hv] at v3; clear hva hvb hv)
        | (rw [decide_eq_false hva] at v1; rw [decide_eq_true hv] at v2; clear hva hv v3)
        | (rw [decide_eq_true hv] at v1; clear hv v2 v3))
      go_wp2_with (first
        | (go_at_call 18; ((with_reducible refine C1.mono ?_)); rintro e w1 ⟨rfl, b1⟩)
        | (go_at_call 18; ((with_reducible refine (C2 _).mono ?_)); rintro e w2 ⟨rfl, b2⟩))
      obtain ⟨B, hB⟩ : ∃ B, B = w2.heap.size := ⟨_, rfl⟩
      have hst : RowKit.Hid (FiSt t w2.heap.size S μ 0 w (w2.alloc (.cells #[.string ⟨#[71, 69, 84]⟩, .string ⟨#[83, 79, 85, 82, 67, 69]⟩, .string ⟨#[75, 73, 76, 76]⟩, .string ⟨#[83, 84, 65, 84, 83]⟩] 9))) := by
        have b12 := chain b1 b2
        refine ⟨(Keeps.of_below b12).alloc _, ?_, lits_at17 _ _ (0, 0), fun e => ?_⟩
        · have e : mAt μ 0 = 0 := by unfold mAt; split <;> omega
          rw [e]
          exact (H0.out.below b12).alloc _
        · have := (H0.out.below b12).lt
          omega
      rw [← hB] at hst ⊢
      clear hB b1 b2 C1 C2 v1
      go_loopw [12] (fun v wr => ∃ i : Nat, v = .int .i64 i ∧ i ≤ 4 ∧ RowKit.Hid (FiSt t B S μ i w wr)) (fun v _ => 4 - (intOf v).toNat)
      case atStart => exact ⟨0, rfl, by omega, hst⟩
      case round =>
        clear hst
        obtain ⟨i, rfl, hi, H⟩ := hrel
        by_cases hlt : i < 4
        · have hc := H.out.l i hlt
          have hq := HM.out i hlt
          have f5 : wr.frozen? ⟨t, 5, none⟩ = false := H.out.c.frozen 5
          have c5 : wr.cell? ⟨t, 5, none⟩ = some (.int .i64 (mAt μ i : Int)) := H.out.c.cell 5
          by_cases hm : μ = i + 1
          · rw [decide_eq_true hm] at hq
            have HN := Lib.hid (H.out.hit hm)
            clear hm H
            go_wp2
            go_roundw
            case rel => exact ⟨i + 1, by go_num, by omega, HN⟩
            case measure => simp [intOf]; omega
          · rw [decide_eq_false hm] at hq
            have HN := Lib.hid (H.out.miss hm)
            clear hm H
            go_wp2
            go_roundw
            case rel => exact ⟨i + 1, by go_num, by omega, HN⟩
            case measure => simp [intOf]; omega
        · have hme : mAt μ i = μ := by unfold mAt; rw [if_pos (by omega)]
          have c5 : wr.cell? ⟨t, 5, none⟩ = some (.int .i64 (μ : Int)) := by rw [H.out.c.cell 5, hme]; rfl
          have f6 : wr.frozen? ⟨t, 6, none⟩ = false := H.out.c.frozen 6
          have c6 : wr.cell? ⟨t, 6, none⟩ = some (.string (ba S.R.path)) := H.out.c.cell 6
          have c1 : wr.cell? ⟨t, 1, none⟩ = some (.bool false) := H.out.c.cell 1
          have f1 : wr.frozen? ⟨t, 1, none⟩ = false := H.out.c.frozen 1
          have C3' := C3 wr
          clear C3
          have HME := Lib.hid hme
          clear hme HM
          have hμ : μ = 0 ∨ (μ = 4 ∧ lb = [47]) ∨ (μ = 4 ∧ ¬ lb = [47]) ∨ ((μ = 1 ∨ μ = 2 ∨ μ = 3) ∧ M = true) ∨ ((μ = 1 ∨ μ = 2 ∨ μ = 3) ∧ M = false) := by
            have h5 : μ = 0 ∨ μ = 4 ∨ (μ = 1 ∨ μ = 2 ∨ μ = 3) := by omega
            rcases h5 with h5 | h5 | h5
            · exact .inl h5
            · by_cases h47 : lb = [47]
              · exact .inr (.inl ⟨h5, h47⟩)
              · exact .inr (.inr (.inl ⟨h5, h47⟩))
            · cases M
              · exact .inr (.inr (.inr (.inr ⟨h5, rfl⟩)))
              · exact .inr (.inr (.inr (.inl ⟨h5, rfl⟩)))
          rcases hμ with rfl | ⟨rfl, h47⟩ | ⟨rfl, h47⟩ | ⟨hμ, hM⟩ | ⟨hμ, hM⟩
          · have hF : F = none := by rw [HFF2.out]; rfl
            subst hF
            go_wp2_with (go_at_call 19; refine C3'.mono ?_; rintro e w3 ⟨rfl, rfl⟩)
            go_ret
            exact H.out.no id
          · have hF : F = some (4, lb) := by rw [HFF2.out]; simp [pathF, h47]
            subst hF
            rw [decide_eq_true h47] at v4
            clear h47
            have HY := Lib.hid (H.out.yes HME.out (by decide) lb)
            rw [HXB.out] at HY
            go_wp2_with (go_at_call 19; refine C3'.mono ?_; rintro e w3 ⟨rfl, rfl⟩)
            go_ret
            exact HY.out
          · have hF : F = none := by rw [HFF2.out]; simp [pathF, h47]
            subst hF
            rw [decide_eq_false h47] at v4
            clear h47
            go_wp2_with (go_at_call 19; refine C3'.mono ?_; rintro e w3 ⟨rfl, rfl⟩)
            go_ret
            exact H.out.no id
          · have hF : F = some (μ, lb) := by rw [HFF2.out]; have := HMo.out; rcases hμ with rfl | rfl | rfl <;> simp [pathF, this, hM]
            subst hF
            subst hM
            have HY := Lib.hid (H.out.yes HME.out (by omega) lb)
            rw [HXB.out] at HY
            have q0 : ((μ : Int) == 0) = false := by rcases hμ with rfl | rfl | rfl <;> rfl
            have q4 : ((μ : Int) == 4) = false := by rcases hμ with rfl | rfl | rfl <;> rfl
            have ql : (μ : Int) < 4 := by omega
            go_wp2_with (go_at_call 19; refine C3'.mono ?_; rintro e w3 ⟨rfl, rfl⟩)
            go_ret
            exact HY.out
          · have hF : F = none := by rw [HFF2.out]; have := HMo.out; rcases hμ with rfl | rfl | rfl <;> simp [pathF, this, hM]
            subst hF
            subst hM
            have q0 : ((μ : Int) == 0) = false := by rcases hμ with rfl | rfl | rfl <;> rfl
            have q4 : ((μ : Int) == 4) = false := by rcases hμ with rfl | rfl | rfl <;> rfl
            have ql : (μ : Int) < 4 := by omega
            go_wp2_with (go_at_call 19; refine C3'.mono ?_; rintro e w3 ⟨rfl, rfl⟩)
            go_ret
            exact H.out.no id
  · have HFN : RowKit.Hid (F = none) := by
      show _ = _
      rw [← HFF.out]
      have : ((p && q) && (verF lc && (decide (μ ≠ 0) && pathF μ lb))) = false := by
        cases hpq : (p && q) with
        | false => simp
        | true => cases hv : verF lc with
          | false => simp
          | true => exact absurd ⟨hpq, hv⟩ hall
      rw [this]
      rfl
    have hc : p = false ∨ (p = true ∧ q = false) ∨ (p = true ∧ q = true ∧ ¬ lc = ver1 ∧ ¬ lc = ver2 ∧ ¬ lc = ver3) := by
      cases p with
      | false => exact .inl rfl
      | true => cases q with
        | false => exact .inr (.inl ⟨rfl, rfl⟩)
        | true =>
          refine .inr (.inr ⟨rfl, rfl, ?_⟩)
          rcases verF_cases lc with ⟨h, _⟩ | ⟨_, h⟩
          · exact absurd ⟨rfl, h⟩ hall
          · exact h
    clear hall HFF
    rcases hc with rfl | ⟨rfl, rfl⟩ | ⟨rfl, rfl, k1, k2, k3⟩
    all_goals
      (try (rw [decide_eq_false k1] at v1; rw [decide_eq_false k2] at v2; rw [decide_eq_false k3] at v3; clear k1 k2 k3))
      go_wp2_with (first
        | (go_at_call 18; ((with_reducible refine C1.mono ?_)); rintro e w1 ⟨rfl, b1⟩)
        | (go_at_call 18; ((with_reducible refine (C2 _).mono ?_)); rintro e w2 ⟨rfl, b2⟩))
      go_ret
      exact HNo.out HFN.out _ (chain b1 b2)
end Go.Proofs.YtkledfalplekeaaDoor
