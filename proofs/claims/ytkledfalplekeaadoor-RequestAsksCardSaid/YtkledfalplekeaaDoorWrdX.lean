/- A folded text by package word. -/
import Derived.Test.YtkledfalplekeaaDoorWrdV
import Derived.Lib.ConvBytes
import Derived.Lib.AtoiErrMem
import Derived.Test.YtkledfalplekeaaDoorMemA
namespace Go.Proofs.YtkledfalplekeaaDoor
open Go.RowKit Go.PlainAid
set_option linter.unusedVariables false

/-- A row's first n numbers, none of them frozen. -/
structure RowF (w : World) (g n : Nat) (f : Nat → Int) : Prop where
  cell : ∀ j, j < n → w.cell? ⟨g, j, none⟩ = some (.int .u8 (f j))
  free : ∀ j, j < n → w.frozen? ⟨g, j, none⟩ = false
theorem RowF.set {w : World} {g n : Nat} {f : Nat → Int} (h : RowF w g n f) {k : Nat} (hk : k < n) (x : Int) : RowF (w.setCell ⟨g, k, none⟩ (.int .u8 x)) g n (fun j => if j = k then x else f j) := by
  refine ⟨fun j hj => ?_, fun j hj => by rw [World.frozen?_setCell]; exact h.free j hj⟩
  by_cases e : j = k
  · subst e
    rw [World.cell?_setCell_same' w _ _ (by rw [h.cell j hj]; rfl), if_pos rfl]
  · have hne : (⟨g, k, none⟩ : Addr) ≠ ⟨g, j, none⟩ := by intro c; injection c; omega
    rw [World.cell?_setCell_other w _ _ _ hne, h.cell j hj, if_neg e]
def fq (L : List UInt8) (k j : Nat) : Int := if j < k then ((lowB (L.getD j 0)).toNat : Int) else ((L.getD j 0).toNat : Int)
theorem fq_all (L : List UInt8) : (List.range L.length).map (fq L L.length) = bz (L.map lowB) := by
  apply List.ext_getElem
  · simp [bz]
  · intro j h1 h2
    have hj : j < L.length := by simpa using h1
    simp [fq, bz, hj]
theorem validF_len (l : List UInt8) : (validF l).length ≤ l.length := by
  have key : ∀ (n : Nat) (l : List UInt8) (st : Bool), l.length ≤ n → (enc (validN st (items l))).length ≤ l.length := by
    intro n
    induction n with
    | zero =>
      intro l st h
      obtain rfl : l = [] := List.eq_nil_of_length_eq_zero (by omega)
      simp [items_nil, validN, enc_nil]
    | succ n ih =>
      intro l st h
      by_cases hne : l = []
      · subst hne
        simp [items_nil, validN, enc_nil]
      · have hl : 0 < l.length := List.length_pos_iff.2 hne
        have hw := Lib.decodeL_width l
        cases hh : headI l with
        | none =>
          rw [valid_stray hne hh, List.length_append]
          have := ih (l.drop 1) true (by rw [List.length_drop]; omega)
          rw [List.length_drop] at this
          have e0 : (if st = true then ([] : List UInt8) else [63]).length ≤ 1 := by cases st <;> simp
          omega
        | some r =>
          rw [valid_step (t := []) hne hh, List.length_append, List.length_take]
          have := ih (l.drop (Lib.decodeL l).2) false (by rw [List.length_drop]; omega)
          rw [List.length_drop] at this
          have := Lib.decodeL_le l hne
          omega
  exact key l.length l false (Nat.le_refl _)
theorem bytes_row (w : World) (e : TypeId) (s : ByteArray) : RowF (Lib.bytesWorld w e s) w.heap.size s.size (fq s.data.toList 0) := by
  refine ⟨fun j hj => by rw [Lib.bytesWorld_cell w e s j hj]; simp [fq], fun j hj => ?_⟩
  have h := Lib.bytesWorld_at_new w e s
  have hsz : s.size ≤ (Lib.bytesCells w e s).size := by simp [Lib.bytesCells]
  unfold World.frozen?
  rw [h]
  simp
  omega

set_option maxHeartbeats 4000000 in
set_option maxRecDepth 1000000 in
theorem fold_any (s : ByteArray) (w : World) (hs : s.size ≤ 1000) (hT : Lib.Utf8Tabs 1 2 w) :
    Calls Tryd.prog 40 #[.string s] w fun e w' => e = .returned (.string (ba (foldF s.data.toList))) ∧ Below w.heap.size w w' := by
  have CV := toValid_any s w hs hT
  have hfl := validF_len s.data.toList
  rw [len_list] at hfl
  rw [foldF_valid]
  obtain ⟨L, hL⟩ : ∃ L, validF s.data.toList = L := ⟨_, rfl⟩
  rw [hL] at CV hfl ⊢
  obtain ⟨q, hq⟩ : ∃ q, ba L = q := ⟨_, rfl⟩
  rw [hq] at CV
  have hqs : q.size = L.length := by rw [← hq, ba_size]
  have HQ : RowKit.Hid (q.data.toList = L) := by show _ = _; rw [← hq]; rfl
  clear hL hq
  have CC : ∀ W : World, ∃ cap W2, (convert 9 48 (.string q)).run Tryd.prog W = .ok (.slice (some ⟨W.heap.size, 0, none⟩) q.size cap) W2 ∧ RowF W2 W.heap.size q.size (fq L 0) ∧ Below W.heap.size W W2 ∧ W2.heap.size = W.heap.size + 1 := by
    intro W
    refine ⟨_, _, Lib.run_convert_string_bytes W 9 48 5 q Tryd.underlying9 Tryd.underlying48 Tryd.underlying5, ?_, Lib.bytesWorld_below _ _ _, Lib.bytesWorld_size _ _ _⟩
    have := bytes_row W 5 q
    rw [HQ.out] at this
    exact this
  go_enter Tryd.func40, Tryd.ntmps40
  go_wp2_with (go_at_call 47; refine CV.mono ?_; rintro e w1 ⟨rfl, b1⟩; obtain ⟨cap, w2, hconv, hrow, b2, hsz2⟩ := CC w1)
  have hb2 : Below w.heap.size w w2 := b1.trans (b2.mono b1.size)
  have hgw : w.heap.size ≤ w1.heap.size := b1.size
  clear CC hconv CV
  generalize w1.heap.size = g at *
  go_loopw [11] (fun v wr => ∃ (k : Nat), v = .int .i64 k ∧ k ≤ q.size ∧ RowKit.Hid (RowF wr g q.size (fq L k)) ∧ Below w.heap.size w wr) (fun v _ => q.size - (intOf v).toNat)
  case atStart => exact ⟨0, rfl, by omega, hrow, hb2⟩
  case round =>
    obtain ⟨k, rfl, hk, HR, hbw⟩ := hrel
    clear hrow hb2 hsz2
    by_cases hlt : k < q.size
    · have hc := HR.out.cell k hlt
      have hf := HR.out.free k hlt
      obtain ⟨c, hc0⟩ : ∃ c : Nat, (L.getD k 0).toNat = c := ⟨_, rfl⟩
      have hfk : fq L k k = (c : Int) := by unfold fq; rw [if_neg (by omega), hc0]
      rw [hfk] at hc
      have hnext : ∀ x : Int, x = ((lowB (L.getD k 0)).toNat : Int) → RowF (wr.setCell ⟨g, k, none⟩ (.int .u8 x)) g q.size (fq L (k + 1)) := by
        intro x hx
        have := HR.out.set hlt x
        have e : (fun j => if j = k then x else fq L k j) = fq L (k + 1) := by
          funext j
          unfold fq
          by_cases e : j = k
          · subst e
            rw [if_pos rfl, if_pos (by omega), hx]
          · rw [if_neg e]
            by_cases e2 : j < k
            · rw [if_pos e2, if_pos (by omega)]
            · rw [if_neg e2, if_neg (by omega)]
        rw [e] at this
        exact this
      by_cases hcc : 65 ≤ c ∧ c ≤ 90
      · have hlow : ((lowB (L.getD k 0)).toNat : Int) = (c : Int) - 65 + 97 := by
          unfold lowB
          rw [hc0, if_pos hcc]
          simp
          omega
        have HN := Lib.hid (hnext ((c : Int) - 65 + 97) hlow.symm)
        have c1 := hcc.1
        have c2 := hcc.2
        have hbs : Below w.heap.size w (wr.setCell ⟨g, k, none⟩ (.int .u8 ((c : Int) - 65 + 97))) := hbw.setCell (p := ⟨g, k, none⟩) hgw _
        clear hcc hlow hnext HR hfk hc0
        go_wp2
        go_roundw
        case rel => exact ⟨k + 1, by go_num, by omega, HN, hbs⟩
        case measure => simp [intOf]; omega
      · have HN : RowKit.Hid (RowF wr g q.size (fq L (k + 1))) := by
          show RowF _ _ _ _
          have e : fq L (k + 1) = fq L k := by
            funext j
            unfold fq
            by_cases e : j = k
            · subst e
              have : lowB (L.getD j 0) = L.getD j 0 := by unfold lowB; rw [hc0, if_neg hcc]
              rw [if_pos (by omega), if_neg (by omega), this]
            · by_cases e2 : j < k
              · rw [if_pos e2, if_pos (by omega)]
              · rw [if_neg e2, if_neg (by omega)]
          rw [e]
          exact HR.out
        clear hnext hfk hc0 HR
        go_wp2
        all_goals
          first
          | (exfalso; omega)
          | (go_roundw
             case rel => exact ⟨k + 1, by go_num, by omega, HN, hbw⟩
             case measure => simp [intOf]; omega)
    · have ek : k = q.size := by omega
      have hI : IntsAt wr wr.heap.size .u8 (some ⟨g, 0, none⟩) q.size (bz (L.map lowB)) := by
        refine ⟨by rw [bz_len, List.length_map, hqs], ?_⟩
        by_cases h0 : q.size = 0
        · exact .inl h0
        · refine .inr ⟨g, 0, rfl, ?_, by omega, fun j hj => ?_⟩
          · exact cell_block (HR.out.cell 0 (by omega))
          · rw [Nat.zero_add, HR.out.cell j hj, ← fq_all]
            rw [List.getD_eq_getElem?_getD, List.getElem?_map, List.getElem?_range (by omega), ek, hqs]
            rfl
      rw [hqs] at hI
      have hconv2 := string_of_ints (P := Tryd.prog) (src := 48) (dst := 9) (e := 5) (c := cap) Tryd.underlying48 Tryd.underlying5 Tryd.underlying9 hI
      rw [text_bz] at hconv2
      clear HR
      go_wp2
      go_ret
      exact ⟨rfl, hbw⟩
end Go.Proofs.YtkledfalplekeaaDoor
