/- What package packet's Parse gives: whether bytes may begin a packet; where its payload ends; the packet. -/
import Derived.Test.YtcjikbddnceigaaPktC
import Derived.Deep.RegionHeld3
import Derived.Lib.QuietBelow
namespace Go.Proofs.Ytcjikbddnceigaa
open Go.RowKit Go.Shelf
set_option linter.unusedVariables false
set_option linter.unusedSimpArgs false

/-- A slice of bytes. -/
structure ByL (w : World) (a : Option Addr) (n cap : Nat) (b : List Int) : Prop where
  hi : IntsAt w w.heap.size .u8 a n b
  hc : n ≤ cap
  hm : cap ≤ 9223372036854775807
  ha : a = none → cap = 0
  hb : Byts b
section
variable {w w' : World} {a : Option Addr} {n cap : Nat} {b : List Int}
theorem ByL.len (h : ByL w a n cap b) : b.length = n := h.hi.1
theorem ByL.below (h : ByL w a n cap b) (hb : Below w.heap.size w w') : ByL w' a n cap b := ⟨h.hi.now hb (Nat.le_refl _), h.hc, h.hm, h.ha, h.hb⟩
theorem ByL.drewN (h : ByL w a n cap b) (k : Nat) : ByL (w.drewN k) a n cap b := ⟨h.hi, h.hc, h.hm, h.ha, h.hb⟩
theorem ByL.form (h : ByL w a n cap b) (hn : 0 < n) : ∃ r off, a = some ⟨r, off, none⟩ := by
  obtain ⟨r, off, e, _⟩ := h.hi.at_ hn
  exact ⟨r, off, e⟩
theorem ByL.cell {r off j : Nat} (h : ByL w (some ⟨r, off, none⟩) n cap b) (hj : j < n) : w.cell? ⟨r, off + j, none⟩ = some (.int .u8 (b.getD j 0)) := by
  obtain ⟨r', off', e, _, _, hc⟩ := h.hi.at_ hj
  injection e with e
  injection e with e1 e2
  subst e1
  subst e2
  exact hc
theorem ByL.none_ (h : ByL w none n cap b) : n = 0 ∧ cap = 0 ∧ b = [] := by
  have h1 := h.ha rfl
  have h2 := h.hc
  have h3 := h.len
  exact ⟨by omega, h1, List.eq_nil_of_length_eq_zero (by omega)⟩
/-- Some of them. -/
theorem ByL.sub {r off : Nat} (h : ByL w (some ⟨r, off, none⟩) n cap b) (lo m : Nat) (hm : lo + m ≤ n) : ByL w (some ⟨r, off + lo, none⟩) m (cap - lo) ((b.drop lo).take m) := by
  have hl := h.len
  have hc := h.hc
  refine ⟨⟨by simp; omega, ?_⟩, by omega, by have := h.hm; omega, (fun e => by cases e), (h.hb.drop _).take _⟩
  by_cases h0 : m = 0
  · exact .inl h0
  · obtain ⟨r', off', e, hr, hx, _⟩ := h.hi.at_ (j := 0) (by omega)
    injection e with e
    injection e with e1 e2
    subst e1
    refine .inr ⟨_, _, rfl, hr, by omega, fun j hj => ?_⟩
    rw [Nat.add_assoc, h.cell (j := lo + j) (by omega)]
    simp [List.getD, hj]
theorem ByL.zero {r off : Nat} (h : ByL w (some ⟨r, off, none⟩) n cap b) (m : Nat) (hm : m ≤ n) : ByL w (some ⟨r, off, none⟩) m cap (b.take m) := by
  have := h.sub 0 m (by omega)
  simpa using this
end

/-! ### May they begin a packet? -/
/-- The checks of the first k bytes. -/
def formK (b : List Int) (k : Nat) : Prop := (0 < k → b.getD 0 0 = 83) ∧ (1 < k → b.getD 1 0 = 66) ∧ (2 < k → b.getD 2 0 = 0 ∨ b.getD 2 0 = 1)
theorem formK_all {b : List Int} (h : formK b (min b.length 3)) : formP b = true := (formP_iff b).2 ⟨fun l => h.1 (by omega), fun l => h.2.1 (by omega), fun l => h.2.2 (by omega)⟩
theorem formK_no {b : List Int} {k : Nat} (h : k < b.length) (h0 : k = 0 → b.getD 0 0 ≠ 83) (h1 : k = 1 → b.getD 1 0 ≠ 66) (h2 : k = 2 → b.getD 2 0 ≠ 0 ∧ b.getD 2 0 ≠ 1) (h3 : k < 3) : formP b = false := by
  rw [Bool.eq_false_iff]
  intro c
  obtain ⟨c0, c1, c2⟩ := (formP_iff b).1 c
  have : k = 0 ∨ k = 1 ∨ k = 2 := by omega
  rcases this with rfl | rfl | rfl
  · exact h0 rfl (c0 h)
  · exact h1 rfl (c1 h)
  · rcases c2 h with e | e
    · exact (h2 rfl).1 e
    · exact (h2 rfl).2 e
set_option maxRecDepth 100000 in
set_option maxHeartbeats 2000000 in
theorem mayBegin_any (a : Option Addr) (n cap : Nat) (b : List Int) (w : World) (h : ByL w a n cap b) :
    Calls Try.prog 29 #[.slice a n cap] w fun e w' => e = .returned (.bool (formP b)) ∧ w = w' := by
  have hl := h.len
  have hc := h.hc
  have hm := h.hm
  cases a with
  | none =>
    obtain ⟨rfl, rfl, rfl⟩ := h.none_
    clear h hl hc hm
    go_enter Try.func29, Try.ntmps29
    go_wp2
    go_loop [11] (fun i => i = .int .i64 0) (fun _ => 0)
    case atStart => rfl
    case round =>
      obtain rfl := hrel
      go_wp2
      go_ret
      exact ⟨rfl, rfl⟩
  | some x =>
    by_cases h0 : 0 < n
    · obtain ⟨r, off, e⟩ := h.form h0
      injection e with e
      subst e
      have HH := Lib.hid h
      have HL := Lib.hid hl
      by_cases h3 : 3 < n
      · have HM : RowKit.Hid (min b.length 3 = 3) := by show _ = _; rw [hl]; omega
        clear h hl
        go_enter Try.func29, Try.ntmps29
        go_wp2
        go_loop [11] (fun i => ∃ k : Nat, k ≤ 3 ∧ i = .int .i64 k ∧ RowKit.Hid (formK b k)) (fun i => 3 - (intOf i).toNat)
        case atStart => exact ⟨0, by omega, rfl, fun h => by omega, fun h => by omega, fun h => by omega⟩
        case round =>
          obtain ⟨k, hk, rfl, H⟩ := hrel
          by_cases hlt : k < 3
          · have hcell := HH.out.cell (j := k) (by omega)
            have HK : RowKit.Hid (k < b.length) := by show _ < _; rw [HL.out]; omega
            obtain ⟨x, hx⟩ : ∃ x, b.getD k 0 = x := ⟨_, rfl⟩
            rw [hx] at hcell
            have HX := Lib.hid hx
            clear hx
            have : k = 0 ∨ k = 1 ∨ k = 2 := by omega
            rcases this with rfl | rfl | rfl
            · rw [Nat.add_zero] at hcell
              by_cases c : x = 83
              · have q : (x != 83) = false := by simp [c]
                have HN : RowKit.Hid (formK b 1) := ⟨fun _ => by rw [HX.out]; exact c, fun h => by omega, fun h => by omega⟩
                clear c
                go_wp2
                go_round
                case rel => exact ⟨1, by omega, rfl, HN.out⟩
                case measure => simp [intOf] <;> omega
              · have q : (x != 83) = true := by simpa using c
                have HN := Lib.hid (formK_no HK.out (fun _ => by rw [HX.out]; exact c) (fun h => by omega) (fun h => by omega) (by omega))
                clear c
                go_wp2
                go_ret
                exact ⟨ret_bool HN.out.symm, rfl⟩
            · by_cases c : x = 66
              · have q : (x != 66) = false := by simp [c]
                have HN : RowKit.Hid (formK b 2) := ⟨fun _ => H.out.1 (by omega), fun _ => by rw [HX.out]; exact c, fun h => by omega⟩
                clear c
                go_wp2
                go_round
                case rel => exact ⟨2, by omega, rfl, HN.out⟩
                case measure => simp [intOf] <;> omega
              · have q : (x != 66) = true := by simpa using c
                have HN := Lib.hid (formK_no HK.out (fun h => by omega) (fun _ => by rw [HX.out]; exact c) (fun h => by omega) (by omega))
                clear c
                go_wp2
                go_ret
                exact ⟨ret_bool HN.out.symm, rfl⟩
            · by_cases c : x = 0 ∨ x = 1
              · have HN : RowKit.Hid (formK b 3) := ⟨fun _ => H.out.1 (by omega), fun _ => H.out.2.1 (by omega), fun _ => by rw [HX.out]; exact c⟩
                have HN2 := Lib.hid c
                by_cases c0 : x = 0
                · subst c0
                  clear c
                  go_wp2
                  go_round
                  case rel => exact ⟨3, by omega, rfl, HN.out⟩
                  case measure => simp [intOf] <;> omega
                · have c1 : x = 1 := c.resolve_left c0
                  subst c1
                  clear c c0
                  go_wp2
                  go_round
                  case rel => exact ⟨3, by omega, rfl, HN.out⟩
                  case measure => simp [intOf] <;> omega
              · have q0 : (x != 0) = true := by simp; omega
                have q1 : (x != 1) = true := by simp; omega
                have HN := Lib.hid (formK_no HK.out (fun h => by omega) (fun h => by omega) (fun _ => by rw [HX.out]; omega) (by omega))
                clear c
                go_wp2
                go_ret
                exact ⟨ret_bool HN.out.symm, rfl⟩
          · obtain rfl : k = 3 := by omega
            go_wp2
            go_ret
            exact ⟨ret_bool (by rw [formK_all (by rw [HM.out]; exact H.out)]), rfl⟩
      · have HM : RowKit.Hid (min b.length 3 = n) := by show _ = _; rw [hl]; omega
        clear h hl
        go_enter Try.func29, Try.ntmps29
        go_wp2
        go_loop [11] (fun i => ∃ k : Nat, k ≤ n ∧ i = .int .i64 k ∧ RowKit.Hid (formK b k)) (fun i => n - (intOf i).toNat)
        case atStart => exact ⟨0, by omega, rfl, fun h => by omega, fun h => by omega, fun h => by omega⟩
        case round =>
          obtain ⟨k, hk, rfl, H⟩ := hrel
          by_cases hlt : k < n
          · have hcell := HH.out.cell (j := k) (by omega)
            have HK : RowKit.Hid (k < b.length) := by show _ < _; rw [HL.out]; omega
            obtain ⟨x, hx⟩ : ∃ x, b.getD k 0 = x := ⟨_, rfl⟩
            rw [hx] at hcell
            have HX := Lib.hid hx
            clear hx
            have : k = 0 ∨ k = 1 ∨ k = 2 := by omega
            rcases this with rfl | rfl | rfl
            · rw [Nat.add_zero] at hcell
              by_cases c : x = 83
              · have q : (x != 83) = false := by simp [c]
                have HN : RowKit.Hid (formK b 1) := ⟨fun _ => by rw [HX.out]; exact c, fun h => by omega, fun h => by omega⟩
                clear c
                go_wp2
                go_round
                case rel => exact ⟨1, by omega, rfl, HN.out⟩
                case measure => simp [intOf] <;> omega
              · have q : (x != 83) = true := by simpa using c
                have HN := Lib.hid (formK_no HK.out (fun _ => by rw [HX.out]; exact c) (fun h => by omega) (fun h => by omega) (by omega))
                clear c
                go_wp2
                go_ret
                exact ⟨ret_bool HN.out.symm, rfl⟩
            · by_cases c : x = 66
              · have q : (x != 66) = false := by simp [c]
                have HN : RowKit.Hid (formK b 2) := ⟨fun _ => H.out.1 (by omega), fun _ => by rw [HX.out]; exact c, fun h => by omega⟩
                clear c
                go_wp2
                go_round
                case rel => exact ⟨2, by omega, rfl, HN.out⟩
                case measure => simp [intOf] <;> omega
              · have q : (x != 66) = true := by simpa using c
                have HN := Lib.hid (formK_no HK.out (fun h => by omega) (fun _ => by rw [HX.out]; exact c) (fun h => by omega) (by omega))
                clear c
                go_wp2
                go_ret
                exact ⟨ret_bool HN.out.symm, rfl⟩
            · by_cases c : x = 0 ∨ x = 1
              · have HN : RowKit.Hid (formK b 3) := ⟨fun _ => H.out.1 (by omega), fun _ => H.out.2.1 (by omega), fun _ => by rw [HX.out]; exact c⟩
                have HN2 := Lib.hid c
                by_cases c0 : x = 0
                · subst c0
                  clear c
                  go_wp2
                  go_round
                  case rel => exact ⟨3, by omega, rfl, HN.out⟩
                  case measure => simp [intOf] <;> omega
                · have c1 : x = 1 := c.resolve_left c0
                  subst c1
                  clear c c0
                  go_wp2
                  go_round
                  case rel => exact ⟨3, by omega, rfl, HN.out⟩
                  case measure => simp [intOf] <;> omega
              · have q0 : (x != 0) = true := by simp; omega
                have q1 : (x != 1) = true := by simp; omega
                have HN := Lib.hid (formK_no HK.out (fun h => by omega) (fun h => by omega) (fun _ => by rw [HX.out]; omega) (by omega))
                clear c
                go_wp2
                go_ret
                exact ⟨ret_bool HN.out.symm, rfl⟩
          · obtain rfl : k = n := by omega
            go_wp2
            go_ret
            exact ⟨ret_bool (by rw [formK_all (by rw [HM.out]; exact H.out)]), rfl⟩
    · obtain rfl : n = 0 := by omega
      have hb0 : b = [] := List.eq_nil_of_length_eq_zero hl
      subst hb0
      clear h hl hc hm
      go_enter Try.func29, Try.ntmps29
      go_wp2
      go_loop [11] (fun i => i = .int .i64 0) (fun _ => 0)
      case atStart => rfl
      case round =>
        obtain rfl := hrel
        go_wp2
        go_ret
        exact ⟨rfl, rfl⟩

/-! ### Where the payload ends -/
def endE (b : List Int) : Int := if formP b = true then if b.length < 13 then 2 else if 600 < lenP b then 5 else if b.length < 17 + lenP b then 2 else 0 else 3
def endV (b : List Int) : Int := if endE b = 0 then 13 + lenP b else 0
theorem endE_zero {b : List Int} (h : endE b = 0) : formP b = true ∧ 13 ≤ b.length ∧ lenP b ≤ 600 ∧ 17 + lenP b ≤ b.length := by
  unfold endE at h
  split at h
  · split at h
    · omega
    · split at h
      · omega
      · split at h
        · omega
        · exact ⟨by assumption, by omega, by omega, by omega⟩
  · omega
theorem prsE_end {b : List Int} (h : endE b ≠ 0) : prsE b = endE b := by
  unfold endE at h ⊢
  unfold prsE
  by_cases f : formP b = true
  · rw [if_pos f, if_pos f] at *
    by_cases l : b.length < 13
    · rw [if_pos l, if_pos l]
    · rw [if_neg l] at h
      rw [if_neg l, if_neg l]
      by_cases m : 600 < lenP b
      · rw [if_pos m, if_pos m]
      · rw [if_neg m] at h
        rw [if_neg m, if_neg m]
        by_cases q : b.length < 17 + lenP b
        · rw [if_pos q, if_pos q]
        · rw [if_neg q] at h; exact absurd rfl h
  · rw [if_neg f, if_neg f]
theorem endE_cases (b : List Int) : endE b = 0 ∨ endE b = 2 ∨ endE b = 3 ∨ endE b = 5 := by
  unfold endE
  repeat' split
  all_goals simp
set_option maxRecDepth 100000 in
set_option maxHeartbeats 2000000 in
theorem payloadEnd_any (a : Option Addr) (n cap : Nat) (b : List Int) (w : World) (h : ByL w a n cap b) (hn : n ≤ 1000000) :
    Calls Try.prog 19 #[.slice a n cap] w fun e w' => e = .returned (.tuple #[.int .i64 (endV b), .int .i64 (endE b)]) ∧ Below w.heap.size w w' := by
  have HL := Lib.hid h.len
  have HM := Lib.hid (mayBegin_any a n cap b w h)
  by_cases f : formP b = true
  · rw [f] at HM
    by_cases l : n < 13
    · have E : RowKit.Hid (endV b = 0 ∧ endE b = 2) := by
        have e : endE b = 2 := by unfold endE; rw [if_pos f, if_pos (by rw [HL.out]; exact l)]
        exact ⟨by unfold endV; rw [e]; rfl, e⟩
      clear h f
      go_enter Try.func19, Try.ntmps19
      go_wp2_with (go_at_call 29; refine HM.out.mono ?_; rintro e w1 ⟨rfl, rfl⟩)
      go_ret2
      exact ⟨by rw [E.out.1, E.out.2]; rfl, Below.refl _ _⟩
    · obtain ⟨r, off, rfl⟩ := h.form (by omega)
      have hc := h.hc
      have hm := h.hm
      have HN := Lib.hid (number19_any _ 2 (cap - 11) ((b.drop 11).take 2) w (h.sub 11 2 (by omega)).hi ((h.hb.drop _).take _) (by omega))
      obtain ⟨e1, e2⟩ := lenP_bd h.hb
      obtain ⟨z, hz⟩ : ∃ z, lenP b = z := ⟨_, rfl⟩
      rw [← e1, hz] at HN
      rw [hz] at e2
      have d1 : ¬ n < 13 := l
      by_cases m : 600 < z
      · have E : RowKit.Hid (endV b = 0 ∧ endE b = 5) := by
          have e : endE b = 5 := by unfold endE; rw [if_pos f, if_neg (by rw [HL.out]; exact l), if_pos (by omega)]
          exact ⟨by unfold endV; rw [e]; rfl, e⟩
        clear h f e1 hz
        go_enter Try.func19, Try.ntmps19
        go_wp2_with (first | (go_at_call 29; refine HM.out.mono ?_; rintro e w1 ⟨rfl, rfl⟩) | (go_at_call 20; go_loud (refine HN.out.mono ?_); rintro e w1 ⟨rfl, hb⟩; have HB := Lib.hid hb; clear hb) | fail)
        go_ret2
        exact ⟨by rw [E.out.1, E.out.2]; rfl, HB.out⟩
      · by_cases q : n < 17 + z
        · have E : RowKit.Hid (endV b = 0 ∧ endE b = 2) := by
            have e : endE b = 2 := by unfold endE; rw [if_pos f, if_neg (by rw [HL.out]; exact l), if_neg (by omega), if_pos (by rw [HL.out]; omega)]
            exact ⟨by unfold endV; rw [e]; rfl, e⟩
          clear h f e1 hz
          go_enter Try.func19, Try.ntmps19
          go_wp2_with (first | (go_at_call 29; refine HM.out.mono ?_; rintro e w1 ⟨rfl, rfl⟩) | (go_at_call 20; go_loud (refine HN.out.mono ?_); rintro e w1 ⟨rfl, hb⟩; have HB := Lib.hid hb; clear hb) | fail)
          go_ret2
          exact ⟨by rw [E.out.1, E.out.2]; rfl, HB.out⟩
        · have E : RowKit.Hid (endV b = 13 + (z : Int) ∧ endE b = 0) := by
            have e : endE b = 0 := by unfold endE; rw [if_pos f, if_neg (by rw [HL.out]; exact l), if_neg (by omega), if_neg (by rw [HL.out]; omega)]
            exact ⟨by unfold endV; rw [if_pos e, hz], e⟩
          clear h f e1 hz
          go_enter Try.func19, Try.ntmps19
          go_wp2_with (first | (go_at_call 29; refine HM.out.mono ?_; rintro e w1 ⟨rfl, rfl⟩) | (go_at_call 20; go_loud (refine HN.out.mono ?_); rintro e w1 ⟨rfl, hb⟩; have HB := Lib.hid hb; clear hb) | fail)
          go_ret2
          exact ⟨by rw [E.out.1, E.out.2]; rfl, HB.out⟩
  · have f' : formP b = false := by simpa using f
    rw [f'] at HM
    have E : RowKit.Hid (endV b = 0 ∧ endE b = 3) := by
      have e : endE b = 3 := by unfold endE; rw [if_neg f]
      exact ⟨by unfold endV; rw [e]; rfl, e⟩
    clear h f f'
    go_enter Try.func19, Try.ntmps19
    go_wp2_with (go_at_call 29; refine HM.out.mono ?_; rintro e w1 ⟨rfl, rfl⟩)
    go_ret2
    exact ⟨by rw [E.out.1, E.out.2]; rfl, Below.refl _ _⟩

/-! ### Parse -/
/-- No packet. -/
def pkZ : Value := .agg #[.int .u32 0, .int .u32 0, .bool false, .slice none 0 0]
theorem info19_pk : (Try.prog.info? 25).map (·.size) = some 4 := by kernel_rfl
theorem info19_rpk : (Try.prog.info? 33).map (·.size) = some 4 := by kernel_rfl
/-- A result that lies in memory, and two beside it. -/
theorem results19_3 {fn : Func} {p u x : Tmp} {ty : TypeId} {tmps : Array Value} {P : Program} {w : World} {g : Nat} {v v' v'' : Value} (h : fn.results = #[.cell p ty, .tmp u, .tmp x]) (hp : tmps.getD p undef = .pointer (some ⟨g, 0, none⟩)) (hv : tmps.getD u undef = v') (hv2 : tmps.getD x undef = v'')
    (e : (loadVar ty ⟨g, 0, none⟩).run P w = .ok v w) : (results fn tmps).run P w = .ok (.tuple #[v, v', v'']) w := by
  have hp' : tmps[p]?.getD undef = .pointer (some ⟨g, 0, none⟩) := by simpa using hp
  have hv' : tmps[u]?.getD undef = v' := by simpa using hv
  have hv2' : tmps[x]?.getD undef = v'' := by simpa using hv2
  simp only [results, h]
  simp [Sem.run_bind, hp', hv', hv2', asAddr, Result.andThen, e]
theorem frz4 {w : World} {g : Nat} {t : TypeId} {cs : Array Value} (h : Cel w g t cs) : w.frozen? ⟨g, 0, none⟩ = false ∧ w.frozen? ⟨g, 1, none⟩ = false ∧ w.frozen? ⟨g, 2, none⟩ = false ∧ w.frozen? ⟨g, 3, none⟩ = false := ⟨h.frozen 0, h.frozen 1, h.frozen 2, h.frozen 3⟩
/-- Four cells of a block are written. -/
theorem below_set4 {B : Nat} {w w' : World} {g : Nat} (h : Below B w w') (hg : B ≤ g) (a b c d : Value) : Below B w ((((w'.setCell ⟨g, 0, none⟩ a).setCell ⟨g, 1, none⟩ b).setCell ⟨g, 2, none⟩ c).setCell ⟨g, 3, none⟩ d) :=
  (((h.setCell (p := ⟨g, 0, none⟩) hg a).setCell (p := ⟨g, 1, none⟩) hg b).setCell (p := ⟨g, 2, none⟩) hg c).setCell (p := ⟨g, 3, none⟩) hg d
theorem cel_set4 {w : World} {g : Nat} {t : TypeId} {cs : Array Value} (h : Cel w g t cs) (hs : cs.size = 4) (a b c d : Value) : Cel ((((w.setCell ⟨g, 0, none⟩ a).setCell ⟨g, 1, none⟩ b).setCell ⟨g, 2, none⟩ c).setCell ⟨g, 3, none⟩ d) g t #[a, b, c, d] := by
  have k := (((h.set_ 0 a).set_ 1 b).set_ 2 c).set_ 3 d
  have e : (((cs.setIfInBounds 0 a).setIfInBounds 1 b).setIfInBounds 2 c).setIfInBounds 3 d = #[a, b, c, d] := by
    obtain ⟨l⟩ := cs
    match l, hs with
    | [_, _, _, _], _ => rfl
  rw [e] at k
  exact k
set_option maxRecDepth 100000 in
set_option maxHeartbeats 2000000 in
theorem parse_no (a : Option Addr) (n cap : Nat) (b : List Int) (w : World) (h : ByL w a n cap b) (hn : n ≤ 1000000) (he : prsE b ≠ 0) :
    Calls Try.prog 8 #[.slice a n cap] w fun e w' => e = .returned (.tuple #[pkZ, .int .i64 0, .int .i64 (prsE b)]) ∧ Below w.heap.size w w' := by
  by_cases h0 : endE b = 0
  · obtain ⟨f, l, m6, q⟩ := endE_zero h0
    have hl := h.len
    obtain ⟨r, off, rfl⟩ := h.form (by omega)
    have hs : sumP b ≠ crcP (b.take (13 + lenP b)) := fun c => he (prsE_all f l m6 q c)
    have E := Lib.hid (prsE_sum f l m6 q hs)
    have hc := h.hc
    have hm := h.hm
    have hV : endV b = ((13 + lenP b : Nat) : Int) := by unfold endV; rw [if_pos h0]; omega
    obtain ⟨m, hmm⟩ : ∃ m, 13 + lenP b = m := ⟨_, rfl⟩
    unfold sumP at hs
    rw [hmm] at hV hs
    have hm4 : m + 4 ≤ n := by omega
    have hm1 : 13 ≤ m := by omega
    have HP := Lib.hid (fun W (hb : Below w.heap.size w W) => payloadEnd_any _ n cap b W (h.below hb) hn)
    rw [h0, hV] at HP
    have CN := Lib.hid (fun W (hb : Below w.heap.size w W) => number19_any (some ⟨r, off + m, none⟩) 4 (cap - m) ((b.drop m).take 4) W ((h.below hb).sub m 4 hm4).hi ((h.hb.drop _).take _) (by omega))
    have CO := Lib.hid (fun W (hb : Below w.heap.size w W) => checkOf_any (some ⟨r, off, none⟩) m cap (b.take m) W ((h.below hb).zero m (by omega)).hi ((h.hb.take _).at_ _) (by omega))
    have hq : (valL19 ((b.drop m).take 4) != crcP (b.take m)) = true := by simpa using hs
    generalize valL19 ((b.drop m).take 4) = y at CN hq
    generalize crcP (b.take m) = x at CO hq
    have HB := Lib.hid (Below.alloc_new w (.cells #[.int .u32 0, .int .u32 0, .bool false, .slice none 0 0] 25))
    have HC := Lib.hid (Cel.new w 25 #[.int .u32 0, .int .u32 0, .bool false, .slice none 0 0])
    have t1 : IntKind.i64.wrap ((m : Int) + 4) = (m : Int) + 4 := IntWalk.i64_in _ (by omega)
    clear h he h0 hmm hs hV f l m6 q
    go_enter Try.func8, Try.ntmps8
    go_wp2_with (first | (go_at_call 19; go_loud (refine (HP.out _ HB.out).mono ?_); rintro e w1 ⟨rfl, hb⟩; have HB2 := Lib.hid (chain HB.out hb); have HC2 := Lib.hid (HC.out.below hb); clear hb) | fail)
    clear HP HB HC
    have s1 : (0 : Int) ≤ (m : Int) := by omega
    have s2 : (m : Int) ≤ (m : Int) + 4 := by omega
    have s3 : (m : Int) + 4 ≤ (cap : Int) := by omega
    have s4 : (m : Int) ≤ (cap : Int) := by omega
    have s5 : ((m : Int) + 4).toNat = m + 4 := by omega
    have s6 : ¬ cap = m := by omega
    go_region_held3 (fun w' => True) (go_keep)
      (first
        | (go_at_call 20; go_loud (refine (CN.out _ (Below.drewN' HB2.out 1)).mono ?_); rintro e w3 ⟨rfl, hb⟩; have HB3 : RowKit.Hid (Below w1.heap.size w1 w3) := (Below.drewN' (Below.refl _ w1) 1).trans hb; clear hb)
        | (go_at_call 18; go_loud (refine (CO.out _ (chain HB2.out HB3.out)).mono ?_); rintro e w4 ⟨rfl, hb⟩; have HB4 := Lib.hid (chain HB3.out hb); clear hb)
        | fail)
    have HB5 := Lib.hid (chain HB2.out HB4.out)
    have HC5 := Lib.hid (HC2.out.below HB4.out)
    clear s1 s2 s3 s4 s5 s6 t1 CN CO HB2 HC2 HB3 HB4
    obtain ⟨c0, c1, c2, c3⟩ := cel4 HC5.out
    obtain ⟨f0, f1, f2, f3⟩ := frz4 HC5.out
    go_wp2
    refine bodyPost_ret (results19_3 rfl rfl rfl rfl (run_loadVar_row _ w.heap.size _ _ _ (0, 0) _ (cel_set4 HC5.out rfl _ _ _ _) Try.underlying25 rfl info19_pk)) rfl ?_
    exact ⟨by rw [E.out]; rfl, below_set4 HB5.out (Nat.le_refl _) _ _ _ _⟩
  · have E := Lib.hid (prsE_end h0)
    obtain ⟨z, hz⟩ : ∃ z, endE b = z := ⟨_, rfl⟩
    have HP := Lib.hid (fun W (hb : Below w.heap.size w W) => payloadEnd_any a n cap b W (h.below hb) hn)
    rw [hz] at h0 HP E
    have q : (z != 0) = true := by simpa using h0
    have q2 : (z == 0) = false := by simpa using h0
    have HB := Lib.hid (Below.alloc_new w (.cells #[.int .u32 0, .int .u32 0, .bool false, .slice none 0 0] 25))
    have HC := Lib.hid (Cel.new w 25 #[.int .u32 0, .int .u32 0, .bool false, .slice none 0 0])
    clear h he h0 hz
    go_enter Try.func8, Try.ntmps8
    go_wp2_with (go_at_call 19; go_loud (refine (HP.out _ HB.out).mono ?_); rintro e w1 ⟨rfl, hb⟩; have HB2 := Lib.hid (chain HB.out hb); have HC2 := Lib.hid (HC.out.below hb); obtain ⟨c0, c1, c2, c3⟩ := cel4 HC2.out; obtain ⟨f0, f1, f2, f3⟩ := frz4 HC2.out; clear hb)
    refine bodyPost_ret (results19_3 rfl rfl rfl rfl (run_loadVar_row _ w.heap.size _ _ _ (0, 0) _ (cel_set4 HC2.out rfl _ _ _ _) Try.underlying25 rfl info19_pk)) rfl ?_
    exact ⟨by rw [E.out]; rfl, below_set4 HB2.out (Nat.le_refl _) _ _ _ _⟩

/-- The packet, its payload in memory of the call's own. -/
def ParsePost (b : List Int) (w : World) (x : Ending) (w' : World) : Prop :=
  ∃ v, x = .returned (.tuple #[.agg #[.int .u32 (pkOf b).ep, .int .u32 (pkOf b).nu, .bool (pkOf b).wh, v], .int .i64 ((17 + lenP b : Nat) : Int), .int .i64 0]) ∧ w'.ownsRow w.heap.size 5 1 v (pkOf b).pl.length ((pkOf b).pl.map (Value.int .u8)) ∧ Below w.heap.size w w'
set_option maxRecDepth 100000 in
set_option maxHeartbeats 2000000 in
theorem parse_ok (a : Option Addr) (n cap : Nat) (b : List Int) (w : World) (h : ByL w a n cap b) (hn : n ≤ 1000000) (he : prsE b = 0) :
    Calls Try.prog 8 #[.slice a n cap] w (ParsePost b w) := by
  obtain ⟨f, l, m6, q, hs⟩ := prsE_ok he
  have h0 : endE b = 0 := by unfold endE; rw [if_pos f, if_neg (by omega), if_neg (by omega), if_neg (by omega)]
  have hl := h.len
  obtain ⟨r, off, rfl⟩ := h.form (by omega)
  have hc := h.hc
  have hm := h.hm
  have hV : endV b = ((13 + lenP b : Nat) : Int) := by unfold endV; rw [if_pos h0]; omega
  have E : RowKit.Hid ((pkOf b).pl = (b.drop 13).take (lenP b) ∧ (pkOf b).pl.length = lenP b) := ⟨rfl, by show ((b.drop 13).take (lenP b)).length = _; simp; omega⟩
  obtain ⟨m, hmm⟩ : ∃ m, 13 + lenP b = m := ⟨_, rfl⟩
  unfold sumP at hs
  rw [hmm] at hV hs
  have hz : lenP b = m - 13 := by omega
  have hm4 : m + 4 ≤ n := by omega
  have hm1 : 13 ≤ m := by omega
  have HP := Lib.hid (fun W (hb : Below w.heap.size w W) => payloadEnd_any _ n cap b W (h.below hb) hn)
  rw [h0, hV] at HP
  have CN := Lib.hid (fun W (hb : Below w.heap.size w W) => number19_any (some ⟨r, off + m, none⟩) 4 (cap - m) ((b.drop m).take 4) W ((h.below hb).sub m 4 hm4).hi ((h.hb.drop _).take _) (by omega))
  have CO := Lib.hid (fun W (hb : Below w.heap.size w W) => checkOf_any (some ⟨r, off, none⟩) m cap (b.take m) W ((h.below hb).zero m (by omega)).hi ((h.hb.take _).at_ _) (by omega))
  have CE := Lib.hid (fun W (hb : Below w.heap.size w W) => number19_any (some ⟨r, off + 3, none⟩) 4 (cap - 3) ((b.drop 3).take 4) W ((h.below hb).sub 3 4 (by omega)).hi ((h.hb.drop _).take _) (by omega))
  have CU := Lib.hid (fun W (hb : Below w.heap.size w W) => number19_any (some ⟨r, off + 7, none⟩) 4 (cap - 7) ((b.drop 7).take 4) W ((h.below hb).sub 7 4 (by omega)).hi ((h.hb.drop _).take _) (by omega))
  have CA := Lib.hid (fun W (hb : Below w.heap.size w W) => apart_any (some ⟨r, off + 13, none⟩) (m - 13) (cap - 13) ((b.drop 13).take (m - 13)) W ((h.below hb).sub 13 (m - 13) (by omega)).hi (fun e => by cases e) (by omega))
  have C2 := Lib.hid (fun W (hb : Below w.heap.size w W) => (h.below hb).cell (j := 2) (by omega))
  have hq : (valL19 ((b.drop m).take 4) != crcP (b.take m)) = false := by simpa using hs
  have EP : RowKit.Hid ((pkOf b).ep = valL19 ((b.drop 3).take 4) ∧ (pkOf b).nu = valL19 ((b.drop 7).take 4) ∧ (pkOf b).wh = (b.getD 2 0 == 1)) := ⟨rfl, rfl, rfl⟩
  rw [hz] at E
  obtain ⟨e1, e2⟩ := E.out
  have E2 := Lib.hid e2
  rw [← e1] at CA
  have EN : RowKit.Hid (17 + lenP b = m + 4) := by show _ = _; omega
  generalize valL19 ((b.drop m).take 4) = y at CN hq
  generalize crcP (b.take m) = x at CO hq
  generalize valL19 ((b.drop 3).take 4) = ep at CE EP
  generalize valL19 ((b.drop 7).take 4) = nu at CU EP
  generalize b.getD 2 0 = b2 at C2 EP
  have HB := Lib.hid (Below.alloc_new w (.cells #[.int .u32 0, .int .u32 0, .bool false, .slice none 0 0] 25))
  have HC := Lib.hid (Cel.new w 25 #[.int .u32 0, .int .u32 0, .bool false, .slice none 0 0])
  have t1 : IntKind.i64.wrap ((m : Int) + 4) = (m : Int) + 4 := IntWalk.i64_in _ (by omega)
  clear h he h0 hmm hs hV f l m6 q hz e1 e2 E
  obtain ⟨pl, hpl⟩ : ∃ pl, (pkOf b).pl = pl := ⟨_, rfl⟩
  rw [hpl] at CA E2
  have HPL := Lib.hid hpl
  clear hpl
  go_enter Try.func8, Try.ntmps8
  go_wp2_with (first | (go_at_call 19; go_loud (refine (HP.out _ HB.out).mono ?_); rintro e w1 ⟨rfl, hb⟩; have HB2 := Lib.hid (chain HB.out hb); have HC2 := Lib.hid (HC.out.below hb); clear hb) | fail)
  clear HP HB HC
  have s1 : (0 : Int) ≤ (m : Int) := by omega
  have s2 : (m : Int) ≤ (m : Int) + 4 := by omega
  have s3 : (m : Int) + 4 ≤ (cap : Int) := by omega
  have s4 : (m : Int) ≤ (cap : Int) := by omega
  have s5 : ((m : Int) + 4).toNat = m + 4 := by omega
  have s6 : ¬ cap = m := by omega
  go_region_held3 (fun w' => True) (go_keep)
    (first
      | (go_at_call 20; go_loud (refine (CN.out _ (Below.drewN' HB2.out 1)).mono ?_); rintro e w3 ⟨rfl, hb⟩; have HB3 : RowKit.Hid (Below w1.heap.size w1 w3) := (Below.drewN' (Below.refl _ w1) 1).trans hb; clear hb)
      | (go_at_call 18; go_loud (refine (CO.out _ (chain HB2.out HB3.out)).mono ?_); rintro e w4 ⟨rfl, hb⟩; have HB4 := Lib.hid (chain HB3.out hb); clear hb)
      | fail)
  have HB5 := Lib.hid (chain HB2.out HB4.out)
  have HC5 := Lib.hid (HC2.out.below HB4.out)
  clear s2 s3 s5 s6 t1 CN CO HB2 HC2 HB3 HB4
  go_wp2
  have k4 := C2.out _ HB5.out
  have hr0 := cell_block (C2.out w (Below.refl _ _))
  simp only at hr0
  have hr1 : ¬ r = w.heap.size := by omega
  have hr2 : ¬ w.heap.size = r := by omega
  have s2 : (13 : Int) ≤ (m : Int) := by omega
  have s3 : (7 : Int) ≤ (cap : Int) := by omega
  have s5 : (11 : Int) ≤ (cap : Int) := by omega
  have s6 : ¬ cap = 3 := by omega
  have s7 : ¬ cap = 7 := by omega
  have s8 : ¬ cap = 13 := by omega
  have s9 : (2 : Int) < (n : Int) := by omega
  go_region_held3 (fun w' => w'.cell? ⟨r, off + 2, none⟩ = some (.int .u8 b2)) (go_keep)
    (first
      | (go_at_call 20; have HBu := HB6.out; go_loud (refine (CU.out _ (chain HB5.out HB6.out)).mono ?_); rintro e w7 ⟨rfl, hb⟩; have HB7 := Lib.hid (chain HB6.out hb); have k7 := C2.out _ (chain HB5.out HB7.out); clear hb HBu)
      | (go_at_call 20; go_loud (refine (CE.out _ (Below.drewN' HB5.out 1)).mono ?_); rintro e w6 ⟨rfl, hb⟩; have HB6 : RowKit.Hid (Below w4.heap.size w4 w6) := (Below.drewN' (Below.refl _ w4) 1).trans hb; have k6 := C2.out _ (chain HB5.out HB6.out); clear hb)
      | (go_at_call 21; go_loud (refine (CA.out _ (chain HB5.out HB7.out)).mono ?_); rintro e w8 ⟨v8, rfl, ho, hb⟩; obtain ⟨a8, c8, rfl⟩ := own_form ho; have HB8 := Lib.hid (chain HB7.out hb); have k8 := C2.out _ (chain HB5.out HB8.out); have HO := Lib.hid (own_lower ho (show w.heap.size + 1 ≤ _ from Nat.le_trans HC5.out.lt HB7.out.size)); have HC8 := Lib.hid (HC5.out.below HB8.out); obtain ⟨c0, c1, c2, c3⟩ := cel4 HC8.out; obtain ⟨f0, f1, f2, f3⟩ := frz4 HC8.out; clear hb ho)
      | fail)
  have HB9 := Lib.hid (chain HB5.out HB8.out)
  clear s1 s2 s3 s4 s5 s6 s7 s8 s9 hr1 hr2 k4 k6 k7 k8 CE CU CA C2 HB6 HB7 HB8 HB5 HC5
  go_wp2
  refine bodyPost_ret (results19_3 rfl rfl rfl rfl (run_loadVar_row _ w.heap.size _ _ _ (0, 0) _ (cel_set4 HC8.out rfl _ _ _ _) Try.underlying25 rfl info19_pk)) rfl ?_
  refine ⟨_, by rw [EP.out.1, EP.out.2.1, EP.out.2.2, EN.out]; rfl, ?_, below_set4 HB9.out (Nat.le_refl _) _ _ _ _⟩
  have hne : ∀ k, (Value.slice a8 pl.length c8).ownBlock = some k → k ≠ w.heap.size := fun k hk => by have := own_base HO.out k hk; omega
  rw [HPL.out]
  exact own_lower (own_far (own_far (own_far (own_far HO.out (p := ⟨w.heap.size, 0, none⟩) hne _) (p := ⟨w.heap.size, 1, none⟩) hne _) (p := ⟨w.heap.size, 2, none⟩) hne _) (p := ⟨w.heap.size, 3, none⟩) hne _) (Nat.le_succ _)
end Go.Proofs.Ytcjikbddnceigaa
