/- Texts opened by the document's answer. -/
import Derived.Test.YtkledfalplekeaaDoorWrdO
namespace Go.Proofs.YtkledfalplekeaaDoor
open Go.RowKit Go.PlainAid
set_option linter.unusedVariables false

def hor (f : Nat → UInt8) : Nat → Nat
  | 0 => 0
  | k + 1 => 64 * hor f k + vz (f k)
def lf (f : Nat → UInt8) (k : Nat) : Nat := if k ≤ 2 then 3 else if k = 3 then (if f 2 = 61 then 1 else 3) else leftF (f 2) (f 3)
theorem hor_lt (f : Nat → UInt8) : ∀ k, hor f k < 64 ^ k
  | 0 => by simp [hor]
  | k + 1 => by
    have := hor_lt f k
    have := vz_lt (f k)
    simp only [hor, Nat.pow_succ]
    omega
theorem hor_lt24 (f : Nat → UInt8) (k : Nat) (h : k ≤ 4) : hor f k < 16777216 := by
  have := hor_lt f k
  have hp : 64 ^ k ≤ 64 ^ 4 := Nat.pow_le_pow_right (by decide) h
  have e : (64 : Nat) ^ 4 = 16777216 := by decide
  omega
theorem hor_four (f : Nat → UInt8) : hor f 4 = four (f 0) (f 1) (f 2) (f 3) := by
  simp only [hor, four]
  omega
theorem lf_bd (f : Nat → UInt8) (k : Nat) : 1 ≤ lf f k ∧ lf f k ≤ 3 := by
  unfold lf leftF
  repeat' split
  all_goals omega
/-- What stands in v when x letters were held against c. -/
def vv (c : UInt8) (x : Nat) : Int := if 0 ≤ valI c ∧ valI c < x then valI c else -1
theorem vv_zero (c : UInt8) : vv c 0 = -1 := by unfold vv; rw [if_neg]; omega
theorem vv_hit (c : UInt8) (x : Nat) (hx : x < 64) (h : lt x = c) : vv c (x + 1) = x := by
  have := (lt_val c x hx).1 h
  unfold vv
  rw [this, if_pos]
  omega
theorem vv_miss (c : UInt8) (x : Nat) (hx : x < 64) (h : ¬ lt x = c) : vv c (x + 1) = vv c x := by
  have : ¬ valI c = x := fun e => h ((lt_val c x hx).2 e)
  unfold vv
  by_cases k : 0 ≤ valI c ∧ valI c < x
  · rw [if_pos k, if_pos (by omega)]
  · rw [if_neg k, if_neg (by omega)]
theorem vv_end (c : UInt8) : vv c 64 = valI c := by
  unfold vv
  rcases val_cases c with h | h
  · rw [h, if_neg (by omega)]
  · rw [if_pos (by omega)]
theorem IntsAt.upto {w : World} {B n m : Nat} {k : IntKind} {a : Option Addr} {zs : List Int} (h : IntsAt w B k a n zs) (hm : m ≤ n) : IntsAt w B k a m (zs.take m) := by
  obtain ⟨h1, h2⟩ := h
  refine ⟨by rw [List.length_take, h1]; omega, ?_⟩
  rcases h2 with h2 | ⟨b, off, e, h3, h4, h5⟩
  · exact .inl (by omega)
  · refine .inr ⟨b, off, e, h3, by omega, fun j hj => ?_⟩
    rw [h5 j (by omega)]
    simp [List.getD, hj]
theorem openR_step (l : List UInt8) (i : Nat) (h : i + 3 < l.length) :
    openR (l.drop i) = [UInt8.ofNat (hor (fun k => l.getD (i + k) 0) 4 / 65536), UInt8.ofNat (hor (fun k => l.getD (i + k) 0) 4 / 256 % 256), UInt8.ofNat (hor (fun k => l.getD (i + k) 0) 4 % 256)].take (lf (fun k => l.getD (i + k) 0) 4) ++ openR (l.drop (i + 4)) := by
  rw [drop_cons l i (by omega), drop_cons l (i + 1) (by omega), drop_cons l (i + 1 + 1) (by omega), drop_cons l (i + 1 + 1 + 1) (by omega)]
  simp only [openR, hor_four, lf, Nat.add_zero, show i + 1 + 1 = i + 2 from rfl, show i + 2 + 1 = i + 3 from rfl, show i + 3 + 1 = i + 4 from rfl]
  rfl
theorem openR_end (l : List UInt8) (i : Nat) (h : ¬ i + 3 < l.length) : openR (l.drop i) = [] := by
  have hl : (l.drop i).length ≤ 3 := by rw [List.length_drop]; omega
  generalize l.drop i = t at hl
  match t, hl with
  | [], _ => rfl
  | [_], _ => rfl
  | [_, _], _ => rfl
  | [_, _, _], _ => rfl
  | _ :: _ :: _ :: _ :: _, h => simp at h

theorem below_n {B : Nat} {a w : World} (h : Below B a w) (n : Nat) : Below B a (w.drewN n) := ⟨h.os, h.tape, h.output, h.size, h.block⟩
theorem lf_next (f : Nat → UInt8) (k : Nat) (hk : k < 4) : lf f (k + 1) = if f k = 61 ∧ 2 ≤ k ∧ 1 < lf f k then k - 1 else lf f k := by
  unfold lf leftF
  match k, hk with
  | 0, _ => simp
  | 1, _ => simp
  | 2, _ => by_cases h : f 2 = 61 <;> simp [h]
  | 3, _ => by_cases h : f 2 = 61 <;> by_cases h2 : f 3 = 61 <;> simp [h, h2]
theorem lf_23 (f : Nat → UInt8) (k : Nat) (h : 1 < lf f k) (h2 : 2 ≤ k) (hk : k < 4) : lf f k = 3 := by
  unfold lf leftF at *
  match k, hk with
  | 2, _ => simp
  | 3, _ => by_cases h3 : f 2 = 61 <;> simp_all
theorem letter_at (x : Nat) (w : World) (h : x < 64) : Calls Tryd.prog 26 #[.int .i64 (x : Int)] w fun e w' => e = .returned (.string (ba [lt x])) ∧ w' = w := by
  refine (refLetter_any (x : Int) w (by omega) (by omega)).mono ?_
  rintro e w' ⟨⟨R, he, _, HR⟩, rfl⟩
  refine ⟨?_, rfl⟩
  rw [he, HR.out]
  simp

set_option maxHeartbeats 8000000 in
set_option maxRecDepth 1000000 in
theorem refOpen_any (s : ByteArray) (w : World) (hs : s.size ≤ 1000) :
    Calls Tryd.prog 23 #[.string s] w fun e w' => Below w.heap.size w w' ∧ ∃ (a : Option Addr) (c : Nat),
      e = .returned (.tuple #[.slice a (openR s.data.toList).length c, .bool (decide (sealL (openR s.data.toList) = s.data.toList))]) ∧ IntsAt w' w'.heap.size .u8 a (openR s.data.toList).length (bz (openR s.data.toList)) := by
  have hb := get_bt s
  have HB : RowKit.Hid (∀ k, bt s k = ((s.data.toList.getD k 0).toNat : Int)) := bt_list s
  obtain ⟨OP, hOP⟩ : ∃ o, openR s.data.toList = o := ⟨_, rfl⟩
  have HOP := Lib.hid hOP
  have hOPl : OP.length ≤ 1000 := by have := openR_len _ s.data.toList (Nat.le_refl _); rw [hOP, len_list] at this; omega
  rw [hOP]
  clear hOP
  go_enter Tryd.func23, Tryd.ntmps23
  go_wp2
  go_loopw [4, 5] (fun so si wr => ∃ (i : Nat) (acc : List UInt8), si = .int .i64 i ∧ i ≤ s.size + 4 ∧ acc.length ≤ i ∧ RowKit.Hid (wr.ownsRow w.heap.size 5 1 so acc.length ((bz acc).map (Value.int .u8))) ∧ Below w.heap.size w wr ∧ RowKit.Hid (acc ++ openR (s.data.toList.drop i) = OP)) (fun _ si _ => s.size + 8 - (intOf si).toNat)
  case atStart =>
    exact ⟨0, [], rfl, by omega, by simp, ⟨rfl, .inl ⟨rfl, rfl⟩⟩, Below.refl _ _, HOP.out⟩
  case round =>
    obtain ⟨i, acc, rfl, hi, hac, HO, hbw, HQ⟩ := hrel
    have hszw := hbw.size
    by_cases hlt : i + 3 < s.size
    · obtain ⟨f, hf⟩ : ∃ f : Nat → UInt8, (fun k => s.data.toList.getD (i + k) 0) = f := ⟨_, rfl⟩
      have HST : RowKit.Hid (acc ++ ([UInt8.ofNat (hor f 4 / 65536), UInt8.ofNat (hor f 4 / 256 % 256), UInt8.ofNat (hor f 4 % 256)].take (lf f 4) ++ openR (s.data.toList.drop (i + 4))) = OP) := by
        show _ = _
        rw [← hf, ← openR_step _ i (by rw [len_list]; exact hlt)]
        exact HQ.out
      have HF : RowKit.Hid (∀ k, bt s (i + k) = ((f k).toNat : Int)) := by
        intro k
        rw [HB.out, ← hf]
      have HX : RowKit.Hid (∀ k, k < 4 → s.extract (i + k) (i + k + 1) = ba [f k]) := by
        intro k hk
        rw [ext_list, ← hf, drop_cons _ (i + k) (by rw [len_list]; omega)]
        rfl
      clear hf HQ
      obtain ⟨w1, hw1⟩ : ∃ w1, w1 = wr := ⟨_, rfl⟩
      subst hw1
      go_wp2
      go_loopw [6, 7, 8] (fun sn sl sk wr2 => ∃ k : Nat, sn = .int .i64 (hor f k) ∧ sl = .int .i64 (lf f k) ∧ sk = .int .i64 k ∧ k ≤ 4 ∧ Below w1.heap.size w1 wr2) (fun _ _ sk _ => 4 - (intOf sk).toNat)
      case atStart => exact ⟨0, rfl, rfl, rfl, by omega, Below.refl _ _⟩
      case round =>
        obtain ⟨k, rfl, rfl, rfl, hk, hb2⟩ := hrel
        obtain ⟨w2, hw2⟩ : ∃ w2, w2 = wr := ⟨_, rfl⟩
        subst hw2
        by_cases hk4 : k < 4
        · obtain ⟨c, hc⟩ : ∃ c, f k = c := ⟨_, rfl⟩
          have hbt : bt s (i + k) = (c.toNat : Int) := by rw [HF.out, hc]
          have hcb := c.toNat_lt
          obtain ⟨B, hB⟩ : ∃ B, ba [c] = B := ⟨_, rfl⟩
          have hx : s.extract (i + k) (i + k + 1) = B := by rw [HX.out k hk4, hc, hB]
          have hBs : B.size = 1 := by rw [← hB, ba_size]; rfl
          have HBl : RowKit.Hid (B.toList = [c]) := by show _ = _; rw [← hB, Lib.toList_data]; rfl
          obtain ⟨n, hn⟩ : ∃ n, hor f k = n := ⟨_, rfl⟩
          have hn24 : n < 16777216 := by rw [← hn]; exact hor_lt24 f k (by omega)
          obtain ⟨lv, hlv⟩ : ∃ n, lf f k = n := ⟨_, rfl⟩
          have hlb := lf_bd f k
          rw [hlv] at hlb
          rw [hn, hlv]
          clear hB
          go_wp2
          go_loopw [9, 10] (fun sv sx wr3 => ∃ x : Nat, sv = .int .i64 (vv c x) ∧ sx = .int .i64 x ∧ x ≤ 64 ∧ Below w1.heap.size w1 wr3) (fun _ sx _ => 64 - (intOf sx).toNat)
          case atStart => exact ⟨0, by rw [vv_zero], rfl, by omega, hb2⟩
          case round =>
            obtain ⟨x, rfl, rfl, hx64, hb3⟩ := hrel
            obtain ⟨V, hV⟩ : ∃ V, vv c x = V := ⟨_, rfl⟩
            rw [hV]
            obtain ⟨w3, hw3⟩ : ∃ w3, w3 = wr := ⟨_, rfl⟩
            subst hw3
            by_cases hlx : x < 64
            · obtain ⟨R, hR⟩ : ∃ R, ba [lt x] = R := ⟨_, rfl⟩
              have HRl : RowKit.Hid (R.toList = [lt x]) := by show _ = _; rw [← hR, Lib.toList_data]; rfl
              have C : ∀ W, Calls Tryd.prog 26 #[.int .i64 (x : Int)] W fun e w' => e = .returned (.string R) ∧ w' = W := by intro W; rw [← hR]; exact letter_at x W hlx
              clear hR
              by_cases hh : lt x = c
              · have HV : RowKit.Hid (vv c (x + 1) = x) := vv_hit c x hlx hh
                have heq : (R.toList == B.toList) = true := by rw [HRl.out, HBl.out, hh]; simp
                clear hh
                go_wp2
                go_quiet (first | (go_at_call 26; exact Calls.quiet_of_same (C _)))
                go_wp2
                go_roundw
                case rel => exact ⟨x + 1, by rw [HV.out], by go_num, by omega, below_n hb3 nq⟩
                case measure => simp [intOf]; omega
              · have HV : RowKit.Hid (vv c (x + 1) = V) := by show _ = _; rw [vv_miss c x hlx hh, hV]
                have heq : (R.toList == B.toList) = false := by rw [HRl.out, HBl.out]; simpa using hh
                clear hh
                go_wp2
                go_quiet (first | (go_at_call 26; exact Calls.quiet_of_same (C _)))
                go_wp2
                go_roundw
                case rel => exact ⟨x + 1, by rw [HV.out], by go_num, by omega, below_n hb3 nq⟩
                case measure => simp [intOf]; omega
            · have ex : x = 64 := by omega
              subst ex
              have HVI : RowKit.Hid (V = valI c) := by show _ = _; rw [← hV, vv_end]
              have HN1 : RowKit.Hid (hor f (k + 1) = 64 * n + vz c) := by show _ = _; simp only [hor]; rw [hn, hc]
              clear hV hn
              by_cases hv0 : V < 0
              · have hvz : vz c = 0 := by unfold vz; rw [← HVI.out]; omega
                rw [hvz] at HN1
                have HL : RowKit.Hid (lf f (k + 1) = if c = 61 ∧ 2 ≤ k ∧ 1 < lv then k - 1 else lv) := by show _ = _; rw [lf_next f k hk4, hc, hlv]
                by_cases h61 : c = 61
                · subst h61
                  have e61 : ((61 : UInt8).toNat : Int) = 61 := rfl
                  rw [e61] at hbt
                  by_cases hk2 : 2 ≤ k
                  · by_cases hl1 : 1 < lv
                    · have hlv3 : lv = 3 := by rw [← hlv]; exact lf_23 f k (by rw [hlv]; exact hl1) hk2 hk4
                      have hk23 : k = 2 ∨ k = 3 := by omega
                      rcases hk23 with hk2e | hk3e
                      · subst hk2e
                        subst hlv3
                        have HL1 : RowKit.Hid (lf f (2 + 1) = 1) := HL.out
                        clear HVI HL hlv hc hvz e61
                        go_wp2
                        go_roundw
                        case rel => exact ⟨3, by rw [HN1.out]; go_num, by rw [HL1.out]; rfl, by go_num, by omega, hb3⟩
                        case measure => simp [intOf]
                      · subst hk3e
                        subst hlv3
                        have HL1 : RowKit.Hid (lf f (3 + 1) = 2) := HL.out
                        clear HVI HL hlv hc hvz e61
                        go_wp2
                        go_roundw
                        case rel => exact ⟨4, by rw [HN1.out]; go_num, by rw [HL1.out]; rfl, by go_num, by omega, hb3⟩
                        case measure => simp [intOf]
                    · have hk3e : k = 3 := by
                        have h23 : k = 2 ∨ k = 3 := by omega
                        rcases h23 with h | h
                        · exfalso
                          subst h
                          have : lf f 2 = 3 := rfl
                          omega
                        · exact h
                      have hlv1 : lv = 1 := by omega
                      subst hk3e
                      subst hlv1
                      have HL1 : RowKit.Hid (lf f (3 + 1) = 1) := by show _ = _; rw [HL.out, if_neg (by omega)]
                      clear HVI HL hlv hc hvz e61
                      go_wp2
                      go_roundw
                      case rel => exact ⟨4, by rw [HN1.out]; go_num, by rw [HL1.out], by go_num, by omega, hb3⟩
                      case measure => simp [intOf]
                  · have HL1 : RowKit.Hid (lf f (k + 1) = lv) := by show _ = _; rw [HL.out, if_neg (by omega)]
                    clear HVI HL hlv hc hvz e61
                    go_wp2
                    go_roundw
                    case rel =>
                      first
                      | exact ⟨k + 1, by rw [HN1.out]; go_num, by rw [HL1.out], by go_num, by omega, hb3⟩
                      | exact ⟨.int .i64 (hor f (k + 1) : Nat), .int .i64 (lf f (k + 1) : Nat), .int .i64 ((k + 1 : Nat) : Int), ⟨k + 1, rfl, rfl, rfl, by omega⟩, by rw [HN1.out]; go_num, by rw [HL1.out], by go_num⟩
                    case measure => simp [intOf]; omega
                · have HL1 : RowKit.Hid (lf f (k + 1) = lv) := by show _ = _; rw [HL.out, if_neg (fun h => h61 h.1)]
                  have hne61 : ¬ c.toNat = 61 := fun h => h61 (UInt8.toNat_inj.1 h)
                  have hq61 : ((c.toNat : Int) == 61) = false := by have : ¬ (c.toNat : Int) = 61 := by omega
                                                                    simpa using this
                  clear HVI HL hlv hc hvz h61 hne61
                  go_wp2
                  go_roundw
                  case rel =>
                    first
                    | exact ⟨k + 1, by rw [HN1.out]; go_num, by rw [HL1.out], by go_num, by omega, hb3⟩
                    | exact ⟨.int .i64 (hor f (k + 1) : Nat), .int .i64 (lf f (k + 1) : Nat), .int .i64 ((k + 1 : Nat) : Int), ⟨k + 1, rfl, rfl, rfl, by omega⟩, by rw [HN1.out]; go_num, by rw [HL1.out], by go_num⟩
                  case measure => simp [intOf]; omega
              · have hvz : (vz c : Int) = V := by unfold vz; rw [← HVI.out]; omega
                have hne61 : ¬ c = 61 := by rintro rfl; rw [val_eq61] at HVI; have := HVI.out; omega
                have HL1 : RowKit.Hid (lf f (k + 1) = lv) := by show _ = _; rw [lf_next f k hk4, hc, hlv, if_neg (fun h => hne61 h.1)]
                have hV64 : V < 64 := by rw [HVI.out]; rcases val_cases c with h | h <;> omega
                clear HVI hlv hc hne61
                go_wp2
                go_roundw
                case rel =>
                  first
                  | exact ⟨k + 1, by rw [HN1.out]; go_num, by rw [HL1.out], by go_num, by omega, hb3⟩
                  | exact ⟨.int .i64 (hor f (k + 1) : Nat), .int .i64 (lf f (k + 1) : Nat), .int .i64 ((k + 1 : Nat) : Int), ⟨k + 1, rfl, rfl, rfl, by omega⟩, by rw [HN1.out]; go_num, by rw [HL1.out], by go_num⟩
                case measure => simp [intOf]; omega
        · have ek : k = 4 := by omega
          subst ek
          have HH := Lib.hid (hor_lt24 f 4 (by omega))
          obtain ⟨n, hn⟩ : ∃ n, hor f 4 = n := ⟨_, rfl⟩
          obtain ⟨lv, hlv⟩ : ∃ n, lf f 4 = n := ⟨_, rfl⟩
          have hlb := lf_bd f 4
          have hn24 : n < 16777216 := by have := HH.out; omega
          rw [hlv] at hlb
          rw [hn, hlv] at HST
          rw [hn, hlv]
          clear hn hlv HH
          obtain ⟨x, hxe⟩ : ∃ x : UInt8, UInt8.ofNat (n / 65536) = x := ⟨_, rfl⟩
          obtain ⟨y, hye⟩ : ∃ x : UInt8, UInt8.ofNat (n / 256 % 256) = x := ⟨_, rfl⟩
          obtain ⟨z, hze⟩ : ∃ x : UInt8, UInt8.ofNat (n % 256) = x := ⟨_, rfl⟩
          have hx' : (n : Int) / 65536 % 256 = ((x.toNat : Nat) : Int) := by rw [← hxe]; simp only [UInt8.toNat_ofNat']; omega
          have hx2 : (n : Int) / 65536 = ((x.toNat : Nat) : Int) := by rw [← hxe]; simp only [UInt8.toNat_ofNat']; omega
          have hy' : (n : Int) / 256 % 256 = ((y.toNat : Nat) : Int) := by rw [← hye]; simp only [UInt8.toNat_ofNat']; omega
          have hz' : (n : Int) % 256 = ((z.toNat : Nat) : Int) := by rw [← hze]; simp only [UInt8.toNat_ofNat']; omega
          have hy2 : ((y.toNat : Nat) : Int) % 256 = ((y.toNat : Nat) : Int) := by have := y.toNat_lt; omega
          have hz2 : ((z.toNat : Nat) : Int) % 256 = ((z.toNat : Nat) : Int) := by have := z.toNat_lt; omega
          rw [hxe, hye, hze] at HST
          clear hxe hye hze hx'
          have hbw2 := hbw.trans (hb2.mono hszw)
          have hsz2 := hbw2.size
          have HO2 := Lib.hid (own_below HO.out hb2)
          have hown0 := Lib.hid (World.ownsRow.alloc HO2.out (.cells #[.int .u8 (x.toNat : Int), .int .u8 (y.toNat : Int), .int .u8 (z.toNat : Int)] 5))
          have hsrc0 := lit_ints w2 5 .u8 [(x.toNat : Int), (y.toNat : Int), (z.toNat : Int)] #[.int .u8 (x.toNat : Int), .int .u8 (y.toNat : Int), .int .u8 (z.toNat : Int)] (0, 0) rfl (by simp)
          have hsrc := Lib.hid (hsrc0.upto (m := lv) hlb.2)
          have hbel := Lib.hid (hbw2.alloc hsz2 (.cells #[.int .u8 (x.toNat : Int), .int .u8 (y.toNat : Int), .int .u8 (z.toNat : Int)] 5))
          have hob := Lib.hid (own_base HO2.out)
          clear hsrc0 hb2 HO HF HX
          go_wp2_with (first | (at_builtin; go_loud (refine append_ints rfl _ _ 48 rfl w.heap.size 5 .u8 1 Tryd.underlying48 info_u816 _ acc.length (bz acc) rfl hown0.out (some ⟨w2.heap.size, 0, none⟩) lv 3 _ _ rfl hsrc.out (by simp) ?c1 ?c2 ?c3 ?_)))
          case c1 => unfold maxLen; omega
          case c2 => omega
          case c3 => first | omega | (simp; omega)
          intro v2 w4 hown hgrow _
          have hz4 : (acc ++ [x, y, z].take lv).length = acc.length + lv := by rw [List.length_append, List.length_take]; simp; omega
          have H2 : RowKit.Hid (w4.ownsRow w.heap.size 5 1 v2 (acc ++ [x, y, z].take lv).length ((bz (acc ++ [x, y, z].take lv)).map (Value.int .u8))) := by
            show World.ownsRow _ _ _ _ _ _ _
            rw [hz4]
            have e : bz (acc ++ [x, y, z].take lv) = bz acc ++ [(x.toNat : Int), (y.toNat : Int), (z.toNat : Int)].take lv := by
              simp only [bz, List.map_append, List.map_take, List.map_cons, List.map_nil]
            rw [e, List.map_append]
            first | exact hown | (simpa using hown) | (rw [List.map_append] at hown; exact hown)
          have H3 := hbel.out.grown hgrow (by simp; omega) hob.out
          have HZ : RowKit.Hid ((acc ++ [x, y, z].take lv) ++ openR (s.data.toList.drop (i + 4)) = OP) := by show _ = _; rw [List.append_assoc]; exact HST.out
          clear hown hgrow
          go_wp2
          go_roundw
          case rel => exact ⟨i + 4, _, by go_num, by omega, by rw [hz4]; omega, H2, H3, HZ⟩
          case measure => simp [intOf]; omega
    · have HN : RowKit.Hid (OP = acc) := by
        show _ = _
        have e := HQ.out
        rw [openR_end _ i (by rw [len_list]; exact hlt)] at e
        rw [← e]
        simp
      obtain ⟨ao, co, hso, hin⟩ := own_ints HO.out
      subst hso
      have CS := refSeal_any ao acc acc.length co wr.heap.size wr rfl (by rw [← HN.out]; exact hOPl) hin
      obtain ⟨R, hR⟩ : ∃ R, ba (sealL acc) = R := ⟨_, rfl⟩
      rw [hR] at CS
      have HIN := Lib.hid hin
      clear hin
      by_cases hq : sealL acc = s.data.toList
      · have hRs : R = s := by rw [← hR, hq, ba_list]
        subst hRs
        have HY : RowKit.Hid (decide (sealL OP = R.data.toList) = true) := by show _ = _; rw [HN.out, hq]; simp
        clear hR hq
        go_wp2_with (go_at_call 17; refine CS.mono ?_; rintro e w' ⟨rfl, rfl⟩)
        go_ret2
        refine ⟨hbw, ao, co, ?_, ?_⟩
        · rw [HY.out, HN.out]
          rfl
        · rw [HN.out]
          exact HIN.out
      · have hne : ¬ R.toList = s.toList := by
          intro h
          rw [Lib.toList_data, Lib.toList_data, ← hR] at h
          exact hq h
        have hne' : (R.toList == s.toList) = false := by simpa using hne
        have HY : RowKit.Hid (decide (sealL OP = s.data.toList) = false) := by show _ = _; rw [HN.out]; simp [hq]
        clear hR hq
        go_wp2_with (go_at_call 17; refine CS.mono ?_; rintro e w' ⟨rfl, rfl⟩)
        go_ret2
        refine ⟨hbw, ao, co, ?_, ?_⟩
        · rw [HY.out, HN.out]
          rfl
        · rw [HN.out]
          exact HIN.out
end Go.Proofs.YtkledfalplekeaaDoor
