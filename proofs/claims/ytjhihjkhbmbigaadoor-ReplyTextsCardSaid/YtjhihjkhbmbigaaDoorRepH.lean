/- A text that is no reply's: the law finds none. -/
import Derived.Test.YtjhihjkhbmbigaaDoorRepG
namespace Go.Proofs.YtjhihjkhbmbigaaDoor
open Go.RowKit Go.PlainAid
set_option linter.unusedVariables false
set_option linter.unusedSimpArgs false

def codesC : Array Value := #[.int .i64 400, .int .i64 401, .int .i64 403, .int .i64 404, .int .i64 408, .int .i64 413, .int .i64 503]
theorem codes_at (k : Nat) (h : k < 7) : ∃ c : Int, codesC[k]? = some (.int .i64 c) ∧ 400 ≤ c ∧ c ≤ 503 ∧ rightF ⟨c, [], 0⟩ = true := by
  have key : ∀ c : Int, wordsF c ≠ [] → rightF ⟨c, [], 0⟩ = true := fun c h => right_iff.2 ⟨h, by show (0 : Int) ≤ 0; omega, by show (0 : Int) ≤ 65536; omega, rfl, .inr ⟨rfl, rfl⟩⟩
  match k, h with
  | 0, _ => exact ⟨400, rfl, by omega, by omega, key _ (by decide)⟩
  | 1, _ => exact ⟨401, rfl, by omega, by omega, key _ (by decide)⟩
  | 2, _ => exact ⟨403, rfl, by omega, by omega, key _ (by decide)⟩
  | 3, _ => exact ⟨404, rfl, by omega, by omega, key _ (by decide)⟩
  | 4, _ => exact ⟨408, rfl, by omega, by omega, key _ (by decide)⟩
  | 5, _ => exact ⟨413, rfl, by omega, by omega, key _ (by decide)⟩
  | 6, _ => exact ⟨503, rfl, by omega, by omega, key _ (by decide)⟩
def headsC : Array Value := #[.string ⟨#[72, 84, 84, 80, 47, 49, 46, 48, 32, 50, 48, 48, 32, 79, 75, 13, 10, 105, 99, 121, 45, 110, 97, 109, 101, 58]⟩, .string ⟨#[73, 67, 89, 32, 50, 48, 48, 32, 79, 75, 13, 10, 105, 99, 121, 45, 110, 97, 109, 101, 58]⟩]
theorem heads_at (k : Nat) (h : k < 2) : ∃ x : ByteArray, headsC[k]? = some (.string x) ∧ x.size ≤ 30 := by
  match k, h with
  | 0, _ => exact ⟨_, rfl, by decide⟩
  | 1, _ => exact ⟨_, rfl, by decide⟩
theorem two_at (v : Int) (h0 : 0 ≤ v) (h1 : v ≤ 65536) (k : Nat) (h : k < 2) : ∃ x : Int, (#[Value.int .i64 0, Value.int .i64 v] : Array Value)[k]? = some (.int .i64 x) ∧ 0 ≤ x ∧ x ≤ 65536 := by
  match k, h with
  | 0, _ => exact ⟨0, rfl, by omega, by omega⟩
  | 1, _ => exact ⟨v, rfl, h0, h1⟩
set_option maxHeartbeats 16000000 in
set_option maxRecDepth 100000 in
theorem lawSome_none (s : ByteArray) (w : World) (hs : s.size ≤ 1000) (hT : PowT w) (hno : ∀ r, rightF r = true → textF r ≠ s.data.toList) :
    Calls Tryd.prog 12 #[.string s] w fun e w' => e = .returned (.bool false) ∧ Below w.heap.size w w' := by
  have CX : ∀ (W : World) (c ev : Int) (q : ByteArray), Below w.heap.size w W → q.size ≤ 1000 → 0 ≤ c → c ≤ 503 → 0 ≤ ev → ev ≤ 65536 → rightF ⟨c, q.data.toList, ev⟩ = true →
      Calls Tryd.prog 10 #[.agg #[.int .i64 c, .string q, .int .i64 ev]] W fun e w' => ∃ X : ByteArray, e = .returned (.string X) ∧ (X.toList == s.toList) = false ∧ Below W.heap.size W w' := by
    intro W c ev q hb hq h0 h1 h2 h3 hr
    refine (lawText_any c ev q W hq (by omega) (by omega) (by omega) (by omega) (hT.below hb)).mono ?_
    rintro e w' ⟨he, hb2⟩
    refine ⟨_, he, ?_, hb2⟩
    have := hno _ hr
    rw [Lib.toList_data, Lib.toList_data, list_ba]
    simpa using this
  have CR : ∀ (W : World) (c ev : Int) (q : ByteArray), q.size ≤ 1000 → Calls Tryd.prog 9 #[.agg #[.int .i64 c, .string q, .int .i64 ev]] W fun e w' => e = .returned (.bool (rightF ⟨c, q.data.toList, ev⟩)) ∧ Below W.heap.size W w' := fun W c ev q hq => lawRight_any c ev q W hq
  have CA : ∀ (W : World) (q : ByteArray), q.size ≤ 1000 → Calls Tryd.prog 24 #[.string q] W fun e w' => ∃ v : Int, 0 ≤ v ∧ v ≤ 65536 ∧ e = .returned (.int .i64 v) ∧ Below W.heap.size W w' := fun W q hq => lawAfter_any q W hq
  clear hno
  obtain ⟨g, hg⟩ : ∃ g, w.heap.size = g := ⟨_, rfl⟩
  obtain ⟨w1, hw1⟩ : ∃ w1, w.alloc (.cells #[.int .i64 400, .int .i64 401, .int .i64 403, .int .i64 404, .int .i64 408, .int .i64 413, .int .i64 503] 3) = w1 := ⟨_, rfl⟩
  have H1 : RowKit.Hid (Below w.heap.size w w1 ∧ Cel w1 g 3 codesC) := by rw [← hw1, ← hg]; exact ⟨Below.alloc_new _ _, Cel.new _ _ _⟩
  go_enter Tryd.func12, Tryd.ntmps12
  go_wp2
  clear hw1
  go_loopw [14] (fun i wr => ∃ k : Nat, i = .int .i64 (k : Int) ∧ k ≤ 7 ∧ RowKit.Hid (Below w.heap.size w wr ∧ Cel wr g 3 codesC)) (fun i _ => 7 - (intOf i).toNat)
  case atStart => exact ⟨0, rfl, by omega, H1⟩
  case round =>
    clear H1
    obtain ⟨k, rfl, hk, H⟩ := hrel
    by_cases hlt : k < 7
    · obtain ⟨c, hc, c0, c1, c2⟩ := codes_at k hlt
      have l1 : (k : Int) < 7 := by omega
      have x0 : wr.cell? ⟨g, k, none⟩ = some (.int .i64 c) := by rw [H.out.2.cell k, hc]
      have C0 := CX wr c 0 ⟨#[]⟩ H.out.1 (by decide) (by omega) (by omega) (by omega) (by omega) c2
      clear CX CR CA hc c2
      go_wp2_with (go_at_call 10; refine C0.mono ?_; rintro e w2 ⟨X, rfl, hX, b2⟩; have H2 : RowKit.Hid (Below w.heap.size w w2 ∧ Cel w2 g 3 codesC) := ⟨chain H.out.1 b2, H.out.2.below b2⟩)
      go_roundw
      case rel => exact ⟨k + 1, by go_num, by omega, H2⟩
      case measure => simp [intOf] <;> omega
    · obtain rfl : k = 7 := by omega
      have HB := Lib.hid H.out.1
      go_upto_region 8 with (fail)
      obtain ⟨hb, hhb⟩ : ∃ hb, wr.heap.size = hb := ⟨_, rfl⟩
      obtain ⟨w5, hw5⟩ : ∃ w5, wr.alloc (.cells #[.string ⟨#[72, 84, 84, 80, 47, 49, 46, 48, 32, 50, 48, 48, 32, 79, 75, 13, 10, 105, 99, 121, 45, 110, 97, 109, 101, 58]⟩, .string ⟨#[73, 67, 89, 32, 50, 48, 48, 32, 79, 75, 13, 10, 105, 99, 121, 45, 110, 97, 109, 101, 58]⟩] 9) = w5 := ⟨_, rfl⟩
      have H5 : RowKit.Hid (Below w.heap.size w w5 ∧ Cel w5 hb 9 headsC) := by rw [← hw5, ← hhb]; exact ⟨HB.out.alloc HB.out.size _, Cel.new _ _ _⟩
      rw [hw5, hhb]
      clear hw5 hhb H HB
      go_loopw [26] (fun i wr => ∃ k : Nat, i = .int .i64 (k : Int) ∧ k ≤ 2 ∧ RowKit.Hid (Below w.heap.size w wr ∧ Cel wr hb 9 headsC)) (fun i _ => 2 - (intOf i).toNat)
      case atStart => exact ⟨0, rfl, by omega, H5⟩
      case round =>
        clear H5
        obtain ⟨k, rfl, hk, H⟩ := hrel
        by_cases hlt : k < 2
        · obtain ⟨h, hx, hsz⟩ := heads_at k hlt
          have l1 : (k : Int) < 2 := by omega
          have x0 : wr.cell? ⟨hb, k, none⟩ = some (.string h) := by rw [H.out.2.cell k, hx]
          clear hx
          obtain ⟨hd, hhd⟩ : ∃ hd, s.extract 0 h.size = hd := ⟨_, rfl⟩
          by_cases a1 : s.size < h.size
          · have a1' : (s.size : Int) < (h.size : Int) := by omega
            go_wp2
            go_roundw
            case rel => exact ⟨k + 1, by go_num, by omega, H⟩
            case measure => simp [intOf] <;> omega
          · have a1' : ¬ (s.size : Int) < (h.size : Int) := by omega
            have a2' : (h.size : Int) ≤ (s.size : Int) := by omega
            by_cases a3 : hd.toList = h.toList
            · have a3' : (hd.toList == h.toList) = true := by simpa using a3
              have a3'' : (hd.toList != h.toList) = false := by simpa using a3
              go_upto_region 12 with (fail)
              go_loopw [7] (fun v wr => ∃ i : Nat, v = .int .i64 (i : Int) ∧ h.size ≤ i ∧ i ≤ s.size + 1 ∧ RowKit.Hid (Below w.heap.size w wr ∧ Cel wr hb 9 headsC)) (fun v _ => s.size + 1 - (intOf v).toNat)
              case atStart => exact ⟨h.size, rfl, by omega, by omega, H⟩
              case round =>
                clear H
                obtain ⟨i, rfl, hi0, hi1, H⟩ := hrel
                by_cases hle : i ≤ s.size
                · have l2 : (i : Int) ≤ (s.size : Int) := by omega
                  have l3 : (h.size : Int) ≤ (i : Int) := by omega
                  obtain ⟨q, hq⟩ : ∃ q, s.extract h.size i = q := ⟨_, rfl⟩
                  obtain ⟨r, hr⟩ : ∃ r, s.extract i s.size = r := ⟨_, rfl⟩
                  have hqs : q.size ≤ 1000 := by rw [← hq, ByteArray.size_extract]; omega
                  have hrs : r.size ≤ 1000 := by rw [← hr, ByteArray.size_extract]; omega
                  have C0 := CA wr r hrs
                  go_upto_region 16 with (go_at_call 24; refine C0.mono ?_; rintro e w6 ⟨v, v0, v1, rfl, b6⟩)
                  obtain ⟨eb, heb⟩ : ∃ eb, w6.heap.size = eb := ⟨_, rfl⟩
                  obtain ⟨w7, hw7⟩ : ∃ w7, w6.alloc (.cells #[.int .i64 0, .int .i64 v] 3) = w7 := ⟨_, rfl⟩
                  have H7 : RowKit.Hid ((Below w.heap.size w w7 ∧ Cel w7 hb 9 headsC) ∧ Cel w7 eb 3 #[.int .i64 0, .int .i64 v]) := by
                    rw [← hw7, ← heb]
                    have b := chain H.out.1 b6
                    exact ⟨⟨b.alloc b.size _, (H.out.2.below b6).alloc _⟩, Cel.new _ _ _⟩
                  rw [hw7, heb]
                  clear hw7 heb H b6 C0
                  go_loopw [62] (fun j wr => ∃ m : Nat, j = .int .i64 (m : Int) ∧ m ≤ 2 ∧ RowKit.Hid ((Below w.heap.size w wr ∧ Cel wr hb 9 headsC) ∧ Cel wr eb 3 #[.int .i64 0, .int .i64 v])) (fun j _ => 2 - (intOf j).toNat)
                  case atStart => exact ⟨0, rfl, by omega, H7⟩
                  case round =>
                    clear H7
                    obtain ⟨m, rfl, hm, H8⟩ := hrel
                    by_cases hlm : m < 2
                    · obtain ⟨ev, hev, e0, e1⟩ := two_at v v0 v1 m hlm
                      have l4 : (m : Int) < 2 := by omega
                      have y0 : wr.cell? ⟨eb, m, none⟩ = some (.int .i64 ev) := by rw [H8.out.2.cell m, hev]
                      clear hev
                      obtain ⟨nb, hnb⟩ : ∃ nb, wr.heap.size = nb := ⟨_, rfl⟩
                      obtain ⟨w9, hw9⟩ : ∃ w9, wr.alloc (.cells #[.int .i64 200, .string q, .int .i64 ev] 23) = w9 := ⟨_, rfl⟩
                      have hcel : Cel w9 nb 23 #[.int .i64 200, .string q, .int .i64 ev] := by rw [← hw9, ← hnb]; exact Cel.new _ _ _
                      have HCel := Lib.hid hcel
                      have b9 : Below wr.heap.size wr w9 := by rw [← hw9]; exact Below.alloc_new _ _
                      have H9 : RowKit.Hid ((Below w.heap.size w w9 ∧ Cel w9 hb 9 headsC) ∧ Cel w9 eb 3 #[.int .i64 0, .int .i64 v]) := ⟨⟨chain H8.out.1.1 b9, H8.out.1.2.below b9⟩, H8.out.2.below b9⟩
                      have z0 : w9.cell? ⟨nb, 0, none⟩ = some (.int .i64 200) := hcel.cell 0
                      have z1 : w9.cell? ⟨nb, 1, none⟩ = some (.string q) := hcel.cell 1
                      have z2 : w9.cell? ⟨nb, 2, none⟩ = some (.int .i64 ev) := hcel.cell 2
                      have CR0 := CR w9 200 ev q hqs
                      have CX0 := fun W hW => CX W 200 ev q hW hqs (by omega) (by omega) e0 e1
                      clear hcel b9
                      generalize rightF ⟨200, q.data.toList, ev⟩ = R at *
                      cases R with
                      | false =>
                        go_wp2_with (go_at_call 9; refine CR0.mono ?_; rintro e w10 ⟨rfl, b10⟩; have H10 : RowKit.Hid ((Below w.heap.size w w10 ∧ Cel w10 hb 9 headsC) ∧ Cel w10 eb 3 #[.int .i64 0, .int .i64 v]) := ⟨⟨chain H9.out.1.1 b10, H9.out.1.2.below b10⟩, H9.out.2.below b10⟩)
                        go_roundw
                        case rel => exact ⟨m + 1, by go_num, by omega, H10⟩
                        case measure => simp [intOf] <;> omega
                      | true =>
                        go_wp2_with (first
                          | (go_at_call 9; refine CR0.mono ?_; rintro e w10 ⟨rfl, b10⟩; have H10 : RowKit.Hid ((Below w.heap.size w w10 ∧ Cel w10 hb 9 headsC) ∧ Cel w10 eb 3 #[.int .i64 0, .int .i64 v]) := ⟨⟨chain H9.out.1.1 b10, H9.out.1.2.below b10⟩, H9.out.2.below b10⟩; have u0 : w10.cell? ⟨nb, 0, none⟩ = some (.int .i64 200) := (HCel.out.below b10).cell 0; have u1 : w10.cell? ⟨nb, 1, none⟩ = some (.string q) := (HCel.out.below b10).cell 1; have u2 : w10.cell? ⟨nb, 2, none⟩ = some (.int .i64 ev) := (HCel.out.below b10).cell 2)
                          | (go_at_call 10; refine (CX0 _ H10.out.1.1 (by first | exact rfl | exact trivial)).mono ?_; rintro e w11 ⟨X, rfl, hX, b11⟩; have H11 : RowKit.Hid ((Below w.heap.size w w11 ∧ Cel w11 hb 9 headsC) ∧ Cel w11 eb 3 #[.int .i64 0, .int .i64 v]) := ⟨⟨chain H10.out.1.1 b11, H10.out.1.2.below b11⟩, H10.out.2.below b11⟩))
                        go_roundw
                        case rel => exact ⟨m + 1, by go_num, by omega, H11⟩
                        case measure => simp [intOf] <;> omega
                    · obtain rfl : m = 2 := by omega
                      have HB2 : RowKit.Hid (Below w.heap.size w wr ∧ Cel wr hb 9 headsC) := H8.out.1
                      go_wp2
                      go_roundw
                      case rel => exact ⟨i + 1, by go_num, by omega, by omega, HB2⟩
                      case measure => simp [intOf] <;> omega
                · obtain rfl : i = s.size + 1 := by omega
                  have l5 : ¬ ((s.size + 1 : Nat) : Int) ≤ (s.size : Int) := by omega
                  have l5' : ¬ (s.size : Int) + 1 ≤ (s.size : Int) := by omega
                  go_wp2
                  go_roundw
                  case rel =>
                    have HG : RowKit.Hid (Below g w wr ∧ Cel wr hb 9 headsC) := by rw [← hg]; exact H
                    exact ⟨_, _, _, _, _, _, .int .i64 ((k + 1 : Nat) : Int), ⟨k + 1, rfl, by omega, HG⟩, rfl, rfl, rfl, rfl, rfl, rfl, by go_num⟩
                  case measure => simp [intOf] <;> omega
            · have a3' : (hd.toList == h.toList) = false := by simpa using a3
              have a3'' : (hd.toList != h.toList) = true := by simpa using a3
              go_wp2
              go_roundw
              case rel => exact ⟨k + 1, by go_num, by omega, H⟩
              case measure => simp [intOf] <;> omega
        · obtain rfl : k = 2 := by omega
          have HB := Lib.hid H.out.1
          go_wp2
          go_ret
          exact ⟨rfl, HB.out⟩
end Go.Proofs.YtjhihjkhbmbigaaDoor
