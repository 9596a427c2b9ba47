/- What the laws of layer 20 say first: titles with bytes behind that come in; whether they are few and short; the chapter's example. -/
import Derived.Test.YtebfjmjdcbeekaaDoorWeaD
namespace Go.Proofs.YtebfjmjdcbeekaaDoor
open Go.RowKit Go.PlainAid
set_option linter.unusedVariables false
set_option linter.unusedSimpArgs false

/-- A title (if it is one) and bytes behind. -/
structure Ac where
  t : Bool
  s : ByteArray
  a : Option Addr
  n : Nat
  c : Nat
  d : List UInt8
structure AcAt (w : World) (b off : Nat) (x : Ac) : Prop where
  c0 : w.cell? ⟨b, off, none⟩ = some (.bool x.t)
  c1 : w.cell? ⟨b, off + 1, none⟩ = some (.string x.s)
  c2 : w.cell? ⟨b, off + 2, none⟩ = some (.slice x.a x.n x.c)
  d : BytA w x.a x.n x.c x.d
  b : b < w.heap.size
theorem AcAt.below {w w' : World} {b off : Nat} {x : Ac} (h : AcAt w b off x) (hb : Below w.heap.size w w') : AcAt w' b off x :=
  ⟨(hb.cell (p := ⟨b, off, none⟩) h.b).trans h.c0, (hb.cell (p := ⟨b, off + 1, none⟩) h.b).trans h.c1, (hb.cell (p := ⟨b, off + 2, none⟩) h.b).trans h.c2, h.d.below hb, Nat.lt_of_lt_of_le h.b hb.size⟩
/-- What is known of the acts that came in. -/
def AcsIn (w : World) (a : Option Addr) (len : Nat) (A : Nat → Ac) : Prop := len ≤ 9223372036854775807 ∧ (len = 0 ∨ ∃ b off, a = some ⟨b, off, none⟩ ∧ ∀ i, i < len → AcAt w b (off + i * 3) (A i) ∧ (A i).n ≤ 9223372036854775807 ∧ (A i).s.size ≤ 9223372036854775807)
theorem AcsIn.below {w w' : World} {a : Option Addr} {len : Nat} {A : Nat → Ac} (h : AcsIn w a len A) (hb : Below w.heap.size w w') : AcsIn w' a len A := by
  refine ⟨h.1, ?_⟩
  rcases h.2 with h | ⟨b, off, e, h⟩
  · exact .inl h
  · exact .inr ⟨b, off, e, fun i hi => ⟨(h i hi).1.below hb, (h i hi).2⟩⟩
def acFit (x : Ac) : Prop := x.s.size ≤ 200 ∧ x.n ≤ 300
def acsFit (len : Nat) (A : Nat → Ac) : Prop := len ≤ 40 ∧ ∀ i, i < len → acFit (A i)
open Classical in
noncomputable def fitB (len : Nat) (A : Nat → Ac) : Bool := decide (acsFit len A)
open Classical in
theorem fitB_yes {len : Nat} {A : Nat → Ac} (h : acsFit len A) : fitB len A = true := by unfold fitB; exact decide_eq_true h
open Classical in
theorem fitB_no {len : Nat} {A : Nat → Ac} (h : ¬ acsFit len A) : fitB len A = false := by unfold fitB; exact decide_eq_false h
open Classical in
theorem fitB_of {len : Nat} {A : Nat → Ac} (h : fitB len A = true) : acsFit len A := by unfold fitB at h; exact of_decide_eq_true h
set_option maxRecDepth 100000 in
set_option maxHeartbeats 1000000 in
theorem fits20_any (a : Option Addr) (len cap : Nat) (A : Nat → Ac) (w : World) (h : AcsIn w a len A) :
    Calls Tryd.prog 13 #[.slice a len cap] w fun x w' => x = .returned (.bool (fitB len A)) ∧ Below w.heap.size w w' := by
  have hlen := h.1
  have HI := Lib.hid h
  clear h
  go_enter Tryd.func13, Tryd.ntmps13
  go_wp2
  go_loopw [7] (fun i wr => ∃ k : Nat, i = .int .i64 (k : Int) ∧ k ≤ len ∧ RowKit.Hid ((∀ j, j < k → acFit (A j)) ∧ Below w.heap.size w wr)) (fun i _ => len - (intOf i).toNat)
  case atStart => exact ⟨0, rfl, by omega, fun j hj => by omega, Below.refl _ _⟩
  case round =>
    obtain ⟨k, rfl, hk, H⟩ := hrel
    by_cases hlt : k < len
    · rcases HI.out.2 with h0 | ⟨b, off, rfl, hA⟩
      · omega
      obtain ⟨hA, hn, hs⟩ := hA k hlt
      have hAt := hA.below H.out.2
      obtain ⟨x, hx⟩ : ∃ x, A k = x := ⟨_, rfl⟩
      rw [hx] at hAt hA hn hs
      obtain ⟨c0, c1, c2, _, _⟩ := hAt
      have HBn : RowKit.Hid (Below w.heap.size w (wr.alloc (.cells #[.bool x.t, .string x.s, .slice x.a x.n x.c] 52))) := H.out.2.alloc H.out.2.size _
      by_cases h1 : x.s.size ≤ 200
      · have q1 : ¬ (200 : Int) < (x.s.size : Int) := by omega
        by_cases h2 : x.n ≤ 300
        · have q2 : ¬ (300 : Int) < (x.n : Int) := by omega
          have HF : RowKit.Hid (∀ j, j < k + 1 → acFit (A j)) := by
            intro j hj
            by_cases e : j = k
            · rw [e, hx]; exact ⟨h1, h2⟩
            · exact H.out.1 j (by omega)
          go_wp2
          go_roundw
          case rel => exact ⟨k + 1, by go_num, by omega, HF.out, HBn.out⟩
          case measure => simp [intOf] <;> omega
        · have q2 : (300 : Int) < (x.n : Int) := by omega
          have HF : RowKit.Hid (fitB len A = false) := by
            show _ = _
            exact fitB_no fun c => h2 (by have := (c.2 k hlt).2; rwa [hx] at this)
          go_wp2
          go_ret
          exact ⟨by rw [HF.out]; rfl, HBn.out⟩
      · have q1 : (200 : Int) < (x.s.size : Int) := by omega
        have HF : RowKit.Hid (fitB len A = false) := by
          show _ = _
          exact fitB_no fun c => h1 (by have := (c.2 k hlt).1; rwa [hx] at this)
        go_wp2
        go_ret
        exact ⟨by rw [HF.out]; rfl, HBn.out⟩
    · obtain rfl : k = len := by omega
      by_cases h40 : k ≤ 40
      · have q : (k : Int) ≤ 40 := by omega
        have HF : RowKit.Hid (fitB k A = true) := by
          show _ = _
          exact fitB_yes ⟨h40, H.out.1⟩
        go_wp2
        go_ret
        exact ⟨by rw [HF.out]; rfl, H.out.2⟩
      · have q : ¬ (k : Int) ≤ 40 := by omega
        have HF : RowKit.Hid (fitB k A = false) := by
          show _ = _
          exact fitB_no fun c => h40 c.1
        go_wp2
        go_ret
        exact ⟨by rw [HF.out]; rfl, H.out.2⟩
/-- The chapter's example. -/
theorem titleF_a : titleF [97] = [97] := by decide +kernel
theorem ex20_tell : (⟨4, 0, [], false⟩ : W20).tell (⟨#[97]⟩ : ByteArray).data.toList = ⟨4, 0, [97], true⟩ := by
  show (if titleF [97] = [] then _ else _) = _
  rw [titleF_a]
  rfl
theorem ex20_ok : (⟨4, 0, [97], true⟩ : W20).Ok 0 := ⟨by decide, by decide, titleF_a, by decide⟩
def ex20 : List UInt8 := [1, 2, 3, 4] ++ blkF [97] ++ [5]
theorem ex20_run : ((⟨4, 0, [97], true⟩ : W20).run [1, 2, 3, 4, 5]).1 = ex20 := by decide +kernel
theorem ex20_len : ex20.length = 22 := by decide +kernel
theorem ex20_bytes : ex20 = [1, 2, 3, 4, 1, 83, 116, 114, 101, 97, 109, 84, 105, 116, 108, 101, 61, 39, 97, 39, 59, 5] := by decide +kernel
theorem ex20_ba : ba ex20 = ⟨#[1, 2, 3, 4, 1, 83, 116, 114, 101, 97, 109, 84, 105, 116, 108, 101, 61, 39, 97, 39, 59, 5]⟩ := by rw [ex20_bytes]; rfl
set_option maxRecDepth 100000 in
set_option maxHeartbeats 1000000 in
theorem lives20_any (w : World) : Calls Tryd.prog 6 #[] w fun x w' => x = .returned (.bool true) ∧ Below w.heap.size w w' := by
  go_enter Tryd.func6, Tryd.ntmps6
  go_wp2_with (first
    | (go_at_call 14; go_loud (refine (wvNew_ok 4 _ (by decide)).mono ?_); rintro e w2 ⟨g, rfl, hg, hgb, hb⟩; have HG := Lib.hid hg; have HGb := Lib.hid hgb; have HB := Lib.hid hb; clear hg hgb hb)
    | (go_at_call 15; go_loud (refine (wvTitle_any g _ ⟨#[97]⟩ _ HG.out (by decide)).mono ?_); rintro e w3 ⟨rfl, hg3, hk3⟩; have HG3 := Lib.hid hg3; have HB3 := Lib.hid (HB.out.trans (hk3.below HB.out.size (fun j hj => by subst hj; exact HGb.out))); rw [ex20_tell] at hg3; have HG4 := Lib.hid (hg3.below (Below.alloc_new w3 (.cells #[.int .u8 1, .int .u8 2, .int .u8 3, .int .u8 4, .int .u8 5] 5))); have HB4 := Lib.hid (HB3.out.alloc HB3.out.size (.cells #[.int .u8 1, .int .u8 2, .int .u8 3, .int .u8 4, .int .u8 5] 5)); have HA4 := Lib.hid (BytA.lit w3 5 #[.int .u8 1, .int .u8 2, .int .u8 3, .int .u8 4, .int .u8 5] (0, 0) [1, 2, 3, 4, 5] rfl (by simp)); have HN4 : RowKit.Hid (∀ r off, (some ⟨w3.heap.size, 0, none⟩ : Option Addr) = some ⟨r, off, none⟩ → 0 < 5 → r ≠ g) := (by intro r off e _; injection e with e; injection e with e _; subst e; have := Cel.lt hg3; omega); clear hg3 hk3)
    | (go_at_call 17; go_loud (refine (wvWeave_any g 0 ⟨4, 0, [97], true⟩ _ 5 5 [1, 2, 3, 4, 5] _ (HG4.out) ex20_ok (by decide) HA4.out (by decide) HN4.out).mono ?_); rintro e w5 ⟨v5, rfl, ho5, hg5, hk5⟩; rw [ex20_run] at ho5; obtain ⟨a5, c5, rfl⟩ := ho5.form; have hcv := ho5.bytA.conv w5 (Below.refl _ _); rw [ex20_len] at hcv ⊢; rw [ex20_ba] at hcv; have HB5 := Lib.hid (HB4.out.trans (hk5.below HB4.out.size (fun j hj => by subst hj; exact HGb.out))); clear ho5 hg5 hk5)
    | fail)
  go_ret
  exact ⟨rfl, HB5.out⟩
end Go.Proofs.YtebfjmjdcbeekaaDoor
