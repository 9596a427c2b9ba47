/- What package packet's Parse gives: whether bytes may begin a packet; where its payload ends; the packet. -/
import Derived.Test.YtfnmdaoehnafcaaPktC
import Derived.Deep.RegionHeld3
import Derived.Lib.QuietBelow
namespace Go.Proofs.Ytfnmdaoehnafcaa
open Go.RowKit Go.Shelf
set_option linter.unusedVariables false
set_option linter.unusedSimpArgs false

/-- A slice of bytes. -/
structure ByL (w : World) (a : Option Addr) (n cap : Nat) (b : List Int) : Prop where
  hi : IntsAt w w.heap.size .u8 a n b
  hc : n ≤ cap
  hm : cap ≤ 9223372036854775807
  ha : a = none → cap = 0
  hb : Byts b
section
variable {w w' : World} {a : Option Addr} {n cap : Nat} {b : List Int}
theorem ByL.len (h : ByL w a n cap b) : b.length = n := h.hi.1
theorem ByL.below (h : ByL w a n cap b) (hb : Below w.heap.size w w') : ByL w' a n cap b := ⟨h.hi.now hb (Nat.le_refl _), h.hc, h.hm, h.ha, h.hb⟩
theorem ByL.drewN (h : ByL w a n cap b) (k : Nat) : ByL (w.drewN k) a n cap b := ⟨h.hi, h.hc, h.hm, h.ha, h.hb⟩
theorem ByL.form (h : ByL w a n cap b) (hn : 0 < n) : ∃ r off, a = some ⟨r, off, none⟩ := by
  obtain ⟨r, off, e, _⟩ := h.hi.at_ hn
  exact ⟨r, off, e⟩
theorem ByL.cell {r off j : Nat} (h : ByL w (some ⟨r, off, none⟩) n cap b) (hj : j < n) : w.cell? ⟨r, off + j, none⟩ = some (.int .u8 (b.getD j 0)) := by
  obtain ⟨r', off', e, _, _, hc⟩ := h.hi.at_ hj
  injection e with e
  injection e with e1 e2
  subst e1
  subst e2
  exact hc
theorem ByL.none_ (h : ByL w none n cap b) : n = 0 ∧ cap = 0 ∧ b = [] := by
  have h1 := h.ha rfl
  have h2 := h.hc
  have h3 := h.len
  exact ⟨by omega, h1, List.eq_nil_of_length_eq_zero (by omega)⟩
/-- Some of them. -/
theorem ByL.sub {r off : Nat} (h : ByL w (some ⟨r, off, none⟩) n cap b) (lo m : Nat) (hm : lo + m ≤ n) : ByL w (some ⟨r, off + lo, none⟩) m (cap - lo) ((b.drop lo).take m) := by
  have hl := h.len
  have hc := h.hc
  refine ⟨⟨by simp; omega, ?_⟩, by omega, by have := h.hm; omega, (fun e => by cases e), (h.hb.drop _).take _⟩
  by_cases h0 : m = 0
  · exact .inl h0
  · obtain ⟨r', off', e, hr, hx, _⟩ := h.hi.at_ (j := 0) (by omega)
    injection e with e
    injection e with e1 e2
    subst e1
    refine .inr ⟨_, _, rfl, hr, by omega, fun j hj => ?_⟩
    rw [Nat.add_assoc, h.cell (j := lo + j) (by omega)]
    simp [List.getD, hj]
theorem ByL.zero {r off : Nat} (h : ByL w (some ⟨r, off, none⟩) n cap b) (m : Nat) (hm : m ≤ n) : ByL w (some ⟨r, off, none⟩) m cap (b.take m) := by
  have := h.sub 0 m (by omega)
  simpa using this
end

/-! ### May they begin a packet? -/
/-- The checks of the first k bytes. -/
def formK (b : List Int) (k : Nat) : Prop := (0 < k → b.getD 0 0 = 83) ∧ (1 < k → b.getD 1 0 = 66) ∧ (2 < k → b.getD 2 0 = 0 ∨ b.getD 2 0 = 1)
theorem formK_all {b : List Int} (h : formK b (min b.length 3)) : formP b = true := (formP_iff b).2 ⟨fun l => h.1 (by omega), fun l => h.2.1 (by omega), fun l => h.2.2 (by omega)⟩
theorem formK_no {b : List Int} {k : Nat} (h : k < b.length) (h0 : k = 0 → b.getD 0 0 ≠ 83) (h1 : k = 1 → b.getD 1 0 ≠ 66) (h2 : k = 2 → b.getD 2 0 ≠ 0 ∧ b.getD 2 0 ≠ 1) (h3 : k < 3) : formP b = false := by
  rw [Bool.eq_false_iff]
  intro c
  obtain ⟨c0, c1, c2⟩ := (formP_iff b).1 c
  have : k = 0 ∨ k = 1 ∨ k = 2 := by omega
  rcases this with rfl | rfl | rfl
  · exact h0 rfl (c0 h)
  · exact h1 rfl (c1 h)
  · rcases c2 h with e | e
    · exact (h2 rfl).1 e
    · exact (h2 rfl).2 e
/-! ### Where the payload ends -/
def endE (b : List Int) : Int := if formP b = true then if b.length < 13 then 2 else if 600 < lenP b then 5 else if b.length < 17 + lenP b then 2 else 0 else 3
def endV (b : List Int) : Int := if endE b = 0 then 13 + lenP b else 0
theorem endE_zero {b : List Int} (h : endE b = 0) : formP b = true ∧ 13 ≤ b.length ∧ lenP b ≤ 600 ∧ 17 + lenP b ≤ b.length := by
  unfold endE at h
  split at h
  · split at h
    · omega
    · split at h
      · omega
      · split at h
        · omega
        · exact ⟨by assumption, by omega, by omega, by omega⟩
  · omega
theorem prsE_end {b : List Int} (h : endE b ≠ 0) : prsE b = endE b := by
  unfold endE at h ⊢
  unfold prsE
  by_cases f : formP b = true
  · rw [if_pos f, if_pos f] at *
    by_cases l : b.length < 13
    · rw [if_pos l, if_pos l]
    · rw [if_neg l] at h
      rw [if_neg l, if_neg l]
      by_cases m : 600 < lenP b
      · rw [if_pos m, if_pos m]
      · rw [if_neg m] at h
        rw [if_neg m, if_neg m]
        by_cases q : b.length < 17 + lenP b
        · rw [if_pos q, if_pos q]
        · rw [if_neg q] at h; exact absurd rfl h
  · rw [if_neg f, if_neg f]
theorem endE_cases (b : List Int) : endE b = 0 ∨ endE b = 2 ∨ endE b = 3 ∨ endE b = 5 := by
  unfold endE
  repeat' split
  all_goals simp
/-! ### Parse -/
/-- No packet. -/
def pkZ : Value := .agg #[.int .u32 0, .int .u32 0, .bool false, .slice none 0 0]
theorem info19_pk : (Try.prog.info? 32).map (·.size) = some 4 := by kernel_rfl
/-- A result that lies in memory, and two beside it. -/
theorem results19_3 {fn : Func} {p u x : Tmp} {ty : TypeId} {tmps : Array Value} {P : Program} {w : World} {g : Nat} {v v' v'' : Value} (h : fn.results = #[.cell p ty, .tmp u, .tmp x]) (hp : tmps.getD p undef = .pointer (some ⟨g, 0, none⟩)) (hv : tmps.getD u undef = v') (hv2 : tmps.getD x undef = v'')
    (e : (loadVar ty ⟨g, 0, none⟩).run P w = .ok v w) : (results fn tmps).run P w = .ok (.tuple #[v, v', v'']) w := by
  have hp' : tmps[p]?.getD undef = .pointer (some ⟨g, 0, none⟩) := by simpa using hp
  have hv' : tmps[u]?.getD undef = v' := by simpa using hv
  have hv2' : tmps[x]?.getD undef = v'' := by simpa using hv2
  simp only [results, h]
  simp [Sem.run_bind, hp', hv', hv2', asAddr, Result.andThen, e]
theorem frz4 {w : World} {g : Nat} {t : TypeId} {cs : Array Value} (h : Cel w g t cs) : w.frozen? ⟨g, 0, none⟩ = false ∧ w.frozen? ⟨g, 1, none⟩ = false ∧ w.frozen? ⟨g, 2, none⟩ = false ∧ w.frozen? ⟨g, 3, none⟩ = false := ⟨h.frozen 0, h.frozen 1, h.frozen 2, h.frozen 3⟩
/-- Four cells of a block are written. -/
theorem below_set4 {B : Nat} {w w' : World} {g : Nat} (h : Below B w w') (hg : B ≤ g) (a b c d : Value) : Below B w ((((w'.setCell ⟨g, 0, none⟩ a).setCell ⟨g, 1, none⟩ b).setCell ⟨g, 2, none⟩ c).setCell ⟨g, 3, none⟩ d) :=
  (((h.setCell (p := ⟨g, 0, none⟩) hg a).setCell (p := ⟨g, 1, none⟩) hg b).setCell (p := ⟨g, 2, none⟩) hg c).setCell (p := ⟨g, 3, none⟩) hg d
theorem cel_set4 {w : World} {g : Nat} {t : TypeId} {cs : Array Value} (h : Cel w g t cs) (hs : cs.size = 4) (a b c d : Value) : Cel ((((w.setCell ⟨g, 0, none⟩ a).setCell ⟨g, 1, none⟩ b).setCell ⟨g, 2, none⟩ c).setCell ⟨g, 3, none⟩ d) g t #[a, b, c, d] := by
  have k := (((h.set_ 0 a).set_ 1 b).set_ 2 c).set_ 3 d
  have e : (((cs.setIfInBounds 0 a).setIfInBounds 1 b).setIfInBounds 2 c).setIfInBounds 3 d = #[a, b, c, d] := by
    obtain ⟨l⟩ := cs
    match l, hs with
    | [_, _, _, _], _ => rfl
  rw [e] at k
  exact k
/-- The packet, its payload in memory of the call's own. -/
def ParsePost (b : List Int) (w : World) (x : Ending) (w' : World) : Prop :=
  ∃ v, x = .returned (.tuple #[.agg #[.int .u32 (pkOf b).ep, .int .u32 (pkOf b).nu, .bool (pkOf b).wh, v], .int .i64 ((17 + lenP b : Nat) : Int), .int .i64 0]) ∧ w'.ownsRow w.heap.size 5 1 v (pkOf b).pl.length ((pkOf b).pl.map (Value.int .u8)) ∧ Below w.heap.size w w'
end Go.Proofs.Ytfnmdaoehnafcaa
