/- Words of mine for memory: bytes. -/
import Derived.Test.YtebfjmjdcbeekaaDoorMemT
import Derived.Test.YtebfjmjdcbeekaaDoorWrdE
import Derived.Lib.AppendStr
namespace Go.Proofs.YtebfjmjdcbeekaaDoor
open Go.RowKit Go.PlainAid
set_option linter.unusedVariables false
set_option linter.unusedSimpArgs false

/-- Bytes as numbers. -/
def nz (l : List UInt8) : List Int := l.map fun b => (b.toNat : Int)
theorem nz_len (l : List UInt8) : (nz l).length = l.length := by simp [nz]
theorem nz_append (a b : List UInt8) : nz (a ++ b) = nz a ++ nz b := by simp [nz]
theorem nz_cells (s : ByteArray) : Lib.strCells s = (nz s.data.toList).map (Value.int .u8) := by simp [Lib.strCells, nz]
theorem infoE_u8 : (Tryd.prog.info? 5).map (fun i => (i.zero, i.size, i.bytes)) = some (some (.int .u8 0), 1, 1) := by kernel_rfl
/-- A row of bytes that the call has made. -/
def OwnB (w : World) (base : Nat) (v : Value) (l : List UInt8) : Prop := w.ownsRow base 5 1 v l.length ((nz l).map (Value.int .u8))
theorem OwnB.below {w w' : World} {base : Nat} {v : Value} {l : List UInt8} (h : OwnB w base v l) (hb : Below w.heap.size w w') : OwnB w' base v l := own_below h hb
/-- A slice of bytes. -/
structure BytA (w : World) (a : Option Addr) (n cap : Nat) (l : List UInt8) : Prop where
  hi : IntsAt w w.heap.size .u8 a n (nz l)
  hl : l.length = n
  hc : n ≤ cap
  ha : a = none → cap = 0
theorem nz_get (l : List UInt8) (j : Nat) : (nz l).getD j 0 = ((l.getD j 0).toNat : Int) := by
  unfold nz
  rw [List.getD_eq_getElem?_getD, List.getD_eq_getElem?_getD, List.getElem?_map]
  cases l[j]? <;> rfl
theorem text_nz (l : List UInt8) : textOf (nz l) = ba l := by
  have h : ∀ (l : List UInt8) (r : ByteArray), (nz l).foldl (fun r n => r.push (UInt8.ofNat n.toNat)) r = r ++ ba l := by
    intro l
    induction l with
    | nil =>
      intro r
      simp [nz]
      exact (ByteArray.append_empty).symm
    | cons b t ih =>
      intro r
      show (nz t).foldl _ (r.push (UInt8.ofNat ((b.toNat : Int)).toNat)) = _
      rw [ih, show UInt8.ofNat ((b.toNat : Int)).toNat = b by simp]
      apply ByteArray.ext
      simp [ba, ByteArray.data_append, ByteArray.data_push]
  exact (h l ByteArray.empty).trans (ByteArray.empty_append)
theorem BytA.below {w w' : World} {a : Option Addr} {n cap : Nat} {l : List UInt8} (h : BytA w a n cap l) (hb : Below w.heap.size w w') : BytA w' a n cap l :=
  ⟨h.hi.now hb (Nat.le_refl _), h.hl, h.hc, h.ha⟩
theorem BytA.take {w : World} {a : Option Addr} {n cap : Nat} {l : List UInt8} (h : BytA w a n cap l) (k : Nat) (hk : k ≤ n) : BytA w a k cap (l.take k) := by
  refine ⟨⟨?_, ?_⟩, ?_, Nat.le_trans hk h.hc, h.ha⟩
  · rw [nz_len, List.length_take, h.hl]; omega
  · by_cases h0 : k = 0
    · exact .inl h0
    · rcases h.hi.2 with h1 | ⟨b, off, e, h2, h3, h4⟩
      · omega
      · refine .inr ⟨b, off, e, h2, by omega, fun j hj => ?_⟩
        rw [h4 j (by omega), nz_get, nz_get]
        simp [List.getD_eq_getElem?_getD, List.getElem?_take, hj]
  · rw [List.length_take, h.hl]; omega
theorem BytA.addr {w : World} {a : Option Addr} {n cap : Nat} {l : List UInt8} (h : BytA w a n cap l) (hn : 0 < n) : ∃ b off, a = some ⟨b, off, none⟩ ∧ b < w.heap.size ∧ ∀ j, j < n → w.cell? ⟨b, off + j, none⟩ = some (.int .u8 ((nz l).getD j 0)) := by
  rcases h.hi.2 with h1 | ⟨b, off, e, h2, h3, h4⟩
  · omega
  · exact ⟨b, off, e, h2, h4⟩
theorem BytA.conv {w : World} {a : Option Addr} {n cap : Nat} {l : List UInt8} (h : BytA w a n cap l) (W' : World) (hb : Below w.heap.size w W') :
    (convert 30 9 (.slice a n cap)).run Tryd.prog W' = .ok (.string (ba l)) W' := by
  have := string_of_ints (P := Tryd.prog) (src := 30) (dst := 9) (e := 5) (c := cap) Tryd.underlying30 Tryd.underlying5 Tryd.underlying9 (h.hi.below hb)
  rw [text_nz] at this
  exact this
end Go.Proofs.YtebfjmjdcbeekaaDoor
