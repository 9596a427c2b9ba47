/- What the functions of package reply give: a reply's text. -/
import Derived.Test.YtjhihjkhbmbigaaDoorRepB
import Derived.Lib.AppendStr
namespace Go.Proofs.YtjhihjkhbmbigaaDoor
open Go.RowKit Go.PlainAid
set_option linter.unusedVariables false

/-- Bytes as numbers. -/
def nz (l : List UInt8) : List Int := l.map fun b => (b.toNat : Int)
theorem nz_len (l : List UInt8) : (nz l).length = l.length := by simp [nz]
theorem nz_append (a b : List UInt8) : nz (a ++ b) = nz a ++ nz b := by simp [nz]
theorem nz_cells (s : ByteArray) : Lib.strCells s = (nz s.data.toList).map (Value.int .u8) := by simp [Lib.strCells, nz]
theorem infoE_u8 : (Tryd.prog.info? 5).map (fun i => (i.zero, i.size, i.bytes)) = some (some (.int .u8 0), 1, 1) := by kernel_rfl
/-- A row of bytes that the call has made. -/
def OwnB (w : World) (base : Nat) (v : Value) (l : List UInt8) : Prop := w.ownsRow base 5 1 v l.length ((nz l).map (Value.int .u8))
theorem OwnB.below {w w' : World} {base : Nat} {v : Value} {l : List UInt8} (h : OwnB w base v l) (hb : Below w.heap.size w w') : OwnB w' base v l := own_below h hb
theorem TxtAt.below {w w' : World} {base b : Nat} {L : List (List UInt8)} (h : TxtAt w base b L) (hb : Below w.heap.size w w') : TxtAt w' base b L := ⟨h.1.below hb, h.2⟩
theorem TxtAt.grown {w w' : World} {base b base' : Nat} {L : List (List UInt8)} {v : Value} {l : List UInt8} (h : TxtAt w base b L) (ho : OwnB w base' v l) (hg : w.grownBy w' v.ownBlock) : TxtAt w' base b L := by
  refine ⟨h.1.keep (hg.block b h.1.lt fun e => ?_), h.2⟩
  exact own_ne_cel ho h.1 (by decide) b e.symm rfl
/-- append(s, text...). -/
theorem append_text {w : World} {ops : Array Oper} {rest : List Oper} {o : Oper} {a : Act} {Q : Exit → Act → World → Prop} (hgd : o.guard = none) (sl x : Operand)
    (ho : o.op = .call { callee := .builtin .append, args := #[sl, x], argTypes := #[24, 9] })
    (base : Nat) (v : Value) (l : List UInt8) (hs : a.eval sl = v) (hown : OwnB w base v l) (s : ByteArray) (hx : a.eval x = .string s)
    (h63 : l.length + s.size ≤ 100000) (hbase : base ≤ w.heap.size)
    (h : ∀ v' w', OwnB w' base v' (l ++ s.data.toList) → w.grownBy w' v.ownBlock → wpList Tryd.prog ops Q rest (a.put o.dst v') w') : wpList Tryd.prog ops Q (o :: rest) a w := by
  obtain ⟨i, h1, h2, h3, h4⟩ := info_parts infoE_u8
  refine Lib.wpList_append_own_string w hgd sl x 24 9 ho base 5 i Tryd.underlying24 Tryd.underlying9 h1 h2 h3 h4 v l.length _ hs hown s hx (by unfold maxLen; omega) (by omega) hbase ?_
  intro v' w' g1 g2 _
  refine h v' w' ?_ g2
  unfold OwnB
  rw [List.length_append, len_list, nz_append, List.map_append, ← nz_cells]
  exact g1
theorem flat_take (L : List (List UInt8)) (i : Nat) (h : i < L.length) : flowF (L.take (i + 1)) = flowF (L.take i) ++ (L.getD i [] ++ nl18) := by
  have e : L.take (i + 1) = L.take i ++ [L.getD i []] := by
    rw [List.take_add_one]
    congr 1
    rw [List.getD_eq_getElem?_getD, List.getElem?_eq_getElem h]
    rfl
  rw [e, flat_append]
  simp [flowF]
theorem flat_le (L : List (List UInt8)) (i : Nat) : (flowF (L.take i)).length ≤ (flowF L).length := by
  have : flowF L = flowF (L.take i) ++ flowF (L.drop i) := by rw [← flat_append, List.take_append_drop]
  rw [this, List.length_append]
  omega
theorem getD_le (L : List (List UInt8)) (i : Nat) (h : i < L.length) : (L.getD i []).length ≤ (flowF L).length := by
  have h1 := flat_le L (i + 1)
  rw [flat_take L i h] at h1
  simp only [List.length_append] at h1
  omega
/-- A way round the loop over the lines. -/
structure Tl18 (w : World) (b : Nat) (L : List (List UInt8)) (i : Nat) (v : Value) (wr : World) : Prop where
  o : OwnB wr w.heap.size v (flowF (L.take i))
  t : TxtAt wr w.heap.size b L
  b : Below w.heap.size w wr
set_option maxHeartbeats 8000000 in
set_option maxRecDepth 100000 in
theorem text_any (c ev : Int) (s : ByteArray) (w : World) (hs : s.size ≤ 1000) (hc0 : -9223372036854775808 ≤ c) (hc1 : c ≤ 9223372036854775807) (he0 : -9223372036854775808 ≤ ev) (he1 : ev ≤ 9223372036854775807) (hT : PowT w) :
    Calls Tryd.prog 7 #[.agg #[.int .i64 c, .string s, .int .i64 ev]] w fun e w' =>
      ∃ v, e = .returned (.tuple #[v, .int .i64 (if rightF ⟨c, s.data.toList, ev⟩ then 0 else 1)]) ∧ OwnB w' w.heap.size v (if rightF ⟨c, s.data.toList, ev⟩ then textF ⟨c, s.data.toList, ev⟩ else []) ∧ (rightF ⟨c, s.data.toList, ev⟩ = false → v = .slice none 0 0) ∧ Below w.heap.size w w' := by
  have HTL := fun h => text_len (r := ⟨c, s.data.toList, ev⟩) h
  have CR : ∀ W : World, Calls Tryd.prog 8 #[.agg #[.int .i64 c, .string s, .int .i64 ev]] W fun e w' => e = .returned (.bool (rightF ⟨c, s.data.toList, ev⟩)) ∧ Below W.heap.size W w' := fun W => right_any c ev s W hs hc0 hc1 he0 he1
  have CL : ∀ W : World, Below w.heap.size w W → Calls Tryd.prog 15 #[.agg #[.int .i64 c, .string s, .int .i64 ev]] W fun e w' => ∃ b, e = .returned (.slice (some ⟨b, 0, none⟩) (linesF ⟨c, s.data.toList, ev⟩).length (linesF ⟨c, s.data.toList, ev⟩).length) ∧ TxtAt w' w.heap.size b (linesF ⟨c, s.data.toList, ev⟩) ∧ Below w.heap.size w w' := by
    intro W hb
    refine (lines_any c ev s W hs hc0 hc1 he0 he1 (hT.below hb)).mono ?_
    rintro e w' ⟨b, h1, h2, h3⟩
    exact ⟨b, h1, ⟨h2.1, Nat.le_trans hb.size h2.2⟩, hb.trans (h3.mono hb.size)⟩
  have HF := fun h : rightF ⟨c, s.data.toList, ev⟩ = true => (show (flowF (linesF ⟨c, s.data.toList, ev⟩)).length + 2 ≤ 200 by have := HTL h; unfold textF at this; rw [List.length_append] at this; exact this)
  have hTX : textF ⟨c, s.data.toList, ev⟩ = flowF (linesF ⟨c, s.data.toList, ev⟩) ++ nl18 := rfl
  rw [hTX]
  have hLn : (linesF ⟨c, s.data.toList, ev⟩).length ≤ 3 := by
    unfold linesF
    split
    · exact (by omega : 2 ≤ 3)
    split <;> simp
  obtain ⟨L, hL⟩ : ∃ L, linesF ⟨c, s.data.toList, ev⟩ = L := ⟨_, rfl⟩
  rw [hL] at CL HF hLn ⊢
  clear hL HTL hTX
  generalize rightF ⟨c, s.data.toList, ev⟩ = R at *
  obtain ⟨g, hg⟩ : ∃ g, w.heap.size = g := ⟨_, rfl⟩
  obtain ⟨wb, hwb⟩ : ∃ wb, w.alloc (.cells #[.int .i64 c, .string s, .int .i64 ev] 23) = wb := ⟨_, rfl⟩
  have hcel : Cel wb g 23 #[.int .i64 c, .string s, .int .i64 ev] := by rw [← hwb, ← hg]; exact Cel.new w _ _
  have bb : Below w.heap.size w wb := by rw [← hwb]; exact Below.alloc_new _ _
  have HC : RowKit.Hid (∀ W : World, Below wb.heap.size wb W → W.cell? ⟨g, 0, none⟩ = some (.int .i64 c) ∧ W.cell? ⟨g, 1, none⟩ = some (.string s) ∧ W.cell? ⟨g, 2, none⟩ = some (.int .i64 ev)) := fun W h => ⟨(hcel.below h).cell 0, (hcel.below h).cell 1, (hcel.below h).cell 2⟩
  obtain ⟨x0, x1, x2⟩ := HC.out wb (Below.refl _ _)
  cases R with
  | false =>
    go_enter Tryd.func7, Tryd.ntmps7
    go_wp2_with (go_at_call 8; refine (CR _).mono ?_; rintro e w2 ⟨rfl, b2⟩)
    go_ret2
    exact ⟨_, rfl, World.ownsRow_nil _ _ _ _, by first | exact rfl | exact fun _ => rfl, by rw [← hg]; exact bb.trans (b2.mono bb.size)⟩
  | true =>
    have hF := HF rfl
    go_enter Tryd.func7, Tryd.ntmps7
    go_wp2_with (first
      | (go_at_call 8; refine (CR _).mono ?_; rintro e w2 ⟨rfl, b2⟩; obtain ⟨y0, y1, y2⟩ := HC.out w2 b2)
      | (go_at_call 15; refine (CL _ (bb.trans (b2.mono bb.size))).mono ?_; rintro e w3 ⟨b, rfl, ht, b3⟩))
    have H0 : RowKit.Hid (Tl18 w b L 0 (.slice none 0 0) w3) := ⟨World.ownsRow_nil _ _ _ _, ht, b3⟩
    have hF2 := Lib.hid hF
    go_loopw [4, 6, 13] (fun v _ i wr => ∃ (k : Nat) (u : Value), u = v ∧ i = .int .i64 (k : Int) ∧ k ≤ L.length ∧ RowKit.Hid (Tl18 w b L k u wr)) (fun _ _ i _ => L.length - (intOf i).toNat)
    case atStart => exact ⟨0, _, rfl, rfl, by omega, H0⟩
    case round =>
      clear H0
      obtain ⟨k, u, rfl, rfl, hk, H⟩ := hrel
      by_cases hlt : k < L.length
      · have l1 : (k : Int) < (L.length : Int) := by omega
        obtain ⟨ln, hln⟩ : ∃ ln, L.getD k [] = ln := ⟨_, rfl⟩
        have x0 : wr.cell? ⟨b, k, none⟩ = some (.string (ba ln)) := by
          rw [H.out.t.1.cell k, ← hln]
          simp [List.getD_eq_getElem?_getD, List.getElem?_eq_getElem hlt]
        have hl1 : ln.length ≤ 200 := by have := getD_le L k hlt; rw [hln] at this; omega
        have hl2 : (ba ln).size ≤ 200 := by rw [ba_size]; exact hl1
        have hl3 : (flowF (L.take k)).length ≤ 200 := by have := flat_le L k; omega
        have hE : ba ln ++ (⟨#[13, 10]⟩ : ByteArray) = ba (ln ++ nl18) := ba_append ln nl18
        have HN : RowKit.Hid (flowF (L.take k) ++ (ba ln ++ (⟨#[13, 10]⟩ : ByteArray)).data.toList = flowF (L.take (k + 1))) := by
          rw [flat_take L k hlt, hln, hE]
          rfl
        have HSz : RowKit.Hid ((flowF (L.take k)).length + (ba ln ++ (⟨#[13, 10]⟩ : ByteArray)).size ≤ 100000) := by
          show _ ≤ _
          rw [hE, ba_size, List.length_append, show nl18.length = 2 from rfl]
          omega
        clear hE
        have HO := Lib.hid H.out.o
        have HB := Lib.hid H.out.b.size
        generalize ba ln = LN at *
        go_wp2_with (at_builtin; go_loud (refine append_text rfl _ _ rfl w.heap.size _ (flowF (L.take k)) rfl HO.out (LN ++ ⟨#[13, 10]⟩) rfl HSz.out HB.out ?_); intro v1 w4 hown hgrow; rw [HN.out] at hown; have H4 : RowKit.Hid (Tl18 w b L (k + 1) v1 w4) := ⟨hown, H.out.t.grown HO.out hgrow, H.out.b.grown hgrow HB.out (own_base HO.out)⟩; clear hown hgrow)
        go_roundw
        case rel => exact ⟨k + 1, v1, rfl, by go_num, by omega, H4⟩
        case measure => simp [intOf] <;> omega
      · obtain rfl : k = L.length := by omega
        have HO : RowKit.Hid (OwnB wr w.heap.size u (flowF L)) := by
          have := H.out.o
          rw [List.take_length] at this
          exact this
        have HB := Lib.hid H.out.b.size
        have HSz : RowKit.Hid ((flowF L).length + (⟨#[13, 10]⟩ : ByteArray).size ≤ 100000) := by
          show _ + 2 ≤ _
          have := hF2.out
          omega
        go_wp2_with (at_builtin; go_loud (refine append_text rfl _ _ rfl w.heap.size _ (flowF L) rfl HO.out ⟨#[13, 10]⟩ rfl HSz.out HB.out ?_); intro v1 w4 hown hgrow; have HO4 := Lib.hid hown; have HB4 : RowKit.Hid (Below w.heap.size w w4) := H.out.b.grown hgrow HB.out (own_base HO.out); clear hown hgrow)
        go_ret2
        rw [← hg]
        exact ⟨v1, rfl, HO4.out, HB4.out⟩
end Go.Proofs.YtjhihjkhbmbigaaDoor
