/- What the functions of package rangedec give: a copy of bytes, a decoder of them, how many bytes were taken that aren't there. -/
import Derived.Test.YtgnmnmjicjcffaaRdcA
import Derived.Test.YtgnmnmjicjcffaaMemA
import Derived.StillTailTactics
import Derived.Lib.SliceRun
namespace Go.Proofs.Ytgnmnmjicjcffaa
open Go.RowKit
set_option linter.unusedVariables false

theorem info_u807 : (Try.prog.info? 5).map (fun i => (i.zero, i.size, i.bytes)) = some (some (.int .u8 0), 1, 1) := by kernel_rfl
/-- A copy of bytes, in memory of its own. -/
def ClonePost (b : List Int) (w : World) (x : Ending) (w' : World) : Prop :=
  ∃ v, x = .returned v ∧ w'.ownsRow w.heap.size 5 1 v b.length (b.map (Value.int .u8)) ∧ Below w.heap.size w w'
set_option maxRecDepth 100000 in
theorem clone8_any (a : Option Addr) (len cap : Nat) (b : List Int) (w : World) (h : IntsAt w w.heap.size .u8 a len b) (hn : a = none → cap = 0) (hl : len ≤ 1000000) :
    Calls Try.prog 35 #[.slice a len cap] w (ClonePost b w) := by
  have HI := Lib.hid h
  have HN := Lib.hid hn
  have hbl := Lib.hid h.1
  have hown0 := Lib.hid (World.ownsRow_lit (base := w.heap.size) (e := 5) (size := 1) w #[] 0 (Nat.le_refl _) (by decide) rfl)
  have hbel0 := Lib.hid (Below.alloc_new w (.cells #[] 5))
  cases a with
  | none =>
    obtain rfl := hn rfl
    have hb0 : b = [] := by
      have h0 := h.1
      rcases h.2 with h2 | ⟨_, _, h2, _⟩
      · subst h2; exact List.eq_nil_of_length_eq_zero h0
      · cases h2
    subst hb0
    obtain rfl : len = 0 := h.1.symm
    clear h hn
    have HO := Lib.hid (World.ownsRow_nil w w.heap.size 5 1)
    have qN : ∀ w : World, (binOp .eql 33 (.slice none 0 0) (.slice none 0 0)).run Try.prog w = .ok (.bool true) w := fun w => Lib.run_eql_slice_nil w _ _ _ _ _ _ _ Try.underlying33
    go_enter Try.func35, Try.ntmps35
    go_wp2
    go_ret
    exact ⟨_, rfl, HO.out, Below.refl _ _⟩
  | some ad =>
    clear h hn
    have qN : ∀ w : World, (binOp .eql 33 (.slice (some ad) len cap) (.slice none 0 0)).run Try.prog w = .ok (.bool false) w := fun w => Lib.run_eql_slice_nil w _ _ _ _ _ _ _ Try.underlying33
    go_enter Try.func35, Try.ntmps35
    go_wp2_with (at_builtin; go_loud (refine append_ints rfl _ _ 33 rfl w.heap.size 5 .u8 1 Try.underlying33 info_u807 _ 0 [] rfl hown0.out (some ad) len cap w.heap.size b rfl (HI.out.below hbel0.out) HN.out ?c1 ?c2 (by simp) ?_))
    case c1 => unfold maxLen; omega
    case c2 => omega
    intro v2 w2 hown hgrow _
    have hown2 : w2.ownsRow w.heap.size 5 1 v2 b.length (b.map (Value.int .u8)) := by rw [hbl.out]; simpa using hown
    have HO := Lib.hid hown2
    have HB : RowKit.Hid (Below w.heap.size w w2) := hbel0.out.grown hgrow (by simp) (own_base hown0.out)
    clear hown hown2 hgrow
    go_wp2
    go_ret
    exact ⟨_, rfl, HO.out, HB.out⟩

/-- A new decoder. -/
def DrcNewPost (b : List Int) (w : World) (x : Ending) (w' : World) : Prop :=
  ∃ g v, x = .returned (.pointer (some ⟨g, 0, none⟩)) ∧ DrcAt w' w.heap.size g v b (decNew (byteF b)) ∧ Below w.heap.size w w'
set_option maxRecDepth 100000 in
theorem drcNew_any (a : Option Addr) (len cap : Nat) (b : List Int) (w : World) (h : IntsAt w w.heap.size .u8 a len b) (hn : a = none → cap = 0) (hb : ∀ j, 0 ≤ byteF b j ∧ byteF b j ≤ 255) (hl : len ≤ 1000000) :
    Calls Try.prog 20 #[.slice a len cap] w (DrcNewPost b w) := by
  have HI := Lib.hid h
  have HN := Lib.hid hn
  have HBy := Lib.hid hb
  have hbl : b.length ≤ 1000000 := by rw [h.1]; exact hl
  clear h hn hb
  go_enter Try.func20, Try.ntmps20
  go_wp2_with (go_at_call 35; go_loud (refine (clone8_any a len cap b _ HI.out HN.out hl).mono ?_); rintro e1 w1 ⟨v, rfl, hown, hb⟩; obtain ⟨a2, cp2, rfl⟩ := own_form hown; have HO := Lib.hid hown; have HB := Lib.hid hb; clear hown hb)
  have H0 : RowKit.Hid (DrcR (w1.alloc (.cells #[.slice a2 b.length cp2, .int .i64 0, .int .u32 0, .int .u32 0] 69)) w.heap.size w1.heap.size (.slice a2 b.length cp2) b 0 0 0 ∧ Below w.heap.size w (w1.alloc (.cells #[.slice a2 b.length cp2, .int .i64 0, .int .u32 0, .int .u32 0] 69))) :=
    ⟨⟨Cel.new w1 _ _, World.ownsRow.alloc HO.out _, HB.out.size⟩, HB.out.alloc HB.out.size _⟩
  have hsz := HB.out.size
  clear HO HB
  generalize hgg : w1.heap.size = g at H0 hsz ⊢
  generalize (w1.alloc (.cells #[.slice a2 b.length cp2, .int .i64 0, .int .u32 0, .int .u32 0] 69)) = w2 at H0 ⊢
  clear hgg
  go_loopw [8] (fun i wr => ∃ q : Nat, q ≤ 4 ∧ i = .int .i64 q ∧ RowKit.Hid (DrcR wr w.heap.size g (.slice a2 b.length cp2) b 0 (valB (byteF b) q) 0 ∧ Below w.heap.size w wr ∧ valB (byteF b) q < P256 q ∧ 0 ≤ valB (byteF b) q)) (fun i _ => 4 - (intOf i).toNat)
  case atStart => exact ⟨0, by omega, rfl, H0.out.1, H0.out.2, by show (0 : Int) < 1; decide, Int.le_refl 0⟩
  case round =>
    obtain ⟨q, hq, rfl, H⟩ := hrel
    clear H0
    by_cases hlt : q < 4
    · have hv1 : valB (byteF b) q ≤ 16777215 := by
        have h1 := H.out.2.2.1
        have : q = 0 ∨ q = 1 ∨ q = 2 ∨ q = 3 := by omega
        rcases this with rfl | rfl | rfl | rfl
        · have e : P256 0 = 1 := by decide
          omega
        · have e : P256 1 = 256 := by decide
          omega
        · have e : P256 2 = 65536 := by decide
          omega
        · have e : P256 3 = 16777216 := by decide
          omega
      have hv0 := H.out.2.2.2
      have hbq := HBy.out q
      obtain ⟨y0, y1, y2, y3⟩ := H.out.1.cells
      obtain ⟨x1, x2, x3⟩ := H.out.1.fz
      clear y0 y1 y3 x1 x3
      have HV : RowKit.Hid (valB (byteF b) (q + 1) = valB (byteF b) q * 256 + byteF b q) := rfl
      have HP : RowKit.Hid (valB (byteF b) (q + 1) < P256 (q + 1)) := by
        have h1 := H.out.2.2.1
        show _ < _
        rw [HV.out, P256_succ]; omega
      have T1 := Lib.hid (H.out.1.setCode (valB (byteF b) (q + 1)))
      have K1 := Lib.hid (H.out.2.1.setCell (p := ⟨g, 2, none⟩) hsz (.int .u32 (valB (byteF b) (q + 1))))
      have HD : RowKit.Hid (∀ n, DrcR (wr.drewN n) w.heap.size g (.slice a2 b.length cp2) b 0 (valB (byteF b) q) 0) := fun n => H.out.1
      have hor := u32_or_byte hv0 hv1 hbq.1 hbq.2
      have hwx : IntKind.u32.wrap (byteF b q) = byteF b q := IntWalk.u32_in _ (by omega)
      have hwr : IntKind.u32.wrap (valB (byteF b) q * 256) = valB (byteF b) q * 256 := IntWalk.u32_in _ (by omega)
      have hq1 : (q : Int) < 4 := by omega
      rw [HV.out] at T1 K1
      go_wp2
      go_still_tail 8, (by kernel_rfl)
      repeat still_step
      still_call ((drcDigit_any w.heap.size g (.slice a2 b.length cp2) b 0 _ 0 q _ _ rfl (HD.out 1) hbl (by omega)).mono fun _ _ h => ⟨h.1, h.2.symm⟩)
      repeat still_step
      refine wpStill_nil ?_
      change wpList _ _ _ _ _ wr.drew
      go_wp2
      go_roundw
      case rel => exact ⟨q + 1, by omega, by go_num, T1.out.drewN 1, Below.drewN' K1.out 1, HP.out, by rw [HV.out]; omega⟩
      case measure => simp [intOf] <;> omega
    · obtain rfl : q = 4 := by omega
      go_wp2
      go_ret
      exact ⟨g, _, rfl, ⟨Nat.le_refl 4, H.out.1⟩, H.out.2.1⟩

end Go.Proofs.Ytgnmnmjicjcffaa
