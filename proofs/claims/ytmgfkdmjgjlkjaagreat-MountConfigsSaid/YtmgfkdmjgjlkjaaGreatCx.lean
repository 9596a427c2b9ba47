/- Plain facts, and what functions give, for the proofs of this seat: several texts in one, each with its own first remark. -/
import Derived.Test.YtmgfkdmjgjlkjaaGreatCw

namespace Go.Proofs.YtmgfkdmjgjlkjaaGreat
open Go.RowKit
set_option linter.unusedVariables false
theorem FnAt.sub {w : World} {B n : Nat} {k : IntKind} {b off : Nat} {f : Nat → Int} (h : FnAt w B k (some ⟨b, off, none⟩) n f) (A m : Nat) (hA : A + m ≤ n) : FnAt w B k (some ⟨b, off + A, none⟩) m (fun j => f (A + j)) := by
  obtain ⟨b', off', e, h3, h5⟩ := h
  obtain ⟨rfl, rfl⟩ : b = b' ∧ off = off' := by injection e with e; injection e with e1 e2; exact ⟨e1, e2⟩
  exact ⟨b, off + A, rfl, h3, fun j hj => by rw [Nat.add_assoc]; exact h5 (A + j) (by omega)⟩
noncomputable def briefA (all : Nat → Int) (m k i : Nat) : Int := if i % 4 < m ∨ (i % 4 = m ∧ i / 4 < k) then linesF true all i else 0
theorem briefA_start (all : Nat → Int) (i : Nat) : briefA all 0 0 i = 0 := if_neg (by omega)
theorem briefA_end (all : Nat → Int) (i : Nat) : briefA all 4 0 i = linesF true all i := if_pos (by omega)
theorem briefA_block (all : Nat → Int) (m i : Nat) (hi : i < 512) : briefA all m 128 i = briefA all (m + 1) 0 i := by
  unfold briefA
  by_cases c : i % 4 < m + 1
  · rw [if_pos (by omega), if_pos (by omega)]
  · rw [if_neg (by omega), if_neg (by omega)]
theorem briefA_next (all : Nat → Int) {m k p : Nat} (hm : m < 4) (hp : p = 4 * k + m) (i : Nat) : (if i = p then fwdF 128 (blkF all m) k else briefA all m k i) = briefA all m (k + 1) i := by
  unfold briefA
  by_cases e : i = p
  · rw [if_pos e, if_pos (by omega)]
    have := congrFun (linesF_brief all hm) k
    unfold pickF at this
    rw [e, hp, this]
  · rw [if_neg e]
    by_cases c : i % 4 < m ∨ (i % 4 = m ∧ i / 4 < k)
    · rw [if_pos c, if_pos (by omega)]
    · rw [if_neg c, if_neg (by omega)]
set_option maxRecDepth 100000 in
theorem ovLines_brief (c p q cap : Nat) (a : Option Addr) (all : Nat → Int) (w : World) (hT : TlAt w c p q) (ha : FnAt w w.heap.size .i32 a 640 all) (hb : ∀ j, j < 640 → (all j).natAbs ≤ 524288) (hc : 640 ≤ cap) (hc' : cap ≤ 9223372036854775807) :
    Calls Tryz.prog 153 #[toolsV c p q, .slice a 640 cap] w (RowsPost 512 (linesF true all) w) := by
  have HB := Lib.hid hb
  obtain ⟨b, off, rfl, _, _⟩ := id ha
  have HR0 := Lib.hid ((Cel.new w 168 #[.pointer (some ⟨c, 0, none⟩), .pointer (some ⟨p, 0, none⟩), .pointer (some ⟨q, 0, none⟩)]).alloc (.cells (madeCells #[.int .i32 0] 512) 21))
  have HX0 : RowKit.Hid (IFun ((w.alloc (.cells #[.pointer (some ⟨c, 0, none⟩), .pointer (some ⟨p, 0, none⟩), .pointer (some ⟨q, 0, none⟩)] 168)).alloc (.cells (madeCells #[.int .i32 0] 512) 21)) (w.heap.size + 1) 21 .i32 512 (briefA all 0 0)) := by
    have := IFun.zeros (w.alloc (.cells #[.pointer (some ⟨c, 0, none⟩), .pointer (some ⟨p, 0, none⟩), .pointer (some ⟨q, 0, none⟩)] 168)) 21 .i32 512
    rw [alloc_size] at this
    exact IFun.ext this fun j _ => (briefA_start all j).symm
  have HB0 := Lib.hid (chain (Below.alloc_new w (.cells #[.pointer (some ⟨c, 0, none⟩), .pointer (some ⟨p, 0, none⟩), .pointer (some ⟨q, 0, none⟩)] 168)) (Below.alloc_new _ (.cells (madeCells #[.int .i32 0] 512) 21)))
  have HT0 := Lib.hid (hT.below HB0.out)
  have HA := Lib.hid ha
  have hmk : ∀ w : World, (Instr.makeSlice 118 (.int .i64 512) (.int .i64 512)).run Tryz.prog w = .ok (.slice (some ⟨w.heap.size, 0, none⟩) 512 512) (w.alloc (.cells (madeCells #[.int .i32 0] 512) 21)) :=
    fun w => make_zeros (P := Tryz.prog) Tryz.underlying118 info_i32 512 (by decide) (by decide) w
  clear hT ha hb
  generalize madeCells #[Value.int .i32 0] 512 = mc at HR0 HX0 HB0 HT0 hmk
  unfold toolsV
  go_enter Tryz.func153, Tryz.ntmps153
  go_wp2
  clear hmk
  generalize (w.alloc (.cells #[.pointer (some ⟨c, 0, none⟩), .pointer (some ⟨p, 0, none⟩), .pointer (some ⟨q, 0, none⟩)] 168)).alloc (.cells mc 21) = w2 at HR0 HX0 HB0 HT0 ⊢
  go_loopw [13] (fun i wr => ∃ m : Nat, m ≤ 4 ∧ i = .int .i64 (m : Int) ∧ RowKit.Hid (IFun wr (w.heap.size + 1) 21 .i32 512 (briefA all m 0) ∧ Cel wr w.heap.size 168 #[.pointer (some ⟨c, 0, none⟩), .pointer (some ⟨p, 0, none⟩), .pointer (some ⟨q, 0, none⟩)] ∧ TlAt wr c p q ∧ Below w.heap.size w wr)) (fun i _ => 4 - (intOf i).toNat)
  case atStart => exact ⟨0, by omega, rfl, HX0.out, HR0.out, HT0.out, HB0.out⟩
  case round =>
    obtain ⟨m, hm, rfl, HI⟩ := hrel
    clear HX0 HR0 HT0 HB0
    by_cases hlt : m < 4
    · obtain ⟨A, hA⟩ : ∃ A, A = m * 128 := ⟨_, rfl⟩
      obtain ⟨D, hD⟩ : ∃ D, D = (m + 2) * 128 := ⟨_, rfl⟩
      have e1 : (m : Int) * 128 = (A : Int) := by omega
      have e2 : ((m : Int) + 2) * 128 = (D : Int) := by omega
      have g1 : IntKind.i64.wrap (A : Int) = (A : Int) := IntWalk.i64_in _ (by omega)
      have g2 : IntKind.i64.wrap ((m : Int) + 2) = (m : Int) + 2 := IntWalk.i64_in _ (by omega)
      have g3 : IntKind.i64.wrap (D : Int) = (D : Int) := IntWalk.i64_in _ (by omega)
      have b1 : (0 : Int) ≤ (A : Int) := by omega
      have b2 : (A : Int) ≤ (D : Int) := by omega
      have b3 : (D : Int) ≤ (cap : Int) := by omega
      have l1 : (m : Int) < 4 := by omega
      have HAr : RowKit.Hid (FnAt wr wr.heap.size .i32 (some ⟨b, off + A, none⟩) 256 (fun j => all (128 * m + j))) := ((HA.out.now HI.out.2.2.2).sub A 256 (by omega)).ext fun j _ => by rw [show A + j = 128 * m + j by omega]
      have hRl := HI.out.2.1.lt
      obtain ⟨r0, r1, r2⟩ := cel3 HI.out.2.1
      have q1 : D - A = 256 := by omega
      have q2 : ¬ cap = A := by omega
      have HM := Lib.hid hA
      clear hA hD
      go_wp2
      go_region_held3 (fun w' => w'.cell? ⟨w.heap.size, 0, none⟩ = some (.pointer (some ⟨c, 0, none⟩)) ∧ w'.cell? ⟨w.heap.size, 1, none⟩ = some (.pointer (some ⟨p, 0, none⟩)) ∧ w'.cell? ⟨w.heap.size, 2, none⟩ = some (.pointer (some ⟨q, 0, none⟩))) (go_keep) (first | (go_at_call 154; go_loud (refine (ovShape_any c p q 256 _ (some ⟨b, off + A, none⟩) (fun j => all (128 * m + j)) wr.drew HI.out.2.2.1.1.2 (by decide) (by decide) HAr.out (fun j hj => by have := HB.out (128 * m + j) (by omega); omega)).mono ?_); rintro e w3 ⟨G3, rfl, i3, s3, z3⟩; have HI3 : RowKit.Hid (IFun w3 G3 21 .i32 256 (blkF all m)) := i3; have HR3 : RowKit.Hid (Cel w3 w.heap.size 168 #[.pointer (some ⟨c, 0, none⟩), .pointer (some ⟨p, 0, none⟩), .pointer (some ⟨q, 0, none⟩)]) := HI.out.2.1.keep (z3.block _ hRl); have HX3 : RowKit.Hid (IFun w3 (w.heap.size + 1) 21 .i32 512 (briefA all m 0)) := (show IFun wr.drew (w.heap.size + 1) 21 .i32 512 (briefA all m 0) from HI.out.1).below z3 HI.out.1.lt; have HT3 : RowKit.Hid (TlAt w3 c p q) := (show TlAt wr.drew c p q from HI.out.2.2.1).below z3; have HB3 : RowKit.Hid (Below w.heap.size w w3) := chain (show Below w.heap.size w wr.drew from Below.drewN' HI.out.2.2.2 1) z3; obtain ⟨m0, m1, m2⟩ := cel3 HR3.out; clear i3 s3 z3) | (go_at_call 155; go_loud (refine (lapForward_any q c 128 256 256 _ (blkF all m) w3 HT3.out.2 (.inl rfl) rfl (FnAt.of_ifun HI3.out) (fun j hj => by have := blkF_abs HB.out hlt hj; omega)).mono ?_); rintro e w5 ⟨g5, rfl, i5, s5, b5⟩; have HI5 := Lib.hid i5; have HS5 : RowKit.Hid (w.heap.size + 1 < g5) := Nat.lt_of_lt_of_le HX3.out.lt s5; have HR5 : RowKit.Hid (Cel w5 w.heap.size 168 #[.pointer (some ⟨c, 0, none⟩), .pointer (some ⟨p, 0, none⟩), .pointer (some ⟨q, 0, none⟩)]) := HR3.out.below b5; have HX5 : RowKit.Hid (IFun w5 (w.heap.size + 1) 21 .i32 512 (briefA all m 0)) := HX3.out.below b5 HX3.out.lt; have HT5 : RowKit.Hid (TlAt w5 c p q) := HT3.out.below b5; have HB5 : RowKit.Hid (Below w.heap.size w w5) := chain HB3.out b5; obtain ⟨n0, n1, n2⟩ := cel3 HR5.out; clear i5 s5 b5) | fail)
      clear m0 m1 m2 n0 n1 n2 r0 r1 r2 HR3 HX3 HT3 HB3 HI3 HI HAr g1 g2 g3 b1 b2 b3 e1 e2 q1 q2
      go_wp2
      go_loopw [36] (fun i wx => ∃ k : Nat, k ≤ 128 ∧ i = .int .i64 (k : Int) ∧ RowKit.Hid (IFun wx (w.heap.size + 1) 21 .i32 512 (briefA all m k) ∧ Cel wx w.heap.size 168 #[.pointer (some ⟨c, 0, none⟩), .pointer (some ⟨p, 0, none⟩), .pointer (some ⟨q, 0, none⟩)] ∧ TlAt wx c p q ∧ Below w.heap.size w wx ∧ IFun wx g5 21 .i32 128 (fwdF 128 (blkF all m)))) (fun i _ => 128 - (intOf i).toNat)
      case atStart => exact ⟨0, by omega, rfl, HX5.out, HR5.out, HT5.out, HB5.out, HI5.out⟩
      case round =>
        obtain ⟨k, hk, rfl, HJ⟩ := hrel
        clear HX5 HR5 HT5 HB5 HI5
        by_cases hlk : k < 128
        · obtain ⟨P, hP⟩ : ∃ P, P = 4 * k + m := ⟨_, rfl⟩
          have eP : 4 * (k : Int) + (m : Int) = (P : Int) := by omega
          have P1 : P < 512 := by omega
          have k1 := HJ.out.2.2.2.2.cell hlk
          have o1 := HJ.out.1.cell (j := P) P1
          have f1 := HJ.out.1.frozen P
          have HS : RowKit.Hid (IFun (wr.setCell ⟨w.heap.size + 1, P, none⟩ (.int .i32 (fwdF 128 (blkF all m) k))) (w.heap.size + 1) 21 .i32 512 (briefA all m (k + 1)) ∧ Cel (wr.setCell ⟨w.heap.size + 1, P, none⟩ (.int .i32 (fwdF 128 (blkF all m) k))) w.heap.size 168 #[.pointer (some ⟨c, 0, none⟩), .pointer (some ⟨p, 0, none⟩), .pointer (some ⟨q, 0, none⟩)] ∧ TlAt (wr.setCell ⟨w.heap.size + 1, P, none⟩ (.int .i32 (fwdF 128 (blkF all m) k))) c p q ∧ Below w.heap.size w (wr.setCell ⟨w.heap.size + 1, P, none⟩ (.int .i32 (fwdF 128 (blkF all m) k))) ∧ IFun (wr.setCell ⟨w.heap.size + 1, P, none⟩ (.int .i32 (fwdF 128 (blkF all m) k))) g5 21 .i32 128 (fwdF 128 (blkF all m))) := by
            refine ⟨IFun.ext (HJ.out.1.set (j := P) P1 (fwdF 128 (blkF all m) k)) fun i _ => briefA_next all hlt hP i, HJ.out.2.1.far (by show w.heap.size ≠ w.heap.size + 1; omega) _, ?_, Below.setCell (p := ⟨w.heap.size + 1, P, none⟩) HJ.out.2.2.2.1 (by show w.heap.size ≤ w.heap.size + 1; omega) _, HJ.out.2.2.2.2.far (by have := HS5.out; show g5 ≠ w.heap.size + 1; omega) _⟩
            obtain ⟨cs, hcs⟩ := HJ.out.1.cel
            exact HJ.out.2.2.1.keeps hcs (by decide) (by decide) (Keeps.set1 _)
          have hv := satP_26_bd (turnF 128 (foldF 128 (blkF all m)) k)
          rw [show satP (turnF 128 (foldF 128 (blkF all m)) k) 26 = fwdF 128 (blkF all m) k from rfl] at hv
          generalize fwdF 128 (blkF all m) k = x at k1 HS hv
          generalize briefA all m k P = old at o1
          have l2 : (k : Int) < 128 := by omega
          have l3 : (P : Int) < 512 := by omega
          obtain ⟨x0, x1⟩ := hv
          clear HJ hP
          go_wp2
          go_roundw
          case rel => exact ⟨k + 1, by omega, by go_num, HS.out⟩
          case measure => simp [intOf] <;> omega
        · have l2 : ¬ (k : Int) < 128 := by omega
          have HS : RowKit.Hid (IFun wr (w.heap.size + 1) 21 .i32 512 (briefA all (m + 1) 0) ∧ Cel wr w.heap.size 168 #[.pointer (some ⟨c, 0, none⟩), .pointer (some ⟨p, 0, none⟩), .pointer (some ⟨q, 0, none⟩)] ∧ TlAt wr c p q ∧ Below w.heap.size w wr) :=
            ⟨IFun.ext HJ.out.1 fun i hi => by rw [show k = 128 by omega]; exact briefA_block all m i hi, HJ.out.2.1, HJ.out.2.2.1, HJ.out.2.2.2.1⟩
          clear HJ
          go_wp2
          go_roundw
          case rel => exact ⟨m + 1, by omega, by go_num, HS.out⟩
          case measure => simp [intOf] <;> omega
    · obtain rfl : m = 4 := by omega
      have Z : RowKit.Hid (IFun wr (w.heap.size + 1) 21 .i32 512 (linesF true all) ∧ Below w.heap.size w wr) := ⟨IFun.ext HI.out.1 fun i _ => briefA_end all i, HI.out.2.2.2⟩
      go_wp2
      go_ret2
      exact ⟨_, rfl, Z.out.1, by omega, Z.out.2⟩
theorem ovLines_any (c p q cap : Nat) (a : Option Addr) (all : Nat → Int) (b : Bool) (w : World) (hT : TlAt w c p q) (ha : FnAt w w.heap.size .i32 a 640 all) (hb : ∀ j, j < 640 → (all j).natAbs ≤ 524288) (hc : 640 ≤ cap) (hc' : cap ≤ 9223372036854775807) :
    Calls Tryz.prog 124 #[toolsV c p q, .slice a 640 cap, .bool b] w (RowsPost 512 (linesF b all) w) := by
  cases b with
  | false => exact ovLines_long c p q cap a all w hT ha hb
  | true =>
    have HB := Lib.hid hb
    have HB0 := Lib.hid (Below.alloc_new w (.cells #[.pointer (some ⟨c, 0, none⟩), .pointer (some ⟨p, 0, none⟩), .pointer (some ⟨q, 0, none⟩)] 168))
    have HT0 := Lib.hid (hT.below HB0.out)
    have HA0 := Lib.hid (ha.now HB0.out)
    clear hT ha hb
    unfold toolsV
    go_enter Tryz.func124, Tryz.ntmps124
    go_wp2_with (go_at_call 153; go_loud (refine (ovLines_brief c p q cap a all _ HT0.out HA0.out HB.out hc hc').mono ?_); rintro e w5 ⟨g5, rfl, i5, s5, b5⟩; have HI5 := Lib.hid i5; have S5 := Lib.hid s5; have HB5 := Lib.hid (chain HB0.out b5); clear i5 s5 b5)
    go_ret2
    exact ⟨g5, rfl, HI5.out, Nat.le_trans HB0.out.size S5.out, HB5.out⟩
end Go.Proofs.YtmgfkdmjgjlkjaaGreat

namespace Go.Proofs.YtmgfkdmjgjlkjaaGreat
open Go.RowKit
set_option linter.unusedVariables false
theorem ana_slice (g : Nat) (w : World) : (Instr.sliceAt 170 (.pointer (some ⟨g, 3, none⟩)) none none none).run Tryz.prog w = .ok (.slice (some ⟨g, 3, none⟩) 128 128) w := by
  have e : Tryz.prog.arrayLen 170 = 128 := by kernel_rfl
  have e2 : Tryz.prog.elem 170 = 77 := by kernel_rfl
  have ht : Tryz.prog.underlying 170 = some (.array (Tryz.prog.arrayLen 170) (Tryz.prog.elem 170)) := by kernel_rfl
  have es : (sizeOf 77).run Tryz.prog w = .ok 1 w := by kernel_rfl
  rw [run_sliceAt_array_all w _ _ ht, e, e2, es]
  simp [Result.andThen, slicedAt, Addr.add]
theorem splice_ovl {k : IntKind} {c p q : Nat} (f l : Nat → Int) : splice (ovlL k c p q f) 3 ((tabF 128 l).map (Value.int k)) = ovlL k c p q l := by
  unfold splice ovlL
  have h : ((tabF 128 f).map (Value.int k)).length = 128 := by rw [List.length_map, tabF_len]
  have h2 : ((tabF 128 l).map (Value.int k)).length = 128 := by rw [List.length_map, tabF_len]
  rw [h2]
  generalize (tabF 128 f).map (Value.int k) = F at h
  generalize (tabF 128 l).map (Value.int k) = L
  simp [h]
theorem info_i16s : (Tryz.prog.info? 77).map (·.size) = some 1 := by
  obtain ⟨i, h1, _, h3, _⟩ := info_parts info_i169
  rw [h1]; simp [h3]
theorem allF_abs {ah f : Nat → Int} (h0 : ∀ j, j < 128 → -32768 ≤ ah j ∧ ah j ≤ 32767) (h1 : ∀ j, j < 512 → -32768 ≤ f j ∧ f j ≤ 32767) : ∀ j, j < 640 → (allF ah f j).natAbs ≤ 524288 := by
  intro j hj
  unfold allF
  split
  · have := h0 j (by assumption); omega
  · have := h1 (j - 128) (by omega); omega
theorem own_caps {w : World} {base e n c : Nat} {ad : Option Addr} {xs : List Value} (h : w.ownsRow base e 1 (.slice ad n c) n xs) (h0 : 0 < n) : n ≤ c ∧ c ≤ 9223372036854775807 := by
  rcases h.2 with ⟨h1, _⟩ | ⟨g', cap, cur, h1, _, _, h2, h3, _⟩
  · injection h1 with _ h1; omega
  · unfold maxLen at h3; injection h1 with _ _ h1; omega
def AnaPost (b : Bool) (a c p q : Nat) (ah f : Nat → Int) (w : World) (e : Ending) (w' : World) : Prop :=
  ∃ g, e = .returned (.tuple #[.slice (some ⟨g, 0, none⟩) 512 512, .int .i64 0]) ∧ IFun w' g 21 .i32 512 (linesF b (allF ah f)) ∧ w.heap.size ≤ g ∧ OvAt 172 .i16 w' a c p q (fun j => f (384 + j)) ∧ Keeps (· = a) w w'
set_option maxRecDepth 100000 in
theorem anaLines_any (a c p q x : Nat) (ah f : Nat → Int) (b : Bool) (w : World) (hA : OvAt 172 .i16 w a c p q ah) (hf : IFun w x 77 .i16 512 f)
    (h0 : ∀ j, j < 128 → -32768 ≤ ah j ∧ ah j ≤ 32767) (h1 : ∀ j, j < 512 → -32768 ≤ f j ∧ f j ≤ 32767) :
    Calls Tryz.prog 95 #[.pointer (some ⟨a, 0, none⟩), .slice (some ⟨x, 0, none⟩) 512 512, .bool b] w (AnaPost b a c p q ah f w) := by
  have HA := Lib.hid hA
  have HF := Lib.hid hf
  have H0 := Lib.hid h0
  have H1 := Lib.hid h1
  obtain ⟨a0, a1, a2⟩ := hA.ptrs
  have al := hA.1.lt
  have xl := hf.lt
  have hxa : x ≠ a := by obtain ⟨cs, hcs⟩ := hf.cel; exact hcs.ne hA.1 (by decide)
  have hAB : RowKit.Hid (∀ j, j < 640 → (allF ah f j).natAbs ≤ 524288) := allF_abs h0 h1
  have hsl := ana_slice a
  clear hA hf h0 h1
  go_enter Tryz.func95, Tryz.ntmps95
  go_wp2
  go_region_held3 (fun w' => w'.cell? ⟨a, 0, none⟩ = some (.pointer (some ⟨c, 0, none⟩)) ∧ w'.cell? ⟨a, 1, none⟩ = some (.pointer (some ⟨p, 0, none⟩)) ∧ w'.cell? ⟨a, 2, none⟩ = some (.pointer (some ⟨q, 0, none⟩))) (go_keep) (first | (go_at_call 125; go_loud (refine (ovAll_any a c p q x 512 ah f w.drew HA.out HF.out H0.out H1.out).mono ?_); rintro e w3 ⟨v3, rfl, o3, z3⟩; obtain ⟨b3, c3, rfl, f3, m3⟩ := fill_fn o3 (by decide); have HC3 := Lib.hid (own_caps o3 (by decide)); have HI3 := Lib.hid f3; have HA3 : RowKit.Hid (OvAt 172 .i16 w3 a c p q ah) := (show OvAt 172 .i16 w.drew a c p q ah from HA.out).below z3; have HF3 : RowKit.Hid (IFun w3 x 77 .i16 512 f) := (show IFun w.drew x 77 .i16 512 f from HF.out).below z3 xl; have HB3 : RowKit.Hid (Below w.heap.size w w3) := chain (show Below w.heap.size w w.drew from Below.drewN' (Below.refl _ _) 1) z3; obtain ⟨m0, m1, m2⟩ := HA3.out.ptrs; clear o3 z3 f3 m3) | (go_at_call 124; go_loud (refine (ovLines_any c p q c3 b3 (allF ah f) b w3 HA3.out.2 HI3.out hAB.out HC3.out.1 HC3.out.2).mono ?_); rintro e w5 ⟨g5, rfl, i5, s5, b5⟩; have HI5 := Lib.hid i5; have HS5 : RowKit.Hid (w.heap.size ≤ g5) := Nat.le_trans HB3.out.size s5; have HA5 : RowKit.Hid (OvAt 172 .i16 w5 a c p q ah) := HA3.out.below b5; have HF5 : RowKit.Hid (IFun w5 x 77 .i16 512 f) := HF3.out.below b5 HF3.out.lt; have HB5 : RowKit.Hid (Below w.heap.size w w5) := chain HB3.out b5; obtain ⟨n0, n1, n2⟩ := HA5.out.ptrs; clear i5 s5 b5) | fail)
  clear a0 a1 a2 m0 m1 m2 HA3 HF3 HB3 HC3 HI3 HA HF
  go_wp2
  have w384 : IntKind.i64.wrap 384 = 384 := by decide
  go_region_held3 (fun w' => True) (go_keep) (first | (refine step_copy_cells (by rfl) _ _ _ _ (by rfl) 77 Tryz.underlying22 info_i16s a 3 128 128 ⟨x, 384, none⟩ 128 _ (by rfl) (by rfl) _ 172 HA5.out.1 ((tabF 128 fun j => f (384 + j)).map (Value.int .i16)) (by rw [List.length_map, tabF_len]; rfl) (tab_src fun j hj => HF5.out.cell (by omega)) (by rw [List.length_map, tabF_len, ovlL_len]; decide) (tab_one _) ?_; intro w6 hx6 hk6; have HC6 : RowKit.Hid (Cel w6 a 172 (ovlL .i16 c p q fun j => f (384 + j)).toArray) := (by have := hx6.out; rw [splice_ovl] at this; exact this); have HK6 := Lib.hid hk6; clear hx6 hk6) | fail)
  have HO6 : RowKit.Hid (OvAt 172 .i16 w6 a c p q (fun j => f (384 + j))) := ⟨HC6.out, TlAt.keeps (w := w5.drew) HA5.out.2 HA5.out.1 (by decide) (by decide) HK6.out⟩
  have HI6 : RowKit.Hid (IFun w6 g5 21 .i32 512 (linesF b (allF ah f))) := by
    obtain ⟨cs, hcs⟩ := HI5.out.cel
    exact Cel.keeps (w := w5.drew) HI5.out HK6.out (hcs.ne HA5.out.1 (by decide))
  have HKK : RowKit.Hid (Keeps (· = a) w w6) := ((Keeps.of_below HB5.out).drewN 1).trans HK6.out
  go_wp2
  go_ret2
  exact ⟨g5, rfl, HI6.out, HS5.out, HO6.out, HKK.out⟩
end Go.Proofs.YtmgfkdmjgjlkjaaGreat

namespace Go.Proofs.YtmgfkdmjgjlkjaaGreat
open Go.RowKit
set_option linter.unusedVariables false
set_option maxRecDepth 100000 in
theorem ovSound_long (c p q cap : Nat) (a : Option Addr) (l : Nat → Int) (w : World) (hT : TlAt w c p q) (ha : FnAt w w.heap.size .i32 a 512 l) (hb : ∀ j, j < 512 → -33554432 ≤ l j ∧ l j ≤ 33554431) :
    Calls Tryz.prog 139 #[toolsV c p q, .slice a 512 cap, .bool false] w (RowsPost 640 (soundF false l) w) := by
  have HB := Lib.hid hb
  have HR0 := Lib.hid (Cel.new w 168 #[.pointer (some ⟨c, 0, none⟩), .pointer (some ⟨p, 0, none⟩), .pointer (some ⟨q, 0, none⟩)])
  have HB0 := Lib.hid (Below.alloc_new w (.cells #[.pointer (some ⟨c, 0, none⟩), .pointer (some ⟨p, 0, none⟩), .pointer (some ⟨q, 0, none⟩)] 168))
  have HT0 := Lib.hid (hT.below HB0.out)
  have HA0 := Lib.hid (ha.now HB0.out)
  have HXb : RowKit.Hid (∀ j, j < 640 → (backF 512 l (192 + j)).natAbs ≤ 2147483647) := fun j hj => by
    have := backF_512 (l := l) (fun j hj => by have := hb j hj; omega) (i := 192 + j) (by omega); omega
  clear hT ha hb
  unfold toolsV
  go_enter Tryz.func139, Tryz.ntmps139
  go_wp2_with (go_at_call 174; go_loud (refine (lapBack_any p c 512 1024 cap a l _ HT0.out.1 (.inr rfl) rfl HA0.out HB.out).mono ?_); rintro e w3 ⟨g3, rfl, i3, s3, b3⟩; have HI3 := Lib.hid i3; have HR3 : RowKit.Hid (Cel w3 w.heap.size 168 #[.pointer (some ⟨c, 0, none⟩), .pointer (some ⟨p, 0, none⟩), .pointer (some ⟨q, 0, none⟩)]) := HR0.out.below b3; have HT3 : RowKit.Hid (TlAt w3 c p q) := HT0.out.below b3; have HB3 : RowKit.Hid (Below w.heap.size w w3) := chain HB0.out b3; obtain ⟨m0, m1, m2⟩ := cel3 HR3.out; clear i3 s3 b3)
  go_region_held3 (fun w' => w'.cell? ⟨w.heap.size, 0, none⟩ = some (.pointer (some ⟨c, 0, none⟩)) ∧ w'.cell? ⟨w.heap.size, 1, none⟩ = some (.pointer (some ⟨p, 0, none⟩)) ∧ w'.cell? ⟨w.heap.size, 2, none⟩ = some (.pointer (some ⟨q, 0, none⟩))) (go_keep) (first | (go_at_call 154; go_loud (refine (ovShape_any c p q 640 _ (some ⟨g3, 192, none⟩) (fun j => backF 512 l (192 + j)) w3.drew HT3.out.1.2 (by decide) (by decide) ⟨g3, 192, rfl, HI3.out.lt, fun j hj => HI3.out.cell (by omega)⟩ HXb.out).mono ?_); rintro e w5 ⟨g5, rfl, i5, s5, b5⟩; have HI5 : RowKit.Hid (IFun w5 g5 21 .i32 640 (soundF false l)) := i5; have HS5 : RowKit.Hid (w3.heap.size ≤ g5) := s5; have HB5 : RowKit.Hid (Below w.heap.size w w5) := chain (show Below w.heap.size w w3.drew from Below.drewN' HB3.out 1) b5; have HR5 : RowKit.Hid (Cel w5 w.heap.size 168 #[.pointer (some ⟨c, 0, none⟩), .pointer (some ⟨p, 0, none⟩), .pointer (some ⟨q, 0, none⟩)]) := HR3.out.keep (b5.block _ HR3.out.lt); obtain ⟨n0, n1, n2⟩ := cel3 HR5.out; clear i5 s5 b5) | fail)
  go_wp2
  go_ret2
  exact ⟨g5, rfl, HI5.out, Nat.le_trans HB3.out.size HS5.out, HB5.out⟩
theorem addF_sound (l : Nat → Int) (m i : Nat) : addF (soundA l m) (shapeF 256 (backF 128 (pickF l m))) (128 * m) 256 i = soundA l (m + 1) i := by
  show _ = soundA l m i + soundB l m i
  unfold addF soundB
  by_cases c : 128 * m ≤ i ∧ i < 128 * m + 256
  · rw [if_pos c, if_pos c]
  · rw [if_neg c, if_neg c]; omega
set_option maxRecDepth 100000 in
theorem ovSound_brief (c p q cap : Nat) (a : Option Addr) (l : Nat → Int) (w : World) (hT : TlAt w c p q) (ha : FnAt w w.heap.size .i32 a 512 l) (hb : ∀ j, j < 512 → -33554432 ≤ l j ∧ l j ≤ 33554431) :
    Calls Tryz.prog 173 #[toolsV c p q, .slice a 512 cap] w (RowsPost 640 (soundF true l) w) := by
  have HB := Lib.hid hb
  obtain ⟨b, off, rfl, hbl, hcl⟩ := id ha
  have HC := Lib.hid hcl
  have HR0 := Lib.hid ((Cel.new w 168 #[.pointer (some ⟨c, 0, none⟩), .pointer (some ⟨p, 0, none⟩), .pointer (some ⟨q, 0, none⟩)]).alloc (.cells (madeCells #[.int .i32 0] 640) 21))
  have HX0 : RowKit.Hid (IFun ((w.alloc (.cells #[.pointer (some ⟨c, 0, none⟩), .pointer (some ⟨p, 0, none⟩), .pointer (some ⟨q, 0, none⟩)] 168)).alloc (.cells (madeCells #[.int .i32 0] 640) 21)) (w.heap.size + 1) 21 .i32 640 (soundA l 0)) := by
    have := IFun.zeros (w.alloc (.cells #[.pointer (some ⟨c, 0, none⟩), .pointer (some ⟨p, 0, none⟩), .pointer (some ⟨q, 0, none⟩)] 168)) 21 .i32 640
    rw [alloc_size] at this
    exact this
  have HB0 := Lib.hid (chain (Below.alloc_new w (.cells #[.pointer (some ⟨c, 0, none⟩), .pointer (some ⟨p, 0, none⟩), .pointer (some ⟨q, 0, none⟩)] 168)) (Below.alloc_new _ (.cells (madeCells #[.int .i32 0] 640) 21)))
  have HT0 := Lib.hid (hT.below HB0.out)
  have hmk : ∀ w : World, (Instr.makeSlice 118 (.int .i64 640) (.int .i64 640)).run Tryz.prog w = .ok (.slice (some ⟨w.heap.size, 0, none⟩) 640 640) (w.alloc (.cells (madeCells #[.int .i32 0] 640) 21)) :=
    fun w => make_zeros (P := Tryz.prog) Tryz.underlying118 info_i32 640 (by decide) (by decide) w
  have hmk2 : ∀ w : World, (Instr.makeSlice 118 (.int .i64 128) (.int .i64 128)).run Tryz.prog w = .ok (.slice (some ⟨w.heap.size, 0, none⟩) 128 128) (w.alloc (.cells (madeCells #[.int .i32 0] 128) 21)) :=
    fun w => make_zeros (P := Tryz.prog) Tryz.underlying118 info_i32 128 (by decide) (by decide) w
  clear hT ha hb hcl
  have HZ : RowKit.Hid (∀ w : World, IFun (w.alloc (.cells (madeCells #[.int .i32 0] 128) 21)) w.heap.size 21 .i32 128 (fun _ => 0)) := fun w => IFun.zeros w 21 .i32 128
  generalize madeCells #[Value.int .i32 0] 640 = mc at HR0 HX0 HB0 HT0 hmk
  generalize madeCells #[Value.int .i32 0] 128 = md at HZ hmk2
  unfold toolsV
  go_enter Tryz.func173, Tryz.ntmps173
  go_wp2
  clear hmk
  generalize (w.alloc (.cells #[.pointer (some ⟨c, 0, none⟩), .pointer (some ⟨p, 0, none⟩), .pointer (some ⟨q, 0, none⟩)] 168)).alloc (.cells mc 21) = w2 at HR0 HX0 HB0 HT0 ⊢
  go_loopw [13] (fun i wr => ∃ m : Nat, m ≤ 4 ∧ i = .int .i64 (m : Int) ∧ RowKit.Hid (IFun wr (w.heap.size + 1) 21 .i32 640 (soundA l m) ∧ Cel wr w.heap.size 168 #[.pointer (some ⟨c, 0, none⟩), .pointer (some ⟨p, 0, none⟩), .pointer (some ⟨q, 0, none⟩)] ∧ TlAt wr c p q ∧ Below w.heap.size w wr)) (fun i _ => 4 - (intOf i).toNat)
  case atStart => exact ⟨0, by omega, rfl, HX0.out, HR0.out, HT0.out, HB0.out⟩
  case round =>
    obtain ⟨m, hm, rfl, HI⟩ := hrel
    clear HX0 HR0 HT0 HB0
    by_cases hlt : m < 4
    · have l1 : (m : Int) < 4 := by omega
      have hRl := HI.out.2.1.lt
      have H0 : RowKit.Hid (IFun (wr.alloc (.cells md 21)) (w.heap.size + 1) 21 .i32 640 (soundA l m) ∧ Cel (wr.alloc (.cells md 21)) w.heap.size 168 #[.pointer (some ⟨c, 0, none⟩), .pointer (some ⟨p, 0, none⟩), .pointer (some ⟨q, 0, none⟩)] ∧ TlAt (wr.alloc (.cells md 21)) c p q ∧ Below w.heap.size w (wr.alloc (.cells md 21)) ∧ IFun (wr.alloc (.cells md 21)) wr.heap.size 21 .i32 128 (upTo (pickF l m) (fun _ => 0) 0)) :=
        ⟨HI.out.1.alloc _, HI.out.2.1.alloc _, HI.out.2.2.1.below (Below.alloc_new _ _), chain HI.out.2.2.2 (Below.alloc_new _ _), IFun.ext (HZ.out wr) fun j _ => (upTo_start (pickF l m) (fun _ => 0) j).symm⟩
      have HY : RowKit.Hid (w.heap.size + 1 < wr.heap.size) := HI.out.1.lt
      clear HI
      go_wp2
      generalize wr.heap.size = Y at H0 HY hRl ⊢
      generalize wr.alloc (.cells md 21) = w3 at H0 ⊢
      go_loopw [19] (fun i wx => ∃ k : Nat, k ≤ 128 ∧ i = .int .i64 (k : Int) ∧ RowKit.Hid (IFun wx (w.heap.size + 1) 21 .i32 640 (soundA l m) ∧ Cel wx w.heap.size 168 #[.pointer (some ⟨c, 0, none⟩), .pointer (some ⟨p, 0, none⟩), .pointer (some ⟨q, 0, none⟩)] ∧ TlAt wx c p q ∧ Below w.heap.size w wx ∧ IFun wx Y 21 .i32 128 (upTo (pickF l m) (fun _ => 0) k))) (fun i _ => 128 - (intOf i).toNat)
      case atStart => exact ⟨0, by omega, rfl, H0.out⟩
      case round =>
        obtain ⟨k, hk, rfl, HJ⟩ := hrel
        clear H0
        by_cases hlk : k < 128
        · obtain ⟨P, hP⟩ : ∃ P, P = 4 * k + m := ⟨_, rfl⟩
          have eP : 4 * (k : Int) + (m : Int) = (P : Int) := by omega
          have P1 : P < 512 := by omega
          have k1 := (HJ.out.2.2.2.1.cell (p := ⟨b, off + P, none⟩) hbl).trans (HC.out P P1)
          have o1 := HJ.out.2.2.2.2.cell hlk
          have f1 := HJ.out.2.2.2.2.frozen k
          have HS : RowKit.Hid (IFun (wr.setCell ⟨Y, k, none⟩ (.int .i32 (l P))) (w.heap.size + 1) 21 .i32 640 (soundA l m) ∧ Cel (wr.setCell ⟨Y, k, none⟩ (.int .i32 (l P))) w.heap.size 168 #[.pointer (some ⟨c, 0, none⟩), .pointer (some ⟨p, 0, none⟩), .pointer (some ⟨q, 0, none⟩)] ∧ TlAt (wr.setCell ⟨Y, k, none⟩ (.int .i32 (l P))) c p q ∧ Below w.heap.size w (wr.setCell ⟨Y, k, none⟩ (.int .i32 (l P))) ∧ IFun (wr.setCell ⟨Y, k, none⟩ (.int .i32 (l P))) Y 21 .i32 128 (upTo (pickF l m) (fun _ => 0) (k + 1))) := by
            have hy := HY.out
            refine ⟨HJ.out.1.far (by show w.heap.size + 1 ≠ Y; omega) _, HJ.out.2.1.far (by show w.heap.size ≠ Y; omega) _, ?_, Below.setCell (p := ⟨Y, k, none⟩) HJ.out.2.2.2.1 (by show w.heap.size ≤ Y; omega) _, IFun.ext (HJ.out.2.2.2.2.set (j := k) hlk (l P)) fun i _ => ?_⟩
            · obtain ⟨cs, hcs⟩ := HJ.out.2.2.2.2.cel
              exact HJ.out.2.2.1.keeps hcs (by decide) (by decide) (Keeps.set1 _)
            · rw [show l P = pickF l m k by unfold pickF; rw [hP]]; exact upTo_next (pickF l m) _ k i
          generalize l P = x at k1 HS
          generalize upTo (pickF l m) (fun _ => 0) k k = old at o1
          have l2 : (k : Int) < 128 := by omega
          have l3 : (P : Int) < 512 := by omega
          clear HJ hP
          go_wp2
          go_roundw
          case rel => exact ⟨k + 1, by omega, by go_num, HS.out⟩
          case measure => simp [intOf] <;> omega
        · have l2 : ¬ (k : Int) < 128 := by omega
          have HL : RowKit.Hid (IFun wr Y 21 .i32 128 (pickF l m)) := IFun.ext HJ.out.2.2.2.2 fun i hi => by rw [show k = 128 by omega]; exact upTo_end _ _ 128 i hi
          have HX := Lib.hid HJ.out.1
          have HR := Lib.hid HJ.out.2.1
          have HT := Lib.hid HJ.out.2.2.1
          have HBw := Lib.hid HJ.out.2.2.2.1
          obtain ⟨r0, r1, r2⟩ := cel3 HR.out
          have hRl := HR.out.lt
          clear HJ HZ hmk2
          obtain ⟨A, hA⟩ : ∃ A, A = 128 * m := ⟨_, rfl⟩
          have e1 : (m : Int) * 128 = (A : Int) := by omega
          have g1 : IntKind.i64.wrap (A : Int) = (A : Int) := IntWalk.i64_in _ (by omega)
          have b1 : (0 : Int) ≤ (A : Int) := by omega
          have b2 : (A : Int) ≤ 640 := by omega
          have q2 : ¬ 640 = A := by omega
          have HPb : RowKit.Hid (∀ j, j < 128 → -33554432 ≤ pickF l m j ∧ pickF l m j ≤ 33554431) := fun j hj => HB.out (4 * j + m) (by omega)
          have HVb : RowKit.Hid (∀ j, j < 256 → (backF 128 (pickF l m) j).natAbs ≤ 536870500) := fun j hj => backF_128 (fun j hj => by have := HPb.out j hj; omega) hj
          have HAb : RowKit.Hid (∀ j, j < 256 → (soundA l m (128 * m + j)).natAbs ≤ 2147483647 ∧ (shapeF 256 (backF 128 (pickF l m)) j).natAbs ≤ 2147483647 ∧ (soundA l m (128 * m + j) + shapeF 256 (backF 128 (pickF l m)) j).natAbs ≤ 2147483647) := fun j hj => by
            have h1 := soundA_abs (l := l) (fun j hj => by have := HB.out j hj; omega) (m := m) (by omega) (128 * m + j)
            have h2 := shapeF_abs (N := 256) (HVb.out j hj)
            omega
          have HM := Lib.hid hA
          clear hA
          go_wp2_with (go_at_call 174; go_loud (refine (lapBack_any q c 128 256 128 _ (pickF l m) _ HT.out.2 (.inl rfl) rfl (FnAt.of_ifun HL.out) HPb.out).mono ?_); rintro e w5 ⟨g5, rfl, i5, s5, b5⟩; have HI5 := Lib.hid i5; have HR5 : RowKit.Hid (Cel w5 w.heap.size 168 #[.pointer (some ⟨c, 0, none⟩), .pointer (some ⟨p, 0, none⟩), .pointer (some ⟨q, 0, none⟩)]) := HR.out.below b5; have HX5 : RowKit.Hid (IFun w5 (w.heap.size + 1) 21 .i32 640 (soundA l m)) := HX.out.below b5 HX.out.lt; have HT5 : RowKit.Hid (TlAt w5 c p q) := HT.out.below b5; have HB5 : RowKit.Hid (Below w.heap.size w w5) := chain HBw.out b5; obtain ⟨m0, m1, m2⟩ := cel3 HR5.out; have hRl5 := HR5.out.lt; clear i5 s5 b5)
          clear r0 r1 r2 HR HX HT HBw HL
          go_region_held3 (fun w' => w'.cell? ⟨w.heap.size, 0, none⟩ = some (.pointer (some ⟨c, 0, none⟩)) ∧ w'.cell? ⟨w.heap.size, 1, none⟩ = some (.pointer (some ⟨p, 0, none⟩)) ∧ w'.cell? ⟨w.heap.size, 2, none⟩ = some (.pointer (some ⟨q, 0, none⟩))) (go_keep) (first | (go_at_call 154; go_loud (refine (ovShape_any c p q 256 _ (some ⟨g5, 0, none⟩) (backF 128 (pickF l m)) w5.drew HT5.out.1.2 (by decide) (by decide) (FnAt.of_ifun HI5.out) (fun j hj => by have := HVb.out j hj; omega)).mono ?_); rintro e w7 ⟨g7, rfl, i7, s7, z7⟩; have HI7 := Lib.hid i7; have HR7 : RowKit.Hid (Cel w7 w.heap.size 168 #[.pointer (some ⟨c, 0, none⟩), .pointer (some ⟨p, 0, none⟩), .pointer (some ⟨q, 0, none⟩)]) := HR5.out.keep (z7.block _ hRl5); have HX7 : RowKit.Hid (IFun w7 (w.heap.size + 1) 21 .i32 640 (soundA l m)) := (show IFun w5.drew (w.heap.size + 1) 21 .i32 640 (soundA l m) from HX5.out).below z7 HX5.out.lt; have HT7 : RowKit.Hid (TlAt w7 c p q) := (show TlAt w5.drew c p q from HT5.out).below z7; have HB7 : RowKit.Hid (Below w.heap.size w w7) := chain (show Below w.heap.size w w5.drew from Below.drewN' HB5.out 1) z7; have HN7 : RowKit.Hid (g7 ≠ w.heap.size + 1) := (by have h1 := HX5.out.lt; have h2 : w5.heap.size ≤ g7 := s7; show g7 ≠ _; omega); obtain ⟨n0, n1, n2⟩ := cel3 HR7.out; clear i7 s7 z7) | (go_at_call 140; go_loud (refine (ovAdd_any (w.heap.size + 1) A 640 256 g7 0 (640 - A) _ _ (soundA l m) (shapeF 256 (backF 128 (pickF l m))) w7 HX7.out (by decide) (by omega) (by omega) HN7.out (fun j hj => by rw [Nat.zero_add]; exact HI7.out.cell hj) (by rw [HM.out]; exact HAb.out)).mono ?_); rintro e w9 ⟨rfl, i9, k9⟩; have HX9 : RowKit.Hid (IFun w9 (w.heap.size + 1) 21 .i32 640 (soundA l (m + 1))) := (by rw [HM.out] at i9; exact IFun.ext i9 fun i _ => addF_sound l m i); have HR9 : RowKit.Hid (Cel w9 w.heap.size 168 #[.pointer (some ⟨c, 0, none⟩), .pointer (some ⟨p, 0, none⟩), .pointer (some ⟨q, 0, none⟩)]) := HR7.out.keep (k9.block _ HR7.out.lt (by show ¬ w.heap.size = w.heap.size + 1; omega)); have HT9 : RowKit.Hid (TlAt w9 c p q) := HT7.out.keeps HX7.out.cel.choose_spec (by decide) (by decide) k9; have HB9 : RowKit.Hid (Below w.heap.size w w9) := HB7.out.trans (k9.below HB7.out.size (fun k hk => by subst hk; omega)); obtain ⟨s0, s1, s2⟩ := cel3 HR9.out; clear i9 k9) | fail)
          clear m0 m1 m2 n0 n1 n2 s0 s1 s2 HR5 HX5 HT5 HB5 HI5 HR7 HX7 HT7 HB7 HI7 HN7 HVb HPb HAb
          go_wp2
          go_roundw
          case rel => exact ⟨m + 1, by omega, by go_num, HX9.out, HR9.out, HT9.out, HB9.out⟩
          case measure => simp [intOf] <;> omega
    · obtain rfl : m = 4 := by omega
      have Z : RowKit.Hid (IFun wr (w.heap.size + 1) 21 .i32 640 (soundF true l) ∧ Below w.heap.size w wr) := ⟨HI.out.1, HI.out.2.2.2⟩
      go_wp2
      go_ret2
      exact ⟨_, rfl, Z.out.1, by omega, Z.out.2⟩
theorem ovSound_any (c p q cap : Nat) (a : Option Addr) (l : Nat → Int) (b : Bool) (w : World) (hT : TlAt w c p q) (ha : FnAt w w.heap.size .i32 a 512 l) (hb : ∀ j, j < 512 → -33554432 ≤ l j ∧ l j ≤ 33554431) :
    Calls Tryz.prog 139 #[toolsV c p q, .slice a 512 cap, .bool b] w (RowsPost 640 (soundF b l) w) := by
  cases b with
  | false => exact ovSound_long c p q cap a l w hT ha hb
  | true =>
    have HB := Lib.hid hb
    have HB0 := Lib.hid (Below.alloc_new w (.cells #[.pointer (some ⟨c, 0, none⟩), .pointer (some ⟨p, 0, none⟩), .pointer (some ⟨q, 0, none⟩)] 168))
    have HT0 := Lib.hid (hT.below HB0.out)
    have HA0 := Lib.hid (ha.now HB0.out)
    clear hT ha hb
    unfold toolsV
    go_enter Tryz.func139, Tryz.ntmps139
    go_wp2_with (go_at_call 173; go_loud (refine (ovSound_brief c p q cap a l _ HT0.out HA0.out HB.out).mono ?_); rintro e w5 ⟨g5, rfl, i5, s5, b5⟩; have HI5 := Lib.hid i5; have S5 := Lib.hid s5; have HB5 := Lib.hid (chain HB0.out b5); clear i5 s5 b5)
    go_ret2
    exact ⟨g5, rfl, HI5.out, Nat.le_trans HB0.out.size S5.out, HB5.out⟩
end Go.Proofs.YtmgfkdmjgjlkjaaGreat
