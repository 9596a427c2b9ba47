/- Plain facts, and what functions give, for the proofs of this seat: several texts in one, each with its own first remark. -/
import Derived.Laws.CopyOwn
import Derived.Deep.RegionHeld3
import Derived.Test.YtobhoecmmpijgaaGreatRE

/- What the functions of package overlap give: the lines of all of a frame. -/
namespace Go.Proofs.YtobhoecmmpijgaaGreat
open Go.RowKit
set_option linter.unusedVariables false

/-! ### Copying into a block that is known whole -/
theorem Keeps.setRow1 {w : World} {g : Nat} (cs : Array Value) : Keeps (· = g) w (w.setRow g cs) :=
  ⟨rfl, rfl, rfl, by simp [World.setRow], fun k _ hn => setRow_other w g k cs hn⟩
theorem step_copy_cells {P : Program} {ops : Array Oper} {o : Oper} {a : Act} {w : World} {K : Act → World → Prop} {Q : Exit → Act → World → Prop} {E : Prop} (hgd : o.guard = none) (d s : Operand) (dT sT : TypeId)
    (ho : o.op = .call { callee := .builtin .copy, args := #[d, s], argTypes := #[dT, sT] }) (elem : TypeId) (hu : P.underlying dT = some (.slice elem)) (hsz : (P.info? elem).map (·.size) = some 1)
    (g off dLen dCap : Nat) (ad : Addr) (sLen sCap : Nat) (hd : a.eval d = .slice (some ⟨g, off, none⟩) dLen dCap) (hs : a.eval s = .slice (some ad) sLen sCap)
    (cur : List Value) (t : TypeId) (hg : Cel w g t cur.toArray) (cs : List Value) (hn : cs.length = Nat.min sLen dLen)
    (hsrc : ∀ j v, cs[j]? = some v → w.cell? (ad.add j) = some v) (hfit : off + cs.length ≤ cur.length) (h1 : ∀ v ∈ cs, v.oneCell' = true)
    (h : ∀ w', Hid (Cel w' g t (splice cur off cs).toArray) → Keeps (· = g) w w' → K (a.put o.dst (goInt cs.length)) w') :
    if Region.wanted o (yielded ops a.tmps) = true then Oper.wp P o a w K Q else E := by
  have hw : Region.wanted o (yielded ops a.tmps) = true := by simp [Region.wanted, hgd]
  rw [if_pos hw]
  have hrun := run_copy_row (P := P) w dT sT o.type elem g off dLen dCap ad sLen sCap cur.toArray t cs hu hsz hg hn hsrc (by simpa using hfit) h1
  unfold Oper.wp
  simp [execOp, ho, resolve, invoke, builtin, hd, hs, hrun, Result.andThen]
  exact h _ (show _ = _ by simpa [splice] using setRow_heap w g _ _ t _ hg) (Keeps.setRow1 _)
/-- m numbers laid over others. -/
def cpyF (f l : Nat → Int) (off m i : Nat) : Int := if off ≤ i ∧ i < off + m then l (i - off) else f i
theorem splice_tab {k : IntKind} {n off m : Nat} (f l : Nat → Int) (h : off + m ≤ n) : splice ((tabF n f).map (Value.int k)) off ((tabF m l).map (Value.int k)) = (tabF n (cpyF f l off m)).map (Value.int k) := by
  apply List.ext_getElem?
  intro i
  have e1 : ∀ (N : Nat) (F : Nat → Int) (j : Nat), ((tabF N F).map (Value.int k))[j]? = if j < N then some (.int k (F j)) else none := by
    intro N F j
    by_cases hj : j < N
    · simp [tabF, hj]
    · simp [tabF, hj]
  unfold splice
  rw [e1, List.getElem?_append, List.getElem?_append, List.getElem?_take, List.getElem?_drop, e1, e1, e1]
  simp only [List.length_take, List.length_map, tabF_len]
  unfold cpyF
  rw [show min off n = off by omega]
  by_cases c1 : i < off
  · rw [if_pos c1, if_pos c1, if_pos (by omega), if_pos (by omega), if_neg (by omega)]
  · rw [if_neg c1]
    by_cases c2 : i - off < m
    · rw [if_pos c2, if_pos c2, if_pos (by omega), if_pos (by omega)]
    · rw [if_neg c2]
      by_cases c3 : i < n
      · rw [if_pos (by omega), if_pos c3, if_neg (by omega), show off + m + (i - off - m) = i by omega]
      · rw [if_neg (by omega), if_neg c3]
theorem tab_one {k : IntKind} {m : Nat} (l : Nat → Int) : ∀ v ∈ (tabF m l).map (Value.int k), v.oneCell' = true := by
  intro v hv
  obtain ⟨x, _, rfl⟩ := List.mem_map.1 hv
  rfl
theorem tab_src {w : World} {k : IntKind} {m b o : Nat} {l : Nat → Int} (h : ∀ j, j < m → w.cell? ⟨b, o + j, none⟩ = some (.int k (l j))) (j : Nat) (v : Value) (hv : ((tabF m l).map (Value.int k))[j]? = some v) : w.cell? ((⟨b, o, none⟩ : Addr).add j) = some v := by
  have hj : j < m := by have := (List.getElem?_eq_some_iff.1 hv).1; simpa [tabF] using this
  rw [Addr.add_mid, h j hj, ← hv]
  simp [tabF, hj]
theorem info_i32s : (Tryz.prog.info? 21).map (·.size) = some 1 := by
  obtain ⟨i, h1, _, h3, _⟩ := info_parts info_i32b
  rw [h1]; simp [h3]

/-! ### The lines of all of a frame, long -/
theorem win_all (all : Nat → Int) (i : Nat) : cpyF (fun _ => 0) (shapeF 640 all) 192 640 i = winF all i := by
  unfold cpyF winF
  by_cases c1 : i < 192
  · rw [if_neg (by omega), if_pos c1]
  · rw [if_neg c1]
    by_cases c2 : i < 832
    · rw [if_pos (by omega), if_pos c2]
    · rw [if_neg (by omega), if_neg c2]
set_option maxRecDepth 100000 in
theorem ovLines_long (c p q cap : Nat) (a : Option Addr) (all : Nat → Int) (w : World) (hT : TlAt w c p q) (ha : FnAt w w.heap.size .i32 a 640 all) (hb : ∀ j, j < 640 → (all j).natAbs ≤ 524288) :
    Calls Tryz.prog 103 #[toolsV c p q, .slice a 640 cap, .bool false] w (RowsPost 512 (linesF false all) w) := by
  have HB := Lib.hid hb
  have HR0 := Lib.hid ((Cel.new w 148 #[.pointer (some ⟨c, 0, none⟩), .pointer (some ⟨p, 0, none⟩), .pointer (some ⟨q, 0, none⟩)]).alloc (.cells (madeCells #[.int .i32 0] 1024) 21))
  have HX0 : RowKit.Hid (IFun ((w.alloc (.cells #[.pointer (some ⟨c, 0, none⟩), .pointer (some ⟨p, 0, none⟩), .pointer (some ⟨q, 0, none⟩)] 148)).alloc (.cells (madeCells #[.int .i32 0] 1024) 21)) (w.heap.size + 1) 21 .i32 1024 (fun _ => 0)) := by
    have := IFun.zeros (w.alloc (.cells #[.pointer (some ⟨c, 0, none⟩), .pointer (some ⟨p, 0, none⟩), .pointer (some ⟨q, 0, none⟩)] 148)) 21 .i32 1024
    rw [alloc_size] at this
    exact this
  have HB0 := Lib.hid (chain (Below.alloc_new w (.cells #[.pointer (some ⟨c, 0, none⟩), .pointer (some ⟨p, 0, none⟩), .pointer (some ⟨q, 0, none⟩)] 148)) (Below.alloc_new _ (.cells (madeCells #[.int .i32 0] 1024) 21)))
  have HT0 := Lib.hid (hT.below HB0.out)
  have HA0 := Lib.hid (ha.now HB0.out)
  have hmk : ∀ w : World, (Instr.makeSlice 101 (.int .i64 1024) (.int .i64 1024)).run Tryz.prog w = .ok (.slice (some ⟨w.heap.size, 0, none⟩) 1024 1024) (w.alloc (.cells (madeCells #[.int .i32 0] 1024) 21)) :=
    fun w => make_zeros (P := Tryz.prog) Tryz.underlying101 info_i32 1024 (by decide) (by decide) w
  clear hT ha hb
  generalize madeCells #[Value.int .i32 0] 1024 = mc at HR0 HX0 HB0 HT0 HA0 hmk
  unfold toolsV
  go_enter Tryz.func103, Tryz.ntmps103
  go_wp2
  clear hmk
  generalize (w.alloc (.cells #[.pointer (some ⟨c, 0, none⟩), .pointer (some ⟨p, 0, none⟩), .pointer (some ⟨q, 0, none⟩)] 148)).alloc (.cells mc 21) = w2 at HR0 HX0 HB0 HT0 HA0 ⊢
  obtain ⟨r0, r1, r2⟩ := cel3 HR0.out
  have hRl := HR0.out.lt
  go_region_held3 (fun w' => w'.cell? ⟨w.heap.size, 0, none⟩ = some (.pointer (some ⟨c, 0, none⟩)) ∧ w'.cell? ⟨w.heap.size, 1, none⟩ = some (.pointer (some ⟨p, 0, none⟩)) ∧ w'.cell? ⟨w.heap.size, 2, none⟩ = some (.pointer (some ⟨q, 0, none⟩)))
    (go_keep)
    (first | (go_at_call 134; go_loud (refine (ovShape_any c p q 640 cap a all w2.drew HT0.out.1.2 (by decide) (by decide) HA0.out (fun j hj => by have := HB.out j hj; omega)).mono ?_); rintro e w3 ⟨g3, rfl, i3, s3, b3⟩; have HI3 := Lib.hid i3; have HR3 : RowKit.Hid (Cel w3 w.heap.size 148 #[.pointer (some ⟨c, 0, none⟩), .pointer (some ⟨p, 0, none⟩), .pointer (some ⟨q, 0, none⟩)]) := HR0.out.keep (b3.block _ hRl); have HX3 : RowKit.Hid (IFun w3 (w.heap.size + 1) 21 .i32 1024 (fun _ => 0)) := (show IFun w2.drew (w.heap.size + 1) 21 .i32 1024 (fun _ => 0) from HX0.out).below b3 HX0.out.lt; have HT3 : RowKit.Hid (TlAt w3 c p q) := (show TlAt w2.drew c p q from HT0.out).below b3; have HB3 : RowKit.Hid (Below w.heap.size w w3) := chain (show Below w.heap.size w w2.drew from Below.drewN' HB0.out 1) b3; obtain ⟨m0, m1, m2⟩ := cel3 HR3.out; clear i3 s3 b3) | (refine step_copy_cells (by rfl) _ _ _ _ (by rfl) 21 Tryz.underlying101 info_i32s (w.heap.size + 1) 192 832 832 ⟨g3, 0, none⟩ 640 640 (by rfl) (by rfl) _ 21 HX3.out ((tabF 640 (shapeF 640 all)).map (Value.int .i32)) (by rw [List.length_map, tabF_len]; rfl) (tab_src fun j hj => by rw [Nat.zero_add]; exact HI3.out.cell hj) (by rw [List.length_map, List.length_map, tabF_len, tabF_len]; decide) (tab_one _) ?_; intro w4 hx4 hk4; have HX4 : RowKit.Hid (IFun w4 (w.heap.size + 1) 21 .i32 1024 (winF all)) := (IFun.ext (f := cpyF (fun _ => 0) (shapeF 640 all) 192 640) (by have := hx4.out; rw [splice_tab _ _ (by decide)] at this; exact this) fun j _ => win_all all j); have HR4 : RowKit.Hid (Cel w4 w.heap.size 148 #[.pointer (some ⟨c, 0, none⟩), .pointer (some ⟨p, 0, none⟩), .pointer (some ⟨q, 0, none⟩)]) := HR3.out.keep (hk4.block _ HR3.out.lt (by show ¬ w.heap.size = w.heap.size + 1; omega)); have HT4 : RowKit.Hid (TlAt w4 c p q) := HT3.out.keeps HX3.out.cel.choose_spec (by decide) (by decide) hk4; have HB4 : RowKit.Hid (Below w.heap.size w w4) := HB3.out.trans (hk4.below HB3.out.size (fun k hk => by subst hk; omega)); obtain ⟨n0, n1, n2⟩ := cel3 HR4.out; clear hx4 hk4))
  have hAb : RowKit.Hid (∀ j, j < 1024 → -1048576 ≤ winF all j ∧ winF all j ≤ 1048575) := fun j _ => by have := winF_abs HB.out j; omega
  go_wp2_with (go_at_call 135; go_loud (refine (lapForward_any p c 512 1024 1024 _ (winF all) w4 HT4.out.1 (.inr rfl) rfl (FnAt.of_ifun HX4.out) hAb.out).mono ?_); rintro e w5 ⟨g5, rfl, i5, s5, b5⟩; have HI5 := Lib.hid i5; have S5 := Lib.hid s5; have HB5 := Lib.hid (chain HB4.out b5); clear i5 s5 b5)
  go_ret2
  exact ⟨g5, rfl, by rw [linesF_long]; exact HI5.out, Nat.le_trans HB4.out.size S5.out, HB5.out⟩
end Go.Proofs.YtobhoecmmpijgaaGreat

/- What the functions of package overlap give: the lines of all of a frame, brief; either. -/
namespace Go.Proofs.YtobhoecmmpijgaaGreat
open Go.RowKit
set_option linter.unusedVariables false

theorem FnAt.sub {w : World} {B n : Nat} {k : IntKind} {b off : Nat} {f : Nat → Int} (h : FnAt w B k (some ⟨b, off, none⟩) n f) (A m : Nat) (hA : A + m ≤ n) : FnAt w B k (some ⟨b, off + A, none⟩) m (fun j => f (A + j)) := by
  obtain ⟨b', off', e, h3, h5⟩ := h
  obtain ⟨rfl, rfl⟩ : b = b' ∧ off = off' := by injection e with e; injection e with e1 e2; exact ⟨e1, e2⟩
  exact ⟨b, off + A, rfl, h3, fun j hj => by rw [Nat.add_assoc]; exact h5 (A + j) (by omega)⟩
/-- Lines of the blocks ahead of m, and k of block m. -/
noncomputable def briefA (all : Nat → Int) (m k i : Nat) : Int := if i % 4 < m ∨ (i % 4 = m ∧ i / 4 < k) then linesF true all i else 0
theorem briefA_start (all : Nat → Int) (i : Nat) : briefA all 0 0 i = 0 := if_neg (by omega)
theorem briefA_end (all : Nat → Int) (i : Nat) : briefA all 4 0 i = linesF true all i := if_pos (by omega)
theorem briefA_block (all : Nat → Int) (m i : Nat) (hi : i < 512) : briefA all m 128 i = briefA all (m + 1) 0 i := by
  unfold briefA
  by_cases c : i % 4 < m + 1
  · rw [if_pos (by omega), if_pos (by omega)]
  · rw [if_neg (by omega), if_neg (by omega)]
theorem briefA_next (all : Nat → Int) {m k p : Nat} (hm : m < 4) (hp : p = 4 * k + m) (i : Nat) : (if i = p then fwdF 128 (blkF all m) k else briefA all m k i) = briefA all m (k + 1) i := by
  unfold briefA
  by_cases e : i = p
  · rw [if_pos e, if_pos (by omega)]
    have := congrFun (linesF_brief all hm) k
    unfold pickF at this
    rw [e, hp, this]
  · rw [if_neg e]
    by_cases c : i % 4 < m ∨ (i % 4 = m ∧ i / 4 < k)
    · rw [if_pos c, if_pos (by omega)]
    · rw [if_neg c, if_neg (by omega)]
set_option maxRecDepth 100000 in
theorem ovLines_brief (c p q cap : Nat) (a : Option Addr) (all : Nat → Int) (w : World) (hT : TlAt w c p q) (ha : FnAt w w.heap.size .i32 a 640 all) (hb : ∀ j, j < 640 → (all j).natAbs ≤ 524288) (hc : 640 ≤ cap) (hc' : cap ≤ 9223372036854775807) :
    Calls Tryz.prog 133 #[toolsV c p q, .slice a 640 cap] w (RowsPost 512 (linesF true all) w) := by
  have HB := Lib.hid hb
  obtain ⟨b, off, rfl, _, _⟩ := id ha
  have HR0 := Lib.hid ((Cel.new w 148 #[.pointer (some ⟨c, 0, none⟩), .pointer (some ⟨p, 0, none⟩), .pointer (some ⟨q, 0, none⟩)]).alloc (.cells (madeCells #[.int .i32 0] 512) 21))
  have HX0 : RowKit.Hid (IFun ((w.alloc (.cells #[.pointer (some ⟨c, 0, none⟩), .pointer (some ⟨p, 0, none⟩), .pointer (some ⟨q, 0, none⟩)] 148)).alloc (.cells (madeCells #[.int .i32 0] 512) 21)) (w.heap.size + 1) 21 .i32 512 (briefA all 0 0)) := by
    have := IFun.zeros (w.alloc (.cells #[.pointer (some ⟨c, 0, none⟩), .pointer (some ⟨p, 0, none⟩), .pointer (some ⟨q, 0, none⟩)] 148)) 21 .i32 512
    rw [alloc_size] at this
    exact IFun.ext this fun j _ => (briefA_start all j).symm
  have HB0 := Lib.hid (chain (Below.alloc_new w (.cells #[.pointer (some ⟨c, 0, none⟩), .pointer (some ⟨p, 0, none⟩), .pointer (some ⟨q, 0, none⟩)] 148)) (Below.alloc_new _ (.cells (madeCells #[.int .i32 0] 512) 21)))
  have HT0 := Lib.hid (hT.below HB0.out)
  have HA := Lib.hid ha
  have hmk : ∀ w : World, (Instr.makeSlice 101 (.int .i64 512) (.int .i64 512)).run Tryz.prog w = .ok (.slice (some ⟨w.heap.size, 0, none⟩) 512 512) (w.alloc (.cells (madeCells #[.int .i32 0] 512) 21)) :=
    fun w => make_zeros (P := Tryz.prog) Tryz.underlying101 info_i32 512 (by decide) (by decide) w
  clear hT ha hb
  generalize madeCells #[Value.int .i32 0] 512 = mc at HR0 HX0 HB0 HT0 hmk
  unfold toolsV
  go_enter Tryz.func133, Tryz.ntmps133
  go_wp2
  clear hmk
  generalize (w.alloc (.cells #[.pointer (some ⟨c, 0, none⟩), .pointer (some ⟨p, 0, none⟩), .pointer (some ⟨q, 0, none⟩)] 148)).alloc (.cells mc 21) = w2 at HR0 HX0 HB0 HT0 ⊢
  go_loopw [13] (fun i wr => ∃ m : Nat, m ≤ 4 ∧ i = .int .i64 (m : Int) ∧ RowKit.Hid (IFun wr (w.heap.size + 1) 21 .i32 512 (briefA all m 0) ∧ Cel wr w.heap.size 148 #[.pointer (some ⟨c, 0, none⟩), .pointer (some ⟨p, 0, none⟩), .pointer (some ⟨q, 0, none⟩)] ∧ TlAt wr c p q ∧ Below w.heap.size w wr)) (fun i _ => 4 - (intOf i).toNat)
  case atStart => exact ⟨0, by omega, rfl, HX0.out, HR0.out, HT0.out, HB0.out⟩
  case round =>
    obtain ⟨m, hm, rfl, HI⟩ := hrel
    clear HX0 HR0 HT0 HB0
    by_cases hlt : m < 4
    · obtain ⟨A, hA⟩ : ∃ A, A = m * 128 := ⟨_, rfl⟩
      obtain ⟨D, hD⟩ : ∃ D, D = (m + 2) * 128 := ⟨_, rfl⟩
      have e1 : (m : Int) * 128 = (A : Int) := by omega
      have e2 : ((m : Int) + 2) * 128 = (D : Int) := by omega
      have g1 : IntKind.i64.wrap (A : Int) = (A : Int) := IntWalk.i64_in _ (by omega)
      have g2 : IntKind.i64.wrap ((m : Int) + 2) = (m : Int) + 2 := IntWalk.i64_in _ (by omega)
      have g3 : IntKind.i64.wrap (D : Int) = (D : Int) := IntWalk.i64_in _ (by omega)
      have b1 : (0 : Int) ≤ (A : Int) := by omega
      have b2 : (A : Int) ≤ (D : Int) := by omega
      have b3 : (D : Int) ≤ (cap : Int) := by omega
      have l1 : (m : Int) < 4 := by omega
      have HAr : RowKit.Hid (FnAt wr wr.heap.size .i32 (some ⟨b, off + A, none⟩) 256 (fun j => all (128 * m + j))) := ((HA.out.now HI.out.2.2.2).sub A 256 (by omega)).ext fun j _ => by rw [show A + j = 128 * m + j by omega]
      have hRl := HI.out.2.1.lt
      obtain ⟨r0, r1, r2⟩ := cel3 HI.out.2.1
      have q1 : D - A = 256 := by omega
      have q2 : ¬ cap = A := by omega
      have HM := Lib.hid hA
      clear hA hD
      go_wp2
      go_region_held3 (fun w' => w'.cell? ⟨w.heap.size, 0, none⟩ = some (.pointer (some ⟨c, 0, none⟩)) ∧ w'.cell? ⟨w.heap.size, 1, none⟩ = some (.pointer (some ⟨p, 0, none⟩)) ∧ w'.cell? ⟨w.heap.size, 2, none⟩ = some (.pointer (some ⟨q, 0, none⟩))) (go_keep) (first | (go_at_call 134; go_loud (refine (ovShape_any c p q 256 _ (some ⟨b, off + A, none⟩) (fun j => all (128 * m + j)) wr.drew HI.out.2.2.1.1.2 (by decide) (by decide) HAr.out (fun j hj => by have := HB.out (128 * m + j) (by omega); omega)).mono ?_); rintro e w3 ⟨G3, rfl, i3, s3, z3⟩; have HI3 : RowKit.Hid (IFun w3 G3 21 .i32 256 (blkF all m)) := i3; have HR3 : RowKit.Hid (Cel w3 w.heap.size 148 #[.pointer (some ⟨c, 0, none⟩), .pointer (some ⟨p, 0, none⟩), .pointer (some ⟨q, 0, none⟩)]) := HI.out.2.1.keep (z3.block _ hRl); have HX3 : RowKit.Hid (IFun w3 (w.heap.size + 1) 21 .i32 512 (briefA all m 0)) := (show IFun wr.drew (w.heap.size + 1) 21 .i32 512 (briefA all m 0) from HI.out.1).below z3 HI.out.1.lt; have HT3 : RowKit.Hid (TlAt w3 c p q) := (show TlAt wr.drew c p q from HI.out.2.2.1).below z3; have HB3 : RowKit.Hid (Below w.heap.size w w3) := chain (show Below w.heap.size w wr.drew from Below.drewN' HI.out.2.2.2 1) z3; obtain ⟨m0, m1, m2⟩ := cel3 HR3.out; clear i3 s3 z3) | (go_at_call 135; go_loud (refine (lapForward_any q c 128 256 256 _ (blkF all m) w3 HT3.out.2 (.inl rfl) rfl (FnAt.of_ifun HI3.out) (fun j hj => by have := blkF_abs HB.out hlt hj; omega)).mono ?_); rintro e w5 ⟨g5, rfl, i5, s5, b5⟩; have HI5 := Lib.hid i5; have HS5 : RowKit.Hid (w.heap.size + 1 < g5) := Nat.lt_of_lt_of_le HX3.out.lt s5; have HR5 : RowKit.Hid (Cel w5 w.heap.size 148 #[.pointer (some ⟨c, 0, none⟩), .pointer (some ⟨p, 0, none⟩), .pointer (some ⟨q, 0, none⟩)]) := HR3.out.below b5; have HX5 : RowKit.Hid (IFun w5 (w.heap.size + 1) 21 .i32 512 (briefA all m 0)) := HX3.out.below b5 HX3.out.lt; have HT5 : RowKit.Hid (TlAt w5 c p q) := HT3.out.below b5; have HB5 : RowKit.Hid (Below w.heap.size w w5) := chain HB3.out b5; obtain ⟨n0, n1, n2⟩ := cel3 HR5.out; clear i5 s5 b5) | fail)
      clear m0 m1 m2 n0 n1 n2 r0 r1 r2 HR3 HX3 HT3 HB3 HI3 HI HAr g1 g2 g3 b1 b2 b3 e1 e2 q1 q2
      go_wp2
      go_loopw [36] (fun i wx => ∃ k : Nat, k ≤ 128 ∧ i = .int .i64 (k : Int) ∧ RowKit.Hid (IFun wx (w.heap.size + 1) 21 .i32 512 (briefA all m k) ∧ Cel wx w.heap.size 148 #[.pointer (some ⟨c, 0, none⟩), .pointer (some ⟨p, 0, none⟩), .pointer (some ⟨q, 0, none⟩)] ∧ TlAt wx c p q ∧ Below w.heap.size w wx ∧ IFun wx g5 21 .i32 128 (fwdF 128 (blkF all m)))) (fun i _ => 128 - (intOf i).toNat)
      case atStart => exact ⟨0, by omega, rfl, HX5.out, HR5.out, HT5.out, HB5.out, HI5.out⟩
      case round =>
        obtain ⟨k, hk, rfl, HJ⟩ := hrel
        clear HX5 HR5 HT5 HB5 HI5
        by_cases hlk : k < 128
        · obtain ⟨P, hP⟩ : ∃ P, P = 4 * k + m := ⟨_, rfl⟩
          have eP : 4 * (k : Int) + (m : Int) = (P : Int) := by omega
          have P1 : P < 512 := by omega
          have k1 := HJ.out.2.2.2.2.cell hlk
          have o1 := HJ.out.1.cell (j := P) P1
          have f1 := HJ.out.1.frozen P
          have HS : RowKit.Hid (IFun (wr.setCell ⟨w.heap.size + 1, P, none⟩ (.int .i32 (fwdF 128 (blkF all m) k))) (w.heap.size + 1) 21 .i32 512 (briefA all m (k + 1)) ∧ Cel (wr.setCell ⟨w.heap.size + 1, P, none⟩ (.int .i32 (fwdF 128 (blkF all m) k))) w.heap.size 148 #[.pointer (some ⟨c, 0, none⟩), .pointer (some ⟨p, 0, none⟩), .pointer (some ⟨q, 0, none⟩)] ∧ TlAt (wr.setCell ⟨w.heap.size + 1, P, none⟩ (.int .i32 (fwdF 128 (blkF all m) k))) c p q ∧ Below w.heap.size w (wr.setCell ⟨w.heap.size + 1, P, none⟩ (.int .i32 (fwdF 128 (blkF all m) k))) ∧ IFun (wr.setCell ⟨w.heap.size + 1, P, none⟩ (.int .i32 (fwdF 128 (blkF all m) k))) g5 21 .i32 128 (fwdF 128 (blkF all m))) := by
            refine ⟨IFun.ext (HJ.out.1.set (j := P) P1 (fwdF 128 (blkF all m) k)) fun i _ => briefA_next all hlt hP i, HJ.out.2.1.far (by show w.heap.size ≠ w.heap.size + 1; omega) _, ?_, Below.setCell (p := ⟨w.heap.size + 1, P, none⟩) HJ.out.2.2.2.1 (by show w.heap.size ≤ w.heap.size + 1; omega) _, HJ.out.2.2.2.2.far (by have := HS5.out; show g5 ≠ w.heap.size + 1; omega) _⟩
            obtain ⟨cs, hcs⟩ := HJ.out.1.cel
            exact HJ.out.2.2.1.keeps hcs (by decide) (by decide) (Keeps.set1 _)
          have hv := satP_26_bd (turnF 128 (foldF 128 (blkF all m)) k)
          rw [show satP (turnF 128 (foldF 128 (blkF all m)) k) 26 = fwdF 128 (blkF all m) k from rfl] at hv
          generalize fwdF 128 (blkF all m) k = x at k1 HS hv
          generalize briefA all m k P = old at o1
          have l2 : (k : Int) < 128 := by omega
          have l3 : (P : Int) < 512 := by omega
          obtain ⟨x0, x1⟩ := hv
          clear HJ hP
          go_wp2
          go_roundw
          case rel => exact ⟨k + 1, by omega, by go_num, HS.out⟩
          case measure => simp [intOf] <;> omega
        · have l2 : ¬ (k : Int) < 128 := by omega
          have HS : RowKit.Hid (IFun wr (w.heap.size + 1) 21 .i32 512 (briefA all (m + 1) 0) ∧ Cel wr w.heap.size 148 #[.pointer (some ⟨c, 0, none⟩), .pointer (some ⟨p, 0, none⟩), .pointer (some ⟨q, 0, none⟩)] ∧ TlAt wr c p q ∧ Below w.heap.size w wr) :=
            ⟨IFun.ext HJ.out.1 fun i hi => by rw [show k = 128 by omega]; exact briefA_block all m i hi, HJ.out.2.1, HJ.out.2.2.1, HJ.out.2.2.2.1⟩
          clear HJ
          go_wp2
          go_roundw
          case rel => exact ⟨m + 1, by omega, by go_num, HS.out⟩
          case measure => simp [intOf] <;> omega
    · obtain rfl : m = 4 := by omega
      have Z : RowKit.Hid (IFun wr (w.heap.size + 1) 21 .i32 512 (linesF true all) ∧ Below w.heap.size w wr) := ⟨IFun.ext HI.out.1 fun i _ => briefA_end all i, HI.out.2.2.2⟩
      go_wp2
      go_ret2
      exact ⟨_, rfl, Z.out.1, by omega, Z.out.2⟩
theorem ovLines_any (c p q cap : Nat) (a : Option Addr) (all : Nat → Int) (b : Bool) (w : World) (hT : TlAt w c p q) (ha : FnAt w w.heap.size .i32 a 640 all) (hb : ∀ j, j < 640 → (all j).natAbs ≤ 524288) (hc : 640 ≤ cap) (hc' : cap ≤ 9223372036854775807) :
    Calls Tryz.prog 103 #[toolsV c p q, .slice a 640 cap, .bool b] w (RowsPost 512 (linesF b all) w) := by
  cases b with
  | false => exact ovLines_long c p q cap a all w hT ha hb
  | true =>
    have HB := Lib.hid hb
    have HB0 := Lib.hid (Below.alloc_new w (.cells #[.pointer (some ⟨c, 0, none⟩), .pointer (some ⟨p, 0, none⟩), .pointer (some ⟨q, 0, none⟩)] 148))
    have HT0 := Lib.hid (hT.below HB0.out)
    have HA0 := Lib.hid (ha.now HB0.out)
    clear hT ha hb
    unfold toolsV
    go_enter Tryz.func103, Tryz.ntmps103
    go_wp2_with (go_at_call 133; go_loud (refine (ovLines_brief c p q cap a all _ HT0.out HA0.out HB.out hc hc').mono ?_); rintro e w5 ⟨g5, rfl, i5, s5, b5⟩; have HI5 := Lib.hid i5; have S5 := Lib.hid s5; have HB5 := Lib.hid (chain HB0.out b5); clear i5 s5 b5)
    go_ret2
    exact ⟨g5, rfl, HI5.out, Nat.le_trans HB0.out.size S5.out, HB5.out⟩
end Go.Proofs.YtobhoecmmpijgaaGreat

/- What the functions of package overlap give: an analyser's lines. -/
namespace Go.Proofs.YtobhoecmmpijgaaGreat
open Go.RowKit
set_option linter.unusedVariables false

theorem ana_slice (g : Nat) (w : World) : (Instr.sliceAt 150 (.pointer (some ⟨g, 3, none⟩)) none none none).run Tryz.prog w = .ok (.slice (some ⟨g, 3, none⟩) 128 128) w := by
  have e : Tryz.prog.arrayLen 150 = 128 := by kernel_rfl
  have e2 : Tryz.prog.elem 150 = 51 := by kernel_rfl
  have ht : Tryz.prog.underlying 150 = some (.array (Tryz.prog.arrayLen 150) (Tryz.prog.elem 150)) := by kernel_rfl
  have es : (sizeOf 51).run Tryz.prog w = .ok 1 w := by kernel_rfl
  rw [run_sliceAt_array_all w _ _ ht, e, e2, es]
  simp [Result.andThen, slicedAt, Addr.add]
theorem splice_ovl {k : IntKind} {c p q : Nat} (f l : Nat → Int) : splice (ovlL k c p q f) 3 ((tabF 128 l).map (Value.int k)) = ovlL k c p q l := by
  unfold splice ovlL
  have h : ((tabF 128 f).map (Value.int k)).length = 128 := by rw [List.length_map, tabF_len]
  have h2 : ((tabF 128 l).map (Value.int k)).length = 128 := by rw [List.length_map, tabF_len]
  rw [h2]
  generalize (tabF 128 f).map (Value.int k) = F at h
  generalize (tabF 128 l).map (Value.int k) = L
  simp [h]
theorem info_i16s : (Tryz.prog.info? 51).map (·.size) = some 1 := by
  obtain ⟨i, h1, _, h3, _⟩ := info_parts info_i169
  rw [h1]; simp [h3]
theorem allF_abs {ah f : Nat → Int} (h0 : ∀ j, j < 128 → -32768 ≤ ah j ∧ ah j ≤ 32767) (h1 : ∀ j, j < 512 → -32768 ≤ f j ∧ f j ≤ 32767) : ∀ j, j < 640 → (allF ah f j).natAbs ≤ 524288 := by
  intro j hj
  unfold allF
  split
  · have := h0 j (by assumption); omega
  · have := h1 (j - 128) (by omega); omega
theorem own_caps {w : World} {base e n c : Nat} {ad : Option Addr} {xs : List Value} (h : w.ownsRow base e 1 (.slice ad n c) n xs) (h0 : 0 < n) : n ≤ c ∧ c ≤ 9223372036854775807 := by
  rcases h.2 with ⟨h1, _⟩ | ⟨g', cap, cur, h1, _, _, h2, h3, _⟩
  · injection h1 with _ h1; omega
  · unfold maxLen at h3; injection h1 with _ _ h1; omega
def AnaPost (b : Bool) (a c p q : Nat) (ah f : Nat → Int) (w : World) (e : Ending) (w' : World) : Prop :=
  ∃ g, e = .returned (.tuple #[.slice (some ⟨g, 0, none⟩) 512 512, .int .i64 0]) ∧ IFun w' g 21 .i32 512 (linesF b (allF ah f)) ∧ w.heap.size ≤ g ∧ OvAt 152 .i16 w' a c p q (fun j => f (384 + j)) ∧ Keeps (· = a) w w'
set_option maxRecDepth 100000 in
theorem anaLines_any (a c p q x : Nat) (ah f : Nat → Int) (b : Bool) (w : World) (hA : OvAt 152 .i16 w a c p q ah) (hf : IFun w x 51 .i16 512 f)
    (h0 : ∀ j, j < 128 → -32768 ≤ ah j ∧ ah j ≤ 32767) (h1 : ∀ j, j < 512 → -32768 ≤ f j ∧ f j ≤ 32767) :
    Calls Tryz.prog 74 #[.pointer (some ⟨a, 0, none⟩), .slice (some ⟨x, 0, none⟩) 512 512, .bool b] w (AnaPost b a c p q ah f w) := by
  have HA := Lib.hid hA
  have HF := Lib.hid hf
  have H0 := Lib.hid h0
  have H1 := Lib.hid h1
  obtain ⟨a0, a1, a2⟩ := hA.ptrs
  have al := hA.1.lt
  have xl := hf.lt
  have hxa : x ≠ a := by obtain ⟨cs, hcs⟩ := hf.cel; exact hcs.ne hA.1 (by decide)
  have hAB : RowKit.Hid (∀ j, j < 640 → (allF ah f j).natAbs ≤ 524288) := allF_abs h0 h1
  have hsl := ana_slice a
  clear hA hf h0 h1
  go_enter Tryz.func74, Tryz.ntmps74
  go_wp2
  go_region_held3 (fun w' => w'.cell? ⟨a, 0, none⟩ = some (.pointer (some ⟨c, 0, none⟩)) ∧ w'.cell? ⟨a, 1, none⟩ = some (.pointer (some ⟨p, 0, none⟩)) ∧ w'.cell? ⟨a, 2, none⟩ = some (.pointer (some ⟨q, 0, none⟩))) (go_keep) (first | (go_at_call 104; go_loud (refine (ovAll_any a c p q x 512 ah f w.drew HA.out HF.out H0.out H1.out).mono ?_); rintro e w3 ⟨v3, rfl, o3, z3⟩; obtain ⟨b3, c3, rfl, f3, m3⟩ := fill_fn o3 (by decide); have HC3 := Lib.hid (own_caps o3 (by decide)); have HI3 := Lib.hid f3; have HA3 : RowKit.Hid (OvAt 152 .i16 w3 a c p q ah) := (show OvAt 152 .i16 w.drew a c p q ah from HA.out).below z3; have HF3 : RowKit.Hid (IFun w3 x 51 .i16 512 f) := (show IFun w.drew x 51 .i16 512 f from HF.out).below z3 xl; have HB3 : RowKit.Hid (Below w.heap.size w w3) := chain (show Below w.heap.size w w.drew from Below.drewN' (Below.refl _ _) 1) z3; obtain ⟨m0, m1, m2⟩ := HA3.out.ptrs; clear o3 z3 f3 m3) | (go_at_call 103; go_loud (refine (ovLines_any c p q c3 b3 (allF ah f) b w3 HA3.out.2 HI3.out hAB.out HC3.out.1 HC3.out.2).mono ?_); rintro e w5 ⟨g5, rfl, i5, s5, b5⟩; have HI5 := Lib.hid i5; have HS5 : RowKit.Hid (w.heap.size ≤ g5) := Nat.le_trans HB3.out.size s5; have HA5 : RowKit.Hid (OvAt 152 .i16 w5 a c p q ah) := HA3.out.below b5; have HF5 : RowKit.Hid (IFun w5 x 51 .i16 512 f) := HF3.out.below b5 HF3.out.lt; have HB5 : RowKit.Hid (Below w.heap.size w w5) := chain HB3.out b5; obtain ⟨n0, n1, n2⟩ := HA5.out.ptrs; clear i5 s5 b5) | fail)
  clear a0 a1 a2 m0 m1 m2 HA3 HF3 HB3 HC3 HI3 HA HF
  go_wp2
  have w384 : IntKind.i64.wrap 384 = 384 := by decide
  go_region_held3 (fun w' => True) (go_keep) (first | (refine step_copy_cells (by rfl) _ _ _ _ (by rfl) 51 Tryz.underlying22 info_i16s a 3 128 128 ⟨x, 384, none⟩ 128 _ (by rfl) (by rfl) _ 152 HA5.out.1 ((tabF 128 fun j => f (384 + j)).map (Value.int .i16)) (by rw [List.length_map, tabF_len]; rfl) (tab_src fun j hj => HF5.out.cell (by omega)) (by rw [List.length_map, tabF_len, ovlL_len]; decide) (tab_one _) ?_; intro w6 hx6 hk6; have HC6 : RowKit.Hid (Cel w6 a 152 (ovlL .i16 c p q fun j => f (384 + j)).toArray) := (by have := hx6.out; rw [splice_ovl] at this; exact this); have HK6 := Lib.hid hk6; clear hx6 hk6) | fail)
  have HO6 : RowKit.Hid (OvAt 152 .i16 w6 a c p q (fun j => f (384 + j))) := ⟨HC6.out, TlAt.keeps (w := w5.drew) HA5.out.2 HA5.out.1 (by decide) (by decide) HK6.out⟩
  have HI6 : RowKit.Hid (IFun w6 g5 21 .i32 512 (linesF b (allF ah f))) := by
    obtain ⟨cs, hcs⟩ := HI5.out.cel
    exact Cel.keeps (w := w5.drew) HI5.out HK6.out (hcs.ne HA5.out.1 (by decide))
  have HKK : RowKit.Hid (Keeps (· = a) w w6) := ((Keeps.of_below HB5.out).drewN 1).trans HK6.out
  go_wp2
  go_ret2
  exact ⟨g5, rfl, HI6.out, HS5.out, HO6.out, HKK.out⟩
end Go.Proofs.YtobhoecmmpijgaaGreat
