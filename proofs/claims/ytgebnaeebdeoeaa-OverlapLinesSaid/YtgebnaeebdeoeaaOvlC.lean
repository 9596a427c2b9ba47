/- What the functions of package overlap give: the lines of all of a frame. -/
import Derived.Test.YtgebnaeebdeoeaaOvlB
import Derived.Laws.CopyOwn
import Derived.Deep.RegionHeld3
namespace Go.Proofs.Ytgebnaeebdeoeaa
open Go.RowKit
set_option linter.unusedVariables false

/-! ### Copying into a block that is known whole -/
theorem Keeps.setRow1 {w : World} {g : Nat} (cs : Array Value) : Keeps (· = g) w (w.setRow g cs) :=
  ⟨rfl, rfl, rfl, by simp [World.setRow], fun k _ hn => setRow_other w g k cs hn⟩
theorem wpList_copy_cells {P : Program} {w : World} {ops : Array Oper} {rest : List Oper} {o : Oper} {a : Act} {Q : Exit → Act → World → Prop} (hgd : o.guard = none) (d s : Operand) (dT sT : TypeId)
    (ho : o.op = .call { callee := .builtin .copy, args := #[d, s], argTypes := #[dT, sT] }) (elem : TypeId) (hu : P.underlying dT = some (.slice elem)) (hsz : (P.info? elem).map (·.size) = some 1)
    (g off dLen dCap : Nat) (ad : Addr) (sLen sCap : Nat) (hd : a.eval d = .slice (some ⟨g, off, none⟩) dLen dCap) (hs : a.eval s = .slice (some ad) sLen sCap)
    (cur : List Value) (t : TypeId) (hg : Cel w g t cur.toArray) (cs : List Value) (hn : cs.length = Nat.min sLen dLen)
    (hsrc : ∀ j v, cs[j]? = some v → w.cell? (ad.add j) = some v) (hfit : off + cs.length ≤ cur.length) (h1 : ∀ v ∈ cs, v.oneCell' = true)
    (h : ∀ w', Hid (Cel w' g t (splice cur off cs).toArray) → Keeps (· = g) w w' → wpList P ops Q rest (a.put o.dst (goInt cs.length)) w') : wpList P ops Q (o :: rest) a w :=
  wpList_copy_own hgd d s dT sT ho elem hu hsz g off dLen dCap ad sLen sCap hd hs cur.toArray t hg cs hn hsrc (by simpa using hfit) h1
    (h _ (show _ = _ by simpa [splice] using setRow_heap w g _ _ t _ hg) (Keeps.setRow1 _))
theorem step_copy_cells {P : Program} {ops : Array Oper} {o : Oper} {a : Act} {w : World} {K : Act → World → Prop} {Q : Exit → Act → World → Prop} {E : Prop} (hgd : o.guard = none) (d s : Operand) (dT sT : TypeId)
    (ho : o.op = .call { callee := .builtin .copy, args := #[d, s], argTypes := #[dT, sT] }) (elem : TypeId) (hu : P.underlying dT = some (.slice elem)) (hsz : (P.info? elem).map (·.size) = some 1)
    (g off dLen dCap : Nat) (ad : Addr) (sLen sCap : Nat) (hd : a.eval d = .slice (some ⟨g, off, none⟩) dLen dCap) (hs : a.eval s = .slice (some ad) sLen sCap)
    (cur : List Value) (t : TypeId) (hg : Cel w g t cur.toArray) (cs : List Value) (hn : cs.length = Nat.min sLen dLen)
    (hsrc : ∀ j v, cs[j]? = some v → w.cell? (ad.add j) = some v) (hfit : off + cs.length ≤ cur.length) (h1 : ∀ v ∈ cs, v.oneCell' = true)
    (h : ∀ w', Hid (Cel w' g t (splice cur off cs).toArray) → Keeps (· = g) w w' → K (a.put o.dst (goInt cs.length)) w') :
    if Region.wanted o (yielded ops a.tmps) = true then Oper.wp P o a w K Q else E := by
  have hw : Region.wanted o (yielded ops a.tmps) = true := by simp [Region.wanted, hgd]
  rw [if_pos hw]
  have hrun := run_copy_row (P := P) w dT sT o.type elem g off dLen dCap ad sLen sCap cur.toArray t cs hu hsz hg hn hsrc (by simpa using hfit) h1
  unfold Oper.wp
  simp [execOp, ho, resolve, invoke, builtin, hd, hs, hrun, Result.andThen]
  exact h _ (show _ = _ by simpa [splice] using setRow_heap w g _ _ t _ hg) (Keeps.setRow1 _)
/-- m numbers laid over others. -/
def cpyF (f l : Nat → Int) (off m i : Nat) : Int := if off ≤ i ∧ i < off + m then l (i - off) else f i
theorem splice_tab {k : IntKind} {n off m : Nat} (f l : Nat → Int) (h : off + m ≤ n) : splice ((tabF n f).map (Value.int k)) off ((tabF m l).map (Value.int k)) = (tabF n (cpyF f l off m)).map (Value.int k) := by
  apply List.ext_getElem?
  intro i
  have e1 : ∀ (N : Nat) (F : Nat → Int) (j : Nat), ((tabF N F).map (Value.int k))[j]? = if j < N then some (.int k (F j)) else none := by
    intro N F j
    by_cases hj : j < N
    · simp [tabF, hj]
    · simp [tabF, hj]
  unfold splice
  rw [e1, List.getElem?_append, List.getElem?_append, List.getElem?_take, List.getElem?_drop, e1, e1, e1]
  simp only [List.length_take, List.length_map, tabF_len]
  unfold cpyF
  rw [show min off n = off by omega]
  by_cases c1 : i < off
  · rw [if_pos c1, if_pos c1, if_pos (by omega), if_pos (by omega), if_neg (by omega)]
  · rw [if_neg c1]
    by_cases c2 : i - off < m
    · rw [if_pos c2, if_pos c2, if_pos (by omega), if_pos (by omega)]
    · rw [if_neg c2]
      by_cases c3 : i < n
      · rw [if_pos (by omega), if_pos c3, if_neg (by omega), show off + m + (i - off - m) = i by omega]
      · rw [if_neg (by omega), if_neg c3]
theorem tab_one {k : IntKind} {m : Nat} (l : Nat → Int) : ∀ v ∈ (tabF m l).map (Value.int k), v.oneCell' = true := by
  intro v hv
  obtain ⟨x, _, rfl⟩ := List.mem_map.1 hv
  rfl
theorem tab_src {w : World} {k : IntKind} {m b o : Nat} {l : Nat → Int} (h : ∀ j, j < m → w.cell? ⟨b, o + j, none⟩ = some (.int k (l j))) (j : Nat) (v : Value) (hv : ((tabF m l).map (Value.int k))[j]? = some v) : w.cell? ((⟨b, o, none⟩ : Addr).add j) = some v := by
  have hj : j < m := by have := (List.getElem?_eq_some_iff.1 hv).1; simpa [tabF] using this
  rw [Addr.add_mid, h j hj, ← hv]
  simp [tabF, hj]
theorem info_i32s : (Try.prog.info? 21).map (·.size) = some 1 := by
  obtain ⟨i, h1, _, h3, _⟩ := info_parts info_i32b
  rw [h1]; simp [h3]

/-! ### The lines of all of a frame, long -/
theorem win_all (all : Nat → Int) (i : Nat) : cpyF (fun _ => 0) (shapeF 640 all) 192 640 i = winF all i := by
  unfold cpyF winF
  by_cases c1 : i < 192
  · rw [if_neg (by omega), if_pos c1]
  · rw [if_neg c1]
    by_cases c2 : i < 832
    · rw [if_pos (by omega), if_pos c2]
    · rw [if_neg (by omega), if_neg c2]
set_option maxRecDepth 100000 in
theorem ovLines_long (c p q cap : Nat) (a : Option Addr) (all : Nat → Int) (w : World) (hT : TlAt w c p q) (ha : FnAt w w.heap.size .i32 a 640 all) (hb : ∀ j, j < 640 → (all j).natAbs ≤ 524288) :
    Calls Try.prog 19 #[toolsV c p q, .slice a 640 cap, .bool false] w (RowsPost 512 (linesF false all) w) := by
  have HB := Lib.hid hb
  have HR0 := Lib.hid ((Cel.new w 50 #[.pointer (some ⟨c, 0, none⟩), .pointer (some ⟨p, 0, none⟩), .pointer (some ⟨q, 0, none⟩)]).alloc (.cells (madeCells #[.int .i32 0] 1024) 21))
  have HX0 : RowKit.Hid (IFun ((w.alloc (.cells #[.pointer (some ⟨c, 0, none⟩), .pointer (some ⟨p, 0, none⟩), .pointer (some ⟨q, 0, none⟩)] 50)).alloc (.cells (madeCells #[.int .i32 0] 1024) 21)) (w.heap.size + 1) 21 .i32 1024 (fun _ => 0)) := by
    have := IFun.zeros (w.alloc (.cells #[.pointer (some ⟨c, 0, none⟩), .pointer (some ⟨p, 0, none⟩), .pointer (some ⟨q, 0, none⟩)] 50)) 21 .i32 1024
    rw [alloc_size] at this
    exact this
  have HB0 := Lib.hid (chain (Below.alloc_new w (.cells #[.pointer (some ⟨c, 0, none⟩), .pointer (some ⟨p, 0, none⟩), .pointer (some ⟨q, 0, none⟩)] 50)) (Below.alloc_new _ (.cells (madeCells #[.int .i32 0] 1024) 21)))
  have HT0 := Lib.hid (hT.below HB0.out)
  have HA0 := Lib.hid (ha.now HB0.out)
  have hmk : ∀ w : World, (Instr.makeSlice 31 (.int .i64 1024) (.int .i64 1024)).run Try.prog w = .ok (.slice (some ⟨w.heap.size, 0, none⟩) 1024 1024) (w.alloc (.cells (madeCells #[.int .i32 0] 1024) 21)) :=
    fun w => make_zeros (P := Try.prog) Try.underlying31 info_i32 1024 (by decide) (by decide) w
  clear hT ha hb
  generalize madeCells #[Value.int .i32 0] 1024 = mc at HR0 HX0 HB0 HT0 HA0 hmk
  unfold toolsV
  go_enter Try.func19, Try.ntmps19
  go_wp2
  clear hmk
  generalize (w.alloc (.cells #[.pointer (some ⟨c, 0, none⟩), .pointer (some ⟨p, 0, none⟩), .pointer (some ⟨q, 0, none⟩)] 50)).alloc (.cells mc 21) = w2 at HR0 HX0 HB0 HT0 HA0 ⊢
  obtain ⟨r0, r1, r2⟩ := cel3 HR0.out
  have hRl := HR0.out.lt
  go_region_held3 (fun w' => w'.cell? ⟨w.heap.size, 0, none⟩ = some (.pointer (some ⟨c, 0, none⟩)) ∧ w'.cell? ⟨w.heap.size, 1, none⟩ = some (.pointer (some ⟨p, 0, none⟩)) ∧ w'.cell? ⟨w.heap.size, 2, none⟩ = some (.pointer (some ⟨q, 0, none⟩)))
    (go_keep)
    (first | (go_at_call 32; go_loud (refine (ovShape_any c p q 640 cap a all w2.drew HT0.out.1.2 (by decide) (by decide) HA0.out (fun j hj => by have := HB.out j hj; omega)).mono ?_); rintro e w3 ⟨g3, rfl, i3, s3, b3⟩; have HI3 := Lib.hid i3; have HR3 : RowKit.Hid (Cel w3 w.heap.size 50 #[.pointer (some ⟨c, 0, none⟩), .pointer (some ⟨p, 0, none⟩), .pointer (some ⟨q, 0, none⟩)]) := HR0.out.keep (b3.block _ hRl); have HX3 : RowKit.Hid (IFun w3 (w.heap.size + 1) 21 .i32 1024 (fun _ => 0)) := (show IFun w2.drew (w.heap.size + 1) 21 .i32 1024 (fun _ => 0) from HX0.out).below b3 HX0.out.lt; have HT3 : RowKit.Hid (TlAt w3 c p q) := (show TlAt w2.drew c p q from HT0.out).below b3; have HB3 : RowKit.Hid (Below w.heap.size w w3) := chain (show Below w.heap.size w w2.drew from Below.drewN' HB0.out 1) b3; obtain ⟨m0, m1, m2⟩ := cel3 HR3.out; clear i3 s3 b3) | (refine step_copy_cells (by rfl) _ _ _ _ (by rfl) 21 Try.underlying31 info_i32s (w.heap.size + 1) 192 832 832 ⟨g3, 0, none⟩ 640 640 (by rfl) (by rfl) _ 21 HX3.out ((tabF 640 (shapeF 640 all)).map (Value.int .i32)) (by rw [List.length_map, tabF_len]; rfl) (tab_src fun j hj => by rw [Nat.zero_add]; exact HI3.out.cell hj) (by rw [List.length_map, List.length_map, tabF_len, tabF_len]; decide) (tab_one _) ?_; intro w4 hx4 hk4; have HX4 : RowKit.Hid (IFun w4 (w.heap.size + 1) 21 .i32 1024 (winF all)) := (IFun.ext (f := cpyF (fun _ => 0) (shapeF 640 all) 192 640) (by have := hx4.out; rw [splice_tab _ _ (by decide)] at this; exact this) fun j _ => win_all all j); have HR4 : RowKit.Hid (Cel w4 w.heap.size 50 #[.pointer (some ⟨c, 0, none⟩), .pointer (some ⟨p, 0, none⟩), .pointer (some ⟨q, 0, none⟩)]) := HR3.out.keep (hk4.block _ HR3.out.lt (by show ¬ w.heap.size = w.heap.size + 1; omega)); have HT4 : RowKit.Hid (TlAt w4 c p q) := HT3.out.keeps HX3.out.cel.choose_spec (by decide) (by decide) hk4; have HB4 : RowKit.Hid (Below w.heap.size w w4) := HB3.out.trans (hk4.below HB3.out.size (fun k hk => by subst hk; omega)); obtain ⟨n0, n1, n2⟩ := cel3 HR4.out; clear hx4 hk4))
  have hAb : RowKit.Hid (∀ j, j < 1024 → -1048576 ≤ winF all j ∧ winF all j ≤ 1048575) := fun j _ => by have := winF_abs HB.out j; omega
  go_wp2_with (go_at_call 33; go_loud (refine (lapForward_any p c 512 1024 1024 _ (winF all) w4 HT4.out.1 (.inr rfl) rfl (FnAt.of_ifun HX4.out) hAb.out).mono ?_); rintro e w5 ⟨g5, rfl, i5, s5, b5⟩; have HI5 := Lib.hid i5; have S5 := Lib.hid s5; have HB5 := Lib.hid (chain HB4.out b5); clear i5 s5 b5)
  go_ret2
  exact ⟨g5, rfl, by rw [linesF_long]; exact HI5.out, Nat.le_trans HB4.out.size S5.out, HB5.out⟩
end Go.Proofs.Ytgebnaeebdeoeaa
