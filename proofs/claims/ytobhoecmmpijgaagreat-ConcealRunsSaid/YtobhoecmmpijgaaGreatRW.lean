/- Plain facts, and what functions give, for the proofs of this seat: several texts in one, each with its own first remark. -/
import Derived.Deep.AppendLies
import Derived.Maps.AppendAt
import Derived.Test.YtobhoecmmpijgaaGreatRV

/- An ear's state in numbers, and rows of frames in memory. -/
namespace Go.Proofs.YtobhoecmmpijgaaGreat
open Go Go.RowKit
set_option linter.unusedVariables false
set_option linter.unusedSimpArgs false

/-! ### Frames that fade -/
noncomputable def P14.fadeN (S : P14) : Nat → P14
  | 0 => S
  | n + 1 => (S.fadeN n).fade
theorem P14.Ok.fadeN {S : P14} (h : S.Ok) : ∀ n, (S.fadeN n).Ok
  | 0 => h
  | n + 1 => (h.fadeN n).fade
theorem P14.fadeN_has {S : P14} (h : S.has = true) : ∀ n, (S.fadeN n).has = true
  | 0 => h
  | _ + 1 => rfl
theorem P14.fadeN_ah (S : P14) : ∀ n, (S.fadeN n).ah = S.ah
  | 0 => rfl
  | n + 1 => by
    show (S.fadeN n).ah = S.ah
    exact S.fadeN_ah n
theorem P14.may_fadeN {S : P14} (h : S.has = true) (n : Nat) (b : List Int) : (S.fadeN n).may b ↔ S.may b := by
  unfold P14.may
  rw [P14.fadeN_has h, h, P14.fadeN_ah]
/-- Whole payloads are played by any player, or by none. -/
theorem P14.may_whole {b : List Int} (hw : plWh b = true) (S T : P14) : S.may b ↔ T.may b := by
  have e0 : ∀ has has' : Bool, plOk0 b has = plOk0 b has' := fun has has' => by
    have e : plW b = 1 := by unfold plWh at hw; simpa using hw
    unfold plOk0
    rw [e]
    rfl
  have e1 : plV b S.ah = plV b T.ah := plV_alone hw _ _
  have e2 : plD5 b S.ah = plD5 b T.ah := plD5_alone hw _ _
  have e3 : plL b S.ah = plL b T.ah := by unfold plL; rw [e1]
  have e4 : plS b S.ah = plS b T.ah := by unfold plS; rw [e3]
  unfold P14.may plOk plOk1 plOk2
  rw [e0 S.has T.has, e1, e2, e3, e4]
/-- The frames that fade, one behind the other. -/
noncomputable def fadeL (S : P14) (n : Nat) : List (Nat → Int) := (List.range n).map fun k => (S.fadeN k).fades
theorem fadeL_zero (S : P14) : fadeL S 0 = [] := rfl
theorem fadeL_len (S : P14) (n : Nat) : (fadeL S n).length = n := by simp [fadeL]
theorem fadeL_succ (S : P14) (n : Nat) : fadeL S (n + 1) = fadeL S n ++ [(S.fadeN n).fades] := by simp [fadeL, List.range_succ]

/-! ### An ear in numbers -/
structure E15 where
  T : P14
  ever : Bool
  ep : Int
  nu : Int
  run : Bool
structure E15.Ok (E : E15) : Prop where
  t : E.T.Ok
  e : E.T.has = E.ever
  p : 0 ≤ E.ep ∧ E.ep ≤ 4294967295
  n : 0 ≤ E.nu ∧ E.nu ≤ 4294967295
  r : E.run = true → E.ever = true
def e15Zero : E15 := ⟨p14Zero, false, 0, 0, false⟩
theorem e15Zero_ok : e15Zero.Ok := ⟨p14Zero_ok, rfl, by decide, by decide, fun e => by cases e⟩
def E15.follows (E : E15) (ep nu : Int) : Bool := E.run && (ep == E.ep && nu == (E.nu + 1) % 4294967296)
def E15.miss (E : E15) (ep nu : Int) : Nat := missF E.ever E.ep E.nu ep nu
theorem E15.miss_le (E : E15) (ep nu : Int) : E.miss ep nu ≤ 4 := missF_le _ _ _ _ _
theorem E15.Ok.follows {E : E15} (h : E.Ok) {ep nu : Int} (hf : E.follows ep nu = true) : E.run = true ∧ E.ever = true ∧ ep = E.ep ∧ nu = (E.nu + 1) % 4294967296 ∧ E.miss ep nu = 0 := by
  unfold E15.follows at hf
  rw [Bool.and_eq_true, Bool.and_eq_true] at hf
  obtain ⟨h1, h2, h3⟩ := hf
  have h2 : ep = E.ep := by simpa using h2
  have h3 : nu = (E.nu + 1) % 4294967296 := by simpa using h3
  have hn := h.n
  have e : gap32 nu E.nu = 0 := by rw [h3]; unfold gap32; omega
  refine ⟨h1, h.r h1, h2, h3, ?_⟩
  unfold E15.miss missF
  rw [if_pos (h.r h1), if_pos h2, e]
  rfl
/-- Whether a packet is heard. -/
def E15.may (E : E15) (ep nu : Int) (wh : Bool) (b : List Int) : Prop := headR b = true ∧ plWh b = wh ∧ (wh = true ∨ E.follows ep nu = true) ∧ E.T.may b
noncomputable def E15.hear (E : E15) (ep nu : Int) (b : List Int) : E15 := ⟨(E.T.fadeN (E.miss ep nu)).play b nu, true, ep, nu, true⟩
noncomputable def E15.frames (E : E15) (ep nu : Int) (b : List Int) : List (Nat → Int) := fadeL E.T (E.miss ep nu) ++ [(E.T.fadeN (E.miss ep nu)).plays b nu]
theorem E15.frames_len (E : E15) (ep nu : Int) (b : List Int) : (E.frames ep nu b).length = E.miss ep nu + 1 := by simp [E15.frames, fadeL_len]
/-- Behind those that fade it may be played all the same. -/
theorem E15.Ok.mayN {E : E15} (h : E.Ok) {ep nu : Int} {b : List Int} : (E.T.fadeN (E.miss ep nu)).may b ↔ E.T.may b := by
  by_cases hv : E.ever = true
  · exact P14.may_fadeN (h.e.trans hv) _ _
  · have e : E.miss ep nu = 0 := by unfold E15.miss missF; rw [if_neg hv]
    rw [e]
    exact Iff.rfl
theorem E15.Ok.hear {E : E15} (h : E.Ok) {ep nu : Int} {b : List Int} (hm : E.T.may b) (p : 0 ≤ ep ∧ ep ≤ 4294967295) (n : 0 ≤ nu ∧ nu ≤ 4294967295) : (E.hear ep nu b).Ok :=
  ⟨P14.Ok.play (h.mayN.2 hm) nu, rfl, p, n, fun _ => rfl⟩

/-! ### Rows of frames -/
/-- Slices alone. -/
def SlCs (cs : Array Value) : Prop := ∀ u ∈ cs.toList, ∃ a n c, u = Value.slice a n c
def OwnSl (w : World) (e : TypeId) (j : Nat) : Prop := ∃ cs, Cel w j e cs ∧ SlCs cs
theorem OwnSl.typ {w : World} {e : TypeId} {j : Nat} (h : OwnSl w e j) : Typ w j e := by
  obtain ⟨cs, hc, _⟩ := h
  exact Cel.typ hc
theorem SlCs.odd {cs : Array Value} (h : SlCs cs) : OddC cs := .inr fun i x e => by
  rw [← Array.getElem?_toList] at e
  obtain ⟨a, n, c, h⟩ := h _ (List.mem_of_getElem? e)
  cases h
theorem OwnSl.odd {w : World} {e : TypeId} {j : Nat} (h : OwnSl w e j) : ∃ cs, Cel w j e cs ∧ OddC cs := by
  obtain ⟨cs, hc, hs⟩ := h
  exact ⟨cs, hc, hs.odd⟩
theorem zero_sl {k : Nat} {u : Value} (h : u ∈ (Builtin.zeroCells (Value.slice none 0 0).cells k).toList) : u = .slice none 0 0 := by
  have e : (Value.slice none 0 0).cells = #[.slice none 0 0] := rfl
  rw [e] at h
  unfold Builtin.zeroCells at h
  simp at h
  obtain ⟨i, _, h⟩ := h
  rw [Nat.mod_one] at h
  exact h.symm
/-- append(s, x) onto a row of the call's own that holds slices alone. -/
theorem run_append_sl {P : Program} (w : World) (base : Nat) (t ty e : TypeId) (ht : P.underlying t = some (.slice e)) (hi : (P.info? e).map (fun i => (i.zero, i.size, i.bytes)) = some (some (.slice none 0 0), 1, 24))
    (v : Value) (n : Nat) (xs : List Value) (hown : w.ownsRow base e 1 v n xs) (hsl : ∀ g, v.ownBlock = some g → OwnSl w e g)
    (g r l c : Nat) (hc : Cel w g e #[.slice (some ⟨r, 0, none⟩) l c]) (hn : n ≤ 1000) (hbase : base ≤ w.heap.size) :
    ∃ v' w', (Builtin.append_ #[t, t] ty #[v, .slice (some ⟨g, 0, none⟩) 1 1]).run P w = .ok v' w' ∧ w'.ownsRow base e 1 v' (n + 1) (xs ++ [.slice (some ⟨r, 0, none⟩) l c]) ∧ w.grownBy w' v.ownBlock ∧ ∀ g, v'.ownBlock = some g → OwnSl w' e g := by
  obtain ⟨i, h1, h2, h3, h4⟩ := info_parts hi
  have hnews : ∀ j u, ([.slice (some ⟨r, 0, none⟩) l c] : List Value)[j]? = some u → w.cell? ((⟨g, 0, none⟩ : Addr).add j) = some u := World.news_of_block hc
  have h1c : ∀ u ∈ ([.slice (some ⟨r, 0, none⟩) l c] : List Value), u.oneCell' = true := fun u hu => by simp at hu; subst hu; rfl
  have hl : ([.slice (some ⟨r, 0, none⟩) l c] : List Value).length = 1 * i.size := by rw [h3]; rfl
  obtain ⟨v', w', hr, k2, k3, _, k5⟩ := run_append_own_at (P := P) w base t ty e i (.slice none 0 0) 1 24 ht h1 h2 h3 h4 rfl (by decide) v n xs hown ⟨g, 0, none⟩ 1 1 [.slice (some ⟨r, 0, none⟩) l c] (by simp) hnews h1c (by unfold maxLen; omega) (by omega) hbase
  refine ⟨v', w', hr, k2, k3, ?_⟩
  rcases hown.2 with ⟨rfl, rfl⟩ | ⟨g', cap, cur, rfl, hbg, hg, hnc, hcm, hcs, htake⟩
  · have hr2 := run_append_nil (P := P) w t ty e i (.slice none 0 0) ht h1 h2 ⟨g, 0, none⟩ 1 1 [.slice (some ⟨r, 0, none⟩) l c] hl hnews (by decide) (by decide) (by rw [h4]; decide)
    rw [hr] at hr2
    injection hr2 with e1 e2
    subst e1
    subst e2
    intro g2 hg2
    simp [Value.ownBlock] at hg2
    subst hg2
    refine ⟨_, Cel.new w.drew _ _, fun u hu => ?_⟩
    simp only [Array.toList_append, List.mem_append] at hu
    rcases hu with hu | hu
    · simp at hu
      exact ⟨_, _, _, hu⟩
    · exact ⟨_, _, _, zero_sl hu⟩
  · have hsc : SlCs cur := by
      obtain ⟨cs, hc2, hs⟩ := hsl g' rfl
      have e := hc2.symm.trans hg
      injection e with e
      injection e with e
      rw [← e]
      exact hs
    by_cases hroom : n + 1 ≤ cap
    · have hr2 := run_append_room (P := P) w t ty e i ht h1 g' n cap cur hg ⟨g, 0, none⟩ 1 1 [.slice (some ⟨r, 0, none⟩) l c] hl hnews h1c hroom (by rw [h3, hcs]; simp; omega)
      rw [hr] at hr2
      injection hr2 with e1 e2
      subst e1
      subst e2
      intro g2 hg2
      simp [Value.ownBlock] at hg2
      subst hg2
      refine ⟨_, setRow_heap w g' cur _ e _ hg, fun u hu => ?_⟩
      simp only [List.mem_append] at hu
      rcases hu with (hu | hu) | hu
      · exact hsc u (List.mem_of_mem_take hu)
      · simp at hu
        exact ⟨_, _, _, hu⟩
      · exact hsc u (List.mem_of_mem_drop hu)
    · have holds : ∀ j u, xs[j]? = some u → w.cell? ((⟨g', 0, none⟩ : Addr).add j) = some u := hown.cells (g := g') rfl
      have hr2 := run_append_grow (P := P) w t ty e i (.slice none 0 0) ht h1 h2 ⟨g', 0, none⟩ n cap xs (by rw [h3]; exact hown.1) holds ⟨g, 0, none⟩ 1 1 [.slice (some ⟨r, 0, none⟩) l c] hl hnews (by omega) (by omega) (growslice_fits (by omega) (by rw [h4]; omega))
      rw [hr] at hr2
      injection hr2 with e1 e2
      subst e1
      subst e2
      intro g2 hg2
      simp [Value.ownBlock] at hg2
      subst hg2
      refine ⟨_, Cel.new w.drew _ _, fun u hu => ?_⟩
      simp only [Array.toList_append, List.mem_append] at hu
      rcases hu with (hu | hu) | hu
      · rw [← htake] at hu
        exact hsc u (List.mem_of_mem_take hu)
      · simp at hu
        exact ⟨_, _, _, hu⟩
      · exact ⟨_, _, _, zero_sl hu⟩
/-- Frames that lie in a row of the call's own, each in a row of numbers. -/
def RowsAt (w : World) (base : Nat) (ty el : TypeId) (k : IntKind) (v : Value) (fs : List (Nat → Int)) : Prop :=
  ∃ rs : List (Nat × Nat), rs.length = fs.length ∧ w.ownsRow base ty 1 v rs.length (rs.map fun r => Value.slice (some ⟨r.1, 0, none⟩) 512 r.2) ∧ (∀ (i : Nat) (r : Nat × Nat) (f : Nat → Int), rs[i]? = some r → fs[i]? = some f → NumAt w r.1 0 512 el k f) ∧ ∀ g, v.ownBlock = some g → OwnSl w ty g
section
variable {w w' : World} {base : Nat} {ty el : TypeId} {k : IntKind} {v : Value} {fs : List (Nat → Int)}
theorem RowsAt.nil (w : World) (base : Nat) (ty el : TypeId) (k : IntKind) : RowsAt w base ty el k (.slice none 0 0) [] := ⟨[], rfl, World.ownsRow_nil w base ty 1, (fun i r f h => by simp at h), fun g h => by simp [Value.ownBlock] at h⟩
theorem RowsAt.keeps {F : Nat → Prop} (h : RowsAt w base ty el k v fs) (hk : Keeps F w w') (hF : ∀ j, F j → ∃ t, Typ w j t ∧ t ≠ ty ∧ t ≠ el) : RowsAt w' base ty el k v fs := by
  obtain ⟨rs, h1, h2, h3, h4⟩ := h
  refine ⟨rs, h1, own_keeps h2 hk fun j hj hf => ?_, fun i r f hr hf => ?_, fun g hg => ?_⟩
  · obtain ⟨t, ht, n1, _⟩ := hF j hf
    exact ht.ne (h4 j hj).typ n1 rfl
  · have := h3 i r f hr hf
    refine this.keeps hk fun hf => ?_
    obtain ⟨t, ht, _, n2⟩ := hF _ hf
    exact ht.ne this.1 n2 rfl
  · obtain ⟨cs, hc, hs⟩ := h4 g hg
    refine ⟨cs, hc.keeps hk fun hf => ?_, hs⟩
    obtain ⟨t, ht, n1, _⟩ := hF _ hf
    exact ht.ne (Cel.typ hc) n1 rfl
theorem RowsAt.below (h : RowsAt w base ty el k v fs) (hb : Below w.heap.size w w') : RowsAt w' base ty el k v fs := h.keeps (F := fun _ => False) (.of_below hb) fun _ c => c.elim
theorem RowsAt.lower (h : RowsAt w base ty el k v fs) {b2 : Nat} (hb : b2 ≤ base) : RowsAt w b2 ty el k v fs := by
  obtain ⟨rs, h1, h2, h3⟩ := h
  refine ⟨rs, h1, ⟨h2.1, ?_⟩, h3⟩
  rcases h2.2 with h | ⟨g, cap, cur, e1, e2, e3⟩
  · exact .inl h
  · exact .inr ⟨g, cap, cur, e1, Nat.le_trans hb e2, e3⟩
theorem RowsAt.form (h : RowsAt w base ty el k v fs) : ∃ a c, v = .slice a fs.length c := by
  obtain ⟨rs, h1, h2, _⟩ := h
  rw [← h1]
  rcases h2.2 with ⟨rfl, hn⟩ | ⟨g, cap, cur, rfl, _⟩
  · exact ⟨none, 0, by rw [hn]⟩
  · exact ⟨_, cap, rfl⟩
/-- One of them. -/
theorem RowsAt.at_ {a : Option Addr} {n c i : Nat} {f : Nat → Int} (h : RowsAt w base ty el k (.slice a n c) fs) (hf : fs[i]? = some f) : n = fs.length ∧ ∃ g r c2, a = some ⟨g, 0, none⟩ ∧ g < w.heap.size ∧ w.cell? ⟨g, i, none⟩ = some (.slice (some ⟨r, 0, none⟩) 512 c2) ∧ NumAt w r 0 512 el k f := by
  obtain ⟨rs, h1, h2, h3, _⟩ := h
  have hi : i < rs.length := by
    rw [h1]
    rcases Nat.lt_or_ge i fs.length with c | c
    · exact c
    · rw [List.getElem?_eq_none c] at hf
      cases hf
  rcases h2.2 with ⟨e, hn⟩ | ⟨g, cap, cur, e, hb, hh, hle, _, hsz, htk⟩
  · omega
  · injection e with e1 e2 e3
    subst e1
    have hr : rs[i]? = some rs[i] := List.getElem?_eq_getElem hi
    refine ⟨by omega, g, rs[i].1, rs[i].2, rfl, (Array.getElem?_eq_some_iff.1 hh).1, ?_, h3 i _ f hr hf⟩
    rw [cell_of_row w g i cur ty (0, 0) hh]
    have e4 : (cur.toList.take (rs.length * 1))[i]? = (rs.map fun r => Value.slice (some ⟨r.1, 0, none⟩) 512 r.2)[i]? := by rw [htk]
    rw [List.getElem?_take_of_lt (by omega), List.getElem?_map, hr] at e4
    simpa using e4
/-- One more is appended. -/
theorem RowsAt.push {v' : Value} {r c : Nat} {f : Nat → Int} {rs : List (Nat × Nat)} (h1 : rs.length = fs.length) (h2 : w'.ownsRow base ty 1 v' (rs.length + 1) ((rs.map fun r => Value.slice (some ⟨r.1, 0, none⟩) 512 r.2) ++ [Value.slice (some ⟨r, 0, none⟩) 512 c]))
    (h3 : ∀ (i : Nat) (r : Nat × Nat) (f : Nat → Int), rs[i]? = some r → fs[i]? = some f → NumAt w' r.1 0 512 el k f) (hn : NumAt w' r 0 512 el k f) (h4 : ∀ g, v'.ownBlock = some g → OwnSl w' ty g) : RowsAt w' base ty el k v' (fs ++ [f]) := by
  refine ⟨rs ++ [(r, c)], by simp [h1], by simpa using h2, fun i r2 f2 hr hf => ?_, h4⟩
  by_cases hi : i < rs.length
  · rw [List.getElem?_append_left hi] at hr
    rw [List.getElem?_append_left (by omega)] at hf
    exact h3 i r2 f2 hr hf
  · by_cases he : i = rs.length
    · subst he
      rw [List.getElem?_append_right (Nat.le_refl _)] at hr
      rw [h1, List.getElem?_append_right (Nat.le_refl _)] at hf
      simp at hr hf
      subst hr
      subst hf
      exact hn
    · rw [List.getElem?_eq_none (by simp; omega)] at hr
      cases hr
end
/-- append(frames, x) onto a row of frames: x lies in a row of one. -/
theorem append_frame {P : Program} {w : World} {ops : Array Oper} {rest : List Oper} {o : Oper} {a : Act} {Q : Exit → Act → World → Prop} (hgd : o.guard = none) (s x : Operand) (t : TypeId)
    (ho : o.op = .call { callee := .builtin .append, args := #[s, x], argTypes := #[t, t] })
    (base : Nat) (e el : TypeId) (k : IntKind) (ht : P.underlying t = some (.slice e)) (hi : (P.info? e).map (fun i => (i.zero, i.size, i.bytes)) = some (some (.slice none 0 0), 1, 24)) (hne : e ≠ el)
    (v : Value) (fs : List (Nat → Int)) (hs : a.eval s = v) (hR : RowsAt w base e el k v fs) (hf : fs.length ≤ 100)
    (g r c : Nat) (f : Nat → Int) (hx : a.eval x = .slice (some ⟨g, 0, none⟩) 1 1) (hc : Cel w g e #[.slice (some ⟨r, 0, none⟩) 512 c]) (hn : NumAt w r 0 512 el k f) (hbase : base ≤ w.heap.size)
    (h : ∀ v' w', RowsAt w' base e el k v' (fs ++ [f]) → Keeps (fun j => base ≤ j ∧ OwnSl w e j) w w' → wpList P ops Q rest (a.put o.dst v') w') :
    wpList P ops Q (o :: rest) a w := by
  obtain ⟨rs, r1, r2, r3, r4⟩ := hR
  refine wpList_plain hgd fun K hK => ?_
  obtain ⟨v', w', hr, g1, g2, g3⟩ := run_append_sl (P := P) w base t o.type e ht hi v rs.length _ r2 r4 g r 512 c hc (by omega) hbase
  have hb : ∀ j, v.ownBlock = some j → base ≤ j ∧ OwnSl w e j := fun j hj => ⟨own_base r2 j hj, r4 j hj⟩
  have kk : Keeps (fun j => base ≤ j ∧ OwnSl w e j) w w' := Keeps.of_grown g2 hb
  have kn : ∀ {r : Nat} {f : Nat → Int}, NumAt w r 0 512 el k f → NumAt w' r 0 512 el k f := fun hn => hn.keeps kk fun hj => hn.1.ne hj.2.typ hne.symm rfl
  have hfin := hK _ _ (h v' w' (RowsAt.push r1 g1 (fun i r f hr hf => kn (r3 i r f hr hf)) (kn hn) g3) kk)
  unfold Oper.wp execOp
  simp only [ho, resolve, invoke, builtin, Sem.run_bind, Sem.run_pure, Result.andThen_ok, List.map_toArray, List.map_cons, List.map_nil, hs, hx, hr]
  exact hfin
end Go.Proofs.YtobhoecmmpijgaaGreat

/- Package conceal: an ear in memory; New, Break, mayHear. -/
namespace Go.Proofs.YtobhoecmmpijgaaGreat
open Go Go.RowKit
set_option linter.unusedVariables false
set_option linter.unusedSimpArgs false
set_option maxRecDepth 100000

def earC (p : Nat) (E : E15) : Array Value := earK (.pointer (some ⟨p, 0, none⟩)) E.ever E.ep E.nu E.run
structure EarAt (w : World) (e p s : Nat) (E : E15) : Prop where
  e : Cel w e 70 (earC p E)
  p : PlyAt w p s E.T
theorem EarAt.typs {w : World} {e p s : Nat} {E : E15} (h : EarAt w e p s E) : Typ w e 70 ∧ Typ w p 105 ∧ Typ w s 155 := ⟨Cel.typ h.e, h.p.typs.1, h.p.typs.2⟩
theorem EarAt.keepsN {w w' : World} {e p s : Nat} {E : E15} {F : Nat → Prop} (h : EarAt w e p s E) (hk : Keeps F w w')
    (hF : ∀ j, F j → j ≠ e ∧ j ≠ p ∧ j ≠ s ∧ ∃ t, Typ w j t ∧ t ≠ 222 ∧ t ≠ 220 ∧ t ≠ 3 ∧ t ≠ 21) : EarAt w' e p s E :=
  ⟨h.e.keeps hk (fun hf => (hF _ hf).1 rfl), h.p.keepsN hk fun j hj => (hF j hj).2⟩
theorem EarAt.keeps {w w' : World} {e p s : Nat} {E : E15} {F : Nat → Prop} (h : EarAt w e p s E) (hk : Keeps F w w')
    (hF : ∀ j, F j → ∃ t, Typ w j t ∧ t ≠ 70 ∧ t ≠ 105 ∧ t ≠ 155 ∧ t ≠ 222 ∧ t ≠ 220 ∧ t ≠ 3 ∧ t ≠ 21) : EarAt w' e p s E :=
  h.keepsN hk fun j hj => by
    obtain ⟨t, ht, n1, n2, n3, n⟩ := hF j hj
    exact ⟨ht.ne h.typs.1 n1, ht.ne h.typs.2.1 n2, ht.ne h.typs.2.2 n3, t, ht, n⟩
theorem EarAt.below {w w' : World} {e p s : Nat} {E : E15} (h : EarAt w e p s E) (b : Below w.heap.size w w') : EarAt w' e p s E := ⟨h.e.below b, h.p.below b⟩
def ENewPost (w : World) (en : Ending) (w' : World) : Prop := ∃ e p s, en = .returned (.pointer (some ⟨e, 0, none⟩)) ∧ EarAt w' e p s e15Zero ∧ w.heap.size ≤ e ∧ w.heap.size ≤ p ∧ w.heap.size ≤ s ∧ Below w.heap.size w w'
theorem eNew_any (w : World) : Calls Tryz.prog 7 #[] w (ENewPost w) := by
  go_enter Tryz.func7, Tryz.ntmps7
  go_wp2_with (go_at_call 16; go_loud (refine (pNew_any _).mono ?_); rintro e w2 ⟨p, s, rfl, h2, s2, s3, b2⟩; have H2 := Lib.hid h2; have HS2 := Lib.hid (And.intro s2 s3); have HB2 := Lib.hid b2; clear h2 s2 s3 b2)
  go_ret
  have ba := Below.alloc_new w2 (.cells (earC p e15Zero) 70)
  exact ⟨_, p, s, rfl, ⟨Cel.new w2 _ _, H2.out.below ba⟩, HB2.out.size, HS2.out.1, HS2.out.2, chain HB2.out ba⟩
/-- What is wrong with a packet ahead of its playing. -/
def mayE (E : E15) (ep nu : Int) (wh : Bool) (b : List Int) : Int := if headR b = true then (if plWh b = wh then (if wh = true then 0 else (if E.follows ep nu = true then 0 else 8)) else 3) else 3
theorem mayE_zero {E : E15} {ep nu : Int} {wh : Bool} {b : List Int} (h : mayE E ep nu wh b = 0) : headR b = true ∧ plWh b = wh ∧ (wh = true ∨ E.follows ep nu = true) := by
  unfold mayE at h
  split at h
  · split at h
    · split at h
      · exact ⟨by assumption, by assumption, .inl (by assumption)⟩
      · split at h
        · exact ⟨by assumption, by assumption, .inr (by assumption)⟩
        · cases h
    · cases h
  · cases h
theorem mayE_no {E : E15} {ep nu : Int} {wh : Bool} {b : List Int} (h : mayE E ep nu wh b ≠ 0) : ¬ E.may ep nu wh b := fun hm => h (by
  obtain ⟨h1, h2, h3, _⟩ := hm
  unfold mayE
  rw [if_pos h1, if_pos h2]
  rcases h3 with h3 | h3
  · rw [if_pos h3]
  · rw [if_pos h3]
    split <;> rfl)
theorem mayE_state {E : E15} {ep nu : Int} {wh : Bool} {b : List Int} (h1 : headR b = true) (h2 : plWh b = wh) (h3 : wh = false) (h4 : E.follows ep nu = false) : mayE E ep nu wh b = 8 := by
  unfold mayE
  rw [if_pos h1, if_pos h2, if_neg (by rw [h3]; decide), if_neg (by rw [h4]; decide)]
theorem eMayHear_any (e p s : Nat) (E : E15) (ep nu : Int) (wh : Bool) (b : List Int) (a : Option Addr) (len cap : Nat) (w : World) (h : EarAt w e p s E)
    (hI : IntsAt w w.heap.size .u8 a len b) (hn : a = none → cap = 0) (hb : ∀ j, 0 ≤ byteF b j ∧ byteF b j ≤ 255) (hl : len ≤ 100000) :
    Calls Tryz.prog 35 #[.pointer (some ⟨e, 0, none⟩), .agg #[.int .u32 ep, .int .u32 nu, .bool wh, .slice a len cap]] w fun en w' => en = .returned (.int .i64 (mayE E ep nu wh b)) ∧ Below w.heap.size w w' := by
  have ba := Below.alloc_new w (.cells #[.int .u32 ep, .int .u32 nu, .bool wh, .slice a len cap] 42)
  have HE := Lib.hid (h.below ba)
  have HP := Lib.hid (Cel.new w 42 #[.int .u32 ep, .int .u32 nu, .bool wh, .slice a len cap])
  have HB0 := Lib.hid ba
  have HI := Lib.hid (hI.now ba (Nat.le_refl _))
  have HNn := Lib.hid hn
  have HBy := Lib.hid hb
  have HVz : RowKit.Hid (headZ = .agg #[.bool false, .bool false, .int .i64 0, .int .i64 0]) := rfl
  have HV : RowKit.Hid (headV b = .agg #[.bool (plWh b), .bool (plB b == 1), .int .i64 (plQ b), .int .i64 (plLo b)]) := rfl
  clear h hI hn hb ba
  go_enter Tryz.func35, Tryz.ntmps35
  cases hr : headR b with
  | false =>
    have HR := Lib.hid hr
    clear hr
    go_wp2_with (go_at_call 67; go_loud (refine (pRead_any a len cap b _ HI.out HNn.out HBy.out hl).mono ?_); rintro e' w1 ⟨b1, ⟨hh, _⟩ | ⟨_, rfl⟩⟩; (case inl => exact absurd (HR.out.symm.trans hh) (by decide)); rw [HVz.out]; have HB1 := Lib.hid (chain HB0.out b1); clear b1)
    go_ret
    exact ⟨by unfold mayE; rw [HR.out]; rfl, chain HB1.out (Below.alloc_new _ _)⟩
  | true =>
    have HR := Lib.hid hr
    clear hr
    obtain ⟨q, hq⟩ : ∃ q, q = plWh b := ⟨_, rfl⟩
    have HQ : RowKit.Hid (plWh b = q) := hq.symm
    rw [← hq] at HV
    clear hq
    obtain ⟨fo, hfo⟩ : ∃ fo, fo = E.follows ep nu := ⟨_, rfl⟩
    have HFo : RowKit.Hid (E.follows ep nu = fo) := hfo.symm
    clear hfo
    generalize (plB b == 1) = u1 at HV
    generalize plQ b = u2 at HV
    generalize plLo b = u3 at HV
    have HA3 : RowKit.Hid (∀ w1, Below w.heap.size w w1 → Below w.heap.size w (w1.alloc (.cells #[.bool q, .bool u1, .int .i64 u2, .int .i64 u3] 139))) := fun w1 h => chain h (Below.alloc_new w1 _)
    have HE3a : RowKit.Hid (∀ w1, Cel w1 e 70 (earC p E) → Cel (w1.alloc (.cells #[.bool q, .bool u1, .int .i64 u2, .int .i64 u3] 139)) e 70 (earK (.pointer (some ⟨p, 0, none⟩)) E.ever E.ep E.nu E.run)) := fun w1 h => h.below (Below.alloc_new w1 _)
    have HP2 : RowKit.Hid (∀ w1, Below (w.alloc (.cells #[.int .u32 ep, .int .u32 nu, .bool wh, .slice a len cap] 42)).heap.size (w.alloc (.cells #[.int .u32 ep, .int .u32 nu, .bool wh, .slice a len cap] 42)) w1 →
        (w1.alloc (.cells #[.bool q, .bool u1, .int .i64 u2, .int .i64 u3] 139)).cell? ⟨w.heap.size, 0, none⟩ = some (.int .u32 ep) ∧ (w1.alloc (.cells #[.bool q, .bool u1, .int .i64 u2, .int .i64 u3] 139)).cell? ⟨w.heap.size, 1, none⟩ = some (.int .u32 nu) ∧ (w1.alloc (.cells #[.bool q, .bool u1, .int .i64 u2, .int .i64 u3] 139)).cell? ⟨w.heap.size, 2, none⟩ = some (.bool wh) ∧ (w1.alloc (.cells #[.bool q, .bool u1, .int .i64 u2, .int .i64 u3] 139)).cell? ⟨w.heap.size, 3, none⟩ = some (.slice a len cap)) := fun w1 h => by
      have h := (HP.out.below h).alloc (.cells #[.bool q, .bool u1, .int .i64 u2, .int .i64 u3] 139)
      exact ⟨h.cell 0, h.cell 1, h.cell 2, h.cell 3⟩
    cases q <;> cases wh <;> cases fo
    all_goals
      go_wp2_with (first
        | (go_at_call 68; go_loud (refine (eFollows_any e (.pointer (some ⟨p, 0, none⟩)) E.ever E.run E.ep E.nu ep nu _ HE4.out).mono ?_); rintro e' w5 ⟨rfl, b5⟩; rw [show (E.run && (ep == E.ep && nu == (E.nu + 1) % 4294967296)) = _ from HFo.out]; have HB5 := Lib.hid (chain HB4.out b5); clear b5)
        | (go_at_call 37; go_loud (refine (ePlace_any ep nu _ a len cap _).mono ?_); rintro e' w4 ⟨rfl, b4⟩; have HB4 := Lib.hid (chain (HA3.out _ HB1.out) b4); have HE4 : RowKit.Hid (Cel w4 e 70 (earK (.pointer (some ⟨p, 0, none⟩)) E.ever E.ep E.nu E.run)) := (HE3a.out _ HE1.out).below b4; clear b4)
        | (go_at_call 67; go_loud (refine (pRead_any a len cap b _ HI.out HNn.out HBy.out hl).mono ?_); rintro e' w1 ⟨b1, ⟨_, rfl⟩ | ⟨hh, _⟩⟩; (case inr => exact absurd (HR.out.symm.trans hh) (by decide)); rw [HV.out]; have HB1 := Lib.hid (chain HB0.out b1); have HE1 := Lib.hid (HE.out.e.below b1); obtain ⟨p0, p1, p2, p3⟩ := HP2.out _ b1; clear b1))
    all_goals go_ret
    all_goals (refine ⟨by unfold mayE; rw [HR.out, HQ.out]; first | rfl | (rw [HFo.out]; rfl), ?_⟩)
    all_goals (first | exact HA3.out _ HB1.out | exact HB5.out)
end Go.Proofs.YtobhoecmmpijgaaGreat
