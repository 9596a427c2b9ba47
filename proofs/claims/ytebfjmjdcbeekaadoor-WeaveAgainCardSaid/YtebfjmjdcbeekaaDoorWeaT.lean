/- What the functions over pieces give: the bytes of all sound, the first title. -/
import Derived.Test.YtebfjmjdcbeekaaDoorWeaN
namespace Go.Proofs.YtebfjmjdcbeekaaDoor
open Go.RowKit Go.PlainAid
set_option linter.unusedVariables false
set_option linter.unusedSimpArgs false

theorem run_append_tx {P : Program} {t tx ty e e' : TypeId} (ht : P.underlying t = some (.slice e)) (hx : P.underlying tx = some (.slice e')) (vb : Option Addr) (vn vc : Nat) (x : Value) (w : World) : (Builtin.append_ #[t, tx] ty #[.slice vb vn vc, x]).run P w = (Builtin.append_ #[t, t] ty #[.slice vb vn vc, x]).run P w := by
  simp [Builtin.append_, run_underlying ht, run_underlying hx]
/-- append(s, x...) of bytes, x of another type of slices. -/
theorem app_bytes2 {w : World} {ops : Array Oper} {rest : List Oper} {o : Oper} {a : Act} {Q : Exit → Act → World → Prop} (hgd : o.guard = none) (sl x : Operand) (t tx : TypeId) (ht : Tryd.prog.underlying t = some (.slice 5)) (htx : Tryd.prog.underlying tx = some (.slice 5))
    (ho : o.op = .call { callee := .builtin .append, args := #[sl, x], argTypes := #[t, tx] })
    (base : Nat) (v : Value) (l : List UInt8) (hs : a.eval sl = v) (hown : OwnB w base v l) (A : Option Addr) (m c : Nat) (l2 : List UInt8) (hx : a.eval x = .slice A m c) (hsrc : BytA w A m c l2)
    (hl : l.length + m ≤ 100000000) (hbase : base ≤ w.heap.size)
    (h : ∀ v' w', OwnB w' base v' (l ++ l2) → w.grownBy w' v.ownBlock → (v'.ownBlock = v.ownBlock ∨ v'.ownBlock = some w.heap.size) → wpList Tryd.prog ops Q rest (a.put o.dst v') w') : wpList Tryd.prog ops Q (o :: rest) a w := by
  obtain ⟨i, h1, h2, h3, h4⟩ := info_parts infoE_u8
  obtain ⟨va, vc, rfl⟩ := hown.form
  cases A with
  | none =>
    have hc := hsrc.ha rfl
    have hm := hsrc.hc
    obtain rfl : c = 0 := hc
    obtain rfl : m = 0 := by omega
    have hl2 : l2 = [] := List.eq_nil_of_length_eq_zero hsrc.hl
    subst hl2
    refine wpList_plain hgd fun K hK => ?_
    have hrun := run_append_owned_none (P := Tryd.prog) (w := w) base t o.type 5 i 1 ht h1 _ l.length _ hown
    rw [← run_append_tx ht htx] at hrun
    unfold Oper.wp
    simp [execOp, ho, resolve, invoke, builtin, hs, hx, hrun, Result.andThen]
    exact hK _ _ (h _ w (by rw [List.append_nil]; exact hown) (World.grownBy.refl w _) (.inl rfl))
  | some ad =>
    have hi := hsrc.hi
    obtain ⟨v', w', hr, g1, g2, _, g4⟩ := run_append_own_at (P := Tryd.prog) w base t o.type 5 i (.int .u8 0) 1 1 ht h1 h2 h3 h4 rfl (by decide) _ l.length _ hown ad m c ((nz l2).map (Value.int .u8)) (by simp [nz_len, hsrc.hl]) (hi.src (Below.refl _ _)) (ints_oneCell _ _) (by unfold maxLen; omega) (by omega) hbase
    rw [← run_append_tx ht htx] at hr
    refine wpList_plain hgd fun K hK => ?_
    unfold Oper.wp execOp
    simp only [ho, resolve, invoke, builtin, Sem.run_bind, Sem.run_pure, Result.andThen_ok, List.map_toArray, List.map_cons, List.map_nil, hs, hx, hr]
    refine hK _ _ (h v' w' ?_ g2 g4)
    unfold OwnB
    rw [List.length_append, nz_append, List.map_append, hsrc.hl]
    exact g1
theorem as_snd (v : Value) (w : World) : (Instr.typeAssert (.iface 68 v) 56 68 true).run Tryd.prog w = .ok (.tuple #[v, .bool true]) w := by kernel_rfl
theorem as_snd_no (v : Value) (w : World) : (Instr.typeAssert (.iface 57 v) 56 68 true).run Tryd.prog w = .ok (.tuple #[.slice none 0 0, .bool false]) w := by kernel_rfl
theorem as_told (v : Value) (w : World) : (Instr.typeAssert (.iface 57 v) 56 57 true).run Tryd.prog w = .ok (.tuple #[v, .bool true]) w := by kernel_rfl
theorem as_told_no (v : Value) (w : World) : (Instr.typeAssert (.iface 68 v) 56 57 true).run Tryd.prog w = .ok (.tuple #[.string ⟨#[]⟩, .bool false]) w := by kernel_rfl
theorem as_told1 (v : Value) (w : World) : (Instr.typeAssert (.iface 57 v) 56 57 false).run Tryd.prog w = .ok v w := by kernel_rfl
theorem soundOf_snd (a : Option Addr) (n c : Nat) (w : World) : Calls Tryd.prog 24 #[.iface 68 (.slice a n c)] w fun x w' => x = .returned (.slice a n c) ∧ w = w' := by
  have h := as_snd (.slice a n c) w
  go_enter Tryd.func24, Tryd.ntmps24
  go_wp2
  go_ret
  exact ⟨rfl, rfl⟩
theorem soundOf_told (v : Value) (w : World) : Calls Tryd.prog 24 #[.iface 57 v] w fun x w' => x = .returned (.slice none 0 0) ∧ w = w' := by
  have h := as_snd_no v w
  go_enter Tryd.func24, Tryd.ntmps24
  go_wp2
  go_ret
  exact ⟨rfl, rfl⟩
theorem toldBy_any (s : ByteArray) (w : World) : Calls Tryd.prog 25 #[.iface 57 (.string s)] w fun x w' => x = .returned (.string s) ∧ w = w' := by
  have h := as_told1 (.string s) w
  go_enter Tryd.func25, Tryd.ntmps25
  go_wp2
  go_ret
  exact ⟨rfl, rfl⟩
theorem bytes20_nil (w : World) : Calls Tryd.prog 11 #[.slice none 0 0] w fun x w' => x = .returned (.slice none 0 0) ∧ w = w' := by
  go_enter Tryd.func11, Tryd.ntmps11
  go_wp2
  go_loopw [3, 8] (fun v i wr => v = .slice none 0 0 ∧ i = .int .i64 0 ∧ wr = w) (fun _ _ _ => 0)
  case atStart => exact ⟨rfl, rfl, rfl⟩
  case round =>
    obtain ⟨rfl, rfl, rfl⟩ := hrel
    go_wp2
    go_ret
    exact ⟨rfl, rfl⟩
/-- The first piece is a title. -/
theorem first20_any (base : Nat) (X : Nat → Prop) (v : Value) (T : List UInt8) (t : List Pc) (w : World) (h : PcsAt w base X v (.told T :: t)) :
    Calls Tryd.prog 12 #[v] w fun x w' => x = .returned (.string (ba T)) ∧ w = w' := by
  obtain ⟨a, c, rfl⟩ := h.form
  obtain ⟨g, x, rfl, hc, _, hx, _⟩ := h.at_ (i := 0) (by simp)
  have hx1 : x.1 = .told T := by simpa using hx.symm
  obtain ⟨p, a2, c2⟩ := x
  simp only at hx1
  subst hx1
  replace hc : w.cell? ⟨g, 0, none⟩ = some (.iface 57 (.string (ba T))) := hc
  obtain ⟨m, hm⟩ : ∃ m, (Pc.told T :: t).length = m := ⟨_, rfl⟩
  have hm0 : (0 : Int) < (m : Int) := by rw [← hm]; simp
  rw [hm]
  clear h hm hx
  go_enter Tryd.func12, Tryd.ntmps12
  go_wp2_with (first
    | (go_at_call 25; go_loud (refine (toldBy_any _ _).mono ?_); rintro e w2 ⟨rfl, rfl⟩)
    | fail)
  go_ret
  exact ⟨rfl, rfl⟩
theorem soundP_take {l : List Pc} {i : Nat} {p : Pc} (h : l[i]? = some p) : soundP (l.take (i + 1)) = soundP (l.take i) ++ soundP [p] := by
  rw [List.take_add_one, soundP_app, h]
  rfl
theorem soundP_le : ∀ l : List Pc, ∀ i, (soundP (l.take i)).length ≤ (soundP l).length := by
  intro l i
  have : soundP l = soundP (l.take i) ++ soundP (l.drop i) := by rw [← soundP_app, List.take_append_drop]
  rw [this, List.length_append]
  omega
/-- The bytes of all sound. -/
def ByPost (l : List Pc) (w : World) (x : Ending) (w' : World) : Prop := ∃ v, x = .returned v ∧ OwnB w' w.heap.size v (soundP l) ∧ Below w.heap.size w w'
set_option maxRecDepth 100000 in
set_option maxHeartbeats 1000000 in
theorem bytes20_any (base : Nat) (X : Nat → Prop) (v : Value) (l : List Pc) (w : World) (h : PcsAt w base X v l) (hs : (soundP l).length ≤ 10000000) (hl : l.length ≤ 1000000) :
    Calls Tryd.prog 11 #[v] w (ByPost l w) := by
  obtain ⟨a, c, rfl⟩ := h.form
  obtain ⟨n, hn⟩ : ∃ n, l.length = n := ⟨_, rfl⟩
  have HP := Lib.hid h
  have HN := Lib.hid hn
  rw [hn] at HP hl ⊢
  clear h hn
  go_enter Tryd.func11, Tryd.ntmps11
  go_wp2
  go_loopw [3, 8] (fun z i wr => ∃ (k : Nat) (u : Value), u = z ∧ i = .int .i64 (k : Int) ∧ k ≤ n ∧ RowKit.Hid (OwnB wr w.heap.size u (soundP (l.take k)) ∧ Below w.heap.size w wr)) (fun _ i _ => n - (intOf i).toNat)
  case atStart => exact ⟨0, _, rfl, rfl, by omega, World.ownsRow_nil _ _ _ _, Below.refl _ _⟩
  case round =>
    obtain ⟨k, u, rfl, rfl, hk, H⟩ := hrel
    by_cases hlt : k < n
    · have HPr := Lib.hid (HP.out.below H.out.2)
      obtain ⟨g, x, rfl, hc, hx, hlx, _⟩ := HPr.out.at_ (i := k) (by rw [HN.out]; exact hlt)
      have hst := soundP_take hlx
      have hle := soundP_le l k
      have HO := Lib.hid H.out.1
      have HB := Lib.hid H.out.2
      obtain ⟨p, a2, c2⟩ := x
      cases p with
      | told T =>
        replace hc : wr.cell? ⟨g, k, none⟩ = some (.iface 57 (.string (ba T))) := hc
        have HS : RowKit.Hid (soundP (l.take (k + 1)) = soundP (l.take k) ++ []) := hst
        have HN0 : RowKit.Hid (BytA wr none 0 0 []) := ⟨⟨rfl, .inl rfl⟩, rfl, Nat.le_refl _, fun _ => rfl⟩
        clear H hx hlx hst HPr
        go_wp2_with (first
          | (go_at_call 24; go_loud (refine (soundOf_told _ _).mono ?_); rintro e w2 ⟨rfl, rfl⟩)
          | (at_builtin; go_loud (refine app_bytes2 rfl _ _ 30 68 Tryd.underlying30 Tryd.underlying68 rfl w.heap.size u _ rfl HO.out none 0 0 [] rfl HN0.out (by omega) HB.out.size ?_); intro v4 w4 ho4 hg4 _; rw [← HS.out] at ho4; have H4 := Lib.hid (And.intro ho4 (HB.out.grown hg4 HB.out.size (own_base HO.out))); clear ho4 hg4)
          | fail)
        go_roundw
        case rel => exact ⟨k + 1, v4, rfl, by go_num, by omega, H4.out⟩
        case measure => simp [intOf] <;> omega
      | snd s =>
        replace hc : wr.cell? ⟨g, k, none⟩ = some (.iface 68 (.slice a2 s.length c2)) := hc
        have HS : RowKit.Hid (soundP (l.take (k + 1)) = soundP (l.take k) ++ s) := by show _ = _; rw [hst]; simp [soundP]
        have HA := Lib.hid hx.1
        have hle2 := soundP_le l (k + 1)
        rw [HS.out, List.length_append] at hle2
        clear H hx hlx hst HPr
        go_wp2_with (first
          | (go_at_call 24; go_loud (refine (soundOf_snd _ _ _ _).mono ?_); rintro e w2 ⟨rfl, rfl⟩)
          | (at_builtin; go_loud (refine app_bytes2 rfl _ _ 30 68 Tryd.underlying30 Tryd.underlying68 rfl w.heap.size u _ rfl HO.out a2 s.length c2 s rfl HA.out (by omega) HB.out.size ?_); intro v4 w4 ho4 hg4 _; rw [← HS.out] at ho4; have H4 := Lib.hid (And.intro ho4 (HB.out.grown hg4 HB.out.size (own_base HO.out))); clear ho4 hg4)
          | fail)
        go_roundw
        case rel => exact ⟨k + 1, v4, rfl, by go_num, by omega, H4.out⟩
        case measure => simp [intOf] <;> omega
    · obtain rfl : k = n := by omega
      have HE : RowKit.Hid (ByPost l w (.returned u) wr) := by
        have := H.out
        rw [List.take_of_length_le (by rw [HN.out]; omega)] at this
        exact ⟨u, rfl, this.1, this.2⟩
      clear H
      go_wp2
      go_ret
      exact HE.out
end Go.Proofs.YtebfjmjdcbeekaaDoor
