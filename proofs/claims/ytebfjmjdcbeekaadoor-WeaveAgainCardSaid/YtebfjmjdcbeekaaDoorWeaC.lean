/- What a weaver gives. -/
import Derived.Test.YtebfjmjdcbeekaaDoorWeaB
namespace Go.Proofs.YtebfjmjdcbeekaaDoor
open Go.RowKit Go.PlainAid
set_option linter.unusedVariables false
set_option linter.unusedSimpArgs false

theorem BytA.keeps {F : Nat → Prop} {w w' : World} {a : Option Addr} {n cap : Nat} {l : List UInt8} (h : BytA w a n cap l) (hk : Keeps F w w') (hF : ∀ r off, a = some ⟨r, off, none⟩ → 0 < n → ¬ F r) : BytA w' a n cap l :=
  ⟨(h.hi.keeps19 hk (Nat.le_refl _) fun r off e h0 _ => hF r off e h0).grow hk.size, h.hl, h.hc, h.ha⟩
theorem BytA.byte {w : World} {a : Option Addr} {n cap j : Nat} {l : List UInt8} (h : BytA w a n cap l) (hj : j < n) : ∃ r off, a = some ⟨r, off, none⟩ ∧ w.cell? ⟨r, off + j, none⟩ = some (.int .u8 ((l.getD j 0).toNat : Int)) := by
  obtain ⟨b, off, e, _, h4⟩ := h.addr (by omega)
  refine ⟨b, off, e, ?_⟩
  rw [h4 j hj, nz_get]
theorem BytA.lit (w : World) (t : TypeId) (cs : Array Value) (fr : Nat × Nat) (l : List UInt8) (h : cs = ((nz l).map (Value.int .u8)).toArray) (hl : l.length ≤ 1000) : BytA (w.alloc (.cells cs t fr)) (some ⟨w.heap.size, 0, none⟩) l.length l.length l := by
  have := lit_ints w t .u8 (nz l) cs fr h (by rw [nz_len]; omega)
  rw [nz_len] at this
  exact ⟨this, rfl, Nat.le_refl _, fun e => by cases e⟩
theorem BytA.row {w : World} {g : Nat} {t : TypeId} {l : List UInt8} (h : IRow w g t .u8 (nz l)) (hl : l.length ≤ 1000) : BytA w (some ⟨g, 0, none⟩) l.length l.length l := by
  refine ⟨⟨nz_len l, .inr ⟨g, 0, rfl, h.lt, by omega, fun j hj => ?_⟩⟩, rfl, Nat.le_refl _, fun e => by cases e⟩
  rw [Nat.zero_add]
  exact h.cell (by rw [nz_len]; exact hj)
theorem OwnB.bytA {w : World} {base n c : Nat} {a : Option Addr} {l : List UInt8} (h : OwnB w base (.slice a n c) l) : BytA w a n c l := by
  have hi := own_ints_m h
  refine ⟨hi, ?_, ?_, ?_⟩
  · rw [← hi.1, nz_len]
  · rcases h.2 with ⟨e, hn⟩ | ⟨g, cap, cur, e, h2, h3, h4, _⟩
    · injection e with _ e2 e3; omega
    · injection e with _ e2 e3; omega
  · intro ha
    rcases h.2 with ⟨e, hn⟩ | ⟨g, cap, cur, e, _⟩
    · injection e
    · injection e with e1; rw [ha] at e1; cases e1
theorem OwnB.form {w : World} {base : Nat} {v : Value} {l : List UInt8} (h : OwnB w base v l) : ∃ a c, v = .slice a l.length c := by
  obtain ⟨a, m, c, rfl, hm⟩ := own_form_m h
  rw [nz_len] at hm
  subst hm
  exact ⟨a, c, rfl⟩
theorem OwnB.keeps {F : Nat → Prop} {w w' : World} {base : Nat} {v : Value} {l : List UInt8} (h : OwnB w base v l) (hk : Keeps F w w') (hF : ∀ j, F j → ∃ t, Typ19 w j t ∧ t ≠ 5) : OwnB w' base v l :=
  own_keeps h hk fun k hg hf => by
    obtain ⟨t, ht, hn⟩ := hF k hf
    exact ht.ne (own_typ19 h hg).1 hn rfl
/-- append(s, x...) of bytes. -/
theorem app_bytes {w : World} {ops : Array Oper} {rest : List Oper} {o : Oper} {a : Act} {Q : Exit → Act → World → Prop} (hgd : o.guard = none) (sl x : Operand) (t : TypeId) (ht : Tryd.prog.underlying t = some (.slice 5))
    (ho : o.op = .call { callee := .builtin .append, args := #[sl, x], argTypes := #[t, t] })
    (base : Nat) (v : Value) (l : List UInt8) (hs : a.eval sl = v) (hown : OwnB w base v l) (A : Option Addr) (m c : Nat) (l2 : List UInt8) (hx : a.eval x = .slice A m c) (hsrc : BytA w A m c l2)
    (hl : l.length + m ≤ 100000000) (hbase : base ≤ w.heap.size)
    (h : ∀ v' w', OwnB w' base v' (l ++ l2) → w.grownBy w' v.ownBlock → (v'.ownBlock = v.ownBlock ∨ v'.ownBlock = some w.heap.size) → wpList Tryd.prog ops Q rest (a.put o.dst v') w') : wpList Tryd.prog ops Q (o :: rest) a w := by
  refine append_ints hgd sl x t ho base 5 .u8 1 ht infoE_u8 v l.length (nz l) hs hown A m c w.heap.size (nz l2) hx hsrc.hi hsrc.ha (by unfold maxLen; omega) (by omega) hbase ?_
  intro v' w' g1 g2 g3
  refine h v' w' ?_ g2 g3
  unfold OwnB
  rw [List.length_append, nz_append, hsrc.hl]
  exact g1
theorem WvAt.keeps {F : Nat → Prop} {w w' : World} {g : Nat} {S : W20} (h : WvAt w g S) (hk : Keeps F w w') (hn : ¬ F g) : WvAt w' g S := Cel.keeps h hk hn
theorem WvAt.below {w w' : World} {g : Nat} {S : W20} (h : WvAt w g S) (hb : Below w.heap.size w w') : WvAt w' g S := Cel.below h hb
theorem WvAt.cells {w : World} {g : Nat} {S : W20} (h : WvAt w g S) : w.cell? ⟨g, 0, none⟩ = some (.int .i64 (S.e : Int)) ∧ w.cell? ⟨g, 1, none⟩ = some (.int .i64 (S.n : Int)) ∧ w.cell? ⟨g, 2, none⟩ = some (.string (ba S.t)) ∧ w.cell? ⟨g, 3, none⟩ = some (.bool S.f) ∧
    w.frozen? ⟨g, 1, none⟩ = false ∧ w.frozen? ⟨g, 2, none⟩ = false ∧ w.frozen? ⟨g, 3, none⟩ = false := ⟨Cel.cell h 0, Cel.cell h 1, Cel.cell h 2, Cel.cell h 3, Cel.frozen h 1, Cel.frozen h 2, Cel.frozen h 3⟩
theorem ba_inj {a b : List UInt8} (h : ba a = ba b) : a = b := by
  have := congrArg (fun s : ByteArray => s.data.toList) h
  exact this
set_option maxRecDepth 100000 in
theorem wvTitle_any (g : Nat) (S : W20) (s : ByteArray) (w : World) (h : WvAt w g S) (hs : s.size ≤ 5000) :
    Calls Tryd.prog 15 #[.pointer (some ⟨g, 0, none⟩), .string s] w fun x w' => x = .returned (.tuple #[]) ∧ WvAt w' g (S.tell s.data.toList) ∧ Keeps (· = g) w w' := by
  have C := title_any s w hs
  unfold W20.tell
  generalize titleF s.data.toList = T at *
  have H := Lib.hid h
  by_cases hT : T = S.t
  · rw [if_pos hT]
    subst hT
    go_enter Tryd.func15, Tryd.ntmps15
    go_wp2_with (first
      | (go_at_call 26; refine C.mono ?_; rintro e w2 ⟨rfl, hb⟩; have HB := Lib.hid hb; obtain ⟨c0, c1, c2, c3, f1, f2, f3⟩ := (H.out.below hb).cells; clear hb)
      | fail)
    go_end0
    exact ⟨rfl, H.out.below HB.out, .of_below HB.out⟩
  · rw [if_neg hT]
    have hne : ((ba T).toList == (ba S.t).toList) = false := by
      rw [Lib.toList_data, Lib.toList_data, list_ba, list_ba]
      simpa using hT
    go_enter Tryd.func15, Tryd.ntmps15
    go_wp2_with (first
      | (go_at_call 26; refine C.mono ?_; rintro e w2 ⟨rfl, hb⟩; have HB := Lib.hid hb; obtain ⟨c0, c1, c2, c3, f1, f2, f3⟩ := (H.out.below hb).cells; clear hb)
      | fail)
    go_end0
    exact ⟨rfl, (Cel.set_ (Cel.set_ (H.out.below HB.out) 2 _) 3 _), (Keeps.setCell (F := (· = g)) (Keeps.of_below HB.out) (p := ⟨g, 2, none⟩) (.inl rfl) _).setCell (p := ⟨g, 3, none⟩) (.inl rfl) _⟩
theorem wvTitle_nil (s : Value) (w : World) : Calls Tryd.prog 15 #[.pointer none, s] w fun x w' => x = .returned (.tuple #[]) ∧ w = w' := by
  go_enter Tryd.func15, Tryd.ntmps15
  go_wp2
  first | go_end0 | ((try simp only [Exit.inBlock, Exit.then]); refine bodyPost_ret (results_none rfl _ _ _) rfl ?_)
  exact ⟨rfl, rfl⟩
/-- The block that is due, and where the weaver stands then. -/
def WvBlockPost (g : Nat) (S : W20) (w : World) (x : Ending) (w' : World) : Prop :=
  ∃ (a : Addr) (n : Nat), x = .returned (.slice (some a) n n) ∧ BytA w' (some a) n n (if S.f then blkF S.t else [0]) ∧ WvAt w' g ⟨S.e, 0, S.t, false⟩ ∧ Keeps (· = g) w w'
set_option maxRecDepth 100000 in
theorem wvBlock_any (g : Nat) (S : W20) (w : World) (h : WvAt w g S) (ht : titleF S.t = S.t) :
    Calls Tryd.prog 27 #[.pointer (some ⟨g, 0, none⟩)] w (WvBlockPost g S w) := by
  have H := Lib.hid h
  obtain ⟨c0, c1, c2, c3, f1, f2, f3⟩ := h.cells
  have hl : S.t.length ≤ 60 := by rw [← ht]; exact titleF_len _
  obtain ⟨e, n, t, f⟩ := S
  simp only at c0 c1 c2 c3 ht hl
  obtain ⟨w1, hw1⟩ : ∃ w1, (w.setCell ⟨g, 1, none⟩ (.int .i64 0)).setCell ⟨g, 3, none⟩ (.bool false) = w1 := ⟨_, rfl⟩
  have H1 : RowKit.Hid (WvAt w1 g ⟨e, 0, t, false⟩) := by rw [← hw1]; exact Cel.set_ (Cel.set_ h 1 _) 3 _
  have HK : RowKit.Hid (Keeps (· = g) w w1) := by rw [← hw1]; exact (Keeps.setCell (F := (· = g)) (Keeps.refl _ w) (p := ⟨g, 1, none⟩) (.inl rfl) _).setCell (p := ⟨g, 3, none⟩) (.inl rfl) _
  cases f with
  | true =>
    have CB := Lib.hid (block_any (ba t) w1 (by rw [ba_size]; omega))
    rw [list_ba, ht] at CB
    have H2 : RowKit.Hid (w1.cell? ⟨g, 2, none⟩ = some (.string (ba t))) := H1.out.cells.2.2.1
    have HW := Lib.hid hw1
    have HL : RowKit.Hid ((blkF t).length ≤ 81) := blkF_le hl
    clear h hw1
    go_enter Tryd.func27, Tryd.ntmps27
    go_wp2_with (first
      | (go_at_call 16; go_loud (rw [HW.out]); go_loud (refine CB.out.mono ?_); rintro x w2 ⟨g2, rfl, hr, hg2, hb⟩; have HR := Lib.hid hr; have HB := Lib.hid hb; clear hr hb)
      | fail)
    go_ret
    exact ⟨_, _, rfl, BytA.row HR.out (by have := HL.out; omega), H1.out.below HB.out, HK.out.trans (.of_below HB.out)⟩
  | false =>
    go_enter Tryd.func27, Tryd.ntmps27
    go_wp2
    go_ret
    have := BytA.lit w1 5 #[.int .u8 0] (0, 0) [0] rfl (by simp)
    exact ⟨_, _, rfl, this, H1.out.below (Below.alloc_new _ _), HK.out.alloc _⟩
end Go.Proofs.YtebfjmjdcbeekaaDoor
