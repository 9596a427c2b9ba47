/- What the document's weaver gives. -/
import Derived.Test.YtebfjmjdcbeekaaWeaD
import Derived.Test.YtebfjmjdcbeekaaWeaE
namespace Go.Proofs.Ytebfjmjdcbeekaa
open Go.RowKit Go.PlainAid
set_option linter.unusedVariables false
set_option linter.unusedSimpArgs false

/-- Block g is the document's weaver that stands there. -/
def RvAt (w : World) (g : Nat) (S : W20) : Prop := Cel w g 32 #[.int .i64 (S.e : Int), .int .i64 (S.n : Int), .string (ba S.t), .bool S.f]
theorem RvAt.keeps {F : Nat → Prop} {w w' : World} {g : Nat} {S : W20} (h : RvAt w g S) (hk : Keeps F w w') (hn : ¬ F g) : RvAt w' g S := Cel.keeps h hk hn
theorem RvAt.below {w w' : World} {g : Nat} {S : W20} (h : RvAt w g S) (hb : Below w.heap.size w w') : RvAt w' g S := Cel.below h hb
theorem RvAt.typ {w : World} {g : Nat} {S : W20} (h : RvAt w g S) : Typ19 w g 32 := Cel.typ19 h
theorem RvAt.cells {w : World} {g : Nat} {S : W20} (h : RvAt w g S) : w.cell? ⟨g, 0, none⟩ = some (.int .i64 (S.e : Int)) ∧ w.cell? ⟨g, 1, none⟩ = some (.int .i64 (S.n : Int)) ∧ w.cell? ⟨g, 2, none⟩ = some (.string (ba S.t)) ∧ w.cell? ⟨g, 3, none⟩ = some (.bool S.f) ∧
    w.frozen? ⟨g, 1, none⟩ = false ∧ w.frozen? ⟨g, 2, none⟩ = false ∧ w.frozen? ⟨g, 3, none⟩ = false := ⟨Cel.cell h 0, Cel.cell h 1, Cel.cell h 2, Cel.cell h 3, Cel.frozen h 1, Cel.frozen h 2, Cel.frozen h 3⟩
set_option maxRecDepth 100000 in
theorem rvTell_any (g : Nat) (S : W20) (s : ByteArray) (w : World) (h : RvAt w g S) (hs : s.size ≤ 5000) :
    Calls Try.prog 8 #[.pointer (some ⟨g, 0, none⟩), .string s] w fun x w' => x = .returned (.tuple #[]) ∧ RvAt w' g (S.tell s.data.toList) ∧ Keeps (· = g) w w' := by
  have C := refTitle_any s w hs
  unfold W20.tell
  generalize titleF s.data.toList = T at *
  have H := Lib.hid h
  obtain ⟨c0, c1, c2, c3, f1, f2, f3⟩ := h.cells
  by_cases hT : T = S.t
  · rw [if_pos hT]
    subst hT
    go_enter Try.func8, Try.ntmps8
    go_wp2_with (first
      | (go_at_call 15; refine C.mono ?_; rintro e w2 ⟨rfl, rfl⟩)
      | fail)
    first | go_end0 | ((try simp only [Exit.inBlock, Exit.then]); refine bodyPost_ret (results_none rfl _ _ _) rfl ?_)
    exact ⟨rfl, H.out, .refl _ _⟩
  · rw [if_neg hT]
    have hne : ((ba T).toList == (ba S.t).toList) = false := by
      rw [Lib.toList_data, Lib.toList_data, list_ba, list_ba]
      simpa using hT
    go_enter Try.func8, Try.ntmps8
    go_wp2_with (first
      | (go_at_call 15; refine C.mono ?_; rintro e w2 ⟨rfl, rfl⟩)
      | fail)
    first | go_end0 | ((try simp only [Exit.inBlock, Exit.then]); refine bodyPost_ret (results_none rfl _ _ _) rfl ?_)
    exact ⟨rfl, (Cel.set_ (Cel.set_ H.out 2 _) 3 _), (Keeps.setCell (F := (· = g)) (Keeps.refl _ w) (p := ⟨g, 2, none⟩) (.inl rfl) _).setCell (p := ⟨g, 3, none⟩) (.inl rfl) _⟩
/-- What is woven, and where the weaver stands then. -/
def RvPost (g : Nat) (S : W20) (b : List UInt8) (w : World) (x : Ending) (w' : World) : Prop :=
  ∃ v, x = .returned v ∧ OwnB w' w.heap.size v (S.run b).1 ∧ RvAt w' g (S.run b).2 ∧ Keeps (· = g) w w'
theorem rv_grown {w w4 : World} {g base : Nat} {T : W20} {v : Value} {O : List UInt8} {o : Obj} (h : RvAt w g T) (ho : OwnB w base v O) (hg : (w.alloc o).grownBy w4 v.ownBlock) : RvAt w4 g T ∧ Keeps (fun j => v.ownBlock = some j) w w4 := by
  have k : Keeps (fun j => v.ownBlock = some j) w w4 := ((Keeps.refl _ w).alloc o).trans (Keeps.of_grown hg fun k hk => hk)
  exact ⟨h.keeps k fun hf => (own_typ19 ho hf).1.ne (Cel.typ19 h) (by decide) rfl, k⟩
theorem rv_grown0 {w w4 : World} {g base : Nat} {T : W20} {v : Value} {O : List UInt8} (h : RvAt w g T) (ho : OwnB w base v O) (hg : w.grownBy w4 v.ownBlock) : RvAt w4 g T ∧ Keeps (fun j => v.ownBlock = some j) w w4 := by
  have k : Keeps (fun j => v.ownBlock = some j) w w4 := Keeps.of_grown hg fun k hk => hk
  exact ⟨h.keeps k fun hf => (own_typ19 ho hf).1.ne (Cel.typ19 h) (by decide) rfl, k⟩
theorem rv_since {w w' : World} {g m : Nat} {T : W20} (h : RvAt w g T) (hw : w.setCell ⟨g, 1, none⟩ (.int .i64 (m : Int)) = w') : RvAt w' g ⟨T.e, m, T.t, T.f⟩ := by
  rw [← hw]
  exact Cel.set_ h 1 _
theorem rv_far {w w' : World} {g m base : Nat} {T : W20} {v : Value} {O : List UInt8} (h : RvAt w g T) (ho : OwnB w base v O) (hw : w.setCell ⟨g, 1, none⟩ (.int .i64 (m : Int)) = w') : OwnB w' base v O := by
  rw [← hw]
  exact own_far ho (p := ⟨g, 1, none⟩) (fun k hk => (own_typ19 ho hk).1.ne (Cel.typ19 h) (by decide)) _
theorem rv_keeps {w wr w4 : World} {g : Nat} {u : Value} {O : List UInt8} (h : Keeps (· = g) w wr) (ho : OwnB wr w.heap.size u O) (hk : Keeps (fun j => u.ownBlock = some j) wr w4) : Keeps (· = g) w w4 :=
  h.then_ hk fun j hj => .inr (own_base ho j hj)
theorem rv_keeps_set {w w4 W5 : World} {g m : Nat} (h : Keeps (· = g) w w4) (hw : w4.setCell ⟨g, 1, none⟩ (.int .i64 (m : Int)) = W5) : Keeps (· = g) w W5 := by
  rw [← hw]
  exact Keeps.setCell (F := (· = g)) h (p := ⟨g, 1, none⟩) (.inl rfl) _
/-- Where the loop stands. -/
structure RvSt (w : World) (g : Nat) (S : W20) (l : List UInt8) (v : Value) (wr : World) : Prop where
  o : OwnB wr w.heap.size v (S.run l).1
  c : RvAt wr g (S.run l).2
  k : Keeps (· = g) w wr
end Go.Proofs.Ytebfjmjdcbeekaa
