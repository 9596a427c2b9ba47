/- What the small functions of package weave give: where blocks are due, a new weaver, a new parter. -/
import Derived.Test.YtebfjmjdcbeekaaDoorMemU
import Derived.Test.YtebfjmjdcbeekaaDoorWeaP
import Derived.Test.YtebfjmjdcbeekaaDoorWrdH
import Derived.Lib.QuietBelow
namespace Go.Proofs.YtebfjmjdcbeekaaDoor
open Go.RowKit Go.PlainAid
set_option linter.unusedVariables false
set_option linter.unusedSimpArgs false

theorem info20_turns : (Tryd.prog.info? 62).map (·.size) = some 2 := by kernel_rfl
/-- A result that lies in memory, and one beside it. -/
theorem results20_2 {fn : Func} {p u : Tmp} {ty : TypeId} {tmps : Array Value} {P : Program} {w : World} {g : Nat} {v v' : Value} (h : fn.results = #[.cell p ty, .tmp u]) (hp : tmps.getD p undef = .pointer (some ⟨g, 0, none⟩)) (hv : tmps.getD u undef = v')
    (e : (loadVar ty ⟨g, 0, none⟩).run P w = .ok v w) : (results fn tmps).run P w = .ok (.tuple #[v, v']) w := by
  have hp' : tmps[p]?.getD undef = .pointer (some ⟨g, 0, none⟩) := by simpa using hp
  have hv' : tmps[u]?.getD undef = v' := by simpa using hv
  simp only [results, h]
  simp [Sem.run_bind, hp', hv', asAddr, Result.andThen, e]
set_option maxRecDepth 100000 in
theorem newTurns_ok (n : Nat) (w : World) (hn : n ≤ 65536) :
    Calls Tryd.prog 18 #[.int .i64 (n : Int)] w fun e w' => e = .returned (.tuple #[.agg #[.int .i64 (n : Int), .int .i64 0], .int .i64 0]) ∧ Below w.heap.size w w' := by
  have HC := Cel.new w 62 #[.int .i64 0, .int .i64 0]
  have c0 := HC.cell 0
  have c1 := HC.cell 1
  have f0 := HC.frozen 0
  have f1 := HC.frozen 1
  have q : ¬ (n : Int) < 0 := by omega
  have q2 : ¬ (65536 : Int) < (n : Int) := by omega
  go_enter Tryd.func18, Tryd.ntmps18
  go_wp2
  refine bodyPost_ret (results20_2 rfl rfl rfl (run_loadVar_row _ w.heap.size _ _ _ (0, 0) _ (Cel.new _ _ _) Tryd.underlying62 rfl info20_turns)) rfl ?_
  exact ⟨rfl, Below.alloc_new _ _⟩
set_option maxRecDepth 100000 in
theorem newTurns_no (n : Int) (w : World) (hn : n < 0 ∨ 65536 < n) :
    Calls Tryd.prog 18 #[.int .i64 n] w fun e w' => e = .returned (.tuple #[.agg #[.int .i64 0, .int .i64 0], .int .i64 1]) ∧ Below w.heap.size w w' := by
  have HC := Cel.new w 62 #[.int .i64 0, .int .i64 0]
  have c0 := HC.cell 0
  have c1 := HC.cell 1
  have f0 := HC.frozen 0
  have f1 := HC.frozen 1
  rcases hn with q | q
  · go_enter Tryd.func18, Tryd.ntmps18
    go_wp2
    refine bodyPost_ret (results20_2 rfl rfl rfl (run_loadVar_row _ w.heap.size _ _ _ (0, 0) _ (Cel.new _ _ _) Tryd.underlying62 rfl info20_turns)) rfl ?_
    exact ⟨rfl, Below.alloc_new _ _⟩
  · have q0 : ¬ n < 0 := by omega
    go_enter Tryd.func18, Tryd.ntmps18
    go_wp2
    refine bodyPost_ret (results20_2 rfl rfl rfl (run_loadVar_row _ w.heap.size _ _ _ (0, 0) _ (Cel.new _ _ _) Tryd.underlying62 rfl info20_turns)) rfl ?_
    exact ⟨rfl, Below.alloc_new _ _⟩

theorem cel_new2 (w : World) (o : Obj) (t : TypeId) (cs : Array Value) : Cel ((w.alloc o).alloc (.cells cs t)) (w.heap.size + 1) t cs := by
  have := Cel.new (w.alloc o) t cs
  rwa [World.size_alloc] at this
/-- Block g is a weaver that stands there. -/
def WvAt (w : World) (g : Nat) (S : W20) : Prop := Cel w g 76 #[.int .i64 (S.e : Int), .int .i64 (S.n : Int), .string (ba S.t), .bool S.f]
set_option maxRecDepth 100000 in
theorem wvNew_ok (n : Nat) (w : World) (hn : n ≤ 65536) :
    Calls Tryd.prog 14 #[.int .i64 (n : Int)] w fun e w' => ∃ g, e = .returned (.tuple #[.pointer (some ⟨g, 0, none⟩), .int .i64 0]) ∧ WvAt w' g ⟨n, 0, [], false⟩ ∧ w.heap.size ≤ g ∧ Below w.heap.size w w' := by
  go_enter Tryd.func14, Tryd.ntmps14
  go_wp2_with (go_at_call 18; refine (newTurns_ok n w hn).mono ?_; rintro e w2 ⟨rfl, hb⟩; have HB := Lib.hid hb; clear hb)
  go_ret2
  have HB1 : Below w.heap.size w (w2.alloc (.cells #[.int .i64 (n : Int), .int .i64 0] 62)) := HB.out.alloc HB.out.size _
  refine ⟨_, rfl, cel_new2 _ _ _ _, ?_, HB1.alloc HB1.size _⟩
  have := HB.out.size
  omega
set_option maxRecDepth 100000 in
theorem wvNew_no (n : Int) (w : World) (hn : n < 0 ∨ 65536 < n) :
    Calls Tryd.prog 14 #[.int .i64 n] w fun e w' => e = .returned (.tuple #[.pointer none, .int .i64 1]) ∧ Below w.heap.size w w' := by
  go_enter Tryd.func14, Tryd.ntmps14
  go_wp2_with (go_at_call 18; refine (newTurns_no n w hn).mono ?_; rintro e w2 ⟨rfl, hb⟩; have HB := Lib.hid hb; clear hb)
  go_ret2
  exact ⟨rfl, HB.out.alloc HB.out.size _⟩
/-- Block g is a parter: these are the bytes that it has kept of a block, so many have come. -/
def PrC (w : World) (g : Nat) (e n : Nat) (B : List UInt8) (had : Nat) : Prop := Cel w g 67 ([Value.int .i64 (e : Int), Value.int .i64 (n : Int)] ++ (nz B).map (Value.int .u8) ++ [Value.int .i64 (had : Int)]).toArray
set_option maxRecDepth 100000 in
theorem prNew_ok (n : Nat) (w : World) (hn : n ≤ 65536) :
    Calls Tryd.prog 7 #[.int .i64 (n : Int)] w fun e w' => ∃ g, e = .returned (.tuple #[.pointer (some ⟨g, 0, none⟩), .int .i64 0]) ∧ PrC w' g n 0 (List.replicate 81 0) 0 ∧ w.heap.size ≤ g ∧ Below w.heap.size w w' := by
  go_enter Tryd.func7, Tryd.ntmps7
  go_wp2_with (go_at_call 18; refine (newTurns_ok n w hn).mono ?_; rintro e w2 ⟨rfl, hb⟩; have HB := Lib.hid hb; clear hb)
  go_ret2
  have HB1 : Below w.heap.size w (w2.alloc (.cells #[.int .i64 (n : Int), .int .i64 0] 62)) := HB.out.alloc HB.out.size _
  refine ⟨_, rfl, cel_new2 _ _ _ _, ?_, HB1.alloc HB1.size _⟩
  have := HB.out.size
  omega
set_option maxRecDepth 100000 in
theorem prNew_no (n : Int) (w : World) (hn : n < 0 ∨ 65536 < n) :
    Calls Tryd.prog 7 #[.int .i64 n] w fun e w' => e = .returned (.tuple #[.pointer none, .int .i64 1]) ∧ Below w.heap.size w w' := by
  go_enter Tryd.func7, Tryd.ntmps7
  go_wp2_with (go_at_call 18; refine (newTurns_no n w hn).mono ?_; rintro e w2 ⟨rfl, hb⟩; have HB := Lib.hid hb; clear hb)
  go_ret2
  exact ⟨rfl, HB.out.alloc HB.out.size _⟩
end Go.Proofs.YtebfjmjdcbeekaaDoor
