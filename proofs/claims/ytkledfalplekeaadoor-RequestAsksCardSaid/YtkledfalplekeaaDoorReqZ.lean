/- What Request gives. -/
import Derived.Test.YtkledfalplekeaaDoorReqY
namespace Go.Proofs.YtkledfalplekeaaDoor
open Go.RowKit Go.PlainAid
set_option linter.unusedVariables false

theorem info_rq17 : (Tryd.prog.info? 36).map (·.size) = some 5 := by kernel_rfl
set_option maxHeartbeats 4000000 in
theorem rReq_nil (w : World) : Calls Tryd.prog 10 #[.pointer none] w fun e w' => e = .returned (.tuple #[reqV q17Zero, .bool false]) ∧ Below w.heap.size w w' := by
  have HF : RowKit.Hid (Cel (w.alloc (.cells #[.int .i64 0, .string ⟨#[]⟩, .bool false, .bool false, .string ⟨#[]⟩] 36)) w.heap.size 36 #[.int .i64 0, .string ⟨#[]⟩, .bool false, .bool false, .string ⟨#[]⟩] ∧ Below w.heap.size w (w.alloc (.cells #[.int .i64 0, .string ⟨#[]⟩, .bool false, .bool false, .string ⟨#[]⟩] 36))) := ⟨Cel.new w _ _, Below.alloc_new w _⟩
  go_enter Tryd.func10, Tryd.ntmps10
  go_wp2
  (try simp only [Exit.inBlock, Exit.then])
  refine bodyPost_ret (results_cell17 rfl rfl rfl (run_loadVar_row _ w.heap.size _ _ _ (0, 0) _ HF.out.1 Tryd.underlying36 rfl info_rq17)) rfl ?_
  exact ⟨rfl, HF.out.2⟩
set_option maxHeartbeats 4000000 in
theorem rReq_any (base g : Nat) (S : S17) (w : World) (h : RqAt w base g S) :
    Calls Tryd.prog 10 #[.pointer (some ⟨g, 0, none⟩)] w fun e w' => e = .returned (.tuple #[reqV (if S.done then S.R else q17Zero), .bool S.done]) ∧ Below w.heap.size w w' := by
  have hgl : g < w.heap.size := by
    obtain ⟨cs, fr, h⟩ := h.typ
    rcases Nat.lt_or_ge g w.heap.size with hlt | hge
    · exact hlt
    · rw [Array.getElem?_eq_none hge] at h; cases h
  cases hd : S.done with
  | false =>
    have HF : RowKit.Hid (Cel (w.alloc (.cells #[.int .i64 0, .string ⟨#[]⟩, .bool false, .bool false, .string ⟨#[]⟩] 36)) w.heap.size 36 #[.int .i64 0, .string ⟨#[]⟩, .bool false, .bool false, .string ⟨#[]⟩] ∧ Below w.heap.size w (w.alloc (.cells #[.int .i64 0, .string ⟨#[]⟩, .bool false, .bool false, .string ⟨#[]⟩] 36))) := ⟨Cel.new w _ _, Below.alloc_new w _⟩
    have c8 : (w.alloc (.cells #[.int .i64 0, .string ⟨#[]⟩, .bool false, .bool false, .string ⟨#[]⟩] 36)).cell? ⟨g, 8, none⟩ = some (.bool false) := by
      have h' := h.below (Below.alloc_new w (.cells #[.int .i64 0, .string ⟨#[]⟩, .bool false, .bool false, .string ⟨#[]⟩] 36))
      by_cases he : S.err = 0
      · obtain ⟨v, hc, _⟩ := h'.ok he
        rw [hc.cell 8, ← hd]
        rfl
      · exact (h'.no he).2.cell 8
    clear h hd
    go_enter Tryd.func10, Tryd.ntmps10
    go_wp2
    (try simp only [Exit.inBlock, Exit.then])
    refine bodyPost_ret (results_cell17 rfl rfl rfl (run_loadVar_row _ w.heap.size _ _ _ (0, 0) _ HF.out.1 Tryd.underlying36 rfl info_rq17)) rfl ?_
    exact ⟨rfl, HF.out.2⟩
  | true =>
    have he : S.err = 0 := by
      by_cases e : S.err = 0
      · exact e
      · have := (h.no e).1
        rw [hd] at this
        cases this
    obtain ⟨v, hc, _⟩ := (h.below (Below.alloc_new w (.cells #[.int .i64 0, .string ⟨#[]⟩, .bool false, .bool false, .string ⟨#[]⟩] 36))).ok he
    have HF : RowKit.Hid (Cel (w.alloc (.cells #[.int .i64 (S.R.m : Int), .string (ba S.R.path), .bool S.R.icy, .bool S.R.told, .string (ba S.R.pass)] 36)) w.heap.size 36 #[.int .i64 (S.R.m : Int), .string (ba S.R.path), .bool S.R.icy, .bool S.R.told, .string (ba S.R.pass)] ∧ Below w.heap.size w (w.alloc (.cells #[.int .i64 (S.R.m : Int), .string (ba S.R.path), .bool S.R.icy, .bool S.R.told, .string (ba S.R.pass)] 36))) := ⟨Cel.new w _ _, Below.alloc_new w _⟩
    have c8 : (w.alloc (.cells #[.int .i64 0, .string ⟨#[]⟩, .bool false, .bool false, .string ⟨#[]⟩] 36)).cell? ⟨g, 8, none⟩ = some (.bool true) := by rw [hc.cell 8, ← hd]; rfl
    have c2 : (w.alloc (.cells #[.int .i64 0, .string ⟨#[]⟩, .bool false, .bool false, .string ⟨#[]⟩] 36)).cell? ⟨g, 2, none⟩ = some (.int .i64 (S.R.m : Int)) := hc.cell 2
    have c3 : (w.alloc (.cells #[.int .i64 0, .string ⟨#[]⟩, .bool false, .bool false, .string ⟨#[]⟩] 36)).cell? ⟨g, 3, none⟩ = some (.string (ba S.R.path)) := hc.cell 3
    have c4 : (w.alloc (.cells #[.int .i64 0, .string ⟨#[]⟩, .bool false, .bool false, .string ⟨#[]⟩] 36)).cell? ⟨g, 4, none⟩ = some (.bool S.R.icy) := hc.cell 4
    have c5 : (w.alloc (.cells #[.int .i64 0, .string ⟨#[]⟩, .bool false, .bool false, .string ⟨#[]⟩] 36)).cell? ⟨g, 5, none⟩ = some (.bool S.R.told) := hc.cell 5
    have c6 : (w.alloc (.cells #[.int .i64 0, .string ⟨#[]⟩, .bool false, .bool false, .string ⟨#[]⟩] 36)).cell? ⟨g, 6, none⟩ = some (.string (ba S.R.pass)) := hc.cell 6
    clear h hd he hc
    go_enter Tryd.func10, Tryd.ntmps10
    go_wp2
    (try simp only [Exit.inBlock, Exit.then])
    refine bodyPost_ret (results_cell17 rfl rfl rfl (run_loadVar_row _ w.heap.size _ _ _ (0, 0) _ HF.out.1 Tryd.underlying36 rfl info_rq17)) rfl ?_
    exact ⟨rfl, HF.out.2⟩
end Go.Proofs.YtkledfalplekeaaDoor
