/- What the statements' rows list of the library's variables, as the walks ask for it; a reply, and bytes, that came in; the wrap of a row that lists variables, with the first world's shape kept. -/
import Derived.Test.YtjhihjkhbmbigaaDoorRows
import Derived.Test.YtjhihjkhbmbigaaDoorRepK
import Derived.Test.YtjhihjkhbmbigaaDoorOpenS
import Derived.Stop.LaidErr
import Derived.LaidLaws
import Derived.MakeChecks
import Derived.Shelf.Vars
import Derived.SizedLaws
namespace Go.Proofs.YtjhihjkhbmbigaaDoor
open Go Go.Shelf Go.Lib Go.RowKit
set_option linter.unusedVariables false
set_option linter.unusedSimpArgs false

theorem laid_tail18 {P : Program} {x : String × DataW Unit} {r : List (String × DataW Unit)} {W : World} (h : laidMet P (x :: r) W) : laidMet P r W := by
  obtain ⟨ps, ⟨g, t, cs, f, p, q, _, _, _, _, h5, e⟩, hnd, hrows⟩ := h
  subst e
  exact ⟨q, h5, (List.nodup_append.1 hnd).2.1, fun b off hm => hrows b off (List.mem_append_right _ hm)⟩
theorem pow_is18 : (Rows.laid_internal_strconv_uint64pow10 : DataW Unit) = Lib.tabData .u64 Lib.pow10Tab := by kernel_rfl
theorem star_is18 : "*" ++ "errors.errorString" = "*errors.errorString" := by decide
theorem row_err18 (u : TypeId) (h : Tryd.prog.typeName? 3 u = some "*errors.errorString") : u = 122 :=
  typeName_ptr_named (nm := "errors.errorString") (by rw [star_is18]; kernel_rfl) (by kernel_rfl) (by decide) u (by rw [star_is18]; exact h)
theorem pow_of_laid18 {W : World} (h : laidMetH Tryd.prog [("math/bits.deBruijn32tab", Rows.laid_math_bits_deBruijn32tab), ("math/bits.deBruijn64tab", Rows.laid_math_bits_deBruijn64tab), ("internal/strconv.uint64pow10", Rows.laid_internal_strconv_uint64pow10)] W) : PowT W := by
  rw [MakeChecks.laidMetH_plain _ _ _ (by kernel_rfl)] at h
  have h3 := laid_tail18 (laid_tail18 h)
  rw [pow_is18] at h3
  exact ⟨tabIs_of_head (g := 1) (t := 99) (e := 86) (n := 20) (by kernel_rfl) (by kernel_rfl) Tryd.underlying99 Tryd.underlying86 (by kernel_rfl) (by kernel_rfl) h3⟩
theorem num_of_laid18 {W : World} (h : laidMetH Tryd.prog [("math/bits.deBruijn32tab", Rows.laid_math_bits_deBruijn32tab), ("math/bits.deBruijn64tab", Rows.laid_math_bits_deBruijn64tab), ("internal/strconv.uint64pow10", Rows.laid_internal_strconv_uint64pow10), ("unicode/utf8.acceptRanges", Rows.laid_unicode_utf8_acceptRanges), ("strconv.ErrRange", Rows.laid_strconv_ErrRange), ("strconv.ErrSyntax", Rows.laid_strconv_ErrSyntax), ("unicode/utf8.first", Rows.laid_unicode_utf8_first)] W) : NumTabs W := by
  rw [MakeChecks.laidMetH_plain _ _ _ (by kernel_rfl)] at h
  have h3 := laid_tail18 (laid_tail18 h)
  have h4 := laid_tail18 (laid_tail18 h3)
  have h5 := laid_tail18 h4
  rw [pow_is18] at h3
  refine ⟨?_, ?_, ?_⟩
  · obtain ⟨a0, s0, hv0, _⟩ := laid_sentinel h5 (g := 2) (by kernel_rfl) (ti := 62) (by kernel_rfl) Tryd.underlying62 row_err18 Tryd.underlying122 Tryd.underlying124 rfl rfl Tryd.underlying9 (by kernel_rfl) (by kernel_rfl)
    exact ⟨_, _, hv0⟩
  · obtain ⟨a0, s0, hv0, _⟩ := laid_sentinel h4 (g := 3) (by kernel_rfl) (ti := 62) (by kernel_rfl) Tryd.underlying62 row_err18 Tryd.underlying122 Tryd.underlying124 rfl rfl Tryd.underlying9 (by kernel_rfl) (by kernel_rfl)
    exact ⟨_, _, hv0⟩
  · exact tabIs_of_head (g := 1) (t := 99) (e := 86) (n := 20) (by kernel_rfl) (by kernel_rfl) Tryd.underlying99 Tryd.underlying86 (by kernel_rfl) (by kernel_rfl) h3
theorem max_of_shape18 {W : World} (h : W.ShapedOpen Tryd.prog) : MaxAt W :=
  cell_of_shapedOpen_int (t := 3) (zero := #[.int .i64 0]) h (of_decide_eq_true (by kernel_rfl)) (by kernel_rfl) rfl (by kernel_rfl) (by kernel_rfl) Tryd.underlying3
theorem bounds_i6418 {z : Int} (h : (Lit.int .i64 z).wf = true) : -9223372036854775808 ≤ z ∧ z ≤ 9223372036854775807 := by
  have e1 : IntKind.i64.min = -9223372036854775808 := rfl
  have e2 : IntKind.i64.max = 9223372036854775807 := rfl
  simp [Lit.wf, e1, e2] at h
  exact h
theorem row_byts18 {w : World} {a : Option Addr} {len cap : Nat} {zs : List Int}
    (h : (a = none ∧ len = 0 ∧ cap = 0 ∧ zs = []) ∨ ∃ x, a = some x ∧ len ≤ cap ∧ cap ≤ maxLen ∧ zs.length = cap ∧ (∀ i, i < zs.length → w.cell? (x.add i) = some (.int .u8 (zs.getD i 0))) ∧ ∀ n ∈ zs, (Lit.int .u8 n).wf = true) :
    ∃ l, BytA w a len cap l := by
  obtain ⟨h1, h2, _⟩ := ints_in h
  refine ⟨(zs.take len).map fun z => UInt8.ofNat z.toNat, ?_, ?_, ?_, ?_⟩
  · have : nz ((zs.take len).map fun z => UInt8.ofNat z.toNat) = zs.take len := by
      unfold nz
      rw [List.map_map]
      conv => rhs; rw [← List.map_id (zs.take len)]
      apply List.map_congr_left
      intro z hz
      have := h2 z hz
      have e1 : IntKind.u8.min = 0 := rfl
      have e2 : IntKind.u8.max = 255 := rfl
      simp [Lit.wf, e1, e2] at this
      simp
      omega
    rw [this]
    exact h1
  · rw [List.length_map]
    exact h1.1
  · rcases h with ⟨_, rfl, rfl, _⟩ | ⟨_, _, h, _⟩
    · exact Nat.le_refl _
    · exact h
  · intro ha
    rcases h with ⟨_, _, h, _⟩ | ⟨x, hx, _⟩
    · exact h
    · rw [ha] at hx; cases hx
/-- A reply, by value. -/
theorem rep_in18 {P : Program} {H : Type} {enc : TypeId × Value → H} {w : World} {base b0 n : Nat} {held : Bool} {r : Reach} {t : TypeId} {fs : Array Field} {v : Value} {d : DataW H} {ps : List MemPlace}
    (ht : P.underlying t = some (.struct fs)) (hk : flatK P n t = some [.int .i64, .str, .int .i64])
    (hval : Value.okWide P w r b0 t v) (hd : DataW.Trod enc P w base (fun _ => true) held t v d ps) :
    ∃ (c : Int) (s : ByteArray) (e : Int), v = .agg #[.int .i64 c, .string s, .int .i64 e] ∧ (Lit.int .i64 c).wf = true ∧ s.size ≤ maxLen ∧ (Lit.int .i64 e).wf = true := by
  simp only [Value.okWide, ht] at hval
  obtain ⟨cs, rfl, hs, _⟩ := hval
  obtain ⟨fuel, hf⟩ := hd
  obtain ⟨h1, h2⟩ := flat_ok hk hf
  simp only [Value.cells] at h1 h2
  obtain ⟨v0, e0, c, rfl, hc⟩ := h2 0 _ rfl
  obtain ⟨v1, e1, s, rfl, hs2⟩ := h2 1 _ rfl
  obtain ⟨v2, e2, e, rfl, he⟩ := h2 2 _ rfl
  refine ⟨c, s, e, ?_, hc, hs2, he⟩
  congr 1
  apply Array.ext'
  match hq : cs.toList, h1, e0, e1, e2 with
  | [x0, x1, x2], _, e0, e1, e2 =>
    simp at e0 e1 e2
    rw [e0, e1, e2]
variable {H : Type} {enc : TypeId × Value → H}
/-- 'returnsInHanded_of_change_and' with the first world's shape kept. -/
theorem handed18 {a : Assume} {C : Checked} {os : Os} {f : FuncId} {fn : Func} {s : ChangeSpec} {conds : List PathCond} {apart fresh handsOn again : Bool} {X : World → Array Value → Prop}
    (hX : ∀ (w w' : World) (args : Array Value), w.heap = w'.heap → X w args → X w' args)
    (own : ownKnob C.prog.godebug = none) (started : os.Started) (noInit : C.prog.inits.idxOf? f = none) (hfn : C.prog.funcs[f]? = some fn)
    (witness : ∃ (w : World) (tape : Tape) (i : Input), w.os = os ∧ (w.forCall tape i).Shaped C.prog ∧ i.vars = [] ∧ Input.okWide C.prog (w.forCall tape i) .any w.heap.size f i ∧
      ((s.pre enc C.prog fn conds apart (w.forCall tape i).memory i.args ∧ X (w.forCall tape i).memory i.args) ∧ sizedMet enc C.prog fn (OpenSpec.ofChange s) apart (w.forCall tape i).memory i.args) ∧ a.holds C.prog (lone (Frame.enter C.prog f i.args .normal) [] (w.forCall tape i)))
    (contract : ∀ (W : World) (base : Nat) (args : Array Value) (ds gs : List (DataW H)) (before : List MemPlace),
      (∀ (j : Nat) t v, fn.params[j]? = some t → args[j]? = some v → Value.okWide C.prog W .any base t v) →
      DataW.Whole enc C.prog fn.params.toList s.vars apart W args.toList ds gs before →
      conds.all (PathCond.test C.prog ⟨fn.params.toList, ds, s.plain.varTypes C.prog, gs⟩) = true →
      (DataW.weightsEach C.prog (fn.params.toList ++ s.plain.varTypes C.prog) (ds ++ gs)).all (· ≤ reachBytes) = true → X W args → W.ShapedOpen C.prog →
      a.holds C.prog (lone (Frame.enter C.prog f args .normal) [] W) →
      Calls C.prog f args W fun e W' => ∃ v, e = .returned v ∧ s.post enc C.prog fn apart fresh handsOn again W args v W') :
    ReturnsInHanded a C os f .any (fun w args => (s.pre enc C.prog fn conds apart w args ∧ X w args) ∧ sizedMet enc C.prog fn (OpenSpec.ofChange s) apart w args) (s.post enc C.prog fn apart fresh handsOn again) := by
  refine returnsInHanded_of_calls own started noInit witness ?_
  intro w tape i _ hsh _ hok hpre hholds
  obtain ⟨_, _, _, fn', hfn', _, _, _, _, hval⟩ := hok
  have e : fn' = fn := Option.some.inj (hfn'.symm.trans hfn)
  subst e
  obtain ⟨⟨⟨ds, gs, before, hw, hc⟩, hx⟩, hz⟩ := hpre
  have hw' := DataW.Whole.of_heap (w' := w.forCall tape i) (by rfl) hw
  refine (contract (w.forCall tape i) w.heap.size i.args ds gs before hval hw' hc (hz.weights hw) (hX _ _ _ (by rfl) hx) hsh hholds).mono fun e W' ⟨v, he, hp⟩ => ?_
  subst he
  exact ChangeSpec.post_blind hp
end Go.Proofs.YtjhihjkhbmbigaaDoor
