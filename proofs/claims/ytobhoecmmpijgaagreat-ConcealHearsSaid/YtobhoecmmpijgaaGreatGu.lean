/- Plain facts, and what functions give, for the proofs of this seat: several texts in one, each with its own first remark. -/
import Derived.Test.YtobhoecmmpijgaaGreatGt
import Derived.Test.YtobhoecmmpijgaaGreatGn
import Derived.Test.YtobhoecmmpijgaaGreatGi

/- What Put of package energy gives. -/
namespace Go.Proofs.YtobhoecmmpijgaaGreat
open Go.RowKit
set_option linter.unusedVariables false

/-- What is held while something is put: the encoder's state, and what else was written. -/
def PutSt (w : World) (base g : Nat) (v : Value) (E : EncS) (wr : World) : Prop :=
  ∃ v', EncAt wr base g v' E ∧ Keeps (fun j => j = g ∨ v.ownBlock = some j) w wr ∧ (∀ j, v'.ownBlock = some j → v.ownBlock = some j ∨ w.heap.size ≤ j)
theorem PutSt.start {w : World} {base g : Nat} {v : Value} {E : EncS} (h : EncAt w base g v E) : PutSt w base g v E w := ⟨v, h, Keeps.refl _ w, fun _ h => .inl h⟩
theorem PutSt.below {w wr w' : World} {base g : Nat} {v : Value} {E : EncS} (h : PutSt w base g v E wr) (hb : Below wr.heap.size wr w') : PutSt w base g v E w' := by
  obtain ⟨v', h1, h2, h3⟩ := h
  exact ⟨v', h1.below hb, h2.trans (.of_below hb), h3⟩
theorem PutSt.drewN {w wr : World} {base g : Nat} {v : Value} {E : EncS} (h : PutSt w base g v E wr) (n : Nat) : PutSt w base g v E (wr.drewN n) := by
  obtain ⟨v', h1, h2, h3⟩ := h
  exact ⟨v', h1.drewN n, h2.drewN n, h3⟩
/-- What stands elsewhere stays. -/
theorem PutSt.ints {w wr : World} {base g len : Nat} {v : Value} {E : EncS} {a : Option Addr} {zs : List Int} (h : PutSt w base g v E wr) (hi : IntsAt w w.heap.size .i64 a len zs) (hne : ∀ r off, a = some ⟨r, off, none⟩ → r ≠ g ∧ v.ownBlock ≠ some r) : IntsAt wr w.heap.size .i64 a len zs := by
  obtain ⟨v', h1, h2, h3⟩ := h
  exact hi.keeps h2 (Nat.le_refl _) fun r off e _ _ c => by
    obtain ⟨n1, n2⟩ := hne r off e
    rcases c with c | c
    · exact n1 c
    · exact n2 c
/-- Where something more is put. -/
theorem PutSt.step {w wr w' : World} {base g : Nat} {v v' v2 : Value} {E E' : EncS} (h1 : EncAt wr base g v' E) (h2 : Keeps (fun j => j = g ∨ v.ownBlock = some j) w wr) (h3 : ∀ j, v'.ownBlock = some j → v.ownBlock = some j ∨ w.heap.size ≤ j)
    (k1 : EncAt w' base g v2 E') (k2 : Keeps (fun j => j = g ∨ v'.ownBlock = some j ∨ w.heap.size ≤ j) wr w') (k3 : ∀ j, v2.ownBlock = some j → v'.ownBlock = some j ∨ wr.heap.size ≤ j) : PutSt w base g v E' w' := by
  refine ⟨v2, k1, h2.then_ k2 fun j hj => ?_, fun j hj => ?_⟩
  · rcases hj with hj | hj | hj
    · exact .inl (.inl hj)
    · rcases h3 j hj with c | c
      · exact .inl (.inr c)
      · exact .inr c
    · exact .inr hj
  · rcases k3 j hj with c | c
    · exact h3 j c
    · exact .inr (Nat.le_trans h2.size c)

/-- Ceilings ahead: none (q), or right ones. -/
def AheadAt (w : World) (q : Bool) (a : Option Addr) (len : Nat) (ds : List Int) : Prop := IntsAt w w.heap.size .i64 a len ds ∧ len ≤ 9223372036854775807 ∧ ((q = true ∧ len = 0) ∨ (q = false ∧ rightB ds = true ∧ len = 21))
theorem AheadAt.may {w : World} {q : Bool} {a : Option Addr} {len : Nat} {ds : List Int} (h : AheadAt w q a len ds) : (decide (len = 0) || rightB ds) = true := by
  obtain ⟨_, _, ⟨_, h⟩ | ⟨_, h, _⟩⟩ := h <;> simp [h]
end Go.Proofs.YtobhoecmmpijgaaGreat

/- What the decoders give of a symbol of a model that never learns: the program's and the document's. -/
namespace Go.Proofs.YtobhoecmmpijgaaGreat
open Go.RowKit
set_option linter.unusedVariables false

def DrcSymPostF (base g : Nat) (v : Value) (b : List Int) (mg : Nat) (s : Nat) (d : DecS) (l : List Int) (w : World) (x : Ending) (w' : World) : Prop :=
  x = .returned (.tuple #[.int .i64 s, .int .i64 0]) ∧ DrcAt w' base g v b d ∧ ModAt w' mg l true ∧ Keeps (fun j => j = g) w w'
set_option maxHeartbeats 400000 in
set_option maxRecDepth 100000 in
theorem drcSymbol_fixed (base g : Nat) (v : Value) (b : List Int) (d : DecS) (mg : Nat) (l : List Int) (w : World) (hD : DrcAt w base g v b d) (hM : ModAt w mg l true) (hb : ∀ j, 0 ≤ byteF b j ∧ byteF b j ≤ 255) (hbl : b.length ≤ 1000000) (hi : d.i ≤ 5000000) (hG : GoodD d) (hL : GoodL l) :
    Calls Tryz.prog 177 #[.pointer (some ⟨g, 0, none⟩), .pointer (some ⟨mg, 0, none⟩)] w (DrcSymPostF base g v b mg (decWhich d l) (decSym b d l) l w) := by
  have HNe := Lib.hid (hD.ne_mod hM)
  have HD := Lib.hid hD
  have HM := Lib.hid hM
  have HG := Lib.hid hG
  have HL := Lib.hid hL
  have HBy := Lib.hid hb
  obtain ⟨v1, v2, v3, v4⟩ := decWhich_is hG hL
  have HWl := Lib.hid v2
  have HW : RowKit.Hid (findP l (decAt d l.sum) = decWhich d l) := rfl
  have HOk := Lib.hid (okP_sym hL v1)
  have HS : RowKit.Hid (decSym b d l = decTake (byteF b) d (sumN l (decWhich d l)) (l.getD (decWhich d l) 0) l.sum) := rfl
  rw [HS.out]
  have h0 : 0 < l.length := hL.1
  have hgl := hD.lt.1
  have hml := hM.lt
  have HOw : RowKit.Hid (∀ r, v.ownBlock = some r → r < w.heap.size ∧ base ≤ r ∧ r ≠ g) := fun r hr => HD.out.own r hr
  have HV0 : RowKit.Hid (partV l 0 = .agg #[.int .u32 (sumN l 0), .int .u32 (l.getD 0 0), .int .u32 l.sum]) := rfl
  have HVs : RowKit.Hid (partV l (decWhich d l) = .agg #[.int .u32 (sumN l (decWhich d l)), .int .u32 (l.getD (decWhich d l) 0), .int .u32 l.sum]) := rfl
  have H00 : RowKit.Hid ((0 : Int) = ((0 : Nat) : Int)) := rfl
  clear hD hM hb hG hL v2 HS
  generalize hs : decWhich d l = s at v1 HWl HW HOk HVs ⊢
  clear hs
  generalize l.getD s 0 = x at HOk HVs ⊢
  generalize l.getD 0 0 = x0 at HV0
  generalize l.sum = t at HOk HV0 HVs HW HWl v3 v4 ⊢
  generalize sumN l s = y at HOk HWl HVs ⊢
  generalize sumN l 0 = y0 at HV0
  go_enter Tryz.func177, Tryz.ntmps177
  go_wp2_with (first
    | (go_at_call 186; have hq := HF3.out.1; go_loud (with_reducible refine (modPart_at mg l true s _ _ _ rfl (HS2.out.2.1.drewN _) HL.out v1 HVs.out).mono ?_); rintro e4 w4 ⟨rfl, hb4⟩; have HS4 : RowKit.Hid (DrcAt w4 base g v b d ∧ ModAt w4 mg l true ∧ Cel w4 w1.heap.size 247 #[.int .u32 y0, .int .u32 x0, .int .u32 t] ∧ Below w.heap.size w w4) := ⟨(HS2.out.1.drewN n3).below hb4, (HS2.out.2.1.drewN n3).below hb4, (HS2.out.2.2.1.drewN n3).below hb4, (Below.drewN' HS2.out.2.2.2 n3).trans (hb4.mono (Below.drewN' HS2.out.2.2.2 n3).size)⟩; have q4 := HS4.out.2.2.1; have p0 := q4.cell 0; have p1 := q4.cell 1; have p2 := q4.cell 2; have f0 := q4.frozen 0; have f1 := q4.frozen 1; have f2 := q4.frozen 2; simp only [List.getElem?_toArray, List.getElem?_cons_zero, List.getElem?_cons_succ] at p0 p1 p2; have k5 : Keeps (fun j => j = w1.heap.size) w4 (((w4.setCell ⟨w1.heap.size, 0, none⟩ (.int .u32 y)).setCell ⟨w1.heap.size, 1, none⟩ (.int .u32 x)).setCell ⟨w1.heap.size, 2, none⟩ (.int .u32 t)) := Keeps.setCell (F := fun j => j = w1.heap.size) (p := ⟨w1.heap.size, 2, none⟩) (Keeps.setCell (F := fun j => j = w1.heap.size) (p := ⟨w1.heap.size, 1, none⟩) (Keeps.setCell (F := fun j => j = w1.heap.size) (p := ⟨w1.heap.size, 0, none⟩) (Keeps.refl _ _) (.inl rfl) _) (.inl rfl) _) (.inl rfl) _; have HS5 : RowKit.Hid (DrcAt (((w4.setCell ⟨w1.heap.size, 0, none⟩ (.int .u32 y)).setCell ⟨w1.heap.size, 1, none⟩ (.int .u32 x)).setCell ⟨w1.heap.size, 2, none⟩ (.int .u32 t)) base g v b d ∧ ModAt (((w4.setCell ⟨w1.heap.size, 0, none⟩ (.int .u32 y)).setCell ⟨w1.heap.size, 1, none⟩ (.int .u32 x)).setCell ⟨w1.heap.size, 2, none⟩ (.int .u32 t)) mg l true ∧ Below w.heap.size w (((w4.setCell ⟨w1.heap.size, 0, none⟩ (.int .u32 y)).setCell ⟨w1.heap.size, 1, none⟩ (.int .u32 x)).setCell ⟨w1.heap.size, 2, none⟩ (.int .u32 t))) := ⟨HS4.out.1.keeps k5 (by omega) (by intro r hr c; have := (HOw.out r hr).1; omega), HS4.out.2.1.keeps k5 (by omega), HS4.out.2.2.2.trans (k5.below HS4.out.2.2.2.size (by intro j hj; omega))⟩; clear q4 k5; clear hb4 hq)
    | (go_at_call 186; go_loud (with_reducible refine (modPart_at mg l true 0 0 _ _ H00.out HM.out HL.out h0 HV0.out).mono ?_); rintro e1 w1 ⟨rfl, hb⟩; have hb2 := hb.alloc hb.size (.cells #[.int .u32 y0, .int .u32 x0, .int .u32 t] 247); have HS2 : RowKit.Hid (DrcAt (w1.alloc (.cells #[.int .u32 y0, .int .u32 x0, .int .u32 t] 247)) base g v b d ∧ ModAt (w1.alloc (.cells #[.int .u32 y0, .int .u32 x0, .int .u32 t] 247)) mg l true ∧ Cel (w1.alloc (.cells #[.int .u32 y0, .int .u32 x0, .int .u32 t] 247)) w1.heap.size 247 #[.int .u32 y0, .int .u32 x0, .int .u32 t] ∧ Below w.heap.size w (w1.alloc (.cells #[.int .u32 y0, .int .u32 x0, .int .u32 t] 247))) := ⟨HD.out.below hb2, HM.out.below hb2, Cel.new _ _ _, hb2⟩; have hsz1 := hb.size; clear hb hb2)
    | (go_at_call 156; go_loud (with_reducible refine (drcLies_any base g v b d t _ HS2.out.1 HG.out v3 v4).mono ?_); rintro e2 w2 ⟨rfl, rfl⟩)
    | (go_at_call 188; go_loud (with_reducible refine (modFind_at mg l true _ s _ HS2.out.2.1 HL.out HW.out).mono ?_); rintro e3 w3 ⟨rfl, n3, rfl⟩; have HF3 := Lib.hid (show 0 < l.length ∧ mg < w.heap.size from ⟨h0, hml⟩))
    | (go_at_call 157; go_loud (with_reducible refine (drcTake_any base g v b d y x t _ HS5.out.1 HBy.out hbl hi HG.out HOk.out HWl.out).mono ?_); rintro e5 w5 ⟨rfl, hm, hk⟩; have HD5 := Lib.hid hm; have HK5 := Lib.hid hk; have HM5 := Lib.hid (HS5.out.2.1.keeps hk HNe.out.1); clear hm hk)
    | (go_at_call 187; go_loud (with_reducible refine (modLearn_fixed mg l s _ HM5.out v1).mono ?_); rintro e6 w6 ⟨rfl, n6, rfl⟩))
  refine bodyPost_ret (v := .tuple #[.int .i64 s, .int .i64 0]) (by simp [results, Tryz.results177, go_sem]) rfl ?_
  exact ⟨rfl, HD5.out.drewN n6, HM5.out.drewN n6, ((Keeps.of_below HS5.out.2.2).trans HK5.out).drewN n6⟩
set_option maxHeartbeats 1000000 in
set_option maxRecDepth 100000 in
theorem refDecSymbol_fixed (base b2 g : Nat) (v : Value) (b : List Int) (d : DecS) (mg mr : Nat) (l : List Int) (w : World) (hD : DecMem w base g v b d) (hb : ∀ j, 0 ≤ byteF b j ∧ byteF b j ≤ 255) (hbl : b.length ≤ 1000000) (hi : d.i ≤ 5000000) (hR : RefMod w b2 mg mr l true) (hG : GoodD d) (hL : GoodL l) (d1 : mg ≠ g) (d3 : mr ≠ g) (d2 : ∀ k, v.ownBlock = some k → k ≠ mg ∧ k ≠ mr) :
    Calls Tryz.prog 95 #[.pointer (some ⟨g, 0, none⟩), .pointer (some ⟨mg, 0, none⟩)] w (DecSymPost base b2 g v b mg mr (decWhich d l) (decSym b d l) l true w) := by
  obtain ⟨cm, h1, h2, h3⟩ := hR
  have HR := Lib.hid (show RefMod w b2 mg mr l true from ⟨cm, h1, h2, h3⟩)
  have HD := Lib.hid hD
  have HG := Lib.hid hG
  have HL := Lib.hid hL
  have HBy := Lib.hid hb
  have H2 := Lib.hid d2
  have hl0 := hL.1
  have hl := hL.2.1
  have c0 := h1.cell 0
  simp only [List.getElem?_toArray, List.getElem?_cons_zero] at c0
  obtain ⟨w1, w2, w3, w4⟩ := decWhich_is hG hL
  have HWl := Lib.hid w2
  have HW : RowKit.Hid (findP l (decAt d l.sum) = decWhich d l) := rfl
  have hbd : ∀ j, j < l.length → 0 ≤ l.getD j 0 ∧ l.getD j 0 ≤ 4294967295 := fun j hj => by have := HL.out.own hj; omega
  have HB := Lib.hid hbd
  have HOk := Lib.hid (okP_sym hL w1)
  have HT := Lib.hid (sumN_all l)
  have hcell := HR.out.at_ w1
  have HS : RowKit.Hid (decSym b d l = decTake (byteF b) d (sumN l (decWhich d l)) (l.getD (decWhich d l) 0) l.sum) := rfl
  rw [HS.out]
  clear h1 h2 h3 hD hG hL hb hbd d2 w2 HS
  generalize l.getD (decWhich d l) 0 = X2 at hcell HOk ⊢
  generalize hs : decWhich d l = s at w1 HWl HW HOk hcell ⊢
  clear hs
  have hsl : (s : Int) < (l.length : Int) := by omega
  go_enter Tryz.func95, Tryz.ntmps95
  go_wp2_with (first | (go_at_call 93; go_loud (refine (refSum_at b2 mg mr l true l.length _ _ (by omega) HR.out (by omega) hl HB.out).mono ?_); rintro e5 w5 ⟨rfl, rfl⟩; rw [HT.out]) | (go_at_call 71; go_loud (refine (refDecAt_any base g v b d _ _ HD.out HG.out w3 w4).mono ?_); rintro e5 w5 ⟨rfl, n5, rfl⟩) | (go_at_call 130; go_loud (refine (refFind_any b2 mg mr l true _ _ (HR.out.drewN _) hl0 hl HB.out).mono ?_); rintro e6 w6 ⟨rfl, rfl⟩; rw [HW.out]))
  have hcell2 : (w.drewN n5).cell? ⟨mr, s, none⟩ = some (.int .i64 X2) := hcell
  have c02 : (w.drewN n5).cell? ⟨mg, 0, none⟩ = some (.slice (some ⟨mr, 0, none⟩) l.length cm) := c0
  have HDq := Lib.hid (HD.out.drewN n5)
  have HRq := Lib.hid (HR.out.drewN n5)
  have HKq := Lib.hid ((Keeps.refl (fun j => j = g ∨ j = mr) w).drewN n5)
  clear c0 hcell
  generalize w.drewN n5 = wq at hcell2 c02 HDq HRq HKq ⊢
  go_still_tail 12, (by kernel_rfl)
  still_call ((refSum_at b2 mg mr l true s _ _ (by omega) (HRq.out.drewN 1) (by omega) hl HB.out).mono fun _ _ h => ⟨h.1, h.2.symm⟩)
  repeat still_step
  refine wpStill_nil ?_
  change wpList _ _ _ _ _ wq.drew
  clear c02 hcell2
  have HDd : RowKit.Hid (DecMem wq.drew base g v b d) := HDq.out.drewN 1
  have HRd : RowKit.Hid (RefMod wq.drew b2 mg mr l true) := HRq.out.drewN 1
  generalize hX1 : sumN l s = X1 at HWl HOk ⊢
  have HX1 := Lib.hid hX1
  clear hX1
  go_wp2_with (first | (go_at_call 72; go_loud (refine (refDecTake_any base g v b d _ _ _ _ HDd.out HBy.out hbl hi HG.out HOk.out HWl.out).mono ?_); rintro e5 w5 ⟨rfl, hm, hk⟩; have HM5 := Lib.hid hm; have HK5 := Lib.hid hk; have HR5 := Lib.hid (HRd.out.keeps hk d1 d3); clear hm hk) | (go_at_call 94; go_loud (refine (refLearn_fixed b2 mg mr l _ _ HR5.out).mono ?_); rintro e6 w6 ⟨rfl, rfl⟩))
  go_ret
  rw [HX1.out]
  exact ⟨rfl, HM5.out, HR5.out, (HKq.out.drewN 1).trans (HK5.out.mono fun k h => by omega)⟩
end Go.Proofs.YtobhoecmmpijgaaGreat

/- What Get of package energy gives. -/
namespace Go.Proofs.YtobhoecmmpijgaaGreat
open Go.RowKit
set_option linter.unusedVariables false

theorem IFun.keeps {w w' : World} {g n : Nat} {t : TypeId} {k : IntKind} {f : Nat → Int} {F : Nat → Prop} (h : IFun w g t k n f) (hk : Keeps F w w') (hn : ¬ F g) : IFun w' g t k n f := (hk.block g h.lt hn).trans h
/-- What is held while ceilings are got: the decoder's state, the row that is filled, what else was written. -/
structure GetSt (w : World) (base g : Nat) (v : Value) (b : List Int) (D : DecS) (r : Nat) (f : Nat → Int) (wr : World) : Prop where
  d : DrcAt wr base g v b D
  i : IFun wr r 3 .i64 21 f
  k : Keeps (fun j => j = g) w wr
  rs : w.heap.size ≤ r
  gs : g < w.heap.size ∧ ∀ j, v.ownBlock = some j → j < w.heap.size
section
variable {w wr w' : World} {base g r : Nat} {v : Value} {b : List Int} {D D' : DecS} {f f' : Nat → Int}
theorem GetSt.dec (h : GetSt w base g v b D r f wr) (hd : DrcAt w' base g v b D') (hk : Keeps (fun j => j = g) wr w') : GetSt w base g v b D' r f w' :=
  ⟨hd, h.i.keeps hk (by have := h.gs.1; have := h.rs; omega), h.k.trans hk, h.rs, h.gs⟩
theorem GetSt.set (h : GetSt w base g v b D r f wr) {j : Nat} (hj : j < 21) (x : Int) : GetSt w base g v b D r (fun i => if i = j then x else f i) (wr.setCell ⟨r, j, none⟩ (.int .i64 x)) :=
  ⟨h.d.keeps (F := fun k => k = r) (Keeps.setCell (F := fun k => k = r) (p := ⟨r, j, none⟩) (Keeps.refl _ wr) (.inl rfl) _) (by have := h.gs.1; have := h.rs; omega) (fun k hk c => by have := h.gs.2 k hk; have := h.rs; omega),
    h.i.set hj x, Keeps.setCell (p := ⟨r, j, none⟩) h.k (.inr h.rs) _, h.rs, h.gs⟩
theorem GetSt.ext (h : GetSt w base g v b D r f wr) (he : ∀ j, j < 21 → f j = f' j) : GetSt w base g v b D r f' wr := ⟨h.d, h.i.ext he, h.k, h.rs, h.gs⟩
theorem GetSt.below (h : GetSt w base g v b D r f wr) (hb : Below wr.heap.size wr w') : GetSt w base g v b D r f w' :=
  ⟨h.d.below hb, h.i.below hb h.i.lt, h.k.trans (.of_below hb), h.rs, h.gs⟩
end
/-- A number of each band got. -/
def GotPost (base g : Nat) (v : Value) (b : List Int) (D : DecS) (V : Nat → Int) (w : World) (e : Ending) (w' : World) : Prop :=
  ∃ r, e = .returned (.tuple #[.slice (some ⟨r, 0, none⟩) 21 21, .int .i64 0]) ∧ GetSt w base g v b D r V w'

set_option maxRecDepth 100000 in
theorem engGetAlone_any (base g : Nat) (v : Value) (b : List Int) (D : DecS) (d : Nat → Int) (w : World) (hD : DrcAt w base g v b D) (hG : GoodD D) (hb : ∀ j, 0 ≤ byteF b j ∧ byteF b j ≤ 255) (hbl : b.length ≤ 1000000) (hi : D.i ≤ 3000000) :
    Calls Tryz.prog 158 #[.pointer (some ⟨g, 0, none⟩)] w (GotPost base g v b (getN true b D d 21) (getV true b D d) w) := by
  have hmk : ∀ w : World, (Instr.makeSlice 72 (.int .i64 21) (.int .i64 21)).run Tryz.prog w = .ok (.slice (some ⟨w.heap.size, 0, none⟩) 21 21) (w.alloc (.cells (madeCells #[.int .i64 0] 21) 3)) :=
    fun w => make_zeros (P := Tryz.prog) Tryz.underlying72 infoE_int 21 (by decide) (by decide) w
  have H0 : RowKit.Hid (GetSt w base g v b (getN true b D d 0) w.heap.size (preF (getV true b D d) 0) (w.alloc (.cells (madeCells #[.int .i64 0] 21) 3))) :=
    ⟨hD.below (Below.alloc_new w _), IFun.ext (IFun.zeros w 3 .i64 21) fun j _ => (preF_zero _ j).symm, .of_below (Below.alloc_new w _), Nat.le_refl _, hD.lt.1, fun j hj => (hD.own j hj).1⟩
  have HG := Lib.hid (fun n => getN_good (q := true) (d := d) hb hG n)
  have HBd := Lib.hid (fun n => getV_bd (q := true) (d := d) hb hG n)
  have HS : RowKit.Hid (∀ n, getN true b D d (n + 1) = (decBits b (getN true b D d n) 0 5).2 ∧ getV true b D d n = (decBits b (getN true b D d n) 0 5).1) := fun n => by rw [getN_succ]; unfold getV; rw [getW_alone]; exact ⟨rfl, rfl⟩
  have HBy := Lib.hid hb
  generalize getN true b D d = N at H0 HG HS ⊢
  generalize getV true b D d = V at H0 HBd HS ⊢
  clear hD hG hb
  go_enter Tryz.func158, Tryz.ntmps158
  go_wp2
  clear hmk
  generalize (w.alloc (.cells (madeCells #[.int .i64 0] 21) 3)) = w1 at H0 ⊢
  generalize hr : w.heap.size = r at H0 ⊢
  clear hr
  go_loopw [5, 6, 7, 11] (fun _ _ _ i wr => ∃ k : Nat, k ≤ 21 ∧ i = .int .i64 (k : Int) ∧ RowKit.Hid (GetSt w base g v b (N k) r (preF V k) wr)) (fun _ _ _ i _ => 21 - (intOf i).toNat)
  case atStart => exact ⟨0, by omega, rfl, H0.out⟩
  case round =>
    obtain ⟨k, hk2, rfl, H⟩ := hrel
    clear H0
    by_cases hlt : k < 21
    · obtain ⟨g1, g2⟩ := HG.out k
      have HG1 := Lib.hid g1
      obtain ⟨n0, n1⟩ := HBd.out k
      obtain ⟨s1, s2⟩ := HS.out k
      have HS1 := Lib.hid s1
      have HS2 := Lib.hid s2
      have HV : RowKit.Hid (∀ w2, GetSt w base g v b (N (k + 1)) r (preF V k) w2 → GetSt w base g v b (N (k + 1)) r (preF V (k + 1)) (w2.setCell ⟨r, k, none⟩ (.int .i64 (V k)))) := fun w2 h => (h.set hlt (V k)).ext fun j _ => preF_next V k j
      clear g1 s1 s2
      generalize V k = x at n0 n1 HS2 HV
      have u1 : IntKind.i64.wrap x = x := IntWalk.i64_in _ (by omega)
      go_wp2_with (go_at_call 124; go_loud (refine (drcBits_any base g v b (N k) 5 _ H.out.d HBy.out hbl (by omega) HG1.out (by decide)).mono ?_); rintro e2 w2 ⟨rfl, k1, k2⟩; rw [← HS2.out]; rw [← HS1.out] at k1; have HT := Lib.hid (H.out.dec k1 k2); have o1 := HT.out.i.cell (j := k) hlt; have f1 := HT.out.i.frozen k; have HT2 := Lib.hid (HV.out _ HT.out); clear k1 k2)
      go_roundw
      case rel => exact ⟨k + 1, by omega, by go_num, HT2.out⟩
      case measure => simp [intOf] <;> omega
    · obtain rfl : k = 21 := by omega
      have Z := Lib.hid (H.out.ext fun j hj => preF_end V hj)
      go_wp2
      go_ret2
      exact ⟨r, rfl, Z.out⟩
set_option maxHeartbeats 400000 in
set_option maxRecDepth 100000 in
theorem engGetDiffs_any (base g : Nat) (v : Value) (b : List Int) (D : DecS) (a2 : Option Addr) (cap2 : Nat) (ds : List Int) (w : World) (hD : DrcAt w base g v b D) (hG : GoodD D) (hb : ∀ j, 0 ≤ byteF b j ∧ byteF b j ≤ 255) (hbl : b.length ≤ 1000000) (hi : D.i ≤ 3000000)
    (hi2 : IntsAt w w.heap.size .i64 a2 21 ds) (hr2 : rightB ds = true) (hne2 : ∀ r off, a2 = some ⟨r, off, none⟩ → r ≠ g) :
    Calls Tryz.prog 159 #[.pointer (some ⟨g, 0, none⟩), .slice a2 21 cap2] w (GotPost base g v b (getN false b D (fun j => ds.getD j 0) 21) (getV false b D (fun j => ds.getD j 0)) w) := by
  have hmk : ∀ w : World, (Instr.makeSlice 72 (.int .i64 21) (.int .i64 21)).run Tryz.prog w = .ok (.slice (some ⟨w.heap.size, 0, none⟩) 21 21) (w.alloc (.cells (madeCells #[.int .i64 0] 21) 3)) :=
    fun w => make_zeros (P := Tryz.prog) Tryz.underlying72 infoE_int 21 (by decide) (by decide) w
  have H00 : RowKit.Hid (∀ w1, Below w.heap.size w w1 → GetSt w base g v b (getN false b D (fun j => ds.getD j 0) 0) w1.heap.size (preF (getV false b D (fun j => ds.getD j 0)) 0) (w1.alloc (.cells (madeCells #[.int .i64 0] 21) 3))) := fun w1 hb1 =>
    ⟨hD.below (hb1.alloc hb1.size _), IFun.ext (IFun.zeros w1 3 .i64 21) fun j _ => (preF_zero _ j).symm, .of_below (hb1.alloc hb1.size _), hb1.size, hD.lt.1, fun j hj => (hD.own j hj).1⟩
  have HG := Lib.hid (fun n => getN_good (q := false) (d := fun j => ds.getD j 0) hb hG n)
  have HBd := Lib.hid (fun n => getV_bd (q := false) (d := fun j => ds.getD j 0) hb hG n)
  have HS : RowKit.Hid (∀ n, getN false b D (fun j => ds.getD j 0) (n + 1) = decSym b (getN false b D (fun j => ds.getD j 0) n) difL ∧ getV false b D (fun j => ds.getD j 0) n = (ds.getD n 0 + decWhich (getN false b D (fun j => ds.getD j 0) n) difL) % 32) := fun n => by rw [getN_succ]; unfold getV; rw [getW_diff]; exact ⟨rfl, rfl⟩
  have HBy := Lib.hid hb
  have HL := Lib.hid difL_good
  have HI2 := Lib.hid hi2
  have HN2 := Lib.hid hne2
  have HR2 := Lib.hid (rightB_true hr2).2
  generalize getN false b D (fun j => ds.getD j 0) = N at H00 HG HS ⊢
  generalize getV false b D (fun j => ds.getD j 0) = V at H00 HBd HS ⊢
  clear hD hG hb hi2 hr2 hne2
  go_enter Tryz.func159, Tryz.ntmps159
  go_wp2_with (go_at_call 172; go_loud (refine (engDiff_any _).mono ?_); rintro e w1 ⟨m, rfl, hm, hM, hb⟩; have H01 := Lib.hid (H00.out w1 hb); have HM1 := Lib.hid (hM.below (Below.alloc_new w1 (.cells (madeCells #[.int .i64 0] 21) 3))); clear hM hb)
  clear hmk H00
  have H0 : RowKit.Hid (GetSt w base g v b (N 0) w1.heap.size (preF V 0) (w1.alloc (.cells (madeCells #[.int .i64 0] 21) 3)) ∧ ModAt (w1.alloc (.cells (madeCells #[.int .i64 0] 21) 3)) m difL true ∧ m ≠ w1.heap.size) := ⟨H01.out, HM1.out, cel_ne HM1.out.2 H01.out.i (by decide)⟩
  clear H01 HM1
  generalize (w1.alloc (.cells (madeCells #[.int .i64 0] 21) 3)) = w2 at H0 ⊢
  generalize w1.heap.size = r at H0 ⊢
  go_loopw [8, 9, 10, 15] (fun _ _ _ i wr => ∃ k : Nat, k ≤ 21 ∧ i = .int .i64 (k : Int) ∧ RowKit.Hid (GetSt w base g v b (N k) r (preF V k) wr ∧ ModAt wr m difL true ∧ m ≠ r)) (fun _ _ _ i _ => 21 - (intOf i).toNat)
  case atStart => exact ⟨0, by omega, rfl, H0.out⟩
  case round =>
    obtain ⟨k, hk2, rfl, H⟩ := hrel
    clear H0
    by_cases hlt : k < 21
    · obtain ⟨g1, g2⟩ := HG.out k
      have HG1 := Lib.hid g1
      obtain ⟨n0, n1⟩ := HBd.out k
      obtain ⟨s1, s2⟩ := HS.out k
      have HS1 := Lib.hid s1
      have HS2 := Lib.hid s2
      obtain ⟨y0, y1⟩ := HR2.out k hlt
      have HJ : RowKit.Hid (IntsAt wr w.heap.size .i64 a2 21 ds) := HI2.out.keeps H.out.1.k (Nat.le_refl _) fun r off e _ _ c => HN2.out r off e c
      obtain ⟨b2, off2, rfl, hb2l, _, hcell0⟩ := HJ.out.at_ hlt
      have hnr : b2 ≠ g := HN2.out _ _ rfl
      have hws := H.out.1.k.size
      have HV : RowKit.Hid (∀ w2, GetSt w base g v b (N (k + 1)) r (preF V k) w2 ∧ ModAt w2 m difL true ∧ m ≠ r → GetSt w base g v b (N (k + 1)) r (preF V (k + 1)) (w2.setCell ⟨r, k, none⟩ (.int .i64 (V k))) ∧ ModAt (w2.setCell ⟨r, k, none⟩ (.int .i64 (V k))) m difL true ∧ m ≠ r) := fun w2 h =>
        ⟨(h.1.set hlt (V k)).ext fun j _ => preF_next V k j, h.2.1.keeps (F := fun k => k = r) (Keeps.setCell (F := fun k => k = r) (p := ⟨r, k, none⟩) (Keeps.refl _ w2) (.inl rfl) _) h.2.2, h.2.2⟩
      obtain ⟨s, hs⟩ : ∃ s, s = decWhich (N k) difL := ⟨_, rfl⟩
      have hs32 : s < 32 := by rw [hs, ← difL_len]; exact (decWhich_is g1 difL_good).1
      rw [← hs] at s2
      have HSs := Lib.hid hs
      have HS3 := Lib.hid s2
      clear g1 s1 s2 hs HS2 hcell0
      have HCl : RowKit.Hid (∀ w2, Keeps (fun j => j = g) wr w2 → w2.cell? ⟨b2, off2 + k, none⟩ = some (.int .i64 (ds.getD k 0))) := fun w2 hk => by
        obtain ⟨b3, off3, e, _, _, h⟩ := HJ.out.at_ hlt
        injection e with e
        injection e with e1 e2
        subst e1; subst e2
        exact (World.cell?_of_block (a := ⟨b2, off2 + k, none⟩) (hk.block b2 (by omega) hnr)).trans h
      generalize ds.getD k 0 = y at y0 y1 HS3 HCl
      generalize V k = x at n0 n1 HS3 HV
      have u1 : IntKind.i64.wrap (y + s) = y + s := IntWalk.i64_in _ (by omega)
      go_wp2_with (first
        | (go_at_call 177; go_loud (refine (drcSymbol_fixed base g v b (N k) m difL _ H.out.1.d H.out.2.1 HBy.out hbl (by omega) HG1.out HL.out).mono ?_); rintro e2 w2 ⟨rfl, k1, km, k2⟩; rw [← HSs.out]; rw [← HS1.out] at k1; have HT : RowKit.Hid (GetSt w base g v b (N (k + 1)) r (preF V k) w2 ∧ ModAt w2 m difL true ∧ m ≠ r) := ⟨H.out.1.dec k1 k2, km, H.out.2.2⟩; have o1 := HT.out.1.i.cell (j := k) hlt; have f1 := HT.out.1.i.frozen k; have c1 := HCl.out w2 k2; have HT2 := Lib.hid (HV.out _ HT.out); clear k1 k2 km)
        | (go_at_call 174; go_loud (refine (engWrap_any (y + s) _).mono ?_); rintro e1 w1' ⟨rfl, rfl⟩; rw [← HS3.out]))
      go_roundw
      case rel => exact ⟨k + 1, by omega, by go_num, HT2.out⟩
      case measure => simp [intOf] <;> omega
    · obtain rfl : k = 21 := by omega
      have Z := Lib.hid (H.out.1.ext fun j hj => preF_end V hj)
      go_wp2
      go_ret2
      exact ⟨r, rfl, Z.out⟩
set_option maxRecDepth 100000 in
theorem engGet0_any (base g : Nat) (v : Value) (b : List Int) (D : DecS) (q : Bool) (a2 : Option Addr) (len2 cap2 : Nat) (ds : List Int) (w : World) (hD : DrcAt w base g v b D) (hG : GoodD D) (hb : ∀ j, 0 ≤ byteF b j ∧ byteF b j ≤ 255) (hbl : b.length ≤ 1000000) (hi : D.i ≤ 3000000)
    (hA : AheadAt w q a2 len2 ds) (hne2 : q = false → ∀ r off, a2 = some ⟨r, off, none⟩ → r ≠ g) :
    Calls Tryz.prog 126 #[.pointer (some ⟨g, 0, none⟩), .slice a2 len2 cap2] w (GotPost base g v b (getN q b D (fun j => ds.getD j 0) 21) (getV q b D (fun j => ds.getD j 0)) w) := by
  have HD := Lib.hid hD
  have HG := Lib.hid hG
  have HB := Lib.hid hb
  have HI2 := Lib.hid hA.1
  rcases hA with ⟨_, hl2, ⟨rfl, hl0⟩ | ⟨rfl, hr2, rfl⟩⟩
  · have q0 : ((len2 : Int) == 0) = true := by simp; omega
    clear hD hG hb hne2 hl0
    go_enter Tryz.func126, Tryz.ntmps126
    go_wp2_with (go_at_call 158; go_loud (refine (engGetAlone_any base g v b D (fun j => ds.getD j 0) _ HD.out HG.out HB.out hbl hi).mono ?_); rintro e1 w1 ⟨r, rfl, hp⟩; have HP := Lib.hid hp; clear hp)
    go_ret2
    exact ⟨r, rfl, HP.out⟩
  · have HR2 := Lib.hid hr2
    have HN2 := Lib.hid (hne2 rfl)
    clear hD hG hb hne2 hr2
    go_enter Tryz.func126, Tryz.ntmps126
    go_wp2_with (go_at_call 159; go_loud (refine (engGetDiffs_any base g v b D a2 cap2 ds _ HD.out HG.out HB.out hbl hi HI2.out HR2.out HN2.out).mono ?_); rintro e1 w1 ⟨r, rfl, hp⟩; have HP := Lib.hid hp; clear hp)
    go_ret2
    exact ⟨r, rfl, HP.out⟩
theorem GetSt.ints {w wr : World} {base g r : Nat} {v : Value} {b : List Int} {D : DecS} {f : Nat → Int} (h : GetSt w base g v b D r f wr) : IntsAt wr wr.heap.size .i64 (some ⟨r, 0, none⟩) 21 (tabF 21 f) :=
  ⟨tabF_len _ _, .inr ⟨r, 0, rfl, h.i.lt, by decide, fun j hj => by rw [Nat.zero_add, h.i.cell hj, tabF_getD _ hj]⟩⟩
/-- What is got: ceilings, or that none are. -/
def GetPost (base g : Nat) (v : Value) (b : List Int) (D : DecS) (V : Nat → Int) (w : World) (e : Ending) (w' : World) : Prop :=
  ∃ r, GetSt w base g v b D r V w' ∧ e = .returned (if rightB (tabF 21 V) then .tuple #[.slice (some ⟨r, 0, none⟩) 21 21, .int .i64 0] else .tuple #[.slice none 0 0, .int .i64 3])
set_option maxRecDepth 100000 in
theorem engGet_any (base g : Nat) (v : Value) (b : List Int) (D : DecS) (q : Bool) (a2 : Option Addr) (len2 cap2 : Nat) (ds : List Int) (w : World) (hD : DrcAt w base g v b D) (hG : GoodD D) (hb : ∀ j, 0 ≤ byteF b j ∧ byteF b j ≤ 255) (hbl : b.length ≤ 1000000) (hi : D.i ≤ 3000000)
    (hA : AheadAt w q a2 len2 ds) (hne2 : q = false → ∀ r off, a2 = some ⟨r, off, none⟩ → r ≠ g) :
    Calls Tryz.prog 85 #[.pointer (some ⟨g, 0, none⟩), .slice a2 len2 cap2] w (GetPost base g v b (getN q b D (fun j => ds.getD j 0) 21) (getV q b D (fun j => ds.getD j 0)) w) := by
  have HM := Lib.hid hA.may
  have HA := Lib.hid hA.1
  have hl2 := hA.2.1
  have HQ := Lib.hid (engGet0_any base g v b D q a2 len2 cap2 ds w hD hG hb hbl hi hA hne2)
  generalize getV q b D (fun j => ds.getD j 0) = V at HQ ⊢
  generalize getN q b D (fun j => ds.getD j 0) 21 = D' at HQ ⊢
  clear hD hG hb hA hne2
  cases hR : rightB (tabF 21 V) with
  | true =>
    have HR := Lib.hid hR
    clear hR
    go_enter Tryz.func85, Tryz.ntmps85
    go_wp2_with (first
      | (go_at_call 125; go_loud (refine (engAhead_any _ _ _ _ _ HA.out hl2).mono ?_); rintro e1 w1 ⟨rfl, rfl⟩; rw [HM.out])
      | (go_at_call 126; go_loud (refine HQ.out.mono ?_); rintro e1 w1 ⟨r, rfl, hp⟩; have HP := Lib.hid hp; clear hp)
      | (go_at_call 107; go_loud (refine (engRight_any _ _ _ _ _ HP.out.ints (by decide)).mono ?_); rintro e1 w1 ⟨rfl, rfl⟩; rw [HR.out]))
    go_ret2
    exact ⟨r, HP.out, by rw [HR.out]; rfl⟩
  | false =>
    have HR := Lib.hid hR
    clear hR
    go_enter Tryz.func85, Tryz.ntmps85
    go_wp2_with (first
      | (go_at_call 125; go_loud (refine (engAhead_any _ _ _ _ _ HA.out hl2).mono ?_); rintro e1 w1 ⟨rfl, rfl⟩; rw [HM.out])
      | (go_at_call 126; go_loud (refine HQ.out.mono ?_); rintro e1 w1 ⟨r, rfl, hp⟩; have HP := Lib.hid hp; clear hp)
      | (go_at_call 107; go_loud (refine (engRight_any _ _ _ _ _ HP.out.ints (by decide)).mono ?_); rintro e1 w1 ⟨rfl, rfl⟩; rw [HR.out]))
    go_ret2
    exact ⟨r, HP.out, by rw [HR.out]; rfl⟩
end Go.Proofs.YtobhoecmmpijgaaGreat
