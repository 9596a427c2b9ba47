/- Plain facts, and what functions give, for the proofs of this seat: several texts in one, each with its own first remark. -/
import Derived.Test.YtkhhhejmbgloeaaGreatGF
import Derived.Test.YtkhhhejmbgloeaaGreatGa

/- What the document's answers for layer 9 give: samples, and what is left. -/
namespace Go.Proofs.YtkhhhejmbgloeaaGreat
open Go.RowKit
set_option linter.unusedVariables false

theorem info_i649 : (Tryz.prog.info? 2).map (fun i => (i.zero, i.size, i.bytes)) = some (some (.int .i64 0), 1, 8) := by kernel_rfl
def Ref9Post (b : Bool) (l left : Nat → Int) (w : World) (e : Ending) (w' : World) : Prop :=
  ∃ v g, e = .returned (.tuple #[v, .slice (some ⟨g, 512, none⟩) 128 128]) ∧ w'.ownsRow w.heap.size 2 1 v 512 ((tabF 512 (samplesF b l left)).map (Value.int .i64)) ∧ IFun w' g 2 .i64 640 (bothF b l left) ∧ w.heap.size ≤ g ∧ Below w.heap.size w w'
set_option maxHeartbeats 400000 in
set_option maxRecDepth 100000 in
theorem ref9Samples_any (c cap cap4 : Nat) (a a4 : Option Addr) (l left : Nat → Int) (b : Bool) (w : World) (hC : IFun w c 2 .i64 1025 cosN) (ha : FnAt w w.heap.size .i64 a 512 l) (h4 : FnAt w w.heap.size .i64 a4 128 left) (hb : ∀ j, j < 512 → -33554432 ≤ l j ∧ l j ≤ 33554431) (hl : ∀ j, j < 128 → (left j).natAbs ≤ 1073741000) :
    Calls Tryz.prog 99 #[.slice (some ⟨c, 0, none⟩) 1025 1025, .slice a 512 cap, .bool b, .slice a4 128 cap4] w (Ref9Post b l left w) := by
  obtain ⟨x, off, rfl, hxl, hcl⟩ := id h4
  have H4 := Lib.hid hcl
  have HK := Lib.hid (ref9Sound_any c cap a l b w hC ha hb)
  have HBa : RowKit.Hid (∀ j, j < 512 → (l j).natAbs ≤ 33554432) := fun j hj => by have := hb j hj; omega
  have HL := Lib.hid hl
  clear hC ha h4 hcl hb hl
  go_enter Tryz.func99, Tryz.ntmps99
  go_wp2_with (go_at_call 128; go_loud (refine (HK.out).mono ?_); rintro e w3 ⟨g3, rfl, i3, s3, z3⟩; have HI3 : RowKit.Hid (IFun w3 g3 2 .i64 640 (addF (soundF b l) left 0 0)) := IFun.ext i3 fun j _ => (addF_start _ _ 0 j).symm; have HS3 : RowKit.Hid (w.heap.size ≤ g3) := s3; have HB3 := Lib.hid z3; clear i3 s3 z3 HK)
  go_loopw [11] (fun i wx => ∃ k : Nat, k ≤ 128 ∧ i = .int .i64 (k : Int) ∧ RowKit.Hid (IFun wx g3 2 .i64 640 (addF (soundF b l) left 0 k) ∧ Below w.heap.size w wx)) (fun i _ => 128 - (intOf i).toNat)
  case atStart => exact ⟨0, by omega, rfl, HI3.out, HB3.out⟩
  case round =>
    obtain ⟨k, hk, rfl, HJ⟩ := hrel
    clear HI3 HB3
    by_cases hlk : k < 128
    · have k1 := (HJ.out.2.cell (p := ⟨x, off + k, none⟩) hxl).trans (H4.out k hlk)
      have o1 := HJ.out.1.cell (j := 0 + k) (by omega)
      rw [addF_here, Nat.zero_add] at o1
      have f1 := HJ.out.1.frozen k
      have hx := soundF_edge (l := l) HBa.out b (i := k) (.inl hlk)
      have hy := HL.out k hlk
      have HS : RowKit.Hid (∀ i, IFun ((wr.setCell ⟨g3, k, none⟩ (.int .i64 (soundF b l k + left k))).drewN i) g3 2 .i64 640 (addF (soundF b l) left 0 (k + 1)) ∧ Below w.heap.size w ((wr.setCell ⟨g3, k, none⟩ (.int .i64 (soundF b l k + left k))).drewN i)) := fun i =>
        ⟨(IFun.ext (HJ.out.1.set (j := k) (by omega) (soundF b l k + left k)) fun j _ => by have := addF_next (soundF b l) left 0 k j; rw [Nat.zero_add] at this; exact this).drewN i, Below.drewN' (HJ.out.2.setCell HS3.out _) i⟩
      generalize soundF b l k = x1 at o1 hx HS
      generalize left k = y1 at k1 hy HS
      have l2 : (k : Int) < 128 := by omega
      have x2 : -2147483647 ≤ x1 := by omega
      have x3 : x1 ≤ 2147483647 := by omega
      have y2 : -2147483647 ≤ y1 := by omega
      have y3 : y1 ≤ 2147483647 := by omega
      have g3' : IntKind.i64.wrap (x1 + y1) = x1 + y1 := IntWalk.i64_in _ (by omega)
      clear HJ hx hy
      go_wp2
      go_region
      all_goals
        go_wp2
        go_roundw
        case rel => exact ⟨k + 1, by omega, by go_num, HS.out 1⟩
        case measure => simp [intOf] <;> omega
    · have l2 : ¬ (k : Int) < 128 := by omega
      have HX : RowKit.Hid (IFun wr g3 2 .i64 640 (bothF b l left)) := IFun.ext HJ.out.1 fun i _ => by rw [show k = 128 by omega]; exact addF_both b l left i
      have HB3 := Lib.hid HJ.out.2
      have hgl := HJ.out.1.lt
      clear HJ
      obtain ⟨wm, rfl⟩ : ∃ wm, wm = wr := ⟨_, rfl⟩
      have H0 : RowKit.Hid (wm.ownsRow wm.heap.size 2 1 (.slice none 0 0) 0 ((tabF 0 (samplesF b l left)).map (Value.int .i64)) ∧ Below wm.heap.size wm wm) := ⟨World.ownsRow_nil wm wm.heap.size 2 1, Below.refl _ _⟩
      go_wp2
      go_loopw [12, 13] (fun v i wx => ∃ j : Nat, j ≤ 512 ∧ i = .int .i64 (j : Int) ∧ RowKit.Hid (wx.ownsRow wm.heap.size 2 1 v j ((tabF j (samplesF b l left)).map (Value.int .i64)) ∧ Below wm.heap.size wm wx)) (fun _ i _ => 512 - (intOf i).toNat)
      case atStart => exact ⟨0, by omega, rfl, H0.out⟩
      case round =>
        obtain ⟨j, hj, rfl, HH⟩ := hrel
        clear H0
        have hsz := HH.out.2.size
        by_cases hlj : j < 512
        · have k1 := (HH.out.2.cell (p := ⟨g3, j, none⟩) hgl).trans (HX.out.cell (j := j) (by omega))
          have hx := bothF_abs (left := left) HBa.out HL.out b (i := j) (by omega)
          have HE : RowKit.Hid (tabF j (samplesF b l left) ++ [samplesF b l left j] = tabF (j + 1) (samplesF b l left)) := tab_snoc _ _ _ rfl
          have HR : RowKit.Hid (satP (rndP (bothF b l left j) 4) 16 = samplesF b l left j) := rfl
          generalize samplesF b l left j = y at HE HR
          generalize bothF b l left j = X at k1 hx HR
          have hr := rnd4 X
          obtain ⟨r, hrr⟩ : ∃ r, r = rndP X 4 := ⟨_, rfl⟩
          have HRR := Lib.hid hrr.symm
          rw [← hrr] at HR hr
          clear hrr
          have hy := satP_bd r 16
          rw [HR.out] at hy
          obtain ⟨y0, y1⟩ := hy
          have x0 : -2147483647 ≤ X := by omega
          have x1 : X ≤ 2147483647 := by omega
          have r0 : -9223372036854775808 ≤ r := by omega
          have r1 : r ≤ 9223372036854775807 := by omega
          clear hx hr
          have l3 : (j : Int) < 512 := by omega
          have HA := Lib.hid (World.ownsRow.alloc HH.out.1 (.cells #[.int .i64 y] 2))
          have HAB := Lib.hid (HH.out.2.alloc hsz (.cells #[.int .i64 y] 2))
          have hsrc := Lib.hid (lit_ints wr 2 .i64 [y] #[.int .i64 y] (0, 0) rfl (by simp))
          go_wp2_with (first | (go_at_call 87; refine (refRound_any X 4 _ (by omega) (by omega)).mono ?_; rintro e w' ⟨rfl, rfl⟩; rw [HRR.out]) | (go_at_call 90; refine (refSat_any r 16 _ r0 r1).mono ?_; rintro e w' ⟨rfl, rfl⟩; rw [HR.out]) | (at_builtin; go_loud (refine append_ints rfl _ _ 43 rfl wm.heap.size 2 .i64 8 Tryz.underlying43 info_i649 u12 j (tabF j (samplesF b l left)) rfl HA.out (some ⟨wr.heap.size, 0, none⟩) 1 1 _ [y] rfl hsrc.out (by simp) (by unfold maxLen; omega) (by omega) (by simp; omega) ?_); intro v1 w5 hown hgrow _; have HO : RowKit.Hid (w5.ownsRow wm.heap.size 2 1 v1 (j + 1) ((tabF (j + 1) (samplesF b l left)).map (Value.int .i64))) := (by rw [← HE.out]; exact hown); have HB1 : RowKit.Hid (Below wm.heap.size wm w5) := HAB.out.grown hgrow (by simp; omega) (own_base HA.out); clear hown hgrow))
          go_roundw
          case rel => exact ⟨j + 1, by omega, by go_num, HO.out, HB1.out⟩
          case measure => simp [intOf] <;> omega
        · obtain rfl : j = 512 := by omega
          have HZ : RowKit.Hid (∀ i, (wr.drewN i).ownsRow w.heap.size 2 1 u12 512 ((tabF 512 (samplesF b l left)).map (Value.int .i64)) ∧ IFun (wr.drewN i) g3 2 .i64 640 (bothF b l left) ∧ Below w.heap.size w (wr.drewN i)) := fun i => by
            refine ⟨?_, ?_, Below.drewN' (chain HB3.out HH.out.2) i⟩
            · refine own_drewN ⟨HH.out.1.1, ?_⟩ i
              rcases HH.out.1.2 with h0 | ⟨g, cp, cur, h1, h2, h3, h5⟩
              · exact .inl h0
              · exact .inr ⟨g, cp, cur, h1, Nat.le_trans HB3.out.size h2, h3, h5⟩
            · exact IFun.drewN (HX.out.below HH.out.2 hgl) i
          clear HH
          go_wp2
          go_quiet (fail)
          go_wp2
          go_ret2
          exact ⟨_, g3, rfl, (HZ.out _).1, (HZ.out _).2.1, HS3.out, (HZ.out _).2.2⟩
end Go.Proofs.YtkhhhejmbgloeaaGreat

/- Layer 9's statements: a frame of a list; streams in numbers; that it lives. -/
namespace Go.Proofs.YtkhhhejmbgloeaaGreat
open Go.RowKit
set_option linter.unusedVariables false

/-! ### Streams -/
/-- Number i of a list, again and again, from one on. -/
def frmF (zs : List Int) (len fr i : Nat) : Int := if len = 0 then 0 else zs.getD ((fr + i) % len) 0
/-- The same, behind 128 noughts. -/
def strF (zs : List Int) (len i : Nat) : Int := if i < 128 then 0 else frmF zs len 0 (i - 128)
section
variable {zs : List Int} {len : Nat}
theorem frmF_bd (hz : ∀ j, -32768 ≤ zs.getD j 0 ∧ zs.getD j 0 ≤ 32767) (fr i : Nat) : -32768 ≤ frmF zs len fr i ∧ frmF zs len fr i ≤ 32767 := by
  unfold frmF
  split
  · omega
  · exact hz _
theorem strF_bd (hz : ∀ j, -32768 ≤ zs.getD j 0 ∧ zs.getD j 0 ≤ 32767) (i : Nat) : -32768 ≤ strF zs len i ∧ strF zs len i ≤ 32767 := by
  unfold strF
  split
  · omega
  · exact frmF_bd hz _ _
theorem frm_str (t i : Nat) : frmF zs len (512 * t) i = strF zs len (512 * t + 128 + i) := by
  unfold strF
  rw [if_neg (show ¬ 512 * t + 128 + i < 128 by omega)]
  unfold frmF
  rw [show 0 + (512 * t + 128 + i - 128) = 512 * t + i by omega]
theorem all_str (t : Nat) : allF (fun q => strF zs len (512 * t + q)) (frmF zs len (512 * t)) = fun i => 16 * strF zs len (512 * t + i) := by
  funext i
  unfold allF
  rw [Int.mul_comm]
  split
  · rfl
  · rw [frm_str, show 512 * t + 128 + (i - 128) = 512 * t + i by omega]
theorem str_next (t j : Nat) : frmF zs len (512 * t) (384 + j) = strF zs len (512 * (t + 1) + j) := by
  rw [frm_str, show 512 * t + 128 + (384 + j) = 512 * (t + 1) + j by omega]
theorem str_first {q : Nat} (h : q < 128) : strF zs len (512 * 0 + q) = 0 := by
  unfold strF
  rw [if_pos (by omega)]
end

/-! ### A frame of a list -/
/-! ### Objects beside each other -/
theorem OvAt.keeps {t t' : TypeId} {k : IntKind} {w w' : World} {s b c p q : Nat} {f : Nat → Int} {cs : Array Value} (h : OvAt t k w s c p q f) (hb : Cel w b t' cs) (hne : s ≠ b) (h1 : t' ≠ 170) (h2 : t' ≠ 168) (hk : Keeps (· = b) w w') : OvAt t k w' s c p q f :=
  ⟨h.1.keep (hk.block _ h.1.lt hne), h.2.keeps hb h1 h2 hk⟩
theorem below_keep1 {a w w' : World} {b : Nat} (h : Below a.heap.size a w) (hk : Keeps (· = b) w w') (hb : a.heap.size ≤ b) : Below a.heap.size a w' :=
  h.trans (hk.below h.size fun k e => by subst e; exact hb)

/-! ### It lives -/
def toneL : List Int := [9000, 9000, -9000, -9000]
theorem tone_bd (j : Nat) : -32768 ≤ toneL.getD j 0 ∧ toneL.getD j 0 ≤ 32767 := by
  match j with
  | 0 => decide
  | 1 => decide
  | 2 => decide
  | 3 => decide
  | j + 4 => simp [toneL]
theorem lives09_num : samplesF false (linesF false (allF (fun _ => 0) (frmF toneL 4 0))) (fun _ => 0) 300 ≠ 0 := by
  have h1 : allF (fun _ => 0) (frmF toneL 4 0) = fun i => 16 * strF toneL 4 (512 * 0 + i) := by
    rw [← all_str]
    funext i
    unfold allF
    congr 1
    split
    · exact (str_first (by assumption)).symm
    · rfl
  have h2 := frame_near (Z := fun i => strF toneL 4 (512 * 0 + i)) (left := fun _ => 0) (fun i => strF_bd tone_bd _) false (fun q hq => tail_zero (Z := fun i => strF toneL 4 (512 * 0 + i)) (fun i hi => str_first hi) hq) (i := 300) (by decide)
  rw [← h1] at h2
  have h3 : strF toneL 4 (512 * 0 + 300) = 9000 := by decide
  rw [h3] at h2
  omega
end Go.Proofs.YtkhhhejmbgloeaaGreat

/- What is heard of a frame: the walk of package coder. -/
namespace Go.Proofs.YtkhhhejmbgloeaaGreat
open Go Go.RowKit
set_option linter.unusedVariables false
set_option linter.unusedSimpArgs false

theorem outF_bdC {c s n : Nat → Int} (seed : Int) (hc : ∀ b, b < 21 → c b ≤ 26) (hs : ∀ b, b < 21 → 0 ≤ s b) (hn : ∀ i, i < 512 → toldT c s i = true → -(P2 (c (ofN i) - s (ofN i)).toNat) ≤ n i ∧ n i ≤ P2 (c (ofN i) - s (ofN i)).toNat) {i : Nat} (hi : i < 512) : -2147483648 ≤ outF c s n seed i ∧ outF c s n seed i ≤ 2147483647 := by
  have hb := of_lt hi
  unfold outF
  split
  · rename_i ht
    have h1 := hn i hi ht
    unfold toldT at ht
    have h2 := scaled_bd (q := n i) (hs _ hb) (of_decide_eq_true ht) (hc _ hb) h1.1 h1.2
    omega
  · have := noiseP_bd (n := c (ofN i)) seed i
    omega
theorem outL_bdC {c s x : Nat → Int} (seed : Int) (hc : ∀ b, b < 21 → c b ≤ 26) (hs : ∀ b, b < 21 → 0 ≤ s b) {i : Nat} (hi : i < 512) : -2147483648 ≤ outF c s (lineQ x c s) seed i ∧ outF c s (lineQ x c s) seed i ≤ 2147483647 := by
  refine outF_bdC seed hc hs (fun i hi ht => ?_) hi
  unfold lineQ
  rw [if_pos hi]
  have h2 := numQ_bd (x i) (s (ofN i)) (c (ofN i))
  omega
theorem Frm.Ok.out {F : Frm} (h : F.Ok) (seed : Int) {i : Nat} (hi : i < 512) : -2147483648 ≤ F.out seed i ∧ F.out seed i ≤ 2147483647 :=
  outL_bdC seed (fun b _ => (h.l.bd b).2) (fun b _ => ((h.st F.lo).bd b).1) hi
/-- An encoder's cells. -/
def codC (Q B : Int) (a s : Nat) (P : Int) (cv hv : Value) (R : Int) : Array Value := #[.int .i64 Q, .int .i64 B, .pointer (some ⟨a, 0, none⟩), .pointer (some ⟨s, 0, none⟩), .int .i64 P, cv, hv, .int .i64 R]
theorem codC_at {w : World} {g a s : Nat} {Q B P R : Int} {cv hv : Value} (h : Cel w g 57 (codC Q B a s P cv hv R)) :
    w.cell? ⟨g, 0, none⟩ = some (.int .i64 Q) ∧ w.cell? ⟨g, 1, none⟩ = some (.int .i64 B) ∧ w.cell? ⟨g, 2, none⟩ = some (.pointer (some ⟨a, 0, none⟩)) ∧ w.cell? ⟨g, 3, none⟩ = some (.pointer (some ⟨s, 0, none⟩)) ∧ w.cell? ⟨g, 4, none⟩ = some (.int .i64 P) ∧ w.cell? ⟨g, 5, none⟩ = some cv ∧ w.cell? ⟨g, 6, none⟩ = some hv ∧ w.cell? ⟨g, 7, none⟩ = some (.int .i64 R) :=
  ⟨h.cell 0, h.cell 1, h.cell 2, h.cell 3, h.cell 4, h.cell 5, h.cell 6, h.cell 7⟩
def HearPost (F : Frm) (n : Int) (g a s cs ps qs : Nat) (Q B P : Int) (cv : Value) (left : Nat → Int) (w : World) (e : Ending) (w' : World) : Prop :=
  ∃ hd, e = .returned (.int .i64 0) ∧ Cel w' g 57 (codC Q B a s P cv (.slice (some ⟨hd, 0, none⟩) 512 512) F.reach) ∧ IFun w' hd 48 .i16 512 (samplesF F.br (F.held n) left) ∧ OvAt 99 .i32 w' s cs ps qs (leftF F.br (F.held n)) ∧ w.heap.size ≤ hd ∧ Keeps (fun j => j = g ∨ j = s) w w'
set_option maxRecDepth 100000 in
theorem cHear_any (F : Frm) (lb c so : Nat) (o : Option Nat) (g a s cs ps qs : Nat) (Q B P R n : Int) (cv hv : Value) (left : Nat → Int) (w : World) (h : FrAt F w lb c o) (hs : CutAt w so F.steps) (hE : Cel w g 57 (codC Q B a s P cv hv R))
    (hS : OvAt 99 .i32 w s cs ps qs left) (hl : ∀ j, j < 128 → (left j).natAbs ≤ 1073741000) (n0 : 0 ≤ n) (n1 : n ≤ 4294967295) :
    Calls Tryz.prog 24 #[.pointer (some ⟨g, 0, none⟩), .agg #[.bool F.br, .int .i64 F.Q, .slice (some ⟨lb, 0, none⟩) 512 512, .slice (some ⟨c, 0, none⟩) 21 21, .slice (ahA o) (ahN o) (ahN o)], .slice (some ⟨so, 0, none⟩) 21 21, .int .u32 n] w (HearPost F n g a s cs ps qs Q B P cv left w) := by
  have HF := Lib.hid h
  have HSo := Lib.hid hs
  have HE := Lib.hid hE
  have HS := Lib.hid hS
  have HL := Lib.hid hl
  have hgs := Lib.hid (hE.ne hS.1 (by decide))
  clear h hs hE hS hl
  go_enter Tryz.func24, Tryz.ntmps24
  have HB0 := Lib.hid (Below.alloc_new w (.cells #[.bool F.br, .int .i64 F.Q, .slice (some ⟨lb, 0, none⟩) 512 512, .slice (some ⟨c, 0, none⟩) 21 21, .slice (ahA o) (ahN o) (ahN o)] 63))
  have HC0 : RowKit.Hid (Cel (w.alloc (.cells #[.bool F.br, .int .i64 F.Q, .slice (some ⟨lb, 0, none⟩) 512 512, .slice (some ⟨c, 0, none⟩) 21 21, .slice (ahA o) (ahN o) (ahN o)] 63)) w.heap.size 63 (frC F lb c o)) := Cel.new w _ _
  go_wp2_with (go_at_call 45; go_loud (refine (fHeard_any lb c so 21 21 F.x F.l F.Q F.lo n _ (HF.out.x.below HB0.out HF.out.x.lt) HF.out.ok.x (HF.out.l.below HB0.out HF.out.l.lt) HF.out.ok.l (HSo.out.below HB0.out HSo.out.lt) n0 n1).mono ?_); rintro e w1 ⟨r1, rfl, i1, s1, b1⟩; have HI1 : RowKit.Hid (IFun w1 r1 21 .i32 512 (F.out n)) := i1; have HC1 := Lib.hid (HC0.out.below b1); have HB1 := Lib.hid (chain HB0.out b1); clear i1 s1 b1; obtain ⟨d0, d1, d2, d3, d4⟩ := frC_at HC1.out; obtain ⟨e0, e1, e2, e3, e4, e5, e6, e7⟩ := codC_at (HE.out.below HB1.out))
  go_region_held3 (fun w' => w'.cell? ⟨w.heap.size, 0, none⟩ = some (.bool F.br) ∧ w'.cell? ⟨g, 3, none⟩ = some (.pointer (some ⟨s, 0, none⟩))) (go_keep) (first
    | (go_at_call 15; go_loud (refine (cHeld_any r1 512 512 (F.out n) w1.drew HI1.out (fun j hj => HF.out.ok.out n hj) (by decide)).mono ?_); rintro e w2 ⟨r2, rfl, i2, s2, b2⟩; have HI2 : RowKit.Hid (IFun w2 r2 21 .i32 512 (F.held n)) := i2; have HC2 : RowKit.Hid (Cel w2 w.heap.size 63 (frC F lb c o)) := Cel.below (w := w1.drew) HC1.out b2; have HB2 : RowKit.Hid (Below w.heap.size w w2) := chain (Below.drewN' HB1.out 1) b2; clear i2 s2 b2; obtain ⟨f0, f1, f2, f3, f4⟩ := frC_at HC2.out; obtain ⟨h0, h1, h2, h3, h4, h5, h6, h7⟩ := codC_at (HE.out.below HB2.out))
    | (go_at_call 46; go_loud (refine (synSamples_any s cs ps qs r2 left (F.held n) F.br w2 (HS.out.below HB2.out) HI2.out (fun j _ => F.held_bd n j) HL.out).mono ?_); rintro e w3 ⟨r3, rfl, i3, s3, o3, k3⟩; have HI3 : RowKit.Hid (IFun w3 r3 48 .i16 512 (samplesF F.br (F.held n) left)) := i3; have HS3 : RowKit.Hid (w.heap.size ≤ r3) := Nat.le_trans HB2.out.size s3; have HO3 : RowKit.Hid (OvAt 99 .i32 w3 s cs ps qs (leftF F.br (F.held n))) := o3; have HK3 : RowKit.Hid (Keeps (· = s) w w3) := (Keeps.of_below HB2.out).trans k3; have HC3 : RowKit.Hid (Cel w3 w.heap.size 63 (frC F lb c o)) := HC2.out.keeps k3 (fun e => by have := HS.out.1.lt; omega); have HE3 : RowKit.Hid (Cel w3 g 57 (codC Q B a s P cv hv R)) := HE.out.keeps HK3.out hgs.out; have HX3 : RowKit.Hid (CutAt w3 c F.l ∧ CutAt w3 so F.steps) := (by obtain ⟨x1, y1⟩ := HF.out.l.cel; obtain ⟨x2, y2⟩ := HSo.out.cel; exact ⟨Cel.keeps HF.out.l HK3.out (y1.ne HS.out.1 (by decide)), Cel.keeps HSo.out HK3.out (y2.ne HS.out.1 (by decide))⟩); clear i3 s3 o3 k3; obtain ⟨f0, f1, f2, f3, f4⟩ := frC_at HC3.out; obtain ⟨h0, h1, h2, h3, h4, h5, h6, h7⟩ := codC_at HE3.out)
    | fail)
  go_wp2_with (go_at_call 47; go_loud (refine (fReach_any c so 21 21 F.l F.steps _ HX3.out.1 HF.out.ok.l HX3.out.2 (HF.out.ok.st F.lo)).mono ?_); rintro e w4 ⟨rfl, b4⟩; have HB4 := Lib.hid b4; have HE4 := Lib.hid (HE3.out.below b4); clear b4; have z6 := HE4.out.frozen 6; have z7 := HE4.out.frozen 7; obtain ⟨_, _, _, _, _, _, y6, y7⟩ := codC_at HE4.out)
  go_ret
  have E : Cel ((w4.setCell ⟨g, 6, none⟩ (.slice (some ⟨r3, 0, none⟩) 512 512)).setCell ⟨g, 7, none⟩ (.int .i64 F.reach)) g 57 (codC Q B a s P cv (.slice (some ⟨r3, 0, none⟩) 512 512) F.reach) := (HE4.out.set_ 6 _).set_ 7 _
  have K : Keeps (· = g) w4 ((w4.setCell ⟨g, 6, none⟩ (.slice (some ⟨r3, 0, none⟩) 512 512)).setCell ⟨g, 7, none⟩ (.int .i64 F.reach)) := (Keeps.set1 _).trans (Keeps.set1 _)
  refine ⟨r3, rfl, E, ?_, ?_, HS3.out, ?_⟩
  · exact Cel.keeps (HI3.out.below HB4.out HI3.out.lt) K (by obtain ⟨x1, y1⟩ := (HI3.out.below HB4.out HI3.out.lt).cel; exact y1.ne HE4.out (by decide))
  · exact (HO3.out.below HB4.out).keeps HE4.out (fun e => hgs.out e.symm) (by decide) (by decide) K
  · exact ((HK3.out.mono fun j hj => .inr hj).trans (Keeps.of_below HB4.out)).trans (K.mono fun j hj => .inl hj)
end Go.Proofs.YtkhhhejmbgloeaaGreat

/- What a payload is made of: the walk of package coder. -/
namespace Go.Proofs.YtkhhhejmbgloeaaGreat
open Go Go.RowKit
set_option linter.unusedVariables false
set_option linter.unusedSimpArgs false

/-- A frame, of samples. -/
noncomputable def mkFrm (r fs b : Bool) (Q : Int) (B : Nat) (al f ah : Nat → Int) : Frm := ⟨r || fs, b, Q, B, linesF b (allF al f), if r || fs then fun _ => 0 else ah⟩
theorem mkFrm_ok {r fs b : Bool} {Q : Int} {B : Nat} {al f ah : Nat → Int} (hq : 1 ≤ Q ∧ Q ≤ 10) (hB : 32 ≤ B ∧ B ≤ 600) : (mkFrm r fs b Q B al f ah).Ok := ⟨hq, hB, fun i => linesF_bd _ _ i⟩
theorem AhAt.turn {w : World} {fs : Bool} {o : Option Nat} {ah : Nat → Int} (h : AhAt w fs o ah) (r : Bool) : AhAt w (r || fs) (if r then none else o) (if r || fs then fun _ => 0 else ah) := by
  cases r with
  | true => exact .inl ⟨rfl, rfl, rfl⟩
  | false =>
    rcases h with ⟨rfl, rfl, rfl⟩ | ⟨rfl, h2, r, rfl, h4⟩
    · exact .inl ⟨rfl, rfl, rfl⟩
    · exact .inr ⟨rfl, h2, r, rfl, h4⟩
def MadePost (r fs b : Bool) (Q : Int) (B : Nat) (a ca pa qa : Nat) (al f ah : Nat → Int) (w : World) (e : Ending) (w' : World) : Prop :=
  ∃ lb c o, e = .returned (.tuple #[.agg #[.bool b, .int .i64 Q, .slice (some ⟨lb, 0, none⟩) 512 512, .slice (some ⟨c, 0, none⟩) 21 21, .slice (ahA o) (ahN o) (ahN o)], .int .i64 0]) ∧ FrAt (mkFrm r fs b Q B al f ah) w' lb c o ∧ OvAt 96 .i16 w' a ca pa qa (fun j => f (384 + j)) ∧ Keeps (· = a) w w'
theorem infoC_frame : (Tryz.prog.info? 63).map (·.size) = some 5 := by kernel_rfl
theorem made_end {r fs b : Bool} {Q : Int} {B a ca pa qa r1 r2 : Nat} {o : Option Nat} {al f ah : Nat → Int} {w w2 W : World} {zc : Array Value} {v : Value} (hA : OvAt 96 .i16 w a ca pa qa al) (hh : AhAt w fs o ah)
    (hx : IFun w2 r1 21 .i32 512 (linesF b (allF al f))) (hl : CutAt w2 r2 (mkFrm r fs b Q B al f ah).l) (ho : OvAt 96 .i16 w2 a ca pa qa (fun j => f (384 + j))) (hk : Keeps (· = a) w w2) (hc : Cel w2 w.heap.size 63 zc)
    (hok : (mkFrm r fs b Q B al f ah).Ok) (hv : v = .tuple #[.agg #[.bool b, .int .i64 Q, .slice (some ⟨r1, 0, none⟩) 512 512, .slice (some ⟨r2, 0, none⟩) 21 21, .slice (ahA (if r then none else o)) (ahN (if r then none else o)) (ahN (if r then none else o))], .int .i64 0])
    (K : Keeps (· = w.heap.size) w2 W) : MadePost r fs b Q B a ca pa qa al f ah w (.returned v) W := by
  have KK : Keeps (· = a) w W := hk.then_ K fun j hj => .inr (by omega)
  refine ⟨r1, r2, if r then none else o, by rw [hv], ⟨hok, ?_, ?_, ?_⟩, ?_, KK⟩
  · obtain ⟨cs, y⟩ := hx.cel
    exact Cel.keeps hx K (y.ne hc (by decide))
  · obtain ⟨cs, y⟩ := hl.cel
    exact Cel.keeps hl K (y.ne hc (by decide))
  · refine (hh.turn r).keeps KK fun q hq => ?_
    obtain ⟨cs, y⟩ := IFun.cel hq
    exact y.ne hA.1 (by decide)
  · exact ho.keeps hc (fun e => by have := hA.1.lt; omega) (by decide) (by decide) K
set_option maxHeartbeats 2000000 in
set_option maxRecDepth 100000 in
theorem cFrame_any (r fs b : Bool) (Q : Int) (B : Nat) (g a s x ca pa qa : Nat) (P R BB : Int) (o : Option Nat) (hv : Value) (al f ah : Nat → Int) (w : World) (hq : 1 ≤ Q ∧ Q ≤ 10) (hB : 32 ≤ B ∧ B ≤ 600) (hE : Cel w g 57 (codC Q BB a s P (.slice (ahA o) (ahN o) (ahN o)) hv R))
    (hA : OvAt 96 .i16 w a ca pa qa al) (hah : AhAt w fs o ah) (hf : IFun w x 48 .i16 512 f) (h0 : ∀ j, j < 128 → -32768 ≤ al j ∧ al j ≤ 32767) (h1 : ∀ j, j < 512 → -32768 ≤ f j ∧ f j ≤ 32767) :
    Calls Tryz.prog 21 #[.pointer (some ⟨g, 0, none⟩), .slice (some ⟨x, 0, none⟩) 512 512, .bool b, .bool r] w (MadePost r fs b Q B a ca pa qa al f ah w) := by
  cases r
  all_goals
    have HE := Lib.hid hE
    have HA := Lib.hid hA
    have HH := Lib.hid hah
    have HF := Lib.hid hf
    have H0 := Lib.hid h0
    have H1 := Lib.hid h1
    have HO : RowKit.Hid (∀ r', (mkFrm r' fs b Q B al f ah).Ok) := fun _ => mkFrm_ok hq hB
    have hga := Lib.hid (hE.ne hA.1 (by decide))
    have d2 : w.cell? ⟨g, 2, none⟩ = some (.pointer (some ⟨a, 0, none⟩)) := hE.cell 2
    have gl := hE.lt
    clear hE hA hah hf h0 h1
    obtain ⟨zc, hz⟩ : ∃ zc : Array Value, zc = #[.bool false, .int .i64 0, .slice none 0 0, .slice none 0 0, .slice none 0 0] := ⟨_, rfl⟩
    have HZ : RowKit.Hid (zc = #[.bool false, .int .i64 0, .slice none 0 0, .slice none 0 0, .slice none 0 0]) := hz
    have HB0 := Lib.hid (Below.alloc_new w (.cells #[.bool false, .int .i64 0, .slice none 0 0, .slice none 0 0, .slice none 0 0] 63))
    have HC0 : RowKit.Hid (Cel (w.alloc (.cells #[.bool false, .int .i64 0, .slice none 0 0, .slice none 0 0, .slice none 0 0] 63)) w.heap.size 63 zc) := by rw [hz]; exact Cel.new w _ _
    clear hz
    go_enter Tryz.func21, Tryz.ntmps21
    go_wp2_with (first
      | (go_at_call 41; go_loud (refine (anaLines_any a ca pa qa x al f b _ (HA.out.below HB0.out) (HF.out.below HB0.out HF.out.lt) H0.out H1.out).mono ?_); rintro e w1 ⟨r1, rfl, i1, s1, o1, k1⟩; have HI1 := Lib.hid i1; have HS1 : RowKit.Hid (w.heap.size ≤ r1) := Nat.le_trans HB0.out.size s1; have HO1 := Lib.hid o1; have HK1 : RowKit.Hid (Keeps (· = a) w w1) := (Keeps.of_below HB0.out).trans k1; have HC1 : RowKit.Hid (Cel w1 w.heap.size 63 zc) := HC0.out.keeps k1 (fun e => by have := HA.out.1.lt; omega); clear i1 s1 o1 k1; clear d2)
      | (go_at_call 42; go_loud (refine (fCeil_any r1 512 (linesF b (allF al f)) _ HI1.out (fun i => linesF_bd _ _ i) (by decide) (by decide)).mono ?_); rintro e w2 ⟨r2, rfl, i2, s2, b2⟩; have HI2 : RowKit.Hid (∀ r', CutAt w2 r2 (mkFrm r' fs b Q B al f ah).l) := fun _ => ceil_cut i2; have HI1b := Lib.hid (HI1.out.below b2 HI1.out.lt); have HO2 := Lib.hid (HO1.out.below b2); have HK2 : RowKit.Hid (Keeps (· = a) w w2) := HK1.out.trans (Keeps.of_below b2); have HC2 := Lib.hid (HC1.out.below b2); clear i2 s2 b2; have f0 : w2.cell? ⟨g, 0, none⟩ = some (.int .i64 Q) := (HE.out.keeps HK2.out hga.out).cell 0; have f5 : w2.cell? ⟨g, 5, none⟩ = some (.slice (ahA o) (ahN o) (ahN o)) := (HE.out.keeps HK2.out hga.out).cell 5; have gl2 : g < w2.heap.size := Nat.lt_of_lt_of_le gl HK2.out.size; have HCz : RowKit.Hid (Cel w2 w.heap.size 63 #[.bool false, .int .i64 0, .slice none 0 0, .slice none 0 0, .slice none 0 0]) := (by rw [← HZ.out]; exact HC2.out); have cl2 := HCz.out.lt; have p0 : w2.cell? ⟨w.heap.size, 0, none⟩ = some (.bool false) := HCz.out.cell 0; have p1 : w2.cell? ⟨w.heap.size, 1, none⟩ = some (.int .i64 0) := HCz.out.cell 1; have p2 : w2.cell? ⟨w.heap.size, 2, none⟩ = some (.slice none 0 0) := HCz.out.cell 2; have p3 : w2.cell? ⟨w.heap.size, 3, none⟩ = some (.slice none 0 0) := HCz.out.cell 3; have p4 : w2.cell? ⟨w.heap.size, 4, none⟩ = some (.slice none 0 0) := HCz.out.cell 4; have z0 := HCz.out.frozen 0; have z1 := HCz.out.frozen 1; have z2 := HCz.out.frozen 2; have z3 := HCz.out.frozen 3; have z4 := HCz.out.frozen 4))
    refine bodyPost_ret (results_cell2 rfl rfl rfl (run_loadVar_row _ w.heap.size _ _ _ (0, 0) _ ((((((HCz.out.set_ 0 _).set_ 1 _).set_ 2 _).set_ 3 _).set_ 4 _).alloc _) Tryz.underlying63 rfl infoC_frame)) rfl ?_
    exact made_end HA.out HH.out HI1b.out (HI2.out _) HO2.out HK2.out HCz.out (HO.out _) rfl ((((((Keeps.set1 _).trans (Keeps.set1 _)).trans (Keeps.set1 _)).trans (Keeps.set1 _)).trans (Keeps.set1 _)).alloc _)
end Go.Proofs.YtkhhhejmbgloeaaGreat

/- An encoder's state, and how a frame leaves it. -/
namespace Go.Proofs.YtkhhhejmbgloeaaGreat
open Go Go.RowKit
set_option linter.unusedVariables false
set_option linter.unusedSimpArgs false

/-- What an encoder keeps. -/
structure S13 where
  P : Int
  fs : Bool
  ah : Nat → Int
  al : Nat → Int
  left : Nat → Int
  hd : Option (Nat → Int)
  R : Int
structure S13.Ok (S : S13) : Prop where
  P : 0 ≤ S.P ∧ S.P ≤ 32768
  al : ∀ j, j < 128 → -32768 ≤ S.al j ∧ S.al j ≤ 32767
  left : ∀ j, j < 128 → (S.left j).natAbs ≤ 1073741000
noncomputable def S13.F (S : S13) (Q : Int) (B : Nat) (f : Nat → Int) (r : Bool) : Frm := mkFrm r S.fs (briefF S.P f) Q B S.al f S.ah
noncomputable def S13.next (S : S13) (Q : Int) (B : Nat) (f : Nat → Int) (n : Int) (r : Bool) : S13 :=
  ⟨peakQ f 3, false, (S.F Q B f r).l, fun j => f (384 + j), leftF (briefF S.P f) ((S.F Q B f r).held n), some (samplesF (briefF S.P f) ((S.F Q B f r).held n) S.left), (S.F Q B f r).reach⟩
def s13Zero : S13 := ⟨0, true, fun _ => 0, fun _ => 0, fun _ => 0, none, 0⟩
theorem s13Zero_ok : s13Zero.Ok := ⟨by decide, fun _ _ => by show (-32768 : Int) ≤ 0 ∧ (0 : Int) ≤ 32767; decide, fun _ _ => by show (0 : Int).natAbs ≤ 1073741000; decide⟩
theorem S13.F_ok (S : S13) {Q : Int} {B : Nat} (hq : 1 ≤ Q ∧ Q ≤ 10) (hB : 32 ≤ B ∧ B ≤ 600) (f : Nat → Int) (r : Bool) : (S.F Q B f r).Ok := mkFrm_ok hq hB
theorem S13.Ok.next {S : S13} {f : Nat → Int} (Q : Int) (B : Nat) (hf : ∀ i, i < 512 → -32768 ≤ f i ∧ f i ≤ 32767) (n : Int) (r : Bool) : (S.next Q B f n r).Ok :=
  ⟨peakQ_bd hf (by decide), fun j hj => hf _ (by omega), fun j hj => leftF_abs (fun i _ => by have := (S.F Q B f r).held_bd n i; omega) _ hj⟩
def HdAt (w : World) (hv : Value) : Option (Nat → Int) → Prop
  | none => hv = .slice none 0 0
  | some H => ∃ r, hv = .slice (some ⟨r, 0, none⟩) 512 512 ∧ IFun w r 48 .i16 512 H
structure CodIn (w : World) (g a s ca pa qa cs ps qs : Nat) (o : Option Nat) (hv : Value) (Q : Int) (B : Nat) (S : S13) : Prop where
  e : Cel w g 57 (codC Q B a s S.P (.slice (ahA o) (ahN o) (ahN o)) hv S.R)
  a : OvAt 96 .i16 w a ca pa qa S.al
  s : OvAt 99 .i32 w s cs ps qs S.left
  h : AhAt w S.fs o S.ah
  d : HdAt w hv S.hd
def CodAt (w : World) (g a s : Nat) (Q : Int) (B : Nat) (S : S13) : Prop := ∃ ca pa qa cs ps qs o hv, CodIn w g a s ca pa qa cs ps qs o hv Q B S
def EncodePost (g a s : Nat) (Q : Int) (B : Nat) (S : S13) (f : Nat → Int) (n : Int) (r : Bool) (w : World) (e : Ending) (w' : World) : Prop :=
  ∃ rr cp, e = .returned (.tuple #[.slice (some ⟨rr, 0, none⟩) (S.F Q B f r).bytes.length cp, .bool (r || S.fs), .int .i64 0]) ∧ IntsAt w' w'.heap.size .u8 (some ⟨rr, 0, none⟩) (S.F Q B f r).bytes.length (S.F Q B f r).bytes ∧
    CodAt w' g a s Q B (S.next Q B f n r) ∧ Keeps (fun j => j = g ∨ j = a ∨ j = s) w w'
structure EcMid (g a s ca pa qa cs ps qs k lb c : Nat) (o' : Option Nat) (cv hv : Value) (Q : Int) (B : Nat) (P R : Int) (left : Nat → Int) (F : Frm) (al' : Nat → Int) (pk : Array Value) (w : World) (q : Nat) (W : World) : Prop where
  mf : Cel W q 63 (frC F lb c o')
  mF : FrAt F W lb c o'
  ma : OvAt 96 .i16 W a ca pa qa al'
  me : Cel W g 57 (codC Q B a s P cv hv R)
  mp : Cel W k 60 pk
  ms : OvAt 99 .i32 W s cs ps qs left
  mw : Keeps (· = a) w W
theorem EcMid.now {g a s ca pa qa cs ps qs k lb c : Nat} {o' : Option Nat} {cv hv : Value} {Q : Int} {B : Nat} {P R : Int} {left : Nat → Int} {F : Frm} {al' : Nat → Int} {pk : Array Value} {w : World} {q : Nat} {W W' : World}
    (h : EcMid g a s ca pa qa cs ps qs k lb c o' cv hv Q B P R left F al' pk w q W) (b : Below W.heap.size W W') : EcMid g a s ca pa qa cs ps qs k lb c o' cv hv Q B P R left F al' pk w q W' :=
  ⟨h.mf.below b, h.mF.below b, h.ma.below b, h.me.below b, h.mp.below b, h.ms.below b, h.mw.trans (Keeps.of_below b)⟩
theorem EcMid.drew {g a s ca pa qa cs ps qs k lb c : Nat} {o' : Option Nat} {cv hv : Value} {Q : Int} {B : Nat} {P R : Int} {left : Nat → Int} {F : Frm} {al' : Nat → Int} {pk : Array Value} {w : World} {q : Nat} {W : World}
    (h : EcMid g a s ca pa qa cs ps qs k lb c o' cv hv Q B P R left F al' pk w q W) : EcMid g a s ca pa qa cs ps qs k lb c o' cv hv Q B P R left F al' pk w q W.drew :=
  ⟨h.mf, ⟨h.mF.ok, h.mF.x, h.mF.l, h.mF.a⟩, h.ma, h.me, h.mp, h.ms, h.mw.drewN 1⟩
theorem ec_mid {g a s ca pa qa cs ps qs k lb c : Nat} {o' : Option Nat} {cv hv : Value} {Q : Int} {B : Nat} {P R : Int} {left : Nat → Int} {F : Frm} {al' : Nat → Int} {pk : Array Value} {w : World} {q : Nat} {w4 W : World}
    (hF : FrAt F w4 lb c o') (hA : OvAt 96 .i16 w4 a ca pa qa al') (hE : Cel w4 g 57 (codC Q B a s P cv hv R)) (hP : Cel w4 k 60 pk) (hS : OvAt 99 .i32 w4 s cs ps qs left)
    (hI : ∀ (j : Nat) (t : TypeId) (vs : Array Value), Cel w4 j t vs → t ≠ 63 → Cel W j t vs) (hO : ∀ (t : TypeId) (kk : IntKind) (a c p q : Nat) (f : Nat → Int), OvAt t kk w4 a c p q f → t ≠ 63 → OvAt t kk W a c p q f)
    (hfr : Cel W q 63 (frC F lb c o')) (hK : Keeps (· = a) w W) : EcMid g a s ca pa qa cs ps qs k lb c o' cv hv Q B P R left F al' pk w q W := by
  refine ⟨hfr, ⟨hF.ok, hI _ _ _ hF.x (by decide), hI _ _ _ hF.l (by decide), ?_⟩, hO _ _ _ _ _ _ _ hA (by decide), hI _ _ _ hE (by decide), hI _ _ _ hP (by decide), hO _ _ _ _ _ _ _ hS (by decide), hK⟩
  rcases hF.a with h | ⟨h1, h2, r, h3, h4⟩
  · exact .inl h
  · exact .inr ⟨h1, h2, r, h3, hI _ _ _ h4 (by decide)⟩
theorem ec_old {w4 W : World} {q : Nat} {zc : Array Value} (hz : Cel w4 q 63 zc) (K : Keeps (· = q) w4 W) :
    (∀ (j : Nat) (t : TypeId) (vs : Array Value), Cel w4 j t vs → t ≠ 63 → Cel W j t vs) ∧ (∀ (t : TypeId) (kk : IntKind) (a c p q : Nat) (f : Nat → Int), OvAt t kk w4 a c p q f → t ≠ 63 → OvAt t kk W a c p q f) :=
  ⟨fun j t vs h ht => h.keeps K (h.ne hz ht), fun t kk a c p q' f h ht => h.keeps hz (h.1.ne hz ht) (by decide) (by decide) K⟩
theorem ec_new {w4 W : World} (b : Below w4.heap.size w4 W) :
    (∀ (j : Nat) (t : TypeId) (vs : Array Value), Cel w4 j t vs → t ≠ 63 → Cel W j t vs) ∧ (∀ (t : TypeId) (kk : IntKind) (a c p q : Nat) (f : Nat → Int), OvAt t kk w4 a c p q f → t ≠ 63 → OvAt t kk W a c p q f) :=
  ⟨fun j t vs h _ => h.below b, fun t kk a c p q' f h _ => h.below b⟩
theorem OvAt.keepsF {t : TypeId} {k : IntKind} {w w' : World} {s c p q : Nat} {f : Nat → Int} {F : Nat → Prop} (h : OvAt t k w s c p q f) (hk : Keeps F w w') (hs : ¬ F s) (hF : ∀ j, F j → ∃ t' cs, Cel w j t' cs ∧ t' ≠ 170 ∧ t' ≠ 168) : OvAt t k w' s c p q f := by
  have n : ∀ {g c m : Nat}, TrAt w g c m → ¬ F g ∧ ¬ F c := fun ht => ⟨fun e => by obtain ⟨t', cs, y, h1, h2⟩ := hF _ e; exact (ht.ne y h1 h2).1 rfl, fun e => by obtain ⟨t', cs, y, h1, h2⟩ := hF _ e; exact (ht.ne y h1 h2).2 rfl⟩
  exact ⟨h.1.keeps hk hs, h.2.1.keeps hk (n h.2.1).1 (n h.2.1).2, h.2.2.keeps hk (n h.2.2).1 (n h.2.2).2⟩
theorem ints_ne8 {w : World} {B len r m : Nat} {b : List Int} {t : TypeId} {cs : Array Value} {v0 : Value} (h : IntsAt w B .u8 (some ⟨r, 0, none⟩) len b) (h0 : 0 < len) (k : Cel w m t cs) (hc : cs[0]? = some v0) (hv : ∀ x, v0 ≠ .int .u8 x) : r ≠ m := by
  rintro rfl
  obtain ⟨b', off, e, _, _, hcell⟩ := h.at_ h0
  injection e with e
  injection e with e1 e2
  subst e1
  subst e2
  have c := k.cell 0
  rw [hc] at c
  rw [show 0 + 0 = 0 from rfl, c] at hcell
  injection hcell with e
  exact hv _ e
/-- The end. -/
theorem ec_end {g a s ca pa qa cs ps qs k lb c q hd rr cp : Nat} {o o' : Option Nat} {hv : Value} {Q : Int} {B : Nat} {S : S13} {f : Nat → Int} {n : Int} {r b : Bool} {pk : Array Value} {w W w6 w7 : World} {p3 : Int} {v : Value}
    (hb : briefF S.P f = b) (hp : peakQ f 3 = p3) (hM : EcMid g a s ca pa qa cs ps qs k lb c o' (.slice (ahA o) (ahN o) (ahN o)) hv Q B S.P S.R S.left (mkFrm r S.fs b Q B S.al f S.ah) (fun j => f (384 + j)) pk w q W) (hne : g ≠ a ∧ g ≠ s ∧ a ≠ s)
    (hE : Cel w6 g 57 (codC Q B a s S.P (.slice (ahA o) (ahN o) (ahN o)) (.slice (some ⟨hd, 0, none⟩) 512 512) (mkFrm r S.fs b Q B S.al f S.ah).reach)) (hd6 : IFun w6 hd 48 .i16 512 (samplesF b ((mkFrm r S.fs b Q B S.al f S.ah).held n) S.left)) (hS6 : OvAt 99 .i32 w6 s cs ps qs (leftF b ((mkFrm r S.fs b Q B S.al f S.ah).held n)))
    (hK6 : Keeps (fun j => j = g ∨ j = s) W w6) (hi : IntsAt W W.heap.size .u8 (some ⟨rr, 0, none⟩) (mkFrm r S.fs b Q B S.al f S.ah).bytes.length (mkFrm r S.fs b Q B S.al f S.ah).bytes)
    (b7 : Below ((w6.setCell ⟨g, 4, none⟩ (.int .i64 p3)).setCell ⟨g, 5, none⟩ (.slice (some ⟨c, 0, none⟩) 21 21)).heap.size ((w6.setCell ⟨g, 4, none⟩ (.int .i64 p3)).setCell ⟨g, 5, none⟩ (.slice (some ⟨c, 0, none⟩) 21 21)) w7)
    (hv7 : v = .tuple #[.slice (some ⟨rr, 0, none⟩) (mkFrm r S.fs b Q B S.al f S.ah).bytes.length cp, .bool (r || S.fs), .int .i64 0]) : EncodePost g a s Q B S f n r w (.returned v) w7 := by
  have eF : S.F Q B f r = mkFrm r S.fs b Q B S.al f S.ah := by unfold S13.F; rw [hb]
  have eN : S.next Q B f n r = ⟨p3, false, (mkFrm r S.fs b Q B S.al f S.ah).l, fun j => f (384 + j), leftF b ((mkFrm r S.fs b Q B S.al f S.ah).held n), some (samplesF b ((mkFrm r S.fs b Q B S.al f S.ah).held n) S.left), (mkFrm r S.fs b Q B S.al f S.ah).reach⟩ := by unfold S13.next; rw [eF, hb, hp]
  have KG6 : Keeps (· = g) w6 w7 := ((Keeps.set1 _).trans (Keeps.set1 _)).trans (Keeps.of_below b7)
  have KG : Keeps (fun j => j = g ∨ j = s) W w7 := hK6.trans (KG6.mono fun j hj => .inl hj)
  obtain ⟨n1, n2, n3⟩ := hne
  have ty : ∀ j, (j = g ∨ j = s) → ∃ t' vs, Cel W j t' vs ∧ t' ≠ 170 ∧ t' ≠ 168 := by
    rintro j (rfl | rfl)
    · exact ⟨_, _, hM.me, by decide, by decide⟩
    · exact ⟨_, _, hM.ms.1, by decide, by decide⟩
  have nt : ∀ {j : Nat} {t : TypeId} {vs : Array Value}, Cel W j t vs → t ≠ 57 → t ≠ 99 → ¬ (j = g ∨ j = s) := by
    rintro j t vs h h1 h2 (rfl | rfl)
    · exact h.ne hM.me h1 rfl
    · exact h.ne hM.ms.1 h2 rfl
  refine ⟨rr, cp, by rw [hv7, eF], ?_, ?_, ?_⟩
  · rw [eF]
    refine (hi.keeps KG (Nat.le_refl _) fun r off e h0 _ c => ?_).grow KG.size
    injection e with e
    injection e with e
    subst e
    rcases c with c | c
    · exact ints_ne8 hi h0 hM.me (v0 := .int .i64 Q) rfl (by intro x e; injection e with e; cases e) c
    · exact ints_ne8 hi h0 hM.ms.1 (v0 := .pointer (some ⟨cs, 0, none⟩)) rfl (by intro x e; cases e) c
  · rw [eN]
    refine ⟨ca, pa, qa, cs, ps, qs, some c, .slice (some ⟨hd, 0, none⟩) 512 512, ⟨Cel.below ((hE.set_ 4 _).set_ 5 _) b7, hM.ma.keepsF KG (by rintro (e | e) <;> omega) ty, hS6.keeps hE (fun e => n2 e.symm) (by decide) (by decide) KG6, .inr ⟨rfl, hM.mF.ok.l, c, rfl, ?_⟩, hd, rfl, ?_⟩⟩
    · exact Cel.keeps hM.mF.l KG (nt hM.mF.l (by decide) (by decide))
    · exact Cel.keeps hd6 KG6 (Cel.ne hd6 hE (by decide))
  · exact (hM.mw.mono fun j hj => .inr (.inl hj)).trans (KG.mono fun j hj => hj.elim .inl fun c => .inr (.inr c))
end Go.Proofs.YtkhhhejmbgloeaaGreat
