/- Plain facts, and what functions give, for the proofs of this seat: several texts in one, each with its own first remark. -/
import Derived.Test.YtmgfkdmjgjlkjaaGreatAG

namespace Go.Proofs.YtmgfkdmjgjlkjaaGreat
open Go Go.RowKit
set_option linter.unusedVariables false
set_option linter.unusedSimpArgs false
def prevQ (P : Int) (f : Nat → Int) : Nat → Int
  | 0 => P
  | q + 1 => peakQ f q
def outQ (P : Int) (f : Nat → Int) : Nat → Bool
  | 0 => false
  | q + 1 => outQ P f q || knB (prevQ P f q) (peakQ f q)
theorem outQ_all (P : Int) (f : Nat → Int) : outQ P f 4 = briefF P f := by
  unfold briefF briefB
  simp [outQ, prevQ]
theorem outQ_succ (P : Int) (f : Nat → Int) (q : Nat) : outQ P f (q + 1) = (outQ P f q || knB (prevQ P f q) (peakQ f q)) := rfl
def rfC (C : Nat) (va vl : Value) (Q B P : Int) (cv vh : Value) (R : Int) : Array Value := #[.slice (some ⟨C, 0, none⟩) 1025 1025, va, vl, .int .i64 Q, .int .i64 B, .int .i64 P, cv, vh, .int .i64 R]
def BriefPost (g C : Nat) (va vl cv vh : Value) (Q B P R : Int) (f : Nat → Int) (w : World) (e : Ending) (w' : World) : Prop :=
  e = .returned (.bool (briefF P f)) ∧ Cel w' g 70 (rfC C va vl Q B (peakQ f 3) cv vh R) ∧ Keeps (· = g) w w'
set_option maxHeartbeats 1000000 in
set_option maxRecDepth 100000 in
theorem rBrief_any (g C x : Nat) (va vl cv vh : Value) (Q B P R : Int) (f : Nat → Int) (w : World) (hE : Cel w g 70 (rfC C va vl Q B P cv vh R)) (hf : IFun w x 77 .i16 512 f) (hP : 0 ≤ P ∧ P ≤ 32768) (hb : ∀ i, i < 512 → -32768 ≤ f i ∧ f i ≤ 32767) :
    Calls Tryz.prog 32 #[.pointer (some ⟨g, 0, none⟩), .slice (some ⟨x, 0, none⟩) 512 512] w (BriefPost g C va vl cv vh Q B P R f w) := by
  have H0 : RowKit.Hid (Cel w g 70 (rfC C va vl Q B (prevQ P f 0) cv vh R) ∧ Keeps (· = g) w w) := ⟨hE, Keeps.refl _ _⟩
  have HX := Lib.hid hf
  have HXb := Lib.hid hb
  have HP := Lib.hid hP
  have hgx := Lib.hid (Cel.ne hf hE (by decide))
  have HO := Lib.hid (outQ_all P f)
  rw [show BriefPost g C va vl cv vh Q B P R f w = fun e w' => e = .returned (.bool (briefF P f)) ∧ Cel w' g 70 (rfC C va vl Q B (prevQ P f 4) cv vh R) ∧ Keeps (· = g) w w' from rfl, ← HO.out]
  clear hE hf hP hb
  go_enter Tryz.func32, Tryz.ntmps32
  go_wp2
  go_loopw [5, 6] (fun o i wr => ∃ q : Nat, q ≤ 4 ∧ i = .int .i64 (q : Int) ∧ o = .bool (outQ P f q) ∧ RowKit.Hid (Cel wr g 70 (rfC C va vl Q B (prevQ P f q) cv vh R) ∧ Keeps (· = g) w wr)) (fun _ i _ => 4 - (intOf i).toNat)
  case atStart => exact ⟨0, by omega, rfl, rfl, H0.out⟩
  case round =>
    obtain ⟨q, hq, rfl, rfl, H⟩ := hrel
    clear H0
    by_cases hlt : q < 4
    · have lq : (q : Int) < 4 := by omega
      have HXr : RowKit.Hid (IFun wr x 77 .i16 512 f) := Cel.keeps HX.out H.out.2 hgx.out
      go_wp2
      go_loopw [7, 8] (fun p i wr' => ∃ k : Nat, k ≤ 128 ∧ i = .int .i64 (k : Int) ∧ p = .int .i64 (peakTo f (128 * q) k) ∧ wr' = wr) (fun _ i _ => 128 - (intOf i).toNat)
      case atStart => exact ⟨0, by omega, rfl, rfl, rfl⟩
      case round =>
        obtain ⟨k, hk, rfl, rfl, rfl⟩ := hrel
        by_cases hlk : k < 128
        · have lk : (k : Int) < 128 := by omega
          have k1 := HXr.out.cell (j := 128 * q + k) (by omega)
          obtain ⟨y0, y1⟩ := HXb.out (128 * q + k) (by omega)
          have HPk : RowKit.Hid (peakTo f (128 * q) (k + 1) = max (peakTo f (128 * q) k) (absI (f (128 * q + k)))) := peakTo_succ _ _ _
          obtain ⟨z0, z1⟩ := peakTo_bd (f := f) (a := 128 * q) (n := k) fun i hi => HXb.out _ (by omega)
          generalize f (128 * q + k) = y at k1 y0 y1 HPk
          generalize peakTo f (128 * q) k = z at z0 z1 HPk
          have u1 : IntKind.i64.wrap (-y) = -y := IntWalk.i64_in _ (by omega)
          have u2 : IntKind.i64.wrap y = y := IntWalk.i64_in _ (by omega)
          have u3 : IntKind.i64.wrap (128 * (q : Int)) = 128 * (q : Int) := IntWalk.i64_in _ (by omega)
          have u4 : IntKind.i64.wrap (128 * (q : Int) + (k : Int)) = ((128 * q + k : Nat) : Int) := by rw [IntWalk.i64_in _ (by omega)]; omega
          by_cases c1 : y < 0
          · by_cases c2 : z < -y
            · go_wp2
              go_roundw
              case rel => exact ⟨k + 1, by omega, by go_num, congrArg (Value.int .i64) (by rw [HPk.out]; unfold absI; rw [if_pos c1]; omega), trivial⟩
              case measure => simp [intOf] <;> omega
            · go_wp2
              go_roundw
              case rel => exact ⟨k + 1, by omega, by go_num, congrArg (Value.int .i64) (by rw [HPk.out]; unfold absI; rw [if_pos c1]; omega), trivial⟩
              case measure => simp [intOf] <;> omega
          · by_cases c2 : z < y
            · go_wp2
              go_roundw
              case rel => exact ⟨k + 1, by omega, by go_num, congrArg (Value.int .i64) (by rw [HPk.out]; unfold absI; rw [if_neg c1]; omega), trivial⟩
              case measure => simp [intOf] <;> omega
            · go_wp2
              go_roundw
              case rel => exact ⟨k + 1, by omega, by go_num, congrArg (Value.int .i64) (by rw [HPk.out]; unfold absI; rw [if_neg c1]; omega), trivial⟩
              case measure => simp [intOf] <;> omega
        · obtain rfl : k = 128 := by omega
          obtain ⟨pk, hpk⟩ : ∃ pk, pk = peakTo f (128 * q) 128 := ⟨_, rfl⟩
          have HPK : RowKit.Hid (peakQ f q = pk) := hpk.symm
          have HPR : RowKit.Hid (0 ≤ prevQ P f q ∧ prevQ P f q ≤ 32768) := by
            cases q with
            | zero => exact HP.out
            | succ q => exact peakQ_bd HXb.out (by omega)
          have HKN : RowKit.Hid (outQ P f (q + 1) = (outQ P f q || knB (prevQ P f q) pk)) := by show _ = _; rw [outQ_succ, HPK.out]
          have HNX : RowKit.Hid (prevQ P f (q + 1) = pk) := HPK.out
          have d5 : wr.cell? ⟨g, 5, none⟩ = some (.int .i64 (prevQ P f q)) := H.out.1.cell 5
          have z5 := H.out.1.frozen 5
          have HE : RowKit.Hid (Cel (wr.setCell ⟨g, 5, none⟩ (.int .i64 pk)) g 70 (rfC C va vl Q B pk cv vh R) ∧ Keeps (· = g) w (wr.setCell ⟨g, 5, none⟩ (.int .i64 pk))) := ⟨H.out.1.set_ 5 _, H.out.2.trans (Keeps.set1 _)⟩
          obtain ⟨kn, hkn⟩ : ∃ kn, knB (prevQ P f q) pk = kn := ⟨_, rfl⟩
          rw [hkn] at HKN
          obtain ⟨v0, v1⟩ := HPR.out
          rw [← hpk]
          have hkc := kn_cases hkn
          clear hpk hkn H HPR
          generalize prevQ P f q = pr at d5 v0 v1 hkc
          have u8 : IntKind.i64.wrap (8 * pr) = 8 * pr := IntWalk.i64_in _ (by omega)
          rcases hkc with ⟨t1, t2, e⟩ | ⟨t1, e⟩ | ⟨t1, t2, e⟩
          all_goals
            go_wp2
            go_roundw
            case rel => exact ⟨q + 1, by omega, by go_num, congrArg Value.bool (by rw [HKN.out, e]; simp), by rw [HNX.out]; exact HE.out⟩
            case measure => simp [intOf] <;> omega
    · obtain rfl : q = 4 := by omega
      go_wp2
      go_ret
      exact ⟨rfl, H.out⟩
end Go.Proofs.YtmgfkdmjgjlkjaaGreat

namespace Go.Proofs.YtmgfkdmjgjlkjaaGreat
open Go Go.RowKit
set_option linter.unusedVariables false
set_option linter.unusedSimpArgs false
def Typ (w : World) (b : Nat) (t : TypeId) : Prop := ∃ cs fr, w.heap[b]? = some (.cells cs t fr)
theorem Typ.lt {w : World} {b : Nat} {t : TypeId} (h : Typ w b t) : b < w.heap.size := by
  obtain ⟨cs, fr, h⟩ := h
  exact (Array.getElem?_eq_some_iff.1 h).1
theorem Typ.ne {w : World} {b b' : Nat} {t t' : TypeId} (h : Typ w b t) (h' : Typ w b' t') (hne : t ≠ t') : b ≠ b' := by
  rintro rfl
  obtain ⟨cs, fr, h⟩ := h
  obtain ⟨cs', fr', h'⟩ := h'
  rw [h] at h'
  injection h' with h'
  injection h' with _ e
  exact hne e
theorem Cel.typ {w : World} {b : Nat} {t : TypeId} {cs : Array Value} (h : Cel w b t cs) : Typ w b t := ⟨cs, (0, 0), h⟩
theorem Typ.keep {w w' : World} {b : Nat} {t : TypeId} (h : Typ w b t) (hk : w'.heap[b]? = w.heap[b]?) : Typ w' b t := by
  obtain ⟨cs, fr, h⟩ := h
  exact ⟨cs, fr, hk.trans h⟩
theorem own_typ {w : World} {base e n : Nat} {v : Value} {xs : List Value} (h : w.ownsRow base e 1 v n xs) (h0 : 0 < n) : ∃ b cap, v = .slice (some ⟨b, 0, none⟩) n cap ∧ n ≤ cap ∧ cap ≤ 9223372036854775807 ∧ Typ w b e ∧ base ≤ b := by
  rcases h.2 with ⟨rfl, hn⟩ | ⟨g', cap, cur, rfl, hb, hh, h2, h3, h4⟩
  · omega
  · exact ⟨g', cap, rfl, h2, by unfold maxLen at h3; omega, ⟨_, _, hh⟩, hb⟩
def NumAt (w : World) (b off n : Nat) (t : TypeId) (k : IntKind) (f : Nat → Int) : Prop := Typ w b t ∧ ∀ j, j < n → w.cell? ⟨b, off + j, none⟩ = some (.int k (f j))
theorem NumAt.keep {w w' : World} {b off n : Nat} {t : TypeId} {k : IntKind} {f : Nat → Int} (h : NumAt w b off n t k f) (hk : w'.heap[b]? = w.heap[b]?) : NumAt w' b off n t k f :=
  ⟨h.1.keep hk, fun j hj => (World.cell?_of_block (a := ⟨b, off + j, none⟩) hk).trans (h.2 j hj)⟩
theorem NumAt.below {w w' : World} {b off n : Nat} {t : TypeId} {k : IntKind} {f : Nat → Int} (h : NumAt w b off n t k f) (hb : Below w.heap.size w w') : NumAt w' b off n t k f := h.keep (hb.block b h.1.lt)
theorem NumAt.keeps {F : Nat → Prop} {w w' : World} {b off n : Nat} {t : TypeId} {k : IntKind} {f : Nat → Int} (h : NumAt w b off n t k f) (hk : Keeps F w w') (hn : ¬ F b) : NumAt w' b off n t k f := h.keep (hk.block b h.1.lt hn)
theorem NumAt.fn {w : World} {b off n : Nat} {t : TypeId} {k : IntKind} {f : Nat → Int} (h : NumAt w b off n t k f) : FnAt w w.heap.size k (some ⟨b, off, none⟩) n f := ⟨b, off, rfl, h.1.lt, h.2⟩
theorem NumAt.ints {w : World} {b off n : Nat} {t : TypeId} {k : IntKind} {f : Nat → Int} (h : NumAt w b off n t k f) (hn : n ≤ 9223372036854775807) : IntsAt w w.heap.size k (some ⟨b, off, none⟩) n (tabF n f) :=
  ⟨tabF_len _ _, .inr ⟨b, off, rfl, h.1.lt, hn, fun j hj => by rw [h.2 j hj, tabF_getD _ hj]⟩⟩
theorem own_num {w : World} {base e n : Nat} {v : Value} {k : IntKind} {f : Nat → Int} (h : w.ownsRow base e 1 v n ((tabF n f).map (Value.int k))) (h0 : 0 < n) : ∃ b cap, v = .slice (some ⟨b, 0, none⟩) n cap ∧ n ≤ cap ∧ cap ≤ 9223372036854775807 ∧ NumAt w b 0 n e k f ∧ base ≤ b := by
  obtain ⟨b, cap, rfl, h1, h2, h3, h4⟩ := own_typ h h0
  refine ⟨b, cap, rfl, h1, h2, ⟨h3, fun j hj => ?_⟩, h4⟩
  obtain ⟨b', off, e1, _, _, hc⟩ := (own_ints' h).at_ hj
  injection e1 with e1
  injection e1 with e1 e2
  subst e1
  subst e2
  rw [hc, tabF_getD _ hj]
theorem IFun.num {w : World} {g n : Nat} {t : TypeId} {k : IntKind} {f : Nat → Int} (h : IFun w g t k n f) (off m : Nat) (hm : off + m ≤ n) : NumAt w g off m t k (fun j => f (off + j)) := ⟨⟨_, _, h⟩, fun j hj => h.cell (by omega)⟩
def AllAt (w : World) (va : Value) (al : Nat → Int) : Prop := ∃ b cap, va = .slice (some ⟨b, 0, none⟩) 640 cap ∧ 640 ≤ cap ∧ cap ≤ 9223372036854775807 ∧ NumAt w b 512 128 2 .i64 (fun j => al j * 16)
def LeftAt (w : World) (vl : Value) (left : Nat → Int) : Prop := ∃ b off, vl = .slice (some ⟨b, off, none⟩) 128 128 ∧ NumAt w b off 128 2 .i64 left
def HrAt (w : World) (vh : Value) : Option (Nat → Int) → Prop
  | none => vh = .slice none 0 0
  | some H => ∃ b cap, vh = .slice (some ⟨b, 0, none⟩) 512 cap ∧ NumAt w b 0 512 2 .i64 H
structure RefIn (w : World) (g C : Nat) (va vl vh : Value) (o : Option Nat) (Q : Int) (B : Nat) (S : S13) : Prop where
  e : Cel w g 70 (rfC C va vl Q B S.P (.slice (ahA o) (ahN o) (ahN o)) vh S.R)
  c : IFun w C 2 .i64 1025 cosN
  a : AllAt w va S.al
  l : LeftAt w vl S.left
  h : AhAt w S.fs o S.ah
  d : HrAt w vh S.hd
def RefAt (w : World) (g : Nat) (Q : Int) (B : Nat) (S : S13) : Prop := ∃ C va vl vh o, RefIn w g C va vl vh o Q B S
theorem RefAt.keeps {w w' : World} {g : Nat} {Q : Int} {B : Nat} {S : S13} {F : Nat → Prop} (h : RefAt w g Q B S) (hk : Keeps F w w')
    (hF : ∀ j, F j → ∃ t, Typ w j t ∧ t ≠ 70 ∧ t ≠ 2 ∧ t ≠ 3) : RefAt w' g Q B S := by
  obtain ⟨C, va, vl, vh, o, h⟩ := h
  have n1 : ∀ {j : Nat}, Typ w j 70 → ¬ F j := fun hc hf => by obtain ⟨t', c', x⟩ := hF _ hf; exact hc.ne c' x.1.symm rfl
  have n2 : ∀ {j : Nat}, Typ w j 2 → ¬ F j := fun hc hf => by obtain ⟨t', c', x⟩ := hF _ hf; exact hc.ne c' x.2.1.symm rfl
  have n3 : ∀ {j : Nat}, Typ w j 3 → ¬ F j := fun hc hf => by obtain ⟨t', c', x⟩ := hF _ hf; exact hc.ne c' x.2.2.symm rfl
  refine ⟨C, va, vl, vh, o, h.e.keeps hk (n1 (Cel.typ h.e)), Cel.keeps h.c hk (n2 (Cel.typ h.c)), ?_, ?_, h.h.keeps hk (fun r hr => n3 (Cel.typ hr)), ?_⟩
  · obtain ⟨b, cap, e1, e2, e3, e4⟩ := h.a
    exact ⟨b, cap, e1, e2, e3, e4.keeps hk (n2 e4.1)⟩
  · obtain ⟨b, off, e1, e4⟩ := h.l
    exact ⟨b, off, e1, e4.keeps hk (n2 e4.1)⟩
  · have hd := h.d
    cases hh : S.hd with
    | none => rw [hh] at hd; exact hd
    | some H => rw [hh] at hd; obtain ⟨b, cap, e1, e4⟩ := hd; exact ⟨b, cap, e1, e4.keeps hk (n2 e4.1)⟩
theorem RefAt.below {w w' : World} {g : Nat} {Q : Int} {B : Nat} {S : S13} (h : RefAt w g Q B S) (b : Below w.heap.size w w') : RefAt w' g Q B S := h.keeps (F := fun _ => False) (Keeps.of_below b) fun _ c => c.elim
theorem RefAt.drewN {w : World} {g : Nat} {Q : Int} {B : Nat} {S : S13} (h : RefAt w g Q B S) (n : Nat) : RefAt (w.drewN n) g Q B S := h.below (Below.drewN' (Below.refl _ _) n)
theorem RefAt.typ {w : World} {g : Nat} {Q : Int} {B : Nat} {S : S13} (h : RefAt w g Q B S) : ∃ cs, Cel w g 70 cs := by
  obtain ⟨C, va, vl, vh, o, h⟩ := h
  exact ⟨_, h.e⟩
theorem infoC_i64 : (Tryz.prog.info? 2).map (fun i => (i.zero, i.size, i.bytes)) = some (some (.int .i64 0), 1, 8) := by kernel_rfl
def HeldRPost (f : Nat → Int) (w : World) (e : Ending) (w' : World) : Prop := ∃ v, e = .returned v ∧ w'.ownsRow w.heap.size 2 1 v 512 ((tabF 512 (heldF f)).map (Value.int .i64)) ∧ Below w.heap.size w w'
set_option maxHeartbeats 1000000 in
set_option maxRecDepth 100000 in
theorem rHeld_any (x off cap : Nat) (f : Nat → Int) (w : World) (hx : x < w.heap.size) (hf : ∀ j, j < 512 → w.cell? ⟨x, off + j, none⟩ = some (.int .i64 (f j))) (hb : ∀ j, j < 512 → -2147483648 ≤ f j ∧ f j ≤ 2147483647) :
    Calls Tryz.prog 82 #[.slice (some ⟨x, off, none⟩) 512 cap] w (HeldRPost f w) := by
  have HF := Lib.hid hf
  have HFb := Lib.hid hb
  have H0 : RowKit.Hid (w.ownsRow w.heap.size 2 1 (.slice none 0 0) 0 ((tabF 0 (heldF f)).map (Value.int .i64)) ∧ Below w.heap.size w w) := ⟨World.ownsRow_nil w w.heap.size 2 1, Below.refl _ _⟩
  clear hf hb
  go_enter Tryz.func82, Tryz.ntmps82
  go_wp2
  go_loopw [3, 4] (fun v i wr => ∃ (k : Nat) (u : Value), u = v ∧ k ≤ 512 ∧ i = .int .i64 (k : Int) ∧ RowKit.Hid (wr.ownsRow w.heap.size 2 1 u k ((tabF k (heldF f)).map (Value.int .i64)) ∧ Below w.heap.size w wr)) (fun _ i _ => 512 - (intOf i).toNat)
  case atStart => exact ⟨0, _, rfl, by omega, rfl, H0.out⟩
  case round =>
    obtain ⟨k, u, rfl, hk, rfl, H⟩ := hrel
    clear H0
    by_cases hlt : k < 512
    · have hsz := H.out.2.size
      have k1 := (H.out.2.cell (p := ⟨x, off + k, none⟩) hx).trans (HF.out k hlt)
      obtain ⟨y0, y1⟩ := HFb.out k hlt
      have HE : RowKit.Hid (tabF k (heldF f) ++ [heldF f k] = tabF (k + 1) (heldF f)) := tab_snoc _ _ _ rfl
      have HM := Lib.hid (heldF_max f k)
      generalize heldF f k = y at HE HM
      generalize f k = z at k1 y0 y1 HM
      have l1 : (k : Int) < 512 := by omega
      have HA : RowKit.Hid (∀ y, (wr.alloc (.cells #[.int .i64 y] 2)).ownsRow w.heap.size 2 1 u k ((tabF k (heldF f)).map (Value.int .i64))) := fun y => World.ownsRow.alloc H.out.1 _
      have HAB : RowKit.Hid (∀ y, Below w.heap.size w (wr.alloc (.cells #[.int .i64 y] 2))) := fun y => H.out.2.alloc hsz _
      have HSr : RowKit.Hid (∀ y, IntsAt (wr.alloc (.cells #[.int .i64 y] 2)) (wr.alloc (.cells #[.int .i64 y] 2)).heap.size .i64 (some ⟨wr.heap.size, 0, none⟩) 1 [y]) := fun y => lit_ints wr 2 .i64 [y] #[.int .i64 y] (0, 0) rfl (by simp)
      have HOB := Lib.hid (own_base H.out.1)
      clear H
      by_cases c1 : 33554431 < z
      · have e1 : RowKit.Hid (33554431 = y) := by show _ = _; have := HM.out; omega
        go_wp2_with (at_builtin; go_loud (refine append_ints rfl _ _ 66 rfl w.heap.size 2 .i64 8 Tryz.underlying66 infoC_i64 _ k (tabF k (heldF f)) rfl (HA.out _) (some ⟨wr.heap.size, 0, none⟩) 1 1 _ [_] rfl (HSr.out _) (by simp) (by unfold maxLen; omega) (by omega) (by simp; omega) ?_); intro v2 w2 hown hgrow _; have H2 : RowKit.Hid (w2.ownsRow w.heap.size 2 1 v2 (k + 1) ((tabF (k + 1) (heldF f)).map (Value.int .i64)) ∧ Below w.heap.size w w2) := ⟨by rw [← HE.out, ← e1.out]; exact hown, (HAB.out _).grown hgrow (by simp; omega) HOB.out⟩; clear hown hgrow)
        go_roundw
        case rel => exact ⟨k + 1, v2, rfl, by omega, by go_num, H2.out⟩
        case measure => simp [intOf] <;> omega
      · by_cases c2 : z < -33554432
        · have e1 : RowKit.Hid (-33554432 = y) := by show _ = _; have := HM.out; omega
          go_wp2_with (at_builtin; go_loud (refine append_ints rfl _ _ 66 rfl w.heap.size 2 .i64 8 Tryz.underlying66 infoC_i64 _ k (tabF k (heldF f)) rfl (HA.out _) (some ⟨wr.heap.size, 0, none⟩) 1 1 _ [_] rfl (HSr.out _) (by simp) (by unfold maxLen; omega) (by omega) (by simp; omega) ?_); intro v2 w2 hown hgrow _; have H2 : RowKit.Hid (w2.ownsRow w.heap.size 2 1 v2 (k + 1) ((tabF (k + 1) (heldF f)).map (Value.int .i64)) ∧ Below w.heap.size w w2) := ⟨by rw [← HE.out, ← e1.out]; exact hown, (HAB.out _).grown hgrow (by simp; omega) HOB.out⟩; clear hown hgrow)
          go_roundw
          case rel => exact ⟨k + 1, v2, rfl, by omega, by go_num, H2.out⟩
          case measure => simp [intOf] <;> omega
        · have e1 : RowKit.Hid (z = y) := by show _ = _; have := HM.out; omega
          go_wp2_with (at_builtin; go_loud (refine append_ints rfl _ _ 66 rfl w.heap.size 2 .i64 8 Tryz.underlying66 infoC_i64 _ k (tabF k (heldF f)) rfl (HA.out _) (some ⟨wr.heap.size, 0, none⟩) 1 1 _ [_] rfl (HSr.out _) (by simp) (by unfold maxLen; omega) (by omega) (by simp; omega) ?_); intro v2 w2 hown hgrow _; have H2 : RowKit.Hid (w2.ownsRow w.heap.size 2 1 v2 (k + 1) ((tabF (k + 1) (heldF f)).map (Value.int .i64)) ∧ Below w.heap.size w w2) := ⟨by rw [← HE.out, ← e1.out]; exact hown, (HAB.out _).grown hgrow (by simp; omega) HOB.out⟩; clear hown hgrow)
          go_roundw
          case rel => exact ⟨k + 1, v2, rfl, by omega, by go_num, H2.out⟩
          case measure => simp [intOf] <;> omega
    · obtain rfl : k = 512 := by omega
      go_wp2
      go_ret
      exact ⟨_, rfl, H.out⟩
end Go.Proofs.YtmgfkdmjgjlkjaaGreat
