/- What package packet's Reader gives. -/
import Derived.Test.YtcjikbddnceigaaPktE
namespace Go.Proofs.Ytcjikbddnceigaa
open Go.RowKit
set_option linter.unusedVariables false
set_option linter.unusedSimpArgs false

theorem ByL.own {w : World} {base e m c : Nat} {a : Option Addr} {b : List Int} (h : w.ownsRow base e 1 (.slice a m c) b.length (b.map (Value.int .u8))) (hb : Byts b) (hl : b.length ≤ 1000000) : ByL w a m c b := by
  have hi := own_ints_m h
  rcases h.2 with ⟨e1, hn⟩ | ⟨g, cap, cur, e1, h2, h3, h4, h5, h6, _⟩
  · injection e1 with e1 e2 e3
    subst e1
    subst e2
    subst e3
    exact ⟨hi, Nat.le_refl _, by omega, fun _ => rfl, hb⟩
  · injection e1 with e1 e2 e3
    subst e1
    subst e2
    subst e3
    exact ⟨hi, h4, by unfold maxLen at h5; omega, (fun e => by cases e), hb⟩
/-- Block g is a reader with these bytes left; so many were passed over. -/
def RdAt (w : World) (base g : Nat) (L : List Int) (lost : Nat) : Prop :=
  ∃ v, Cel w g 41 #[v, .int .i64 (lost : Int)] ∧ w.ownsRow base 5 1 v L.length (L.map (Value.int .u8))
section
variable {w w' : World} {base g : Nat} {L : List Int} {lost : Nat}
theorem RdAt.typ (h : RdAt w base g L lost) : Typ19 w g 41 := by
  obtain ⟨v, h, _⟩ := h
  exact h.typ19
theorem RdAt.keeps {F : Nat → Prop} (h : RdAt w base g L lost) (hk : Keeps F w w') (hF : ∀ j, F j → ∃ t, Typ19 w j t ∧ t ≠ 5 ∧ t ≠ 41) : RdAt w' base g L lost := by
  obtain ⟨v, h1, h2⟩ := h
  refine ⟨v, h1.keeps hk fun hf => ?_, own_keeps h2 hk fun k hg hf => ?_⟩
  · obtain ⟨t, ht, _, n2⟩ := hF g hf
    exact ht.ne h1.typ19 n2 rfl
  · obtain ⟨t, ht, n1, _⟩ := hF k hf
    exact ht.ne (own_typ19 h2 hg).1 n1 rfl
theorem RdAt.below (h : RdAt w base g L lost) (hb : Below w.heap.size w w') : RdAt w' base g L lost := h.keeps (F := fun _ => False) (.of_below hb) fun _ c => c.elim
theorem RdAt.new (w : World) (base : Nat) : RdAt (w.alloc (.cells #[.slice none 0 0, .int .i64 0] 41)) base w.heap.size [] 0 := ⟨_, Cel.new w _ _, World.ownsRow_nil _ _ _ _⟩
end
theorem rdLost_any (w : World) (base g : Nat) (L : List Int) (lost : Nat) (h : RdAt w base g L lost) :
    Calls Try.prog 15 #[.pointer (some ⟨g, 0, none⟩)] w fun e w' => e = .returned (.int .i64 (lost : Int)) ∧ w = w' := by
  obtain ⟨v, h1, _⟩ := h
  have c1 : w.cell? ⟨g, 1, none⟩ = some (.int .i64 (lost : Int)) := h1.cell 1
  clear h1
  go_enter Try.func15, Try.ntmps15
  go_wp2
  go_ret
  exact ⟨rfl, rfl⟩
theorem rdLost_nil (w : World) : Calls Try.prog 15 #[.pointer none] w fun e w' => e = .returned (.int .i64 0) ∧ w = w' := by
  go_enter Try.func15, Try.ntmps15
  go_wp2
  go_ret
  exact ⟨rfl, rfl⟩
theorem rdLeft_any (w : World) (base g : Nat) (L : List Int) (lost : Nat) (h : RdAt w base g L lost) :
    Calls Try.prog 16 #[.pointer (some ⟨g, 0, none⟩)] w fun e w' => e = .returned (.int .i64 (L.length : Int)) ∧ w = w' := by
  obtain ⟨v, h1, h2⟩ := h
  obtain ⟨a, m, c, rfl, hm⟩ := own_form_m h2
  have c0 : w.cell? ⟨g, 0, none⟩ = some (.slice a L.length c) := by rw [← hm]; exact h1.cell 0
  clear h1 h2 hm
  go_enter Try.func16, Try.ntmps16
  go_wp2
  go_ret
  exact ⟨rfl, rfl⟩
theorem rdLeft_nil (w : World) : Calls Try.prog 16 #[.pointer none] w fun e w' => e = .returned (.int .i64 0) ∧ w = w' := by
  go_enter Try.func16, Try.ntmps16
  go_wp2
  go_ret
  exact ⟨rfl, rfl⟩
theorem rdFeed_nil (a : Option Addr) (n cap : Nat) (w : World) : Calls Try.prog 13 #[.pointer none, .slice a n cap] w fun e w' => e = .returned (.slice none 0 0) ∧ w = w' := by
  go_enter Try.func13, Try.ntmps13
  go_wp2
  go_ret
  exact ⟨rfl, rfl⟩

/-! ### Feed -/
theorem info19_pks : (Try.prog.info? 25).map (fun i => (i.zero, i.size, i.bytes)) = some (some (.agg #[.int .u32 0, .int .u32 0, .bool false, .slice none 0 0]), 4, 40) := by kernel_rfl
/-- Where a reader stands on the way. -/
structure FdSt (w : World) (B g : Nat) (vL : Value) (lost : Nat) (all : List Int) (v : Value) (ps : List Pk) (lo : Nat) (a : Option Addr) (n c : Nat) (rest : List Int) (wr : World) : Prop where
  o : OnWay all ps lo rest
  l : rest.length ≤ all.length
  r : ByL wr a n c rest
  t : ∀ r off, a = some ⟨r, off, none⟩ → 0 < n → Typ19 wr r 5
  p : PksAt wr w.heap.size B 25 v ps
  e : Cel wr g 41 #[vL, .int .i64 ((lost + lo : Nat) : Int)]
  k : Keeps (· = g) w wr
theorem Typ19.back {w w' : World} {j : Nat} {t : TypeId} (h : Typ19 w' j t) (hb : Below w.heap.size w w') (hj : j < w.heap.size) : Typ19 w j t := h.keep (hb.block j hj).symm
theorem ByL.keeps {F : Nat → Prop} {w w' : World} {a : Option Addr} {n c : Nat} {b : List Int} (h : ByL w a n c b) (hk : Keeps F w w') (hF : ∀ r off, a = some ⟨r, off, none⟩ → 0 < n → ¬ F r) : ByL w' a n c b :=
  ⟨(h.hi.keeps19 hk (Nat.le_refl _) fun r off e h0 _ => hF r off e h0).grow hk.size, h.hc, h.hm, h.ha, h.hb⟩
/-- All but the first z bytes. -/
theorem ByL.rest {w : World} {r off n c z : Nat} {b : List Int} (h : ByL w (some ⟨r, off, none⟩) n c b) (hz : z ≤ n) : ByL w (if c = z then some ⟨r, off, none⟩ else some ⟨r, off + z, none⟩) (n - z) (c - z) (b.drop z) := by
  have hl := h.len
  have hc := h.hc
  by_cases e : c = z
  · rw [if_pos e]
    have e2 : b.drop z = [] := List.drop_eq_nil_of_le (by omega)
    rw [e2]
    refine ⟨⟨by simp; omega, .inl (by omega)⟩, by omega, by have := h.hm; omega, (fun e => by cases e), .nil⟩
  · rw [if_neg e]
    have := h.sub z (n - z) (by omega)
    rwa [List.take_of_length_le (by simp; omega)] at this
theorem rest_form {r off c z : Nat} {r2 off2 : Nat} (h : (if c = z then (some ⟨r, off, none⟩ : Option Addr) else some ⟨r, off + z, none⟩) = some ⟨r2, off2, none⟩) : r2 = r := by
  split at h <;> · injection h with h; injection h with h _; exact h.symm
/-- A packet is taken. -/
theorem FdSt.take {w wr W5 w6 : World} {B g r off n c lost lo z : Nat} {vL v v6 : Value} {all rest : List Int} {ps : List Pk} {P : Pk} (H : FdSt w B g vL lost all v ps lo (some ⟨r, off, none⟩) n c rest wr) (hg : g < w.heap.size) (h0 : prsE rest = 0) (hP : pkOf rest = P) (hz : 17 + lenP rest = z) (hB5 : Below wr.heap.size wr W5)
    (p6 : PksAt w6 w.heap.size B 25 v6 (ps ++ [P])) (k6 : Keeps (fun j => w.heap.size ≤ j ∧ Typ19 W5 j 25) W5 w6) :
    FdSt w B g vL lost all v6 (ps ++ [P]) lo (if c = z then some ⟨r, off, none⟩ else some ⟨r, off + z, none⟩) (n - z) (c - z) (rest.drop z) w6 := by
  have hl := H.r.len
  have hzn : z ≤ n := by have := (prsE_ok h0).2.2.2.1; omega
  have hp := len_pos (b := rest) (by omega)
  have hT := H.t r off rfl (by omega)
  have kk : Keeps (fun j => w.heap.size ≤ j ∧ Typ19 wr j 25) wr w6 :=
    (Keeps.of_below hB5).then_ k6 fun j hj => by
      rcases Nat.lt_or_ge j wr.heap.size with h | h
      · exact .inl ⟨hj.1, hj.2.back hB5 h⟩
      · exact .inr h
  refine ⟨?_, ?_, ?_, ?_, p6, ?_, ?_⟩
  · have := H.o.ok h0
    rw [hP, hz] at this
    exact this
  · have := H.l; rw [List.length_drop]; omega
  · refine (H.r.rest hzn).keeps kk fun r2 off2 e _ hf => ?_
    have := rest_form e
    subst this
    exact hf.2.ne hT (by decide) rfl
  · intro r2 off2 e _
    have := rest_form e
    subst this
    exact hT.keep (kk.block _ hT.lt fun hf => hf.2.ne hT (by decide) rfl)
  · exact H.e.keeps kk fun hf => by have := hf.1; omega
  · exact H.k.then_ kk fun j hj => .inr hj.1
/-- A byte is passed over. -/
theorem FdSt.pass {w wr w4 : World} {B g r off n c lost lo : Nat} {vL v : Value} {all rest : List Int} {ps : List Pk} (H : FdSt w B g vL lost all v ps lo (some ⟨r, off, none⟩) n c rest wr) (hB : B ≤ g) (h0 : prsE rest ≠ 0) (h2 : prsE rest ≠ 2) (hB4 : Below wr.heap.size wr w4) {x : Int} (hx : x = ((lost + lo + 1 : Nat) : Int)) :
    FdSt w B g vL lost all v ps (lo + 1) (if c = 1 then some ⟨r, off, none⟩ else some ⟨r, off + 1, none⟩) (n - 1) (c - 1) (rest.drop 1) (w4.setCell ⟨g, 1, none⟩ (.int .i64 x)) := by
  subst hx
  have hl := H.r.len
  have hp := len_pos (b := rest) (by omega)
  have hT := H.t r off rfl (by omega)
  have kk : Keeps (· = g) wr (w4.setCell ⟨g, 1, none⟩ (.int .i64 ((lost + lo + 1 : Nat) : Int))) := Keeps.setCell (F := (· = g)) (Keeps.of_below hB4) (p := ⟨g, 1, none⟩) (.inl rfl) _
  refine ⟨H.o.bad h2 h0, ?_, ?_, ?_, ?_, ?_, ?_⟩
  · have := H.l; rw [List.length_drop]; omega
  · refine (H.r.rest (by omega)).keeps kk fun r2 off2 e _ hf => ?_
    have := rest_form e
    subst this
    subst hf
    exact H.e.typ19.ne hT (by decide) rfl
  · intro r2 off2 e _
    have := rest_form e
    subst this
    exact hT.keep (kk.block _ hT.lt fun hf => by subst hf; exact H.e.typ19.ne hT (by decide) rfl)
  · exact H.p.keeps kk fun j hj => by subst hj; exact ⟨hB, _, H.e.typ19, by decide, by decide⟩
  · have := (H.e.below hB4).set_ 1 (.int .i64 ((lost + lo + 1 : Nat) : Int))
    exact this
  · exact H.k.trans kk
theorem cel_lost {w : World} {g : Nat} {t : TypeId} {v : Value} {k q : Nat} (h : Cel w g t #[v, .int .i64 (k : Int)]) (e : k = q) : w.cell? ⟨g, 1, none⟩ = some (.int .i64 (q : Int)) ∧ w.frozen? ⟨g, 1, none⟩ = false := by
  subst e
  exact ⟨h.cell 1, h.frozen 1⟩
theorem cel_left {w : World} {g : Nat} {t : TypeId} {v x : Value} (h : Cel w g t #[v, x]) : w.cell? ⟨g, 0, none⟩ = some v ∧ w.frozen? ⟨g, 0, none⟩ = false := ⟨h.cell 0, h.frozen 0⟩
/-- How long a slice is. -/
def lenV19 : Value → Nat
  | .slice _ n _ => n
  | _ => 0
/-- What a reader gives: packets; what it has then. -/
def FeedPost19 (B base g : Nat) (lost : Nat) (all : List Int) (w : World) (x : Ending) (w' : World) : Prop :=
  ∃ v, x = .returned v ∧ PksAt w' w.heap.size B 25 v (scan all).ps ∧ RdAt w' base g (scan all).left (lost + (scan all).lost) ∧ Keeps (· = g) w w'
/-- All is read. -/
theorem FdSt.done {w wr w6 : World} {B base g b6 n c lost lo : Nat} {vL v v6 : Value} {a : Option Addr} {all rest : List Int} {ps : List Pk} (H : FdSt w B g vL lost all v ps lo a n c rest wr) (hB : B ≤ g) (hbase : base ≤ w.heap.size) (hs : scan all = ⟨ps, lo, rest⟩) (hB6 : Below wr.heap.size wr w6)
    (ho : w6.ownsRow b6 5 1 v6 rest.length (rest.map (Value.int .u8))) (hb6 : base ≤ b6) : FeedPost19 B base g lost all w (.returned v) (w6.setCell ⟨g, 0, none⟩ v6) := by
  have kk : Keeps (· = g) wr (w6.setCell ⟨g, 0, none⟩ v6) := Keeps.setCell (F := (· = g)) (Keeps.of_below hB6) (p := ⟨g, 0, none⟩) (.inl rfl) _
  have he := H.e.below hB6
  refine ⟨v, rfl, ?_, ⟨v6, ?_, ?_⟩, H.k.trans kk⟩
  · rw [hs]
    exact H.p.keeps kk fun j hj => by subst hj; exact ⟨hB, _, H.e.typ19, by decide, by decide⟩
  · rw [hs]
    exact he.set_ 0 v6
  · rw [hs]
    exact own_lower (own_far ho (p := ⟨g, 0, none⟩) (fun k hk => (own_typ19 ho hk).1.ne he.typ19 (by decide)) v6) hb6
set_option maxRecDepth 100000 in
set_option maxHeartbeats 4000000 in
theorem rdFeed_any (B base g : Nat) (L : List Int) (lost : Nat) (a : Option Addr) (n cap : Nat) (b : List Int) (w : World) (h : RdAt w base g L lost) (hb : ByL w a n cap b) (hL : Byts L) (hl : L.length ≤ 616) (hn : n ≤ 10000) (hlost : lost ≤ 1000000) (hbase : base ≤ w.heap.size) (hB : B ≤ g) :
    Calls Try.prog 13 #[.pointer (some ⟨g, 0, none⟩), .slice a n cap] w (FeedPost19 B base g lost (L ++ b) w) := by
  obtain ⟨vL, hc, ho⟩ := h
  obtain ⟨aL, mL, cL, rfl, hmL⟩ := own_form_m ho
  have hlb := hb.len
  have HAb := Lib.hid (hL.app hb.hb)
  have HAl : RowKit.Hid ((L ++ b).length ≤ 20000) := by show _ ≤ _; rw [List.length_append]; omega
  have hl1 : mL ≤ 1000000 := by omega
  have HC := Lib.hid hc
  have HL0 := Lib.hid (ByL.own ho hL (by omega))
  have HBb := Lib.hid hb
  have hgl := hc.lt
  have c0 : w.cell? ⟨g, 0, none⟩ = some (.slice aL mL cL) := hc.cell 0
  obtain ⟨w1, hw1⟩ : ∃ w1, w.alloc (.cells #[.slice aL mL cL, .slice a n cap] 23) = w1 := ⟨_, rfl⟩
  have hb1 : Below w.heap.size w w1 := by rw [← hw1]; exact Below.alloc_new _ _
  have HC1 : RowKit.Hid (Calls Try.prog 25 #[.slice (some ⟨w.heap.size, 0, none⟩) 2 2] w1 (OwnPost (L ++ b) w1)) := by
    have k := Cel.new w 23 #[.slice aL mL cL, .slice a n cap]
    rw [hw1] at k
    exact concat_any w.heap.size mL cL n cap aL a L b w1 (HL0.out.below hb1) (hb.below hb1) (k.cell 0) (k.cell 1) hl1 (by omega)
  have HB1 := Lib.hid hb1
  have HW1 := Lib.hid hw1
  clear hc ho hmL hb hL hb1 hw1 hlb
  go_enter Try.func13, Try.ntmps13
  go_wp2_with (go_at_call 25; rw [HW1.out]; go_loud (refine HC1.out.mono ?_); rintro e w2 ⟨v2, rfl, ho, hb⟩; obtain ⟨a2, m2, c2, rfl, hm2⟩ := own_form_m ho; have HO := Lib.hid ho; have HM := Lib.hid hm2; have HB := Lib.hid (chain HB1.out hb); clear ho hb hm2)
  obtain ⟨all, hall⟩ : ∃ all, L ++ b = all := ⟨_, rfl⟩
  rw [hall] at HO HM HAb HAl ⊢
  have H0 : RowKit.Hid (FdSt w B g (.slice aL mL cL) lost all (.slice none 0 0) [] 0 a2 m2 c2 all w2) :=
    ⟨.start all, Nat.le_refl _, ByL.own HO.out HAb.out (by have := HAl.out; omega), fun r off e _ => by subst e; exact (own_typ19 HO.out rfl).1, .nil _ _ _ _, HC.out.below HB.out, .of_below HB.out⟩
  clear hall HC1 HB1 HW1 HL0 HBb HO HM HB c0 HC
  go_loopw [5, 6] (fun v u wr => ∃ (ps : List Pk) (lo : Nat) (a : Option Addr) (n c : Nat) (rest : List Int), u = .slice a n c ∧ RowKit.Hid (FdSt w B g (.slice aL mL cL) lost all v ps lo a n c rest wr)) (fun _ u _ => lenV19 u)
  case atStart => exact ⟨[], 0, a2, m2, c2, all, rfl, H0.out⟩
  case round =>
    obtain ⟨ps, lo, a3, n3, c3, rest, rfl, H⟩ := hrel
    clear H0
    have hrl := H.out.r.len
    have hnum := H.out.o.nums
    have hal := HAl.out
    have hrn : n3 ≤ 20000 := by have := H.out.l; omega
    by_cases h2 : prsE rest = 2
    · have HP := Lib.hid (parse_no _ n3 c3 rest _ H.out.r (by omega) (by omega))
      rw [h2] at HP
      unfold pkZ at HP
      obtain ⟨a5, n5, c5, rfl, hn5⟩ := H.out.p.form
      have HCt := Lib.hid (H.out.o.cut h2)
      clear h2 hn5 hnum
      go_wp2_with (first
        | (go_at_call 8; go_loud (refine HP.out.mono ?_); rintro e w4 ⟨rfl, hb⟩; have HB5 := Lib.hid (hb.alloc hb.size (.cells #[.int .u32 0, .int .u32 0, .bool false, .slice none 0 0] 25)); have HI5 := Lib.hid (H.out.r.below HB5.out); clear hb)
        | (go_at_call 21; go_loud (refine (apart_any a3 n3 c3 rest _ HI5.out.hi HI5.out.ha (by omega)).mono ?_); rintro e w6 ⟨v6, rfl, ho, hb⟩; obtain ⟨a6, m6, c6, rfl, hm6⟩ := own_form_m ho; have HM6 := Lib.hid hm6; have HO6 := Lib.hid ho; have HB6 := Lib.hid (chain HB5.out hb); have HE6 := Lib.hid (H.out.e.below HB6.out); obtain ⟨c0, f0⟩ := cel_left HE6.out; clear ho hb hm6)
        | fail)
      go_ret
      exact H.out.done hB hbase HCt.out HB6.out HO6.out (Nat.le_trans hbase (Nat.le_trans H.out.k.size HB5.out.size))
    · have hp := len_pos h2
      obtain ⟨r, off, rfl⟩ := H.out.r.form (by omega)
      obtain ⟨a5, n5, c5, rfl, hn5⟩ := H.out.p.form
      have hrc := H.out.r.hc
      by_cases h0 : prsE rest = 0
      · have hzn := (prsE_ok h0).2.2.2.1
        obtain ⟨P, hP⟩ : ∃ P, pkOf rest = P := ⟨_, rfl⟩
        obtain ⟨z, hz⟩ : ∃ z, 17 + lenP rest = z := ⟨_, rfl⟩
        have HP := Lib.hid (parse_ok _ n3 c3 rest _ H.out.r (by omega) h0)
        unfold ParsePost at HP
        rw [hP, hz] at HP
        have HPz : RowKit.Hid (prsE rest = 0 ∧ pkOf rest = P ∧ 17 + lenP rest = z) := ⟨h0, hP, hz⟩
        have HN5 := Lib.hid hn5
        have z1 : (0 : Int) ≤ (z : Int) := by omega
        have z2 : (z : Int) ≤ (n3 : Int) := by omega
        have z3 : z ≤ n3 := by omega
        have z4 : 0 < z := by omega
        clear hP hz h0 h2 hn5 hrl hp
        go_wp2_with (first
          | (go_at_call 8; go_loud (refine HP.out.mono ?_); rintro e w4 ⟨v4, rfl, ho, hb⟩; obtain ⟨a4, c4, rfl⟩ := own_form ho; obtain ⟨W5, hW5⟩ : ∃ W5, (w4.alloc (.cells #[.int .u32 P.ep, .int .u32 P.nu, .bool P.wh, .slice a4 P.pl.length c4] 25)).alloc (.cells #[.int .u32 P.ep, .int .u32 P.nu, .bool P.wh, .slice a4 P.pl.length c4] 25) = W5 := ⟨_, rfl⟩; have HW5 := Lib.hid hW5; have HB5 : RowKit.Hid (Below wr.heap.size wr W5) := (by rw [← hW5]; exact (hb.alloc hb.size _).alloc (Nat.le_trans hb.size (by simp)) _); have HC5 : RowKit.Hid (Cel W5 (w4.heap.size + 1) 25 #[.int .u32 P.ep, .int .u32 P.nu, .bool P.wh, .slice a4 P.pl.length c4]) := (by have k := Cel.new (w4.alloc (.cells #[.int .u32 P.ep, .int .u32 P.nu, .bool P.wh, .slice a4 P.pl.length c4] 25)) 25 #[.int .u32 P.ep, .int .u32 P.nu, .bool P.wh, .slice a4 P.pl.length c4]; rw [hW5, World.size_alloc] at k; exact k); have HPy : RowKit.Hid (PyAt W5 B (P, a4, c4)) := (by have k := ((PyAt.own ho B).below (Below.alloc_new w4 (.cells #[.int .u32 P.ep, .int .u32 P.nu, .bool P.wh, .slice a4 P.pl.length c4] 25))).below (Below.alloc_new _ (.cells #[.int .u32 P.ep, .int .u32 P.nu, .bool P.wh, .slice a4 P.pl.length c4] 25)); rw [hW5] at k; exact k); clear ho hb hW5)
          | (at_builtin; go_loud (rw [HW5.out]); go_loud (refine append_pks rfl _ _ 42 rfl w.heap.size B 25 _ 40 Try.underlying42 info19_pks rfl (by decide) (by decide) (by omega) _ ps rfl (H.out.p.below HB5.out) (some ⟨w4.heap.size + 1, 0, none⟩) 1 1 [(P, a4, c4)] rfl rfl (fun e => by cases e) (fun ad e => by injection e with e; subst e; exact World.news_of_block HC5.out) (fun y hy => by simp at hy; subst hy; exact HPy.out) (by omega) (Nat.le_trans H.out.k.size HB5.out.size) ?_); intro v6 w6 hp6 hk6; go_loud (have H6 := Lib.hid (H.out.take hgl HPz.out.1 HPz.out.2.1 HPz.out.2.2 HB5.out hp6 hk6)); clear hp6 hk6)
          | fail)
        go_roundw
        case rel => exact ⟨_, _, _, _, _, _, rfl, H6.out⟩
        case measure => show n3 - z < n3; omega
      · have HP := Lib.hid (parse_no _ n3 c3 rest _ H.out.r (by omega) h0)
        obtain ⟨z, hz⟩ : ∃ z, prsE rest = z := ⟨_, rfl⟩
        rw [hz] at HP
        have HZ : RowKit.Hid (prsE rest ≠ 0 ∧ prsE rest ≠ 2) := ⟨h0, h2⟩
        have q0 : (z == 0) = false := by rw [hz] at h0; simpa using h0
        have q2 : (z == 2) = false := by rw [hz] at h2; simpa using h2
        obtain ⟨q, hq⟩ : ∃ q, lost + lo = q := ⟨_, rfl⟩
        have HQ := Lib.hid hq
        have hw1 : IntKind.i64.wrap ((q : Int) + 1) = (q : Int) + 1 := IntWalk.i64_in _ (by omega)
        have z3 : 1 ≤ n3 := by omega
        unfold pkZ at HP
        clear hz h0 h2 hq hn5 hrl hp hnum
        go_wp2_with (first
          | (go_at_call 8; go_loud (refine HP.out.mono ?_); rintro e w4 ⟨rfl, hb⟩; have HB4 := Lib.hid hb; have HB5 := Lib.hid (hb.alloc hb.size (.cells #[.int .u32 0, .int .u32 0, .bool false, .slice none 0 0] 25)); obtain ⟨c1, f1⟩ := cel_lost (H.out.e.below HB5.out) HQ.out; clear hb)
          | fail)
        go_roundw
        case rel => exact ⟨_, _, _, _, _, _, rfl, H.out.pass hB HZ.out.1 HZ.out.2 HB5.out (by rw [HQ.out]; omega)⟩
        case measure => show n3 - 1 < n3; omega
end Go.Proofs.Ytcjikbddnceigaa
