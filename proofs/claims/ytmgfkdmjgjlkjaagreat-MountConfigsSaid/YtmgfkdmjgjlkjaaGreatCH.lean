/- Plain facts, and what functions give, for the proofs of this seat: several texts in one, each with its own first remark. -/
import Derived.Test.YtmgfkdmjgjlkjaaGreatCG
import Derived.Deep.Grids
import Derived.Deep.DeepCutAuto

namespace Go.Proofs.YtmgfkdmjgjlkjaaGreat
open Go Go.RowKit
set_option linter.unusedVariables false
set_option linter.unusedSimpArgs false
theorem own_intsN {w : World} {base e n : Nat} {v : Value} {k : IntKind} {zs : List Int} (h : w.ownsRow base e 1 v n (zs.map (Value.int k))) : ∃ a c, v = .slice a n c ∧ IntsAt w w.heap.size k a n zs ∧ (a = none → c = 0) ∧ (∀ b off, a = some ⟨b, off, none⟩ → base ≤ b) := by
  obtain ⟨a, c, rfl, hi⟩ := own_ints h
  refine ⟨a, c, rfl, hi, own_none h, fun b off e => own_base h b ?_⟩
  rw [e]; rfl
def BytesPostN (b : List Int) (w : World) (x : Ending) (w' : World) : Prop := ∃ a c, x = .returned (.slice a b.length c) ∧ IntsAt w' w'.heap.size .u8 a b.length b ∧ (a = none → c = 0) ∧ (∀ q off, a = some ⟨q, off, none⟩ → w.heap.size ≤ q) ∧ Below w.heap.size w w'
set_option maxRecDepth 100000 in
theorem rBytes_any (base g r c : Nat) (D : List Int) (s : Int) (k : Nat) (w : World) (hE : EncMem w base g r c D s k) (hd : IsDig D) (hl : D.length ≤ 2000000) :
    Calls Tryz.prog 41 #[.pointer (some ⟨g, 0, none⟩)] w (BytesPostN (bytesL D) w) := by
  obtain ⟨c0, c1, c2⟩ := hE.cells
  have HE := Lib.hid hE
  have HD := Lib.hid hd
  clear hE hd c1 c2
  have HO := Lib.hid (World.ownsRow_nil w w.heap.size 5 1)
  go_enter Tryz.func41, Tryz.ntmps41
  go_wp2
  go_loop [4, 5] (fun a i => ∃ j : Nat, j ≤ D.length ∧ i = .int .i64 j ∧ a = .int .i64 (lastK D j)) (fun _ i => D.length - (intOf i).toNat)
  case atStart => exact ⟨0, by omega, rfl, rfl⟩
  case round =>
    obtain ⟨j, hj, rfl, rfl⟩ := hrel
    by_cases hlt : j < D.length
    · have hcell := HE.out.at_ hlt
      have E : RowKit.Hid (lastK D (j + 1) = if D.getD j 0 = 0 then lastK D j else j) := rfl
      have hjl : (j : Int) < (D.length : Int) := by omega
      generalize D.getD j 0 = x at hcell E
      by_cases hx : x = 0
      · have hq : (x != 0) = false := by simpa using hx
        have E2 : RowKit.Hid (lastK D j = lastK D (j + 1)) := by show _ = _; rw [E.out, if_pos hx]
        clear hx
        go_wp2
        go_round
        case rel => exact ⟨j + 1, by omega, by go_num, by rw [E2.out]⟩
        case measure => simp [intOf] <;> omega
      · have hq : (x != 0) = true := by simpa using hx
        have E2 : RowKit.Hid ((j : Int) = lastK D (j + 1)) := by show _ = _; rw [E.out, if_neg hx]
        clear hx
        go_wp2
        go_round
        case rel => exact ⟨j + 1, by omega, by go_num, by rw [E2.out]⟩
        case measure => simp [intOf] <;> omega
    · obtain rfl : j = D.length := by omega
      obtain ⟨b0, b1⟩ := lastK_bd D D.length
      have hbl := bytesL_len D
      obtain ⟨m, hm⟩ : ∃ m : Nat, lastK D D.length = (m : Int) - 1 := ⟨(lastK D D.length + 1).toNat, by omega⟩
      have hbm : (bytesL D).length = m := by rw [hbl, hm]; omega
      have HBm := Lib.hid hbm
      have HTk : RowKit.Hid (bytesL D = D.take m) := by
        show _ = _
        unfold bytesL; rw [hm]; congr 1; omega
      have hmD : m ≤ D.length := by omega
      rw [hm]
      clear hbl hm hbm b0 b1
      go_wp2
      go_loopw [3, 6] (fun v i wr => ∃ q : Nat, q ≤ m ∧ i = .int .i64 q ∧ RowKit.Hid (wr.ownsRow w.heap.size 5 1 v q ((D.take q).map (Value.int .u8)) ∧ Below w.heap.size w wr)) (fun _ i _ => m - (intOf i).toNat)
      case atStart => exact ⟨0, by omega, rfl, HO.out, Below.refl _ _⟩
      case round =>
        obtain ⟨q, hq, rfl, H⟩ := hrel
        clear c0
        have HEr := Lib.hid (HE.out.below H.out.2)
        obtain ⟨c0, _, _⟩ := HEr.out.cells
        by_cases hlt2 : q < m
        · have hcell := HEr.out.at_ (j := q) (by omega)
          obtain ⟨x0, x1⟩ := HD.out q (by omega)
          have HT := Lib.hid (take_snocI D q (by omega))
          have hql : (q : Int) < (D.length : Int) := by omega
          generalize D.getD q 0 = x at hcell x0 x1 HT
          have hsz := H.out.2.size
          have hown0 := Lib.hid (World.ownsRow.alloc H.out.1 (.cells #[.int .u8 x] 5))
          have hsrc := Lib.hid (lit_ints wr 5 .u8 [x] #[.int .u8 x] (0, 0) rfl (by simp))
          have hbel := Lib.hid (H.out.2.alloc hsz (.cells #[.int .u8 x] 5))
          have hob := Lib.hid (own_base H.out.1)
          have e1 : x % 256 = x := by omega
          go_wp2_with (at_builtin; go_loud (refine append_ints rfl _ _ 43 rfl w.heap.size 5 .u8 1 Tryz.underlying43 info_u806 _ q (D.take q) rfl hown0.out (some ⟨wr.heap.size, 0, none⟩) 1 1 _ [x] rfl hsrc.out (by simp) ?c1 ?c2 ?c3 ?_))
          case c1 => unfold maxLen; omega
          case c2 => omega
          case c3 => first | omega | (simp; omega)
          intro v2 w2 hown hgrow _
          have H2 : RowKit.Hid (w2.ownsRow w.heap.size 5 1 v2 (q + 1) ((D.take (q + 1)).map (Value.int .u8)) ∧ Below w.heap.size w w2) := by
            refine ⟨?_, hbel.out.grown hgrow (by simp; omega) hob.out⟩
            rw [HT.out]; simpa [List.map_take] using hown
          clear hown hgrow
          go_wp2
          go_roundw
          case rel => exact ⟨q + 1, by omega, by go_num, H2.out⟩
          case measure => simp [intOf] <;> omega
        · obtain rfl : q = m := by omega
          have HI := Lib.hid (own_intsN H.out.1)
          have HB2 := Lib.hid H.out.2
          clear H
          go_wp2
          go_ret
          obtain ⟨a, cc, rfl, hi, hn, hn2⟩ := HI.out
          refine ⟨a, cc, by rw [HBm.out]; rfl, ?_, hn, hn2, HB2.out⟩
          rw [HBm.out, HTk.out]; exact hi
def RSt (w : World) (base g : Nat) (E : EncS) (wr : World) : Prop := ∃ r c, EncMem wr base g r c (digL E.n (E.k + 4)) E.s E.k ∧ Below w.heap.size w wr ∧ w.heap.size ≤ base
theorem RSt.bits {w wr : World} {base g : Nat} {E : EncS} (h : RSt w base g E wr) (hG : GoodE E) (hk : E.k ≤ 1000) {n : Int} {wide : Nat} (n0 : 0 ≤ n) (n1 : n ≤ 4294967295) (hw : wide ≤ 24) :
    Calls Tryz.prog 36 #[.pointer (some ⟨g, 0, none⟩), .int .i64 n, .int .i64 wide] wr fun e w' => e = .returned (.tuple #[]) ∧ RSt w base g (encBits E n wide) w' := by
  obtain ⟨r, c, h1, h2, h3⟩ := h
  refine (refEncBits_any base g r c E n wide wr h1 hG (by omega) hw n0 n1).mono ?_
  rintro e w' ⟨rfl, r', c', k1, k2, k3⟩
  obtain ⟨l1, l2, l3, l4, l5⟩ := h1.lt
  exact ⟨rfl, r', c', k1, h2.trans (k2.below h2.size fun j hj => by rcases hj with e | e <;> omega), h3⟩
theorem RSt.put {w wr : World} {base g c cap cap2 : Nat} {E : EncS} {wh : Bool} {o : Option Nat} {l ah : Nat → Int} (h : RSt w base g E wr) (hG : GoodE E) (hk : E.k ≤ 1000) (hc : CutAt w c l) (hl : CutOk l) (hA : AhAt w wh o ah) :
    Calls Tryz.prog 38 #[.pointer (some ⟨g, 0, none⟩), .slice (some ⟨c, 0, none⟩) 21 cap, .slice (ahA o) (ahN o) cap2] wr fun e w' => e = .returned (.tuple #[]) ∧ RSt w base g (putN wh E l ah 21) w' := by
  obtain ⟨r, c', h1, h2, h3⟩ := h
  obtain ⟨l1, l2, l3, l4, l5⟩ := h1.lt
  obtain ⟨ds, d1, d2⟩ := (hA.below h2).at_
  have hcl := hc.lt
  have := ref10Put_any base g r c' E wh (some ⟨c, 0, none⟩) (ahA o) (ahN o) cap cap2 (tabF 21 l) ds wr h1 hG (by omega) (CutAt.ints (hc.below h2 hcl)) hl.right (fun b off e => by injection e with e; injection e with e; omega) d1 (fun hw b off e => by
    rcases hA with ⟨rfl, _⟩ | ⟨_, _, r', rfl, h4⟩
    · cases hw
    · have e : some (⟨r', 0, none⟩ : Addr) = some ⟨b, off, none⟩ := e
      injection e with e; injection e with e
      have := IFun.lt h4
      omega)
  rw [hl.tab, d2] at this
  refine this.mono ?_
  rintro e w' ⟨rfl, r2, c2, k1, k2, k3⟩
  exact ⟨rfl, r2, c2, k1, h2.trans (k2.below h2.size fun j hj => by rcases hj with e | e <;> omega), h3⟩
theorem RSt.bytes {w wr : World} {base g : Nat} {E : EncS} (h : RSt w base g E wr) (hk : E.k ≤ 10000) :
    Calls Tryz.prog 41 #[.pointer (some ⟨g, 0, none⟩)] wr (BytesPostN (bytesE E) wr) := by
  obtain ⟨r, c, h1, h2, h3⟩ := h
  exact rBytes_any base g r c _ _ _ wr h1 (digL_dig _ _) (by rw [digL_len]; omega)
theorem RSt.new (w wr : World) (h : Below w.heap.size w wr) : Calls Tryz.prog 35 #[] wr fun e w' => e = .returned (.pointer (some ⟨wr.heap.size + 1, 0, none⟩)) ∧ RSt w wr.heap.size (wr.heap.size + 1) encNew w' := by
  refine (refEncNew_any wr).mono ?_
  rintro e w' ⟨rfl, h1, h2⟩
  exact ⟨rfl, _, _, h1, chain h h2, h.size⟩
end Go.Proofs.YtmgfkdmjgjlkjaaGreat

namespace Go.Proofs.YtmgfkdmjgjlkjaaGreat
open Go Go.RowKit
set_option linter.unusedVariables false
set_option linter.unusedSimpArgs false
theorem RSt.below {w wr : World} {base g : Nat} {E : EncS} (h : RSt w base g E wr) : Below w.heap.size w wr := by
  obtain ⟨r, c, h1, h2, h3⟩ := h
  exact h2
end Go.Proofs.YtmgfkdmjgjlkjaaGreat

namespace Go.Proofs.YtmgfkdmjgjlkjaaGreat
open Go Go.RowKit
set_option linter.unusedVariables false
set_option linter.unusedSimpArgs false
set_option maxRecDepth 100000
def KpAt (w : World) (base : Nat) (D : Nat → Prop) (v : Value) (K : List Pk) : Prop := ∃ xs : List PkX, xs.map (·.1) = K ∧ w.ownsRow base 45 4 v xs.length (pkFlat xs) ∧ (∀ x, x ∈ xs → PlAt w D x.2.1 x.1.pl.length x.2.2 x.1.pl) ∧ (xs = [] → v.ownBlock = none)
section
variable {w w' : World} {base : Nat} {D E F : Nat → Prop} {v : Value} {K : List Pk}
theorem KpAt.nil (w : World) (base : Nat) (D : Nat → Prop) : KpAt w base D (.slice none 0 0) [] := ⟨[], rfl, World.ownsRow_nil w base _ 4, (fun x hx => by simp at hx), fun _ => rfl⟩
theorem KpAt.keeps (h : KpAt w base D v K) (hk : Keeps F w w') (h1 : ∀ j, F j → ¬ D j) (h2 : ∀ j, F j → v.ownBlock ≠ some j) : KpAt w' base D v K := by
  obtain ⟨xs, e, ho, hp, hn⟩ := h
  exact ⟨xs, e, own_keeps ho hk fun k hg hf => h2 k hf hg, fun x hx => (hp x hx).keeps hk h1, hn⟩
theorem KpAt.below (h : KpAt w base D v K) (hb : Below w.heap.size w w') : KpAt w' base D v K := h.keeps (F := fun _ => False) (.of_below hb) (fun _ c => c.elim) fun _ c => c.elim
theorem KpAt.weaken (h : KpAt w base D v K) (hD : ∀ j, D j → j < w.heap.size → E j) : KpAt w base E v K := by
  obtain ⟨xs, e, ho, hp, hn⟩ := h
  exact ⟨xs, e, ho, fun x hx => (hp x hx).weaken hD, hn⟩
theorem KpAt.form (h : KpAt w base D v K) : ∃ a n c, v = .slice a n c ∧ n = K.length := by
  obtain ⟨xs, e, ho, hp⟩ := h
  rw [← e, List.length_map]
  rcases ho.2 with ⟨rfl, hn⟩ | ⟨g, cap, cur, rfl, _⟩
  · exact ⟨_, _, _, rfl, hn.symm⟩
  · exact ⟨_, _, _, rfl, rfl⟩
theorem KpAt.lt (h : KpAt w base D v K) {j : Nat} (hj : v.ownBlock = some j) : j < w.heap.size ∧ base ≤ j ∧ ∃ cs, Cel w j 45 cs := by
  obtain ⟨xs, e, ho, hp⟩ := h
  rcases ho.2 with ⟨rfl, hn⟩ | ⟨g, cap, cur, rfl, h1, h2, _⟩
  · simp [Value.ownBlock] at hj
  · simp only [Value.ownBlock, Option.some.injEq] at hj
    subst hj
    have hc : Cel w g 45 cur := h2
    exact ⟨hc.lt, h1, _, hc⟩
theorem KpAt.first (h : KpAt w base D v K) {j : Nat} (hj : v.ownBlock = some j) : ∃ cs v0, Cel w j 45 cs ∧ cs[0]? = some v0 ∧ ∀ x, v0 ≠ .int .u8 x := by
  obtain ⟨xs, e, ho, hp, hn⟩ := h
  cases xs with
  | nil =>
    rw [hn rfl] at hj
    cases hj
  | cons x xs =>
    rcases ho.2 with ⟨rfl, hn⟩ | ⟨g, cap, cur, rfl, h1, h2, h3, h4, h5, h6⟩
    · simp [Value.ownBlock] at hj
    · simp only [Value.ownBlock, Option.some.injEq] at hj
      subst hj
      refine ⟨cur, .int .u32 x.1.ep, h2, ?_, fun y e => (by injection e with e; cases e)⟩
      have h7 : (pkFlat (x :: xs))[0]? = some (.int .u32 x.1.ep) := rfl
      rw [← h6, List.getElem?_take] at h7
      split at h7
      · rw [← Array.getElem?_toList]; exact h7
      · cases h7
theorem PlAt.lt {a : Option Addr} {m c : Nat} {zs : List Int} (h : PlAt w D a m c zs) {r off : Nat} (e : a = some ⟨r, off, none⟩) (h0 : 0 < m) : r < w.heap.size := by
  rcases h.i.2 with h1 | ⟨b, off', e', h2, _⟩
  · omega
  · rw [e] at e'
    injection e' with e'
    injection e' with e'
    omega
theorem KpAt.pks (h : KpAt w base D v K) : PksAt w base w.heap.size 45 v K := by
  obtain ⟨xs, e, ho, hp, hn⟩ := h
  exact ⟨xs, e, ho, fun x hx => ⟨(hp x hx).i, (hp x hx).n, fun r off e h0 => .inr ((hp x hx).lt e h0)⟩⟩
end
def AcX (ev kv tv : Value) (j : Nat) : Prop := ev = .pointer (some ⟨j, 0, none⟩) ∨ kv.ownBlock = some j ∨ tv.ownBlock = some j
def AcD (M : List Nat) (ev kv tv : Value) (j : Nat) : Prop := j ∉ M ∧ ¬ AcX ev kv tv j
structure AcG (w : World) (B g gc : Nat) (M : List Nat) (c : Cfg) (ep : Int) (ev kv tv : Value) (o : Option S13) (ps : List Pk) (T : List ByteArray) (oR : Option S13) (K : List Pk) (L : List ByteArray) (wr : World) : Prop where
  b : Below w.heap.size w wr
  hB : w.heap.size ≤ B ∧ B ≤ wr.heap.size
  cc : Cel wr gc 27 c.vals
  m : MtM wr B g M (AcX ev kv tv) c ep o ps T
  k : ∀ S, oR = some S → KpAt wr w.heap.size (AcD M ev kv tv) kv K ∧ ∃ gr, ev = .pointer (some ⟨gr, 0, none⟩) ∧ w.heap.size ≤ gr ∧ RefAt wr gr c.q c.b.toNat S
  tt : wr.ownsRow w.heap.size 9 1 tv L.length (L.map Value.string)
  kf : ∃ a n cc, kv = .slice a n cc
  xl : ∀ j, AcX ev kv tv j → j < wr.heap.size
section
variable {w wr w' : World} {B g gc : Nat} {M : List Nat} {c : Cfg} {ep : Int} {ev kv tv : Value} {o oR o' : Option S13} {ps ps' K : List Pk} {T T' L : List ByteArray}
theorem AcG.below (h : AcG w B g gc M c ep ev kv tv o ps T oR K L wr) (hb : Below wr.heap.size wr w') : AcG w B g gc M c ep ev kv tv o ps T oR K L w' := by
  refine ⟨chain h.b hb, ⟨h.hB.1, Nat.le_trans h.hB.2 hb.size⟩, h.cc.below hb, h.m.below hb, fun S hS => ?_, own_keeps h.tt (.of_below (F := fun _ => False) hb) fun _ _ c => c, h.kf, fun j hj => Nat.lt_of_lt_of_le (h.xl j hj) hb.size⟩
  obtain ⟨h1, gr, h2, h3, h4⟩ := h.k S hS
  exact ⟨h1.below hb, gr, h2, h3, h4.below hb⟩
theorem mtF_ne {j : Nat} {t : TypeId} {cs : Array Value} (hc : Cel wr j t cs) (hf : MtF wr B j) (h1 : t ≠ 64) (h2 : t ≠ 130) (h3 : t ≠ 115) (h4 : t ≠ 172) (h5 : t ≠ 175) : False := by
  obtain ⟨_, t', ht, hx⟩ := hf
  have hc' := hc.typ19
  rcases hx with rfl | rfl | rfl | rfl | rfl
  · exact hc'.ne ht h1 rfl
  · exact hc'.ne ht h2 rfl
  · exact hc'.ne ht h3 rfl
  · exact hc'.ne ht h4 rfl
  · exact hc'.ne ht h5 rfl
theorem own_celT {base n size : Nat} {e : TypeId} {v : Value} {xs : List Value} (h : wr.ownsRow base e size v n xs) {j : Nat} (hj : v.ownBlock = some j) : j < wr.heap.size ∧ base ≤ j ∧ ∃ cs, Cel wr j e cs := by
  rcases h.2 with ⟨rfl, hn⟩ | ⟨g, cap, cur, rfl, h1, h2, _⟩
  · simp [Value.ownBlock] at hj
  · simp only [Value.ownBlock, Option.some.injEq] at hj
    subst hj
    have hc : Cel wr g e cur := h2
    exact ⟨hc.lt, h1, _, hc⟩
theorem refAt_mt {gr : Nat} {Q : Int} {N : Nat} {S : S13} (h : RefAt wr gr Q N S) (hk : Keeps (MtF wr B) wr w') : RefAt w' gr Q N S := by
  refine h.keeps hk fun j hj => ?_
  obtain ⟨_, t', ⟨cs, fr, ht⟩, hx⟩ := hj
  refine ⟨t', ⟨cs, fr, ht⟩, ?_⟩
  rcases hx with rfl | rfl | rfl | rfl | rfl <;> decide
theorem AcG.prog (h : AcG w B g gc M c ep ev kv tv o ps T oR K L wr) (hm : MtM w' B g M (AcX ev kv tv) c ep o' ps' T') (hk : Keeps (MtG wr B M) wr w') : AcG w B g gc M c ep ev kv tv o' ps' T' oR K L w' := by
  refine ⟨h.b.trans (hk.below h.b.size fun j hj => Nat.le_trans h.hB.1 hj.1.1), ⟨h.hB.1, Nat.le_trans h.hB.2 hk.size⟩, h.cc.keeps hk fun hf => mtF_ne h.cc hf.1 (by decide) (by decide) (by decide) (by decide) (by decide), hm, fun S hS => ?_, own_keeps h.tt hk fun j hj hf => ?_, h.kf, fun j hj => Nat.lt_of_lt_of_le (h.xl j hj) hk.size⟩
  · obtain ⟨h1, gr, h2, h3, h4⟩ := h.k S hS
    refine ⟨h1.keeps hk (fun j hj hd => hd.1 hj.2) fun j hj he => ?_, gr, h2, h3, refAt_mt h4 (hk.mono fun j hj => hj.1)⟩
    obtain ⟨_, _, cs, hc⟩ := h1.lt he
    exact mtF_ne hc hj.1 (by decide) (by decide) (by decide) (by decide) (by decide)
  · obtain ⟨_, _, cs, hc⟩ := own_celT h.tt hj
    exact mtF_ne hc hf.1 (by decide) (by decide) (by decide) (by decide) (by decide)
end
end Go.Proofs.YtmgfkdmjgjlkjaaGreat

namespace Go.Proofs.YtmgfkdmjgjlkjaaGreat
open Go Go.RowKit
set_option linter.unusedVariables false
set_option linter.unusedSimpArgs false
set_option maxRecDepth 100000
section
variable {w wr w' : World} {B g gc t : Nat} {M M' : List Nat} {c : Cfg} {ep ep' : Int} {ev kv tv kv' tv' ev' : Value} {o oR o' : Option S13} {ps ps' K K' : List Pk} {T T' L : List ByteArray} {S : S13}
theorem AcG.kept {p : Pk} (h : AcG w B g gc M c ep ev kv tv o ps T (some S) K L wr) (hk : KpAt w' w.heap.size (fun j => AcD M ev kv tv j ∧ j < wr.heap.size) kv' (K ++ [p])) (hg : wr.grownBy w' kv.ownBlock) (hb : kv'.ownBlock = kv.ownBlock ∨ kv'.ownBlock = some wr.heap.size) :
    AcG w B g gc M c ep ev kv' tv o ps T (some S) (K ++ [p]) L w' := by
  obtain ⟨h1, gr, h2, h3, h4⟩ := h.k S rfl
  have kk : Keeps (fun j => kv.ownBlock = some j) wr w' := Keeps.of_grown hg fun k hk => hk
  have hx : ∀ j, AcX ev kv' tv j → AcX ev kv tv j ∨ wr.heap.size ≤ j := by
    rintro j (e | e | e)
    · exact .inl (.inl e)
    · rcases hb with hb | hb
      · rw [hb] at e
        exact .inl (.inr (.inl e))
      · rw [hb] at e
        injection e with e
        exact .inr (by omega)
    · exact .inl (.inr (.inr e))
  refine ⟨h.b.trans (kk.below h.b.size fun j hj => (h1.lt hj).2.1), ⟨h.hB.1, Nat.le_trans h.hB.2 kk.size⟩, h.cc.keeps kk fun e => ?_, ?_, fun S0 hS => ?_, own_keeps h.tt kk fun j hj e => ?_, ?_, fun j hj => ?_⟩
  · obtain ⟨_, _, cs, hc⟩ := h1.lt e
    exact h.cc.ne hc (by decide) rfl
  · refine ((h.m.weaken (Y := fun j => AcX ev kv tv j ∨ wr.heap.size ≤ j) fun j hj hy => hy.elim id fun e => (by omega)).keeps kk fun j hj => ?_).weaken fun j _ hy => hx j hy
    obtain ⟨_, _, cs, hc⟩ := h1.lt hj
    exact ⟨.inl (.inr (.inl hj)), _, _, hc, by decide, by decide, by decide, by decide, by decide, by decide, by decide, by decide, by decide⟩
  · injection hS with hS
    subst hS
    refine ⟨hk.weaken fun j hj _ => ⟨hj.1.1, fun hy => ?_⟩, gr, h2, h3, h4.keeps kk fun j hj => ?_⟩
    · rcases hx j hy with e | e
      · exact hj.1.2 e
      · have := hj.2
        omega
    · obtain ⟨_, _, cs, hc⟩ := h1.lt hj
      exact ⟨_, Cel.typ hc, by decide, by decide, by decide⟩
  · obtain ⟨_, _, cs, hc⟩ := h1.lt e
    obtain ⟨_, _, cs', hc'⟩ := own_celT h.tt hj
    exact hc'.ne hc (by decide) rfl
  · obtain ⟨a, n, cc, e, _⟩ := hk.form
    exact ⟨a, n, cc, e⟩
  · rcases hj with e | e | e
    · exact Nat.lt_of_lt_of_le (h.xl j (.inl e)) kk.size
    · exact (hk.lt e).1
    · exact Nat.lt_of_lt_of_le (h.xl j (.inr (.inr e))) kk.size
theorem AcG.mt (h : AcG w B g gc M c ep ev kv tv o ps T oR K L wr) (hm : MtM w' B g M' (AcX ev kv tv) c ep' o' ps' T') (hk : Keeps (MtF wr B) wr w') : AcG w B g gc M' c ep' ev kv tv o' ps' T' none K' L w' := by
  refine ⟨h.b.trans (hk.below h.b.size fun j hj => Nat.le_trans h.hB.1 hj.1), ⟨h.hB.1, Nat.le_trans h.hB.2 hk.size⟩, h.cc.keeps hk fun hf => mtF_ne h.cc hf (by decide) (by decide) (by decide) (by decide) (by decide), hm, fun S hS => (by cases hS), own_keeps h.tt hk fun j hj hf => ?_, h.kf, fun j hj => Nat.lt_of_lt_of_le (h.xl j hj) hk.size⟩
  obtain ⟨_, _, cs, hc⟩ := own_celT h.tt hj
  exact mtF_ne hc hf (by decide) (by decide) (by decide) (by decide) (by decide)
end
structure AcSt (w : World) (B g gc : Nat) (c : Cfg) (t : Nat) (ep : Int) (ev kv tv : Value) (o : Option S13) (ps : List Pk) (T : List ByteArray) (wr : World) : Prop where
  g : ∃ M, AcG w B g gc M c ep ev kv tv o ps (last5 T) o ps T wr
  p : PsOk c.p.toNat ps
  n : ps.length ≤ t ∧ T.length ≤ t
  e : 0 ≤ ep ∧ ep ≤ 4294967295
  s : ∀ S, o = some S → S.Ok ∧ (S.fs = true → ps = [])
section
variable {w wr w' : World} {B g gc t : Nat} {c : Cfg} {ep ep' : Int} {ev kv tv : Value} {o : Option S13} {ps : List Pk} {T : List ByteArray} {S : S13} {M : List Nat}
theorem AcSt.below (h : AcSt w B g gc c t ep ev kv tv o ps T wr) (hb : Below wr.heap.size wr w') : AcSt w B g gc c t ep ev kv tv o ps T w' := by
  obtain ⟨M, hg⟩ := h.g
  exact ⟨⟨M, hg.below hb⟩, h.p, h.n, h.e, h.s⟩
theorem AcSt.more (h : AcSt w B g gc c t ep ev kv tv o ps T wr) : AcSt w B g gc c (t + 1) ep ev kv tv o ps T wr := ⟨h.g, h.p, ⟨by have := h.n.1; omega, by have := h.n.2; omega⟩, h.e, h.s⟩
theorem AcSt.mt (h : AcSt w B g gc c t ep ev kv tv o ps T wr) : MtAt wr B g (AcX ev kv tv) c ep o ps (last5 T) := by
  obtain ⟨M, hg⟩ := h.g
  exact hg.m.at_
theorem AcSt.bel (h : AcSt w B g gc c t ep ev kv tv o ps T wr) : Below w.heap.size w wr := by
  obtain ⟨M, hg⟩ := h.g
  exact hg.b
theorem AcSt.kept (h : AcSt w B g gc c t ep ev kv tv (some S) ps T wr) : PksAt wr w.heap.size wr.heap.size 45 kv ps := by
  obtain ⟨M, hg⟩ := h.g
  exact (hg.k S rfl).1.pks
theorem AcSt.start {gr : Nat} (h : AcSt w B g gc c t ep (.pointer (some ⟨gr, 0, none⟩)) (.slice none 0 0) tv none ps T wr) (hr : RefAt wr gr c.q c.b.toNat s13Zero) (hgr : w.heap.size ≤ gr) (he : 0 ≤ ep' ∧ ep' ≤ 4294967295) :
    Calls Tryz.prog 10 #[.pointer (some ⟨g, 0, none⟩), .int .u32 ep'] wr fun e w' => e = .returned (.int .i64 0) ∧ AcSt w B g gc c t ep' (.pointer (some ⟨gr, 0, none⟩)) (.slice none 0 0) tv (some s13Zero) [] T w' := by
  obtain ⟨M, hg⟩ := h.g
  refine (mtStart_any ep' hg.m.at_ hg.hB.2).mono ?_
  rintro e w' ⟨rfl, hm, hk⟩
  obtain ⟨M', hm'⟩ := hm.m
  have hg' := hg.mt (K' := []) hm' hk
  refine ⟨rfl, ⟨M', hg'.b, hg'.hB, hg'.cc, hg'.m, fun S hS => ⟨KpAt.nil _ _ _, gr, rfl, hgr, ?_⟩, hg'.tt, hg'.kf, hg'.xl⟩, PsOk.nil _, ⟨Nat.zero_le _, h.n.2⟩, he, fun S hS => ?_⟩
  · injection hS with hS
    subst hS
    exact refAt_mt hr hk
  · injection hS with hS
    subst hS
    exact ⟨s13Zero_ok, fun _ => rfl⟩
theorem AcSt.frame (x : Nat) (f : Nat → Int) (h : AcSt w B g gc c t ep ev kv tv (some S) ps T wr) (ht : t ≤ 100) (hf : IFun wr x 77 .i16 512 f) (hb : ∀ i, i < 512 → -32768 ≤ f i ∧ f i ≤ 32767) :
    Calls Tryz.prog 12 #[.pointer (some ⟨g, 0, none⟩), .slice (some ⟨x, 0, none⟩) 512 512] wr fun e w' => ∃ M rr cp, e = .returned (.tuple #[.agg (pkC (nextP c ep S ps.length f) (some ⟨rr, 0, none⟩) (nextP c ep S ps.length f).pl.length cp), .int .i64 0]) ∧
      IntsAt w' w'.heap.size .u8 (some ⟨rr, 0, none⟩) (nextP c ep S ps.length f).pl.length (nextP c ep S ps.length f).pl ∧ AcG w B g gc M c ep ev kv tv (some (S.next c.q c.b.toNat f ps.length (asksW c ps.length))) (ps ++ [nextP c ep S ps.length f]) (last5 T) (some S) ps T w' := by
  obtain ⟨M, hg⟩ := h.g
  refine (mtFrame_any x f hg.m hg.xl hg.hB.2 (by have := h.n.1; omega) hf hb).mono ?_
  rintro e w' ⟨rr, cp, rfl, hi, hm, hk⟩
  exact ⟨M, rr, cp, rfl, hi, hg.prog hm hk⟩
end
section
variable {w wr w' : World} {B g gc t : Nat} {c : Cfg} {ep : Int} {ev kv tv : Value} {o : Option S13} {ps : List Pk} {T : List ByteArray}
end
section
variable {w wr : World} {B g gc t : Nat} {c : Cfg} {ep : Int} {ev kv : Value} {o : Option S13} {ps : List Pk} {T : List ByteArray}
end
end Go.Proofs.YtmgfkdmjgjlkjaaGreat

namespace Go.Proofs.YtmgfkdmjgjlkjaaGreat
open Go.ChangeShapes Go.WideShapes Go.ChangeAt Go.RowKit Go.Deep
set_option linter.unusedVariables false
theorem cfg_in23 {P : Program} {H : Type} {enc : TypeId × Value → H} {w : World} {base b0 n : Nat} {held : Bool} {r : Reach} {t : TypeId} {fs : Array Field} {v : Value} {d : DataW H} {ps : List MemPlace}
    (ht : P.underlying t = some (.struct fs)) (hk : flatKT P n t = some [.str, .str, .str, .str, .int .i64, .int .i64, .int .i64, .int .i64, .int .i64])
    (hval : Value.okWide P w r b0 t v) (hd : DataW.Trod enc P w base (fun _ => true) held t v d ps) : ∃ c : Cfg, v = .agg c.vals ∧ c.Fit := by
  simp only [Value.okWide, ht] at hval
  obtain ⟨cs, rfl, hs, _⟩ := hval
  obtain ⟨fuel, hf⟩ := hd
  obtain ⟨h1, h2⟩ := flatT_ok hk hf
  simp only [Value.cells] at h1 h2
  obtain ⟨v0, e0, c0, rfl, k0⟩ := h2 0 _ rfl
  obtain ⟨v1, e1, c1, rfl, k1⟩ := h2 1 _ rfl
  obtain ⟨v2, e2, c2, rfl, k2⟩ := h2 2 _ rfl
  obtain ⟨v3, e3, c3, rfl, k3⟩ := h2 3 _ rfl
  obtain ⟨v4, e4, c4, rfl, k4⟩ := h2 4 _ rfl
  obtain ⟨v5, e5, c5, rfl, k5⟩ := h2 5 _ rfl
  obtain ⟨v6, e6, c6, rfl, k6⟩ := h2 6 _ rfl
  obtain ⟨v7, e7, c7, rfl, k7⟩ := h2 7 _ rfl
  obtain ⟨v8, e8, c8, rfl, k8⟩ := h2 8 _ rfl
  refine ⟨⟨c0, c1, c2, c3, c4, c5, c6, c7, c8⟩, ?_, k0, k1, k3⟩
  unfold Cfg.vals
  congr 1
  apply Array.ext'
  match hq : cs.toList, h1, e0, e1, e2, e3, e4, e5, e6, e7, e8 with
  | [x0, x1, x2, x3, x4, x5, x6, x7, x8], _, e0, e1, e2, e3, e4, e5, e6, e7, e8 =>
    simp at e0 e1 e2 e3 e4 e5 e6 e7 e8
    rw [e0, e1, e2, e3, e4, e5, e6, e7, e8]
end Go.Proofs.YtmgfkdmjgjlkjaaGreat

namespace Go.Proofs.YtmgfkdmjgjlkjaaGreat
open Go Go.RowKit
set_option linter.unusedVariables false
set_option linter.unusedSimpArgs false
set_option maxRecDepth 100000
theorem mountNil_long (s : ByteArray) (w : World) (h : 100 < s.size) : Calls Tryz.prog 5 #[.string s] w fun e w' => e = .returned (.bool true) ∧ Below w.heap.size w w' := by
  have q : decide ((100 : Int) < (s.size : Int)) = true := by simp; omega
  have HB := Lib.hid (Below.refl w.heap.size w)
  go_enter Tryz.func5, Tryz.ntmps5
  go_wp2_with (go_at_call 6; go_loud (refine (lives23_any _).mono ?_); rintro e w2 ⟨rfl, hb⟩; replace HB := Lib.hid (chain HB.out hb); clear hb)
  go_ret
  exact ⟨rfl, HB.out⟩
set_option maxHeartbeats 4000000 in
theorem mountNil_in (s : ByteArray) (w : World) (h : s.size ≤ 100) : Calls Tryz.prog 5 #[.string s] w fun e w' => e = .returned (.bool true) ∧ Below w.heap.size w w' := by
  have q : decide ((100 : Int) < (s.size : Int)) = false := by simp; omega
  have HB := Lib.hid (Below.refl w.heap.size w)
  have hmk : ∀ w : World, (Instr.makeSlice 22 (.int .i64 512) (.int .i64 512)).run Tryz.prog w = .ok (.slice (some ⟨w.heap.size, 0, none⟩) 512 512) (w.alloc (.cells (madeCells #[.int .i16 0] 512) 77)) :=
    fun w => make_zeros (P := Tryz.prog) Tryz.underlying22 infoC_i16 512 (by decide) (by decide) w
  have HZ : RowKit.Hid (∀ w : World, Below w.heap.size w (w.alloc (.cells (madeCells #[.int .i16 0] 512) 77))) := fun w => Below.alloc_new w _
  generalize madeCells #[Value.int .i16 0] 512 = mc at hmk HZ
  go_enter Tryz.func5, Tryz.ntmps5
  go_wp2_with (first
    | (go_at_call 6; go_loud (refine (lives23_any _).mono ?_); rintro e w2 ⟨rfl, hb⟩; replace HB := Lib.hid (chain HB.out hb); clear hb)
    | (go_at_call 12; go_loud (refine (mtFrame_nil _ _ _ _).mono ?_); rintro e w3 ⟨rfl, hb⟩; unfold pkC; go_loud (replace HB := Lib.hid (chain (chain (chain HB.out (HZ.out _)) hb) (Below.alloc_new _ (.cells #[.int .u32 0, .int .u32 0, .bool false, .slice none 0 0] 45)))); clear hb; simp only [pkN, List.length_nil])
    | (go_at_call 10; go_loud (refine (mtStart_nil _ _).mono ?_); rintro e w4 ⟨rfl, rfl⟩)
    | (go_at_call 11; go_loud (refine (mtStop_nil _).mono ?_); rintro e w4 ⟨rfl, rfl⟩)
    | (go_at_call 15; go_loud (refine (mtTitle_nil _ _).mono ?_); rintro e w4 ⟨rfl, rfl⟩)
    | (go_at_call 18; go_loud (refine (mtLive_nil _).mono ?_); rintro e w4 ⟨rfl, rfl⟩)
    | (go_at_call 19; go_loud (refine (mtNow_nil _).mono ?_); rintro e w4 ⟨rfl, rfl⟩)
    | (go_at_call 21; go_loud (refine (mtHistory_nil _).mono ?_); rintro e w4 ⟨rfl, rfl⟩)
    | (go_at_call 23; go_loud (refine (mtBurst_nil _).mono ?_); rintro e w4 ⟨rfl, rfl⟩)
    | fail)
  go_ret
  exact ⟨rfl, HB.out⟩
end Go.Proofs.YtmgfkdmjgjlkjaaGreat
