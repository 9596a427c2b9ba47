/- Plain facts, and what functions give, for the proofs of this seat: several texts in one, each with its own first remark. -/
import Derived.Test.YtmgfkdmjgjlkjaaGreatAw
import Derived.Test.YtmgfkdmjgjlkjaaGreatAt

namespace Go.Proofs.YtmgfkdmjgjlkjaaGreat
open Go.RowKit
set_option linter.unusedVariables false
theorem EncAt.ne_cel {w : World} {base g m : Nat} {v : Value} {e : EncS} {t : TypeId} {cs : Array Value} (h : EncAt w base g v e) (k : Cel w m t cs) (h1 : t ≠ 239) (h2 : 5 ≠ t) : m ≠ g ∧ v.ownBlock ≠ some m := by
  obtain ⟨D, last, q1, q2⟩ := h
  exact ⟨cel_ne k q1.1 h1, fun c => own_ne_cel q1.2.1 k h2 m c rfl⟩
def PutQ (w : World) (base g mg : Nat) (v : Value) (S : EncS × List Int) (wr : World) : Prop :=
  ∃ v', EncAt wr base g v' S.1 ∧ ModAt wr mg S.2 false ∧ Keeps (fun j => j = g ∨ v.ownBlock = some j ∨ j = mg) w wr ∧ (∀ j, v'.ownBlock = some j → v.ownBlock = some j ∨ w.heap.size ≤ j)
section
variable {w wr w' : World} {base g mg : Nat} {v : Value} {S S' : EncS × List Int}
theorem PutQ.start (h : EncAt w base g v S.1) (hm : ModAt w mg S.2 false) : PutQ w base g mg v S w := ⟨v, h, hm, Keeps.refl _ w, fun _ h => .inl h⟩
theorem PutQ.below (h : PutQ w base g mg v S wr) (hb : Below wr.heap.size wr w') : PutQ w base g mg v S w' := by
  obtain ⟨v', h1, h2, h3, h4⟩ := h
  exact ⟨v', h1.below hb, h2.below hb, h3.trans (.of_below hb), h4⟩
theorem PutQ.drewN (h : PutQ w base g mg v S wr) (n : Nat) : PutQ w base g mg v S (wr.drewN n) := by
  obtain ⟨v', h1, h2, h3, h4⟩ := h
  exact ⟨v', h1.drewN n, h2.drewN n, h3.drewN n, h4⟩
theorem PutQ.step {v' v2 : Value} (h3 : Keeps (fun j => j = g ∨ v.ownBlock = some j ∨ j = mg) w wr) (h4 : ∀ j, v'.ownBlock = some j → v.ownBlock = some j ∨ w.heap.size ≤ j)
    (k1 : EncAt w' base g v2 S'.1) (km : ModAt w' mg S'.2 false) (k2 : Keeps (fun j => j = g ∨ v'.ownBlock = some j ∨ j = mg) wr w') (k3 : ∀ j, v2.ownBlock = some j → v'.ownBlock = some j ∨ wr.heap.size ≤ j) : PutQ w base g mg v S' w' := by
  refine ⟨v2, k1, km, h3.then_ k2 fun j hj => ?_, fun j hj => ?_⟩
  · rcases hj with hj | hj | hj
    · exact .inl (.inl hj)
    · rcases h4 j hj with c | c
      · exact .inl (.inr (.inl c))
      · exact .inr c
    · exact .inl (.inr (.inr hj))
  · rcases k3 j hj with c | c
    · exact h4 j c
    · exact .inr (Nat.le_trans h3.size c)
theorem PutQ.sym (hw : PutQ w base g mg v S wr) (hG : GoodE S.1) (hL : GoodL S.2) {s : Nat} (hs : s < S.2.length) (hk : S.1.k ≤ 800000) :
    Calls Tryz.prog 189 #[.pointer (some ⟨g, 0, none⟩), .pointer (some ⟨mg, 0, none⟩), .int .i64 s] wr fun e w' => e = .returned (.int .i64 0) ∧ PutQ w base g mg v (encSym S.1 S.2 s, learnP S.2 s) w' := by
  obtain ⟨v', h1, h2, h3, h4⟩ := hw
  refine (rncSymbol_any base g v' mg S.1 S.2 false s wr h1 h2 hG hL hs hk).mono ?_
  rintro e w2 ⟨rfl, v2, k1, km, k2, k3⟩
  exact ⟨rfl, PutQ.step (S' := (encSym S.1 S.2 s, learnP S.2 s)) h3 h4 k1 km k2 k3⟩
theorem PutQ.bits (hw : PutQ w base g mg v S wr) (hG : GoodE S.1) {n : Int} {wide : Nat} (n0 : 0 ≤ n) (hw24 : wide ≤ 24) (hn : n < P2 wide) (hk : S.1.k ≤ 800000) :
    Calls Tryz.prog 159 #[.pointer (some ⟨g, 0, none⟩), .int .u32 n, .int .i64 wide] wr fun e w' => e = .returned (.int .i64 0) ∧ PutQ w base g mg v (encBits S.1 n wide, S.2) w' := by
  obtain ⟨v', h1, h2, h3, h4⟩ := hw
  have hne := h1.ne_mod h2
  have hp : P2 wide ≤ 16777216 := by
    have := P2_mono (a := wide) (b := 24) hw24
    rw [show P2 24 = 16777216 by decide] at this
    exact this
  refine (rncBits_any base g v' S.1 n wide wr h1 hG n0 (by omega) hw24 hn hk).mono ?_
  rintro e w2 ⟨rfl, v2, k1, k2, k3⟩
  refine ⟨rfl, PutQ.step (S' := (encBits S.1 n wide, S.2)) h3 h4 k1 (h2.keeps k2 ?_) (k2.mono fun j hj => hj.elim .inl fun c => .inr (.inl c)) k3⟩
  rintro (c | c)
  · exact hne.1 c
  · exact hne.2 c
end
set_option maxHeartbeats 400000 in
set_option maxRecDepth 100000 in
theorem qPut1_any (w : World) (base g mg : Nat) (v : Value) (S : EncS × List Int) (q : Int) (wr : World) (h : PutQ w base g mg v S wr) (hG : GoodE S.1) (hL : GoodL S.2) (hl : S.2.length = 13) (hk : S.1.k ≤ 700000) (hq : -4095 ≤ q ∧ q ≤ 4095) :
    Calls Tryz.prog 166 #[.pointer (some ⟨g, 0, none⟩), .pointer (some ⟨mg, 0, none⟩), .int .i32 q] wr fun e w' => e = .returned (.int .i64 0) ∧ PutQ w base g mg v (putX S.1 S.2 q, learnP S.2 (bitsI q)) w' := by
  have hb12 := bits_12 hq
  have hbl : bitsI q < S.2.length := by omega
  have HS : RowKit.Hid (Calls Tryz.prog 189 #[.pointer (some ⟨g, 0, none⟩), .pointer (some ⟨mg, 0, none⟩), .int .i64 (bitsI q)] wr fun e w' => e = .returned (.int .i64 0) ∧ PutQ w base g mg v (encSym S.1 S.2 (bitsI q), learnP S.2 (bitsI q)) w') := h.sym hG hL hbl (by omega)
  have g1 := encSym_good hG hL hbl
  have k1 := encSym_k S.1 S.2 (bitsI q)
  by_cases hq0 : q = 0
  · have HE := Lib.hid (putX_none S.1 S.2 hq0)
    rw [HE.out]
    generalize encSym S.1 S.2 (bitsI q) = E1 at HS ⊢
    generalize learnP S.2 (bitsI q) = L1 at HS ⊢
    subst hq0
    have HSz : RowKit.Hid (Calls Tryz.prog 189 #[.pointer (some ⟨g, 0, none⟩), .pointer (some ⟨mg, 0, none⟩), .int .i64 0] wr fun e w' => e = .returned (.int .i64 0) ∧ PutQ w base g mg v (E1, L1) w') := HS.out
    have HLn : RowKit.Hid (Calls Tryz.prog 156 #[.int .u32 0] wr fun e w' => e = .returned (.int .i64 0) ∧ wr = w') := len32E_any 0 wr (by decide) (by decide)
    clear h hG hL hl hk hq hb12 hbl g1 k1 HE HS
    go_enter Tryz.func166, Tryz.ntmps166
    go_wp2_with (first
      | (go_at_call 156; refine HLn.out.mono ?_; rintro e1 w5 ⟨rfl, rfl⟩)
      | (go_at_call 189; refine HSz.out.mono ?_; rintro e1 w6 ⟨rfl, hp⟩; have HP := Lib.hid hp; clear hp))
    go_ret
    exact ⟨rfl, HP.out⟩
  · have HE := Lib.hid (putX_some S.1 S.2 hq0)
    obtain ⟨l0, l1⟩ := lowQ_bd hq0
    have hn0 : bitsI q ≠ 0 := fun e => hq0 (bits_none.1 e)
    obtain ⟨j, hj⟩ : ∃ j, bitsI q = j + 1 := ⟨bitsI q - 1, by omega⟩
    have hj11 : j ≤ 11 := by omega
    obtain ⟨m, hm⟩ : ∃ m : Int, (q.natAbs : Int) = m := ⟨_, rfl⟩
    have hm1 : 1 ≤ m := by omega
    have hm2 : m ≤ 4095 := by omega
    have HLn : RowKit.Hid (Calls Tryz.prog 156 #[.int .u32 m] wr fun e w' => e = .returned (.int .i64 ((j : Int) + 1)) ∧ wr = w') := (len32E_any m wr (by omega) (by omega)).mono fun e w' h => ⟨by rw [h.1, show ((j : Int) + 1) = ((j + 1 : Nat) : Int) by omega, ← hj]; unfold bitsI; rw [show m.toNat = q.natAbs by omega], h.2⟩
    have hlow : m - P2 j = lowQ q := by unfold lowQ; rw [hm, hj]; rfl
    have HBl : RowKit.Hid (∀ w3, PutQ w base g mg v (encBits (encSym S.1 S.2 (bitsI q)) (signQ q) 1, learnP S.2 (bitsI q)) w3 → Calls Tryz.prog 159 #[.pointer (some ⟨g, 0, none⟩), .int .u32 (lowQ q), .int .i64 j] w3 fun e w' => e = .returned (.int .i64 0) ∧ PutQ w base g mg v (putX S.1 S.2 q, learnP S.2 (bitsI q)) w') := fun w3 h3 => by
      rw [HE.out]
      have k2 := encBits_k (encSym S.1 S.2 (bitsI q)) (signQ q) (wide := 1) (by decide)
      rw [hj, show j + 1 - 1 = j by omega] at l1 ⊢
      rw [hj] at h3 g1 k1 k2
      exact h3.bits (encBits_good (n := signQ q) (wide := 1) g1 (by decide)) l0 (by omega) l1 (by simp only; omega)
    have HBs : RowKit.Hid (∀ w3, PutQ w base g mg v (encSym S.1 S.2 (bitsI q), learnP S.2 (bitsI q)) w3 → Calls Tryz.prog 159 #[.pointer (some ⟨g, 0, none⟩), .int .u32 (signQ q), .int .i64 1] w3 fun e w' => e = .returned (.int .i64 0) ∧ PutQ w base g mg v (encBits (encSym S.1 S.2 (bitsI q)) (signQ q) 1, learnP S.2 (bitsI q)) w') := fun w3 h3 =>
      h3.bits (wide := 1) g1 (signQ_bd q).1 (by decide) (by rw [show P2 1 = 2 by decide]; have := (signQ_bd q).2; omega) (by simp only; omega)
    have HSj : RowKit.Hid (Calls Tryz.prog 189 #[.pointer (some ⟨g, 0, none⟩), .pointer (some ⟨mg, 0, none⟩), .int .i64 ((j : Int) + 1)] wr fun e w' => e = .returned (.int .i64 0) ∧ PutQ w base g mg v (encSym S.1 S.2 (bitsI q), learnP S.2 (bitsI q)) w') := by
      have := HS.out
      rw [show ((bitsI q : Nat) : Int) = (j : Int) + 1 by omega] at this
      exact this
    have p0 := P2_pos j
    have p1 := P2_12 (k := j) (by omega)
    have hp : (2 : Int) ^ j = P2 j := rfl
    have hsg : (q < 0 → signQ q = 1) ∧ (¬ q < 0 → signQ q = 0) := ⟨fun h => if_pos h, fun h => if_neg h⟩
    rw [hj, show j + 1 - 1 = j by omega] at l1
    clear h hG hL hl hk hq hb12 hbl g1 k1 HE HS hj hn0
    generalize encBits (encSym S.1 S.2 (bitsI q)) (signQ q) 1 = E2 at HBs HBl
    generalize encSym S.1 S.2 (bitsI q) = E1 at HBs HSj
    generalize putX S.1 S.2 q = E3 at HBl ⊢
    generalize learnP S.2 (bitsI q) = L1 at HBs HBl HSj ⊢
    generalize lowQ q = y at l0 l1 hlow HBl
    generalize signQ q = sg at hsg HBs
    generalize P2 j = p at p0 p1 hp l1 hlow
    have u5 : IntKind.u32.wrap (2 ^ j) = p := by rw [hp]; exact IntWalk.u32_in _ (by omega)
    have u6 : IntKind.u32.wrap (m - p) = y := by rw [hlow]; exact IntWalk.u32_in _ (by omega)
    have u7 : IntKind.i64.wrap ((j : Int) + 1 - 1) = (j : Int) := by rw [show (j : Int) + 1 - 1 = j by omega]; exact IntWalk.i64_in _ (by omega)
    have hz : (((j : Int) + 1) == 0) = false := by simp; omega
    clear hp hlow
    by_cases hneg : q < 0
    · obtain rfl := hsg.1 hneg
      have u1 : IntKind.u32.wrap q = 4294967296 - m := by
        have e : IntKind.u32.wrap q = q % 4294967296 := by simp [IntKind.wrap, IntKind.signed, IntKind.bits]
        rw [e]; omega
      have u2 : IntKind.u32.wrap (-(4294967296 - m)) = m := by
        have e : IntKind.u32.wrap (-(4294967296 - m)) = (-(4294967296 - m)) % 4294967296 := by simp [IntKind.wrap, IntKind.signed, IntKind.bits]
        rw [e]; omega
      have d1 : decide (q < 0) = true := by simp; omega
      clear hm hsg hneg hq0
      go_enter Tryz.func166, Tryz.ntmps166
      go_wp2_with (first
        | (go_at_call 156; refine HLn.out.mono ?_; rintro e1 w5 ⟨rfl, rfl⟩)
        | (go_at_call 189; refine HSj.out.mono ?_; rintro e1 w6 ⟨rfl, hp⟩; have HP := Lib.hid hp; clear hp)
        | (go_at_call 159; have hx := HP2.out; refine (HBl.out _ hx).mono ?_; rintro e1 w8 ⟨rfl, hp⟩; have HP3 := Lib.hid hp; clear hp hx HP2)
        | (go_at_call 159; refine (HBs.out _ HP.out).mono ?_; rintro e1 w7 ⟨rfl, hp⟩; have HP2 := Lib.hid hp; clear hp))
      go_ret
      exact ⟨rfl, HP3.out⟩
    · obtain rfl := hsg.2 hneg
      have u1 : IntKind.u32.wrap q = m := by
        have e : IntKind.u32.wrap q = q % 4294967296 := by simp [IntKind.wrap, IntKind.signed, IntKind.bits]
        rw [e]; omega
      have d1 : decide (q < 0) = false := by simp; omega
      clear hm hsg hneg hq0
      go_enter Tryz.func166, Tryz.ntmps166
      go_wp2_with (first
        | (go_at_call 156; refine HLn.out.mono ?_; rintro e1 w5 ⟨rfl, rfl⟩)
        | (go_at_call 189; refine HSj.out.mono ?_; rintro e1 w6 ⟨rfl, hp⟩; have HP := Lib.hid hp; clear hp)
        | (go_at_call 159; have hx := HP2.out; refine (HBl.out _ hx).mono ?_; rintro e1 w8 ⟨rfl, hp⟩; have HP3 := Lib.hid hp; clear hp hx HP2)
        | (go_at_call 159; refine (HBs.out _ HP.out).mono ?_; rintro e1 w7 ⟨rfl, hp⟩; have HP2 := Lib.hid hp; clear hp))
      go_ret
      exact ⟨rfl, HP3.out⟩
def toldT (c s : Nat → Int) (i : Nat) : Bool := decide (s (ofN i) < c (ofN i))
def lineQ (x c s : Nat → Int) (i : Nat) : Int := if i < 512 then numQ (x i) (s (ofN i)) (c (ofN i)) else 0
theorem toldT_at {c s : Nat → Int} {b i : Nat} (hb : b < 21) (h0 : edgeK b ≤ i) (h1 : i < edgeK (b + 1)) : toldT c s i = decide (s b < c b) := by unfold toldT; rw [of_band hb h0 h1]
theorem lineQ_at {x c s : Nat → Int} {b i : Nat} (hb : b < 21) (h0 : edgeK b ≤ i) (h1 : i < edgeK (b + 1)) : lineQ x c s i = numQ (x i) (s b) (c b) := by
  have := edgeK_lt b hb
  unfold lineQ; rw [if_pos (by omega), of_band hb h0 h1]
theorem lineQ_bd {x c s : Nat → Int} (h : ∀ b, b < 21 → c b - s b ≤ 12) (i : Nat) : -4095 ≤ lineQ x c s i ∧ lineQ x c s i ≤ 4095 := by
  unfold lineQ; split
  · rename_i hi
    exact numQ_12 _ (h _ (of_lt hi))
  · decide
set_option maxHeartbeats 1000000 in
set_option maxRecDepth 100000 in
theorem qPut_any (base g : Nat) (v : Value) (E : EncS) (lb lo lcap : Nat) (x : Nat → Int) (a a2 : Option Addr) (cap cap2 : Nat) (zs ss : List Int) (w : World) (hE : EncAt w base g v E) (hG : GoodE E) (hk : E.k ≤ 600000)
    (hlb : lb < w.heap.size) (hx : ∀ i, i < 512 → w.cell? ⟨lb, lo + i, none⟩ = some (.int .i32 (x i))) (hxb : ∀ i, i < 512 → -2147483648 ≤ x i ∧ x i ≤ 2147483647) (hlc : 512 ≤ lcap) (hlc' : lcap ≤ 9223372036854775807) (hne : lb ≠ g ∧ v.ownBlock ≠ some lb)
    (h : IntsAt w w.heap.size .i64 a 21 zs) (h2 : IntsAt w w.heap.size .i64 a2 21 ss) (hmay : mayQ zs ss = true) :
    Calls Tryz.prog 133 #[.pointer (some ⟨g, 0, none⟩), .slice (some ⟨lb, lo, none⟩) 512 lcap, .slice a 21 cap, .slice a2 21 cap2] w
      (PutPost base g v (putL (toldT (fun j => zs.getD j 0) (fun j => ss.getD j 0)) (lineQ x (fun j => zs.getD j 0) (fun j => ss.getD j 0)) E 512).1 (.int .i64 0) w) := by
  obtain ⟨hr1, hr2, h12⟩ := mayQ_true hmay
  have HI := Lib.hid h
  have HI2 := Lib.hid h2
  have HMay := Lib.hid hmay
  have HC := Lib.hid (rightB_true hr1).2
  have HSt := Lib.hid (rightB_true hr2).2
  have H12 := Lib.hid h12
  have HE := Lib.hid hE
  have HX := Lib.hid hx
  have HXb := Lib.hid hxb
  have hgl := hE.lt.1
  have HOw : RowKit.Hid (∀ r, v.ownBlock = some r → r < w.heap.size) := fun r hr => (hE.own r hr).1
  obtain ⟨T, hT⟩ : ∃ T, T = toldT (fun j => zs.getD j 0) (fun j => ss.getD j 0) := ⟨_, rfl⟩
  obtain ⟨Q, hQ⟩ : ∃ Q, Q = lineQ x (fun j => zs.getD j 0) (fun j => ss.getD j 0) := ⟨_, rfl⟩
  have HT : RowKit.Hid (∀ b i, b < 21 → edgeK b ≤ i → i < edgeK (b + 1) → T i = decide (ss.getD b 0 < zs.getD b 0)) := fun b i hb h0 h1 => by rw [hT]; exact toldT_at hb h0 h1
  have HQ : RowKit.Hid (∀ b i, b < 21 → edgeK b ≤ i → i < edgeK (b + 1) → Q i = numQ (x i) (ss.getD b 0) (zs.getD b 0)) := fun b i hb h0 h1 => by rw [hQ]; exact lineQ_at hb h0 h1
  have HQb : RowKit.Hid (∀ i, -4095 ≤ Q i ∧ Q i ≤ 4095) := fun i => by rw [hQ]; exact lineQ_bd h12 i
  rw [← hT, ← hQ]
  have HPg : RowKit.Hid (∀ n, GoodE (putL T Q E n).1 ∧ GoodL (putL T Q E n).2 ∧ (putL T Q E n).2.length = 13 ∧ (putL T Q E n).1.k ≤ E.k + 10 * n) := putL_good hG HQb.out
  have HPt : RowKit.Hid (∀ n, T n = true → putL T Q E (n + 1) = (putX (putL T Q E n).1 (putL T Q E n).2 (Q n), learnP (putL T Q E n).2 (bitsI (Q n)))) := fun n h => putL_told Q E h
  have HPs : RowKit.Hid (∀ b, b < 21 → ¬ ss.getD b 0 < zs.getD b 0 → putL T Q E (edgeK (b + 1)) = putL T Q E (edgeK b)) := fun b hb hn => putL_skip Q E (by have := edgeK_lt b hb; omega) fun i h0 h1 => by rw [HT.out b i hb h0 h1]; simpa using hn
  have HP0 : RowKit.Hid (putL T Q E (edgeK 0) = (E, List.replicate 13 1)) := rfl
  have HPe : RowKit.Hid (putL T Q E (edgeK 21) = putL T Q E 512) := rfl
  generalize putL T Q E = P at HPg HPt HPs HP0 HPe ⊢
  clear hE hG hT hQ h h2 hmay hr1 hr2 h12 hx hxb
  go_enter Tryz.func133, Tryz.ntmps133
  go_wp2_with (first
    | (go_at_call 135; go_loud (refine (qMay_any _ _ _ _ _ _ _ _ _ HI.out (by decide) HI2.out (by decide)).mono ?_); rintro e1 w5 ⟨rfl, rfl⟩; rw [HMay.out])
    | (go_at_call 163; go_loud (refine (qSizes_any _).mono ?_); rintro e1 w1 ⟨mg, rfl, hg, hm, hb⟩; have HM1 := Lib.hid hm; have HB1 := Lib.hid hb; have hmg := hg; have hmg1 := hm.lt; clear hg hm hb)
    | (go_at_call 164; go_loud (refine (qParts_any _ _ _ _ zs ss _ (HI.out.now HB1.out (Nat.le_refl _)) (HI2.out.now HB1.out (Nat.le_refl _))).mono ?_); rintro e1 w2 ⟨pg, rfl, hp, hg, hb⟩; have HPg2 := Lib.hid hp; have HB2 := Lib.hid (chain HB1.out hb); have HM2 := Lib.hid (HM1.out.below hb); have hpg := hg; have hpg2 := hp.lt; clear hg hp hb))
  have hs1 := HB1.out.size
  have hs2 := HB2.out.size
  have H0 : RowKit.Hid (PutQ w2 base g mg v (P (edgeK 0)) w2) := by rw [HP0.out]; exact PutQ.start (S := (E, List.replicate 13 1)) (HE.out.below HB2.out) HM2.out
  have HX2 : RowKit.Hid (∀ i, i < 512 → w2.cell? ⟨lb, lo + i, none⟩ = some (.int .i32 (x i))) := fun i hi => (HB2.out.cell (p := ⟨lb, lo + i, none⟩) hlb).trans (HX.out i hi)
  have HNot : RowKit.Hid (¬ (lb = g ∨ v.ownBlock = some lb ∨ lb = mg)) := by
    rintro (c | c | c)
    · exact hne.1 c
    · exact hne.2 c
    · omega
  have HNp : RowKit.Hid (¬ (pg = g ∨ v.ownBlock = some pg ∨ pg = mg)) := by
    rintro (c | c | c)
    · omega
    · have := HOw.out _ c; omega
    · omega
  clear HM1 HB1 HM2 HX HP0 HE
  go_loopw [14, 33] (fun _ i wr => ∃ k : Nat, k ≤ 21 ∧ i = .int .i64 (k : Int) ∧ RowKit.Hid (PutQ w2 base g mg v (P (edgeK k)) wr)) (fun _ i _ => 21 - (intOf i).toNat)
  case atStart => exact ⟨0, by omega, rfl, H0.out⟩
  case round =>
    obtain ⟨k, hk, rfl, H⟩ := hrel
    clear H0
    by_cases hlt : k < 21
    · have hrow : IFun wr pg 221 .i64 84 (partF (fun j => zs.getD j 0) (fun j => ss.getD j 0)) := by
        obtain ⟨_, _, _, hke, _⟩ := H.out
        exact HPg2.out.keeps hke HNp.out
      have d0 := hrow.cell (j := k * 4) (by omega)
      have d1 := hrow.cell (j := k * 4 + 1) (by omega)
      have d2 := hrow.cell (j := k * 4 + 2) (by omega)
      have d3 := hrow.cell (j := k * 4 + 3) (by omega)
      rw [partF_0] at d0
      rw [partF_1] at d1
      rw [partF_2] at d2
      rw [partF_3] at d3
      clear hrow
      obtain ⟨c0, c1⟩ := HC.out k hlt
      obtain ⟨s0, s1⟩ := HSt.out k hlt
      have cs := H12.out k hlt
      obtain ⟨ed1, ed2⟩ := edgeK_lt k hlt
      have HTk : RowKit.Hid (∀ i, edgeK k ≤ i → i < edgeK (k + 1) → T i = decide (ss.getD k 0 < zs.getD k 0)) := fun i => HT.out k i hlt
      have HQk : RowKit.Hid (∀ i, edgeK k ≤ i → i < edgeK (k + 1) → Q i = numQ (x i) (ss.getD k 0) (zs.getD k 0)) := fun i => HQ.out k i hlt
      have HPk := Lib.hid (HPs.out k hlt)
      generalize zs.getD k 0 = c at d2 c0 c1 cs HTk HQk HPk
      generalize ss.getD k 0 = s at d3 s0 s1 cs HTk HQk HPk
      obtain ⟨B, hB⟩ : ∃ B, B = edgeK (k + 1) := ⟨_, rfl⟩
      rw [← hB] at d1 ed1 ed2 HTk HQk HPk
      have HBk := Lib.hid hB
      clear hB
      generalize edgeK k = A at d0 ed1 HTk HQk HPk H
      have l0 : (k : Int) < 21 := by omega
      by_cases htd : s < c
      · have htd2 : s < c := htd
        have ht : decide (s < c) = true := by simp; omega
        have HTd := Lib.hid ht
        have HTk2 : RowKit.Hid (∀ i, A ≤ i → i < B → T i = true) := fun i h0 h1 => by rw [HTk.out i h0 h1]; exact ht
        obtain ⟨n, hn⟩ : ∃ n, n = B - A := ⟨_, rfl⟩
        have e2 : B = A + n := by omega
        have e3 : B - A = n := hn.symm
        have hn0 : 0 < n := by omega
        have hn512 : A + n ≤ 512 := by omega
        have hca : ¬ lcap = A := by omega
        have HCl : RowKit.Hid (∀ m, m < n → w2.cell? ⟨lb, lo + A + m, none⟩ = some (.int .i32 (x (A + m)))) := fun m hm => by rw [Nat.add_assoc]; exact HX2.out (A + m) (by omega)
        have HXl : RowKit.Hid (∀ m, m < n → -2147483648 ≤ x (A + m) ∧ x (A + m) ≤ 2147483647) := fun m hm => HXb.out _ (by omega)
        have HQm : RowKit.Hid (∀ m, m < n → Q (A + m) = numQ (x (A + m)) s c) := fun m hm => HQk.out (A + m) (by omega) (by omega)
        have HPm : RowKit.Hid (∀ m, m < n → P (A + m + 1) = (putX (P (A + m)).1 (P (A + m)).2 (Q (A + m)), learnP (P (A + m)).2 (bitsI (Q (A + m))))) := fun m hm => HPt.out _ (HTk2.out (A + m) (by omega) (by omega))
        have HEnd : RowKit.Hid (edgeK (k + 1) = A + n) := by show _ = _; rw [← HBk.out]; exact e2
        have HCn := Lib.hid (Cel.new wr 221 #[.int .i64 (A : Int), .int .i64 (B : Int), .int .i64 c, .int .i64 s])
        have HWs : RowKit.Hid (w2.heap.size ≤ wr.heap.size) := by obtain ⟨_, _, _, hke, _⟩ := H.out; exact hke.size
        clear ht htd HPk HTk HTk2 HQk HBk e2 hn
        go_wp2_with (go_at_call 165; go_loud (refine (qTold_any (A : Int) (B : Int) c s _).mono ?_); rintro e w5 ⟨rfl, hb⟩; rw [HTd.out]; have HP5 := Lib.hid (H.out.below (chain (Below.alloc_new wr (.cells #[.int .i64 (A : Int), .int .i64 (B : Int), .int .i64 c, .int .i64 s] 221)) hb)); have HC5 := Lib.hid (HCn.out.below hb); have p0 := HC5.out.cell 0; have p1 := HC5.out.cell 1; simp only [List.getElem?_toArray, List.getElem?_cons_zero, List.getElem?_cons_succ] at p0 p1; clear hb)
        clear HCn H d0 d1 d2 d3 p0 p1
        obtain ⟨pb, hpb⟩ : ∃ pb, pb = wr.heap.size := ⟨_, rfl⟩
        rw [← hpb] at HC5 HWs ⊢
        clear hpb
        go_loopw [13, 14, 47] (fun _ _ i wx => ∃ m : Nat, m ≤ n ∧ i = .int .i64 (m : Int) ∧ RowKit.Hid (PutQ w2 base g mg v (P (A + m)) wx ∧ Cel wx pb 221 #[.int .i64 (A : Int), .int .i64 (B : Int), .int .i64 c, .int .i64 s])) (fun _ _ i _ => n - (intOf i).toNat)
        case atStart => exact ⟨0, by omega, rfl, HP5.out, HC5.out⟩
        case round =>
          obtain ⟨m, hm, rfl, G⟩ := hrel
          clear HP5 HC5
          by_cases hmn : m < n
          · have q0 := G.out.2.cell 0
            have q1 := G.out.2.cell 1
            have q2 := G.out.2.cell 2
            have q3 := G.out.2.cell 3
            simp only [List.getElem?_toArray, List.getElem?_cons_zero, List.getElem?_cons_succ] at q0 q1 q2 q3
            obtain ⟨v', h1, hm2, hke, hv⟩ := G.out.1
            have x3 := (World.cell?_of_block (a := ⟨lb, lo + A + m, none⟩) (hke.block lb (by omega) HNot.out)).trans (HCl.out m hmn)
            obtain ⟨x0, x1⟩ := HXl.out m hmn
            have HQe := Lib.hid (HQm.out m hmn)
            have HPn := Lib.hid (HPm.out m hmn)
            obtain ⟨pg1, pg2, pg3, pg4⟩ := HPg.out (A + m)
            have HG1 := Lib.hid pg1
            have HG2 := Lib.hid pg2
            have HG3 := Lib.hid pg3
            have hpk : (P (A + m)).1.k ≤ 700000 := by omega
            have hqb := Lib.hid (HQb.out (A + m))
            have HEn := Lib.hid h1
            have HMn := Lib.hid hm2
            have HKn := Lib.hid hke
            have HVn := Lib.hid hv
            have HPb : RowKit.Hid (pb ≠ g ∧ v'.ownBlock ≠ some pb ∧ pb ≠ mg) := ⟨(h1.ne_cel G.out.2 (by decide) (by decide)).1, (h1.ne_cel G.out.2 (by decide) (by decide)).2, cel_ne G.out.2 hm2.2 (by decide)⟩
            clear pg1 pg2 pg3 h1 hm2 hke hv pg4
            generalize x (A + m) = z at x3 x0 x1 HQe
            generalize Q (A + m) = y at HQe HPn hqb
            have l1 : (m : Int) < (n : Int) := by omega
            go_wp2_with (first
              | (go_at_call 138; go_loud (refine (qNumber_any (A : Int) (B : Int) c s z _ s0 (by omega) htd2 cs x0 x1).mono ?_); rintro e w6 ⟨rfl, hb⟩; rw [← HQe.out]; have HE6 := Lib.hid (HEn.out.below hb); have HM6 := Lib.hid (HMn.out.below hb); have HC6 := Lib.hid (G.out.2.below hb); have HB6 := Lib.hid hb; clear hb)
              | (go_at_call 166; go_loud (refine (qPut1_any w6 base g mg v' (P (A + m)) y w6 (PutQ.start HE6.out HM6.out) HG1.out HG2.out HG3.out hpk hqb.out).mono ?_); rintro e w7 ⟨rfl, hp⟩; have HT : RowKit.Hid (PutQ w2 base g mg v (P (A + m + 1)) w7 ∧ Cel w7 pb 221 #[.int .i64 (A : Int), .int .i64 (B : Int), .int .i64 c, .int .i64 s]) := (by rw [HPn.out]; obtain ⟨v2, r1, r2, r3, r4⟩ := hp; exact ⟨PutQ.step HKn.out HVn.out r1 r2 ((Keeps.of_below HB6.out).trans r3) (fun j hj => (r4 j hj).elim .inl fun c => .inr (Nat.le_trans HB6.out.size c)), HC6.out.keeps r3 (fun c => c.elim HPb.out.1 fun c => c.elim HPb.out.2.1 HPb.out.2.2)⟩); clear hp)
              | fail)
            go_roundw
            case rel => exact ⟨m + 1, by omega, by go_num, HT.out⟩
            case measure => simp [intOf] <;> omega
          · obtain rfl : m = n := by omega
            have Z : RowKit.Hid (PutQ w2 base g mg v (P (edgeK (k + 1))) wr) := by rw [HEnd.out]; exact G.out.1
            have l1 : ¬ (m : Int) < (m : Int) := by omega
            go_wp2
            go_roundw
            case rel => exact ⟨k + 1, by omega, by go_num, Z.out⟩
            case measure => simp [intOf] <;> omega
      · have ht : decide (s < c) = false := by simp; omega
        have HTd := Lib.hid ht
        have HPn : RowKit.Hid (P (edgeK (k + 1)) = P A) := by show _ = _; rw [← HBk.out]; exact HPk.out (by omega)
        clear ht htd HPk
        go_wp2_with (go_at_call 165; go_loud (refine (qTold_any (A : Int) (B : Int) c s _).mono ?_); rintro e w5 ⟨rfl, hb⟩; rw [HTd.out]; have HP5 := Lib.hid (H.out.below (chain (Below.alloc_new wr (.cells #[.int .i64 (A : Int), .int .i64 (B : Int), .int .i64 c, .int .i64 s] 221)) hb)); clear hb)
        go_roundw
        case rel => exact ⟨k + 1, by omega, by go_num, by rw [HPn.out]; exact HP5.out⟩
        case measure => simp [intOf] <;> omega
    · obtain rfl : k = 21 := by omega
      have HK := Lib.hid H.out
      rw [HPe.out] at HK
      go_wp2
      go_ret
      obtain ⟨v', e1, e2, e3, e4⟩ := HK.out
      refine ⟨rfl, v', e1, (Keeps.of_below HB2.out).then_ e3 fun j hj => ?_, fun j hj => ?_⟩
      · rcases hj with c | c | c
        · exact .inl (.inl c)
        · exact .inl (.inr c)
        · exact .inr (by omega)
      · rcases e4 j hj with c | c
        · exact .inl c
        · exact .inr (by omega)
end Go.Proofs.YtmgfkdmjgjlkjaaGreat

namespace Go.Proofs.YtmgfkdmjgjlkjaaGreat
open Go.RowKit
set_option linter.unusedVariables false
theorem part_at {w : World} {g : Nat} {a b n s : Int} (h : Cel w g 221 #[.int .i64 a, .int .i64 b, .int .i64 n, .int .i64 s]) :
    w.cell? ⟨g, 0, none⟩ = some (.int .i64 a) ∧ w.cell? ⟨g, 1, none⟩ = some (.int .i64 b) ∧ w.cell? ⟨g, 2, none⟩ = some (.int .i64 n) ∧ w.cell? ⟨g, 3, none⟩ = some (.int .i64 s) :=
  ⟨h.cell 0, h.cell 1, h.cell 2, h.cell 3⟩
set_option maxHeartbeats 1000000 in
set_option maxRecDepth 100000 in
theorem qLitHeard_any (xb lb lo lcap i : Nat) (a e n s x : Int) (w : World) (hxb : Cel w xb 118 #[.slice (some ⟨lb, lo, none⟩) 512 lcap]) (hx : w.cell? ⟨lb, lo + i, none⟩ = some (.int .i32 x)) (hi : i < 512) (s0 : 0 ≤ s) (s1 : s ≤ 62) (h : s < n) (h2 : n - s ≤ 12) (x0 : -2147483648 ≤ x) (x1 : x ≤ 2147483647) :
    Calls Tryz.prog 137 #[.agg #[.int .i64 a, .int .i64 e, .int .i64 n, .int .i64 s], .int .i64 (i : Int), .pointer (some ⟨xb, 0, none⟩)] w fun e w' => e = .returned (.tuple #[.int .i32 (numQ x s n), .int .i64 0]) ∧ Below w.heap.size w w' := by
  have hb0 := part_new w a e n s
  have hlb := cell_block hx
  have HX0 := Lib.hid (hxb.below hb0)
  have HL0 : RowKit.Hid ((w.alloc (.cells #[.int .i64 a, .int .i64 e, .int .i64 n, .int .i64 s] 221)).cell? ⟨lb, lo + i, none⟩ = some (.int .i32 x)) := (hb0.cell (p := ⟨lb, lo + i, none⟩) hlb).trans hx
  have HC0 := Lib.hid (Cel.new w 221 #[.int .i64 a, .int .i64 e, .int .i64 n, .int .i64 s])
  have HB0 := Lib.hid hb0
  have hi2 : (i : Int) < 512 := by omega
  clear hxb hx hb0
  go_enter Tryz.func137, Tryz.ntmps137
  go_wp2
  generalize w.alloc (.cells #[.int .i64 a, .int .i64 e, .int .i64 n, .int .i64 s] 221) = w2 at HX0 HL0 HC0 HB0 ⊢
  have hpb : lb < w.heap.size := hlb
  generalize hws : w.heap.size = pb at HC0 hpb ⊢
  have c0 := HX0.out.cell 0
  simp only [List.getElem?_toArray, List.getElem?_cons_zero] at c0
  have l0 := HL0.out
  obtain ⟨p0, p1, p2, p3⟩ := part_at HC0.out
  go_region_held3 (fun w' => w'.cell? ⟨xb, 0, none⟩ = some (.slice (some ⟨lb, lo, none⟩) 512 lcap) ∧ w'.cell? ⟨lb, lo + i, none⟩ = some (.int .i32 x) ∧ w'.cell? ⟨pb, 0, none⟩ = some (.int .i64 a) ∧ w'.cell? ⟨pb, 1, none⟩ = some (.int .i64 e) ∧ w'.cell? ⟨pb, 2, none⟩ = some (.int .i64 n) ∧ w'.cell? ⟨pb, 3, none⟩ = some (.int .i64 s))
    (go_keep)
    (first
      | (go_at_call 138; go_loud (refine (qNumber_any a e n s x w2.drew s0 s1 h h2 x0 x1).mono ?_); rintro x3 w3 ⟨rfl, hb3⟩; have HW3 : RowKit.Hid (Below w2.heap.size w2 w3) := (Below.drewN' (Below.refl _ w2) 1).trans hb3; have HX3 := Lib.hid (HX0.out.below HW3.out); have HC3 := Lib.hid (HC0.out.below HW3.out); have c3 := HX3.out.cell 0; simp only [List.getElem?_toArray, List.getElem?_cons_zero] at c3; have l3 := (HW3.out.cell (p := ⟨lb, lo + i, none⟩) (cell_block HL0.out)).trans HL0.out; obtain ⟨q0, q1, q2, q3⟩ := part_at HC3.out; clear hb3)
      | fail)
  go_wp2
  go_ret2
  exact ⟨rfl, chain HB0.out HW3.out⟩
end Go.Proofs.YtmgfkdmjgjlkjaaGreat
