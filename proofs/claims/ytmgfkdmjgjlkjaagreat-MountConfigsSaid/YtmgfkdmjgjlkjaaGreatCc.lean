/- Plain facts, and what functions give, for the proofs of this seat: several texts in one, each with its own first remark. -/
import Derived.Test.YtmgfkdmjgjlkjaaGreatCb
import Derived.Lib.AppendZerosOnto
import Derived.Deep.QuietTactic
import Derived.BigQuiet

namespace Go.Proofs.YtmgfkdmjgjlkjaaGreat
open Go.RowKit
set_option linter.unusedVariables false
set_option linter.unusedSimpArgs false
def lastW (ps : List Pk) (f : Nat) : Nat → Int
  | 0 => -1
  | k + 1 => if f ≤ k ∧ (ps[k]?.map (·.wh)) = some true then (k : Int) else lastW ps f k
theorem lastW_none {ps : List Pk} {f k : Nat} (h : k ≤ f) : lastW ps f k = -1 := by
  induction k with
  | zero => rfl
  | succ k ih =>
    unfold lastW
    rw [if_neg (by omega)]
    exact ih (by omega)
theorem lastW_yes {ps : List Pk} {f k : Nat} {p : Pk} (h : f ≤ k) (hp : ps[k]? = some p) (hw : p.wh = true) : lastW ps f (k + 1) = (k : Int) := by
  unfold lastW
  rw [if_pos ⟨h, by rw [hp]; simp [hw]⟩]
theorem lastW_no {ps : List Pk} {f k : Nat} {p : Pk} (hp : ps[k]? = some p) (hw : p.wh = false) : lastW ps f (k + 1) = lastW ps f k := by
  conv => lhs; unfold lastW
  rw [if_neg (by rw [hp]; simp [hw])]
theorem lastW_ge (ps : List Pk) (f k : Nat) : -1 ≤ lastW ps f k ∧ lastW ps f k < (k : Int) := by
  induction k with
  | zero => exact ⟨by simp [lastW], by simp [lastW]⟩
  | succ k ih =>
    unfold lastW
    split
    · omega
    · omega
def firstP (n m : Nat) : Nat := m - n
structure PlAt (w : World) (D : Nat → Prop) (a : Option Addr) (m c : Nat) (zs : List Int) : Prop where
  i : IntsAt w w.heap.size .u8 a m zs
  n : a = none → c = 0
  d : ∀ r off, a = some ⟨r, off, none⟩ → 0 < m → D r
section
variable {w w' : World} {D E F : Nat → Prop} {a : Option Addr} {m c : Nat} {zs : List Int}
theorem PlAt.keeps (h : PlAt w D a m c zs) (hk : Keeps F w w') (hF : ∀ j, F j → ¬ D j) : PlAt w' D a m c zs :=
  ⟨(h.i.keeps19 hk (Nat.le_refl _) fun r off e h0 _ hf => hF r hf (h.d r off e h0)).grow hk.size, h.n, h.d⟩
theorem PlAt.below (h : PlAt w D a m c zs) (hb : Below w.heap.size w w') : PlAt w' D a m c zs := h.keeps (F := fun _ => False) (.of_below hb) fun _ c => c.elim
theorem PlAt.weaken (h : PlAt w D a m c zs) (hD : ∀ j, D j → j < w.heap.size → E j) : PlAt w E a m c zs := by
  refine ⟨h.i, h.n, fun r off e h0 => ?_⟩
  refine hD r (h.d r off e h0) ?_
  rcases h.i.2 with h1 | ⟨b, off', e', h2, _⟩
  · omega
  · rw [e] at e'
    injection e' with e'
    injection e' with e'
    omega
theorem PlAt.own {base : Nat} (h : w.ownsRow base 5 1 (.slice a m c) m (zs.map (Value.int .u8))) : PlAt w (fun j => base ≤ j) a m c zs := by
  refine ⟨own_ints_m h, fun e => ?_, fun r off e h0 => ?_⟩
  · rcases h.2 with ⟨e2, hn⟩ | ⟨g, cap, cur, e2, _⟩
    · injection e2
    · injection e2 with e2
      rw [e] at e2
      cases e2
  · subst e
    exact (own_typ19 h rfl).2
end
def pkC (p : Pk) (a : Option Addr) (m c : Nat) : Array Value := #[.int .u32 p.ep, .int .u32 p.nu, .bool p.wh, .slice a m c]
structure RgC (w : World) (D : Nat → Prop) (n : Nat) (ps : List Pk) (cs : Array Value) : Prop where
  size : cs.size = 1026
  room : cs[0]? = some (.int .i64 n)
  next : cs[1]? = some (.int .i64 ps.length)
  kept : ∀ i p, ps[i]? = some p → ps.length ≤ i + n → ∃ q a c, cs[2 + i % n]? = some (.pointer (some ⟨q, 0, none⟩)) ∧ D q ∧ Cel w q 45 (pkC p a p.pl.length c) ∧ PlAt w D a p.pl.length c p.pl
structure RgAt (w : World) (g n : Nat) (ps : List Pk) (D : Nat → Prop) : Prop where
  n1 : 1 ≤ n
  n2 : n ≤ 1024
  dg : ¬ D g
  c : ∃ cs, Cel w g 130 cs ∧ RgC w D n ps cs
section
variable {w w' : World} {D E F : Nat → Prop} {g n : Nat} {ps : List Pk} {cs : Array Value}
theorem RgC.keeps (h : RgC w D n ps cs) (hk : Keeps F w w') (hF : ∀ j, F j → ¬ D j) : RgC w' D n ps cs := by
  refine ⟨h.size, h.room, h.next, fun i p hp hi => ?_⟩
  obtain ⟨q, a, c, h1, h2, h3, h4⟩ := h.kept i p hp hi
  exact ⟨q, a, c, h1, h2, h3.keeps hk fun hf => hF q hf h2, h4.keeps hk hF⟩
theorem RgC.weaken (h : RgC w D n ps cs) (hD : ∀ j, D j → j < w.heap.size → E j) : RgC w E n ps cs := by
  refine ⟨h.size, h.room, h.next, fun i p hp hi => ?_⟩
  obtain ⟨q, a, c, h1, h2, h3, h4⟩ := h.kept i p hp hi
  exact ⟨q, a, c, h1, hD q h2 h3.lt, h3, h4.weaken hD⟩
theorem RgAt.keeps (h : RgAt w g n ps D) (hk : Keeps F w w') (hF : ∀ j, F j → ¬ D j ∧ j ≠ g) : RgAt w' g n ps D := by
  obtain ⟨cs, h1, h2⟩ := h.c
  exact ⟨h.n1, h.n2, h.dg, cs, h1.keeps hk fun hf => (hF g hf).2 rfl, h2.keeps hk fun j hj => (hF j hj).1⟩
theorem RgAt.below (h : RgAt w g n ps D) (hb : Below w.heap.size w w') : RgAt w' g n ps D := h.keeps (F := fun _ => False) (.of_below hb) fun _ c => c.elim
theorem RgAt.weaken (h : RgAt w g n ps D) (hD : ∀ j, D j → j < w.heap.size → E j) (hg : ¬ E g) : RgAt w g n ps E := by
  obtain ⟨cs, h1, h2⟩ := h.c
  exact ⟨h.n1, h.n2, hg, cs, h1, h2.weaken hD⟩
theorem RgAt.lt (h : RgAt w g n ps D) : g < w.heap.size := by
  obtain ⟨cs, h1, _⟩ := h.c
  exact h1.lt
def Dn (g B : Nat) (j : Nat) : Prop := j ≠ g ∧ j < B
theorem RgAt.all (h : RgAt w g n ps D) : RgAt w g n ps (Dn g w.heap.size) := h.weaken (fun j hj hl => ⟨fun e => h.dg (e ▸ hj), hl⟩) fun e => e.1 rfl
theorem RgAt.head (h : RgAt w g n ps D) : w.cell? ⟨g, 0, none⟩ = some (.int .i64 n) ∧ w.cell? ⟨g, 1, none⟩ = some (.int .i64 ps.length) := by
  obtain ⟨cs, h1, h2⟩ := h.c
  exact ⟨by rw [h1.cell]; exact h2.room, by rw [h1.cell]; exact h2.next⟩
theorem RgAt.at_ (h : RgAt w g n ps D) {i : Nat} {p : Pk} (hp : ps[i]? = some p) (hi : ps.length ≤ i + n) : ∃ q a c, w.cell? ⟨g, 2 + i % n, none⟩ = some (.pointer (some ⟨q, 0, none⟩)) ∧ D q ∧ Cel w q 45 (pkC p a p.pl.length c) ∧ PlAt w D a p.pl.length c p.pl := by
  obtain ⟨cs, h1, h2⟩ := h.c
  obtain ⟨q, a, c, k1, k2⟩ := h2.kept i p hp hi
  exact ⟨q, a, c, by rw [h1.cell]; exact k1, k2⟩
theorem RgC.more {p : Pk} {q c : Nat} {a : Option Addr} (h : RgC w D n ps cs) (hn : 1 ≤ n) (hn2 : n ≤ 1024) (hg : ¬ D g) (hk : Keeps (fun j => j = g) w w') (hq : w.heap.size ≤ q) (hc : Cel w' q 45 (pkC p a p.pl.length c)) (hp : PlAt w' (fun j => w.heap.size ≤ j) a p.pl.length c p.pl) :
    RgC w' (fun j => D j ∨ w.heap.size ≤ j) n (ps ++ [p]) ((cs.setIfInBounds 1 (.int .i64 ((ps.length : Int) + 1))).setIfInBounds (2 + ps.length % n) (.pointer (some ⟨q, 0, none⟩))) := by
  have hs := h.size
  have hm : ps.length % n < n := Nat.mod_lt _ hn
  refine ⟨by simp [hs], ?_, ?_, fun i p' hp' hi => ?_⟩
  · rw [Array.getElem?_setIfInBounds_ne (by omega), Array.getElem?_setIfInBounds_ne (by omega)]; exact h.room
  · rw [Array.getElem?_setIfInBounds_ne (by omega), Array.getElem?_setIfInBounds_self_of_lt (by omega)]
    simp
  · rw [List.length_append, List.length_singleton] at hi
    by_cases hlt : i < ps.length
    · rw [List.getElem?_append_left hlt] at hp'
      obtain ⟨q', a', c', k1, k2, k3, k4⟩ := h.kept i p' hp' (by omega)
      have hne : i % n ≠ ps.length % n := by
        intro e
        have e1 := Nat.div_add_mod i n
        have e2 := Nat.div_add_mod ps.length n
        rw [e] at e1
        have e3 : n * (ps.length / n) - n * (i / n) = ps.length - i := by omega
        rw [← Nat.mul_sub] at e3
        generalize ps.length / n - i / n = t at e3
        cases t with
        | zero => rw [Nat.mul_zero] at e3; omega
        | succ t => rw [Nat.mul_succ] at e3; generalize n * t = u at e3; omega
      refine ⟨q', a', c', ?_, .inl k2, k3.keeps hk fun e => ?_, (k4.keeps hk fun j e hd => ?_).weaken fun j hj _ => .inl hj⟩
      · rw [Array.getElem?_setIfInBounds_ne (by omega), Array.getElem?_setIfInBounds_ne (by omega)]; exact k1
      · subst e; exact hg k2
      · subst e; exact hg hd
    · have hie : i = ps.length := by
        have := (List.getElem?_eq_some_iff.1 hp').1
        rw [List.length_append, List.length_singleton] at this
        omega
      subst hie
      rw [List.getElem?_append_right (Nat.le_refl _), Nat.sub_self] at hp'
      injection hp' with hp'
      subst hp'
      exact ⟨q, a, c, by rw [Array.getElem?_setIfInBounds_self_of_lt (by simp [hs]; omega)], .inr hq, hc, hp.weaken fun j hj _ => .inr hj⟩
end
end Go.Proofs.YtmgfkdmjgjlkjaaGreat

namespace Go.Proofs.YtmgfkdmjgjlkjaaGreat
open Go.RowKit
set_option linter.unusedVariables false
set_option linter.unusedSimpArgs false
def last5 (T : List ByteArray) : List ByteArray := T.drop (T.length - 5)
def nowT (T : List ByteArray) : ByteArray := T.getD (T.length - 1) ⟨#[]⟩
theorem per_mul (k P : Nat) : k / P * P = k - k % P := by
  have := Nat.div_add_mod k P
  rw [Nat.mul_comm]
  omega
theorem per_pred {k P : Nat} (hP : 1 ≤ P) (h : k % P ≠ 0) : (k - 1) % P = k % P - 1 := by
  have e := Nat.div_add_mod k P
  have hm := Nat.mod_lt k hP
  have e2 : k - 1 = (k % P - 1) + P * (k / P) := by omega
  rw [e2, Nat.add_mul_mod_self_left, Nat.mod_eq_of_lt (by omega)]
def fromN (P n : Nat) : Nat := (n - 1) / P * P
theorem fromN_bd {P n : Nat} (hP : 1 ≤ P) (h0 : 0 < n) : fromN P n < n ∧ n ≤ fromN P n + P := by
  unfold fromN
  rw [per_mul]
  have hm := Nat.mod_lt (n - 1) hP
  have hl := Nat.mod_le (n - 1) P
  omega
theorem fromN_yes {P k : Nat} (hP : 1 ≤ P) (h : k % P = 0) : fromN P (k + 1) = k := by
  unfold fromN
  rw [per_mul, show k + 1 - 1 = k by omega]
  omega
theorem fromN_no {P k : Nat} (hP : 1 ≤ P) (h : k % P ≠ 0) : fromN P (k + 1) = fromN P k := by
  unfold fromN
  rw [per_mul, per_mul, show k + 1 - 1 = k by omega, per_pred hP h]
  have hl := Nat.mod_le k P
  omega
def PerOk (P : Nat) (ps : List Pk) : Prop := ∀ i p, ps[i]? = some p → p.wh = decide (i % P = 0)
theorem PerOk.nil (P : Nat) : PerOk P [] := fun i p h => by simp at h
theorem PerOk.more {P : Nat} {ps : List Pk} {p : Pk} (h : PerOk P ps) (hp : p.wh = decide (ps.length % P = 0)) : PerOk P (ps ++ [p]) := by
  intro i q hq
  by_cases hl : i < ps.length
  · rw [List.getElem?_append_left hl] at hq
    exact h i q hq
  · have : i = ps.length := by
      have := (List.getElem?_eq_some_iff.1 hq).1
      rw [List.length_append, List.length_singleton] at this
      omega
    subst this
    rw [List.getElem?_append_right (Nat.le_refl _), Nat.sub_self] at hq
    injection hq with hq
    subst hq
    exact hp
theorem lastW_per {ps : List Pk} {P f : Nat} (hP : 1 ≤ P) (hw : PerOk P ps) {k : Nat} (hk : k ≤ ps.length) (h0 : 0 < k) (hf : f ≤ fromN P k) : lastW ps f k = (fromN P k : Int) := by
  induction k with
  | zero => omega
  | succ k ih =>
    obtain ⟨p, hp⟩ : ∃ p, ps[k]? = some p := ⟨ps[k], List.getElem?_eq_getElem (by omega)⟩
    have hwk := hw k p hp
    by_cases hm : k % P = 0
    · rw [fromN_yes hP hm] at hf ⊢
      rw [hm] at hwk
      exact lastW_yes hf hp (by simpa using hwk)
    · rw [fromN_no hP hm] at hf ⊢
      have hk0 : 0 < k := by
        rcases Nat.eq_zero_or_pos k with h | h
        · subst h; simp at hm
        · exact h
      rw [lastW_no hp (by rw [hwk]; simpa using hm)]
      exact ih (by omega) hk0 hf
def burstF (ps : List Pk) (R : Nat) : List Pk := if 0 ≤ lastW ps (firstP R ps.length) ps.length then ps.drop (lastW ps (firstP R ps.length) ps.length).toNat else []
theorem burstF_per {ps : List Pk} {P R : Nat} (hP : 1 ≤ P) (hR : P ≤ R) (hw : PerOk P ps) (h0 : 0 < ps.length) : burstF ps R = ps.drop (fromN P ps.length) := by
  have hb := fromN_bd hP h0
  have e := lastW_per hP hw (Nat.le_refl _) h0 (f := firstP R ps.length) (by unfold firstP; omega)
  unfold burstF
  rw [e, if_pos (by omega), Int.toNat_natCast]
structure Cfg where
  path : ByteArray
  name : ByteArray
  pass : ByteArray
  fall : ByteArray
  q : Int
  b : Int
  p : Int
  r : Int
  e : Int
def Cfg.vals (c : Cfg) : Array Value := #[.string c.path, .string c.name, .string c.pass, .string c.fall, .int .i64 c.q, .int .i64 c.b, .int .i64 c.p, .int .i64 c.r, .int .i64 c.e]
def inB (n a b : Int) : Bool := decide (a ≤ n) && decide (n ≤ b)
def Cfg.nums (c : Cfg) : Bool := inB c.q 1 10 && inB c.b 32 600 && inB c.p 1 c.r && decide (c.r ≤ 1024) && inB c.e 1 65536
structure Cfg.Ok (c : Cfg) : Prop where
  q : 1 ≤ c.q ∧ c.q ≤ 10
  b : 32 ≤ c.b ∧ c.b ≤ 600
  p : 1 ≤ c.p ∧ c.p ≤ c.r
  r : c.r ≤ 1024
theorem Cfg.nums_ok {c : Cfg} (h : c.nums = true) : c.Ok := by
  simp only [Cfg.nums, inB, Bool.and_eq_true, decide_eq_true_eq] at h
  exact ⟨h.1.1.1.1, h.1.1.1.2, h.1.1.2, h.1.2⟩
theorem lastW_lo (ps : List Pk) (f : Nat) {k : Nat} (h : 0 ≤ lastW ps f k) : (f : Int) ≤ lastW ps f k := by
  induction k with
  | zero => simp [lastW] at h
  | succ k ih =>
    unfold lastW at h ⊢
    split
    · rename_i hc
      omega
    · rename_i hc
      rw [if_neg hc] at h
      exact ih h
def upToK (ps : List Pk) (k t : Nat) : List Pk := (ps.take t).drop k
theorem upToK_start (ps : List Pk) (k : Nat) : upToK ps k k = [] := by
  unfold upToK
  exact List.drop_eq_nil_of_le (by rw [List.length_take]; omega)
theorem upToK_step {ps : List Pk} {k t : Nat} {p : Pk} (hk : k ≤ t) (hp : ps[t]? = some p) : upToK ps k (t + 1) = upToK ps k t ++ [p] := by
  have hl := (List.getElem?_eq_some_iff.1 hp).1
  unfold upToK
  rw [List.take_add_one, hp, List.drop_append_of_le_length (by rw [List.length_take]; omega)]
  rfl
theorem upToK_end (ps : List Pk) (k : Nat) : upToK ps k ps.length = ps.drop k := by
  unfold upToK
  rw [List.take_length]
theorem upToK_len {ps : List Pk} {k t : Nat} (h : t ≤ ps.length) : (upToK ps k t).length ≤ t := by
  unfold upToK
  rw [List.length_drop, List.length_take]
  omega
end Go.Proofs.YtmgfkdmjgjlkjaaGreat

namespace Go.Proofs.YtmgfkdmjgjlkjaaGreat
open Go.RowKit
set_option linter.unusedVariables false
set_option linter.unusedSimpArgs false
structure TxAt (w : World) (a : Option Addr) (n c : Nat) (T : List ByteArray) : Prop where
  len : T.length = n
  no : a = none → c = 0
  cap : n ≤ c
  in_ : n = 0 ∨ ∃ b off, a = some ⟨b, off, none⟩ ∧ Typ19 w b 9 ∧ n ≤ 9223372036854775807 ∧ ∀ j, j < n → w.cell? ⟨b, off + j, none⟩ = some (.string (T.getD j ⟨#[]⟩))
section
variable {w w' : World} {a : Option Addr} {n c : Nat} {T : List ByteArray}
theorem TxAt.keeps {F : Nat → Prop} (h : TxAt w a n c T) (hk : Keeps F w w') (hF : ∀ j, F j → ∃ t, Typ19 w j t ∧ t ≠ 9) : TxAt w' a n c T := by
  refine ⟨h.len, h.no, h.cap, ?_⟩
  rcases h.in_ with h0 | ⟨b, off, e, h2, h3, h4⟩
  · exact .inl h0
  · have hn : ¬ F b := fun hf => by
      obtain ⟨t, ht, ne⟩ := hF b hf
      exact ht.ne h2 ne rfl
    have hb := hk.block b h2.lt hn
    exact .inr ⟨b, off, e, h2.keep hb, h3, fun j hj => (World.cell?_of_block (a := ⟨b, off + j, none⟩) hb).trans (h4 j hj)⟩
theorem TxAt.below (h : TxAt w a n c T) (hb : Below w.heap.size w w') : TxAt w' a n c T := h.keeps (F := fun _ => False) (.of_below hb) fun _ c => c.elim
theorem TxAt.nil (w : World) : TxAt w none 0 0 [] := ⟨rfl, fun _ => rfl, Nat.le_refl _, .inl rfl⟩
theorem TxAt.src {ad : Addr} (h : TxAt w (some ad) n c T) : ∀ j u, (T.map Value.string)[j]? = some u → w.cell? (ad.add j) = some u := by
  intro j u hj
  have hl := h.len
  rw [List.getElem?_map] at hj
  obtain ⟨x, hx, rfl⟩ := Option.map_eq_some_iff.1 hj
  have hjl : j < n := by
    have := (List.getElem?_eq_some_iff.1 hx).1
    omega
  obtain ⟨b, off, e, _, _, hc⟩ := h.in_.resolve_left (by omega)
  obtain rfl : ad = ⟨b, off, none⟩ := by injection e
  have e2 : (⟨b, off, none⟩ : Addr).add j = ⟨b, off + j, none⟩ := by unfold Addr.add; split <;> simp_all
  rw [e2, hc j hjl]
  simp [List.getD, hx]
theorem TxAt.own {base : Nat} (h : w.ownsRow base 9 1 (.slice a n c) n (T.map Value.string)) : TxAt w a n c T := by
  have hl := h.1
  rw [List.length_map] at hl
  refine ⟨by omega, fun e => ?_, ?_, ?_⟩
  · subst e
    rcases h.2 with ⟨e, hn⟩ | ⟨g, cap, cur, e, _⟩
    · injection e with e1 e2 e3
    · injection e with e1 e2 e3
      cases e1
  · rcases h.2 with ⟨e, hn⟩ | ⟨g, cap, cur, e, _, _, h5, _⟩
    · omega
    · injection e with e1 e2 e3
      omega
  · rcases h.2 with ⟨e, hn⟩ | ⟨g, cap, cur, e, h2, h3, h4, h5, h6, h7⟩
    · exact .inl hn
    · injection e with e1 e2 e3
      subst e1
      subst e3
      refine .inr ⟨g, 0, rfl, ⟨_, _, h3⟩, (by unfold maxLen at h5; omega), fun j hj => ?_⟩
      rw [Nat.zero_add, h.cellAt j (by omega)]
      simp [List.getD, show j < T.length by omega]
theorem TxAt.drop {b off : Nat} (h : TxAt w (some ⟨b, off, none⟩) n c T) {k : Nat} (hk : k < n) : TxAt w (some ⟨b, off + k, none⟩) (n - k) (c - k) (T.drop k) := by
  have hl := h.len
  refine ⟨by rw [List.length_drop, hl], fun e => (by cases e), (by have := h.cap; omega), ?_⟩
  rcases h.in_ with h0 | ⟨b', off', e, h2, h3, h4⟩
  · omega
  · injection e with e
    injection e with e1 e2
    subst e1
    subst e2
    refine .inr ⟨b, off + k, rfl, h2, by omega, fun j hj => ?_⟩
    rw [Nat.add_assoc, h4 (k + j) (by omega)]
    congr 2
    rw [List.getD_eq_getElem?_getD, List.getD_eq_getElem?_getD, List.getElem?_drop]
theorem TxAt.at_ (h : TxAt w a n c T) {j : Nat} (hj : j < n) : ∃ b off, a = some ⟨b, off, none⟩ ∧ w.cell? ⟨b, off + j, none⟩ = some (.string (T.getD j ⟨#[]⟩)) := by
  obtain ⟨b, off, e, _, _, h4⟩ := h.in_.resolve_left (by omega)
  exact ⟨b, off, e, h4 j hj⟩
end
end Go.Proofs.YtmgfkdmjgjlkjaaGreat

namespace Go.Proofs.YtmgfkdmjgjlkjaaGreat
open Go.RowKit
set_option linter.unusedVariables false
set_option linter.unusedSimpArgs false
theorem results21_1 {fn : Func} {p : Tmp} {ty : TypeId} {tmps : Array Value} {P : Program} {w : World} {g : Nat} {v : Value} (h : fn.results = #[.cell p ty]) (hp : tmps.getD p undef = .pointer (some ⟨g, 0, none⟩))
    (e : (loadVar ty ⟨g, 0, none⟩).run P w = .ok v w) : (results fn tmps).run P w = .ok v w := by
  have hp' : tmps[p]?.getD undef = .pointer (some ⟨g, 0, none⟩) := by simpa using hp
  simp only [results, h]
  simp [Sem.run_bind, hp', asAddr, Result.andThen, e]
theorem own_len21 {w : World} {base e n : Nat} {v : Value} {zs : List Int} (h : w.ownsRow base e 1 v n (zs.map (Value.int .u8))) : w.ownsRow base e 1 v zs.length (zs.map (Value.int .u8)) := by
  have h1 := h.1
  rw [List.length_map, Nat.mul_one] at h1
  rw [h1]; exact h
theorem info21_pk : (Tryz.prog.info? 45).map (·.size) = some 4 := by kernel_rfl
theorem rgSlot_any (g n i : Nat) (w : World) (h : w.cell? ⟨g, 0, none⟩ = some (.int .i64 n)) (hn : 1 ≤ n) (hn2 : n ≤ 1024) (hi : i ≤ 2000000) :
    Calls Tryz.prog 66 #[.pointer (some ⟨g, 0, none⟩), .int .i64 i] w fun e w' => e = .returned (.int .i64 ((i % n : Nat) : Int)) ∧ w = w' := by
  have hn0 : ¬ (n : Int) = 0 := by omega
  have he : IntKind.i64.wrap ((i : Int).tmod (n : Int)) = ((i % n : Nat) : Int) := by
    rw [Int.tmod_eq_emod_of_nonneg (by omega), ← Int.natCast_emod]
    have : i % n < n := Nat.mod_lt _ hn
    exact IntWalk.i64_in _ (by omega)
  go_enter Tryz.func66, Tryz.ntmps66
  go_wp2
  go_ret
  exact ⟨by first | rfl | simp [he], rfl⟩
theorem quietN {P : Program} {f : FuncId} {args : Array Value} {w : World} {n : Nat} {v : Value}
    (h : Calls P f args (w.drewN n) fun e w' => e = .returned v ∧ ∃ k, w' = (w.drewN n).drewN k) : Calls P f args (w.drewN n) fun e w'' => e = .returned v ∧ ∃ m, w'' = w.drewN m := by
  refine h.mono ?_
  rintro e w' ⟨he, k, rfl⟩
  exact ⟨he, n + k, by simp [World.drewN, Nat.add_assoc]⟩
theorem rgFirst_any (g n m : Nat) (w : World) (h : w.cell? ⟨g, 0, none⟩ = some (.int .i64 n)) (h1 : w.cell? ⟨g, 1, none⟩ = some (.int .i64 m)) (hn2 : n ≤ 1024) (hm : m ≤ 2000000) :
    Calls Tryz.prog 91 #[.pointer (some ⟨g, 0, none⟩)] w fun e w' => e = .returned (.int .i64 ((firstP n m : Nat) : Int)) ∧ ∃ k, w' = w.drewN k := by
  have he : IntKind.i64.wrap ((m : Int) - (n : Int)) = (m : Int) - (n : Int) := IntWalk.i64_in _ (by omega)
  go_enter Tryz.func91, Tryz.ntmps91
  go_wp2
  go_quiet (fail)
  go_wp2
  all_goals
    go_ret
    exact ⟨ret_int (by unfold firstP; omega), _, rfl⟩
theorem rgEnds_any (g n m : Nat) (w : World) (h : w.cell? ⟨g, 0, none⟩ = some (.int .i64 n)) (h1 : w.cell? ⟨g, 1, none⟩ = some (.int .i64 m)) (hn2 : n ≤ 1024) (hm : m ≤ 2000000) :
    Calls Tryz.prog 50 #[.pointer (some ⟨g, 0, none⟩)] w fun e w' => e = .returned (.tuple #[.int .i64 ((firstP n m : Nat) : Int), .int .i64 m]) ∧ ∃ k, w' = w.drewN k := by
  have HF := Lib.hid (fun nq => quietN (rgFirst_any g n m (w.drewN nq) h h1 hn2 hm))
  go_enter Tryz.func50, Tryz.ntmps50
  go_wp2
  go_quiet ((go_at_call 91; exact HF.out _))
  go_wp2
  go_ret2
  exact ⟨rfl, _, rfl⟩
theorem rgCopied_any (p : Pk) (a : Option Addr) (c : Nat) (w : World) (h : PlAt w (fun _ => True) a p.pl.length c p.pl) (hl : p.pl.length ≤ 1000000) :
    Calls Tryz.prog 65 #[.agg (pkC p a p.pl.length c)] w fun e w' => ∃ a2 c2, e = .returned (.agg (pkC p a2 p.pl.length c2)) ∧ w'.ownsRow w.heap.size 5 1 (.slice a2 p.pl.length c2) p.pl.length (p.pl.map (Value.int .u8)) ∧ Below w.heap.size w w' := by
  have HP := Lib.hid h
  have hz : (Tryz.prog.info? 5).map (fun i => (i.zero, i.size, i.bytes)) = some (some (.int .u8 0), 1, 1) := by kernel_rfl
  have HZ := Lib.hid hz
  obtain ⟨ep, nu, wh, pl⟩ := p
  unfold pkC
  simp only at hl HP ⊢
  obtain ⟨m, hm⟩ : ∃ m, pl.length = m := ⟨_, rfl⟩
  rw [hm] at hl HP ⊢
  have hb0 : Below w.heap.size w ((w.alloc (.cells #[.int .u32 ep, .int .u32 nu, .bool wh, .slice a m c] 45)).alloc (.cells #[.int .u32 0, .int .u32 0, .bool false, .slice none 0 0] 45)) := ((Below.refl _ w).alloc (Nat.le_refl _) _).alloc (by simp) _
  have HB0 := Lib.hid hb0
  have HC0 := Lib.hid ((Cel.new w 45 #[.int .u32 ep, .int .u32 nu, .bool wh, .slice a m c]).alloc (.cells #[.int .u32 0, .int .u32 0, .bool false, .slice none 0 0] 45))
  have HC1 := Lib.hid (Cel.new (w.alloc (.cells #[.int .u32 ep, .int .u32 nu, .bool wh, .slice a m c] 45)) 45 #[.int .u32 0, .int .u32 0, .bool false, .slice none 0 0])
  rw [World.size_alloc] at HC1
  obtain ⟨w2, hw2⟩ : ∃ w2, (w.alloc (.cells #[.int .u32 ep, .int .u32 nu, .bool wh, .slice a m c] 45)).alloc (.cells #[.int .u32 0, .int .u32 0, .bool false, .slice none 0 0] 45) = w2 := ⟨_, rfl⟩
  have HW2 := Lib.hid hw2
  rw [hw2] at HB0 HC0 HC1
  have hs2 : w2.heap.size = w.heap.size + 2 := by rw [← hw2]; simp
  have HS2 := Lib.hid hs2
  clear h hz hb0 hw2 hs2
  go_enter Tryz.func65, Tryz.ntmps65
  go_wp2_with (at_builtin; rw [HW2.out]; go_loud (refine append_ints rfl _ _ 43 rfl w2.heap.size 5 .u8 1 Tryz.underlying43 HZ.out (.slice none 0 0) 0 [] rfl (World.ownsRow_nil w2 w2.heap.size 5 1) a m c w.heap.size pl rfl (HP.out.i.below HB0.out) HP.out.n (by unfold maxLen; omega) (by omega) (Nat.le_refl _) ?_); intro v3 w3 ho hg hv; replace ho := own_len21 ho; rw [List.nil_append] at ho; obtain ⟨a3, m3, c3, rfl, hm3⟩ := own_form_m ho; rw [hm] at hm3; subst hm3; rw [hm] at ho; have HO := Lib.hid ho; have HB3 := Lib.hid ((Below.refl w2.heap.size w2).grown hg (Nat.le_refl _) (fun j e => (by simp [Value.ownBlock] at e))); have HD0 := Lib.hid (HC0.out.below HB3.out); have HD1 := Lib.hid (HC1.out.below HB3.out); obtain ⟨c0, c1, c2, c3'⟩ := cel4 HD0.out; obtain ⟨f0, f1, f2, f3⟩ := frz4 HD0.out; obtain ⟨g0, g1, g2, g3⟩ := frz4 HD1.out; obtain ⟨k0, k1, k2, k3⟩ := cel4 HD1.out; clear ho hg hv)
  refine bodyPost_ret (results21_1 rfl rfl (run_loadVar_row _ (w.heap.size + 1) _ _ _ (0, 0) _ (cel_set4 (HD1.out.far (by simp) _) rfl _ _ _ _) Tryz.underlying45 rfl info21_pk)) rfl ?_
  have hs2 := HS2.out
  have hb3 := chain HB0.out HB3.out
  have hb4 := below_set4 (hb3.setCell (p := ⟨w.heap.size, 3, none⟩) (Nat.le_refl _) (.slice a3 m3 c3)) (g := w.heap.size + 1) (by omega) (.int .u32 ep) (.int .u32 nu) (.bool wh) (.slice a3 m3 c3)
  refine ⟨a3, c3, rfl, ?_, hb4⟩
  have ho := own_lower HO.out (b2 := w.heap.size) (by omega)
  have hne : ∀ k, (Value.slice a3 m3 c3).ownBlock = some k → k ≠ w.heap.size ∧ k ≠ w.heap.size + 1 := by
    intro k hk
    have := own_base HO.out k hk
    omega
  exact own_far (own_far (own_far (own_far (own_far ho (fun k hk => (hne k hk).1) _) (fun k hk => (hne k hk).2) _) (fun k hk => (hne k hk).2) _) (fun k hk => (hne k hk).2) _) (fun k hk => (hne k hk).2) _
def rgCells (n : Int) : List Value := [.int .i64 n, .int .i64 0] ++ List.replicate 1024 (.pointer none)
theorem rgCells_one (n : Int) : (rgCells n).toArray.all (·.oneCell') = true := by
  rw [Array.all_eq_true_iff_forall_mem]
  intro x hx
  simp only [rgCells, List.mem_toArray, List.mem_append, List.mem_replicate, List.mem_cons, List.not_mem_nil, or_false] at hx
  rcases hx with (rfl | rfl) | ⟨_, rfl⟩ <;> rfl
set_option maxRecDepth 100000 in
theorem rg_build (n : Int) : Tryz.prog.built 130 [(0, .int .i64 n)] = some (rgCells n).toArray := by kernel_rfl
theorem wpList_build_as21 {P : Program} {ops : Array Oper} {rest : List Oper} {o : Oper} {a : Act} {w : World} {Q : Exit → Act → World → Prop} (hg : o.guard = none) (t : TypeId) (parts : Array (Nat × Operand)) (ho : o.op = .build t parts) (cs : Array Value)
    (vs : List (Nat × Value)) (hv : (parts.map fun (i, x) => (i, a.eval x)).toList = vs) (hf : P.built t vs = some cs) (h : wpList P ops Q rest (a.put o.dst (.agg cs)) w) : wpList P ops Q (o :: rest) a w :=
  wpList_build hg t parts ho (by rw [hv, hf]; rfl) (by rw [hv, hf]; exact h)
set_option maxRecDepth 100000 in
theorem rgNew_any (n : Nat) (w : World) (h1 : 1 ≤ n) (h2 : n ≤ 1024) :
    Calls Tryz.prog 55 #[.int .i64 n] w fun e w' => ∃ g, e = .returned (.tuple #[.pointer (some ⟨g, 0, none⟩), .int .i64 0]) ∧ w.heap.size ≤ g ∧ RgAt w' g n [] (fun _ => False) ∧ Below w.heap.size w w' := by
  have hd : decide ((n : Int) < 1) = false := by simp; omega
  have hd2 : decide ((1024 : Int) < (n : Int)) = false := by simp; omega
  have HC := Lib.hid (Cel.new w 130 (rgCells n).toArray)
  have HB := Lib.hid (Below.alloc_new w (.cells (rgCells n).toArray 130))
  have hbd := rg_build n
  have HR : RowKit.Hid (RgC (w.alloc (.cells (rgCells n).toArray 130)) (fun _ => False) n [] (rgCells n).toArray) :=
    ⟨by simp [rgCells], by simp [rgCells], by simp [rgCells], fun i p hp _ => by simp at hp⟩
  have o1 := rgCells_one n
  obtain ⟨c1, e1⟩ : ∃ c1, (rgCells n).toArray = c1 := ⟨_, rfl⟩
  have z1 : c1.size = 1026 := by rw [← e1]; simp [rgCells]
  rw [e1] at hbd HC HB HR o1
  have HBD := Lib.hid hbd
  have HO := Lib.hid o1
  clear hbd e1 o1
  go_enter Tryz.func55, Tryz.ntmps55
  go_wp2_with (first | (refine wpList_build_as21 rfl 130 _ rfl c1 [(0, .int .i64 n)] (by kernel_rfl) HBD.out ?_) | fail)
  go_ret2
  exact ⟨w.heap.size, rfl, Nat.le_refl _, ⟨h1, h2, fun h => h, c1, HC.out, HR.out⟩, HB.out⟩
end Go.Proofs.YtmgfkdmjgjlkjaaGreat
