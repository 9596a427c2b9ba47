/- What package packet's Bytes gives. -/
import Derived.Test.YtcjikbddnceigaaPktB
import Derived.Test.YtcjikbddnceigaaCheC
namespace Go.Proofs.Ytcjikbddnceigaa
open Go.RowKit Go.Shelf
set_option linter.unusedVariables false
set_option linter.unusedSimpArgs false

theorem Byts.at_ {b : List Int} (h : Byts b) (len : Nat) : ∀ j, j < len → 0 ≤ b.getD j 0 ∧ b.getD j 0 ≤ 255 := fun j _ => h.getD j
/-- A packet, as a value. -/
def pkV19 (P : Pk) (a : Option Addr) (cap : Nat) : Value := .agg #[.int .u32 P.ep, .int .u32 P.nu, .bool P.wh, .slice a P.pl.length cap]
/-- The bytes of a packet, in memory of the call's own. -/
def BytesPost19 (P : Pk) (w : World) (x : Ending) (w' : World) : Prop :=
  ∃ v, x = .returned (.tuple #[v, .int .i64 0]) ∧ w'.ownsRow w.heap.size 5 1 v P.bytes.length (P.bytes.map (Value.int .u8)) ∧ Below w.heap.size w w'
theorem own_cast {w : World} {base : Nat} {v : Value} {xs ys : List Int} (h : w.ownsRow base 5 1 v xs.length (xs.map (Value.int .u8))) (e : xs = ys) : w.ownsRow base 5 1 v ys.length (ys.map (Value.int .u8)) := e ▸ h
theorem own_app {w : World} {base e : Nat} {v : Value} {xs ys : List Int} (h : w.ownsRow base e 1 v (xs.length + ys.length) ((xs ++ ys).map (Value.int .u8))) : w.ownsRow base e 1 v (xs ++ ys).length ((xs ++ ys).map (Value.int .u8)) := by
  rw [List.length_append]; exact h
theorem own_form_m {w : World} {base e n : Nat} {v : Value} {k : IntKind} {zs : List Int} (h : w.ownsRow base e 1 v n (zs.map (Value.int k))) : ∃ a m c, v = .slice a m c ∧ m = zs.length := by
  obtain ⟨a, c, e1, h2⟩ := own_ints h
  exact ⟨a, n, c, e1, h2.1.symm⟩
theorem own_ints_m {w : World} {base e n m c : Nat} {a : Option Addr} {k : IntKind} {zs : List Int} (h : w.ownsRow base e 1 (.slice a m c) n (zs.map (Value.int k))) : IntsAt w w.heap.size k a m zs := by
  obtain ⟨a', c', e1, h2⟩ := own_ints h
  injection e1 with e1 e2 e3
  subst e1
  subst e2
  exact h2
theorem own_lower {w : World} {b1 b2 e size n : Nat} {v : Value} {xs : List Value} (h : w.ownsRow b1 e size v n xs) (hb : b2 ≤ b1) : w.ownsRow b2 e size v n xs := by
  refine ⟨h.1, ?_⟩
  rcases h.2 with h | ⟨g, cap, cur, e1, e2, e3⟩
  · exact .inl h
  · exact .inr ⟨g, cap, cur, e1, Nat.le_trans hb e2, e3⟩
theorem cel4 {w : World} {g : Nat} {t : TypeId} {a b c d : Value} (h : Cel w g t #[a, b, c, d]) : w.cell? ⟨g, 0, none⟩ = some a ∧ w.cell? ⟨g, 1, none⟩ = some b ∧ w.cell? ⟨g, 2, none⟩ = some c ∧ w.cell? ⟨g, 3, none⟩ = some d :=
  ⟨h.cell 0, h.cell 1, h.cell 2, h.cell 3⟩
set_option maxRecDepth 100000 in
set_option maxHeartbeats 2000000 in
theorem bytes19_wh (ep nu : Int) (wh : Bool) (pl : List Int) (a : Option Addr) (cap : Nat) (w : World) (hP : Pk.Ok ⟨ep, nu, wh, pl⟩) (h : IntsAt w w.heap.size .u8 a pl.length pl) (hn : a = none → cap = 0) (hl : pl.length ≤ 600) :
    Calls Try.prog 7 #[.agg #[.int .u32 ep, .int .u32 nu, .bool wh, .slice a pl.length cap]] w (BytesPost19 ⟨ep, nu, wh, pl⟩ w) := by
  obtain ⟨hep, hnu, hb⟩ := hP
  simp only at hep hnu hb
  have HI := Lib.hid h
  have HN := Lib.hid hn
  have HBy := Lib.hid hb
  have hwl : IntKind.u32.wrap (pl.length : Int) = (pl.length : Int) := IntWalk.u32_in _ (by omega)
  have HB := Lib.hid ((Below.refl w.heap.size w).alloc (Nat.le_refl _) (.cells #[.int .u32 ep, .int .u32 nu, .bool wh, .slice a pl.length cap] 25))
  clear h hn hb
  cases wh with
  | false =>
    have HO : RowKit.Hid (((w.alloc (.cells #[.int .u32 ep, .int .u32 nu, .bool false, .slice a pl.length cap] 25)).alloc (.cells #[.int .u8 83, .int .u8 66, .int .u8 0] 5)).ownsRow (w.heap.size + 1) 5 1 (.slice (some ⟨w.heap.size + 1, 0, none⟩) 3 3) ([83, 66, 0] : List Int).length (([83, 66, 0] : List Int).map (Value.int .u8))) := by
      have := World.ownsRow_lit (base := w.heap.size + 1) (e := 5) (size := 1) (w.alloc (.cells #[.int .u32 ep, .int .u32 nu, .bool false, .slice a pl.length cap] 25)) #[.int .u8 83, .int .u8 66, .int .u8 0] 3 (by simp) (by decide) rfl
      rw [World.size_alloc] at this
      exact this
    have HB := Lib.hid (HB.out.alloc (by simp) (.cells #[.int .u8 83, .int .u8 66, .int .u8 0] 5))
    have HC := Lib.hid ((Cel.new w 25 #[.int .u32 ep, .int .u32 nu, .bool false, .slice a pl.length cap]).alloc (.cells #[.int .u8 83, .int .u8 66, .int .u8 0] 5))
    have hcb := crcP_bd (Pk.front ⟨ep, nu, false, pl⟩)
    have HFb := Lib.hid (Pk.front_byts (p := ⟨ep, nu, false, pl⟩) HBy.out)
    have hfl := Pk.front_len ⟨ep, nu, false, pl⟩
    simp only at hfl
    go_enter Try.func7, Try.ntmps7
    go_wp2_with (first
      | (go_at_call 17; go_loud (refine (join_any (w.heap.size + 1) _ _ _ _ _ HO.out (by have := HC.out.lt; omega) (by first | omega | (simp [numL_len] <;> omega)) (by omega) (by omega) (by decide)).mono ?_); rintro e w6 ⟨v6, rfl, ho, hb6⟩; replace HO := Lib.hid ho; replace HB := Lib.hid (HB.out.trans (hb6.mono (by omega))); replace HC := Lib.hid (HC.out.keep (hb6.block _ (by omega))); obtain ⟨c0, c1, c2, c3⟩ := cel4 HC.out; clear ho hb6)
      | (at_builtin; go_loud (refine append_ints rfl _ _ 23 rfl (w.heap.size + 1) 5 .u8 1 Try.underlying23 info19_u8 _ _ _ rfl HO.out a pl.length cap w.heap.size pl rfl (HI.out.below HB.out) HN.out (by unfold maxLen; simp [numL_len] <;> omega) (by simp [numL_len] <;> omega) (by have := HC.out.lt; omega) ?_); intro v6 w6 ho hg6 _; replace ho := own_cast (own_app ho) (show _ = Pk.front ⟨ep, nu, false, pl⟩ from rfl); obtain ⟨a6, m6, c6, rfl, hm6⟩ := own_form_m ho; replace HC := Lib.hid (HC.out.keep (hg6.block _ HC.out.lt (by intro e; have := own_base HO.out _ e.symm; omega))); replace HB := Lib.hid (HB.out.grown hg6 HB.out.size fun j e => by have := own_base HO.out j e; omega); replace HO := Lib.hid ho; have HM := Lib.hid hm6; clear ho hg6 hm6)
      | (go_at_call 18; go_loud (refine (checkOf_any _ _ _ _ _ (own_ints_m HO.out) (HFb.out.at_ _) (by rw [HM.out]; omega)).mono ?_); rintro e w6 ⟨rfl, hb6⟩; replace HO := Lib.hid (own_below HO.out hb6); replace HC := Lib.hid (HC.out.below hb6); replace HB := Lib.hid (chain HB.out hb6); clear hb6)
      | fail)
    go_ret2
    exact ⟨_, rfl, own_lower HO.out (by omega), HB.out⟩
  | true =>
    have HO : RowKit.Hid (((w.alloc (.cells #[.int .u32 ep, .int .u32 nu, .bool true, .slice a pl.length cap] 25)).alloc (.cells #[.int .u8 83, .int .u8 66, .int .u8 1] 5)).ownsRow (w.heap.size + 1) 5 1 (.slice (some ⟨w.heap.size + 1, 0, none⟩) 3 3) ([83, 66, 1] : List Int).length (([83, 66, 1] : List Int).map (Value.int .u8))) := by
      have := World.ownsRow_lit (base := w.heap.size + 1) (e := 5) (size := 1) (w.alloc (.cells #[.int .u32 ep, .int .u32 nu, .bool true, .slice a pl.length cap] 25)) #[.int .u8 83, .int .u8 66, .int .u8 1] 3 (by simp) (by decide) rfl
      rw [World.size_alloc] at this
      exact this
    have HB := Lib.hid (HB.out.alloc (by simp) (.cells #[.int .u8 83, .int .u8 66, .int .u8 1] 5))
    have HC := Lib.hid ((Cel.new w 25 #[.int .u32 ep, .int .u32 nu, .bool true, .slice a pl.length cap]).alloc (.cells #[.int .u8 83, .int .u8 66, .int .u8 1] 5))
    have hcb := crcP_bd (Pk.front ⟨ep, nu, true, pl⟩)
    have HFb := Lib.hid (Pk.front_byts (p := ⟨ep, nu, true, pl⟩) HBy.out)
    have hfl := Pk.front_len ⟨ep, nu, true, pl⟩
    simp only at hfl
    go_enter Try.func7, Try.ntmps7
    go_wp2_with (first
      | (go_at_call 17; go_loud (refine (join_any (w.heap.size + 1) _ _ _ _ _ HO.out (by have := HC.out.lt; omega) (by first | omega | (simp [numL_len] <;> omega)) (by omega) (by omega) (by decide)).mono ?_); rintro e w6 ⟨v6, rfl, ho, hb6⟩; replace HO := Lib.hid ho; replace HB := Lib.hid (HB.out.trans (hb6.mono (by omega))); replace HC := Lib.hid (HC.out.keep (hb6.block _ (by omega))); obtain ⟨c0, c1, c2, c3⟩ := cel4 HC.out; clear ho hb6)
      | (at_builtin; go_loud (refine append_ints rfl _ _ 23 rfl (w.heap.size + 1) 5 .u8 1 Try.underlying23 info19_u8 _ _ _ rfl HO.out a pl.length cap w.heap.size pl rfl (HI.out.below HB.out) HN.out (by unfold maxLen; simp [numL_len] <;> omega) (by simp [numL_len] <;> omega) (by have := HC.out.lt; omega) ?_); intro v6 w6 ho hg6 _; replace ho := own_cast (own_app ho) (show _ = Pk.front ⟨ep, nu, true, pl⟩ from rfl); obtain ⟨a6, m6, c6, rfl, hm6⟩ := own_form_m ho; replace HC := Lib.hid (HC.out.keep (hg6.block _ HC.out.lt (by intro e; have := own_base HO.out _ e.symm; omega))); replace HB := Lib.hid (HB.out.grown hg6 HB.out.size fun j e => by have := own_base HO.out j e; omega); replace HO := Lib.hid ho; have HM := Lib.hid hm6; clear ho hg6 hm6)
      | (go_at_call 18; go_loud (refine (checkOf_any _ _ _ _ _ (own_ints_m HO.out) (HFb.out.at_ _) (by rw [HM.out]; omega)).mono ?_); rintro e w6 ⟨rfl, hb6⟩; replace HO := Lib.hid (own_below HO.out hb6); replace HC := Lib.hid (HC.out.below hb6); replace HB := Lib.hid (chain HB.out hb6); clear hb6)
      | fail)
    go_ret2
    exact ⟨_, rfl, own_lower HO.out (by omega), HB.out⟩

/-- Too long a payload. -/
theorem bytes19_long (P : Pk) (a : Option Addr) (len cap : Nat) (w : World) (hl : 600 < len) :
    Calls Try.prog 7 #[.agg #[.int .u32 P.ep, .int .u32 P.nu, .bool P.wh, .slice a len cap]] w fun e w' => e = .returned (.tuple #[.slice none 0 0, .int .i64 5]) ∧ Below w.heap.size w w' := by
  have HB := Lib.hid ((Below.refl w.heap.size w).alloc (Nat.le_refl _) (.cells #[.int .u32 P.ep, .int .u32 P.nu, .bool P.wh, .slice a len cap] 25))
  go_enter Try.func7, Try.ntmps7
  go_wp2
  go_ret2
  exact ⟨rfl, HB.out⟩
theorem bytes19_any (P : Pk) (a : Option Addr) (cap : Nat) (w : World) (hP : P.Ok) (h : IntsAt w w.heap.size .u8 a P.pl.length P.pl) (hn : a = none → cap = 0) (hl : P.pl.length ≤ 600) :
    Calls Try.prog 7 #[pkV19 P a cap] w (BytesPost19 P w) := bytes19_wh P.ep P.nu P.wh P.pl a cap w hP h hn hl
end Go.Proofs.Ytcjikbddnceigaa
