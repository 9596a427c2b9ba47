/- The small functions of layer 19's laws, by the contracts of what they call. -/
import Derived.Test.YtcjikbddnceigaaPktJ
namespace Go.Proofs.Ytcjikbddnceigaa
open Go.RowKit
set_option linter.unusedVariables false
set_option linter.unusedSimpArgs false

theorem results19_1 {fn : Func} {p : Tmp} {ty : TypeId} {tmps : Array Value} {P : Program} {w : World} {g : Nat} {v : Value} (h : fn.results = #[.cell p ty]) (hp : tmps.getD p undef = .pointer (some ⟨g, 0, none⟩))
    (e : (loadVar ty ⟨g, 0, none⟩).run P w = .ok v w) : (results fn tmps).run P w = .ok v w := by
  have hp' : tmps[p]?.getD undef = .pointer (some ⟨g, 0, none⟩) := by simpa using hp
  simp only [results, h]
  simp [Sem.run_bind, hp', asAddr, Result.andThen, e]
theorem lawOf_any (P : Pk) (a : Option Addr) (cap : Nat) (w : World) :
    Calls Try.prog 10 #[pkV19 P a cap] w fun e w' => e = .returned (pkV19 P a cap) ∧ Below w.heap.size w w' := by
  unfold pkV19
  obtain ⟨ep, nu, wh, pl⟩ := P
  simp only
  generalize pl.length = m
  have HC := Lib.hid (Cel.new (w.alloc (.cells #[.int .u32 ep, .int .u32 nu, .bool wh, .slice a m cap] 25)) 33 #[.int .u32 ep, .int .u32 nu, .bool wh, .slice a m cap])
  rw [World.size_alloc] at HC
  have HB : RowKit.Hid (Below w.heap.size w ((w.alloc (.cells #[.int .u32 ep, .int .u32 nu, .bool wh, .slice a m cap] 25)).alloc (.cells #[.int .u32 ep, .int .u32 nu, .bool wh, .slice a m cap] 33))) := ((Below.refl _ w).alloc (Nat.le_refl _) _).alloc (by simp) _
  go_enter Try.func10, Try.ntmps10
  go_wp2
  refine bodyPost_ret (results19_1 rfl rfl (run_loadVar_row _ (w.heap.size + 1) _ _ _ (0, 0) _ HC.out Try.underlying33 rfl info19_rpk)) rfl ?_
  exact ⟨rfl, HB.out⟩

theorem lawSame_any (P : Pk) (a1 a2 : Option Addr) (c1 c2 : Nat) (w : World) (h1 : IntsAt w w.heap.size .u8 a1 P.pl.length P.pl) (h2 : IntsAt w w.heap.size .u8 a2 P.pl.length P.pl) :
    Calls Try.prog 11 #[pkV19 P a1 c1, pkV19 P a2 c2] w fun e w' => e = .returned (.bool true) ∧ Below w.heap.size w w' := by
  unfold pkV19
  obtain ⟨ep, nu, wh, pl⟩ := P
  simp only at h1 h2 ⊢
  obtain ⟨m, hm⟩ : ∃ m, pl.length = m := ⟨_, rfl⟩
  rw [hm] at h1 h2 ⊢
  have HB : RowKit.Hid (Below w.heap.size w ((w.alloc (.cells #[.int .u32 ep, .int .u32 nu, .bool wh, .slice a1 m c1] 25)).alloc (.cells #[.int .u32 ep, .int .u32 nu, .bool wh, .slice a2 m c2] 33))) := ((Below.refl _ w).alloc (Nat.le_refl _) _).alloc (by simp) _
  have q1 := string_of_ints (P := Try.prog) (src := 23) (dst := 9) (e := 5) (c := c1) Try.underlying23 Try.underlying5 Try.underlying9 (h1.below HB.out)
  have q2 := string_of_ints (P := Try.prog) (src := 23) (dst := 9) (e := 5) (c := c2) Try.underlying23 Try.underlying5 Try.underlying9 (h2.below HB.out)
  generalize textOf pl = T at q1 q2
  clear h1 h2 hm
  go_enter Try.func11, Try.ntmps11
  go_wp2
  go_ret
  exact ⟨rfl, HB.out⟩

/-! ### The chapter's example -/
def P719 : Pk := ⟨7, 0, false, []⟩
theorem p719_ok : P719.Ok := ⟨by decide, by decide, Byts.nil⟩
set_option maxRecDepth 100000 in
set_option maxHeartbeats 2000000 in
theorem lives19_any (w : World) : Calls Try.prog 6 #[] w fun e w' => e = .returned (.bool true) ∧ Below w.heap.size w w' := by
  have HBy := Lib.hid (fun W => bytes19_any P719 none 0 W p719_ok ⟨rfl, .inl rfl⟩ (fun _ => rfl) (by decide))
  have hr := pk_reads p719_ok (by decide) []
  rw [List.append_nil] at hr
  have hl := P719.bytes_len
  have HR := Lib.hid hr
  have HL : RowKit.Hid (P719.bytes.length = 17) := hl
  have HBb := Lib.hid (Pk.bytes_byts p719_ok.b)
  clear hr hl
  unfold pkV19 at HBy
  have HPa : RowKit.Hid (∀ (a : Option Addr) (m c : Nat) (W : World) (base : Nat), W.ownsRow base 5 1 (.slice a m c) P719.bytes.length (P719.bytes.map (Value.int .u8)) → m = 17 → Calls Try.prog 8 #[.slice a m c] W fun x w' => ∃ v, x = .returned (.tuple #[.agg #[.int .u32 7, .int .u32 0, .bool false, v], .int .i64 17, .int .i64 0]) ∧ W.heap.size ≤ w'.heap.size ∧ Below W.heap.size W w' ∧ ∃ a c, v = .slice a 0 c) := by
    intro a m c W base ho hm
    refine (parse_ok a m c P719.bytes W (ByL.own ho HBb.out (by rw [HL.out]; decide)) (by omega) HR.out.1).mono ?_
    rintro e w' ⟨v, rfl, ho2, hb⟩
    rw [HR.out.2.1] at ho2
    obtain ⟨a2, c2, e2⟩ := own_form ho2
    refine ⟨v, by rw [HR.out.2.1, HR.out.2.2]; rfl, hb.size, hb, a2, c2, e2⟩
  go_enter Try.func6, Try.ntmps6
  go_wp2_with (first
    | (go_at_call 7; go_loud (refine (HBy.out _).mono ?_); rintro e w2 ⟨v2, rfl, ho, hb⟩; obtain ⟨a2, m2, c2, rfl, hm2⟩ := own_form_m ho; have hm3 := hm2.trans HL.out; subst hm3; have HO := Lib.hid ho; have HB := Lib.hid hb; clear ho hb hm2)
    | (go_at_call 8; go_loud (refine (HPa.out _ _ _ _ _ HO.out rfl).mono ?_); rintro e w4 ⟨v4, rfl, _, hb, a4, c4, rfl⟩; have HB4 := Lib.hid (chain HB.out hb); clear hb)
    | fail)
  go_ret
  exact ⟨rfl, HB4.out.alloc HB4.out.size _⟩
end Go.Proofs.Ytcjikbddnceigaa
