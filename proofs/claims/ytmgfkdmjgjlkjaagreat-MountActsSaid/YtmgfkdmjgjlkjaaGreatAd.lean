/- Plain facts, and what functions give, for the proofs of this seat: several texts in one, each with its own first remark. -/
import Derived.Lib.SliceRun
import Derived.Test.YtmgfkdmjgjlkjaaGreatAc
import Derived.Deep.QuietTactic
import Derived.BigQuiet
import Derived.OrdersHeld

namespace Go.Proofs.YtmgfkdmjgjlkjaaGreat
open Go.RowKit
set_option linter.unusedVariables false
set_option linter.unusedSimpArgs false
theorem own_formT {w : World} {base e n : Nat} {v : Value} {xs : List Value} (h : w.ownsRow base e 1 v n xs) : ∃ a c, v = .slice a n c ∧ n ≤ c := by
  rcases h.2 with ⟨rfl, rfl⟩ | ⟨g, cap, cur, rfl, _, _, h5, _⟩
  · exact ⟨_, _, rfl, Nat.le_refl _⟩
  · exact ⟨_, _, rfl, h5⟩
theorem ownT_app {w : World} {base e n m : Nat} {v : Value} {T U : List ByteArray} (h : w.ownsRow base e 1 v (n + m) ((T ++ U).map Value.string)) (hn : T.length = n) (hm : U.length = m) : w.ownsRow base e 1 v (T ++ U).length ((T ++ U).map Value.string) := by
  rw [List.length_append, hm, hn]
  exact h
theorem own_from {w : World} {base e n m c : Nat} {a : Option Addr} {xs : List Value} (h : w.ownsRow base e 1 (.slice a m c) n xs) : ∀ b off, a = some ⟨b, off, none⟩ → base ≤ b := by
  rintro b off rfl
  rcases h.2 with ⟨e, _⟩ | ⟨g, cap, cur, e, h2, _⟩
  · injection e with e1
    cases e1
  · injection e with e1
    injection e1 with e1
    injection e1 with e1
    omega
def TxPost (T : List ByteArray) (w : World) (x : Ending) (w' : World) : Prop :=
  ∃ a n c, x = .returned (.slice a n c) ∧ TxAt w' a n c T ∧ (∀ b off, a = some ⟨b, off, none⟩ → w.heap.size ≤ b) ∧ Below w.heap.size w w'
set_option maxRecDepth 100000 in
set_option maxHeartbeats 1000000 in
theorem cloneT_any (a : Option Addr) (n c : Nat) (T : List ByteArray) (w : World) (h : TxAt w a n c T) (hl : n ≤ 100000) :
    Calls Tryz.prog 48 #[.slice a n c] w (TxPost T w) := by
  have HI := Lib.hid h
  have hl2 := Lib.hid h.len
  have hown0 := Lib.hid (World.ownsRow_lit (base := w.heap.size) (e := 9) (size := 1) w #[] 0 (Nat.le_refl _) (by decide) rfl)
  have hbel0 := Lib.hid (Below.alloc_new w (.cells #[] 9))
  cases a with
  | none =>
    obtain rfl := h.no rfl
    have h0 : n = 0 := by
      rcases h.in_ with h2 | ⟨_, _, h2, _⟩
      · exact h2
      · cases h2
    subst h0
    have hb0 : T = [] := List.eq_nil_of_length_eq_zero h.len
    subst hb0
    clear h
    have qN : ∀ w : World, (binOp .eql 37 (.slice none 0 0) (.slice none 0 0)).run Tryz.prog w = .ok (.bool true) w := fun w => Lib.run_eql_slice_nil w _ _ _ _ _ _ _ Tryz.underlying37
    go_enter Tryz.func48, Tryz.ntmps48
    go_wp2
    go_ret
    exact ⟨_, _, _, rfl, HI.out, fun b off e => (by cases e), Below.refl _ _⟩
  | some ad =>
    clear h
    have qN : ∀ w : World, (binOp .eql 37 (.slice (some ad) n c) (.slice none 0 0)).run Tryz.prog w = .ok (.bool false) w := fun w => Lib.run_eql_slice_nil w _ _ _ _ _ _ _ Tryz.underlying37
    go_enter Tryz.func48, Tryz.ntmps48
    go_wp2_with (at_builtin; go_loud (refine append_texts rfl _ _ 37 rfl w.heap.size 9 Tryz.underlying37 info23_str _ 0 [] rfl hown0.out (some ad) n c T rfl (HI.out.below hbel0.out) (by omega) (by simp) ?_))
    intro v2 w2 hown hgrow _
    have hown2 : w2.ownsRow w.heap.size 9 1 v2 T.length (T.map Value.string) := by rw [hl2.out]; simpa using hown
    have HB : RowKit.Hid (Below w.heap.size w w2) := hbel0.out.grown hgrow (by simp) (own_base hown0.out)
    obtain ⟨a2, c2, rfl, _⟩ := own_formT hown2
    have hown3 : w2.ownsRow w.heap.size 9 1 (.slice a2 T.length c2) T.length (T.map Value.string) := hown2
    have HO := Lib.hid (TxAt.own hown3)
    have HOb := Lib.hid (own_from hown3)
    clear hown hown2 hown3 hgrow
    go_wp2
    go_ret
    exact ⟨_, _, _, rfl, HO.out, HOb.out, HB.out⟩
set_option maxRecDepth 100000 in
theorem equalT_same (a a' : Option Addr) (n c c' : Nat) (T : List ByteArray) (w : World) (h : TxAt w a n c T) (h' : TxAt w a' n c' T) (hl : n ≤ 100000) :
    Calls Tryz.prog 20 #[.slice a n c, .slice a' n c'] w fun e w' => e = .returned (.bool true) ∧ Below w.heap.size w w' := by
  have H := Lib.hid h
  have H' := Lib.hid h'
  clear h h'
  have HB0 := Lib.hid (Below.refl w.heap.size w)
  go_enter Tryz.func20, Tryz.ntmps20
  go_wp2
  go_loopw [13] (fun i wr => ∃ k : Nat, k ≤ n ∧ i = .int .i64 (k : Int) ∧ RowKit.Hid (Below w.heap.size w wr)) (fun i _ => n - (intOf i).toNat)
  case atStart => exact ⟨0, by omega, rfl, HB0.out⟩
  case round =>
    obtain ⟨k, hk, rfl, HW⟩ := hrel
    clear HB0
    by_cases hlt : k < n
    · obtain ⟨b, off, rfl, h1⟩ := (H.out.below HW.out).at_ hlt
      obtain ⟨b', off', rfl, h2⟩ := (H'.out.below HW.out).at_ hlt
      generalize T.getD k ⟨#[]⟩ = x at h1 h2
      have l1 : (k : Int) < (n : Int) := by omega
      have HN : RowKit.Hid (∀ nq, Below w.heap.size w (wr.drewN nq)) := fun nq => Below.drewN' HW.out nq
      go_wp2
      go_quiet (fail)
      go_wp2
      go_roundw
      case rel => exact ⟨k + 1, by omega, by go_num, HN.out _⟩
      case measure => simp [intOf] <;> omega
    · obtain rfl : k = n := by omega
      go_wp2
      go_ret
      exact ⟨rfl, HW.out⟩
set_option maxRecDepth 100000 in
set_option maxHeartbeats 1000000 in
theorem growT_any (n : Nat) (w : World) (h0 : 0 < n) (hn : n ≤ 200000) :
    Calls Tryz.prog 90 #[.slice none 0 0, .int .i64 (n : Int)] w fun e w' => ∃ v, e = .returned v ∧ w'.ownsRow w.heap.size 9 1 v ([] : List ByteArray).length (([] : List ByteArray).map Value.string) ∧ Below w.heap.size w w' := by
  have e1 : IntKind.i64.wrap ((n : Int) - 0) = (n : Int) := by rw [Int.sub_zero]; exact IntWalk.i64_in _ (by omega)
  have HB0 := Lib.hid (Below.refl w.heap.size w)
  have q : decide ((0 : Int) < (n : Int)) = true := by simp; omega
  go_enter Tryz.func90, Tryz.ntmps90
  go_wp2_with (at_builtin; go_loud (refine append_empty rfl _ _ 37 3 rfl 9 Tryz.underlying37 Tryz.underlying3 info23_str rfl n h0 (by omega) rfl ?_); intro v2 w2 hown hg; obtain ⟨a2, c2, rfl, hm2⟩ := own_formT hown; have HB := Lib.hid (HB0.out.grown hg (Nat.le_refl _) (fun j e => by cases e)); have HM := Lib.hid hm2; have HO2 := Lib.hid hown; clear hown hg hm2)
  go_ret
  exact ⟨_, rfl, own_zero HO2.out, HB.out⟩
def conT (b1 b2 : List ByteArray) : Nat → List ByteArray
  | 0 => []
  | 1 => b1
  | _ => b1 ++ b2
set_option maxRecDepth 100000 in
set_option maxHeartbeats 2000000 in
theorem concatT_any (g n1 c1 n2 c2 : Nat) (a1 a2 : Option Addr) (b1 b2 : List ByteArray) (w : World) (h1 : TxAt w a1 n1 c1 b1) (h2 : TxAt w a2 n2 c2 b2) (k0 : w.cell? ⟨g, 0, none⟩ = some (.slice a1 n1 c1)) (k1 : w.cell? ⟨g, 1, none⟩ = some (.slice a2 n2 c2)) (h0 : 0 < n2) (hl1 : n1 ≤ 1000) (hl2 : n2 ≤ 1000) :
    Calls Tryz.prog 46 #[.slice (some ⟨g, 0, none⟩) 2 2] w (TxPost (b1 ++ b2) w) := by
  have H1 := Lib.hid h1
  have H2 := Lib.hid h2
  have HL : RowKit.Hid (b1.length = n1 ∧ b2.length = n2) := ⟨h1.len, h2.len⟩
  have HK : RowKit.Hid (w.cell? ⟨g, 0, none⟩ = some (.slice a1 n1 c1) ∧ w.cell? ⟨g, 1, none⟩ = some (.slice a2 n2 c2)) := ⟨k0, k1⟩
  have hgl := cell_block k0
  simp only at hgl
  clear h1 h2
  have e1 : IntKind.i64.wrap (0 + (n1 : Int)) = (n1 : Int) := by rw [Int.zero_add]; exact IntWalk.i64_in _ (by omega)
  have e2 : IntKind.i64.wrap ((n1 : Int) + (n2 : Int)) = (n1 : Int) + (n2 : Int) := IntWalk.i64_in _ (by omega)
  have q1 : decide ((n1 : Int) < 0) = false := by simp
  have q2 : decide ((n1 : Int) + (n2 : Int) < 0) = false := by simp; omega
  go_enter Tryz.func46, Tryz.ntmps46
  go_wp2
  go_loop [3, 11] (fun s i => (i = .int .i64 0 ∧ s = .int .i64 0) ∨ (i = .int .i64 1 ∧ s = .int .i64 (n1 : Int)) ∨ (i = .int .i64 2 ∧ s = .int .i64 ((n1 : Int) + (n2 : Int)))) (fun _ i => 2 - (intOf i).toNat)
  case atStart => exact .inl ⟨rfl, rfl⟩
  case round =>
    rcases hrel with ⟨rfl, rfl⟩ | ⟨rfl, rfl⟩ | ⟨rfl, rfl⟩
    · go_wp2
      go_round
      case rel => exact .inr (.inl ⟨rfl, rfl⟩)
      case measure => simp [intOf] <;> omega
    · go_wp2
      go_round
      case rel => exact .inr (.inr ⟨rfl, rfl⟩)
      case measure => simp [intOf] <;> omega
    · obtain ⟨N, hN⟩ : ∃ N, n1 + n2 = N := ⟨_, rfl⟩
      have en : ((n1 : Int) + (n2 : Int)) = (N : Int) := by omega
      have HN := Lib.hid hN
      rw [en] at q2 ⊢
      clear k0 k1 e1 q1 e2 en hN
      have hN2 : 0 < N ∧ N ≤ 200000 := by rw [← HN.out]; omega
      go_wp2_with (go_at_call 90; go_loud (refine (growT_any N w hN2.1 hN2.2).mono ?_); rintro e w2 ⟨v2, rfl, ho, hb⟩; have HO := Lib.hid ho; have HB := Lib.hid hb; clear ho hb)
      go_loopw [6, 27] (fun v i wr => ∃ k : Nat, k ≤ 2 ∧ i = .int .i64 k ∧ RowKit.Hid (wr.ownsRow w.heap.size 9 1 v (conT b1 b2 k).length ((conT b1 b2 k).map Value.string) ∧ Below w.heap.size w wr)) (fun _ i _ => 2 - (intOf i).toNat)
      case atStart => exact ⟨0, by omega, rfl, HO.out, HB.out⟩
      case round =>
        obtain ⟨k, hk, rfl, H⟩ := hrel
        clear HO HB
        have : k = 0 ∨ k = 1 ∨ k = 2 := by omega
        rcases this with rfl | rfl | rfl
        · have k0 := (H.out.2.cell (p := ⟨g, 0, none⟩) hgl).trans HK.out.1
          go_wp2_with (at_builtin; go_loud (refine append_texts rfl _ _ 37 rfl w.heap.size 9 Tryz.underlying37 info23_str _ _ _ rfl H.out.1 a1 n1 c1 b1 rfl (H1.out.below H.out.2) (by simp [conT]; omega) H.out.2.size ?_); intro v6 w6 ho hg6 _; have H6 : RowKit.Hid (w6.ownsRow w.heap.size 9 1 v6 (conT b1 b2 1).length ((conT b1 b2 1).map Value.string) ∧ Below w.heap.size w w6) := ⟨ownT_app (T := []) ho rfl HL.out.1, H.out.2.grown hg6 H.out.2.size fun j e => own_base H.out.1 j e⟩; clear ho hg6)
          go_roundw
          case rel => exact ⟨1, by omega, rfl, H6.out⟩
          case measure => simp [intOf] <;> omega
        · have k1 := (H.out.2.cell (p := ⟨g, 1, none⟩) hgl).trans HK.out.2
          go_wp2_with (at_builtin; go_loud (refine append_texts rfl _ _ 37 rfl w.heap.size 9 Tryz.underlying37 info23_str _ _ _ rfl H.out.1 a2 n2 c2 b2 rfl (H2.out.below H.out.2) (by show b1.length + n2 ≤ _; rw [HL.out.1]; omega) H.out.2.size ?_); intro v6 w6 ho hg6 _; have H6 : RowKit.Hid (w6.ownsRow w.heap.size 9 1 v6 (conT b1 b2 2).length ((conT b1 b2 2).map Value.string) ∧ Below w.heap.size w w6) := ⟨ownT_app ho rfl HL.out.2, H.out.2.grown hg6 H.out.2.size fun j e => own_base H.out.1 j e⟩; clear ho hg6)
          go_roundw
          case rel => exact ⟨2, by omega, rfl, H6.out⟩
          case measure => simp [intOf] <;> omega
        · obtain ⟨a3, c3, e3, _⟩ := own_formT H.out.1
          subst e3
          have HT := Lib.hid (TxAt.own H.out.1)
          have HTb := Lib.hid (own_from H.out.1)
          have HB := Lib.hid H.out.2
          obtain ⟨N3, hN3⟩ : ∃ N3, (conT b1 b2 2).length = N3 := ⟨_, rfl⟩
          rw [hN3] at HT ⊢
          clear H hN3
          go_wp2
          go_ret
          exact ⟨_, _, _, rfl, HT.out, HTb.out, HB.out⟩
end Go.Proofs.YtmgfkdmjgjlkjaaGreat

namespace Go.Proofs.YtmgfkdmjgjlkjaaGreat
open Go.RowKit
set_option linter.unusedVariables false
set_option linter.unusedSimpArgs false
theorem results21_1 {fn : Func} {p : Tmp} {ty : TypeId} {tmps : Array Value} {P : Program} {w : World} {g : Nat} {v : Value} (h : fn.results = #[.cell p ty]) (hp : tmps.getD p undef = .pointer (some ⟨g, 0, none⟩))
    (e : (loadVar ty ⟨g, 0, none⟩).run P w = .ok v w) : (results fn tmps).run P w = .ok v w := by
  have hp' : tmps[p]?.getD undef = .pointer (some ⟨g, 0, none⟩) := by simpa using hp
  simp only [results, h]
  simp [Sem.run_bind, hp', asAddr, Result.andThen, e]
theorem own_len21 {w : World} {base e n : Nat} {v : Value} {zs : List Int} (h : w.ownsRow base e 1 v n (zs.map (Value.int .u8))) : w.ownsRow base e 1 v zs.length (zs.map (Value.int .u8)) := by
  have h1 := h.1
  rw [List.length_map, Nat.mul_one] at h1
  rw [h1]; exact h
theorem info21_pk : (Tryz.prog.info? 45).map (·.size) = some 4 := by kernel_rfl
theorem rgSlot_any (g n i : Nat) (w : World) (h : w.cell? ⟨g, 0, none⟩ = some (.int .i64 n)) (hn : 1 ≤ n) (hn2 : n ≤ 1024) (hi : i ≤ 2000000) :
    Calls Tryz.prog 66 #[.pointer (some ⟨g, 0, none⟩), .int .i64 i] w fun e w' => e = .returned (.int .i64 ((i % n : Nat) : Int)) ∧ w = w' := by
  have hn0 : ¬ (n : Int) = 0 := by omega
  have he : IntKind.i64.wrap ((i : Int).tmod (n : Int)) = ((i % n : Nat) : Int) := by
    rw [Int.tmod_eq_emod_of_nonneg (by omega), ← Int.natCast_emod]
    have : i % n < n := Nat.mod_lt _ hn
    exact IntWalk.i64_in _ (by omega)
  go_enter Tryz.func66, Tryz.ntmps66
  go_wp2
  go_ret
  exact ⟨by first | rfl | simp [he], rfl⟩
theorem quietN {P : Program} {f : FuncId} {args : Array Value} {w : World} {n : Nat} {v : Value}
    (h : Calls P f args (w.drewN n) fun e w' => e = .returned v ∧ ∃ k, w' = (w.drewN n).drewN k) : Calls P f args (w.drewN n) fun e w'' => e = .returned v ∧ ∃ m, w'' = w.drewN m := by
  refine h.mono ?_
  rintro e w' ⟨he, k, rfl⟩
  exact ⟨he, n + k, by simp [World.drewN, Nat.add_assoc]⟩
theorem rgFirst_any (g n m : Nat) (w : World) (h : w.cell? ⟨g, 0, none⟩ = some (.int .i64 n)) (h1 : w.cell? ⟨g, 1, none⟩ = some (.int .i64 m)) (hn2 : n ≤ 1024) (hm : m ≤ 2000000) :
    Calls Tryz.prog 91 #[.pointer (some ⟨g, 0, none⟩)] w fun e w' => e = .returned (.int .i64 ((firstP n m : Nat) : Int)) ∧ ∃ k, w' = w.drewN k := by
  have he : IntKind.i64.wrap ((m : Int) - (n : Int)) = (m : Int) - (n : Int) := IntWalk.i64_in _ (by omega)
  go_enter Tryz.func91, Tryz.ntmps91
  go_wp2
  go_quiet (fail)
  go_wp2
  all_goals
    go_ret
    exact ⟨ret_int (by unfold firstP; omega), _, rfl⟩
theorem rgEnds_any (g n m : Nat) (w : World) (h : w.cell? ⟨g, 0, none⟩ = some (.int .i64 n)) (h1 : w.cell? ⟨g, 1, none⟩ = some (.int .i64 m)) (hn2 : n ≤ 1024) (hm : m ≤ 2000000) :
    Calls Tryz.prog 50 #[.pointer (some ⟨g, 0, none⟩)] w fun e w' => e = .returned (.tuple #[.int .i64 ((firstP n m : Nat) : Int), .int .i64 m]) ∧ ∃ k, w' = w.drewN k := by
  have HF := Lib.hid (fun nq => quietN (rgFirst_any g n m (w.drewN nq) h h1 hn2 hm))
  go_enter Tryz.func50, Tryz.ntmps50
  go_wp2
  go_quiet ((go_at_call 91; exact HF.out _))
  go_wp2
  go_ret2
  exact ⟨rfl, _, rfl⟩
theorem rgCopied_any (p : Pk) (a : Option Addr) (c : Nat) (w : World) (h : PlAt w (fun _ => True) a p.pl.length c p.pl) (hl : p.pl.length ≤ 1000000) :
    Calls Tryz.prog 65 #[.agg (pkC p a p.pl.length c)] w fun e w' => ∃ a2 c2, e = .returned (.agg (pkC p a2 p.pl.length c2)) ∧ w'.ownsRow w.heap.size 5 1 (.slice a2 p.pl.length c2) p.pl.length (p.pl.map (Value.int .u8)) ∧ Below w.heap.size w w' := by
  have HP := Lib.hid h
  have hz : (Tryz.prog.info? 5).map (fun i => (i.zero, i.size, i.bytes)) = some (some (.int .u8 0), 1, 1) := by kernel_rfl
  have HZ := Lib.hid hz
  obtain ⟨ep, nu, wh, pl⟩ := p
  unfold pkC
  simp only at hl HP ⊢
  obtain ⟨m, hm⟩ : ∃ m, pl.length = m := ⟨_, rfl⟩
  rw [hm] at hl HP ⊢
  have hb0 : Below w.heap.size w ((w.alloc (.cells #[.int .u32 ep, .int .u32 nu, .bool wh, .slice a m c] 45)).alloc (.cells #[.int .u32 0, .int .u32 0, .bool false, .slice none 0 0] 45)) := ((Below.refl _ w).alloc (Nat.le_refl _) _).alloc (by simp) _
  have HB0 := Lib.hid hb0
  have HC0 := Lib.hid ((Cel.new w 45 #[.int .u32 ep, .int .u32 nu, .bool wh, .slice a m c]).alloc (.cells #[.int .u32 0, .int .u32 0, .bool false, .slice none 0 0] 45))
  have HC1 := Lib.hid (Cel.new (w.alloc (.cells #[.int .u32 ep, .int .u32 nu, .bool wh, .slice a m c] 45)) 45 #[.int .u32 0, .int .u32 0, .bool false, .slice none 0 0])
  rw [World.size_alloc] at HC1
  obtain ⟨w2, hw2⟩ : ∃ w2, (w.alloc (.cells #[.int .u32 ep, .int .u32 nu, .bool wh, .slice a m c] 45)).alloc (.cells #[.int .u32 0, .int .u32 0, .bool false, .slice none 0 0] 45) = w2 := ⟨_, rfl⟩
  have HW2 := Lib.hid hw2
  rw [hw2] at HB0 HC0 HC1
  have hs2 : w2.heap.size = w.heap.size + 2 := by rw [← hw2]; simp
  have HS2 := Lib.hid hs2
  clear h hz hb0 hw2 hs2
  go_enter Tryz.func65, Tryz.ntmps65
  go_wp2_with (at_builtin; rw [HW2.out]; go_loud (refine append_ints rfl _ _ 43 rfl w2.heap.size 5 .u8 1 Tryz.underlying43 HZ.out (.slice none 0 0) 0 [] rfl (World.ownsRow_nil w2 w2.heap.size 5 1) a m c w.heap.size pl rfl (HP.out.i.below HB0.out) HP.out.n (by unfold maxLen; omega) (by omega) (Nat.le_refl _) ?_); intro v3 w3 ho hg hv; replace ho := own_len21 ho; rw [List.nil_append] at ho; obtain ⟨a3, m3, c3, rfl, hm3⟩ := own_form_m ho; rw [hm] at hm3; subst hm3; rw [hm] at ho; have HO := Lib.hid ho; have HB3 := Lib.hid ((Below.refl w2.heap.size w2).grown hg (Nat.le_refl _) (fun j e => (by simp [Value.ownBlock] at e))); have HD0 := Lib.hid (HC0.out.below HB3.out); have HD1 := Lib.hid (HC1.out.below HB3.out); obtain ⟨c0, c1, c2, c3'⟩ := cel4 HD0.out; obtain ⟨f0, f1, f2, f3⟩ := frz4 HD0.out; obtain ⟨g0, g1, g2, g3⟩ := frz4 HD1.out; obtain ⟨k0, k1, k2, k3⟩ := cel4 HD1.out; clear ho hg hv)
  refine bodyPost_ret (results21_1 rfl rfl (run_loadVar_row _ (w.heap.size + 1) _ _ _ (0, 0) _ (cel_set4 (HD1.out.far (by simp) _) rfl _ _ _ _) Tryz.underlying45 rfl info21_pk)) rfl ?_
  have hs2 := HS2.out
  have hb3 := chain HB0.out HB3.out
  have hb4 := below_set4 (hb3.setCell (p := ⟨w.heap.size, 3, none⟩) (Nat.le_refl _) (.slice a3 m3 c3)) (g := w.heap.size + 1) (by omega) (.int .u32 ep) (.int .u32 nu) (.bool wh) (.slice a3 m3 c3)
  refine ⟨a3, c3, rfl, ?_, hb4⟩
  have ho := own_lower HO.out (b2 := w.heap.size) (by omega)
  have hne : ∀ k, (Value.slice a3 m3 c3).ownBlock = some k → k ≠ w.heap.size ∧ k ≠ w.heap.size + 1 := by
    intro k hk
    have := own_base HO.out k hk
    omega
  exact own_far (own_far (own_far (own_far (own_far ho (fun k hk => (hne k hk).1) _) (fun k hk => (hne k hk).2) _) (fun k hk => (hne k hk).2) _) (fun k hk => (hne k hk).2) _) (fun k hk => (hne k hk).2) _
def rgCells (n : Int) : List Value := [.int .i64 n, .int .i64 0] ++ List.replicate 1024 (.pointer none)
theorem rgCells_one (n : Int) : (rgCells n).toArray.all (·.oneCell') = true := by
  rw [Array.all_eq_true_iff_forall_mem]
  intro x hx
  simp only [rgCells, List.mem_toArray, List.mem_append, List.mem_replicate, List.mem_cons, List.not_mem_nil, or_false] at hx
  rcases hx with (rfl | rfl) | ⟨_, rfl⟩ <;> rfl
set_option maxRecDepth 100000 in
theorem rg_build (n : Int) : Tryz.prog.built 130 [(0, .int .i64 n)] = some (rgCells n).toArray := by kernel_rfl
theorem wpList_build_as21 {P : Program} {ops : Array Oper} {rest : List Oper} {o : Oper} {a : Act} {w : World} {Q : Exit → Act → World → Prop} (hg : o.guard = none) (t : TypeId) (parts : Array (Nat × Operand)) (ho : o.op = .build t parts) (cs : Array Value)
    (vs : List (Nat × Value)) (hv : (parts.map fun (i, x) => (i, a.eval x)).toList = vs) (hf : P.built t vs = some cs) (h : wpList P ops Q rest (a.put o.dst (.agg cs)) w) : wpList P ops Q (o :: rest) a w :=
  wpList_build hg t parts ho (by rw [hv, hf]; rfl) (by rw [hv, hf]; exact h)
set_option maxRecDepth 100000 in
theorem rgNew_any (n : Nat) (w : World) (h1 : 1 ≤ n) (h2 : n ≤ 1024) :
    Calls Tryz.prog 55 #[.int .i64 n] w fun e w' => ∃ g, e = .returned (.tuple #[.pointer (some ⟨g, 0, none⟩), .int .i64 0]) ∧ w.heap.size ≤ g ∧ RgAt w' g n [] (fun _ => False) ∧ Below w.heap.size w w' := by
  have hd : decide ((n : Int) < 1) = false := by simp; omega
  have hd2 : decide ((1024 : Int) < (n : Int)) = false := by simp; omega
  have HC := Lib.hid (Cel.new w 130 (rgCells n).toArray)
  have HB := Lib.hid (Below.alloc_new w (.cells (rgCells n).toArray 130))
  have hbd := rg_build n
  have HR : RowKit.Hid (RgC (w.alloc (.cells (rgCells n).toArray 130)) (fun _ => False) n [] (rgCells n).toArray) :=
    ⟨by simp [rgCells], by simp [rgCells], by simp [rgCells], fun i p hp _ => by simp at hp⟩
  have o1 := rgCells_one n
  obtain ⟨c1, e1⟩ : ∃ c1, (rgCells n).toArray = c1 := ⟨_, rfl⟩
  have z1 : c1.size = 1026 := by rw [← e1]; simp [rgCells]
  rw [e1] at hbd HC HB HR o1
  have HBD := Lib.hid hbd
  have HO := Lib.hid o1
  clear hbd e1 o1
  go_enter Tryz.func55, Tryz.ntmps55
  go_wp2_with (first | (refine wpList_build_as21 rfl 130 _ rfl c1 [(0, .int .i64 n)] (by kernel_rfl) HBD.out ?_) | fail)
  go_ret2
  exact ⟨w.heap.size, rfl, Nat.le_refl _, ⟨h1, h2, fun h => h, c1, HC.out, HR.out⟩, HB.out⟩
end Go.Proofs.YtmgfkdmjgjlkjaaGreat

namespace Go.Proofs.YtmgfkdmjgjlkjaaGreat
open Go.RowKit
set_option linter.unusedVariables false
set_option linter.unusedSimpArgs false
theorem results21_2 {fn : Func} {p u : Tmp} {ty : TypeId} {tmps : Array Value} {P : Program} {w : World} {g : Nat} {v v' : Value} (h : fn.results = #[.cell p ty, .tmp u]) (hp : tmps.getD p undef = .pointer (some ⟨g, 0, none⟩)) (hv : tmps.getD u undef = v')
    (e : (loadVar ty ⟨g, 0, none⟩).run P w = .ok v w) : (results fn tmps).run P w = .ok (.tuple #[v, v']) w := by
  have hp' : tmps[p]?.getD undef = .pointer (some ⟨g, 0, none⟩) := by simpa using hp
  have hv' : tmps[u]?.getD undef = v' := by simpa using hv
  simp only [results, h]
  simp [Sem.run_bind, hp', hv', asAddr, Result.andThen, e]
def pkN : Pk := ⟨0, 0, false, []⟩
set_option maxRecDepth 100000 in
set_option maxHeartbeats 2000000 in
theorem rgAt_yes (g n : Nat) (ps : List Pk) (D : Nat → Prop) (i : Nat) (p : Pk) (w : World) (h : RgAt w g n ps D) (hN : ps.length ≤ 1000000) (hp : ps[i]? = some p) (hl : p.pl.length ≤ 1000000) (hi : ps.length ≤ i + n) :
    Calls Tryz.prog 51 #[.pointer (some ⟨g, 0, none⟩), .int .i64 i] w fun e w' => ∃ a c, e = .returned (.tuple #[.agg (pkC p a p.pl.length c), .bool true]) ∧ w'.ownsRow w.heap.size 5 1 (.slice a p.pl.length c) p.pl.length (p.pl.map (Value.int .u8)) ∧ Below w.heap.size w w' := by
  have hlt : i < ps.length := (List.getElem?_eq_some_iff.1 hp).1
  obtain ⟨k0, k1⟩ := h.head
  obtain ⟨q, a, c, kq, _, hq, ha⟩ := h.at_ hp hi
  have n1 := h.n1
  have n2 := h.n2
  have HC := Lib.hid (Cel.new w 45 #[.int .u32 0, .int .u32 0, .bool false, .slice none 0 0])
  have HB := Lib.hid (Below.alloc_new w (.cells #[.int .u32 0, .int .u32 0, .bool false, .slice none 0 0] 45))
  obtain ⟨m, hm⟩ : ∃ m, ps.length = m := ⟨_, rfl⟩
  rw [hm] at k1 hi hlt hN
  have HE := Lib.hid (rgEnds_any g n m (w.alloc (.cells #[.int .u32 0, .int .u32 0, .bool false, .slice none 0 0] 45)) ((HB.out.cell (p := ⟨g, 0, none⟩) (cell_block k0)).trans k0) ((HB.out.cell (p := ⟨g, 1, none⟩) (cell_block k1)).trans k1) n2 (by omega))
  have HSl : RowKit.Hid (∀ W, W.cell? ⟨g, 0, none⟩ = some (.int .i64 n) → Calls Tryz.prog 66 #[.pointer (some ⟨g, 0, none⟩), .int .i64 i] W fun e w' => e = .returned (.int .i64 ((i % n : Nat) : Int)) ∧ W = w') := fun W hW => rgSlot_any g n i W hW n1 n2 (by omega)
  have HCp : RowKit.Hid (∀ W, Below w.heap.size w W → Calls Tryz.prog 65 #[.agg (pkC p a p.pl.length c)] W fun e w' => ∃ a2 c2, e = .returned (.agg (pkC p a2 p.pl.length c2)) ∧ w'.ownsRow W.heap.size 5 1 (.slice a2 p.pl.length c2) p.pl.length (p.pl.map (Value.int .u8)) ∧ Below W.heap.size W w') :=
    fun W hW => rgCopied_any p a c W ((ha.below hW).weaken fun _ _ _ => trivial) hl
  have hsn : i % n < n := Nat.mod_lt _ n1
  obtain ⟨s, hs⟩ : ∃ s, i % n = s := ⟨_, rfl⟩
  rw [hs] at kq hsn HSl
  have qs : (s : Int) < 1024 := by omega
  obtain ⟨f, hf⟩ : ∃ f, firstP n m = f := ⟨_, rfl⟩
  have hf2 : f ≤ i := by rw [← hf]; unfold firstP; omega
  rw [hf] at HE
  have q1 : decide (i < f) = false := by simp; omega
  have q2 : decide (m ≤ i) = false := by simp; omega
  unfold pkC at hq HCp ⊢
  obtain ⟨l, hl2⟩ : ∃ l, p.pl.length = l := ⟨_, rfl⟩
  rw [hl2] at hq HCp ⊢
  have HSS : RowKit.Hid (∀ w' : World, Below w.heap.size w w' → (fun w' => Below w.heap.size w w' ∧ w'.cell? ⟨g, 0, none⟩ = some (.int .i64 n) ∧ w'.cell? ⟨g, 2 + s, none⟩ = some (.pointer (some ⟨q, 0, none⟩)) ∧ w'.cell? ⟨q, 0, none⟩ = some (.int .u32 p.ep) ∧ w'.cell? ⟨q, 1, none⟩ = some (.int .u32 p.nu) ∧ w'.cell? ⟨q, 2, none⟩ = some (.bool p.wh) ∧ w'.cell? ⟨q, 3, none⟩ = some (.slice a l c)) w') := by
    intro w' hb
    obtain ⟨z0, z1, z2, z3⟩ := cel4 (hq.below hb)
    exact ⟨hb, (hb.cell (p := ⟨g, 0, none⟩) (cell_block k0)).trans k0, (hb.cell (p := ⟨g, 2 + s, none⟩) (cell_block kq)).trans kq, z0, z1, z2, z3⟩
  clear h hp ha hq kq k0 k1 hs hf hl2 hm hi
  go_enter Tryz.func51, Tryz.ntmps51
  go_wp2_with (go_at_call 50; go_loud (refine HE.out.mono ?_); rintro e w2 ⟨rfl, k, rfl⟩; have HC2 := Lib.hid (HC.out.drewN k); have HB2 := Lib.hid (Below.drewN' HB.out k))
  obtain ⟨w2, hw2⟩ : ∃ w2, (w.alloc (.cells #[.int .u32 0, .int .u32 0, .bool false, .slice none 0 0] 45)).drewN k = w2 := ⟨_, rfl⟩
  rw [hw2] at HC2 HB2 ⊢
  clear HE HC HB
  refine wp_region_held_drew (S := (fun w' => Below w.heap.size w w' ∧ w'.cell? ⟨g, 0, none⟩ = some (.int .i64 n) ∧ w'.cell? ⟨g, 2 + s, none⟩ = some (.pointer (some ⟨q, 0, none⟩)) ∧ w'.cell? ⟨q, 0, none⟩ = some (.int .u32 p.ep) ∧ w'.cell? ⟨q, 1, none⟩ = some (.int .u32 p.nu) ∧ w'.cell? ⟨q, 2, none⟩ = some (.bool p.wh) ∧ w'.cell? ⟨q, 3, none⟩ = some (.slice a l c))) rfl (HSS.out _ (Below.drewN' HB2.out 1)) (fun hS0 => ?_)
  refine wpAnyH_take (i := 0) (v := ?_) rfl (by kernel_rfl) (by kernel_rfl) (by kernel_rfl) (fun _ _ _ h => h) (Or.inl ⟨by rfl, ?_⟩) (by assumption) ?_
  rotate_left 1
  · intro wq hSw
    (try dsimp only at hSw)
    go_simp
    all_goals (with_reducible rfl)
  (try simp only [Act.put, List.setIfInBounds_toArray, List.set_cons_zero, List.set_cons_succ, List.getElem_toArray, List.getElem_cons_zero, List.getElem_cons_succ])
  refine wpAnyH_take (i := 1) (v := ?_) rfl (by kernel_rfl) (by kernel_rfl) (by kernel_rfl) (fun _ _ _ h => h) (Or.inl ⟨by rfl, ?_⟩) (by assumption) ?_
  rotate_left 1
  · intro wq hSw
    (try dsimp only at hSw)
    go_simp
    all_goals (with_reducible rfl)
  (try simp only [Act.put, List.setIfInBounds_toArray, List.set_cons_zero, List.set_cons_succ, List.getElem_toArray, List.getElem_cons_zero, List.getElem_cons_succ])
  refine wpAnyH_take (i := 2) (v := ?_) rfl (by kernel_rfl) (by kernel_rfl) (by kernel_rfl) (fun _ _ _ h => h) (Or.inl ⟨by rfl, ?_⟩) (by assumption) ?_
  rotate_left 1
  · intro wq hSw
    (try dsimp only at hSw)
    go_simp
    all_goals (with_reducible rfl)
  (try simp only [Act.put, List.setIfInBounds_toArray, List.set_cons_zero, List.set_cons_succ, List.getElem_toArray, List.getElem_cons_zero, List.getElem_cons_succ])
  refine wpAnyH_take (i := 4) (v := ?_) rfl (by kernel_rfl) (by kernel_rfl) (by kernel_rfl) (fun _ _ _ h => h) (Or.inl ⟨by rfl, ?_⟩) (by assumption) ?_
  rotate_left 1
  · intro wq hSw
    (try dsimp only at hSw)
    go_simp
    all_goals (with_reducible rfl)
  (try simp only [Act.put, List.setIfInBounds_toArray, List.set_cons_zero, List.set_cons_succ, List.getElem_toArray, List.getElem_cons_zero, List.getElem_cons_succ])
  refine wpAnyH_take (i := 5) (v := ?_) rfl (by kernel_rfl) (by kernel_rfl) (by kernel_rfl) (fun _ _ _ h => h) (Or.inl ⟨by rfl, ?_⟩) (by assumption) ?_
  rotate_left 1
  · intro wq hSw
    (try dsimp only at hSw)
    go_simp
    all_goals (with_reducible rfl)
  (try simp only [Act.put, List.setIfInBounds_toArray, List.set_cons_zero, List.set_cons_succ, List.getElem_toArray, List.getElem_cons_zero, List.getElem_cons_succ])
  refine wpAnyH_ready (rs := [3]) (by kernel_rfl) (by simp) ?_
  refine AllReadyH.cons rfl (fun K hK => ?_) AllReadyH.nil
  go_simp
  go_at_call 66
  go_loud (refine (HSl.out _ hS0.2.1).mono ?_)
  rintro e3 w3 ⟨rfl, rfl⟩
  refine hK.out _ _ hS0 (fun _ => ?_)
  clear hK K
  (try simp only [Act.put, List.setIfInBounds_toArray, List.set_cons_zero, List.set_cons_succ, List.getElem_toArray, List.getElem_cons_zero, List.getElem_cons_succ])
  refine wpAnyH_take (i := 6) (v := ?_) rfl (by kernel_rfl) (by kernel_rfl) (by kernel_rfl) (fun _ _ _ h => h) (Or.inl ⟨by rfl, ?_⟩) (by assumption) ?_
  rotate_left 1
  · intro wq hSw
    (try dsimp only at hSw)
    go_simp
    all_goals (with_reducible rfl)
  (try simp only [Act.put, List.setIfInBounds_toArray, List.set_cons_zero, List.set_cons_succ, List.getElem_toArray, List.getElem_cons_zero, List.getElem_cons_succ])
  refine wpAnyH_take (i := 7) (v := ?_) rfl (by kernel_rfl) (by kernel_rfl) (by kernel_rfl) (fun _ _ _ h => h) (Or.inl ⟨by rfl, ?_⟩) (by assumption) ?_
  rotate_left 1
  · intro wq hSw
    (try dsimp only at hSw)
    go_simp
    all_goals (with_reducible rfl)
  (try simp only [Act.put, List.setIfInBounds_toArray, List.set_cons_zero, List.set_cons_succ, List.getElem_toArray, List.getElem_cons_zero, List.getElem_cons_succ])
  refine wpAnyH_take (i := 8) (v := ?_) rfl (by kernel_rfl) (by kernel_rfl) (by kernel_rfl) (fun _ _ _ h => h) (Or.inl ⟨by rfl, ?_⟩) (by assumption) ?_
  rotate_left 1
  · intro wq hSw
    (try dsimp only at hSw)
    go_simp
    all_goals (with_reducible rfl)
  (try simp only [Act.put, List.setIfInBounds_toArray, List.set_cons_zero, List.set_cons_succ, List.getElem_toArray, List.getElem_cons_zero, List.getElem_cons_succ])
  refine wpAnyH_take (i := 9) (v := ?_) rfl (by kernel_rfl) (by kernel_rfl) (by kernel_rfl) (fun _ _ _ h => h) (Or.inl ⟨by rfl, ?_⟩) (by assumption) ?_
  rotate_left 1
  · intro wq hSw
    (try dsimp only at hSw)
    go_simp
    all_goals (with_reducible rfl)
  (try simp only [Act.put, List.setIfInBounds_toArray, List.set_cons_zero, List.set_cons_succ, List.getElem_toArray, List.getElem_cons_zero, List.getElem_cons_succ])
  refine wpAnyH_ready (rs := [10]) (by kernel_rfl) (by simp) ?_
  refine AllReadyH.cons rfl (fun K hK => ?_) AllReadyH.nil
  go_simp
  go_at_call 65
  go_loud (refine (HCp.out _ hS0.1).mono ?_)
  rintro e4 w4 ⟨a2, c2, rfl, ho, hb⟩
  have HO := Lib.hid ho
  have HC4 := Lib.hid (Cel.below (HC2.out.drewN 1) hb)
  have hb4 := hS0.1.trans (hb.mono hS0.1.size)
  have hS4 := HSS.out _ hb4
  have HS2 := Lib.hid hS0.1.size
  refine hK.out _ _ hS4 (fun _ => ?_)
  clear hK K ho hb hS0
  (try simp only [Act.put, List.setIfInBounds_toArray, List.set_cons_zero, List.set_cons_succ, List.getElem_toArray, List.getElem_cons_zero, List.getElem_cons_succ])
  refine wpAnyH_ready (rs := [11]) (by kernel_rfl) (by simp) ?_
  refine AllReadyH.cons rfl (fun K hK => ?_) AllReadyH.nil
  obtain ⟨z0, z1, z2, z3⟩ := cel4 HC4.out
  obtain ⟨f0, f1, f2, f3⟩ := frz4 HC4.out
  go_simp
  refine hK.out _ _ (HSS.out _ (below_set4 hb4 (Nat.le_refl _) _ _ _ _)) (fun _ => ?_)
  clear hK K
  (try simp only [Act.put, List.setIfInBounds_toArray, List.set_cons_zero, List.set_cons_succ, List.getElem_toArray, List.getElem_cons_zero, List.getElem_cons_succ])
  refine wpAnyH_take (i := 12) (v := ?_) rfl (by kernel_rfl) (by kernel_rfl) (by kernel_rfl) (fun _ _ _ h => h) (Or.inl ⟨by rfl, ?_⟩) (by assumption) ?_
  rotate_left 1
  · intro wq hSw
    (try dsimp only at hSw)
    go_simp
    all_goals (with_reducible rfl)
  (try simp only [Act.put, List.setIfInBounds_toArray, List.set_cons_zero, List.set_cons_succ, List.getElem_toArray, List.getElem_cons_zero, List.getElem_cons_succ])
  refine wpAnyH_done (by kernel_rfl) ?_ _
  go_wp2
  refine bodyPost_ret (results21_2 rfl rfl rfl (run_loadVar_row _ w.heap.size _ _ _ (0, 0) _ (cel_set4 HC4.out rfl _ _ _ _) Tryz.underlying45 rfl info21_pk)) rfl ?_
  have hs2 := HS2.out
  rw [World.size_drew] at hs2
  have hs3 := HC2.out.lt
  refine ⟨a2, c2, rfl, ?_, below_set4 hb4 (Nat.le_refl _) _ _ _ _⟩
  have ho := own_lower HO.out (b2 := w.heap.size) (by rw [World.size_drew]; omega)
  have hne : ∀ k, (Value.slice a2 l c2).ownBlock = some k → k ≠ w.heap.size := by
    intro k hk
    have := own_base HO.out k hk
    rw [World.size_drew] at this
    omega
  exact own_far (own_far (own_far (own_far ho (fun k hk => hne k hk) _) (fun k hk => hne k hk) _) (fun k hk => hne k hk) _) (fun k hk => hne k hk) _
end Go.Proofs.YtmgfkdmjgjlkjaaGreat
