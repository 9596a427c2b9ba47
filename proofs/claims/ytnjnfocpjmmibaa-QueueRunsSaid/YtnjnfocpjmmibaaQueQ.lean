/- The law's model of a queue: take. -/
import Derived.Test.YtnjnfocpjmmibaaQueO
import Derived.Deep.RegionLaw
namespace Go.Proofs.Ytnjnfocpjmmibaa
open Go.RowKit
set_option linter.unusedVariables false
set_option linter.unusedSimpArgs false

theorem textOf_size (T : List Int) : (textOf T).size = T.length := by
  unfold textOf
  have : ∀ (T : List Int) (b : ByteArray), (T.foldl (fun r n => r.push (UInt8.ofNat n.toNat)) b).size = b.size + T.length := by
    intro T
    induction T with
    | nil => intro b; simp
    | cons x T ih => intro b; rw [List.foldl_cons, ih, ByteArray.size_push]; simp; omega
  rw [this]
  simp
theorem textOf_app (T U : List Int) : textOf (T ++ U) = textOf T ++ textOf U := by
  unfold textOf
  have : ∀ (U : List Int) (b c : ByteArray), U.foldl (fun r n => r.push (UInt8.ofNat n.toNat)) (b ++ c) = b ++ U.foldl (fun r n => r.push (UInt8.ofNat n.toNat)) c := by
    intro U
    induction U with
    | nil => intro b c; rfl
    | cons x U ih =>
      intro b c
      rw [List.foldl_cons, List.foldl_cons, ← ih]
      congr 1
      apply ByteArray.ext
      simp
  rw [List.foldl_append]
  have h := this U (T.foldl (fun r n => r.push (UInt8.ofNat n.toNat)) ByteArray.empty) ByteArray.empty
  rw [ByteArray.append_empty] at h
  exact h
/-- How take stands: T was taken. -/
structure MtSt (w : World) (D : Nat → Prop) (gm n : Nat) (ro : Option Nat) (K : Nat) (q : Q22) (T : List Int) (q' : Q22) (wr : World) : Prop where
  hm : MoAt wr gm n q' D ro
  hk : Keeps (fun j => j = gm) w wr
  ht : T.length ≤ K
  he : takeQ q.l K q.head = (T ++ (takeQ q'.l (K - T.length) q'.head).1, (takeQ q'.l (K - T.length) q'.head).2)
  hd : q'.drops = q.drops
  hl : q'.lost = q.lost
  hs : q'.size ≤ q.size
section
variable {w wr w' : World} {D : Nat → Prop} {gm n K ch cl c : Nat} {q q' : Q22} {T : List Int} {ro : Option Nat} {ah al a : Option Addr} {xs : List Value}
theorem MtSt.done (h : MtSt w D gm n ro K q T q' wr) (hT : T.length = K ∨ q'.head = [] ∧ q'.l = []) : Ending.returned (.string (textOf T)) = .returned (.string (textOf (q.out K))) ∧ MoAt wr gm n (q.take K) D ro ∧ Keeps (fun j => j = gm) w wr := by
  have e0 : takeQ q'.l (K - T.length) q'.head = ([], q'.head, q'.l) := by
    rcases hT with h1 | ⟨h1, h2⟩
    · rw [takeQ_le (by omega), h1, Nat.sub_self]; simp
    · rw [h1, h2, takeQ_none]
  have e1 := h.he
  rw [e0] at e1
  simp only [List.append_nil] at e1
  have e2 : q.out K = T := by unfold Q22.out; rw [e1]
  have e3 : q.take K = q' := by
    unfold Q22.take
    rw [e1]
    have h1 := h.hd
    have h2 := h.hl
    cases q'
    simp only at h1 h2 ⊢
    rw [h1, h2]
  exact ⟨by rw [e2], by rw [e3]; exact h.hm, h.hk⟩
/-- A packet is begun. -/
theorem MtSt.begun (h : MtSt w D gm n ro K q T q' wr) (hx : MoX wr gm n q' D ro ah ch al cl xs) {p : List Int} {l : List (List Int)} (h0 : q'.head = []) (hl : q'.l = p :: l) (hT : T.length < K) {r off : Nat} (hal : al = some ⟨r, off, none⟩) {a' : Option Addr} (ha : a' = some ⟨r, off + 1, none⟩ ∨ cl = 1 ∧ a' = some ⟨r, off, none⟩) (hp : By22 wr D a p.length c p) {m m' : Nat} (hm : m = p.length) (hm' : m' = l.length) (hk : Keeps (fun j => j = gm) wr w')
    (hc : Cel w' gm 34 #[.slice a m c, .slice a' m' (cl - 1), .int .i64 n, .bool q'.drops, .int .i64 q'.lost]) : MtSt w D gm n ro K q T ⟨p, l, q'.drops, q'.lost⟩ w' := by
  subst hm
  subst hm'
  subst hal
  have hd : ∀ j, j = gm → ¬ D j := fun j e hj => h.hm.dg (e ▸ hj)
  obtain ⟨x, xs, rfl⟩ : ∃ x ys, xs = x :: ys := by
    have := hx.hl.len
    rw [hl] at this
    cases xs with
    | nil => simp at this
    | cons x ys => exact ⟨x, ys, rfl⟩
  have hw := hx.hl.next ha
  have hl1 : q'.l.length - 1 = l.length := by rw [hl]; rfl
  rw [hl1] at hw
  have hp2 := hp.keeps hk hd
  refine ⟨⟨h.hm.dg, h.hm.dr, a, c, a', cl - 1, xs, ⟨hc, hp2, hw.keeps hk fun r e1 e2 => (h.hm.dr r e1).2 e2, fun i p' hi => ?_, hp2.f_⟩⟩, h.hk.trans hk, h.ht, ?_, h.hd, h.hl, ?_⟩
  · obtain ⟨a2, c2, k1, k2⟩ := hx.hp (i + 1) p' (by rw [hl]; exact hi)
    exact ⟨a2, c2, k1, k2.keeps hk hd⟩
  · rw [h.he, hl, h0, takeQ_next (by omega)]
  · have := h.hs
    unfold Q22.size at this ⊢
    rw [h0, hl] at this
    simpa using this
/-- One byte goes. -/
theorem MtSt.byte (h : MtSt w D gm n ro K q T q' wr) (hx : MoX wr gm n q' D ro ah ch al cl xs) {x : Int} {hd : List Int} (h0 : q'.head = x :: hd) (hT : T.length < K) {r off : Nat} (hah : ah = some ⟨r, off, none⟩) {a' : Option Addr} (ha : a' = some ⟨r, off + 1, none⟩ ∨ ch = 1 ∧ a' = some ⟨r, off, none⟩) {m' : Nat} (hm' : m' = hd.length) (hk : Keeps (fun j => j = gm) wr w')
    (hc : Cel w' gm 34 #[.slice a' m' (ch - 1), .slice al q'.l.length cl, .int .i64 n, .bool q'.drops, .int .i64 q'.lost]) : MtSt w D gm n ro K q (T ++ [x]) ⟨hd, q'.l, q'.drops, q'.lost⟩ w' := by
  subst hm'
  subst hah
  have hdd : ∀ j, j = gm → ¬ D j := fun j e hj => h.hm.dg (e ▸ hj)
  have hb := hx.hh
  rw [h0] at hb
  have hb2 := hb.cut (lo := 1) (by simp) a' ha
  simp only [List.length_cons, Nat.add_sub_cancel, List.drop_one, List.tail_cons] at hb2
  have hb3 := hb2.keeps hk hdd
  refine ⟨⟨h.hm.dg, h.hm.dr, a', ch - 1, al, cl, xs, ⟨hc, hb3, hx.hl.keeps hk fun r e1 e2 => (h.hm.dr r e1).2 e2, fun i p' hi => ?_, hb3.f_⟩⟩, h.hk.trans hk, by simp; omega, ?_, h.hd, h.hl, ?_⟩
  · obtain ⟨a2, c2, k1, k2⟩ := hx.hp i p' hi
    exact ⟨a2, c2, k1, k2.keeps hk hdd⟩
  · have e := takeQ_part (l := q'.l) (k := K - T.length) (t := [x]) (r := hd) (by simp; omega)
    rw [h.he, h0, show x :: hd = [x] ++ hd from rfl, e]
    simp [Nat.sub_add_eq, List.append_assoc]
  · have := h.hs
    unfold Q22.size at this ⊢
    rw [h0] at this
    simp at this ⊢
    omega
end
def sizV22 : Value → Nat
  | .string s => s.size
  | _ => 0
def lenC22 : Option Value → Nat
  | some (.slice _ n _) => n
  | _ => 0
set_option maxRecDepth 100000 in
set_option maxHeartbeats 2000000 in
theorem moTake_any (gm n : Nat) (q : Q22) (D : Nat → Prop) (ro : Option Nat) (K : Nat) (w : World) (h : MoAt w gm n q D ro) (hs : q.size ≤ 100000) (hK : K ≤ 2000000) :
    Calls Try.prog 13 #[.pointer (some ⟨gm, 0, none⟩), .int .i64 K] w fun e w' => e = .returned (.string (textOf (q.out K))) ∧ MoAt w' gm n (q.take K) D ro ∧ Keeps (fun j => j = gm) w w' := by
  have H0 : RowKit.Hid (MtSt w D gm n ro K q [] q w) := ⟨h, Keeps.refl _ _, Nat.zero_le _, rfl, rfl, rfl, Nat.le_refl _⟩
  have hs2 := Lib.hid hs
  clear h hs
  go_enter Try.func13, Try.ntmps13
  go_wp2
  go_loopw [5] (fun s wr => ∃ T q', s = .string (textOf T) ∧ RowKit.Hid (MtSt w D gm n ro K q T q' wr)) (fun s _ => K - sizV22 s)
  case atStart => exact ⟨[], q, rfl, H0.out⟩
  case round =>
    obtain ⟨T, q', rfl, H⟩ := hrel
    clear H0
    obtain ⟨t, hte⟩ : ∃ t, textOf T = t := ⟨_, rfl⟩
    have htl : t.size = T.length := by rw [← hte]; exact textOf_size T
    have HTe := Lib.hid hte
    rw [hte]
    have hTK := H.out.ht
    obtain ⟨tl, htl2⟩ : ∃ tl, T.length = tl := ⟨_, rfl⟩
    have HTl := Lib.hid htl2
    rw [htl2] at htl hTK
    clear hte htl2
    by_cases hlt : tl < K
    · have d1 : decide ((tl : Int) < (K : Int)) = true := by simp; omega
      go_wp2
      go_loopw [] (fun wx => ∃ q2, RowKit.Hid (MtSt w D gm n ro K q T q2 wx)) (fun wx => lenC22 (wx.cell? ⟨gm, 1, none⟩))
      case atStart => exact ⟨q', H.out⟩
      case round =>
        obtain ⟨q2, H2⟩ := hrel
        clear H
        obtain ⟨ah, ch, al, cl, xs, hx⟩ := H2.out.hm.x
        have HX := Lib.hid hx
        obtain ⟨k0, k1, k2, k3, k4⟩ := cel5 hx.hc
        have f0 := hx.hc.frozen 0
        have f1 := hx.hc.frozen 1
        clear hx
        cases hh : q2.head with
        | nil =>
          have e0 : q2.head.length = 0 := by rw [hh]; rfl
          rw [e0] at k0
          cases hl : q2.l with
          | nil =>
            have e1 : q2.l.length = 0 := by rw [hl]; rfl
            rw [e1] at k1
            have HD := Lib.hid (H2.out.done (.inr ⟨hh, hl⟩))
            rw [HTe.out] at HD
            clear H2 HX hh hl e0 e1
            go_wp2
            go_ret
            exact HD.out
          | cons p l =>
            have e1 : q2.l.length = l.length + 1 := by rw [hl]; rfl
            have hwl := HX.out.hl
            have hcl := hwl.le
            rw [e1] at k1 hwl hcl
            obtain ⟨r, off, rfl, hro⟩ := hwl.form (by omega)
            obtain ⟨a2, c2, k5, k6⟩ := HX.out.hp 0 p (by rw [hl]; rfl)
            have k7 : wr.cell? ⟨r, off, none⟩ = some (.slice a2 p.length c2) := by
              have := hwl.cell (j := 0) (by omega)
              rw [Nat.add_zero] at this
              rw [this]
              exact k5
            have HHl : RowKit.Hid (q2.head = [] ∧ q2.l = p :: l) := ⟨hh, hl⟩
            have HP2 := Lib.hid k6
            have hrg := (H2.out.hm.dr r hro).2
            have HN : RowKit.Hid (lenC22 (wr.cell? ⟨gm, 1, none⟩) = l.length + 1) := by rw [k1]; exact Lib.hid rfl
            obtain ⟨L, hL⟩ : ∃ L, l.length = L := ⟨_, rfl⟩
            have HL := Lib.hid hL
            rw [hL] at k1 HN hcl
            clear hh hl e0 e1 hwl hro k5 k6 hL
            have hc3 : ¬ ((cl : Int) < 1) := by omega
            have hc4 : (1 : Int) ≤ (L : Int) + 1 := by omega
            have hc5 : (1 : Int) ≤ (cl : Int) := by omega
            have hc6 : (L : Int) + 1 ≤ (cl : Int) := by omega
            have hc7 : (0 : Int) < (L : Int) + 1 := by omega
            have hc8 : ¬ ((L : Int) + 1 < 1) := by omega
            go_wp2
            go_region_law (fail)
            all_goals
              go_wp2
              have hk9 : Keeps (fun j => j = gm) wr _ := (((Keeps.refl (fun j => j = gm) wr).setCell (p := ⟨gm, 0, none⟩) (.inl rfl) (.slice a2 p.length c2)).setCell (p := ⟨gm, 1, none⟩) (.inl rfl) (.slice (if cl = 1 then some ⟨r, off, none⟩ else some ⟨r, off + 1, none⟩) L (cl - 1))).drewN 1
              have hc9 := ((HX.out.hc.set_ 0 (.slice a2 p.length c2)).set_ 1 (.slice (if cl = 1 then some ⟨r, off, none⟩ else some ⟨r, off + 1, none⟩) L (cl - 1))).drewN 1
              refine ⟨⟨⟨p, l, q2.drops, q2.lost⟩, H2.out.begun HX.out HHl.out.1 HHl.out.2 (by have := HTl.out; omega) rfl (by split; exact .inr ⟨by assumption, rfl⟩; exact .inl rfl) HP2.out rfl HL.out.symm hk9 hc9⟩, ?_⟩
              have e9 := hc9.cell 1
              exact (congrArg (fun v => lenC22 v < lenC22 (wr.cell? ⟨gm, 1, none⟩)) e9).mpr (by rw [HN.out]; show L < L + 1; omega)
        | cons x hd =>
          have e0 : q2.head.length = hd.length + 1 := by rw [hh]; rfl
          have hc1 := HX.out.hh.hc
          rw [e0] at k0 hc1
          obtain ⟨r, off, rfl⟩ : ∃ r off, ah = some ⟨r, off, none⟩ := by
            rcases HX.out.hf with h1 | h1
            · rw [hh] at h1; cases h1
            · exact h1
          have HHd := Lib.hid hh
          have hb := HX.out.hh
          rw [hh] at hb
          have hb1 := hb.sub 0 1 (by simp)
          simp only [Nat.add_zero, List.drop_zero, Nat.sub_zero] at hb1
          have q5 := string_of_ints (P := Try.prog) (src := 31) (dst := 9) (e := 5) (c := ch) Try.underlying31 Try.underlying5 Try.underlying9 hb1.hi
          have ex : (x :: hd).take 1 = [x] := rfl
          rw [ex] at q5
          obtain ⟨tx, htx⟩ : ∃ tx, textOf [x] = tx := ⟨_, rfl⟩
          have htxl : tx.size = 1 := by rw [← htx]; exact textOf_size [x]
          have HTx : RowKit.Hid (textOf (T ++ [x]) = t ++ tx) := by rw [textOf_app, HTe.out, htx]; exact Lib.hid rfl
          have HSz : RowKit.Hid ((t ++ tx).size = tl + 1) := by rw [ByteArray.size_append, htl, htxl]; exact Lib.hid rfl
          rw [htx] at q5
          obtain ⟨m, hm⟩ : ∃ m, hd.length = m := ⟨_, rfl⟩
          have HM := Lib.hid hm
          rw [hm] at k0 hc1
          have hc2 : ¬ ((ch : Int) < 1) := by omega
          clear hh e0 hb hb1 htx hm ex
          go_wp2
          refine ⟨⟨T ++ [x], ⟨hd, q2.l, q2.drops, q2.lost⟩, by rw [HTx.out], H2.out.byte HX.out HHd.out (by have := HTl.out; omega) rfl (by split; exact .inr ⟨by assumption, rfl⟩; exact .inl rfl) HM.out.symm (Keeps.setCell (F := fun j => j = gm) (Keeps.refl _ wr) (p := ⟨gm, 0, none⟩) (.inl rfl) _) (HX.out.hc.set_ 0 _)⟩, ?_⟩
          show K - (t ++ tx).size < K - t.size
          rw [HSz.out, htl]
          omega
    · have d1 : decide ((tl : Int) < (K : Int)) = false := by simp; omega
      have HD := Lib.hid (H.out.done (.inl (by have := HTl.out; omega)))
      rw [HTe.out] at HD
      clear H
      go_wp2
      go_ret
      exact HD.out
theorem moTake_neg (gm n : Nat) (q : Q22) (D : Nat → Prop) (ro : Option Nat) (k : Int) (w : World) (h : MoAt w gm n q D ro) (hk : k < 0) :
    Calls Try.prog 13 #[.pointer (some ⟨gm, 0, none⟩), .int .i64 k] w fun e w' => e = .returned (.string (textOf (q.out 0))) ∧ MoAt w' gm n (q.take 0) D ro ∧ Keeps (fun j => j = gm) w w' := by
  have H0 : MtSt w D gm n ro 0 q [] q w := ⟨h, Keeps.refl _ _, Nat.zero_le _, rfl, rfl, rfl, Nat.le_refl _⟩
  have HD := Lib.hid (H0.done (.inl rfl))
  have e0 : textOf [] = ⟨#[]⟩ := rfl
  rw [e0] at HD
  have d1 : decide ((0 : Int) < k) = false := by simp; omega
  clear h H0 e0
  go_enter Try.func13, Try.ntmps13
  go_wp2
  go_loopw [5] (fun s wr => s = .string ⟨#[]⟩ ∧ wr = w) (fun _ _ => 0)
  case atStart => exact ⟨rfl, rfl⟩
  case round =>
    obtain ⟨rfl, rfl⟩ := hrel
    go_wp2
    go_ret
    exact HD.out
end Go.Proofs.Ytnjnfocpjmmibaa
