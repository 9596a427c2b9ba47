/- What the law gives: are these the same pieces? -/
import Derived.Test.YtebfjmjdcbeekaaDoorWeaV
import Derived.Test.YtebfjmjdcbeekaaDoorWeaT
namespace Go.Proofs.YtebfjmjdcbeekaaDoor
open Go.RowKit Go.PlainAid
set_option linter.unusedVariables false
set_option linter.unusedSimpArgs false

theorem conv_snd {w : World} {a : Option Addr} {n cap : Nat} {l : List UInt8} (h : BytA w a n cap l) (W' : World) (hb : Below w.heap.size w W') :
    (convert 68 9 (.slice a n cap)).run Tryd.prog W' = .ok (.string (ba l)) W' := by
  have := string_of_ints (P := Tryd.prog) (src := 68) (dst := 9) (e := 5) (c := cap) Tryd.underlying68 Tryd.underlying5 Tryd.underlying9 (h.hi.below hb)
  rw [text_nz] at this
  exact this
/-- One of the document's pieces. -/
theorem RcsAt.piece {w : World} {base g n cp i : Nat} {X : Nat → Prop} {v2 : Value} {xs : List PcX} {d : List Pc} {c : List UInt8} (h : RcsAt w base X (.slice (some ⟨g, 0, none⟩) n cp) v2 xs d c) {p : Pc} (hp : (joinP d c)[i]? = some p) :
    ∃ z : PcX, z.1 = p ∧ (∀ k, k < 3 → w.cell? ⟨g, i * 3 + k, none⟩ = (rpCells z)[k]?) ∧ ∀ l a c2, z = (.snd l, a, c2) → BytA w a l.length c2 l := by
  have hl : xs.length = d.length := by rw [← h.m, List.length_map]
  by_cases hi : i < xs.length
  · refine ⟨xs[i], ?_, fun k hk => h.cell hi hk, fun l a c2 e => ?_⟩
    · have e1 : (joinP d c)[i]? = d[i]? := by
        unfold joinP
        split
        · rfl
        · rw [List.getElem?_append_left (by omega)]
      rw [e1, ← h.m, List.getElem?_map, List.getElem?_eq_getElem hi] at hp
      simpa using hp
    · have hx := h.x xs[i] (List.getElem_mem hi)
      rw [e] at hx
      exact hx.1
  · by_cases hc : c = []
    · unfold joinP at hp
      rw [if_pos hc, List.getElem?_eq_none (by omega)] at hp
      cases hp
    · have hi2 : i = xs.length := by
        unfold joinP at hp
        rw [if_neg hc] at hp
        have := (List.getElem?_eq_some_iff.1 hp).1
        simp at this
        omega
      subst hi2
      have hp2 : p = .snd c := by
        unfold joinP at hp
        rw [if_neg hc, hl, List.getElem?_append_right (Nat.le_refl _)] at hp
        simpa using hp.symm
      obtain ⟨a2, c2, rfl⟩ := h.s.form
      refine ⟨(.snd c, a2, c2), hp2.symm, fun k hk => (h.last hc hk).1, fun l a c3 e => ?_⟩
      injection e with e1 e2
      injection e1 with e1
      injection e2 with e2 e3
      subst e1 e2 e3
      exact h.s.bytA
theorem PcOk.lower {w : World} {b1 b2 : Nat} {X : Nat → Prop} {x : PcX} (h : PcOk w b1 X x) (hb : b2 ≤ b1) : PcOk w b2 X x := by
  obtain ⟨p, a, c⟩ := x
  cases p with
  | told T => trivial
  | snd l => exact ⟨h.1, fun r off e h0 => ⟨(h.2 r off e h0).1, Nat.le_trans hb (h.2 r off e h0).2.1, (h.2 r off e h0).2.2⟩⟩
theorem Q20.step_sound_le (q : Q20) (x : UInt8) : (soundP (joinP (q.step x).d (q.step x).c)).length ≤ (soundP (joinP q.d q.c)).length + 1 := by
  rw [soundP_join, soundP_join]
  unfold Q20.step
  repeat' split
  all_goals simp [soundP_app, soundP_join, soundP] <;> omega
theorem sound_le (S : P20) (l : List UInt8) {n : Nat} (h : l.length ≤ n) : (soundP (joinP (S.start.run l).d (S.start.run l).c)).length ≤ n := by
  have : (soundP (joinP (S.start.run l).d (S.start.run l).c)).length ≤ l.length := by
    induction l using snoc_ind generalizing n with
    | nil => exact Nat.le_refl _
    | snoc l c ih =>
      rw [Q20.run_more, List.length_append, List.length_singleton]
      have := Q20.step_sound_le (S.start.run l) c
      have := ih (n := l.length) (Nat.le_refl _)
      omega
  omega
theorem joinP_len (d : List Pc) (c : List UInt8) : (joinP d c).length = d.length + lastN c := by unfold joinP lastN; split <;> simp
set_option maxRecDepth 100000 in
set_option maxHeartbeats 2000000 in
theorem same20_any (base b2 : Nat) (X Y : Nat → Prop) (v u u2 : Value) (xs : List PcX) (d : List Pc) (c : List UInt8) (w : World) (h : PcsAt w base X v (joinP d c)) (hr : RcsAt w b2 Y u u2 xs d c) (hl : (joinP d c).length ≤ 1000000) :
    Calls Tryd.prog 10 #[v, u] w fun x w' => x = .returned (.bool true) ∧ Below w.heap.size w w' := by
  obtain ⟨va, vc, rfl⟩ := h.form
  obtain ⟨ua, uc, rfl⟩ := hr.form
  rw [← joinP_len] at hr ⊢
  obtain ⟨n, hn⟩ : ∃ n, (joinP d c).length = n := ⟨_, rfl⟩
  have HN := Lib.hid hn
  rw [hn] at hl h hr ⊢
  have HP := Lib.hid h
  have HR := Lib.hid hr
  have hjl : RowKit.Hid (d.length + lastN c = n) := by show _ = _; rw [← joinP_len]; exact hn
  clear h hr hn
  go_enter Tryd.func10, Tryd.ntmps10
  go_wp2
  go_loopw [17] (fun i wr => ∃ k : Nat, i = .int .i64 (k : Int) ∧ k ≤ n ∧ RowKit.Hid (Below w.heap.size w wr)) (fun i _ => n - (intOf i).toNat)
  case atStart => exact ⟨0, rfl, by omega, Below.refl _ _⟩
  case round =>
    obtain ⟨k, rfl, hk, H⟩ := hrel
    by_cases hlt : k < n
    · have hPr := HP.out.below H.out
      have hRr := HR.out.below H.out
      obtain ⟨g, y, rfl, hc, hy, hly, _⟩ := hPr.at_ (i := k) (by rw [HN.out]; exact hlt)
      obtain ⟨gu, rfl, _⟩ := hRr.addr (by rw [hjl.out]; omega)
      obtain ⟨z, hz, hzc, hzb⟩ := hRr.piece hly
      have z0 := hzc 0 (by omega)
      have z1 := hzc 1 (by omega)
      have z2 := hzc 2 (by omega)
      rw [Nat.add_zero] at z0
      obtain ⟨p, a1, c1⟩ := y
      obtain ⟨p', a2, c2⟩ := z
      simp only at hz
      subst hz
      have hk1 : (k : Int) < (n : Int) := by omega
      cases p' with
      | told T =>
        replace hc : wr.cell? ⟨g, k, none⟩ = some (.iface 57 (.string (ba T))) := hc
        replace z0 : wr.cell? ⟨gu, k * 3, none⟩ = some (.bool true) := z0
        replace z1 : wr.cell? ⟨gu, k * 3 + 1, none⟩ = some (.string (ba T)) := z1
        have t1 := as_snd_no (.string (ba T)) wr
        have t2 := as_told (.string (ba T)) wr
        clear hPr hRr hy hly hzc hzb z2
        go_wp2
        go_roundw
        case rel => exact ⟨k + 1, by go_num, by omega, H.out⟩
        case measure => simp [intOf] <;> omega
      | snd s =>
        replace hc : wr.cell? ⟨g, k, none⟩ = some (.iface 68 (.slice a1 s.length c1)) := hc
        replace z0 : wr.cell? ⟨gu, k * 3, none⟩ = some (.bool false) := z0
        replace z2 : wr.cell? ⟨gu, k * 3 + 2, none⟩ = some (.slice a2 s.length c2) := z2
        have t1 := as_snd (.slice a1 s.length c1) wr
        have cv1 := conv_snd hy.1 wr.drew (Below.drewN' (Below.refl _ wr) 1)
        have cv2 := (hzb s a2 c2 rfl).conv wr.drew (Below.drewN' (Below.refl _ wr) 1)
        obtain ⟨m, hm⟩ : ∃ m, s.length = m := ⟨_, rfl⟩
        rw [hm] at hc z2 t1 cv1 cv2
        have HB1 : RowKit.Hid (Below w.heap.size w wr.drew) := Below.drewN' H.out 1
        generalize ba s = S at cv1 cv2
        clear hPr hRr hy hly hzc hzb z1 hm
        go_wp2
        go_region
        go_wp2
        go_roundw
        case rel => exact ⟨k + 1, by go_num, by omega, HB1.out⟩
        case measure => simp [intOf] <;> omega
    · obtain rfl : k = n := by omega
      go_wp2
      go_ret
      exact ⟨rfl, H.out⟩
end Go.Proofs.YtebfjmjdcbeekaaDoor
