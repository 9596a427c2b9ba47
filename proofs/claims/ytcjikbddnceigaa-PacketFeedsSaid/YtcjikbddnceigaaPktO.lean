/- The walk of PacketFeeds. -/
import Derived.Test.YtcjikbddnceigaaPktL
import Derived.Deep.CutBlock
import Derived.Deep.DeepCutAuto
namespace Go.Proofs.Ytcjikbddnceigaa
open Go.RowKit
set_option linter.unusedVariables false
set_option linter.unusedSimpArgs false

/-- Some bytes out of the midst. -/
theorem ByL.cut {w : World} {r off n c t m : Nat} {b : List Int} (h : ByL w (some ⟨r, off, none⟩) n c b) (hm : t + m ≤ n) : ByL w (if c = t then some ⟨r, off, none⟩ else some ⟨r, off + t, none⟩) m (c - t) ((b.drop t).take m) := by
  have hc := h.hc
  have hl := h.len
  by_cases e : c = t
  · rw [if_pos e]
    have e2 : b.drop t = [] := List.drop_eq_nil_of_le (by omega)
    rw [e2]
    refine ⟨⟨by simp; omega, .inl (by omega)⟩, by omega, by have := h.hm; omega, (fun e => by cases e), by simp; exact .nil⟩
  · rw [if_neg e]
    exact h.sub t m hm
/-- What an append of packets takes. -/
theorem PksAt.src {w : World} {base B : Nat} {ty : TypeId} {A : Option Addr} {m c : Nat} {ps : List Pk} (h : PksAt w base B ty (.slice A m c) ps) :
    ∃ ys : List PkX, ys.map (·.1) = ps ∧ m = ys.length ∧ (A = none → c = 0 ∧ m = 0) ∧ (∀ ad, A = some ad → ∀ j u, (pkFlat ys)[j]? = some u → w.cell? (ad.add j) = some u) ∧ ∀ y ∈ ys, PyAt w B y := by
  obtain ⟨xs, h1, h2, h3⟩ := h
  refine ⟨xs, h1, ?_, ?_, ?_, h3⟩
  · rcases h2.2 with ⟨e, hn⟩ | ⟨g, cap, cur, e, _⟩
    · injection e with _ e2 _; omega
    · injection e
  · intro hA
    subst hA
    rcases h2.2 with ⟨e, hn⟩ | ⟨g, cap, cur, e, _⟩
    · injection e with _ e2 e3; exact ⟨e3, e2⟩
    · injection e with e; cases e
  · intro ad hA j u hj
    subst hA
    rcases h2.2 with ⟨e, hn⟩ | ⟨g, cap, cur, e, _⟩
    · injection e with e; cases e
    · injection e with e1 e2 e3
      injection e1 with e1
      subst e1
      subst e2
      exact h2.cells (g := g) rfl j u hj
theorem take_more (b : List Int) (t m : Nat) : scan (b.take (t + m)) = ⟨(scan (b.take t)).ps ++ (scan ((scan (b.take t)).left ++ (b.drop t).take m)).ps, (scan (b.take t)).lost + (scan ((scan (b.take t)).left ++ (b.drop t).take m)).lost, (scan ((scan (b.take t)).left ++ (b.drop t).take m)).left⟩ := by
  rw [List.take_add]
  exact scan_more _ _
theorem scan_take_bd (b : List Int) (t : Nat) : (scan (b.take t)).ps.length ≤ b.length ∧ (scan (b.take t)).lost ≤ b.length := by
  have h := (scan_suffix (b.take t).length (b.take t) (Nat.le_refl _)).1
  rw [List.length_take] at h
  omega
set_option maxRecDepth 100000 in
set_option maxHeartbeats 2000000 in
/-- Too much comes in. -/
theorem packetFeeds_out (a : Option Addr) (n cap : Nat) (a2 : Option Addr) (n2 cap2 : Nat) (w : World) (h : 3000 < n ∨ 100 < n2) :
    Calls Try.prog 5 #[.slice a n cap, .slice a2 n2 cap2] w fun e w' => e = .returned (.bool true) ∧ Below w.heap.size w w' := by
  have HB := Lib.hid (Below.refl w.heap.size w)
  by_cases h8 : 3000 < n
  · have q : decide ((3000 : Int) < (n : Int)) = true := by simp; omega
    clear h
    go_enter Try.func5, Try.ntmps5
    go_wp2_with (go_at_call 6; go_loud (refine (lives19_any _).mono ?_); rintro e w2 ⟨rfl, hb⟩; replace HB := Lib.hid (chain HB.out hb); clear hb)
    go_ret
    exact ⟨rfl, HB.out⟩
  · have q : decide ((3000 : Int) < (n : Int)) = false := by simp; omega
    have q2 : decide ((100 : Int) < (n2 : Int)) = true := by simp; omega
    clear h
    go_enter Try.func5, Try.ntmps5
    go_wp2_with (go_at_call 6; go_loud (refine (lives19_any _).mono ?_); rintro e w2 ⟨rfl, hb⟩; replace HB := Lib.hid (chain HB.out hb); clear hb)
    go_ret
    exact ⟨rfl, HB.out⟩

/-! ### Pieces -/
/-- Where the feeding stands: so many bytes are fed. -/
structure FsSt (w : World) (g : Nat) (b : List Int) (t : Nat) (v : Value) (wr : World) : Prop where
  kb : Below w.heap.size w wr
  r : RdAt wr w.heap.size g (scan (b.take t)).left (scan (b.take t)).lost
  p : PksAt wr w.heap.size w.heap.size 25 v (scan (b.take t)).ps
theorem FsSt.below {w wr w' : World} {g t : Nat} {b : List Int} {v : Value} (h : FsSt w g b t v wr) (hb : Below wr.heap.size wr w') : FsSt w g b t v w' := ⟨chain h.kb hb, h.r.below hb, h.p.below hb⟩
/-- Behind one more piece, appended. -/
theorem FsSt.more {w wr w5 w6 : World} {g t m : Nat} {b : List Int} {v v6 : Value} (h : FsSt w g b t v wr) (hg : w.heap.size ≤ g) (k5 : Keeps (· = g) wr w5)
    (r5 : RdAt w5 w.heap.size g (scan ((scan (b.take t)).left ++ (b.drop t).take m)).left ((scan (b.take t)).lost + (scan ((scan (b.take t)).left ++ (b.drop t).take m)).lost))
    (p6 : PksAt w6 w.heap.size w.heap.size 25 v6 ((scan (b.take t)).ps ++ (scan ((scan (b.take t)).left ++ (b.drop t).take m)).ps)) (k6 : Keeps (fun j => w.heap.size ≤ j ∧ Typ19 w5 j 25) w5 w6) : FsSt w g b (t + m) v6 w6 := by
  have hb5 : Below w.heap.size w w5 := h.kb.trans (k5.below h.kb.size fun j hj => by omega)
  refine ⟨hb5.trans (k6.below hb5.size fun j hj => hj.1), ?_, ?_⟩
  · rw [take_more]
    exact r5.keeps k6 fun j hj => ⟨_, hj.2, by decide, by decide⟩
  · rw [take_more]
    exact p6
/-- Where the comparing stands. -/
structure EsSt (w : World) (g : Nat) (b : List Int) (t : Nat) (v v7 : Value) (wr : World) : Prop where
  f : FsSt w g b t v wr
  q : PksAt wr w.heap.size w.heap.size 33 v7 (scan (b.take t)).ps
theorem EsSt.below {w wr w' : World} {g t : Nat} {b : List Int} {v v7 : Value} (h : EsSt w g b t v v7 wr) (hb : Below wr.heap.size wr w') : EsSt w g b t v v7 w' := ⟨h.f.below hb, h.q.below hb⟩
set_option maxRecDepth 100000 in
set_option maxHeartbeats 8000000 in
theorem packetFeeds_some (r off n cap : Nat) (b : List Int) (a2 : Option Addr) (n2 cap2 : Nat) (pc : List Int) (w : World) (h : ByL w (some ⟨r, off, none⟩) n cap b) (h2 : ByL w a2 n2 cap2 pc) (hn : n ≤ 3000) (hn2 : n2 ≤ 100) :
    Calls Try.prog 5 #[.slice (some ⟨r, off, none⟩) n cap, .slice a2 n2 cap2] w fun e w' => e = .returned (.bool true) ∧ Below w.heap.size w w' := by
  have HB := Lib.hid (Below.refl w.heap.size w)
  have HM := Lib.hid h
  have HQ := Lib.hid h2
  have HL : RowKit.Hid (b.length = n) := h.len
  have HRB : RowKit.Hid (∀ (r2 off2 : Nat), ((some ⟨r, off, none⟩) : Option Addr) = some ⟨r2, off2, none⟩ → 0 < n → r2 < w.heap.size) := fun r2 off2 e h0 => by
      obtain ⟨r3, off3, e3, hr3, _⟩ := h.hi.at_ (j := 0) h0
      rw [e] at e3
      injection e3 with e3
      injection e3 with e3 _
      omega
  have q1 : decide ((3000 : Int) < ((n : Nat) : Int)) = false := by simp <;> omega
  have q2 : decide ((100 : Int) < (n2 : Int)) = false := by simp; omega
  have hcap := h.hc
  have hcm := h.hm
  clear h h2
  go_enter Try.func5, Try.ntmps5
  go_wp2_with (go_at_call 6; go_loud (refine (lives19_any _).mono ?_); rintro e w2 ⟨rfl, hb⟩; replace HB := Lib.hid (chain HB.out hb); clear hb)
  obtain ⟨g, hg⟩ : ∃ g, w2.heap.size = g := ⟨_, rfl⟩
  have HG : RowKit.Hid (w.heap.size ≤ g) := by rw [← hg]; exact HB.out.size
  have H0 : RowKit.Hid (FsSt w g b 0 (.slice none 0 0) (w2.alloc (.cells #[.slice none 0 0, .int .i64 0] 41))) :=
    ⟨HB.out.alloc HB.out.size _, by rw [List.take_zero, scan_nil, ← hg]; exact RdAt.new w2 _, by rw [List.take_zero, scan_nil]; exact PksAt.nil _ _ _ _⟩
  generalize (w2.alloc (.cells #[.slice none 0 0, .int .i64 0] 41)) = W3 at H0 ⊢
  rw [hg]
  clear hg HB
  go_loopw [6, 7, 34] (fun v t i wr => ∃ (tt k : Nat), tt ≤ n ∧ k ≤ n2 ∧ t = .int .i64 (tt : Int) ∧ i = .int .i64 (k : Int) ∧ RowKit.Hid (FsSt w g b tt v wr)) (fun _ _ i _ => n2 - (intOf i).toNat)
  case atStart => exact ⟨0, 0, by omega, by omega, rfl, rfl, H0.out⟩
  case round =>
    obtain ⟨t, k, ht, hk, rfl, rfl, H⟩ := hrel
    clear H0
    obtain ⟨Av, nv, cv, rfl, hnv⟩ := H.out.p.form
    clear hnv
    by_cases hlt : k < n2
    · obtain ⟨r4, o4, rfl, _, _, hcell⟩ := (HQ.out.below H.out.kb).hi.at_ hlt
      obtain ⟨x0, x1⟩ := HQ.out.hb.getD k
      obtain ⟨x, hx⟩ : ∃ x : Nat, pc.getD k 0 = (x : Int) := ⟨(pc.getD k 0).toNat, by omega⟩
      rw [hx] at hcell x0 x1
      clear hx
      have w1 : IntKind.i64.wrap (x : Int) = (x : Int) := IntWalk.i64_in _ (by omega)
      obtain ⟨q, hq⟩ : ∃ q, n - t = q := ⟨_, rfl⟩
      have w2 : IntKind.i64.wrap (((n : Nat) : Int) - (t : Int)) = (q : Int) := by rw [IntWalk.i64_in _ (by omega)]; omega
      by_cases hle : x ≤ q
      · obtain ⟨T, hTT⟩ : ∃ T, T = t + x := ⟨_, rfl⟩
        have hTn : T ≤ n := by omega
        have hmin : (x : Int) ≤ (q : Int) := by omega
        have HS1 : RowKit.Hid (T = t + x) := hTT
        have w3 : IntKind.i64.wrap ((t : Int) + (x : Int)) = (T : Int) := by rw [IntWalk.i64_in _ (by omega)]; omega
        have s1 : (0 : Int) ≤ (t : Int) := by omega
        have s2 : (t : Int) ≤ (T : Int) := by omega
        have s3 : (T : Int) ≤ ((cap : Nat) : Int) := by omega

        have HLen : RowKit.Hid (∀ {q : Nat}, q = (scan ((scan (b.take t)).left ++ (b.drop t).take (T - t))).ps.length → (scan (b.take t)).ps.length + q ≤ 1000000) := by
          intro q e
          have h1 := (scan_take_bd b t).1
          have h2 := (scan_take_bd b (t + (T - t))).1
          rw [take_more, List.length_append] at h2
          have h3 := HL.out
          omega
        have HFd : RowKit.Hid (Calls Try.prog 13 #[.pointer (some ⟨g, 0, none⟩), .slice (if cap = t then some ⟨r, off, none⟩ else some ⟨r, off + t, none⟩) (T - t) (cap - t)] wr (FeedPost19 w.heap.size w.heap.size g (scan (b.take t)).lost ((scan (b.take t)).left ++ (b.drop t).take (T - t)) wr)) :=
          rdFeed_any w.heap.size w.heap.size g _ _ (if cap = t then some ⟨r, off, none⟩ else some ⟨r, off + t, none⟩) (T - t) (cap - t) ((b.drop t).take (T - t)) wr H.out.r ((HM.out.below H.out.kb).cut (by omega)) (scan_byts (HM.out.hb.take t)) (scan_left_len _) (by omega) (by have := (scan_take_bd b t).2; have := HL.out; omega) H.out.kb.size HG.out
        have HAl : RowKit.Hid (∀ W, Below w.heap.size w W → Calls Try.prog 14 #[.slice (some ⟨r, off, none⟩) T cap] W (AllPost19 w.heap.size (b.take T) W)) := fun W hb =>
          refAll_any w.heap.size (some ⟨r, off, none⟩) T cap (b.take T) W ((HM.out.below hb).zero T (by omega)) (by omega) hb.size (fun r2 off2 e h0 => HRB.out r2 off2 e (by omega))
        have HLo : RowKit.Hid (∀ W v, FsSt w g b T v W → Calls Try.prog 15 #[.pointer (some ⟨g, 0, none⟩)] W fun e w' => e = .returned (.int .i64 ((scan (b.take T)).lost : Int)) ∧ W = w') := fun W v h => rdLost_any W _ g _ _ h.r
        have HLe : RowKit.Hid (∀ W v, FsSt w g b T v W → Calls Try.prog 16 #[.pointer (some ⟨g, 0, none⟩)] W fun e w' => e = .returned (.int .i64 ((scan (b.take T)).left.length : Int)) ∧ W = w') := fun W v h => rdLeft_any W _ g _ _ h.r
        unfold AllPost19 at HAl
        obtain ⟨lo, hlo⟩ : ∃ lo, (scan (b.take T)).lost = lo := ⟨_, rfl⟩
        obtain ⟨lf, hlf⟩ : ∃ lf, (scan (b.take T)).left.length = lf := ⟨_, rfl⟩
        have hlb : lf ≤ 616 := by rw [← hlf]; exact scan_left_len _
        rw [hlo, hlf] at HAl
        rw [hlo] at HLo
        rw [hlf] at HLe
        clear hlo hlf
        have HT2 : RowKit.Hid (t + (T - t) = T) := by show _ = _; omega
        clear hTT hq

        go_wp2_with (first
          | (go_at_call 13; have hfd := HFd.out; go_loud (refine hfd.mono ?_); rintro e w5 ⟨v5, rfl, hp5, hr5, hk5⟩; obtain ⟨A5, n5, c5, rfl, hn5⟩ := hp5.form; obtain ⟨ys5, e5, m5, y1, y2, y3⟩ := hp5.src; have HF5 := Lib.hid hn5; have HE5 := Lib.hid e5; have HP5 : RowKit.Hid (PksAt w5 w.heap.size w.heap.size 25 _ _) := (H.out.p.keeps hk5 fun j hj => by subst hj; exact ⟨HG.out, _, H.out.r.typ, by decide, by decide⟩); have HY5 : RowKit.Hid (n5 = ys5.length ∧ (A5 = none → c5 = 0 ∧ n5 = 0) ∧ (∀ ad, A5 = some ad → ∀ j u, (pkFlat ys5)[j]? = some u → w5.cell? (ad.add j) = some u) ∧ (∀ y ∈ ys5, PyAt w5 w.heap.size y) ∧ _ + n5 ≤ 1000000) := ⟨m5, y1, y2, y3, HLen.out hn5⟩; have HK5 := Lib.hid hk5; have HR5 := Lib.hid hr5; have HB5 : RowKit.Hid (Below w.heap.size w w5) := H.out.kb.trans (hk5.below H.out.kb.size fun j hj => by rw [hj]; exact HG.out); clear hfd hn5 hp5 hr5 hk5 m5 y1 y2 y3 e5 HFd)
          | (at_builtin; have hf5 := HF5.out; go_loud (refine append_pks rfl _ _ 42 rfl w.heap.size w.heap.size 25 _ 40 Try.underlying42 info19_pks rfl (by decide) (by decide) (Nat.le_refl _) _ _ rfl HP5.out A5 n5 c5 ys5 rfl HY5.out.1 HY5.out.2.1 HY5.out.2.2.1 HY5.out.2.2.2.1 (by have := HY5.out.2.2.2.2; omega) HB5.out.size ?_); intro v6 w6 hp6 hk6; go_loud (rw [HE5.out] at hp6); go_loud (have hx6 := H.out.more HG.out HK5.out HR5.out hp6 hk6); go_loud (rw [HT2.out] at hx6); have H6 := Lib.hid hx6; clear hp6 hk6 hf5 HF5 hx6)
          | (go_at_call 14; go_loud (refine (HAl.out _ H6.out.kb).mono ?_); rintro e w7 ⟨v7, rfl, hp7, hb7⟩; obtain ⟨A7, n7, c7, rfl, _⟩ := hp7.form; have H7 := Lib.hid (H6.out.below hb7); clear hp7 hb7)
          | (go_at_call 15; go_loud (refine (HLo.out _ _ H7.out).mono ?_); rintro e w8 ⟨rfl, rfl⟩)
          | (go_at_call 16; go_loud (refine (HLe.out _ _ H7.out).mono ?_); rintro e w8 ⟨rfl, rfl⟩)
          | fail)
        go_roundw
        case rel => exact ⟨T, k + 1, hTn, by omega, rfl, by go_num, H7.out⟩
        case measure => simp [intOf]; omega

      · obtain ⟨T, hTT⟩ : ∃ T, T = t + q := ⟨_, rfl⟩
        have hTn : T ≤ n := by omega
        have hmin : (q : Int) < (x : Int) := by omega
        have HS1 : RowKit.Hid (T = t + q) := hTT
        have w3 : IntKind.i64.wrap ((t : Int) + (q : Int)) = (T : Int) := by rw [IntWalk.i64_in _ (by omega)]; omega
        have s1 : (0 : Int) ≤ (t : Int) := by omega
        have s2 : (t : Int) ≤ (T : Int) := by omega
        have s3 : (T : Int) ≤ ((cap : Nat) : Int) := by omega

        have HLen : RowKit.Hid (∀ {q : Nat}, q = (scan ((scan (b.take t)).left ++ (b.drop t).take (T - t))).ps.length → (scan (b.take t)).ps.length + q ≤ 1000000) := by
          intro q e
          have h1 := (scan_take_bd b t).1
          have h2 := (scan_take_bd b (t + (T - t))).1
          rw [take_more, List.length_append] at h2
          have h3 := HL.out
          omega
        have HFd : RowKit.Hid (Calls Try.prog 13 #[.pointer (some ⟨g, 0, none⟩), .slice (if cap = t then some ⟨r, off, none⟩ else some ⟨r, off + t, none⟩) (T - t) (cap - t)] wr (FeedPost19 w.heap.size w.heap.size g (scan (b.take t)).lost ((scan (b.take t)).left ++ (b.drop t).take (T - t)) wr)) :=
          rdFeed_any w.heap.size w.heap.size g _ _ (if cap = t then some ⟨r, off, none⟩ else some ⟨r, off + t, none⟩) (T - t) (cap - t) ((b.drop t).take (T - t)) wr H.out.r ((HM.out.below H.out.kb).cut (by omega)) (scan_byts (HM.out.hb.take t)) (scan_left_len _) (by omega) (by have := (scan_take_bd b t).2; have := HL.out; omega) H.out.kb.size HG.out
        have HAl : RowKit.Hid (∀ W, Below w.heap.size w W → Calls Try.prog 14 #[.slice (some ⟨r, off, none⟩) T cap] W (AllPost19 w.heap.size (b.take T) W)) := fun W hb =>
          refAll_any w.heap.size (some ⟨r, off, none⟩) T cap (b.take T) W ((HM.out.below hb).zero T (by omega)) (by omega) hb.size (fun r2 off2 e h0 => HRB.out r2 off2 e (by omega))
        have HLo : RowKit.Hid (∀ W v, FsSt w g b T v W → Calls Try.prog 15 #[.pointer (some ⟨g, 0, none⟩)] W fun e w' => e = .returned (.int .i64 ((scan (b.take T)).lost : Int)) ∧ W = w') := fun W v h => rdLost_any W _ g _ _ h.r
        have HLe : RowKit.Hid (∀ W v, FsSt w g b T v W → Calls Try.prog 16 #[.pointer (some ⟨g, 0, none⟩)] W fun e w' => e = .returned (.int .i64 ((scan (b.take T)).left.length : Int)) ∧ W = w') := fun W v h => rdLeft_any W _ g _ _ h.r
        unfold AllPost19 at HAl
        obtain ⟨lo, hlo⟩ : ∃ lo, (scan (b.take T)).lost = lo := ⟨_, rfl⟩
        obtain ⟨lf, hlf⟩ : ∃ lf, (scan (b.take T)).left.length = lf := ⟨_, rfl⟩
        have hlb : lf ≤ 616 := by rw [← hlf]; exact scan_left_len _
        rw [hlo, hlf] at HAl
        rw [hlo] at HLo
        rw [hlf] at HLe
        clear hlo hlf
        have HT2 : RowKit.Hid (t + (T - t) = T) := by show _ = _; omega
        clear hTT hq

        go_wp2_with (first
          | (go_at_call 13; have hfd := HFd.out; go_loud (refine hfd.mono ?_); rintro e w5 ⟨v5, rfl, hp5, hr5, hk5⟩; obtain ⟨A5, n5, c5, rfl, hn5⟩ := hp5.form; obtain ⟨ys5, e5, m5, y1, y2, y3⟩ := hp5.src; have HF5 := Lib.hid hn5; have HE5 := Lib.hid e5; have HP5 : RowKit.Hid (PksAt w5 w.heap.size w.heap.size 25 _ _) := (H.out.p.keeps hk5 fun j hj => by subst hj; exact ⟨HG.out, _, H.out.r.typ, by decide, by decide⟩); have HY5 : RowKit.Hid (n5 = ys5.length ∧ (A5 = none → c5 = 0 ∧ n5 = 0) ∧ (∀ ad, A5 = some ad → ∀ j u, (pkFlat ys5)[j]? = some u → w5.cell? (ad.add j) = some u) ∧ (∀ y ∈ ys5, PyAt w5 w.heap.size y) ∧ _ + n5 ≤ 1000000) := ⟨m5, y1, y2, y3, HLen.out hn5⟩; have HK5 := Lib.hid hk5; have HR5 := Lib.hid hr5; have HB5 : RowKit.Hid (Below w.heap.size w w5) := H.out.kb.trans (hk5.below H.out.kb.size fun j hj => by rw [hj]; exact HG.out); clear hfd hn5 hp5 hr5 hk5 m5 y1 y2 y3 e5 HFd)
          | (at_builtin; have hf5 := HF5.out; go_loud (refine append_pks rfl _ _ 42 rfl w.heap.size w.heap.size 25 _ 40 Try.underlying42 info19_pks rfl (by decide) (by decide) (Nat.le_refl _) _ _ rfl HP5.out A5 n5 c5 ys5 rfl HY5.out.1 HY5.out.2.1 HY5.out.2.2.1 HY5.out.2.2.2.1 (by have := HY5.out.2.2.2.2; omega) HB5.out.size ?_); intro v6 w6 hp6 hk6; go_loud (rw [HE5.out] at hp6); go_loud (have hx6 := H.out.more HG.out HK5.out HR5.out hp6 hk6); go_loud (rw [HT2.out] at hx6); have H6 := Lib.hid hx6; clear hp6 hk6 hf5 HF5 hx6)
          | (go_at_call 14; go_loud (refine (HAl.out _ H6.out.kb).mono ?_); rintro e w7 ⟨v7, rfl, hp7, hb7⟩; obtain ⟨A7, n7, c7, rfl, _⟩ := hp7.form; have H7 := Lib.hid (H6.out.below hb7); clear hp7 hb7)
          | (go_at_call 15; go_loud (refine (HLo.out _ _ H7.out).mono ?_); rintro e w8 ⟨rfl, rfl⟩)
          | (go_at_call 16; go_loud (refine (HLe.out _ _ H7.out).mono ?_); rintro e w8 ⟨rfl, rfl⟩)
          | fail)
        go_roundw
        case rel => exact ⟨T, k + 1, hTn, by omega, rfl, by go_num, H7.out⟩
        case measure => simp [intOf]; omega
    · obtain rfl : k = n2 := by omega
      have s1 : (0 : Int) ≤ (t : Int) := by omega
      have s2 : (t : Int) ≤ ((n : Nat) : Int) := by omega

      have HLen : RowKit.Hid (∀ {q : Nat}, q = (scan ((scan (b.take t)).left ++ (b.drop t).take (n - t))).ps.length → (scan (b.take t)).ps.length + q ≤ 1000000) := by
        intro q e
        have h1 := (scan_take_bd b t).1
        have h2 := (scan_take_bd b (t + (n - t))).1
        rw [take_more, List.length_append] at h2
        have h3 := HL.out
        omega
      have HFd : RowKit.Hid (Calls Try.prog 13 #[.pointer (some ⟨g, 0, none⟩), .slice (if cap = t then some ⟨r, off, none⟩ else some ⟨r, off + t, none⟩) (n - t) (cap - t)] wr (FeedPost19 w.heap.size w.heap.size g (scan (b.take t)).lost ((scan (b.take t)).left ++ (b.drop t).take (n - t)) wr)) :=
        rdFeed_any w.heap.size w.heap.size g _ _ (if cap = t then some ⟨r, off, none⟩ else some ⟨r, off + t, none⟩) (n - t) (cap - t) ((b.drop t).take (n - t)) wr H.out.r ((HM.out.below H.out.kb).cut (by omega)) (scan_byts (HM.out.hb.take t)) (scan_left_len _) (by omega) (by have := (scan_take_bd b t).2; have := HL.out; omega) H.out.kb.size HG.out
      have HAl : RowKit.Hid (∀ W, Below w.heap.size w W → Calls Try.prog 14 #[.slice (some ⟨r, off, none⟩) n cap] W (AllPost19 w.heap.size (b.take n) W)) := fun W hb =>
        refAll_any w.heap.size (some ⟨r, off, none⟩) n cap (b.take n) W ((HM.out.below hb).zero n (by omega)) (by omega) hb.size (fun r2 off2 e h0 => HRB.out r2 off2 e (by omega))
      have HLo : RowKit.Hid (∀ W v, FsSt w g b n v W → Calls Try.prog 15 #[.pointer (some ⟨g, 0, none⟩)] W fun e w' => e = .returned (.int .i64 ((scan (b.take n)).lost : Int)) ∧ W = w') := fun W v h => rdLost_any W _ g _ _ h.r
      have HLe : RowKit.Hid (∀ W v, FsSt w g b n v W → Calls Try.prog 16 #[.pointer (some ⟨g, 0, none⟩)] W fun e w' => e = .returned (.int .i64 ((scan (b.take n)).left.length : Int)) ∧ W = w') := fun W v h => rdLeft_any W _ g _ _ h.r
      unfold AllPost19 at HAl
      obtain ⟨lo, hlo⟩ : ∃ lo, (scan (b.take n)).lost = lo := ⟨_, rfl⟩
      obtain ⟨lf, hlf⟩ : ∃ lf, (scan (b.take n)).left.length = lf := ⟨_, rfl⟩
      have hlb : lf ≤ 616 := by rw [← hlf]; exact scan_left_len _
      rw [hlo, hlf] at HAl
      rw [hlo] at HLo
      rw [hlf] at HLe
      clear hlo hlf
      have HT2 : RowKit.Hid (t + (n - t) = n) := by show _ = _; omega

      have CFn : RowKit.Hid (∀ W, Calls Try.prog 13 #[.pointer none, .slice (some ⟨r, off, none⟩) n cap] W fun e w' => e = .returned (.slice none 0 0) ∧ W = w') := fun W => rdFeed_nil _ _ _ W
      go_wp2_with (first
        | (go_at_call 13; have hfd := HFd.out; go_loud (refine hfd.mono ?_); rintro e w5 ⟨v5, rfl, hp5, hr5, hk5⟩; obtain ⟨A5, n5, c5, rfl, hn5⟩ := hp5.form; obtain ⟨ys5, e5, m5, y1, y2, y3⟩ := hp5.src; have HF5 := Lib.hid hn5; have HE5 := Lib.hid e5; have HP5 : RowKit.Hid (PksAt w5 w.heap.size w.heap.size 25 _ _) := (H.out.p.keeps hk5 fun j hj => by subst hj; exact ⟨HG.out, _, H.out.r.typ, by decide, by decide⟩); have HY5 : RowKit.Hid (n5 = ys5.length ∧ (A5 = none → c5 = 0 ∧ n5 = 0) ∧ (∀ ad, A5 = some ad → ∀ j u, (pkFlat ys5)[j]? = some u → w5.cell? (ad.add j) = some u) ∧ (∀ y ∈ ys5, PyAt w5 w.heap.size y) ∧ _ + n5 ≤ 1000000) := ⟨m5, y1, y2, y3, HLen.out hn5⟩; have HK5 := Lib.hid hk5; have HR5 := Lib.hid hr5; have HB5 : RowKit.Hid (Below w.heap.size w w5) := H.out.kb.trans (hk5.below H.out.kb.size fun j hj => by rw [hj]; exact HG.out); clear hfd hn5 hp5 hr5 hk5 m5 y1 y2 y3 e5 HFd; generalize (if cap = t then (some (⟨r, off, none⟩ : Addr)) else some ⟨r, off + t, none⟩) = adr)
        | (at_builtin; have hf5 := HF5.out; go_loud (refine append_pks rfl _ _ 42 rfl w.heap.size w.heap.size 25 _ 40 Try.underlying42 info19_pks rfl (by decide) (by decide) (Nat.le_refl _) _ _ rfl HP5.out A5 n5 c5 ys5 rfl HY5.out.1 HY5.out.2.1 HY5.out.2.2.1 HY5.out.2.2.2.1 (by have := HY5.out.2.2.2.2; omega) HB5.out.size ?_); intro v6 w6 hp6 hk6; obtain ⟨A6, n6, c6, rfl, hn6⟩ := hp6.form; go_loud (rw [HE5.out] at hp6); go_loud (have hx6 := H.out.more HG.out HK5.out HR5.out hp6 hk6); go_loud (rw [HT2.out] at hx6); have H6 := Lib.hid hx6; have hn6b := H6.out.p.len; have HN6 := Lib.hid hn6b; clear hn6 hn6b hp6 hk6 hf5 HF5 hx6)
        | (go_at_call 14; go_loud (refine (HAl.out _ H6.out.kb).mono ?_); rintro e w7 ⟨v7, rfl, hp7, hb7⟩; obtain ⟨A7, n7, c7, rfl, hn7⟩ := hp7.form; rw [← HN6.out] at hn7; subst hn7; have H7 := Lib.hid (H6.out.below hb7); have HP7 := Lib.hid hp7; clear hp7 hb7)
        | (go_at_call 15; go_loud (refine (HLo.out _ _ H7.out).mono ?_); rintro e w8 ⟨rfl, rfl⟩)
        | (go_at_call 16; go_loud (refine (HLe.out _ _ H7.out).mono ?_); rintro e w8 ⟨rfl, rfl⟩)
        | fail)
      have hn7 : n7 ≤ 100000 := by
        have h1 := (scan_take_bd b n).1
        have h2 := HL.out
        have h3 := HN6.out
        omega
      have H8 : RowKit.Hid (EsSt w g b n (.slice A6 n7 c6) (.slice A7 n7 c7) w7) := ⟨H7.out, HP7.out.lower H6.out.kb.size⟩
      clear HAl HLo HLe H6 H7 HP7 HLen H s1 s2
      go_loopw [107] (fun i wr => ∃ k : Nat, k ≤ n7 ∧ i = .int .i64 (k : Int) ∧ RowKit.Hid (EsSt w g b n (.slice A6 n7 c6) (.slice A7 n7 c7) wr)) (fun i _ => n7 - (intOf i).toNat)
      case atStart => exact ⟨0, by omega, rfl, H8.out⟩
      case round =>
        obtain ⟨j, hj, rfl, H⟩ := hrel
        clear H8
        by_cases hlj : j < n7
        · obtain ⟨g6, P, a8, c8, hp8, rfl, hy8, k0, k1, k2, k3⟩ := H.out.f.p.at_ (i := j) (by rw [← HN6.out]; exact hlj)
          obtain ⟨g7, P', a9, c9, hp9, rfl, hy9, m0, m1, m2, m3⟩ := H.out.q.at_ (i := j) (by rw [← HN6.out]; exact hlj)
          obtain rfl : P' = P := by rw [hp8] at hp9; injection hp9 with e; exact e.symm
          clear hp8 hp9
          have CS := Lib.hid (fun W (hb : Below wr.heap.size wr W) => lawSame_any P' a8 a9 c8 c9 W (hy8.below hb).i (hy9.below hb).i)
          unfold pkV19 at CS
          have b1 : (j : Int) < (n7 : Int) := by omega
          generalize P'.pl.length = m at CS k3 m3
          go_wp2
          go_region_held3 (fun w' => w'.cell? ⟨g6, j * 4, none⟩ = some (.int .u32 P'.ep) ∧ w'.cell? ⟨g6, j * 4 + 1, none⟩ = some (.int .u32 P'.nu) ∧ w'.cell? ⟨g6, j * 4 + 2, none⟩ = some (.bool P'.wh) ∧ w'.cell? ⟨g6, j * 4 + 3, none⟩ = some (.slice a8 m c8) ∧ w'.cell? ⟨g7, j * 4, none⟩ = some (.int .u32 P'.ep) ∧ w'.cell? ⟨g7, j * 4 + 1, none⟩ = some (.int .u32 P'.nu) ∧ w'.cell? ⟨g7, j * 4 + 2, none⟩ = some (.bool P'.wh) ∧ w'.cell? ⟨g7, j * 4 + 3, none⟩ = some (.slice a9 m c9)) (go_keep)
            (first
              | (go_at_call 11; go_loud (refine (CS.out _ (Below.drewN' (Below.refl _ wr) 1)).mono ?_); rintro e w8 ⟨rfl, hb⟩; have HB8 : RowKit.Hid (Below wr.heap.size wr w8) := (Below.drewN' (Below.refl _ wr) 1).trans hb; have z0 := (HB8.out.cell (p := ⟨g6, j * 4, none⟩) (cell_block k0)).trans k0; have z1 := (HB8.out.cell (p := ⟨g6, j * 4 + 1, none⟩) (cell_block k1)).trans k1; have z2 := (HB8.out.cell (p := ⟨g6, j * 4 + 2, none⟩) (cell_block k2)).trans k2; have z3 := (HB8.out.cell (p := ⟨g6, j * 4 + 3, none⟩) (cell_block k3)).trans k3; have y0 := (HB8.out.cell (p := ⟨g7, j * 4, none⟩) (cell_block m0)).trans m0; have y1 := (HB8.out.cell (p := ⟨g7, j * 4 + 1, none⟩) (cell_block m1)).trans m1; have y2 := (HB8.out.cell (p := ⟨g7, j * 4 + 2, none⟩) (cell_block m2)).trans m2; have y3 := (HB8.out.cell (p := ⟨g7, j * 4 + 3, none⟩) (cell_block m3)).trans m3; clear hb)
              | fail)
          go_wp2
          go_roundw
          case rel => exact ⟨j + 1, by omega, by go_num, H.out.below HB8.out⟩
          case measure => simp [intOf]; omega
        · obtain rfl : j = n7 := by omega
          go_wp2_with (first
            | (go_at_call 13; go_loud (refine (CFn.out _).mono ?_); rintro e w8 ⟨rfl, rfl⟩)
            | (go_at_call 15; go_loud (refine (rdLost_nil _).mono ?_); rintro e w8 ⟨rfl, rfl⟩)
            | (go_at_call 16; go_loud (refine (rdLeft_nil _).mono ?_); rintro e w8 ⟨rfl, rfl⟩)
            | fail)
          go_ret
          exact ⟨rfl, H.out.f.kb⟩
set_option maxRecDepth 100000 in
set_option maxHeartbeats 8000000 in
theorem packetFeeds_none (b : List Int) (a2 : Option Addr) (n2 cap2 : Nat) (pc : List Int) (w : World) (h : ByL w none 0 0 b) (h2 : ByL w a2 n2 cap2 pc) (hn2 : n2 ≤ 100) :
    Calls Try.prog 5 #[.slice none 0 0, .slice a2 n2 cap2] w fun e w' => e = .returned (.bool true) ∧ Below w.heap.size w w' := by
  have HB := Lib.hid (Below.refl w.heap.size w)
  have HM := Lib.hid h
  have HQ := Lib.hid h2
  have HL : RowKit.Hid (b.length = 0) := h.len
  have HRB : RowKit.Hid (∀ (r2 off2 : Nat), (none : Option Addr) = some ⟨r2, off2, none⟩ → 0 < 0 → r2 < w.heap.size) := fun r2 off2 e h0 => by omega
  have q1 : decide ((3000 : Int) < ((0 : Nat) : Int)) = false := by simp <;> omega
  have q2 : decide ((100 : Int) < (n2 : Int)) = false := by simp; omega
  have HBe : RowKit.Hid (b = []) := List.eq_nil_of_length_eq_zero h.len
  clear h h2
  go_enter Try.func5, Try.ntmps5
  go_wp2_with (go_at_call 6; go_loud (refine (lives19_any _).mono ?_); rintro e w2 ⟨rfl, hb⟩; replace HB := Lib.hid (chain HB.out hb); clear hb)
  obtain ⟨g, hg⟩ : ∃ g, w2.heap.size = g := ⟨_, rfl⟩
  have HG : RowKit.Hid (w.heap.size ≤ g) := by rw [← hg]; exact HB.out.size
  have H0 : RowKit.Hid (FsSt w g b 0 (.slice none 0 0) (w2.alloc (.cells #[.slice none 0 0, .int .i64 0] 41))) :=
    ⟨HB.out.alloc HB.out.size _, by rw [List.take_zero, scan_nil, ← hg]; exact RdAt.new w2 _, by rw [List.take_zero, scan_nil]; exact PksAt.nil _ _ _ _⟩
  generalize (w2.alloc (.cells #[.slice none 0 0, .int .i64 0] 41)) = W3 at H0 ⊢
  rw [hg]
  clear hg HB
  go_loopw [6, 7, 34] (fun v t i wr => ∃ k : Nat, k ≤ n2 ∧ t = .int .i64 0 ∧ i = .int .i64 (k : Int) ∧ RowKit.Hid (FsSt w g b 0 v wr)) (fun _ _ i _ => n2 - (intOf i).toNat)
  case atStart => exact ⟨0, by omega, rfl, rfl, H0.out⟩
  case round =>
    obtain ⟨k, hk, rfl, rfl, H⟩ := hrel
    clear H0
    obtain ⟨Av, nv, cv, rfl, hnv⟩ := H.out.p.form
    clear hnv
    by_cases hlt : k < n2
    · obtain ⟨r4, o4, rfl, _, _, hcell⟩ := (HQ.out.below H.out.kb).hi.at_ hlt
      obtain ⟨x0, x1⟩ := HQ.out.hb.getD k
      obtain ⟨x, hx⟩ : ∃ x : Nat, pc.getD k 0 = (x : Int) := ⟨(pc.getD k 0).toNat, by omega⟩
      rw [hx] at hcell x0 x1
      clear hx
      have w1 : IntKind.i64.wrap (x : Int) = (x : Int) := IntWalk.i64_in _ (by omega)
      have HLen : RowKit.Hid (∀ {q : Nat}, q = (scan ((scan (b.take 0)).left ++ (b.drop 0).take 0)).ps.length → (scan (b.take 0)).ps.length + q ≤ 1000000) := by
        intro q e
        have h1 := (scan_take_bd b 0).1
        have h2 := (scan_take_bd b (0 + 0)).1
        rw [take_more, List.length_append] at h2
        have h3 := HL.out
        omega
      have HFd : RowKit.Hid (Calls Try.prog 13 #[.pointer (some ⟨g, 0, none⟩), .slice none 0 0] wr (FeedPost19 w.heap.size w.heap.size g (scan (b.take 0)).lost ((scan (b.take 0)).left ++ (b.drop 0).take 0) wr)) :=
        rdFeed_any w.heap.size w.heap.size g _ _ none 0 0 ((b.drop 0).take 0) wr H.out.r (by have hz := HM.out.below H.out.kb; rw [HBe.out] at hz; exact hz) (scan_byts (HM.out.hb.take 0)) (scan_left_len _) (by omega) (by have := (scan_take_bd b 0).2; have := HL.out; omega) H.out.kb.size HG.out
      have HAl : RowKit.Hid (∀ W, Below w.heap.size w W → Calls Try.prog 14 #[.slice none 0 0] W (AllPost19 w.heap.size (b.take 0) W)) := fun W hb =>
        refAll_any w.heap.size none 0 0 (b.take 0) W (by have hz := HM.out.below hb; rw [HBe.out] at hz; exact hz) (by omega) hb.size (fun r2 off2 e h0 => HRB.out r2 off2 e (by omega))
      have HLo : RowKit.Hid (∀ W v, FsSt w g b 0 v W → Calls Try.prog 15 #[.pointer (some ⟨g, 0, none⟩)] W fun e w' => e = .returned (.int .i64 ((scan (b.take 0)).lost : Int)) ∧ W = w') := fun W v h => rdLost_any W _ g _ _ h.r
      have HLe : RowKit.Hid (∀ W v, FsSt w g b 0 v W → Calls Try.prog 16 #[.pointer (some ⟨g, 0, none⟩)] W fun e w' => e = .returned (.int .i64 ((scan (b.take 0)).left.length : Int)) ∧ W = w') := fun W v h => rdLeft_any W _ g _ _ h.r
      unfold AllPost19 at HAl
      obtain ⟨lo, hlo⟩ : ∃ lo, (scan (b.take 0)).lost = lo := ⟨_, rfl⟩
      obtain ⟨lf, hlf⟩ : ∃ lf, (scan (b.take 0)).left.length = lf := ⟨_, rfl⟩
      have hlb : lf ≤ 616 := by rw [← hlf]; exact scan_left_len _
      rw [hlo, hlf] at HAl
      rw [hlo] at HLo
      rw [hlf] at HLe
      clear hlo hlf
      have HT2 : RowKit.Hid (0 + 0 = 0) := rfl

      by_cases hle : x = 0
      · subst hle
        go_wp2_with (first
          | (go_at_call 13; have hfd := HFd.out; go_loud (refine hfd.mono ?_); rintro e w5 ⟨v5, rfl, hp5, hr5, hk5⟩; obtain ⟨A5, n5, c5, rfl, hn5⟩ := hp5.form; obtain ⟨ys5, e5, m5, y1, y2, y3⟩ := hp5.src; have HF5 := Lib.hid hn5; have HE5 := Lib.hid e5; have HP5 : RowKit.Hid (PksAt w5 w.heap.size w.heap.size 25 _ _) := (H.out.p.keeps hk5 fun j hj => by subst hj; exact ⟨HG.out, _, H.out.r.typ, by decide, by decide⟩); have HY5 : RowKit.Hid (n5 = ys5.length ∧ (A5 = none → c5 = 0 ∧ n5 = 0) ∧ (∀ ad, A5 = some ad → ∀ j u, (pkFlat ys5)[j]? = some u → w5.cell? (ad.add j) = some u) ∧ (∀ y ∈ ys5, PyAt w5 w.heap.size y) ∧ _ + n5 ≤ 1000000) := ⟨m5, y1, y2, y3, HLen.out hn5⟩; have HK5 := Lib.hid hk5; have HR5 := Lib.hid hr5; have HB5 : RowKit.Hid (Below w.heap.size w w5) := H.out.kb.trans (hk5.below H.out.kb.size fun j hj => by rw [hj]; exact HG.out); clear hfd hn5 hp5 hr5 hk5 m5 y1 y2 y3 e5 HFd)
          | (at_builtin; have hf5 := HF5.out; go_loud (refine append_pks rfl _ _ 42 rfl w.heap.size w.heap.size 25 _ 40 Try.underlying42 info19_pks rfl (by decide) (by decide) (Nat.le_refl _) _ _ rfl HP5.out A5 n5 c5 ys5 rfl HY5.out.1 HY5.out.2.1 HY5.out.2.2.1 HY5.out.2.2.2.1 (by have := HY5.out.2.2.2.2; omega) HB5.out.size ?_); intro v6 w6 hp6 hk6; go_loud (rw [HE5.out] at hp6); go_loud (have hx6 := H.out.more HG.out HK5.out HR5.out hp6 hk6); replace hx6 : FsSt w g b 0 _ w6 := hx6; have H6 := Lib.hid hx6; clear hp6 hk6 hf5 HF5 hx6)
          | (go_at_call 14; go_loud (refine (HAl.out _ H6.out.kb).mono ?_); rintro e w7 ⟨v7, rfl, hp7, hb7⟩; obtain ⟨A7, n7, c7, rfl, hn7⟩ := hp7.form; clear hn7; have H7 := Lib.hid (H6.out.below hb7); have HP7 := Lib.hid hp7; clear hp7 hb7)
          | (go_at_call 15; go_loud (refine (HLo.out _ _ H7.out).mono ?_); rintro e w8 ⟨rfl, rfl⟩)
          | (go_at_call 16; go_loud (refine (HLe.out _ _ H7.out).mono ?_); rintro e w8 ⟨rfl, rfl⟩)
          | fail)

        go_roundw
        case rel => exact ⟨k + 1, by omega, rfl, by go_num, H7.out⟩
        case measure => simp [intOf]; omega
      · have hmin : (0 : Int) < (x : Int) := by omega
        go_wp2_with (first
          | (go_at_call 13; have hfd := HFd.out; go_loud (refine hfd.mono ?_); rintro e w5 ⟨v5, rfl, hp5, hr5, hk5⟩; obtain ⟨A5, n5, c5, rfl, hn5⟩ := hp5.form; obtain ⟨ys5, e5, m5, y1, y2, y3⟩ := hp5.src; have HF5 := Lib.hid hn5; have HE5 := Lib.hid e5; have HP5 : RowKit.Hid (PksAt w5 w.heap.size w.heap.size 25 _ _) := (H.out.p.keeps hk5 fun j hj => by subst hj; exact ⟨HG.out, _, H.out.r.typ, by decide, by decide⟩); have HY5 : RowKit.Hid (n5 = ys5.length ∧ (A5 = none → c5 = 0 ∧ n5 = 0) ∧ (∀ ad, A5 = some ad → ∀ j u, (pkFlat ys5)[j]? = some u → w5.cell? (ad.add j) = some u) ∧ (∀ y ∈ ys5, PyAt w5 w.heap.size y) ∧ _ + n5 ≤ 1000000) := ⟨m5, y1, y2, y3, HLen.out hn5⟩; have HK5 := Lib.hid hk5; have HR5 := Lib.hid hr5; have HB5 : RowKit.Hid (Below w.heap.size w w5) := H.out.kb.trans (hk5.below H.out.kb.size fun j hj => by rw [hj]; exact HG.out); clear hfd hn5 hp5 hr5 hk5 m5 y1 y2 y3 e5 HFd)
          | (at_builtin; have hf5 := HF5.out; go_loud (refine append_pks rfl _ _ 42 rfl w.heap.size w.heap.size 25 _ 40 Try.underlying42 info19_pks rfl (by decide) (by decide) (Nat.le_refl _) _ _ rfl HP5.out A5 n5 c5 ys5 rfl HY5.out.1 HY5.out.2.1 HY5.out.2.2.1 HY5.out.2.2.2.1 (by have := HY5.out.2.2.2.2; omega) HB5.out.size ?_); intro v6 w6 hp6 hk6; go_loud (rw [HE5.out] at hp6); go_loud (have hx6 := H.out.more HG.out HK5.out HR5.out hp6 hk6); replace hx6 : FsSt w g b 0 _ w6 := hx6; have H6 := Lib.hid hx6; clear hp6 hk6 hf5 HF5 hx6)
          | (go_at_call 14; go_loud (refine (HAl.out _ H6.out.kb).mono ?_); rintro e w7 ⟨v7, rfl, hp7, hb7⟩; obtain ⟨A7, n7, c7, rfl, hn7⟩ := hp7.form; clear hn7; have H7 := Lib.hid (H6.out.below hb7); have HP7 := Lib.hid hp7; clear hp7 hb7)
          | (go_at_call 15; go_loud (refine (HLo.out _ _ H7.out).mono ?_); rintro e w8 ⟨rfl, rfl⟩)
          | (go_at_call 16; go_loud (refine (HLe.out _ _ H7.out).mono ?_); rintro e w8 ⟨rfl, rfl⟩)
          | fail)

        go_roundw
        case rel => exact ⟨k + 1, by omega, rfl, by go_num, H7.out⟩
        case measure => simp [intOf]; omega
    · obtain rfl : k = n2 := by omega

      have HLen : RowKit.Hid (∀ {q : Nat}, q = (scan ((scan (b.take 0)).left ++ (b.drop 0).take 0)).ps.length → (scan (b.take 0)).ps.length + q ≤ 1000000) := by
        intro q e
        have h1 := (scan_take_bd b 0).1
        have h2 := (scan_take_bd b (0 + 0)).1
        rw [take_more, List.length_append] at h2
        have h3 := HL.out
        omega
      have HFd : RowKit.Hid (Calls Try.prog 13 #[.pointer (some ⟨g, 0, none⟩), .slice none 0 0] wr (FeedPost19 w.heap.size w.heap.size g (scan (b.take 0)).lost ((scan (b.take 0)).left ++ (b.drop 0).take 0) wr)) :=
        rdFeed_any w.heap.size w.heap.size g _ _ none 0 0 ((b.drop 0).take 0) wr H.out.r (by have hz := HM.out.below H.out.kb; rw [HBe.out] at hz; exact hz) (scan_byts (HM.out.hb.take 0)) (scan_left_len _) (by omega) (by have := (scan_take_bd b 0).2; have := HL.out; omega) H.out.kb.size HG.out
      have HAl : RowKit.Hid (∀ W, Below w.heap.size w W → Calls Try.prog 14 #[.slice none 0 0] W (AllPost19 w.heap.size (b.take 0) W)) := fun W hb =>
        refAll_any w.heap.size none 0 0 (b.take 0) W (by have hz := HM.out.below hb; rw [HBe.out] at hz; exact hz) (by omega) hb.size (fun r2 off2 e h0 => HRB.out r2 off2 e (by omega))
      have HLo : RowKit.Hid (∀ W v, FsSt w g b 0 v W → Calls Try.prog 15 #[.pointer (some ⟨g, 0, none⟩)] W fun e w' => e = .returned (.int .i64 ((scan (b.take 0)).lost : Int)) ∧ W = w') := fun W v h => rdLost_any W _ g _ _ h.r
      have HLe : RowKit.Hid (∀ W v, FsSt w g b 0 v W → Calls Try.prog 16 #[.pointer (some ⟨g, 0, none⟩)] W fun e w' => e = .returned (.int .i64 ((scan (b.take 0)).left.length : Int)) ∧ W = w') := fun W v h => rdLeft_any W _ g _ _ h.r
      unfold AllPost19 at HAl
      obtain ⟨lo, hlo⟩ : ∃ lo, (scan (b.take 0)).lost = lo := ⟨_, rfl⟩
      obtain ⟨lf, hlf⟩ : ∃ lf, (scan (b.take 0)).left.length = lf := ⟨_, rfl⟩
      have hlb : lf ≤ 616 := by rw [← hlf]; exact scan_left_len _
      rw [hlo, hlf] at HAl
      rw [hlo] at HLo
      rw [hlf] at HLe
      clear hlo hlf
      have HT2 : RowKit.Hid (0 + 0 = 0) := rfl

      have CFn : RowKit.Hid (∀ W, Calls Try.prog 13 #[.pointer none, .slice none 0 0] W fun e w' => e = .returned (.slice none 0 0) ∧ W = w') := fun W => rdFeed_nil _ _ _ W
      go_wp2_with (first
        | (go_at_call 13; have hfd := HFd.out; go_loud (refine hfd.mono ?_); rintro e w5 ⟨v5, rfl, hp5, hr5, hk5⟩; obtain ⟨A5, n5, c5, rfl, hn5⟩ := hp5.form; obtain ⟨ys5, e5, m5, y1, y2, y3⟩ := hp5.src; have HF5 := Lib.hid hn5; have HE5 := Lib.hid e5; have HP5 : RowKit.Hid (PksAt w5 w.heap.size w.heap.size 25 _ _) := (H.out.p.keeps hk5 fun j hj => by subst hj; exact ⟨HG.out, _, H.out.r.typ, by decide, by decide⟩); have HY5 : RowKit.Hid (n5 = ys5.length ∧ (A5 = none → c5 = 0 ∧ n5 = 0) ∧ (∀ ad, A5 = some ad → ∀ j u, (pkFlat ys5)[j]? = some u → w5.cell? (ad.add j) = some u) ∧ (∀ y ∈ ys5, PyAt w5 w.heap.size y) ∧ _ + n5 ≤ 1000000) := ⟨m5, y1, y2, y3, HLen.out hn5⟩; have HK5 := Lib.hid hk5; have HR5 := Lib.hid hr5; have HB5 : RowKit.Hid (Below w.heap.size w w5) := H.out.kb.trans (hk5.below H.out.kb.size fun j hj => by rw [hj]; exact HG.out); clear hfd hn5 hp5 hr5 hk5 m5 y1 y2 y3 e5 HFd)
        | (at_builtin; have hf5 := HF5.out; go_loud (refine append_pks rfl _ _ 42 rfl w.heap.size w.heap.size 25 _ 40 Try.underlying42 info19_pks rfl (by decide) (by decide) (Nat.le_refl _) _ _ rfl HP5.out A5 n5 c5 ys5 rfl HY5.out.1 HY5.out.2.1 HY5.out.2.2.1 HY5.out.2.2.2.1 (by have := HY5.out.2.2.2.2; omega) HB5.out.size ?_); intro v6 w6 hp6 hk6; obtain ⟨A6, n6, c6, rfl, hn6⟩ := hp6.form; go_loud (rw [HE5.out] at hp6); go_loud (have hx6 := H.out.more HG.out HK5.out HR5.out hp6 hk6); replace hx6 : FsSt w g b 0 _ w6 := hx6; have H6 := Lib.hid hx6; have hn6b := H6.out.p.len; have HN6 := Lib.hid hn6b; clear hn6 hn6b hp6 hk6 hf5 HF5 hx6)
        | (go_at_call 14; go_loud (refine (HAl.out _ H6.out.kb).mono ?_); rintro e w7 ⟨v7, rfl, hp7, hb7⟩; obtain ⟨A7, n7, c7, rfl, hn7⟩ := hp7.form; rw [← HN6.out] at hn7; subst hn7; have H7 := Lib.hid (H6.out.below hb7); have HP7 := Lib.hid hp7; clear hp7 hb7)
        | (go_at_call 15; go_loud (refine (HLo.out _ _ H7.out).mono ?_); rintro e w8 ⟨rfl, rfl⟩)
        | (go_at_call 16; go_loud (refine (HLe.out _ _ H7.out).mono ?_); rintro e w8 ⟨rfl, rfl⟩)
        | fail)
      have hn7 : n7 ≤ 100000 := by
        have h1 := (scan_take_bd b 0).1
        have h2 := HL.out
        have h3 := HN6.out
        omega
      have H8 : RowKit.Hid (EsSt w g b 0 (.slice A6 n7 c6) (.slice A7 n7 c7) w7) := ⟨H7.out, HP7.out.lower H6.out.kb.size⟩
      clear HAl HLo HLe H6 H7 HP7 HLen H
      go_loopw [107] (fun i wr => ∃ k : Nat, k ≤ n7 ∧ i = .int .i64 (k : Int) ∧ RowKit.Hid (EsSt w g b 0 (.slice A6 n7 c6) (.slice A7 n7 c7) wr)) (fun i _ => n7 - (intOf i).toNat)
      case atStart => exact ⟨0, by omega, rfl, H8.out⟩
      case round =>
        obtain ⟨j, hj, rfl, H⟩ := hrel
        clear H8
        by_cases hlj : j < n7
        · obtain ⟨g6, P, a8, c8, hp8, rfl, hy8, k0, k1, k2, k3⟩ := H.out.f.p.at_ (i := j) (by rw [← HN6.out]; exact hlj)
          obtain ⟨g7, P', a9, c9, hp9, rfl, hy9, m0, m1, m2, m3⟩ := H.out.q.at_ (i := j) (by rw [← HN6.out]; exact hlj)
          obtain rfl : P' = P := by rw [hp8] at hp9; injection hp9 with e; exact e.symm
          clear hp8 hp9
          have CS := Lib.hid (fun W (hb : Below wr.heap.size wr W) => lawSame_any P' a8 a9 c8 c9 W (hy8.below hb).i (hy9.below hb).i)
          unfold pkV19 at CS
          have b1 : (j : Int) < (n7 : Int) := by omega
          generalize P'.pl.length = m at CS k3 m3
          go_wp2
          go_region_held3 (fun w' => w'.cell? ⟨g6, j * 4, none⟩ = some (.int .u32 P'.ep) ∧ w'.cell? ⟨g6, j * 4 + 1, none⟩ = some (.int .u32 P'.nu) ∧ w'.cell? ⟨g6, j * 4 + 2, none⟩ = some (.bool P'.wh) ∧ w'.cell? ⟨g6, j * 4 + 3, none⟩ = some (.slice a8 m c8) ∧ w'.cell? ⟨g7, j * 4, none⟩ = some (.int .u32 P'.ep) ∧ w'.cell? ⟨g7, j * 4 + 1, none⟩ = some (.int .u32 P'.nu) ∧ w'.cell? ⟨g7, j * 4 + 2, none⟩ = some (.bool P'.wh) ∧ w'.cell? ⟨g7, j * 4 + 3, none⟩ = some (.slice a9 m c9)) (go_keep)
            (first
              | (go_at_call 11; go_loud (refine (CS.out _ (Below.drewN' (Below.refl _ wr) 1)).mono ?_); rintro e w8 ⟨rfl, hb⟩; have HB8 : RowKit.Hid (Below wr.heap.size wr w8) := (Below.drewN' (Below.refl _ wr) 1).trans hb; have z0 := (HB8.out.cell (p := ⟨g6, j * 4, none⟩) (cell_block k0)).trans k0; have z1 := (HB8.out.cell (p := ⟨g6, j * 4 + 1, none⟩) (cell_block k1)).trans k1; have z2 := (HB8.out.cell (p := ⟨g6, j * 4 + 2, none⟩) (cell_block k2)).trans k2; have z3 := (HB8.out.cell (p := ⟨g6, j * 4 + 3, none⟩) (cell_block k3)).trans k3; have y0 := (HB8.out.cell (p := ⟨g7, j * 4, none⟩) (cell_block m0)).trans m0; have y1 := (HB8.out.cell (p := ⟨g7, j * 4 + 1, none⟩) (cell_block m1)).trans m1; have y2 := (HB8.out.cell (p := ⟨g7, j * 4 + 2, none⟩) (cell_block m2)).trans m2; have y3 := (HB8.out.cell (p := ⟨g7, j * 4 + 3, none⟩) (cell_block m3)).trans m3; clear hb)
              | fail)
          go_wp2
          go_roundw
          case rel => exact ⟨j + 1, by omega, by go_num, H.out.below HB8.out⟩
          case measure => simp [intOf]; omega
        · obtain rfl : j = n7 := by omega
          go_wp2_with (first
            | (go_at_call 13; go_loud (refine (CFn.out _).mono ?_); rintro e w8 ⟨rfl, rfl⟩)
            | (go_at_call 15; go_loud (refine (rdLost_nil _).mono ?_); rintro e w8 ⟨rfl, rfl⟩)
            | (go_at_call 16; go_loud (refine (rdLeft_nil _).mono ?_); rintro e w8 ⟨rfl, rfl⟩)
            | fail)
          go_ret
          exact ⟨rfl, H.out.f.kb⟩
set_option maxRecDepth 100000 in
set_option maxHeartbeats 8000000 in
theorem packetFeeds_zero (xa : Addr) (b : List Int) (a2 : Option Addr) (n2 cap2 : Nat) (pc : List Int) (w : World) (h : ByL w (some xa) 0 0 b) (h2 : ByL w a2 n2 cap2 pc) (hn2 : n2 ≤ 100) :
    Calls Try.prog 5 #[.slice (some xa) 0 0, .slice a2 n2 cap2] w fun e w' => e = .returned (.bool true) ∧ Below w.heap.size w w' := by
  have HB := Lib.hid (Below.refl w.heap.size w)
  have HM := Lib.hid h
  have HQ := Lib.hid h2
  have HL : RowKit.Hid (b.length = 0) := h.len
  have HRB : RowKit.Hid (∀ (r2 off2 : Nat), ((some xa) : Option Addr) = some ⟨r2, off2, none⟩ → 0 < 0 → r2 < w.heap.size) := fun r2 off2 e h0 => by omega
  have q1 : decide ((3000 : Int) < ((0 : Nat) : Int)) = false := by simp <;> omega
  have q2 : decide ((100 : Int) < (n2 : Int)) = false := by simp; omega
  have HBe : RowKit.Hid (b = []) := List.eq_nil_of_length_eq_zero h.len
  clear h h2
  go_enter Try.func5, Try.ntmps5
  go_wp2_with (go_at_call 6; go_loud (refine (lives19_any _).mono ?_); rintro e w2 ⟨rfl, hb⟩; replace HB := Lib.hid (chain HB.out hb); clear hb)
  obtain ⟨g, hg⟩ : ∃ g, w2.heap.size = g := ⟨_, rfl⟩
  have HG : RowKit.Hid (w.heap.size ≤ g) := by rw [← hg]; exact HB.out.size
  have H0 : RowKit.Hid (FsSt w g b 0 (.slice none 0 0) (w2.alloc (.cells #[.slice none 0 0, .int .i64 0] 41))) :=
    ⟨HB.out.alloc HB.out.size _, by rw [List.take_zero, scan_nil, ← hg]; exact RdAt.new w2 _, by rw [List.take_zero, scan_nil]; exact PksAt.nil _ _ _ _⟩
  generalize (w2.alloc (.cells #[.slice none 0 0, .int .i64 0] 41)) = W3 at H0 ⊢
  rw [hg]
  clear hg HB
  go_loopw [6, 7, 34] (fun v t i wr => ∃ k : Nat, k ≤ n2 ∧ t = .int .i64 0 ∧ i = .int .i64 (k : Int) ∧ RowKit.Hid (FsSt w g b 0 v wr)) (fun _ _ i _ => n2 - (intOf i).toNat)
  case atStart => exact ⟨0, by omega, rfl, rfl, H0.out⟩
  case round =>
    obtain ⟨k, hk, rfl, rfl, H⟩ := hrel
    clear H0
    obtain ⟨Av, nv, cv, rfl, hnv⟩ := H.out.p.form
    clear hnv
    by_cases hlt : k < n2
    · obtain ⟨r4, o4, rfl, _, _, hcell⟩ := (HQ.out.below H.out.kb).hi.at_ hlt
      obtain ⟨x0, x1⟩ := HQ.out.hb.getD k
      obtain ⟨x, hx⟩ : ∃ x : Nat, pc.getD k 0 = (x : Int) := ⟨(pc.getD k 0).toNat, by omega⟩
      rw [hx] at hcell x0 x1
      clear hx
      have w1 : IntKind.i64.wrap (x : Int) = (x : Int) := IntWalk.i64_in _ (by omega)
      have HLen : RowKit.Hid (∀ {q : Nat}, q = (scan ((scan (b.take 0)).left ++ (b.drop 0).take 0)).ps.length → (scan (b.take 0)).ps.length + q ≤ 1000000) := by
        intro q e
        have h1 := (scan_take_bd b 0).1
        have h2 := (scan_take_bd b (0 + 0)).1
        rw [take_more, List.length_append] at h2
        have h3 := HL.out
        omega
      have HFd : RowKit.Hid (Calls Try.prog 13 #[.pointer (some ⟨g, 0, none⟩), .slice (some xa) 0 0] wr (FeedPost19 w.heap.size w.heap.size g (scan (b.take 0)).lost ((scan (b.take 0)).left ++ (b.drop 0).take 0) wr)) :=
        rdFeed_any w.heap.size w.heap.size g _ _ (some xa) 0 0 ((b.drop 0).take 0) wr H.out.r (by have hz := HM.out.below H.out.kb; rw [HBe.out] at hz; exact hz) (scan_byts (HM.out.hb.take 0)) (scan_left_len _) (by omega) (by have := (scan_take_bd b 0).2; have := HL.out; omega) H.out.kb.size HG.out
      have HAl : RowKit.Hid (∀ W, Below w.heap.size w W → Calls Try.prog 14 #[.slice (some xa) 0 0] W (AllPost19 w.heap.size (b.take 0) W)) := fun W hb =>
        refAll_any w.heap.size (some xa) 0 0 (b.take 0) W (by have hz := HM.out.below hb; rw [HBe.out] at hz; exact hz) (by omega) hb.size (fun r2 off2 e h0 => HRB.out r2 off2 e (by omega))
      have HLo : RowKit.Hid (∀ W v, FsSt w g b 0 v W → Calls Try.prog 15 #[.pointer (some ⟨g, 0, none⟩)] W fun e w' => e = .returned (.int .i64 ((scan (b.take 0)).lost : Int)) ∧ W = w') := fun W v h => rdLost_any W _ g _ _ h.r
      have HLe : RowKit.Hid (∀ W v, FsSt w g b 0 v W → Calls Try.prog 16 #[.pointer (some ⟨g, 0, none⟩)] W fun e w' => e = .returned (.int .i64 ((scan (b.take 0)).left.length : Int)) ∧ W = w') := fun W v h => rdLeft_any W _ g _ _ h.r
      unfold AllPost19 at HAl
      obtain ⟨lo, hlo⟩ : ∃ lo, (scan (b.take 0)).lost = lo := ⟨_, rfl⟩
      obtain ⟨lf, hlf⟩ : ∃ lf, (scan (b.take 0)).left.length = lf := ⟨_, rfl⟩
      have hlb : lf ≤ 616 := by rw [← hlf]; exact scan_left_len _
      rw [hlo, hlf] at HAl
      rw [hlo] at HLo
      rw [hlf] at HLe
      clear hlo hlf
      have HT2 : RowKit.Hid (0 + 0 = 0) := rfl

      by_cases hle : x = 0
      · subst hle
        go_wp2_with (first
          | (go_at_call 13; have hfd := HFd.out; go_loud (refine hfd.mono ?_); rintro e w5 ⟨v5, rfl, hp5, hr5, hk5⟩; obtain ⟨A5, n5, c5, rfl, hn5⟩ := hp5.form; obtain ⟨ys5, e5, m5, y1, y2, y3⟩ := hp5.src; have HF5 := Lib.hid hn5; have HE5 := Lib.hid e5; have HP5 : RowKit.Hid (PksAt w5 w.heap.size w.heap.size 25 _ _) := (H.out.p.keeps hk5 fun j hj => by subst hj; exact ⟨HG.out, _, H.out.r.typ, by decide, by decide⟩); have HY5 : RowKit.Hid (n5 = ys5.length ∧ (A5 = none → c5 = 0 ∧ n5 = 0) ∧ (∀ ad, A5 = some ad → ∀ j u, (pkFlat ys5)[j]? = some u → w5.cell? (ad.add j) = some u) ∧ (∀ y ∈ ys5, PyAt w5 w.heap.size y) ∧ _ + n5 ≤ 1000000) := ⟨m5, y1, y2, y3, HLen.out hn5⟩; have HK5 := Lib.hid hk5; have HR5 := Lib.hid hr5; have HB5 : RowKit.Hid (Below w.heap.size w w5) := H.out.kb.trans (hk5.below H.out.kb.size fun j hj => by rw [hj]; exact HG.out); clear hfd hn5 hp5 hr5 hk5 m5 y1 y2 y3 e5 HFd)
          | (at_builtin; have hf5 := HF5.out; go_loud (refine append_pks rfl _ _ 42 rfl w.heap.size w.heap.size 25 _ 40 Try.underlying42 info19_pks rfl (by decide) (by decide) (Nat.le_refl _) _ _ rfl HP5.out A5 n5 c5 ys5 rfl HY5.out.1 HY5.out.2.1 HY5.out.2.2.1 HY5.out.2.2.2.1 (by have := HY5.out.2.2.2.2; omega) HB5.out.size ?_); intro v6 w6 hp6 hk6; go_loud (rw [HE5.out] at hp6); go_loud (have hx6 := H.out.more HG.out HK5.out HR5.out hp6 hk6); replace hx6 : FsSt w g b 0 _ w6 := hx6; have H6 := Lib.hid hx6; clear hp6 hk6 hf5 HF5 hx6)
          | (go_at_call 14; go_loud (refine (HAl.out _ H6.out.kb).mono ?_); rintro e w7 ⟨v7, rfl, hp7, hb7⟩; obtain ⟨A7, n7, c7, rfl, hn7⟩ := hp7.form; clear hn7; have H7 := Lib.hid (H6.out.below hb7); have HP7 := Lib.hid hp7; clear hp7 hb7)
          | (go_at_call 15; go_loud (refine (HLo.out _ _ H7.out).mono ?_); rintro e w8 ⟨rfl, rfl⟩)
          | (go_at_call 16; go_loud (refine (HLe.out _ _ H7.out).mono ?_); rintro e w8 ⟨rfl, rfl⟩)
          | fail)

        go_roundw
        case rel => exact ⟨k + 1, by omega, rfl, by go_num, H7.out⟩
        case measure => simp [intOf]; omega
      · have hmin : (0 : Int) < (x : Int) := by omega
        go_wp2_with (first
          | (go_at_call 13; have hfd := HFd.out; go_loud (refine hfd.mono ?_); rintro e w5 ⟨v5, rfl, hp5, hr5, hk5⟩; obtain ⟨A5, n5, c5, rfl, hn5⟩ := hp5.form; obtain ⟨ys5, e5, m5, y1, y2, y3⟩ := hp5.src; have HF5 := Lib.hid hn5; have HE5 := Lib.hid e5; have HP5 : RowKit.Hid (PksAt w5 w.heap.size w.heap.size 25 _ _) := (H.out.p.keeps hk5 fun j hj => by subst hj; exact ⟨HG.out, _, H.out.r.typ, by decide, by decide⟩); have HY5 : RowKit.Hid (n5 = ys5.length ∧ (A5 = none → c5 = 0 ∧ n5 = 0) ∧ (∀ ad, A5 = some ad → ∀ j u, (pkFlat ys5)[j]? = some u → w5.cell? (ad.add j) = some u) ∧ (∀ y ∈ ys5, PyAt w5 w.heap.size y) ∧ _ + n5 ≤ 1000000) := ⟨m5, y1, y2, y3, HLen.out hn5⟩; have HK5 := Lib.hid hk5; have HR5 := Lib.hid hr5; have HB5 : RowKit.Hid (Below w.heap.size w w5) := H.out.kb.trans (hk5.below H.out.kb.size fun j hj => by rw [hj]; exact HG.out); clear hfd hn5 hp5 hr5 hk5 m5 y1 y2 y3 e5 HFd)
          | (at_builtin; have hf5 := HF5.out; go_loud (refine append_pks rfl _ _ 42 rfl w.heap.size w.heap.size 25 _ 40 Try.underlying42 info19_pks rfl (by decide) (by decide) (Nat.le_refl _) _ _ rfl HP5.out A5 n5 c5 ys5 rfl HY5.out.1 HY5.out.2.1 HY5.out.2.2.1 HY5.out.2.2.2.1 (by have := HY5.out.2.2.2.2; omega) HB5.out.size ?_); intro v6 w6 hp6 hk6; go_loud (rw [HE5.out] at hp6); go_loud (have hx6 := H.out.more HG.out HK5.out HR5.out hp6 hk6); replace hx6 : FsSt w g b 0 _ w6 := hx6; have H6 := Lib.hid hx6; clear hp6 hk6 hf5 HF5 hx6)
          | (go_at_call 14; go_loud (refine (HAl.out _ H6.out.kb).mono ?_); rintro e w7 ⟨v7, rfl, hp7, hb7⟩; obtain ⟨A7, n7, c7, rfl, hn7⟩ := hp7.form; clear hn7; have H7 := Lib.hid (H6.out.below hb7); have HP7 := Lib.hid hp7; clear hp7 hb7)
          | (go_at_call 15; go_loud (refine (HLo.out _ _ H7.out).mono ?_); rintro e w8 ⟨rfl, rfl⟩)
          | (go_at_call 16; go_loud (refine (HLe.out _ _ H7.out).mono ?_); rintro e w8 ⟨rfl, rfl⟩)
          | fail)

        go_roundw
        case rel => exact ⟨k + 1, by omega, rfl, by go_num, H7.out⟩
        case measure => simp [intOf]; omega
    · obtain rfl : k = n2 := by omega

      have HLen : RowKit.Hid (∀ {q : Nat}, q = (scan ((scan (b.take 0)).left ++ (b.drop 0).take 0)).ps.length → (scan (b.take 0)).ps.length + q ≤ 1000000) := by
        intro q e
        have h1 := (scan_take_bd b 0).1
        have h2 := (scan_take_bd b (0 + 0)).1
        rw [take_more, List.length_append] at h2
        have h3 := HL.out
        omega
      have HFd : RowKit.Hid (Calls Try.prog 13 #[.pointer (some ⟨g, 0, none⟩), .slice (some xa) 0 0] wr (FeedPost19 w.heap.size w.heap.size g (scan (b.take 0)).lost ((scan (b.take 0)).left ++ (b.drop 0).take 0) wr)) :=
        rdFeed_any w.heap.size w.heap.size g _ _ (some xa) 0 0 ((b.drop 0).take 0) wr H.out.r (by have hz := HM.out.below H.out.kb; rw [HBe.out] at hz; exact hz) (scan_byts (HM.out.hb.take 0)) (scan_left_len _) (by omega) (by have := (scan_take_bd b 0).2; have := HL.out; omega) H.out.kb.size HG.out
      have HAl : RowKit.Hid (∀ W, Below w.heap.size w W → Calls Try.prog 14 #[.slice (some xa) 0 0] W (AllPost19 w.heap.size (b.take 0) W)) := fun W hb =>
        refAll_any w.heap.size (some xa) 0 0 (b.take 0) W (by have hz := HM.out.below hb; rw [HBe.out] at hz; exact hz) (by omega) hb.size (fun r2 off2 e h0 => HRB.out r2 off2 e (by omega))
      have HLo : RowKit.Hid (∀ W v, FsSt w g b 0 v W → Calls Try.prog 15 #[.pointer (some ⟨g, 0, none⟩)] W fun e w' => e = .returned (.int .i64 ((scan (b.take 0)).lost : Int)) ∧ W = w') := fun W v h => rdLost_any W _ g _ _ h.r
      have HLe : RowKit.Hid (∀ W v, FsSt w g b 0 v W → Calls Try.prog 16 #[.pointer (some ⟨g, 0, none⟩)] W fun e w' => e = .returned (.int .i64 ((scan (b.take 0)).left.length : Int)) ∧ W = w') := fun W v h => rdLeft_any W _ g _ _ h.r
      unfold AllPost19 at HAl
      obtain ⟨lo, hlo⟩ : ∃ lo, (scan (b.take 0)).lost = lo := ⟨_, rfl⟩
      obtain ⟨lf, hlf⟩ : ∃ lf, (scan (b.take 0)).left.length = lf := ⟨_, rfl⟩
      have hlb : lf ≤ 616 := by rw [← hlf]; exact scan_left_len _
      rw [hlo, hlf] at HAl
      rw [hlo] at HLo
      rw [hlf] at HLe
      clear hlo hlf
      have HT2 : RowKit.Hid (0 + 0 = 0) := rfl

      have CFn : RowKit.Hid (∀ W, Calls Try.prog 13 #[.pointer none, .slice (some xa) 0 0] W fun e w' => e = .returned (.slice none 0 0) ∧ W = w') := fun W => rdFeed_nil _ _ _ W
      go_wp2_with (first
        | (go_at_call 13; have hfd := HFd.out; go_loud (refine hfd.mono ?_); rintro e w5 ⟨v5, rfl, hp5, hr5, hk5⟩; obtain ⟨A5, n5, c5, rfl, hn5⟩ := hp5.form; obtain ⟨ys5, e5, m5, y1, y2, y3⟩ := hp5.src; have HF5 := Lib.hid hn5; have HE5 := Lib.hid e5; have HP5 : RowKit.Hid (PksAt w5 w.heap.size w.heap.size 25 _ _) := (H.out.p.keeps hk5 fun j hj => by subst hj; exact ⟨HG.out, _, H.out.r.typ, by decide, by decide⟩); have HY5 : RowKit.Hid (n5 = ys5.length ∧ (A5 = none → c5 = 0 ∧ n5 = 0) ∧ (∀ ad, A5 = some ad → ∀ j u, (pkFlat ys5)[j]? = some u → w5.cell? (ad.add j) = some u) ∧ (∀ y ∈ ys5, PyAt w5 w.heap.size y) ∧ _ + n5 ≤ 1000000) := ⟨m5, y1, y2, y3, HLen.out hn5⟩; have HK5 := Lib.hid hk5; have HR5 := Lib.hid hr5; have HB5 : RowKit.Hid (Below w.heap.size w w5) := H.out.kb.trans (hk5.below H.out.kb.size fun j hj => by rw [hj]; exact HG.out); clear hfd hn5 hp5 hr5 hk5 m5 y1 y2 y3 e5 HFd)
        | (at_builtin; have hf5 := HF5.out; go_loud (refine append_pks rfl _ _ 42 rfl w.heap.size w.heap.size 25 _ 40 Try.underlying42 info19_pks rfl (by decide) (by decide) (Nat.le_refl _) _ _ rfl HP5.out A5 n5 c5 ys5 rfl HY5.out.1 HY5.out.2.1 HY5.out.2.2.1 HY5.out.2.2.2.1 (by have := HY5.out.2.2.2.2; omega) HB5.out.size ?_); intro v6 w6 hp6 hk6; obtain ⟨A6, n6, c6, rfl, hn6⟩ := hp6.form; go_loud (rw [HE5.out] at hp6); go_loud (have hx6 := H.out.more HG.out HK5.out HR5.out hp6 hk6); replace hx6 : FsSt w g b 0 _ w6 := hx6; have H6 := Lib.hid hx6; have hn6b := H6.out.p.len; have HN6 := Lib.hid hn6b; clear hn6 hn6b hp6 hk6 hf5 HF5 hx6)
        | (go_at_call 14; go_loud (refine (HAl.out _ H6.out.kb).mono ?_); rintro e w7 ⟨v7, rfl, hp7, hb7⟩; obtain ⟨A7, n7, c7, rfl, hn7⟩ := hp7.form; rw [← HN6.out] at hn7; subst hn7; have H7 := Lib.hid (H6.out.below hb7); have HP7 := Lib.hid hp7; clear hp7 hb7)
        | (go_at_call 15; go_loud (refine (HLo.out _ _ H7.out).mono ?_); rintro e w8 ⟨rfl, rfl⟩)
        | (go_at_call 16; go_loud (refine (HLe.out _ _ H7.out).mono ?_); rintro e w8 ⟨rfl, rfl⟩)
        | fail)
      have hn7 : n7 ≤ 100000 := by
        have h1 := (scan_take_bd b 0).1
        have h2 := HL.out
        have h3 := HN6.out
        omega
      have H8 : RowKit.Hid (EsSt w g b 0 (.slice A6 n7 c6) (.slice A7 n7 c7) w7) := ⟨H7.out, HP7.out.lower H6.out.kb.size⟩
      clear HAl HLo HLe H6 H7 HP7 HLen H
      go_loopw [107] (fun i wr => ∃ k : Nat, k ≤ n7 ∧ i = .int .i64 (k : Int) ∧ RowKit.Hid (EsSt w g b 0 (.slice A6 n7 c6) (.slice A7 n7 c7) wr)) (fun i _ => n7 - (intOf i).toNat)
      case atStart => exact ⟨0, by omega, rfl, H8.out⟩
      case round =>
        obtain ⟨j, hj, rfl, H⟩ := hrel
        clear H8
        by_cases hlj : j < n7
        · obtain ⟨g6, P, a8, c8, hp8, rfl, hy8, k0, k1, k2, k3⟩ := H.out.f.p.at_ (i := j) (by rw [← HN6.out]; exact hlj)
          obtain ⟨g7, P', a9, c9, hp9, rfl, hy9, m0, m1, m2, m3⟩ := H.out.q.at_ (i := j) (by rw [← HN6.out]; exact hlj)
          obtain rfl : P' = P := by rw [hp8] at hp9; injection hp9 with e; exact e.symm
          clear hp8 hp9
          have CS := Lib.hid (fun W (hb : Below wr.heap.size wr W) => lawSame_any P' a8 a9 c8 c9 W (hy8.below hb).i (hy9.below hb).i)
          unfold pkV19 at CS
          have b1 : (j : Int) < (n7 : Int) := by omega
          generalize P'.pl.length = m at CS k3 m3
          go_wp2
          go_region_held3 (fun w' => w'.cell? ⟨g6, j * 4, none⟩ = some (.int .u32 P'.ep) ∧ w'.cell? ⟨g6, j * 4 + 1, none⟩ = some (.int .u32 P'.nu) ∧ w'.cell? ⟨g6, j * 4 + 2, none⟩ = some (.bool P'.wh) ∧ w'.cell? ⟨g6, j * 4 + 3, none⟩ = some (.slice a8 m c8) ∧ w'.cell? ⟨g7, j * 4, none⟩ = some (.int .u32 P'.ep) ∧ w'.cell? ⟨g7, j * 4 + 1, none⟩ = some (.int .u32 P'.nu) ∧ w'.cell? ⟨g7, j * 4 + 2, none⟩ = some (.bool P'.wh) ∧ w'.cell? ⟨g7, j * 4 + 3, none⟩ = some (.slice a9 m c9)) (go_keep)
            (first
              | (go_at_call 11; go_loud (refine (CS.out _ (Below.drewN' (Below.refl _ wr) 1)).mono ?_); rintro e w8 ⟨rfl, hb⟩; have HB8 : RowKit.Hid (Below wr.heap.size wr w8) := (Below.drewN' (Below.refl _ wr) 1).trans hb; have z0 := (HB8.out.cell (p := ⟨g6, j * 4, none⟩) (cell_block k0)).trans k0; have z1 := (HB8.out.cell (p := ⟨g6, j * 4 + 1, none⟩) (cell_block k1)).trans k1; have z2 := (HB8.out.cell (p := ⟨g6, j * 4 + 2, none⟩) (cell_block k2)).trans k2; have z3 := (HB8.out.cell (p := ⟨g6, j * 4 + 3, none⟩) (cell_block k3)).trans k3; have y0 := (HB8.out.cell (p := ⟨g7, j * 4, none⟩) (cell_block m0)).trans m0; have y1 := (HB8.out.cell (p := ⟨g7, j * 4 + 1, none⟩) (cell_block m1)).trans m1; have y2 := (HB8.out.cell (p := ⟨g7, j * 4 + 2, none⟩) (cell_block m2)).trans m2; have y3 := (HB8.out.cell (p := ⟨g7, j * 4 + 3, none⟩) (cell_block m3)).trans m3; clear hb)
              | fail)
          go_wp2
          go_roundw
          case rel => exact ⟨j + 1, by omega, by go_num, H.out.below HB8.out⟩
          case measure => simp [intOf]; omega
        · obtain rfl : j = n7 := by omega
          go_wp2_with (first
            | (go_at_call 13; go_loud (refine (CFn.out _).mono ?_); rintro e w8 ⟨rfl, rfl⟩)
            | (go_at_call 15; go_loud (refine (rdLost_nil _).mono ?_); rintro e w8 ⟨rfl, rfl⟩)
            | (go_at_call 16; go_loud (refine (rdLeft_nil _).mono ?_); rintro e w8 ⟨rfl, rfl⟩)
            | fail)
          go_ret
          exact ⟨rfl, H.out.f.kb⟩
end Go.Proofs.Ytcjikbddnceigaa
