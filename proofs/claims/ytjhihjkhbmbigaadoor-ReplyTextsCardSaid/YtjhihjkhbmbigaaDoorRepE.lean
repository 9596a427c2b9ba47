/- What the functions of package reply give: what bytes say first. -/
import Derived.Test.YtjhihjkhbmbigaaDoorRepD
import Derived.Lib.SmallJoins
import Derived.Lib.SlBytesConst
namespace Go.Proofs.YtjhihjkhbmbigaaDoor
open Go Go.RowKit Go.PlainAid Go.Lib
set_option linter.unusedVariables false
set_option linter.unusedSimpArgs false

/-- A slice of bytes. -/
structure BytA (w : World) (a : Option Addr) (n cap : Nat) (l : List UInt8) : Prop where
  hi : IntsAt w w.heap.size .u8 a n (nz l)
  hl : l.length = n
  hc : n ≤ cap
  ha : a = none → cap = 0
theorem nz_get (l : List UInt8) (j : Nat) : (nz l).getD j 0 = ((l.getD j 0).toNat : Int) := by
  unfold nz
  rw [List.getD_eq_getElem?_getD, List.getD_eq_getElem?_getD, List.getElem?_map]
  cases l[j]? <;> rfl
theorem nz_bytes (l : List UInt8) : Lib.bytesOf (nz l) = l := by
  unfold Lib.bytesOf nz
  rw [List.map_map]
  conv => rhs; rw [← List.map_id l]
  apply List.map_congr_left
  intro b _
  simp
theorem nz_bd (l : List UInt8) : ∀ x ∈ nz l, 0 ≤ x ∧ x < 256 := by
  intro x hx
  obtain ⟨b, _, rfl⟩ := List.mem_map.1 hx
  have := b.toNat_lt
  omega
theorem text_nz (l : List UInt8) : textOf (nz l) = ba l := by
  have h : ∀ (l : List UInt8) (r : ByteArray), (nz l).foldl (fun r n => r.push (UInt8.ofNat n.toNat)) r = r ++ ba l := by
    intro l
    induction l with
    | nil =>
      intro r
      simp [nz]
      exact (ByteArray.append_empty).symm
    | cons b t ih =>
      intro r
      show (nz t).foldl _ (r.push (UInt8.ofNat ((b.toNat : Int)).toNat)) = _
      rw [ih, show UInt8.ofNat ((b.toNat : Int)).toNat = b by simp]
      apply ByteArray.ext
      simp [ba, ByteArray.data_append, ByteArray.data_push]
  exact (h l ByteArray.empty).trans (ByteArray.empty_append)
theorem BytA.below {w w' : World} {a : Option Addr} {n cap : Nat} {l : List UInt8} (h : BytA w a n cap l) (hb : Below w.heap.size w w') : BytA w' a n cap l :=
  ⟨h.hi.now hb (Nat.le_refl _), h.hl, h.hc, h.ha⟩
theorem BytA.take {w : World} {a : Option Addr} {n cap : Nat} {l : List UInt8} (h : BytA w a n cap l) (k : Nat) (hk : k ≤ n) : BytA w a k cap (l.take k) := by
  refine ⟨⟨?_, ?_⟩, ?_, Nat.le_trans hk h.hc, h.ha⟩
  · rw [nz_len, List.length_take, h.hl]; omega
  · by_cases h0 : k = 0
    · exact .inl h0
    · rcases h.hi.2 with h1 | ⟨b, off, e, h2, h3, h4⟩
      · omega
      · refine .inr ⟨b, off, e, h2, by omega, fun j hj => ?_⟩
        rw [h4 j (by omega), nz_get, nz_get]
        simp [List.getD_eq_getElem?_getD, List.getElem?_take, hj]
  · rw [List.length_take, h.hl]; omega
theorem BytA.addr {w : World} {a : Option Addr} {n cap : Nat} {l : List UInt8} (h : BytA w a n cap l) (hn : 0 < n) : ∃ b off, a = some ⟨b, off, none⟩ ∧ b < w.heap.size ∧ ∀ j, j < n → w.cell? ⟨b, off + j, none⟩ = some (.int .u8 ((nz l).getD j 0)) := by
  rcases h.hi.2 with h1 | ⟨b, off, e, h2, h3, h4⟩
  · omega
  · exact ⟨b, off, e, h2, h4⟩
theorem BytA.conv {w : World} {a : Option Addr} {n cap : Nat} {l : List UInt8} (h : BytA w a n cap l) (W' : World) (hb : Below w.heap.size w W') :
    (convert 24 9 (.slice a n cap)).run Tryd.prog W' = .ok (.string (ba l)) W' := by
  have := string_of_ints (P := Tryd.prog) (src := 24) (dst := 9) (e := 5) (c := cap) Tryd.underlying24 Tryd.underlying5 Tryd.underlying9 (h.hi.below hb)
  rw [text_nz] at this
  exact this
theorem idx18_any (a : Option Addr) (n cap s c2 : Nat) (l : List UInt8) (w : World) (h : BytA w a n cap l) (hn : n ≤ 1000) (hs : ∀ i, i < 4 → w.cell? ⟨s, i, none⟩ = some (.int .u8 (([13, 10, 13, 10] : List Int).getD i 0))) (hM : MaxAt w) :
    Calls Tryd.prog 20 #[.slice a n cap, .slice (some ⟨s, 0, none⟩) 4 c2] w fun e w' => e = .returned (.int .i64 (Lib.index l nn18)) ∧ ∃ q, w' = w.drewN q := by
  cases a with
  | none =>
    have hc := h.ha rfl
    have := h.hc
    obtain rfl : cap = 0 := hc
    obtain rfl : n = 0 := by omega
    have hl : l = [] := List.eq_nil_of_length_eq_zero h.hl
    subst hl
    refine (Tryd.bytes_Index_nil (some ⟨s, 0, none⟩) 4 c2 w (by decide) (fun e => absurd e (by decide))).mono ?_
    rintro e w' ⟨he, hw⟩
    exact ⟨he, 0, hw⟩
  | some x =>
    obtain ⟨m, hm⟩ := hM
    have := Tryd.bytes_Index_at x ⟨s, 0, none⟩ n cap 4 c2 (nz l) [13, 10, 13, 10] m w (by rw [nz_len, h.hl]) rfl (nz_bd l) (by decide) (by
        intro i hi
        obtain ⟨b, off, e, _, h4⟩ := h.addr (by omega)
        injection e with e
        rw [e, Lib.add_plain']
        exact h4 i hi) (by
        intro i hi
        rw [Lib.add_plain', Nat.zero_add]
        exact hs i hi) h.hc (by omega) (by decide) hm
    rw [nz_bytes] at this
    exact this
theorem equal18_any (a1 a2 : Option Addr) (n c m d : Nat) (l1 l2 : List UInt8) (w : World) (h1 : BytA w a1 n c l1) (h2 : BytA w a2 m d l2) :
    Calls Tryd.prog 23 #[.slice a1 n c, .slice a2 m d] w fun e w' => e = .returned (.bool (l1 == l2)) ∧ w' = w := by
  have key : ∀ {a : Option Addr} {n c : Nat} {l : List UInt8}, BytA w a n c l → Lib.BytesIn w a n (nz l) := by
    intro a n c l h hn
    obtain ⟨b, off, e, _, h4⟩ := h.addr hn
    subst e
    first
      | exact ⟨_, _, rfl, h4⟩
      | (refine ⟨_, rfl, fun i hi => ?_⟩; rw [Lib.add_plain']; exact h4 i hi)
  have := Tryd.bytes_Equal_all a1 a2 n c m d (nz l1) (nz l2) w (by rw [nz_len, h1.hl]) (by rw [nz_len, h2.hl]) (key h1) (key h2)
  rw [nz_bytes, nz_bytes] at this
  exact this
theorem pieces_len (sep : ByteArray) (h1 : 1 ≤ sep.size) : ∀ (k : Nat) (s : ByteArray), ∀ p ∈ Lib.splitB sep 0 k s, p.size ≤ s.size
  | 0, s, p, hp => by
    rw [Lib.splitB_zero] at hp
    obtain rfl : p = s := by simpa using hp
    exact Nat.le_refl _
  | k + 1, s, p, hp => by
    rcases Lib.indexB_cases s sep with hx | ⟨i, hx, hi⟩
    · rw [Lib.splitB_miss _ _ _ _ hx] at hp
      obtain rfl : p = s := by simpa using hp
      exact Nat.le_refl _
    · rw [Lib.splitB_hit _ _ _ _ _ hx] at hp
      rcases List.mem_cons.1 hp with e | e
      · rw [e, ByteArray.size_extract]; omega
      · have := pieces_len sep h1 k _ p e
        rw [ByteArray.size_extract] at this
        omega
theorem split_parts (l : List UInt8) (hl : l.length ≤ 1000) : ∃ p0 ps, splitL l = p0 :: ps ∧ ps.length ≤ 1000 ∧ p0.size ≤ 1000 ∧ ∀ k, k < ps.length → (ps.getD k ⟨#[]⟩).size ≤ 1000 := by
  have h1 := splitL_len l
  have h2 := Lib.countB_le (ba nl18) (by decide) (ba l).size (ba l) (Nat.le_refl _)
  rw [ba_size] at h2
  have h3 : ∀ p ∈ splitL l, p.size ≤ 1000 := by
    intro p hp
    have := pieces_len (ba nl18) (by decide) _ _ p hp
    rw [ba_size] at this
    omega
  cases hs : splitL l with
  | nil => rw [hs] at h1; simp at h1
  | cons p0 ps =>
    rw [hs] at h1 h3
    rw [List.length_cons] at h1
    refine ⟨p0, ps, rfl, by omega, h3 p0 (by simp), fun k hk => ?_⟩
    rw [List.getD_eq_getElem?_getD, List.getElem?_eq_getElem hk]
    exact h3 _ (by simp)
/-- A result that lies in memory, and two beside it. -/
theorem results18_3 {fn : Func} {p u x : Tmp} {ty : TypeId} {tmps : Array Value} {P : Program} {w : World} {g : Nat} {v v' v'' : Value} (h : fn.results = #[.cell p ty, .tmp u, .tmp x]) (hp : tmps.getD p undef = .pointer (some ⟨g, 0, none⟩)) (hv : tmps.getD u undef = v') (hv2 : tmps.getD x undef = v'')
    (e : (loadVar ty ⟨g, 0, none⟩).run P w = .ok v w) : (results fn tmps).run P w = .ok (.tuple #[v, v', v'']) w := by
  have hp' : tmps[p]?.getD undef = .pointer (some ⟨g, 0, none⟩) := by simpa using hp
  have hv' : tmps[u]?.getD undef = v' := by simpa using hv
  have hv2' : tmps[x]?.getD undef = v'' := by simpa using hv2
  simp only [results, h]
  simp [Sem.run_bind, hp', hv', hv2', asAddr, Result.andThen, e]
/-- The two line ends as bytes: what is searched for. -/
def nnC : Array Value := #[.int .u8 13, .int .u8 10, .int .u8 13, .int .u8 10]
/-- Where Read's search begins. -/
structure Rs18 (w : World) (g : Nat) (w1 w2 : World) : Prop where
  a : w.alloc (.cells #[.int .i64 0, .string ⟨#[]⟩, .int .i64 0] 23) = w1
  c : (convert 24 24 (.slice (some ⟨g + 1, 0, none⟩) 4 4)).run Tryd.prog (w1.alloc (.cells #[.int .u8 13, .int .u8 10, .int .u8 13, .int .u8 10] 5)) = .ok (.slice (some ⟨g + 1, 0, none⟩) 4 4) w2
  n : w1.heap.size = g + 1
  b : Below w.heap.size w w2
  r : Cel w2 g 23 #[.int .i64 0, .string ⟨#[]⟩, .int .i64 0]
  s : ∀ i, i < 4 → w2.cell? ⟨g + 1, i, none⟩ = some (.int .u8 (([13, 10, 13, 10] : List Int).getD i 0))
theorem rs18 (w : World) : ∃ w1 w2, Rs18 w w.heap.size w1 w2 := by
  have n1 : (w.alloc (.cells #[.int .i64 0, .string ⟨#[]⟩, .int .i64 0] 23)).heap.size = w.heap.size + 1 := Array.size_push _
  refine ⟨_, _, rfl, Go.Joins.run_convert_bytes_const_at (P := Tryd.prog) _ 24 5 _ 4 4 (w.heap.size + 1) n1.symm Tryd.underlying24 Tryd.underlying5, n1, (Below.alloc_new w _).alloc (Below.alloc_new w _).size _, (Cel.new w _ _).alloc _, ?_⟩
  intro i hi
  have hh := heap_alloc_new (w.alloc (.cells #[.int .i64 0, .string ⟨#[]⟩, .int .i64 0] 23)) (.cells nnC 5 (nnC.size, nnC.size + 1))
  rw [n1] at hh
  rw [show (#[Value.int .u8 13, .int .u8 10, .int .u8 13, .int .u8 10] : Array Value) = nnC from rfl]
  rw [cell_of_row _ _ i _ _ _ hh]
  match i, hi with
  | 0, _ => rfl
  | 1, _ => rfl
  | 2, _ => rfl
  | 3, _ => rfl
/-- What Read answers. -/
def readV (x : R18 × Int × Int) : Value := .tuple #[.agg #[.int .i64 x.1.c, .string (ba x.1.nm), .int .i64 x.1.ev], .int .i64 x.2.1, .int .i64 x.2.2]
theorem numF_le (l : List UInt8) (most : Int) (h0 : -1 ≤ most) (h1 : most ≤ 9223372036854775807) : -1 ≤ numF l most ∧ numF l most ≤ most := by
  unfold numF
  split
  · omega
  · split
    · omega
    · split <;> omega
theorem likely_bd (ps : List ByteArray) (h : ∀ k, k < (ps.drop 1).length → ((ps.drop 1).getD k ⟨#[]⟩).size ≤ 1000) : -1 ≤ (likelyF ps).c ∧ (likelyF ps).c ≤ 503 ∧ -1 ≤ (likelyF ps).ev ∧ (likelyF ps).ev ≤ 65536 ∧ (likelyF ps).nm.length ≤ 1000 := by
  have h1 := numF_le (cutA (cutB (ps.getD 0 ⟨#[]⟩).data.toList 32) 32) 503 (by decide) (by decide)
  have key : ∀ (qs : List ByteArray) (x : List UInt8 × Int), (∀ p ∈ qs, p.size ≤ 1000) → x.1.length ≤ 1000 → -1 ≤ x.2 → x.2 ≤ 65536 → ((qs.foldl stepF x).1.length ≤ 1000 ∧ -1 ≤ (qs.foldl stepF x).2 ∧ (qs.foldl stepF x).2 ≤ 65536) := by
    intro qs
    induction qs with
    | nil => intro x _ a b c; exact ⟨a, b, c⟩
    | cons q qs ih =>
      intro x hq a b c
      rw [List.foldl_cons]
      have hn := numF_le (Lib.trimPrefix q.data.toList every18) 65536 (by decide) (by decide)
      have hl := trimP_len q.data.toList name18
      rw [len_list] at hl
      have hq0 := hq q (by simp)
      refine ih _ (fun p hp => hq p (by simp [hp])) ?_ ?_ ?_
      · unfold stepF; dsimp only; split <;> omega
      · unfold stepF; dsimp only; split <;> omega
      · unfold stepF; dsimp only; split <;> omega
  have hm : ∀ p ∈ ps.drop 1, p.size ≤ 1000 := by
    intro p hp
    obtain ⟨k, hk, e⟩ := List.mem_iff_getElem.1 hp
    have := h k hk
    rw [List.getD_eq_getElem?_getD, List.getElem?_eq_getElem hk] at this
    rw [← e]
    exact this
  have := key (ps.drop 1) ([], 0) hm (by simp) (by simp) (by simp)
  exact ⟨h1.1, h1.2, this.2.1, this.2.2, this.1⟩
set_option maxHeartbeats 8000000 in
set_option maxRecDepth 100000 in
theorem read_less (a : Option Addr) (n cap : Nat) (l : List UInt8) (w : World) (h : BytA w a n cap l) (hn : n ≤ 1000) (hM : MaxAt w) (hx : Lib.index (l.take 400) nn18 < 0) :
    Calls Tryd.prog 11 #[.slice a n cap] w fun e w' => e = .returned (readV (zero18, 0, if l.length < 400 then 2 else 5)) ∧ Below w.heap.size w w' := by
  have hi : Lib.index (l.take 400) nn18 = -1 := by
    have := Lib.index_ge (l.take 400) nn18
    omega
  rw [h.hl]
  have CX : ∀ W : World, Below w.heap.size w W → ∀ s, (∀ i, i < 4 → W.cell? ⟨s, i, none⟩ = some (.int .u8 (([13, 10, 13, 10] : List Int).getD i 0))) → Calls Tryd.prog 20 #[.slice a (min n 400) cap, .slice (some ⟨s, 0, none⟩) 4 4] W fun e w' => e = .returned (.int .i64 (-1)) ∧ ∃ q, w' = W.drewN q := by
    intro W hb s hs
    have hk : BytA w a (min n 400) cap (l.take 400) := by
      have := h.take (min n 400) (Nat.min_le_left _ _)
      have e : l.take (min n 400) = l.take 400 := by
        rw [← h.hl]
        by_cases q : l.length ≤ 400
        · rw [Nat.min_eq_left q, List.take_length, List.take_of_length_le q]
        · rw [Nat.min_eq_right (by omega)]
      rw [e] at this
      exact this
    have := idx18_any a (min n 400) cap s 4 (l.take 400) W (hk.below hb) (by omega) hs (hM.below hb)
    rw [hi] at this
    exact this
  have hcap := h.hc
  have ha := h.ha
  have hK : (min (n : Int) 400).toNat = min n 400 := by omega
  generalize min n 400 = K at *
  obtain ⟨w1, w2, hrs⟩ := rs18 w
  have h2 := hrs.a
  have hcv := hrs.c
  have hn1 := hrs.n
  have HR := Lib.hid hrs
  obtain ⟨g, hg⟩ : ∃ g, w.heap.size = g := ⟨_, rfl⟩
  rw [hg] at hcv hn1 HR
  clear hrs hM h
  have x0 : ∀ q, (w2.drewN q).cell? ⟨g, 0, none⟩ = some (.int .i64 0) := fun q => HR.out.r.cell 0
  have x1 : ∀ q, (w2.drewN q).cell? ⟨g, 1, none⟩ = some (.string ⟨#[]⟩) := fun q => HR.out.r.cell 1
  have x2 : ∀ q, (w2.drewN q).cell? ⟨g, 2, none⟩ = some (.int .i64 0) := fun q => HR.out.r.cell 2
  have f0 : ∀ q, (w2.drewN q).frozen? ⟨g, 0, none⟩ = false := fun q => HR.out.r.frozen 0
  have f1 : ∀ q, (w2.drewN q).frozen? ⟨g, 1, none⟩ = false := fun q => HR.out.r.frozen 1
  have f2 : ∀ q, (w2.drewN q).frozen? ⟨g, 2, none⟩ = false := fun q => HR.out.r.frozen 2
  have HE : RowKit.Hid (∀ q, ∃ cs, Cel ((((w2.drewN q).setCell ⟨g, 0, none⟩ (.int .i64 0)).setCell ⟨g, 1, none⟩ (.string ⟨#[]⟩)).setCell ⟨g, 2, none⟩ (.int .i64 0)) g 23 cs ∧ cs = #[.int .i64 0, .string ⟨#[]⟩, .int .i64 0] ∧ Below w.heap.size w ((((w2.drewN q).setCell ⟨g, 0, none⟩ (.int .i64 0)).setCell ⟨g, 1, none⟩ (.string ⟨#[]⟩)).setCell ⟨g, 2, none⟩ (.int .i64 0))) := by
    intro q
    have hge : w.heap.size ≤ g := Nat.le_of_eq hg
    exact ⟨_, (((HR.out.r.drewN q).set_ 0 _).set_ 1 _).set_ 2 _, rfl, (((Below.drewN' HR.out.b q).setCell (p := ⟨g, 0, none⟩) hge _).setCell (p := ⟨g, 1, none⟩) hge _).setCell (p := ⟨g, 2, none⟩) hge _⟩
  by_cases h4 : n < 400
  · rw [if_pos h4]
    have h4i : (n : Int) < 400 := by omega
    go_enter Tryd.func11, Tryd.ntmps11
    go_wp2_with (go_at_call 20; refine (CX w2 HR.out.b _ HR.out.s).mono ?_; rintro e w3 ⟨rfl, q, rfl⟩)
    obtain ⟨cs, hcs, rfl, hb⟩ := HE.out q
    refine bodyPost_ret (results18_3 rfl rfl rfl rfl (run_loadVar_row _ g _ _ _ (0, 0) _ hcs Tryd.underlying23 rfl info_rep)) rfl ⟨rfl, hb⟩
  · rw [if_neg h4]
    have h4i : ¬ (n : Int) < 400 := by omega
    go_enter Tryd.func11, Tryd.ntmps11
    go_wp2_with (go_at_call 20; refine (CX w2 HR.out.b _ HR.out.s).mono ?_; rintro e w3 ⟨rfl, q, rfl⟩)
    obtain ⟨cs, hcs, rfl, hb⟩ := HE.out q
    refine bodyPost_ret (results18_3 rfl rfl rfl rfl (run_loadVar_row _ g _ _ _ (0, 0) _ hcs Tryd.underlying23 rfl info_rep)) rfl ⟨rfl, hb⟩
theorem OwnB.bytes {w : World} {base : Nat} {v : Value} {l : List UInt8} (h : OwnB w base v l) : ∃ a c, v = .slice a l.length c ∧ BytA w a l.length c l ∧ ∀ x, a = some x → base ≤ x.block := by
  obtain ⟨a, c, e, hi⟩ := own_ints h
  refine ⟨a, c, e, ⟨hi, rfl, ?_, ?_⟩, ?_⟩
  · subst e
    rcases h.2 with ⟨h1, h2⟩ | ⟨g, cap, cur, h1, _, _, h4, _⟩
    · injection h1 with _ h3 h4; omega
    · injection h1 with _ h5 h6; omega
  · intro ha
    subst e
    rcases h.2 with ⟨h1, h2⟩ | ⟨g, cap, cur, h1, _⟩
    · injection h1
    · injection h1 with h5; rw [ha] at h5; cases h5
  · intro x hx
    exact own_base h x.block (by rw [e, hx]; rfl)
set_option maxHeartbeats 16000000 in
set_option maxRecDepth 100000 in
theorem read_full (a : Option Addr) (n cap k : Nat) (l : List UInt8) (w : World) (h : BytA w a n cap l) (hn : n ≤ 1000) (hM : MaxAt w) (hT : NumTabs w) (hx : Lib.index (l.take 400) nn18 = k) :
    Calls Tryd.prog 11 #[.slice a n cap] w fun e w' => e = .returned (readV (readF l)) ∧ Below w.heap.size w w' := by
  have hroom := Lib.index_room (l.take 400) nn18 (by omega)
  rw [hx, List.length_take, h.hl, show nn18.length = 4 from rfl] at hroom
  have hk4 : k + 4 ≤ n ∧ k + 4 ≤ 400 := by omega
  clear hroom
  obtain ⟨p0, ps, hsp, hps, hp0, hpz⟩ := split_parts (l.take k) (by rw [List.length_take]; omega)
  have hbd := likely_bd (p0 :: ps) hpz
  obtain ⟨r, hr⟩ : ∃ r, likelyF (p0 :: ps) = r := ⟨_, rfl⟩
  have hla : likeAt l k = r := by unfold likeAt; rw [hsp, hr]
  obtain ⟨R, hR⟩ : ∃ R, rightF r = R := ⟨_, rfl⟩
  obtain ⟨Q, hQ⟩ : ∃ Q, (textF r == l.take (k + 4)) = Q := ⟨_, rfl⟩
  obtain ⟨O, hO⟩ : ∃ O, readF l = O := ⟨_, rfl⟩
  have HO : RowKit.Hid (O = if R = true ∧ Q = true then (r, (k : Int) + 4, 0) else (zero18, 0, 3)) := by
    show _ = _
    rw [← hO, ← hR, ← hQ]
    unfold readF
    rw [hx, if_neg (by omega), Int.toNat_natCast, hla]
    by_cases c1 : rightF r = true ∧ textF r = l.take (k + 4)
    · rw [if_pos c1, if_pos ⟨c1.1, by simpa using c1.2⟩]
    · rw [if_neg c1, if_neg (fun c2 => c1 ⟨c2.1, by simpa using c2.2⟩)]
  rw [hO]
  clear hO
  have CX : ∀ W : World, Below w.heap.size w W → ∀ s, (∀ i, i < 4 → W.cell? ⟨s, i, none⟩ = some (.int .u8 (([13, 10, 13, 10] : List Int).getD i 0))) → Calls Tryd.prog 20 #[.slice a (min n 400) cap, .slice (some ⟨s, 0, none⟩) 4 4] W fun e w' => e = .returned (.int .i64 (k : Int)) ∧ ∃ q, w' = W.drewN q := by
    intro W hb s hs
    have hk : BytA w a (min n 400) cap (l.take 400) := by
      have := h.take (min n 400) (Nat.min_le_left _ _)
      have e : l.take (min n 400) = l.take 400 := by
        rw [← h.hl]
        by_cases q : l.length ≤ 400
        · rw [Nat.min_eq_left q, List.take_length, List.take_of_length_le q]
        · rw [Nat.min_eq_right (by omega)]
      rw [e] at this
      exact this
    have := idx18_any a (min n 400) cap s 4 (l.take 400) W (hk.below hb) (by omega) hs (hM.below hb)
    rw [hx] at this
    exact this
  obtain ⟨T, hTT⟩ : ∃ T, ba (l.take k) = T := ⟨_, rfl⟩
  have hcb : ∀ W : World, Below w.heap.size w W → (convert 24 9 (.slice a k cap)).run Tryd.prog W = .ok (.string T) W := by
    intro W hb
    rw [← hTT]
    exact (h.take k (by omega)).conv W hb
  have CS : ∀ W : World, Below w.heap.size w W → Calls Tryd.prog 22 #[.string T, .string ⟨#[13, 10]⟩] W fun e w' => ∃ sb, e = .returned (.slice (some ⟨sb, 0, none⟩) (ps.length + 1) (ps.length + 1)) ∧ RowKit.Hid (PcsAt w' sb (p0 :: ps)) ∧ Below w.heap.size w w' ∧ Below W.heap.size W w' := by
    intro W hb
    have := split18_any T W (by rw [← hTT, ba_size, List.length_take]; omega) (hM.below hb)
    rw [show T.data.toList = l.take k by rw [← hTT]; rfl, hsp] at this
    refine this.mono ?_
    rintro e w' ⟨he, rfl⟩
    exact ⟨_, he, Cel.new W _ _, hb.alloc hb.size _, Below.alloc_new _ _⟩
  obtain ⟨c, nm, ev⟩ := r
  rw [hr] at hbd
  dsimp only at hbd
  have CL : ∀ (W : World) (sb : Nat), PcsAt W sb (p0 :: ps) → Below w.heap.size w W → Calls Tryd.prog 21 #[.slice (some ⟨sb, 0, none⟩) (ps.length + 1) (ps.length + 1)] W fun e w' => e = .returned (.agg #[.int .i64 c, .string (ba nm), .int .i64 ev]) ∧ Below w.heap.size w w' ∧ Below W.heap.size W w' := by
    intro W sb hp hb
    have := likely_any sb p0 ps W hp hps hp0 hpz (hT.below hb)
    rw [hr] at this
    refine this.mono ?_
    rintro e w' ⟨he, h2⟩
    exact ⟨he, hb.trans (h2.mono hb.size), h2⟩
  have hQX : RowKit.Hid (R = true → ((if R = true then textF ⟨c, nm, ev⟩ else []) == l.take (k + 4)) = Q) := by
    intro e
    rw [if_pos e]
    exact hQ
  have CT : ∀ W : World, Below w.heap.size w W → Calls Tryd.prog 7 #[.agg #[.int .i64 c, .string (ba nm), .int .i64 ev]] W fun e w' => ∃ a1 n1 c1, e = .returned (.tuple #[.slice a1 n1 c1, .int .i64 (if R = true then 0 else 1)]) ∧ RowKit.Hid (BytA w' a1 n1 c1 (if R = true then textF ⟨c, nm, ev⟩ else [])) ∧ Below w.heap.size w w' ∧ Below W.heap.size W w' := by
    intro W hb
    have := text_any c ev (ba nm) W (by rw [ba_size]; exact hbd.2.2.2.2) (by omega) (by omega) (by omega) (by omega) (hT.below hb).pow
    rw [list_ba, hR] at this
    refine this.mono ?_
    rintro e w' ⟨v, he, h1, h2, h3⟩
    obtain ⟨a1, c1, e1, h4, _⟩ := h1.bytes
    subst e1
    exact ⟨_, _, _, he, h4, hb.trans (h3.mono hb.size), h3⟩
  have HLB : RowKit.Hid (∀ W : World, Below w.heap.size w W → BytA W a (k + 4) cap (l.take (k + 4))) := fun W hb => (h.take (k + 4) hk4.1).below hb
  have hcap := h.hc
  obtain ⟨ab, ao, hab, _⟩ := h.addr (by omega)
  subst hab
  clear hr hla hsp hpz hp0 hQ hR hTT h hM hx hbd
  have hK : (min (n : Int) 400).toNat = min n 400 := by omega
  generalize min n 400 = K at *
  obtain ⟨w1, w2, hrs⟩ := rs18 w
  have h2 := hrs.a
  have hcv := hrs.c
  have hn1 := hrs.n
  have HR := Lib.hid hrs
  obtain ⟨g, hg⟩ : ∃ g, w.heap.size = g := ⟨_, rfl⟩
  rw [hg] at hcv hn1 HR
  clear hrs
  have hcq : ∀ q, (convert 24 9 (.slice (some ⟨ab, ao, none⟩) k cap)).run Tryd.prog (w2.drewN q) = .ok (.string T) (w2.drewN q) := fun q => hcb _ (Below.drewN' HR.out.b q)
  obtain ⟨N, hN⟩ : ∃ N, ba nm = N := ⟨_, rfl⟩
  rw [hN] at CT CL
  obtain ⟨X, hX⟩ : ∃ X, (if R = true then textF ⟨c, nm, ev⟩ else []) = X := ⟨_, rfl⟩
  rw [hX] at CT hQX
  have k1 : (0 : Int) ≤ (k : Int) := by omega
  have k2 : (k : Int) ≤ (cap : Int) := by omega
  have k3 : (k : Int) + 4 ≤ (cap : Int) := by omega
  have k5 : ¬ (k : Int) < 0 := by omega
  go_enter Tryd.func11, Tryd.ntmps11
  go_upto_region 8 with (first
    | (go_at_call 20; refine (CX w2 HR.out.b _ HR.out.s).mono ?_; rintro e w3 ⟨rfl, q, rfl⟩)
    | (go_at_call 22; refine (CS _ (Below.drewN' HR.out.b q)).mono ?_; rintro e w4 ⟨sb, rfl, hp4, b4, b4'⟩)
    | (go_at_call 21; refine (CL _ sb hp4.out b4).mono ?_; rintro e w5 ⟨rfl, b5, b5'⟩))
  have HN := Lib.hid hN
  clear hN
  obtain ⟨gb, hgb⟩ : ∃ gb, w5.heap.size = gb := ⟨_, rfl⟩
  obtain ⟨W6, hW6⟩ : ∃ W6, w5.alloc (.cells #[.int .i64 c, .string N, .int .i64 ev] 23) = W6 := ⟨_, rfl⟩
  have H6 : RowKit.Hid (Below w.heap.size w W6 ∧ Cel W6 g 23 #[.int .i64 0, .string ⟨#[]⟩, .int .i64 0] ∧ Cel W6 gb 23 #[.int .i64 c, .string N, .int .i64 ev]) := by
    rw [← hW6, ← hgb]
    exact ⟨b5.alloc b5.size _, (((HR.out.r.drewN q).below b4').below b5').alloc _, Cel.new w5 _ _⟩
  have hge : w.heap.size ≤ g := Nat.le_of_eq hg
  rw [hW6, hgb]
  have y0 : W6.cell? ⟨gb, 0, none⟩ = some (.int .i64 c) := H6.out.2.2.cell 0
  have y1 : W6.cell? ⟨gb, 1, none⟩ = some (.string N) := H6.out.2.2.cell 1
  have y2 : W6.cell? ⟨gb, 2, none⟩ = some (.int .i64 ev) := H6.out.2.2.cell 2
  clear hgb hW6 hg hX hK h2 hcv hcq CX CS CL hcb b5' b4' b4 b5 hp4 HR hn1
  cases R with
  | false =>
    rw [if_neg (by decide)] at CT
    go_wp2_with (first
      | (go_at_call 7; refine (CT W6 H6.out.1).mono ?_; rintro e w7 ⟨a1, n1, c1', rfl, hB, b7, b7'⟩; have H7 : RowKit.Hid (Below w.heap.size w w7 ∧ Cel w7 g 23 #[.int .i64 0, .string ⟨#[]⟩, .int .i64 0] ∧ Cel w7 gb 23 #[.int .i64 c, .string N, .int .i64 ev]) := ⟨b7, H6.out.2.1.below b7', H6.out.2.2.below b7'⟩; have x0 : w7.cell? ⟨g, 0, none⟩ = some (.int .i64 0) := H7.out.2.1.cell 0; have x1 : w7.cell? ⟨g, 1, none⟩ = some (.string ⟨#[]⟩) := H7.out.2.1.cell 1; have x2 : w7.cell? ⟨g, 2, none⟩ = some (.int .i64 0) := H7.out.2.1.cell 2; have f0 : w7.frozen? ⟨g, 0, none⟩ = false := H7.out.2.1.frozen 0; have f1 : w7.frozen? ⟨g, 1, none⟩ = false := H7.out.2.1.frozen 1; have f2 : w7.frozen? ⟨g, 2, none⟩ = false := H7.out.2.1.frozen 2; have v0 : w7.cell? ⟨gb, 0, none⟩ = some (.int .i64 c) := H7.out.2.2.cell 0; have v1 : w7.cell? ⟨gb, 1, none⟩ = some (.string N) := H7.out.2.2.cell 1; have v2 : w7.cell? ⟨gb, 2, none⟩ = some (.int .i64 ev) := H7.out.2.2.cell 2)
      | (go_at_call 23; refine (equal18_any a1 (some ⟨ab, ao, none⟩) n1 c1' (k + 4) cap X (l.take (k + 4)) w7 hB.out (HLB.out w7 b7)).mono ?_; rintro e w8 ⟨rfl, rfl⟩))
    have hcs : Cel (((w7.setCell ⟨g, 0, none⟩ (.int .i64 0)).setCell ⟨g, 1, none⟩ (.string ⟨#[]⟩)).setCell ⟨g, 2, none⟩ (.int .i64 0)) g 23 #[.int .i64 0, .string ⟨#[]⟩, .int .i64 0] := ((H7.out.2.1.set_ 0 _).set_ 1 _).set_ 2 _
    refine bodyPost_ret (results18_3 rfl rfl rfl rfl (run_loadVar_row _ g _ _ _ (0, 0) _ hcs Tryd.underlying23 rfl info_rep)) rfl ⟨by rw [HO.out]; rfl, ?_⟩
    exact ((H7.out.1.setCell (p := ⟨g, 0, none⟩) hge _).setCell (p := ⟨g, 1, none⟩) hge _).setCell (p := ⟨g, 2, none⟩) hge _
  | true =>
    rw [if_pos rfl] at CT
    cases Q with
    | false =>
      go_wp2_with (first
      | (go_at_call 7; refine (CT W6 H6.out.1).mono ?_; rintro e w7 ⟨a1, n1, c1', rfl, hB, b7, b7'⟩; have H7 : RowKit.Hid (Below w.heap.size w w7 ∧ Cel w7 g 23 #[.int .i64 0, .string ⟨#[]⟩, .int .i64 0] ∧ Cel w7 gb 23 #[.int .i64 c, .string N, .int .i64 ev]) := ⟨b7, H6.out.2.1.below b7', H6.out.2.2.below b7'⟩; have x0 : w7.cell? ⟨g, 0, none⟩ = some (.int .i64 0) := H7.out.2.1.cell 0; have x1 : w7.cell? ⟨g, 1, none⟩ = some (.string ⟨#[]⟩) := H7.out.2.1.cell 1; have x2 : w7.cell? ⟨g, 2, none⟩ = some (.int .i64 0) := H7.out.2.1.cell 2; have f0 : w7.frozen? ⟨g, 0, none⟩ = false := H7.out.2.1.frozen 0; have f1 : w7.frozen? ⟨g, 1, none⟩ = false := H7.out.2.1.frozen 1; have f2 : w7.frozen? ⟨g, 2, none⟩ = false := H7.out.2.1.frozen 2; have v0 : w7.cell? ⟨gb, 0, none⟩ = some (.int .i64 c) := H7.out.2.2.cell 0; have v1 : w7.cell? ⟨gb, 1, none⟩ = some (.string N) := H7.out.2.2.cell 1; have v2 : w7.cell? ⟨gb, 2, none⟩ = some (.int .i64 ev) := H7.out.2.2.cell 2)
      | (go_at_call 23; refine (equal18_any a1 (some ⟨ab, ao, none⟩) n1 c1' (k + 4) cap X (l.take (k + 4)) w7 hB.out (HLB.out w7 b7)).mono ?_; rintro e w8 ⟨rfl, hw8⟩; obtain rfl := hw8.symm; rw [hQX.out (by first | trivial | rfl)]))
      have hcs : Cel (((w7.setCell ⟨g, 0, none⟩ (.int .i64 0)).setCell ⟨g, 1, none⟩ (.string ⟨#[]⟩)).setCell ⟨g, 2, none⟩ (.int .i64 0)) g 23 #[.int .i64 0, .string ⟨#[]⟩, .int .i64 0] := ((H7.out.2.1.set_ 0 _).set_ 1 _).set_ 2 _
      refine bodyPost_ret (results18_3 rfl rfl rfl rfl (run_loadVar_row _ g _ _ _ (0, 0) _ hcs Tryd.underlying23 rfl info_rep)) rfl ⟨by rw [HO.out]; rfl, ?_⟩
      exact ((H7.out.1.setCell (p := ⟨g, 0, none⟩) hge _).setCell (p := ⟨g, 1, none⟩) hge _).setCell (p := ⟨g, 2, none⟩) hge _
    | true =>
      go_wp2_with (first
      | (go_at_call 7; refine (CT W6 H6.out.1).mono ?_; rintro e w7 ⟨a1, n1, c1', rfl, hB, b7, b7'⟩; have H7 : RowKit.Hid (Below w.heap.size w w7 ∧ Cel w7 g 23 #[.int .i64 0, .string ⟨#[]⟩, .int .i64 0] ∧ Cel w7 gb 23 #[.int .i64 c, .string N, .int .i64 ev]) := ⟨b7, H6.out.2.1.below b7', H6.out.2.2.below b7'⟩; have x0 : w7.cell? ⟨g, 0, none⟩ = some (.int .i64 0) := H7.out.2.1.cell 0; have x1 : w7.cell? ⟨g, 1, none⟩ = some (.string ⟨#[]⟩) := H7.out.2.1.cell 1; have x2 : w7.cell? ⟨g, 2, none⟩ = some (.int .i64 0) := H7.out.2.1.cell 2; have f0 : w7.frozen? ⟨g, 0, none⟩ = false := H7.out.2.1.frozen 0; have f1 : w7.frozen? ⟨g, 1, none⟩ = false := H7.out.2.1.frozen 1; have f2 : w7.frozen? ⟨g, 2, none⟩ = false := H7.out.2.1.frozen 2; have v0 : w7.cell? ⟨gb, 0, none⟩ = some (.int .i64 c) := H7.out.2.2.cell 0; have v1 : w7.cell? ⟨gb, 1, none⟩ = some (.string N) := H7.out.2.2.cell 1; have v2 : w7.cell? ⟨gb, 2, none⟩ = some (.int .i64 ev) := H7.out.2.2.cell 2)
      | (go_at_call 23; refine (equal18_any a1 (some ⟨ab, ao, none⟩) n1 c1' (k + 4) cap X (l.take (k + 4)) w7 hB.out (HLB.out w7 b7)).mono ?_; rintro e w8 ⟨rfl, hw8⟩; obtain rfl := hw8.symm; rw [hQX.out (by first | trivial | rfl)]))
      have hcs : Cel (((w7.setCell ⟨g, 0, none⟩ (.int .i64 c)).setCell ⟨g, 1, none⟩ (.string N)).setCell ⟨g, 2, none⟩ (.int .i64 ev)) g 23 #[.int .i64 c, .string N, .int .i64 ev] := ((H7.out.2.1.set_ 0 _).set_ 1 _).set_ 2 _
      refine bodyPost_ret (results18_3 rfl rfl rfl rfl (run_loadVar_row _ g _ _ _ (0, 0) _ hcs Tryd.underlying23 rfl info_rep)) rfl ⟨by rw [HO.out, ← HN.out]; rfl, ?_⟩
      exact ((H7.out.1.setCell (p := ⟨g, 0, none⟩) hge _).setCell (p := ⟨g, 1, none⟩) hge _).setCell (p := ⟨g, 2, none⟩) hge _
/-- What bytes say first. -/
theorem read_any (a : Option Addr) (n cap : Nat) (l : List UInt8) (w : World) (h : BytA w a n cap l) (hn : n ≤ 1000) (hM : MaxAt w) (hT : NumTabs w) :
    Calls Tryd.prog 11 #[.slice a n cap] w fun e w' => e = .returned (readV (readF l)) ∧ Below w.heap.size w w' := by
  by_cases hx : Lib.index (l.take 400) nn18 < 0
  · have := read_less a n cap l w h hn hM hx
    have e : readF l = (zero18, 0, if l.length < 400 then 2 else 5) := by unfold readF; rw [if_pos hx]
    rw [e]
    exact this
  · obtain ⟨k, hk⟩ : ∃ k : Nat, Lib.index (l.take 400) nn18 = k := ⟨_, (Int.toNat_of_nonneg (by omega)).symm⟩
    exact read_full a n cap k l w h hn hM hT hk
end Go.Proofs.YtjhihjkhbmbigaaDoor
