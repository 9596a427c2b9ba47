/- Texts opened by package word. -/
import Derived.Test.YtkledfalplekeaaDoorWrdL
namespace Go.Proofs.YtkledfalplekeaaDoor
open Go.RowKit Go.PlainAid
set_option linter.unusedVariables false

theorem info_u816 : (Tryd.prog.info? 5).map (fun i => (i.zero, i.size, i.bytes)) = some (some (.int .u8 0), 1, 1) := by kernel_rfl
theorem or6 (v b : Nat) (hb : b < 64) : bits .or .u32 ((v : Int) * 64 % 4294967296) (b : Int) = (((v * 64 + b) % 4294967296 : Nat) : Int) := by
  have e : (v : Int) * 64 % 4294967296 = ((2 ^ 6 * (v % 67108864) : Nat) : Int) := by omega
  rw [e, u32_or_nat _ _ (by omega) (by omega), ← Nat.two_pow_add_eq_or_of_lt (by omega)]
  congr 1
  omega
theorem bz_snoc (acc : List UInt8) (c : UInt8) : bz (acc ++ [c]) = bz acc ++ [(c.toNat : Int)] := by simp [bz]
theorem trim_le (l : List UInt8) (c : UInt8) : (Lib.trimRightB l c).length ≤ l.length := by
  unfold Lib.trimRightB
  rw [List.length_reverse]
  have := (List.dropWhile_sublist (fun x => x == c) (l := l.reverse)).length_le
  simpa using this

noncomputable def chooseO (l : List UInt8) (o : Option (List UInt8)) : Option (List UInt8) := match o with
  | none => none
  | some b => if sealL b = l then some b else none

set_option maxHeartbeats 8000000 in
set_option maxRecDepth 1000000 in
theorem open_any (s : ByteArray) (w : World) (hs : s.size ≤ 1000) :
    Calls Tryd.prog 55 #[.string s] w fun e w' => Below w.heap.size w w' ∧
      ((∃ (b : List UInt8) (a : Option Addr) (c : Nat), openA s.data.toList = some b ∧ b.length ≤ 1000 ∧ e = .returned (.tuple #[.slice a b.length c, .int .i64 0]) ∧ IntsAt w' w'.heap.size .u8 a b.length (bz b)) ∨
        (openA s.data.toList = none ∧ e = .returned (.tuple #[.slice none 0 0, .int .i64 3]))) := by
  obtain ⟨T, hT⟩ : ∃ T, Lib.trimRightB s.data.toList 61 = T := ⟨_, rfl⟩
  have hTl : T.length ≤ 1000 := by rw [← hT]; exact Nat.le_trans (trim_le _ _) (by rw [len_list]; exact hs)
  have CT := Tryd.strings_TrimRight_one s 61 (by decide) w (by omega)
  rw [hT] at CT
  obtain ⟨t, ht⟩ : ∃ t, ba T = t := ⟨_, rfl⟩
  have CT' : Calls Tryd.prog 71 #[.string s, .string ⟨#[61]⟩] w fun e w' => e = .returned (.string t) ∧ w = w' := by rw [← ht]; exact CT.mono fun _ _ h => ⟨h.1, h.2.symm⟩
  clear CT
  have hts : t.size = T.length := by rw [← ht, ba_size]
  have HB : RowKit.Hid (∀ k, bt t k = ((T.getD k 0).toNat : Int)) := by intro k; rw [bt_list, ← ht, list_ba]
  have hb := get_bt t
  obtain ⟨OP, hOP⟩ : ∃ o, openP 0 0 T = o := ⟨_, rfl⟩
  have HOP := Lib.hid hOP
  have HA : RowKit.Hid (openA s.data.toList = chooseO s.data.toList OP) := by
    show _ = _
    unfold openA
    rw [hT, hOP]
    rfl
  obtain ⟨OA, hOA⟩ : ∃ o, openA s.data.toList = o := ⟨_, rfl⟩
  rw [hOA] at HA ⊢
  clear hT ht hOP
  have CI : ∀ (c : Int) (W : World), Calls Tryd.prog 61 #[.string ⟨#[65, 66, 67, 68, 69, 70, 71, 72, 73, 74, 75, 76, 77, 78, 79, 80, 81, 82, 83, 84, 85, 86, 87, 88, 89, 90, 97, 98, 99, 100, 101, 102, 103, 104, 105, 106, 107, 108, 109, 110, 111, 112, 113, 114, 115, 116, 117, 118, 119, 120, 121, 122, 48, 49, 50, 51, 52, 53, 54, 55, 56, 57, 43, 47]⟩, .int .u8 c] W fun e w' => e = .returned (.int .i64 (valI c.toNat.toUInt8)) ∧ W = w' := fun c W => (Tryd.strings_IndexByte _ c W).mono fun _ _ h => ⟨h.1, h.2.symm⟩
  go_enter Tryd.func55, Tryd.ntmps55
  go_wp2_with (go_at_call 71; refine CT'.mono ?_; rintro e w' ⟨rfl, rfl⟩)
  go_loopw [4, 5, 6, 14] (fun so sv sw si wr => ∃ (i v wd : Nat) (acc : List UInt8), sv = .int .u32 v ∧ sw = .int .i64 wd ∧ si = .int .i64 i ∧ i ≤ T.length ∧ v < 4294967296 ∧ (wd = 0 ∨ wd = 2 ∨ wd = 4 ∨ wd = 6) ∧ acc.length ≤ i ∧ RowKit.Hid (wr.ownsRow w.heap.size 5 1 so acc.length ((bz acc).map (Value.int .u8))) ∧ Below w.heap.size w wr ∧ RowKit.Hid ((openP v wd (T.drop i)).map (acc ++ ·) = OP)) (fun _ _ _ si _ => T.length - (intOf si).toNat)
  case atStart =>
    refine ⟨0, 0, 0, [], rfl, rfl, rfl, by omega, by omega, .inl rfl, by simp, ⟨rfl, .inl ⟨rfl, rfl⟩⟩, Below.refl _ _, ?_⟩
    show _ = _
    rw [← HOP.out]
    cases h : openP 0 0 T with
    | none => simp [h]
    | some b => simp [h]
  case round =>
    obtain ⟨i, v, wd, acc, rfl, rfl, rfl, hi, hv, hwd, hac, HO, hbw, HQ⟩ := hrel
    have hszw := hbw.size
    by_cases hlt : i < T.length
    · obtain ⟨b, hbi⟩ : ∃ b : Nat, bt t i = b := ⟨_, HB.out i⟩
      have HBI : RowKit.Hid ((T.getD i 0).toNat = b) := by have := HB.out i; show _ = _; omega
      have C := CI (b : Int)
      have eb : ((b : Int)).toNat.toUInt8 = T.getD i 0 := by rw [← HBI.out]; simp
      rw [eb] at C
      have hlt' : i < t.size := by omega
      obtain ⟨x, hx⟩ : ∃ x, valI (T.getD i 0) = x := ⟨_, rfl⟩
      rw [hx] at C
      have hxb : x = -1 ∨ (0 ≤ x ∧ x < 64) := by rw [← hx]; rcases val_cases (T.getD i 0) with h | h; exact .inl h; exact .inr ⟨h.1, h.2.1⟩
      clear eb CI
      by_cases hx0 : x < 0
      · have HN : RowKit.Hid (OA = none) := by
          show _ = _
          have e := HQ.out
          rw [drop_cons T i hlt, openP_none (by rw [hx]; exact hx0)] at e
          rw [HA.out, ← e]
          rfl
        clear hx
        go_wp2_with (go_at_call 61; refine (C _).mono ?_; rintro e w' ⟨rfl, rfl⟩)
        go_ret2
        exact ⟨hbw, .inr ⟨HN.out, rfl⟩⟩
      · obtain ⟨y, hy⟩ : ∃ y : Nat, x = y := ⟨x.toNat, by omega⟩
        subst hy
        have hy64 : y < 64 := by omega
        obtain ⟨v', hv'⟩ : ∃ v' : Nat, (v * 64 + y) % 4294967296 = v' := ⟨_, rfl⟩
        have hor : bits .or .u32 ((v : Int) * 64 % 4294967296) (y : Int) = (v' : Nat) := by rw [or6 v y hy64, hv']
        have hv'b : v' < 4294967296 := by omega
        have HQ0 : RowKit.Hid (¬ 2 ≤ wd → (openP v' (wd + 6) (T.drop (i + 1))).map (acc ++ ·) = OP) := by
          intro h
          have e := HQ.out
          rw [drop_cons T i hlt, openP_less (by rw [hx]; exact hx0) h, hx] at e
          simp only [Int.toNat_natCast, hv'] at e
          exact e
        have HQ1 : RowKit.Hid (2 ≤ wd → (openP v' (wd - 2) (T.drop (i + 1))).map ((acc ++ [UInt8.ofNat (v' / 2 ^ (wd - 2) % 256)]) ++ ·) = OP) := by
          intro h
          have e := HQ.out
          rw [drop_cons T i hlt, openP_more (by rw [hx]; exact hx0) h, hx] at e
          simp only [Int.toNat_natCast, hv'] at e
          rw [← e, Option.map_map]
          congr 1
          funext z
          simp
        clear hx HQ hv' hxb
        rcases hwd with rfl | rfl | rfl | rfl
        · have HZ : RowKit.Hid ((openP v' 6 (T.drop (i + 1))).map (acc ++ ·) = OP) := HQ0.out (by omega)
          clear HQ0 HQ1
          go_wp2_with (go_at_call 61; refine (C _).mono ?_; rintro e w' ⟨rfl, rfl⟩)
          go_roundw
          case rel => exact ⟨i + 1, v', 6, acc, rfl, rfl, by go_num, by omega, hv'b, by omega, by omega, HO, hbw, HZ⟩
          case measure => simp [intOf]; omega
        · obtain ⟨c, hc⟩ : ∃ c : UInt8, UInt8.ofNat (v' / 2 ^ (2 - 2) % 256) = c := ⟨_, rfl⟩
          have HZ : RowKit.Hid ((openP v' 0 (T.drop (i + 1))).map ((acc ++ [c]) ++ ·) = OP) := by show _ = _; rw [← hc]; exact HQ1.out (by omega)
          have hcn : ((v' : Int)) % 256 = ((c.toNat : Nat) : Int) := by
            rw [← hc]
            simp only [Nat.reduceSub, Nat.reducePow, UInt8.toNat_ofNat']
            omega
          clear HQ0 HQ1 hc
          have hcb := c.toNat_lt
          have hown0 := Lib.hid (World.ownsRow.alloc HO.out (.cells #[.int .u8 (c.toNat : Int)] 5))
          have hsrc := Lib.hid (lit_ints wr 5 .u8 [(c.toNat : Int)] #[.int .u8 (c.toNat : Int)] (0, 0) rfl (by simp))
          have hbel := Lib.hid (hbw.alloc hszw (.cells #[.int .u8 (c.toNat : Int)] 5))
          have hob := Lib.hid (own_base HO.out)
          go_wp2_with (first | (go_at_call 61; refine (C _).mono ?_; rintro e w' ⟨rfl, rfl⟩) | (at_builtin; go_loud (refine append_ints rfl _ _ 48 rfl w.heap.size 5 .u8 1 Tryd.underlying48 info_u816 _ acc.length (bz acc) rfl hown0.out (some ⟨wr.heap.size, 0, none⟩) 1 1 _ [(c.toNat : Int)] rfl hsrc.out (by simp) ?c1 ?c2 ?c3 ?_)))
          case c1 => unfold maxLen; omega
          case c2 => omega
          case c3 => first | omega | (simp; omega)
          intro v2 w2 hown hgrow _
          have H2 : RowKit.Hid (w2.ownsRow w.heap.size 5 1 v2 (acc ++ [c]).length ((bz (acc ++ [c])).map (Value.int .u8))) := by
            show World.ownsRow _ _ _ _ _ _ _
            rw [bz_snoc, List.length_append, List.map_append]
            exact hown
          have H3 := hbel.out.grown hgrow (by simp; omega) hob.out
          clear hown hgrow
          go_wp2
          go_roundw
          case rel => exact ⟨i + 1, v', 0, acc ++ [c], rfl, rfl, by go_num, by omega, hv'b, by omega, by rw [List.length_append]; simp; omega, H2, H3, HZ⟩
          case measure => simp [intOf]; omega
        · obtain ⟨c, hc⟩ : ∃ c : UInt8, UInt8.ofNat (v' / 2 ^ (4 - 2) % 256) = c := ⟨_, rfl⟩
          have HZ : RowKit.Hid ((openP v' 2 (T.drop (i + 1))).map ((acc ++ [c]) ++ ·) = OP) := by show _ = _; rw [← hc]; exact HQ1.out (by omega)
          have hcn : ((v' : Int) / 4) % 256 = ((c.toNat : Nat) : Int) := by
            rw [← hc]
            simp only [Nat.reduceSub, Nat.reducePow, UInt8.toNat_ofNat']
            omega
          clear HQ0 HQ1 hc
          have hcb := c.toNat_lt
          have hown0 := Lib.hid (World.ownsRow.alloc HO.out (.cells #[.int .u8 (c.toNat : Int)] 5))
          have hsrc := Lib.hid (lit_ints wr 5 .u8 [(c.toNat : Int)] #[.int .u8 (c.toNat : Int)] (0, 0) rfl (by simp))
          have hbel := Lib.hid (hbw.alloc hszw (.cells #[.int .u8 (c.toNat : Int)] 5))
          have hob := Lib.hid (own_base HO.out)
          go_wp2_with (first | (go_at_call 61; refine (C _).mono ?_; rintro e w' ⟨rfl, rfl⟩) | (at_builtin; go_loud (refine append_ints rfl _ _ 48 rfl w.heap.size 5 .u8 1 Tryd.underlying48 info_u816 _ acc.length (bz acc) rfl hown0.out (some ⟨wr.heap.size, 0, none⟩) 1 1 _ [(c.toNat : Int)] rfl hsrc.out (by simp) ?c1 ?c2 ?c3 ?_)))
          case c1 => unfold maxLen; omega
          case c2 => omega
          case c3 => first | omega | (simp; omega)
          intro v2 w2 hown hgrow _
          have H2 : RowKit.Hid (w2.ownsRow w.heap.size 5 1 v2 (acc ++ [c]).length ((bz (acc ++ [c])).map (Value.int .u8))) := by
            show World.ownsRow _ _ _ _ _ _ _
            rw [bz_snoc, List.length_append, List.map_append]
            exact hown
          have H3 := hbel.out.grown hgrow (by simp; omega) hob.out
          clear hown hgrow
          go_wp2
          go_roundw
          case rel => exact ⟨i + 1, v', 2, acc ++ [c], rfl, rfl, by go_num, by omega, hv'b, by omega, by rw [List.length_append]; simp; omega, H2, H3, HZ⟩
          case measure => simp [intOf]; omega
        · obtain ⟨c, hc⟩ : ∃ c : UInt8, UInt8.ofNat (v' / 2 ^ (6 - 2) % 256) = c := ⟨_, rfl⟩
          have HZ : RowKit.Hid ((openP v' 4 (T.drop (i + 1))).map ((acc ++ [c]) ++ ·) = OP) := by show _ = _; rw [← hc]; exact HQ1.out (by omega)
          have hcn : ((v' : Int) / 16) % 256 = ((c.toNat : Nat) : Int) := by
            rw [← hc]
            simp only [Nat.reduceSub, Nat.reducePow, UInt8.toNat_ofNat']
            omega
          clear HQ0 HQ1 hc
          have hcb := c.toNat_lt
          have hown0 := Lib.hid (World.ownsRow.alloc HO.out (.cells #[.int .u8 (c.toNat : Int)] 5))
          have hsrc := Lib.hid (lit_ints wr 5 .u8 [(c.toNat : Int)] #[.int .u8 (c.toNat : Int)] (0, 0) rfl (by simp))
          have hbel := Lib.hid (hbw.alloc hszw (.cells #[.int .u8 (c.toNat : Int)] 5))
          have hob := Lib.hid (own_base HO.out)
          go_wp2_with (first | (go_at_call 61; refine (C _).mono ?_; rintro e w' ⟨rfl, rfl⟩) | (at_builtin; go_loud (refine append_ints rfl _ _ 48 rfl w.heap.size 5 .u8 1 Tryd.underlying48 info_u816 _ acc.length (bz acc) rfl hown0.out (some ⟨wr.heap.size, 0, none⟩) 1 1 _ [(c.toNat : Int)] rfl hsrc.out (by simp) ?c1 ?c2 ?c3 ?_)))
          case c1 => unfold maxLen; omega
          case c2 => omega
          case c3 => first | omega | (simp; omega)
          intro v2 w2 hown hgrow _
          have H2 : RowKit.Hid (w2.ownsRow w.heap.size 5 1 v2 (acc ++ [c]).length ((bz (acc ++ [c])).map (Value.int .u8))) := by
            show World.ownsRow _ _ _ _ _ _ _
            rw [bz_snoc, List.length_append, List.map_append]
            exact hown
          have H3 := hbel.out.grown hgrow (by simp; omega) hob.out
          clear hown hgrow
          go_wp2
          go_roundw
          case rel => exact ⟨i + 1, v', 4, acc ++ [c], rfl, rfl, by go_num, by omega, hv'b, by omega, by rw [List.length_append]; simp; omega, H2, H3, HZ⟩
          case measure => simp [intOf]; omega
    · have e : i = T.length := by omega
      have HQ' : RowKit.Hid (OP = some acc) := by
        show _ = _
        have e := HQ.out
        rw [drop_end T i (by omega)] at e
        rw [← e]
        simp [openP]
      clear HQ CI
      obtain ⟨ao, co, hso, hin⟩ := own_ints HO.out
      subst hso
      have CS := seal_any ao acc acc.length co wr rfl (by omega) hin
      obtain ⟨R, hR⟩ : ∃ R, ba (sealL acc) = R := ⟨_, rfl⟩
      rw [hR] at CS
      have HIN := Lib.hid hin
      clear hin
      by_cases hq : sealL acc = s.data.toList
      · have HY : RowKit.Hid (OA = some acc) := by
          show _ = _
          rw [HA.out, HQ'.out]
          simp [chooseO, hq]
        have hRs : R = s := by rw [← hR, hq, ba_list]
        subst hRs
        clear hR hq
        go_wp2_with (go_at_call 72; refine CS.mono ?_; rintro e w' ⟨rfl, b2⟩)
        go_ret2
        exact ⟨hbw.trans (b2.mono hbw.size), .inl ⟨acc, ao, co, HY.out, by omega, rfl, (HIN.out.below b2).grow b2.size⟩⟩
      · have HN : RowKit.Hid (OA = none) := by
          show _ = _
          rw [HA.out, HQ'.out]
          simp [chooseO, hq]
        have hne : ¬ R.toList = s.toList := by
          intro h
          rw [Lib.toList_data, Lib.toList_data, ← hR] at h
          exact hq h
        have hne' : (R.toList == s.toList) = false := by simpa using hne
        clear hR hq
        go_wp2_with (go_at_call 72; refine CS.mono ?_; rintro e w' ⟨rfl, b2⟩)
        go_ret2
        exact ⟨hbw.trans (b2.mono hbw.size), .inr ⟨HN.out, rfl⟩⟩
end Go.Proofs.YtkledfalplekeaaDoor
