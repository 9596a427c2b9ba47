/- Plain facts, and what functions give, for the proofs of this seat: several texts in one, each with its own first remark. -/
import Derived.PlainAid
import Derived.Lib.Strings
import Derived.Test.YtmgfkdmjgjlkjaaGreatAK
import Derived.WalkSpells
import Derived.Shelf.Small.Strs
import Derived.Shelf.Small.Utf8
import Derived.Shelf.Small.Wraps
import Derived.Shelf.Strings.BuilderF
import Derived.Shelf.Strings.BuilderK
import Derived.Shelf.Strings.BuilderRune
import Derived.Shelf.Strings.Prefix
import Derived.Test.YtmgfkdmjgjlkjaaGreatProg

namespace Go.Proofs.YtmgfkdmjgjlkjaaGreat
open Go Go.PlainAid
set_option linter.unusedVariables false
theorem bt_list (s : ByteArray) (k : Nat) : bt s k = ((s.data.toList.getD k 0).toNat : Int) := by
  unfold bt
  by_cases h : k < s.size
  · rw [dif_pos h]
    have h' : k < s.data.toList.length := by simpa using h
    rw [List.getD_eq_getElem?_getD, List.getElem?_eq_getElem h']
    rfl
  · rw [dif_neg h]
    have h' : s.data.toList.length ≤ k := by simpa using h
    rw [List.getD_eq_getElem?_getD, List.getElem?_eq_none h']
    rfl
theorem len_list (s : ByteArray) : s.data.toList.length = s.size := by simp
theorem tail_list (s : ByteArray) (i : Nat) : (s.extract i s.size).data.toList = s.data.toList.drop i := by
  rw [Lib.extract_data, List.take_of_length_le (by simp)]
theorem tail_size (s : ByteArray) (i : Nat) (h : i ≤ s.size) : (s.extract i s.size).size = s.size - i := by
  rw [← len_list, tail_list, List.length_drop, len_list]
def runeR (l : List UInt8) : Nat := match headI l with
  | none => 0
  | some r => r
def runeN (l : List UInt8) : Nat := match headI l with
  | none => 0
  | some _ => (Lib.decodeL l).2
theorem rune_bad {l : List UInt8} {r n : Int} (h : Lib.decodeN l.length (l.getD 0 0).toNat (l.getD 1 0).toNat (l.getD 2 0).toNat (l.getD 3 0).toNat = (65533, 1)) (hr : r = 0) (hn : n = 0) :
    Ending.returned (.tuple #[.int .i64 r, .int .i64 n]) = .returned (.tuple #[.int .i64 (runeR l : Nat), .int .i64 (runeN l : Nat)]) := by
  have e : headI l = none := by
    unfold headI
    rw [Lib.decodeL_N, h]
    simp
  unfold runeR runeN
  rw [e, hr, hn]
  rfl
theorem rune_good {l : List UInt8} {r n : Int} {q k : Nat} (h : Lib.decodeN l.length (l.getD 0 0).toNat (l.getD 1 0).toNat (l.getD 2 0).toNat (l.getD 3 0).toNat = (q, k)) (hk : ¬ (q = 65533 ∧ k = 1)) (hr : r = q) (hn : n = k) :
    Ending.returned (.tuple #[.int .i64 r, .int .i64 n]) = .returned (.tuple #[.int .i64 (runeR l : Nat), .int .i64 (runeN l : Nat)]) := by
  have e : headI l = some q := by
    unfold headI
    rw [Lib.decodeL_N, h, if_neg hk]
  unfold runeR runeN
  rw [e, hr, hn]
  simp only []
  rw [Lib.decodeL_N, h]
theorem decN_bad (n b0 b1 b2 b3 : Nat) (h0 : 128 ≤ b0) (hb : b0 < 256) (h : b0 < 194 ∨ 245 ≤ b0 ∨ n < 2 ∨ (b1 < 128 ∨ 191 < b1) ∨ (224 ≤ b0 ∧ (n < 3 ∨ (b2 < 128 ∨ 191 < b2))) ∨ (240 ≤ b0 ∧ (n < 4 ∨ (b3 < 128 ∨ 191 < b3)))
    ∨ (224 ≤ b0 ∧ b0 < 240 ∧ 128 ≤ b1 ∧ b1 ≤ 191 ∧ 128 ≤ b2 ∧ b2 ≤ 191 ∧ ((b0 - 224) * 4096 + (b1 - 128) * 64 + (b2 - 128) < 2048 ∨ (55296 ≤ (b0 - 224) * 4096 + (b1 - 128) * 64 + (b2 - 128) ∧ (b0 - 224) * 4096 + (b1 - 128) * 64 + (b2 - 128) < 57344)))
    ∨ (240 ≤ b0 ∧ 128 ≤ b1 ∧ b1 ≤ 191 ∧ 128 ≤ b2 ∧ b2 ≤ 191 ∧ 128 ≤ b3 ∧ b3 ≤ 191 ∧ ((b0 - 240) * 262144 + (b1 - 128) * 4096 + (b2 - 128) * 64 + (b3 - 128) < 65536 ∨ 1114111 < (b0 - 240) * 262144 + (b1 - 128) * 4096 + (b2 - 128) * 64 + (b3 - 128)))) :
    Lib.decodeN n b0 b1 b2 b3 = (65533, 1) := by
  unfold Lib.decodeN
  repeat' split
  all_goals first | rfl | (exfalso; omega)
theorem decN_2 (n b0 b1 b2 b3 : Nat) (h0 : 194 ≤ b0) (h1 : b0 < 224) (hn : 2 ≤ n) (hb1 : 128 ≤ b1) (hb1' : b1 ≤ 191) : Lib.decodeN n b0 b1 b2 b3 = ((b0 - 192) * 64 + (b1 - 128), 2) := by
  unfold Lib.decodeN
  repeat' split
  all_goals first | (exfalso; omega) | (apply Prod.ext <;> simp only <;> omega)
theorem decN_3 (n b0 b1 b2 b3 : Nat) (h0 : 224 ≤ b0) (h1 : b0 < 240) (hn : 3 ≤ n) (hb1 : 128 ≤ b1) (hb1' : b1 ≤ 191) (hb2 : 128 ≤ b2) (hb2' : b2 ≤ 191) (hr : 2048 ≤ (b0 - 224) * 4096 + (b1 - 128) * 64 + (b2 - 128))
    (ho : (b0 - 224) * 4096 + (b1 - 128) * 64 + (b2 - 128) < 55296 ∨ 57344 ≤ (b0 - 224) * 4096 + (b1 - 128) * 64 + (b2 - 128)) : Lib.decodeN n b0 b1 b2 b3 = ((b0 - 224) * 4096 + (b1 - 128) * 64 + (b2 - 128), 3) := by
  unfold Lib.decodeN
  repeat' split
  all_goals first | (exfalso; omega) | (apply Prod.ext <;> simp only <;> omega)
theorem decN_4 (n b0 b1 b2 b3 : Nat) (h0 : 240 ≤ b0) (h1 : b0 < 245) (hn : 4 ≤ n) (hb1 : 128 ≤ b1) (hb1' : b1 ≤ 191) (hb2 : 128 ≤ b2) (hb2' : b2 ≤ 191) (hb3 : 128 ≤ b3) (hb3' : b3 ≤ 191) (hr : 65536 ≤ (b0 - 240) * 262144 + (b1 - 128) * 4096 + (b2 - 128) * 64 + (b3 - 128))
    (ho : (b0 - 240) * 262144 + (b1 - 128) * 4096 + (b2 - 128) * 64 + (b3 - 128) ≤ 1114111) : Lib.decodeN n b0 b1 b2 b3 = ((b0 - 240) * 262144 + (b1 - 128) * 4096 + (b2 - 128) * 64 + (b3 - 128), 4) := by
  unfold Lib.decodeN
  repeat' split
  all_goals first | (exfalso; omega) | (apply Prod.ext <;> simp only <;> omega)
end Go.Proofs.YtmgfkdmjgjlkjaaGreat

namespace Go.Proofs.YtmgfkdmjgjlkjaaGreat
open Go.RowKit Go.PlainAid
set_option linter.unusedVariables false
theorem ret_boolE {a b : Bool} (h : a = b) : Ending.returned (.bool a) = .returned (.bool b) := by rw [h]
def plainB (c : Int) : Bool := decide ((97 ≤ c ∧ c ≤ 122) ∨ (65 ≤ c ∧ c ≤ 90) ∨ (48 ≤ c ∧ c ≤ 57))
def okTo (p : Int → Bool) (l : List UInt8) : Bool := l.all fun c => p c.toNat
theorem okTo_take (p : Int → Bool) (l : List UInt8) (i : Nat) (h : i < l.length) : okTo p (l.take (i + 1)) = (okTo p (l.take i) && p (l.getD i 0).toNat) := by
  unfold okTo
  rw [List.take_succ_eq_append_getElem h, List.all_append]
  simp [List.getD_eq_getElem?_getD, List.getElem?_eq_getElem h]
theorem okTo_no (p : Int → Bool) (l : List UInt8) (i : Nat) (h : i < l.length) (hp : p (l.getD i 0).toNat = false) : okTo p l = false := by
  unfold okTo
  rw [List.all_eq_false]
  refine ⟨l[i], List.getElem_mem h, ?_⟩
  rw [List.getD_eq_getElem?_getD, List.getElem?_eq_getElem h] at hp
  simpa using hp
theorem okTo_all (p : Int → Bool) (l : List UInt8) (i : Nat) (h : l.length ≤ i) : okTo p (l.take i) = okTo p l := by rw [List.take_of_length_le h]
end Go.Proofs.YtmgfkdmjgjlkjaaGreat

set_option linter.unusedVariables false
namespace Go.Proofs
open Go.Shelf
def Tryz.lays170_ren : Go.Shelf.Ren := ⟨fun | 170 => 86 | n => n, fun | 70 => 151 | 3 => 3 | 0 => 0 | 72 => 153 | 37 => 43 | 5 => 5 | n => n, fun | n => n⟩
theorem Tryz.lays170 : Go.Proofs.Lays.n170 Tryz.prog Tryz.lays170_ren := {
  mixed := by kernel_rfl
  f170 := Tryz.func86.trans (congrArg some (by kernel_rfl))
  t0 := Tryz.underlying0
  a0 := Tryz.isAgg0
  z0 := Tryz.sizeOf0
  v0 := Tryz.zeroValue0
  t3 := Tryz.underlying3
  a3 := Tryz.isAgg3
  z3 := Tryz.sizeOf3
  v3 := Tryz.zeroValue3
  t37 := Tryz.underlying43
  a37 := Tryz.isAgg43
  z37 := Tryz.sizeOf43
  v37 := Tryz.zeroValue43
  t70 := Tryz.underlying151
  a70 := Tryz.isAgg151
  z70 := Tryz.sizeOf151
  v70 := Tryz.zeroValue151
  t72 := Tryz.underlying153
  a72 := Tryz.isAgg153
  z72 := Tryz.sizeOf153
  v72 := Tryz.zeroValue153 }
open Go.RowKit in
theorem Tryz.Builder_Len_f (B b : Nat) (bs : List Value) (w : World) (h : Lib.IsBuilderF 153 5 B b bs w) :
    Calls Tryz.prog 86 #[.pointer (some ⟨b, 0, none⟩)] w fun e w' => e = .returned (.int .i64 bs.length) ∧ w' = w := Any.Builder_Len_f Tryz.lays170 B b bs w h
def Tryz.lays169_ren : Go.Shelf.Ren := ⟨fun | 169 => 89 | n => n, fun | 70 => 151 | 9 => 9 | 0 => 0 | 72 => 153 | 37 => 43 | 127 => 204 | 3 => 3 | 5 => 5 | n => n, fun | n => n⟩
theorem Tryz.lays169 : Go.Proofs.Lays.n169 Tryz.prog Tryz.lays169_ren := {
  mixed := by kernel_rfl
  f169 := Tryz.func89.trans (congrArg some (by kernel_rfl))
  t0 := Tryz.underlying0
  a0 := Tryz.isAgg0
  z0 := Tryz.sizeOf0
  v0 := Tryz.zeroValue0
  t3 := Tryz.underlying3
  a3 := Tryz.isAgg3
  z3 := Tryz.sizeOf3
  v3 := Tryz.zeroValue3
  t9 := Tryz.underlying9
  a9 := Tryz.isAgg9
  z9 := Tryz.sizeOf9
  v9 := Tryz.zeroValue9
  t37 := Tryz.underlying43
  a37 := Tryz.isAgg43
  z37 := Tryz.sizeOf43
  v37 := Tryz.zeroValue43
  t70 := Tryz.underlying151
  a70 := Tryz.isAgg151
  z70 := Tryz.sizeOf151
  v70 := Tryz.zeroValue151
  t72 := Tryz.underlying153
  a72 := Tryz.isAgg153
  z72 := Tryz.sizeOf153
  v72 := Tryz.zeroValue153
  t127 := Tryz.underlying204
  a127 := Tryz.isAgg204
  z127 := Tryz.sizeOf204
  v127 := Tryz.zeroValue204 }
theorem Tryz.Builder_Extra_169 : Builder.Extra Tryz.prog Tryz.lays169_ren := {
  sizeBuilder := by kernel_rfl
  liesBuilder := by kernel_rfl
  t5 := Tryz.underlying5
  a5 := Tryz.isAgg5
  z5 := Tryz.sizeOf5
  v5 := Tryz.zeroValue5
  infoByte := by kernel_rfl
  cellsByte := by kernel_rfl
  sizeByte := by kernel_rfl
  neB5 := by decide }
open Go.RowKit in
theorem Tryz.Builder_String_any_k (B b : Nat) (l : List UInt8) (w : World) (h : Lib.IsBuilderF 153 5 B b (Lib.byteCells l) w) (hBw : B ≤ w.heap.size) :
    Calls Tryz.prog 89 #[.pointer (some ⟨b, 0, none⟩)] w fun e w' => e = .returned (.string ⟨l.toArray⟩) ∧ (Lib.IsBuilderF 153 5 B b (Lib.byteCells l) w' ∧ Below B w w' ∧ Lib.OthersKept 5 (some b) w w') := Any.Builder_String_any_k Tryz.lays169 Tryz.Builder_Extra_169 B b l w h hBw
def Tryz.lays168_ren : Go.Shelf.Ren := ⟨fun | 168 => 88 | 240 => 118 | 242 => 119 | 276 => 148 | 278 => 149 | n => n, fun | 0 => 0 | 3 => 3 | 4 => 4 | 5 => 5 | 9 => 9 | 20 => 20 | 21 => 21 | 37 => 43 | 46 => 29 | 51 => 34 | 70 => 151 | 72 => 153 | 75 => 159 | 80 => 54 | 164 => 227 | n => n, fun | n => n⟩
theorem Tryz.lays168 : Go.Proofs.Lays.n168 Tryz.prog Tryz.lays168_ren := {
  mixed := by kernel_rfl
  f168 := Tryz.func88.trans (congrArg some (by kernel_rfl))
  f240 := Tryz.func118.trans (congrArg some (by kernel_rfl))
  f242 := Tryz.func119.trans (congrArg some (by kernel_rfl))
  f276 := Tryz.func148.trans (congrArg some (by kernel_rfl))
  f278 := Tryz.func149.trans (congrArg some (by kernel_rfl))
  t0 := Tryz.underlying0
  a0 := Tryz.isAgg0
  z0 := Tryz.sizeOf0
  v0 := Tryz.zeroValue0
  t3 := Tryz.underlying3
  a3 := Tryz.isAgg3
  z3 := Tryz.sizeOf3
  v3 := Tryz.zeroValue3
  t4 := Tryz.underlying4
  a4 := Tryz.isAgg4
  z4 := Tryz.sizeOf4
  v4 := Tryz.zeroValue4
  t5 := Tryz.underlying5
  a5 := Tryz.isAgg5
  z5 := Tryz.sizeOf5
  v5 := Tryz.zeroValue5
  t9 := Tryz.underlying9
  a9 := Tryz.isAgg9
  z9 := Tryz.sizeOf9
  v9 := Tryz.zeroValue9
  t20 := Tryz.underlying20
  a20 := Tryz.isAgg20
  z20 := Tryz.sizeOf20
  v20 := Tryz.zeroValue20
  t21 := Tryz.underlying21
  a21 := Tryz.isAgg21
  z21 := Tryz.sizeOf21
  v21 := Tryz.zeroValue21
  t37 := Tryz.underlying43
  a37 := Tryz.isAgg43
  z37 := Tryz.sizeOf43
  v37 := Tryz.zeroValue43
  t46 := Tryz.underlying29
  a46 := Tryz.isAgg29
  z46 := Tryz.sizeOf29
  v46 := Tryz.zeroValue29
  t51 := Tryz.underlying34
  a51 := Tryz.isAgg34
  z51 := Tryz.sizeOf34
  v51 := Tryz.zeroValue34
  t70 := Tryz.underlying151
  a70 := Tryz.isAgg151
  z70 := Tryz.sizeOf151
  v70 := Tryz.zeroValue151
  t72 := Tryz.underlying153
  a72 := Tryz.isAgg153
  z72 := Tryz.sizeOf153
  v72 := Tryz.zeroValue153
  t75 := Tryz.underlying159
  a75 := Tryz.isAgg159
  z75 := Tryz.sizeOf159
  v75 := Tryz.zeroValue159
  t164 := Tryz.underlying227
  a164 := Tryz.isAgg227
  z164 := Tryz.sizeOf227
  v164 := Tryz.zeroValue227 }
theorem Tryz.Builder_Extra_168 : Builder.Extra Tryz.prog Tryz.lays168_ren := {
  sizeBuilder := by kernel_rfl
  liesBuilder := by kernel_rfl
  t5 := Tryz.underlying5
  a5 := Tryz.isAgg5
  z5 := Tryz.sizeOf5
  v5 := Tryz.zeroValue5
  infoByte := by kernel_rfl
  cellsByte := by kernel_rfl
  sizeByte := by kernel_rfl
  neB5 := by decide }
open Go.RowKit in
theorem Tryz.Builder_WriteRune_k (B b : Nat) (bs : List Value) (r : Int) (hr0 : -2147483648 ≤ r) (hr1 : r ≤ 2147483647) (w : World) (h : Lib.IsBuilderF 153 5 B b bs w) (hlen : bs.length + 4 ≤ 140737488355328) (hBw : B ≤ w.heap.size) :
    Calls Tryz.prog 88 #[.pointer (some ⟨b, 0, none⟩), .int .i32 r] w fun e w' => e = .returned (.tuple #[.int .i64 (Lib.runeCells r).length, .nilIface]) ∧ (Lib.BuilderAtF 153 5 B b (.pointer (some ⟨b, 0, none⟩)) (bs ++ Lib.runeCells r) w' ∧ Below B w w' ∧ Lib.OthersKept 5 (some b) w w') := Any.Builder_WriteRune_k Tryz.lays168 Tryz.Builder_Extra_168 B b bs r hr0 hr1 w h hlen hBw
def Tryz.lays118_ren : Go.Shelf.Ren := ⟨fun | 118 => 87 | n => n, fun | 21 => 21 | 3 => 3 | 4 => 4 | n => n, fun | n => n⟩
theorem Tryz.lays118 : Go.Proofs.Lays.n118 Tryz.prog Tryz.lays118_ren := {
  mixed := by kernel_rfl
  f118 := Tryz.func87.trans (congrArg some (by kernel_rfl))
  t3 := Tryz.underlying3
  a3 := Tryz.isAgg3
  z3 := Tryz.sizeOf3
  v3 := Tryz.zeroValue3
  t4 := Tryz.underlying4
  a4 := Tryz.isAgg4
  z4 := Tryz.sizeOf4
  v4 := Tryz.zeroValue4
  t21 := Tryz.underlying21
  a21 := Tryz.isAgg21
  z21 := Tryz.sizeOf21
  v21 := Tryz.zeroValue21 }
theorem Tryz.utf8_RuneLen (r : Int) (w : World) :
    Calls Tryz.prog 87 #[.int .i32 r] w fun e w' => e = .returned (.int .i64 (Lib.runeLen r)) ∧ w' = w := Any.utf8_RuneLen Tryz.lays118 r w
def Tryz.lays99_ren : Go.Shelf.Ren := ⟨fun | 99 => 117 | 206 => 147 | n => n, fun | 9 => 9 | 4 => 4 | 3 => 3 | n => n, fun | n => n⟩
theorem Tryz.lays99 : Go.Proofs.Lays.n99 Tryz.prog Tryz.lays99_ren := {
  mixed := by kernel_rfl
  f99 := Tryz.func117.trans (congrArg some (by kernel_rfl))
  f206 := Tryz.func147.trans (congrArg some (by kernel_rfl))
  t3 := Tryz.underlying3
  a3 := Tryz.isAgg3
  z3 := Tryz.sizeOf3
  v3 := Tryz.zeroValue3
  t4 := Tryz.underlying4
  a4 := Tryz.isAgg4
  z4 := Tryz.sizeOf4
  v4 := Tryz.zeroValue4
  t9 := Tryz.underlying9
  a9 := Tryz.isAgg9
  z9 := Tryz.sizeOf9
  v9 := Tryz.zeroValue9 }
open Go.RowKit Go.Lib in
theorem Tryz.strings_HasPrefix (s p : ByteArray) (w : World) :
    Calls Tryz.prog 117 #[.string s, .string p] w fun e w' => e = .returned (.bool (Lib.hasPrefix s.data.toList p.data.toList)) ∧ w' = w := Any.strings_HasPrefix Tryz.lays99 s p w
def Tryz.lays103_ren : Go.Shelf.Ren := ⟨fun | 103 => 120 | 210 => 150 | 206 => 147 | n => n, fun | 9 => 9 | 4 => 4 | 24 => 205 | 3 => 3 | n => n, fun | n => n⟩
theorem Tryz.lays103 : Go.Proofs.Lays.n103 Tryz.prog Tryz.lays103_ren := {
  mixed := by kernel_rfl
  f103 := Tryz.func120.trans (congrArg some (by kernel_rfl))
  f206 := Tryz.func147.trans (congrArg some (by kernel_rfl))
  f210 := Tryz.func150.trans (congrArg some (by kernel_rfl))
  t3 := Tryz.underlying3
  a3 := Tryz.isAgg3
  z3 := Tryz.sizeOf3
  v3 := Tryz.zeroValue3
  t4 := Tryz.underlying4
  a4 := Tryz.isAgg4
  z4 := Tryz.sizeOf4
  v4 := Tryz.zeroValue4
  t9 := Tryz.underlying9
  a9 := Tryz.isAgg9
  z9 := Tryz.sizeOf9
  v9 := Tryz.zeroValue9
  t24 := Tryz.underlying205
  a24 := Tryz.isAgg205
  z24 := Tryz.sizeOf205
  v24 := Tryz.zeroValue205 }
open Go.RowKit in
theorem Tryz.strings_CutPrefix (s p : ByteArray) (w : World) :
    Calls Tryz.prog 120 #[.string s, .string p] w fun e w' => e = .returned (.tuple #[.string ⟨(Lib.trimPrefix s.data.toList p.data.toList).toArray⟩, .bool (Lib.hasPrefix s.data.toList p.data.toList)]) ∧ w' = w := Any.strings_CutPrefix Tryz.lays103 s p w
def Tryz.lays137_ren : Go.Shelf.Ren := ⟨fun | 137 => 151 | 217 => 178 | 266 => 194 | n => n, fun | 9 => 9 | 5 => 5 | 3 => 3 | n => n, fun | n => n⟩
theorem Tryz.lays137 : Go.Proofs.Lays.n137 Tryz.prog Tryz.lays137_ren := {
  mixed := by kernel_rfl
  f137 := Tryz.func151.trans (congrArg some (by kernel_rfl))
  f217 := Tryz.func178.trans (congrArg some (by kernel_rfl))
  f266 := Tryz.func194.trans (congrArg some (by kernel_rfl))
  t3 := Tryz.underlying3
  a3 := Tryz.isAgg3
  z3 := Tryz.sizeOf3
  v3 := Tryz.zeroValue3
  t5 := Tryz.underlying5
  a5 := Tryz.isAgg5
  z5 := Tryz.sizeOf5
  v5 := Tryz.zeroValue5
  t9 := Tryz.underlying9
  a9 := Tryz.isAgg9
  z9 := Tryz.sizeOf9
  v9 := Tryz.zeroValue9 }
open Go.RowKit in
theorem Tryz.strings_IndexByte (s : ByteArray) (c : Int) (w : World) :
    Calls Tryz.prog 151 #[.string s, .int .u8 c] w fun e w' => e = .returned (.int .i64 (Lib.indexByte s.data.toList c.toNat.toUInt8)) ∧ w' = w := Any.strings_IndexByte Tryz.lays137 s c w
end Go.Proofs

namespace Go.Proofs.YtmgfkdmjgjlkjaaGreat
open Go.RowKit Go.PlainAid
set_option linter.unusedVariables false
def mountP (c : Int) : Bool := plainB c || (c == 46 || c == 45 || c == 95)
def mountF (l : List UInt8) : Bool := (decide (2 ≤ l.length) && decide (l.length ≤ 20) && decide ((l.getD 0 0).toNat = 47)) && okTo mountP (l.drop 1)
def isP (o : ByteArray) (c : Int) : Bool := plainB c || decide (0 ≤ Lib.indexByte o.data.toList c.toNat.toUInt8)
theorem plain_cases (c : Int) (h : plainB c = true) : (97 ≤ c ∧ c ≤ 122) ∨ (65 ≤ c ∧ c ≤ 90) ∨ (48 ≤ c ∧ c ≤ 57) := by
  unfold plainB at h
  exact of_decide_eq_true h
theorem plain_not (c : Int) (h : plainB c = false) : ¬ ((97 ≤ c ∧ c ≤ 122) ∨ (65 ≤ c ∧ c ≤ 90) ∨ (48 ≤ c ∧ c ≤ 57)) := by
  unfold plainB at h
  exact of_decide_eq_false h
set_option maxHeartbeats 4000000 in
set_option maxRecDepth 100000 in
theorem isPlain_any (s o : ByteArray) (w : World) (hs : s.size ≤ 1000) :
    Calls Tryz.prog 121 #[.string s, .string o] w fun e w' => e = .returned (.bool (okTo (isP o) s.data.toList)) ∧ w = w' := by
  have hb := get_bt s
  have HL : RowKit.Hid (s.data.toList.length = s.size) := len_list s
  have HB : RowKit.Hid (∀ k, bt s k = ((s.data.toList.getD k 0).toNat : Int)) := bt_list s
  obtain ⟨X, hX⟩ : ∃ X, okTo (isP o) s.data.toList = X := ⟨_, rfl⟩
  have HX := Lib.hid hX
  rw [hX]
  clear hX
  go_enter Tryz.func121, Tryz.ntmps121
  go_wp2
  go_loop [9] (fun v => ∃ i : Nat, v = .int .i64 i ∧ i ≤ s.size ∧ okTo (isP o) (s.data.toList.take i) = true) (fun v => s.size - (intOf v).toNat)
  case atStart => exact ⟨0, rfl, by omega, rfl⟩
  case round =>
    obtain ⟨i, rfl, hi, hok⟩ := hrel
    have HOK := Lib.hid hok
    clear hok
    by_cases hlt : i < s.size
    · obtain ⟨b, hbi⟩ : ∃ b : Nat, bt s i = b := ⟨_, HB.out i⟩
      have HBI : RowKit.Hid (bt s i = b) := hbi
      have HY : RowKit.Hid (isP o b = true → okTo (isP o) (s.data.toList.take (i + 1)) = true) := by
        intro h
        rw [okTo_take _ _ _ (by rw [HL.out]; exact hlt), HOK.out, ← HB.out i, HBI.out, h]
        rfl
      have HN : RowKit.Hid (isP o b = false → X = false) := by
        intro h
        rw [← HX.out]
        exact okTo_no (isP o) _ i (by rw [HL.out]; exact hlt) (by rw [← HB.out i, HBI.out, h])
      by_cases hp : plainB b = true
      · have HP : RowKit.Hid (isP o b = true) := by show _ = _; unfold isP; rw [hp]; rfl
        have hc := plain_cases _ hp
        clear hp
        rcases hc with c | c | c
        all_goals
          go_wp2
          all_goals
            first
            | (exfalso; omega)
            | (go_round
               case rel => exact ⟨i + 1, by go_num, by omega, HY.out HP.out⟩
               case measure => simp [intOf]; omega)
      · have hp' : plainB b = false := by simpa using hp
        have C := Tryz.strings_IndexByte o (b : Int) w
        obtain ⟨v, hv⟩ : ∃ v, Lib.indexByte o.data.toList ((b : Int)).toNat.toUInt8 = v := ⟨_, rfl⟩
        rw [hv] at C
        have hn := plain_not _ hp'
        by_cases hv0 : v < 0
        · have HP : RowKit.Hid (isP o b = false) := by show _ = _; unfold isP; rw [hp', hv]; simp; omega
          clear hp hp' hv
          go_wp2_with (go_at_call 151; refine C.mono ?_; rintro e w' ⟨rfl, rfl⟩)
          all_goals
            first
            | (exfalso; omega)
            | (go_ret; exact ⟨ret_boolE (HN.out HP.out).symm, rfl⟩)
        · have HP : RowKit.Hid (isP o b = true) := by show _ = _; unfold isP; rw [hp', hv]; simp; omega
          clear hp hp' hv
          go_wp2_with (go_at_call 151; refine C.mono ?_; rintro e w' ⟨rfl, rfl⟩)
          all_goals
            first
            | (exfalso; omega)
            | (go_round
               case rel => exact ⟨i + 1, by go_num, by omega, HY.out HP.out⟩
               case measure => simp [intOf]; omega)
    · have HE : RowKit.Hid (X = true) := by
        show _ = _
        rw [← HX.out, ← okTo_all (isP o) _ i (by rw [HL.out]; omega), HOK.out]
      go_wp2
      go_ret
      exact ⟨ret_boolE HE.out.symm, rfl⟩
end Go.Proofs.YtmgfkdmjgjlkjaaGreat

namespace Go.Proofs.YtmgfkdmjgjlkjaaGreat
open Go.RowKit Go.PlainAid
set_option linter.unusedVariables false
theorem okTo_congr {p q : Int → Bool} (h : ∀ c : Fin 256, p (c.val : Int) = q (c.val : Int)) (l : List UInt8) : okTo p l = okTo q l := by
  unfold okTo
  congr 1
  funext c
  exact h ⟨c.toNat, c.toNat_lt⟩
theorem mount_of (l : List UInt8) : okTo (isP ⟨#[46, 45, 95]⟩) l = okTo mountP l := okTo_congr (by decide +kernel) l
set_option maxHeartbeats 4000000 in
set_option maxRecDepth 100000 in
theorem mount_any (s : ByteArray) (w : World) (hs : s.size ≤ 9223372036854775807) :
    Calls Tryz.prog 92 #[.string s] w fun e w' => e = .returned (.bool (mountF s.data.toList)) ∧ w = w' := by
  have hl := len_list s
  have C0 := Tryz.strings_CutPrefix s ⟨#[47]⟩ w
  by_cases h0 : ∃ t, s.data.toList = 47 :: t
  · obtain ⟨t, ht⟩ := h0
    have e1 : Lib.hasPrefix s.data.toList (ByteArray.mk #[47]).data.toList = true := by rw [ht]; simp [Lib.hasPrefix]
    have e2 : Lib.trimPrefix s.data.toList (ByteArray.mk #[47]).data.toList = t := by unfold Lib.trimPrefix; rw [e1, ht]; simp
    rw [e1, e2] at C0
    rw [ht] at hl
    simp only [List.length_cons] at hl
    obtain ⟨R, hR, hRd, hRs⟩ : ∃ R : ByteArray, (⟨t.toArray⟩ : ByteArray) = R ∧ R.data.toList = t ∧ R.size = t.length := ⟨_, rfl, rfl, rfl⟩
    rw [hR] at C0
    have HM : RowKit.Hid (mountF s.data.toList = ((decide (1 ≤ R.size) && decide (s.size ≤ 20)) && okTo mountP t)) := by
      show _ = _
      rw [ht]
      unfold mountF
      have a : (2 ≤ (47 :: t).length) = (1 ≤ R.size) := by rw [hRs]; simp only [List.length_cons]; exact propext ⟨fun h => by omega, fun h => by omega⟩
      have b : ((47 :: t).length ≤ 20) = (s.size ≤ 20) := by rw [← hl]; rfl
      simp only [a, b]
      simp
    have C : s.size ≤ 20 → Calls Tryz.prog 121 #[.string R, .string ⟨#[46, 45, 95]⟩] w fun e w' => e = .returned (.bool (okTo mountP t)) ∧ w = w' := by
      intro k2
      have := isPlain_any R ⟨#[46, 45, 95]⟩ w (by omega)
      rw [mount_of, hRd] at this
      exact this
    rw [HM.out]
    generalize okTo mountP t = Y at C ⊢
    by_cases k1 : 1 ≤ R.size
    · have hne : ¬ R.toList = [] := by
        intro e
        rw [Lib.toList_data, hRd] at e
        have := congrArg List.length e
        rw [List.length_nil] at this
        omega
      have hem : R.toList.isEmpty = false := by simpa using hne
      clear HM ht hR hRd e1 e2
      by_cases k2 : s.size ≤ 20
      · go_enter Tryz.func92, Tryz.ntmps92
        go_wp2_with (first | (go_at_call 120; refine C0.mono ?_; rintro e w' ⟨rfl, rfl⟩) | (go_at_call 121; refine (C k2).mono ?_; rintro e w' ⟨rfl, rfl⟩))
        go_ret
        exact ⟨ret_boolE (by simp [k1, k2]), rfl⟩
      · go_enter Tryz.func92, Tryz.ntmps92
        go_wp2_with (first | (go_at_call 120; refine C0.mono ?_; rintro e w' ⟨rfl, rfl⟩) | fail)
        go_ret
        exact ⟨ret_boolE (by simp), rfl⟩
    · have hne : R.toList = [] := by
        rw [Lib.toList_data]
        apply List.eq_nil_of_length_eq_zero
        rw [hRd]
        omega
      have hem : R.toList.isEmpty = true := by simpa using hne
      clear HM ht hR hRd e1 e2
      go_enter Tryz.func92, Tryz.ntmps92
      go_wp2_with (first | (go_at_call 120; refine C0.mono ?_; rintro e w' ⟨rfl, rfl⟩) | fail)
      go_ret
      exact ⟨ret_boolE (by simp [k1]), rfl⟩
  · have e1 : Lib.hasPrefix s.data.toList (ByteArray.mk #[47]).data.toList = false := by
      cases h : s.data.toList with
      | nil => rfl
      | cons c r =>
        have : ¬ c = 47 := fun e => h0 ⟨r, by rw [h, e]⟩
        simp only [Lib.hasPrefix, List.isPrefixOf, Bool.and_eq_false_iff]
        exact .inl (by simpa using Ne.symm this)
    have e2 : mountF s.data.toList = false := by
      unfold mountF
      cases h : s.data.toList with
      | nil => rfl
      | cons c r =>
        have : ¬ c.toNat = 47 := fun e => h0 ⟨r, by rw [h]; congr 1; exact UInt8.toNat_inj.1 e⟩
        simp [this]
    rw [e1] at C0
    rw [e2]
    generalize Lib.trimPrefix s.data.toList (ByteArray.mk #[47]).data.toList = t at C0
    obtain ⟨R, hR⟩ : ∃ R : ByteArray, (⟨t.toArray⟩ : ByteArray) = R := ⟨_, rfl⟩
    rw [hR] at C0
    clear h0 e1 e2 hR
    go_enter Tryz.func92, Tryz.ntmps92
    go_wp2_with (go_at_call 120; refine C0.mono ?_; rintro e w' ⟨rfl, rfl⟩)
    go_ret
    exact ⟨ret_boolE (by first | rfl | simp), rfl⟩
end Go.Proofs.YtmgfkdmjgjlkjaaGreat

namespace Go.Proofs.YtmgfkdmjgjlkjaaGreat
open Go.RowKit Go.PlainAid
set_option linter.unusedVariables false
set_option maxHeartbeats 4000000 in
set_option maxRecDepth 100000 in
theorem refRune_any (s : ByteArray) (w : World) (h0 : 0 < s.size) (hs : s.size ≤ 9223372036854775807) :
    Calls Tryz.prog 47 #[.string s] w fun e w' => e = .returned (.tuple #[.int .i64 (runeR s.data.toList : Nat), .int .i64 (runeN s.data.toList : Nat)]) ∧ w = w' := by
  have hb := get_bt s
  obtain ⟨b0, e0⟩ : ∃ b : Nat, (s.data.toList.getD 0 0).toNat = b := ⟨_, rfl⟩
  obtain ⟨b1, e1⟩ : ∃ b : Nat, (s.data.toList.getD 1 0).toNat = b := ⟨_, rfl⟩
  obtain ⟨b2, e2⟩ : ∃ b : Nat, (s.data.toList.getD 2 0).toNat = b := ⟨_, rfl⟩
  obtain ⟨b3, e3⟩ : ∃ b : Nat, (s.data.toList.getD 3 0).toNat = b := ⟨_, rfl⟩
  have k0 : b0 < 256 := by rw [← e0]; exact UInt8.toNat_lt _
  have k1 : b1 < 256 := by rw [← e1]; exact UInt8.toNat_lt _
  have k2 : b2 < 256 := by rw [← e2]; exact UInt8.toNat_lt _
  have k3 : b3 < 256 := by rw [← e3]; exact UInt8.toNat_lt _
  have t0 : bt s 0 = (b0 : Nat) := by rw [bt_list, e0]
  have t1 : bt s 1 = (b1 : Nat) := by rw [bt_list, e1]
  have t2 : bt s 2 = (b2 : Nat) := by rw [bt_list, e2]
  have t3 : bt s 3 = (b3 : Nat) := by rw [bt_list, e3]
  have HB : RowKit.Hid (∀ r n : Int, Lib.decodeN s.size b0 b1 b2 b3 = (65533, 1) → r = 0 → n = 0 → Ending.returned (.tuple #[.int .i64 r, .int .i64 n]) = .returned (.tuple #[.int .i64 (runeR s.data.toList : Nat), .int .i64 (runeN s.data.toList : Nat)])) := by
    intro r n h; rw [← e0, ← e1, ← e2, ← e3, ← len_list] at h; exact rune_bad h
  have HG : RowKit.Hid (∀ (r n : Int) (q k : Nat), Lib.decodeN s.size b0 b1 b2 b3 = (q, k) → ¬ (q = 65533 ∧ k = 1) → r = q → n = k → Ending.returned (.tuple #[.int .i64 r, .int .i64 n]) = .returned (.tuple #[.int .i64 (runeR s.data.toList : Nat), .int .i64 (runeN s.data.toList : Nat)])) := by
    intro r n q k h; rw [← e0, ← e1, ← e2, ← e3, ← len_list] at h; exact rune_good h
  generalize runeR s.data.toList = RR at HB HG ⊢
  generalize runeN s.data.toList = RN at HB HG ⊢
  clear e0 e1 e2 e3
  by_cases c0 : b0 < 128
  · go_enter Tryz.func47, Tryz.ntmps47
    go_wp2
    go_ret2
    exact ⟨HG.out _ _ b0 1 (Lib.decodeN_ascii _ _ _ _ _ c0) (by omega) rfl rfl, rfl⟩
  by_cases c1 : b0 < 194
  · skip
    go_enter Tryz.func47, Tryz.ntmps47
    go_wp2
    all_goals first
      | (go_ret2; exact ⟨HB.out _ _ (decN_bad _ _ _ _ _ (by omega) (by omega) (by omega)) rfl rfl, rfl⟩)
  by_cases c2 : b0 < 224
  · skip
    by_cases n1 : s.size < 2
    · skip
      go_enter Tryz.func47, Tryz.ntmps47
      go_wp2
      all_goals first
        | (go_ret2; exact ⟨HB.out _ _ (decN_bad _ _ _ _ _ (by omega) (by omega) (by omega)) rfl rfl, rfl⟩)
    by_cases x1l : b1 < 128
    · skip
      go_enter Tryz.func47, Tryz.ntmps47
      go_wp2
      go_rounds 2
      all_goals first
        | (go_ret2; exact ⟨HB.out _ _ (decN_bad _ _ _ _ _ (by omega) (by omega) (by omega)) rfl rfl, rfl⟩)
    by_cases x1h : 191 < b1
    · skip
      go_enter Tryz.func47, Tryz.ntmps47
      go_wp2
      go_rounds 2
      all_goals first
        | (go_ret2; exact ⟨HB.out _ _ (decN_bad _ _ _ _ _ (by omega) (by omega) (by omega)) rfl rfl, rfl⟩)
    go_enter Tryz.func47, Tryz.ntmps47
    go_wp2
    go_rounds 2
    all_goals first
      | (go_ret2; exact ⟨HB.out _ _ (decN_bad _ _ _ _ _ (by omega) (by omega) (by omega)) rfl rfl, rfl⟩)
      | (go_ret2; exact ⟨HG.out _ _ _ 2 (decN_2 _ _ _ _ _ (by omega) (by omega) (by omega) (by omega) (by omega)) (by omega) (by omega) rfl, rfl⟩)
  by_cases c3 : b0 < 240
  · skip
    by_cases n1 : s.size < 3
    · skip
      go_enter Tryz.func47, Tryz.ntmps47
      go_wp2
      all_goals first
        | (go_ret2; exact ⟨HB.out _ _ (decN_bad _ _ _ _ _ (by omega) (by omega) (by omega)) rfl rfl, rfl⟩)
    by_cases x1l : b1 < 128
    · skip
      go_enter Tryz.func47, Tryz.ntmps47
      go_wp2
      go_rounds 3
      all_goals first
        | (go_ret2; exact ⟨HB.out _ _ (decN_bad _ _ _ _ _ (by omega) (by omega) (by omega)) rfl rfl, rfl⟩)
    by_cases x1h : 191 < b1
    · skip
      go_enter Tryz.func47, Tryz.ntmps47
      go_wp2
      go_rounds 3
      all_goals first
        | (go_ret2; exact ⟨HB.out _ _ (decN_bad _ _ _ _ _ (by omega) (by omega) (by omega)) rfl rfl, rfl⟩)
    by_cases x2l : b2 < 128
    · skip
      go_enter Tryz.func47, Tryz.ntmps47
      go_wp2
      go_rounds 3
      all_goals first
        | (go_ret2; exact ⟨HB.out _ _ (decN_bad _ _ _ _ _ (by omega) (by omega) (by omega)) rfl rfl, rfl⟩)
    by_cases x2h : 191 < b2
    · skip
      go_enter Tryz.func47, Tryz.ntmps47
      go_wp2
      go_rounds 3
      all_goals first
        | (go_ret2; exact ⟨HB.out _ _ (decN_bad _ _ _ _ _ (by omega) (by omega) (by omega)) rfl rfl, rfl⟩)
    go_enter Tryz.func47, Tryz.ntmps47
    go_wp2
    go_rounds 3
    all_goals first
      | (go_ret2; exact ⟨HB.out _ _ (decN_bad _ _ _ _ _ (by omega) (by omega) (by omega)) rfl rfl, rfl⟩)
      | (go_ret2; exact ⟨HG.out _ _ _ 3 (decN_3 _ _ _ _ _ (by omega) (by omega) (by omega) (by omega) (by omega) (by omega) (by omega) (by omega) (by omega)) (by omega) (by omega) rfl, rfl⟩)
  by_cases c4 : b0 < 245
  · skip
    by_cases n1 : s.size < 4
    · skip
      go_enter Tryz.func47, Tryz.ntmps47
      go_wp2
      all_goals first
        | (go_ret2; exact ⟨HB.out _ _ (decN_bad _ _ _ _ _ (by omega) (by omega) (by omega)) rfl rfl, rfl⟩)
    by_cases x1l : b1 < 128
    · skip
      go_enter Tryz.func47, Tryz.ntmps47
      go_wp2
      go_rounds 4
      all_goals first
        | (go_ret2; exact ⟨HB.out _ _ (decN_bad _ _ _ _ _ (by omega) (by omega) (by omega)) rfl rfl, rfl⟩)
    by_cases x1h : 191 < b1
    · skip
      go_enter Tryz.func47, Tryz.ntmps47
      go_wp2
      go_rounds 4
      all_goals first
        | (go_ret2; exact ⟨HB.out _ _ (decN_bad _ _ _ _ _ (by omega) (by omega) (by omega)) rfl rfl, rfl⟩)
    by_cases x2l : b2 < 128
    · skip
      go_enter Tryz.func47, Tryz.ntmps47
      go_wp2
      go_rounds 4
      all_goals first
        | (go_ret2; exact ⟨HB.out _ _ (decN_bad _ _ _ _ _ (by omega) (by omega) (by omega)) rfl rfl, rfl⟩)
    by_cases x2h : 191 < b2
    · skip
      go_enter Tryz.func47, Tryz.ntmps47
      go_wp2
      go_rounds 4
      all_goals first
        | (go_ret2; exact ⟨HB.out _ _ (decN_bad _ _ _ _ _ (by omega) (by omega) (by omega)) rfl rfl, rfl⟩)
    by_cases x3l : b3 < 128
    · skip
      go_enter Tryz.func47, Tryz.ntmps47
      go_wp2
      go_rounds 4
      all_goals first
        | (go_ret2; exact ⟨HB.out _ _ (decN_bad _ _ _ _ _ (by omega) (by omega) (by omega)) rfl rfl, rfl⟩)
    by_cases x3h : 191 < b3
    · skip
      go_enter Tryz.func47, Tryz.ntmps47
      go_wp2
      go_rounds 4
      all_goals first
        | (go_ret2; exact ⟨HB.out _ _ (decN_bad _ _ _ _ _ (by omega) (by omega) (by omega)) rfl rfl, rfl⟩)
    go_enter Tryz.func47, Tryz.ntmps47
    go_wp2
    go_rounds 4
    all_goals first
      | (go_ret2; exact ⟨HB.out _ _ (decN_bad _ _ _ _ _ (by omega) (by omega) (by omega)) rfl rfl, rfl⟩)
      | (go_ret2; exact ⟨HG.out _ _ _ 4 (decN_4 _ _ _ _ _ (by omega) (by omega) (by omega) (by omega) (by omega) (by omega) (by omega) (by omega) (by omega) (by omega) (by omega)) (by omega) (by omega) rfl, rfl⟩)
  · skip
    go_enter Tryz.func47, Tryz.ntmps47
    go_wp2
    all_goals first
      | (go_ret2; exact ⟨HB.out _ _ (decN_bad _ _ _ _ _ (by omega) (by omega) (by omega)) rfl rfl, rfl⟩)
end Go.Proofs.YtmgfkdmjgjlkjaaGreat
