/- What package packet's Bytes gives. -/
import Derived.Test.YtfnmdaoehnafcaaMemT
import Derived.Test.YtfnmdaoehnafcaaPktB
import Derived.Test.YtfnmdaoehnafcaaCheC
namespace Go.Proofs.Ytfnmdaoehnafcaa
open Go.RowKit Go.Shelf
set_option linter.unusedVariables false
set_option linter.unusedSimpArgs false

theorem Byts.at_ {b : List Int} (h : Byts b) (len : Nat) : ∀ j, j < len → 0 ≤ b.getD j 0 ∧ b.getD j 0 ≤ 255 := fun j _ => h.getD j
/-- A packet, as a value. -/
def pkV19 (P : Pk) (a : Option Addr) (cap : Nat) : Value := .agg #[.int .u32 P.ep, .int .u32 P.nu, .bool P.wh, .slice a P.pl.length cap]
/-- The bytes of a packet, in memory of the call's own. -/
def BytesPost19 (P : Pk) (w : World) (x : Ending) (w' : World) : Prop :=
  ∃ v, x = .returned (.tuple #[v, .int .i64 0]) ∧ w'.ownsRow w.heap.size 5 1 v P.bytes.length (P.bytes.map (Value.int .u8)) ∧ Below w.heap.size w w'
end Go.Proofs.Ytfnmdaoehnafcaa
