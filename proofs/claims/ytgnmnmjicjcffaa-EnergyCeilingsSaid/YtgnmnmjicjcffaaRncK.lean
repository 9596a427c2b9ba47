/- The walks of the statements of layer 6: what may be, the example, no encoder. -/
import Derived.Test.YtgnmnmjicjcffaaRncJ
import Derived.Test.YtgnmnmjicjcffaaModF
import Derived.OwnWalk
namespace Go.Proofs.Ytgnmnmjicjcffaa
open Go.RowKit
set_option linter.unusedVariables false

theorem rncBits_at (base g : Nat) (v : Value) (e f : EncS) (n : Int) (wide : Nat) (i : Int) (w : World) (hi : i = wide) (hf : encBits e n wide = f) (hE : EncAt w base g v e) (hG : GoodE e) (n0 : 0 ≤ n) (n1 : n ≤ 4294967295) (hw : wide ≤ 24) (h : n < P2 wide) (hk : e.k ≤ 800000) :
    Calls Try.prog 42 #[.pointer (some ⟨g, 0, none⟩), .int .u32 n, .int .i64 i] w (PutPost base g v f (.int .i64 0) w) := by
  subst hi; subst hf; exact rncBits_any base g v e n wide w hE hG n0 n1 hw h hk
theorem rncBytes_at (base g : Nat) (v : Value) (e : EncS) (b : List Int) (w : World) (hE : EncAt w base g v e) (hk : e.k ≤ 900000) (hb : bytesL (digL e.n (e.k + 4)) = b) :
    Calls Try.prog 18 #[.pointer (some ⟨g, 0, none⟩)] w (BytesPost b w) := by
  subst hb; exact rncBytes_any base g v _ _ _ w hE hk

/-- The two encoders of the example. -/
def exA : EncS := ⟨0, 4294967040, 1⟩
def exB : EncS := ⟨549755781120, 4294967040, 1⟩
theorem exA_eq : encBits encNew 0 8 = exA := by kernel_rfl
theorem exB_eq : encBits encNew 128 8 = exB := by kernel_rfl
theorem exA_bytes : bytesL (digL exA.n (exA.k + 4)) = [] := by decide
theorem exB_bytes : bytesL (digL exB.n (exB.k + 4)) = [127, 255, 255, 128] := by decide

theorem enc_two {w w' : World} {b1 g1 b2 g2 : Nat} {v1 v2 : Value} {e1 e2 f : EncS} (h1 : EncAt w b1 g1 v1 e1) (h2 : EncAt w b2 g2 v2 e2) (hne : g1 ≠ g2) (ho1 : v1.ownBlock ≠ some g2) (ho2 : v2.ownBlock ≠ some g1) (ho : ∀ r, v1.ownBlock = some r → v2.ownBlock ≠ some r)
    (hk : Keeps (fun j => j = g1 ∨ v1.ownBlock = some j) w w') : EncAt w' b2 g2 v2 e2 :=
  h2.keeps hk (by rintro (c | c); exact hne c.symm; exact ho1 c) (by rintro r hr (c | c); exact ho2 (c ▸ hr); exact ho r c hr)
end Go.Proofs.Ytgnmnmjicjcffaa
