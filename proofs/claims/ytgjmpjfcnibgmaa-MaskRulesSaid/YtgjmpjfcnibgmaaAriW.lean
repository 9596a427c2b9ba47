/- What each function of package arith, and each of the document's answers for it, gives for whatever arguments. -/
import Derived.Test.YtgjmpjfcnibgmaaRows
import Derived.Test.YtgjmpjfcnibgmaaAriP
import Derived.Test.YtgjmpjfcnibgmaaMem
import Derived.WalkKit
import Derived.WalkLawsBesides
import Derived.Handy
import Derived.Lib.Hide
namespace Go.Proofs.Ytgjmpjfcnibgmaa
open Go.RowKit
set_option linter.unusedVariables false


/-! ### arith.Round -/
/-! ### arith.Sat -/
/-! ### the document's answers -/
/-! ### products -/
/-! ### sums -/
/-! ### roots -/
end Go.Proofs.Ytgjmpjfcnibgmaa
