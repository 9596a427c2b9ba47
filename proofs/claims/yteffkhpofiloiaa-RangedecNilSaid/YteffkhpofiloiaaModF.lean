/- What the document's Fixed of layer 5 gives. -/
import Derived.Test.YteffkhpofiloiaaModR
import Derived.Deep.AppendLies
import Derived.Deep.RegionLaw
namespace Go.Proofs.Yteffkhpofiloiaa
open Go.RowKit
set_option linter.unusedVariables false

end Go.Proofs.Yteffkhpofiloiaa
