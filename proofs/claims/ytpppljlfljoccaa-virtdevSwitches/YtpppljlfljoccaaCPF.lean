/- A memory of cells is made. -/
import Derived.Test.YtpppljlfljoccaaMC4
namespace Go.Proofs.Ytpppljlfljoccaa.C
open Go.RowKit
set_option linter.unusedVariables false
set_option maxRecDepth 100000

end Go.Proofs.Ytpppljlfljoccaa.C
