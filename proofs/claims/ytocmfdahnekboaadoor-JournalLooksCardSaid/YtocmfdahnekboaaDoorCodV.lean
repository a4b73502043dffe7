/- slices.Values at int64, as a promise to rounds. -/
import Derived.Test.YtocmfdahnekboaaDoorFrameAl
import Derived.Test.YtocmfdahnekboaaDoorCodN
namespace Go.Proofs.YtocmfdahnekboaaDoor
open Go.RowKit
set_option linter.unusedVariables false
attribute [local go_sem] Oper.semAt_some

end Go.Proofs.YtocmfdahnekboaaDoor