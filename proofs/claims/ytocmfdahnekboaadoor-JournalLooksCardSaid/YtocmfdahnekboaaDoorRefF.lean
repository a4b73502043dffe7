/- Contracts of the document's own answers for layer 6: Weight, Write. -/
import Derived.Test.YtocmfdahnekboaaDoorFrameB
namespace Go.Proofs.YtocmfdahnekboaaDoor
open Go.RowKit SumM
set_option linter.unusedVariables false

end Go.Proofs.YtocmfdahnekboaaDoor