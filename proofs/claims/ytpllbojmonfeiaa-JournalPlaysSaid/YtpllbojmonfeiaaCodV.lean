/- slices.Values at int64, as a promise to rounds. -/
import Derived.Test.YtpllbojmonfeiaaFrameAl
import Derived.Test.YtpllbojmonfeiaaCodN
namespace Go.Proofs.Ytpllbojmonfeiaa
open Go.RowKit
set_option linter.unusedVariables false
attribute [local go_sem] Oper.semAt_some

end Go.Proofs.Ytpllbojmonfeiaa