/- What slices.Equal returns for two slices of numbers. No conditions. -/
import Derived.Test.YtnhgibbcggegmaaGb
namespace Go.Proofs.Ytnhgibbcggegmaa
open Go.RowKit
set_option maxRecDepth 100000

end Go.Proofs.Ytnhgibbcggegmaa
