/- What the program's CommandValid, CommandsValid, CommandPossible, StepHeap and RunHeap return: for every argument. No conditions. -/
import Derived.Test.YtnhgibbcggegmaaMk
import Derived.Test.YtnhgibbcggegmaaHz
import Derived.Test.YtnhgibbcggegmaaKg
namespace Go.Proofs.Ytnhgibbcggegmaa
open Go.RowKit
set_option maxRecDepth 100000

end Go.Proofs.Ytnhgibbcggegmaa
