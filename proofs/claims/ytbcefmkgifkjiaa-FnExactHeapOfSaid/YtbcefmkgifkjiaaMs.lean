/- What the program's CommandValid, CommandsValid, CommandPossible, StepHeap and RunHeap return: for every argument. No conditions. -/
import Derived.Test.YtbcefmkgifkjiaaMk
import Derived.Test.YtbcefmkgifkjiaaHz
import Derived.Test.YtbcefmkgifkjiaaKg
namespace Go.Proofs.Ytbcefmkgifkjiaa
open Go.RowKit
set_option maxRecDepth 100000

end Go.Proofs.Ytbcefmkgifkjiaa
