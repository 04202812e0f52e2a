/- What the program's CommandValid, CommandsValid, CommandPossible, StepHeap and RunHeap return: for every argument. No conditions. -/
import Derived.Test.YtijgfpcpkmpdpaaMk
import Derived.Test.YtijgfpcpkmpdpaaHz
import Derived.Test.YtijgfpcpkmpdpaaKg
namespace Go.Proofs.Ytijgfpcpkmpdpaa
open Go.RowKit
set_option maxRecDepth 100000

end Go.Proofs.Ytijgfpcpkmpdpaa
