/- What the program's RefCounts and EmptyHeap return: for every heap. No conditions. -/
import Derived.Test.YtbcefmkgifkjiaaHx
import Derived.Test.YtbcefmkgifkjiaaHz
namespace Go.Proofs.Ytbcefmkgifkjiaa
open Go.RowKit
set_option maxRecDepth 100000

end Go.Proofs.Ytbcefmkgifkjiaa
