/- What the program's RefCounts and EmptyHeap return: for every heap. No conditions. -/
import Derived.Test.YtdkdfeogalhmlaaHx
import Derived.Test.YtdkdfeogalhmlaaHz
namespace Go.Proofs.Ytdkdfeogalhmlaa
open Go.RowKit
set_option maxRecDepth 100000

end Go.Proofs.Ytdkdfeogalhmlaa
