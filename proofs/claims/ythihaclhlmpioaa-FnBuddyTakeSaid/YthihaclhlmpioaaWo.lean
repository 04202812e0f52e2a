/- What slices.Concat at blocks returns: for every row of slices of blocks. -/
import Derived.Test.YthihaclhlmpioaaWn
namespace Go.Proofs.Ythihaclhlmpioaa
open Go.RowKit

end Go.Proofs.Ythihaclhlmpioaa
