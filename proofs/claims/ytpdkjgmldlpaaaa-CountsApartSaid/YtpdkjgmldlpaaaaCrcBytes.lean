/- What stays of a table whose numbers are laid; all of layer 1's texts in one. -/
import Derived.Test.YtpdkjgmldlpaaaaCrcNew
import Derived.Test.YtpdkjgmldlpaaaaCrcRef
namespace Go.Proofs.Ytpdkjgmldlpaaaa.Crc
open Go.RowKit CrcMath Mem
end Go.Proofs.Ytpdkjgmldlpaaaa.Crc
