/- The library's sorted keys of a map: what the shelf's contracts ask of this program, spelled out. -/
import Derived.Test.YtmekhlkhafdmbaaProg
import Derived.Shelf.SlIterI.Sorted
import Derived.Shelf.SlIterI.Keys
import Derived.Shelf.SortM.Plain
import Derived.Shelf.SortM.SortNone
namespace Go.Proofs.Ytmekhlkhafdmbaa.Dsk
open Go.RowKit Go.Maps Go.Sort Go.Shelf

end Go.Proofs.Ytmekhlkhafdmbaa.Dsk
