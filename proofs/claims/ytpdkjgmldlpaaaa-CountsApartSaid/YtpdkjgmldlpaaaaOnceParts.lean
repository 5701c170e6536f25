/- sync.Once's parts, one goroutine: Bool.Store entered as a deferred call; the one load. After the guide's Lazy example, at this seat's numbers. -/
import Derived.Test.YtpdkjgmldlpaaaaRows
import Derived.Test.YtpdkjgmldlpaaaaLocks
import Derived.Conc.MuLone
import Derived.WalkKit
import Derived.Tactics
import Derived.Tactics2
import Derived.Defers
import Derived.Laws.Pointers
import Derived.Laws.LoneSync
import Derived.RegionTactic
import Derived.RegionCalls
import Derived.ChangeAlike
namespace Go.Proofs.Ytpdkjgmldlpaaaa.Once
open Go.MuLone

end Go.Proofs.Ytpdkjgmldlpaaaa.Once
