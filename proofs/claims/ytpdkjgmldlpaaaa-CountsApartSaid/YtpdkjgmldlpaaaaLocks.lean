/- The numbers under which this dump holds sync.Mutex's functions and types, and that it holds them (the library's MuLib). -/
import Derived.Test.YtpdkjgmldlpaaaaProg
import Derived.Conc.RwLib
import Derived.Conc.MuData
import Derived.KernelRfl
namespace Go.Proofs
end Go.Proofs
