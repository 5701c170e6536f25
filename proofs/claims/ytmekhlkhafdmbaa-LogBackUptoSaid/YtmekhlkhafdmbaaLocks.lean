/- The numbers under which this dump holds sync.Mutex's functions and types, and that it holds them (the library's MuLib). -/
import Derived.Test.YtmekhlkhafdmbaaProg
import Derived.Conc.RwLib
import Derived.Conc.MuData
import Derived.KernelRfl
namespace Go.Proofs
abbrev Try.muLink : Go.Conc.Locks.MuLink := { lock := 65, unlock := 66, ilock := 68, iunlock := 69, lockSlow := 76, unlockSlow := 79, disable := 72, enable := 74, acquire := 75, relMerge := 77, cas32 := 73, add32 := 78, tMutex := 60, tIMutex := 58, tPMutex := 135, tPIMutex := 138, tPI32 := 140, tUP := 142, tNoCopy := 52, tU32 := 54 }
theorem Try.muLib : Go.Conc.Locks.MuLib Try.prog Try.muLink :=
  ⟨Try.func65, Try.func66, Try.func68, Try.func69, Try.func72, Try.func74, Try.func75, Try.func77, Try.func73, Try.func78, Try.underlying58, Try.runUnderlying58, Try.sizeOf58, Try.isAgg58, Try.zeroValue58, Try.underlying60, Try.runUnderlying60, Try.sizeOf60, Try.isAgg60, Try.zeroValue60, Try.underlying135, Try.runUnderlying135, Try.sizeOf135, Try.isAgg135, Try.zeroValue135, Try.underlying138, Try.runUnderlying138, Try.sizeOf138, Try.isAgg138, Try.zeroValue138, Try.underlying140, Try.runUnderlying140, Try.sizeOf140, Try.isAgg140, Try.zeroValue140, Try.underlying142, Try.runUnderlying142, Try.sizeOf142, Try.isAgg142, Try.zeroValue142, Try.underlying52, Try.runUnderlying52, Try.sizeOf52, Try.isAgg52, Try.zeroValue52, Try.underlying21, Try.runUnderlying21, Try.sizeOf21, Try.isAgg21, Try.zeroValue21, (by kernel_rfl)⟩
end Go.Proofs
