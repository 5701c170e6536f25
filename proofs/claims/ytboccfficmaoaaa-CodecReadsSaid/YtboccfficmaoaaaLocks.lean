/- The numbers under which this dump holds sync.Mutex's functions and types, and that it holds them (the library's MuLib). -/
import Derived.Test.YtboccfficmaoaaaProg
import Derived.Conc.RwLib
import Derived.Conc.MuData
import Derived.KernelRfl
namespace Go.Proofs
abbrev Try.muLink : Go.Conc.Locks.MuLink := { lock := 123, unlock := 124, ilock := 126, iunlock := 127, lockSlow := 134, unlockSlow := 137, disable := 130, enable := 132, acquire := 133, relMerge := 135, cas32 := 131, add32 := 136, tMutex := 92, tIMutex := 90, tPMutex := 192, tPIMutex := 195, tPI32 := 197, tUP := 199, tNoCopy := 85, tU32 := 32 }
theorem Try.muLib : Go.Conc.Locks.MuLib Try.prog Try.muLink :=
  ⟨Try.func123, Try.func124, Try.func126, Try.func127, Try.func130, Try.func132, Try.func133, Try.func135, Try.func131, Try.func136, Try.underlying90, Try.runUnderlying90, Try.sizeOf90, Try.isAgg90, Try.zeroValue90, Try.underlying92, Try.runUnderlying92, Try.sizeOf92, Try.isAgg92, Try.zeroValue92, Try.underlying192, Try.runUnderlying192, Try.sizeOf192, Try.isAgg192, Try.zeroValue192, Try.underlying195, Try.runUnderlying195, Try.sizeOf195, Try.isAgg195, Try.zeroValue195, Try.underlying197, Try.runUnderlying197, Try.sizeOf197, Try.isAgg197, Try.zeroValue197, Try.underlying199, Try.runUnderlying199, Try.sizeOf199, Try.isAgg199, Try.zeroValue199, Try.underlying85, Try.runUnderlying85, Try.sizeOf85, Try.isAgg85, Try.zeroValue85, Try.underlying21, Try.runUnderlying21, Try.sizeOf21, Try.isAgg21, Try.zeroValue21, (by kernel_rfl)⟩
end Go.Proofs
