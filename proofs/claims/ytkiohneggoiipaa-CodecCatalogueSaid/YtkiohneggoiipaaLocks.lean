/- The numbers under which this dump holds sync.Mutex's functions and types, and that it holds them (the library's MuLib). -/
import Derived.Test.YtkiohneggoiipaaProg
import Derived.Conc.RwLib
import Derived.Conc.MuData
import Derived.KernelRfl
namespace Go.Proofs
abbrev Try.muLink : Go.Conc.Locks.MuLink := { lock := 89, unlock := 90, ilock := 92, iunlock := 93, lockSlow := 100, unlockSlow := 103, disable := 96, enable := 98, acquire := 99, relMerge := 101, cas32 := 97, add32 := 102, tMutex := 99, tIMutex := 97, tPMutex := 147, tPIMutex := 150, tPI32 := 152, tUP := 154, tNoCopy := 92, tU32 := 37 }
theorem Try.muLib : Go.Conc.Locks.MuLib Try.prog Try.muLink :=
  ⟨Try.func89, Try.func90, Try.func92, Try.func93, Try.func96, Try.func98, Try.func99, Try.func101, Try.func97, Try.func102, Try.underlying97, Try.runUnderlying97, Try.sizeOf97, Try.isAgg97, Try.zeroValue97, Try.underlying99, Try.runUnderlying99, Try.sizeOf99, Try.isAgg99, Try.zeroValue99, Try.underlying147, Try.runUnderlying147, Try.sizeOf147, Try.isAgg147, Try.zeroValue147, Try.underlying150, Try.runUnderlying150, Try.sizeOf150, Try.isAgg150, Try.zeroValue150, Try.underlying152, Try.runUnderlying152, Try.sizeOf152, Try.isAgg152, Try.zeroValue152, Try.underlying154, Try.runUnderlying154, Try.sizeOf154, Try.isAgg154, Try.zeroValue154, Try.underlying92, Try.runUnderlying92, Try.sizeOf92, Try.isAgg92, Try.zeroValue92, Try.underlying21, Try.runUnderlying21, Try.sizeOf21, Try.isAgg21, Try.zeroValue21, (by kernel_rfl)⟩
end Go.Proofs
