/- The numbers under which this dump holds sync.Mutex's functions and types, and that it holds them (the library's MuLib). -/
import Derived.Test.YtmekhlkhafdmbaaGreatProg
import Derived.Conc.RwLib
import Derived.Conc.MuData
import Derived.KernelRfl
namespace Go.Proofs
abbrev Tryz.muLink : Go.Conc.Locks.MuLink := { lock := 96, unlock := 97, ilock := 100, iunlock := 101, lockSlow := 108, unlockSlow := 111, disable := 104, enable := 106, acquire := 107, relMerge := 109, cas32 := 105, add32 := 110, tMutex := 64, tIMutex := 62, tPMutex := 167, tPIMutex := 170, tPI32 := 172, tUP := 174, tNoCopy := 56, tU32 := 58 }
theorem Tryz.muLib : Go.Conc.Locks.MuLib Tryz.prog Tryz.muLink :=
  ⟨Tryz.func96, Tryz.func97, Tryz.func100, Tryz.func101, Tryz.func104, Tryz.func106, Tryz.func107, Tryz.func109, Tryz.func105, Tryz.func110, Tryz.underlying62, Tryz.runUnderlying62, Tryz.sizeOf62, Tryz.isAgg62, Tryz.zeroValue62, Tryz.underlying64, Tryz.runUnderlying64, Tryz.sizeOf64, Tryz.isAgg64, Tryz.zeroValue64, Tryz.underlying167, Tryz.runUnderlying167, Tryz.sizeOf167, Tryz.isAgg167, Tryz.zeroValue167, Tryz.underlying170, Tryz.runUnderlying170, Tryz.sizeOf170, Tryz.isAgg170, Tryz.zeroValue170, Tryz.underlying172, Tryz.runUnderlying172, Tryz.sizeOf172, Tryz.isAgg172, Tryz.zeroValue172, Tryz.underlying174, Tryz.runUnderlying174, Tryz.sizeOf174, Tryz.isAgg174, Tryz.zeroValue174, Tryz.underlying56, Tryz.runUnderlying56, Tryz.sizeOf56, Tryz.isAgg56, Tryz.zeroValue56, Tryz.underlying21, Tryz.runUnderlying21, Tryz.sizeOf21, Tryz.isAgg21, Tryz.zeroValue21, (by kernel_rfl)⟩
end Go.Proofs
