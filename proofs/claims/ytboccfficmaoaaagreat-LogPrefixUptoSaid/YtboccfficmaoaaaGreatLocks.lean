/- The numbers under which this dump holds sync.Mutex's functions and types, and that it holds them (the library's MuLib). -/
import Derived.Test.YtboccfficmaoaaaGreatProg
import Derived.Conc.RwLib
import Derived.Conc.MuData
import Derived.KernelRfl
namespace Go.Proofs
abbrev Tryz.muLink : Go.Conc.Locks.MuLink := { lock := 143, unlock := 144, ilock := 146, iunlock := 147, lockSlow := 154, unlockSlow := 157, disable := 150, enable := 152, acquire := 153, relMerge := 155, cas32 := 151, add32 := 156, tMutex := 114, tIMutex := 112, tPMutex := 209, tPIMutex := 212, tPI32 := 214, tUP := 216, tNoCopy := 106, tU32 := 108 }
theorem Tryz.muLib : Go.Conc.Locks.MuLib Tryz.prog Tryz.muLink :=
  ⟨Tryz.func143, Tryz.func144, Tryz.func146, Tryz.func147, Tryz.func150, Tryz.func152, Tryz.func153, Tryz.func155, Tryz.func151, Tryz.func156, Tryz.underlying112, Tryz.runUnderlying112, Tryz.sizeOf112, Tryz.isAgg112, Tryz.zeroValue112, Tryz.underlying114, Tryz.runUnderlying114, Tryz.sizeOf114, Tryz.isAgg114, Tryz.zeroValue114, Tryz.underlying209, Tryz.runUnderlying209, Tryz.sizeOf209, Tryz.isAgg209, Tryz.zeroValue209, Tryz.underlying212, Tryz.runUnderlying212, Tryz.sizeOf212, Tryz.isAgg212, Tryz.zeroValue212, Tryz.underlying214, Tryz.runUnderlying214, Tryz.sizeOf214, Tryz.isAgg214, Tryz.zeroValue214, Tryz.underlying216, Tryz.runUnderlying216, Tryz.sizeOf216, Tryz.isAgg216, Tryz.zeroValue216, Tryz.underlying106, Tryz.runUnderlying106, Tryz.sizeOf106, Tryz.isAgg106, Tryz.zeroValue106, Tryz.underlying21, Tryz.runUnderlying21, Tryz.sizeOf21, Tryz.isAgg21, Tryz.zeroValue21, (by kernel_rfl)⟩
end Go.Proofs
