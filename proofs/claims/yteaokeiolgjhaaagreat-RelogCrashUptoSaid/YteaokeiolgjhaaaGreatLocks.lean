/- The numbers under which this dump holds sync.Mutex's functions and types, and that it holds them (the library's MuLib). -/
import Derived.Test.YteaokeiolgjhaaaGreatProg
import Derived.Conc.RwLib
import Derived.Conc.MuData
import Derived.KernelRfl
namespace Go.Proofs
abbrev Tryz.muLink : Go.Conc.Locks.MuLink := { lock := 211, unlock := 212, ilock := 214, iunlock := 215, lockSlow := 222, unlockSlow := 225, disable := 218, enable := 220, acquire := 221, relMerge := 223, cas32 := 219, add32 := 224, tMutex := 192, tIMutex := 190, tPMutex := 270, tPIMutex := 273, tPI32 := 275, tUP := 277, tNoCopy := 185, tU32 := 173 }
theorem Tryz.muLib : Go.Conc.Locks.MuLib Tryz.prog Tryz.muLink :=
  ⟨Tryz.func211, Tryz.func212, Tryz.func214, Tryz.func215, Tryz.func218, Tryz.func220, Tryz.func221, Tryz.func223, Tryz.func219, Tryz.func224, Tryz.underlying190, Tryz.runUnderlying190, Tryz.sizeOf190, Tryz.isAgg190, Tryz.zeroValue190, Tryz.underlying192, Tryz.runUnderlying192, Tryz.sizeOf192, Tryz.isAgg192, Tryz.zeroValue192, Tryz.underlying270, Tryz.runUnderlying270, Tryz.sizeOf270, Tryz.isAgg270, Tryz.zeroValue270, Tryz.underlying273, Tryz.runUnderlying273, Tryz.sizeOf273, Tryz.isAgg273, Tryz.zeroValue273, Tryz.underlying275, Tryz.runUnderlying275, Tryz.sizeOf275, Tryz.isAgg275, Tryz.zeroValue275, Tryz.underlying277, Tryz.runUnderlying277, Tryz.sizeOf277, Tryz.isAgg277, Tryz.zeroValue277, Tryz.underlying185, Tryz.runUnderlying185, Tryz.sizeOf185, Tryz.isAgg185, Tryz.zeroValue185, Tryz.underlying21, Tryz.runUnderlying21, Tryz.sizeOf21, Tryz.isAgg21, Tryz.zeroValue21, (by kernel_rfl)⟩
end Go.Proofs
