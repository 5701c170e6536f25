/- The numbers under which this dump holds sync.Mutex's functions and types, and that it holds them (the library's MuLib). -/
import Derived.Test.YtagikgejhckfbaaGreatProg
import Derived.Conc.RwLib
import Derived.Conc.MuData
import Derived.KernelRfl
namespace Go.Proofs
abbrev Tryz.muLink : Go.Conc.Locks.MuLink := { lock := 98, unlock := 99, ilock := 102, iunlock := 103, lockSlow := 110, unlockSlow := 113, disable := 106, enable := 108, acquire := 109, relMerge := 111, cas32 := 107, add32 := 112, tMutex := 56, tIMutex := 54, tPMutex := 155, tPIMutex := 158, tPI32 := 160, tUP := 162, tNoCopy := 48, tU32 := 50 }
theorem Tryz.muLib : Go.Conc.Locks.MuLib Tryz.prog Tryz.muLink :=
  ⟨Tryz.func98, Tryz.func99, Tryz.func102, Tryz.func103, Tryz.func106, Tryz.func108, Tryz.func109, Tryz.func111, Tryz.func107, Tryz.func112, Tryz.underlying54, Tryz.runUnderlying54, Tryz.sizeOf54, Tryz.isAgg54, Tryz.zeroValue54, Tryz.underlying56, Tryz.runUnderlying56, Tryz.sizeOf56, Tryz.isAgg56, Tryz.zeroValue56, Tryz.underlying155, Tryz.runUnderlying155, Tryz.sizeOf155, Tryz.isAgg155, Tryz.zeroValue155, Tryz.underlying158, Tryz.runUnderlying158, Tryz.sizeOf158, Tryz.isAgg158, Tryz.zeroValue158, Tryz.underlying160, Tryz.runUnderlying160, Tryz.sizeOf160, Tryz.isAgg160, Tryz.zeroValue160, Tryz.underlying162, Tryz.runUnderlying162, Tryz.sizeOf162, Tryz.isAgg162, Tryz.zeroValue162, Tryz.underlying48, Tryz.runUnderlying48, Tryz.sizeOf48, Tryz.isAgg48, Tryz.zeroValue48, Tryz.underlying21, Tryz.runUnderlying21, Tryz.sizeOf21, Tryz.isAgg21, Tryz.zeroValue21, (by kernel_rfl)⟩
end Go.Proofs
