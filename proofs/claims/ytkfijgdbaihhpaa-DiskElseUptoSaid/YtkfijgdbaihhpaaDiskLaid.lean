/- The library's sorted keys of a map: what the shelf's contracts ask of this program, spelled out. -/
import Derived.Test.YtkfijgdbaihhpaaProg
import Derived.Shelf.SlIterI.Sorted
import Derived.Shelf.SlIterI.Keys
import Derived.Shelf.SortM.Plain
import Derived.Shelf.SortM.SortNone
namespace Go.Proofs.Ytkfijgdbaihhpaa.Dsk
open Go.RowKit Go.Maps Go.Sort Go.Shelf

def DirtyKeys_ren : Shelf.Ren where
  f := fun | 7 => 33 | 10 => 47 | n => n
  t := fun | 23 => 60 | 26 => 3 | 3 => 59 | 28 => 68 | 0 => 0 | 27 => 67 | 33 => 57 | 4 => 4 | n => n
  g := fun n => n
def DirtySorted_ren : Shelf.Ren where
  f := fun | 6 => 32 | 8 => 45 | 9 => 46 | 11 => 48 | 13 => 50 | 12 => 49 | 23 => 60 | 24 => 61 | 14 => 51 | 15 => 52 | 16 => 53 | 17 => 54 | 18 => 55 | 19 => 56 | 20 => 57 | 21 => 58 | 22 => 59 | 25 => 62 | 26 => 63 | 27 => 64 | 28 => 65 | 29 => 66 | 30 => 67 | 31 => 68 | n => n
  t := fun | 26 => 3 | 28 => 68 | 24 => 32 | 0 => 0 | 3 => 3 | 37 => 79 | 48 => 89 | 50 => 91 | 4 => 4 | 40 => 82 | 39 => 81 | 45 => 86 | 5 => 5 | 9 => 9 | 51 => 92 | 55 => 96 | 57 => 98 | 58 => 99 | 33 => 57 | n => n
  g := fun n => n
def DirtySort_ren : Shelf.Ren where
  f := fun | 5 => 46 | 8 => 50 | 7 => 49 | 19 => 60 | 20 => 61 | 10 => 51 | 11 => 52 | 12 => 53 | 13 => 54 | 14 => 55 | 15 => 56 | 16 => 57 | 17 => 58 | 18 => 59 | 30 => 62 | 31 => 63 | 32 => 64 | 33 => 65 | 34 => 66 | 35 => 67 | 40 => 68 | n => n
  t := fun | 23 => 32 | 25 => 3 | 3 => 3 | 32 => 79 | 22 => 32 | 0 => 0 | 44 => 89 | 46 => 91 | 4 => 4 | 36 => 82 | 35 => 81 | 41 => 86 | 5 => 5 | 9 => 9 | 53 => 92 | 57 => 96 | 63 => 98 | 64 => 99 | n => n
  g := fun n => n
theorem DirtyKeys : SlLaysZI.n7 Try.prog DirtyKeys_ren where
  mixed := rfl
  f7 := ⟨_, of_decide_eq_true (by kernel_rfl), Try.func33.trans (congrArg some rfl)⟩
  f10 := ⟨_, of_decide_eq_true (by kernel_rfl), Try.func47.trans (congrArg some rfl)⟩
  t0 := Try.underlying0
  a0 := Try.isAgg0
  z0 := Try.sizeOf0
  v0 := Try.zeroValue0
  t4 := Try.underlying4
  a4 := Try.isAgg4
  z4 := Try.sizeOf4
  v4 := Try.zeroValue4
  t23 := Try.underlying60
  a23 := Try.isAgg60
  z23 := Try.sizeOf60
  v23 := Try.zeroValue60
  t26 := Try.underlying3
  a26 := Try.isAgg3
  z26 := Try.sizeOf3
  v26 := Try.zeroValue3
  t27 := Try.underlying67
  a27 := Try.isAgg67
  z27 := Try.sizeOf67
  v27 := Try.zeroValue67
  t28 := Try.underlying68
  a28 := Try.isAgg68
  z28 := Try.sizeOf68
  v28 := Try.zeroValue68
  t33 := Try.underlying57
  a33 := Try.isAgg57
  z33 := Try.sizeOf57
  v33 := Try.zeroValue57
theorem DirtySorted : SlLaysZI.n6 Try.prog DirtySorted_ren where
  mixed := rfl
  f6 := ⟨_, of_decide_eq_true (by kernel_rfl), Try.func32.trans (congrArg some rfl)⟩
  f8 := ⟨_, of_decide_eq_true (by kernel_rfl), Try.func45.trans (congrArg some rfl)⟩
  f11 := ⟨_, of_decide_eq_true (by kernel_rfl), Try.func48.trans (congrArg some rfl)⟩
  t0 := Try.underlying0
  a0 := Try.isAgg0
  z0 := Try.sizeOf0
  v0 := Try.zeroValue0
  t24 := Try.underlying32
  a24 := Try.isAgg32
  z24 := Try.sizeOf32
  v24 := Try.zeroValue32
  t26 := Try.underlying3
  a26 := Try.isAgg3
  z26 := Try.sizeOf3
  v26 := Try.zeroValue3
  t28 := Try.underlying68
  a28 := Try.isAgg68
  z28 := Try.sizeOf68
  v28 := Try.zeroValue68
  i26 := by kernel_rfl
theorem DirtySort : SlLaysM.n5 Try.prog DirtySort_ren where
  mixed := rfl
  f5 := ⟨_, of_decide_eq_true (by kernel_rfl), Try.func46.trans (congrArg some rfl)⟩
  f7 := ⟨_, of_decide_eq_true (by kernel_rfl), Try.func49.trans (congrArg some rfl)⟩
  f8 := Try.func50.trans (congrArg some rfl)
  f10 := ⟨_, of_decide_eq_true (by kernel_rfl), Try.func51.trans (congrArg some rfl)⟩
  f11 := ⟨_, of_decide_eq_true (by kernel_rfl), Try.func52.trans (congrArg some rfl)⟩
  f12 := ⟨_, of_decide_eq_true (by kernel_rfl), Try.func53.trans (congrArg some rfl)⟩
  f13 := ⟨_, of_decide_eq_true (by kernel_rfl), Try.func54.trans (congrArg some rfl)⟩
  f14 := ⟨_, of_decide_eq_true (by kernel_rfl), Try.func55.trans (congrArg some rfl)⟩
  f15 := ⟨_, of_decide_eq_true (by kernel_rfl), Try.func56.trans (congrArg some rfl)⟩
  f16 := ⟨_, of_decide_eq_true (by kernel_rfl), Try.func57.trans (congrArg some rfl)⟩
  f17 := ⟨_, of_decide_eq_true (by kernel_rfl), Try.func58.trans (congrArg some rfl)⟩
  f18 := ⟨_, of_decide_eq_true (by kernel_rfl), Try.func59.trans (congrArg some rfl)⟩
  f19 := Try.func60.trans (congrArg some rfl)
  f20 := Try.func61.trans (congrArg some rfl)
  f30 := ⟨_, of_decide_eq_true (by kernel_rfl), Try.func62.trans (congrArg some rfl)⟩
  f31 := Try.func63.trans (congrArg some rfl)
  f32 := Try.func64.trans (congrArg some rfl)
  f33 := ⟨_, of_decide_eq_true (by kernel_rfl), Try.func65.trans (congrArg some rfl)⟩
  f34 := ⟨_, of_decide_eq_true (by kernel_rfl), Try.func66.trans (congrArg some rfl)⟩
  f35 := ⟨_, of_decide_eq_true (by kernel_rfl), Try.func67.trans (congrArg some rfl)⟩
  f40 := ⟨_, of_decide_eq_true (by kernel_rfl), Try.func68.trans (congrArg some rfl)⟩
  t0 := Try.underlying0
  a0 := Try.isAgg0
  z0 := Try.sizeOf0
  v0 := Try.zeroValue0
  t3 := Try.underlying3
  a3 := Try.isAgg3
  z3 := Try.sizeOf3
  v3 := Try.zeroValue3
  t4 := Try.underlying4
  a4 := Try.isAgg4
  z4 := Try.sizeOf4
  v4 := Try.zeroValue4
  t5 := Try.underlying5
  a5 := Try.isAgg5
  z5 := Try.sizeOf5
  v5 := Try.zeroValue5
  t9 := Try.underlying9
  a9 := Try.isAgg9
  z9 := Try.sizeOf9
  v9 := Try.zeroValue9
  t22 := Try.underlying32
  a22 := Try.isAgg32
  z22 := Try.sizeOf32
  v22 := Try.zeroValue32
  t23 := Try.underlying32
  a23 := Try.isAgg32
  z23 := Try.sizeOf32
  v23 := Try.zeroValue32
  t25 := Try.underlying3
  a25 := Try.isAgg3
  z25 := Try.sizeOf3
  v25 := Try.zeroValue3
  t32 := Try.underlying79
  a32 := Try.isAgg79
  z32 := Try.sizeOf79
  v32 := Try.zeroValue79
  t35 := Try.underlying81
  a35 := Try.isAgg81
  z35 := Try.sizeOf81
  v35 := Try.zeroValue81
  t36 := Try.underlying82
  a36 := Try.isAgg82
  z36 := Try.sizeOf82
  v36 := Try.zeroValue82
  t41 := Try.underlying86
  a41 := Try.isAgg86
  z41 := Try.sizeOf86
  v41 := Try.zeroValue86
  t44 := Try.underlying89
  a44 := Try.isAgg89
  z44 := Try.sizeOf89
  v44 := Try.zeroValue89
  t46 := Try.underlying91
  a46 := Try.isAgg91
  z46 := Try.sizeOf91
  v46 := Try.zeroValue91
  t53 := Try.underlying92
  a53 := Try.isAgg92
  z53 := Try.sizeOf92
  v53 := Try.zeroValue92
  t57 := Try.underlying96
  a57 := Try.isAgg96
  z57 := Try.sizeOf96
  v57 := Try.zeroValue96
  t63 := Try.underlying98
  a63 := Try.isAgg98
  z63 := Try.sizeOf98
  v63 := Try.zeroValue98
  t64 := Try.underlying99
  a64 := Try.isAgg99
  z64 := Try.sizeOf99
  v64 := Try.zeroValue99

theorem dirty_sorts (m : Nat) : AnyZI.SortsIn Try.prog DirtySorted_ren Fence.wide m :=
  ⟨fun blk off cap ss W hH hblk hsz => callsIn_wide.2 (AnyM.slices_Sort_int DirtySort blk off cap ss W hH hblk hsz),
   fun p cap W => callsIn_wide.2 (AnyM.slices_Sort_int_none DirtySort p cap W)⟩
end Go.Proofs.Ytkfijgdbaihhpaa.Dsk
