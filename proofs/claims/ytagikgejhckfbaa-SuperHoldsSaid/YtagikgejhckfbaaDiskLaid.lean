/- The library's sorted keys of a map: what the shelf's contracts ask of this program, spelled out. -/
import Derived.Test.YtagikgejhckfbaaProg
import Derived.Shelf.SlIterI.Sorted
import Derived.Shelf.SlIterI.Keys
import Derived.Shelf.SortM.Plain
import Derived.Shelf.SortM.SortNone
namespace Go.Proofs.Ytagikgejhckfbaa.Dsk
open Go.RowKit Go.Maps Go.Sort Go.Shelf

def DirtyKeys_ren : Shelf.Ren where
  f := fun | 7 => 42 | 10 => 53 | n => n
  t := fun | 23 => 64 | 26 => 3 | 3 => 63 | 28 => 96 | 0 => 0 | 27 => 95 | 33 => 81 | 4 => 4 | n => n
  g := fun n => n
def DirtySorted_ren : Shelf.Ren where
  f := fun | 6 => 41 | 8 => 51 | 9 => 52 | 11 => 57 | 13 => 59 | 12 => 58 | 23 => 72 | 24 => 73 | 14 => 63 | 15 => 64 | 16 => 65 | 17 => 66 | 18 => 67 | 19 => 68 | 20 => 69 | 21 => 70 | 22 => 71 | 25 => 77 | 26 => 78 | 27 => 79 | 28 => 80 | 29 => 81 | 30 => 82 | 31 => 87 | n => n
  t := fun | 26 => 3 | 28 => 96 | 24 => 29 | 0 => 0 | 3 => 3 | 37 => 107 | 48 => 51 | 50 => 124 | 4 => 4 | 40 => 116 | 39 => 115 | 45 => 120 | 5 => 5 | 9 => 9 | 51 => 127 | 55 => 131 | 57 => 137 | 58 => 138 | 33 => 81 | n => n
  g := fun n => n
def DirtySort_ren : Shelf.Ren where
  f := fun | 5 => 52 | 8 => 59 | 7 => 58 | 19 => 72 | 20 => 73 | 10 => 63 | 11 => 64 | 12 => 65 | 13 => 66 | 14 => 67 | 15 => 68 | 16 => 69 | 17 => 70 | 18 => 71 | 30 => 77 | 31 => 78 | 32 => 79 | 33 => 80 | 34 => 81 | 35 => 82 | 40 => 87 | n => n
  t := fun | 23 => 29 | 25 => 3 | 3 => 3 | 32 => 107 | 22 => 29 | 0 => 0 | 44 => 51 | 46 => 124 | 4 => 4 | 36 => 116 | 35 => 115 | 41 => 120 | 5 => 5 | 9 => 9 | 53 => 127 | 57 => 131 | 63 => 137 | 64 => 138 | n => n
  g := fun n => n
theorem DirtyKeys : SlLaysZI.n7 Try.prog DirtyKeys_ren where
  mixed := rfl
  f7 := ⟨_, of_decide_eq_true (by kernel_rfl), Try.func42.trans (congrArg some rfl)⟩
  f10 := ⟨_, of_decide_eq_true (by kernel_rfl), Try.func53.trans (congrArg some rfl)⟩
  t0 := Try.underlying0
  a0 := Try.isAgg0
  z0 := Try.sizeOf0
  v0 := Try.zeroValue0
  t4 := Try.underlying4
  a4 := Try.isAgg4
  z4 := Try.sizeOf4
  v4 := Try.zeroValue4
  t23 := Try.underlying64
  a23 := Try.isAgg64
  z23 := Try.sizeOf64
  v23 := Try.zeroValue64
  t26 := Try.underlying3
  a26 := Try.isAgg3
  z26 := Try.sizeOf3
  v26 := Try.zeroValue3
  t27 := Try.underlying95
  a27 := Try.isAgg95
  z27 := Try.sizeOf95
  v27 := Try.zeroValue95
  t28 := Try.underlying96
  a28 := Try.isAgg96
  z28 := Try.sizeOf96
  v28 := Try.zeroValue96
  t33 := Try.underlying81
  a33 := Try.isAgg81
  z33 := Try.sizeOf81
  v33 := Try.zeroValue81
theorem DirtySorted : SlLaysZI.n6 Try.prog DirtySorted_ren where
  mixed := rfl
  f6 := ⟨_, of_decide_eq_true (by kernel_rfl), Try.func41.trans (congrArg some rfl)⟩
  f8 := ⟨_, of_decide_eq_true (by kernel_rfl), Try.func51.trans (congrArg some rfl)⟩
  f11 := ⟨_, of_decide_eq_true (by kernel_rfl), Try.func57.trans (congrArg some rfl)⟩
  t0 := Try.underlying0
  a0 := Try.isAgg0
  z0 := Try.sizeOf0
  v0 := Try.zeroValue0
  t24 := Try.underlying29
  a24 := Try.isAgg29
  z24 := Try.sizeOf29
  v24 := Try.zeroValue29
  t26 := Try.underlying3
  a26 := Try.isAgg3
  z26 := Try.sizeOf3
  v26 := Try.zeroValue3
  t28 := Try.underlying96
  a28 := Try.isAgg96
  z28 := Try.sizeOf96
  v28 := Try.zeroValue96
  i26 := by kernel_rfl
theorem DirtySort : SlLaysM.n5 Try.prog DirtySort_ren where
  mixed := rfl
  f5 := ⟨_, of_decide_eq_true (by kernel_rfl), Try.func52.trans (congrArg some rfl)⟩
  f7 := ⟨_, of_decide_eq_true (by kernel_rfl), Try.func58.trans (congrArg some rfl)⟩
  f8 := Try.func59.trans (congrArg some rfl)
  f10 := ⟨_, of_decide_eq_true (by kernel_rfl), Try.func63.trans (congrArg some rfl)⟩
  f11 := ⟨_, of_decide_eq_true (by kernel_rfl), Try.func64.trans (congrArg some rfl)⟩
  f12 := ⟨_, of_decide_eq_true (by kernel_rfl), Try.func65.trans (congrArg some rfl)⟩
  f13 := ⟨_, of_decide_eq_true (by kernel_rfl), Try.func66.trans (congrArg some rfl)⟩
  f14 := ⟨_, of_decide_eq_true (by kernel_rfl), Try.func67.trans (congrArg some rfl)⟩
  f15 := ⟨_, of_decide_eq_true (by kernel_rfl), Try.func68.trans (congrArg some rfl)⟩
  f16 := ⟨_, of_decide_eq_true (by kernel_rfl), Try.func69.trans (congrArg some rfl)⟩
  f17 := ⟨_, of_decide_eq_true (by kernel_rfl), Try.func70.trans (congrArg some rfl)⟩
  f18 := ⟨_, of_decide_eq_true (by kernel_rfl), Try.func71.trans (congrArg some rfl)⟩
  f19 := Try.func72.trans (congrArg some rfl)
  f20 := Try.func73.trans (congrArg some rfl)
  f30 := ⟨_, of_decide_eq_true (by kernel_rfl), Try.func77.trans (congrArg some rfl)⟩
  f31 := Try.func78.trans (congrArg some rfl)
  f32 := Try.func79.trans (congrArg some rfl)
  f33 := ⟨_, of_decide_eq_true (by kernel_rfl), Try.func80.trans (congrArg some rfl)⟩
  f34 := ⟨_, of_decide_eq_true (by kernel_rfl), Try.func81.trans (congrArg some rfl)⟩
  f35 := ⟨_, of_decide_eq_true (by kernel_rfl), Try.func82.trans (congrArg some rfl)⟩
  f40 := ⟨_, of_decide_eq_true (by kernel_rfl), Try.func87.trans (congrArg some rfl)⟩
  t0 := Try.underlying0
  a0 := Try.isAgg0
  z0 := Try.sizeOf0
  v0 := Try.zeroValue0
  t3 := Try.underlying3
  a3 := Try.isAgg3
  z3 := Try.sizeOf3
  v3 := Try.zeroValue3
  t4 := Try.underlying4
  a4 := Try.isAgg4
  z4 := Try.sizeOf4
  v4 := Try.zeroValue4
  t5 := Try.underlying5
  a5 := Try.isAgg5
  z5 := Try.sizeOf5
  v5 := Try.zeroValue5
  t9 := Try.underlying9
  a9 := Try.isAgg9
  z9 := Try.sizeOf9
  v9 := Try.zeroValue9
  t22 := Try.underlying29
  a22 := Try.isAgg29
  z22 := Try.sizeOf29
  v22 := Try.zeroValue29
  t23 := Try.underlying29
  a23 := Try.isAgg29
  z23 := Try.sizeOf29
  v23 := Try.zeroValue29
  t25 := Try.underlying3
  a25 := Try.isAgg3
  z25 := Try.sizeOf3
  v25 := Try.zeroValue3
  t32 := Try.underlying107
  a32 := Try.isAgg107
  z32 := Try.sizeOf107
  v32 := Try.zeroValue107
  t35 := Try.underlying115
  a35 := Try.isAgg115
  z35 := Try.sizeOf115
  v35 := Try.zeroValue115
  t36 := Try.underlying116
  a36 := Try.isAgg116
  z36 := Try.sizeOf116
  v36 := Try.zeroValue116
  t41 := Try.underlying120
  a41 := Try.isAgg120
  z41 := Try.sizeOf120
  v41 := Try.zeroValue120
  t44 := Try.underlying51
  a44 := Try.isAgg51
  z44 := Try.sizeOf51
  v44 := Try.zeroValue51
  t46 := Try.underlying124
  a46 := Try.isAgg124
  z46 := Try.sizeOf124
  v46 := Try.zeroValue124
  t53 := Try.underlying127
  a53 := Try.isAgg127
  z53 := Try.sizeOf127
  v53 := Try.zeroValue127
  t57 := Try.underlying131
  a57 := Try.isAgg131
  z57 := Try.sizeOf131
  v57 := Try.zeroValue131
  t63 := Try.underlying137
  a63 := Try.isAgg137
  z63 := Try.sizeOf137
  v63 := Try.zeroValue137
  t64 := Try.underlying138
  a64 := Try.isAgg138
  z64 := Try.sizeOf138
  v64 := Try.zeroValue138

theorem dirty_sorts (m : Nat) : AnyZI.SortsIn Try.prog DirtySorted_ren Fence.wide m :=
  ⟨fun blk off cap ss W hH hblk hsz => callsIn_wide.2 (AnyM.slices_Sort_int DirtySort blk off cap ss W hH hblk hsz),
   fun p cap W => callsIn_wide.2 (AnyM.slices_Sort_int_none DirtySort p cap W)⟩
end Go.Proofs.Ytagikgejhckfbaa.Dsk
