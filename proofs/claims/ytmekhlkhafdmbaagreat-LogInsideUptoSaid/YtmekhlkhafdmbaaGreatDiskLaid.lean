/- The library's sorted keys of a map: what the shelf's contracts ask of this program, spelled out. -/
import Derived.Test.YtmekhlkhafdmbaaGreatProg
import Derived.Shelf.SlIterI.Sorted
import Derived.Shelf.SlIterI.Keys
import Derived.Shelf.SortM.Plain
import Derived.Shelf.SortM.SortNone
namespace Go.Proofs.YtmekhlkhafdmbaaGreat.Dsk
open Go.RowKit Go.Maps Go.Sort Go.Shelf

def DirtyKeys_ren : Shelf.Ren where
  f := fun | 7 => 35 | 10 => 52 | n => n
  t := fun | 23 => 71 | 26 => 3 | 3 => 70 | 28 => 98 | 0 => 0 | 27 => 97 | 33 => 89 | 4 => 4 | n => n
  g := fun n => n
def DirtySorted_ren : Shelf.Ren where
  f := fun | 6 => 34 | 8 => 50 | 9 => 51 | 11 => 68 | 13 => 70 | 12 => 69 | 23 => 84 | 24 => 85 | 14 => 75 | 15 => 76 | 16 => 77 | 17 => 78 | 18 => 79 | 19 => 80 | 20 => 81 | 21 => 82 | 22 => 83 | 25 => 89 | 26 => 90 | 27 => 91 | 28 => 92 | 29 => 93 | 30 => 94 | 31 => 99 | n => n
  t := fun | 26 => 3 | 28 => 98 | 24 => 35 | 0 => 0 | 3 => 3 | 37 => 137 | 48 => 58 | 50 => 151 | 4 => 4 | 40 => 143 | 39 => 142 | 45 => 147 | 5 => 5 | 9 => 9 | 51 => 155 | 55 => 159 | 57 => 165 | 58 => 38 | 33 => 89 | n => n
  g := fun n => n
def DirtySort_ren : Shelf.Ren where
  f := fun | 5 => 51 | 8 => 70 | 7 => 69 | 19 => 84 | 20 => 85 | 10 => 75 | 11 => 76 | 12 => 77 | 13 => 78 | 14 => 79 | 15 => 80 | 16 => 81 | 17 => 82 | 18 => 83 | 30 => 89 | 31 => 90 | 32 => 91 | 33 => 92 | 34 => 93 | 35 => 94 | 40 => 99 | n => n
  t := fun | 23 => 35 | 25 => 3 | 3 => 3 | 32 => 137 | 22 => 35 | 0 => 0 | 44 => 58 | 46 => 151 | 4 => 4 | 36 => 143 | 35 => 142 | 41 => 147 | 5 => 5 | 9 => 9 | 53 => 155 | 57 => 159 | 63 => 165 | 64 => 38 | n => n
  g := fun n => n
theorem DirtyKeys : SlLaysZI.n7 Tryz.prog DirtyKeys_ren where
  mixed := rfl
  f7 := ⟨_, of_decide_eq_true (by kernel_rfl), Tryz.func35.trans (congrArg some rfl)⟩
  f10 := ⟨_, of_decide_eq_true (by kernel_rfl), Tryz.func52.trans (congrArg some rfl)⟩
  t0 := Tryz.underlying0
  a0 := Tryz.isAgg0
  z0 := Tryz.sizeOf0
  v0 := Tryz.zeroValue0
  t4 := Tryz.underlying4
  a4 := Tryz.isAgg4
  z4 := Tryz.sizeOf4
  v4 := Tryz.zeroValue4
  t23 := Tryz.underlying71
  a23 := Tryz.isAgg71
  z23 := Tryz.sizeOf71
  v23 := Tryz.zeroValue71
  t26 := Tryz.underlying3
  a26 := Tryz.isAgg3
  z26 := Tryz.sizeOf3
  v26 := Tryz.zeroValue3
  t27 := Tryz.underlying97
  a27 := Tryz.isAgg97
  z27 := Tryz.sizeOf97
  v27 := Tryz.zeroValue97
  t28 := Tryz.underlying98
  a28 := Tryz.isAgg98
  z28 := Tryz.sizeOf98
  v28 := Tryz.zeroValue98
  t33 := Tryz.underlying89
  a33 := Tryz.isAgg89
  z33 := Tryz.sizeOf89
  v33 := Tryz.zeroValue89
theorem DirtySorted : SlLaysZI.n6 Tryz.prog DirtySorted_ren where
  mixed := rfl
  f6 := ⟨_, of_decide_eq_true (by kernel_rfl), Tryz.func34.trans (congrArg some rfl)⟩
  f8 := ⟨_, of_decide_eq_true (by kernel_rfl), Tryz.func50.trans (congrArg some rfl)⟩
  f11 := ⟨_, of_decide_eq_true (by kernel_rfl), Tryz.func68.trans (congrArg some rfl)⟩
  t0 := Tryz.underlying0
  a0 := Tryz.isAgg0
  z0 := Tryz.sizeOf0
  v0 := Tryz.zeroValue0
  t24 := Tryz.underlying35
  a24 := Tryz.isAgg35
  z24 := Tryz.sizeOf35
  v24 := Tryz.zeroValue35
  t26 := Tryz.underlying3
  a26 := Tryz.isAgg3
  z26 := Tryz.sizeOf3
  v26 := Tryz.zeroValue3
  t28 := Tryz.underlying98
  a28 := Tryz.isAgg98
  z28 := Tryz.sizeOf98
  v28 := Tryz.zeroValue98
  i26 := by kernel_rfl
theorem DirtySort : SlLaysM.n5 Tryz.prog DirtySort_ren where
  mixed := rfl
  f5 := ⟨_, of_decide_eq_true (by kernel_rfl), Tryz.func51.trans (congrArg some rfl)⟩
  f7 := ⟨_, of_decide_eq_true (by kernel_rfl), Tryz.func69.trans (congrArg some rfl)⟩
  f8 := Tryz.func70.trans (congrArg some rfl)
  f10 := ⟨_, of_decide_eq_true (by kernel_rfl), Tryz.func75.trans (congrArg some rfl)⟩
  f11 := ⟨_, of_decide_eq_true (by kernel_rfl), Tryz.func76.trans (congrArg some rfl)⟩
  f12 := ⟨_, of_decide_eq_true (by kernel_rfl), Tryz.func77.trans (congrArg some rfl)⟩
  f13 := ⟨_, of_decide_eq_true (by kernel_rfl), Tryz.func78.trans (congrArg some rfl)⟩
  f14 := ⟨_, of_decide_eq_true (by kernel_rfl), Tryz.func79.trans (congrArg some rfl)⟩
  f15 := ⟨_, of_decide_eq_true (by kernel_rfl), Tryz.func80.trans (congrArg some rfl)⟩
  f16 := ⟨_, of_decide_eq_true (by kernel_rfl), Tryz.func81.trans (congrArg some rfl)⟩
  f17 := ⟨_, of_decide_eq_true (by kernel_rfl), Tryz.func82.trans (congrArg some rfl)⟩
  f18 := ⟨_, of_decide_eq_true (by kernel_rfl), Tryz.func83.trans (congrArg some rfl)⟩
  f19 := Tryz.func84.trans (congrArg some rfl)
  f20 := Tryz.func85.trans (congrArg some rfl)
  f30 := ⟨_, of_decide_eq_true (by kernel_rfl), Tryz.func89.trans (congrArg some rfl)⟩
  f31 := Tryz.func90.trans (congrArg some rfl)
  f32 := Tryz.func91.trans (congrArg some rfl)
  f33 := ⟨_, of_decide_eq_true (by kernel_rfl), Tryz.func92.trans (congrArg some rfl)⟩
  f34 := ⟨_, of_decide_eq_true (by kernel_rfl), Tryz.func93.trans (congrArg some rfl)⟩
  f35 := ⟨_, of_decide_eq_true (by kernel_rfl), Tryz.func94.trans (congrArg some rfl)⟩
  f40 := ⟨_, of_decide_eq_true (by kernel_rfl), Tryz.func99.trans (congrArg some rfl)⟩
  t0 := Tryz.underlying0
  a0 := Tryz.isAgg0
  z0 := Tryz.sizeOf0
  v0 := Tryz.zeroValue0
  t3 := Tryz.underlying3
  a3 := Tryz.isAgg3
  z3 := Tryz.sizeOf3
  v3 := Tryz.zeroValue3
  t4 := Tryz.underlying4
  a4 := Tryz.isAgg4
  z4 := Tryz.sizeOf4
  v4 := Tryz.zeroValue4
  t5 := Tryz.underlying5
  a5 := Tryz.isAgg5
  z5 := Tryz.sizeOf5
  v5 := Tryz.zeroValue5
  t9 := Tryz.underlying9
  a9 := Tryz.isAgg9
  z9 := Tryz.sizeOf9
  v9 := Tryz.zeroValue9
  t22 := Tryz.underlying35
  a22 := Tryz.isAgg35
  z22 := Tryz.sizeOf35
  v22 := Tryz.zeroValue35
  t23 := Tryz.underlying35
  a23 := Tryz.isAgg35
  z23 := Tryz.sizeOf35
  v23 := Tryz.zeroValue35
  t25 := Tryz.underlying3
  a25 := Tryz.isAgg3
  z25 := Tryz.sizeOf3
  v25 := Tryz.zeroValue3
  t32 := Tryz.underlying137
  a32 := Tryz.isAgg137
  z32 := Tryz.sizeOf137
  v32 := Tryz.zeroValue137
  t35 := Tryz.underlying142
  a35 := Tryz.isAgg142
  z35 := Tryz.sizeOf142
  v35 := Tryz.zeroValue142
  t36 := Tryz.underlying143
  a36 := Tryz.isAgg143
  z36 := Tryz.sizeOf143
  v36 := Tryz.zeroValue143
  t41 := Tryz.underlying147
  a41 := Tryz.isAgg147
  z41 := Tryz.sizeOf147
  v41 := Tryz.zeroValue147
  t44 := Tryz.underlying58
  a44 := Tryz.isAgg58
  z44 := Tryz.sizeOf58
  v44 := Tryz.zeroValue58
  t46 := Tryz.underlying151
  a46 := Tryz.isAgg151
  z46 := Tryz.sizeOf151
  v46 := Tryz.zeroValue151
  t53 := Tryz.underlying155
  a53 := Tryz.isAgg155
  z53 := Tryz.sizeOf155
  v53 := Tryz.zeroValue155
  t57 := Tryz.underlying159
  a57 := Tryz.isAgg159
  z57 := Tryz.sizeOf159
  v57 := Tryz.zeroValue159
  t63 := Tryz.underlying165
  a63 := Tryz.isAgg165
  z63 := Tryz.sizeOf165
  v63 := Tryz.zeroValue165
  t64 := Tryz.underlying38
  a64 := Tryz.isAgg38
  z64 := Tryz.sizeOf38
  v64 := Tryz.zeroValue38

theorem dirty_sorts (m : Nat) : AnyZI.SortsIn Tryz.prog DirtySorted_ren Fence.wide m :=
  ⟨fun blk off cap ss W hH hblk hsz => callsIn_wide.2 (AnyM.slices_Sort_int DirtySort blk off cap ss W hH hblk hsz),
   fun p cap W => callsIn_wide.2 (AnyM.slices_Sort_int_none DirtySort p cap W)⟩
end Go.Proofs.YtmekhlkhafdmbaaGreat.Dsk
