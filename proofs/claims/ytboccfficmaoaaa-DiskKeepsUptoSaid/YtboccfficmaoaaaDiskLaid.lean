/- The library's sorted keys of a map: what the shelf's contracts ask of this program, spelled out. -/
import Derived.Test.YtboccfficmaoaaaProg
import Derived.Shelf.SlIterI.Sorted
import Derived.Shelf.SlIterI.Keys
import Derived.Shelf.SortM.Plain
import Derived.Shelf.SortM.SortNone
namespace Go.Proofs.Ytboccfficmaoaaa.Dsk
open Go.RowKit Go.Maps Go.Sort Go.Shelf

def DirtyKeys_ren : Shelf.Ren where
  f := fun | 7 => 70 | 10 => 89 | n => n
  t := fun | 23 => 126 | 26 => 3 | 3 => 125 | 28 => 140 | 0 => 0 | 27 => 139 | 33 => 132 | 4 => 4 | n => n
  g := fun n => n
def DirtySorted_ren : Shelf.Ren where
  f := fun | 6 => 69 | 8 => 87 | 9 => 88 | 11 => 93 | 13 => 95 | 12 => 94 | 23 => 107 | 24 => 108 | 14 => 98 | 15 => 99 | 16 => 100 | 17 => 101 | 18 => 102 | 19 => 103 | 20 => 104 | 21 => 105 | 22 => 106 | 25 => 112 | 26 => 113 | 27 => 114 | 28 => 115 | 29 => 116 | 30 => 117 | 31 => 121 | n => n
  t := fun | 26 => 3 | 28 => 140 | 24 => 31 | 0 => 0 | 3 => 3 | 37 => 148 | 48 => 32 | 50 => 175 | 4 => 4 | 40 => 167 | 39 => 166 | 45 => 171 | 5 => 5 | 9 => 9 | 51 => 177 | 55 => 181 | 57 => 185 | 58 => 186 | 33 => 132 | n => n
  g := fun n => n
def DirtySort_ren : Shelf.Ren where
  f := fun | 5 => 88 | 8 => 95 | 7 => 94 | 19 => 107 | 20 => 108 | 10 => 98 | 11 => 99 | 12 => 100 | 13 => 101 | 14 => 102 | 15 => 103 | 16 => 104 | 17 => 105 | 18 => 106 | 30 => 112 | 31 => 113 | 32 => 114 | 33 => 115 | 34 => 116 | 35 => 117 | 40 => 121 | n => n
  t := fun | 23 => 31 | 25 => 3 | 3 => 3 | 32 => 148 | 22 => 31 | 0 => 0 | 44 => 32 | 46 => 175 | 4 => 4 | 36 => 167 | 35 => 166 | 41 => 171 | 5 => 5 | 9 => 9 | 53 => 177 | 57 => 181 | 63 => 185 | 64 => 186 | n => n
  g := fun n => n
theorem DirtyKeys : SlLaysZI.n7 Try.prog DirtyKeys_ren where
  mixed := rfl
  f7 := ⟨_, of_decide_eq_true (by kernel_rfl), Try.func70.trans (congrArg some rfl)⟩
  f10 := ⟨_, of_decide_eq_true (by kernel_rfl), Try.func89.trans (congrArg some rfl)⟩
  t0 := Try.underlying0
  a0 := Try.isAgg0
  z0 := Try.sizeOf0
  v0 := Try.zeroValue0
  t4 := Try.underlying4
  a4 := Try.isAgg4
  z4 := Try.sizeOf4
  v4 := Try.zeroValue4
  t23 := Try.underlying126
  a23 := Try.isAgg126
  z23 := Try.sizeOf126
  v23 := Try.zeroValue126
  t26 := Try.underlying3
  a26 := Try.isAgg3
  z26 := Try.sizeOf3
  v26 := Try.zeroValue3
  t27 := Try.underlying139
  a27 := Try.isAgg139
  z27 := Try.sizeOf139
  v27 := Try.zeroValue139
  t28 := Try.underlying140
  a28 := Try.isAgg140
  z28 := Try.sizeOf140
  v28 := Try.zeroValue140
  t33 := Try.underlying132
  a33 := Try.isAgg132
  z33 := Try.sizeOf132
  v33 := Try.zeroValue132
theorem DirtySorted : SlLaysZI.n6 Try.prog DirtySorted_ren where
  mixed := rfl
  f6 := ⟨_, of_decide_eq_true (by kernel_rfl), Try.func69.trans (congrArg some rfl)⟩
  f8 := ⟨_, of_decide_eq_true (by kernel_rfl), Try.func87.trans (congrArg some rfl)⟩
  f11 := ⟨_, of_decide_eq_true (by kernel_rfl), Try.func93.trans (congrArg some rfl)⟩
  t0 := Try.underlying0
  a0 := Try.isAgg0
  z0 := Try.sizeOf0
  v0 := Try.zeroValue0
  t24 := Try.underlying31
  a24 := Try.isAgg31
  z24 := Try.sizeOf31
  v24 := Try.zeroValue31
  t26 := Try.underlying3
  a26 := Try.isAgg3
  z26 := Try.sizeOf3
  v26 := Try.zeroValue3
  t28 := Try.underlying140
  a28 := Try.isAgg140
  z28 := Try.sizeOf140
  v28 := Try.zeroValue140
  i26 := by kernel_rfl
theorem DirtySort : SlLaysM.n5 Try.prog DirtySort_ren where
  mixed := rfl
  f5 := ⟨_, of_decide_eq_true (by kernel_rfl), Try.func88.trans (congrArg some rfl)⟩
  f7 := ⟨_, of_decide_eq_true (by kernel_rfl), Try.func94.trans (congrArg some rfl)⟩
  f8 := Try.func95.trans (congrArg some rfl)
  f10 := ⟨_, of_decide_eq_true (by kernel_rfl), Try.func98.trans (congrArg some rfl)⟩
  f11 := ⟨_, of_decide_eq_true (by kernel_rfl), Try.func99.trans (congrArg some rfl)⟩
  f12 := ⟨_, of_decide_eq_true (by kernel_rfl), Try.func100.trans (congrArg some rfl)⟩
  f13 := ⟨_, of_decide_eq_true (by kernel_rfl), Try.func101.trans (congrArg some rfl)⟩
  f14 := ⟨_, of_decide_eq_true (by kernel_rfl), Try.func102.trans (congrArg some rfl)⟩
  f15 := ⟨_, of_decide_eq_true (by kernel_rfl), Try.func103.trans (congrArg some rfl)⟩
  f16 := ⟨_, of_decide_eq_true (by kernel_rfl), Try.func104.trans (congrArg some rfl)⟩
  f17 := ⟨_, of_decide_eq_true (by kernel_rfl), Try.func105.trans (congrArg some rfl)⟩
  f18 := ⟨_, of_decide_eq_true (by kernel_rfl), Try.func106.trans (congrArg some rfl)⟩
  f19 := Try.func107.trans (congrArg some rfl)
  f20 := Try.func108.trans (congrArg some rfl)
  f30 := ⟨_, of_decide_eq_true (by kernel_rfl), Try.func112.trans (congrArg some rfl)⟩
  f31 := Try.func113.trans (congrArg some rfl)
  f32 := Try.func114.trans (congrArg some rfl)
  f33 := ⟨_, of_decide_eq_true (by kernel_rfl), Try.func115.trans (congrArg some rfl)⟩
  f34 := ⟨_, of_decide_eq_true (by kernel_rfl), Try.func116.trans (congrArg some rfl)⟩
  f35 := ⟨_, of_decide_eq_true (by kernel_rfl), Try.func117.trans (congrArg some rfl)⟩
  f40 := ⟨_, of_decide_eq_true (by kernel_rfl), Try.func121.trans (congrArg some rfl)⟩
  t0 := Try.underlying0
  a0 := Try.isAgg0
  z0 := Try.sizeOf0
  v0 := Try.zeroValue0
  t3 := Try.underlying3
  a3 := Try.isAgg3
  z3 := Try.sizeOf3
  v3 := Try.zeroValue3
  t4 := Try.underlying4
  a4 := Try.isAgg4
  z4 := Try.sizeOf4
  v4 := Try.zeroValue4
  t5 := Try.underlying5
  a5 := Try.isAgg5
  z5 := Try.sizeOf5
  v5 := Try.zeroValue5
  t9 := Try.underlying9
  a9 := Try.isAgg9
  z9 := Try.sizeOf9
  v9 := Try.zeroValue9
  t22 := Try.underlying31
  a22 := Try.isAgg31
  z22 := Try.sizeOf31
  v22 := Try.zeroValue31
  t23 := Try.underlying31
  a23 := Try.isAgg31
  z23 := Try.sizeOf31
  v23 := Try.zeroValue31
  t25 := Try.underlying3
  a25 := Try.isAgg3
  z25 := Try.sizeOf3
  v25 := Try.zeroValue3
  t32 := Try.underlying148
  a32 := Try.isAgg148
  z32 := Try.sizeOf148
  v32 := Try.zeroValue148
  t35 := Try.underlying166
  a35 := Try.isAgg166
  z35 := Try.sizeOf166
  v35 := Try.zeroValue166
  t36 := Try.underlying167
  a36 := Try.isAgg167
  z36 := Try.sizeOf167
  v36 := Try.zeroValue167
  t41 := Try.underlying171
  a41 := Try.isAgg171
  z41 := Try.sizeOf171
  v41 := Try.zeroValue171
  t44 := Try.underlying32
  a44 := Try.isAgg32
  z44 := Try.sizeOf32
  v44 := Try.zeroValue32
  t46 := Try.underlying175
  a46 := Try.isAgg175
  z46 := Try.sizeOf175
  v46 := Try.zeroValue175
  t53 := Try.underlying177
  a53 := Try.isAgg177
  z53 := Try.sizeOf177
  v53 := Try.zeroValue177
  t57 := Try.underlying181
  a57 := Try.isAgg181
  z57 := Try.sizeOf181
  v57 := Try.zeroValue181
  t63 := Try.underlying185
  a63 := Try.isAgg185
  z63 := Try.sizeOf185
  v63 := Try.zeroValue185
  t64 := Try.underlying186
  a64 := Try.isAgg186
  z64 := Try.sizeOf186
  v64 := Try.zeroValue186

theorem dirty_sorts (m : Nat) : AnyZI.SortsIn Try.prog DirtySorted_ren Fence.wide m :=
  ⟨fun blk off cap ss W hH hblk hsz => callsIn_wide.2 (AnyM.slices_Sort_int DirtySort blk off cap ss W hH hblk hsz),
   fun p cap W => callsIn_wide.2 (AnyM.slices_Sort_int_none DirtySort p cap W)⟩
end Go.Proofs.Ytboccfficmaoaaa.Dsk
