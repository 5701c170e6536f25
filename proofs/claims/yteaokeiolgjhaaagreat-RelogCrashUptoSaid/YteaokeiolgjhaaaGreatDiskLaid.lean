/- The library's sorted keys of a map: what the shelf's contracts ask of this program, spelled out. -/
import Derived.Test.YteaokeiolgjhaaaGreatProg
import Derived.Shelf.SlIterI.Sorted
import Derived.Shelf.SlIterI.Keys
import Derived.Shelf.SortM.Plain
import Derived.Shelf.SortM.SortNone
namespace Go.Proofs.YteaokeiolgjhaaaGreat.Dsk
open Go.RowKit Go.Maps Go.Sort Go.Shelf

def DirtyKeys_ren : Shelf.Ren where
  f := fun | 7 => 114 | 10 => 155 | n => n
  t := fun | 23 => 89 | 26 => 3 | 3 => 88 | 28 => 116 | 0 => 0 | 27 => 115 | 33 => 105 | 4 => 4 | n => n
  g := fun n => n
def DirtySorted_ren : Shelf.Ren where
  f := fun | 6 => 59 | 8 => 111 | 9 => 112 | 11 => 152 | 13 => 154 | 12 => 153 | 23 => 190 | 24 => 191 | 14 => 181 | 15 => 182 | 16 => 183 | 17 => 184 | 18 => 185 | 19 => 186 | 20 => 187 | 21 => 188 | 22 => 189 | 25 => 200 | 26 => 201 | 27 => 202 | 28 => 203 | 29 => 204 | 30 => 205 | 31 => 209 | n => n
  t := fun | 26 => 3 | 28 => 116 | 24 => 32 | 0 => 0 | 3 => 3 | 37 => 220 | 48 => 173 | 50 => 249 | 4 => 4 | 40 => 241 | 39 => 240 | 45 => 245 | 5 => 5 | 9 => 9 | 51 => 256 | 55 => 260 | 57 => 264 | 58 => 165 | 33 => 105 | n => n
  g := fun n => n
def DirtySort_ren : Shelf.Ren where
  f := fun | 5 => 112 | 8 => 154 | 7 => 153 | 19 => 190 | 20 => 191 | 10 => 181 | 11 => 182 | 12 => 183 | 13 => 184 | 14 => 185 | 15 => 186 | 16 => 187 | 17 => 188 | 18 => 189 | 30 => 200 | 31 => 201 | 32 => 202 | 33 => 203 | 34 => 204 | 35 => 205 | 40 => 209 | n => n
  t := fun | 23 => 32 | 25 => 3 | 3 => 3 | 32 => 220 | 22 => 32 | 0 => 0 | 44 => 173 | 46 => 249 | 4 => 4 | 36 => 241 | 35 => 240 | 41 => 245 | 5 => 5 | 9 => 9 | 53 => 256 | 57 => 260 | 63 => 264 | 64 => 165 | n => n
  g := fun n => n
theorem DirtyKeys : SlLaysZI.n7 Tryz.prog DirtyKeys_ren where
  mixed := rfl
  f7 := ⟨_, of_decide_eq_true (by kernel_rfl), Tryz.func114.trans (congrArg some rfl)⟩
  f10 := ⟨_, of_decide_eq_true (by kernel_rfl), Tryz.func155.trans (congrArg some rfl)⟩
  t0 := Tryz.underlying0
  a0 := Tryz.isAgg0
  z0 := Tryz.sizeOf0
  v0 := Tryz.zeroValue0
  t4 := Tryz.underlying4
  a4 := Tryz.isAgg4
  z4 := Tryz.sizeOf4
  v4 := Tryz.zeroValue4
  t23 := Tryz.underlying89
  a23 := Tryz.isAgg89
  z23 := Tryz.sizeOf89
  v23 := Tryz.zeroValue89
  t26 := Tryz.underlying3
  a26 := Tryz.isAgg3
  z26 := Tryz.sizeOf3
  v26 := Tryz.zeroValue3
  t27 := Tryz.underlying115
  a27 := Tryz.isAgg115
  z27 := Tryz.sizeOf115
  v27 := Tryz.zeroValue115
  t28 := Tryz.underlying116
  a28 := Tryz.isAgg116
  z28 := Tryz.sizeOf116
  v28 := Tryz.zeroValue116
  t33 := Tryz.underlying105
  a33 := Tryz.isAgg105
  z33 := Tryz.sizeOf105
  v33 := Tryz.zeroValue105
theorem DirtySorted : SlLaysZI.n6 Tryz.prog DirtySorted_ren where
  mixed := rfl
  f6 := ⟨_, of_decide_eq_true (by kernel_rfl), Tryz.func59.trans (congrArg some rfl)⟩
  f8 := ⟨_, of_decide_eq_true (by kernel_rfl), Tryz.func111.trans (congrArg some rfl)⟩
  f11 := ⟨_, of_decide_eq_true (by kernel_rfl), Tryz.func152.trans (congrArg some rfl)⟩
  t0 := Tryz.underlying0
  a0 := Tryz.isAgg0
  z0 := Tryz.sizeOf0
  v0 := Tryz.zeroValue0
  t24 := Tryz.underlying32
  a24 := Tryz.isAgg32
  z24 := Tryz.sizeOf32
  v24 := Tryz.zeroValue32
  t26 := Tryz.underlying3
  a26 := Tryz.isAgg3
  z26 := Tryz.sizeOf3
  v26 := Tryz.zeroValue3
  t28 := Tryz.underlying116
  a28 := Tryz.isAgg116
  z28 := Tryz.sizeOf116
  v28 := Tryz.zeroValue116
  i26 := by kernel_rfl
theorem DirtySort : SlLaysM.n5 Tryz.prog DirtySort_ren where
  mixed := rfl
  f5 := ⟨_, of_decide_eq_true (by kernel_rfl), Tryz.func112.trans (congrArg some rfl)⟩
  f7 := ⟨_, of_decide_eq_true (by kernel_rfl), Tryz.func153.trans (congrArg some rfl)⟩
  f8 := Tryz.func154.trans (congrArg some rfl)
  f10 := ⟨_, of_decide_eq_true (by kernel_rfl), Tryz.func181.trans (congrArg some rfl)⟩
  f11 := ⟨_, of_decide_eq_true (by kernel_rfl), Tryz.func182.trans (congrArg some rfl)⟩
  f12 := ⟨_, of_decide_eq_true (by kernel_rfl), Tryz.func183.trans (congrArg some rfl)⟩
  f13 := ⟨_, of_decide_eq_true (by kernel_rfl), Tryz.func184.trans (congrArg some rfl)⟩
  f14 := ⟨_, of_decide_eq_true (by kernel_rfl), Tryz.func185.trans (congrArg some rfl)⟩
  f15 := ⟨_, of_decide_eq_true (by kernel_rfl), Tryz.func186.trans (congrArg some rfl)⟩
  f16 := ⟨_, of_decide_eq_true (by kernel_rfl), Tryz.func187.trans (congrArg some rfl)⟩
  f17 := ⟨_, of_decide_eq_true (by kernel_rfl), Tryz.func188.trans (congrArg some rfl)⟩
  f18 := ⟨_, of_decide_eq_true (by kernel_rfl), Tryz.func189.trans (congrArg some rfl)⟩
  f19 := Tryz.func190.trans (congrArg some rfl)
  f20 := Tryz.func191.trans (congrArg some rfl)
  f30 := ⟨_, of_decide_eq_true (by kernel_rfl), Tryz.func200.trans (congrArg some rfl)⟩
  f31 := Tryz.func201.trans (congrArg some rfl)
  f32 := Tryz.func202.trans (congrArg some rfl)
  f33 := ⟨_, of_decide_eq_true (by kernel_rfl), Tryz.func203.trans (congrArg some rfl)⟩
  f34 := ⟨_, of_decide_eq_true (by kernel_rfl), Tryz.func204.trans (congrArg some rfl)⟩
  f35 := ⟨_, of_decide_eq_true (by kernel_rfl), Tryz.func205.trans (congrArg some rfl)⟩
  f40 := ⟨_, of_decide_eq_true (by kernel_rfl), Tryz.func209.trans (congrArg some rfl)⟩
  t0 := Tryz.underlying0
  a0 := Tryz.isAgg0
  z0 := Tryz.sizeOf0
  v0 := Tryz.zeroValue0
  t3 := Tryz.underlying3
  a3 := Tryz.isAgg3
  z3 := Tryz.sizeOf3
  v3 := Tryz.zeroValue3
  t4 := Tryz.underlying4
  a4 := Tryz.isAgg4
  z4 := Tryz.sizeOf4
  v4 := Tryz.zeroValue4
  t5 := Tryz.underlying5
  a5 := Tryz.isAgg5
  z5 := Tryz.sizeOf5
  v5 := Tryz.zeroValue5
  t9 := Tryz.underlying9
  a9 := Tryz.isAgg9
  z9 := Tryz.sizeOf9
  v9 := Tryz.zeroValue9
  t22 := Tryz.underlying32
  a22 := Tryz.isAgg32
  z22 := Tryz.sizeOf32
  v22 := Tryz.zeroValue32
  t23 := Tryz.underlying32
  a23 := Tryz.isAgg32
  z23 := Tryz.sizeOf32
  v23 := Tryz.zeroValue32
  t25 := Tryz.underlying3
  a25 := Tryz.isAgg3
  z25 := Tryz.sizeOf3
  v25 := Tryz.zeroValue3
  t32 := Tryz.underlying220
  a32 := Tryz.isAgg220
  z32 := Tryz.sizeOf220
  v32 := Tryz.zeroValue220
  t35 := Tryz.underlying240
  a35 := Tryz.isAgg240
  z35 := Tryz.sizeOf240
  v35 := Tryz.zeroValue240
  t36 := Tryz.underlying241
  a36 := Tryz.isAgg241
  z36 := Tryz.sizeOf241
  v36 := Tryz.zeroValue241
  t41 := Tryz.underlying245
  a41 := Tryz.isAgg245
  z41 := Tryz.sizeOf245
  v41 := Tryz.zeroValue245
  t44 := Tryz.underlying173
  a44 := Tryz.isAgg173
  z44 := Tryz.sizeOf173
  v44 := Tryz.zeroValue173
  t46 := Tryz.underlying249
  a46 := Tryz.isAgg249
  z46 := Tryz.sizeOf249
  v46 := Tryz.zeroValue249
  t53 := Tryz.underlying256
  a53 := Tryz.isAgg256
  z53 := Tryz.sizeOf256
  v53 := Tryz.zeroValue256
  t57 := Tryz.underlying260
  a57 := Tryz.isAgg260
  z57 := Tryz.sizeOf260
  v57 := Tryz.zeroValue260
  t63 := Tryz.underlying264
  a63 := Tryz.isAgg264
  z63 := Tryz.sizeOf264
  v63 := Tryz.zeroValue264
  t64 := Tryz.underlying165
  a64 := Tryz.isAgg165
  z64 := Tryz.sizeOf165
  v64 := Tryz.zeroValue165

theorem dirty_sorts (m : Nat) : AnyZI.SortsIn Tryz.prog DirtySorted_ren Fence.wide m :=
  ⟨fun blk off cap ss W hH hblk hsz => callsIn_wide.2 (AnyM.slices_Sort_int DirtySort blk off cap ss W hH hblk hsz),
   fun p cap W => callsIn_wide.2 (AnyM.slices_Sort_int_none DirtySort p cap W)⟩
end Go.Proofs.YteaokeiolgjhaaaGreat.Dsk
