/- The contract of slices.Sort at ints: its laying over this dump, as the shelf's tool prints it (layer 8). -/
import Derived.Shelf.SlGeneric
import Derived.Shelf.SortG.Plain
import Derived.Shelf.SortG.SortNone
import Derived.Ground.SlgnProg
import Derived.Test.YtooopcadefpncaaChecked
namespace Go.Proofs.Ytooopcadefpncaa
open Go.Shelf
def sortLays_ren : Go.Shelf.Ren := ⟨fun | 53 => 64 | 64 => 76 | 63 => 75 | 78 => 88 | 79 => 89 | 70 => 79 | 71 => 80 | 72 => 81 | 73 => 82 | 74 => 83 | 75 => 84 | 59 => 85 | 76 => 86 | 77 => 87 | 88 => 90 | 89 => 91 | 90 => 92 | 91 => 93 | 92 => 94 | 68 => 95 | 96 => 96 | n => n, fun | 22 => 77 | 23 => 3 | 3 => 3 | 51 => 105 | 0 => 0 | 67 => 116 | 69 => 118 | 4 => 4 | 61 => 109 | 60 => 108 | 44 => 72 | 5 => 5 | 9 => 9 | 75 => 119 | 79 => 123 | 83 => 125 | 84 => 126 | n => n, fun | n => n⟩
theorem sortLays : Go.Proofs.SlLaysN.n53 Try.prog sortLays_ren := {
  mixed := by kernel_rfl
  f53 := ⟨Try.f64.name, by decide, Try.func64.trans (congrArg some (by kernel_rfl))⟩
  f59 := ⟨Try.f85.name, by decide, Try.func85.trans (congrArg some (by kernel_rfl))⟩
  f63 := ⟨Try.f75.name, by decide, Try.func75.trans (congrArg some (by kernel_rfl))⟩
  f64 := Try.func76.trans (congrArg some (by kernel_rfl))
  f68 := ⟨Try.f95.name, by decide, Try.func95.trans (congrArg some (by kernel_rfl))⟩
  f70 := ⟨Try.f79.name, by decide, Try.func79.trans (congrArg some (by kernel_rfl))⟩
  f71 := ⟨Try.f80.name, by decide, Try.func80.trans (congrArg some (by kernel_rfl))⟩
  f72 := ⟨Try.f81.name, by decide, Try.func81.trans (congrArg some (by kernel_rfl))⟩
  f73 := ⟨Try.f82.name, by decide, Try.func82.trans (congrArg some (by kernel_rfl))⟩
  f74 := ⟨Try.f83.name, by decide, Try.func83.trans (congrArg some (by kernel_rfl))⟩
  f75 := ⟨Try.f84.name, by decide, Try.func84.trans (congrArg some (by kernel_rfl))⟩
  f76 := ⟨Try.f86.name, by decide, Try.func86.trans (congrArg some (by kernel_rfl))⟩
  f77 := ⟨Try.f87.name, by decide, Try.func87.trans (congrArg some (by kernel_rfl))⟩
  f78 := Try.func88.trans (congrArg some (by kernel_rfl))
  f79 := Try.func89.trans (congrArg some (by kernel_rfl))
  f88 := ⟨Try.f90.name, by decide, Try.func90.trans (congrArg some (by kernel_rfl))⟩
  f89 := Try.func91.trans (congrArg some (by kernel_rfl))
  f90 := Try.func92.trans (congrArg some (by kernel_rfl))
  f91 := ⟨Try.f93.name, by decide, Try.func93.trans (congrArg some (by kernel_rfl))⟩
  f92 := ⟨Try.f94.name, by decide, Try.func94.trans (congrArg some (by kernel_rfl))⟩
  f96 := ⟨Try.f96.name, by decide, Try.func96.trans (congrArg some (by kernel_rfl))⟩
  t0 := Try.underlying0
  a0 := Try.isAgg0
  z0 := Try.sizeOf0
  v0 := Try.zeroValue0
  t3 := Try.underlying3
  a3 := Try.isAgg3
  z3 := Try.sizeOf3
  v3 := Try.zeroValue3
  t4 := Try.underlying4
  a4 := Try.isAgg4
  z4 := Try.sizeOf4
  v4 := Try.zeroValue4
  t5 := Try.underlying5
  a5 := Try.isAgg5
  z5 := Try.sizeOf5
  v5 := Try.zeroValue5
  t9 := Try.underlying9
  a9 := Try.isAgg9
  z9 := Try.sizeOf9
  v9 := Try.zeroValue9
  t22 := Try.underlying77
  a22 := Try.isAgg77
  z22 := Try.sizeOf77
  v22 := Try.zeroValue77
  t23 := Try.underlying3
  a23 := Try.isAgg3
  z23 := Try.sizeOf3
  v23 := Try.zeroValue3
  t44 := Try.underlying72
  a44 := Try.isAgg72
  z44 := Try.sizeOf72
  v44 := Try.zeroValue72
  t51 := Try.underlying105
  a51 := Try.isAgg105
  z51 := Try.sizeOf105
  v51 := Try.zeroValue105
  t60 := Try.underlying108
  a60 := Try.isAgg108
  z60 := Try.sizeOf108
  v60 := Try.zeroValue108
  t61 := Try.underlying109
  a61 := Try.isAgg109
  z61 := Try.sizeOf109
  v61 := Try.zeroValue109
  t67 := Try.underlying116
  a67 := Try.isAgg116
  z67 := Try.sizeOf116
  v67 := Try.zeroValue116
  t69 := Try.underlying118
  a69 := Try.isAgg118
  z69 := Try.sizeOf118
  v69 := Try.zeroValue118
  t75 := Try.underlying119
  a75 := Try.isAgg119
  z75 := Try.sizeOf119
  v75 := Try.zeroValue119
  t79 := Try.underlying123
  a79 := Try.isAgg123
  z79 := Try.sizeOf123
  v79 := Try.zeroValue123
  t83 := Try.underlying125
  a83 := Try.isAgg125
  z83 := Try.sizeOf125
  v83 := Try.zeroValue125
  t84 := Try.underlying126
  a84 := Try.isAgg126
  z84 := Try.sizeOf126
  v84 := Try.zeroValue126 }
end Go.Proofs.Ytooopcadefpncaa
