/- The contract of slices.Sort at ints: its laying over this dump, as the shelf's tool prints it (layer 8). -/
import Derived.Shelf.SlGeneric
import Derived.Shelf.SortG.Plain
import Derived.Shelf.SortG.SortNone
import Derived.Ground.SlgnProg
import Derived.Test.YtameolfdbmepmaaChecked
namespace Go.Proofs.Ytameolfdbmepmaa
open Go.Shelf
def sortLays_ren : Go.Shelf.Ren := ⟨fun | 53 => 36 | 64 => 40 | 63 => 39 | 78 => 50 | 79 => 51 | 70 => 41 | 71 => 42 | 72 => 43 | 73 => 44 | 74 => 45 | 75 => 46 | 59 => 47 | 76 => 48 | 77 => 49 | 88 => 52 | 89 => 53 | 90 => 54 | 91 => 55 | 92 => 56 | 68 => 57 | 96 => 58 | n => n, fun | 22 => 35 | 23 => 3 | 3 => 3 | 51 => 58 | 0 => 0 | 67 => 68 | 69 => 70 | 4 => 4 | 61 => 61 | 60 => 60 | 44 => 32 | 5 => 5 | 9 => 9 | 75 => 71 | 79 => 75 | 83 => 77 | 84 => 78 | n => n, fun | n => n⟩
theorem sortLays : Go.Proofs.SlLaysN.n53 Try.prog sortLays_ren := {
  mixed := by kernel_rfl
  f53 := ⟨Try.f36.name, by decide, Try.func36.trans (congrArg some (by kernel_rfl))⟩
  f59 := ⟨Try.f47.name, by decide, Try.func47.trans (congrArg some (by kernel_rfl))⟩
  f63 := ⟨Try.f39.name, by decide, Try.func39.trans (congrArg some (by kernel_rfl))⟩
  f64 := Try.func40.trans (congrArg some (by kernel_rfl))
  f68 := ⟨Try.f57.name, by decide, Try.func57.trans (congrArg some (by kernel_rfl))⟩
  f70 := ⟨Try.f41.name, by decide, Try.func41.trans (congrArg some (by kernel_rfl))⟩
  f71 := ⟨Try.f42.name, by decide, Try.func42.trans (congrArg some (by kernel_rfl))⟩
  f72 := ⟨Try.f43.name, by decide, Try.func43.trans (congrArg some (by kernel_rfl))⟩
  f73 := ⟨Try.f44.name, by decide, Try.func44.trans (congrArg some (by kernel_rfl))⟩
  f74 := ⟨Try.f45.name, by decide, Try.func45.trans (congrArg some (by kernel_rfl))⟩
  f75 := ⟨Try.f46.name, by decide, Try.func46.trans (congrArg some (by kernel_rfl))⟩
  f76 := ⟨Try.f48.name, by decide, Try.func48.trans (congrArg some (by kernel_rfl))⟩
  f77 := ⟨Try.f49.name, by decide, Try.func49.trans (congrArg some (by kernel_rfl))⟩
  f78 := Try.func50.trans (congrArg some (by kernel_rfl))
  f79 := Try.func51.trans (congrArg some (by kernel_rfl))
  f88 := ⟨Try.f52.name, by decide, Try.func52.trans (congrArg some (by kernel_rfl))⟩
  f89 := Try.func53.trans (congrArg some (by kernel_rfl))
  f90 := Try.func54.trans (congrArg some (by kernel_rfl))
  f91 := ⟨Try.f55.name, by decide, Try.func55.trans (congrArg some (by kernel_rfl))⟩
  f92 := ⟨Try.f56.name, by decide, Try.func56.trans (congrArg some (by kernel_rfl))⟩
  f96 := ⟨Try.f58.name, by decide, Try.func58.trans (congrArg some (by kernel_rfl))⟩
  t0 := Try.underlying0
  a0 := Try.isAgg0
  z0 := Try.sizeOf0
  v0 := Try.zeroValue0
  t3 := Try.underlying3
  a3 := Try.isAgg3
  z3 := Try.sizeOf3
  v3 := Try.zeroValue3
  t4 := Try.underlying4
  a4 := Try.isAgg4
  z4 := Try.sizeOf4
  v4 := Try.zeroValue4
  t5 := Try.underlying5
  a5 := Try.isAgg5
  z5 := Try.sizeOf5
  v5 := Try.zeroValue5
  t9 := Try.underlying9
  a9 := Try.isAgg9
  z9 := Try.sizeOf9
  v9 := Try.zeroValue9
  t22 := Try.underlying35
  a22 := Try.isAgg35
  z22 := Try.sizeOf35
  v22 := Try.zeroValue35
  t23 := Try.underlying3
  a23 := Try.isAgg3
  z23 := Try.sizeOf3
  v23 := Try.zeroValue3
  t44 := Try.underlying32
  a44 := Try.isAgg32
  z44 := Try.sizeOf32
  v44 := Try.zeroValue32
  t51 := Try.underlying58
  a51 := Try.isAgg58
  z51 := Try.sizeOf58
  v51 := Try.zeroValue58
  t60 := Try.underlying60
  a60 := Try.isAgg60
  z60 := Try.sizeOf60
  v60 := Try.zeroValue60
  t61 := Try.underlying61
  a61 := Try.isAgg61
  z61 := Try.sizeOf61
  v61 := Try.zeroValue61
  t67 := Try.underlying68
  a67 := Try.isAgg68
  z67 := Try.sizeOf68
  v67 := Try.zeroValue68
  t69 := Try.underlying70
  a69 := Try.isAgg70
  z69 := Try.sizeOf70
  v69 := Try.zeroValue70
  t75 := Try.underlying71
  a75 := Try.isAgg71
  z75 := Try.sizeOf71
  v75 := Try.zeroValue71
  t79 := Try.underlying75
  a79 := Try.isAgg75
  z79 := Try.sizeOf75
  v79 := Try.zeroValue75
  t83 := Try.underlying77
  a83 := Try.isAgg77
  z83 := Try.sizeOf77
  v83 := Try.zeroValue77
  t84 := Try.underlying78
  a84 := Try.isAgg78
  z84 := Try.sizeOf78
  v84 := Try.zeroValue78 }
end Go.Proofs.Ytameolfdbmepmaa
