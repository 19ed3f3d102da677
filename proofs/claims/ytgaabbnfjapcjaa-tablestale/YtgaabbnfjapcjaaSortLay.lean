/- The contract of slices.Sort at ints: its laying over this dump, as the shelf's tool prints it (layer 8). -/
import Derived.Shelf.SlGeneric
import Derived.Shelf.SortG.Plain
import Derived.Shelf.SortG.SortNone
import Derived.Ground.SlgnProg
import Derived.Test.YtgaabbnfjapcjaaChecked
namespace Go.Proofs.Ytgaabbnfjapcjaa
open Go.Shelf
def sortLays_ren : Go.Shelf.Ren := ⟨fun | 53 => 28 | 64 => 32 | 63 => 31 | 78 => 42 | 79 => 43 | 70 => 33 | 71 => 34 | 72 => 35 | 73 => 36 | 74 => 37 | 75 => 38 | 59 => 39 | 76 => 40 | 77 => 41 | 88 => 44 | 89 => 45 | 90 => 46 | 91 => 47 | 92 => 48 | 68 => 49 | 96 => 50 | n => n, fun | 22 => 53 | 23 => 3 | 3 => 3 | 51 => 64 | 0 => 0 | 67 => 75 | 69 => 77 | 4 => 4 | 61 => 67 | 60 => 66 | 44 => 72 | 5 => 5 | 9 => 9 | 75 => 78 | 79 => 82 | 83 => 84 | 84 => 85 | n => n, fun | n => n⟩
theorem sortLays : Go.Proofs.SlLaysN.n53 Try.prog sortLays_ren := {
  mixed := by kernel_rfl
  f53 := ⟨Try.f28.name, by decide, Try.func28.trans (congrArg some (by kernel_rfl))⟩
  f59 := ⟨Try.f39.name, by decide, Try.func39.trans (congrArg some (by kernel_rfl))⟩
  f63 := ⟨Try.f31.name, by decide, Try.func31.trans (congrArg some (by kernel_rfl))⟩
  f64 := Try.func32.trans (congrArg some (by kernel_rfl))
  f68 := ⟨Try.f49.name, by decide, Try.func49.trans (congrArg some (by kernel_rfl))⟩
  f70 := ⟨Try.f33.name, by decide, Try.func33.trans (congrArg some (by kernel_rfl))⟩
  f71 := ⟨Try.f34.name, by decide, Try.func34.trans (congrArg some (by kernel_rfl))⟩
  f72 := ⟨Try.f35.name, by decide, Try.func35.trans (congrArg some (by kernel_rfl))⟩
  f73 := ⟨Try.f36.name, by decide, Try.func36.trans (congrArg some (by kernel_rfl))⟩
  f74 := ⟨Try.f37.name, by decide, Try.func37.trans (congrArg some (by kernel_rfl))⟩
  f75 := ⟨Try.f38.name, by decide, Try.func38.trans (congrArg some (by kernel_rfl))⟩
  f76 := ⟨Try.f40.name, by decide, Try.func40.trans (congrArg some (by kernel_rfl))⟩
  f77 := ⟨Try.f41.name, by decide, Try.func41.trans (congrArg some (by kernel_rfl))⟩
  f78 := Try.func42.trans (congrArg some (by kernel_rfl))
  f79 := Try.func43.trans (congrArg some (by kernel_rfl))
  f88 := ⟨Try.f44.name, by decide, Try.func44.trans (congrArg some (by kernel_rfl))⟩
  f89 := Try.func45.trans (congrArg some (by kernel_rfl))
  f90 := Try.func46.trans (congrArg some (by kernel_rfl))
  f91 := ⟨Try.f47.name, by decide, Try.func47.trans (congrArg some (by kernel_rfl))⟩
  f92 := ⟨Try.f48.name, by decide, Try.func48.trans (congrArg some (by kernel_rfl))⟩
  f96 := ⟨Try.f50.name, by decide, Try.func50.trans (congrArg some (by kernel_rfl))⟩
  t0 := Try.underlying0
  a0 := Try.isAgg0
  z0 := Try.sizeOf0
  v0 := Try.zeroValue0
  t3 := Try.underlying3
  a3 := Try.isAgg3
  z3 := Try.sizeOf3
  v3 := Try.zeroValue3
  t4 := Try.underlying4
  a4 := Try.isAgg4
  z4 := Try.sizeOf4
  v4 := Try.zeroValue4
  t5 := Try.underlying5
  a5 := Try.isAgg5
  z5 := Try.sizeOf5
  v5 := Try.zeroValue5
  t9 := Try.underlying9
  a9 := Try.isAgg9
  z9 := Try.sizeOf9
  v9 := Try.zeroValue9
  t22 := Try.underlying53
  a22 := Try.isAgg53
  z22 := Try.sizeOf53
  v22 := Try.zeroValue53
  t23 := Try.underlying3
  a23 := Try.isAgg3
  z23 := Try.sizeOf3
  v23 := Try.zeroValue3
  t44 := Try.underlying72
  a44 := Try.isAgg72
  z44 := Try.sizeOf72
  v44 := Try.zeroValue72
  t51 := Try.underlying64
  a51 := Try.isAgg64
  z51 := Try.sizeOf64
  v51 := Try.zeroValue64
  t60 := Try.underlying66
  a60 := Try.isAgg66
  z60 := Try.sizeOf66
  v60 := Try.zeroValue66
  t61 := Try.underlying67
  a61 := Try.isAgg67
  z61 := Try.sizeOf67
  v61 := Try.zeroValue67
  t67 := Try.underlying75
  a67 := Try.isAgg75
  z67 := Try.sizeOf75
  v67 := Try.zeroValue75
  t69 := Try.underlying77
  a69 := Try.isAgg77
  z69 := Try.sizeOf77
  v69 := Try.zeroValue77
  t75 := Try.underlying78
  a75 := Try.isAgg78
  z75 := Try.sizeOf78
  v75 := Try.zeroValue78
  t79 := Try.underlying82
  a79 := Try.isAgg82
  z79 := Try.sizeOf82
  v79 := Try.zeroValue82
  t83 := Try.underlying84
  a83 := Try.isAgg84
  z83 := Try.sizeOf84
  v83 := Try.zeroValue84
  t84 := Try.underlying85
  a84 := Try.isAgg85
  z84 := Try.sizeOf85
  v84 := Try.zeroValue85 }
end Go.Proofs.Ytgaabbnfjapcjaa
