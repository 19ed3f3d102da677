/- layer 15: SortLay, put together. -/
import Derived.Shelf.SlGeneric
import Derived.Shelf.SortG.Plain
import Derived.Shelf.SortG.SortNone
import Derived.Ground.SlgnProg
import Derived.Test.YtoenjdnccgmhoaaGreatDoorChecked
namespace Go.Proofs.YtoenjdnccgmhoaaGreatDoor
open Go.Shelf
def sortLays_ren : Go.Shelf.Ren := ⟨fun | 53 => 140 | 64 => 159 | 63 => 158 | 78 => 181 | 79 => 182 | 70 => 172 | 71 => 173 | 72 => 174 | 73 => 175 | 74 => 176 | 75 => 177 | 59 => 178 | 76 => 179 | 77 => 180 | 88 => 185 | 89 => 186 | 90 => 187 | 91 => 188 | 92 => 189 | 68 => 190 | 96 => 191 | n => n, fun | 22 => 99 | 23 => 3 | 3 => 3 | 51 => 70 | 0 => 0 | 67 => 240 | 69 => 208 | 4 => 4 | 61 => 234 | 60 => 233 | 44 => 153 | 5 => 5 | 9 => 9 | 75 => 242 | 79 => 246 | 83 => 248 | 84 => 249 | n => n, fun | n => n⟩
theorem sortLays : Go.Proofs.SlLaysN.n53 Tryz.prog sortLays_ren := {
  mixed := by kernel_rfl
  f53 := ⟨Tryz.f140.name, by decide, Tryz.func140.trans (congrArg some (by kernel_rfl))⟩
  f59 := ⟨Tryz.f178.name, by decide, Tryz.func178.trans (congrArg some (by kernel_rfl))⟩
  f63 := ⟨Tryz.f158.name, by decide, Tryz.func158.trans (congrArg some (by kernel_rfl))⟩
  f64 := Tryz.func159.trans (congrArg some (by kernel_rfl))
  f68 := ⟨Tryz.f190.name, by decide, Tryz.func190.trans (congrArg some (by kernel_rfl))⟩
  f70 := ⟨Tryz.f172.name, by decide, Tryz.func172.trans (congrArg some (by kernel_rfl))⟩
  f71 := ⟨Tryz.f173.name, by decide, Tryz.func173.trans (congrArg some (by kernel_rfl))⟩
  f72 := ⟨Tryz.f174.name, by decide, Tryz.func174.trans (congrArg some (by kernel_rfl))⟩
  f73 := ⟨Tryz.f175.name, by decide, Tryz.func175.trans (congrArg some (by kernel_rfl))⟩
  f74 := ⟨Tryz.f176.name, by decide, Tryz.func176.trans (congrArg some (by kernel_rfl))⟩
  f75 := ⟨Tryz.f177.name, by decide, Tryz.func177.trans (congrArg some (by kernel_rfl))⟩
  f76 := ⟨Tryz.f179.name, by decide, Tryz.func179.trans (congrArg some (by kernel_rfl))⟩
  f77 := ⟨Tryz.f180.name, by decide, Tryz.func180.trans (congrArg some (by kernel_rfl))⟩
  f78 := Tryz.func181.trans (congrArg some (by kernel_rfl))
  f79 := Tryz.func182.trans (congrArg some (by kernel_rfl))
  f88 := ⟨Tryz.f185.name, by decide, Tryz.func185.trans (congrArg some (by kernel_rfl))⟩
  f89 := Tryz.func186.trans (congrArg some (by kernel_rfl))
  f90 := Tryz.func187.trans (congrArg some (by kernel_rfl))
  f91 := ⟨Tryz.f188.name, by decide, Tryz.func188.trans (congrArg some (by kernel_rfl))⟩
  f92 := ⟨Tryz.f189.name, by decide, Tryz.func189.trans (congrArg some (by kernel_rfl))⟩
  f96 := ⟨Tryz.f191.name, by decide, Tryz.func191.trans (congrArg some (by kernel_rfl))⟩
  t0 := Tryz.underlying0
  a0 := Tryz.isAgg0
  z0 := Tryz.sizeOf0
  v0 := Tryz.zeroValue0
  t3 := Tryz.underlying3
  a3 := Tryz.isAgg3
  z3 := Tryz.sizeOf3
  v3 := Tryz.zeroValue3
  t4 := Tryz.underlying4
  a4 := Tryz.isAgg4
  z4 := Tryz.sizeOf4
  v4 := Tryz.zeroValue4
  t5 := Tryz.underlying5
  a5 := Tryz.isAgg5
  z5 := Tryz.sizeOf5
  v5 := Tryz.zeroValue5
  t9 := Tryz.underlying9
  a9 := Tryz.isAgg9
  z9 := Tryz.sizeOf9
  v9 := Tryz.zeroValue9
  t22 := Tryz.underlying99
  a22 := Tryz.isAgg99
  z22 := Tryz.sizeOf99
  v22 := Tryz.zeroValue99
  t23 := Tryz.underlying3
  a23 := Tryz.isAgg3
  z23 := Tryz.sizeOf3
  v23 := Tryz.zeroValue3
  t44 := Tryz.underlying153
  a44 := Tryz.isAgg153
  z44 := Tryz.sizeOf153
  v44 := Tryz.zeroValue153
  t51 := Tryz.underlying70
  a51 := Tryz.isAgg70
  z51 := Tryz.sizeOf70
  v51 := Tryz.zeroValue70
  t60 := Tryz.underlying233
  a60 := Tryz.isAgg233
  z60 := Tryz.sizeOf233
  v60 := Tryz.zeroValue233
  t61 := Tryz.underlying234
  a61 := Tryz.isAgg234
  z61 := Tryz.sizeOf234
  v61 := Tryz.zeroValue234
  t67 := Tryz.underlying240
  a67 := Tryz.isAgg240
  z67 := Tryz.sizeOf240
  v67 := Tryz.zeroValue240
  t69 := Tryz.underlying208
  a69 := Tryz.isAgg208
  z69 := Tryz.sizeOf208
  v69 := Tryz.zeroValue208
  t75 := Tryz.underlying242
  a75 := Tryz.isAgg242
  z75 := Tryz.sizeOf242
  v75 := Tryz.zeroValue242
  t79 := Tryz.underlying246
  a79 := Tryz.isAgg246
  z79 := Tryz.sizeOf246
  v79 := Tryz.zeroValue246
  t83 := Tryz.underlying248
  a83 := Tryz.isAgg248
  z83 := Tryz.sizeOf248
  v83 := Tryz.zeroValue248
  t84 := Tryz.underlying249
  a84 := Tryz.isAgg249
  z84 := Tryz.sizeOf249
  v84 := Tryz.zeroValue249 }
end Go.Proofs.YtoenjdnccgmhoaaGreatDoor
