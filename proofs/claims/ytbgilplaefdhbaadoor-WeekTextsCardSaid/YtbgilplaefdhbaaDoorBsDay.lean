/-
  What is proved: the library's contract of slices.BinarySearch over days lies at this translation. Conditions: as it says.
-/
import Derived.Shelf.SlGeneric
import Derived.Shelf.SlicesG.SearchI
import Derived.Test.YtbgilplaefdhbaaDoorProg
namespace Go.Proofs
open Go.Shelf
def Tryd.laysSearch_ren : Go.Shelf.Ren := ⟨fun | 49 => 26 | 59 => 33 | 60 => 34 | 68 => 46 | n => n, fun | 0 => 0 | 3 => 3 | 4 => 4 | 22 => 37 | 23 => 39 | 51 => 64 | n => n, fun | n => n⟩
theorem Tryd.laysSearch : Go.Proofs.SlLaysN.n49 Tryd.prog Tryd.laysSearch_ren := {
  mixed := by kernel_rfl
  f49 := ⟨Tryd.f26.name, by decide, Tryd.func26.trans (congrArg some (by kernel_rfl))⟩
  f59 := ⟨Tryd.f33.name, by decide, Tryd.func33.trans (congrArg some (by kernel_rfl))⟩
  f60 := ⟨Tryd.f34.name, by decide, Tryd.func34.trans (congrArg some (by kernel_rfl))⟩
  f68 := ⟨Tryd.f46.name, by decide, Tryd.func46.trans (congrArg some (by kernel_rfl))⟩
  t0 := Tryd.underlying0
  a0 := Tryd.isAgg0
  z0 := Tryd.sizeOf0
  v0 := Tryd.zeroValue0
  t3 := Tryd.underlying3
  a3 := Tryd.isAgg3
  z3 := Tryd.sizeOf3
  v3 := Tryd.zeroValue3
  t4 := Tryd.underlying4
  a4 := Tryd.isAgg4
  z4 := Tryd.sizeOf4
  v4 := Tryd.zeroValue4
  t22 := Tryd.underlying37
  a22 := Tryd.isAgg37
  z22 := Tryd.sizeOf37
  v22 := Tryd.zeroValue37
  t23 := Tryd.underlying39
  a23 := Tryd.isAgg39
  z23 := Tryd.sizeOf39
  v23 := Tryd.zeroValue39
  t51 := Tryd.underlying64
  a51 := Tryd.isAgg64
  z51 := Tryd.sizeOf64
  v51 := Tryd.zeroValue64 }
end Go.Proofs
