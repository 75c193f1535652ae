/- The library's proved contract of sort.Search at this program's numbers. -/
import Derived.Shelf.SlSorted.Search
import Derived.Test.YtojjfmnbpfpanaaDoorProg
namespace Go.Proofs
open Go.Shelf
def Tryd.search_ren : Go.Shelf.Ren := ⟨fun | 16 => 57 | n => n, fun | 3 => 3 | 4 => 4 | 35 => 48 | 38 => 68 | n => n, fun | n => n⟩
theorem Tryd.search : Go.Proofs.SlLaysO.n16 Tryd.prog Tryd.search_ren := {
  mixed := by kernel_rfl
  f16 := Tryd.func57.trans (congrArg some (by kernel_rfl))
  t3 := Tryd.underlying3
  a3 := Tryd.isAgg3
  z3 := Tryd.sizeOf3
  v3 := Tryd.zeroValue3
  t4 := Tryd.underlying4
  a4 := Tryd.isAgg4
  z4 := Tryd.sizeOf4
  v4 := Tryd.zeroValue4
  t35 := Tryd.underlying48
  a35 := Tryd.isAgg48
  z35 := Tryd.sizeOf48
  v35 := Tryd.zeroValue48
  t38 := Tryd.underlying68
  a38 := Tryd.isAgg68
  z38 := Tryd.sizeOf68
  v38 := Tryd.zeroValue68 }
end Go.Proofs
