/- The library's proved contract of sort.Search at this program's numbers. -/
import Derived.Shelf.SlSorted.Search
import Derived.Test.YthigleohjagfiaaProg
namespace Go.Proofs
open Go.Shelf
def Try.search_ren : Go.Shelf.Ren := ⟨fun | 16 => 74 | n => n, fun | 3 => 3 | 4 => 4 | 35 => 29 | 38 => 83 | n => n, fun | n => n⟩
theorem Try.search : Go.Proofs.SlLaysO.n16 Try.prog Try.search_ren := {
  mixed := by kernel_rfl
  f16 := Try.func74.trans (congrArg some (by kernel_rfl))
  t3 := Try.underlying3
  a3 := Try.isAgg3
  z3 := Try.sizeOf3
  v3 := Try.zeroValue3
  t4 := Try.underlying4
  a4 := Try.isAgg4
  z4 := Try.sizeOf4
  v4 := Try.zeroValue4
  t35 := Try.underlying29
  a35 := Try.isAgg29
  z35 := Try.sizeOf29
  v35 := Try.zeroValue29
  t38 := Try.underlying83
  a38 := Try.isAgg83
  z38 := Try.sizeOf83
  v38 := Try.zeroValue83 }
end Go.Proofs
