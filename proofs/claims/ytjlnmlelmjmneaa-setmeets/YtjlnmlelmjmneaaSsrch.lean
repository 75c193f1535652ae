/- The library's proved contract of sort.Search at this program's numbers. -/
import Derived.Shelf.SlSorted.Search
import Derived.Test.YtjlnmlelmjmneaaProg
namespace Go.Proofs
open Go.Shelf
def Try.search_ren : Go.Shelf.Ren := ⟨fun | 16 => 54 | n => n, fun | 3 => 3 | 4 => 4 | 35 => 37 | 38 => 55 | n => n, fun | n => n⟩
theorem Try.search : Go.Proofs.SlLaysO.n16 Try.prog Try.search_ren := {
  mixed := by kernel_rfl
  f16 := Try.func54.trans (congrArg some (by kernel_rfl))
  t3 := Try.underlying3
  a3 := Try.isAgg3
  z3 := Try.sizeOf3
  v3 := Try.zeroValue3
  t4 := Try.underlying4
  a4 := Try.isAgg4
  z4 := Try.sizeOf4
  v4 := Try.zeroValue4
  t35 := Try.underlying37
  a35 := Try.isAgg37
  z35 := Try.sizeOf37
  v35 := Try.zeroValue37
  t38 := Try.underlying55
  a38 := Try.isAgg55
  z38 := Try.sizeOf55
  v38 := Try.zeroValue55 }
end Go.Proofs
