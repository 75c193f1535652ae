/- The library's proved contract of sort.Search at this program's numbers. -/
import Derived.Shelf.SlSorted.Search
import Derived.Test.YtjlnmlelmjmneabProg
namespace Go.Proofs
open Go.Shelf
def Try.search_ren : Go.Shelf.Ren := ⟨fun | 16 => 37 | n => n, fun | 3 => 3 | 4 => 4 | 35 => 30 | 38 => 51 | n => n, fun | n => n⟩
theorem Try.search : Go.Proofs.SlLaysO.n16 Try.prog Try.search_ren := {
  mixed := by kernel_rfl
  f16 := Try.func37.trans (congrArg some (by kernel_rfl))
  t3 := Try.underlying3
  a3 := Try.isAgg3
  z3 := Try.sizeOf3
  v3 := Try.zeroValue3
  t4 := Try.underlying4
  a4 := Try.isAgg4
  z4 := Try.sizeOf4
  v4 := Try.zeroValue4
  t35 := Try.underlying30
  a35 := Try.isAgg30
  z35 := Try.sizeOf30
  v35 := Try.zeroValue30
  t38 := Try.underlying51
  a38 := Try.isAgg51
  z38 := Try.sizeOf51
  v38 := Try.zeroValue51 }
end Go.Proofs
