/- The reference's Escaped: k, put together. -/
import Derived.Test.YtkpndghmiidkgaaRc13
import Derived.Test.YtkpndghmiidkgaaRc14
import Derived.Test.YtkpndghmiidkgaaRc15
namespace Go.Proofs.Ytkpndghmiidkgaa
open Go.RowKit
set_option linter.unusedVariables false

theorem esc_k (x : Addr) (c : Nat) (l : List Int) (i : Nat) (w : World) (h : ReadsI w x l) (hi : i < l.length) (hl : l.length ≤ 300) (hcap : l.length ≤ c) (hpts : ∀ p ∈ l, 0 ≤ p ∧ p ≤ 1114111) (hx : l[i] = 107) : Calls Try.prog 20 #[.int .i64 1, .slice (some x) l.length c, .int .i64 i] w fun e w' => NextE (escT 1 l i) w e w' := by
  by_cases hz : nameL l (i + 2) = []
  · cases hm : says l (i + 2) [45] with
    | true => exact esc_kA x c l i w h hi hl hcap hpts hx ⟨hz, hm⟩
    | false => exact esc_kB x c l i w h hi hl hcap hpts hx ⟨hz, hm⟩
  · exact esc_kN x c l i w h hi hl hcap hpts hx hz

end Go.Proofs.Ytkpndghmiidkgaa
