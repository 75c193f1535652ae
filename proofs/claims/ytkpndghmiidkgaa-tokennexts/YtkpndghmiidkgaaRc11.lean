/- The reference's Escaped, whole; and with it the two walks. -/
import Derived.Test.YtkpndghmiidkgaaRd3
import Derived.Test.YtkpndghmiidkgaaRc3
import Derived.Test.YtkpndghmiidkgaaRc5
import Derived.Test.YtkpndghmiidkgaaRc7
import Derived.Test.YtkpndghmiidkgaaRc8
import Derived.Test.YtkpndghmiidkgaaRc12
import Derived.Test.YtkpndghmiidkgaaRc10
namespace Go.Proofs.Ytkpndghmiidkgaa
open Go.RowKit
set_option linter.unusedVariables false

theorem escOk : EscOk := fun d x c l i w h hi hl hcap hpts hd => by
  by_cases hlt : i < l.length
  · rcases hd with rfl | rfl | rfl
    · by_cases hx : l[i] = 120
      · cases hbr : says l (i + 1) [123] with
        | false => exact esc_x0 x c l i w h hlt hl hcap hpts hx hbr
        | true => exact esc_x1 x c l i w h hlt hl hcap hpts hx hbr
      · by_cases hu : l[i] = 117
        · exact esc_u x c l i w h hlt hl hcap hpts hu
        · by_cases hk : l[i] = 107
          · exact esc_k x c l i w h hlt hl hcap hpts hk
          · exact esc_one x c l i w h hlt hl hcap hpts hx hu hk
    · exact esc_two x c l i w h hlt hl hpts
    · exact esc_three x c l i w h hlt hl hcap hpts
  · exact esc_none d x c l i w h (by omega) hl

theorem tokenNexts_law (d : Int) (v : Value) (l : List Int) (a : Int) (w : World) (rd : -9223372036854775808 ≤ d ∧ d ≤ 9223372036854775807) (h : PatV w v l) (ra : -9223372036854775808 ≤ a ∧ a ≤ 9223372036854775807) : Calls Try.prog 3 #[.int .i64 d, v, .int .i64 a] w fun e w' => e = .returned (.bool true) ∧ Below w.heap.size w w' := tokenNexts_walk escOk d a v l w h

theorem tokenAlls_law (d : Int) (v : Value) (l : List Int) (w : World) (rd : -9223372036854775808 ≤ d ∧ d ≤ 9223372036854775807) (h : PatV w v l) : Calls Try.prog 4 #[.int .i64 d, v] w fun e w' => e = .returned (.bool true) ∧ Below w.heap.size w w' := tokenAlls_walk escOk d v l w h

end Go.Proofs.Ytkpndghmiidkgaa
