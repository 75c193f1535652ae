/- What Standing answers, of the bytes of a point: all encodings. -/
import Derived.Test.YthigleohjagfiaaSry
import Derived.Test.YthigleohjagfiaaSrz2
import Derived.Test.YthigleohjagfiaaSrz3
namespace Go.Proofs.Ythigleohjagfiaa
open Go.RowKit Go.PlainAid
set_option linter.unusedVariables false

theorem standing_g (enc : Int) (he : isEnc enc) (s : ByteArray) (hs : s.size ≤ 4) (w : World) : Calls Try.prog 16 #[.int .i64 enc, .string s, .int .i64 0] w fun e w' => StE enc s e ∧ Below w.heap.size w w' := by
  by_cases h0 : bN s 0 < 0
  · rcases he with rfl | rfl | rfl | rfl
    · exact stand_1_0 s hs h0 w
    · exact stand_2_0 s hs h0 w
    · exact stand_3_0 s hs h0 w
    · exact stand_4_0 s hs h0 w
  rcases he with rfl | rfl | rfl | rfl
  · by_cases h1 : bN s 0 < 128
    · exact stand_1_a s hs h0 h1 w
    by_cases h2 : bN s 0 < 224
    · exact stand_1_b s hs h1 h2 w
    by_cases h3 : bN s 0 < 240
    · exact stand_1_c s hs h2 h3 w
    · exact stand_1_d s hs h3 h3 w
  · by_cases h1 : bN s 1 < 0
    · exact stand_2_b s hs h0 h1 w
    by_cases h2 : 55296 ≤ bN s 0 + 256 * bN s 1
    · by_cases h3 : bN s 0 + 256 * bN s 1 ≤ 56319
      · exact stand_2_a s hs h0 h1 h2 h3 w
      · exact stand_2_d s hs h0 h1 h2 h3 w
    · exact stand_2_c s hs h0 h1 h2 w
  · by_cases h1 : bN s 1 < 0
    · exact stand_3_b s hs h0 h1 w
    by_cases h2 : 55296 ≤ 256 * bN s 0 + bN s 1
    · by_cases h3 : 256 * bN s 0 + bN s 1 ≤ 56319
      · exact stand_3_a s hs h0 h1 h2 h3 w
      · exact stand_3_d s hs h0 h1 h2 h3 w
    · exact stand_3_c s hs h0 h1 h2 w
  · exact stand_4_1 s hs h0 w

end Go.Proofs.Ythigleohjagfiaa
