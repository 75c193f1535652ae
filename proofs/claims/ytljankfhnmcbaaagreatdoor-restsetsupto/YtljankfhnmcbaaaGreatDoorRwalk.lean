/- RestSets: the walk. -/
import Derived.Test.YtljankfhnmcbaaaGreatDoorKm
import Derived.Test.YtljankfhnmcbaaaGreatDoorKd
import Derived.Test.YtljankfhnmcbaaaGreatDoorKl
import Derived.Test.YtljankfhnmcbaaaGreatDoorKr
import Derived.Test.YtljankfhnmcbaaaGreatDoorGfoldof
import Derived.Test.YtljankfhnmcbaaaGreatDoorGfold
import Derived.Test.YtljankfhnmcbaaaGreatDoorKs
import Derived.Deep.Cut
namespace Go.Proofs.YtljankfhnmcbaaaGreatDoor
open Go.RowKit
set_option linter.unusedVariables false

/-- rows of one's own. -/
def RwL (B : Nat) (W : World) (l : List Value) : Prop := ∀ v ∈ l, RowAt B W v
theorem RwL.nil (B : Nat) (W : World) : RwL B W [] := fun v hv => by simp at hv
theorem RwL.kp {B : Nat} {W W' : World} {l : List Value} (h : RwL B W l) (k : KpR B W W') : RwL B W' l := fun v hv => (h v hv).kp k
theorem RwL.cons {B : Nat} {W : World} {l : List Value} {v : Value} (h : RwL B W l) (hv : RowAt B W v) : RwL B W (v :: l) := fun u hu => by
  rcases List.mem_cons.1 hu with rfl | hu
  · exact hv
  · exact h u hu
/-- what the first lines lay: the room, what is handed in, twice. -/
def Room (w : World) (A B : RL) (r x y : Value) (wc : World) : Prop := ∃ g cap, r = .slice (some ⟨g, 0, none⟩) (A.length + 1) cap ∧ x = .slice (some ⟨g, 0, none⟩) A.length cap ∧ (A.length + 1 ≤ cap ∧ cap ≤ 9223372036854775807) ∧ Reads wc x A ∧ Reads wc y B ∧ (wc.cell? ⟨g, A.length * 2, none⟩ = some (.int .i64 1) ∧ wc.cell? ⟨g, A.length * 2 + 1, none⟩ = some (.int .i64 2)) ∧ Below w.heap.size w wc
/-- beside what the program made: the reference's, if there is no error. -/
def Beside (f : Nat) (args : Array Value) (err : Int) (O : RL) (w : World) : Prop := err ≠ 0 ∨ (err = 0 ∧ O.length ≤ 400 ∧ ∀ W, Below w.heap.size w W → Calls Tryz.prog f args W fun e w' => ∃ vt, e = .returned vt ∧ Reads w' vt O ∧ Below W.heap.size W w')
theorem beside_of {f : Nat} {args : Array Value} {g : Int → Bool} {c err : Int} {O : RL} {w : World} (hm : Made g c err O) (hr : c = 0 → ∀ W, Below w.heap.size w W → Calls Tryz.prog f args W fun e w' => ∃ vt T, e = .returned vt ∧ Reads w' vt T ∧ IsSet g T ∧ Below W.heap.size W w') : Beside f args err O w := by
  rcases hm with ⟨h1, rfl, _⟩ | ⟨h1, S, hS, ⟨h2, rfl, rfl⟩ | ⟨h2, rfl, _⟩⟩
  · exact .inl h1
  · refine .inr ⟨rfl, h2, fun W hW => (hr h1 W hW).mono ?_⟩
    rintro e w' ⟨vt, T, h3, h4, h5, h6⟩
    have : T = O := isSet_one h5 hS
    subst this
    exact ⟨vt, h3, h4, h6⟩
  · exact .inl (by decide)

end Go.Proofs.YtljankfhnmcbaaaGreatDoor
