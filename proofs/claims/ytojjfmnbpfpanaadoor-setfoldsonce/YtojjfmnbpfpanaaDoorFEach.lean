/- What the functions of fold hand on of a class: its ranges, one by one, to whatever is called with each. -/
import Derived.Test.YtojjfmnbpfpanaaDoorFLeaf
import Derived.Deep.RegionWith
namespace Go.Proofs.YtojjfmnbpfpanaaDoor.Fo
open Go.RowKit
set_option linter.unusedVariables false

/-- rows of numbers stay. -/
def Keep3 (w w' : World) : Prop := ∀ (k : Nat) (cs : Array Value), w.heap[k]? = some (.cells cs 3 (0, 0)) → w'.heap[k]? = some (.cells cs 3 (0, 0))
theorem Keep3.refl (w : World) : Keep3 w w := fun _ _ h => h
theorem Keep3.trans {a b c : World} (h : Keep3 a b) (k : Keep3 b c) : Keep3 a c := fun i cs hi => k i cs (h i cs hi)
theorem Keep3.below {w w' : World} (h : Below w.heap.size w w') : Keep3 w w' := fun i cs hi => by rw [h.block i (lt_of_block hi)]; exact hi

/-- who takes ranges, one by one. -/
structure Taker (F : Nat) (caps : Array Value) (Inv : List (Int × Int) → World → Prop) : Prop where
  enters : ∀ args w, (callFunc F args).run Tryd.prog w = .ok (.enter F args) w
  take : ∀ L a b w, L.length ≤ 1000 → Inv L w → Calls Tryd.prog F (#[.int .i64 a, .int .i64 b] ++ caps) w fun e w' => e = .returned (.tuple #[]) ∧ Inv (L ++ [(a, b)]) w' ∧ w.heap.size ≤ w'.heap.size ∧ Keep3 w w'
  below : ∀ L w w', Inv L w → Below w.heap.size w w' → Inv L w'

def flat2 (ps : List (Int × Int)) : List Int := ps.flatMap fun x => [x.1, x.2]
theorem flat2_len (ps : List (Int × Int)) : (flat2 ps).length = 2 * ps.length := by
  induction ps with
  | nil => rfl
  | cons x xs ih => simp [flat2] at ih ⊢; omega
theorem flat2_get (ps : List (Int × Int)) (k : Nat) (h : k < ps.length) : (flat2 ps)[2 * k]? = some ps[k].1 ∧ (flat2 ps)[2 * k + 1]? = some ps[k].2 := by
  induction ps generalizing k with
  | nil => simp at h
  | cons x xs ih =>
    match k with
    | 0 => simp [flat2]
    | k + 1 =>
      have := ih k (by simpa using h)
      have e : flat2 (x :: xs) = x.1 :: x.2 :: flat2 xs := rfl
      rw [e]
      rw [show 2 * (k + 1) = 2 * k + 1 + 1 from by omega]
      simpa using this

def psDigit : List (Int × Int) := [(48, 57), (1632, 1641)]
def psPunct1 : List (Int × Int) := [(33, 47), (58, 64), (91, 96), (123, 126)]
def psPunct2 : List (Int × Int) := [(161, 169), (171, 180), (182, 185), (187, 191), (215, 215), (247, 247)]
def psPunct : List (Int × Int) := psPunct1 ++ psPunct2
def psAlpha1 : List (Int × Int) := [(65, 90), (97, 122), (170, 170), (181, 181), (186, 186), (192, 214), (216, 246), (248, 591)]
def psAlpha2 : List (Int × Int) := [(913, 929), (931, 974), (1024, 1153), (7838, 7838), (8490, 8491)]
def psAlpha : List (Int × Int) := psAlpha1 ++ psAlpha2
def psAlnum : List (Int × Int) := psAlpha ++ psDigit
def psEvery (a : Int) (n : Nat) : List (Int × Int) := (List.range n).map fun (i : Nat) => (a + 2 * (i : Int), a + 2 * (i : Int))
theorem psEvery_succ (a : Int) (n : Nat) : psEvery a (n + 1) = psEvery a n ++ [(a + 2 * (n : Int), a + 2 * (n : Int))] := by
  simp [psEvery, List.range_succ]
theorem psEvery_len (a : Int) (n : Nat) : (psEvery a n).length = n := by simp [psEvery]
def ps_any : List (Int × Int) := [(0, 1114111)]
def nm_any : ByteArray := ⟨#[97, 110, 121]⟩
def ps_ascii : List (Int × Int) := [(0, 127)]
def nm_ascii : ByteArray := ⟨#[97, 115, 99, 105, 105]⟩
def ps_cntrl : List (Int × Int) := [(0, 31), (127, 159)]
def nm_cntrl : ByteArray := ⟨#[99, 110, 116, 114, 108]⟩
def ps_digit : List (Int × Int) := psDigit
def nm_digit : ByteArray := ⟨#[100, 105, 103, 105, 116]⟩
def ps_xdigit : List (Int × Int) := [(48, 57), (65, 70), (97, 102)]
def nm_xdigit : ByteArray := ⟨#[120, 100, 105, 103, 105, 116]⟩
def ps_blank : List (Int × Int) := [(9, 9), (32, 32)]
def nm_blank : ByteArray := ⟨#[98, 108, 97, 110, 107]⟩
def ps_space : List (Int × Int) := [(9, 13), (32, 32), (133, 133), (160, 160), (8192, 8202), (8232, 8233), (12288, 12288)]
def nm_space : ByteArray := ⟨#[115, 112, 97, 99, 101]⟩
def ps_punct : List (Int × Int) := psPunct
def nm_punct : ByteArray := ⟨#[112, 117, 110, 99, 116]⟩
def ps_alpha : List (Int × Int) := psAlpha
def nm_alpha : ByteArray := ⟨#[97, 108, 112, 104, 97]⟩
def ps_upper : List (Int × Int) := [(65, 90), (192, 214), (216, 222)] ++ psEvery 256 24 ++ [(913, 929), (931, 939), (1024, 1071), (7838, 7838), (8490, 8491)]
def nm_upper : ByteArray := ⟨#[117, 112, 112, 101, 114]⟩
def ps_lower : List (Int × Int) := [(97, 122), (181, 181), (223, 246), (248, 255)] ++ psEvery 257 24 ++ [(945, 971), (1072, 1119)]
def nm_lower : ByteArray := ⟨#[108, 111, 119, 101, 114]⟩
def ps_alnum : List (Int × Int) := psAlnum
def nm_alnum : ByteArray := ⟨#[97, 108, 110, 117, 109]⟩
def ps_word : List (Int × Int) := psAlnum ++ [(95, 95)]
def nm_word : ByteArray := ⟨#[119, 111, 114, 100]⟩
def ps_graph : List (Int × Int) := psAlnum ++ psPunct
def nm_graph : ByteArray := ⟨#[103, 114, 97, 112, 104]⟩
end Go.Proofs.YtojjfmnbpfpanaaDoor.Fo
