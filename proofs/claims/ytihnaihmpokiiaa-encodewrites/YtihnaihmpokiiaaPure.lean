/- The bytes of points as lists of numbers, and how a row of bytes, or of numbers, lies in memory. -/
import Derived.Test.YtihnaihmpokiiaaWrite16
import Derived.Laws.BytesArg
namespace Go.Proofs.Ytihnaihmpokiiaa
open Go.RowKit
set_option linter.unusedVariables false

def flat (enc : Int) (l : List Int) : List Int := l.flatMap (bytesOf enc)
def encE (enc : Int) (l : List Int) : Int := if encB enc = false then 7 else if l.all (holdB enc) = false then 3 else if 4000 < (flat enc l).length then 2 else 0
def encS (enc : Int) (l : List Int) : ByteArray := if encE enc l = 0 then strOfNums (flat enc l) else ⟨#[]⟩

theorem bytesOf_len (enc p : Int) : 1 ≤ (bytesOf enc p).length ∧ (bytesOf enc p).length ≤ 4 := by
  unfold bytesOf bytes8 bytes16 unitL
  split
  · simp
  · split
    · split
      · simp
      · split
        · simp
        · split <;> simp
    · split
      · split <;> simp
      · split <;> simp
theorem bytesOf_one (p : Int) : ((bytesOf 1 p).length : Int) = len8 p := by
  unfold bytesOf bytes8 len8
  simp only [show ¬ (1 : Int) = 4 from by decide, if_false, if_true]
  split
  · rfl
  · split
    · rfl
    · split <;> rfl
theorem bytesOf_16 (enc p : Int) (he : enc = 2 ∨ enc = 3) : bytesOf enc p = bytes16 enc p := by
  rcases he with rfl | rfl <;> rfl
theorem bytes16_len (enc p : Int) : ((bytes16 enc p).length : Int) = len16 p := by
  unfold bytes16 len16
  split
  · rw [unitL_length]; rfl
  · rw [List.length_append, unitL_length, unitL_length]; rfl

theorem flat_nil (enc : Int) : flat enc [] = [] := rfl
theorem take_succ (l : List Int) (k : Nat) (h : k < l.length) : l.take (k + 1) = l.take k ++ [l.getD k 0] := by
  rw [List.take_add_one]; simp [List.getD, List.getElem?_eq_getElem h]
theorem flat_succ (enc : Int) (l : List Int) (k : Nat) (h : k < l.length) : flat enc (l.take (k + 1)) = flat enc (l.take k) ++ bytesOf enc (l.getD k 0) := by
  rw [take_succ l k h]; simp [flat]
theorem flat_len_succ (enc : Int) (l : List Int) (k : Nat) (h : k < l.length) : (flat enc (l.take (k + 1))).length = (flat enc (l.take k)).length + (bytesOf enc (l.getD k 0)).length := by
  rw [flat_succ enc l k h, List.length_append]
theorem all_succ (f : Int → Bool) (l : List Int) (k : Nat) (h : k < l.length) : (l.take (k + 1)).all f = ((l.take k).all f && f (l.getD k 0)) := by
  rw [take_succ l k h, List.all_append]; simp
theorem flat_le (enc : Int) (l : List Int) (k : Nat) : (flat enc (l.take k)).length ≤ 4 * k := by
  induction k with
  | zero => simp [flat]
  | succ k ih =>
    by_cases h : k < l.length
    · rw [flat_len_succ enc l k h]; have := bytesOf_len enc (l.getD k 0); omega
    · rw [List.take_of_length_le (by omega)]; rw [List.take_of_length_le (by omega)] at ih; omega
theorem flat_append (enc : Int) (a b : List Int) : flat enc (a ++ b) = flat enc a ++ flat enc b := by simp [flat]
theorem flat_take_le (enc : Int) (l : List Int) (k : Nat) : (flat enc (l.take k)).length ≤ (flat enc l).length := by
  have h : flat enc l = flat enc (l.take k) ++ flat enc (l.drop k) := by rw [← flat_append, List.take_append_drop]
  rw [h, List.length_append]; omega

/-- the bytes that a row owns, as a string. -/
theorem conv_own {B n : Nat} {v : Value} {w : World} {l : List Int} (hown : w.ownsRow B 5 1 v n (u8s l)) : (convert 34 9 v).run Try.prog w = .ok (.string (strOfNums l)) w := by
  obtain ⟨hl, h⟩ := hown
  rcases h with ⟨rfl, rfl⟩ | ⟨g, cap, cur, rfl, hb, hh, hn, hm, hs, ht⟩
  · have : l = [] := by simpa [u8s] using hl
    subst this
    exact run_convert_bytes_nil w 34 5 Try.underlying34 Try.underlying5 0 0 9 Try.underlying9
  · have hl' : l.length = n := by simpa [u8s] using hl
    refine run_convert_bytes_arg w 34 5 Try.underlying34 Try.underlying5 g 0 n cap l hl' ?_ 9 Try.underlying9
    intro i hi
    have := World.ownsRow.cellAt (w := w) (base := B) (e := 5) (size := 1) (g := g) (n := n) (cap := cap) (xs := u8s l) ⟨hl, Or.inr ⟨g, cap, cur, rfl, hb, hh, hn, hm, hs, ht⟩⟩ i (by omega)
    rw [Nat.zero_add, this]
    simp [u8s, List.getD, hl', hi]

/-- A slice of numbers, as it lies in memory. -/
def RdI (w : World) (v : Value) (l : List Int) : Prop :=
  (v = .slice none 0 0 ∧ l = []) ∨ ∃ (a : Addr) (cap : Nat), v = .slice (some a) l.length cap ∧ ∀ j, j < l.length → w.cell? (a.add j) = some (.int .i64 (l.getD j 0))
theorem add_block (a : Addr) (j : Nat) : (a.add j).block = a.block := by unfold Addr.add; split <;> rfl
theorem RdI.below {w w' : World} {v : Value} {l : List Int} (h : RdI w v l) (hb : Below w.heap.size w w') : RdI w' v l := by
  rcases h with h | ⟨a, cap, rfl, hc⟩
  · exact Or.inl h
  · exact Or.inr ⟨a, cap, rfl, fun j hj => by rw [← hc j hj]; exact hb.cell (World.block_lt_of_cell? w _ (hc j hj))⟩
end Go.Proofs.Ytihnaihmpokiiaa
