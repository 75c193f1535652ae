/- Small tools; rows of ranges that are read; what Is, between, IsPoint and the checks answer. -/
import Derived.Test.YtojjfmnbpfpanaaDoorProg
import Derived.Test.YtojjfmnbpfpanaaDoorSends
import Derived.WalkKit
import Derived.WalkLawsBesides
import Derived.Handy
import Derived.BigQuiet
import Derived.Deep.QuietTactic
import Derived.OneCell
namespace Go.Proofs.YtojjfmnbpfpanaaDoor
open Go.RowKit
set_option linter.unusedVariables false

theorem hide {p : Prop} (h : p) : Hid p := h
theorem unhide {p : Prop} (h : Hid p) : p := h
theorem ret_bool {a b : Bool} (h : a = b) : Ending.returned (.bool a) = .returned (.bool b) := by rw [h]
theorem ret_int {k : IntKind} {a b : Int} (h : a = b) : Ending.returned (.int k a) = .returned (.int k b) := by rw [h]
def i64s (l : List Int) : List Value := l.map (Value.int .i64)

/-- a slice of ranges that can be read: nil, or a place with the cells. -/
def Cells2 (w : World) (x : Addr) (L : RL) : Prop := ∀ j (h : j < L.length), w.cell? (x.add (j * 2)) = some (.int .i64 L[j].1) ∧ w.cell? ⟨(x.add (j * 2)).block, (x.add (j * 2)).off + 1, none⟩ = some (.int .i64 L[j].2)
def Reads (w : World) (v : Value) (L : RL) : Prop := (v = .slice none 0 0 ∧ L = []) ∨ ∃ x c, v = .slice (some x) L.length c ∧ Cells2 w x L
theorem lt_of_cell {w : World} {a : Addr} {v : Value} (h : w.cell? a = some v) : a.block < w.heap.size := World.block_lt_of_cell? _ _ h
theorem below_cell {B : Nat} {w w' : World} (hb : Below B w w') {a : Addr} {v : Value} (ha : a.block < B) (h : w.cell? a = some v) : w'.cell? a = some v := by
  rw [← h]
  unfold World.cell?
  rw [hb.block a.block ha]
theorem Cells2.below {w w' : World} {x : Addr} {L : RL} (h : Cells2 w x L) (hb : Below w.heap.size w w') : Cells2 w' x L := fun j hj =>
  ⟨below_cell hb (lt_of_cell (h j hj).1) (h j hj).1, below_cell hb (lt_of_cell (h j hj).2) (h j hj).2⟩
theorem Reads.below {w w' : World} {v : Value} {L : RL} (h : Reads w v L) (hb : Below w.heap.size w w') : Reads w' v L := by
  rcases h with h | ⟨x, c, h1, h2⟩
  · exact .inl h
  · exact .inr ⟨x, c, h1, h2.below hb⟩
theorem Reads.shape {w : World} {v : Value} {L : RL} (h : Reads w v L) : ∃ ao c, v = .slice ao L.length c := by
  rcases h with ⟨rfl, rfl⟩ | ⟨x, c, h1, h2⟩
  · exact ⟨none, 0, rfl⟩
  · exact ⟨some x, c, h1⟩
theorem Reads.some {w : World} {v : Value} {L : RL} (h : Reads w v L) (hl : 0 < L.length) : ∃ x c, v = .slice (some x) L.length c ∧ Cells2 w x L := by
  rcases h with ⟨rfl, rfl⟩ | h
  · simp at hl
  · exact h
theorem below_drewN {B : Nat} {w w' : World} (h : Below B w w') (q : Nat) : Below B w (w'.drewN q) := ⟨h.1, h.2, h.3, h.4, h.5⟩
theorem reads_nil (w : World) : Reads w (.slice none 0 0) [] := .inl ⟨rfl, rfl⟩

set_option maxHeartbeats 400000 in
theorem is_any (p : Int) (w : World) : Calls Tryd.prog 32 #[.int .i64 p] w fun e w' => e = .returned (.bool (decide (0 ≤ p ∧ p ≤ 1114111))) ∧ w = w' := by
  go_enter Tryd.func32, Tryd.ntmps32
  go_wp2
  all_goals go_ret
  all_goals exact ⟨ret_bool (by rw [Bool.eq_iff_iff]; simp <;> omega), rfl⟩
set_option maxHeartbeats 400000 in
theorem isR_any (p : Int) (w : World) : Calls Tryd.prog 40 #[.int .i64 p] w fun e w' => e = .returned (.bool (decide (0 ≤ p ∧ p ≤ 1114111))) ∧ w = w' := by
  go_enter Tryd.func40, Tryd.ntmps40
  go_wp2
  all_goals go_ret
  all_goals exact ⟨ret_bool (by rw [Bool.eq_iff_iff]; simp <;> omega), rfl⟩
set_option maxHeartbeats 400000 in
theorem between_any (p a b : Int) (w : World) : Calls Tryd.prog 41 #[.int .i64 p, .int .i64 a, .int .i64 b] w fun e w' => e = .returned (.bool (decide (a ≤ p) && decide (p ≤ b))) ∧ w = w' := by
  go_enter Tryd.func41, Tryd.ntmps41
  go_wp2
  all_goals go_ret
  all_goals exact ⟨ret_bool (by rw [Bool.eq_iff_iff]; simp <;> omega), rfl⟩

/-- a range that is right. -/
def okB (r : Int × Int) : Bool := decide (0 ≤ r.1) && decide (r.1 ≤ r.2) && decide (r.2 ≤ 1114111)
theorem okB_iff (r : Int × Int) : okB r = true ↔ okR r := by simp [okB, okR]; omega
/-- what is wrong with some ranges. -/
def rightE (L : RL) : Int := if 400 < L.length then 2 else if L.all okB then 0 else 3
def chainB : RL → Bool
  | [] => true
  | [_] => true
  | a :: b :: L => decide (a.2 + 1 < b.1) && chainB (b :: L)
def checkE (L : RL) : Int := if rightE L = 0 then (if chainB L then 0 else 4) else rightE L
theorem chainB_iff (L : RL) : chainB L = true ↔ ∀ j (h : j + 1 < L.length), L[j].2 + 1 < L[j + 1].1 := by
  induction L with
  | nil => simp [chainB]
  | cons a L ih =>
    cases L with
    | nil => simp [chainB]
    | cons b L =>
      simp only [chainB, Bool.and_eq_true, decide_eq_true_eq, ih]
      constructor
      · rintro ⟨h1, h2⟩ j hj
        match j with
        | 0 => exact h1
        | j + 1 => exact h2 j (by simpa using hj)
      · intro h
        exact ⟨h 0 (by simp), fun j hj => h (j + 1) (by simpa using hj)⟩
theorem rightE_ok {L : RL} : rightE L = 0 ↔ L.length ≤ 400 ∧ ∀ r ∈ L, okR r := by
  unfold rightE
  split
  · simp; omega
  · split
    · rename_i h1 h2
      rw [List.all_eq_true] at h2
      simp only [true_iff]
      exact ⟨by omega, fun r hr => (okB_iff r).1 (h2 r hr)⟩
    · rename_i h1 h2
      simp only [show (3 : Int) = 0 ↔ False from by simp, false_iff]
      rintro ⟨_, h3⟩
      exact h2 (List.all_eq_true.2 fun r hr => (okB_iff r).2 (h3 r hr))
theorem chain_pairwise : ∀ {L : RL}, (∀ r ∈ L, okR r) → chainB L = true → L.Pairwise (fun a b => a.2 + 1 < b.1) := by
  intro L
  induction L with
  | nil => intro _ _; exact List.Pairwise.nil
  | cons a L ih =>
    intro hok h
    cases L with
    | nil => exact List.pairwise_singleton _ _
    | cons b L =>
      simp only [chainB, Bool.and_eq_true, decide_eq_true_eq] at h
      have hp := ih (fun r hr => hok r (by simp [hr])) h.2
      refine List.pairwise_cons.2 ⟨fun x hx => ?_, hp⟩
      rcases List.mem_cons.1 hx with rfl | hx
      · exact h.1
      · have h1 := (List.pairwise_cons.1 hp).1 x hx
        have h2 := hok b (by simp)
        unfold okR at h2
        omega
theorem pairwise_chain : ∀ {L : RL}, L.Pairwise (fun a b => a.2 + 1 < b.1) → chainB L = true := by
  intro L
  induction L with
  | nil => intro _; rfl
  | cons a L ih =>
    intro h
    cases L with
    | nil => rfl
    | cons b L =>
      rw [List.pairwise_cons] at h
      simp only [chainB, Bool.and_eq_true, decide_eq_true_eq]
      exact ⟨h.1 b (by simp), ih h.2⟩
theorem checkE_ok {L : RL} : checkE L = 0 ↔ L.length ≤ 400 ∧ Canon L := by
  unfold checkE
  constructor
  · intro h
    split at h
    · rename_i h1
      split at h
      · rename_i h2
        obtain ⟨h3, h4⟩ := rightE_ok.1 h1
        exact ⟨h3, h4, chain_pairwise h4 h2⟩
      · simp at h
    · rename_i h1; exact absurd h h1
  · rintro ⟨h1, h2, h3⟩
    rw [if_pos (rightE_ok.2 ⟨h1, h2⟩), if_pos (pairwise_chain h3)]

end Go.Proofs.YtojjfmnbpfpanaaDoor
