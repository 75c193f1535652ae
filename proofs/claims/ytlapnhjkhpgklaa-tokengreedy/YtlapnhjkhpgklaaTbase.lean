/- The reader of a pattern: where it stands, what of memory a step of it changes; what Ended, Is and Skip answer. -/
import Derived.Test.YtlapnhjkhpgklaaProg
import Derived.Test.YtlapnhjkhpgklaaTpure
import Derived.WalkKit
import Derived.WalkLawsBesides
import Derived.Handy
import Derived.BigQuiet
import Derived.Deep.QuietTactic
import Derived.OneCell
namespace Go.Proofs.Ytlapnhjkhpgklaa
open Go.RowKit
set_option linter.unusedVariables false

theorem drewN_two (w : World) (a b : Nat) : (w.drewN a).drewN b = w.drewN (a + b) := by simp [World.drewN, Nat.add_assoc]
theorem hide {p : Prop} (h : p) : Hid p := h
theorem ret_bool {a b : Bool} (h : a = b) : Ending.returned (.bool a) = .returned (.bool b) := by rw [h]
theorem ret_int {k : IntKind} {a b : Int} (h : a = b) : Ending.returned (.int k a) = .returned (.int k b) := by rw [h]

/-- nothing has changed but, perhaps, one block. -/
structure Mv (b : Nat) (w w' : World) : Prop where
  os : w'.os = w.os
  tape : w'.tape = w.tape
  output : w'.output = w.output
  size : w.heap.size ≤ w'.heap.size
  block : ∀ k, k < w.heap.size → k ≠ b → w'.heap[k]? = w.heap[k]?
theorem Mv.refl (b : Nat) (w : World) : Mv b w w := ⟨rfl, rfl, rfl, Nat.le_refl _, fun _ _ _ => rfl⟩
theorem Mv.trans {b : Nat} {w w1 w2 : World} (h : Mv b w w1) (k : Mv b w1 w2) : Mv b w w2 :=
  ⟨k.os.trans h.os, k.tape.trans h.tape, k.output.trans h.output, Nat.le_trans h.size k.size, fun i h1 h2 => (k.block i (Nat.lt_of_lt_of_le h1 h.size) h2).trans (h.block i h1 h2)⟩
theorem Mv.drewN {b : Nat} {w w1 : World} (h : Mv b w w1) (q : Nat) : Mv b w (w1.drewN q) := ⟨h.os, h.tape, h.output, h.size, h.block⟩
theorem Mv.alloc {b : Nat} {w w1 : World} (h : Mv b w w1) (o : Obj) : Mv b w (w1.alloc o) :=
  h.trans ⟨rfl, rfl, rfl, by simp, fun k hk _ => Below.heap_alloc _ _ _ hk⟩
theorem Mv.setCell {b : Nat} {w w1 : World} (h : Mv b w w1) (o : Nat) (u : Value) : Mv b w (w1.setCell ⟨b, o, none⟩ u) :=
  h.trans ⟨rfl, rfl, rfl, by simp [World.setCell], fun k _ hk => Below.heap_setCell _ _ _ _ hk⟩
/-- a store into a block that was not there. -/
theorem Mv.setNew {b : Nat} {w w1 : World} (h : Mv b w w1) {p : Addr} (hp : w.heap.size ≤ p.block) (u : Value) : Mv b w (w1.setCell p u) :=
  ⟨h.os, h.tape, h.output, by have := h.size; simp [World.setCell]; omega, fun k h1 h2 => by rw [Below.heap_setCell _ _ _ _ (by omega)]; exact h.block k h1 h2⟩
theorem Mv.of_below {b : Nat} {w w1 : World} (h : Below w.heap.size w w1) : Mv b w w1 := ⟨h.os, h.tape, h.output, h.size, fun k hk _ => h.block k hk⟩
theorem Mv.below {b : Nat} {w w1 : World} (h : Mv b w w1) (hb : b < w.heap.size) : Below b w w1 := ⟨h.os, h.tape, h.output, h.size, fun k hk => h.block k (by omega) (by omega)⟩
theorem Mv.cell {b : Nat} {w w1 : World} (h : Mv b w w1) {a : Addr} {v : Value} (hb : a.block ≠ b) (hc : w.cell? a = some v) : w1.cell? a = some v := by
  have hlt : a.block < w.heap.size := World.block_lt_of_cell? _ _ hc
  rw [← hc]
  unfold World.cell?
  rw [h.block a.block hlt hb]

/-- a reader in block b, of the pattern l, at i. -/
structure RB (w : World) (b : Nat) (x : Addr) (c : Nat) (l : List Int) (i : Nat) (d : Int) : Prop where
  box : w.heap[b]? = some (.cells #[.slice (some x) l.length c, .int .i64 i, .int .i64 d] 53 (0, 0))
  pat : ∀ j (h : j < l.length), w.cell? (x.add j) = some (.int .i64 l[j])
  ne : x.block ≠ b
  cap : l.length ≤ c
  small : l.length ≤ 300
  at' : i ≤ l.length
  pts : ∀ p ∈ l, 0 ≤ p ∧ p ≤ 1114111
  xw : x.block < w.heap.size
theorem add_block (x : Addr) (j : Nat) : (x.add j).block = x.block := by unfold Addr.add; split <;> rfl
theorem RB.lt {w : World} {b : Nat} {x : Addr} {c : Nat} {l : List Int} {i : Nat} {d : Int} (h : RB w b x c l i d) : b < w.heap.size := lt_of_block h.box
theorem RB.cells {w : World} {b : Nat} {x : Addr} {c : Nat} {l : List Int} {i : Nat} {d : Int} (h : RB w b x c l i d) :
    w.cell? ⟨b, 0, none⟩ = some (.slice (some x) l.length c) ∧ w.cell? ⟨b, 1, none⟩ = some (.int .i64 i) ∧ w.cell? ⟨b, 2, none⟩ = some (.int .i64 d) ∧ w.frozen? ⟨b, 1, none⟩ = false := by
  refine ⟨?_, ?_, ?_, ?_⟩ <;> simp [World.cell?, World.frozen?, h.box]
/-- what else is done leaves it as it is. -/
theorem RB.keep {w w' : World} {b : Nat} {x : Addr} {c : Nat} {l : List Int} {i : Nat} {d : Int} (h : RB w b x c l i d) (hb : Below w.heap.size w w') : RB w' b x c l i d :=
  ⟨by rw [hb.block b h.lt]; exact h.box, fun j hj => (Mv.of_below (b := b) hb).cell (by rw [add_block]; exact h.ne) (h.pat j hj), h.ne, h.cap, h.small, h.at', h.pts, Nat.lt_of_lt_of_le h.xw hb.size⟩
theorem RB.drewN {w : World} {b : Nat} {x : Addr} {c : Nat} {l : List Int} {i : Nat} {d : Int} (h : RB w b x c l i d) (q : Nat) : RB (w.drewN q) b x c l i d := ⟨h.box, h.pat, h.ne, h.cap, h.small, h.at', h.pts, h.xw⟩
theorem RB.alloc {w : World} {b : Nat} {x : Addr} {c : Nat} {l : List Int} {i : Nat} {d : Int} (h : RB w b x c l i d) (o : Obj) : RB (w.alloc o) b x c l i d := h.keep ((Below.refl _ w).alloc (Nat.le_refl _) o)
theorem RB.other {w : World} {b : Nat} {x : Addr} {c : Nat} {l : List Int} {i : Nat} {d : Int} (h : RB w b x c l i d) {p : Addr} (hp : p.block ≠ b) (hx : p.block ≠ x.block) (u : Value) : RB (w.setCell p u) b x c l i d :=
  ⟨by rw [Below.heap_setCell _ _ _ _ (Ne.symm hp)]; exact h.box, fun j hj => by
    have := h.pat j hj
    unfold World.cell? at this ⊢
    rw [Below.heap_setCell _ _ _ _ (by rw [add_block]; exact Ne.symm hx)]
    exact this, h.ne, h.cap, h.small, h.at', h.pts, by have := h.xw; simpa [World.setCell] using this⟩
/-- it goes on. -/
theorem RB.go {w : World} {b : Nat} {x : Addr} {c : Nat} {l : List Int} {i : Nat} {d : Int} (h : RB w b x c l i d) (k : Nat) (hk : k ≤ l.length) : RB (w.setCell ⟨b, 1, none⟩ (.int .i64 k)) b x c l k d := by
  refine ⟨?_, fun j hj => ?_, h.ne, h.cap, h.small, hk, h.pts, by have := h.xw; simpa [World.setCell] using this⟩
  · have hlt := h.lt
    have h' : w.heap[b] = .cells #[.slice (some x) l.length c, .int .i64 i, .int .i64 d] 53 (0, 0) := by simpa [Array.getElem?_eq_getElem hlt] using h.box
    show (w.heap.modify b _)[b]? = _
    rw [Array.getElem?_eq_getElem (by simpa using hlt), Array.getElem_modify_self, h']
    rfl
  · have := h.pat j hj
    unfold World.cell? at this ⊢
    rw [Below.heap_setCell _ _ _ _ (by rw [add_block]; exact h.ne)]
    exact this

set_option maxHeartbeats 1000000 in
theorem ended_any {b : Nat} {x : Addr} {c : Nat} {l : List Int} {i : Nat} {d : Int} (w : World) (h : RB w b x c l i d) :
    Calls Try.prog 45 #[.pointer (some ⟨b, 0, none⟩)] w fun e w' => e = .returned (.bool (decide (l.length ≤ i))) ∧ ∃ q, w' = w.drewN q := by
  obtain ⟨c0, c1, c2, f1⟩ := h.cells
  clear h
  go_enter Try.func45, Try.ntmps45
  go_wp2
  go_quiet (fail)
  go_wp2
  go_ret
  exact ⟨rfl, _, rfl⟩

def ReadsI (w : World) (x : Addr) (l : List Int) : Prop := ∀ j (h : j < l.length), w.cell? (x.add j) = some (.int .i64 l[j])

set_option maxHeartbeats 1000000 in
theorem equal_any (a y : Addr) (ca cb : Nat) (A B : List Int) (w : World) (hA : ReadsI w a A) (hB : ReadsI w y B) (lA : A.length ≤ 1000) (lB : B.length ≤ 1000) :
    Calls Try.prog 68 #[.slice (some a) A.length ca, .slice (some y) B.length cb] w fun e w' => e = .returned (.bool (A == B)) ∧ ∃ q, w' = w.drewN q := by
  have HA := hide hA
  have HB := hide hB
  obtain ⟨n, hn⟩ : ∃ n, n = A.length := ⟨_, rfl⟩
  obtain ⟨m, hm⟩ : ∃ m, m = B.length := ⟨_, rfl⟩
  have HN := hide hn
  have HM := hide hm
  rw [← hn] at lA ⊢
  rw [← hm] at lB ⊢
  clear hA hB hn hm
  by_cases hnm : n = m
  · subst hnm
    go_enter Try.func68, Try.ntmps68
    go_wp2
    go_loopw [13] (fun i wr => ∃ k q : Nat, k ≤ n ∧ i = .int .i64 k ∧ wr = w.drewN q ∧ A.take k = B.take k) (fun i _ => n - (intOf i).toNat)
    case atStart => exact ⟨0, 0, Nat.zero_le _, rfl, rfl, by simp⟩
    case round =>
      obtain ⟨k, q, hk, rfl, rfl, he⟩ := hrel
      have HE := hide he
      clear he
      by_cases hlt : k < n
      · have hkA : k < A.length := by have := HN.out; omega
        have hkB : k < B.length := by have := HM.out; omega
        have cA : w.cell? (a.add k) = some (.int .i64 A[k]) := HA.out k hkA
        have cB : w.cell? (y.add k) = some (.int .i64 B[k]) := HB.out k hkB
        obtain ⟨u, hu⟩ : ∃ u, u = A[k] := ⟨_, rfl⟩
        obtain ⟨v, hv⟩ : ∃ v, v = B[k] := ⟨_, rfl⟩
        rw [← hu] at cA
        rw [← hv] at cB
        have HU := hide hu
        have HV := hide hv
        clear hu hv
        by_cases huv : u = v
        · subst huv
          go_wp2
          go_quiet (fail)
          go_wp2
          go_roundw
          case rel => exact ⟨k + 1, _, by omega, by go_num, rfl, by rw [List.take_succ_eq_append_getElem hkA, List.take_succ_eq_append_getElem hkB, HE.out, ← HU.out, ← HV.out]⟩
          case measure => simp [intOf]; omega
        · have hne : Hid ((A == B) = false) := by
            show _ = _
            rw [beq_eq_false_iff_ne]
            intro e
            subst e
            have h1 := HU.out
            have h2 := HV.out
            exact huv (h1.trans h2.symm)
          have hb : (u != v) = true := by simpa using huv
          clear huv
          go_wp2
          go_quiet (fail)
          go_wp2
          go_ret
          exact ⟨ret_bool hne.out.symm, _, drewN_two _ _ _⟩
      · have hE : Hid ((A == B) = true) := by
          show _ = _
          have h := HE.out
          rw [List.take_of_length_le (by have := HN.out; omega), List.take_of_length_le (by have := HM.out; omega)] at h
          simpa using h
        go_wp2
        go_ret
        exact ⟨ret_bool hE.out.symm, _, rfl⟩
  · have hne : Hid ((A == B) = false) := by
      show _ = _
      rw [beq_eq_false_iff_ne]
      intro e
      subst e
      exact hnm (HN.out.trans HM.out.symm)
    go_enter Try.func68, Try.ntmps68
    go_wp2
    go_ret
    exact ⟨ret_bool hne.out.symm, 0, rfl⟩

end Go.Proofs.Ytlapnhjkhpgklaa
