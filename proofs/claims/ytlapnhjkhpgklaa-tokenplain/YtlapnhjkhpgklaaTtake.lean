/- What take, must, digits and hex answer. -/
import Derived.Test.YtlapnhjkhpgklaaTskip
namespace Go.Proofs.Ytlapnhjkhpgklaa
open Go.RowKit
set_option linter.unusedVariables false

/-- gives up with an error. -/
def gives (k : Int) : Ending := .panicked [{ v := .iface 25 (.int .i64 k), recovered := false }]

set_option maxHeartbeats 1000000 in
theorem take_yes {b : Nat} {x : Addr} {c : Nat} {l : List Int} {i : Nat} {d : Int} (w : World) (h : RB w b x c l i d) (hi : i < l.length) :
    Calls Try.prog 38 #[.pointer (some ⟨b, 0, none⟩)] w fun e w' => e = .returned (.int .i64 l[i]) ∧ RB w' b x c l (i + 1) d ∧ Mv b w w' := by
  have HE := hide (ended_any w h)
  have HR := hide h
  have hsm := h.small
  have hpat := h.pat i hi
  obtain ⟨c0, c1, c2, f1⟩ := h.cells
  have e1 : decide (l.length ≤ i) = false := by simp; omega
  rw [e1] at HE
  obtain ⟨p, hp⟩ : ∃ p, p = l[i] := ⟨_, rfl⟩
  rw [← hp] at hpat ⊢
  obtain ⟨n, hn⟩ : ∃ n, n = l.length := ⟨_, rfl⟩
  have HN := hide hn
  rw [← hn] at c0 hi hsm
  clear h e1 hp hn
  go_enter Try.func38, Try.ntmps38
  go_wp2_with fail
  refine HE.out.mono ?_
  rintro e w1 ⟨rfl, q, rfl⟩
  go_wp2
  go_quiet (fail)
  go_wp2
  go_ret
  refine ⟨rfl, ?_, ?_⟩
  · have := ((HR.out.drewN q).drewN nq).go (i + 1) (by have := HN.out; omega)
    simpa using this
  · have := (((Mv.refl b w).drewN q).drewN nq).setCell 1 (.int .i64 ((i + 1 : Nat) : Int))
    simpa using this
set_option maxHeartbeats 1000000 in
theorem take_no {b : Nat} {x : Addr} {c : Nat} {l : List Int} {i : Nat} {d : Int} (w : World) (h : RB w b x c l i d) (hi : ¬ i < l.length) :
    Calls Try.prog 38 #[.pointer (some ⟨b, 0, none⟩)] w fun e w' => e = gives 1 ∧ Mv b w w' := by
  have HE := hide (ended_any w h)
  have e1 : decide (l.length ≤ i) = true := by simp; omega
  rw [e1] at HE
  clear h e1 hi
  go_enter Try.func38, Try.ntmps38
  go_wp2_with fail
  refine HE.out.mono ?_
  rintro e w1 ⟨rfl, q, rfl⟩
  go_wp2
  exact ⟨rfl, rfl, (Mv.refl b w).drewN q⟩

theorem readsI_one (w : World) (p : Int) (t : TypeId) : ReadsI (w.alloc (.cells #[.int .i64 p] t)) ⟨w.heap.size, 0, none⟩ [p] := by
  intro j hj
  obtain rfl : j = 0 := by simp at hj; omega
  have : (w.alloc (.cells #[.int .i64 p] t)).cell? ⟨w.heap.size, 0, none⟩ = some (.int .i64 p) := by
    rw [World.cell?_alloc_at _ _ _ _ (by simp)]; rfl
  simp [Addr.add]
set_option maxHeartbeats 1000000 in
theorem must_yes {b : Nat} {x : Addr} {c : Nat} {l : List Int} {i : Nat} {d : Int} (p : Int) (w : World) (h : RB w b x c l i d) (hs : says l i [p] = true) :
    Calls Try.prog 63 #[.pointer (some ⟨b, 0, none⟩), .int .i64 p] w fun e w' => e = .returned (.tuple #[]) ∧ RB w' b x c l (i + 1) d ∧ Mv b w w' := by
  have HS := hide (skip_any ⟨w.heap.size, 0, none⟩ 1 [p] _ (h.alloc (.cells #[.int .i64 p] 3)) (readsI_one w p 3) (by simp) (by simp))
  rw [hs, if_pos rfl] at HS
  clear h hs
  go_enter Try.func63, Try.ntmps63
  go_wp2_with fail
  refine HS.out.mono ?_
  rintro e w1 ⟨rfl, hr, hm⟩
  have HRR := hide hr
  have HMM := hide hm
  clear hr hm
  go_wp2
  go_end0
  exact ⟨rfl, HRR.out, ((Mv.refl b w).alloc _).trans HMM.out⟩
set_option maxHeartbeats 1000000 in
theorem must_no {b : Nat} {x : Addr} {c : Nat} {l : List Int} {i : Nat} {d : Int} (p : Int) (w : World) (h : RB w b x c l i d) (hs : says l i [p] = false) :
    Calls Try.prog 63 #[.pointer (some ⟨b, 0, none⟩), .int .i64 p] w fun e w' => e = gives 1 ∧ Mv b w w' := by
  have HS := hide (skip_any ⟨w.heap.size, 0, none⟩ 1 [p] _ (h.alloc (.cells #[.int .i64 p] 3)) (readsI_one w p 3) (by simp) (by simp))
  rw [hs, if_neg (by simp)] at HS
  clear h hs
  go_enter Try.func63, Try.ntmps63
  go_wp2_with fail
  refine HS.out.mono ?_
  rintro e w1 ⟨rfl, hr, hm⟩
  have HMM := hide hm
  clear hr hm
  go_wp2
  exact ⟨rfl, rfl, ((Mv.refl b w).alloc _).trans HMM.out⟩

end Go.Proofs.Ytlapnhjkhpgklaa
