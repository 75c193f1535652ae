/- Roads: the shapes in memory, in general. -/
import Derived.Test.YthigleohjagfiaaSr7
import Derived.Test.YthigleohjagfiaaSr9
import Derived.Test.YthigleohjagfiaaSchkc
namespace Go.Proofs.Ythigleohjagfiaa
open Go.RowKit Go.PlainAid
set_option linter.unusedVariables false

def shsV (Ss : List ShP) (gs : List Nat) : List Value := (Ss.zip gs).flatMap fun x => [.int .i64 x.1.first, .int .i64 x.1.last, .int .i64 x.1.less, .slice (some ⟨x.2, 0, none⟩) x.1.ps.length x.1.ps.length]
/-- shapes in memory. -/
structure ShM (w : World) (g : Nat) (gs : List Nat) (Ss : List ShP) : Prop where
  len : gs.length = Ss.length
  g : w.heap[g]? = some (.cells (shsV Ss gs).toArray 57 (0, 0))
  p : ∀ i (h : i < Ss.length) (h' : i < gs.length), w.heap[gs[i]]? = some (ptsO Ss[i].ps)
theorem shsV_get : ∀ (Ss : List ShP) (gs : List Nat) (i : Nat) (h : i < Ss.length) (h' : i < gs.length), (shsV Ss gs)[i * 4]? = some (.int .i64 Ss[i].first) ∧ (shsV Ss gs)[i * 4 + 1]? = some (.int .i64 Ss[i].last) ∧ (shsV Ss gs)[i * 4 + 2]? = some (.int .i64 Ss[i].less) ∧ (shsV Ss gs)[i * 4 + 3]? = some (.slice (some ⟨gs[i], 0, none⟩) Ss[i].ps.length Ss[i].ps.length)
  | [], _, i, h, _ => absurd h (by simp)
  | _ :: _, [], i, _, h => absurd h (by simp)
  | S :: Ss, g :: gs, 0, _, _ => by simp [shsV]
  | S :: Ss, g :: gs, i + 1, h, h' => by
    have := shsV_get Ss gs i (by simpa using h) (by simpa using h')
    have e : shsV (S :: Ss) (g :: gs) = [.int .i64 S.first, .int .i64 S.last, .int .i64 S.less, .slice (some ⟨g, 0, none⟩) S.ps.length S.ps.length] ++ shsV Ss gs := by simp [shsV]
    rw [e, show (i + 1) * 4 = i * 4 + 4 by omega]
    simpa using this
theorem ShM.cells {w : World} {g : Nat} {gs : List Nat} {Ss : List ShP} (h : ShM w g gs Ss) (x : Addr) (hx : x = ⟨g, 0, none⟩) (i : Nat) (hi : i < Ss.length) (hi' : i < gs.length) : w.cell? (x.add (i * 4)) = some (.int .i64 Ss[i].first) ∧ w.cell? ⟨(x.add (i * 4)).block, (x.add (i * 4)).off + 1, none⟩ = some (.int .i64 Ss[i].last) ∧ w.cell? ⟨(x.add (i * 4)).block, (x.add (i * 4)).off + 2, none⟩ = some (.int .i64 Ss[i].less) ∧ w.cell? ⟨(x.add (i * 4)).block, (x.add (i * 4)).off + 3, none⟩ = some (.slice (some ⟨gs[i], 0, none⟩) Ss[i].ps.length Ss[i].ps.length) := by
  subst hx
  have hadd : (⟨g, 0, none⟩ : Addr).add (i * 4) = ⟨g, i * 4, none⟩ := by unfold Addr.add; split <;> simp_all
  rw [hadd]
  obtain ⟨h1, h2, h3, h4⟩ := shsV_get Ss gs i hi hi'
  refine ⟨?_, ?_, ?_, ?_⟩
  · rw [cells_at h.g]; simpa using h1
  · rw [cells_at h.g]; simpa using h2
  · rw [cells_at h.g]; simpa using h3
  · rw [cells_at h.g]; simpa using h4
theorem ShM.keep {w w' : World} {g : Nat} {gs : List Nat} {Ss : List ShP} (h : ShM w g gs Ss) (hb : Below w.heap.size w w') : ShM w' g gs Ss := ⟨h.len, rdO_keep h.g hb, fun i hi hi' => rdO_keep (h.p i hi hi') hb⟩
theorem ShM.kr {w w' : World} {b g : Nat} {gs : List Nat} {Ss : List ShP} (h : ShM w g gs Ss) (hne : g < b ∧ ∀ k ∈ gs, k < b) (hk : Kr b w w') : ShM w' g gs Ss :=
  ⟨h.len, hk _ _ _ _ (by omega) (by decide) h.g, fun i hi hi' => hk _ _ _ _ (by have := hne.2 _ (List.getElem_mem hi'); omega) (by decide) (h.p i hi hi')⟩
def ShF (enc : Int) (w : World) (e : Ending) (w' : World) : Prop := ∃ g gs, e = .returned (.tuple #[.slice (some ⟨g, 0, none⟩) (shapesP enc).length (shapesP enc).length, .bool true]) ∧ ShM w' g gs (shapesP enc) ∧ Below w.heap.size w w'
theorem at_k {W : World} {o : Obj} {k : Nat} (h : W.heap.size = k) : (W.alloc o).heap[k]? = some o := by rw [← h]; exact at_newS _ _
set_option maxRecDepth 100000 in
set_option maxHeartbeats 4000000 in
theorem shapes_1 (w : World) : Calls Try.prog 20 #[.int .i64 1] w fun e w' => ShF 1 w e w' := by
  go_enter Try.func20, Try.ntmps20
  go_wp2
  go_ret2
  refine ⟨w.heap.size + 4, [w.heap.size + 1, w.heap.size + 2, w.heap.size, w.heap.size, w.heap.size + 3], rfl, ⟨rfl, ?_, fun i hi hi' => ?_⟩, ?_⟩
  · exact at_k (by simp)
  · simp [shapesP] at hi
    rcases (by omega : i = 0 ∨ i = 1 ∨ i = 2 ∨ i = 3 ∨ i = 4) with rfl | rfl | rfl | rfl | rfl
    · exact keepA (keepA (keepA (at_k (by simp))))
    · exact keepA (keepA (at_k (by simp)))
    · exact keepA (keepA (keepA (keepA (at_k (by simp)))))
    · exact keepA (keepA (keepA (keepA (at_k (by simp)))))
    · exact keepA (at_k (by simp))
  · repeat' first | exact Below.refl _ _ | refine Below.alloc ?_ (by simp <;> omega) _
set_option maxRecDepth 100000 in
set_option maxHeartbeats 4000000 in
theorem shapes_2 (w : World) : Calls Try.prog 20 #[.int .i64 2] w fun e w' => ShF 2 w e w' := by
  go_enter Try.func20, Try.ntmps20
  go_wp2
  go_ret2
  refine ⟨w.heap.size + 2, [w.heap.size, w.heap.size, w.heap.size + 1], rfl, ⟨rfl, ?_, fun i hi hi' => ?_⟩, ?_⟩
  · exact at_k (by simp)
  · simp [shapesP, paired] at hi
    rcases (by omega : i = 0 ∨ i = 1 ∨ i = 2) with rfl | rfl | rfl
    · exact keepA (keepA (at_k (by simp)))
    · exact keepA (keepA (at_k (by simp)))
    · exact keepA (at_k (by simp))
  · repeat' first | exact Below.refl _ _ | refine Below.alloc ?_ (by simp <;> omega) _
set_option maxRecDepth 100000 in
set_option maxHeartbeats 4000000 in
theorem shapes_3 (w : World) : Calls Try.prog 20 #[.int .i64 3] w fun e w' => ShF 3 w e w' := by
  go_enter Try.func20, Try.ntmps20
  go_wp2
  go_ret2
  refine ⟨w.heap.size + 2, [w.heap.size, w.heap.size, w.heap.size + 1], rfl, ⟨rfl, ?_, fun i hi hi' => ?_⟩, ?_⟩
  · exact at_k (by simp)
  · simp [shapesP, paired] at hi
    rcases (by omega : i = 0 ∨ i = 1 ∨ i = 2) with rfl | rfl | rfl
    · exact keepA (keepA (at_k (by simp)))
    · exact keepA (keepA (at_k (by simp)))
    · exact keepA (at_k (by simp))
  · repeat' first | exact Below.refl _ _ | refine Below.alloc ?_ (by simp <;> omega) _
set_option maxRecDepth 100000 in
set_option maxHeartbeats 4000000 in
theorem shapes_4 (w : World) : Calls Try.prog 20 #[.int .i64 4] w fun e w' => ShF 4 w e w' := by
  go_enter Try.func20, Try.ntmps20
  go_wp2
  go_ret2
  refine ⟨w.heap.size + 1, [w.heap.size], rfl, ⟨rfl, ?_, fun i hi hi' => ?_⟩, ?_⟩
  · exact at_k (by simp)
  · simp [shapesP] at hi
    subst hi
    exact keepA (at_k (by simp))
  · repeat' first | exact Below.refl _ _ | refine Below.alloc ?_ (by simp <;> omega) _
theorem shapes_g (enc : Int) (he : isEnc enc) (w : World) : Calls Try.prog 20 #[.int .i64 enc] w fun e w' => ShF enc w e w' := by
  rcases he with rfl | rfl | rfl | rfl
  · exact shapes_1 w
  · exact shapes_2 w
  · exact shapes_3 w
  · exact shapes_4 w

end Go.Proofs.Ythigleohjagfiaa
