/- What rightNode answers. -/
import Derived.Test.YtpcohmbipbiglaaDoorQnode1
import Derived.Test.YtpcohmbipbiglaaDoorQnode2
import Derived.Test.YtpcohmbipbiglaaDoorQnode4
import Derived.Deep.Cut
namespace Go.Proofs.YtpcohmbipbiglaaDoor
open Go.RowKit
set_option linter.unusedVariables false

set_option maxRecDepth 100000 in
set_option maxHeartbeats 8000000 in
theorem rightNode_kind (n : NV) (t : Tr) (w : World) (h : NodeC w n t) (hsm : t.kids.length ≤ 4611686018427387904) (hkd : ¬ (1 ≤ n.kind ∧ n.kind ≤ 18)) : Calls Tryd.prog 17 #[nvV n] w fun e w' => e = .returned (.int .i64 (rnE t)) ∧ Below w.heap.size w w' := by
  have hb1 : Below w.heap.size w (w.alloc (nvO n)) := (Below.refl _ w).alloc (Nat.le_refl _) _
  have HN := hide h
  have HN1 := hide (h.keep hb1)
  obtain ⟨k0, k1, k2, k3, k4, k5, hr, -⟩ := h.open
  obtain ⟨K, hK1, hK2, hK3, hK4⟩ := kids_list h
  obtain ⟨w1, hw1⟩ : ∃ w1, w1 = w.alloc (nvO n) := ⟨_, rfl⟩
  have hX1 : w1.heap[w.heap.size]? = some (nvO n) := by rw [hw1]; exact at_new _ _
  rw [← hw1] at hb1 HN1
  have HB1 := hide hb1
  have HX := hide hX1
  have HS := hide (fun W (hW : Below w.heap.size w W) => checkSet_any _ _ W (hr.below hW))
  have HK2 := hide hK2
  have HKc : Hid (K.length = 0 ∨ ∃ x, n.ka = some x ∧ ∀ i (hi : i < K.length), NCells w1 (x.add (i * 8)) K[i].1) := by
    rcases hK4 with h0 | ⟨x, hx, hc⟩
    · exact .inl h0
    · exact .inr ⟨x, hx, fun i hi => (hc i hi).below hb1⟩
  have HKl := hide hK3
  have HKm := hide hK1
  obtain ⟨d0, d1, d2, d3, d4, d5, d6, d7⟩ := nv_cells hX1
  have hkb : n.kl ≤ 4611686018427387904 := by rw [hK3, ← List.length_map (f := fun x : NV × Tr => x.2), hK1]; exact hsm
  obtain ⟨R, hR⟩ : ∃ R, R = rnE t := ⟨_, rfl⟩
  have HR7 : Hid (¬ (1 ≤ n.kind ∧ n.kind ≤ 18) → R = 7) := fun hh => by rw [hR]; unfold rnE; rw [k0, if_pos hh]
  have HR1 : Hid (1 ≤ n.kind ∧ n.kind ≤ 18 → fr6 n t.kids = true → R = 1) := fun hh hf => by
    rw [fr6_is h hh] at hf
    rw [hR]; unfold rnE; rw [k0, if_neg (by simpa using hh), if_pos (by simpa only [Bool.not_eq_true'] using hf)]
  have HRo : Hid (1 ≤ n.kind ∧ n.kind ≤ 18 → fr6 n t.kids = false → R = if checkE t.set ≠ 0 then checkE t.set else if n.kind = 12 then repE t else 0) := fun hh hf => by
    rw [fr6_is h hh] at hf
    rw [hR]; unfold rnE; rw [k0, if_neg (by simpa using hh), if_neg (by rw [Bool.not_eq_false'] at hf; rw [hf]; simp)]
  have HE : Hid (repE t = if ¬ (0 ≤ n.least ∧ n.least ≤ 100) then 3 else if ¬ (n.most = -1 ∨ (n.least ≤ n.most ∧ n.most ≤ 100)) then 3 else if ¬ (1 ≤ n.way ∧ n.way ≤ 3) then 7 else 0) := by show _ = _; unfold repE; rw [k2, k3, k4]
  have HSl : Hid (fr6 n t.kids = false → n.kind ≠ 2 → checkE t.set = 0) := fun hf h2 => by
    have : n.sl = 0 := by
      unfold fr6 fr5 fr4 fr3 fr2 at hf
      simp at hf
      have := hf.1.1.1.1.2
      omega
    have h0 := hr.len
    have : t.set = [] := List.eq_nil_of_length_eq_zero (by omega)
    rw [this]; rfl
  rw [← hR]
  have HKO := hide (fun W => kidsOf_any n.kind W)
  obtain ⟨le, hle⟩ : ∃ le, le = (kidsL n.kind).1 := ⟨_, rfl⟩
  obtain ⟨mo, hmo⟩ : ∃ mo, mo = (kidsL n.kind).2 := ⟨_, rfl⟩
  rw [← hle, ← hmo] at HKO
  have HF1 : Hid (fr1 n = (decide ((n.kl : Int) < le) || (decide (0 ≤ mo) && decide (mo < (n.kl : Int))))) := by show _ = _; unfold fr1; rw [hle, hmo]
  simp only [nvO] at hw1
  clear h hb1 hX1 k0 k1 k2 k3 k4 k5 hr hK1 hK2 hK3 hK4 hR hle hmo
  have hE := HR7.out hkd
  subst hE
  clear HR7 HR1 HRo HE HSl
  go_enter Tryd.func17, Tryd.ntmps17
  go_upto_region 1 with fail
  rw [← hw1]
  clear hw1
  by_cases g1 : n.kind < 1
  · clear hkd
    go_wp2
    go_ret
    exact ⟨rfl, HB1.out⟩
  · have g2 : 18 < n.kind := by omega
    clear hkd
    go_wp2
    go_ret
    exact ⟨rfl, HB1.out⟩

theorem rightNode_any (n : NV) (t : Tr) (w : World) (h : NodeC w n t) (hsm : t.kids.length ≤ 4611686018427387904) : Calls Tryd.prog 17 #[nvV n] w fun e w' => e = .returned (.int .i64 (rnE t)) ∧ Below w.heap.size w w' := by
  by_cases hkd : 1 ≤ n.kind ∧ n.kind ≤ 18
  · cases hf : fr6 n t.kids with
    | true =>
      cases h5 : fr5 n with
      | true => exact rightNode_badA n t w h hsm hkd h5
      | false => exact rightNode_badB n t w h hsm hkd h5 hf
    | false => exact rightNode_good n t w h hsm hkd hf
  · exact rightNode_kind n t w h hsm hkd

end Go.Proofs.YtpcohmbipbiglaaDoor
