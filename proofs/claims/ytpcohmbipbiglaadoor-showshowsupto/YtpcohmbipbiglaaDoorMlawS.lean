/- ShowChecks: the walk. -/
import Derived.Test.YtpcohmbipbiglaaDoorMrqh
import Derived.Test.YtpcohmbipbiglaaDoorWbeg
import Derived.Deep.RegionWith
namespace Go.Proofs.YtpcohmbipbiglaaDoor
open Go.RowKit
set_option linter.unusedVariables false

theorem nameE_nil : NameE [] 0 := .inr (.inr (.inr ⟨rfl, fun i hi => by simp at hi, fun i hi => by simp at hi, fun i _ hi => by simp at hi⟩))
theorem patE_nil (t : Tr) (g : Int) : PatE t g [] (checkP t g) := by
  unfold checkP PatE
  by_cases h : cntA t < 1001
  · rw [if_pos h]
    refine .inr ⟨h, ?_⟩
    by_cases hz : treeE t g = 0
    · rw [hz]; exact .inr (.inr ⟨hz, rfl, nameE_nil⟩)
    · exact .inl ⟨hz, rfl⟩
  · rw [if_neg h]; exact .inl ⟨h, rfl⟩
theorem checkPat_any {w0 : World} {n : NV} {t : Tr} (h : NodeC w0 n t) (hsm : smT t) (g : Int) (na : Option Addr) (nl nc : Nat) (N : NmL) (w : World) (hw0 : Below w0.heap.size w0 w) (hN : NamesC w (.slice na nl nc) N) (hnz : ∀ i, i < N.length → (ntx N i).size ≤ 1048576) : Calls Tryd.prog 11 #[patNV n g na nl nc] w fun e w' => ∃ z, PatE t g N z ∧ e = .returned (.int .i64 z) ∧ Below w.heap.size w w' := by
  rcases hN with ⟨hv, rfl⟩ | ⟨x, c, hv, hc, hcl⟩
  · injection hv with h1 h2 h3
    subst h1; subst h2; subst h3
    refine (checkPat_nil h hsm g w hw0).mono ?_
    rintro e w' ⟨rfl, hb⟩
    exact ⟨_, patE_nil t g, rfl, hb⟩
  · injection hv with h1 h2 h3
    subst h1; subst h2; subst h3
    exact checkPat_some h hsm g x _ N w hw0 hc hcl hnz
set_option maxRecDepth 100000 in
set_option maxHeartbeats 4000000 in
theorem showChecks_walk (n : NV) (t : Tr) (g : Int) (na : Option Addr) (nl nc : Nat) (N : NmL) (w : World) (h : NodeC w n t) (hsm : smT t) (hN : NamesC w (.slice na nl nc) N) (hnz : ∀ i, i < N.length → (ntx N i).size ≤ 1048576) : Calls Tryd.prog 4 #[patNV n g na nl nc] w fun e w' => e = .returned (.bool true) ∧ Below w.heap.size w w' := by
  have hb : Below w.heap.size w (w.alloc (patNO n g na nl nc)) := (Below.refl _ _).alloc (Nat.le_refl _) _
  have HP := hide (fun W (hW : Below w.heap.size w W) => showCheck_any n t g na nl nc N W (h.keep hW) (hN.below hW))
  have HQ := hide (fun W (hW : Below w.heap.size w W) => checkPat_any h hsm g na nl nc N W hW (hN.below hW) hnz)
  obtain ⟨w1, hw1⟩ : ∃ w1, w1 = w.alloc (patNO n g na nl nc) := ⟨_, rfl⟩
  have hbox : w1.heap[w.heap.size]? = some (patNO n g na nl nc) := by rw [hw1]; exact at_new _ _
  rw [← hw1] at hb
  have HB := hide hb
  have HX := hide hbox
  simp only [patNO] at hw1
  simp only [patNV] at HP HQ ⊢
  clear h hsm hN hnz hb hbox
  go_enter Tryd.func4, Tryd.ntmps4
  go_wp2
  rw [← hw1]
  clear hw1
  have HBd : Hid (Below w.heap.size w w1.drew) := HB.out.trans ⟨rfl, rfl, rfl, Nat.le_refl _, fun _ _ => rfl⟩
  have HXd : Hid (w1.drew.heap[w.heap.size]? = some (patNO n g na nl nc)) := HX.out
  go_region_with (first
    | (go_at_call 8; refine (showBegun_any _).mono ?_; rintro e w2 ⟨rfl, hb2⟩; have HB2 := hide (HBd.out.trans (hb2.mono HBd.out.size)); have HX2 := hide (show w2.heap[w.heap.size]? = some (patNO n g na nl nc) from (by rw [hb2.block _ (lt_of_block HXd.out)]; exact HXd.out)); obtain ⟨⟨d0, d1, d2, d3, d4, d5, d6, d7⟩, d8, d9⟩ := patN_cells HX2.out; clear hb2)
    | (go_at_call 10; refine (HP.out _ HB2.out).mono ?_; rintro e w3 ⟨z, hz, rfl, hb3⟩; have HB3 := hide (HB2.out.trans (hb3.mono HB2.out.size)); have HX3 := hide (show w3.heap[w.heap.size]? = some (patNO n g na nl nc) from (by rw [hb3.block _ (lt_of_block HX2.out)]; exact HX2.out)); have HZ := hide hz; clear hb3 hz d0 d1 d2 d3 d4 d5 d6 d7 d8 d9; obtain ⟨⟨d0, d1, d2, d3, d4, d5, d6, d7⟩, d8, d9⟩ := patN_cells HX3.out)
    | (go_at_call 11; refine (HQ.out _ HB3.out).mono ?_; rintro e w4 ⟨z', hz', rfl, hb4⟩; have hzz := HZ.out.one hz'; subst hzz; have hze : (z == z) = true := (by simp); have HB4 := hide (HB3.out.trans (hb4.mono HB3.out.size)); clear hb4 hz' d0 d1 d2 d3 d4 d5 d6 d7 d8 d9))
  all_goals (go_wp2; go_ret; exact ⟨by first | rfl | (rw [hze]; rfl) | simp [go_sem], HB4.out⟩)

end Go.Proofs.YtpcohmbipbiglaaDoor
