/- How many groups a tree has. -/
import Derived.Test.YtdipfaahlofmgaaNbase
namespace Go.Proofs.Ytdipfaahlofmgaa
open Go.RowKit
set_option linter.unusedVariables false

mutual
/-- how many nodes of a tree are groups. -/
def grpT : Tr → Nat
  | .mk k _ _ _ _ _ _ kids => (if k = 11 then 1 else 0) + grpL kids
def grpL : List Tr → Nat
  | [] => 0
  | t :: ts => grpT t + grpL ts
end
theorem grpL_drop {ts : List Tr} {j : Nat} (hj : j < ts.length) : grpL (ts.drop j) = grpT ts[j] + grpL (ts.drop (j + 1)) := by
  rw [List.drop_eq_getElem_cons hj, grpL]
theorem grpL_le (ts : List Tr) (j : Nat) : grpL (ts.drop j) ≤ grpL ts := by
  induction ts generalizing j with
  | nil => simp
  | cons t ts ih =>
    cases j with
    | zero => exact Nat.le_refl _
    | succ j => rw [List.drop_succ_cons, grpL]; have := ih j; omega

set_option maxRecDepth 100000 in
set_option maxHeartbeats 2000000 in
theorem groupsIn_any {w0 : World} {n : NV} {t : Tr} (h : NodeC w0 n t) : grpT t ≤ 1000000 → ∀ w, Below w0.heap.size w0 w → Calls Try.prog 31 #[nvV n] w fun e w' => e = .returned (.int .i64 (grpT t : Nat)) ∧ Below w.heap.size w w' := by
  induction h with
  | mk n set ks vs hs hk hkids ih =>
    intro hsz w hw0
    have HK : Hid (KidsC w n.ka n.kl n.kc ks.length vs) := hk.below hw0
    have HKL := hide hk.len
    have HIH := hide ih
    have HW0 := hide hw0
    have hT : grpT (.mk n.kind n.num n.least n.most n.way n.fold set ks) = (if n.kind = 11 then 1 else 0) + grpL ks := rfl
    obtain ⟨g0, hg0⟩ : ∃ g0 : Nat, g0 = (if n.kind = 11 then 1 else 0) := ⟨_, rfl⟩
    rw [← hg0] at hT
    rw [hT] at hsz ⊢
    have hg1 : g0 ≤ 1 := by rw [hg0]; split <;> omega
    have hb : Below w.heap.size w (w.alloc (nvO n)) := (Below.refl _ _).alloc (Nat.le_refl _) _
    obtain ⟨w1, hw1⟩ : ∃ w1, w1 = w.alloc (nvO n) := ⟨_, rfl⟩
    have hbox : w1.heap[w.heap.size]? = some (nvO n) := by rw [hw1]; exact at_new _ _
    rw [← hw1] at hb
    have HB := hide hb
    obtain ⟨d0, d1, d2, d3, d4, d5, d6, d7⟩ := nv_cells hbox
    simp only [nvO] at hw1
    obtain ⟨G, hG⟩ : ∃ G, G = grpL ks := ⟨_, rfl⟩
    have HG := hide hG
    rw [← hG] at hsz ⊢
    have HLe : Hid (∀ j, grpL (ks.drop j) ≤ G) := fun j => by rw [HG.out]; exact grpL_le ks j
    clear hs hk hkids ih hw0 hT hbox hb hG
    have fin : ∀ (a : Nat) (K : Bool), True := fun _ _ => trivial
    clear fin
    by_cases hkd : n.kind = 11
    · have hkb : (n.kind == 11) = true := by simpa using hkd
      have hg : g0 = 1 := by rw [hg0, if_pos hkd]
      subst hg
      clear hg0 hkd
      go_enter Try.func31, Try.ntmps31
      go_wp2
      rw [← hw1]
      clear hw1 d0 d1 d2 d3 d4 d5 d6 d7 hkb
      go_loopw [3, 14] (fun s t wr => ∃ (j cc : Nat), j ≤ ks.length ∧ s = .int .i64 cc ∧ t = .int .i64 j ∧ cc + grpL (ks.drop j) = 1 + G ∧ Below w.heap.size w wr) (fun _ t _ => ks.length - (intOf t).toNat)
      case atStart => exact ⟨0, 1, Nat.zero_le _, rfl, rfl, by rw [HG.out]; rfl, HB.out⟩
      case round =>
        obtain ⟨j, cc, hj, rfl, rfl, hE, hb⟩ := hrel
        have HE := hide hE
        have HB2 := hide hb
        obtain ⟨w2, hw2⟩ : ∃ w2, w2 = wr := ⟨_, rfl⟩
        subst hw2
        clear hb HB
        by_cases hlt : j < ks.length
        · have e2 : (j : Int) < (n.kl : Int) := by have := HKL.out; omega
          have e4 : (0 : Int) ≤ (j : Int) := by omega
          rcases HK.out with ⟨_, _, _, h0⟩ | ⟨x, hx, hkk, hmx, hcl⟩
          · exact absurd h0 (by omega)
          · obtain ⟨d0, d1, d2, d3, d4, d5, d6, d7⟩ := (hcl j hlt).below HB2.out
            have hgj := grpL_drop hlt
            have hgl := HLe.out j
            have hB3 : Below w.heap.size w (w2.alloc (nvO (vs j))) := HB2.out.alloc HB2.out.size _
            have HC := hide (HIH.out j hlt (by omega) (w2.alloc (nvO (vs j))) (HW0.out.trans (hB3.mono HW0.out.size)))
            obtain ⟨w3, hw3⟩ : ∃ w3, w3 = w2.alloc (nvO (vs j)) := ⟨_, rfl⟩
            have hbx : w3.heap[w2.heap.size]? = some (nvO (vs j)) := by rw [hw3]; exact at_new _ _
            rw [← hw3] at HC hB3
            have HB3 := hide hB3
            obtain ⟨b0, b1, b2, b3, b4, b5, b6, b7⟩ := nv_cells hbx
            simp only [nvO] at hw3
            obtain ⟨gj, hgj2⟩ : ∃ gj, gj = grpT ks[j] := ⟨_, rfl⟩
            rw [← hgj2] at HC hgj
            have hc1 : cc + gj ≤ 1000001 := by omega
            have hcw : IntKind.i64.wrap ((cc : Int) + (gj : Int)) = (cc : Int) + (gj : Int) := by rw [IntKind.wrap_i64]; omega
            have hjw : IntKind.i64.wrap ((j : Int) + 1) = (j : Int) + 1 := by rw [IntKind.wrap_i64]; omega
            rw [hx]
            clear hcl hx hB3 hbx hgj2 hE hkk
            go_wp2_with fail
            rw [← hw3]
            clear hw3
            refine HC.out.mono ?_
            rintro e w4 ⟨rfl, hb4⟩
            have HB4 := hide (HB3.out.trans (hb4.mono HB3.out.size))
            clear hb4 HC HB2 HB3
            go_wp2
            go_roundw
            case rel => exact ⟨j + 1, cc + gj, by omega, by go_num, by go_num, by have := HE.out; omega, HB4.out⟩
            case measure => simp [intOf]; omega
        · have e2 : ¬ (j : Int) < (n.kl : Int) := by have := HKL.out; omega
          have hF : Hid (cc = 1 + G) := by
            have := HE.out
            rw [List.drop_eq_nil_of_le (by omega)] at this
            exact this
          clear hE
          go_wp2
          go_ret
          exact ⟨by rw [show ((1 : Int) + (G : Int)) = (cc : Int) from by have := hF.out; omega]; rfl, HB2.out⟩
    · have hkb : (n.kind == 11) = false := by simpa using hkd
      have hg : g0 = 0 := by rw [hg0, if_neg hkd]
      subst hg
      clear hg0 hkd
      go_enter Try.func31, Try.ntmps31
      go_wp2
      rw [← hw1]
      clear hw1 d0 d1 d2 d3 d4 d5 d6 d7 hkb
      go_loopw [3, 14] (fun s t wr => ∃ (j cc : Nat), j ≤ ks.length ∧ s = .int .i64 cc ∧ t = .int .i64 j ∧ cc + grpL (ks.drop j) = 0 + G ∧ Below w.heap.size w wr) (fun _ t _ => ks.length - (intOf t).toNat)
      case atStart => exact ⟨0, 0, Nat.zero_le _, rfl, rfl, by rw [HG.out]; rfl, HB.out⟩
      case round =>
        obtain ⟨j, cc, hj, rfl, rfl, hE, hb⟩ := hrel
        have HE := hide hE
        have HB2 := hide hb
        obtain ⟨w2, hw2⟩ : ∃ w2, w2 = wr := ⟨_, rfl⟩
        subst hw2
        clear hb HB
        by_cases hlt : j < ks.length
        · have e2 : (j : Int) < (n.kl : Int) := by have := HKL.out; omega
          have e4 : (0 : Int) ≤ (j : Int) := by omega
          rcases HK.out with ⟨_, _, _, h0⟩ | ⟨x, hx, hkk, hmx, hcl⟩
          · exact absurd h0 (by omega)
          · obtain ⟨d0, d1, d2, d3, d4, d5, d6, d7⟩ := (hcl j hlt).below HB2.out
            have hgj := grpL_drop hlt
            have hgl := HLe.out j
            have hB3 : Below w.heap.size w (w2.alloc (nvO (vs j))) := HB2.out.alloc HB2.out.size _
            have HC := hide (HIH.out j hlt (by omega) (w2.alloc (nvO (vs j))) (HW0.out.trans (hB3.mono HW0.out.size)))
            obtain ⟨w3, hw3⟩ : ∃ w3, w3 = w2.alloc (nvO (vs j)) := ⟨_, rfl⟩
            have hbx : w3.heap[w2.heap.size]? = some (nvO (vs j)) := by rw [hw3]; exact at_new _ _
            rw [← hw3] at HC hB3
            have HB3 := hide hB3
            obtain ⟨b0, b1, b2, b3, b4, b5, b6, b7⟩ := nv_cells hbx
            simp only [nvO] at hw3
            obtain ⟨gj, hgj2⟩ : ∃ gj, gj = grpT ks[j] := ⟨_, rfl⟩
            rw [← hgj2] at HC hgj
            have hc1 : cc + gj ≤ 1000001 := by omega
            have hcw : IntKind.i64.wrap ((cc : Int) + (gj : Int)) = (cc : Int) + (gj : Int) := by rw [IntKind.wrap_i64]; omega
            have hjw : IntKind.i64.wrap ((j : Int) + 1) = (j : Int) + 1 := by rw [IntKind.wrap_i64]; omega
            rw [hx]
            clear hcl hx hB3 hbx hgj2 hE hkk
            go_wp2_with fail
            rw [← hw3]
            clear hw3
            refine HC.out.mono ?_
            rintro e w4 ⟨rfl, hb4⟩
            have HB4 := hide (HB3.out.trans (hb4.mono HB3.out.size))
            clear hb4 HC HB2 HB3
            go_wp2
            go_roundw
            case rel => exact ⟨j + 1, cc + gj, by omega, by go_num, by go_num, by have := HE.out; omega, HB4.out⟩
            case measure => simp [intOf]; omega
        · have e2 : ¬ (j : Int) < (n.kl : Int) := by have := HKL.out; omega
          have hF : Hid (cc = 0 + G) := by
            have := HE.out
            rw [List.drop_eq_nil_of_le (by omega)] at this
            exact this
          clear hE
          go_wp2
          go_ret
          exact ⟨by rw [show G = cc from by have := hF.out; omega]; rfl, HB2.out⟩

end Go.Proofs.Ytdipfaahlofmgaa
