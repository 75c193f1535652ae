/- What GroupsOf and IsPlain answer. -/
import Derived.Test.YtdipfaahlofmgaaQck
import Derived.Test.YtdipfaahlofmgaaQflat
namespace Go.Proofs.Ytdipfaahlofmgaa
open Go.RowKit
set_option linter.unusedVariables false

theorem cnt_take {l : List Tr} {j : Nat} (hj : j < l.length) : ((l.take (j + 1)).filter (fun u => decide (u.kind = 11))).length = ((l.take j).filter (fun u => decide (u.kind = 11))).length + (if l[j].kind = 11 then 1 else 0) := by
  rw [List.take_add_one, List.getElem?_eq_getElem hj, List.filter_append, List.length_append]
  by_cases h : l[j].kind = 11 <;> simp [h]
/-- the row that Flat made, as it is gone through. -/
structure FlatR (w0 : World) (B : Nat) (w : World) (v : Value) (F : List (NV × Tr)) (t : Tr) : Prop where
  fl : F.map (·.2) = flatT t
  nd : ∀ x ∈ F, NodeC w0 x.1 x.2
  own : w.ownsRow B 25 8 v F.length (rowN F)
theorem FlatR.len {w0 : World} {B : Nat} {w : World} {v : Value} {F : List (NV × Tr)} {t : Tr} (h : FlatR w0 B w v F t) : F.length = szT t := by
  have := congrArg List.length h.fl
  rw [List.length_map, flat_len] at this
  exact this
theorem FlatR.get {w0 : World} {B : Nat} {w : World} {v : Value} {F : List (NV × Tr)} {t : Tr} (h : FlatR w0 B w v F t) {j : Nat} (hj : j < F.length) : ∃ (h2 : j < (flatT t).length), (flatT t)[j] = F[j].2 ∧ F[j].2.kind = F[j].1.kind ∧ F[j].2.num = F[j].1.num := by
  have h2 : j < (flatT t).length := by rw [flat_len, ← h.len]; exact hj
  refine ⟨h2, ?_, ?_, ?_⟩
  · have e : (F.map (·.2))[j]'(by simpa using hj) = (flatT t)[j] := by simp only [h.fl]
    rw [← e]; simp
  · exact (h.nd F[j] (List.getElem_mem _)).open.1
  · exact (h.nd F[j] (List.getElem_mem _)).open.2.1
theorem FlatR.form {w0 : World} {B : Nat} {w : World} {v : Value} {F : List (NV × Tr)} {t : Tr} (h : FlatR w0 B w v F t) : ∃ g cap, v = .slice (some ⟨g, 0, none⟩) F.length cap ∧ ∀ j (hj : j < F.length), NCells w ⟨g, j * 8, none⟩ F[j].1 := by
  obtain ⟨g, cap, rfl, _, _⟩ := h.own.form (by rw [h.len]; exact szT_pos t)
  exact ⟨g, cap, rfl, fun j hj => rowN_cells h.own hj⟩
theorem FlatR.keep {w0 : World} {B : Nat} {w w' : World} {v : Value} {F : List (NV × Tr)} {t : Tr} (h : FlatR w0 B w v F t) (hb : Below w.heap.size w w') : FlatR w0 B w' v F t := ⟨h.fl, h.nd, own_keep h.own hb⟩
theorem flat_any' {w0 : World} {n : NV} {t : Tr} (h : NodeC w0 n t) (hsz : szT t ≤ 1000) (w : World) (hw0 : Below w0.heap.size w0 w) : Calls Try.prog 23 #[nvV n] w fun e w' => ∃ v F, e = .returned v ∧ FlatR w0 w.heap.size w' v F t ∧ Below w.heap.size w w' :=
  (flat_any h hsz w hw0).mono fun e w' ⟨v, F, h1, h2, h3, h4, h5⟩ => ⟨v, F, h1, ⟨h2, h3, h4⟩, h5⟩

set_option maxRecDepth 100000 in
set_option maxHeartbeats 4000000 in
theorem groupsOf_any {w0 : World} {n : NV} {t : Tr} (h : NodeC w0 n t) (hsz : szT t ≤ 1000) (w : World) (hw0 : Below w0.heap.size w0 w) : Calls Try.prog 21 #[nvV n] w fun e w' => e = .returned (.int .i64 (grpT t : Nat)) ∧ Below w.heap.size w w' := by
  have hb1 : Below w.heap.size w (w.alloc (nvO n)) := (Below.refl _ w).alloc (Nat.le_refl _) _
  obtain ⟨w1, hw1⟩ : ∃ w1, w1 = w.alloc (nvO n) := ⟨_, rfl⟩
  have hX1 : w1.heap[w.heap.size]? = some (nvO n) := by rw [hw1]; exact at_new _ _
  rw [← hw1] at hb1
  have HC := hide (flat_any' h hsz w1 (hw0.trans (hb1.mono hw0.size)))
  have HB1 := hide hb1
  obtain ⟨d0, d1, d2, d3, d4, d5, d6, d7⟩ := nv_cells hX1
  have HE := hide (grp_cnt t)
  obtain ⟨G, hG⟩ : ∃ G, G = grpT t := ⟨_, rfl⟩
  rw [← hG] at HE ⊢
  simp only [nvO] at hw1
  have HSz := hide hsz
  clear h hsz hw0 hb1 hX1 hG
  go_enter Try.func21, Try.ntmps21
  go_wp2_with fail
  rw [← hw1]
  clear hw1
  refine HC.out.mono ?_
  rintro e w2 ⟨v, F, rfl, hF, hb2⟩
  have HB2 := hide (HB1.out.trans (hb2.mono HB1.out.size))
  have hlen := hF.len
  obtain ⟨g, cap, rfl, hcl⟩ := hF.form
  obtain ⟨m, hm⟩ : ∃ m, m = F.length := ⟨_, rfl⟩
  have hm1 : m ≤ 1000 := by have := HSz.out; omega
  have HM := hide hm
  have HF := hide hF
  have HCl := hide hcl
  rw [← hm]
  clear hF hcl hlen hb2 HC HB1 d0 d1 d2 d3 d4 d5 d6 d7 hm
  go_wp2
  go_loopw [4, 5] (fun a c wr => ∃ (j q : Nat), j ≤ m ∧ c = .int .i64 j ∧ a = .int .i64 q ∧ q ≤ j ∧ q = (((flatT t).take j).filter (fun u => decide (u.kind = 11))).length ∧ wr = w2) (fun _ c _ => m - (intOf c).toNat)
  case atStart => exact ⟨0, 0, Nat.zero_le _, rfl, rfl, Nat.le_refl _, by simp, rfl⟩
  case round =>
    obtain ⟨j, q, hj, rfl, rfl, hqj, hq, hwr⟩ := hrel
    subst hwr
    have HQ := hide hq
    clear hq
    by_cases hlt : j < m
    · have hjF : j < F.length := by have := HM.out; omega
      have hc := HCl.out j hjF
      obtain ⟨h2, hg1, hg2, -⟩ := HF.out.get hjF
      have hn := cnt_take h2
      rw [hg1, hg2] at hn
      have hc0 := hc.c0
      obtain ⟨kk, hkk⟩ : ∃ kk, kk = F[j].1.kind := ⟨_, rfl⟩
      rw [← hkk] at hc0 hn
      have HNx := hide hn
      have e1 : (j : Int) < (m : Int) := by omega
      have e2 : (0 : Int) ≤ (j : Int) := by omega
      clear hc hn hkk hg1 hg2
      by_cases h11 : kk = 11
      · have hN : Hid (q + 1 = (((flatT t).take (j + 1)).filter (fun u => decide (u.kind = 11))).length) := by show _ = _; rw [HNx.out, ← HQ.out, if_pos h11]
        subst h11
        go_wp2
        go_roundw
        case rel => exact ⟨j + 1, q + 1, by omega, by go_num, by go_num, by omega, hN.out, trivial⟩
        case measure => simp [intOf]; omega
      · have hN : Hid (q = (((flatT t).take (j + 1)).filter (fun u => decide (u.kind = 11))).length) := by show _ = _; rw [HNx.out, ← HQ.out, if_neg h11]; rfl
        have b11 : (kk == 11) = false := by simpa using h11
        clear h11
        go_wp2
        go_roundw
        case rel => exact ⟨j + 1, q, by omega, by go_num, rfl, by omega, hN.out, trivial⟩
        case measure => simp [intOf]; omega
    · have e1 : ¬ (j : Int) < (m : Int) := by omega
      have hN : Hid (q = G) := by
        show _ = _
        rw [HQ.out, HE.out, List.take_of_length_le (by rw [flat_len, ← HF.out.len, ← HM.out]; omega)]
      go_wp2
      go_ret
      exact ⟨by rw [hN.out]; rfl, HB2.out⟩

theorem pl_take {l : List Tr} {j : Nat} (hj : j < l.length) : plB (l.take (j + 1)) = (plB (l.take j) && !lookB l[j].kind) := by
  unfold plB
  rw [List.take_add_one, List.getElem?_eq_getElem hj, List.all_append]
  simp
theorem pl_no {l : List Tr} {j : Nat} (hj : j < l.length) (h : lookB l[j].kind = true) : plB l = false := by
  unfold plB
  rw [List.all_eq_false]
  exact ⟨l[j], List.getElem_mem _, by simp [h]⟩
set_option maxRecDepth 100000 in
set_option maxHeartbeats 4000000 in
theorem isPlain_any {w0 : World} {n : NV} {t : Tr} (h : NodeC w0 n t) (hsz : szT t ≤ 1000) (w : World) (hw0 : Below w0.heap.size w0 w) : Calls Try.prog 10 #[nvV n] w fun e w' => e = .returned (.bool (plB (flatT t))) ∧ Below w.heap.size w w' := by
  have hb1 : Below w.heap.size w (w.alloc (nvO n)) := (Below.refl _ w).alloc (Nat.le_refl _) _
  obtain ⟨w1, hw1⟩ : ∃ w1, w1 = w.alloc (nvO n) := ⟨_, rfl⟩
  have hX1 : w1.heap[w.heap.size]? = some (nvO n) := by rw [hw1]; exact at_new _ _
  rw [← hw1] at hb1
  have HC := hide (flat_any' h hsz w1 (hw0.trans (hb1.mono hw0.size)))
  have HB1 := hide hb1
  obtain ⟨d0, d1, d2, d3, d4, d5, d6, d7⟩ := nv_cells hX1
  obtain ⟨R, hR⟩ : ∃ R, R = plB (flatT t) := ⟨_, rfl⟩
  have HR := hide hR
  rw [← hR]
  simp only [nvO] at hw1
  have HSz := hide hsz
  clear h hsz hw0 hb1 hX1 hR
  go_enter Try.func10, Try.ntmps10
  go_wp2_with fail
  rw [← hw1]
  clear hw1
  refine HC.out.mono ?_
  rintro e w2 ⟨v, F, rfl, hF, hb2⟩
  have HB2 := hide (HB1.out.trans (hb2.mono HB1.out.size))
  have hlen := hF.len
  obtain ⟨g, cap, rfl, hcl⟩ := hF.form
  obtain ⟨m, hm⟩ : ∃ m, m = F.length := ⟨_, rfl⟩
  have hm1 : m ≤ 1000 := by have := HSz.out; omega
  have HM := hide hm
  have HF := hide hF
  have HCl := hide hcl
  rw [← hm]
  clear hF hcl hlen hb2 HC HB1 d0 d1 d2 d3 d4 d5 d6 d7 hm
  go_wp2
  go_loopw [4] (fun c wr => ∃ (j : Nat), j ≤ m ∧ c = .int .i64 j ∧ plB ((flatT t).take j) = true ∧ wr = w2) (fun c _ => m - (intOf c).toNat)
  case atStart => exact ⟨0, Nat.zero_le _, rfl, rfl, rfl⟩
  case round =>
    obtain ⟨j, hj, rfl, hq, hwr⟩ := hrel
    subst hwr
    have HQ := hide hq
    clear hq
    by_cases hlt : j < m
    · have hjF : j < F.length := by have := HM.out; omega
      have hc := HCl.out j hjF
      obtain ⟨h2, hg1, hg2, -⟩ := HF.out.get hjF
      have hn := pl_take h2
      have hno := pl_no h2
      rw [hg1, hg2] at hn hno
      have hc0 := hc.c0
      obtain ⟨kk, hkk⟩ : ∃ kk, kk = F[j].1.kind := ⟨_, rfl⟩
      rw [← hkk] at hc0 hn hno
      have HNx := hide hn
      have HNo := hide hno
      have e1 : (j : Int) < (m : Int) := by omega
      have e2 : (0 : Int) ≤ (j : Int) := by omega
      have HB3 := hide (fun W => q_betw kk 3 8 W)
      have HB4 := hide (fun W => q_betw kk 14 18 W)
      obtain ⟨x3, hx3⟩ : ∃ x, x = decide (3 ≤ kk ∧ kk ≤ 8) := ⟨_, rfl⟩
      obtain ⟨x4, hx4⟩ : ∃ x, x = decide (14 ≤ kk ∧ kk ≤ 18) := ⟨_, rfl⟩
      have HL : Hid (lookB kk = (x3 || x4)) := by show _ = _; unfold lookB; rw [hx3, hx4]
      rw [← hx3] at HB3
      rw [← hx4] at HB4
      clear hc hn hno hkk hg1 hg2 hx3 hx4
      go_wp2_with fail
      refine (HB3.out _).mono ?_
      rintro e w3 ⟨rfl, hh⟩
      subst hh
      cases x3 with
      | true =>
        have hE : Hid (R = false) := by show _ = _; rw [HR.out]; exact HNo.out (by rw [HL.out]; rfl)
        go_wp2
        go_ret
        exact ⟨by rw [hE.out]; rfl, HB2.out⟩
      | false =>
        go_wp2_with fail
        refine (HB4.out _).mono ?_
        rintro e w3 ⟨rfl, hh⟩
        subst hh
        cases x4 with
        | true =>
          have hE : Hid (R = false) := by show _ = _; rw [HR.out]; exact HNo.out (by rw [HL.out]; rfl)
          go_wp2
          go_ret
          exact ⟨by rw [hE.out]; rfl, HB2.out⟩
        | false =>
          have hE : Hid (plB ((flatT t).take (j + 1)) = true) := by show _ = _; rw [HNx.out, HQ.out, HL.out]; rfl
          go_wp2
          go_roundw
          case rel => exact ⟨j + 1, by omega, by go_num, hE.out, trivial⟩
          case measure => simp [intOf]; omega
    · have e1 : ¬ (j : Int) < (m : Int) := by omega
      have hN : Hid (R = true) := by
        show _ = _
        rw [HR.out, ← HQ.out, List.take_of_length_le (by rw [flat_len, ← HF.out.len, ← HM.out]; omega)]
      go_wp2
      go_ret
      exact ⟨by rw [hN.out]; rfl, HB2.out⟩

end Go.Proofs.Ytdipfaahlofmgaa
