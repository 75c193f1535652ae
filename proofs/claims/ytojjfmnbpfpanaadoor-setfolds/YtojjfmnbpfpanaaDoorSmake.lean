/- What slices.Clone, Join and Make answer. -/
import Derived.Test.YtojjfmnbpfpanaaDoorSsort
import Derived.Test.YtojjfmnbpfpanaaDoorSmade
namespace Go.Proofs.YtojjfmnbpfpanaaDoor
open Go.RowKit
set_option linter.unusedVariables false

theorem cells_of {w : World} {x : Addr} {L : RL} (h : Cells2 w x L) : ∀ j u, (cells2 L)[j]? = some u → w.cell? (x.add j) = some u := by
  intro j u hj
  have hlt : j < (cells2 L).length := (List.getElem?_eq_some_iff.1 hj).1
  rw [cells2_len] at hlt
  obtain ⟨c1, c2⟩ := h (j / 2) (by omega)
  obtain ⟨d1, d2⟩ := cells2_get L (j / 2) (by omega)
  rcases (show j % 2 = 0 ∨ j % 2 = 1 from by omega) with hm | hm
  · have e : j / 2 * 2 = j := by omega
    rw [e] at c1 d1
    rw [hj] at d1
    rw [c1, ← d1]
  · have e : j / 2 * 2 + 1 = j := by omega
    rw [e, hj] at d2
    have e2 : x.add j = ⟨(x.add (j / 2 * 2)).block, (x.add (j / 2 * 2)).off + 1, none⟩ := by
      unfold Addr.add
      rw [if_neg (by omega)]
      split
      · rename_i h0; first | (simp; omega) | simp_all
      · first | (simp; omega) | simp
    rw [e2, c2, ← d2]
theorem cells2_one (L : RL) : ∀ u ∈ cells2 L, u.oneCell' = true := by
  intro u hu
  unfold cells2 at hu
  rw [List.mem_flatMap] at hu
  obtain ⟨r, _, hu⟩ := hu
  simp [encR] at hu
  rcases hu with rfl | rfl <;> rfl
theorem own_empty (w : World) : (w.alloc (.cells #[] 35)).ownsRow w.heap.size 35 2 (.slice (some ⟨w.heap.size, 0, none⟩) 0 0) 0 [] := by
  have h := World.ownsRow_lit (base := w.heap.size) (e := 35) (size := 2) w #[] 0 (by simp) (by unfold maxLen; omega) (by simp)
  simpa using h

set_option maxHeartbeats 1000000 in
set_option maxRecDepth 100000 in
theorem clone_any (v : Value) (L : RL) (w : World) (hv : Reads w v L) (hl : L.length ≤ 3000) : Calls Tryd.prog 14 #[v] w fun e w' => ∃ v', e = .returned v' ∧ w'.ownsRow w.heap.size 35 2 v' L.length (cells2 L) ∧ Below w.heap.size w w' := by
  obtain ⟨i0, hi, hz0, hz1, hz2⟩ := info_parts infoR
  have nil0 : ∀ W, (binOp .eql 22 (.slice none 0 0) (.slice none 0 0)).run Tryd.prog W = .ok (.bool true) W := fun W => rfl
  have nil1 : ∀ a n c W, (binOp .eql 22 (.slice (some a) n c) (.slice none 0 0)).run Tryd.prog W = .ok (.bool false) W := fun a n c W => rfl
  rcases hv with ⟨rfl, rfl⟩ | ⟨x, c, rfl, hc⟩
  · go_enter Tryd.func14, Tryd.ntmps14
    go_wp2
    go_ret
    exact ⟨_, rfl, World.ownsRow_nil _ _ _ _, Below.refl _ _⟩
  · have HC := hide hc
    clear hc
    obtain ⟨n, hn⟩ : ∃ n, n = L.length := ⟨_, rfl⟩
    have hcl := cells2_len L
    rw [← hn] at hl hcl ⊢
    have HCL := hide hcl
    clear hn hcl
    have hb0 : Hid (Below w.heap.size w (w.alloc (.cells #[] 35))) := (Below.refl _ w).alloc (Nat.le_refl _) _
    go_enter Tryd.func14, Tryd.ntmps14
    go_wp2_with (at_builtin; refine wpList_append_own _ rfl _ _ 22 rfl w.heap.size 35 i0 (.agg #[.int .i64 0, .int .i64 0]) 2 16 Tryd.underlying22 hi hz0 hz1 hz2 rfl (by decide) _ 0 [] rfl (own_empty w) x n c (cells2 L) rfl HCL.out (cells_of (HC.out.below hb0.out)) (cells2_one L) (by unfold maxLen; omega) (by omega) (by simp) ?_)
    intro v' w3 hown' hgrow _
    have HO3 := hide hown'
    have hb3 := hide (hb0.out.grown hgrow (by simp) (fun k hk => by simp [Value.ownBlock] at hk; omega))
    clear hown' hgrow
    go_wp2
    go_ret
    exact ⟨_, rfl, HO3.out, hb3.out⟩

theorem foldl_take (S : RL) (k : Nat) (hk : k < S.length) : (S.take (k + 1)).foldl joinStep [] = joinStep ((S.take k).foldl joinStep []) S[k] := by
  rw [List.take_add_one, List.getElem?_eq_getElem hk, List.foldl_append]
  rfl
theorem foldl_join_len (S : RL) (k : Nat) : ((S.take k).foldl joinStep []).length ≤ k := by
  induction k with
  | zero => simp
  | succ k ih =>
    by_cases h : k < S.length
    · rw [foldl_take S k h]
      have := joinStep_len ((S.take k).foldl joinStep []) S[k]
      omega
    · rw [List.take_of_length_le (by omega)] at ih ⊢
      omega
theorem foldl_canon {S : RL} (hok : ∀ r ∈ S, okR r) (hs : S.Pairwise (fun a b => a.1 ≤ b.1)) (k : Nat) : Canon ((S.take k).foldl joinStep []) := by
  have := join_spec (S := S.take k) (fun r hr => hok r (List.mem_of_mem_take hr)) (hs.sublist (List.take_sublist k S))
  exact this.1

set_option maxHeartbeats 2000000 in
set_option maxRecDepth 100000 in
theorem join_any (B : Nat) (v : Value) (l : RL) (w : World) (hl : l.length ≤ 3000) (hok : ∀ r ∈ l, okR r) (hown : w.ownsRow B 35 2 v l.length (cells2 l)) (hB : B ≤ w.heap.size) :
    Calls Tryd.prog 18 #[v] w fun e w' => ∃ v' O, e = .returned v' ∧ w'.ownsRow B 35 2 v' O.length (cells2 O) ∧ IsSet (ins l) O ∧ O.length ≤ l.length ∧ Below B w w' := by
  have HS := hide (sortR_any B v l w hl (fun x hx => by have := hok x hx; unfold okR at this; omega) hown hB)
  have HOK := hide hok
  obtain ⟨ao, c, hvs⟩ := own_shape hown
  obtain ⟨n, hn⟩ : ∃ n, n = l.length := ⟨_, rfl⟩
  have HN := hide hn
  rw [← hn] at hvs hl
  rw [hvs] at HS ⊢
  clear hok hown hn hvs
  go_enter Tryd.func18, Tryd.ntmps18
  go_wp2_with fail
  refine HS.out.mono ?_
  rintro e w2 ⟨rfl, S, hp, hs, ho2, hb2⟩
  have hSl : S.length = n := by rw [hp.length_eq]; exact HN.out.symm
  have hokS : ∀ r ∈ S, okR r := fun r hr => HOK.out r (hp.mem_iff.1 hr)
  have HSP := hide hp
  have HSS := hide hs
  have HO2 := hide ho2
  have HKS := hide hokS
  have HSL := hide hSl
  have HB2 := hide hb2
  clear HS hp hs ho2 hokS hSl hb2
  go_wp2
  go_loopw [3, 10] (fun v i wr => ∃ k : Nat, k ≤ n ∧ i = .int .i64 k ∧ wr.ownsRow w2.heap.size 35 2 v ((S.take k).foldl joinStep []).length (cells2 ((S.take k).foldl joinStep [])) ∧ Below w2.heap.size w2 wr) (fun _ i _ => n - (intOf i).toNat)
  case atStart => exact ⟨0, Nat.zero_le _, rfl, World.ownsRow_nil _ _ _ _, Below.refl _ _⟩
  case round =>
    obtain ⟨k, hk, rfl, ho, hbl⟩ := hrel
    by_cases hlt : k < n
    · have hkS : k < S.length := by have := HSL.out; omega
      have hsrc := own_reads (own_below HO2.out hbl)
      obtain ⟨x, cx, hx, hcx⟩ := hsrc.some (by omega)
      obtain ⟨rfl⟩ : ao = some x := by cases hx; rfl
      obtain ⟨c1, c2⟩ := hcx k hkS
      have hfs := hide (foldl_take S k hkS)
      have hcan := foldl_canon HKS.out HSS.out k
      have hOlen := foldl_join_len S k
      have hr := HKS.out S[k] (List.getElem_mem _)
      obtain ⟨r, hr'⟩ : ∃ r, r = S[k] := ⟨_, rfl⟩
      rw [← hr'] at c1 c2 hfs hr
      obtain ⟨O, hO⟩ : ∃ O, O = (S.take k).foldl joinStep [] := ⟨_, rfl⟩
      rw [← hO] at ho hOlen hcan hfs
      obtain ⟨a, b⟩ := r
      simp only at c1 c2
      obtain ⟨ao', c', rfl⟩ := own_shape ho
      have hBw : w2.heap.size ≤ wr.heap.size := hbl.size
      have HAdd := hide (add_any w2.heap.size _ O a b (wr.alloc (.cells #[.int .i64 a, .int .i64 b] 35)) (by simp; omega) (fun x hx => by have := hcan.1 x hx; unfold okR at this; omega) (by omega) (ho.alloc _))
      have HBL := hide hbl
      clear hcan hr hr' hO ho hx hcx hsrc hbl hOlen
      go_wp2_with fail
      refine HAdd.out.mono ?_
      rintro e w3 ⟨v', rfl, ho3, hb3⟩
      have HO3 := hide ho3
      obtain ⟨ao'', c'', hv''⟩ := own_shape ho3
      rw [hv''] at HO3 ⊢
      clear ho3 hv''
      go_wp2
      go_roundw
      case rel => exact ⟨k + 1, by omega, by go_num, by rw [hfs.out]; exact HO3.out, (HBL.out.alloc hBw _).trans hb3⟩
      case measure => simp [intOf]; omega
    · have hkn : k = n := by omega
      subst hkn
      have hfull : S.take k = S := List.take_of_length_le (by have := HSL.out; omega)
      rw [hfull] at ho
      have HO := hide ho
      obtain ⟨j1, j2⟩ := join_spec HKS.out HSS.out
      have hset : Hid (IsSet (ins l) (joinL S)) := isSet_congr (isSet_self j1) fun q _ _ => by rw [j2, ins_perm HSP.out]
      have hlen : Hid ((joinL S).length ≤ l.length) := by
        have := foldl_join_len S k
        rw [hfull] at this
        show (S.foldl joinStep []).length ≤ _
        have := HN.out
        omega
      obtain ⟨ao', c', rfl⟩ := own_shape ho
      have HBL := hide hbl
      clear ho j1 j2 hbl
      go_wp2
      go_ret
      exact ⟨_, joinL S, rfl, own_base HO.out (Nat.le_trans hB HB2.out.size), hset.out, hlen.out, HB2.out.trans (HBL.out.mono (Nat.le_trans hB HB2.out.size))⟩

set_option maxHeartbeats 1000000 in
set_option maxRecDepth 100000 in
theorem make_any (v : Value) (L : RL) (w : World) (hv : Reads w v L) : Calls Tryd.prog 24 #[v] w fun e w' => Res (ins L) (rightE L) w e w' := by
  have H := hide (checkRanges_any v L w hv)
  by_cases hr : rightE L = 0
  · rw [hr] at H ⊢
    obtain ⟨hlen, hok⟩ := rightE_ok.1 hr
    have HV := hide hv
    have HO := hide hok
    clear hr hok hv
    go_enter Tryd.func24, Tryd.ntmps24
    go_wp2_with fail
    refine H.out.mono ?_
    rintro e w1 ⟨rfl, hb1⟩
    clear H
    go_wp2_with fail
    refine (clone_any v L w1 (HV.out.below hb1) (by omega)).mono ?_
    rintro e w2 ⟨v2, rfl, ho2, hb2⟩
    go_wp2_with fail
    refine (join_any w1.heap.size v2 L w2 (by omega) HO.out ho2 hb2.size).mono ?_
    rintro e w3 ⟨v3, O, rfl, ho3, hs3, hl3, hb3⟩
    go_wp2
    go_ret2
    exact ⟨_, _, O, rfl, own_reads ho3, .inr ⟨rfl, O, hs3, .inl ⟨by omega, rfl, rfl⟩⟩, hb1.trans ((hb2.mono hb1.size).trans (hb3.mono hb1.size))⟩
  · have hne : Hid (rightE L ≠ 0) := hr
    obtain ⟨z, hz⟩ : ∃ z, z = rightE L := ⟨_, rfl⟩
    rw [← hz] at hr H hne ⊢
    clear hz hv
    go_enter Tryd.func24, Tryd.ntmps24
    go_wp2_with fail
    refine H.out.mono ?_
    rintro e w1 ⟨rfl, hb1⟩
    go_wp2
    go_ret2
    exact ⟨_, _, [], rfl, reads_nil _, .inl ⟨hne.out, rfl, rfl⟩, hb1⟩

end Go.Proofs.YtojjfmnbpfpanaaDoor
