/- What the reference's FoldOf answers: the set, folded. -/
import Derived.Test.YtojjfmnbpfpanaaDoorGmakeof
import Derived.Test.YtojjfmnbpfpanaaDoorGacc
import Derived.Test.YtojjfmnbpfpanaaDoorFOrbo
namespace Go.Proofs.YtojjfmnbpfpanaaDoor
open Go.RowKit
set_option linter.unusedVariables false

theorem ends_belowR {B : Nat} {w wr w1 : World} {v : Value} {n : Nat} {xs : List Value} (ho : wr.ownsRow B 35 2 v n xs) (hb : Below B w wr) (hB : B ≤ wr.heap.size) {o : Obj} (hg : (wr.alloc o).drew.grownBy w1 v.ownBlock) : Below B w w1 :=
  hb.trans (((below_drew ((Below.refl B wr).alloc hB o))).grown hg (by show B ≤ (wr.alloc o).heap.size; simp; omega) (fun k hk => (ho.lt k hk).1))
theorem cell_alloc_far {w : World} {o : Obj} {g j : Nat} (h : g < w.heap.size) : (w.alloc o).drew.cell? ⟨g, j, none⟩ = w.cell? ⟨g, j, none⟩ := by
  show (w.alloc o).cell? _ = _
  exact cell_block (Below.heap_alloc _ _ _ h)

set_option maxRecDepth 100000 in
set_option maxHeartbeats 8000000 in
theorem foldOf_some (ax : Addr) (c : Nat) (A : RL) (w : World) (hA : Reads w (.slice (some ax) A.length c) A) (hC : Cells2 w ax A) (lA : A.length ≤ 400) (oA : ∀ r ∈ A, okR r) : Calls Tryd.prog 7 #[.slice (some ax) A.length c] w fun e w' => Refs (foldF A) 60000 w e w' := by
  obtain ⟨i0, hi, hz0, hz1, hz2⟩ := info_parts infoR
  have HA := hide hA
  have OA := hide oA
  have HC := hide hC
  obtain ⟨n, hn⟩ : ∃ n, n = A.length := ⟨_, rfl⟩
  have hcl := cells2_len A
  rw [← hn] at hcl HA lA ⊢
  have HCL := hide hcl
  have HN := hide hn
  clear hA oA hC hn hcl
  have hb0 : Hid (Below w.heap.size w (w.alloc (.cells #[] 35))) := (Below.refl _ w).alloc (Nat.le_refl _) _
  go_enter Tryd.func7, Tryd.ntmps7
  go_wp2_with (at_builtin; refine wpList_append_own _ rfl _ _ 22 rfl w.heap.size 35 i0 (.agg #[.int .i64 0, .int .i64 0]) 2 16 Tryd.underlying22 hi hz0 hz1 hz2 rfl (by decide) _ 0 [] rfl (own_empty w) ax n c (cells2 A) rfl HCL.out (cells_of (HC.out.below hb0.out)) (cells2_one A) (by unfold maxLen; omega) (by omega) (by simp) ?_)
  intro v' w3 hown' hgrow _
  have HO3 : Hid (w3.ownsRow w.heap.size 35 2 v' n (cells2 A)) := hown'
  have HB3 := hide (hb0.out.grown hgrow (by simp) (fun k hk => by simp [Value.ownBlock] at hk; omega))
  obtain ⟨vo, vc, rfl⟩ := own_shape HO3.out
  clear hown' hgrow hb0
  go_wp2
  go_loopw [3, 4] (fun v i wr => ∃ (k : Nat) (O : RL), k ≤ 8500 ∧ i = .int .i64 k ∧ Acc A k O ∧ wr.ownsRow w.heap.size 35 2 v O.length (cells2 O) ∧ Below w.heap.size w wr) (fun _ i _ => 8500 - (intOf i).toNat)
  case atStart => exact ⟨0, A, by omega, rfl, acc_start OA.out, (by rw [← HN.out]; exact HO3.out), HB3.out⟩
  case round =>
    clear HO3 HB3
    obtain ⟨k, O, hk, rfl, hacc, ho, hb⟩ := hrel
    have HAcc := hide hacc
    have hOl := hacc.2.1
    obtain ⟨ro, rc, rfl⟩ := own_shape ho
    obtain ⟨no, hno⟩ : ∃ no, no = O.length := ⟨_, rfl⟩
    rw [← hno] at hOl ho ⊢
    have HNO := hide hno
    have HO := hide ho
    have HBl := hide hb
    have hBw : Hid (w.heap.size ≤ wr.heap.size) := hb.size
    have hOl2 : no ≤ 26000 := by have := HN.out; omega
    clear hacc ho hb hno hOl
    obtain ⟨w0, hw0⟩ : ∃ w0, w0 = wr := ⟨_, rfl⟩
    subst hw0
    by_cases hlt : k < 8500
    · have e1 : (k : Int) < 8500 := by omega
      have HBes := hide (Fo.beside_any k w0)
      have hbl := Fo.bes_len k
      by_cases hbe : Fo.besL k = []
      · rw [hbe] at HBes
        have HAcc2 := hide (acc_skip HAcc.out (.inl hbe))
        clear hbl hbe
        go_wp2_with fail
        refine HBes.out.mono ?_
        rintro e w1 ⟨v1, rfl, ho1, hb1⟩
        obtain ⟨bo, bc, hv1⟩ := own_shape ho1
        have hv1 : v1 = .slice bo 0 bc := hv1
        rw [hv1]
        have HB1 := hide (HBl.out.trans (hb1.mono hBw.out))
        have HO1 := hide (own_below HO.out hb1)
        clear ho1 hb1 HBes hv1
        go_wp2
        go_roundw
        case rel => exact ⟨k + 1, O, by omega, by go_num, HAcc2.out, by rw [← HNO.out]; exact HO1.out, HB1.out⟩
        case measure => simp [intOf]; omega
      · have hl1 : (Fo.besL k).length = 1 := by
          have : (Fo.besL k).length ≠ 0 := fun e => hbe (List.eq_nil_of_length_eq_zero e)
          omega
        rw [hl1] at HBes
        have HBE := hide hbe
        clear hbl hbe hl1
        go_wp2_with fail
        refine HBes.out.mono ?_
        rintro e w1 ⟨v1, rfl, ho1, hb1⟩
        obtain ⟨bg, bc, rfl⟩ := own_some ho1 (by omega)
        have HB1 := hide (HBl.out.trans (hb1.mono hBw.out))
        have HO1 := hide (own_below HO.out hb1)
        have hs01 : Hid (w0.heap.size ≤ w1.heap.size) := hb1.size
        clear ho1 hb1 HBes
        go_wp2_with fail
        refine (Fo.orbitOf_any k w1 (by omega) (by omega)).mono ?_
        rintro e w2 ⟨v2, rfl, ho2, hb2⟩
        have ll := Fo.orb_len k (by omega) (by omega)
        obtain ⟨l, hl⟩ : ∃ l, l = Fo.orb k := ⟨_, rfl⟩
        rw [← hl] at ho2 ll
        obtain ⟨m, hm⟩ : ∃ m, m = l.length := ⟨_, rfl⟩
        rw [← hm] at ho2 ll
        obtain ⟨l1, l3⟩ := ll
        obtain ⟨lg, lc, rfl⟩ := own_some ho2 l1
        have hLi := hide (Fo.own_lies ho2 hm)
        have hlg : Hid (w1.heap.size ≤ lg) := (ho2.lt lg rfl).1
        have hlg2 : Hid (lg < w2.heap.size) := (ho2.lt lg rfl).2
        have HB2 := hide (HB1.out.trans (hb2.mono HB1.out.size))
        have HO2 := hide (own_below HO1.out hb2)
        have HL := hide hl
        have HM := hide hm
        have hne : Hid ((Value.slice ro no rc).ownBlock ≠ some lg) := fun e => by
          have h1 := (HO.out.lt _ e).2
          have h2 := hs01.out
          have h3 := hlg.out
          omega
        clear ho2 hb2 hl hm HO HO1 HB1 hs01 hlg HBl hBw
        go_wp2
        go_loopw [6, 7] (fun s i wr => ∃ (j q : Nat), j ≤ m ∧ i = .int .i64 j ∧ s = .bool (someT A l j) ∧ wr = w2.drewN q) (fun _ i _ => m - (intOf i).toNat)
        case atStart => exact ⟨0, 0, by omega, rfl, rfl, rfl⟩
        case round =>
          obtain ⟨j, q, hj, rfl, rfl, hw⟩ := hrel
          have HW := hide hw
          obtain ⟨w3, hw3⟩ : ∃ w3, w3 = wr := ⟨_, rfl⟩
          subst hw3
          by_cases hjl : j < m
          · have hjL : j < l.length := by have := HM.out; omega
            have hS := hide (someT_succ (A := A) hjL)
            have cj : w3.cell? ⟨lg, j, none⟩ = some (.int .i64 l[j]) := by rw [hw]; exact hLi.out j hjL
            obtain ⟨x, hx⟩ : ∃ x, x = l[j] := ⟨_, rfl⟩
            rw [← hx] at cj hS
            have e2 : (j : Int) < (m : Int) := by omega
            have e0 : (0 : Int) ≤ (j : Int) := by omega
            have HWi := hide (within_any (.slice (some ax) n c) A x w3 (by rw [hw]; exact HA.out.below (below_drewN HB2.out q)) (by have := HN.out; omega))
            obtain ⟨s, hs⟩ : ∃ s, s = someT A l j := ⟨_, rfl⟩
            rw [← hs] at hS ⊢
            obtain ⟨u, hu⟩ : ∃ u, u = ins A x := ⟨_, rfl⟩
            rw [← hu] at HWi hS
            clear hw hx hs hu
            cases s with
            | true =>
              go_wp2
              go_roundw
              case rel => exact ⟨j + 1, q, by omega, by go_num, by rw [hS.out]; rfl, HW.out⟩
              case measure => simp [intOf]; omega
            | false =>
              go_wp2_with fail
              refine HWi.out.mono ?_
              rintro e w4 ⟨rfl, q', hq'⟩
              obtain ⟨q2, hq2⟩ := drewN_more HW.out q'
              have HQ : Hid (w4 = w2.drewN q2) := by show _ = _; rw [hq', hq2]
              clear hq' hq2 HWi
              go_wp2
              go_roundw
              case rel => exact ⟨j + 1, q2, by omega, by go_num, by rw [hS.out]; rfl, HQ.out⟩
              case measure => simp [intOf]; omega
          · have hjm : j = m := by omega
            subst hjm
            have hO3 : Hid (w3.ownsRow w.heap.size 35 2 (.slice ro no rc) no (cells2 O)) := by show World.ownsRow _ _ _ _ _ _ _; rw [hw]; exact own_drewN HO2.out q
            have hB3 : Hid (Below w.heap.size w w3) := by show Below _ _ _; rw [hw]; exact below_drewN HB2.out q
            have hL3 : Hid (Fo.Lies w3 lg l) := by show Fo.Lies _ _ _; rw [hw]; exact hLi.out
            have hsm : someT A l j = someT A l l.length := by rw [← HM.out]
            obtain ⟨s, hs⟩ : ∃ s, s = someT A l j := ⟨_, rfl⟩
            have HS := hide hs
            rw [← hs]
            clear hs hw hsm
            cases s with
            | false =>
              have HAcc2 := hide (acc_skip HAcc.out (.inr (by rw [← HL.out]; exact someT_no (j := j) (by have := HM.out; omega) HS.out.symm)))
              go_wp2
              go_loopw [3, 8] (fun v i wr => v = .slice ro no rc ∧ i = .int .i64 0 ∧ w3 = wr) (fun _ _ _ => 0)
              case atStart => exact ⟨rfl, rfl, rfl⟩
              case round =>
                obtain ⟨rfl, rfl, rfl⟩ := hrel
                go_wp2
                go_roundw
                case rel => exact ⟨k + 1, O, by omega, by go_num, HAcc2.out, by rw [← HNO.out]; exact hO3.out, hB3.out⟩
                case measure => simp [intOf]; omega
            | true =>
              have HAcc2 : Hid (Acc A (k + 1) (O ++ rowQ l)) := by
                obtain ⟨x, hx, hx2⟩ := someT_yes (j := j) (by have := HM.out; omega) HS.out.symm
                rw [HL.out] at hx
                show Acc _ _ _
                rw [HL.out]
                exact acc_take HAcc.out hlt HBE.out hx hx2
              go_wp2
              go_loopw [3, 8] (fun v i wr => ∃ (t : Nat), t ≤ j ∧ i = .int .i64 t ∧ wr.ownsRow w.heap.size 35 2 v (no + t) (cells2 (O ++ rowQ (l.take t))) ∧ v.ownBlock ≠ some lg ∧ Fo.Lies wr lg l ∧ Below w.heap.size w wr) (fun _ i _ => j - (intOf i).toNat)
              case atStart => exact ⟨0, by omega, rfl, by rw [show O ++ rowQ (l.take 0) = O from by simp [rowQ]]; exact hO3.out, hne.out, hL3.out, hB3.out⟩
              case round =>
                clear hO3 hB3 hL3 HO2 HB2 hLi HW hne hlg2
                obtain ⟨t, ht, rfl, ho, hne, hli, hb⟩ := hrel
                obtain ⟨so, sc, rfl⟩ := own_shape ho
                have HO4 := hide ho
                have HB4 := hide hb
                have HLi := hide hli
                have hne4 := hide hne
                obtain ⟨w4, hw4⟩ : ∃ w4, w4 = wr := ⟨_, rfl⟩
                subst hw4
                by_cases htl : t < j
                · have htL : t < l.length := by have := HM.out; omega
                  have ct := hli t htL
                  obtain ⟨x, hx⟩ : ∃ x, x = l[t] := ⟨_, rfl⟩
                  rw [← hx] at ct
                  have hE : Hid (cells2 (O ++ rowQ (l.take (t + 1))) = cells2 (O ++ rowQ (l.take t)) ++ [.int .i64 x, .int .i64 x]) := by
                    show _ = _
                    rw [rowQ_take l t htL, ← List.append_assoc, cells2_append (O ++ _), show l.getD t 0 = x from by rw [hx]; simp [List.getD, htL]]
                    rfl
                  have e3 : (t : Int) < (j : Int) := by omega
                  have e4 : (0 : Int) ≤ (t : Int) := by omega
                  have hBw : w.heap.size ≤ w4.heap.size := hb.size
                  have hlw := Fo.lt_of_cellf ct
                  have hlw : lg < w4.heap.size := hlw
                  clear hx ho hb hli
                  go_wp2
                  go_region_held3 (fun w' => w'.cell? ⟨lg, t, none⟩ = some (.int .i64 x))
                    (first | go_keep | (rw [hgrow.cell_far _ (by simp; omega) (fun e => hne e.symm)]; assumption))
                    ((refine step_append_lies _ (by rfl) _ _ _ (by rfl) w.heap.size 35 i0 _ 2 16 Tryd.underlying22 hi hz0 hz1 hz2 rfl (by omega) (.slice so (no + t) sc) (no + t) (cells2 (O ++ rowQ (l.take t))) (by rfl) ((HO4.out.alloc _).drew) ⟨w4.heap.size, 0, none⟩ 1 1 [.int .i64 x, .int .i64 x] (by rfl) (by rfl) (World.news_of_block (cs := #[.int .i64 x, .int .i64 x]) (t := 35) (fr := (0, 0)) (heap_alloc_new w4 _)) (by simp [Value.oneCell']) (by omega) (by unfold maxLen; omega) (by omega) (by simp; omega) (w4.heap.size + 1) (by simp) ?_; intro gg cap w5 hown1 hgrow hat hltt))
                  have hO5 := hide hown1
                  have hB5 := hide (ends_belowR HO4.out HB4.out hBw hgrow)
                  have hL5 : Hid (Fo.Lies w5 lg l) := fun s hs => by
                    rw [hgrow.cell_far _ (by simp; omega) (fun e => hne4.out e.symm)]
                    rw [cell_alloc_far hlw]
                    exact HLi.out s hs
                  have hN5 : Hid ((Value.slice (some ⟨gg, 0, none⟩) (no + t + 1) cap).ownBlock ≠ some lg) := fun e => by
                    simp [Value.ownBlock] at e
                    rcases hat with h | h
                    · exact hne4.out (by rw [h, e])
                    · omega
                  clear hown1 hgrow hat hltt ct
                  go_wp2
                  go_roundw
                  case rel => exact ⟨t + 1, by omega, by go_num, by rw [hE.out]; exact hO5.out, hN5.out, hL5.out, hB5.out⟩
                  case measure => simp [intOf]; omega
                · have htj : t = j := by omega
                  subst htj
                  have hO5 : Hid (w4.ownsRow w.heap.size 35 2 (.slice so (no + t) sc) (O ++ rowQ l).length (cells2 (O ++ rowQ l))) := by
                    show World.ownsRow _ _ _ _ _ _ _
                    have := ho
                    rw [show l.take t = l from List.take_of_length_le (by have := HM.out; omega)] at this
                    rw [List.length_append, rowQ_len, ← HNO.out, ← HM.out]
                    exact this
                  clear ho hli hne hb
                  go_wp2
                  go_roundw
                  case rel => exact ⟨k + 1, O ++ rowQ l, by omega, by go_num, HAcc2.out, hO5.out, HB4.out⟩
                  case measure => simp [intOf]; omega
    · have hk8 : k = 8500 := by omega
      subst hk8
      have HMk := hide (makeOf_any (.slice ro no rc) O w0 (by have := own_reads (by rw [HNO.out] at HO; exact HO.out); rw [HNO.out]; exact this) (by have := HNO.out; omega) HAcc.out.1)
      have hnl : Hid (1 + 2 * O.length ≤ 60000) := by have := HNO.out; show _ ≤ _; omega
      go_wp2_with fail
      refine HMk.out.mono ?_
      rintro e w1 ⟨v1, T, rfl, hr1, hs1, hl1, hb1⟩
      have HF := hide (HBl.out.trans (hb1.mono hBw.out))
      have HI := hide (isSet_congr hs1 (fun q _ _ => acc_done HAcc.out q))
      have HR1 := hide hr1
      have HL1 : Hid (T.length ≤ 60000) := by have := hnl.out; show _ ≤ _; omega
      clear hr1 hs1 hl1 hb1 HMk hnl
      go_wp2
      go_ret
      exact ⟨_, T, rfl, HR1.out, HI.out, HL1.out, HF.out⟩

set_option maxRecDepth 100000 in
set_option maxHeartbeats 8000000 in
theorem foldOf_none (A : RL) (w : World) (hn0 : A = []) : Calls Tryd.prog 7 #[.slice none 0 0] w fun e w' => Refs (foldF A) 60000 w e w' := by
  obtain ⟨i0, hi, hz0, hz1, hz2⟩ := info_parts infoR
  have HA : Hid (Reads w (.slice none 0 0) A) := .inl ⟨rfl, hn0⟩
  have OA : Hid (∀ r ∈ A, okR r) := fun r hr => by rw [hn0] at hr; cases hr
  have lA : A.length ≤ 400 := by rw [hn0]; simp
  have HO3 : Hid ((w.alloc (.cells #[] 35)).ownsRow w.heap.size 35 2 (.slice (some ⟨w.heap.size, 0, none⟩) 0 0) A.length (cells2 A)) := by rw [hn0]; exact own_empty w
  have HB3 : Hid (Below w.heap.size w (w.alloc (.cells #[] 35))) := (Below.refl _ w).alloc (Nat.le_refl _) _
  clear hn0
  go_enter Tryd.func7, Tryd.ntmps7
  go_wp2
  go_loopw [3, 4] (fun v i wr => ∃ (k : Nat) (O : RL), k ≤ 8500 ∧ i = .int .i64 k ∧ Acc A k O ∧ wr.ownsRow w.heap.size 35 2 v O.length (cells2 O) ∧ Below w.heap.size w wr) (fun _ i _ => 8500 - (intOf i).toNat)
  case atStart => exact ⟨0, A, by omega, rfl, acc_start OA.out, HO3.out, HB3.out⟩
  case round =>
    clear HO3 HB3
    obtain ⟨k, O, hk, rfl, hacc, ho, hb⟩ := hrel
    have HAcc := hide hacc
    have hOl := hacc.2.1
    obtain ⟨ro, rc, rfl⟩ := own_shape ho
    obtain ⟨no, hno⟩ : ∃ no, no = O.length := ⟨_, rfl⟩
    rw [← hno] at hOl ho ⊢
    have HNO := hide hno
    have HO := hide ho
    have HBl := hide hb
    have hBw : Hid (w.heap.size ≤ wr.heap.size) := hb.size
    have hOl2 : no ≤ 26000 := by have := lA; omega
    clear hacc ho hb hno hOl
    obtain ⟨w0, hw0⟩ : ∃ w0, w0 = wr := ⟨_, rfl⟩
    subst hw0
    by_cases hlt : k < 8500
    · have e1 : (k : Int) < 8500 := by omega
      have HBes := hide (Fo.beside_any k w0)
      have hbl := Fo.bes_len k
      by_cases hbe : Fo.besL k = []
      · rw [hbe] at HBes
        have HAcc2 := hide (acc_skip HAcc.out (.inl hbe))
        clear hbl hbe
        go_wp2_with fail
        refine HBes.out.mono ?_
        rintro e w1 ⟨v1, rfl, ho1, hb1⟩
        obtain ⟨bo, bc, hv1⟩ := own_shape ho1
        have hv1 : v1 = .slice bo 0 bc := hv1
        rw [hv1]
        have HB1 := hide (HBl.out.trans (hb1.mono hBw.out))
        have HO1 := hide (own_below HO.out hb1)
        clear ho1 hb1 HBes hv1
        go_wp2
        go_roundw
        case rel => exact ⟨k + 1, O, by omega, by go_num, HAcc2.out, by rw [← HNO.out]; exact HO1.out, HB1.out⟩
        case measure => simp [intOf]; omega
      · have hl1 : (Fo.besL k).length = 1 := by
          have : (Fo.besL k).length ≠ 0 := fun e => hbe (List.eq_nil_of_length_eq_zero e)
          omega
        rw [hl1] at HBes
        have HBE := hide hbe
        clear hbl hbe hl1
        go_wp2_with fail
        refine HBes.out.mono ?_
        rintro e w1 ⟨v1, rfl, ho1, hb1⟩
        obtain ⟨bg, bc, rfl⟩ := own_some ho1 (by omega)
        have HB1 := hide (HBl.out.trans (hb1.mono hBw.out))
        have HO1 := hide (own_below HO.out hb1)
        have hs01 : Hid (w0.heap.size ≤ w1.heap.size) := hb1.size
        clear ho1 hb1 HBes
        go_wp2_with fail
        refine (Fo.orbitOf_any k w1 (by omega) (by omega)).mono ?_
        rintro e w2 ⟨v2, rfl, ho2, hb2⟩
        have ll := Fo.orb_len k (by omega) (by omega)
        obtain ⟨l, hl⟩ : ∃ l, l = Fo.orb k := ⟨_, rfl⟩
        rw [← hl] at ho2 ll
        obtain ⟨m, hm⟩ : ∃ m, m = l.length := ⟨_, rfl⟩
        rw [← hm] at ho2 ll
        obtain ⟨l1, l3⟩ := ll
        obtain ⟨lg, lc, rfl⟩ := own_some ho2 l1
        have hLi := hide (Fo.own_lies ho2 hm)
        have hlg : Hid (w1.heap.size ≤ lg) := (ho2.lt lg rfl).1
        have hlg2 : Hid (lg < w2.heap.size) := (ho2.lt lg rfl).2
        have HB2 := hide (HB1.out.trans (hb2.mono HB1.out.size))
        have HO2 := hide (own_below HO1.out hb2)
        have HL := hide hl
        have HM := hide hm
        have hne : Hid ((Value.slice ro no rc).ownBlock ≠ some lg) := fun e => by
          have h1 := (HO.out.lt _ e).2
          have h2 := hs01.out
          have h3 := hlg.out
          omega
        clear ho2 hb2 hl hm HO HO1 HB1 hs01 hlg HBl hBw
        go_wp2
        go_loopw [6, 7] (fun s i wr => ∃ (j q : Nat), j ≤ m ∧ i = .int .i64 j ∧ s = .bool (someT A l j) ∧ wr = w2.drewN q) (fun _ i _ => m - (intOf i).toNat)
        case atStart => exact ⟨0, 0, by omega, rfl, rfl, rfl⟩
        case round =>
          obtain ⟨j, q, hj, rfl, rfl, hw⟩ := hrel
          have HW := hide hw
          obtain ⟨w3, hw3⟩ : ∃ w3, w3 = wr := ⟨_, rfl⟩
          subst hw3
          by_cases hjl : j < m
          · have hjL : j < l.length := by have := HM.out; omega
            have hS := hide (someT_succ (A := A) hjL)
            have cj : w3.cell? ⟨lg, j, none⟩ = some (.int .i64 l[j]) := by rw [hw]; exact hLi.out j hjL
            obtain ⟨x, hx⟩ : ∃ x, x = l[j] := ⟨_, rfl⟩
            rw [← hx] at cj hS
            have e2 : (j : Int) < (m : Int) := by omega
            have e0 : (0 : Int) ≤ (j : Int) := by omega
            have HWi := hide (within_any (.slice none 0 0) A x w3 (by rw [hw]; exact HA.out.below (below_drewN HB2.out q)) (by have := lA; omega))
            obtain ⟨s, hs⟩ : ∃ s, s = someT A l j := ⟨_, rfl⟩
            rw [← hs] at hS ⊢
            obtain ⟨u, hu⟩ : ∃ u, u = ins A x := ⟨_, rfl⟩
            rw [← hu] at HWi hS
            clear hw hx hs hu
            cases s with
            | true =>
              go_wp2
              go_roundw
              case rel => exact ⟨j + 1, q, by omega, by go_num, by rw [hS.out]; rfl, HW.out⟩
              case measure => simp [intOf]; omega
            | false =>
              go_wp2_with fail
              refine HWi.out.mono ?_
              rintro e w4 ⟨rfl, q', hq'⟩
              obtain ⟨q2, hq2⟩ := drewN_more HW.out q'
              have HQ : Hid (w4 = w2.drewN q2) := by show _ = _; rw [hq', hq2]
              clear hq' hq2 HWi
              go_wp2
              go_roundw
              case rel => exact ⟨j + 1, q2, by omega, by go_num, by rw [hS.out]; rfl, HQ.out⟩
              case measure => simp [intOf]; omega
          · have hjm : j = m := by omega
            subst hjm
            have hO3 : Hid (w3.ownsRow w.heap.size 35 2 (.slice ro no rc) no (cells2 O)) := by show World.ownsRow _ _ _ _ _ _ _; rw [hw]; exact own_drewN HO2.out q
            have hB3 : Hid (Below w.heap.size w w3) := by show Below _ _ _; rw [hw]; exact below_drewN HB2.out q
            have hL3 : Hid (Fo.Lies w3 lg l) := by show Fo.Lies _ _ _; rw [hw]; exact hLi.out
            have hsm : someT A l j = someT A l l.length := by rw [← HM.out]
            obtain ⟨s, hs⟩ : ∃ s, s = someT A l j := ⟨_, rfl⟩
            have HS := hide hs
            rw [← hs]
            clear hs hw hsm
            cases s with
            | false =>
              have HAcc2 := hide (acc_skip HAcc.out (.inr (by rw [← HL.out]; exact someT_no (j := j) (by have := HM.out; omega) HS.out.symm)))
              go_wp2
              go_loopw [3, 8] (fun v i wr => v = .slice ro no rc ∧ i = .int .i64 0 ∧ w3 = wr) (fun _ _ _ => 0)
              case atStart => exact ⟨rfl, rfl, rfl⟩
              case round =>
                obtain ⟨rfl, rfl, rfl⟩ := hrel
                go_wp2
                go_roundw
                case rel => exact ⟨k + 1, O, by omega, by go_num, HAcc2.out, by rw [← HNO.out]; exact hO3.out, hB3.out⟩
                case measure => simp [intOf]; omega
            | true =>
              have HAcc2 : Hid (Acc A (k + 1) (O ++ rowQ l)) := by
                obtain ⟨x, hx, hx2⟩ := someT_yes (j := j) (by have := HM.out; omega) HS.out.symm
                rw [HL.out] at hx
                show Acc _ _ _
                rw [HL.out]
                exact acc_take HAcc.out hlt HBE.out hx hx2
              go_wp2
              go_loopw [3, 8] (fun v i wr => ∃ (t : Nat), t ≤ j ∧ i = .int .i64 t ∧ wr.ownsRow w.heap.size 35 2 v (no + t) (cells2 (O ++ rowQ (l.take t))) ∧ v.ownBlock ≠ some lg ∧ Fo.Lies wr lg l ∧ Below w.heap.size w wr) (fun _ i _ => j - (intOf i).toNat)
              case atStart => exact ⟨0, by omega, rfl, by rw [show O ++ rowQ (l.take 0) = O from by simp [rowQ]]; exact hO3.out, hne.out, hL3.out, hB3.out⟩
              case round =>
                clear hO3 hB3 hL3 HO2 HB2 hLi HW hne hlg2
                obtain ⟨t, ht, rfl, ho, hne, hli, hb⟩ := hrel
                obtain ⟨so, sc, rfl⟩ := own_shape ho
                have HO4 := hide ho
                have HB4 := hide hb
                have HLi := hide hli
                have hne4 := hide hne
                obtain ⟨w4, hw4⟩ : ∃ w4, w4 = wr := ⟨_, rfl⟩
                subst hw4
                by_cases htl : t < j
                · have htL : t < l.length := by have := HM.out; omega
                  have ct := hli t htL
                  obtain ⟨x, hx⟩ : ∃ x, x = l[t] := ⟨_, rfl⟩
                  rw [← hx] at ct
                  have hE : Hid (cells2 (O ++ rowQ (l.take (t + 1))) = cells2 (O ++ rowQ (l.take t)) ++ [.int .i64 x, .int .i64 x]) := by
                    show _ = _
                    rw [rowQ_take l t htL, ← List.append_assoc, cells2_append (O ++ _), show l.getD t 0 = x from by rw [hx]; simp [List.getD, htL]]
                    rfl
                  have e3 : (t : Int) < (j : Int) := by omega
                  have e4 : (0 : Int) ≤ (t : Int) := by omega
                  have hBw : w.heap.size ≤ w4.heap.size := hb.size
                  have hlw := Fo.lt_of_cellf ct
                  have hlw : lg < w4.heap.size := hlw
                  clear hx ho hb hli
                  go_wp2
                  go_region_held3 (fun w' => w'.cell? ⟨lg, t, none⟩ = some (.int .i64 x))
                    (first | go_keep | (rw [hgrow.cell_far _ (by simp; omega) (fun e => hne e.symm)]; assumption))
                    ((refine step_append_lies _ (by rfl) _ _ _ (by rfl) w.heap.size 35 i0 _ 2 16 Tryd.underlying22 hi hz0 hz1 hz2 rfl (by omega) (.slice so (no + t) sc) (no + t) (cells2 (O ++ rowQ (l.take t))) (by rfl) ((HO4.out.alloc _).drew) ⟨w4.heap.size, 0, none⟩ 1 1 [.int .i64 x, .int .i64 x] (by rfl) (by rfl) (World.news_of_block (cs := #[.int .i64 x, .int .i64 x]) (t := 35) (fr := (0, 0)) (heap_alloc_new w4 _)) (by simp [Value.oneCell']) (by omega) (by unfold maxLen; omega) (by omega) (by simp; omega) (w4.heap.size + 1) (by simp) ?_; intro gg cap w5 hown1 hgrow hat hltt))
                  have hO5 := hide hown1
                  have hB5 := hide (ends_belowR HO4.out HB4.out hBw hgrow)
                  have hL5 : Hid (Fo.Lies w5 lg l) := fun s hs => by
                    rw [hgrow.cell_far _ (by simp; omega) (fun e => hne4.out e.symm)]
                    rw [cell_alloc_far hlw]
                    exact HLi.out s hs
                  have hN5 : Hid ((Value.slice (some ⟨gg, 0, none⟩) (no + t + 1) cap).ownBlock ≠ some lg) := fun e => by
                    simp [Value.ownBlock] at e
                    rcases hat with h | h
                    · exact hne4.out (by rw [h, e])
                    · omega
                  clear hown1 hgrow hat hltt ct
                  go_wp2
                  go_roundw
                  case rel => exact ⟨t + 1, by omega, by go_num, by rw [hE.out]; exact hO5.out, hN5.out, hL5.out, hB5.out⟩
                  case measure => simp [intOf]; omega
                · have htj : t = j := by omega
                  subst htj
                  have hO5 : Hid (w4.ownsRow w.heap.size 35 2 (.slice so (no + t) sc) (O ++ rowQ l).length (cells2 (O ++ rowQ l))) := by
                    show World.ownsRow _ _ _ _ _ _ _
                    have := ho
                    rw [show l.take t = l from List.take_of_length_le (by have := HM.out; omega)] at this
                    rw [List.length_append, rowQ_len, ← HNO.out, ← HM.out]
                    exact this
                  clear ho hli hne hb
                  go_wp2
                  go_roundw
                  case rel => exact ⟨k + 1, O ++ rowQ l, by omega, by go_num, HAcc2.out, hO5.out, HB4.out⟩
                  case measure => simp [intOf]; omega
    · have hk8 : k = 8500 := by omega
      subst hk8
      have HMk := hide (makeOf_any (.slice ro no rc) O w0 (by have := own_reads (by rw [HNO.out] at HO; exact HO.out); rw [HNO.out]; exact this) (by have := HNO.out; omega) HAcc.out.1)
      have hnl : Hid (1 + 2 * O.length ≤ 60000) := by have := HNO.out; show _ ≤ _; omega
      go_wp2_with fail
      refine HMk.out.mono ?_
      rintro e w1 ⟨v1, T, rfl, hr1, hs1, hl1, hb1⟩
      have HF := hide (HBl.out.trans (hb1.mono hBw.out))
      have HI := hide (isSet_congr hs1 (fun q _ _ => acc_done HAcc.out q))
      have HR1 := hide hr1
      have HL1 : Hid (T.length ≤ 60000) := by have := hnl.out; show _ ≤ _; omega
      clear hr1 hs1 hl1 hb1 HMk hnl
      go_wp2
      go_ret
      exact ⟨_, T, rfl, HR1.out, HI.out, HL1.out, HF.out⟩

theorem foldOf_any (va : Value) (A : RL) (w : World) (hA : Reads w va A) (lA : A.length ≤ 400) (oA : ∀ r ∈ A, okR r) : Calls Tryd.prog 7 #[va] w fun e w' => Refs (foldF A) 60000 w e w' := by
  have hA' := hA
  rcases hA with ⟨rfl, h0⟩ | ⟨x, c, rfl, hc⟩
  · exact foldOf_none A w h0
  · exact foldOf_some x c A w hA' hc lA oA

end Go.Proofs.YtojjfmnbpfpanaaDoor
