/- What the reference's ClassOf answers: the ranges of a class. -/
import Derived.Test.YtjhombfcbfhinaaDoorRpure
import Derived.Test.YtjhombfcbfhinaaDoorRefd
namespace Go.Proofs.YtjhombfcbfhinaaDoor
open Go.RowKit
set_option linter.unusedVariables false

set_option maxHeartbeats 1000000 in
theorem lit34 (s : ByteArray) (hs : s ∈ names) (b : Nat) (k : Int) (w : World) (hb : w.heap[b]? = some (.cells #[.string s] 9 (0, 0))) :
    Calls Tryd.prog 34 #[.int .i64 k, .pointer (some ⟨b, 0, none⟩)] w fun e w' => e = .returned (.bool (inP k (clsOf s))) ∧ w = w' := by
  have c := cell_of_one hb
  have H := hide (inR_some s hs k)
  rw [← inP_cls] at H
  obtain ⟨r, hr⟩ : ∃ r, r = inP k (clsOf s) := ⟨_, rfl⟩
  rw [← hr] at H ⊢
  clear hb hs hr
  go_enter Tryd.func34, Tryd.ntmps34
  go_wp2_with fail
  refine (H.out _).mono ?_
  rintro e w' ⟨rfl, rfl⟩
  go_wp2
  go_ret
  exact ⟨rfl, rfl⟩

theorem run_enters34 (args : Array Value) (w : World) : (callFunc 34 args).run Tryd.prog w = .ok (.enter 34 args) w := enters_of Tryd.func34 (by kernel_rfl) rfl args w

theorem own_turn0 {B : Nat} {w : World} {g cap m : Nat} {O : List (Int × Int)} {a b : Int} (h : w.ownsRow B 49 2 (.slice (some ⟨g, 0, none⟩) (m + 1) cap) (m + 1) (cells2 (O ++ [(a, b)]))) (hm : m = O.length) (M : Int) : (w.setCell ⟨g, m * 2 + 1, none⟩ (.int .i64 M)).ownsRow B 49 2 (.slice (some ⟨g, 0, none⟩) (m + 1) cap) (m + 1) (cells2 (O ++ [(a, M)])) := by
  have := (h.stored (m * 2 + 1) (.int .i64 M)).1
  subst hm
  rw [cells2_turn] at this
  exact this

set_option maxHeartbeats 4000000 in
theorem ranges_any (s : ByteArray) (hs : s ∈ names) (b : Nat) (w : World) (hb : w.heap[b]? = some (.cells #[.string s] 9 (0, 0))) :
    Calls Tryd.prog 33 #[.func (.func 34) #[] #[.pointer (some ⟨b, 0, none⟩)]] w fun e w' => ∃ v, e = .returned v ∧ w'.ownsRow w.heap.size 49 2 v (clsOf s).length (cells2 (clsOf s)) ∧ Below w.heap.size w w' := by
  obtain ⟨i0, hi, hz0, hz1, hz2⟩ := info_parts Tryd.info49
  have ent := run_enters34
  have HL : Hid (∀ k w1, Below w.heap.size w w1 → Calls Tryd.prog 34 #[.int .i64 k, .pointer (some ⟨b, 0, none⟩)] w1 fun e w' => e = .returned (.bool (inP k (clsOf s))) ∧ w1 = w') := fun k w1 h1 => lit34 s hs b k w1 (by rw [h1.block b (lt_of_block hb)]; exact hb)
  have HR := hide (cls_right s hs)
  obtain ⟨l1, l2⟩ := cls_len s hs
  obtain ⟨C, hC⟩ : ∃ C, C = clsOf s := ⟨_, rfl⟩
  rw [← hC] at HL HR l1 l2 ⊢
  have L1 := hide l1
  clear hC hs hb l1
  go_enter Tryd.func33, Tryd.ntmps33
  go_wp2
  go_loopw [3, 4] (fun v i wr => ∃ (k : Nat) (O : List (Int × Int)), k ≤ 13001 ∧ i = .int .i64 k ∧ wr.ownsRow w.heap.size 49 2 v O.length (cells2 O) ∧ Below w.heap.size w wr ∧ InvR C O k) (fun _ i _ => 13001 - (intOf i).toNat)
  case atStart => exact ⟨0, [], by decide, rfl, World.ownsRow_nil _ _ _ _, Below.refl _ _, invR_start HR.out⟩
  case round =>
    obtain ⟨k, O, hk, rfl, ho, hbl, hinv⟩ := hrel
    have hOl := invR_len hinv
    have hBw : w.heap.size ≤ wr.heap.size := hbl.size
    by_cases hlt : k ≤ 13000
    · have hst := invR_step HR.out hinv
      have HLk := hide (HL.out (k : Int) wr hbl)
      have hk2 : (k : Int) ≤ 13000 := by omega
      have hw1 : IntKind.i64.wrap ((k : Int) - 1) = (k : Int) - 1 := by rw [IntKind.wrap_i64]; omega
      obtain ⟨f, hf⟩ : ∃ f, f = inP (k : Int) C := ⟨_, rfl⟩
      rw [← hf] at HLk hst
      clear hf hinv
      cases f
      · rw [if_neg (by decide)] at hst
        have HST := hide hst
        obtain ⟨ao, c, rfl⟩ := own_shape ho
        have HO := hide ho
        clear hst ho
        go_wp2_with fail
        refine HLk.out.mono ?_
        rintro e w1 ⟨rfl, rfl⟩
        go_wp2
        go_roundw
        case rel => exact ⟨k + 1, O, by omega, by go_num, HO.out, hbl, by rw [Int.natCast_add]; exact HST.out⟩
        case measure => simp [intOf]; omega
      · rw [if_pos rfl] at hst
        rcases List.eq_nil_or_concat O with rfl | ⟨O', y, rfl⟩
        · have HST := hide hst
          obtain ⟨ao, c, rfl⟩ := own_shape ho
          have HO := hide ho
          clear hst ho
          go_wp2_with fail
          refine HLk.out.mono ?_
          rintro e w1 ⟨rfl, rfl⟩
          go_wp2_with (at_builtin; refine wpList_append_own _ rfl _ _ 32 rfl w.heap.size 49 i0 (.agg #[.int .i64 0, .int .i64 0]) 2 16 Tryd.underlying32 hi hz0 hz1 hz2 rfl (by decide) _ _ _ rfl (HO.out.alloc _) ⟨wr.heap.size, 0, none⟩ 1 1 [.int .i64 (k : Int), .int .i64 (k : Int)] rfl rfl (cells_two49 _ _ (by simp) _ _) (two49 _ _) (by decide) (by decide) (by simp; omega) ?_)
          intro v' w3 hown' hgrow _
          have HO3 := hide hown'
          have hb3 := below_app49 HO.out hBw hgrow
          clear hown' hgrow
          go_wp2
          go_roundw
          case rel => exact ⟨k + 1, [((k : Int), (k : Int))], by omega, by go_num, HO3.out, hbl.trans hb3, by rw [Int.natCast_add]; exact HST.out⟩
          case measure => simp [intOf]; omega
        · obtain ⟨ya, yb⟩ := y
          rw [List.concat_eq_append] at ho hOl hst
          obtain ⟨m, hm⟩ : ∃ m, m = O'.length := ⟨_, rfl⟩
          have hlen : (O' ++ [(ya, yb)]).length = m + 1 := by simp [hm]
          have HM := hide hm
          rw [hlen] at ho hOl
          obtain ⟨g', c, rfl⟩ := own_some ho (by omega)
          obtain ⟨e1, e2⟩ := own_last ho hm
          have HO := hide ho
          have ef := ho.frozenAt (m * 2 + 1)
          clear ho hlen hm e1
          have hgw : g' < wr.heap.size := (HO.out.lt g' rfl).2
          have m0 : (0 : Int) ≤ (m : Int) := by omega
          have m1 : (m : Int) < (m : Int) + 1 := by omega
          have m2 : m < m + 1 := by omega
          by_cases hin : yb = (k : Int) - 1
          · rw [stepR_in O' ya yb (k : Int) hin] at hst
            have HST := hide hst
            have hin2 : (yb == (k : Int) - 1) = true := by simpa using hin
            clear hst hin
            go_wp2_with fail
            refine HLk.out.mono ?_
            rintro e w1 ⟨rfl, rfl⟩
            go_wp2
            go_roundw
            case rel => exact ⟨k + 1, O' ++ [(ya, (k : Int))], by omega, by go_num, by rw [show (O' ++ [(ya, (k : Int))]).length = m + 1 from by simp [HM.out]]; exact own_turn0 HO.out HM.out _, hbl.setCell (HO.out.lt g' rfl).1 _, by rw [Int.natCast_add]; exact HST.out⟩
            case measure => simp [intOf]; omega
          · rw [stepR_out O' ya yb (k : Int) hin] at hst
            have HST := hide hst
            have hin2 : (yb == (k : Int) - 1) = false := by simpa using hin
            clear hst hin
            go_wp2_with fail
            refine HLk.out.mono ?_
            rintro e w1 ⟨rfl, rfl⟩
            go_wp2_with (at_builtin; refine wpList_append_own _ rfl _ _ 32 rfl w.heap.size 49 i0 (.agg #[.int .i64 0, .int .i64 0]) 2 16 Tryd.underlying32 hi hz0 hz1 hz2 rfl (by decide) _ _ _ rfl (HO.out.alloc _) ⟨wr.heap.size, 0, none⟩ 1 1 [.int .i64 (k : Int), .int .i64 (k : Int)] rfl rfl (cells_two49 _ _ (by simp) _ _) (two49 _ _) (by unfold maxLen; omega) (by omega) (by simp; omega) ?_)
            intro v' w3 hown' hgrow _
            have HO3 := hide hown'
            have hb3 := below_app49 HO.out hBw hgrow
            clear hown' hgrow
            go_wp2
            go_roundw
            case rel => exact ⟨k + 1, O' ++ [(ya, yb)] ++ [((k : Int), (k : Int))], by omega, by go_num, by rw [show (O' ++ [(ya, yb)] ++ [((k : Int), (k : Int))]).length = m + 1 + 1 from by simp [HM.out], cells2_append]; exact HO3.out, hbl.trans hb3, by rw [Int.natCast_add]; exact HST.out⟩
            case measure => simp [intOf]; omega
    · have hk3 : k = 13001 := by omega
      subst hk3
      have hfin := invR_fin HR.out hinv
      rcases List.eq_nil_or_concat O with rfl | ⟨O', y, rfl⟩
      · exfalso
        have := L1.out
        rw [← hfin] at this
        simp [finR] at this
      · obtain ⟨ya, yb⟩ := y
        rw [List.concat_eq_append] at ho hOl hfin
        obtain ⟨m, hm⟩ : ∃ m, m = O'.length := ⟨_, rfl⟩
        have hlen : (O' ++ [(ya, yb)]).length = m + 1 := by simp [hm]
        have HM := hide hm
        rw [hlen] at ho hOl
        obtain ⟨g', c, rfl⟩ := own_some ho (by omega)
        obtain ⟨e1, e2⟩ := own_last ho hm
        have HO := hide ho
        have ef := ho.frozenAt (m * 2 + 1)
        clear ho hlen hm e1 hinv
        have hgw : g' < wr.heap.size := (HO.out.lt g' rfl).2
        have m0 : (0 : Int) ≤ (m : Int) := by omega
        have m1 : (m : Int) < (m : Int) + 1 := by omega
        have m2 : m < m + 1 := by omega
        by_cases hin : yb = 13000
        · rw [finR_in O' ya yb hin] at hfin
          have HF := hide hfin
          have hin2 : (yb == 13000) = true := by simpa using hin
          clear hin hfin
          go_wp2
          go_ret
          refine ⟨_, rfl, ?_, hbl.setCell (HO.out.lt g' rfl).1 _⟩
          rw [← HF.out, show (O' ++ [(ya, (1114111 : Int))]).length = m + 1 from by simp [HM.out]]
          exact own_turn0 HO.out HM.out _
        · rw [finR_out O' ya yb hin] at hfin
          have HF := hide hfin
          have hin2 : (yb == 13000) = false := by simpa using hin
          clear hin hfin
          go_wp2
          go_ret
          refine ⟨_, rfl, ?_, hbl⟩
          rw [← HF.out, show (O' ++ [(ya, yb)]).length = m + 1 from by simp [HM.out]]
          exact HO.out

end Go.Proofs.YtjhombfcbfhinaaDoor
