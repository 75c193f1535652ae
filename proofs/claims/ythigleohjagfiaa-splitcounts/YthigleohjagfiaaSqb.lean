/- Roads: what Roads answers for the set that splitBegun tries. -/
import Derived.Test.YthigleohjagfiaaSqa
namespace Go.Proofs.Ythigleohjagfiaa
open Go.RowKit Go.PlainAid
set_option linter.unusedVariables false

abbrev setA : RL := [(65, 66), (233, 233)]
def RoadsE (w : World) (e : Ending) (w' : World) : Prop := ∃ gr c g0 g1, e = .returned (.tuple #[.slice (some ⟨gr, 0, none⟩) 2 c, .int .i64 0]) ∧ Row2 w' gr g0 g1 ∧ (2 ≤ c ∧ c ≤ 9223372036854775807) ∧ Below w.heap.size w w'
theorem checkA : checkE setA = 0 := by decide
theorem RdS.row {w w3 wr : World} {bR : Nat} (h : RdS w w3 bR 10 wr) : ∃ gr c g0 g1, wr.cell? ⟨bR, 0, none⟩ = some (.slice (some ⟨gr, 0, none⟩) 2 c) ∧ Row2 wr gr g0 g1 ∧ (2 ≤ c ∧ c ≤ 9223372036854775807) := by
  obtain ⟨⟨v, us, h1⟩, h2, h3⟩ := h
  have hlen : us.length = 2 := h1.len
  obtain ⟨g0, _, u0, r0⟩ := h1.rds 0 (by decide)
  obtain ⟨g1, _, u1, r1⟩ := h1.rds 1 (by decide)
  rcases h1.own.2 with ⟨_, hz⟩ | ⟨gr, cap, cur, rfl, hg, hh, hnc, hcm, hcs, htake⟩
  · exact absurd hz (by decide)
  · refine ⟨gr, cap, g0, g1, by simp [World.cell?, h1.box]; rfl, ⟨?_, ?_, ⟨r0, r1⟩⟩, ?_⟩
    · have := h1.own.cells (g := gr) rfl 0 _ u0
      exact this
    · have := h1.own.cells (g := gr) rfl 1 _ u1
      exact this
    · have e2 : (ff 10).length = 2 := rfl
      rw [e2] at hnc
      unfold maxLen at hcm
      omega
set_option maxRecDepth 100000 in
set_option maxHeartbeats 40000000 in
theorem roads_any (xA : Addr) (cA : Nat) (w : World) (hA : Cells2 w xA setA) : Calls Try.prog 10 #[.int .i64 1, .slice (some xA) 2 cA] w fun e w' => RoadsE w e w' := by
  have hmf : ∀ (fn : Fn) (first cap : Array Value) (w : World), (Instr.makeFunc fn first cap).run Try.prog w = .ok (.func fn first cap) w := fun _ _ _ _ => rfl
  have HSh := hide (shapes1_any w)
  have HCk : Hid (∀ W, Below w.heap.size w W → Calls Try.prog 24 #[.slice (some xA) 2 cA] W fun e w' => e = .returned (.int .i64 0) ∧ Below W.heap.size W w') := fun W hW => by
    have := check_any (.slice (some xA) 2 cA) setA W (.inr ⟨xA, cA, rfl, hA.below hW⟩)
    rw [checkA] at this
    exact this
  have HA : Hid (∀ W, Below w.heap.size w W → (W.cell? xA = some (.int .i64 65) ∧ W.cell? ⟨xA.block, xA.off + 1, none⟩ = some (.int .i64 66)) ∧ (W.cell? ⟨xA.block, xA.off + 2, none⟩ = some (.int .i64 233) ∧ W.cell? ⟨xA.block, xA.off + 2 + 1, none⟩ = some (.int .i64 233))) := fun W hW => by
    have h0 := hA.below hW 0 (by decide)
    have h1 := hA.below hW 1 (by decide)
    simp only [Nat.zero_mul, Nat.one_mul, addr0, List.getElem_cons_zero, List.getElem_cons_succ] at h0 h1
    simp [Addr.add] at h1
    exact ⟨h0, h1⟩
  clear hA
  go_enter Try.func10, Try.ntmps10
  go_wp2_with fail
  refine HSh.out.mono ?_
  rintro e w1 ⟨g, p1, p2, p3, p5, rfl, hSh, hb1⟩
  have HW1 := hide hb1
  have HS1 := hide hSh
  clear hb1 hSh HSh
  go_wp2_with fail
  refine (HCk.out w1 HW1.out).mono ?_
  rintro e w2 ⟨rfl, hb2⟩
  have hW2 := HW1.out.trans (hb2.mono HW1.out.size)
  have hS2 : Shapes w2 g p1 p2 p3 p5 := ⟨rdO_keep HS1.out.g hb2, rdO_keep HS1.out.a hb2, rdO_keep HS1.out.b hb2⟩
  obtain ⟨w3, hw3⟩ : ∃ w3, w3 = w2.alloc (.cells #[.slice none 0 0] 22) := ⟨_, rfl⟩
  have hX3 : w3.heap[w2.heap.size]? = some (.cells #[.slice none 0 0] 22) := by rw [hw3]; exact at_newS _ _
  have hb3 : Below w2.heap.size w2 w3 := by rw [hw3]; exact (Below.refl _ w2).alloc (Nat.le_refl _) _
  obtain ⟨bR, hbR⟩ : ∃ bR, bR = w2.heap.size := ⟨_, rfl⟩
  have hne : g ≠ bR ∧ p1 ≠ bR ∧ p2 ≠ bR := by
    have h1 := lt_blockS hS2.g
    have h2 := lt_blockS hS2.a
    have h3 := lt_blockS hS2.b
    omega
  have hR0 : RdS w w3 bR 0 w3 := by
    refine ⟨⟨.slice none 0 0, [], ⟨by rw [hbR]; exact hW2.size, by rw [hbR]; exact hX3, World.ownsRow_nil _ _ _ _, rfl, fun j hj => absurd hj (by simp [ff])⟩⟩, hW2.trans (hb3.mono hW2.size), Kr.refl _ _⟩
  have HSk : Hid (∀ W, Kr bR w3 W → Shapes W g p1 p2 p3 p5) := fun W hK => Shapes.kr ⟨rdO_keep hS2.g hb3, rdO_keep hS2.a hb3, rdO_keep hS2.b hb3⟩ hne.1 hne.2.1 hne.2.2 hK
  have HR0 := hide hR0
  clear hb2 hW2 hS2 hX3 hb3 hR0 hne HCk HW1 HS1
  go_upto_region 8 with fail
  rw [← hw3, ← hbR]
  clear hw3 hbR
  go_wp2
  go_loopw [28] (fun q wr => ∃ i : Nat, i ≤ 5 ∧ q = .int .i64 i ∧ RdS w w3 bR (2 * i) wr) (fun q _ => 5 - (intOf q).toNat)
  case atStart => exact ⟨0, Nat.zero_le _, rfl, HR0.out⟩
  case round =>
    obtain ⟨i, hi, rfl, hR⟩ := hrel
    obtain ⟨w4, hw4⟩ : ∃ w4, w4 = wr := ⟨_, rfl⟩
    subst hw4
    have HRi := hide hR
    clear hR HR0
    by_cases hlt : i < 5
    · have hSh4 := HSk.out _ HRi.out.2.2
      have e5 : (i : Int) < 5 := by omega
      rcases (by omega : i = 0 ∨ i = 1 ∨ i = 2 ∨ i = 3 ∨ i = 4) with rfl | rfl | rfl | rfl | rfl
      · have m0 : w4.cell? ⟨g, 0, none⟩ = some (.int .i64 0) := cells_at hSh4.g 0
        have m1 : w4.cell? ⟨g, 1, none⟩ = some (.int .i64 127) := cells_at hSh4.g 1
        have m2 : w4.cell? ⟨g, 2, none⟩ = some (.int .i64 0) := cells_at hSh4.g 2
        have m3 : w4.cell? ⟨g, 3, none⟩ = some (.slice (some ⟨p1, 0, none⟩) 1 1) := cells_at hSh4.g 3
        obtain ⟨w5, hw5⟩ : ∃ w5, w5 = w4.alloc (shpO ⟨0, 127, 0, some ⟨p1, 0, none⟩, 1, 1⟩) := ⟨_, rfl⟩
        have hX5 : w5.heap[w4.heap.size]? = some (shpO ⟨0, 127, 0, some ⟨p1, 0, none⟩, 1, 1⟩) := by rw [hw5]; exact at_newS _ _
        have hb5 : Below w4.heap.size w4 w5 := by rw [hw5]; exact (Below.refl _ w4).alloc (Nat.le_refl _) _
        obtain ⟨bS, hbS⟩ : ∃ bS, bS = w4.heap.size := ⟨_, rfl⟩
        have hSR : bS ≠ bR := by
          obtain ⟨⟨v, us, h1⟩, _, _⟩ := HRi.out
          have := lt_blockS h1.box
          omega
        rw [← hbS] at hX5
        have HX5 := hide hX5
        have HSR := hide hSR
        have HR5 := hide (HRi.out.put hb5 0 rfl)
        simp only [shpO] at hw5
        clear hX5 hb5 hSR hSh4 HRi hlt e5
        rw [show ((0 : Nat) : Int) = (0 : Int) from rfl]
        go_upto_region 11 with fail
        rw [← hw5, ← hbS]
        clear hw5 hbS m0 m1 m2 m3
        go_wp2
        go_loopw [34] (fun q wr => ∃ j : Nat, j ≤ 2 ∧ q = .int .i64 j ∧ RdS w w3 bR (0 + j) wr ∧ wr.heap[bS]? = some (shpO ⟨0, 127, 0, some ⟨p1, 0, none⟩, 1, 1⟩)) (fun q _ => 2 - (intOf q).toNat)
        case atStart => exact ⟨0, Nat.zero_le _, rfl, HR5.out, HX5.out⟩
        case round =>
          obtain ⟨j, hj, rfl, hRj, hXj⟩ := hrel
          obtain ⟨w6, hw6⟩ : ∃ w6, w6 = wr := ⟨_, rfl⟩
          subst hw6
          have HRj := hide hRj
          have HXj := hide hXj
          clear hRj hXj HR5 HX5
          by_cases hlt2 : j < 2
          · have e6 : (j : Int) < 2 := by omega
            have hA6 := HA.out _ HRj.out.2.1
            rcases (by omega : j = 0 ∨ j = 1) with rfl | rfl
            · obtain ⟨n0, n1⟩ := hA6.1
              obtain ⟨w7, hw7⟩ : ∃ w7, w7 = w6.alloc (rgOS 65 66) := ⟨_, rfl⟩
              have hX7 : w7.heap[w6.heap.size]? = some (rgOS 65 66) := by rw [hw7]; exact at_newS _ _
              have hb7 : Below w6.heap.size w6 w7 := by rw [hw7]; exact (Below.refl _ w6).alloc (Nat.le_refl _) _
              have hS7 := rdO_keep HXj.out hb7
              have HX7 := hide hS7
              have hR7 := HRj.out.put hb7 (0) rfl
              have HBk := hide (blk_0_0 w w3 bR bS g p1 p2 p3 p5 w7 hR7 (HSk.out _ hR7.2.2) hS7)
              obtain ⟨bx, hbx⟩ : ∃ bx, bx = w6.heap.size := ⟨_, rfl⟩
              rw [← hbx] at hX7
              obtain ⟨d0, d1, d2, d3⟩ := shp_cells hS7
              obtain ⟨f0, f1⟩ := rg_cellsS hX7
              simp only [rgOS] at hw7
              simp only at d0 d1 d2 d3
              simp only [shpV, takeF] at HBk
              clear hX7 hb7 hS7 hR7 hA6 HRj HXj hlt2
              go_upto_region 14 with fail
              rw [← hw7, ← hbx]
              clear hw7 hbx n0 n1
              go_wp2_with fail
              refine HBk.out.mono ?_
              rintro e w8 ⟨rfl, hR8, hK8⟩
              have HR8 := hide hR8
              have HX8 := hide (hK8 _ _ _ _ HSR.out (by decide) HX7.out)
              clear hR8 hK8 HBk d0 d1 d2 d3 f0 f1 HX7
              go_wp2
              go_roundw
              case rel => exact ⟨0 + 1, by omega, by go_num, HR8.out, HX8.out⟩
              case measure => simp [intOf]
            · obtain ⟨n0, n1⟩ := hA6.2
              obtain ⟨w7, hw7⟩ : ∃ w7, w7 = w6.alloc (rgOS 233 233) := ⟨_, rfl⟩
              have hX7 : w7.heap[w6.heap.size]? = some (rgOS 233 233) := by rw [hw7]; exact at_newS _ _
              have hb7 : Below w6.heap.size w6 w7 := by rw [hw7]; exact (Below.refl _ w6).alloc (Nat.le_refl _) _
              have hS7 := rdO_keep HXj.out hb7
              have HX7 := hide hS7
              have hR7 := HRj.out.put hb7 (1) rfl
              have HBk := hide (blk_0_1 w w3 bR bS g p1 p2 p3 p5 w7 hR7 (HSk.out _ hR7.2.2) hS7)
              obtain ⟨bx, hbx⟩ : ∃ bx, bx = w6.heap.size := ⟨_, rfl⟩
              rw [← hbx] at hX7
              obtain ⟨d0, d1, d2, d3⟩ := shp_cells hS7
              obtain ⟨f0, f1⟩ := rg_cellsS hX7
              simp only [rgOS] at hw7
              simp only at d0 d1 d2 d3
              simp only [shpV, takeF] at HBk
              clear hX7 hb7 hS7 hR7 hA6 HRj HXj hlt2
              go_upto_region 14 with fail
              rw [← hw7, ← hbx]
              clear hw7 hbx n0 n1
              go_wp2_with fail
              refine HBk.out.mono ?_
              rintro e w8 ⟨rfl, hR8, hK8⟩
              have HR8 := hide hR8
              have HX8 := hide (hK8 _ _ _ _ HSR.out (by decide) HX7.out)
              clear hR8 hK8 HBk d0 d1 d2 d3 f0 f1 HX7
              go_wp2
              go_roundw
              case rel => exact ⟨1 + 1, by omega, by go_num, HR8.out, HX8.out⟩
              case measure => simp [intOf]
          · have e6 : ¬ (j : Int) < 2 := by omega
            have hj2 : j = 2 := by omega
            subst hj2
            have HR9 : Hid (RdS w w3 bR (2 * (0 + 1)) w6) := HRj.out
            clear HRj HXj hlt2
            go_wp2
            go_roundw
            case rel => exact ⟨0 + 1, by omega, by go_num, HR9.out⟩
            case measure => simp [intOf]
      · have m0 : w4.cell? ⟨g, 4, none⟩ = some (.int .i64 128) := cells_at hSh4.g 4
        have m1 : w4.cell? ⟨g, 5, none⟩ = some (.int .i64 2047) := cells_at hSh4.g 5
        have m2 : w4.cell? ⟨g, 6, none⟩ = some (.int .i64 0) := cells_at hSh4.g 6
        have m3 : w4.cell? ⟨g, 7, none⟩ = some (.slice (some ⟨p2, 0, none⟩) 2 2) := cells_at hSh4.g 7
        obtain ⟨w5, hw5⟩ : ∃ w5, w5 = w4.alloc (shpO ⟨128, 2047, 0, some ⟨p2, 0, none⟩, 2, 2⟩) := ⟨_, rfl⟩
        have hX5 : w5.heap[w4.heap.size]? = some (shpO ⟨128, 2047, 0, some ⟨p2, 0, none⟩, 2, 2⟩) := by rw [hw5]; exact at_newS _ _
        have hb5 : Below w4.heap.size w4 w5 := by rw [hw5]; exact (Below.refl _ w4).alloc (Nat.le_refl _) _
        obtain ⟨bS, hbS⟩ : ∃ bS, bS = w4.heap.size := ⟨_, rfl⟩
        have hSR : bS ≠ bR := by
          obtain ⟨⟨v, us, h1⟩, _, _⟩ := HRi.out
          have := lt_blockS h1.box
          omega
        rw [← hbS] at hX5
        have HX5 := hide hX5
        have HSR := hide hSR
        have HR5 := hide (HRi.out.put hb5 2 rfl)
        simp only [shpO] at hw5
        clear hX5 hb5 hSR hSh4 HRi hlt e5
        rw [show ((1 : Nat) : Int) = (1 : Int) from rfl]
        go_upto_region 11 with fail
        rw [← hw5, ← hbS]
        clear hw5 hbS m0 m1 m2 m3
        go_wp2
        go_loopw [34] (fun q wr => ∃ j : Nat, j ≤ 2 ∧ q = .int .i64 j ∧ RdS w w3 bR (2 + j) wr ∧ wr.heap[bS]? = some (shpO ⟨128, 2047, 0, some ⟨p2, 0, none⟩, 2, 2⟩)) (fun q _ => 2 - (intOf q).toNat)
        case atStart => exact ⟨0, Nat.zero_le _, rfl, HR5.out, HX5.out⟩
        case round =>
          obtain ⟨j, hj, rfl, hRj, hXj⟩ := hrel
          obtain ⟨w6, hw6⟩ : ∃ w6, w6 = wr := ⟨_, rfl⟩
          subst hw6
          have HRj := hide hRj
          have HXj := hide hXj
          clear hRj hXj HR5 HX5
          by_cases hlt2 : j < 2
          · have e6 : (j : Int) < 2 := by omega
            have hA6 := HA.out _ HRj.out.2.1
            rcases (by omega : j = 0 ∨ j = 1) with rfl | rfl
            · obtain ⟨n0, n1⟩ := hA6.1
              obtain ⟨w7, hw7⟩ : ∃ w7, w7 = w6.alloc (rgOS 65 66) := ⟨_, rfl⟩
              have hX7 : w7.heap[w6.heap.size]? = some (rgOS 65 66) := by rw [hw7]; exact at_newS _ _
              have hb7 : Below w6.heap.size w6 w7 := by rw [hw7]; exact (Below.refl _ w6).alloc (Nat.le_refl _) _
              have hS7 := rdO_keep HXj.out hb7
              have HX7 := hide hS7
              have hR7 := HRj.out.put hb7 (2) rfl
              have HBk := hide (blk_1_0 w w3 bR bS g p1 p2 p3 p5 w7 hR7 (HSk.out _ hR7.2.2) hS7)
              obtain ⟨bx, hbx⟩ : ∃ bx, bx = w6.heap.size := ⟨_, rfl⟩
              rw [← hbx] at hX7
              obtain ⟨d0, d1, d2, d3⟩ := shp_cells hS7
              obtain ⟨f0, f1⟩ := rg_cellsS hX7
              simp only [rgOS] at hw7
              simp only at d0 d1 d2 d3
              simp only [shpV, takeF] at HBk
              clear hX7 hb7 hS7 hR7 hA6 HRj HXj hlt2
              go_upto_region 14 with fail
              rw [← hw7, ← hbx]
              clear hw7 hbx n0 n1
              go_wp2_with fail
              refine HBk.out.mono ?_
              rintro e w8 ⟨rfl, hR8, hK8⟩
              have HR8 := hide hR8
              have HX8 := hide (hK8 _ _ _ _ HSR.out (by decide) HX7.out)
              clear hR8 hK8 HBk d0 d1 d2 d3 f0 f1 HX7
              go_wp2
              go_roundw
              case rel => exact ⟨0 + 1, by omega, by go_num, HR8.out, HX8.out⟩
              case measure => simp [intOf]
            · obtain ⟨n0, n1⟩ := hA6.2
              obtain ⟨w7, hw7⟩ : ∃ w7, w7 = w6.alloc (rgOS 233 233) := ⟨_, rfl⟩
              have hX7 : w7.heap[w6.heap.size]? = some (rgOS 233 233) := by rw [hw7]; exact at_newS _ _
              have hb7 : Below w6.heap.size w6 w7 := by rw [hw7]; exact (Below.refl _ w6).alloc (Nat.le_refl _) _
              have hS7 := rdO_keep HXj.out hb7
              have HX7 := hide hS7
              have hR7 := HRj.out.put hb7 (3) rfl
              have HBk := hide (blk_1_1 w w3 bR bS g p1 p2 p3 p5 w7 hR7 (HSk.out _ hR7.2.2) hS7)
              obtain ⟨bx, hbx⟩ : ∃ bx, bx = w6.heap.size := ⟨_, rfl⟩
              rw [← hbx] at hX7
              obtain ⟨d0, d1, d2, d3⟩ := shp_cells hS7
              obtain ⟨f0, f1⟩ := rg_cellsS hX7
              simp only [rgOS] at hw7
              simp only at d0 d1 d2 d3
              simp only [shpV, takeF] at HBk
              clear hX7 hb7 hS7 hR7 hA6 HRj HXj hlt2
              go_upto_region 14 with fail
              rw [← hw7, ← hbx]
              clear hw7 hbx n0 n1
              go_wp2_with fail
              refine HBk.out.mono ?_
              rintro e w8 ⟨rfl, hR8, hK8⟩
              have HR8 := hide hR8
              have HX8 := hide (hK8 _ _ _ _ HSR.out (by decide) HX7.out)
              clear hR8 hK8 HBk d0 d1 d2 d3 f0 f1 HX7
              go_wp2
              go_roundw
              case rel => exact ⟨1 + 1, by omega, by go_num, HR8.out, HX8.out⟩
              case measure => simp [intOf]
          · have e6 : ¬ (j : Int) < 2 := by omega
            have hj2 : j = 2 := by omega
            subst hj2
            have HR9 : Hid (RdS w w3 bR (2 * (1 + 1)) w6) := HRj.out
            clear HRj HXj hlt2
            go_wp2
            go_roundw
            case rel => exact ⟨1 + 1, by omega, by go_num, HR9.out⟩
            case measure => simp [intOf]
      · have m0 : w4.cell? ⟨g, 8, none⟩ = some (.int .i64 2048) := cells_at hSh4.g 8
        have m1 : w4.cell? ⟨g, 9, none⟩ = some (.int .i64 55295) := cells_at hSh4.g 9
        have m2 : w4.cell? ⟨g, 10, none⟩ = some (.int .i64 0) := cells_at hSh4.g 10
        have m3 : w4.cell? ⟨g, 11, none⟩ = some (.slice (some ⟨p3, 0, none⟩) 3 3) := cells_at hSh4.g 11
        obtain ⟨w5, hw5⟩ : ∃ w5, w5 = w4.alloc (shpO ⟨2048, 55295, 0, some ⟨p3, 0, none⟩, 3, 3⟩) := ⟨_, rfl⟩
        have hX5 : w5.heap[w4.heap.size]? = some (shpO ⟨2048, 55295, 0, some ⟨p3, 0, none⟩, 3, 3⟩) := by rw [hw5]; exact at_newS _ _
        have hb5 : Below w4.heap.size w4 w5 := by rw [hw5]; exact (Below.refl _ w4).alloc (Nat.le_refl _) _
        obtain ⟨bS, hbS⟩ : ∃ bS, bS = w4.heap.size := ⟨_, rfl⟩
        have hSR : bS ≠ bR := by
          obtain ⟨⟨v, us, h1⟩, _, _⟩ := HRi.out
          have := lt_blockS h1.box
          omega
        rw [← hbS] at hX5
        have HX5 := hide hX5
        have HSR := hide hSR
        have HR5 := hide (HRi.out.put hb5 4 rfl)
        simp only [shpO] at hw5
        clear hX5 hb5 hSR hSh4 HRi hlt e5
        rw [show ((2 : Nat) : Int) = (2 : Int) from rfl]
        go_upto_region 11 with fail
        rw [← hw5, ← hbS]
        clear hw5 hbS m0 m1 m2 m3
        go_wp2
        go_loopw [34] (fun q wr => ∃ j : Nat, j ≤ 2 ∧ q = .int .i64 j ∧ RdS w w3 bR (4 + j) wr ∧ wr.heap[bS]? = some (shpO ⟨2048, 55295, 0, some ⟨p3, 0, none⟩, 3, 3⟩)) (fun q _ => 2 - (intOf q).toNat)
        case atStart => exact ⟨0, Nat.zero_le _, rfl, HR5.out, HX5.out⟩
        case round =>
          obtain ⟨j, hj, rfl, hRj, hXj⟩ := hrel
          obtain ⟨w6, hw6⟩ : ∃ w6, w6 = wr := ⟨_, rfl⟩
          subst hw6
          have HRj := hide hRj
          have HXj := hide hXj
          clear hRj hXj HR5 HX5
          by_cases hlt2 : j < 2
          · have e6 : (j : Int) < 2 := by omega
            have hA6 := HA.out _ HRj.out.2.1
            rcases (by omega : j = 0 ∨ j = 1) with rfl | rfl
            · obtain ⟨n0, n1⟩ := hA6.1
              obtain ⟨w7, hw7⟩ : ∃ w7, w7 = w6.alloc (rgOS 65 66) := ⟨_, rfl⟩
              have hX7 : w7.heap[w6.heap.size]? = some (rgOS 65 66) := by rw [hw7]; exact at_newS _ _
              have hb7 : Below w6.heap.size w6 w7 := by rw [hw7]; exact (Below.refl _ w6).alloc (Nat.le_refl _) _
              have hS7 := rdO_keep HXj.out hb7
              have HX7 := hide hS7
              have hR7 := HRj.out.put hb7 (4) rfl
              have HBk := hide (blk_2_0 w w3 bR bS g p1 p2 p3 p5 w7 hR7 (HSk.out _ hR7.2.2) hS7)
              obtain ⟨bx, hbx⟩ : ∃ bx, bx = w6.heap.size := ⟨_, rfl⟩
              rw [← hbx] at hX7
              obtain ⟨d0, d1, d2, d3⟩ := shp_cells hS7
              obtain ⟨f0, f1⟩ := rg_cellsS hX7
              simp only [rgOS] at hw7
              simp only at d0 d1 d2 d3
              simp only [shpV, takeF] at HBk
              clear hX7 hb7 hS7 hR7 hA6 HRj HXj hlt2
              go_upto_region 14 with fail
              rw [← hw7, ← hbx]
              clear hw7 hbx n0 n1
              go_wp2_with fail
              refine HBk.out.mono ?_
              rintro e w8 ⟨rfl, hR8, hK8⟩
              have HR8 := hide hR8
              have HX8 := hide (hK8 _ _ _ _ HSR.out (by decide) HX7.out)
              clear hR8 hK8 HBk d0 d1 d2 d3 f0 f1 HX7
              go_wp2
              go_roundw
              case rel => exact ⟨0 + 1, by omega, by go_num, HR8.out, HX8.out⟩
              case measure => simp [intOf]
            · obtain ⟨n0, n1⟩ := hA6.2
              obtain ⟨w7, hw7⟩ : ∃ w7, w7 = w6.alloc (rgOS 233 233) := ⟨_, rfl⟩
              have hX7 : w7.heap[w6.heap.size]? = some (rgOS 233 233) := by rw [hw7]; exact at_newS _ _
              have hb7 : Below w6.heap.size w6 w7 := by rw [hw7]; exact (Below.refl _ w6).alloc (Nat.le_refl _) _
              have hS7 := rdO_keep HXj.out hb7
              have HX7 := hide hS7
              have hR7 := HRj.out.put hb7 (5) rfl
              have HBk := hide (blk_2_1 w w3 bR bS g p1 p2 p3 p5 w7 hR7 (HSk.out _ hR7.2.2) hS7)
              obtain ⟨bx, hbx⟩ : ∃ bx, bx = w6.heap.size := ⟨_, rfl⟩
              rw [← hbx] at hX7
              obtain ⟨d0, d1, d2, d3⟩ := shp_cells hS7
              obtain ⟨f0, f1⟩ := rg_cellsS hX7
              simp only [rgOS] at hw7
              simp only at d0 d1 d2 d3
              simp only [shpV, takeF] at HBk
              clear hX7 hb7 hS7 hR7 hA6 HRj HXj hlt2
              go_upto_region 14 with fail
              rw [← hw7, ← hbx]
              clear hw7 hbx n0 n1
              go_wp2_with fail
              refine HBk.out.mono ?_
              rintro e w8 ⟨rfl, hR8, hK8⟩
              have HR8 := hide hR8
              have HX8 := hide (hK8 _ _ _ _ HSR.out (by decide) HX7.out)
              clear hR8 hK8 HBk d0 d1 d2 d3 f0 f1 HX7
              go_wp2
              go_roundw
              case rel => exact ⟨1 + 1, by omega, by go_num, HR8.out, HX8.out⟩
              case measure => simp [intOf]
          · have e6 : ¬ (j : Int) < 2 := by omega
            have hj2 : j = 2 := by omega
            subst hj2
            have HR9 : Hid (RdS w w3 bR (2 * (2 + 1)) w6) := HRj.out
            clear HRj HXj hlt2
            go_wp2
            go_roundw
            case rel => exact ⟨2 + 1, by omega, by go_num, HR9.out⟩
            case measure => simp [intOf]
      · have m0 : w4.cell? ⟨g, 12, none⟩ = some (.int .i64 57344) := cells_at hSh4.g 12
        have m1 : w4.cell? ⟨g, 13, none⟩ = some (.int .i64 65535) := cells_at hSh4.g 13
        have m2 : w4.cell? ⟨g, 14, none⟩ = some (.int .i64 0) := cells_at hSh4.g 14
        have m3 : w4.cell? ⟨g, 15, none⟩ = some (.slice (some ⟨p3, 0, none⟩) 3 3) := cells_at hSh4.g 15
        obtain ⟨w5, hw5⟩ : ∃ w5, w5 = w4.alloc (shpO ⟨57344, 65535, 0, some ⟨p3, 0, none⟩, 3, 3⟩) := ⟨_, rfl⟩
        have hX5 : w5.heap[w4.heap.size]? = some (shpO ⟨57344, 65535, 0, some ⟨p3, 0, none⟩, 3, 3⟩) := by rw [hw5]; exact at_newS _ _
        have hb5 : Below w4.heap.size w4 w5 := by rw [hw5]; exact (Below.refl _ w4).alloc (Nat.le_refl _) _
        obtain ⟨bS, hbS⟩ : ∃ bS, bS = w4.heap.size := ⟨_, rfl⟩
        have hSR : bS ≠ bR := by
          obtain ⟨⟨v, us, h1⟩, _, _⟩ := HRi.out
          have := lt_blockS h1.box
          omega
        rw [← hbS] at hX5
        have HX5 := hide hX5
        have HSR := hide hSR
        have HR5 := hide (HRi.out.put hb5 6 rfl)
        simp only [shpO] at hw5
        clear hX5 hb5 hSR hSh4 HRi hlt e5
        rw [show ((3 : Nat) : Int) = (3 : Int) from rfl]
        go_upto_region 11 with fail
        rw [← hw5, ← hbS]
        clear hw5 hbS m0 m1 m2 m3
        go_wp2
        go_loopw [34] (fun q wr => ∃ j : Nat, j ≤ 2 ∧ q = .int .i64 j ∧ RdS w w3 bR (6 + j) wr ∧ wr.heap[bS]? = some (shpO ⟨57344, 65535, 0, some ⟨p3, 0, none⟩, 3, 3⟩)) (fun q _ => 2 - (intOf q).toNat)
        case atStart => exact ⟨0, Nat.zero_le _, rfl, HR5.out, HX5.out⟩
        case round =>
          obtain ⟨j, hj, rfl, hRj, hXj⟩ := hrel
          obtain ⟨w6, hw6⟩ : ∃ w6, w6 = wr := ⟨_, rfl⟩
          subst hw6
          have HRj := hide hRj
          have HXj := hide hXj
          clear hRj hXj HR5 HX5
          by_cases hlt2 : j < 2
          · have e6 : (j : Int) < 2 := by omega
            have hA6 := HA.out _ HRj.out.2.1
            rcases (by omega : j = 0 ∨ j = 1) with rfl | rfl
            · obtain ⟨n0, n1⟩ := hA6.1
              obtain ⟨w7, hw7⟩ : ∃ w7, w7 = w6.alloc (rgOS 65 66) := ⟨_, rfl⟩
              have hX7 : w7.heap[w6.heap.size]? = some (rgOS 65 66) := by rw [hw7]; exact at_newS _ _
              have hb7 : Below w6.heap.size w6 w7 := by rw [hw7]; exact (Below.refl _ w6).alloc (Nat.le_refl _) _
              have hS7 := rdO_keep HXj.out hb7
              have HX7 := hide hS7
              have hR7 := HRj.out.put hb7 (6) rfl
              have HBk := hide (blk_3_0 w w3 bR bS g p1 p2 p3 p5 w7 hR7 (HSk.out _ hR7.2.2) hS7)
              obtain ⟨bx, hbx⟩ : ∃ bx, bx = w6.heap.size := ⟨_, rfl⟩
              rw [← hbx] at hX7
              obtain ⟨d0, d1, d2, d3⟩ := shp_cells hS7
              obtain ⟨f0, f1⟩ := rg_cellsS hX7
              simp only [rgOS] at hw7
              simp only at d0 d1 d2 d3
              simp only [shpV, takeF] at HBk
              clear hX7 hb7 hS7 hR7 hA6 HRj HXj hlt2
              go_upto_region 14 with fail
              rw [← hw7, ← hbx]
              clear hw7 hbx n0 n1
              go_wp2_with fail
              refine HBk.out.mono ?_
              rintro e w8 ⟨rfl, hR8, hK8⟩
              have HR8 := hide hR8
              have HX8 := hide (hK8 _ _ _ _ HSR.out (by decide) HX7.out)
              clear hR8 hK8 HBk d0 d1 d2 d3 f0 f1 HX7
              go_wp2
              go_roundw
              case rel => exact ⟨0 + 1, by omega, by go_num, HR8.out, HX8.out⟩
              case measure => simp [intOf]
            · obtain ⟨n0, n1⟩ := hA6.2
              obtain ⟨w7, hw7⟩ : ∃ w7, w7 = w6.alloc (rgOS 233 233) := ⟨_, rfl⟩
              have hX7 : w7.heap[w6.heap.size]? = some (rgOS 233 233) := by rw [hw7]; exact at_newS _ _
              have hb7 : Below w6.heap.size w6 w7 := by rw [hw7]; exact (Below.refl _ w6).alloc (Nat.le_refl _) _
              have hS7 := rdO_keep HXj.out hb7
              have HX7 := hide hS7
              have hR7 := HRj.out.put hb7 (7) rfl
              have HBk := hide (blk_3_1 w w3 bR bS g p1 p2 p3 p5 w7 hR7 (HSk.out _ hR7.2.2) hS7)
              obtain ⟨bx, hbx⟩ : ∃ bx, bx = w6.heap.size := ⟨_, rfl⟩
              rw [← hbx] at hX7
              obtain ⟨d0, d1, d2, d3⟩ := shp_cells hS7
              obtain ⟨f0, f1⟩ := rg_cellsS hX7
              simp only [rgOS] at hw7
              simp only at d0 d1 d2 d3
              simp only [shpV, takeF] at HBk
              clear hX7 hb7 hS7 hR7 hA6 HRj HXj hlt2
              go_upto_region 14 with fail
              rw [← hw7, ← hbx]
              clear hw7 hbx n0 n1
              go_wp2_with fail
              refine HBk.out.mono ?_
              rintro e w8 ⟨rfl, hR8, hK8⟩
              have HR8 := hide hR8
              have HX8 := hide (hK8 _ _ _ _ HSR.out (by decide) HX7.out)
              clear hR8 hK8 HBk d0 d1 d2 d3 f0 f1 HX7
              go_wp2
              go_roundw
              case rel => exact ⟨1 + 1, by omega, by go_num, HR8.out, HX8.out⟩
              case measure => simp [intOf]
          · have e6 : ¬ (j : Int) < 2 := by omega
            have hj2 : j = 2 := by omega
            subst hj2
            have HR9 : Hid (RdS w w3 bR (2 * (3 + 1)) w6) := HRj.out
            clear HRj HXj hlt2
            go_wp2
            go_roundw
            case rel => exact ⟨3 + 1, by omega, by go_num, HR9.out⟩
            case measure => simp [intOf]
      · have m0 : w4.cell? ⟨g, 16, none⟩ = some (.int .i64 65536) := cells_at hSh4.g 16
        have m1 : w4.cell? ⟨g, 17, none⟩ = some (.int .i64 1114111) := cells_at hSh4.g 17
        have m2 : w4.cell? ⟨g, 18, none⟩ = some (.int .i64 0) := cells_at hSh4.g 18
        have m3 : w4.cell? ⟨g, 19, none⟩ = some (.slice (some ⟨p5, 0, none⟩) 4 4) := cells_at hSh4.g 19
        obtain ⟨w5, hw5⟩ : ∃ w5, w5 = w4.alloc (shpO ⟨65536, 1114111, 0, some ⟨p5, 0, none⟩, 4, 4⟩) := ⟨_, rfl⟩
        have hX5 : w5.heap[w4.heap.size]? = some (shpO ⟨65536, 1114111, 0, some ⟨p5, 0, none⟩, 4, 4⟩) := by rw [hw5]; exact at_newS _ _
        have hb5 : Below w4.heap.size w4 w5 := by rw [hw5]; exact (Below.refl _ w4).alloc (Nat.le_refl _) _
        obtain ⟨bS, hbS⟩ : ∃ bS, bS = w4.heap.size := ⟨_, rfl⟩
        have hSR : bS ≠ bR := by
          obtain ⟨⟨v, us, h1⟩, _, _⟩ := HRi.out
          have := lt_blockS h1.box
          omega
        rw [← hbS] at hX5
        have HX5 := hide hX5
        have HSR := hide hSR
        have HR5 := hide (HRi.out.put hb5 8 rfl)
        simp only [shpO] at hw5
        clear hX5 hb5 hSR hSh4 HRi hlt e5
        rw [show ((4 : Nat) : Int) = (4 : Int) from rfl]
        go_upto_region 11 with fail
        rw [← hw5, ← hbS]
        clear hw5 hbS m0 m1 m2 m3
        go_wp2
        go_loopw [34] (fun q wr => ∃ j : Nat, j ≤ 2 ∧ q = .int .i64 j ∧ RdS w w3 bR (8 + j) wr ∧ wr.heap[bS]? = some (shpO ⟨65536, 1114111, 0, some ⟨p5, 0, none⟩, 4, 4⟩)) (fun q _ => 2 - (intOf q).toNat)
        case atStart => exact ⟨0, Nat.zero_le _, rfl, HR5.out, HX5.out⟩
        case round =>
          obtain ⟨j, hj, rfl, hRj, hXj⟩ := hrel
          obtain ⟨w6, hw6⟩ : ∃ w6, w6 = wr := ⟨_, rfl⟩
          subst hw6
          have HRj := hide hRj
          have HXj := hide hXj
          clear hRj hXj HR5 HX5
          by_cases hlt2 : j < 2
          · have e6 : (j : Int) < 2 := by omega
            have hA6 := HA.out _ HRj.out.2.1
            rcases (by omega : j = 0 ∨ j = 1) with rfl | rfl
            · obtain ⟨n0, n1⟩ := hA6.1
              obtain ⟨w7, hw7⟩ : ∃ w7, w7 = w6.alloc (rgOS 65 66) := ⟨_, rfl⟩
              have hX7 : w7.heap[w6.heap.size]? = some (rgOS 65 66) := by rw [hw7]; exact at_newS _ _
              have hb7 : Below w6.heap.size w6 w7 := by rw [hw7]; exact (Below.refl _ w6).alloc (Nat.le_refl _) _
              have hS7 := rdO_keep HXj.out hb7
              have HX7 := hide hS7
              have hR7 := HRj.out.put hb7 (8) rfl
              have HBk := hide (blk_4_0 w w3 bR bS g p1 p2 p3 p5 w7 hR7 (HSk.out _ hR7.2.2) hS7)
              obtain ⟨bx, hbx⟩ : ∃ bx, bx = w6.heap.size := ⟨_, rfl⟩
              rw [← hbx] at hX7
              obtain ⟨d0, d1, d2, d3⟩ := shp_cells hS7
              obtain ⟨f0, f1⟩ := rg_cellsS hX7
              simp only [rgOS] at hw7
              simp only at d0 d1 d2 d3
              simp only [shpV, takeF] at HBk
              clear hX7 hb7 hS7 hR7 hA6 HRj HXj hlt2
              go_upto_region 14 with fail
              rw [← hw7, ← hbx]
              clear hw7 hbx n0 n1
              go_wp2_with fail
              refine HBk.out.mono ?_
              rintro e w8 ⟨rfl, hR8, hK8⟩
              have HR8 := hide hR8
              have HX8 := hide (hK8 _ _ _ _ HSR.out (by decide) HX7.out)
              clear hR8 hK8 HBk d0 d1 d2 d3 f0 f1 HX7
              go_wp2
              go_roundw
              case rel => exact ⟨0 + 1, by omega, by go_num, HR8.out, HX8.out⟩
              case measure => simp [intOf]
            · obtain ⟨n0, n1⟩ := hA6.2
              obtain ⟨w7, hw7⟩ : ∃ w7, w7 = w6.alloc (rgOS 233 233) := ⟨_, rfl⟩
              have hX7 : w7.heap[w6.heap.size]? = some (rgOS 233 233) := by rw [hw7]; exact at_newS _ _
              have hb7 : Below w6.heap.size w6 w7 := by rw [hw7]; exact (Below.refl _ w6).alloc (Nat.le_refl _) _
              have hS7 := rdO_keep HXj.out hb7
              have HX7 := hide hS7
              have hR7 := HRj.out.put hb7 (9) rfl
              have HBk := hide (blk_4_1 w w3 bR bS g p1 p2 p3 p5 w7 hR7 (HSk.out _ hR7.2.2) hS7)
              obtain ⟨bx, hbx⟩ : ∃ bx, bx = w6.heap.size := ⟨_, rfl⟩
              rw [← hbx] at hX7
              obtain ⟨d0, d1, d2, d3⟩ := shp_cells hS7
              obtain ⟨f0, f1⟩ := rg_cellsS hX7
              simp only [rgOS] at hw7
              simp only at d0 d1 d2 d3
              simp only [shpV, takeF] at HBk
              clear hX7 hb7 hS7 hR7 hA6 HRj HXj hlt2
              go_upto_region 14 with fail
              rw [← hw7, ← hbx]
              clear hw7 hbx n0 n1
              go_wp2_with fail
              refine HBk.out.mono ?_
              rintro e w8 ⟨rfl, hR8, hK8⟩
              have HR8 := hide hR8
              have HX8 := hide (hK8 _ _ _ _ HSR.out (by decide) HX7.out)
              clear hR8 hK8 HBk d0 d1 d2 d3 f0 f1 HX7
              go_wp2
              go_roundw
              case rel => exact ⟨1 + 1, by omega, by go_num, HR8.out, HX8.out⟩
              case measure => simp [intOf]
          · have e6 : ¬ (j : Int) < 2 := by omega
            have hj2 : j = 2 := by omega
            subst hj2
            have HR9 : Hid (RdS w w3 bR (2 * (4 + 1)) w6) := HRj.out
            clear HRj HXj hlt2
            go_wp2
            go_roundw
            case rel => exact ⟨4 + 1, by omega, by go_num, HR9.out⟩
            case measure => simp [intOf]
    · have e5 : ¬ (i : Int) < 5 := by omega
      have hi5 : i = 5 := by omega
      subst hi5
      obtain ⟨gr, c, g0, g1, hc, hrow, hcap⟩ := RdS.row HRi.out
      have HSo := hide (sort_any gr g0 g1 c w4 hrow)
      have HRow := hide hrow
      have HCp := hide hcap
      have HCc : Hid (∀ W, Below w4.heap.size w4 W → W.cell? ⟨bR, 0, none⟩ = some (.slice (some ⟨gr, 0, none⟩) 2 c)) := fun W hW => below_cell hW (lt_of_cell hc) hc
      clear hrow hcap hlt
      go_wp2_with fail
      refine HSo.out.mono ?_
      rintro e w5 ⟨rfl, hb5⟩
      have hc5 := HCc.out w5 hb5
      have HF : Hid (Row2 w5 gr g0 g1 ∧ Below w.heap.size w w5) := ⟨HRow.out.keep hb5, HRi.out.2.1.trans (hb5.mono HRi.out.2.1.size)⟩
      clear hb5 HSo hc HCc
      go_wp2
      go_ret2
      exact ⟨gr, c, g0, g1, rfl, HF.out.1, HCp.out, HF.out.2⟩

end Go.Proofs.Ythigleohjagfiaa
