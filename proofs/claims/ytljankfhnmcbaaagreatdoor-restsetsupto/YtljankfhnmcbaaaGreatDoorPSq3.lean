/- Roads: what road answers, of one part and of two. -/
import Derived.Test.YtljankfhnmcbaaaGreatDoorKa
import Derived.Laws.MakeOwn
namespace Go.Proofs.YtljankfhnmcbaaaGreatDoor.SP
open Go.RowKit Go.PlainAid
set_option linter.unusedVariables false

theorem infoRg : (Tryz.prog.info? 25).map (fun i => (i.zero, i.size, i.bytes)) = some (some (.agg #[.int .i64 0, .int .i64 0]), 2, 16) := by kernel_rfl
theorem parts_of {o : Option TypeInfo} {z : Option Value} {s b : Nat} (h : o.map (fun i => (i.zero, i.size, i.bytes)) = some (z, s, b)) : ∃ i, o = some i ∧ i.zero = z ∧ i.size = s ∧ i.bytes = b := by
  cases o with
  | none => simp at h
  | some i => simp at h; exact ⟨i, rfl, h.1, h.2.1, h.2.2⟩
theorem mkRd_1 (w : World) : (Instr.makeSlice 22 (.int .i64 1) (.int .i64 1)).run Tryz.prog w = .ok (.slice (some ⟨w.heap.size, 0, none⟩) 1 1) (w.alloc (.cells #[.int .i64 0, .int .i64 0] 25)) := by
  obtain ⟨i, hi, hz, hs, hb⟩ := parts_of infoRg
  have := run_makeSlice (P := Tryz.prog) w 22 25 i _ Tryz.underlying22 hi hz .i64 .i64 1 1 (by decide) (by decide) (by rw [hs]; decide) (by rw [hb]; decide) (by decide)
  have hc : madeCells (Value.agg #[Value.int .i64 0, Value.int .i64 0]).cells (Int.toNat 1 * 2) = #[Value.int .i64 0, Value.int .i64 0] := by kernel_rfl
  rw [this, hs, hc]
  rfl
theorem mkRd_2 (w : World) : (Instr.makeSlice 22 (.int .i64 2) (.int .i64 2)).run Tryz.prog w = .ok (.slice (some ⟨w.heap.size, 0, none⟩) 2 2) (w.alloc (.cells #[.int .i64 0, .int .i64 0, .int .i64 0, .int .i64 0] 25)) := by
  obtain ⟨i, hi, hz, hs, hb⟩ := parts_of infoRg
  have := run_makeSlice (P := Tryz.prog) w 22 25 i _ Tryz.underlying22 hi hz .i64 .i64 2 2 (by decide) (by decide) (by rw [hs]; decide) (by rw [hb]; decide) (by decide)
  have hc : madeCells (Value.agg #[Value.int .i64 0, Value.int .i64 0]).cells (Int.toNat 2 * 2) = #[Value.int .i64 0, Value.int .i64 0, Value.int .i64 0, Value.int .i64 0] := by kernel_rfl
  rw [this, hs, hc]
  rfl
set_option maxRecDepth 100000 in
set_option maxHeartbeats 4000000 in
theorem road_1 (s : Shp) (x : Addr) (ps : List Pt) (L : RL) (a b : Int) (w : World) (hpa : s.pa = some x) (hpl : s.pl = 1) (hps : ps.length = 1) (hL : L.length = 1) (hp : PtC w x ps) (hb : ∀ j (hj : j < ps.length) (hj' : j < L.length), ByteOf ps[j] a L[j].1 ∧ ByteOf ps[j] b L[j].2) :
    Calls Tryz.prog 35 #[shpV s, .int .i64 a, .int .i64 b] w fun e w' => RoadE L w e w' := by
  obtain ⟨w1, hw1⟩ : ∃ w1, w1 = w.alloc (shpO s) := ⟨_, rfl⟩
  have hX1 : w1.heap[w.heap.size]? = some (shpO s) := by rw [hw1]; exact at_newS _ _
  have hB1 : Below w.heap.size w w1 := by rw [hw1]; exact (Below.refl _ w).alloc (Nat.le_refl _) _
  obtain ⟨w2, hw2⟩ : ∃ w2, w2 = w1.alloc (.cells #[.int .i64 0, .int .i64 0] 25) := ⟨_, rfl⟩
  have hX2 : w2.heap[w1.heap.size]? = some (rdO [] 1) := by rw [hw2]; exact at_newS _ _
  have hB2 : Below w1.heap.size w1 w2 := by rw [hw2]; exact (Below.refl _ w1).alloc (Nat.le_refl _) _
  have hX12 : w2.heap[w.heap.size]? = some (shpO s) := rdO_keep hX1 hB2
  obtain ⟨d0, d1, d2, d3⟩ := shp_cells hX1
  obtain ⟨q0, q1, q2, q3⟩ := shp_cells hX12
  rw [hpa, hpl] at d3 q3
  have hs1 : w1.heap.size = w.heap.size + 1 := by rw [hw1]; simp
  have hmk := mkRd_1 w1
  rw [← hw2] at hmk
  obtain ⟨g, hg⟩ : ∃ g, g = w1.heap.size := ⟨_, rfl⟩
  rw [← hg] at hmk
  have HG : Hid (w.heap.size < g) := by show _ < _; omega
  rw [← hg] at hX2
  have HX2 := hide hX2
  have HB2 : Hid (Below w.heap.size w w2) := hB1.trans (hB2.mono hB1.size)
  have HP := hide hp
  have HBy := hide hb
  have HPs := hide hps
  have HL := hide hL
  simp only [shpO] at hw1
  clear hX1 hB1 hX2 hB2 hX12 hp hb hps hL hpa hpl
  go_enter Tryz.func35, Tryz.ntmps35
  go_upto_region 1 with fail
  rw [← hw1]
  clear hw1
  clear hw2 hg hs1
  go_upto_region 2 with fail
  clear d0 d1 d2 d3 hmk
  go_wp2
  go_loopw [17] (fun q wr => ∃ (j : Nat), j ≤ 1 ∧ q = .int .i64 j ∧ wr.heap[g]? = some (rdO (L.take j) (1 - j)) ∧ Below w.heap.size w wr) (fun q _ => 1 - (intOf q).toNat)
  case atStart => exact ⟨0, Nat.zero_le _, rfl, HX2.out, HB2.out⟩
  case round =>
    obtain ⟨j, hj, rfl, hX, hbw⟩ := hrel
    obtain ⟨w3, hw3⟩ : ∃ w3, w3 = wr := ⟨_, rfl⟩
    subst hw3
    have HX := hide hX
    have HBw := hide hbw
    clear hX hbw HX2 HB2 q0 q1 q2 q3
    by_cases hlt : j < 1
    · have hjp : j < ps.length := by have := HPs.out; omega
      have hjL : j < L.length := by have := HL.out; omega
      obtain ⟨m0, m1, m2⟩ := HP.out.below HBw.out j hjp
      obtain ⟨by1, by2⟩ := HBy.out j hjp hjL
      have htk : L.take (j + 1) = L.take j ++ [L[j]] := by rw [List.take_add_one, List.getElem?_eq_getElem hjL]; rfl
      have htl : (L.take j).length = j := by rw [List.length_take]; omega
      obtain ⟨p, hp⟩ : ∃ p, p = ps[j] := ⟨_, rfl⟩
      rw [← hp] at m0 m1 m2 by1 by2
      obtain ⟨r1, hr1⟩ : ∃ r1, r1 = L[j].1 := ⟨_, rfl⟩
      obtain ⟨r2, hr2⟩ : ∃ r2, r2 = L[j].2 := ⟨_, rfl⟩
      rw [← hr1] at by1
      rw [← hr2] at by2
      have hLj : L[j] = (r1, r2) := by rw [hr1, hr2]
      rw [hLj] at htk
      obtain ⟨w4, hw4⟩ : ∃ w4, w4 = w3.alloc (ptO p) := ⟨_, rfl⟩
      have hX4 : w4.heap[w3.heap.size]? = some (ptO p) := by rw [hw4]; exact at_newS _ _
      have hB4 : Below w3.heap.size w3 w4 := by rw [hw4]; exact (Below.refl _ w3).alloc (Nat.le_refl _) _
      have hXg : w4.heap[g]? = some (rdO (L.take j) (1 - j)) := rdO_keep HX.out hB4
      have hkk : 1 - j = (1 - (j + 1)) + 1 := by omega
      rw [hkk] at hXg
      obtain ⟨bx, hbx⟩ : ∃ bx, bx = w3.heap.size := ⟨_, rfl⟩
      rw [← hbx] at hX4
      have HK4 : Hid (∀ W, Below w4.heap.size w4 W → W.cell? ⟨bx, 0, none⟩ = some (.int .i64 p.lead) ∧ W.cell? ⟨bx, 1, none⟩ = some (.int .i64 p.shift) ∧ W.cell? ⟨bx, 2, none⟩ = some (.int .i64 p.bits)) := fun W hW => pt_cells (rdO_keep hX4 hW)
      have HG4 : Hid (∀ W, Below w4.heap.size w4 W → W.cell? ⟨g, j * 2, none⟩ = some (.int .i64 0) ∧ W.cell? ⟨g, j * 2 + 1, none⟩ = some (.int .i64 0) ∧ ∀ o, W.frozen? ⟨g, o, none⟩ = false) := fun W hW => by
        have := rdO_at (rdO_keep hXg hW)
        rw [htl, Nat.mul_comm] at this
        exact this
      have HS4 : Hid (∀ W, Below w4.heap.size w4 W → ((W.setCell ⟨g, j * 2, none⟩ (.int .i64 r1)).setCell ⟨g, j * 2 + 1, none⟩ (.int .i64 r2)).heap[g]? = some (rdO (L.take (j + 1)) (1 - (j + 1))) ∧ Below w.heap.size w ((W.setCell ⟨g, j * 2, none⟩ (.int .i64 r1)).setCell ⟨g, j * 2 + 1, none⟩ (.int .i64 r2))) := fun W hW => by
        have h1 := rdO_set (rdO_keep hXg hW) r1 r2
        rw [htl, Nat.mul_comm, ← htk] at h1
        refine ⟨h1, ?_⟩
        have hb1 : Below w.heap.size w W := HBw.out.trans ((hB4.mono HBw.out.size).trans (hW.mono (by have := HBw.out.size; have := hB4.size; omega)))
        exact (hb1.setCell (p := ⟨g, j * 2, none⟩) (Nat.le_of_lt HG.out) _).setCell (p := ⟨g, j * 2 + 1, none⟩) (Nat.le_of_lt HG.out) _
      have HY1 : Hid (∀ W, Calls Tryz.prog 64 #[ptV p, .int .i64 a] W fun e w' => e = .returned (.int .i64 r1) ∧ Below W.heap.size W w') := by1
      have HY2 : Hid (∀ W, Calls Tryz.prog 64 #[ptV p, .int .i64 b] W fun e w' => e = .returned (.int .i64 r2) ∧ Below W.heap.size W w') := by2
      simp only [ptV] at HY1 HY2
      have HBc : Hid (Below w4.heap.size w4 w4.drew) := ⟨rfl, rfl, rfl, Nat.le_refl _, fun _ _ => rfl⟩
      have e5 : (j : Int) < 1 := by omega
      have e6 : (0 : Int) ≤ (j : Int) := by omega
      have hkw : IntKind.i64.wrap ((j : Int) + 1) = (j : Int) + 1 := by rw [IntKind.wrap_i64]; omega
      simp only [ptO] at hw4
      clear hjp hjL htk htl hp hr1 hr2 hLj hX4 hB4 hXg hkk by1 by2
      go_upto_region 5 with fail
      rw [← hw4, ← hbx]
      clear hw4 hbx m0 m1 m2
      obtain ⟨f0, f1, f2⟩ := HK4.out _ HBc.out
      obtain ⟨k0, k1, k2⟩ := HG4.out _ HBc.out
      go_region_with (go_at_call 64; first
        | (go_at_call_of 64 (Value.int .i64 a); refine (HY1.out _).mono ?_; rintro e w5 ⟨rfl, hb5⟩; replace HBc := hide (HBc.out.trans (hb5.mono HBc.out.size)); clear hb5 f0 f1 f2 k0 k1 k2; obtain ⟨f0, f1, f2⟩ := HK4.out _ HBc.out; obtain ⟨k0, k1, k2⟩ := HG4.out _ HBc.out)
        | (go_at_call_of 64 (Value.int .i64 b); refine (HY2.out _).mono ?_; rintro e w5 ⟨rfl, hb5⟩; replace HBc := hide (HBc.out.trans (hb5.mono HBc.out.size)); clear hb5 f0 f1 f2 k0 k1 k2; obtain ⟨f0, f1, f2⟩ := HK4.out _ HBc.out; obtain ⟨k0, k1, k2⟩ := HG4.out _ HBc.out))
      all_goals clear f0 f1 f2 k0 k1 k2
      all_goals go_wp2
      all_goals go_roundw
      all_goals first | exact ⟨j + 1, by omega, by go_num, (HS4.out _ HBc.out).1, (HS4.out _ HBc.out).2⟩ | (simp [intOf]; omega)
    · have e5 : ¬ (j : Int) < 1 := by omega
      have hjn : j = 1 := by omega
      subst hjn
      have HF : Hid (w3.heap[g]? = some (rdO L 0)) := by
        have := HX.out
        rw [List.take_of_length_le (by rw [HL.out]; exact Nat.le_refl _)] at this
        exact this
      go_wp2
      go_ret
      exact ⟨g, Nat.le_of_lt HG.out, by rw [HL.out]; rfl, HF.out, HBw.out⟩
set_option maxRecDepth 100000 in
set_option maxHeartbeats 4000000 in
theorem road_2 (s : Shp) (x : Addr) (ps : List Pt) (L : RL) (a b : Int) (w : World) (hpa : s.pa = some x) (hpl : s.pl = 2) (hps : ps.length = 2) (hL : L.length = 2) (hp : PtC w x ps) (hb : ∀ j (hj : j < ps.length) (hj' : j < L.length), ByteOf ps[j] a L[j].1 ∧ ByteOf ps[j] b L[j].2) :
    Calls Tryz.prog 35 #[shpV s, .int .i64 a, .int .i64 b] w fun e w' => RoadE L w e w' := by
  obtain ⟨w1, hw1⟩ : ∃ w1, w1 = w.alloc (shpO s) := ⟨_, rfl⟩
  have hX1 : w1.heap[w.heap.size]? = some (shpO s) := by rw [hw1]; exact at_newS _ _
  have hB1 : Below w.heap.size w w1 := by rw [hw1]; exact (Below.refl _ w).alloc (Nat.le_refl _) _
  obtain ⟨w2, hw2⟩ : ∃ w2, w2 = w1.alloc (.cells #[.int .i64 0, .int .i64 0, .int .i64 0, .int .i64 0] 25) := ⟨_, rfl⟩
  have hX2 : w2.heap[w1.heap.size]? = some (rdO [] 2) := by rw [hw2]; exact at_newS _ _
  have hB2 : Below w1.heap.size w1 w2 := by rw [hw2]; exact (Below.refl _ w1).alloc (Nat.le_refl _) _
  have hX12 : w2.heap[w.heap.size]? = some (shpO s) := rdO_keep hX1 hB2
  obtain ⟨d0, d1, d2, d3⟩ := shp_cells hX1
  obtain ⟨q0, q1, q2, q3⟩ := shp_cells hX12
  rw [hpa, hpl] at d3 q3
  have hs1 : w1.heap.size = w.heap.size + 1 := by rw [hw1]; simp
  have hmk := mkRd_2 w1
  rw [← hw2] at hmk
  obtain ⟨g, hg⟩ : ∃ g, g = w1.heap.size := ⟨_, rfl⟩
  rw [← hg] at hmk
  have HG : Hid (w.heap.size < g) := by show _ < _; omega
  rw [← hg] at hX2
  have HX2 := hide hX2
  have HB2 : Hid (Below w.heap.size w w2) := hB1.trans (hB2.mono hB1.size)
  have HP := hide hp
  have HBy := hide hb
  have HPs := hide hps
  have HL := hide hL
  simp only [shpO] at hw1
  clear hX1 hB1 hX2 hB2 hX12 hp hb hps hL hpa hpl
  go_enter Tryz.func35, Tryz.ntmps35
  go_upto_region 1 with fail
  rw [← hw1]
  clear hw1
  clear hw2 hg hs1
  go_upto_region 2 with fail
  clear d0 d1 d2 d3 hmk
  go_wp2
  go_loopw [17] (fun q wr => ∃ (j : Nat), j ≤ 2 ∧ q = .int .i64 j ∧ wr.heap[g]? = some (rdO (L.take j) (2 - j)) ∧ Below w.heap.size w wr) (fun q _ => 2 - (intOf q).toNat)
  case atStart => exact ⟨0, Nat.zero_le _, rfl, HX2.out, HB2.out⟩
  case round =>
    obtain ⟨j, hj, rfl, hX, hbw⟩ := hrel
    obtain ⟨w3, hw3⟩ : ∃ w3, w3 = wr := ⟨_, rfl⟩
    subst hw3
    have HX := hide hX
    have HBw := hide hbw
    clear hX hbw HX2 HB2 q0 q1 q2 q3
    by_cases hlt : j < 2
    · have hjp : j < ps.length := by have := HPs.out; omega
      have hjL : j < L.length := by have := HL.out; omega
      obtain ⟨m0, m1, m2⟩ := HP.out.below HBw.out j hjp
      obtain ⟨by1, by2⟩ := HBy.out j hjp hjL
      have htk : L.take (j + 1) = L.take j ++ [L[j]] := by rw [List.take_add_one, List.getElem?_eq_getElem hjL]; rfl
      have htl : (L.take j).length = j := by rw [List.length_take]; omega
      obtain ⟨p, hp⟩ : ∃ p, p = ps[j] := ⟨_, rfl⟩
      rw [← hp] at m0 m1 m2 by1 by2
      obtain ⟨r1, hr1⟩ : ∃ r1, r1 = L[j].1 := ⟨_, rfl⟩
      obtain ⟨r2, hr2⟩ : ∃ r2, r2 = L[j].2 := ⟨_, rfl⟩
      rw [← hr1] at by1
      rw [← hr2] at by2
      have hLj : L[j] = (r1, r2) := by rw [hr1, hr2]
      rw [hLj] at htk
      obtain ⟨w4, hw4⟩ : ∃ w4, w4 = w3.alloc (ptO p) := ⟨_, rfl⟩
      have hX4 : w4.heap[w3.heap.size]? = some (ptO p) := by rw [hw4]; exact at_newS _ _
      have hB4 : Below w3.heap.size w3 w4 := by rw [hw4]; exact (Below.refl _ w3).alloc (Nat.le_refl _) _
      have hXg : w4.heap[g]? = some (rdO (L.take j) (2 - j)) := rdO_keep HX.out hB4
      have hkk : 2 - j = (2 - (j + 1)) + 1 := by omega
      rw [hkk] at hXg
      obtain ⟨bx, hbx⟩ : ∃ bx, bx = w3.heap.size := ⟨_, rfl⟩
      rw [← hbx] at hX4
      have HK4 : Hid (∀ W, Below w4.heap.size w4 W → W.cell? ⟨bx, 0, none⟩ = some (.int .i64 p.lead) ∧ W.cell? ⟨bx, 1, none⟩ = some (.int .i64 p.shift) ∧ W.cell? ⟨bx, 2, none⟩ = some (.int .i64 p.bits)) := fun W hW => pt_cells (rdO_keep hX4 hW)
      have HG4 : Hid (∀ W, Below w4.heap.size w4 W → W.cell? ⟨g, j * 2, none⟩ = some (.int .i64 0) ∧ W.cell? ⟨g, j * 2 + 1, none⟩ = some (.int .i64 0) ∧ ∀ o, W.frozen? ⟨g, o, none⟩ = false) := fun W hW => by
        have := rdO_at (rdO_keep hXg hW)
        rw [htl, Nat.mul_comm] at this
        exact this
      have HS4 : Hid (∀ W, Below w4.heap.size w4 W → ((W.setCell ⟨g, j * 2, none⟩ (.int .i64 r1)).setCell ⟨g, j * 2 + 1, none⟩ (.int .i64 r2)).heap[g]? = some (rdO (L.take (j + 1)) (2 - (j + 1))) ∧ Below w.heap.size w ((W.setCell ⟨g, j * 2, none⟩ (.int .i64 r1)).setCell ⟨g, j * 2 + 1, none⟩ (.int .i64 r2))) := fun W hW => by
        have h1 := rdO_set (rdO_keep hXg hW) r1 r2
        rw [htl, Nat.mul_comm, ← htk] at h1
        refine ⟨h1, ?_⟩
        have hb1 : Below w.heap.size w W := HBw.out.trans ((hB4.mono HBw.out.size).trans (hW.mono (by have := HBw.out.size; have := hB4.size; omega)))
        exact (hb1.setCell (p := ⟨g, j * 2, none⟩) (Nat.le_of_lt HG.out) _).setCell (p := ⟨g, j * 2 + 1, none⟩) (Nat.le_of_lt HG.out) _
      have HY1 : Hid (∀ W, Calls Tryz.prog 64 #[ptV p, .int .i64 a] W fun e w' => e = .returned (.int .i64 r1) ∧ Below W.heap.size W w') := by1
      have HY2 : Hid (∀ W, Calls Tryz.prog 64 #[ptV p, .int .i64 b] W fun e w' => e = .returned (.int .i64 r2) ∧ Below W.heap.size W w') := by2
      simp only [ptV] at HY1 HY2
      have HBc : Hid (Below w4.heap.size w4 w4.drew) := ⟨rfl, rfl, rfl, Nat.le_refl _, fun _ _ => rfl⟩
      have e5 : (j : Int) < 2 := by omega
      have e6 : (0 : Int) ≤ (j : Int) := by omega
      have hkw : IntKind.i64.wrap ((j : Int) + 1) = (j : Int) + 1 := by rw [IntKind.wrap_i64]; omega
      simp only [ptO] at hw4
      clear hjp hjL htk htl hp hr1 hr2 hLj hX4 hB4 hXg hkk by1 by2
      go_upto_region 5 with fail
      rw [← hw4, ← hbx]
      clear hw4 hbx m0 m1 m2
      obtain ⟨f0, f1, f2⟩ := HK4.out _ HBc.out
      obtain ⟨k0, k1, k2⟩ := HG4.out _ HBc.out
      go_region_with (go_at_call 64; first
        | (go_at_call_of 64 (Value.int .i64 a); refine (HY1.out _).mono ?_; rintro e w5 ⟨rfl, hb5⟩; replace HBc := hide (HBc.out.trans (hb5.mono HBc.out.size)); clear hb5 f0 f1 f2 k0 k1 k2; obtain ⟨f0, f1, f2⟩ := HK4.out _ HBc.out; obtain ⟨k0, k1, k2⟩ := HG4.out _ HBc.out)
        | (go_at_call_of 64 (Value.int .i64 b); refine (HY2.out _).mono ?_; rintro e w5 ⟨rfl, hb5⟩; replace HBc := hide (HBc.out.trans (hb5.mono HBc.out.size)); clear hb5 f0 f1 f2 k0 k1 k2; obtain ⟨f0, f1, f2⟩ := HK4.out _ HBc.out; obtain ⟨k0, k1, k2⟩ := HG4.out _ HBc.out))
      all_goals clear f0 f1 f2 k0 k1 k2
      all_goals go_wp2
      all_goals go_roundw
      all_goals first | exact ⟨j + 1, by omega, by go_num, (HS4.out _ HBc.out).1, (HS4.out _ HBc.out).2⟩ | (simp [intOf]; omega)
    · have e5 : ¬ (j : Int) < 2 := by omega
      have hjn : j = 2 := by omega
      subst hjn
      have HF : Hid (w3.heap[g]? = some (rdO L 0)) := by
        have := HX.out
        rw [List.take_of_length_le (by rw [HL.out]; exact Nat.le_refl _)] at this
        exact this
      go_wp2
      go_ret
      exact ⟨g, Nat.le_of_lt HG.out, by rw [HL.out]; rfl, HF.out, HBw.out⟩

end Go.Proofs.YtljankfhnmcbaaaGreatDoor.SP
