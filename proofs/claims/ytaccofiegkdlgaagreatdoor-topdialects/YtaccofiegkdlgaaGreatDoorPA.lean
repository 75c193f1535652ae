import Derived.Test.YtaccofiegkdlgaaGreatDoorMY
import Derived.Test.YtaccofiegkdlgaaGreatDoorMB
import Derived.Test.YtaccofiegkdlgaaGreatDoorKE
import Derived.StillTailTactics
import Derived.Deep.Cut
import Derived.Deep.RegionLaw
import Derived.Test.YtaccofiegkdlgaaGreatDoorMP
import Derived.Test.YtaccofiegkdlgaaGreatDoorMJ
import Derived.Test.YtaccofiegkdlgaaGreatDoorMO
import Derived.Laws.OwnMore
import Derived.Test.YtaccofiegkdlgaaGreatDoorMQ
namespace Go.Proofs.YtaccofiegkdlgaaGreatDoor.Pa
set_option maxHeartbeats 2000000
open Go.RowKit
open TR (Tr NV NCells nvV nvO NodeC KidsC nv_cells)
set_option linter.unusedVariables false
set_option maxRecDepth 100000
theorem drew_more {w wr : World} {q : Nat} (h : wr = w.drewN q) (n : Nat) : ∃ m, wr.drewN n = w.drewN m := ⟨q + n, by subst h; simp [World.drewN, Nat.add_assoc]⟩
theorem drewN_below (w : World) (q : Nat) : Below w.heap.size w (w.drewN q) := ⟨rfl, rfl, rfl, Nat.le_refl _, fun _ _ => rfl⟩
theorem sameSet_eq (va vb : Value) (A : RL) (w : World) (hA : Reads w va A) (hB : Reads w vb A) (lA : A.length ≤ 2000000) :
  Calls Tryz.prog 19 #[va, vb] w fun e w' => e = .returned (.bool true) ∧ ∃ q, w' = w.drewN q := by
 rcases hA with ⟨rfl, rfl⟩ | ⟨x, c, rfl, hc⟩
 ·obtain ⟨bo, cb, rfl⟩ := hB.shape
  clear hB
  go_enter Tryz.func19, Tryz.ntmps19
  go_wp2
  go_loop [5] (fun i => i = .int .i64 0) (fun i => 0)
  case atStart => exact rfl
  case round =>
   subst hrel
   go_wp2
   go_ret
   exact ⟨rfl, 0, rfl⟩
 ·obtain ⟨bo, cb, rfl⟩ := hB.shape
  have HB := hide hB
  have HC := hide hc
  obtain ⟨n, hn⟩ : ∃ n, n = A.length := ⟨_, rfl⟩
  have HN := hide hn
  rw [← hn] at HB lA ⊢
  clear hc hB hn
  go_enter Tryz.func19, Tryz.ntmps19
  go_wp2
  go_loopw [5] (fun i wr => ∃ k q : Nat, k ≤ n ∧ i = .int .i64 k ∧ wr = w.drewN q) (fun i _ => n - (intOf i).toNat)
  case atStart => exact ⟨0, 0, Nat.zero_le _, rfl, rfl⟩
  case round =>
   obtain ⟨k, q, hk, rfl, hw⟩ := hrel
   have HW := hide hw
   by_cases hlt : k < n
   ·have hkA : k < A.length := by have := HN.out; omega
    obtain ⟨y, cy, hy, hcB⟩ := HB.out.some (by omega)
    obtain ⟨rfl, _⟩ : bo = some y ∧ True := by cases hy; exact ⟨rfl, trivial⟩
    have hcw : Cells2 wr x A := by rw [hw]; exact HC.out
    have hcy : Cells2 wr y A := by rw [hw]; exact hcB
    obtain ⟨c1, c2⟩ := hcw k hkA
    obtain ⟨d1, d2⟩ := hcy k hkA
    obtain ⟨r, hr⟩ : ∃ r, r = A[k] := ⟨_, rfl⟩
    rw [← hr] at c1 c2 d1 d2
    clear hr
    obtain ⟨a, b⟩ := r
    simp only at c1 c2 d1 d2
    clear hcw hcy hcB hy hw
    go_wp2
    go_quiet (fail)
    go_wp2
    go_roundw
    case rel => obtain ⟨q2, hq2⟩ := drew_more HW.out nq; exact ⟨k + 1, q2, by omega, by go_num, hq2⟩
    case measure => simp [intOf]; omega
   ·clear hw
    go_wp2
    go_ret
    exact ⟨rfl, _, HW.out⟩
end Go.Proofs.YtaccofiegkdlgaaGreatDoor.Pa
namespace Go.Proofs.YtaccofiegkdlgaaGreatDoor.Pa
set_option maxHeartbeats 8000000
open Go.RowKit
open TR (Tr NV NCells nvV nvO NodeC KidsC nv_cells)
set_option linter.unusedVariables false
set_option maxRecDepth 100000
theorem szL_at : ∀ (ts : List Tr) (j : Nat) (hj : j < ts.length), szT ts[j] ≤ szL ts
 | t :: ts, 0, _ => by simp [szL]
 | t :: ts, j + 1, hj => by have := szL_at ts j (by simpa using hj); simp only [szL, List.getElem_cons_succ]; omega
theorem sameNode_eq : ∀ (k : Nat) (t : Tr) (a b : NV) (w : World), szT t ≤ k → Sm t → NodeC w a t → NodeC w b t → Calls Tryz.prog 12 #[nvV a, nvV b] w fun e w' => e = .returned (.bool true) ∧ Below w.heap.size w w' := by
 intro k
 induction k with
 | zero => intro t a b w hk; rw [szT_kids] at hk; omega
 | succ k ih =>
  intro t a b w hk hs ha hb
  obtain ⟨a1, a2, a3, a4, a5, a6, a7, va, a8, a9⟩ := ha.open
  obtain ⟨b1, b2, b3, b4, b5, b6, b7, vb, b8, b9⟩ := hb.open
  rw [szT_kids] at hk
  have HK : Hid (∀ j (hj : j < t.kids.length), szT t.kids[j] ≤ k) := fun j hj => by have := szL_at t.kids j hj; omega
  have hlen := hs.kids.1
  have HSm : Hid (∀ j (hj : j < t.kids.length), Sm t.kids[j]) := fun j hj => hs.kids.2 _ (List.getElem_mem hj)
  obtain ⟨ks, hks⟩ : ∃ ks, ks = t.kids := ⟨_, rfl⟩
  rw [← hks] at a8 b8
  have HKd : Hid ((∀ j (hj : j < ks.length), NodeC w (va j) ks[j]) ∧ (∀ j (hj : j < ks.length), NodeC w (vb j) ks[j]) ∧ (∀ j (hj : j < ks.length), Sm ks[j]) ∧ ∀ j (hj : j < ks.length), szT ks[j] ≤ k) := by subst hks; exact ⟨a9, b9, HSm.out, HK.out⟩
  have hal := a8.len
  have hbl := b8.len
  obtain ⟨k1, ao, al, ac, ka, kl, kc, n1, l1, m1, w1', f1⟩ := a
  obtain ⟨k2, bo, bl, bc, kb, kl2, kc2, n2, l2, m2, w2', f2⟩ := b
  simp only at a1 a2 a3 a4 a5 a6 a7 a8 b1 b2 b3 b4 b5 b6 b7 b8 hal hbl
  obtain rfl : k2 = k1 := b1.symm.trans a1
  obtain rfl : n2 = n1 := b2.symm.trans a2
  obtain rfl : l2 = l1 := b3.symm.trans a3
  obtain rfl : m2 = m1 := b4.symm.trans a4
  obtain rfl : w2' = w1' := b5.symm.trans a5
  obtain rfl : f2 = f1 := b6.symm.trans a6
  obtain rfl : kl2 = kl := hbl.trans hal.symm
  have HA8 := hide a8
  have HB8 := hide b8
  have HAl := hide hal
  obtain ⟨A, hA⟩ : ∃ A : NV, A = ⟨k2, ao, al, ac, ka, kl2, kc, n2, l2, m2, w2', f2⟩ := ⟨_, rfl⟩
  obtain ⟨B, hB⟩ : ∃ B : NV, B = ⟨k2, bo, bl, bc, kb, kl2, kc2, n2, l2, m2, w2', f2⟩ := ⟨_, rfl⟩
  obtain ⟨w1, hw1⟩ : ∃ w1, w1 = (w.alloc (nvO A)).alloc (nvO B) := ⟨_, rfl⟩
  have hb1 : Below w.heap.size w w1 := by rw [hw1]; exact ((Below.refl _ w).alloc (Nat.le_refl _) _).alloc (by simp) _
  have hM : w1.heap[w.heap.size]? = some (nvO A) := by rw [hw1]; exact TK.at_old (TK.at_new _ _)
  have hN : w1.heap[w.heap.size + 1]? = some (nvO B) := by rw [hw1]; exact TK.at_new' _ _ (by simp)
  have HS := hide (sameSet_eq _ _ _ w1 (a7.below hb1) (b7.below hb1) hlen)
  have HM := hide hM
  have HN := hide hN
  have HB := hide hb1
  obtain ⟨d0, d1, d2, d3, d4, d5, d6, d7⟩ := nv_cells hM
  obtain ⟨e0, e1, e2, e3, e4, e5, e6, e7⟩ := nv_cells hN
  simp only [nvO] at hw1
  have HIH := hide ih
  have hlenk : Hid (ks.length ≤ 9223372036854775807) := by
   rcases HA8.out with ⟨_, _, _, h0⟩ | ⟨x, _, _, h0, _⟩
   ·show _ ≤ _; omega
   ·show _ ≤ _; omega
  have HAe := hide hA
  have HBe := hide hB
  rw [hA] at d0 d1 d2 d3 d4 d5 d6 d7 hw1
  rw [hB] at e0 e1 e2 e3 e4 e5 e6 e7 hw1
  simp only at d0 d1 d2 d3 d4 d5 d6 d7 e0 e1 e2 e3 e4 e5 e6 e7 hw1
  simp only [nvV]
  clear ha hb a1 a2 a3 a4 a5 a6 a7 a8 a9 b1 b2 b3 b4 b5 b6 b7 b8 b9 hk hs hlen hks hal hbl hb1 hM hN ih HSm HK hA hB
  go_enter Tryz.func12, Tryz.ntmps12
  go_wp2_with fail
  rw [← hw1]
  clear hw1
  go_wp2_with fail
  refine HS.out.mono ?_
  rintro e w2 ⟨rfl, q, hw2⟩
  have hM2 : w2.heap[w.heap.size]? = some (nvO A) := by rw [hw2]; exact HM.out
  have hN2 : w2.heap[w.heap.size + 1]? = some (nvO B) := by rw [hw2]; exact HN.out
  have HB2 : Hid (Below w.heap.size w w2) := by show Below _ _ _; rw [hw2]; exact HB.out.trans ((drewN_below w1 q).mono HB.out.size)
  have HM2 := hide hM2
  have HN2 := hide hN2
  clear d0 d1 d2 d3 d4 d5 d6 d7 e0 e1 e2 e3 e4 e5 e6 e7 hw2 HM HN HB HS
  obtain ⟨d0, d1, d2, d3, d4, d5, d6, d7⟩ := nv_cells hM2
  obtain ⟨e0, e1, e2, e3, e4, e5, e6, e7⟩ := nv_cells hN2
  rw [HAe.out] at d0 d1 d2 d3 d4 d5 d6 d7
  rw [HBe.out] at e0 e1 e2 e3 e4 e5 e6 e7
  simp only at d0 d1 d2 d3 d4 d5 d6 d7 e0 e1 e2 e3 e4 e5 e6 e7
  clear hM2 hN2
  go_wp2
  clear d0 d1 d2 d3 d4 d5 d6 d7 e0 e1 e2 e3 e4 e5 e6 e7
  go_loopw [5] (fun i wr => ∃ j : Nat, j ≤ kl2 ∧ i = .int .i64 j ∧ wr.heap[w.heap.size]? = some (nvO A) ∧ wr.heap[w.heap.size + 1]? = some (nvO B) ∧ Below w.heap.size w wr) (fun i _ => kl2 - (intOf i).toNat)
  case atStart => exact ⟨0, Nat.zero_le _, rfl, HM2.out, HN2.out, HB2.out⟩
  case round =>
   obtain ⟨j, hj, rfl, hm, hn, hb⟩ := hrel
   have HMr := hide hm
   have HNr := hide hn
   have HBr := hide hb
   obtain ⟨w3, hw3⟩ : ∃ w3, w3 = wr := ⟨_, rfl⟩
   subst hw3
   have d2 := (nv_cells hm).c2
   have e2 := (nv_cells hn).c2
   rw [HAe.out] at d2
   rw [HBe.out] at e2
   simp only at d2 e2
   clear hm hn hb HM2 HN2 HB2
   by_cases hlt : j < kl2
   ·have hjk : j < ks.length := by have := HAl.out; omega
    have e3 : (j : Int) < (kl2 : Int) := by omega
    have e4 : (0 : Int) ≤ (j : Int) := by omega
    obtain ⟨x, hx, hcx⟩ : ∃ x, ka = some x ∧ NCells w3 (x.add (j * 8)) (va j) := by
     rcases HA8.out with ⟨_, _, _, h0⟩ | ⟨x, hx, _, _, hcl⟩
     ·omega
     ·exact ⟨x, hx, (hcl j hjk).below HBr.out⟩
    obtain ⟨y, hy, hcy⟩ : ∃ y, kb = some y ∧ NCells w3 (y.add (j * 8)) (vb j) := by
     rcases HB8.out with ⟨_, _, _, h0⟩ | ⟨y, hy, _, _, hcl⟩
     ·omega
     ·exact ⟨y, hy, (hcl j hjk).below HBr.out⟩
    have HC : Hid (∀ W, Below w3.heap.size w3 W → Calls Tryz.prog 12 #[nvV (va j), nvV (vb j)] W fun e w' => e = .returned (.bool true) ∧ Below W.heap.size W w') := fun W hW => HIH.out ks[j] _ _ W (HKd.out.2.2.2 j hjk) (HKd.out.2.2.1 j hjk) (((HKd.out.1 j hjk).keep HBr.out).keep hW) (((HKd.out.2.1 j hjk).keep HBr.out).keep hW)
    obtain ⟨c0, c1, c2, c3, c4, c5, c6, c7⟩ := hcx
    obtain ⟨g0, g1, g2, g3, g4, g5, g6, g7⟩ := hcy
    have hjm : (j : Int) + 1 ≤ 9223372036854775807 := by have := hlenk.out; omega
    rw [hx] at d2
    rw [hy] at e2
    clear hx hy
    simp only [nvV] at HC
    have HDr : Hid (Below w3.heap.size w3 w3.drew) := ⟨rfl, rfl, rfl, Nat.le_refl _, fun _ _ => rfl⟩
    go_upto_region 10 with fail
    go_still_tail 10, (by kernel_rfl)
    go_wp2_with fail
    refine (HC.out _ HDr.out).mono ?_
    rintro e w4 ⟨rfl, hb4⟩
    have hb5 : Below w3.heap.size w3 w4 := HDr.out.trans (hb4.mono HDr.out.size)
    have HM4 : Hid (w4.heap[w.heap.size]? = some (nvO A)) := by show _ = _; rw [hb5.block _ (TR.lt_of_block HMr.out)]; exact HMr.out
    have HN4 : Hid (w4.heap[w.heap.size + 1]? = some (nvO B)) := by show _ = _; rw [hb5.block _ (TR.lt_of_block HNr.out)]; exact HNr.out
    have HB4 := hide (HBr.out.trans (hb5.mono HBr.out.size))
    clear hb4 hb5 HC c0 c1 c2 c3 c4 c5 c6 c7 g0 g1 g2 g3 g4 g5 g6 g7 d2 e2 HDr
    go_wp2
    go_roundw
    case rel => exact ⟨j + 1, by omega, by go_num, HM4.out, HN4.out, HB4.out⟩
    case measure => simp [intOf]; omega
   ·have e2 : ¬ (j : Int) < (kl2 : Int) := by omega
    go_wp2
    go_ret
    exact ⟨rfl, HBr.out⟩
end Go.Proofs.YtaccofiegkdlgaaGreatDoor.Pa
namespace Go.Proofs.YtaccofiegkdlgaaGreatDoor.Pa
set_option maxHeartbeats 8000000
open Go.RowKit
open TR (Tr NV NCells nvV nvO NodeC KidsC nv_cells)
set_option linter.unusedVariables false
set_option maxRecDepth 100000
theorem samePattern_eq (a b : NV) (t : Tr) (gr : Int) (u v : Value) (N : NmL) (w : World) (hs : Sm t) (ha : NodeC w a t) (hb : NodeC w b t) (hu : NamesC w u N) (hv : NamesC w v N) : Calls Tryz.prog 7 #[pnV a gr u, pnV b gr v] w fun e w' => e = .returned (.bool true) ∧ Below w.heap.size w w' := by
 obtain ⟨ao, ac, eu⟩ := hu.shape
 obtain ⟨bo, bc, ev⟩ := hv.shape
 obtain ⟨m, hm⟩ : ∃ m, m = N.length := ⟨_, rfl⟩
 rw [← hm] at eu ev
 have HMe := hide hm
 obtain ⟨w1, hw1⟩ : ∃ w1, w1 = (w.alloc (pnO a gr u)).alloc (pnO b gr v) := ⟨_, rfl⟩
 have hb1 : Below w.heap.size w w1 := by rw [hw1]; exact ((Below.refl _ w).alloc (Nat.le_refl _) _).alloc (by simp) _
 have hM : w1.heap[w.heap.size]? = some (pnO a gr u) := by rw [hw1]; exact TK.at_old (TK.at_new _ _)
 have hN : w1.heap[w.heap.size + 1]? = some (pnO b gr v) := by rw [hw1]; exact TK.at_new' _ _ (by simp)
 have HM := hide hM
 have HN := hide hN
 obtain ⟨d0, d1, d2, d3, d4, d5, d6, d7, d8, d9⟩ := pn_cells hM
 obtain ⟨e0, e1, e2, e3, e4, e5, e6, e7, e8, e9⟩ := pn_cells hN
 have HB := hide hb1
 have HS := hide (sameNode_eq _ t a b w1 (Nat.le_refl _) hs (ha.keep hb1) (hb.keep hb1))
 have HU := hide hu
 have HV := hide hv
 have hmx : Hid (m ≤ 9223372036854775807) := by
  rcases hu with ⟨_, h0⟩ | ⟨x, c, _, h0, _⟩
  ·subst h0; show m ≤ _; rw [hm]; simp
  ·show m ≤ _; omega
 simp only [pnO] at hw1
 simp only [pnV, nvV] at HS ⊢
 rw [eu, ev] at hw1 ⊢
 rw [eu] at d9 HM HU
 rw [ev] at e9 HN HV
 clear hb1 hM hN hu hv ha hb hs eu ev hm
 go_enter Tryz.func7, Tryz.ntmps7
 go_wp2_with fail
 rw [← hw1]
 clear hw1
 go_wp2_with fail
 refine HS.out.mono ?_
 rintro e w2 ⟨rfl, hb2⟩
 have HM2 : Hid (w2.heap[w.heap.size]? = some (pnO a gr (.slice ao m ac))) := by show _ = _; rw [hb2.block _ (TR.lt_of_block HM.out)]; exact HM.out
 have HN2 : Hid (w2.heap[w.heap.size + 1]? = some (pnO b gr (.slice bo m bc))) := by show _ = _; rw [hb2.block _ (TR.lt_of_block HN.out)]; exact HN.out
 clear d0 d1 d2 d3 d4 d5 d6 d7 d8 d9 e0 e1 e2 e3 e4 e5 e6 e7 e8 e9
 obtain ⟨-, -, -, -, -, -, -, -, d8, d9⟩ := pn_cells HM2.out
 obtain ⟨-, -, -, -, -, -, -, -, e8, e9⟩ := pn_cells HN2.out
 have HB2 := hide (HB.out.trans (hb2.mono HB.out.size))
 clear hb2 HB HM HN HS
 go_wp2
 go_loopw [5] (fun i wr => ∃ j q : Nat, j ≤ m ∧ i = .int .i64 j ∧ wr = w2.drewN q) (fun i _ => m - (intOf i).toNat)
 case atStart => exact ⟨0, 0, Nat.zero_le _, rfl, rfl⟩
 case round =>
  obtain ⟨j, q, hj, rfl, hw⟩ := hrel
  have HW := hide hw
  have d9 : wr.cell? ⟨w.heap.size, 9, none⟩ = some (.slice ao m ac) := by rw [hw]; exact d9
  have e9 : wr.cell? ⟨w.heap.size + 1, 9, none⟩ = some (.slice bo m bc) := by rw [hw]; exact e9
  by_cases hlt : j < m
  ·have hjN : j < N.length := by have := HMe.out; omega
   have hmi : (j : Int) + 1 ≤ 9223372036854775807 := by have := hmx.out; omega
   have hbw : Below w.heap.size w wr := by rw [hw]; exact HB2.out.trans ((drewN_below w2 q).mono HB2.out.size)
   obtain ⟨x, hx, c1, c2⟩ : ∃ x, ao = some x ∧ wr.cell? (x.add (j * 2)) = some (.string N[j].1) ∧ wr.cell? ⟨(x.add (j * 2)).block, (x.add (j * 2)).off + 1, none⟩ = some (.int .i64 N[j].2) := by
    rcases HU.out.below hbw with ⟨_, h0⟩ | ⟨x, c, h1, _, h3⟩
    ·subst h0; cases hjN
    ·cases h1; exact ⟨x, rfl, h3 j hjN⟩
   obtain ⟨y, hy, f1, f2⟩ : ∃ y, bo = some y ∧ wr.cell? (y.add (j * 2)) = some (.string N[j].1) ∧ wr.cell? ⟨(y.add (j * 2)).block, (y.add (j * 2)).off + 1, none⟩ = some (.int .i64 N[j].2) := by
    rcases HV.out.below hbw with ⟨_, h0⟩ | ⟨x, c, h1, _, h3⟩
    ·subst h0; cases hjN
    ·cases h1; exact ⟨x, rfl, h3 j hjN⟩
   obtain ⟨r, hr⟩ : ∃ r, r = N[j] := ⟨_, rfl⟩
   rw [← hr] at c1 c2 f1 f2
   clear hr
   obtain ⟨s, z⟩ := r
   rw [hx] at d9
   rw [hy] at e9
   simp only at c1 c2 f1 f2
   clear hx hy hbw hw
   go_wp2
   go_quiet (fail)
   go_wp2
   go_roundw
   case rel => obtain ⟨q2, hq2⟩ := drew_more HW.out nq; exact ⟨j + 1, q2, by omega, by go_num, hq2⟩
   case measure => simp [intOf]; omega
  ·clear hw
   go_wp2
   go_ret
   exact ⟨rfl, by rw [HW.out]; exact HB2.out.trans ((drewN_below w2 q).mono HB2.out.size)⟩
end Go.Proofs.YtaccofiegkdlgaaGreatDoor.Pa
namespace Go.Proofs.YtaccofiegkdlgaaGreatDoor.Pa
open Go.RowKit
open TR (Tr NV NCells nvV nvO NodeC KidsC)
open TK (Mv PatV)
set_option linter.unusedVariables false
set_option maxRecDepth 100000
theorem wpList_run {P : Program} {ops : Array Oper} {rest : List Oper} {o : Oper} {a : Act} {w : World} {Q : Exit → Act → World → Prop} (hgd : o.guard = none) (s x : Operand) (t : TypeId)
  (ho : o.op = .call { callee := .builtin .append, args := #[s, x], argTypes := #[t, t] }) (v v2 v' : Value) (w' : World) (hs : a.eval s = v) (hx : a.eval x = v2) (hr : (Builtin.append_ #[t, t] o.type #[v, v2]).run P w = .ok v' w') (h : wpList P ops Q rest (a.put o.dst v') w') : wpList P ops Q (o :: rest) a w :=
 wpList_plain hgd fun _ hK => by
  unfold Oper.wp execOp
  simp only [ho, resolve, invoke, builtin, Sem.run_bind, Sem.run_pure, Result.andThen_ok, List.map_toArray, List.map_cons, List.map_nil, hs, hx, hr]
  exact hK _ _ h
theorem i64s_ones (l : List Int) : ∀ u ∈ i64s l, u.oneCell' = true := by
 intro u hu
 simp [i64s] at hu
 obtain ⟨_, _, rfl⟩ := hu
 rfl
theorem i64s_app (l m : List Int) : i64s (l ++ m) = i64s l ++ i64s m := by simp [i64s]
theorem own_pat {w : World} {B n : Nat} {v : Value} {l : List Int} (h : w.ownsRow B 3 1 v n (i64s l)) (hn : n = l.length) : PatV w v l := by
 subst hn
 rcases h.2 with ⟨rfl, h0⟩ | ⟨g, cap, cur, rfl, hg, hh, hc, r⟩
 ·exact .inl ⟨rfl, List.eq_nil_of_length_eq_zero h0⟩
 ·refine .inr ⟨⟨g, 0, none⟩, cap, rfl, hc, fun j hj => ?_⟩
  have e1 : ((⟨g, 0, none⟩ : Addr).add j) = ⟨g, j, none⟩ := by unfold Addr.add; split <;> simp_all
  rw [e1, h.cellAt j (by omega)]
  simp [i64s, hj]
theorem app_ints {W : World} {B n : Nat} {v v2 : Value} {l m : List Int} (hB : B ≤ W.heap.size) (ho : W.ownsRow B 3 1 v n (i64s l)) (h2 : PatV W v2 m) (hl : n + m.length ≤ 100000000) :
  ∃ vo vc W', (Builtin.append_ #[22, 22] 22 #[v, v2]).run Tryz.prog W = .ok (.slice vo (n + m.length) vc) W' ∧ W'.ownsRow B 3 1 (.slice vo (n + m.length) vc) (n + m.length) (i64s (l ++ m)) ∧ Below B W W' := by
 obtain ⟨i0, hi, hz0, hz1, hz2⟩ := info_parts infoI
 rcases h2 with ⟨rfl, rfl⟩ | ⟨x, c, rfl, hc, hcl⟩
 ·obtain ⟨vo, vc, rfl⟩ := own_shape ho
  exact ⟨vo, vc, W, run_append_owned_none (P := Tryz.prog) W B 22 22 3 i0 1 Tryz.underlying22 hi _ n _ ho, by simpa using ho, Below.refl _ _⟩
 ·obtain ⟨v', w', hr, ho', hg, -⟩ := run_append_own (P := Tryz.prog) W B 22 22 3 i0 _ 1 8 Tryz.underlying22 hi hz0 hz1 hz2 rfl (by decide) v n (i64s l) ho x m.length c (i64s m) (by simp [i64s])
   (fun j u hu => by
    have hj : j < m.length := by have := (List.getElem?_eq_some_iff.1 hu).1; simpa [i64s] using this
    rw [hcl j hj]
    simp [i64s, hj] at hu
    rw [hu])
   (i64s_ones m) (by unfold maxLen; omega) (by omega) hB
  obtain ⟨vo, vc, rfl⟩ := own_shape ho'
  exact ⟨vo, vc, w', hr, by rw [i64s_app]; exact ho', (Below.refl B W).grown hg hB (fun k hk => (ho.lt k hk).1)⟩
theorem lit_pat (W : World) (x : Int) : PatV (W.alloc (.cells #[.int .i64 x] 3)) (.slice (some ⟨W.heap.size, 0, none⟩) 1 1) [x] := .inr ⟨_, 1, rfl, by simp, fun j hj => by
 have : j = 0 := by simpa using hj
 subst this
 rw [show (⟨W.heap.size, 0, none⟩ : Addr).add 0 = ⟨W.heap.size, 0, none⟩ from rfl, World.cell?_alloc_at _ _ _ _ (by simp)]
 rfl⟩
end Go.Proofs.YtaccofiegkdlgaaGreatDoor.Pa
namespace Go.Proofs.YtaccofiegkdlgaaGreatDoor.Pa
open Go.RowKit
open TR (Tr NV NCells nvV nvO NodeC KidsC)
open TK (Mv PatV)
open Br (BE PS givesF fauO fau_cells)
set_option linter.unusedVariables false
set_option maxRecDepth 100000
theorem settle_sm {ns : List Int} {t : Tr} (h : Sm t) : Sm (settleT ns t) := by
 induction h with
 | mk k n a b c o S ks hs h ih =>
  rw [settle_mk]
  refine .mk _ _ _ _ _ _ _ _ hs (fun u hu => ?_)
  obtain ⟨t, ht, rfl⟩ := List.mem_map.1 hu
  exact ih t ht
theorem pat_sm {d : Int} {fo : Bool} {l : List Int} {p : Pt} (h : patM bigB d fo l = .ok p) : Sm p.tree := by
 unfold patM at h
 split at h
 ·cases h
 ·rename_i hpe
  have hpe : TK.patE d l = 0 := by simpa using hpe
  unfold wholeM at h
  split at h
  ·cases h
  ·rename_i s0 h0
   have hA : InvA l {} := ⟨Nat.zero_le _, Nat.zero_le _, Nat.zero_le _, by decide, by decide⟩
   obtain ⟨i0, _, _, d0, _⟩ := adv_inv hpe hA h0
   split at h
   ·cases h
   ·rename_i t s hb
    split at h
    ·cases h
    ·split at h
     ·cases h
     ·split at h
      ·cases h
      ·cases h
       exact settle_sm (branchesF_q sm_clo hpe 21 _ _ _ _ _ i0 rfl hb)
def zeroT : Tr := .mk 0 0 0 0 0 false [] []
theorem zero_node (w : World) : NodeC w nodeZ zeroT := .mk nodeZ [] [] (fun _ => nodeZ) (.inl ⟨rfl, rfl⟩) (.inl ⟨rfl, rfl, rfl, rfl⟩) (fun j hj => by cases hj)
def patR (R : Except BE Pt) : Tr × Nat × List Nm := match R with
 | .ok p => (p.tree, p.groups, p.names)
 | .error _ => (zeroT, 0, [])
def patZ (R : Except BE Pt) : Int × Int := match R with
 | .ok _ => (0, 0)
 | .error e => e
theorem parse_one (d : Int) (fo : Bool) {v : Value} {l : List Int} {w : World} (h : PatV w v l) (hT : Fo.Tab w) (hpos : 0 < w.heap.size) : Calls Tryz.prog 6 #[.int .i64 d, v, .bool fo] w fun e w' => ∃ (n : NV) (gr : Int) (uo : Option Addr) (ul uc : Nat) (z a : Int), e = .returned (.tuple #[pnV n gr (.slice uo ul uc), .agg #[.int .i64 z, .int .i64 a]]) ∧
  (∀ w'' : World, (∀ k, w.heap.size ≤ k → k < w'.heap.size → w''.heap[k]? = w'.heap[k]?) → NodeC w'' n (patR (patM bigB d fo l)).1 ∧ NamesC w'' (.slice uo ul uc) (patR (patM bigB d fo l)).2.2) ∧ gr = ((patR (patM bigB d fo l)).2.1 : Nat) ∧ z = (patZ (patM bigB d fo l)).1 ∧ a = (patZ (patM bigB d fo l)).2 ∧ Below w.heap.size w w' := by
 refine (parse_fn (d := d) fo h hT hpos).mono ?_
 rintro e w' (⟨p, n, u, hR, rfl, hnc, hb⟩ | ⟨z, a, hR, rfl, hb⟩)
 ·obtain ⟨uo, uc, hu⟩ := (hnc w' (fun _ _ _ => rfl)).2.shape
  rw [hR]
  subst hu
  exact ⟨n, _, uo, _, uc, 0, 0, rfl, hnc, rfl, rfl, rfl, hb⟩
 ·rw [hR]
  exact ⟨nodeZ, 0, none, 0, 0, z, a, rfl, fun w'' _ => ⟨zero_node w'', .inl ⟨rfl, rfl⟩⟩, rfl, rfl, rfl, hb⟩
theorem patR_sm (d : Int) (fo : Bool) (l : List Int) : Sm (patR (patM bigB d fo l)).1 := by
 cases hR : patM bigB d fo l with
 | ok p => exact pat_sm hR
 | error e => exact .mk _ _ _ _ _ _ _ _ (by simp) (fun t ht => by cases ht)
end Go.Proofs.YtaccofiegkdlgaaGreatDoor.Pa
namespace Go.Proofs.YtaccofiegkdlgaaGreatDoor.Pa
open TR (Tr)
open Br (BE PS)
set_option linter.unusedVariables false
variable {d : Int} {l : List Int} {s s' : St}
def Alp (l : List Int) : Prop := ∀ p ∈ l, p = 97 ∨ p = 98 ∨ p = 99 ∨ p = 46 ∨ p = 42 ∨ p = 94 ∨ p = 36
theorem alp_says (h : Alp l) (i : Nat) {c : Int} (hc : c = 63 ∨ c = 43) : TK.says l i [c] = false := by
 rw [TK.says_one]
 cases hg : l[i]? with
 | none => rfl
 | some p =>
  have := h p (List.mem_of_getElem? hg)
  simp only [beq_eq_false_iff_ne, ne_eq, Option.some.injEq]
  omega
def tokA (p : Int) : TK.Tok := if p = 46 then { kind := 2 } else if p = 94 then TK.lookT 3 else if p = 36 then TK.lookT 4 else if p = 42 then { kind := 6, least := 0, most := -1, way := 1 } else TK.pointT p
theorem next_alp (h : Alp l) (hd : d = 1 ∨ d = 2 ∨ d = 3) (i : Nat) : TK.nextT d l i = match l[i]? with
  | none => .error 1
  | some p => .ok (tokA p, i + 1) := by
 unfold TK.nextT
 cases hg : l[i]? with
 | none => rfl
 | some p =>
  simp only
  have hr : ∀ a b, TK.repT d l (i + 1) a b = ({ kind := 6, least := a, most := b, way := 1 }, i + 1) := by
   intro a b
   unfold TK.repT
   rw [alp_says h (i + 1) (.inl rfl), alp_says h (i + 1) (.inr rfl)]
   split <;> simp
  have hp := h p (List.mem_of_getElem? hg)
  unfold TK.tokT TK.partT tokA
  rw [hr]
  rcases hp with rfl | rfl | rfl | rfl | rfl | rfl | rfl <;> rcases hd with rfl | rfl | rfl <;> rfl
theorem next_td (h : Alp l) (hd : d = 1 ∨ d = 2 ∨ d = 3) (i : Nat) : TK.nextT d l i = TK.nextT 1 l i := by
 rw [next_alp h hd, next_alp h (.inl rfl)]
theorem adv_td (h : Alp l) (hd : d = 1 ∨ d = 2 ∨ d = 3) (s : St) : advM d l s = advM 1 l s := by
 unfold advM
 rw [next_td h hd]
def TdOk (s : St) : Prop := s.tok.kind ≠ 5 ∧ s.tok.kind ≠ 7
theorem tokA_ok (p : Int) : (tokA p).kind ≠ 5 ∧ (tokA p).kind ≠ 7 := by
 unfold tokA
 repeat' split
 all_goals first | exact ⟨by decide, by decide⟩ | exact ⟨by simp [TK.pointT], by simp [TK.pointT]⟩
theorem adv_ok (h : Alp l) (hr : advM 1 l s = .ok s') : TdOk s' := by
 unfold advM at hr
 rw [next_alp h (.inl rfl)] at hr
 split at hr
 ·cases hr; exact ⟨by simp, by simp⟩
 ·cases hg : l[s.next]? with
  | none => rw [hg] at hr; cases hr
  | some p => rw [hg] at hr; cases hr; exact tokA_ok p
theorem single_td (hs : TdOk s) : singleM d l s = singleM 1 l s := by
 have hset : setM d l s = setM 1 l s := by
  unfold setM
  rw [if_neg hs.1, if_neg hs.1]
 unfold singleM
 rw [hset]
theorem atom_td (h : Alp l) (hd : d = 1 ∨ d = 2 ∨ d = 3) {rec rec' : Rd} (hs : TdOk s) : atomM d l rec s = atomM 1 l rec' s := by
 unfold atomM
 rw [if_neg hs.2, if_neg hs.2, single_td hs]
 simp only [adv_td h hd]
theorem atom_ok (h : Alp l) {rec : Rd} (hs : TdOk s) {t : Tr} (hr : atomM 1 l rec s = .ok (t, s')) : TdOk s' := by
 unfold atomM at hr
 split at hr
 ·cases hr
 ·split at hr
  ·rename_i h7
   exact absurd h7 hs.2
  ·split at hr
   ·cases hr
   ·split at hr
    ·cases hr
    ·rename_i s2 heq
     cases hr
     exact adv_ok h heq
theorem reps_td (h : Alp l) (hd : d = 1 ∨ d = 2 ∨ d = 3) {may : Bool} : ∀ (n a : Nat) (t : Tr) (s : St), repsM d l may n a t s = repsM 1 l may n a t s
 | 0, a, t, s => rfl
 | n + 1, a, t, s => by
  unfold repsM
  rw [adv_td h hd]
  have : ∀ s1, repsM d l may n (a + 1) (repT t s.tok) s1 = repsM 1 l may n (a + 1) (repT t s.tok) s1 := fun s1 => reps_td h hd n (a + 1) _ s1
  simp only [this]
theorem reps_ok (h : Alp l) {may : Bool} : ∀ (n a : Nat) (t : Tr) (s : St) (t' : Tr) (s' : St), TdOk s → repsM 1 l may n a t s = .ok (t', s') → TdOk s'
 | 0, a, t, s, t', s', hs, hr => by cases hr; exact hs
 | n + 1, a, t, s, t', s', hs, hr => by
  unfold repsM at hr
  split at hr
  ·split at hr
   ·cases hr
   ·split at hr
    ·cases hr
    ·split at hr
     ·cases hr
     ·rename_i s1 heq
      exact reps_ok h n (a + 1) _ s1 t' s' (adv_ok h heq) hr
  ·cases hr; exact hs
theorem piece_td (h : Alp l) (hd : d = 1 ∨ d = 2 ∨ d = 3) {rec rec' : Rd} (hs : TdOk s) : pieceM d l rec s = pieceM 1 l rec' s := by
 unfold pieceM
 rw [atom_td (rec' := rec') h hd hs]
 simp only [reps_td h hd]
theorem piece_ok (h : Alp l) {rec : Rd} (hs : TdOk s) {t : Tr} (hr : pieceM 1 l rec s = .ok (t, s')) : TdOk s' := by
 unfold pieceM at hr
 split at hr
 ·cases hr
 ·rename_i t1 s1 heq
  exact reps_ok h _ _ _ _ _ _ (atom_ok h hs heq) hr
theorem pieces_td (h : Alp l) (hd : d = 1 ∨ d = 2 ∨ d = 3) {rec rec' : Rd} : ∀ (n : Nat) (ps : List Tr) (s : St), TdOk s → piecesM d l rec n ps s = piecesM 1 l rec' n ps s
 | 0, ps, s, hs => rfl
 | n + 1, ps, s, hs => by
  unfold piecesM
  rw [piece_td (rec' := rec') h hd hs]
  cases hq : pieceM 1 l rec' s with
  | error e => rfl
  | ok y =>
   obtain ⟨t, s1⟩ := y
   simp only
   rw [pieces_td h hd n _ s1 (piece_ok h hs hq)]
theorem branch_td (h : Alp l) (hd : d = 1 ∨ d = 2 ∨ d = 3) {rec rec' : Rd} (hs : TdOk s) : branchM d l rec s = branchM 1 l rec' s := by
 unfold branchM
 rw [pieces_td (rec' := rec') h hd _ _ _ hs]
theorem bars_td (h : Alp l) (hd : d = 1 ∨ d = 2 ∨ d = 3) {rec rec' : Rd} : ∀ (n : Nat) (bs : List Tr) (s : St), barsM d l rec n bs s = barsM 1 l rec' n bs s
 | 0, bs, s => rfl
 | n + 1, bs, s => by
  unfold barsM
  rw [adv_td h hd]
  cases hq : advM 1 l s with
  | error e => rfl
  | ok s1 =>
   simp only
   rw [branch_td (rec' := rec') h hd (adv_ok h hq)]
   have : ∀ bs s2, barsM d l rec n bs s2 = barsM 1 l rec' n bs s2 := fun bs s2 => bars_td h hd n bs s2
   simp only [this]
theorem pat_td (h : Alp l) (hd : d = 1 ∨ d = 2 ∨ d = 3) (fo : Bool) : patM bigB d fo l = patM bigB 1 fo l := by
 have hpe : TK.patE d l = TK.patE 1 l := by
  unfold TK.patE
  rw [if_neg (show ¬ (d < 1 ∨ 3 < d) by omega), if_neg (show ¬ ((1 : Int) < 1 ∨ (3 : Int) < 1) by omega)]
 unfold patM
 rw [hpe]
 unfold wholeM
 rw [adv_td h hd]
 cases hq : advM 1 l {} with
 | error e => rfl
 | ok s0 =>
  simp only
  have hb : branchesF d l 21 fo s0 = branchesF 1 l 21 fo s0 := by
   show branchesG d l (branchesF d l 20) fo s0 = branchesG 1 l (branchesF 1 l 20) fo s0
   unfold branchesG
   rw [branch_td (s := { s0 with folded := fo }) (rec' := branchesF 1 l 20) h hd ⟨(adv_ok h hq).1, (adv_ok h hq).2⟩]
   simp only [bars_td (rec' := branchesF 1 l 20) h hd]
  rw [hb]
end Go.Proofs.YtaccofiegkdlgaaGreatDoor.Pa
namespace Go.Proofs.YtaccofiegkdlgaaGreatDoor.Pa
set_option maxHeartbeats 8000000
open Go.RowKit
open TR (Tr NV NCells nvV nvO NodeC KidsC)
open TK (Mv PatV)
open Br (BE PS givesF fauO fau_cells)
set_option linter.unusedVariables false
set_option maxRecDepth 100000
theorem choose_seven (z : Int) (h0 : -9223372036854775808 ≤ z) (h1 : z ≤ 9223372036854775807) (w : World) : Calls Tryz.prog 5 #[.int .i64 z, .int .i64 7] w fun e w' => ∃ c : Int, e = .returned (.int .i64 c) ∧ 0 ≤ c ∧ c < 7 ∧ w' = w := by
 by_cases hz : z < 0
 ·go_enter Tryz.func5, Tryz.ntmps5
  go_wp2
  go_ret
  have e : -(z + 1).tmod 7 = (-(z + 1)) % 7 := by rw [← Int.neg_tmod, Int.tmod_eq_emod_of_nonneg (by omega)]
  exact ⟨_, rfl, by rw [e]; omega, by rw [e]; omega, rfl⟩
 ·go_enter Tryz.func5, Tryz.ntmps5
  go_wp2
  go_ret
  exact ⟨_, rfl, by omega, by omega, rfl⟩
def OneR (R : Except BE Pt) (w : World) (e : Ending) (w' : World) : Prop := ∃ (n : NV) (gr : Int) (uo : Option Addr) (ul uc : Nat) (z a : Int), e = .returned (.tuple #[pnV n gr (.slice uo ul uc), .agg #[.int .i64 z, .int .i64 a]]) ∧
  (∀ w'' : World, (∀ k, w.heap.size ≤ k → k < w'.heap.size → w''.heap[k]? = w'.heap[k]?) → NodeC w'' n (patR R).1 ∧ NamesC w'' (.slice uo ul uc) (patR R).2.2) ∧ gr = ((patR R).2.1 : Nat) ∧ z = (patZ R).1 ∧ a = (patZ R).2 ∧ Below w.heap.size w w'
def alpL : List Int := [97, 98, 99, 46, 42, 94, 36]
theorem dialects_walk (fo : Bool) (v : Value) (l : List Int) (w : World) (hT : Fo.Tab w) (hpos : 0 < w.heap.size) (h : PatV w v l) (hrg : ∀ z ∈ l, -9223372036854775808 ≤ z ∧ z ≤ 9223372036854775807) : Calls Tryz.prog 3 #[v, .bool fo] w fun e w' => e = .returned (.bool true) ∧ Below w.heap.size w w' := by
 have HP := hide (parseBegun_fn w hT hpos)
 have HX : Hid (∀ d w1 v1 l1, Below w.heap.size w w1 → PatV w1 v1 l1 → _) := fun d w1 v1 l1 hb hv => parse_one d fo hv (hT.below hb hpos) (Nat.lt_of_lt_of_le hpos hb.size)
 have HH := hide h
 have HRG := hide hrg
 obtain ⟨ao, c, hv⟩ := h.shape
 obtain ⟨n, hn⟩ : ∃ n, n = l.length := ⟨_, rfl⟩
 have HN := hide hn
 rw [← hn] at hv
 rw [hv] at HH ⊢
 clear h hT hrg hn hv
 go_enter Tryz.func3, Tryz.ntmps3
 go_wp2_with fail
 refine HP.out.mono ?_
 rintro e w1 ⟨rfl, hb1⟩
 have HB1 := hide hb1
 have HH1 := hide (HH.out.below hb1)
 clear hb1 HP HH
 go_wp2
 go_loopw [5, 6] (fun u i wr => ∃ (k : Nat) (Q : List Int), k ≤ n ∧ k ≤ 100 ∧ i = .int .i64 k ∧ Q.length = k ∧ Alp Q ∧ wr.ownsRow w1.heap.size 3 1 u k (i64s Q) ∧ Below w1.heap.size w1 wr) (fun _ i _ => 100 - (intOf i).toNat)
 case atStart => exact ⟨0, [], Nat.zero_le _, Nat.zero_le _, rfl, rfl, fun p hp => (by cases hp), World.ownsRow_nil _ _ _ _, Below.refl _ _⟩
 case round =>
  obtain ⟨k, Q, hkn, hk1, rfl, hQk, hA, ho, hb⟩ := hrel
  have HO := hide ho
  have HBl := hide hb
  have HAl := hide hA
  have HQl := hide hQk
  obtain ⟨ao1, c1, rfl⟩ := own_shape ho
  clear hA ho hb hQk
  by_cases hlt : k < n ∧ k < 100
  ·obtain ⟨h1, h2⟩ := hlt
   have hkl : k < l.length := by rw [← HN.out]; exact h1
   obtain ⟨wA, hwA⟩ : ∃ wA, wA = wr.alloc (.cells #[.int .i64 97, .int .i64 98, .int .i64 99, .int .i64 46, .int .i64 42, .int .i64 94, .int .i64 36] 3) := ⟨_, rfl⟩
   have hbA : Below wr.heap.size wr wA := by rw [hwA]; exact (Below.refl _ wr).alloc (Nat.le_refl _) _
   obtain ⟨x, cx, hvx, hcap, hrd⟩ := ((HH1.out.below HBl.out).below hbA).some (by omega)
   have hcx : ao = some x := by cases hvx; rfl
   subst hcx
   have cell := hrd k hkl
   obtain ⟨z0, z1⟩ := HRG.out l[k] (List.getElem_mem hkl)
   obtain ⟨z, hz⟩ : ∃ z, z = l[k] := ⟨_, rfl⟩
   rw [← hz] at cell z0 z1
   have HC := hide (choose_seven z z0 z1 wA)
   have t1 : (k : Int) < (n : Int) := by omega
   have t2 : (0 : Int) ≤ (k : Int) := by omega
   have t3 : (k : Int) < 100 := by omega
   have hlit : ∀ m : Nat, m < 7 → wA.cell? ⟨wr.heap.size, m, none⟩ = some (.int .i64 (alpL.getD m 0)) := by
    intro m hm
    rw [hwA, World.cell?_alloc_at _ _ _ _ (by simp)]
    match m, hm with
    | 0, _ => rfl
    | 1, _ => rfl
    | 2, _ => rfl
    | 3, _ => rfl
    | 4, _ => rfl
    | 5, _ => rfl
    | 6, _ => rfl
   have HLit := hide hlit
   have hsz : wA.heap.size = wr.heap.size + 1 := by rw [hwA]; simp
   have HSz := hide hsz
   have HBA := hide hbA
   rw [hwA] at cell
   clear hz hkl hrd hvx hcap z0 z1 hlit hsz hbA
   go_wp2_with fail
   rw [← hwA]
   refine HC.out.mono ?_
   rintro e w2 ⟨cc, rfl, hc0, hc6, hw2⟩
   obtain ⟨m, rfl⟩ : ∃ m : Nat, cc = m := ⟨cc.toNat, by omega⟩
   have hm7 : m < 7 := by omega
   have cM := HLit.out m hm7
   obtain ⟨p, hp⟩ : ∃ p, p = alpL.getD m 0 := ⟨_, rfl⟩
   have hpm : p = 97 ∨ p = 98 ∨ p = 99 ∨ p = 46 ∨ p = 42 ∨ p = 94 ∨ p = 36 := by
    rw [hp]
    match m, hm7 with
    | 0, _ => decide
    | 1, _ => decide
    | 2, _ => decide
    | 3, _ => decide
    | 4, _ => decide
    | 5, _ => decide
    | 6, _ => decide
   have HPm := hide hpm
   rw [← hp] at cM
   subst hw2
   obtain ⟨vo, vc, wB, hrB, hoB, hbB⟩ := app_ints (W := w2.alloc (.cells #[.int .i64 p] 3)) (B := w1.heap.size) (n := k) (v := .slice ao1 k c1) (m := [p]) (by have := HBl.out.size; have := HBA.out.size; simp; omega) ((own_below HO.out HBA.out).alloc _) (lit_pat w2 p) (by simp; omega)
   rw [show k + ([p] : List Int).length = k + 1 from rfl] at hrB hoB
   have HOB := hide hoB
   have HBB := hide ((HBl.out.trans (HBA.out.mono HBl.out.size)).trans (((Below.refl _ w2).alloc (Nat.le_trans HBl.out.size HBA.out.size) _).trans hbB))
   have HRB := hide hrB
   have t4 : (m : Int) < 7 := by omega
   have t5 : (0 : Int) ≤ (m : Int) := by omega
   clear hrB hoB hbB hp hpm hwA cell HC HLit hc0 hc6
   go_wp2_with (at_builtin; (refine wpList_run rfl _ _ _ rfl _ _ _ _ rfl rfl HRB.out ?_; clear HRB))
   go_roundw
   case rel => exact ⟨k + 1, Q ++ [p], by omega, by omega, by go_num, by simp [HQl.out], fun y hy => (List.mem_append.1 hy).elim (HAl.out y) (fun h => by rw [List.mem_singleton] at h; rw [h]; exact HPm.out), HOB.out, HBB.out⟩
   case measure => simp [intOf]; omega
  ·have HQr := hide (own_pat HO.out HQl.out.symm)
   have HBr := hide (HB1.out.trans (HBl.out.mono HB1.out.size))
   have HXd : Hid (∀ d, d = 1 ∨ d = 2 ∨ d = 3 → ∀ W, Below wr.heap.size wr W → Calls Tryz.prog 6 #[.int .i64 d, .slice ao1 k c1, .bool fo] W fun e w' => OneR (patM bigB 1 fo Q) W e w') := fun d hd W hW => by
    have h := HX.out d W _ Q (HBr.out.trans (hW.mono HBr.out.size)) (HQr.out.below hW)
    rw [pat_td HAl.out hd fo] at h
    exact h
   have HX1 := hide (HXd.out 1 (.inl rfl) wr (Below.refl _ _))
   clear HX HO HBl HAl HQl HH1 HRG HQr HB1
   by_cases h1 : k < n
   ·have t1 : (k : Int) < (n : Int) := by omega
    have t3 : ¬ (k : Int) < 100 := by omega
    clear hlt
    go_wp2_with fail
    refine HX1.out.mono ?_
    rintro e w2 ⟨n1, gr1, uo, ul, uc, z1, p1, rfl, hn2, hg2, hz2, hp2, hb2⟩
    have HN2 := hide hn2
    have HZ2 : Hid (z1 = (patZ (patM bigB 1 fo Q)).1 ∧ p1 = (patZ (patM bigB 1 fo Q)).2 ∧ gr1 = ((patR (patM bigB 1 fo Q)).2.1 : Nat)) := ⟨hz2, hp2, hg2⟩
    obtain ⟨w3, hw2⟩ : ∃ w3, w3 = (w2.alloc (pnO n1 gr1 (.slice uo ul uc))).alloc (fauO z1 p1) := ⟨_, rfl⟩
    have hbb2 : Below w2.heap.size w2 w3 := by rw [hw2]; exact ((Below.refl _ w2).alloc (Nat.le_refl _) _).alloc (by simp) _
    have HPa2 : Hid (w3.heap[w2.heap.size]? = some (pnO n1 gr1 (.slice uo ul uc))) := by show _ = _; rw [hw2]; exact TK.at_old (TK.at_new _ _)
    have HFa2 : Hid (w3.heap[w2.heap.size + 1]? = some (fauO z1 p1)) := by show _ = _; rw [hw2]; exact TK.at_new' _ _ (by simp)
    have HBo2 := hide hbb2
    have HBi2 := hide (hb2.trans (hbb2.mono hb2.size))
    have HB3 := hide HBi2.out
    have HX3 := hide (HXd.out 2 (.inr (.inl rfl)) w3 HB3.out)
    simp only [pnO, fauO] at hw2
    simp only [pnV]
    clear hn2 hg2 hz2 hp2 hb2 hbb2 HX1
    go_wp2_with fail
    rw [← hw2]
    clear hw2
    refine HX3.out.mono ?_
    rintro e w4 ⟨n2, gr2, xo, xl, xc, z2, p2, rfl, hn4, hg4, hz4, hp4, hb4⟩
    have HN4 := hide hn4
    have HZ4 : Hid (z2 = (patZ (patM bigB 1 fo Q)).1 ∧ p2 = (patZ (patM bigB 1 fo Q)).2 ∧ gr2 = ((patR (patM bigB 1 fo Q)).2.1 : Nat)) := ⟨hz4, hp4, hg4⟩
    obtain ⟨w5, hw4⟩ : ∃ w5, w5 = (w4.alloc (pnO n2 gr2 (.slice xo xl xc))).alloc (fauO z2 p2) := ⟨_, rfl⟩
    have hbb4 : Below w4.heap.size w4 w5 := by rw [hw4]; exact ((Below.refl _ w4).alloc (Nat.le_refl _) _).alloc (by simp) _
    have HPa4 : Hid (w5.heap[w4.heap.size]? = some (pnO n2 gr2 (.slice xo xl xc))) := by show _ = _; rw [hw4]; exact TK.at_old (TK.at_new _ _)
    have HFa4 : Hid (w5.heap[w4.heap.size + 1]? = some (fauO z2 p2)) := by show _ = _; rw [hw4]; exact TK.at_new' _ _ (by simp)
    have HBo4 := hide hbb4
    have HBi4 := hide (hb4.trans (hbb4.mono hb4.size))
    have HB5 := hide (HB3.out.trans (HBi4.out.mono HB3.out.size))
    have HX5 := hide (HXd.out 3 (.inr (.inr rfl)) w5 HB5.out)
    simp only [pnO, fauO] at hw4
    simp only [pnV]
    clear hn4 hg4 hz4 hp4 hb4 hbb4 HX3 HXd
    go_wp2_with fail
    rw [← hw4]
    clear hw4
    refine HX5.out.mono ?_
    rintro e w6 ⟨n3, gr3, yo, yl, yc, z3, p3, rfl, hn6, hg6, hz6, hp6, hb6⟩
    have HN6 := hide hn6
    have HZ6 : Hid (z3 = (patZ (patM bigB 1 fo Q)).1 ∧ p3 = (patZ (patM bigB 1 fo Q)).2 ∧ gr3 = ((patR (patM bigB 1 fo Q)).2.1 : Nat)) := ⟨hz6, hp6, hg6⟩
    obtain ⟨w7, hw6⟩ : ∃ w7, w7 = (w6.alloc (pnO n3 gr3 (.slice yo yl yc))).alloc (fauO z3 p3) := ⟨_, rfl⟩
    have hbb6 : Below w6.heap.size w6 w7 := by rw [hw6]; exact ((Below.refl _ w6).alloc (Nat.le_refl _) _).alloc (by simp) _
    have HPa6 : Hid (w7.heap[w6.heap.size]? = some (pnO n3 gr3 (.slice yo yl yc))) := by show _ = _; rw [hw6]; exact TK.at_old (TK.at_new _ _)
    have HFa6 : Hid (w7.heap[w6.heap.size + 1]? = some (fauO z3 p3)) := by show _ = _; rw [hw6]; exact TK.at_new' _ _ (by simp)
    have HBo6 := hide hbb6
    have HBi6 := hide (hb6.trans (hbb6.mono hb6.size))
    have HB7 := hide (HB5.out.trans (HBi6.out.mono HB5.out.size))
    have hb37 : Below w3.heap.size w3 w7 := HBi4.out.trans (HBi6.out.mono HBi4.out.size)
    have hb27 : Below w2.heap.size w2 w7 := HBo2.out.trans (hb37.mono HBo2.out.size)
    have hb47 : Below w4.heap.size w4 w7 := HBo4.out.trans (HBi6.out.mono HBo4.out.size)
    have hc1 := HN2.out w7 (fun k _ h => hb27.block k h)
    have hc2 := HN4.out w7 (fun k _ h => hb47.block k h)
    have hc3 := HN6.out w7 (fun k _ h => hbb6.block k h)
    obtain rfl : z2 = z1 := HZ4.out.1.trans HZ2.out.1.symm
    obtain rfl : z3 = z2 := HZ6.out.1.trans HZ4.out.1.symm
    obtain rfl : p2 = p1 := HZ4.out.2.1.trans HZ2.out.2.1.symm
    obtain rfl : p3 = p2 := HZ6.out.2.1.trans HZ4.out.2.1.symm
    obtain rfl : gr2 = gr1 := HZ4.out.2.2.trans HZ2.out.2.2.symm
    obtain rfl : gr3 = gr2 := HZ6.out.2.2.trans HZ4.out.2.2.symm
    have HPb2 : Hid (w7.heap[w2.heap.size]? = some (pnO n1 gr3 (.slice uo ul uc))) := by show _ = _; rw [hb37.block _ (TR.lt_of_block HPa2.out)]; exact HPa2.out
    have HFb2 : Hid (w7.heap[w2.heap.size + 1]? = some (fauO z3 p3)) := by show _ = _; rw [hb37.block _ (TR.lt_of_block HFa2.out)]; exact HFa2.out
    have HPb4 : Hid (w7.heap[w4.heap.size]? = some (pnO n2 gr3 (.slice xo xl xc))) := by show _ = _; rw [HBi6.out.block _ (TR.lt_of_block HPa4.out)]; exact HPa4.out
    have HFb4 : Hid (w7.heap[w4.heap.size + 1]? = some (fauO z3 p3)) := by show _ = _; rw [HBi6.out.block _ (TR.lt_of_block HFa4.out)]; exact HFa4.out
    obtain ⟨f0, f1, -⟩ := fau_cells HFb2.out
    obtain ⟨g0, g1, -⟩ := fau_cells HFb4.out
    obtain ⟨h0, h1', -⟩ := fau_cells HFa6.out
    obtain ⟨a0, a1, a2, a3, a4, a5, a6, a7, a8, a9⟩ := pn_cells HPb2.out
    obtain ⟨b0, b1, b2, b3, b4, b5, b6, b7, b8, b9⟩ := pn_cells HPb4.out
    have HS1 := hide (samePattern_eq n1 n2 (patR (patM bigB 1 fo Q)).1 gr3 (.slice uo ul uc) (.slice xo xl xc) (patR (patM bigB 1 fo Q)).2.2 w7 (patR_sm 1 fo Q) hc1.1 hc2.1 hc1.2 hc2.2)
    have HS2 : Hid (∀ w8, Below w7.heap.size w7 w8 → _) := fun w8 hb => samePattern_eq n2 n3 (patR (patM bigB 1 fo Q)).1 gr3 (.slice xo xl xc) (.slice yo yl yc) (patR (patM bigB 1 fo Q)).2.2 w8 (patR_sm 1 fo Q) (hc2.1.keep hb) (hc3.1.keep hb) (hc2.2.below hb) (hc3.2.below hb)
    simp only [pnV] at HS1 HS2
    simp only [pnO, fauO] at hw6
    simp only [pnV]
    rw [hw6] at f0 f1 g0 g1 h0 h1' a0 a1 a2 a3 a4 a5 a6 a7 a8 a9 b0 b1 b2 b3 b4 b5 b6 b7 b8 b9
    clear hn6 hg6 hz6 hp6 hb6 hbb6 HX5 hb37 hb27 hb47 hc1 hc2 hc3 HZ2 HZ4 HZ6 HN2 HN4 HN6
    go_wp2_with fail
    rw [← hw6]
    clear hw6 f0 f1 g0 g1 h0 h1' a0 a1 a2 a3 a4 a5 a6 a7 a8 a9 b0 b1 b2 b3 b4 b5 b6 b7 b8 b9
    refine HS1.out.mono ?_
    rintro e w8 ⟨rfl, hb8⟩
    have HC2 := hide (HS2.out w8 hb8)
    obtain ⟨b0, b1, b2, b3, b4, b5, b6, b7, b8, b9⟩ := pn_cells (by rw [hb8.block _ (TR.lt_of_block HPb4.out)]; exact HPb4.out : w8.heap[w4.heap.size]? = _)
    obtain ⟨c0, c1', c2, c3, c4, c5, c6, c7, c8, c9⟩ := pn_cells (by rw [hb8.block _ (TR.lt_of_block HPa6.out)]; exact HPa6.out : w8.heap[w6.heap.size]? = _)
    have HB8 := hide ((HBr.out.trans (HB7.out.mono HBr.out.size)).trans (hb8.mono (Nat.le_trans HBr.out.size HB7.out.size)))
    clear hb8 HS1 HS2
    go_wp2_with fail
    refine HC2.out.mono ?_
    rintro e w9 ⟨rfl, hb9⟩
    have HB9 := hide (HB8.out.trans (hb9.mono HB8.out.size))
    clear hb9 HC2
    go_wp2
    go_ret
    exact ⟨rfl, HB9.out⟩
   ·have t1 : ¬ (k : Int) < (n : Int) := by omega
    clear hlt
    go_wp2_with fail
    refine HX1.out.mono ?_
    rintro e w2 ⟨n1, gr1, uo, ul, uc, z1, p1, rfl, hn2, hg2, hz2, hp2, hb2⟩
    have HN2 := hide hn2
    have HZ2 : Hid (z1 = (patZ (patM bigB 1 fo Q)).1 ∧ p1 = (patZ (patM bigB 1 fo Q)).2 ∧ gr1 = ((patR (patM bigB 1 fo Q)).2.1 : Nat)) := ⟨hz2, hp2, hg2⟩
    obtain ⟨w3, hw2⟩ : ∃ w3, w3 = (w2.alloc (pnO n1 gr1 (.slice uo ul uc))).alloc (fauO z1 p1) := ⟨_, rfl⟩
    have hbb2 : Below w2.heap.size w2 w3 := by rw [hw2]; exact ((Below.refl _ w2).alloc (Nat.le_refl _) _).alloc (by simp) _
    have HPa2 : Hid (w3.heap[w2.heap.size]? = some (pnO n1 gr1 (.slice uo ul uc))) := by show _ = _; rw [hw2]; exact TK.at_old (TK.at_new _ _)
    have HFa2 : Hid (w3.heap[w2.heap.size + 1]? = some (fauO z1 p1)) := by show _ = _; rw [hw2]; exact TK.at_new' _ _ (by simp)
    have HBo2 := hide hbb2
    have HBi2 := hide (hb2.trans (hbb2.mono hb2.size))
    have HB3 := hide HBi2.out
    have HX3 := hide (HXd.out 2 (.inr (.inl rfl)) w3 HB3.out)
    simp only [pnO, fauO] at hw2
    simp only [pnV]
    clear hn2 hg2 hz2 hp2 hb2 hbb2 HX1
    go_wp2_with fail
    rw [← hw2]
    clear hw2
    refine HX3.out.mono ?_
    rintro e w4 ⟨n2, gr2, xo, xl, xc, z2, p2, rfl, hn4, hg4, hz4, hp4, hb4⟩
    have HN4 := hide hn4
    have HZ4 : Hid (z2 = (patZ (patM bigB 1 fo Q)).1 ∧ p2 = (patZ (patM bigB 1 fo Q)).2 ∧ gr2 = ((patR (patM bigB 1 fo Q)).2.1 : Nat)) := ⟨hz4, hp4, hg4⟩
    obtain ⟨w5, hw4⟩ : ∃ w5, w5 = (w4.alloc (pnO n2 gr2 (.slice xo xl xc))).alloc (fauO z2 p2) := ⟨_, rfl⟩
    have hbb4 : Below w4.heap.size w4 w5 := by rw [hw4]; exact ((Below.refl _ w4).alloc (Nat.le_refl _) _).alloc (by simp) _
    have HPa4 : Hid (w5.heap[w4.heap.size]? = some (pnO n2 gr2 (.slice xo xl xc))) := by show _ = _; rw [hw4]; exact TK.at_old (TK.at_new _ _)
    have HFa4 : Hid (w5.heap[w4.heap.size + 1]? = some (fauO z2 p2)) := by show _ = _; rw [hw4]; exact TK.at_new' _ _ (by simp)
    have HBo4 := hide hbb4
    have HBi4 := hide (hb4.trans (hbb4.mono hb4.size))
    have HB5 := hide (HB3.out.trans (HBi4.out.mono HB3.out.size))
    have HX5 := hide (HXd.out 3 (.inr (.inr rfl)) w5 HB5.out)
    simp only [pnO, fauO] at hw4
    simp only [pnV]
    clear hn4 hg4 hz4 hp4 hb4 hbb4 HX3 HXd
    go_wp2_with fail
    rw [← hw4]
    clear hw4
    refine HX5.out.mono ?_
    rintro e w6 ⟨n3, gr3, yo, yl, yc, z3, p3, rfl, hn6, hg6, hz6, hp6, hb6⟩
    have HN6 := hide hn6
    have HZ6 : Hid (z3 = (patZ (patM bigB 1 fo Q)).1 ∧ p3 = (patZ (patM bigB 1 fo Q)).2 ∧ gr3 = ((patR (patM bigB 1 fo Q)).2.1 : Nat)) := ⟨hz6, hp6, hg6⟩
    obtain ⟨w7, hw6⟩ : ∃ w7, w7 = (w6.alloc (pnO n3 gr3 (.slice yo yl yc))).alloc (fauO z3 p3) := ⟨_, rfl⟩
    have hbb6 : Below w6.heap.size w6 w7 := by rw [hw6]; exact ((Below.refl _ w6).alloc (Nat.le_refl _) _).alloc (by simp) _
    have HPa6 : Hid (w7.heap[w6.heap.size]? = some (pnO n3 gr3 (.slice yo yl yc))) := by show _ = _; rw [hw6]; exact TK.at_old (TK.at_new _ _)
    have HFa6 : Hid (w7.heap[w6.heap.size + 1]? = some (fauO z3 p3)) := by show _ = _; rw [hw6]; exact TK.at_new' _ _ (by simp)
    have HBo6 := hide hbb6
    have HBi6 := hide (hb6.trans (hbb6.mono hb6.size))
    have HB7 := hide (HB5.out.trans (HBi6.out.mono HB5.out.size))
    have hb37 : Below w3.heap.size w3 w7 := HBi4.out.trans (HBi6.out.mono HBi4.out.size)
    have hb27 : Below w2.heap.size w2 w7 := HBo2.out.trans (hb37.mono HBo2.out.size)
    have hb47 : Below w4.heap.size w4 w7 := HBo4.out.trans (HBi6.out.mono HBo4.out.size)
    have hc1 := HN2.out w7 (fun k _ h => hb27.block k h)
    have hc2 := HN4.out w7 (fun k _ h => hb47.block k h)
    have hc3 := HN6.out w7 (fun k _ h => hbb6.block k h)
    obtain rfl : z2 = z1 := HZ4.out.1.trans HZ2.out.1.symm
    obtain rfl : z3 = z2 := HZ6.out.1.trans HZ4.out.1.symm
    obtain rfl : p2 = p1 := HZ4.out.2.1.trans HZ2.out.2.1.symm
    obtain rfl : p3 = p2 := HZ6.out.2.1.trans HZ4.out.2.1.symm
    obtain rfl : gr2 = gr1 := HZ4.out.2.2.trans HZ2.out.2.2.symm
    obtain rfl : gr3 = gr2 := HZ6.out.2.2.trans HZ4.out.2.2.symm
    have HPb2 : Hid (w7.heap[w2.heap.size]? = some (pnO n1 gr3 (.slice uo ul uc))) := by show _ = _; rw [hb37.block _ (TR.lt_of_block HPa2.out)]; exact HPa2.out
    have HFb2 : Hid (w7.heap[w2.heap.size + 1]? = some (fauO z3 p3)) := by show _ = _; rw [hb37.block _ (TR.lt_of_block HFa2.out)]; exact HFa2.out
    have HPb4 : Hid (w7.heap[w4.heap.size]? = some (pnO n2 gr3 (.slice xo xl xc))) := by show _ = _; rw [HBi6.out.block _ (TR.lt_of_block HPa4.out)]; exact HPa4.out
    have HFb4 : Hid (w7.heap[w4.heap.size + 1]? = some (fauO z3 p3)) := by show _ = _; rw [HBi6.out.block _ (TR.lt_of_block HFa4.out)]; exact HFa4.out
    obtain ⟨f0, f1, -⟩ := fau_cells HFb2.out
    obtain ⟨g0, g1, -⟩ := fau_cells HFb4.out
    obtain ⟨h0, h1', -⟩ := fau_cells HFa6.out
    obtain ⟨a0, a1, a2, a3, a4, a5, a6, a7, a8, a9⟩ := pn_cells HPb2.out
    obtain ⟨b0, b1, b2, b3, b4, b5, b6, b7, b8, b9⟩ := pn_cells HPb4.out
    have HS1 := hide (samePattern_eq n1 n2 (patR (patM bigB 1 fo Q)).1 gr3 (.slice uo ul uc) (.slice xo xl xc) (patR (patM bigB 1 fo Q)).2.2 w7 (patR_sm 1 fo Q) hc1.1 hc2.1 hc1.2 hc2.2)
    have HS2 : Hid (∀ w8, Below w7.heap.size w7 w8 → _) := fun w8 hb => samePattern_eq n2 n3 (patR (patM bigB 1 fo Q)).1 gr3 (.slice xo xl xc) (.slice yo yl yc) (patR (patM bigB 1 fo Q)).2.2 w8 (patR_sm 1 fo Q) (hc2.1.keep hb) (hc3.1.keep hb) (hc2.2.below hb) (hc3.2.below hb)
    simp only [pnV] at HS1 HS2
    simp only [pnO, fauO] at hw6
    simp only [pnV]
    rw [hw6] at f0 f1 g0 g1 h0 h1' a0 a1 a2 a3 a4 a5 a6 a7 a8 a9 b0 b1 b2 b3 b4 b5 b6 b7 b8 b9
    clear hn6 hg6 hz6 hp6 hb6 hbb6 HX5 hb37 hb27 hb47 hc1 hc2 hc3 HZ2 HZ4 HZ6 HN2 HN4 HN6
    go_wp2_with fail
    rw [← hw6]
    clear hw6 f0 f1 g0 g1 h0 h1' a0 a1 a2 a3 a4 a5 a6 a7 a8 a9 b0 b1 b2 b3 b4 b5 b6 b7 b8 b9
    refine HS1.out.mono ?_
    rintro e w8 ⟨rfl, hb8⟩
    have HC2 := hide (HS2.out w8 hb8)
    obtain ⟨b0, b1, b2, b3, b4, b5, b6, b7, b8, b9⟩ := pn_cells (by rw [hb8.block _ (TR.lt_of_block HPb4.out)]; exact HPb4.out : w8.heap[w4.heap.size]? = _)
    obtain ⟨c0, c1', c2, c3, c4, c5, c6, c7, c8, c9⟩ := pn_cells (by rw [hb8.block _ (TR.lt_of_block HPa6.out)]; exact HPa6.out : w8.heap[w6.heap.size]? = _)
    have HB8 := hide ((HBr.out.trans (HB7.out.mono HBr.out.size)).trans (hb8.mono (Nat.le_trans HBr.out.size HB7.out.size)))
    clear hb8 HS1 HS2
    go_wp2_with fail
    refine HC2.out.mono ?_
    rintro e w9 ⟨rfl, hb9⟩
    have HB9 := hide (HB8.out.trans (hb9.mono HB8.out.size))
    clear hb9 HC2
    go_wp2
    go_ret
    exact ⟨rfl, HB9.out⟩
end Go.Proofs.YtaccofiegkdlgaaGreatDoor.Pa
