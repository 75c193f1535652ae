import Derived.Test.YtklbbbldalmnbaaGreatDoorMY
import Derived.Test.YtklbbbldalmnbaaGreatDoorMB
import Derived.Test.YtklbbbldalmnbaaGreatDoorKE
import Derived.StillTailTactics
import Derived.Deep.Cut
import Derived.Deep.RegionLaw
import Derived.Test.YtklbbbldalmnbaaGreatDoorMP
import Derived.Test.YtklbbbldalmnbaaGreatDoorMJ
import Derived.Test.YtklbbbldalmnbaaGreatDoorMO
import Derived.Laws.OwnMore
import Derived.Test.YtklbbbldalmnbaaGreatDoorMQ
import Derived.Test.YtklbbbldalmnbaaGreatDoorOA
namespace Go.Proofs.YtklbbbldalmnbaaGreatDoor.Pa
set_option maxHeartbeats 2000000
open Go.RowKit
open TR (Tr NV NCells nvV nvO NodeC KidsC nv_cells)
set_option linter.unusedVariables false
set_option maxRecDepth 100000
theorem drew_more {w wr : World} {q : Nat} (h : wr = w.drewN q) (n : Nat) : ∃ m, wr.drewN n = w.drewN m := ⟨q + n, by subst h; simp [World.drewN, Nat.add_assoc]⟩
theorem drewN_below (w : World) (q : Nat) : Below w.heap.size w (w.drewN q) := ⟨rfl, rfl, rfl, Nat.le_refl _, fun _ _ => rfl⟩
theorem sameSet_eq (va vb : Value) (A : RL) (w : World) (hA : Reads w va A) (hB : Reads w vb A) (lA : A.length ≤ 2000000) :
  Calls Tryz.prog 22 #[va, vb] w fun e w' => e = .returned (.bool true) ∧ ∃ q, w' = w.drewN q := by
 rcases hA with ⟨rfl, rfl⟩ | ⟨x, c, rfl, hc⟩
 ·obtain ⟨bo, cb, rfl⟩ := hB.shape
  clear hB
  go_enter Tryz.func22, Tryz.ntmps22
  go_wp2
  go_loop [5] (fun i => i = .int .i64 0) (fun i => 0)
  case atStart => exact rfl
  case round =>
   subst hrel
   go_wp2
   go_ret
   exact ⟨rfl, 0, rfl⟩
 ·obtain ⟨bo, cb, rfl⟩ := hB.shape
  have HB := hide hB
  have HC := hide hc
  obtain ⟨n, hn⟩ : ∃ n, n = A.length := ⟨_, rfl⟩
  have HN := hide hn
  rw [← hn] at HB lA ⊢
  clear hc hB hn
  go_enter Tryz.func22, Tryz.ntmps22
  go_wp2
  go_loopw [5] (fun i wr => ∃ k q : Nat, k ≤ n ∧ i = .int .i64 k ∧ wr = w.drewN q) (fun i _ => n - (intOf i).toNat)
  case atStart => exact ⟨0, 0, Nat.zero_le _, rfl, rfl⟩
  case round =>
   obtain ⟨k, q, hk, rfl, hw⟩ := hrel
   have HW := hide hw
   by_cases hlt : k < n
   ·have hkA : k < A.length := by have := HN.out; omega
    obtain ⟨y, cy, hy, hcB⟩ := HB.out.some (by omega)
    obtain ⟨rfl, _⟩ : bo = some y ∧ True := by cases hy; exact ⟨rfl, trivial⟩
    have hcw : Cells2 wr x A := by rw [hw]; exact HC.out
    have hcy : Cells2 wr y A := by rw [hw]; exact hcB
    obtain ⟨c1, c2⟩ := hcw k hkA
    obtain ⟨d1, d2⟩ := hcy k hkA
    obtain ⟨r, hr⟩ : ∃ r, r = A[k] := ⟨_, rfl⟩
    rw [← hr] at c1 c2 d1 d2
    clear hr
    obtain ⟨a, b⟩ := r
    simp only at c1 c2 d1 d2
    clear hcw hcy hcB hy hw
    go_wp2
    go_quiet (fail)
    go_wp2
    go_roundw
    case rel => obtain ⟨q2, hq2⟩ := drew_more HW.out nq; exact ⟨k + 1, q2, by omega, by go_num, hq2⟩
    case measure => simp [intOf]; omega
   ·clear hw
    go_wp2
    go_ret
    exact ⟨rfl, _, HW.out⟩
end Go.Proofs.YtklbbbldalmnbaaGreatDoor.Pa
namespace Go.Proofs.YtklbbbldalmnbaaGreatDoor.Pa
set_option maxHeartbeats 8000000
open Go.RowKit
open TR (Tr NV NCells nvV nvO NodeC KidsC nv_cells)
set_option linter.unusedVariables false
set_option maxRecDepth 100000
theorem szL_at : ∀ (ts : List Tr) (j : Nat) (hj : j < ts.length), szT ts[j] ≤ szL ts
 | t :: ts, 0, _ => by simp [szL]
 | t :: ts, j + 1, hj => by have := szL_at ts j (by simpa using hj); simp only [szL, List.getElem_cons_succ]; omega
theorem sameNode_eq : ∀ (k : Nat) (t : Tr) (a b : NV) (w : World), szT t ≤ k → Sm t → NodeC w a t → NodeC w b t → Calls Tryz.prog 13 #[nvV a, nvV b] w fun e w' => e = .returned (.bool true) ∧ Below w.heap.size w w' := by
 intro k
 induction k with
 | zero => intro t a b w hk; rw [szT_kids] at hk; omega
 | succ k ih =>
  intro t a b w hk hs ha hb
  obtain ⟨a1, a2, a3, a4, a5, a6, a7, va, a8, a9⟩ := ha.open
  obtain ⟨b1, b2, b3, b4, b5, b6, b7, vb, b8, b9⟩ := hb.open
  rw [szT_kids] at hk
  have HK : Hid (∀ j (hj : j < t.kids.length), szT t.kids[j] ≤ k) := fun j hj => by have := szL_at t.kids j hj; omega
  have hlen := hs.kids.1
  have HSm : Hid (∀ j (hj : j < t.kids.length), Sm t.kids[j]) := fun j hj => hs.kids.2 _ (List.getElem_mem hj)
  obtain ⟨ks, hks⟩ : ∃ ks, ks = t.kids := ⟨_, rfl⟩
  rw [← hks] at a8 b8
  have HKd : Hid ((∀ j (hj : j < ks.length), NodeC w (va j) ks[j]) ∧ (∀ j (hj : j < ks.length), NodeC w (vb j) ks[j]) ∧ (∀ j (hj : j < ks.length), Sm ks[j]) ∧ ∀ j (hj : j < ks.length), szT ks[j] ≤ k) := by subst hks; exact ⟨a9, b9, HSm.out, HK.out⟩
  have hal := a8.len
  have hbl := b8.len
  obtain ⟨k1, ao, al, ac, ka, kl, kc, n1, l1, m1, w1', f1⟩ := a
  obtain ⟨k2, bo, bl, bc, kb, kl2, kc2, n2, l2, m2, w2', f2⟩ := b
  simp only at a1 a2 a3 a4 a5 a6 a7 a8 b1 b2 b3 b4 b5 b6 b7 b8 hal hbl
  obtain rfl : k2 = k1 := b1.symm.trans a1
  obtain rfl : n2 = n1 := b2.symm.trans a2
  obtain rfl : l2 = l1 := b3.symm.trans a3
  obtain rfl : m2 = m1 := b4.symm.trans a4
  obtain rfl : w2' = w1' := b5.symm.trans a5
  obtain rfl : f2 = f1 := b6.symm.trans a6
  obtain rfl : kl2 = kl := hbl.trans hal.symm
  have HA8 := hide a8
  have HB8 := hide b8
  have HAl := hide hal
  obtain ⟨A, hA⟩ : ∃ A : NV, A = ⟨k2, ao, al, ac, ka, kl2, kc, n2, l2, m2, w2', f2⟩ := ⟨_, rfl⟩
  obtain ⟨B, hB⟩ : ∃ B : NV, B = ⟨k2, bo, bl, bc, kb, kl2, kc2, n2, l2, m2, w2', f2⟩ := ⟨_, rfl⟩
  obtain ⟨w1, hw1⟩ : ∃ w1, w1 = (w.alloc (nvO A)).alloc (nvO B) := ⟨_, rfl⟩
  have hb1 : Below w.heap.size w w1 := by rw [hw1]; exact ((Below.refl _ w).alloc (Nat.le_refl _) _).alloc (by simp) _
  have hM : w1.heap[w.heap.size]? = some (nvO A) := by rw [hw1]; exact TK.at_old (TK.at_new _ _)
  have hN : w1.heap[w.heap.size + 1]? = some (nvO B) := by rw [hw1]; exact TK.at_new' _ _ (by simp)
  have HS := hide (sameSet_eq _ _ _ w1 (a7.below hb1) (b7.below hb1) hlen)
  have HM := hide hM
  have HN := hide hN
  have HB := hide hb1
  obtain ⟨d0, d1, d2, d3, d4, d5, d6, d7⟩ := nv_cells hM
  obtain ⟨e0, e1, e2, e3, e4, e5, e6, e7⟩ := nv_cells hN
  simp only [nvO] at hw1
  have HIH := hide ih
  have hlenk : Hid (ks.length ≤ 9223372036854775807) := by
   rcases HA8.out with ⟨_, _, _, h0⟩ | ⟨x, _, _, h0, _⟩
   ·show _ ≤ _; omega
   ·show _ ≤ _; omega
  have HAe := hide hA
  have HBe := hide hB
  rw [hA] at d0 d1 d2 d3 d4 d5 d6 d7 hw1
  rw [hB] at e0 e1 e2 e3 e4 e5 e6 e7 hw1
  simp only at d0 d1 d2 d3 d4 d5 d6 d7 e0 e1 e2 e3 e4 e5 e6 e7 hw1
  simp only [nvV]
  clear ha hb a1 a2 a3 a4 a5 a6 a7 a8 a9 b1 b2 b3 b4 b5 b6 b7 b8 b9 hk hs hlen hks hal hbl hb1 hM hN ih HSm HK hA hB
  go_enter Tryz.func13, Tryz.ntmps13
  go_wp2_with fail
  rw [← hw1]
  clear hw1
  go_wp2_with fail
  refine HS.out.mono ?_
  rintro e w2 ⟨rfl, q, hw2⟩
  have hM2 : w2.heap[w.heap.size]? = some (nvO A) := by rw [hw2]; exact HM.out
  have hN2 : w2.heap[w.heap.size + 1]? = some (nvO B) := by rw [hw2]; exact HN.out
  have HB2 : Hid (Below w.heap.size w w2) := by show Below _ _ _; rw [hw2]; exact HB.out.trans ((drewN_below w1 q).mono HB.out.size)
  have HM2 := hide hM2
  have HN2 := hide hN2
  clear d0 d1 d2 d3 d4 d5 d6 d7 e0 e1 e2 e3 e4 e5 e6 e7 hw2 HM HN HB HS
  obtain ⟨d0, d1, d2, d3, d4, d5, d6, d7⟩ := nv_cells hM2
  obtain ⟨e0, e1, e2, e3, e4, e5, e6, e7⟩ := nv_cells hN2
  rw [HAe.out] at d0 d1 d2 d3 d4 d5 d6 d7
  rw [HBe.out] at e0 e1 e2 e3 e4 e5 e6 e7
  simp only at d0 d1 d2 d3 d4 d5 d6 d7 e0 e1 e2 e3 e4 e5 e6 e7
  clear hM2 hN2
  go_wp2
  clear d0 d1 d2 d3 d4 d5 d6 d7 e0 e1 e2 e3 e4 e5 e6 e7
  go_loopw [5] (fun i wr => ∃ j : Nat, j ≤ kl2 ∧ i = .int .i64 j ∧ wr.heap[w.heap.size]? = some (nvO A) ∧ wr.heap[w.heap.size + 1]? = some (nvO B) ∧ Below w.heap.size w wr) (fun i _ => kl2 - (intOf i).toNat)
  case atStart => exact ⟨0, Nat.zero_le _, rfl, HM2.out, HN2.out, HB2.out⟩
  case round =>
   obtain ⟨j, hj, rfl, hm, hn, hb⟩ := hrel
   have HMr := hide hm
   have HNr := hide hn
   have HBr := hide hb
   obtain ⟨w3, hw3⟩ : ∃ w3, w3 = wr := ⟨_, rfl⟩
   subst hw3
   have d2 := (nv_cells hm).c2
   have e2 := (nv_cells hn).c2
   rw [HAe.out] at d2
   rw [HBe.out] at e2
   simp only at d2 e2
   clear hm hn hb HM2 HN2 HB2
   by_cases hlt : j < kl2
   ·have hjk : j < ks.length := by have := HAl.out; omega
    have e3 : (j : Int) < (kl2 : Int) := by omega
    have e4 : (0 : Int) ≤ (j : Int) := by omega
    obtain ⟨x, hx, hcx⟩ : ∃ x, ka = some x ∧ NCells w3 (x.add (j * 8)) (va j) := by
     rcases HA8.out with ⟨_, _, _, h0⟩ | ⟨x, hx, _, _, hcl⟩
     ·omega
     ·exact ⟨x, hx, (hcl j hjk).below HBr.out⟩
    obtain ⟨y, hy, hcy⟩ : ∃ y, kb = some y ∧ NCells w3 (y.add (j * 8)) (vb j) := by
     rcases HB8.out with ⟨_, _, _, h0⟩ | ⟨y, hy, _, _, hcl⟩
     ·omega
     ·exact ⟨y, hy, (hcl j hjk).below HBr.out⟩
    have HC : Hid (∀ W, Below w3.heap.size w3 W → Calls Tryz.prog 13 #[nvV (va j), nvV (vb j)] W fun e w' => e = .returned (.bool true) ∧ Below W.heap.size W w') := fun W hW => HIH.out ks[j] _ _ W (HKd.out.2.2.2 j hjk) (HKd.out.2.2.1 j hjk) (((HKd.out.1 j hjk).keep HBr.out).keep hW) (((HKd.out.2.1 j hjk).keep HBr.out).keep hW)
    obtain ⟨c0, c1, c2, c3, c4, c5, c6, c7⟩ := hcx
    obtain ⟨g0, g1, g2, g3, g4, g5, g6, g7⟩ := hcy
    have hjm : (j : Int) + 1 ≤ 9223372036854775807 := by have := hlenk.out; omega
    rw [hx] at d2
    rw [hy] at e2
    clear hx hy
    simp only [nvV] at HC
    have HDr : Hid (Below w3.heap.size w3 w3.drew) := ⟨rfl, rfl, rfl, Nat.le_refl _, fun _ _ => rfl⟩
    go_upto_region 10 with fail
    go_still_tail 10, (by kernel_rfl)
    go_wp2_with fail
    refine (HC.out _ HDr.out).mono ?_
    rintro e w4 ⟨rfl, hb4⟩
    have hb5 : Below w3.heap.size w3 w4 := HDr.out.trans (hb4.mono HDr.out.size)
    have HM4 : Hid (w4.heap[w.heap.size]? = some (nvO A)) := by show _ = _; rw [hb5.block _ (TR.lt_of_block HMr.out)]; exact HMr.out
    have HN4 : Hid (w4.heap[w.heap.size + 1]? = some (nvO B)) := by show _ = _; rw [hb5.block _ (TR.lt_of_block HNr.out)]; exact HNr.out
    have HB4 := hide (HBr.out.trans (hb5.mono HBr.out.size))
    clear hb4 hb5 HC c0 c1 c2 c3 c4 c5 c6 c7 g0 g1 g2 g3 g4 g5 g6 g7 d2 e2 HDr
    go_wp2
    go_roundw
    case rel => exact ⟨j + 1, by omega, by go_num, HM4.out, HN4.out, HB4.out⟩
    case measure => simp [intOf]; omega
   ·have e2 : ¬ (j : Int) < (kl2 : Int) := by omega
    go_wp2
    go_ret
    exact ⟨rfl, HBr.out⟩
end Go.Proofs.YtklbbbldalmnbaaGreatDoor.Pa
namespace Go.Proofs.YtklbbbldalmnbaaGreatDoor.Pa
set_option maxHeartbeats 8000000
open Go.RowKit
open TR (Tr NV NCells nvV nvO NodeC KidsC nv_cells)
set_option linter.unusedVariables false
set_option maxRecDepth 100000
theorem samePattern_eq (a b : NV) (t : Tr) (gr : Int) (u v : Value) (N : NmL) (w : World) (hs : Sm t) (ha : NodeC w a t) (hb : NodeC w b t) (hu : NamesC w u N) (hv : NamesC w v N) : Calls Tryz.prog 14 #[pnV a gr u, pnV b gr v] w fun e w' => e = .returned (.bool true) ∧ Below w.heap.size w w' := by
 obtain ⟨ao, ac, eu⟩ := hu.shape
 obtain ⟨bo, bc, ev⟩ := hv.shape
 obtain ⟨m, hm⟩ : ∃ m, m = N.length := ⟨_, rfl⟩
 rw [← hm] at eu ev
 have HMe := hide hm
 obtain ⟨w1, hw1⟩ : ∃ w1, w1 = (w.alloc (pnO a gr u)).alloc (pnO b gr v) := ⟨_, rfl⟩
 have hb1 : Below w.heap.size w w1 := by rw [hw1]; exact ((Below.refl _ w).alloc (Nat.le_refl _) _).alloc (by simp) _
 have hM : w1.heap[w.heap.size]? = some (pnO a gr u) := by rw [hw1]; exact TK.at_old (TK.at_new _ _)
 have hN : w1.heap[w.heap.size + 1]? = some (pnO b gr v) := by rw [hw1]; exact TK.at_new' _ _ (by simp)
 have HM := hide hM
 have HN := hide hN
 obtain ⟨d0, d1, d2, d3, d4, d5, d6, d7, d8, d9⟩ := pn_cells hM
 obtain ⟨e0, e1, e2, e3, e4, e5, e6, e7, e8, e9⟩ := pn_cells hN
 have HB := hide hb1
 have HS := hide (sameNode_eq _ t a b w1 (Nat.le_refl _) hs (ha.keep hb1) (hb.keep hb1))
 have HU := hide hu
 have HV := hide hv
 have hmx : Hid (m ≤ 9223372036854775807) := by
  rcases hu with ⟨_, h0⟩ | ⟨x, c, _, h0, _⟩
  ·subst h0; show m ≤ _; rw [hm]; simp
  ·show m ≤ _; omega
 simp only [pnO] at hw1
 simp only [pnV, nvV] at HS ⊢
 rw [eu, ev] at hw1 ⊢
 rw [eu] at d9 HM HU
 rw [ev] at e9 HN HV
 clear hb1 hM hN hu hv ha hb hs eu ev hm
 go_enter Tryz.func14, Tryz.ntmps14
 go_wp2_with fail
 rw [← hw1]
 clear hw1
 go_wp2_with fail
 refine HS.out.mono ?_
 rintro e w2 ⟨rfl, hb2⟩
 have HM2 : Hid (w2.heap[w.heap.size]? = some (pnO a gr (.slice ao m ac))) := by show _ = _; rw [hb2.block _ (TR.lt_of_block HM.out)]; exact HM.out
 have HN2 : Hid (w2.heap[w.heap.size + 1]? = some (pnO b gr (.slice bo m bc))) := by show _ = _; rw [hb2.block _ (TR.lt_of_block HN.out)]; exact HN.out
 clear d0 d1 d2 d3 d4 d5 d6 d7 d8 d9 e0 e1 e2 e3 e4 e5 e6 e7 e8 e9
 obtain ⟨-, -, -, -, -, -, -, -, d8, d9⟩ := pn_cells HM2.out
 obtain ⟨-, -, -, -, -, -, -, -, e8, e9⟩ := pn_cells HN2.out
 have HB2 := hide (HB.out.trans (hb2.mono HB.out.size))
 clear hb2 HB HM HN HS
 go_wp2
 go_loopw [5] (fun i wr => ∃ j q : Nat, j ≤ m ∧ i = .int .i64 j ∧ wr = w2.drewN q) (fun i _ => m - (intOf i).toNat)
 case atStart => exact ⟨0, 0, Nat.zero_le _, rfl, rfl⟩
 case round =>
  obtain ⟨j, q, hj, rfl, hw⟩ := hrel
  have HW := hide hw
  have d9 : wr.cell? ⟨w.heap.size, 9, none⟩ = some (.slice ao m ac) := by rw [hw]; exact d9
  have e9 : wr.cell? ⟨w.heap.size + 1, 9, none⟩ = some (.slice bo m bc) := by rw [hw]; exact e9
  by_cases hlt : j < m
  ·have hjN : j < N.length := by have := HMe.out; omega
   have hmi : (j : Int) + 1 ≤ 9223372036854775807 := by have := hmx.out; omega
   have hbw : Below w.heap.size w wr := by rw [hw]; exact HB2.out.trans ((drewN_below w2 q).mono HB2.out.size)
   obtain ⟨x, hx, c1, c2⟩ : ∃ x, ao = some x ∧ wr.cell? (x.add (j * 2)) = some (.string N[j].1) ∧ wr.cell? ⟨(x.add (j * 2)).block, (x.add (j * 2)).off + 1, none⟩ = some (.int .i64 N[j].2) := by
    rcases HU.out.below hbw with ⟨_, h0⟩ | ⟨x, c, h1, _, h3⟩
    ·subst h0; cases hjN
    ·cases h1; exact ⟨x, rfl, h3 j hjN⟩
   obtain ⟨y, hy, f1, f2⟩ : ∃ y, bo = some y ∧ wr.cell? (y.add (j * 2)) = some (.string N[j].1) ∧ wr.cell? ⟨(y.add (j * 2)).block, (y.add (j * 2)).off + 1, none⟩ = some (.int .i64 N[j].2) := by
    rcases HV.out.below hbw with ⟨_, h0⟩ | ⟨x, c, h1, _, h3⟩
    ·subst h0; cases hjN
    ·cases h1; exact ⟨x, rfl, h3 j hjN⟩
   obtain ⟨r, hr⟩ : ∃ r, r = N[j] := ⟨_, rfl⟩
   rw [← hr] at c1 c2 f1 f2
   clear hr
   obtain ⟨s, z⟩ := r
   rw [hx] at d9
   rw [hy] at e9
   simp only at c1 c2 f1 f2
   clear hx hy hbw hw
   go_wp2
   go_quiet (fail)
   go_wp2
   go_roundw
   case rel => obtain ⟨q2, hq2⟩ := drew_more HW.out nq; exact ⟨j + 1, q2, by omega, by go_num, hq2⟩
   case measure => simp [intOf]; omega
  ·clear hw
   go_wp2
   go_ret
   exact ⟨rfl, by rw [HW.out]; exact HB2.out.trans ((drewN_below w2 q).mono HB2.out.size)⟩
end Go.Proofs.YtklbbbldalmnbaaGreatDoor.Pa
namespace Go.Proofs.YtklbbbldalmnbaaGreatDoor.Pa
open Go.RowKit
open TR (Tr NV NCells nvV nvO NodeC KidsC)
open TK (Mv PatV)
set_option linter.unusedVariables false
set_option maxRecDepth 100000
theorem wpList_run {P : Program} {ops : Array Oper} {rest : List Oper} {o : Oper} {a : Act} {w : World} {Q : Exit → Act → World → Prop} (hgd : o.guard = none) (s x : Operand) (t : TypeId)
  (ho : o.op = .call { callee := .builtin .append, args := #[s, x], argTypes := #[t, t] }) (v v2 v' : Value) (w' : World) (hs : a.eval s = v) (hx : a.eval x = v2) (hr : (Builtin.append_ #[t, t] o.type #[v, v2]).run P w = .ok v' w') (h : wpList P ops Q rest (a.put o.dst v') w') : wpList P ops Q (o :: rest) a w :=
 wpList_plain hgd fun _ hK => by
  unfold Oper.wp execOp
  simp only [ho, resolve, invoke, builtin, Sem.run_bind, Sem.run_pure, Result.andThen_ok, List.map_toArray, List.map_cons, List.map_nil, hs, hx, hr]
  exact hK _ _ h
theorem i64s_ones (l : List Int) : ∀ u ∈ i64s l, u.oneCell' = true := by
 intro u hu
 simp [i64s] at hu
 obtain ⟨_, _, rfl⟩ := hu
 rfl
theorem i64s_app (l m : List Int) : i64s (l ++ m) = i64s l ++ i64s m := by simp [i64s]
theorem own_pat {w : World} {B n : Nat} {v : Value} {l : List Int} (h : w.ownsRow B 3 1 v n (i64s l)) (hn : n = l.length) : PatV w v l := by
 subst hn
 rcases h.2 with ⟨rfl, h0⟩ | ⟨g, cap, cur, rfl, hg, hh, hc, r⟩
 ·exact .inl ⟨rfl, List.eq_nil_of_length_eq_zero h0⟩
 ·refine .inr ⟨⟨g, 0, none⟩, cap, rfl, hc, fun j hj => ?_⟩
  have e1 : ((⟨g, 0, none⟩ : Addr).add j) = ⟨g, j, none⟩ := by unfold Addr.add; split <;> simp_all
  rw [e1, h.cellAt j (by omega)]
  simp [i64s, hj]
theorem app_ints {W : World} {B n : Nat} {v v2 : Value} {l m : List Int} (hB : B ≤ W.heap.size) (ho : W.ownsRow B 3 1 v n (i64s l)) (h2 : PatV W v2 m) (hl : n + m.length ≤ 100000000) :
  ∃ vo vc W', (Builtin.append_ #[36, 36] 36 #[v, v2]).run Tryz.prog W = .ok (.slice vo (n + m.length) vc) W' ∧ W'.ownsRow B 3 1 (.slice vo (n + m.length) vc) (n + m.length) (i64s (l ++ m)) ∧ Below B W W' := by
 obtain ⟨i0, hi, hz0, hz1, hz2⟩ := info_parts infoI
 rcases h2 with ⟨rfl, rfl⟩ | ⟨x, c, rfl, hc, hcl⟩
 ·obtain ⟨vo, vc, rfl⟩ := own_shape ho
  exact ⟨vo, vc, W, run_append_owned_none (P := Tryz.prog) W B 36 36 3 i0 1 Tryz.underlying36 hi _ n _ ho, by simpa using ho, Below.refl _ _⟩
 ·obtain ⟨v', w', hr, ho', hg, -⟩ := run_append_own (P := Tryz.prog) W B 36 36 3 i0 _ 1 8 Tryz.underlying36 hi hz0 hz1 hz2 rfl (by decide) v n (i64s l) ho x m.length c (i64s m) (by simp [i64s])
   (fun j u hu => by
    have hj : j < m.length := by have := (List.getElem?_eq_some_iff.1 hu).1; simpa [i64s] using this
    rw [hcl j hj]
    simp [i64s, hj] at hu
    rw [hu])
   (i64s_ones m) (by unfold maxLen; omega) (by omega) hB
  obtain ⟨vo, vc, rfl⟩ := own_shape ho'
  exact ⟨vo, vc, w', hr, by rw [i64s_app]; exact ho', (Below.refl B W).grown hg hB (fun k hk => (ho.lt k hk).1)⟩
def rowN (xs : List NV) : List Value := xs.flatMap nvL
theorem rowN_app (a b : List NV) : rowN (a ++ b) = rowN a ++ rowN b := by simp [rowN]
theorem rowN_len : ∀ xs : List NV, (rowN xs).length = xs.length * 8
 | [] => rfl
 | x :: xs => by rw [rowN, List.flatMap_cons, List.length_append, nvL_len]; have := rowN_len xs; rw [rowN] at this; rw [this, List.length_cons]; omega
theorem rowN_one (xs : List NV) : ∀ u ∈ rowN xs, u.oneCell' = true := by
 intro u hu
 obtain ⟨x, _, hx⟩ := List.mem_flatMap.1 hu
 exact nvL_one x u hx
theorem rowN_get : ∀ (xs : List NV) (j : Nat) (hj : j < xs.length) (i : Nat), i < 8 → (rowN xs)[j * 8 + i]? = (nvL xs[j])[i]?
 | x :: xs, 0, hj, i, hi => by
  rw [rowN, List.flatMap_cons, List.getElem?_append_left (by rw [nvL_len]; omega)]
  simp
 | x :: xs, j + 1, hj, i, hi => by
  rw [rowN, List.flatMap_cons, List.getElem?_append_right (by rw [nvL_len]; omega), nvL_len]
  have := rowN_get xs j (by simpa using hj) i hi
  rw [rowN] at this
  rw [show (j + 1) * 8 + i - 8 = j * 8 + i from by omega, this]
  rfl
theorem ncells_at {W : World} {a : Addr} {n : NV} (h : NCells W a n) (i : Nat) (hi : i < 8) (u : Value) (hu : (nvL n)[i]? = some u) : W.cell? (a.add i) = some u := by
 obtain ⟨c0, c1, c2, c3, c4, c5, c6, c7⟩ := h
 match i, hi with
 | 0, _ => simp [nvL] at hu; subst hu; exact c0
 | 1, _ => simp [nvL] at hu; subst hu; exact c1
 | 2, _ => simp [nvL] at hu; subst hu; exact c2
 | 3, _ => simp [nvL] at hu; subst hu; exact c3
 | 4, _ => simp [nvL] at hu; subst hu; exact c4
 | 5, _ => simp [nvL] at hu; subst hu; exact c5
 | 6, _ => simp [nvL] at hu; subst hu; exact c6
 | 7, _ => simp [nvL] at hu; subst hu; exact c7
theorem add_add (x : Addr) (a b : Nat) : (x.add a).add b = x.add (a + b) := by
 unfold Addr.add
 by_cases hb : b = 0
 ·subst hb; simp
 ·by_cases ha : a = 0
  ·subst ha; simp [hb]
  ·simp [ha, hb, Nat.add_assoc]
theorem app_nodes {W : World} {B n : Nat} {v : Value} {xs ys : List NV} {ao : Option Addr} {c m : Nat} (hB : B ≤ W.heap.size) (ho : W.ownsRow B 25 8 v n (rowN xs)) (hm : m = ys.length) (h2 : (ao = none ∧ m = 0 ∧ c = 0) ∨ ∃ x, ao = some x ∧ ∀ j (hj : j < ys.length), NCells W (x.add (j * 8)) ys[j]) (hl : n + m ≤ 100000000) :
  ∃ vo vc W', (Builtin.append_ #[23, 23] 23 #[v, .slice ao m c]).run Tryz.prog W = .ok (.slice vo (n + m) vc) W' ∧ W'.ownsRow B 25 8 (.slice vo (n + m) vc) (n + m) (rowN (xs ++ ys)) ∧ Below B W W' := by
 obtain ⟨i0, hi, hz0, hz1, hz2⟩ := info_parts infoNode
 rcases h2 with ⟨rfl, rfl, rfl⟩ | ⟨x, rfl, hcl⟩
 ·obtain rfl : ys = [] := List.eq_nil_of_length_eq_zero hm.symm
  obtain ⟨vo, vc, rfl⟩ := own_shape ho
  exact ⟨vo, vc, W, run_append_owned_none (P := Tryz.prog) W B 23 23 25 i0 8 Tryz.underlying23 hi _ n _ ho, by simpa using ho, Below.refl _ _⟩
 ·obtain ⟨v', w', hr, ho', hg, -⟩ := run_append_own (P := Tryz.prog) W B 23 23 25 i0 _ 8 96 Tryz.underlying23 hi hz0 hz1 hz2 rfl (by decide) v n (rowN xs) ho x m c (rowN ys) (by rw [rowN_len, hm])
   (fun j u hu => by
    have hj : j < ys.length * 8 := by have := (List.getElem?_eq_some_iff.1 hu).1; rwa [rowN_len] at this
    have h1 : j = (j / 8) * 8 + j % 8 := by omega
    have h2 : j / 8 < ys.length := by omega
    rw [h1, rowN_get ys (j / 8) h2 (j % 8) (by omega)] at hu
    have := ncells_at (hcl (j / 8) h2) (j % 8) (by omega) u hu
    rw [add_add, ← h1] at this
    exact this)
   (rowN_one ys) (by unfold maxLen; omega) (by omega) hB
  obtain ⟨vo, vc, rfl⟩ := own_shape ho'
  exact ⟨vo, vc, w', hr, by rw [rowN_app]; exact ho', (Below.refl B W).grown hg hB (fun k hk => (ho.lt k hk).1)⟩
structure RowC (W : World) (xs : List NV) (ts : List Tr) : Prop where
 len : xs.length = ts.length
 all : ∀ j (h : j < xs.length) (h' : j < ts.length), NodeC W xs[j] ts[j]
theorem RowC.app {W : World} {xs ys : List NV} {ts us : List Tr} (h : RowC W xs ts) (h' : RowC W ys us) : RowC W (xs ++ ys) (ts ++ us) := by
 refine ⟨by simp [h.len, h'.len], fun j hj hj' => ?_⟩
 have hlen := h.len
 by_cases hx : j < xs.length
 ·rw [List.getElem_append_left hx, List.getElem_append_left (by omega)]
  exact h.all j hx (by omega)
 ·rw [List.getElem_append_right (by omega), List.getElem_append_right (by omega)]
  have hj2 : j < xs.length + ys.length := by simpa using hj
  have := h'.all (j - xs.length) (by omega) (by have := h'.len; omega)
  simp only [hlen] at this ⊢
  exact this
theorem RowC.keep {W W' : World} {xs : List NV} {ts : List Tr} (h : RowC W xs ts) (hb : Below W.heap.size W W') : RowC W' xs ts := ⟨h.len, fun j a b => (h.all j a b).keep hb⟩
theorem row_node {W : World} {B n : Nat} {vo : Option Addr} {vc : Nat} {xs : List NV} {ts : List Tr} (ho : W.ownsRow B 25 8 (.slice vo n vc) n (rowN xs)) (hc : RowC W xs ts) (hn : n = xs.length) : NodeC W ⟨10, none, 0, 0, vo, n, vc, 0, 0, 0, 0, false⟩ (.mk 10 0 0 0 0 false [] ts) := by
 have hl := hc.len
 refine .mk ⟨10, none, 0, 0, vo, n, vc, 0, 0, 0, 0, false⟩ [] ts (fun j => xs.getD j nodeZ) (.inl ⟨rfl, rfl⟩) ?_ (fun j hj => ?_)
 ·rcases id ho.2 with ⟨h0, h1⟩ | ⟨g, cap, cur, h0, hg, hh, h4, h5, h6⟩
  ·cases h0
   exact .inl ⟨rfl, rfl, rfl, by omega⟩
  ·cases h0
   refine .inr ⟨_, rfl, by show n = _; omega, ⟨by show _ ≤ vc; omega, by show vc ≤ _; unfold maxLen at h5; omega⟩, fun j hj => ?_⟩
   have hj' : j < xs.length := by omega
   have e1 : ((⟨g, 0, none⟩ : Addr).add (j * 8)) = ⟨g, j * 8, none⟩ := by unfold Addr.add; split <;> simp_all
   have c : ∀ k, k < 8 → W.cell? ⟨g, j * 8 + k, none⟩ = (nvL xs[j])[k]? := fun k hk => by rw [ho.cellAt (j * 8 + k) (by omega), rowN_get xs j hj' k hk]
   have e2 : xs.getD j nodeZ = xs[j] := by simp [List.getD, hj']
   rw [e1]
   show NCells W ⟨g, j * 8, none⟩ (xs.getD j nodeZ)
   rw [e2]
   exact ⟨c 0 (by omega), c 1 (by omega), c 2 (by omega), c 3 (by omega), c 4 (by omega), c 5 (by omega), c 6 (by omega), c 7 (by omega)⟩
 ·have hj' : j < xs.length := by omega
  have e2 : xs.getD j nodeZ = xs[j] := by simp [List.getD, hj']
  show NodeC W (xs.getD j nodeZ) ts[j]
  rw [e2]
  exact hc.all j hj' hj
end Go.Proofs.YtklbbbldalmnbaaGreatDoor.Pa
namespace Go.Proofs.YtklbbbldalmnbaaGreatDoor.Pa
open Go.RowKit
open TR (Tr NV NCells nvV nvO NodeC KidsC)
open TK (Mv PatV)
open Br (BE PS givesF fauO fau_cells)
set_option linter.unusedVariables false
set_option maxRecDepth 100000
theorem settle_sm {ns : List Int} {t : Tr} (h : Sm t) : Sm (settleT ns t) := by
 induction h with
 | mk k n a b c o S ks hs h ih =>
  rw [settle_mk]
  refine .mk _ _ _ _ _ _ _ _ hs (fun u hu => ?_)
  obtain ⟨t, ht, rfl⟩ := List.mem_map.1 hu
  exact ih t ht
theorem pat_sm {d : Int} {fo : Bool} {l : List Int} {p : Pt} (h : patM bigB d fo l = .ok p) : Sm p.tree := by
 unfold patM at h
 split at h
 ·cases h
 ·rename_i hpe
  have hpe : TK.patE d l = 0 := by simpa using hpe
  unfold wholeM at h
  split at h
  ·cases h
  ·rename_i s0 h0
   have hA : InvA l {} := ⟨Nat.zero_le _, Nat.zero_le _, Nat.zero_le _, by decide, by decide⟩
   obtain ⟨i0, _, _, d0, _⟩ := adv_inv hpe hA h0
   split at h
   ·cases h
   ·rename_i t s hb
    split at h
    ·cases h
    ·split at h
     ·cases h
     ·split at h
      ·cases h
      ·cases h
       exact settle_sm (branchesF_q sm_clo hpe 21 _ _ _ _ _ i0 rfl hb)
def zeroT : Tr := .mk 0 0 0 0 0 false [] []
theorem zero_node (w : World) : NodeC w nodeZ zeroT := .mk nodeZ [] [] (fun _ => nodeZ) (.inl ⟨rfl, rfl⟩) (.inl ⟨rfl, rfl, rfl, rfl⟩) (fun j hj => by cases hj)
def patR (R : Except BE Pt) : Tr × Nat × List Nm := match R with
 | .ok p => (p.tree, p.groups, p.names)
 | .error _ => (zeroT, 0, [])
def patZ (R : Except BE Pt) : Int × Int := match R with
 | .ok _ => (0, 0)
 | .error e => e
theorem parse_one (d : Int) (fo : Bool) {v : Value} {l : List Int} {w : World} (h : PatV w v l) (hT : Fo.Tab w) (hpos : 3 < w.heap.size) : Calls Tryz.prog 11 #[.int .i64 d, v, .bool fo] w fun e w' => ∃ (n : NV) (gr : Int) (uo : Option Addr) (ul uc : Nat) (z a : Int), e = .returned (.tuple #[pnV n gr (.slice uo ul uc), .agg #[.int .i64 z, .int .i64 a]]) ∧
  (∀ w'' : World, (∀ k, w.heap.size ≤ k → k < w'.heap.size → w''.heap[k]? = w'.heap[k]?) → NodeC w'' n (patR (patM bigB d fo l)).1 ∧ NamesC w'' (.slice uo ul uc) (patR (patM bigB d fo l)).2.2) ∧ gr = ((patR (patM bigB d fo l)).2.1 : Nat) ∧ z = (patZ (patM bigB d fo l)).1 ∧ a = (patZ (patM bigB d fo l)).2 ∧ Below w.heap.size w w' := by
 refine (parse_fn (d := d) fo h hT hpos).mono ?_
 rintro e w' (⟨p, n, u, hR, rfl, hnc, hb⟩ | ⟨z, a, hR, rfl, hb⟩)
 ·obtain ⟨uo, uc, hu⟩ := (hnc w' (fun _ _ _ => rfl)).2.shape
  rw [hR]
  subst hu
  exact ⟨n, _, uo, _, uc, 0, 0, rfl, hnc, rfl, rfl, rfl, hb⟩
 ·rw [hR]
  exact ⟨nodeZ, 0, none, 0, 0, z, a, rfl, fun w'' _ => ⟨zero_node w'', .inl ⟨rfl, rfl⟩⟩, rfl, rfl, rfl, hb⟩
theorem patZ_ok {d : Int} {fo : Bool} {l : List Int} (h : (patZ (patM bigB d fo l)).1 = 0) : ∃ p, patM bigB d fo l = .ok p := by
 cases hR : patM bigB d fo l with
 | ok p => exact ⟨p, rfl⟩
 | error e =>
  rw [hR] at h
  exact absurd h (pat_at (z := e.1) (a := e.2) (by rw [hR])).1
theorem patR_sm (d : Int) (fo : Bool) (l : List Int) : Sm (patR (patM bigB d fo l)).1 := by
 cases hR : patM bigB d fo l with
 | ok p => exact pat_sm hR
 | error e => exact .mk _ _ _ _ _ _ _ _ (by simp) (fun t ht => by cases ht)
end Go.Proofs.YtklbbbldalmnbaaGreatDoor.Pa
