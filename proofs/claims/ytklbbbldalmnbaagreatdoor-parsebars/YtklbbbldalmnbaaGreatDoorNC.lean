import Derived.Test.YtklbbbldalmnbaaGreatDoorMY
import Derived.Test.YtklbbbldalmnbaaGreatDoorMB
import Derived.Test.YtklbbbldalmnbaaGreatDoorKE
import Derived.StillTailTactics
import Derived.Deep.Cut
import Derived.Deep.RegionLaw
import Derived.Test.YtklbbbldalmnbaaGreatDoorNB
import Derived.Test.YtklbbbldalmnbaaGreatDoorMZ
import Derived.Deep.Onto
import Derived.Maps.AppendAt
namespace Go.Proofs.YtklbbbldalmnbaaGreatDoor.Pa
set_option maxHeartbeats 2000000
open Go.RowKit
open TR (Tr NV NCells nvV nvO NodeC KidsC nv_cells)
set_option linter.unusedVariables false
set_option maxRecDepth 100000
theorem drew_more {w wr : World} {q : Nat} (h : wr = w.drewN q) (n : Nat) : ∃ m, wr.drewN n = w.drewN m := ⟨q + n, by subst h; simp [World.drewN, Nat.add_assoc]⟩
theorem drewN_below (w : World) (q : Nat) : Below w.heap.size w (w.drewN q) := ⟨rfl, rfl, rfl, Nat.le_refl _, fun _ _ => rfl⟩
theorem sameSet_eq (va vb : Value) (A : RL) (w : World) (hA : Reads w va A) (hB : Reads w vb A) (lA : A.length ≤ 2000000) :
  Calls Tryz.prog 22 #[va, vb] w fun e w' => e = .returned (.bool true) ∧ ∃ q, w' = w.drewN q := by
 rcases hA with ⟨rfl, rfl⟩ | ⟨x, c, rfl, hc⟩
 ·obtain ⟨bo, cb, rfl⟩ := hB.shape
  clear hB
  go_enter Tryz.func22, Tryz.ntmps22
  go_wp2
  go_loop [5] (fun i => i = .int .i64 0) (fun i => 0)
  case atStart => exact rfl
  case round =>
   subst hrel
   go_wp2
   go_ret
   exact ⟨rfl, 0, rfl⟩
 ·obtain ⟨bo, cb, rfl⟩ := hB.shape
  have HB := hide hB
  have HC := hide hc
  obtain ⟨n, hn⟩ : ∃ n, n = A.length := ⟨_, rfl⟩
  have HN := hide hn
  rw [← hn] at HB lA ⊢
  clear hc hB hn
  go_enter Tryz.func22, Tryz.ntmps22
  go_wp2
  go_loopw [5] (fun i wr => ∃ k q : Nat, k ≤ n ∧ i = .int .i64 k ∧ wr = w.drewN q) (fun i _ => n - (intOf i).toNat)
  case atStart => exact ⟨0, 0, Nat.zero_le _, rfl, rfl⟩
  case round =>
   obtain ⟨k, q, hk, rfl, hw⟩ := hrel
   have HW := hide hw
   by_cases hlt : k < n
   ·have hkA : k < A.length := by have := HN.out; omega
    obtain ⟨y, cy, hy, hcB⟩ := HB.out.some (by omega)
    obtain ⟨rfl, _⟩ : bo = some y ∧ True := by cases hy; exact ⟨rfl, trivial⟩
    have hcw : Cells2 wr x A := by rw [hw]; exact HC.out
    have hcy : Cells2 wr y A := by rw [hw]; exact hcB
    obtain ⟨c1, c2⟩ := hcw k hkA
    obtain ⟨d1, d2⟩ := hcy k hkA
    obtain ⟨r, hr⟩ : ∃ r, r = A[k] := ⟨_, rfl⟩
    rw [← hr] at c1 c2 d1 d2
    clear hr
    obtain ⟨a, b⟩ := r
    simp only at c1 c2 d1 d2
    clear hcw hcy hcB hy hw
    go_wp2
    go_quiet (fail)
    go_wp2
    go_roundw
    case rel => obtain ⟨q2, hq2⟩ := drew_more HW.out nq; exact ⟨k + 1, q2, by omega, by go_num, hq2⟩
    case measure => simp [intOf]; omega
   ·clear hw
    go_wp2
    go_ret
    exact ⟨rfl, _, HW.out⟩
end Go.Proofs.YtklbbbldalmnbaaGreatDoor.Pa
namespace Go.Proofs.YtklbbbldalmnbaaGreatDoor.Pa
set_option maxHeartbeats 8000000
open Go.RowKit
open TR (Tr NV NCells nvV nvO NodeC KidsC nv_cells)
set_option linter.unusedVariables false
set_option maxRecDepth 100000
theorem szL_at : ∀ (ts : List Tr) (j : Nat) (hj : j < ts.length), szT ts[j] ≤ szL ts
 | t :: ts, 0, _ => by simp [szL]
 | t :: ts, j + 1, hj => by have := szL_at ts j (by simpa using hj); simp only [szL, List.getElem_cons_succ]; omega
theorem sameNode_eq : ∀ (k : Nat) (t : Tr) (a b : NV) (w : World), szT t ≤ k → Sm t → NodeC w a t → NodeC w b t → Calls Tryz.prog 13 #[nvV a, nvV b] w fun e w' => e = .returned (.bool true) ∧ Below w.heap.size w w' := by
 intro k
 induction k with
 | zero => intro t a b w hk; rw [szT_kids] at hk; omega
 | succ k ih =>
  intro t a b w hk hs ha hb
  obtain ⟨a1, a2, a3, a4, a5, a6, a7, va, a8, a9⟩ := ha.open
  obtain ⟨b1, b2, b3, b4, b5, b6, b7, vb, b8, b9⟩ := hb.open
  rw [szT_kids] at hk
  have HK : Hid (∀ j (hj : j < t.kids.length), szT t.kids[j] ≤ k) := fun j hj => by have := szL_at t.kids j hj; omega
  have hlen := hs.kids.1
  have HSm : Hid (∀ j (hj : j < t.kids.length), Sm t.kids[j]) := fun j hj => hs.kids.2 _ (List.getElem_mem hj)
  obtain ⟨ks, hks⟩ : ∃ ks, ks = t.kids := ⟨_, rfl⟩
  rw [← hks] at a8 b8
  have HKd : Hid ((∀ j (hj : j < ks.length), NodeC w (va j) ks[j]) ∧ (∀ j (hj : j < ks.length), NodeC w (vb j) ks[j]) ∧ (∀ j (hj : j < ks.length), Sm ks[j]) ∧ ∀ j (hj : j < ks.length), szT ks[j] ≤ k) := by subst hks; exact ⟨a9, b9, HSm.out, HK.out⟩
  have hal := a8.len
  have hbl := b8.len
  obtain ⟨k1, ao, al, ac, ka, kl, kc, n1, l1, m1, w1', f1⟩ := a
  obtain ⟨k2, bo, bl, bc, kb, kl2, kc2, n2, l2, m2, w2', f2⟩ := b
  simp only at a1 a2 a3 a4 a5 a6 a7 a8 b1 b2 b3 b4 b5 b6 b7 b8 hal hbl
  obtain rfl : k2 = k1 := b1.symm.trans a1
  obtain rfl : n2 = n1 := b2.symm.trans a2
  obtain rfl : l2 = l1 := b3.symm.trans a3
  obtain rfl : m2 = m1 := b4.symm.trans a4
  obtain rfl : w2' = w1' := b5.symm.trans a5
  obtain rfl : f2 = f1 := b6.symm.trans a6
  obtain rfl : kl2 = kl := hbl.trans hal.symm
  have HA8 := hide a8
  have HB8 := hide b8
  have HAl := hide hal
  obtain ⟨A, hA⟩ : ∃ A : NV, A = ⟨k2, ao, al, ac, ka, kl2, kc, n2, l2, m2, w2', f2⟩ := ⟨_, rfl⟩
  obtain ⟨B, hB⟩ : ∃ B : NV, B = ⟨k2, bo, bl, bc, kb, kl2, kc2, n2, l2, m2, w2', f2⟩ := ⟨_, rfl⟩
  obtain ⟨w1, hw1⟩ : ∃ w1, w1 = (w.alloc (nvO A)).alloc (nvO B) := ⟨_, rfl⟩
  have hb1 : Below w.heap.size w w1 := by rw [hw1]; exact ((Below.refl _ w).alloc (Nat.le_refl _) _).alloc (by simp) _
  have hM : w1.heap[w.heap.size]? = some (nvO A) := by rw [hw1]; exact TK.at_old (TK.at_new _ _)
  have hN : w1.heap[w.heap.size + 1]? = some (nvO B) := by rw [hw1]; exact TK.at_new' _ _ (by simp)
  have HS := hide (sameSet_eq _ _ _ w1 (a7.below hb1) (b7.below hb1) hlen)
  have HM := hide hM
  have HN := hide hN
  have HB := hide hb1
  obtain ⟨d0, d1, d2, d3, d4, d5, d6, d7⟩ := nv_cells hM
  obtain ⟨e0, e1, e2, e3, e4, e5, e6, e7⟩ := nv_cells hN
  simp only [nvO] at hw1
  have HIH := hide ih
  have hlenk : Hid (ks.length ≤ 9223372036854775807) := by
   rcases HA8.out with ⟨_, _, _, h0⟩ | ⟨x, _, _, h0, _⟩
   ·show _ ≤ _; omega
   ·show _ ≤ _; omega
  have HAe := hide hA
  have HBe := hide hB
  rw [hA] at d0 d1 d2 d3 d4 d5 d6 d7 hw1
  rw [hB] at e0 e1 e2 e3 e4 e5 e6 e7 hw1
  simp only at d0 d1 d2 d3 d4 d5 d6 d7 e0 e1 e2 e3 e4 e5 e6 e7 hw1
  simp only [nvV]
  clear ha hb a1 a2 a3 a4 a5 a6 a7 a8 a9 b1 b2 b3 b4 b5 b6 b7 b8 b9 hk hs hlen hks hal hbl hb1 hM hN ih HSm HK hA hB
  go_enter Tryz.func13, Tryz.ntmps13
  go_wp2_with fail
  rw [← hw1]
  clear hw1
  go_wp2_with fail
  refine HS.out.mono ?_
  rintro e w2 ⟨rfl, q, hw2⟩
  have hM2 : w2.heap[w.heap.size]? = some (nvO A) := by rw [hw2]; exact HM.out
  have hN2 : w2.heap[w.heap.size + 1]? = some (nvO B) := by rw [hw2]; exact HN.out
  have HB2 : Hid (Below w.heap.size w w2) := by show Below _ _ _; rw [hw2]; exact HB.out.trans ((drewN_below w1 q).mono HB.out.size)
  have HM2 := hide hM2
  have HN2 := hide hN2
  clear d0 d1 d2 d3 d4 d5 d6 d7 e0 e1 e2 e3 e4 e5 e6 e7 hw2 HM HN HB HS
  obtain ⟨d0, d1, d2, d3, d4, d5, d6, d7⟩ := nv_cells hM2
  obtain ⟨e0, e1, e2, e3, e4, e5, e6, e7⟩ := nv_cells hN2
  rw [HAe.out] at d0 d1 d2 d3 d4 d5 d6 d7
  rw [HBe.out] at e0 e1 e2 e3 e4 e5 e6 e7
  simp only at d0 d1 d2 d3 d4 d5 d6 d7 e0 e1 e2 e3 e4 e5 e6 e7
  clear hM2 hN2
  go_wp2
  clear d0 d1 d2 d3 d4 d5 d6 d7 e0 e1 e2 e3 e4 e5 e6 e7
  go_loopw [5] (fun i wr => ∃ j : Nat, j ≤ kl2 ∧ i = .int .i64 j ∧ wr.heap[w.heap.size]? = some (nvO A) ∧ wr.heap[w.heap.size + 1]? = some (nvO B) ∧ Below w.heap.size w wr) (fun i _ => kl2 - (intOf i).toNat)
  case atStart => exact ⟨0, Nat.zero_le _, rfl, HM2.out, HN2.out, HB2.out⟩
  case round =>
   obtain ⟨j, hj, rfl, hm, hn, hb⟩ := hrel
   have HMr := hide hm
   have HNr := hide hn
   have HBr := hide hb
   obtain ⟨w3, hw3⟩ : ∃ w3, w3 = wr := ⟨_, rfl⟩
   subst hw3
   have d2 := (nv_cells hm).c2
   have e2 := (nv_cells hn).c2
   rw [HAe.out] at d2
   rw [HBe.out] at e2
   simp only at d2 e2
   clear hm hn hb HM2 HN2 HB2
   by_cases hlt : j < kl2
   ·have hjk : j < ks.length := by have := HAl.out; omega
    have e3 : (j : Int) < (kl2 : Int) := by omega
    have e4 : (0 : Int) ≤ (j : Int) := by omega
    obtain ⟨x, hx, hcx⟩ : ∃ x, ka = some x ∧ NCells w3 (x.add (j * 8)) (va j) := by
     rcases HA8.out with ⟨_, _, _, h0⟩ | ⟨x, hx, _, _, hcl⟩
     ·omega
     ·exact ⟨x, hx, (hcl j hjk).below HBr.out⟩
    obtain ⟨y, hy, hcy⟩ : ∃ y, kb = some y ∧ NCells w3 (y.add (j * 8)) (vb j) := by
     rcases HB8.out with ⟨_, _, _, h0⟩ | ⟨y, hy, _, _, hcl⟩
     ·omega
     ·exact ⟨y, hy, (hcl j hjk).below HBr.out⟩
    have HC : Hid (∀ W, Below w3.heap.size w3 W → Calls Tryz.prog 13 #[nvV (va j), nvV (vb j)] W fun e w' => e = .returned (.bool true) ∧ Below W.heap.size W w') := fun W hW => HIH.out ks[j] _ _ W (HKd.out.2.2.2 j hjk) (HKd.out.2.2.1 j hjk) (((HKd.out.1 j hjk).keep HBr.out).keep hW) (((HKd.out.2.1 j hjk).keep HBr.out).keep hW)
    obtain ⟨c0, c1, c2, c3, c4, c5, c6, c7⟩ := hcx
    obtain ⟨g0, g1, g2, g3, g4, g5, g6, g7⟩ := hcy
    have hjm : (j : Int) + 1 ≤ 9223372036854775807 := by have := hlenk.out; omega
    rw [hx] at d2
    rw [hy] at e2
    clear hx hy
    simp only [nvV] at HC
    have HDr : Hid (Below w3.heap.size w3 w3.drew) := ⟨rfl, rfl, rfl, Nat.le_refl _, fun _ _ => rfl⟩
    go_upto_region 10 with fail
    go_still_tail 10, (by kernel_rfl)
    go_wp2_with fail
    refine (HC.out _ HDr.out).mono ?_
    rintro e w4 ⟨rfl, hb4⟩
    have hb5 : Below w3.heap.size w3 w4 := HDr.out.trans (hb4.mono HDr.out.size)
    have HM4 : Hid (w4.heap[w.heap.size]? = some (nvO A)) := by show _ = _; rw [hb5.block _ (TR.lt_of_block HMr.out)]; exact HMr.out
    have HN4 : Hid (w4.heap[w.heap.size + 1]? = some (nvO B)) := by show _ = _; rw [hb5.block _ (TR.lt_of_block HNr.out)]; exact HNr.out
    have HB4 := hide (HBr.out.trans (hb5.mono HBr.out.size))
    clear hb4 hb5 HC c0 c1 c2 c3 c4 c5 c6 c7 g0 g1 g2 g3 g4 g5 g6 g7 d2 e2 HDr
    go_wp2
    go_roundw
    case rel => exact ⟨j + 1, by omega, by go_num, HM4.out, HN4.out, HB4.out⟩
    case measure => simp [intOf]; omega
   ·have e2 : ¬ (j : Int) < (kl2 : Int) := by omega
    go_wp2
    go_ret
    exact ⟨rfl, HBr.out⟩
end Go.Proofs.YtklbbbldalmnbaaGreatDoor.Pa
namespace Go.Proofs.YtklbbbldalmnbaaGreatDoor.Pa
set_option maxHeartbeats 8000000
open Go.RowKit
open TR (Tr NV NCells nvV nvO NodeC KidsC)
open TK (Mv PatV)
open Br (BE PS givesF fauO fau_cells)
set_option linter.unusedVariables false
set_option maxRecDepth 100000
theorem bars_walk (fo : Bool) (va vb : Value) (a b : List Int) (w : World) (hT : Fo.Tab w) (hpos : 3 < w.heap.size) (ha : PatV w va a) (hb : PatV w vb b) (hla : a.length ≤ 9223372036854775807) (hlb : b.length ≤ 9223372036854775807) : Calls Tryz.prog 4 #[va, vb, .bool fo] w fun e w' => e = .returned (.bool true) ∧ Below w.heap.size w w' := by
 have HP := hide (parseBegun_fn w hT hpos)
 have HXa : Hid (∀ w1, Below w.heap.size w w1 → _) := fun w1 hb => parse_one 1 fo (ha.below hb) (hT.below hb hpos) (Nat.lt_of_lt_of_le hpos hb.size)
 have HXb : Hid (∀ w1, Below w.heap.size w w1 → _) := fun w1 h => parse_one 1 fo (hb.below h) (hT.below h hpos) (Nat.lt_of_lt_of_le hpos h.size)
 have HA := hide ha
 have HB := hide hb
 obtain ⟨ao, ac, hva⟩ := ha.shape
 obtain ⟨bo, bc, hvb⟩ := hb.shape
 obtain ⟨al, hal⟩ : ∃ ll, ll = a.length := ⟨_, rfl⟩
 obtain ⟨bl, hbl⟩ : ∃ ll, ll = b.length := ⟨_, rfl⟩
 have HAL := hide hal
 have HBL := hide hbl
 rw [← hal] at hva hla
 rw [← hbl] at hvb hlb
 rw [hva] at HXa HA ⊢
 rw [hvb] at HXb HB ⊢
 clear ha hb hva hvb hal hbl
 go_enter Tryz.func4, Tryz.ntmps4
 go_wp2_with fail
 refine HP.out.mono ?_
 rintro e w1 ⟨rfl, hb1⟩
 have HX1 := hide (HXa.out w1 hb1)
 have HB1 := hide hb1
 clear hb1 HXa HP
 go_wp2_with fail
 refine HX1.out.mono ?_
 rintro e w2 ⟨n1, gr1, uo, ul, uc, z1, p1, rfl, hn1, hg1, hz1, hp1, hb2⟩
 have HN1 := hide hn1
 have HZ1 := hide hz1
 have HB2 := hide (HB1.out.trans (hb2.mono HB1.out.size))
 obtain ⟨w3, hw3⟩ : ∃ w3, w3 = (w2.alloc (pnO n1 gr1 (.slice uo ul uc))).alloc (fauO z1 p1) := ⟨_, rfl⟩
 have hb3 : Below w2.heap.size w2 w3 := by rw [hw3]; exact ((Below.refl _ w2).alloc (Nat.le_refl _) _).alloc (by simp) _
 have HP3 : Hid (w3.heap[w2.heap.size]? = some (pnO n1 gr1 (.slice uo ul uc))) := by show _ = _; rw [hw3]; exact TK.at_old (TK.at_new _ _)
 have HF3 : Hid (w3.heap[w2.heap.size + 1]? = some (fauO z1 p1)) := by show _ = _; rw [hw3]; exact TK.at_new' _ _ (by simp)
 have HB3 := hide (HB2.out.trans (hb3.mono HB2.out.size))
 have HB23 := hide hb3
 have HX3 := hide (HXb.out w3 HB3.out)
 simp only [pnO, fauO] at hw3
 simp only [pnV]
 clear hn1 hg1 hz1 hp1 hb2 HX1 hb3 HXb
 go_wp2_with fail
 rw [← hw3]
 clear hw3
 refine HX3.out.mono ?_
 rintro e w4 ⟨n2, gr2, xo, xl, xc, z2, p2, rfl, hn2, hg2, hz2, hp2, hb4⟩
 have HN2 := hide hn2
 have HZ2 := hide hz2
 have HB34 := hide hb4
 obtain ⟨w5, hw5⟩ : ∃ w5, w5 = (w4.alloc (pnO n2 gr2 (.slice xo xl xc))).alloc (fauO z2 p2) := ⟨_, rfl⟩
 have hb5 : Below w4.heap.size w4 w5 := by rw [hw5]; exact ((Below.refl _ w4).alloc (Nat.le_refl _) _).alloc (by simp) _
 have hb35 : Below w3.heap.size w3 w5 := hb4.trans (hb5.mono hb4.size)
 have HP5 : Hid (w5.heap[w2.heap.size]? = some (pnO n1 gr1 (.slice uo ul uc))) := by show _ = _; rw [hb35.block _ (TR.lt_of_block HP3.out)]; exact HP3.out
 have HF5 : Hid (w5.heap[w2.heap.size + 1]? = some (fauO z1 p1)) := by show _ = _; rw [hb35.block _ (TR.lt_of_block HF3.out)]; exact HF3.out
 have HQ5 : Hid (w5.heap[w4.heap.size]? = some (pnO n2 gr2 (.slice xo xl xc))) := by show _ = _; rw [hw5]; exact TK.at_old (TK.at_new _ _)
 have HG5 : Hid (w5.heap[w4.heap.size + 1]? = some (fauO z2 p2)) := by show _ = _; rw [hw5]; exact TK.at_new' _ _ (by simp)
 have HB5 := hide (HB3.out.trans (hb35.mono HB3.out.size))
 have HB35 := hide hb35
 have HB45 := hide hb5
 simp only [pnO, fauO] at hw5
 simp only [pnV]
 obtain ⟨f0, f1, -⟩ := fau_cells HF5.out
 obtain ⟨g0, g1, -⟩ := fau_cells HG5.out
 clear hn2 hg2 hz2 hp2 hb4 HX3 hb5 hb35
 have HHa := hide (Br.hasInt_big _ a 40 w5 (HA.out.below HB5.out) (by have := HAL.out; omega))
 have HHb := hide (Br.hasInt_big _ b 40 w5 (HB.out.below HB5.out) (by have := HBL.out; omega))
 have f0x := f0
 have g0x := g0
 rw [hw5] at f0x g0x
 by_cases e1 : z1 = 0
 ·subst e1
  by_cases e2 : z2 = 0
  ·subst e2
   go_wp2_with fail
   rw [← hw5]
   clear hw5 f0x g0x
   refine HHa.out.mono ?_
   rintro e w6 ⟨rfl, rfl⟩
   by_cases ka : (40 : Int) ∈ a
   ·simp only [ka, decide_true]
    clear HHa HHb
    go_wp2
    go_ret
    exact ⟨rfl, HB5.out⟩
   ·simp only [ka, decide_false]
    have HKa := hide ka
    clear HHa ka
    go_wp2_with fail
    refine HHb.out.mono ?_
    rintro e w6 ⟨rfl, rfl⟩
    by_cases kb : (40 : Int) ∈ b
    ·simp only [kb, decide_true]
     clear HHb
     go_wp2
     go_ret
     exact ⟨rfl, HB5.out⟩
    ·simp only [kb, decide_false]
     have HKb := hide kb
     clear HHb kb
     by_cases hlen : 300 ≤ al + bl
     ·have h1 : (300 : Int) ≤ (al : Int) + (bl : Int) := by omega
      have h2 : Hid (∃ p, patM bigB 1 fo a = .ok p) := patZ_ok HZ1.out.symm
      have h3 : Hid (∃ p, patM bigB 1 fo b = .ok p) := patZ_ok HZ2.out.symm
      have hal3 : al ≤ 300 := by
       obtain ⟨p, hp⟩ := h2.out
       have := pat_len hp
       have := HAL.out
       omega
      have hbl3 : bl ≤ 300 := by
       obtain ⟨p, hp⟩ := h3.out
       have := pat_len hp
       have := HBL.out
       omega
      clear hla hlb hlen h2 h3
      go_wp2
      go_ret
      exact ⟨rfl, HB5.out⟩
     ·have h1 : (al : Int) + (bl : Int) < 300 := by omega
      have hal3 : al ≤ 300 := by omega
      have hbl3 : bl ≤ 300 := by omega
      obtain ⟨vo1, vc1, W7, hr1, ho1, hB7⟩ := app_ints (W := w5.alloc (.cells #[] 3)) (B := w5.heap.size) (n := 0) (v := .slice (some ⟨w5.heap.size, 0, none⟩) 0 0) (v2 := .slice ao al ac) (l := []) (m := a) (by simp) (by simpa [i64s] using World.ownsRow_lit (base := w5.heap.size) (e := 3) (size := 1) w5 #[] 0 (Nat.le_refl _) (by unfold maxLen; omega) (by simp)) ((HA.out.below HB5.out).below ((Below.refl _ w5).alloc (Nat.le_refl _) _)) (by have := HAL.out; omega)
      rw [Nat.zero_add, List.nil_append, ← HAL.out] at ho1
      rw [Nat.zero_add, ← HAL.out] at hr1
      have hb57 : Below w5.heap.size w5 W7 := ((Below.refl _ w5).alloc (Nat.le_refl _) _).trans hB7
      obtain ⟨vo2, vc2, W9, hr2, ho2, hB9⟩ := app_ints (W := W7.alloc (.cells #[.int .i64 124] 3)) (B := w5.heap.size) (v2 := .slice (some ⟨W7.heap.size, 0, none⟩) 1 1) (m := [124]) (by have := hb57.size; simp; omega) (ho1.alloc _) (.inr ⟨_, 1, rfl, by simp, fun j hj => by
       have : j = 0 := by simpa using hj
       subst this
       rw [show (⟨W7.heap.size, 0, none⟩ : Addr).add 0 = ⟨W7.heap.size, 0, none⟩ from rfl, World.cell?_alloc_at _ _ _ _ (by simp)]
       rfl⟩) (by simp; omega)
      have hb59 : Below w5.heap.size w5 W9 := (hb57.alloc hb57.size _).trans hB9
      rw [show al + ([124] : List Int).length = al + 1 from rfl] at hr2 ho2
      obtain ⟨vo3, vc3, W10, hr3, ho3, hB10⟩ := app_ints (W := W9) (B := w5.heap.size) (v2 := .slice bo bl bc) (m := b) hb59.size ho2 ((HB.out.below HB5.out).below hb59) (by have := HBL.out; omega)
      have hb510 : Below w5.heap.size w5 W10 := hb59.trans hB10
      rw [← HBL.out] at hr3 ho3
      have hpl : al + 1 + bl = (a ++ [124] ++ b).length := by have := HAL.out; have := HBL.out; simp only [List.length_append, List.length_singleton]; omega
      have HB10 := hide (HB5.out.trans (hb510.mono HB5.out.size))
      have HX := hide (parse_one 1 fo (own_pat ho3 hpl) (hT.below HB10.out hpos) (Nat.lt_of_lt_of_le hpos HB10.out.size))
      have HR1 := hide hr1
      have HR2 := hide hr2
      have HR3 := hide hr3
      have HB510 := hide hb510
      clear hr1 hr2 hr3 ho1 ho2 ho3 hB7 hB9 hB10 hb57 hb59 hb510 hpl hlen hla hlb f0 f1 g0 g1
      go_wp2_with (at_builtin; first | (refine wpList_run rfl _ _ _ rfl _ _ _ _ rfl rfl HR1.out ?_; clear HR1) | (refine wpList_run rfl _ _ _ rfl _ _ _ _ rfl rfl HR2.out ?_; clear HR2) | (refine wpList_run rfl _ _ _ rfl _ _ _ _ rfl rfl HR3.out ?_; clear HR3))
      refine HX.out.mono ?_
      rintro e w11 ⟨n3, gr3, yo, yl, yc, z3, p3, rfl, hn3, hg3, hz3, hp3, hb11⟩
      have HN3 := hide hn3
      have HZ3 := hide hz3
      have hl3 : a.length + b.length < 300 := by have := HAL.out; have := HBL.out; omega
      obtain ⟨t1, t2, et1, et2, et3, ez3, kt1, kt2, hsm⟩ := both_trees HZ1.out HZ2.out HKa.out HKb.out hl3
      obtain rfl : z3 = 0 := hz3.trans ez3
      obtain ⟨w12, hw12⟩ : ∃ w12, w12 = (w11.alloc (pnO n3 gr3 (.slice yo yl yc))).alloc (fauO 0 p3) := ⟨_, rfl⟩
      have hb12 : Below w11.heap.size w11 w12 := by rw [hw12]; exact ((Below.refl _ w11).alloc (Nat.le_refl _) _).alloc (by simp) _
      have HBo : Hid (w12.heap[w11.heap.size]? = some (pnO n3 gr3 (.slice yo yl yc))) := by show _ = _; rw [hw12]; exact TK.at_old (TK.at_new _ _)
      have HHh : Hid (w12.heap[w11.heap.size + 1]? = some (fauO 0 p3)) := by show _ = _; rw [hw12]; exact TK.at_new' _ _ (by simp)
      have hb1012 : Below W10.heap.size W10 w12 := hb11.trans (hb12.mono hb11.size)
      have hb512 : Below w5.heap.size w5 w12 := HB510.out.trans (hb1012.mono HB510.out.size)
      have HP12 : Hid (w12.heap[w2.heap.size]? = some (pnO n1 gr1 (.slice uo ul uc))) := by show _ = _; rw [hb512.block _ (TR.lt_of_block HP5.out)]; exact HP5.out
      have HQ12 : Hid (w12.heap[w4.heap.size]? = some (pnO n2 gr2 (.slice xo xl xc))) := by show _ = _; rw [hb512.block _ (TR.lt_of_block HQ5.out)]; exact HQ5.out
      have HW12 := hide (HB5.out.trans (hb512.mono HB5.out.size))
      have hb412 : Below w4.heap.size w4 w12 := HB45.out.trans (hb512.mono HB45.out.size)
      have hb212 : Below w2.heap.size w2 w12 := (HB23.out.trans (HB34.out.mono HB23.out.size)).trans (hb412.mono (Nat.le_trans HB23.out.size HB34.out.size))
      have hc1 := (HN1.out w12 (fun k _ h => hb212.block k h)).1
      have hc2 := (HN2.out w12 (fun k _ h => hb412.block k h)).1
      have hc3 := (HN3.out w12 (fun k _ h => hb12.block k h)).1
      rw [et1] at hc1
      rw [et2] at hc2
      rw [et3] at hc3
      obtain ⟨X1, hR1, hK1⟩ := split_node hc1
      obtain ⟨X2, hR2, hK2⟩ := split_node hc2
      have HL1 : Hid (X1.length ≤ 600) := by show _ ≤ _; rw [hR1.len]; exact flatE_len kt1
      have HL2 : Hid (X2.length ≤ 600) := by show _ ≤ _; rw [hR2.len]; exact flatE_len kt2
      have HRR := hide (hR1.app hR2)
      have HC3 := hide hc3
      have HSm := hide hsm
      have HB12 := hide (Below.refl w12.heap.size w12)
      simp only [pnO, fauO] at hw12
      simp only [pnV]
      clear hn3 hg3 hz3 hp3 hb11 HX et1 et2 et3 ez3 kt1 kt2 hsm hl3 hb12 hb1012 hb512 hb412 hb212 hc1 hc2 hc3 hR1 hR2 HN1 HN2 HN3 HZ1 HZ2 HZ3 HP3 HF3 HP5 HQ5 HF5 HG5 HKa HKb
      go_wp2_with fail
      rw [← hw12]
      clear hw12
      go_loopw [13, 14] (fun k i wr => ∃ (j n : Nat) (vo : Option Addr) (vc : Nat), j ≤ 2 ∧ i = .int .i64 j ∧ k = .slice vo n vc ∧ n = (upX X1 X2 j).length ∧ wr.ownsRow w12.heap.size 25 8 (.slice vo n vc) n (rowN (upX X1 X2 j)) ∧ Below w12.heap.size w12 wr) (fun _ i _ => 2 - (intOf i).toNat)
      case atStart => exact ⟨0, 0, none, 0, by decide, rfl, rfl, rfl, World.ownsRow_nil _ _ _ _, HB12.out⟩
      case round =>
       obtain ⟨j, n, vo, vc, hj, rfl, rfl, hn, ho, hb⟩ := hrel
       have HO := hide ho
       have HBr := hide hb
       have HNl := hide hn
       have HLn : Hid (n ≤ 1200) := by
        show n ≤ 1200
        rw [hn]
        have := HL1.out
        have := HL2.out
        unfold upX
        split
        ·simp
        ·omega
        ·rw [List.length_append]; omega
       obtain ⟨d0, d1, d2, d3, d4, d5, d6, d7, -, -⟩ := pn_cells (by rw [hb.block _ (TR.lt_of_block HP12.out)]; exact HP12.out : wr.heap[w2.heap.size]? = _)
       obtain ⟨e0, e1, e2, e3, e4, e5, e6, e7, -, -⟩ := pn_cells (by rw [hb.block _ (TR.lt_of_block HQ12.out)]; exact HQ12.out : wr.heap[w4.heap.size]? = _)
       clear ho hb hn
       rcases (by omega : j = 0 ∨ j = 1 ∨ j = 2) with rfl | rfl | rfl
       ·rw [show ((0 : Nat) : Int) = 0 from rfl]
        rcases hK1 with ⟨k1, hKI1⟩ | ⟨k1, hX1⟩
        ·have HKI1 := hide hKI1
         clear hKI1
         obtain ⟨wA, hwA⟩ : ∃ wA, wA = (wr.alloc (.cells #[.int .i64 n1.kind, .slice n1.sa n1.sl n1.sc, .slice n1.ka n1.kl n1.kc, .int .i64 n1.num, .int .i64 n1.least, .int .i64 n1.most, .int .i64 n1.way, .bool n1.fold, .int .i64 n2.kind, .slice n2.sa n2.sl n2.sc, .slice n2.ka n2.kl n2.kc, .int .i64 n2.num, .int .i64 n2.least, .int .i64 n2.most, .int .i64 n2.way, .bool n2.fold] 25)).alloc (nvO n1) := ⟨_, rfl⟩
         have hbA : Below wr.heap.size wr wA := by rw [hwA]; exact ((Below.refl _ wr).alloc (Nat.le_refl _) _).alloc (by simp) _
         have hNA : wA.heap[wr.heap.size + 1]? = some (nvO n1) := by rw [hwA]; exact TK.at_new' _ _ (by simp)
         obtain ⟨y0, y1, y2, y3, y4, y5, y6, y7⟩ := TR.nv_cells hNA
         simp only [nvO] at hwA
         have hm := HKI1.out.1
         obtain ⟨vo', vc', wB, hrB, hoB, hbB⟩ := app_nodes (W := wA) (B := w12.heap.size) (ys := X1) (c := n1.kc) (Nat.le_trans HBr.out.size hbA.size) (own_below HO.out hbA) HKI1.out.1 (((HKI1.out.below HBr.out).below hbA).2) (by have := HL1.out; have := HLn.out; omega)
         have hbr : Below w12.heap.size w12 wB := (HBr.out.trans (hbA.mono HBr.out.size)).trans hbB
         have HRB := hide hrB
         have HOB := hide hoB
         have HBB := hide hbr
         have HNn : Hid (n + n1.kl = (upX X1 X2 1).length) := by show _ = _; rw [HNl.out, hm]; simp [upX]
         have q10 : (n1.kind == 10) = true := by simpa using k1
         clear hrB hoB hbB hbr hNA hbA hm HBr k1
         go_upto_region 13 with fail
         rw [← hwA]
         clear hwA
         go_wp2_with (at_builtin; (refine wpList_run rfl _ _ _ rfl _ _ _ _ rfl rfl HRB.out ?_; clear HRB))
         go_roundw
         case rel => exact ⟨1, _, vo', vc', by decide, by go_num, rfl, HNn.out, by simpa [upX] using HOB.out, HBB.out⟩
         case measure => simp [intOf]
        ·have HX1 := hide hX1
         clear hX1
         obtain ⟨wA, hwA⟩ : ∃ wA, wA = (wr.alloc (.cells #[.int .i64 n1.kind, .slice n1.sa n1.sl n1.sc, .slice n1.ka n1.kl n1.kc, .int .i64 n1.num, .int .i64 n1.least, .int .i64 n1.most, .int .i64 n1.way, .bool n1.fold, .int .i64 n2.kind, .slice n2.sa n2.sl n2.sc, .slice n2.ka n2.kl n2.kc, .int .i64 n2.num, .int .i64 n2.least, .int .i64 n2.most, .int .i64 n2.way, .bool n2.fold] 25)).alloc (nvO n1) := ⟨_, rfl⟩
         have hbA : Below wr.heap.size wr wA := by rw [hwA]; exact ((Below.refl _ wr).alloc (Nat.le_refl _) _).alloc (by simp) _
         have hNA : wA.heap[wr.heap.size + 1]? = some (nvO n1) := by rw [hwA]; exact TK.at_new' _ _ (by simp)
         obtain ⟨y0, y1, y2, y3, y4, y5, y6, y7⟩ := TR.nv_cells hNA
         simp only [nvO] at hwA
         obtain ⟨vo', vc', wB, hrB, hoB, hbB⟩ := app_nodes (W := wA.alloc (nvO n1)) (B := w12.heap.size) (ys := [n1]) (c := 1) (by have := Nat.le_trans HBr.out.size hbA.size; simp; omega) ((own_below HO.out hbA).alloc _) (m := 1) rfl (.inr ⟨_, rfl, one_in wA n1⟩) (by have := HLn.out; omega)
         have hbr : Below w12.heap.size w12 wB := ((HBr.out.trans (hbA.mono HBr.out.size)).alloc (Nat.le_trans HBr.out.size hbA.size) _).trans hbB
         have HRB := hide hrB
         have HOB := hide hoB
         have HBB := hide hbr
         have HNn : Hid (n + 1 = (upX X1 X2 1).length) := by show _ = _; rw [HNl.out, HX1.out]; simp [upX]
         simp only [nvO] at HRB
         have q10 : (n1.kind == 10) = false := by simpa using k1
         clear hrB hoB hbB hbr hNA hbA HBr k1
         go_upto_region 13 with fail
         rw [← hwA]
         clear hwA
         go_wp2_with (at_builtin; (refine wpList_run rfl _ _ _ rfl _ _ _ _ rfl rfl HRB.out ?_; clear HRB))
         go_roundw
         case rel => exact ⟨1, _, vo', vc', by decide, by go_num, rfl, HNn.out, by have h := HOB.out; rw [← HX1.out] at h; simpa [upX] using h, HBB.out⟩
         case measure => simp [intOf]
       ·rw [show ((1 : Nat) : Int) = 1 from rfl]
        rcases hK2 with ⟨k2, hKI2⟩ | ⟨k2, hX2⟩
        ·have HKI2 := hide hKI2
         clear hKI2
         obtain ⟨wA, hwA⟩ : ∃ wA, wA = (wr.alloc (.cells #[.int .i64 n1.kind, .slice n1.sa n1.sl n1.sc, .slice n1.ka n1.kl n1.kc, .int .i64 n1.num, .int .i64 n1.least, .int .i64 n1.most, .int .i64 n1.way, .bool n1.fold, .int .i64 n2.kind, .slice n2.sa n2.sl n2.sc, .slice n2.ka n2.kl n2.kc, .int .i64 n2.num, .int .i64 n2.least, .int .i64 n2.most, .int .i64 n2.way, .bool n2.fold] 25)).alloc (nvO n2) := ⟨_, rfl⟩
         have hbA : Below wr.heap.size wr wA := by rw [hwA]; exact ((Below.refl _ wr).alloc (Nat.le_refl _) _).alloc (by simp) _
         have hNA : wA.heap[wr.heap.size + 1]? = some (nvO n2) := by rw [hwA]; exact TK.at_new' _ _ (by simp)
         obtain ⟨y0, y1, y2, y3, y4, y5, y6, y7⟩ := TR.nv_cells hNA
         simp only [nvO] at hwA
         have hm := HKI2.out.1
         obtain ⟨vo', vc', wB, hrB, hoB, hbB⟩ := app_nodes (W := wA) (B := w12.heap.size) (ys := X2) (c := n2.kc) (Nat.le_trans HBr.out.size hbA.size) (own_below HO.out hbA) HKI2.out.1 (((HKI2.out.below HBr.out).below hbA).2) (by have := HL2.out; have := HLn.out; omega)
         have hbr : Below w12.heap.size w12 wB := (HBr.out.trans (hbA.mono HBr.out.size)).trans hbB
         have HRB := hide hrB
         have HOB := hide hoB
         have HBB := hide hbr
         have HNn : Hid (n + n2.kl = (upX X1 X2 2).length) := by show _ = _; rw [HNl.out, hm]; simp [upX]
         have q10 : (n2.kind == 10) = true := by simpa using k2
         clear hrB hoB hbB hbr hNA hbA hm HBr k2
         go_upto_region 13 with fail
         rw [← hwA]
         clear hwA
         go_wp2_with (at_builtin; (refine wpList_run rfl _ _ _ rfl _ _ _ _ rfl rfl HRB.out ?_; clear HRB))
         go_roundw
         case rel => exact ⟨2, _, vo', vc', by decide, by go_num, rfl, HNn.out, by simpa [upX] using HOB.out, HBB.out⟩
         case measure => simp [intOf]
        ·have HX2 := hide hX2
         clear hX2
         obtain ⟨wA, hwA⟩ : ∃ wA, wA = (wr.alloc (.cells #[.int .i64 n1.kind, .slice n1.sa n1.sl n1.sc, .slice n1.ka n1.kl n1.kc, .int .i64 n1.num, .int .i64 n1.least, .int .i64 n1.most, .int .i64 n1.way, .bool n1.fold, .int .i64 n2.kind, .slice n2.sa n2.sl n2.sc, .slice n2.ka n2.kl n2.kc, .int .i64 n2.num, .int .i64 n2.least, .int .i64 n2.most, .int .i64 n2.way, .bool n2.fold] 25)).alloc (nvO n2) := ⟨_, rfl⟩
         have hbA : Below wr.heap.size wr wA := by rw [hwA]; exact ((Below.refl _ wr).alloc (Nat.le_refl _) _).alloc (by simp) _
         have hNA : wA.heap[wr.heap.size + 1]? = some (nvO n2) := by rw [hwA]; exact TK.at_new' _ _ (by simp)
         obtain ⟨y0, y1, y2, y3, y4, y5, y6, y7⟩ := TR.nv_cells hNA
         simp only [nvO] at hwA
         obtain ⟨vo', vc', wB, hrB, hoB, hbB⟩ := app_nodes (W := wA.alloc (nvO n2)) (B := w12.heap.size) (ys := [n2]) (c := 1) (by have := Nat.le_trans HBr.out.size hbA.size; simp; omega) ((own_below HO.out hbA).alloc _) (m := 1) rfl (.inr ⟨_, rfl, one_in wA n2⟩) (by have := HLn.out; omega)
         have hbr : Below w12.heap.size w12 wB := ((HBr.out.trans (hbA.mono HBr.out.size)).alloc (Nat.le_trans HBr.out.size hbA.size) _).trans hbB
         have HRB := hide hrB
         have HOB := hide hoB
         have HBB := hide hbr
         have HNn : Hid (n + 1 = (upX X1 X2 2).length) := by show _ = _; rw [HNl.out, HX2.out]; simp [upX]
         simp only [nvO] at HRB
         have q10 : (n2.kind == 10) = false := by simpa using k2
         clear hrB hoB hbB hbr hNA hbA HBr k2
         go_upto_region 13 with fail
         rw [← hwA]
         clear hwA
         go_wp2_with (at_builtin; (refine wpList_run rfl _ _ _ rfl _ _ _ _ rfl rfl HRB.out ?_; clear HRB))
         go_roundw
         case rel => exact ⟨2, _, vo', vc', by decide, by go_num, rfl, HNn.out, by have h := HOB.out; rw [← HX2.out] at h; simpa [upX] using h, HBB.out⟩
         case measure => simp [intOf]
       ·rw [show ((2 : Nat) : Int) = 2 from rfl]
        obtain ⟨o0, o1, o2, o3, o4, o5, o6, o7, -, -⟩ := pn_cells (by rw [HBr.out.block _ (TR.lt_of_block HBo.out)]; exact HBo.out : wr.heap[w11.heap.size]? = _)
        obtain ⟨c0, c1, -⟩ := fau_cells (by rw [HBr.out.block _ (TR.lt_of_block HHh.out)]; exact HHh.out : wr.heap[w11.heap.size + 1]? = _)
        have hnode := row_node HO.out (HRR.out.keep HBr.out) HNl.out
        have HS := hide (sameNode_eq _ _ n3 _ wr (Nat.le_refl _) HSm.out (HC3.out.keep HBr.out) hnode)
        simp only [nvV] at HS
        clear hnode d0 d1 d2 d3 d4 d5 d6 d7 e0 e1 e2 e3 e4 e5 e6 e7
        go_wp2_with fail
        refine HS.out.mono ?_
        rintro e w13 ⟨rfl, hb13⟩
        have HB13 := hide ((HW12.out.trans (HBr.out.mono HW12.out.size)).trans (hb13.mono (Nat.le_trans HW12.out.size HBr.out.size)))
        clear hb13 HS
        go_wp2
        go_ret
        exact ⟨rfl, HB13.out⟩
  ·have q1 : (z2 == 0) = false := by simpa using e2
   have q2 : (z2 != 0) = true := by simpa using e2
   have HW5 : Hid (Below w.heap.size w ((w4.alloc (pnO n2 gr2 (.slice xo xl xc))).alloc (fauO z2 p2))) := by show Below _ _ _; simp only [pnO, fauO]; rw [← hw5]; exact HB5.out
   clear HHa HHb hw5
   go_wp2
   go_ret
   exact ⟨rfl, HW5.out⟩
 ·have q1 : (z1 == 0) = false := by simpa using e1
  have q2 : (z1 != 0) = true := by simpa using e1
  have HW5 : Hid (Below w.heap.size w ((w4.alloc (pnO n2 gr2 (.slice xo xl xc))).alloc (fauO z2 p2))) := by show Below _ _ _; simp only [pnO, fauO]; rw [← hw5]; exact HB5.out
  clear HHa HHb hw5
  go_wp2
  go_ret
  exact ⟨rfl, HW5.out⟩
end Go.Proofs.YtklbbbldalmnbaaGreatDoor.Pa
