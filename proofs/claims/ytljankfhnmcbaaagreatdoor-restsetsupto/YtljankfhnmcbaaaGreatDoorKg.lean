/- Roads: the shapes in memory, in general. -/
import Derived.Test.YtljankfhnmcbaaaGreatDoorPSr7
import Derived.Test.YtljankfhnmcbaaaGreatDoorKf
import Derived.Test.YtljankfhnmcbaaaGreatDoorKj
import Derived.Test.YtljankfhnmcbaaaGreatDoorKd
import Derived.Test.YtljankfhnmcbaaaGreatDoorKl
namespace Go.Proofs.YtljankfhnmcbaaaGreatDoor.SP
open Go.RowKit Go.PlainAid
set_option linter.unusedVariables false

def shsV (Ss : List ShP) (gs : List Nat) : List Value := (Ss.zip gs).flatMap fun x => [.int .i64 x.1.first, .int .i64 x.1.last, .int .i64 x.1.less, .slice (some ⟨x.2, 0, none⟩) x.1.ps.length x.1.ps.length]
/-- shapes in memory. -/
structure ShM (w : World) (g : Nat) (gs : List Nat) (Ss : List ShP) : Prop where
  len : gs.length = Ss.length
  g : w.heap[g]? = some (.cells (shsV Ss gs).toArray 55 (0, 0))
  p : ∀ i (h : i < Ss.length) (h' : i < gs.length), w.heap[gs[i]]? = some (ptsO Ss[i].ps)
theorem shsV_get : ∀ (Ss : List ShP) (gs : List Nat) (i : Nat) (h : i < Ss.length) (h' : i < gs.length), (shsV Ss gs)[i * 4]? = some (.int .i64 Ss[i].first) ∧ (shsV Ss gs)[i * 4 + 1]? = some (.int .i64 Ss[i].last) ∧ (shsV Ss gs)[i * 4 + 2]? = some (.int .i64 Ss[i].less) ∧ (shsV Ss gs)[i * 4 + 3]? = some (.slice (some ⟨gs[i], 0, none⟩) Ss[i].ps.length Ss[i].ps.length)
  | [], _, i, h, _ => absurd h (by simp)
  | _ :: _, [], i, _, h => absurd h (by simp)
  | S :: Ss, g :: gs, 0, _, _ => by simp [shsV]
  | S :: Ss, g :: gs, i + 1, h, h' => by
    have := shsV_get Ss gs i (by simpa using h) (by simpa using h')
    have e : shsV (S :: Ss) (g :: gs) = [.int .i64 S.first, .int .i64 S.last, .int .i64 S.less, .slice (some ⟨g, 0, none⟩) S.ps.length S.ps.length] ++ shsV Ss gs := by simp [shsV]
    rw [e, show (i + 1) * 4 = i * 4 + 4 by omega]
    simpa using this
theorem ShM.cells {w : World} {g : Nat} {gs : List Nat} {Ss : List ShP} (h : ShM w g gs Ss) (x : Addr) (hx : x = ⟨g, 0, none⟩) (i : Nat) (hi : i < Ss.length) (hi' : i < gs.length) : w.cell? (x.add (i * 4)) = some (.int .i64 Ss[i].first) ∧ w.cell? ⟨(x.add (i * 4)).block, (x.add (i * 4)).off + 1, none⟩ = some (.int .i64 Ss[i].last) ∧ w.cell? ⟨(x.add (i * 4)).block, (x.add (i * 4)).off + 2, none⟩ = some (.int .i64 Ss[i].less) ∧ w.cell? ⟨(x.add (i * 4)).block, (x.add (i * 4)).off + 3, none⟩ = some (.slice (some ⟨gs[i], 0, none⟩) Ss[i].ps.length Ss[i].ps.length) := by
  subst hx
  have hadd : (⟨g, 0, none⟩ : Addr).add (i * 4) = ⟨g, i * 4, none⟩ := by unfold Addr.add; split <;> simp_all
  rw [hadd]
  obtain ⟨h1, h2, h3, h4⟩ := shsV_get Ss gs i hi hi'
  refine ⟨?_, ?_, ?_, ?_⟩
  · rw [cells_at h.g]; simpa using h1
  · rw [cells_at h.g]; simpa using h2
  · rw [cells_at h.g]; simpa using h3
  · rw [cells_at h.g]; simpa using h4
theorem ShM.keep {w w' : World} {g : Nat} {gs : List Nat} {Ss : List ShP} (h : ShM w g gs Ss) (hb : Below w.heap.size w w') : ShM w' g gs Ss := ⟨h.len, rdO_keep h.g hb, fun i hi hi' => rdO_keep (h.p i hi hi') hb⟩
theorem ShM.kr {w w' : World} {b g : Nat} {gs : List Nat} {Ss : List ShP} (h : ShM w g gs Ss) (hne : g < b ∧ ∀ k ∈ gs, k < b) (hk : Kr b w w') : ShM w' g gs Ss :=
  ⟨h.len, hk _ _ _ _ (by omega) (by decide) h.g, fun i hi hi' => hk _ _ _ _ (by have := hne.2 _ (List.getElem_mem hi'); omega) (by decide) (h.p i hi hi')⟩
def ShF (enc : Int) (w : World) (e : Ending) (w' : World) : Prop := ∃ g gs, e = .returned (.tuple #[.slice (some ⟨g, 0, none⟩) (shapesP enc).length (shapesP enc).length, .bool true]) ∧ ShM w' g gs (shapesP enc) ∧ Below w.heap.size w w'
theorem at_k {W : World} {o : Obj} {k : Nat} (h : W.heap.size = k) : (W.alloc o).heap[k]? = some o := by rw [← h]; exact at_newS _ _
set_option maxRecDepth 100000 in
set_option maxHeartbeats 4000000 in
theorem shapes_1 (w : World) : Calls Tryz.prog 31 #[.int .i64 1] w fun e w' => ShF 1 w e w' := by
  go_enter Tryz.func31, Tryz.ntmps31
  go_wp2
  go_ret2
  refine ⟨w.heap.size + 4, [w.heap.size + 1, w.heap.size + 2, w.heap.size, w.heap.size, w.heap.size + 3], rfl, ⟨rfl, ?_, fun i hi hi' => ?_⟩, ?_⟩
  · exact at_k (by simp)
  · simp [shapesP] at hi
    rcases (by omega : i = 0 ∨ i = 1 ∨ i = 2 ∨ i = 3 ∨ i = 4) with rfl | rfl | rfl | rfl | rfl
    · exact keepA (keepA (keepA (at_k (by simp))))
    · exact keepA (keepA (at_k (by simp)))
    · exact keepA (keepA (keepA (keepA (at_k (by simp)))))
    · exact keepA (keepA (keepA (keepA (at_k (by simp)))))
    · exact keepA (at_k (by simp))
  · repeat' first | exact Below.refl _ _ | refine Below.alloc ?_ (by simp <;> omega) _
set_option maxRecDepth 100000 in
set_option maxHeartbeats 4000000 in
theorem shapes_2 (w : World) : Calls Tryz.prog 31 #[.int .i64 2] w fun e w' => ShF 2 w e w' := by
  go_enter Tryz.func31, Tryz.ntmps31
  go_wp2
  go_ret2
  refine ⟨w.heap.size + 2, [w.heap.size, w.heap.size, w.heap.size + 1], rfl, ⟨rfl, ?_, fun i hi hi' => ?_⟩, ?_⟩
  · exact at_k (by simp)
  · simp [shapesP, paired] at hi
    rcases (by omega : i = 0 ∨ i = 1 ∨ i = 2) with rfl | rfl | rfl
    · exact keepA (keepA (at_k (by simp)))
    · exact keepA (keepA (at_k (by simp)))
    · exact keepA (at_k (by simp))
  · repeat' first | exact Below.refl _ _ | refine Below.alloc ?_ (by simp <;> omega) _
set_option maxRecDepth 100000 in
set_option maxHeartbeats 4000000 in
theorem shapes_3 (w : World) : Calls Tryz.prog 31 #[.int .i64 3] w fun e w' => ShF 3 w e w' := by
  go_enter Tryz.func31, Tryz.ntmps31
  go_wp2
  go_ret2
  refine ⟨w.heap.size + 2, [w.heap.size, w.heap.size, w.heap.size + 1], rfl, ⟨rfl, ?_, fun i hi hi' => ?_⟩, ?_⟩
  · exact at_k (by simp)
  · simp [shapesP, paired] at hi
    rcases (by omega : i = 0 ∨ i = 1 ∨ i = 2) with rfl | rfl | rfl
    · exact keepA (keepA (at_k (by simp)))
    · exact keepA (keepA (at_k (by simp)))
    · exact keepA (at_k (by simp))
  · repeat' first | exact Below.refl _ _ | refine Below.alloc ?_ (by simp <;> omega) _
set_option maxRecDepth 100000 in
set_option maxHeartbeats 4000000 in
theorem shapes_4 (w : World) : Calls Tryz.prog 31 #[.int .i64 4] w fun e w' => ShF 4 w e w' := by
  go_enter Tryz.func31, Tryz.ntmps31
  go_wp2
  go_ret2
  refine ⟨w.heap.size + 1, [w.heap.size], rfl, ⟨rfl, ?_, fun i hi hi' => ?_⟩, ?_⟩
  · exact at_k (by simp)
  · simp [shapesP] at hi
    subst hi
    exact keepA (at_k (by simp))
  · repeat' first | exact Below.refl _ _ | refine Below.alloc ?_ (by simp <;> omega) _
theorem shapes_g (enc : Int) (he : isEnc enc) (w : World) : Calls Tryz.prog 31 #[.int .i64 enc] w fun e w' => ShF enc w e w' := by
  rcases he with rfl | rfl | rfl | rfl
  · exact shapes_1 w
  · exact shapes_2 w
  · exact shapes_3 w
  · exact shapes_4 w

end Go.Proofs.YtljankfhnmcbaaaGreatDoor.SP

namespace Go.Proofs.YtljankfhnmcbaaaGreatDoor.SP
open Go.RowKit Go.PlainAid
set_option linter.unusedVariables false

/-- the roads so far. -/
def RdG (w w3 : World) (bR : Nat) (LL : List RL) (wr : World) : Prop := (∃ v us, RBx w.heap.size wr bR LL v us) ∧ Below w.heap.size w wr ∧ Kr bR w3 wr
theorem RdG.put {w w3 wr w' : World} {bR : Nat} {LL : List RL} (h : RdG w w3 bR LL wr) (hb : Below wr.heap.size wr w') : RdG w w3 bR LL w' := by
  obtain ⟨⟨v, us, h1⟩, h2, h3⟩ := h
  exact ⟨⟨v, us, h1.keep hb⟩, h2.trans (hb.mono h2.size), h3.trans (Kr.below hb)⟩
theorem RdG.eb {w w3 wr w' : World} {bR : Nat} {S : ShP} {LL : List RL} {r : Int × Int} {e : Ending} (h : RdG w w3 bR LL wr) (hE : EbE w.heap.size bR S LL r wr e w') : ∃ M, EB S r M ∧ RdG w w3 bR (LL ++ M) w' := by
  obtain ⟨_, M, h1, h2, h3, h4⟩ := hE
  exact ⟨M, h1, h2, h.2.1.trans h3, h.2.2.trans h4⟩
theorem EB.len {S : ShP} {r : Int × Int} {M : List RL} (h : EB S r M) (hr : 0 ≤ r.1 ∧ r.2 ≤ 1114111) : M.length ≤ 1114112 := by
  rcases h with ⟨hle, L, hL, rfl⟩ | ⟨hle, rfl⟩
  · have := hL.len
    rw [List.length_map]
    omega
  · simp
/-- what Roads answers. -/
def RoadsG (enc : Int) (A : RL) (w : World) (e : Ending) (w' : World) : Prop :=
  Below w.heap.size w w' ∧ ((¬ isEnc enc ∧ e = .returned (.tuple #[.slice none 0 0, .int .i64 7])) ∨ (isEnc enc ∧ checkE A ≠ 0 ∧ e = .returned (.tuple #[.slice none 0 0, .int .i64 (checkE A)])) ∨
    (isEnc enc ∧ checkE A = 0 ∧ ∃ ao c LL MM us, e = .returned (.tuple #[.slice ao MM.length c, .int .i64 0]) ∧ RAll A (shapesP enc) LL ∧ MM.Perm LL ∧ Rise MM ∧ RowR w.heap.size w' (.slice ao MM.length c) MM us))
theorem RowR.shape {B : Nat} {w : World} {v : Value} {LL : List RL} {us : List Value} (h : RowR B w v LL us) : ∃ ao c, v = .slice ao LL.length c := by
  rcases h.own.2 with ⟨rfl, hz⟩ | ⟨g, cap, cur, rfl, _⟩
  · exact ⟨none, 0, by rw [hz]⟩
  · exact ⟨_, _, rfl⟩
theorem RAll.len_ok {enc : Int} (he : isEnc enc) {A : RL} {LL : List RL} (h : RAll A (shapesP enc) LL) : ∀ L ∈ LL, okRoad L := h.ok (good_all he)
set_option maxRecDepth 100000 in
set_option maxHeartbeats 40000000 in
theorem roads_main (enc : Int) (he : isEnc enc) (ao : Option Addr) (nA cA : Nat) (A : RL) (hn : nA = A.length) (w : World) (hA : 0 < nA → ∃ x, ao = some x ∧ Cells2 w x A) (hck : ∀ W, Below w.heap.size w W → Calls Tryz.prog 32 #[.slice ao nA cA] W fun e w' => e = .returned (.int .i64 0) ∧ Below W.heap.size W w') (hC : A.length ≤ 400 ∧ Canon A) :
    Calls Tryz.prog 10 #[.int .i64 enc, .slice ao nA cA] w fun e w' => Below w.heap.size w w' ∧ ∃ ao c LL MM us, e = .returned (.tuple #[.slice ao MM.length c, .int .i64 0]) ∧ RAll A (shapesP enc) LL ∧ MM.Perm LL ∧ Rise MM ∧ RowR w.heap.size w' (.slice ao MM.length c) MM us := by
  have hmf : ∀ (fn : Fn) (first cap : Array Value) (w : World), (Instr.makeFunc fn first cap).run Tryz.prog w = .ok (.func fn first cap) w := fun _ _ _ _ => rfl
  have HSh := hide (shapes_g enc he w)
  have HCk := hide hck
  have HA : Hid (∀ W, Below w.heap.size w W → ∀ j (h : j < A.length), ∃ x, ao = some x ∧ W.cell? (x.add (j * 2)) = some (.int .i64 A[j].1) ∧ W.cell? ⟨(x.add (j * 2)).block, (x.add (j * 2)).off + 1, none⟩ = some (.int .i64 A[j].2)) := fun W hW j hj => by
    obtain ⟨x, hx, hc⟩ := hA (by omega)
    exact ⟨x, hx, hc.below hW j hj⟩
  have HAr : Hid (∀ j (h : j < A.length), 0 ≤ A[j].1 ∧ A[j].1 ≤ A[j].2 ∧ A[j].2 ≤ 1114111) := fun j hj => hC.2.1 _ (List.getElem_mem hj)
  have hn4 : nA ≤ 400 := by omega
  have HN := hide hn
  have HGd : Hid (∀ i (h : i < (shapesP enc).length), (∀ p ∈ (shapesP enc)[i].ps, okPt p) ∧ (1 ≤ (shapesP enc)[i].ps.length ∧ (shapesP enc)[i].ps.length ≤ 4) ∧ 0 ≤ (shapesP enc)[i].first - (shapesP enc)[i].less ∧ (shapesP enc)[i].last - (shapesP enc)[i].less < 2097152 ∧ (0 ≤ (shapesP enc)[i].first ∧ (shapesP enc)[i].last ≤ 1114111 ∧ 0 ≤ (shapesP enc)[i].less ∧ (shapesP enc)[i].less ≤ 65536)) := fun i hi => by
    obtain ⟨h1, h2, h3, h4, h5, h6, h7⟩ := okPts he _ (List.getElem_mem hi)
    exact ⟨h1, (good_all he _ (List.getElem_mem hi)).len, h2, h3, h4, h5, h6, h7⟩
  have hnS : (shapesP enc).length ≤ 5 := by rcases he with rfl | rfl | rfl | rfl <;> simp [shapesP, paired]
  have HOk : Hid (∀ LL : List RL, RAll A (shapesP enc) LL → ∀ L ∈ LL, okRoad L) := fun LL h => h.len_ok he
  obtain ⟨Ss, hSs⟩ : ∃ Ss, Ss = shapesP enc := ⟨_, rfl⟩
  simp only [ShF] at HSh
  rw [← hSs] at HSh HGd HOk hnS
  rw [← hSs]
  obtain ⟨nS, hnSd⟩ : ∃ nS, nS = Ss.length := ⟨_, rfl⟩
  have HNS := hide hnSd
  rw [← hnSd] at HSh hnS
  clear hA hck hC hn hSs hnSd he
  go_enter Tryz.func10, Tryz.ntmps10
  go_wp2_with fail
  refine HSh.out.mono ?_
  rintro e w1 ⟨g, gs, rfl, hSh, hb1⟩
  have HW1 := hide hb1
  have HS1 := hide hSh
  clear hb1 hSh HSh
  go_wp2_with fail
  refine (HCk.out w1 HW1.out).mono ?_
  rintro e w2 ⟨rfl, hb2⟩
  have hW2 := HW1.out.trans (hb2.mono HW1.out.size)
  have hS2 := HS1.out.keep hb2
  obtain ⟨w3, hw3⟩ : ∃ w3, w3 = w2.alloc (.cells #[.slice none 0 0] 30) := ⟨_, rfl⟩
  have hX3 : w3.heap[w2.heap.size]? = some (.cells #[.slice none 0 0] 30) := by rw [hw3]; exact at_newS _ _
  have hb3 : Below w2.heap.size w2 w3 := by rw [hw3]; exact (Below.refl _ w2).alloc (Nat.le_refl _) _
  obtain ⟨bR, hbR⟩ : ∃ bR, bR = w2.heap.size := ⟨_, rfl⟩
  have hne : g < bR ∧ ∀ k ∈ gs, k < bR := by
    refine ⟨by have := lt_blockS hS2.g; omega, fun k hk => ?_⟩
    obtain ⟨i, hi, rfl⟩ := List.getElem_of_mem hk
    have := lt_blockS (hS2.p i (by rw [← hS2.len]; exact hi) hi)
    omega
  have hR0 : RdG w w3 bR [] w3 := by
    refine ⟨⟨.slice none 0 0, [], ⟨by rw [hbR]; exact hW2.size, by rw [hbR]; exact hX3, World.ownsRow_nil _ _ _ _, rfl, fun j hj => absurd hj (by simp)⟩⟩, hW2.trans (hb3.mono hW2.size), Kr.refl _ _⟩
  have HSk : Hid (∀ W, Kr bR w3 W → ShM W g gs Ss) := fun W hK => (hS2.keep hb3).kr hne hK
  have HR0 := hide hR0
  have HGl : Hid (gs.length = Ss.length) := hS2.len
  obtain ⟨x, hx⟩ : ∃ x : Addr, x = ⟨g, 0, none⟩ := ⟨_, rfl⟩
  have HCe : Hid (∀ W, Kr bR w3 W → ∀ i (hi : i < Ss.length) (hi' : i < gs.length), W.cell? (x.add (i * 4)) = some (.int .i64 Ss[i].first) ∧ W.cell? ⟨(x.add (i * 4)).block, (x.add (i * 4)).off + 1, none⟩ = some (.int .i64 Ss[i].last) ∧ W.cell? ⟨(x.add (i * 4)).block, (x.add (i * 4)).off + 2, none⟩ = some (.int .i64 Ss[i].less) ∧ W.cell? ⟨(x.add (i * 4)).block, (x.add (i * 4)).off + 3, none⟩ = some (.slice (some ⟨gs[i], 0, none⟩) Ss[i].ps.length Ss[i].ps.length)) := fun W hK i hi hi' => (HSk.out W hK).cells x hx i hi hi'
  clear hb2 hW2 hS2 hX3 hb3 hR0 hne HCk HW1 HS1
  go_upto_region 8 with fail
  rw [← hw3, ← hbR, ← hx]
  clear hw3 hbR hx
  go_wp2
  go_loopw [28] (fun q wr => ∃ (i : Nat) (LL : List RL), i ≤ nS ∧ q = .int .i64 i ∧ RAll A (Ss.take i) LL ∧ LL.length ≤ i * (400 * 1114112) ∧ RdG w w3 bR LL wr) (fun q _ => nS - (intOf q).toNat)
  case atStart => exact ⟨0, [], Nat.zero_le _, rfl, .nil, by simp, HR0.out⟩
  case round =>
    obtain ⟨i, LL, hi, rfl, hAll, hLl, hR⟩ := hrel
    obtain ⟨w4, hw4⟩ : ∃ w4, w4 = wr := ⟨_, rfl⟩
    subst hw4
    have HRi := hide hR
    have HAll := hide hAll
    have HLl := hide hLl
    clear hR HR0 hAll hLl
    by_cases hlt : i < nS
    · have hiS : i < Ss.length := by have := HNS.out; omega
      have hig : i < gs.length := by rw [HGl.out]; exact hiS
      have e5 : (i : Int) < (nS : Int) := by omega
      have e6 : (0 : Int) ≤ (i : Int) := by omega
      have hkw : IntKind.i64.wrap ((i : Int) + 1) = (i : Int) + 1 := by rw [IntKind.wrap_i64]; omega
      obtain ⟨m0, m1, m2, m3⟩ := HCe.out _ HRi.out.2.2 i hiS hig
      have HPi : Hid (∀ W, Kr bR w3 W → W.heap[gs[i]]? = some (ptsO Ss[i].ps)) := fun W hK => (HSk.out W hK).p i hiS hig
      have HGi := hide (HGd.out i hiS)
      have HSn : Hid (∀ M, RRow Ss[i] A M → RAll A (Ss.take (i + 1)) (LL ++ M)) := fun M hM => by
        rw [List.take_add_one, List.getElem?_eq_getElem hiS]
        exact .snoc HAll.out hM
      obtain ⟨S, hS⟩ : ∃ S, S = Ss[i] := ⟨_, rfl⟩
      obtain ⟨gp, hgp⟩ : ∃ gp, gp = gs[i] := ⟨_, rfl⟩
      rw [← hS] at m0 m1 m2 m3 HPi HGi HSn
      rw [← hgp] at m3 HPi
      obtain ⟨w5, hw5⟩ : ∃ w5, w5 = w4.alloc (shpO (shpOf S gp)) := ⟨_, rfl⟩
      have hX5 : w5.heap[w4.heap.size]? = some (shpO (shpOf S gp)) := by rw [hw5]; exact at_newS _ _
      have hb5 : Below w4.heap.size w4 w5 := by rw [hw5]; exact (Below.refl _ w4).alloc (Nat.le_refl _) _
      obtain ⟨bS, hbS⟩ : ∃ bS, bS = w4.heap.size := ⟨_, rfl⟩
      have hSR : bS ≠ bR := by
        obtain ⟨⟨v, us, h1⟩, _, _⟩ := HRi.out
        have := lt_blockS h1.box
        omega
      rw [← hbS] at hX5
      have HX5 := hide hX5
      have HSR := hide hSR
      have HR5 : Hid (RdG w w3 bR (LL ++ []) w5) := by rw [List.append_nil]; exact HRi.out.put hb5
      obtain ⟨s1, hs1⟩ : ∃ s1, s1 = S.first := ⟨_, rfl⟩
      obtain ⟨s2, hs2⟩ : ∃ s2, s2 = S.last := ⟨_, rfl⟩
      obtain ⟨s3, hs3⟩ : ∃ s3, s3 = S.less := ⟨_, rfl⟩
      obtain ⟨sp, hsp⟩ : ∃ sp, sp = S.ps.length := ⟨_, rfl⟩
      have HSv : Hid (shpO (shpOf S gp) = .cells #[.int .i64 s1, .int .i64 s2, .int .i64 s3, .slice (some ⟨gp, 0, none⟩) sp sp] 55) := by rw [hs1, hs2, hs3, hsp]; rfl
      have HSw : Hid (shpV (shpOf S gp) = .agg #[.int .i64 s1, .int .i64 s2, .int .i64 s3, .slice (some ⟨gp, 0, none⟩) sp sp]) := by rw [hs1, hs2, hs3, hsp]; rfl
      rw [← hs1] at m0
      rw [← hs2] at m1
      rw [← hs3] at m2
      rw [← hsp] at m3
      rw [HSv.out] at hw5
      clear hX5 hb5 hSR hlt hs1 hs2 hs3 hsp hS hgp HRi hiS hig
      go_upto_region 11 with fail
      rw [← hw5, ← hbS]
      clear hw5 hbS m0 m1 m2 m3
      go_wp2
      go_loopw [34] (fun q wr => ∃ (j : Nat) (M : List RL), j ≤ nA ∧ q = .int .i64 j ∧ RRow S (A.take j) M ∧ M.length ≤ j * 1114112 ∧ RdG w w3 bR (LL ++ M) wr ∧ wr.heap[bS]? = some (shpO (shpOf S gp))) (fun q _ => nA - (intOf q).toNat)
      case atStart => exact ⟨0, [], Nat.zero_le _, rfl, .nil, by simp, HR5.out, HX5.out⟩
      case round =>
        obtain ⟨j, M, hj, rfl, hRow, hMl, hRj, hXj⟩ := hrel
        obtain ⟨w6, hw6⟩ : ∃ w6, w6 = wr := ⟨_, rfl⟩
        subst hw6
        have HRj := hide hRj
        have HXj := hide hXj
        have HRow := hide hRow
        have HMl := hide hMl
        clear hRj hXj HR5 HX5 hRow hMl
        by_cases hlt2 : j < nA
        · have hjA : j < A.length := by have := HN.out; omega
          have e7 : (j : Int) < (nA : Int) := by omega
          have e8 : (0 : Int) ≤ (j : Int) := by omega
          have hkw2 : IntKind.i64.wrap ((j : Int) + 1) = (j : Int) + 1 := by rw [IntKind.wrap_i64]; omega
          obtain ⟨xA, rfl, n0, n1⟩ := HA.out _ HRj.out.2.1 j hjA
          have hrr := HAr.out j hjA
          have HRn : Hid (∀ M', EB S A[j] M' → RRow S (A.take (j + 1)) (M ++ M')) := fun M' hM => by
            rw [List.take_add_one, List.getElem?_eq_getElem hjA]
            exact .snoc HRow.out hM
          obtain ⟨r, hr⟩ : ∃ r, r = A[j] := ⟨_, rfl⟩
          rw [← hr] at n0 n1 hrr HRn
          obtain ⟨r1, r2⟩ := r
          simp only at n0 n1 hrr
          obtain ⟨w7, hw7⟩ : ∃ w7, w7 = w6.alloc (rgOS r1 r2) := ⟨_, rfl⟩
          have hX7 : w7.heap[w6.heap.size]? = some (rgOS r1 r2) := by rw [hw7]; exact at_newS _ _
          have hb7 : Below w6.heap.size w6 w7 := by rw [hw7]; exact (Below.refl _ w6).alloc (Nat.le_refl _) _
          have hS7 := rdO_keep HXj.out hb7
          have HX7 := hide hS7
          have hR7 := HRj.out.put hb7
          have HR7 := hide hR7
          have hLen : (LL ++ M).length ≤ 9990000000 := by
            rw [List.length_append]
            have h1 := HLl.out
            have h2 := HMl.out
            have : i * (400 * 1114112) ≤ 5 * (400 * 1114112) := Nat.mul_le_mul_right _ (by omega)
            have : j * 1114112 ≤ 400 * 1114112 := Nat.mul_le_mul_right _ (by omega)
            omega
          have HBk := hide (eachBlock_any w.heap.size bR bS gp S HGi.out.1 HGi.out.2.1 HGi.out.2.2.1 HGi.out.2.2.2.1 HGi.out.2.2.2.2 r1 r2 hrr (LL ++ M) w7 ⟨hR7.1, hS7, HPi.out _ hR7.2.2, hR7.2.1.size⟩ hLen)
          obtain ⟨bx, hbx⟩ : ∃ bx, bx = w6.heap.size := ⟨_, rfl⟩
          rw [← hbx] at hX7
          rw [HSv.out] at hS7
          have d0 := cells_at hS7 0
          have d1 := cells_at hS7 1
          have d2 := cells_at hS7 2
          have d3 := cells_at hS7 3
          obtain ⟨f0, f1⟩ := rg_cellsS hX7
          simp at d0 d1 d2 d3
          simp only [rgOS] at hw7
          rw [HSw.out] at HBk
          simp only [takeF] at HBk
          clear hX7 hb7 hS7 hR7 HRj HXj hlt2 hjA hr hLen
          go_upto_region 14 with fail
          rw [← hw7, ← hbx]
          clear hw7 hbx n0 n1
          go_wp2_with fail
          refine HBk.out.mono ?_
          rintro e w8 hE8
          have he8 := hE8.1
          subst he8
          have hK8 := hE8.2
          obtain ⟨M8, hM8, hR8⟩ := HR7.out.eb hE8
          have HR8 : Hid (RdG w w3 bR (LL ++ (M ++ M8)) w8) := by rw [← List.append_assoc]; exact hR8
          have HX8 : Hid (w8.heap[bS]? = some (shpO (shpOf S gp))) := by
            obtain ⟨_, _, _, _, hk⟩ := hK8
            exact hk _ _ _ _ HSR.out (by decide) HX7.out
          have HRw := hide (HRn.out M8 hM8)
          have HMl8 : Hid ((M ++ M8).length ≤ (j + 1) * 1114112) := by
            show _ ≤ _
            have h1 := HMl.out
            have h2 := hM8.len ⟨hrr.1, hrr.2.2⟩
            rw [List.length_append]
            omega
          clear hE8 hK8 hM8 hR8 HBk d0 d1 d2 d3 f0 f1 HX7
          go_wp2
          go_roundw
          case rel => exact ⟨j + 1, M ++ M8, by omega, by go_num, HRw.out, HMl8.out, HR8.out, HX8.out⟩
          case measure => simp [intOf]; omega
        · have e7 : ¬ (j : Int) < (nA : Int) := by omega
          have HRw : Hid (RAll A (Ss.take (i + 1)) (LL ++ M)) := HSn.out M (by
            have := HRow.out
            rw [List.take_of_length_le (by have := HN.out; omega)] at this
            exact this)
          have HLn : Hid ((LL ++ M).length ≤ (i + 1) * (400 * 1114112)) := by
            show _ ≤ _
            have h1 := HLl.out
            have h2 := HMl.out
            have h3 : j * 1114112 ≤ 400 * 1114112 := Nat.mul_le_mul_right _ (by omega)
            rw [List.length_append, Nat.add_mul]
            omega
          have HR9 := hide HRj.out
          clear HRj HXj hlt2 HRow HMl
          go_wp2
          go_roundw
          case rel => exact ⟨i + 1, LL ++ M, by omega, by go_num, HRw.out, HLn.out, HR9.out⟩
          case measure => simp [intOf]; omega
    · have e5 : ¬ (i : Int) < (nS : Int) := by omega
      have hAl : RAll A Ss LL := by
        have := HAll.out
        rw [List.take_of_length_le (by have := HNS.out; omega)] at this
        exact this
      obtain ⟨⟨v, us, hRB⟩, hbw, hK⟩ := HRi.out
      obtain ⟨zo, zc, rfl⟩ := hRB.row.shape
      have c0 : w4.cell? ⟨bR, 0, none⟩ = some (.slice zo LL.length zc) := by simp [World.cell?, hRB.box]
      have HSo := hide (sort_g w.heap.size _ LL us w4 hRB.row (HOk.out LL hAl) (by
        have h1 := HLl.out
        have h2 : i * (400 * 1114112) ≤ 5 * (400 * 1114112) := Nat.mul_le_mul_right _ (by omega)
        omega) hbw.size)
      have HBx := hide hRB.box
      have HBw := hide hbw
      have HAl := hide hAl
      obtain ⟨nL, hnL⟩ : ∃ nL, nL = LL.length := ⟨_, rfl⟩
      have HNL := hide hnL
      rw [← hnL] at c0 HSo HBx
      clear hRB hbw hK hAl hnL HRi HAll HLl hlt
      go_wp2_with fail
      refine HSo.out.mono ?_
      rintro e w5 ⟨rfl, MM, us', hp, hs, hR5, hb5, hk5⟩
      have c1 : w5.cell? ⟨bR, 0, none⟩ = some (.slice zo nL zc) := by
        have := hk5 _ _ _ _ (by decide) HBx.out
        simp [World.cell?, this]
      have hML : nL = MM.length := by rw [HNL.out]; exact hp.length_eq.symm
      have HF : Hid (Below w.heap.size w w5 ∧ ∃ ao c LL MM us, Ending.returned (.tuple #[.slice zo nL zc, .int .i64 0]) = .returned (.tuple #[.slice ao MM.length c, .int .i64 0]) ∧ RAll A Ss LL ∧ MM.Perm LL ∧ Rise MM ∧ RowR w.heap.size w5 (.slice ao MM.length c) MM us) := by
        refine ⟨HBw.out.trans hb5, zo, zc, LL, MM, us', by rw [hML], HAl.out, hp, hs, ?_⟩
        rw [← hML]
        exact hR5
      clear hp hs hR5 hb5 hk5 hML HSo c0
      go_wp2
      go_ret2
      exact HF.out

end Go.Proofs.YtljankfhnmcbaaaGreatDoor.SP

namespace Go.Proofs.YtljankfhnmcbaaaGreatDoor.SP
open Go.RowKit Go.PlainAid
set_option linter.unusedVariables false

theorem encB_isEnc {enc : Int} : encB enc = true ↔ isEnc enc := by simp [encB, isEnc]; omega
set_option maxRecDepth 100000 in
set_option maxHeartbeats 2000000 in
theorem roads_kind (enc : Int) (he : ¬ isEnc enc) (v : Value) (w : World) : Calls Tryz.prog 10 #[.int .i64 enc, v] w fun e w' => e = .returned (.tuple #[.slice none 0 0, .int .i64 7]) ∧ Below w.heap.size w w' := by
  have h := shapesOf_any enc w
  have hf : encB enc = false := by rw [Bool.eq_false_iff]; exact fun hh => he (encB_isEnc.1 hh)
  rw [hf] at h
  have HSh := hide h
  clear h hf he
  go_enter Tryz.func10, Tryz.ntmps10
  go_wp2_with fail
  refine HSh.out.mono ?_
  rintro e w1 ⟨⟨ao, n, c, rfl⟩, hb1⟩
  have HB1 := hide hb1
  clear hb1 HSh
  go_wp2
  go_ret2
  exact ⟨rfl, HB1.out⟩
set_option maxRecDepth 100000 in
set_option maxHeartbeats 2000000 in
theorem roads_bad (enc : Int) (he : isEnc enc) (v : Value) (z : Int) (hz : z ≠ 0) (w : World) (hck : ∀ W, Below w.heap.size w W → Calls Tryz.prog 32 #[v] W fun e w' => e = .returned (.int .i64 z) ∧ Below W.heap.size W w') : Calls Tryz.prog 10 #[.int .i64 enc, v] w fun e w' => e = .returned (.tuple #[.slice none 0 0, .int .i64 z]) ∧ Below w.heap.size w w' := by
  have h := shapesOf_any enc w
  rw [encB_isEnc.2 he] at h
  have HSh := hide h
  have HCk := hide hck
  clear h he hck
  go_enter Tryz.func10, Tryz.ntmps10
  go_wp2_with fail
  refine HSh.out.mono ?_
  rintro e w1 ⟨⟨ao, n, c, rfl⟩, hb1⟩
  have HB1 := hide hb1
  clear hb1 HSh
  go_wp2_with fail
  refine (HCk.out _ HB1.out).mono ?_
  rintro e w2 ⟨rfl, hb2⟩
  have HB2 := hide (below_tr HB1.out hb2)
  clear hb2 HCk
  go_wp2
  go_ret2
  exact ⟨rfl, HB2.out⟩
theorem RRow.len {S : ShP} {A : RL} {M : List RL} (h : RRow S A M) : (∀ r ∈ A, okR r) → M.length ≤ A.length * 1114112 := by
  induction h with
  | nil => simp
  | snoc h1 h2 ih =>
    intro hA
    have l1 := ih (fun r hr => hA r (by simp [hr]))
    have hr := hA _ (List.mem_append_right _ (List.mem_singleton.2 rfl))
    have l2 := h2.len ⟨hr.1, hr.2.2⟩
    simp only [List.length_append, List.length_cons, List.length_nil]
    omega
theorem RAll.len {A : RL} {Ss : List ShP} {LL : List RL} (h : RAll A Ss LL) (hA : A.length ≤ 400 ∧ ∀ r ∈ A, okR r) : LL.length ≤ Ss.length * (400 * 1114112) := by
  induction h with
  | nil => simp
  | snoc h1 h2 ih =>
    have l2 := h2.len hA.2
    have : A.length * 1114112 ≤ 400 * 1114112 := Nat.mul_le_mul_right _ hA.1
    simp only [List.length_append, List.length_cons, List.length_nil]
    omega
theorem RAll.big {enc : Int} (he : isEnc enc) {A : RL} {LL : List RL} (h : RAll A (shapesP enc) LL) (hC : A.length ≤ 400 ∧ Canon A) : LL.length ≤ 2228224000 := by
  have h1 := h.len ⟨hC.1, hC.2.1⟩
  have h2 : (shapesP enc).length ≤ 5 := by rcases he with rfl | rfl | rfl | rfl <;> simp [shapesP, paired]
  have : (shapesP enc).length * (400 * 1114112) ≤ 5 * (400 * 1114112) := Nat.mul_le_mul_right _ h2
  omega

/-- roads in a row, each of one's own. -/
def RdsB (B : Nat) (W : World) (g n : Nat) : Prop := ∃ cur : Array Value, W.heap[g]? = some (.cells cur 22 (0, 0)) ∧ ∀ j, j < n → ∃ u, cur[j]? = some u ∧ RowAt B W u
theorem RdsB.kp {B : Nat} {W W' : World} {g n : Nat} (h : RdsB B W g n) (k : KpR B W W') : RdsB B W' g n := by
  obtain ⟨cur, h1, h2⟩ := h
  refine ⟨cur, k.other _ _ _ _ (by decide) h1, fun j hj => ?_⟩
  obtain ⟨u, h3, h4⟩ := h2 j hj
  exact ⟨u, h3, h4.kp k⟩
/-- what Roads answers, as far as memory goes. -/
def RdF (B : Nat) (e : Ending) (w' : World) : Prop := (∃ z : Int, z ≠ 0 ∧ e = .returned (.tuple #[.slice none 0 0, .int .i64 z])) ∨ (∃ c, e = .returned (.tuple #[.slice none 0 c, .int .i64 0])) ∨ ∃ g n c, e = .returned (.tuple #[.slice (some ⟨g, 0, none⟩) n c, .int .i64 0]) ∧ n ≤ 10000000000 ∧ RdsB B w' g n
theorem roads_f (enc : Int) (v : Value) (A : RL) (w : World) (hv : Reads w v A) (B : Nat) (hB : B ≤ w.heap.size) : Calls Tryz.prog 10 #[.int .i64 enc, v] w fun e w' => RdF B e w' ∧ Below w.heap.size w w' := by
  have hck : ∀ W, Below w.heap.size w W → Calls Tryz.prog 32 #[v] W fun e w' => e = .returned (.int .i64 (checkE A)) ∧ Below W.heap.size W w' := fun W hW => check_any v A W (hv.below hW)
  by_cases he : isEnc enc
  · by_cases hz : checkE A = 0
    · have hC := checkE_ok.1 hz
      rw [hz] at hck
      obtain ⟨ao, c, rfl⟩ := hv.shape
      refine (roads_main enc he ao A.length c A rfl w (fun h => ?_) hck hC).mono ?_
      · obtain ⟨x, c', e, hc⟩ := hv.some h
        injection e with e _ _
        exact ⟨x, e, hc⟩
      · rintro e w' ⟨hb, ao', c', LL, MM, us, rfl, hAll, hPm, _, hRow⟩
        refine ⟨.inr ?_, hb⟩
        have hok : ∀ L ∈ MM, okRoad L := fun L hL => hAll.len_ok he L (hPm.mem_iff.1 hL)
        have hbg := hAll.big he hC
        have hln := hPm.length_eq
        rcases id hRow.own.2 with ⟨e1, hz0⟩ | ⟨g, cap, cur, e1, hg, hh, hn, hm, hs, ht⟩
        · injection e1 with e1 e2 e3
          exact .inl ⟨c', by rw [e1, e2]⟩
        · injection e1 with e1 e2 e3
          refine .inr ⟨g, MM.length, c', by rw [e1], by omega, cur, hh, fun j hj => ?_⟩
          obtain ⟨g', h1, h2, h3⟩ := hRow.rds j hj
          refine ⟨_, ?_, .inr ⟨g', MM[j].length, MM[j].length, (rowR MM[j] ++ List.replicate (2 * 0) (Value.int .i64 0)).toArray, rfl, by omega, h3, ?_, by have := (hok _ (List.getElem_mem hj)).1; omega⟩⟩
          · have h4 : (cur.toList.take (MM.length * 1))[j]? = us[j]? := by rw [ht]
            rw [List.getElem?_take_of_lt (by omega), h2, Array.getElem?_toList] at h4
            exact h4
          · simp [rowR_len]
            omega
    · refine (roads_bad enc he v (checkE A) hz w hck).mono ?_
      rintro e w' ⟨h, hb⟩
      exact ⟨.inl ⟨_, hz, h⟩, hb⟩
  · refine (roads_kind enc he v w).mono ?_
    rintro e w' ⟨h, hb⟩
    exact ⟨.inl ⟨7, by decide, h⟩, hb⟩

end Go.Proofs.YtljankfhnmcbaaaGreatDoor.SP
