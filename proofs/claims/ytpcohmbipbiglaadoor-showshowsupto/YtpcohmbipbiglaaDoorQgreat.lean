/- What TooGreat answers. -/
import Derived.Test.YtpcohmbipbiglaaDoorQdeep
import Derived.RegionTactic
import Derived.Deep.QuietTactic
import Derived.BigQuiet
import Derived.WalkSmall
namespace Go.Proofs.YtpcohmbipbiglaaDoor
open Go.RowKit
set_option linter.unusedVariables false

def fstZ (Z : ZL) : List (NV × Tr) := Z.map (·.1)
def sndZ (Z : ZL) : List Int := Z.map (fun z => (z.2 : Int))
theorem fstZ_len (Z : ZL) : (fstZ Z).length = Z.length := by simp [fstZ]
theorem sndZ_len (Z : ZL) : (sndZ Z).length = Z.length := by simp [sndZ]
theorem fstZ_append (a b : ZL) : fstZ (a ++ b) = fstZ a ++ fstZ b := by simp [fstZ]
theorem sndZ_append (a b : ZL) : sndZ (a ++ b) = sndZ a ++ sndZ b := by simp [sndZ]
theorem i64s_app (a b : List Int) : i64s (a ++ b) = i64s a ++ i64s b := by simp [i64s]
theorem i64s_length (a : List Int) : (i64s a).length = a.length := by simp [i64s]

theorem q_grown {B e k n : Nat} {w w' : World} {v : Value} {xs : List Value} {row : Option Nat} (h : w.ownsRow B e k v n xs) (hg : w.grownBy w' row) (hne : ∀ g, v.ownBlock = some g → some g ≠ row) : w'.ownsRow B e k v n xs := by
  obtain ⟨h1, h2⟩ := h
  refine ⟨h1, ?_⟩
  rcases h2 with h2 | ⟨g, cap, cur, hv, hb, hh, r⟩
  · exact .inl h2
  · refine .inr ⟨g, cap, cur, hv, hb, ?_, r⟩
    rw [hg.block g (lt_of_block hh) (hne g (by rw [hv]; rfl))]
    exact hh
/-- rows of two kinds lie apart. -/
theorem q_apart {B e e' k k' n n' : Nat} {w : World} {v v' : Value} {xs xs' : List Value} (h : w.ownsRow B e k v n xs) (h' : w.ownsRow B e' k' v' n' xs') (hee : e ≠ e') : ∀ g, v.ownBlock = some g → some g ≠ v'.ownBlock := by
  intro g hg hg'
  rcases h.2 with ⟨rfl, _⟩ | ⟨g1, cap, cur, rfl, _, hh, _⟩
  · simp [Value.ownBlock] at hg
  · rcases h'.2 with ⟨rfl, _⟩ | ⟨g2, cap', cur', rfl, _, hh', _⟩
    · simp [Value.ownBlock] at hg'
    · simp [Value.ownBlock] at hg hg'
      rw [hg] at hh
      rw [← hg', hh] at hh'
      simp at hh'
      exact hee hh'.2
theorem q_int1 (z : Int) : ∀ u ∈ [Value.int .i64 z], u.oneCell' = true := by
  intro u hu
  simp at hu
  rw [hu]; rfl
/-- the kids of a node, as they lie. -/
theorem kids_list {w0 : World} {n : NV} {t : Tr} (h : NodeC w0 n t) : ∃ K : List (NV × Tr), K.map (·.2) = t.kids ∧ (∀ k ∈ K, NodeC w0 k.1 k.2) ∧ n.kl = K.length ∧ (K.length = 0 ∨ ∃ x, n.ka = some x ∧ ∀ i (hi : i < K.length), NCells w0 (x.add (i * 8)) K[i].1) := by
  obtain ⟨-, -, -, -, -, -, -, vs, hk, hn⟩ := h.open
  obtain ⟨K, h1, h2⟩ := list_of' (α := NV × Tr) (n := t.kids.length) (P := fun i r => r.1 = vs i ∧ t.kids[i]? = some r.2) (fun i hi => ⟨(vs i, t.kids[i]), rfl, List.getElem?_eq_getElem hi⟩)
  have hkl := hk.len
  refine ⟨K, ?_, ?_, by omega, ?_⟩
  · refine List.ext_getElem (by simp [h1]) (fun i h3 h4 => ?_)
    have := (h2 i (by simpa using h3)).2
    rw [List.getElem?_eq_getElem h4] at this
    simp
    exact (Option.some.inj this).symm
  · intro k hk'
    obtain ⟨i, hi, rfl⟩ := List.getElem_of_mem hk'
    have h3 := h2 i hi
    have h4 := hn i (by omega)
    rw [List.getElem?_eq_getElem (by omega)] at h3
    rw [h3.1, ← Option.some.inj h3.2]
    exact h4
  · rcases hk with ⟨_, _, _, h0⟩ | ⟨x, hx, _, _, hc⟩
    · exact .inl (by omega)
    · exact .inr ⟨x, hx, fun i hi => by rw [(h2 i hi).1]; exact hc i (by omega)⟩

set_option maxRecDepth 100000 in
set_option maxHeartbeats 8000000 in
theorem tooGreat_any {w0 : World} {n : NV} {t : Tr} (h : NodeC w0 n t) (hsm : smT t) (w : World) (hw0 : Below w0.heap.size w0 w) : Calls Tryd.prog 7 #[nvV n] w fun e w' => e = .returned (.bool (!decide (cntA t < 1001))) ∧ Below w.heap.size w w' := by
  obtain ⟨i0, hi, hz0, hz1, hz2⟩ := info_parts infoN
  obtain ⟨j0, hj, hy0, hy1, hy2⟩ := info_parts info3
  have HW0 := hide hw0
  have HST := hide (Todo.start h hsm)
  obtain ⟨w1, hw1⟩ : ∃ w1, w1 = w.alloc (nvO n) := ⟨_, rfl⟩
  have hs1 : w1.heap.size = w.heap.size + 1 := by rw [hw1]; simp
  have hX1 : w1.heap[w.heap.size]? = some (nvO n) := by rw [hw1]; exact at_new _ _
  obtain ⟨w2, hw2⟩ : ∃ w2, w2 = w1.alloc (nvO n) := ⟨_, rfl⟩
  have ho2 : w2.ownsRow w.heap.size 25 8 (.slice (some ⟨w.heap.size + 1, 0, none⟩) 1 1) 1 (rowN (fstZ [((n, t), 0)])) := by
    have := World.ownsRow_lit (base := w.heap.size) (e := 25) (size := 8) w1 #[.int .i64 n.kind, .slice n.sa n.sl n.sc, .slice n.ka n.kl n.kc, .int .i64 n.num, .int .i64 n.least, .int .i64 n.most, .int .i64 n.way, .bool n.fold] 1 (by omega) (by decide) rfl
    rw [← hs1, hw2]
    simpa [rowN, fstZ] using this
  obtain ⟨w3, hw3⟩ : ∃ w3, w3 = w2.alloc (.cells #[.int .i64 0] 3) := ⟨_, rfl⟩
  have hs2 : w2.heap.size = w.heap.size + 1 + 1 := by rw [hw2]; simp [hs1]
  have ho3 : w3.ownsRow w.heap.size 25 8 (.slice (some ⟨w.heap.size + 1, 0, none⟩) 1 1) 1 (rowN (fstZ [((n, t), 0)])) := by rw [hw3]; exact ho2.alloc _
  have hq3 : w3.ownsRow w.heap.size 3 1 (.slice (some ⟨w.heap.size + 1 + 1, 0, none⟩) 1 1) 1 (i64s (sndZ [((n, t), 0)])) := by
    have := World.ownsRow_lit (base := w.heap.size) (e := 3) (size := 1) w2 #[.int .i64 0] 1 (by omega) (by decide) rfl
    rw [← hs2, hw3]
    simpa [i64s, sndZ] using this
  have hb3 : Below w.heap.size w w3 := by
    rw [hw3, hw2, hw1]
    exact (((Below.refl _ w).alloc (Nat.le_refl _) _).alloc (by simp) _).alloc (by simp; omega) _
  obtain ⟨d0, d1, d2, d3, d4, d5, d6, d7⟩ := nv_cells hX1
  have HO3 := hide ho3
  have HQ3 := hide hq3
  have HB3 := hide hb3
  obtain ⟨R, hR⟩ : ∃ R, R = !decide (cntA t < 1001) := ⟨_, rfl⟩
  have HR1 : Hid (cntA t < 1001 → R = false) := fun h => by rw [hR]; simp [h]
  have HR2 : Hid (¬ cntA t < 1001 → R = true) := fun h => by rw [hR]; simp; omega
  rw [← hR]
  simp only [nvO] at hw1 hw2
  clear h hw0 hX1 ho2 ho3 hq3 hb3 hR
  go_enter Tryd.func7, Tryd.ntmps7
  go_upto_region 1 with fail
  rw [← hw1]
  clear hw1
  go_upto_region 2 with fail
  rw [← hw2, ← hw3]
  clear hw2 hw3 hs1 hs2 d0 d1 d2 d3 d4 d5 d6 d7
  go_wp2
  go_loopw [3, 4, 5] (fun a b c wr => ∃ (m : Nat) (Z : ZL), c = .int .i64 m ∧ Todo w0 t m Z ∧ wr.ownsRow w.heap.size 25 8 a Z.length (rowN (fstZ Z)) ∧ wr.ownsRow w.heap.size 3 1 b Z.length (i64s (sndZ Z)) ∧ Below w.heap.size w wr) (fun _ _ c _ => 1001 - (intOf c).toNat)
  case atStart => exact ⟨0, _, rfl, HST.out, HO3.out, HQ3.out, HB3.out⟩
  case round =>
    obtain ⟨m, Z, rfl, hT, ho, hq, hb⟩ := hrel
    have HT := hide hT
    have HB := hide hb
    obtain ⟨w4, hw4⟩ : ∃ w4, w4 = wr := ⟨_, rfl⟩
    subst hw4
    clear HO3 HQ3 HB3 HST hb
    rcases List.eq_nil_or_concat Z with rfl | ⟨Z', z, rfl⟩
    · have hE := HR1.out hT.done
      obtain ⟨va, vc, rfl⟩ := own_shape ho
      obtain ⟨qa, qc, rfl⟩ := own_shape hq
      clear hT ho hq HR1 HR2
      subst hE
      simp only [List.length_nil]
      go_wp2
      go_ret
      exact ⟨rfl, HB.out⟩
    · rw [List.concat_eq_append] at hT ho hq HT
      obtain ⟨⟨xn, xt⟩, d⟩ := z
      have hlen := hT.len
      have hnx : NodeC w0 xn xt := hT.nd ((xn, xt), d) (by simp)
      have hsx : xt.kids.length ≤ 4611686018427387904 := by have := hT.sm ((xn, xt), d) (by simp); rw [smT_kids] at this; exact this.1
      have HSX := hide hsx
      rw [List.length_append, List.length_singleton] at ho hq hlen
      obtain ⟨k, hk⟩ : ∃ k, k = Z'.length := ⟨_, rfl⟩
      rw [← hk] at ho hq hlen
      obtain ⟨g3, c3, rfl, hg3, hg3'⟩ := ho.form (by omega)
      obtain ⟨g4, c4, rfl, hg4, hg4'⟩ := hq.form (by omega)
      have hcx : NCells w4 ⟨g3, k * 8, none⟩ xn := by
        have := rowN_cells ho (j := k) (by rw [fstZ_len]; simp; omega)
        simpa [fstZ, hk] using this
      have hcd : w4.cell? ⟨g4, k, none⟩ = some (.int .i64 d) := by
        rw [hq.cellAt k (by omega)]
        simp [i64s, sndZ, hk]
      have hc3 : k + 1 ≤ c3 ∧ c3 ≤ 9223372036854775807 := by
        rcases ho.2 with ⟨h0, _⟩ | ⟨g', cap', cur, hv, _, _, h1, h2, _⟩
        · cases h0
        · cases hv; unfold maxLen at h2; omega
      have hc4 : k + 1 ≤ c4 ∧ c4 ≤ 9223372036854775807 := by
        rcases hq.2 with ⟨h0, _⟩ | ⟨g', cap', cur, hv, _, _, h1, h2, _⟩
        · cases h0
        · cases hv; unfold maxLen at h2; omega
      have ho' : w4.ownsRow w.heap.size 25 8 (.slice (some ⟨g3, 0, none⟩) k c3) k (rowN (fstZ Z')) := by
        refine ownsRow_pop (last := rowN (fstZ [((xn, xt), d)])) (by rw [rowN_len, fstZ_len, hk]) ?_
        rw [← rowN_append, ← fstZ_append]; exact ho
      have hq' : w4.ownsRow w.heap.size 3 1 (.slice (some ⟨g4, 0, none⟩) k c4) k (i64s (sndZ Z')) := by
        refine ownsRow_pop (last := i64s (sndZ [((xn, xt), d)])) (by rw [i64s_length, sndZ_len, hk, Nat.mul_one]) ?_
        rw [← i64s_app, ← sndZ_append]; exact hq
      have HK := hide hk
      have HNX := hide hnx
      have HO := hide ho'
      have HQ := hide hq'
      obtain ⟨d0, d1, d2, d3, d4, d5, d6, d7⟩ := hcx
      simp only at d0 d1 d2 d3 d4 d5 d6 d7
      have e1 : (0 : Int) < ((k + 1 : Nat) : Int) := by omega
      have e2 : IntKind.i64.wrap (((k + 1 : Nat) : Int) - 1) = (k : Int) := by rw [IntKind.wrap_i64]; omega
      have e3 : (0 : Int) ≤ (k : Int) := by omega
      have e4 : (k : Int) < ((k + 1 : Nat) : Int) := by omega
      have e5 : (k : Int) ≤ (c3 : Int) := by omega
      have e6 : (k : Int) ≤ (c4 : Int) := by omega
      clear hT ho hq hnx hk ho' hq' hsx
      go_wp2
      go_region
      obtain ⟨w5, hw5⟩ : ∃ w5, w5 = (w4.alloc (nvO xn)).drew := ⟨_, rfl⟩
      have hX5 : w5.heap[w4.heap.size]? = some (nvO xn) := by rw [hw5]; exact at_new w4 _
      have HO5 : Hid (w5.ownsRow w.heap.size 25 8 (.slice (some ⟨g3, 0, none⟩) k c3) k (rowN (fstZ Z'))) := by show World.ownsRow _ _ _ _ _ _ _; rw [hw5]; exact (HO.out.alloc _).drew
      have HQ5 : Hid (w5.ownsRow w.heap.size 3 1 (.slice (some ⟨g4, 0, none⟩) k c4) k (i64s (sndZ Z'))) := by show World.ownsRow _ _ _ _ _ _ _; rw [hw5]; exact (HQ.out.alloc _).drew
      have HB5 : Hid (Below w.heap.size w w5) := by show Below _ _ _; rw [hw5]; exact (HB.out.alloc HB.out.size _).drew
      have hp5 : w4.heap.size < w5.heap.size := lt_of_block hX5
      obtain ⟨p, hp⟩ : ∃ p, p = w4.heap.size := ⟨_, rfl⟩
      rw [← hp] at hX5 hp5 hg3' hg4'
      simp only [nvO] at hw5
      rw [← hw5, ← hp]
      have hwp : w.heap.size ≤ p := by rw [hp]; exact HB.out.size
      clear hw5 hp HO HQ HB d0 d1 d2 d3 d4 d5 d6 d7 hcd
      go_wp2
      go_quiet (fail)
      obtain ⟨w6, hw6⟩ : ∃ w6, w6 = w5.drewN nq := ⟨_, rfl⟩
      have hX6 : w6.heap[p]? = some (nvO xn) := by rw [hw6]; exact hX5
      have HO6 : Hid (w6.ownsRow w.heap.size 25 8 (.slice (some ⟨g3, 0, none⟩) k c3) k (rowN (fstZ Z'))) := by show World.ownsRow _ _ _ _ _ _ _; rw [hw6]; exact HO5.out
      have HQ6 : Hid (w6.ownsRow w.heap.size 3 1 (.slice (some ⟨g4, 0, none⟩) k c4) k (i64s (sndZ Z'))) := by show World.ownsRow _ _ _ _ _ _ _; rw [hw6]; exact HQ5.out
      have HB6 : Hid (Below w.heap.size w w6) := by show Below _ _ _; rw [hw6]; exact HB5.out.trans ⟨rfl, rfl, rfl, Nat.le_refl _, fun _ _ => rfl⟩
      have hp6 : p < w6.heap.size := lt_of_block hX6
      rw [← hw6]
      have HX6 := hide hX6
      obtain ⟨d0, d1, d2, d3, d4, d5, d6, d7⟩ := nv_cells hX6
      clear hw6 HO5 HQ5 HB5 hX5 hp5 hX6
      have hkl : xn.kl = xt.kids.length := by
        obtain ⟨-, -, -, -, -, -, -, vs, hk, -⟩ := HNX.out.open
        exact hk.len
      have HKL := hide hkl
      have hm1 : IntKind.i64.wrap ((m : Int) + 1) = (m : Int) + 1 := by rw [IntKind.wrap_i64]; omega
      have hkc : xn.kl ≤ 4611686018427387904 := by rw [hkl]; exact HSX.out
      have s1 : IntKind.i64.wrap ((m : Int) + 1 + (k : Int)) = (m : Int) + 1 + (k : Int) := by rw [IntKind.wrap_i64]; omega
      have s2 : IntKind.i64.wrap ((m : Int) + 1 + (k : Int) + (xn.kl : Int)) = (m : Int) + 1 + (k : Int) + (xn.kl : Int) := by rw [IntKind.wrap_i64]; omega
      clear hkl
      by_cases hgt : 1000 < m + 1 + k + xn.kl
      · have hE := HR2.out (HT.out.many (by have := HKL.out; have := HK.out; show 1000 < m + 1 + Z'.length + xt.kids.length; omega))
        subst hE
        have f1 : (1000 : Int) < (m : Int) + 1 + (k : Int) + (xn.kl : Int) := by omega
        clear hgt HR1 HR2
        go_wp2
        go_ret
        exact ⟨rfl, HB6.out⟩
      · have f1 : ¬ (1000 : Int) < (m : Int) + 1 + (k : Int) + (xn.kl : Int) := by omega
        by_cases hd : 200 < d
        · have hE := HR2.out (HT.out.deep hd)
          subst hE
          have f2 : (200 : Int) < (d : Int) := by omega
          clear hgt HR1 HR2 hd
          go_wp2
          go_ret
          exact ⟨rfl, HB6.out⟩
        · have f2 : ¬ (200 : Int) < (d : Int) := by omega
          obtain ⟨K, hK1, hK2, hK3, hK4⟩ := kids_list HNX.out
          have HNext := hide (HT.out.next (by have := HKL.out; have := HK.out; show m + 1 + Z'.length + xt.kids.length ≤ 1000; omega) (by show d ≤ 200; omega) hK1 hK2)
          have hbK : m + 1 + k + K.length ≤ 1000 := by omega
          obtain ⟨kl, hkl⟩ : ∃ kl, kl = K.length := ⟨_, rfl⟩
          have HKLen := hide hkl
          have HKK : Hid (xn.kl = kl) := by show _ = _; omega
          rw [← hkl] at hbK
          have HK4 := hide hK4
          have HBK := hide hbK
          have hne3 : Hid ((Value.slice (some ⟨g3, 0, none⟩) k c3).ownBlock ≠ some p) := fun e => by simp [Value.ownBlock] at e; omega
          have hne4 : Hid ((Value.slice (some ⟨g4, 0, none⟩) k c4).ownBlock ≠ some p) := fun e => by simp [Value.ownBlock] at e; omega
          have hdw : IntKind.i64.wrap ((d : Int) + 1) = (d : Int) + 1 := by rw [IntKind.wrap_i64]; omega
          clear hK1 hK2 hK3 hK4 hkl hbK HT HNX HSX HR1 HR2 d0 d1 d3 d4 d5 d6 d7
          go_wp2
          go_loopw [3, 4, 8] (fun a b c wr => ∃ (i : Nat), i ≤ kl ∧ c = .int .i64 i ∧ wr.ownsRow w.heap.size 25 8 a (k + i) (rowN (fstZ (Z' ++ (K.take i).map (fun x => (x, d + 1))))) ∧ wr.ownsRow w.heap.size 3 1 b (k + i) (i64s (sndZ (Z' ++ (K.take i).map (fun x => (x, d + 1))))) ∧ a.ownBlock ≠ some p ∧ b.ownBlock ≠ some p ∧ wr.heap[p]? = some (nvO xn) ∧ Below w.heap.size w wr) (fun _ _ c _ => kl - (intOf c).toNat)
          case atStart => exact ⟨0, Nat.zero_le _, rfl, by simpa using HO6.out, by simpa using HQ6.out, hne3.out, hne4.out, HX6.out, HB6.out⟩
          case round =>
            obtain ⟨i, hil, rfl, ho, hq, hna, hnb, hx, hb⟩ := hrel
            obtain ⟨w7, hw7⟩ : ∃ w7, w7 = wr := ⟨_, rfl⟩
            subst hw7
            obtain ⟨va, vc, rfl⟩ := own_shape ho
            obtain ⟨qa, qc, rfl⟩ := own_shape hq
            obtain ⟨d0, d1, d2, d3, d4, d5, d6, d7⟩ := nv_cells hx
            have HO7 := hide ho
            have HQ7 := hide hq
            have HNA := hide hna
            have HNB := hide hnb
            have HX7 := hide hx
            have HB7 := hide hb
            clear ho hq hna hnb hx hb HO6 HQ6 HX6 HB6 hne3 hne4
            by_cases hlt : i < kl
            · rcases HK4.out with h0 | ⟨x, hx, hcl⟩
              · exact absurd h0 (by have := HKLen.out; omega)
              · have hiK : i < K.length := by have := HKLen.out; omega
                have hB0 : Below w0.heap.size w0 w7 := HW0.out.trans (HB7.out.mono HW0.out.size)
                obtain ⟨f0, f1', f2', f3, f4, f5, f6, f7⟩ := (hcl i hiK).below hB0
                have e7 : (i : Int) < (xn.kl : Int) := by have := HKK.out; omega
                have e8 : (0 : Int) ≤ (i : Int) := by omega
                have hbd := HBK.out
                have hiw : IntKind.i64.wrap ((i : Int) + 1) = (i : Int) + 1 := by rw [IntKind.wrap_i64]; omega
                obtain ⟨y, hy⟩ : ∃ y, y = K[i] := ⟨_, rfl⟩
                have HTk : Hid (Z' ++ (K.take (i + 1)).map (fun x => (x, d + 1)) = (Z' ++ (K.take i).map (fun x => (x, d + 1))) ++ [(y, d + 1)]) := by
                  show _ = _
                  rw [List.take_add_one, List.getElem?_eq_getElem hiK, ← hy]
                  simp
                rw [← hy] at f0 f1' f2' f3 f4 f5 f6 f7
                rw [hx] at d2
                obtain ⟨ZZ, hZZ⟩ : ∃ ZZ, ZZ = Z' ++ (K.take i).map (fun x => (x, d + 1)) := ⟨_, rfl⟩
                rw [← hZZ] at HO7 HQ7 HTk
                obtain ⟨m7, hm7⟩ : ∃ m7, m7 = k + i := ⟨_, rfl⟩
                have hm7' : m7 + 1 ≤ 1000 := by omega
                have HM7 := hide hm7
                rw [← hm7] at HO7 HQ7 HNA HNB ⊢
                have hsz7 : w.heap.size ≤ w7.heap.size := HB7.out.size
                have hp7 : p < w7.heap.size := lt_of_block HX7.out
                obtain ⟨yn, yt⟩ := y
                clear hcl hx hB0 hy hiK hZZ hm7 hlt hbd
                simp only at f0 f1' f2' f3 f4 f5 f6 f7
                go_wp2_with (at_builtin; refine wpList_append_lies _ rfl _ _ 23 rfl w.heap.size 25 i0 _ 8 96 Tryd.underlying23 hi hz0 hz1 hz2 rfl (by decide) _ _ _ rfl (HO7.out.alloc _) ⟨w7.heap.size, 0, none⟩ 1 1 (nvL yn) rfl rfl (World.news_of_block (cs := #[.int .i64 yn.kind, .slice yn.sa yn.sl yn.sc, .slice yn.ka yn.kl yn.kc, .int .i64 yn.num, .int .i64 yn.least, .int .i64 yn.most, .int .i64 yn.way, .bool yn.fold]) (t := 25) (fr := (0, 0)) (at_new _ _)) (by have := rowN_one [(yn, yt)]; simpa [rowN] using this) (by omega) (by unfold maxLen; omega) (by omega) (by simp; omega) (w7.heap.size + 1) (by simp) ?_)
                intro gg cc w8 hown8 hgrow8 hat8 hlt8
                have HO8 := hide hown8
                have HQ8 := hide (q_grown (HQ7.out.alloc _) hgrow8 (q_apart HQ7.out HO7.out (by decide)))
                have HX8 : Hid (w8.heap[p]? = some (nvO xn)) := by
                  show _ = _
                  rw [hgrow8.block p (by simp; omega) (fun e => HNA.out e.symm)]
                  exact at_old HX7.out
                have HB8 : Hid (Below w.heap.size w w8) := (HB7.out.alloc hsz7 _).grown hgrow8 (by simp; omega) (fun q hq => (HO7.out.lt q hq).1)
                have HNA8 : Hid ((Value.slice (some ⟨gg, 0, none⟩) (m7 + 1) cc).ownBlock ≠ some p) := fun e => by
                  simp [Value.ownBlock] at e
                  rcases hat8 with h1 | h1
                  · exact HNA.out (by rw [h1, e])
                  · omega
                have hsz8 : w.heap.size ≤ w8.heap.size := HB8.out.size
                have hp8 : p < w8.heap.size := lt_of_block HX8.out
                clear hown8 hgrow8 hat8 hlt8 HO7 HQ7 HX7 HB7 HNA f0 f1' f2' f3 f4 f5 f6 f7 d0 d1 d2 d3 d4 d5 d6 d7 hsz7 hp7
                go_wp2_with (at_builtin; refine wpList_append_lies _ rfl _ _ 40 rfl w.heap.size 3 j0 _ 1 8 Tryd.underlying40 hj hy0 hy1 hy2 rfl (by decide) _ _ _ rfl (HQ8.out.alloc _) ⟨w8.heap.size, 0, none⟩ 1 1 [.int .i64 ((d : Int) + 1)] rfl rfl (World.news_of_block (cs := #[.int .i64 ((d : Int) + 1)]) (t := 3) (fr := (0, 0)) (at_new _ _)) (q_int1 _) (by omega) (by unfold maxLen; omega) (by omega) (by simp; omega) (w8.heap.size + 1) (by simp) ?_)
                intro gg2 cc2 w9 hown9 hgrow9 hat9 hlt9
                have HQ9 := hide hown9
                have HO9 := hide (q_grown (HO8.out.alloc _) hgrow9 (q_apart HO8.out HQ8.out (by decide)))
                have HX9 : Hid (w9.heap[p]? = some (nvO xn)) := by
                  show _ = _
                  rw [hgrow9.block p (by simp; omega) (fun e => HNB.out e.symm)]
                  exact at_old HX8.out
                have HB9 : Hid (Below w.heap.size w w9) := (HB8.out.alloc hsz8 _).grown hgrow9 (by simp; omega) (fun q hq => (HQ8.out.lt q hq).1)
                have HNB9 : Hid ((Value.slice (some ⟨gg2, 0, none⟩) (m7 + 1) cc2).ownBlock ≠ some p) := fun e => by
                  simp [Value.ownBlock] at e
                  rcases hat9 with h1 | h1
                  · exact HNB.out (by rw [h1, e])
                  · omega
                clear hown9 hgrow9 hat9 hlt9 HO8 HQ8 HX8 HB8 HNB hsz8 hp8
                go_wp2
                go_roundw
                case rel => exact ⟨i + 1, by have := HKK.out; omega, by go_num, by rw [HTk.out, fstZ_append, rowN_append, show k + (i + 1) = m7 + 1 by have := HM7.out; omega]; exact HO9.out, by rw [HTk.out, sndZ_append, i64s_app, show k + (i + 1) = m7 + 1 by have := HM7.out; omega]; exact HQ9.out, HNA8.out, HNB9.out, HX9.out, HB9.out⟩
                case measure => have := HKK.out; simp [intOf]; omega
            · have e7 : ¬ (i : Int) < (xn.kl : Int) := by have := HKK.out; omega
              have hik : i = kl := by omega
              have hiK : K.take i = K := by rw [hik, HKLen.out]; exact List.take_of_length_le (Nat.le_refl _)
              have hlen2 : (Z' ++ K.map (fun x => (x, d + 1))).length = k + i := by have := HK.out; have := HKLen.out; simp; omega
              rw [hiK] at HO7 HQ7
              have HL2 := hide hlen2
              clear hik hiK hlen2
              go_wp2
              go_roundw
              case rel => exact ⟨m + 1, _, by go_num, HNext.out, by rw [HL2.out]; exact HO7.out, by rw [HL2.out]; exact HQ7.out, HB7.out⟩
              case measure => simp [intOf]; omega

end Go.Proofs.YtpcohmbipbiglaaDoor
