/- What the writer's part, row, either, again and repeat write, if node writes the kids. -/
import Derived.Test.YtpcohmbipbiglaaDoorWs3
import Derived.Deep.QuietTactic

namespace Go.Proofs.YtpcohmbipbiglaaDoor
open Go.RowKit
open Go.Lib (byteCells byteCells_append byteCells_length decDigits)
set_option linter.unusedVariables false

/-- node writes this. -/
def NodeG (w0 : World) (b : Nat) (nm : Value) (n : NV) (T : List UInt8) : Prop := ∀ (l : List UInt8) (W : World), Below w0.heap.size w0 W → Wr w0.heap.size b l nm W → l.length + T.length ≤ 140737488355328 → Calls Tryd.prog 20 #[.pointer (some ⟨b, 0, none⟩), nvV n] W fun e w' => e = .returned (.tuple #[]) ∧ Wto w0.heap.size b (l ++ T) nm W w'
theorem Ints.keep {w w' : World} {g : Nat} {L : List Int} (h : Ints w g L) (hb : Below w.heap.size w w') : Ints w' g L := fun j hj => below_cell hb (lt_of_cell (h j hj)) (h j hj)
theorem ints1 {w : World} {g : Nat} {a : Int} {t : TypeId} {fr : Nat × Nat} (h : w.heap[g]? = some (.cells #[.int .i64 a] t fr)) : Ints w g [a] := fun j hj => by
  have : j = 0 := by simp at hj; omega
  subst this; simp [World.cell?, h]
theorem ints3 {w : World} {g : Nat} {a b c : Int} {t : TypeId} {fr : Nat × Nat} (h : w.heap[g]? = some (.cells #[.int .i64 a, .int .i64 b, .int .i64 c] t fr)) : Ints w g [a, b, c] := fun j hj => by
  rcases (by simp at hj; omega : j = 0 ∨ j = 1 ∨ j = 2) with rfl | rfl | rfl <;> simp [World.cell?, h]

set_option maxHeartbeats 4000000 in
set_option maxRecDepth 100000 in
theorem part_any (w0 : World) (b : Nat) (nm : Value) (n : NV) (T : List UInt8) (hG : NodeG w0 b nm n T) (L : List Int) (m g : Nat) (hm : m = L.length) (hmx : m ≤ 1000) (l : List UInt8) (w : World) (hg : Ints w g L) (hw0 : Below w0.heap.size w0 w) (h : Wr w0.heap.size b l nm w) (hlen : l.length + (wrapT (L.contains n.kind) T).length ≤ 140737488355328) :
    Calls Tryd.prog 54 #[.pointer (some ⟨b, 0, none⟩), nvV n, .slice (some ⟨g, 0, none⟩) m m] w fun e w' => e = .returned (.tuple #[]) ∧ Wto w0.heap.size b (l ++ wrapT (L.contains n.kind) T) nm w w' := by
  obtain ⟨w1, hw1⟩ : ∃ w1, w1 = w.alloc (nvO n) := ⟨_, rfl⟩
  have hX1 : w1.heap[w.heap.size]? = some (nvO n) := by rw [hw1]; exact at_new _ _
  have hb1 : Below w.heap.size w w1 := by rw [hw1]; exact (Below.refl _ w).alloc (Nat.le_refl _) _
  have hlt := h.lt
  have hne : w.heap.size ≠ b := by omega
  have hto1 : Wto w0.heap.size b l nm w w1 := Wto.put h hb1
  have HT1 := hide hto1
  have HC := hide (contains_any L m g n.kind w1 hm (hg.keep hb1) hmx)
  have HXk : Hid (∀ W, Kp b w1 W → NCells W ⟨w.heap.size, 0, none⟩ n) := fun W hW => nv_cells (hW _ _ _ _ hne (by decide) hX1)
  have HG : Hid (∀ l W, Below w0.heap.size w W → Wr w0.heap.size b l nm W → l.length + T.length ≤ 140737488355328 → Calls Tryd.prog 20 #[.pointer (some ⟨b, 0, none⟩), nvV n] W fun e w' => e = .returned (.tuple #[]) ∧ Wto w0.heap.size b (l ++ T) nm W w') := fun l W hW => hG l W (hw0.trans hW)
  obtain ⟨d0, d1, d2, d3, d4, d5, d6, d7⟩ := nv_cells hX1
  simp only [nvO] at hw1
  simp only [nvV] at HG ⊢
  obtain ⟨kd, hkd⟩ : ∃ kd, kd = n.kind := ⟨_, rfl⟩
  obtain ⟨z, hz⟩ : ∃ z, z = L.contains n.kind := ⟨_, rfl⟩
  rw [← hz] at HC hlen ⊢
  obtain ⟨bx, hbx⟩ : ∃ bx, bx = w.heap.size := ⟨_, rfl⟩
  rw [← hbx] at HXk d0 d1 d2 d3 d4 d5 d6 d7
  have HLen := hide hlen
  clear hG hg hw0 h hlen hX1 hb1 hlt hne hto1 hkd hz hm
  go_enter Tryd.func54, Tryd.ntmps54
  go_upto_region 1 with fail
  rw [← hw1, ← hbx]
  clear hw1 hbx
  go_wp2_with fail
  refine HC.out.mono ?_
  rintro e w' ⟨rfl, hh⟩
  have hh2 := hh.symm
  subst hh2
  cases z with
  | false =>
    have hl : l.length + T.length ≤ 140737488355328 := HLen.out
    have HN := hide (HG.out l w1 HT1.out.2.1 HT1.out.1 hl)
    clear HLen hl HC
    go_wp2_with fail
    refine HN.out.mono ?_
    rintro e w2 ⟨rfl, hto⟩
    have HT2 : Hid (Wto w0.heap.size b (l ++ wrapT false T) nm w w2) := HT1.out.trans hto
    clear hto HN
    go_wp2
    try simp only [Exit.inBlock, Exit.then]
    refine bodyPost_ret (results_none rfl _ _ _) rfl ?_
    exact ⟨rfl, HT2.out⟩
  | true =>
    have hl : l.length + (3 + (T.length + 1)) ≤ 140737488355328 := by have := HLen.out; simp [wrapT] at this; omega
    have HP := hide (put1 w0.heap.size b l nm [40, 63, 58] w1 HT1.out.1 (by simp; omega))
    clear HC d0 d1 d2 d3 d4 d5 d6 d7
    simp only [List.toArray] at HP
    go_wp2_with fail
    refine HP.out.mono ?_
    rintro e w2 ⟨rfl, hto2⟩
    have HT2 := hide (HT1.out.trans hto2)
    obtain ⟨d0, d1, d2, d3, d4, d5, d6, d7⟩ := HXk.out w2 hto2.2.2
    have HN := hide (HG.out (l ++ [40, 63, 58]) w2 HT2.out.2.1 HT2.out.1 (by simp; omega))
    clear hto2 HP
    go_wp2_with fail
    refine HN.out.mono ?_
    rintro e w3 ⟨rfl, hto3⟩
    have HT3 := hide (HT2.out.trans hto3)
    have HP2 := hide (put1 w0.heap.size b _ nm [41] w3 HT3.out.1 (by simp; omega))
    clear hto3 HN d0 d1 d2 d3 d4 d5 d6 d7
    simp only [List.toArray] at HP2
    go_wp2_with fail
    refine HP2.out.mono ?_
    rintro e w4 ⟨rfl, hto4⟩
    have HT4 : Hid (Wto w0.heap.size b (l ++ wrapT true T) nm w w4) := by
      have := HT3.out.trans hto4
      show Wto _ _ _ _ _ _
      simpa [wrapT] using this
    clear hto4 HP2
    go_wp2
    go_end0
    exact ⟨rfl, HT4.out⟩

set_option maxHeartbeats 4000000 in
set_option maxRecDepth 100000 in
theorem row_any (w0 : World) (b : Nat) (nm : Value) (N : NmL) (ks : List Tr) (vs : Nat → NV) (ka : Option Addr) (kl kc : Nat) (hk : KidsC w0 ka kl kc ks.length vs) (hkd : ∀ j (hj : j < ks.length), (vs j).kind = ks[j].kind) (hG : ∀ j (hj : j < ks.length), NodeG w0 b nm (vs j) (shT N ks[j])) (l : List UInt8) (w : World) (hw0 : Below w0.heap.size w0 w) (h : Wr w0.heap.size b l nm w) (hlen : l.length + (upT (partAt (ks.map Tr.kind) (shL N ks)) ks.length).length ≤ 140737488355328) :
    Calls Tryd.prog 35 #[.pointer (some ⟨b, 0, none⟩), .slice ka kl kc] w fun e w' => e = .returned (.tuple #[]) ∧ Wto w0.heap.size b (l ++ upT (partAt (ks.map Tr.kind) (shL N ks)) ks.length) nm w w' := by
  have hkl := hk.len
  obtain ⟨f, hf⟩ : ∃ f, f = partAt (ks.map Tr.kind) (shL N ks) := ⟨_, rfl⟩
  have HF : Hid (∀ j (hj : j < ks.length), f j = wrapT ([(10 : Int)].contains (vs j).kind) (shT N ks[j])) := fun j hj => by
    rw [hf, partAt_at N ks j hj, hkd j hj]
    simp
  rw [← hf] at hlen ⊢
  have HLen : Hid (∀ j, j < kl → l.length + (upT f (j + 1)).length ≤ 140737488355328) := fun j hj => by
    have := upT_le f (j := j + 1) (n := ks.length) (by omega)
    omega
  have HK := hide hk
  have HKL := hide hkl
  have HW0 := hide hw0
  have HG := hide hG
  have HW := hide h
  rw [← hkl]
  clear hf hk hkd hG hw0 h hlen hkl
  go_enter Tryd.func35, Tryd.ntmps35
  go_wp2
  go_loopw [8] (fun c wr => ∃ (j : Nat), j ≤ kl ∧ c = .int .i64 j ∧ Wto w0.heap.size b (l ++ upT f j) nm w wr) (fun c _ => kl - (intOf c).toNat)
  case atStart => exact ⟨0, Nat.zero_le _, rfl, by simpa [upT] using Wto.nil HW.out⟩
  case round =>
    obtain ⟨j, hj, rfl, hto⟩ := hrel
    obtain ⟨w2, hw2⟩ : ∃ w2, w2 = wr := ⟨_, rfl⟩
    subst hw2
    have HT := hide hto
    clear hto HW
    by_cases hlt : j < kl
    · have hjk : j < ks.length := by have := HKL.out; omega
      have hb02 : Below w0.heap.size w0 w2 := HW0.out.trans HT.out.2.1
      obtain ⟨x, rfl, hmx, hcl⟩ : ∃ x, ka = some x ∧ (ks.length ≤ kc ∧ kc ≤ 9223372036854775807) ∧ ∀ j, j < ks.length → NCells w0 (x.add (j * 8)) (vs j) := by
        rcases HK.out with ⟨_, _, _, h0⟩ | ⟨x, h1, _, h2, h3⟩
        · omega
        · exact ⟨x, h1, h2, h3⟩
      obtain ⟨d0, d1, d2, d3, d4, d5, d6, d7⟩ := (hcl j hjk).below hb02
      have hGj := HG.out j hjk
      have hFj := HF.out j hjk
      have hLj := HLen.out j hlt
      have hup : upT f (j + 1) = upT f j ++ f j := rfl
      rw [hup, List.length_append] at hLj
      obtain ⟨v, hv⟩ : ∃ v, v = vs j := ⟨_, rfl⟩
      rw [← hv] at d0 d1 d2 d3 d4 d5 d6 d7 hGj hFj
      obtain ⟨w3, hw3⟩ : ∃ w3, w3 = w2.alloc (nvO v) := ⟨_, rfl⟩
      have hX3 : w3.heap[w2.heap.size]? = some (nvO v) := by rw [hw3]; exact at_new _ _
      have hb3 : Below w2.heap.size w2 w3 := by rw [hw3]; exact (Below.refl _ _).alloc (Nat.le_refl _) _
      obtain ⟨w4, hw4⟩ : ∃ w4, w4 = w3.alloc (.cells #[.int .i64 10] 3) := ⟨_, rfl⟩
      have hX4 : w4.heap[w3.heap.size]? = some (.cells #[.int .i64 10] 3) := by rw [hw4]; exact at_new _ _
      have hb4 : Below w3.heap.size w3 w4 := by rw [hw4]; exact (Below.refl _ _).alloc (Nat.le_refl _) _
      have hto4 : Wto w0.heap.size b (l ++ upT f j) nm w w4 := (HT.out.then hb3).then hb4
      have HP := hide (part_any w0 b nm v _ hGj [10] 1 w3.heap.size rfl (by omega) (l ++ upT f j) w4 (ints1 hX4) (HW0.out.trans hto4.2.1) hto4.1 (by rw [← hFj, List.length_append]; omega))
      rw [← hFj, List.append_assoc, ← hup] at HP
      have HT4 := hide hto4
      have hs3 : w3.heap.size = w2.heap.size + 1 := by rw [hw3]; simp
      obtain ⟨q0, q1, q2, q3, q4, q5, q6, q7⟩ := nv_cells hX3
      simp only [nvO] at hw3
      simp only [nvV] at HP
      have e5 : (j : Int) < (kl : Int) := by omega
      have e6 : (0 : Int) ≤ (j : Int) := by omega
      have hkw : IntKind.i64.wrap ((j : Int) + 1) = (j : Int) + 1 := by rw [IntKind.wrap_i64]; omega
      obtain ⟨bx, hbx⟩ : ∃ bx, bx = w2.heap.size := ⟨_, rfl⟩
      rw [← hbx] at q0 q1 q2 q3 q4 q5 q6 q7
      clear hb02 hmx hcl hGj hFj hLj hup hv hX3 hb3 hX4 hb4 hto4 hs3 hjk
      go_upto_region 3 with fail
      rw [← hw3, ← hbx]
      clear hw3 hbx d0 d1 d2 d3 d4 d5 d6 d7
      go_wp2_with fail
      rw [← hw4]
      clear hw4
      refine HP.out.mono ?_
      rintro e w5 ⟨rfl, hto5⟩
      have HT5 := hide (HT4.out.trans hto5)
      clear hto5 HP HT4 HT q0 q1 q2 q3 q4 q5 q6 q7
      go_wp2
      go_roundw
      case rel => exact ⟨j + 1, by omega, by go_num, HT5.out⟩
      case measure => simp [intOf]; omega
    · have e5 : ¬ (j : Int) < (kl : Int) := by omega
      have hjm : j = kl := by omega
      subst hjm
      go_wp2
      go_end0
      exact ⟨rfl, HT.out⟩

end Go.Proofs.YtpcohmbipbiglaaDoor

namespace Go.Proofs.YtpcohmbipbiglaaDoor
open Go.RowKit
open Go.Lib (byteCells byteCells_append byteCells_length decDigits)
set_option linter.unusedVariables false

set_option maxHeartbeats 4000000 in
set_option maxRecDepth 100000 in
theorem either_any (w0 : World) (b : Nat) (nm : Value) (N : NmL) (ks : List Tr) (vs : Nat → NV) (ka : Option Addr) (kl kc : Nat) (hk : KidsC w0 ka kl kc ks.length vs) (hG : ∀ j (hj : j < ks.length), NodeG w0 b nm (vs j) (shT N ks[j])) (l : List UInt8) (w : World) (hw0 : Below w0.heap.size w0 w) (h : Wr w0.heap.size b l nm w) (hlen : l.length + (upT (barAt (shL N ks)) ks.length).length ≤ 140737488355328) :
    Calls Tryd.prog 36 #[.pointer (some ⟨b, 0, none⟩), .slice ka kl kc] w fun e w' => e = .returned (.tuple #[]) ∧ Wto w0.heap.size b (l ++ upT (barAt (shL N ks)) ks.length) nm w w' := by
  have hkl := hk.len
  obtain ⟨f, hf⟩ : ∃ f, f = barAt (shL N ks) := ⟨_, rfl⟩
  have HF : Hid (∀ j (hj : j < ks.length), f j = (if j = 0 then [] else [124]) ++ shT N ks[j]) := fun j hj => by
    rw [hf, barAt_at N ks j hj]
  rw [← hf] at hlen ⊢
  have HLen : Hid (∀ j, j < kl → l.length + (upT f (j + 1)).length ≤ 140737488355328) := fun j hj => by
    have := upT_le f (j := j + 1) (n := ks.length) (by omega)
    omega
  have HK := hide hk
  have HKL := hide hkl
  have HW0 := hide hw0
  have HG := hide hG
  have HW := hide h
  rw [← hkl]
  clear hf hk hG hw0 h hlen hkl
  go_enter Tryd.func36, Tryd.ntmps36
  go_wp2
  go_loopw [8] (fun c wr => ∃ (j : Nat), j ≤ kl ∧ c = .int .i64 j ∧ Wto w0.heap.size b (l ++ upT f j) nm w wr) (fun c _ => kl - (intOf c).toNat)
  case atStart => exact ⟨0, Nat.zero_le _, rfl, by simpa [upT] using Wto.nil HW.out⟩
  case round =>
    obtain ⟨j, hj, rfl, hto⟩ := hrel
    obtain ⟨w2, hw2⟩ : ∃ w2, w2 = wr := ⟨_, rfl⟩
    subst hw2
    have HT := hide hto
    clear hto HW
    by_cases hlt : j < kl
    · have hjk : j < ks.length := by have := HKL.out; omega
      have hb02 : Below w0.heap.size w0 w2 := HW0.out.trans HT.out.2.1
      obtain ⟨x, rfl, hmx, hcl⟩ : ∃ x, ka = some x ∧ (ks.length ≤ kc ∧ kc ≤ 9223372036854775807) ∧ ∀ j, j < ks.length → NCells w0 (x.add (j * 8)) (vs j) := by
        rcases HK.out with ⟨_, _, _, h0⟩ | ⟨x, h1, _, h2, h3⟩
        · omega
        · exact ⟨x, h1, h2, h3⟩
      obtain ⟨d0, d1, d2, d3, d4, d5, d6, d7⟩ := (hcl j hjk).below hb02
      have hGj := HG.out j hjk
      have hFj := HF.out j hjk
      have hLj := HLen.out j hlt
      have hup : upT f (j + 1) = upT f j ++ f j := rfl
      rw [hup, List.length_append] at hLj
      obtain ⟨v, hv⟩ : ∃ v, v = vs j := ⟨_, rfl⟩
      obtain ⟨T, hTT⟩ : ∃ T, T = shT N ks[j] := ⟨_, rfl⟩
      rw [← hv] at d0 d1 d2 d3 d4 d5 d6 d7 hGj
      rw [← hTT] at hGj hFj
      obtain ⟨w3, hw3⟩ : ∃ w3, w3 = w2.alloc (nvO v) := ⟨_, rfl⟩
      have hX3 : w3.heap[w2.heap.size]? = some (nvO v) := by rw [hw3]; exact at_new _ _
      have hb3 : Below w2.heap.size w2 w3 := by rw [hw3]; exact (Below.refl _ _).alloc (Nat.le_refl _) _
      have hto3 : Wto w0.heap.size b (l ++ upT f j) nm w w3 := HT.out.then hb3
      have HT3 := hide hto3
      have hne : w2.heap.size ≠ b := by have := HT.out.1.lt; omega
      have HXk : Hid (∀ W, Kp b w3 W → NCells W ⟨w2.heap.size, 0, none⟩ v) := fun W hW => nv_cells (hW _ _ _ _ hne (by decide) hX3)
      have HGj : Hid (∀ l W, Below w0.heap.size w W → Wr w0.heap.size b l nm W → l.length + T.length ≤ 140737488355328 → Calls Tryd.prog 20 #[.pointer (some ⟨b, 0, none⟩), nvV v] W fun e w' => e = .returned (.tuple #[]) ∧ Wto w0.heap.size b (l ++ T) nm W w') := fun l W hW => hGj l W (HW0.out.trans hW)
      obtain ⟨q0, q1, q2, q3, q4, q5, q6, q7⟩ := nv_cells hX3
      simp only [nvO] at hw3
      simp only [nvV] at HGj
      have e5 : (j : Int) < (kl : Int) := by omega
      have e6 : (0 : Int) ≤ (j : Int) := by omega
      have hkw : IntKind.i64.wrap ((j : Int) + 1) = (j : Int) + 1 := by rw [IntKind.wrap_i64]; omega
      obtain ⟨bx, hbx⟩ : ∃ bx, bx = w2.heap.size := ⟨_, rfl⟩
      rw [← hbx] at q0 q1 q2 q3 q4 q5 q6 q7 HXk
      clear hb02 hmx hcl hGj hv hTT hX3 hb3 hto3 hjk hne
      have HFj := hide hFj
      have HUp := hide hup
      clear hFj hup
      go_upto_region 3 with fail
      rw [← hw3, ← hbx]
      clear hw3 hbx d0 d1 d2 d3 d4 d5 d6 d7
      by_cases hj0 : j = 0
      · subst hj0
        have HE : Hid (upT f (0 + 1) = upT f 0 ++ T) := by show _ = _; rw [HUp.out, HFj.out]; simp
        have HL : Hid ((l ++ upT f 0).length + T.length ≤ 140737488355328) := by
          have h1 := HFj.out
          rw [if_pos rfl, List.nil_append] at h1
          rw [h1] at hLj
          show _ ≤ _
          rw [List.length_append]; omega
        have HN := hide (HGj.out (l ++ upT f 0) w3 HT3.out.2.1 HT3.out.1 HL.out)
        clear HGj hLj HL
        go_wp2_with fail
        refine HN.out.mono ?_
        rintro e w5 ⟨rfl, hto5⟩
        rw [List.append_assoc, ← HE.out] at hto5
        have HT5 := hide (HT3.out.trans hto5)
        clear hto5 HN HT3 HT q0 q1 q2 q3 q4 q5 q6 q7 HE
        go_wp2
        go_roundw
        case rel => exact ⟨0 + 1, by omega, by go_num, HT5.out⟩
        case measure => simp [intOf]; omega
      · have e7 : (0 : Int) < (j : Int) := by omega
        have HE : Hid (l ++ upT f (j + 1) = l ++ upT f j ++ [124] ++ T) := by show _ = _; rw [HUp.out, HFj.out, if_neg hj0]; simp
        have HL : Hid ((l ++ upT f j).length + (1 + T.length) ≤ 140737488355328) := by
          have h1 := HFj.out
          rw [if_neg hj0] at h1
          rw [h1, List.length_append] at hLj
          show _ ≤ _
          rw [List.length_append]; simp at hLj; omega
        have HP := hide (put1 w0.heap.size b (l ++ upT f j) nm [124] w3 HT3.out.1 (by have := HL.out; simp at this ⊢; omega))
        clear hLj hj0
        simp only [List.toArray] at HP
        clear q0 q1 q2 q3 q4 q5 q6 q7
        go_wp2_with fail
        refine HP.out.mono ?_
        rintro e w4 ⟨rfl, hto4⟩
        have HT4 := hide (HT3.out.trans hto4)
        obtain ⟨q0, q1, q2, q3, q4, q5, q6, q7⟩ := HXk.out w4 hto4.2.2
        have HN := hide (HGj.out (l ++ upT f j ++ [124]) w4 HT4.out.2.1 HT4.out.1 (by have := HL.out; simp at this ⊢; omega))
        clear hto4 HP HGj HL
        go_wp2_with fail
        refine HN.out.mono ?_
        rintro e w5 ⟨rfl, hto5⟩
        rw [← HE.out] at hto5
        have HT5 := hide (HT4.out.trans hto5)
        clear hto5 HN HT3 HT4 HT q0 q1 q2 q3 q4 q5 q6 q7 HE
        go_wp2
        go_roundw
        case rel => exact ⟨j + 1, by omega, by go_num, HT5.out⟩
        case measure => simp [intOf]; omega
    · have e5 : ¬ (j : Int) < (kl : Int) := by omega
      have hjm : j = kl := by omega
      subst hjm
      go_wp2
      go_end0
      exact ⟨rfl, HT.out⟩

set_option maxHeartbeats 4000000 in
set_option maxRecDepth 100000 in
theorem again_any (w0 : World) (b : Nat) (nm : Value) (n : NV) (l : List UInt8) (w : World) (hw0 : Below w0.heap.size w0 w) (hT : Tab w0) (h : Wr w0.heap.size b l nm w) (hnum : 1 ≤ n.num ∧ n.num ≤ 20) (hlen : l.length + (agT n.fold n.num).length ≤ 140737488355328) :
    Calls Tryd.prog 38 #[.pointer (some ⟨b, 0, none⟩), nvV n] w fun e w' => e = .returned (.tuple #[]) ∧ Wto w0.heap.size b (l ++ agT n.fold n.num) nm w w' := by
  obtain ⟨w1, hw1⟩ : ∃ w1, w1 = w.alloc (nvO n) := ⟨_, rfl⟩
  have hX1 : w1.heap[w.heap.size]? = some (nvO n) := by rw [hw1]; exact at_new _ _
  have hb1 : Below w.heap.size w w1 := by rw [hw1]; exact (Below.refl _ w).alloc (Nat.le_refl _) _
  have hto1 : Wto w0.heap.size b l nm w w1 := Wto.put h hb1
  have HT1 := hide hto1
  have HI := hide (itoaT_any n.num (by omega) (by omega) w1 (hT.keep (hw0.trans hto1.2.1)))
  obtain ⟨d0, d1, d2, d3, d4, d5, d6, d7⟩ := nv_cells hX1
  simp only [nvO] at hw1
  obtain ⟨D, hD⟩ : ∃ D, D = decDigits n.num.toNat := ⟨_, rfl⟩
  have hAg : agT n.fold n.num = if n.fold then [40, 63, 105, 58, 92, 107, 60] ++ (D ++ [62, 41]) else [92, 107, 60] ++ (D ++ [62]) := by rw [hD]; rfl
  rw [← hD] at HI
  obtain ⟨fo, hfo⟩ : ∃ fo, fo = n.fold := ⟨_, rfl⟩
  rw [← hfo] at hAg d7
  obtain ⟨R, hR⟩ : ∃ R, R = agT n.fold n.num := ⟨_, rfl⟩
  rw [hfo, ← hR, ← hfo] at hAg
  rw [← hR] at hlen ⊢
  have HLen := hide hlen
  have HRt : Hid (fo = true → R = [40, 63, 105, 58, 92, 107, 60] ++ (D ++ [62, 41])) := fun e => by rw [hAg, if_pos e]
  have HRf : Hid (fo = false → R = [92, 107, 60] ++ (D ++ [62])) := fun e => by rw [hAg, if_neg (by rw [e]; decide)]
  obtain ⟨bx, hbx⟩ : ∃ bx, bx = w.heap.size := ⟨_, rfl⟩
  rw [← hbx] at d0 d1 d2 d3 d4 d5 d6 d7
  obtain ⟨SD, hSD⟩ : ∃ SD : ByteArray, SD = ⟨D.toArray⟩ := ⟨_, rfl⟩
  rw [← hSD] at HI
  have HSD := hide hSD
  clear hw0 hT h hlen hX1 hb1 hto1 hD hAg hSD hnum hR hfo
  go_enter Tryd.func38, Tryd.ntmps38
  go_upto_region 1 with fail
  rw [← hw1, ← hbx]
  clear hw1 hbx
  cases fo with
  | true =>
    have HR := hide (HRt.out rfl)
    clear HRt HRf
    go_wp2_with fail
    refine HI.out.mono ?_
    rintro e w2 ⟨rfl, hb2⟩
    have HT2 := hide (HT1.out.then hb2)
    have HP := hide (put3 w0.heap.size b l nm [40, 63, 105, 58, 92, 107, 60] D [62, 41] w2 HT2.out.1 (by rw [← HR.out]; exact HLen.out))
    rw [← HSD.out, ← HR.out] at HP
    clear hb2 HI HSD d0 d1 d2 d3 d4 d5 d6 d7
    go_wp2_with fail
    refine HP.out.mono ?_
    rintro e w3 ⟨rfl, hto3⟩
    have HT3 := hide (HT2.out.trans hto3)
    clear hto3 HP HLen
    go_wp2
    go_end0
    exact ⟨rfl, HT3.out⟩
  | false =>
    have HR := hide (HRf.out rfl)
    clear HRt HRf
    go_wp2_with fail
    refine HI.out.mono ?_
    rintro e w2 ⟨rfl, hb2⟩
    have HT2 := hide (HT1.out.then hb2)
    have HP := hide (put3 w0.heap.size b l nm [92, 107, 60] D [62] w2 HT2.out.1 (by rw [← HR.out]; exact HLen.out))
    rw [← HSD.out, ← HR.out] at HP
    clear hb2 HI HSD d0 d1 d2 d3 d4 d5 d6 d7
    go_wp2_with fail
    refine HP.out.mono ?_
    rintro e w3 ⟨rfl, hto3⟩
    have HT3 := hide (HT2.out.trans hto3)
    clear hto3 HP HLen
    go_wp2
    go_end0
    exact ⟨rfl, HT3.out⟩

end Go.Proofs.YtpcohmbipbiglaaDoor

namespace Go.Proofs.YtpcohmbipbiglaaDoor
open Go.RowKit
open Go.Lib (byteCells byteCells_append byteCells_length decDigits)
set_option linter.unusedVariables false

theorem alone3 (k : Int) : [(9 : Int), 10, 12].contains k = aloneB k := by
  unfold aloneB
  rw [Bool.eq_iff_iff]
  simp [or_assoc]
set_option maxHeartbeats 8000000 in
set_option maxRecDepth 100000 in
theorem repeat_any (w0 : World) (b : Nat) (nm : Value) (n v : NV) (x : Addr) (T : List UInt8) (hka : n.ka = some x) (hkl : n.kl = 1) (hc0 : NCells w0 x v) (hG : NodeG w0 b nm v T) (l : List UInt8) (w : World) (hw0 : Below w0.heap.size w0 w) (hT : Tab w0) (h : Wr w0.heap.size b l nm w)
    (hle : 0 ≤ n.least ∧ n.least ≤ 100) (hmo : n.most = -1 ∨ (0 ≤ n.most ∧ n.most ≤ 100)) (hlen : l.length + (wrapT (aloneB v.kind) T ++ repT n.least n.most n.way).length ≤ 140737488355328) :
    Calls Tryd.prog 37 #[.pointer (some ⟨b, 0, none⟩), nvV n] w fun e w' => e = .returned (.tuple #[]) ∧ Wto w0.heap.size b (l ++ (wrapT (aloneB v.kind) T ++ repT n.least n.most n.way)) nm w w' := by
  obtain ⟨w1, hw1⟩ : ∃ w1, w1 = w.alloc (nvO n) := ⟨_, rfl⟩
  have hX1 : w1.heap[w.heap.size]? = some (nvO n) := by rw [hw1]; exact at_new _ _
  have hb1 : Below w.heap.size w w1 := by rw [hw1]; exact (Below.refl _ w).alloc (Nat.le_refl _) _
  have hto1 : Wto w0.heap.size b l nm w w1 := Wto.put h hb1
  have HT1 := hide hto1
  obtain ⟨w2, hw2⟩ : ∃ w2, w2 = w1.alloc (.cells #[.int .i64 9, .int .i64 10, .int .i64 12] 3) := ⟨_, rfl⟩
  have hX2 : w2.heap[w1.heap.size]? = some (.cells #[.int .i64 9, .int .i64 10, .int .i64 12] 3) := by rw [hw2]; exact at_new _ _
  have hb2 : Below w1.heap.size w1 w2 := by rw [hw2]; exact (Below.refl _ _).alloc (Nat.le_refl _) _
  have hto2 : Wto w0.heap.size b l nm w w2 := hto1.then hb2
  have HT2 := hide hto2
  have hne : w.heap.size ≠ b := by have := h.lt; omega
  have HXk : Hid (∀ W, Kp b w1 W → NCells W ⟨w.heap.size, 0, none⟩ n) := fun W hW => nv_cells (hW _ _ _ _ hne (by decide) hX1)
  have HK2 : Hid (Kp b w1 w2) := Kp.below hb2
  obtain ⟨A, hA⟩ : ∃ A, A = wrapT (aloneB v.kind) T := ⟨_, rfl⟩
  have hlA : l.length + A.length ≤ 140737488355328 := by rw [hA]; rw [List.length_append] at hlen; omega
  have HPt := hide (part_any w0 b nm v T hG [9, 10, 12] 3 w1.heap.size rfl (by omega) l w2 (ints3 hX2) (hw0.trans hto2.2.1) hto2.1 (by rw [alone3, ← hA]; exact hlA))
  rw [alone3, ← hA] at HPt
  rw [← hA] at hlen ⊢
  have hTab : ∀ W, Below w0.heap.size w W → Tab W := fun W hW => hT.keep (hw0.trans hW)
  obtain ⟨D1, hD1⟩ : ∃ D1, D1 = decDigits n.least.toNat := ⟨_, rfl⟩
  obtain ⟨SD1, hSD1⟩ : ∃ SD1 : ByteArray, SD1 = ⟨D1.toArray⟩ := ⟨_, rfl⟩
  have HSD1 := hide hSD1
  have HI1 : Hid (∀ W, Below w0.heap.size w W → Calls Tryd.prog 55 #[.int .i64 n.least] W fun e w' => e = .returned (.string SD1) ∧ Below W.heap.size W w') := fun W hW => by rw [hSD1, hD1]; exact itoaT_any n.least (by omega) (by omega) W (hTab W hW)
  obtain ⟨D2, hD2⟩ : ∃ D2, D2 = decDigits n.most.toNat := ⟨_, rfl⟩
  obtain ⟨SD2, hSD2⟩ : ∃ SD2 : ByteArray, SD2 = ⟨D2.toArray⟩ := ⟨_, rfl⟩
  have HSD2 := hide hSD2
  have HI2 : Hid (0 ≤ n.most → ∀ W, Below w0.heap.size w W → Calls Tryd.prog 55 #[.int .i64 n.most] W fun e w' => e = .returned (.string SD2) ∧ Below W.heap.size W w') := fun h0 W hW => by rw [hSD2, hD2]; exact itoaT_any n.most h0 (by omega) W (hTab W hW)
  have HWy : Hid (∀ W, Calls Tryd.prog 56 #[.int .i64 n.way] W fun e w' => e = .returned (.string (wayS n.way)) ∧ w' = W) := way_any n.way
  obtain ⟨V, hV⟩ : ∃ V, V = (wayS n.way).data.toList := ⟨_, rfl⟩
  obtain ⟨SV, hSV⟩ : ∃ SV, SV = wayS n.way := ⟨_, rfl⟩
  have HSV : Hid (SV = ⟨V.toArray⟩) := by show _ = _; rw [hSV, hV]
  rw [← hSV] at HWy
  have hR : repT n.least n.most n.way = [123] ++ (D1 ++ ([44] ++ ((if 0 ≤ n.most then D2 else []) ++ ([125] ++ V)))) := by rw [hD1, hD2, hV]; rfl
  rw [hR] at hlen ⊢
  have HLen := hide hlen
  obtain ⟨R, hRR⟩ : ∃ R, R = l ++ (A ++ ([123] ++ (D1 ++ ([44] ++ ((if 0 ≤ n.most then D2 else []) ++ ([125] ++ V)))))) := ⟨_, rfl⟩
  have HRR := hide hRR
  rw [← hRR]
  obtain ⟨least, hleast⟩ : ∃ q, q = n.least := ⟨_, rfl⟩
  obtain ⟨most, hmost⟩ : ∃ q, q = n.most := ⟨_, rfl⟩
  obtain ⟨way, hway⟩ : ∃ q, q = n.way := ⟨_, rfl⟩
  have HXq : Hid (∀ W, Kp b w1 W → W.cell? ⟨w.heap.size, 4, none⟩ = some (.int .i64 least) ∧ W.cell? ⟨w.heap.size, 5, none⟩ = some (.int .i64 most) ∧ W.cell? ⟨w.heap.size, 6, none⟩ = some (.int .i64 way)) := fun W hW => by
    have := HXk.out W hW
    rw [hleast, hmost, hway]
    exact ⟨this.c4, this.c5, this.c6⟩
  obtain ⟨m0, m1, m2, m3, m4, m5, m6, m7⟩ := hc0.below (hw0.trans hto1.2.1)
  obtain ⟨d0, d1, d2, d3, d4, d5, d6, d7⟩ := nv_cells hX1
  rw [hka, hkl] at d2
  simp only [nvO] at hw1
  obtain ⟨bx, hbx⟩ : ∃ bx, bx = w.heap.size := ⟨_, rfl⟩
  rw [← hbx] at d0 d1 d2 d3 d4 d5 d6 d7 HXq
  rw [← hleast] at HI1 d4
  rw [← hmost] at HI2 HLen d5 HRR
  rw [← hway] at HWy d6
  simp only [nvV] at HPt
  clear hka hkl hc0 hG hw0 hT h hle hlen hX1 hb1 hto1 hX2 hb2 hto2 hne hA hlA hTab hD1 hD2 hSD1 hSD2 hV hSV hR hRR HXk hmo
  go_enter Tryd.func37, Tryd.ntmps37
  go_upto_region 1 with fail
  rw [← hw1, ← hbx]
  clear hw1 hbx hleast hmost hway
  go_wp2_with fail
  rw [← hw2]
  clear hw2
  refine HPt.out.mono ?_
  rintro e w3 ⟨rfl, hto3⟩
  have HT3 := hide (HT2.out.trans hto3)
  have HK3 : Hid (Kp b w1 w3) := HK2.out.trans hto3.2.2
  clear hto3 HPt HT2 HK2 d0 d1 d2 d3 d4 d5 d6 d7 m0 m1 m2 m3 m4 m5 m6 m7
  obtain ⟨c4, c5, c6⟩ := HXq.out w3 HK3.out
  go_wp2_with fail
  refine (HI1.out w3 HT3.out.2.1).mono ?_
  rintro e w4 ⟨rfl, hb4⟩
  have HT4 := hide (HT3.out.then hb4)
  have HK4 : Hid (Kp b w1 w4) := HK3.out.trans (Kp.below hb4)
  have HP3 := hide (put3 w0.heap.size b (l ++ A) nm [123] D1 [44] w4 HT4.out.1 (by have := HLen.out; simp at this ⊢; omega))
  rw [← HSD1.out] at HP3
  clear hb4 HI1 HT3 HK3 c4 c5 c6 HSD1
  go_wp2_with fail
  refine HP3.out.mono ?_
  rintro e w5 ⟨rfl, hto5⟩
  have HT5 := hide (HT4.out.trans hto5)
  have HK5 : Hid (Kp b w1 w5) := HK4.out.trans hto5.2.2
  clear hto5 HP3 HT4 HK4
  obtain ⟨c4, c5, c6⟩ := HXq.out w5 HK5.out
  by_cases hm0 : 0 ≤ most
  · rw [if_pos hm0] at HLen HRR
    have HIm := hide (HI2.out hm0)
    clear HI2
    go_wp2_with fail
    refine (HIm.out w5 HT5.out.2.1).mono ?_
    rintro e w6 ⟨rfl, hb6⟩
    have HT6 := hide (HT5.out.then hb6)
    have HK6 : Hid (Kp b w1 w6) := HK5.out.trans (Kp.below hb6)
    have HP1 := hide (put1 w0.heap.size b _ nm D2 w6 HT6.out.1 (by have := HLen.out; simp at this ⊢; omega))
    rw [← HSD2.out] at HP1
    clear hb6 HIm HT5 HK5 c4 c5 c6 HSD2
    go_wp2_with fail
    refine HP1.out.mono ?_
    rintro e w7 ⟨rfl, hto7⟩
    have HT7 := hide (HT6.out.trans hto7)
    have HK7 : Hid (Kp b w1 w7) := HK6.out.trans hto7.2.2
    clear hto7 HP1 HT6 HK6
    obtain ⟨c4, c5, c6⟩ := HXq.out w7 HK7.out
    have HP2 := hide (put2 w0.heap.size b _ nm [125] V w7 HT7.out.1 (by have := HLen.out; simp at this ⊢; omega))
    rw [← HSV.out] at HP2
    clear HSV
    go_wp2_with fail
    refine (HWy.out w7).mono ?_
    rintro e w' ⟨rfl, hh⟩
    have hh2 := hh.symm
    subst hh2
    go_wp2_with fail
    refine HP2.out.mono ?_
    rintro e w8 ⟨rfl, hto8⟩
    have HT8 : Hid (Wto w0.heap.size b R nm w w8) := by
      have := HT7.out.trans hto8
      show Wto _ _ _ _ _ _
      rw [HRR.out]
      simpa using this
    clear hto8 HP2 HT7 HLen
    go_wp2
    go_end0
    exact ⟨rfl, HT8.out⟩
  · rw [if_neg hm0] at HLen HRR
    have hm1 : most < 0 := by omega
    have HP2 := hide (put2 w0.heap.size b _ nm [125] V w5 HT5.out.1 (by have := HLen.out; simp at this ⊢; omega))
    rw [← HSV.out] at HP2
    clear HSV HI2
    go_wp2_with fail
    refine (HWy.out w5).mono ?_
    rintro e w' ⟨rfl, hh⟩
    have hh2 := hh.symm
    subst hh2
    go_wp2_with fail
    refine HP2.out.mono ?_
    rintro e w8 ⟨rfl, hto8⟩
    have HT8 : Hid (Wto w0.heap.size b R nm w w8) := by
      have := HT5.out.trans hto8
      show Wto _ _ _ _ _ _
      rw [HRR.out]
      simpa using this
    clear hto8 HP2 HT5 HLen
    go_wp2
    go_end0
    exact ⟨rfl, HT8.out⟩

end Go.Proofs.YtpcohmbipbiglaaDoor
