/- What strconv.Itoa and slices.Contains answer the writer; the tables stay. -/
import Derived.Test.YtpcohmbipbiglaaDoorWita
import Derived.Test.YtpcohmbipbiglaaDoorWs1
import Derived.Test.YtpcohmbipbiglaaDoorWkp
import Derived.Test.YtpcohmbipbiglaaDoorWs2
import Derived.Deep.RegionWith

namespace Go.Proofs.YtpcohmbipbiglaaDoor
open Go.RowKit
open Go.Lib (byteCells byteCells_append byteCells_length decDigits)
set_option linter.unusedVariables false

/-- the tables of the library. -/
def Tab (w : World) : Prop := Lib.TabIs Tryd.prog w "internal/strconv.uint64pow10" .u64 Lib.pow10Tab ∧ w.cell? ⟨2, 15, none⟩ = some (.int .u8 4)
theorem Tab.keep {w w' : World} (h : Tab w) (hb : Below w.heap.size w w') : Tab w' := by
  refine ⟨?_, below_cell hb (lt_of_cell h.2) h.2⟩
  have h1 := h.1
  unfold Lib.TabIs World.var? at h1 ⊢
  obtain ⟨g, hg⟩ : ∃ g, Tryd.prog.globalNamed "internal/strconv.uint64pow10" = some g := ⟨_, Tryd.itoaL.m17⟩
  rw [hg] at h1 ⊢
  simp only [Option.bind_some] at h1 ⊢
  have : g < w.heap.size := by
    by_cases hlt : g < w.heap.size
    · exact hlt
    · rw [Array.getElem?_eq_none (by omega)] at h1; simp at h1
  rw [hb.block g this]
  exact h1
theorem below_grow (w : World) (q : Nat) (os : Array Obj) : Below w.heap.size w (Sort.grow (w.drewN q) os) := by
  have h1 : Below w.heap.size w (w.drewN q) := by
    refine ⟨?_, ?_, ?_, ?_, fun k hk => ?_⟩
    all_goals first | rfl | exact Nat.le_refl _ | simp
  refine h1.trans ⟨rfl, rfl, rfl, ?_, fun k hk => ?_⟩
  · show (w.drewN q).heap.size ≤ ((w.drewN q).heap ++ os).size
    simp
  · show ((w.drewN q).heap ++ os)[k]? = _
    exact Array.getElem?_append_left (xs := (w.drewN q).heap) hk
theorem itoa_any (n : Nat) (hn : n ≤ 1000) (w : World) (h : Tab w) : Calls Tryd.prog 55 #[.int .i64 (n : Int)] w fun e w' => e = .returned (.string ⟨(decDigits n).toArray⟩) ∧ Below w.heap.size w w' := by
  refine (Any.strconv_Itoa Tryd.itoaL (n : Int) (by omega) (by omega) w h.1).mono ?_
  rintro e w' ⟨rfl, k, os, rfl⟩
  exact ⟨by rw [Lib.itoa_nonneg], below_grow w k os⟩
theorem hexT_any (p : Int) (h0 : 0 ≤ p) (h1 : p ≤ 1114111) (w : World) (h : Tab w) : Calls Tryd.prog 53 #[.int .i64 p] w fun e w' => e = .returned (.string ⟨(hexDigits p.toNat).toArray⟩) ∧ Below w.heap.size w w' := by
  have := hex_any p.toNat (by omega) w h.2
  rw [show ((p.toNat : Nat) : Int) = p by omega] at this
  exact this
theorem itoaT_any (p : Int) (h0 : 0 ≤ p) (h1 : p ≤ 1000) (w : World) (h : Tab w) : Calls Tryd.prog 55 #[.int .i64 p] w fun e w' => e = .returned (.string ⟨(decDigits p.toNat).toArray⟩) ∧ Below w.heap.size w w' := by
  have := itoa_any p.toNat (by omega) w h
  rw [show ((p.toNat : Nat) : Int) = p by omega] at this
  exact this

/-- numbers, laid to be looked through. -/
def Ints (w : World) (g : Nat) (L : List Int) : Prop := ∀ j (h : j < L.length), w.cell? ⟨g, j, none⟩ = some (.int .i64 L[j])
def IdxE (L : List Int) (k : Int) (e : Ending) : Prop := ∃ z : Int, e = .returned (.int .i64 z) ∧ (decide (z ≥ 0) = L.contains k)
set_option maxHeartbeats 2000000 in
set_option maxRecDepth 100000 in
theorem index_any (L : List Int) (m g : Nat) (k : Int) (w : World) (hm : m = L.length) (hg : Ints w g L) (hmx : m ≤ 1000) :
    Calls Tryd.prog 69 #[.slice (some ⟨g, 0, none⟩) m m, .int .i64 k] w fun e w' => IdxE L k e ∧ w' = w := by
  have HM := hide hm
  have HG := hide hg
  clear hm hg
  go_enter Tryd.func69, Tryd.ntmps69
  go_wp2
  go_loopw [8] (fun c wr => ∃ (j : Nat), j ≤ m ∧ c = .int .i64 j ∧ (∀ i (h : i < L.length), i < j → L[i] ≠ k) ∧ wr = w) (fun c _ => m - (intOf c).toNat)
  case atStart => exact ⟨0, Nat.zero_le _, rfl, fun i _ h => absurd h (by omega), rfl⟩
  case round =>
    obtain ⟨j, hj, rfl, hne, hwr⟩ := hrel
    have hwr2 := hwr.symm
    subst hwr2
    have HN := hide hne
    clear hne
    by_cases hlt : j < m
    · have hjL : j < L.length := by have := HM.out; omega
      have e1 : (j : Int) < (m : Int) := by omega
      have e0 : (0 : Int) ≤ (j : Int) := by omega
      have cj := HG.out j hjL
      have hjw : IntKind.i64.wrap ((j : Int) + 1) = (j : Int) + 1 := by rw [IntKind.wrap_i64]; omega
      have HT : Hid (L[j] = k → L.contains k = true) := fun h => by rw [← h]; simp
      have HF : Hid (L[j] ≠ k → ∀ i (h : i < L.length), i < j + 1 → L[i] ≠ k) := fun h i hi hij => by
        by_cases e : i = j
        · subst e; exact h
        · exact HN.out i hi (by omega)
      obtain ⟨a, ha⟩ : ∃ a, a = L[j] := ⟨_, rfl⟩
      rw [← ha] at cj HT HF
      clear ha hjL
      by_cases hk : a = k
      · have HC := hide (HT.out hk)
        have b1 : (k == a) = true := by simp [hk]
        have b2 : (a == k) = true := by simp [hk]
        subst hk
        clear HT HF HN
        go_wp2
        go_ret
        exact ⟨⟨_, rfl, by rw [HC.out]; simp⟩, rfl⟩
      · have HC := hide (HF.out hk)
        have b1 : (k == a) = false := by simp; exact fun h => hk h.symm
        have b2 : (a == k) = false := by simpa using hk
        have b3 : ¬ k = a := fun h => hk h.symm
        clear HT HF HN
        go_wp2
        go_roundw
        case rel => exact ⟨j + 1, by omega, by go_num, HC.out, by first | rfl | trivial⟩
        case measure => simp [intOf]; omega
    · have e1 : ¬ (j : Int) < (m : Int) := by omega
      have HC : Hid (L.contains k = false) := by
        show _ = _
        rw [Bool.eq_false_iff]
        intro h
        obtain ⟨i, hi, e⟩ := List.mem_iff_getElem.1 (by simpa using h)
        exact HN.out i hi (by have := HM.out; omega) e
      clear HN
      go_wp2
      go_ret
      exact ⟨⟨_, rfl, by rw [HC.out]; decide⟩, rfl⟩
set_option maxHeartbeats 2000000 in
set_option maxRecDepth 100000 in
theorem contains_any (L : List Int) (m g : Nat) (k : Int) (w : World) (hm : m = L.length) (hg : Ints w g L) (hmx : m ≤ 1000) :
    Calls Tryd.prog 63 #[.slice (some ⟨g, 0, none⟩) m m, .int .i64 k] w fun e w' => e = .returned (.bool (L.contains k)) ∧ w' = w := by
  have HC := hide (index_any L m g k w hm hg hmx)
  clear hm hg
  go_enter Tryd.func63, Tryd.ntmps63
  go_wp2_with fail
  refine HC.out.mono ?_
  rintro e w' ⟨⟨z, rfl, hz⟩, rfl⟩
  have HZ := hide hz
  clear hz HC
  have HF : Hid (decide (0 ≤ z) = L.contains k) := by show _ = _; rw [← HZ.out]
  clear HZ
  go_wp2
  go_ret
  exact ⟨by rw [← HF.out]; rfl, rfl⟩

end Go.Proofs.YtpcohmbipbiglaaDoor

namespace Go.Proofs.YtpcohmbipbiglaaDoor
open Go.RowKit
open Go.Lib (byteCells byteCells_append byteCells_length decDigits)
set_option linter.unusedVariables false

theorem openT_13 (N : NmL) (num : Int) : openT N 13 num = [40, 63, 62] := rfl
theorem openT_14 (N : NmL) (num : Int) : openT N 14 num = [40, 63, 61] := rfl
theorem openT_15 (N : NmL) (num : Int) : openT N 15 num = [40, 63, 33] := rfl
theorem openT_16 (N : NmL) (num : Int) : openT N 16 num = [40, 63, 60, 61] := rfl
theorem openT_17 (N : NmL) (num : Int) : openT N 17 num = [40, 63, 60, 33] := rfl
theorem openT_11 (N : NmL) (num : Int) : openT N 11 num = nameT N num := rfl
theorem Wr.names {B b : Nat} {l : List UInt8} {nm : Value} {w : World} (h : Wr B b l nm w) : w.cell? ⟨b, 2, none⟩ = some nm := by
  rcases h with ⟨h1, v, h2, _⟩ | ⟨h1, v, h2, _⟩ <;> exact (wcell h2).2.2.1

set_option maxHeartbeats 2000000 in
set_option maxRecDepth 100000 in
theorem opening_look (B b : Nat) (l : List UInt8) (nm : Value) (N : NmL) (n : NV) (w : World) (h : Wr B b l nm w) (hk : 13 ≤ n.kind ∧ n.kind ≤ 17) :
    Calls Tryd.prog 40 #[.pointer (some ⟨b, 0, none⟩), nvV n] w fun e w' => e = .returned (.string ⟨(openT N n.kind n.num).toArray⟩) ∧ Below w.heap.size w w' := by
  obtain ⟨w1, hw1⟩ : ∃ w1, w1 = w.alloc (nvO n) := ⟨_, rfl⟩
  have hX1 : w1.heap[w.heap.size]? = some (nvO n) := by rw [hw1]; exact at_new _ _
  have HB1 : Hid (Below w.heap.size w w1) := by show Below _ _ _; rw [hw1]; exact (Below.refl _ w).alloc (Nat.le_refl _) _
  obtain ⟨d0, d1, d2, d3, d4, d5, d6, d7⟩ := nv_cells hX1
  simp only [nvO] at hw1
  rcases (by omega : n.kind = 13 ∨ n.kind = 14 ∨ n.kind = 15 ∨ n.kind = 16 ∨ n.kind = 17) with e | e | e | e | e <;>
    (have HE := hide e
     rw [e] at d0
     clear hX1 e hk h
     go_enter Tryd.func40, Tryd.ntmps40
     go_upto_region 1 with fail
     rw [← hw1]
     clear hw1
     go_wp2
     go_ret
     refine ⟨?_, HB1.out⟩
     rw [HE.out]
     first | rw [openT_13] | rw [openT_14] | rw [openT_15] | rw [openT_16] | rw [openT_17]
     rfl)

set_option maxHeartbeats 4000000 in
set_option maxRecDepth 100000 in
theorem opening_group (w0 : World) (b : Nat) (l : List UInt8) (na : Option Addr) (nl nc : Nat) (N : NmL) (n : NV) (w : World) (h : Wr w0.heap.size b l (.slice na nl nc) w) (hw0 : Below w0.heap.size w0 w) (hN : NamesC w0 (.slice na nl nc) N) (htw : NoTw N N.length) (hnz : ∀ i, i < N.length → (ntx N i).size ≤ 1048576) (hk : n.kind = 11) :
    Calls Tryd.prog 40 #[.pointer (some ⟨b, 0, none⟩), nvV n] w fun e w' => e = .returned (.string ⟨(openT N n.kind n.num).toArray⟩) ∧ Below w.heap.size w w' := by
  rw [hk, openT_11]
  obtain ⟨R, hR⟩ : ∃ R : ByteArray, R = ⟨(nameT N n.num).toArray⟩ := ⟨_, rfl⟩
  have HR : Hid (∀ T, NameAt N n.num T → R = ⟨T.toArray⟩) := fun T hT => by rw [hR, NameAt.one htw (NameAt.nameT N n.num) hT]
  rw [← hR]
  obtain ⟨w1, hw1⟩ : ∃ w1, w1 = w.alloc (nvO n) := ⟨_, rfl⟩
  have hX1 : w1.heap[w.heap.size]? = some (nvO n) := by rw [hw1]; exact at_new _ _
  have hb1 : Below w.heap.size w w1 := by rw [hw1]; exact (Below.refl _ w).alloc (Nat.le_refl _) _
  have HB1 := hide hb1
  have HX1 := hide hX1
  have hnm := (h.keep hb1).names
  have hnl : nl = N.length := by
    rcases hN with ⟨e, rfl⟩ | ⟨x, c, e, _⟩
    · injection e
    · injection e
  have HNL := hide hnl
  have HNZ := hide hnz
  have HNM : Hid (∀ W, Below w.heap.size w W → ∀ j, j < nl → ∃ x, na = some x ∧ nl ≤ nc ∧ nc ≤ 9223372036854775807 ∧ W.cell? (x.add (j * 2)) = some (.string (ntx N j)) ∧ W.cell? ⟨(x.add (j * 2)).block, (x.add (j * 2)).off + 1, none⟩ = some (.int .i64 (nnx N j))) := fun W hW j hj => by
    have hbW : Below w0.heap.size w0 W := hw0.trans (hW.mono hw0.size)
    rcases hN with ⟨e, rfl⟩ | ⟨x, c, e, hc, hcl⟩
    · rw [hnl] at hj; simp at hj
    · have hj' : j < N.length := by omega
      injection e with e1 e2 e3
      refine ⟨x, e1, by omega, by omega, ?_⟩
      rw [ntx_at hj', nnx_at hj']
      exact ⟨below_cell hbW (lt_of_cell (hcl j hj').1) (hcl j hj').1, below_cell hbW (lt_of_cell (hcl j hj').2) (hcl j hj').2⟩
  obtain ⟨d0, d1, d2, d3, d4, d5, d6, d7⟩ := nv_cells hX1
  simp only [nvO] at hw1
  have d0' : w1.cell? ⟨w.heap.size, 0, none⟩ = some (.int .i64 11) := by rw [← hk]; exact d0
  have HK := hide hk
  have HNN : Hid (nl = 0 → na = none ∧ nc = 0 ∨ True) := fun _ => .inr trivial
  obtain ⟨num, hnum⟩ : ∃ num, num = n.num := ⟨_, rfl⟩
  rw [← hnum] at HR
  have HNum := hide hnum
  clear h hw0 hN htw hnz hb1 hX1 hk hnl hR d0 hnum HNN
  go_enter Tryd.func40, Tryd.ntmps40
  go_upto_region 1 with fail
  rw [← hw1]
  clear hw1
  go_wp2
  go_loopw [24] (fun c wr => ∃ (j : Nat), j ≤ nl ∧ c = .int .i64 j ∧ (∀ i, i < j → nnx N i ≠ num) ∧ wr.heap[w.heap.size]? = some (nvO n) ∧ Below w.heap.size w wr) (fun c _ => nl - (intOf c).toNat)
  case atStart => exact ⟨0, Nat.zero_le _, rfl, fun i hi => absurd hi (by omega), HX1.out, HB1.out⟩
  case round =>
    obtain ⟨j, hj, rfl, hne, hX, hb⟩ := hrel
    obtain ⟨w2, hw2⟩ : ∃ w2, w2 = wr := ⟨_, rfl⟩
    subst hw2
    have HN := hide hne
    have HX := hide hX
    have HB := hide hb
    clear hne hX hb d1 d2 d3 d4 d5 d6 d7 d0' hnm HX1 HB1
    by_cases hlt : j < nl
    · obtain ⟨x, hna, hc1, hc2, m0, m1⟩ := HNM.out w2 HB.out j hlt
      subst hna
      have hsz := HNZ.out j (by have := HNL.out; omega)
      have HT : Hid (nnx N j = num → R = ⟨#[40, 63, 60]⟩ ++ ntx N j ++ ⟨#[62]⟩) := fun e => by
        rw [HR.out _ (.inl ⟨j, by have := HNL.out; omega, e, rfl⟩)]
        apply ByteArray.ext
        rw [ByteArray.data_append, ByteArray.data_append]
        apply Array.ext'
        simp
      have HF : Hid (nnx N j ≠ num → ∀ i, i < j + 1 → nnx N i ≠ num) := fun e i hi => by
        by_cases hij : i = j
        · rw [hij]; exact e
        · exact HN.out i (by omega)
      obtain ⟨a, ha⟩ : ∃ a, a = ntx N j := ⟨_, rfl⟩
      obtain ⟨nu, hnu⟩ : ∃ nu, nu = nnx N j := ⟨_, rfl⟩
      rw [← ha] at m0 hsz HT
      rw [← hnu] at m1 HT HF
      obtain ⟨w3, hw3⟩ : ∃ w3, w3 = w2.alloc (nmO a nu) := ⟨_, rfl⟩
      have hX3 : w3.heap[w2.heap.size]? = some (nmO a nu) := by rw [hw3]; exact at_new _ _
      have hXn : w3.heap[w.heap.size]? = some (nvO n) := by rw [hw3]; exact at_old HX.out
      have HXn := hide hXn
      have HB3 : Hid (Below w.heap.size w w3) := by show Below _ _ _; rw [hw3]; exact HB.out.alloc HB.out.size _
      obtain ⟨bx, hbx⟩ : ∃ bx, bx = w2.heap.size := ⟨_, rfl⟩
      rw [← hbx] at hX3
      obtain ⟨f0, f1⟩ := nm_cells hX3
      have q3 := (nv_cells hXn).c3
      rw [← HNum.out] at q3
      have e5 : (j : Int) < (nl : Int) := by omega
      have e6 : (0 : Int) ≤ (j : Int) := by omega
      have hkw : IntKind.i64.wrap ((j : Int) + 1) = (j : Int) + 1 := by rw [IntKind.wrap_i64]; omega
      have z1 : ¬ (9223372036854775807 < ((⟨#[40, 63, 60]⟩ : ByteArray)).size + a.size) := by have : ((⟨#[40, 63, 60]⟩ : ByteArray)).size = 3 := rfl; omega
      have z2 : ¬ (9223372036854775807 < ((⟨#[40, 63, 60]⟩ : ByteArray) ++ a).size + ((⟨#[62]⟩ : ByteArray)).size) := by rw [ByteArray.size_append]; have : ((⟨#[40, 63, 60]⟩ : ByteArray)).size = 3 := rfl; have h2 : ((⟨#[62]⟩ : ByteArray)).size = 1 := rfl; omega
      simp only [nmO] at hw3
      clear hX3 hXn ha hnu HX HB hsz hc1 hc2
      go_upto_region 15 with fail
      rw [← hw3, ← hbx]
      clear hw3 hbx m0 m1
      by_cases hq : nu = num
      · have HF' := hide (HT.out hq)
        have b1 : (nu == num) = true := by simp [hq]
        clear HT HF
        subst hq
        go_wp2
        go_ret
        exact ⟨by rw [HF'.out]; rfl, HB3.out⟩
      · have HF' := hide (HF.out hq)
        have b1 : (nu == num) = false := by simpa using hq
        clear HT HF
        go_wp2
        go_roundw
        case rel => exact ⟨j + 1, by omega, by go_num, HF'.out, HXn.out, HB3.out⟩
        case measure => simp [intOf]; omega
    · have e5 : ¬ (j : Int) < (nl : Int) := by omega
      have HF : Hid (R = ⟨#[40]⟩) := HR.out [40] (.inr ⟨fun i hi => HN.out i (by have := HNL.out; omega), rfl⟩)
      clear HN
      go_wp2
      go_ret
      exact ⟨by rw [HF.out]; rfl, HB.out⟩

theorem opening_any (w0 : World) (b : Nat) (l : List UInt8) (na : Option Addr) (nl nc : Nat) (N : NmL) (n : NV) (w : World) (h : Wr w0.heap.size b l (.slice na nl nc) w) (hw0 : Below w0.heap.size w0 w) (hN : NamesC w0 (.slice na nl nc) N) (htw : NoTw N N.length) (hnz : ∀ i, i < N.length → (ntx N i).size ≤ 1048576) (hk : n.kind = 11 ∨ (13 ≤ n.kind ∧ n.kind ≤ 17)) :
    Calls Tryd.prog 40 #[.pointer (some ⟨b, 0, none⟩), nvV n] w fun e w' => e = .returned (.string ⟨(openT N n.kind n.num).toArray⟩) ∧ Below w.heap.size w w' := by
  rcases hk with hk | hk
  · exact opening_group w0 b l na nl nc N n w h hw0 hN htw hnz hk
  · exact opening_look w0.heap.size b l _ N n w h hk

end Go.Proofs.YtpcohmbipbiglaaDoor

namespace Go.Proofs.YtpcohmbipbiglaaDoor
open Go.RowKit
open Go.Lib (byteCells byteCells_append byteCells_length decDigits)
set_option linter.unusedVariables false

theorem txt1 {w : World} {g : Nat} {s : List UInt8} {fr : Nat × Nat} (h : w.heap[g]? = some (.cells #[.string ⟨s.toArray⟩] 9 fr)) : Txt w g [s] := ⟨_, _, h, fun j hj => by
  have : j = 0 := by simp at hj; omega
  subst this; rfl⟩
theorem txt2 {w : World} {g : Nat} {s t : List UInt8} {fr : Nat × Nat} (h : w.heap[g]? = some (.cells #[.string ⟨s.toArray⟩, .string ⟨t.toArray⟩] 9 fr)) : Txt w g [s, t] := ⟨_, _, h, fun j hj => by
  rcases (by simp at hj; omega : j = 0 ∨ j = 1) with rfl | rfl <;> rfl⟩
theorem txt3 {w : World} {g : Nat} {s t u : List UInt8} {fr : Nat × Nat} (h : w.heap[g]? = some (.cells #[.string ⟨s.toArray⟩, .string ⟨t.toArray⟩, .string ⟨u.toArray⟩] 9 fr)) : Txt w g [s, t, u] := ⟨_, _, h, fun j hj => by
  rcases (by simp at hj; omega : j = 0 ∨ j = 1 ∨ j = 2) with rfl | rfl | rfl <;> rfl⟩
theorem txt5 {w : World} {g : Nat} {s t u v x : List UInt8} {fr : Nat × Nat} (h : w.heap[g]? = some (.cells #[.string ⟨s.toArray⟩, .string ⟨t.toArray⟩, .string ⟨u.toArray⟩, .string ⟨v.toArray⟩, .string ⟨x.toArray⟩] 9 fr)) : Txt w g [s, t, u, v, x] := ⟨_, _, h, fun j hj => by
  rcases (by simp at hj; omega : j = 0 ∨ j = 1 ∨ j = 2 ∨ j = 3 ∨ j = 4) with rfl | rfl | rfl | rfl | rfl <;> rfl⟩
/-- a text is added. -/
theorem put1 (B b : Nat) (l : List UInt8) (nm : Value) (s : List UInt8) (w : World) (h : Wr B b l nm w) (hlen : l.length + s.length ≤ 140737488355328) :
    Calls Tryd.prog 39 #[.pointer (some ⟨b, 0, none⟩), .slice (some ⟨w.heap.size, 0, none⟩) 1 1] (w.alloc (.cells #[.string ⟨s.toArray⟩] 9)) fun e w' => e = .returned (.tuple #[]) ∧ Wto B b (l ++ s) nm w w' := by
  have hb : Below w.heap.size w (w.alloc (.cells #[.string ⟨s.toArray⟩] 9)) := (Below.refl _ w).alloc (Nat.le_refl _) _
  have hlt := h.lt
  refine (add_any B b l nm [s] 1 w.heap.size _ rfl (h.keep hb) (txt1 (at_new _ _)) (by omega) (by simpa using hlen) (by have := hb.size; omega) (by omega)).mono ?_
  rintro e w' ⟨rfl, hto⟩
  exact ⟨rfl, (Wto.put h hb).trans (by simpa using hto)⟩
theorem put2 (B b : Nat) (l : List UInt8) (nm : Value) (s t : List UInt8) (w : World) (h : Wr B b l nm w) (hlen : l.length + (s ++ t).length ≤ 140737488355328) :
    Calls Tryd.prog 39 #[.pointer (some ⟨b, 0, none⟩), .slice (some ⟨w.heap.size, 0, none⟩) 2 2] (w.alloc (.cells #[.string ⟨s.toArray⟩, .string ⟨t.toArray⟩] 9)) fun e w' => e = .returned (.tuple #[]) ∧ Wto B b (l ++ (s ++ t)) nm w w' := by
  have hb : Below w.heap.size w (w.alloc (.cells #[.string ⟨s.toArray⟩, .string ⟨t.toArray⟩] 9)) := (Below.refl _ w).alloc (Nat.le_refl _) _
  have hlt := h.lt
  refine (add_any B b l nm [s, t] 2 w.heap.size _ rfl (h.keep hb) (txt2 (at_new _ _)) (by omega) (by simpa using hlen) (by have := hb.size; omega) (by omega)).mono ?_
  rintro e w' ⟨rfl, hto⟩
  exact ⟨rfl, (Wto.put h hb).trans (by simpa using hto)⟩
theorem put3 (B b : Nat) (l : List UInt8) (nm : Value) (s t u : List UInt8) (w : World) (h : Wr B b l nm w) (hlen : l.length + (s ++ (t ++ u)).length ≤ 140737488355328) :
    Calls Tryd.prog 39 #[.pointer (some ⟨b, 0, none⟩), .slice (some ⟨w.heap.size, 0, none⟩) 3 3] (w.alloc (.cells #[.string ⟨s.toArray⟩, .string ⟨t.toArray⟩, .string ⟨u.toArray⟩] 9)) fun e w' => e = .returned (.tuple #[]) ∧ Wto B b (l ++ (s ++ (t ++ u))) nm w w' := by
  have hb : Below w.heap.size w (w.alloc (.cells #[.string ⟨s.toArray⟩, .string ⟨t.toArray⟩, .string ⟨u.toArray⟩] 9)) := (Below.refl _ w).alloc (Nat.le_refl _) _
  have hlt := h.lt
  refine (add_any B b l nm [s, t, u] 3 w.heap.size _ rfl (h.keep hb) (txt3 (at_new _ _)) (by omega) (by simpa using hlen) (by have := hb.size; omega) (by omega)).mono ?_
  rintro e w' ⟨rfl, hto⟩
  exact ⟨rfl, (Wto.put h hb).trans (by simpa using hto)⟩
theorem put5 (B b : Nat) (l : List UInt8) (nm : Value) (s t u v x : List UInt8) (w : World) (h : Wr B b l nm w) (hlen : l.length + (s ++ (t ++ (u ++ (v ++ x)))).length ≤ 140737488355328) :
    Calls Tryd.prog 39 #[.pointer (some ⟨b, 0, none⟩), .slice (some ⟨w.heap.size, 0, none⟩) 5 5] (w.alloc (.cells #[.string ⟨s.toArray⟩, .string ⟨t.toArray⟩, .string ⟨u.toArray⟩, .string ⟨v.toArray⟩, .string ⟨x.toArray⟩] 9)) fun e w' => e = .returned (.tuple #[]) ∧ Wto B b (l ++ (s ++ (t ++ (u ++ (v ++ x))))) nm w w' := by
  have hb : Below w.heap.size w (w.alloc (.cells #[.string ⟨s.toArray⟩, .string ⟨t.toArray⟩, .string ⟨u.toArray⟩, .string ⟨v.toArray⟩, .string ⟨x.toArray⟩] 9)) := (Below.refl _ w).alloc (Nat.le_refl _) _
  have hlt := h.lt
  refine (add_any B b l nm [s, t, u, v, x] 5 w.heap.size _ rfl (h.keep hb) (txt5 (at_new _ _)) (by omega) (by simpa using hlen) (by have := hb.size; omega) (by omega)).mono ?_
  rintro e w' ⟨rfl, hto⟩
  exact ⟨rfl, (Wto.put h hb).trans (by simpa using hto)⟩

end Go.Proofs.YtpcohmbipbiglaaDoor

namespace Go.Proofs.YtpcohmbipbiglaaDoor
open Go.RowKit
open Go.Lib (byteCells byteCells_append byteCells_length decDigits)
set_option linter.unusedVariables false

abbrev rgO (a b : Int) : Obj := .cells #[.int .i64 a, .int .i64 b] 59
theorem rg_cells {w : World} {k : Nat} {a b : Int} (h : w.heap[k]? = some (rgO a b)) : w.cell? ⟨k, 0, none⟩ = some (.int .i64 a) ∧ w.cell? ⟨k, 1, none⟩ = some (.int .i64 b) := by
  constructor <;> simp [World.cell?, h]
set_option maxHeartbeats 4000000 in
set_option maxRecDepth 100000 in
theorem set_none (B b : Nat) (l : List UInt8) (nm : Value) (sa : Option Addr) (sc : Nat) (w : World) (h : Wr B b l nm w) (hlen : l.length + noneT.length ≤ 140737488355328) :
    Calls Tryd.prog 34 #[.pointer (some ⟨b, 0, none⟩), .slice sa 0 sc] w fun e w' => e = .returned (.tuple #[]) ∧ Wto B b (l ++ noneT) nm w w' := by
  have HP := hide (put1 B b l nm noneT w h hlen)
  simp only [noneT] at HP
  have HR : Hid (noneT = [91, 94, 92, 120, 123, 48, 125, 45, 92, 120, 123, 49, 48, 102, 102, 102, 102, 125, 93]) := rfl
  rw [HR.out]
  clear h hlen
  go_enter Tryd.func34, Tryd.ntmps34
  go_wp2_with fail
  refine HP.out.mono ?_
  rintro e w' ⟨rfl, hto⟩
  have HT := hide hto
  clear hto HP
  go_wp2
  try simp only [Exit.inBlock, Exit.then]
  refine bodyPost_ret (results_none rfl _ _ _) rfl ?_
  exact ⟨rfl, HT.out⟩
set_option maxHeartbeats 4000000 in
set_option maxRecDepth 100000 in
theorem set_some (w0 : World) (b : Nat) (l : List UInt8) (nm : Value) (x : Addr) (sl sc : Nat) (S : RL) (w : World) (h : Wr w0.heap.size b l nm w) (hw0 : Below w0.heap.size w0 w) (hT : Tab w0) (hsl : sl = S.length) (hS : Cells2 w0 x S) (hok : ∀ r ∈ S, okR r) (h4 : S.length ≤ 400) (h0 : S.length ≠ 0) (hlen : l.length + (setT S).length ≤ 140737488355328) :
    Calls Tryd.prog 34 #[.pointer (some ⟨b, 0, none⟩), .slice (some x) sl sc] w fun e w' => e = .returned (.tuple #[]) ∧ Wto w0.heap.size b (l ++ setT S) nm w w' := by
  have hST : setT S = [91] ++ (upT (rngAt S) S.length ++ [93]) := by unfold setT; rw [if_neg h0]
  have HST := hide hST
  have hL : (setT S).length = 1 + ((upT (rngAt S) S.length).length + 1) := by rw [hST]; simp; omega
  have HP1 := hide (put1 w0.heap.size b l nm [91] w h (by simp; omega))
  have HPend : Hid (∀ W, Wr w0.heap.size b (l ++ ([91] ++ upT (rngAt S) sl)) nm W → Calls Tryd.prog 39 #[.pointer (some ⟨b, 0, none⟩), .slice (some ⟨W.heap.size, 0, none⟩) 1 1] (W.alloc (.cells #[.string ⟨[93].toArray⟩] 9)) fun e w' => e = .returned (.tuple #[]) ∧ Wto w0.heap.size b (l ++ setT S) nm W w') := fun W hW => by
    have := put1 w0.heap.size b _ nm [93] W hW (by rw [hsl]; simp; omega)
    rw [hST, ← hsl]
    simpa using this
  have HLen : Hid (∀ j, j < sl → l.length + (1 + (upT (rngAt S) (j + 1)).length) ≤ 140737488355328) := fun j hj => by
    have := upT_le (rngAt S) (j := j + 1) (n := S.length) (by omega)
    omega
  have hsl0 : ¬ (sl : Int) = 0 := by omega
  have hsb : ((sl : Int) == 0) = false := by simp; omega
  have hsl4 : sl ≤ 400 := by omega
  have HSL := hide hsl
  have HCl : Hid (∀ W, Below w0.heap.size w0 W → ∀ j (hj : j < S.length), W.cell? (x.add (j * 2)) = some (.int .i64 S[j].1) ∧ W.cell? ⟨(x.add (j * 2)).block, (x.add (j * 2)).off + 1, none⟩ = some (.int .i64 S[j].2)) := fun W hW j hj =>
    ⟨below_cell hW (lt_of_cell (hS j hj).1) (hS j hj).1, below_cell hW (lt_of_cell (hS j hj).2) (hS j hj).2⟩
  have HOk := hide hok
  have HW0 := hide hw0
  have HTb := hide hT
  clear h hw0 hT hsl hS hok h4 h0 hlen hST hL
  simp only [List.toArray] at HP1 HPend
  go_enter Tryd.func34, Tryd.ntmps34
  go_wp2_with fail
  refine HP1.out.mono ?_
  rintro e w1 ⟨rfl, hto⟩
  have HT1 := hide hto
  clear hto HP1
  go_wp2
  go_loopw [17] (fun c wr => ∃ (j : Nat), j ≤ sl ∧ c = .int .i64 j ∧ Wto w0.heap.size b (l ++ ([91] ++ upT (rngAt S) j)) nm w wr) (fun c _ => sl - (intOf c).toNat)
  case atStart => exact ⟨0, Nat.zero_le _, rfl, HT1.out⟩
  case round =>
    obtain ⟨j, hj, rfl, hto⟩ := hrel
    obtain ⟨w2, hw2⟩ : ∃ w2, w2 = wr := ⟨_, rfl⟩
    subst hw2
    have HT := hide hto
    clear hto HT1
    by_cases hlt : j < sl
    · have hjS : j < S.length := by have := HSL.out; omega
      have hb02 : Below w0.heap.size w0 w2 := HW0.out.trans HT.out.2.1
      obtain ⟨m0, m1⟩ := HCl.out w2 hb02 j hjS
      have hokj := HOk.out S[j] (List.getElem_mem hjS)
      have hup : upT (rngAt S) (j + 1) = upT (rngAt S) j ++ rngT S[j] := by rw [upT, rngAt_at _ _ hjS]
      have hlenj := HLen.out j hlt
      rw [hup, List.length_append] at hlenj
      obtain ⟨r, hr⟩ : ∃ r, r = S[j] := ⟨_, rfl⟩
      rw [← hr] at m0 m1 hokj hup hlenj
      obtain ⟨p, q⟩ := r
      obtain ⟨o1, o2, o3⟩ := hokj
      simp only at m0 m1 o1 o2 o3
      obtain ⟨w3, hw3⟩ : ∃ w3, w3 = w2.alloc (rgO p q) := ⟨_, rfl⟩
      have hX3 : w3.heap[w2.heap.size]? = some (rgO p q) := by rw [hw3]; exact at_new _ _
      have hb3 : Below w2.heap.size w2 w3 := by rw [hw3]; exact (Below.refl _ _).alloc (Nat.le_refl _) _
      have hs2 : w0.heap.size ≤ w2.heap.size := hb02.size
      have hto3 : Wto w0.heap.size b (l ++ ([91] ++ upT (rngAt S) j)) nm w w3 := HT.out.then hb3
      have HT3 := hide hto3
      obtain ⟨bx, hbx⟩ : ∃ bx, bx = w2.heap.size := ⟨_, rfl⟩
      rw [← hbx] at hX3
      have HX3 : Hid (∀ W, Below w3.heap.size w3 W → W.cell? ⟨bx, 0, none⟩ = some (.int .i64 p) ∧ W.cell? ⟨bx, 1, none⟩ = some (.int .i64 q)) := fun W hW => rg_cells (by rw [hW.block _ (lt_of_block hX3)]; exact hX3)
      have hTab3 : ∀ W, Below w3.heap.size w3 W → Tab W := fun W hW => HTb.out.keep (HW0.out.trans (hto3.2.1.trans (hW.mono (by have := hb3.size; omega))))
      obtain ⟨Hp, hHp⟩ : ∃ Hp, Hp = hexDigits p.toNat := ⟨_, rfl⟩
      obtain ⟨Hq, hHq⟩ : ∃ Hq, Hq = hexDigits q.toNat := ⟨_, rfl⟩
      have HH1 : Hid (∀ W, Below w3.heap.size w3 W → Calls Tryd.prog 53 #[.int .i64 p] W fun e w' => e = .returned (.string ⟨Hp.toArray⟩) ∧ Below W.heap.size W w') := fun W hW => by rw [hHp]; exact hexT_any p o1 (by omega) W (hTab3 W hW)
      have HH2 : Hid (∀ W, Below w3.heap.size w3 W → Calls Tryd.prog 53 #[.int .i64 q] W fun e w' => e = .returned (.string ⟨Hq.toArray⟩) ∧ Below W.heap.size W w') := fun W hW => by rw [hHq]; exact hexT_any q (by omega) o3 W (hTab3 W hW)
      have HNx : Hid (l ++ ([91] ++ upT (rngAt S) j) ++ ([92, 120, 123] ++ (Hp ++ ([125, 45, 92, 120, 123] ++ (Hq ++ [125])))) = l ++ ([91] ++ upT (rngAt S) (j + 1))) := by
        show _ = _
        rw [hup, hHp, hHq]
        simp [rngT]
      have HP5 : Hid (∀ W, Below w3.heap.size w3 W → Calls Tryd.prog 39 #[.pointer (some ⟨b, 0, none⟩), .slice (some ⟨W.heap.size, 0, none⟩) 5 5] (W.alloc (.cells #[.string ⟨#[92, 120, 123]⟩, .string ⟨Hp.toArray⟩, .string ⟨#[125, 45, 92, 120, 123]⟩, .string ⟨Hq.toArray⟩, .string ⟨#[125]⟩] 9)) fun e w' => e = .returned (.tuple #[]) ∧ Wto w0.heap.size b (l ++ ([91] ++ upT (rngAt S) (j + 1))) nm W w') := fun W hW => by
        have := put5 w0.heap.size b (l ++ ([91] ++ upT (rngAt S) j)) nm [92, 120, 123] Hp [125, 45, 92, 120, 123] Hq [125] W (HT3.out.1.keep hW) (by
          have e : rngT (p, q) = [92, 120, 123] ++ (Hp ++ ([125, 45, 92, 120, 123] ++ (Hq ++ [125]))) := by rw [hHp, hHq]; rfl
          rw [← e, List.length_append, List.length_append]
          simp only [List.length_cons, List.length_nil]
          omega)
        rw [HNx.out] at this
        exact this
      have HWto : Hid (∀ W, Below w3.heap.size w3 W → Wto w0.heap.size b (l ++ ([91] ++ upT (rngAt S) j)) nm w W) := fun W hW => HT3.out.then hW
      obtain ⟨P1, hP1⟩ : ∃ P1 : ByteArray, P1 = ⟨Hp.toArray⟩ := ⟨_, rfl⟩
      obtain ⟨P2, hP2⟩ : ∃ P2 : ByteArray, P2 = ⟨Hq.toArray⟩ := ⟨_, rfl⟩
      rw [← hP1] at HH1 HP5
      rw [← hP2] at HH2 HP5
      have e5 : (j : Int) < (sl : Int) := by omega
      have e6 : (0 : Int) ≤ (j : Int) := by omega
      have hkw : IntKind.i64.wrap ((j : Int) + 1) = (j : Int) + 1 := by rw [IntKind.wrap_i64]; omega
      have HBc : Hid (Below w3.heap.size w3 w3.drew) := ⟨rfl, rfl, rfl, Nat.le_refl _, fun _ _ => rfl⟩
      simp only [rgO] at hw3
      clear hb02 hup hlenj hr hX3 hb3 hs2 hto3 hTab3 hHp hHq hP1 hP2 HNx HT HT3 o1 o2 o3 hjS
      go_upto_region 6 with fail
      rw [← hw3, ← hbx]
      clear hw3 hbx m0 m1
      obtain ⟨f0, f1⟩ := HX3.out _ HBc.out
      go_region_with (first
        | (go_at_call 53; first
            | (refine (HH1.out _ HBc.out).mono ?_; rintro e w4 ⟨rfl, hb4⟩; replace HBc := hide (HBc.out.trans (hb4.mono HBc.out.size)); clear hb4 f0 f1; obtain ⟨f0, f1⟩ := HX3.out _ HBc.out)
            | (refine (HH2.out _ HBc.out).mono ?_; rintro e w4 ⟨rfl, hb4⟩; replace HBc := hide (HBc.out.trans (hb4.mono HBc.out.size)); clear hb4 f0 f1; obtain ⟨f0, f1⟩ := HX3.out _ HBc.out))
        | (go_at_call 39; refine (HP5.out _ HBc.out).mono ?_; rintro e w5 ⟨rfl, hto5⟩; have HT5 := hide ((HWto.out _ HBc.out).trans hto5); clear hto5 f0 f1))
      all_goals go_wp2
      all_goals go_roundw
      all_goals first | exact ⟨j + 1, by omega, by go_num, HT5.out⟩ | (simp [intOf]; omega)
    · have e5 : ¬ (j : Int) < (sl : Int) := by omega
      have hjm : j = sl := by omega
      subst hjm
      have HP := hide (HPend.out w2 HT.out.1)
      clear HPend
      go_wp2_with fail
      refine HP.out.mono ?_
      rintro e w' ⟨rfl, hto⟩
      have HTT := hide (HT.out.trans hto)
      clear hto HP HT
      go_wp2
      first | (go_end0; exact ⟨rfl, HTT.out⟩) | (go_ret; exact ⟨rfl, HTT.out⟩)

theorem set_any (w0 : World) (b : Nat) (l : List UInt8) (nm : Value) (sa : Option Addr) (sl sc : Nat) (S : RL) (w : World) (h : Wr w0.heap.size b l nm w) (hw0 : Below w0.heap.size w0 w) (hT : Tab w0) (hS : Reads w0 (.slice sa sl sc) S) (hok : ∀ r ∈ S, okR r) (h4 : S.length ≤ 400) (hlen : l.length + (setT S).length ≤ 140737488355328) :
    Calls Tryd.prog 34 #[.pointer (some ⟨b, 0, none⟩), .slice sa sl sc] w fun e w' => e = .returned (.tuple #[]) ∧ Wto w0.heap.size b (l ++ setT S) nm w w' := by
  by_cases h0 : S.length = 0
  · have e : setT S = noneT := by unfold setT; rw [if_pos h0]
    have hsl : sl = 0 := by
      rcases hS with ⟨e, _⟩ | ⟨x, c, e, _⟩
      · injection e
      · injection e with _ e2; omega
    rw [e] at hlen ⊢
    subst hsl
    exact set_none _ b l nm sa sc w h hlen
  · rcases hS with ⟨e, rfl⟩ | ⟨x, c, e, hc⟩
    · exact absurd rfl h0
    · injection e with e1 e2 e3
      subst e1
      exact set_some w0 b l nm x sl sc S w h hw0 hT e2 hc hok h4 h0 hlen

end Go.Proofs.YtpcohmbipbiglaaDoor
