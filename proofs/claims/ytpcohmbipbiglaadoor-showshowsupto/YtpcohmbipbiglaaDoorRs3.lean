/- What the reference's ShowNode answers: what has one kid. -/
import Derived.Test.YtpcohmbipbiglaaDoorRs1
import Derived.Test.YtpcohmbipbiglaaDoorWs2
import Derived.Deep.QuietTactic
import Derived.BigQuiet
import Derived.Test.YtpcohmbipbiglaaDoorRk3
import Derived.Test.YtpcohmbipbiglaaDoorRs2

namespace Go.Proofs.YtpcohmbipbiglaaDoor
open Go.RowKit
open Go.Lib (decDigits)
set_option linter.unusedVariables false

set_option maxHeartbeats 8000000 in
set_option maxRecDepth 100000 in
theorem ref_open13 (w0 : World) (n : NV) (na : Option Addr) (nl nc : Nat) (T : List UInt8) (w : World) (hw0 : Below w0.heap.size w0 w) (v : NV) (x : Addr) (K : List UInt8) (hka : n.ka = some x) (hkl : n.kl = 1) (hc : NCells w0 x v) (hG : RefG w0 (.slice na nl nc) v K) (hlen : T.length ≤ 10000000000000) (hT : T = [40] ++ ([63, 62] ++ (K ++ [41]))) (hk : n.kind = 13) : Calls Tryd.prog 13 #[nvV n, .slice na nl nc] w fun e w' => e = .returned (.string ⟨T.toArray⟩) ∧ Below w.heap.size w w' := by
  have hmf : ∀ (fn : Fn) (first cap : Array Value) (w : World), (Instr.makeFunc fn first cap).run Tryd.prog w = .ok (.func fn first cap) w := fun _ _ _ _ => rfl
  obtain ⟨w2, hw2⟩ : ∃ w2, w2 = (w.alloc (nvO n)).alloc (.cells #[.slice na nl nc] 32) := ⟨_, rfl⟩
  have hB := Boxes.mk2 n (.slice na nl nc) w
  rw [← hw2] at hB
  obtain ⟨bn, hbn⟩ : ∃ bn, bn = w.heap.size := ⟨_, rfl⟩
  obtain ⟨bm, hbm⟩ : ∃ bm, bm = w.heap.size + 1 := ⟨_, rfl⟩
  rw [← hbm] at hB
  have hB' : Boxes n (.slice na nl nc) w w2 bn bm := by rw [hbn]; exact hB
  clear hB
  have HB := hide hB'
  have HB0 : Hid (Below w0.heap.size w0 w2) := hw0.trans (hB'.bel.mono hw0.size)
  obtain ⟨d0, d1, d2, d3, d4, d5, d6, d7⟩ := nv_cells hB'.bn
  have qm := one_cellW hB'.bm
  rw [hk] at d0
  simp only [nvO] at hw2
  have hK2 : K.length ≤ 10000000000000 := by rw [hT] at hlen; simp only [List.length_append] at hlen; omega
  have HKid : Hid (∀ W, Below w0.heap.size w0 W → Boxes n (.slice na nl nc) w W bn bm → Calls Tryd.prog 22 #[.int .i64 0, .bool false, .pointer (some ⟨bn, 0, none⟩), .pointer (some ⟨bm, 0, none⟩)] W fun e w' => e = .returned (.string ⟨K.toArray⟩) ∧ Below W.heap.size W w') := fun W hW hBo => by
    have := kid_any w0 _ n v x 0 (by omega) hka (by rw [Nat.zero_mul, show x.add 0 = x from by cases x; rename_i a b c; cases c <;> rfl]; exact hc) _ hG hK2 false bn bm W hW hBo.bn hBo.bm
    exact this
  obtain ⟨KS, hKS⟩ : ∃ KS : ByteArray, KS = ⟨K.toArray⟩ := ⟨_, rfl⟩
  rw [← hKS] at HKid
  have sK : KS.size ≤ 10000000000000 := by rw [hKS, bA_size]; exact hK2
  have o1 : ((⟨#[40]⟩ : ByteArray)).size = 1 := rfl
  have o2 : ((⟨#[41]⟩ : ByteArray)).size = 1 := rfl
  have d0' : ∀ o, (w2.alloc o).cell? ⟨bn, 0, none⟩ = some (.int .i64 13) := fun o => by rw [← hk]; exact (nv_cells (at_old hB'.bn)).c0
  obtain ⟨w3, hw3⟩ : ∃ w3, w3 = w2.alloc (.cells #[.string ⟨#[]⟩, .string ⟨#[]⟩, .string ⟨#[63, 62]⟩, .string ⟨#[63, 61]⟩, .string ⟨#[63, 33]⟩, .string ⟨#[63, 60, 61]⟩, .string ⟨#[63, 60, 33]⟩] 9) := ⟨_, rfl⟩
  have hb3 : Below w2.heap.size w2 w3 := by rw [hw3]; exact (Below.refl _ _).alloc (Nat.le_refl _) _
  have hB3 := hB'.keep hb3
  have HB3 := hide hB3
  have HB03 : Hid (Below w0.heap.size w0 w3) := HB0.out.trans (hb3.mono HB0.out.size)
  have q0 := (nv_cells hB3.bn).c0
  rw [hk] at q0
  have qm3 := one_cellW hB3.bm
  have z1 : ¬ (9223372036854775807 < ((⟨#[40]⟩ : ByteArray)).size + ((⟨#[63, 62]⟩ : ByteArray)).size) := by have : ((⟨#[63, 62]⟩ : ByteArray)).size = 2 := rfl; omega
  have z2 : ¬ (9223372036854775807 < ((⟨#[40]⟩ : ByteArray) ++ (⟨#[63, 62]⟩ : ByteArray)).size + KS.size) := by rw [ByteArray.size_append]; have : ((⟨#[63, 62]⟩ : ByteArray)).size = 2 := rfl; omega
  have z3 : ¬ (9223372036854775807 < ((⟨#[40]⟩ : ByteArray) ++ (⟨#[63, 62]⟩ : ByteArray) ++ KS).size + ((⟨#[41]⟩ : ByteArray)).size) := by simp only [ByteArray.size_append]; have : ((⟨#[63, 62]⟩ : ByteArray)).size = 2 := rfl; omega
  have HR : Hid ((⟨T.toArray⟩ : ByteArray) = (⟨#[40]⟩ : ByteArray) ++ (⟨#[63, 62]⟩ : ByteArray) ++ KS ++ ⟨#[41]⟩) := by
    show _ = _
    rw [hT, hKS]
    apply ByteArray.ext
    simp only [ByteArray.data_append]
    apply Array.ext'
    simp
  obtain ⟨RT, hRT⟩ : ∃ RT : ByteArray, RT = ⟨T.toArray⟩ := ⟨_, rfl⟩
  rw [← hRT] at HR ⊢
  clear hka hkl hc hG hlen hT hK2 hKS sK hRT hb3 hB3 o1 o2
  clear hB' hw0 hk
  go_enter Tryd.func13, Tryd.ntmps13
  go_upto_region 1 with fail
  rw [← hw2, ← hbm, ← hbn]
  clear hw2 hbm hbn
  go_upto_region 42 with fail
  rw [← hw3]
  clear hw3 d0 d1 d2 d3 d4 d5 d6 d7 qm d0' HB HB0
  go_wp2
  go_loopw [6, 11] (fun s c wr => s = .string ⟨#[63, 62]⟩ ∧ c = .int .i64 0 ∧ wr = w3) (fun _ _ _ => 0)
  case atStart => exact ⟨rfl, rfl, rfl⟩
  case round =>
    obtain ⟨rfl, rfl, hwr⟩ := hrel
    have hwr2 := hwr.symm
    subst hwr2
    have HK := hide (HKid.out _ HB03.out HB3.out)
    by_cases hl0 : (0 : Int) < (nl : Int)
    · go_wp2_with fail
      refine HK.out.mono ?_
      rintro e w4 ⟨rfl, hb4⟩
      have HB4 := hide (HB3.out.keep hb4)
      clear hb4 HK HKid q0 qm3
      go_wp2
      go_ret
      exact ⟨by rw [HR.out]; rfl, HB4.out.bel⟩
    · go_wp2_with fail
      refine HK.out.mono ?_
      rintro e w4 ⟨rfl, hb4⟩
      have HB4 := hide (HB3.out.keep hb4)
      clear hb4 HK HKid q0 qm3
      go_wp2
      go_ret
      exact ⟨by rw [HR.out]; rfl, HB4.out.bel⟩
set_option maxHeartbeats 8000000 in
set_option maxRecDepth 100000 in
theorem ref_open14 (w0 : World) (n : NV) (na : Option Addr) (nl nc : Nat) (T : List UInt8) (w : World) (hw0 : Below w0.heap.size w0 w) (v : NV) (x : Addr) (K : List UInt8) (hka : n.ka = some x) (hkl : n.kl = 1) (hc : NCells w0 x v) (hG : RefG w0 (.slice na nl nc) v K) (hlen : T.length ≤ 10000000000000) (hT : T = [40] ++ ([63, 61] ++ (K ++ [41]))) (hk : n.kind = 14) : Calls Tryd.prog 13 #[nvV n, .slice na nl nc] w fun e w' => e = .returned (.string ⟨T.toArray⟩) ∧ Below w.heap.size w w' := by
  have hmf : ∀ (fn : Fn) (first cap : Array Value) (w : World), (Instr.makeFunc fn first cap).run Tryd.prog w = .ok (.func fn first cap) w := fun _ _ _ _ => rfl
  obtain ⟨w2, hw2⟩ : ∃ w2, w2 = (w.alloc (nvO n)).alloc (.cells #[.slice na nl nc] 32) := ⟨_, rfl⟩
  have hB := Boxes.mk2 n (.slice na nl nc) w
  rw [← hw2] at hB
  obtain ⟨bn, hbn⟩ : ∃ bn, bn = w.heap.size := ⟨_, rfl⟩
  obtain ⟨bm, hbm⟩ : ∃ bm, bm = w.heap.size + 1 := ⟨_, rfl⟩
  rw [← hbm] at hB
  have hB' : Boxes n (.slice na nl nc) w w2 bn bm := by rw [hbn]; exact hB
  clear hB
  have HB := hide hB'
  have HB0 : Hid (Below w0.heap.size w0 w2) := hw0.trans (hB'.bel.mono hw0.size)
  obtain ⟨d0, d1, d2, d3, d4, d5, d6, d7⟩ := nv_cells hB'.bn
  have qm := one_cellW hB'.bm
  rw [hk] at d0
  simp only [nvO] at hw2
  have hK2 : K.length ≤ 10000000000000 := by rw [hT] at hlen; simp only [List.length_append] at hlen; omega
  have HKid : Hid (∀ W, Below w0.heap.size w0 W → Boxes n (.slice na nl nc) w W bn bm → Calls Tryd.prog 22 #[.int .i64 0, .bool false, .pointer (some ⟨bn, 0, none⟩), .pointer (some ⟨bm, 0, none⟩)] W fun e w' => e = .returned (.string ⟨K.toArray⟩) ∧ Below W.heap.size W w') := fun W hW hBo => by
    have := kid_any w0 _ n v x 0 (by omega) hka (by rw [Nat.zero_mul, show x.add 0 = x from by cases x; rename_i a b c; cases c <;> rfl]; exact hc) _ hG hK2 false bn bm W hW hBo.bn hBo.bm
    exact this
  obtain ⟨KS, hKS⟩ : ∃ KS : ByteArray, KS = ⟨K.toArray⟩ := ⟨_, rfl⟩
  rw [← hKS] at HKid
  have sK : KS.size ≤ 10000000000000 := by rw [hKS, bA_size]; exact hK2
  have o1 : ((⟨#[40]⟩ : ByteArray)).size = 1 := rfl
  have o2 : ((⟨#[41]⟩ : ByteArray)).size = 1 := rfl
  have d0' : ∀ o, (w2.alloc o).cell? ⟨bn, 0, none⟩ = some (.int .i64 14) := fun o => by rw [← hk]; exact (nv_cells (at_old hB'.bn)).c0
  obtain ⟨w3, hw3⟩ : ∃ w3, w3 = w2.alloc (.cells #[.string ⟨#[]⟩, .string ⟨#[]⟩, .string ⟨#[63, 62]⟩, .string ⟨#[63, 61]⟩, .string ⟨#[63, 33]⟩, .string ⟨#[63, 60, 61]⟩, .string ⟨#[63, 60, 33]⟩] 9) := ⟨_, rfl⟩
  have hb3 : Below w2.heap.size w2 w3 := by rw [hw3]; exact (Below.refl _ _).alloc (Nat.le_refl _) _
  have hB3 := hB'.keep hb3
  have HB3 := hide hB3
  have HB03 : Hid (Below w0.heap.size w0 w3) := HB0.out.trans (hb3.mono HB0.out.size)
  have q0 := (nv_cells hB3.bn).c0
  rw [hk] at q0
  have qm3 := one_cellW hB3.bm
  have z1 : ¬ (9223372036854775807 < ((⟨#[40]⟩ : ByteArray)).size + ((⟨#[63, 61]⟩ : ByteArray)).size) := by have : ((⟨#[63, 61]⟩ : ByteArray)).size = 2 := rfl; omega
  have z2 : ¬ (9223372036854775807 < ((⟨#[40]⟩ : ByteArray) ++ (⟨#[63, 61]⟩ : ByteArray)).size + KS.size) := by rw [ByteArray.size_append]; have : ((⟨#[63, 61]⟩ : ByteArray)).size = 2 := rfl; omega
  have z3 : ¬ (9223372036854775807 < ((⟨#[40]⟩ : ByteArray) ++ (⟨#[63, 61]⟩ : ByteArray) ++ KS).size + ((⟨#[41]⟩ : ByteArray)).size) := by simp only [ByteArray.size_append]; have : ((⟨#[63, 61]⟩ : ByteArray)).size = 2 := rfl; omega
  have HR : Hid ((⟨T.toArray⟩ : ByteArray) = (⟨#[40]⟩ : ByteArray) ++ (⟨#[63, 61]⟩ : ByteArray) ++ KS ++ ⟨#[41]⟩) := by
    show _ = _
    rw [hT, hKS]
    apply ByteArray.ext
    simp only [ByteArray.data_append]
    apply Array.ext'
    simp
  obtain ⟨RT, hRT⟩ : ∃ RT : ByteArray, RT = ⟨T.toArray⟩ := ⟨_, rfl⟩
  rw [← hRT] at HR ⊢
  clear hka hkl hc hG hlen hT hK2 hKS sK hRT hb3 hB3 o1 o2
  clear hB' hw0 hk
  go_enter Tryd.func13, Tryd.ntmps13
  go_upto_region 1 with fail
  rw [← hw2, ← hbm, ← hbn]
  clear hw2 hbm hbn
  go_upto_region 42 with fail
  rw [← hw3]
  clear hw3 d0 d1 d2 d3 d4 d5 d6 d7 qm d0' HB HB0
  go_wp2
  go_loopw [6, 11] (fun s c wr => s = .string ⟨#[63, 61]⟩ ∧ c = .int .i64 0 ∧ wr = w3) (fun _ _ _ => 0)
  case atStart => exact ⟨rfl, rfl, rfl⟩
  case round =>
    obtain ⟨rfl, rfl, hwr⟩ := hrel
    have hwr2 := hwr.symm
    subst hwr2
    have HK := hide (HKid.out _ HB03.out HB3.out)
    by_cases hl0 : (0 : Int) < (nl : Int)
    · go_wp2_with fail
      refine HK.out.mono ?_
      rintro e w4 ⟨rfl, hb4⟩
      have HB4 := hide (HB3.out.keep hb4)
      clear hb4 HK HKid q0 qm3
      go_wp2
      go_ret
      exact ⟨by rw [HR.out]; rfl, HB4.out.bel⟩
    · go_wp2_with fail
      refine HK.out.mono ?_
      rintro e w4 ⟨rfl, hb4⟩
      have HB4 := hide (HB3.out.keep hb4)
      clear hb4 HK HKid q0 qm3
      go_wp2
      go_ret
      exact ⟨by rw [HR.out]; rfl, HB4.out.bel⟩
set_option maxHeartbeats 8000000 in
set_option maxRecDepth 100000 in
theorem ref_open15 (w0 : World) (n : NV) (na : Option Addr) (nl nc : Nat) (T : List UInt8) (w : World) (hw0 : Below w0.heap.size w0 w) (v : NV) (x : Addr) (K : List UInt8) (hka : n.ka = some x) (hkl : n.kl = 1) (hc : NCells w0 x v) (hG : RefG w0 (.slice na nl nc) v K) (hlen : T.length ≤ 10000000000000) (hT : T = [40] ++ ([63, 33] ++ (K ++ [41]))) (hk : n.kind = 15) : Calls Tryd.prog 13 #[nvV n, .slice na nl nc] w fun e w' => e = .returned (.string ⟨T.toArray⟩) ∧ Below w.heap.size w w' := by
  have hmf : ∀ (fn : Fn) (first cap : Array Value) (w : World), (Instr.makeFunc fn first cap).run Tryd.prog w = .ok (.func fn first cap) w := fun _ _ _ _ => rfl
  obtain ⟨w2, hw2⟩ : ∃ w2, w2 = (w.alloc (nvO n)).alloc (.cells #[.slice na nl nc] 32) := ⟨_, rfl⟩
  have hB := Boxes.mk2 n (.slice na nl nc) w
  rw [← hw2] at hB
  obtain ⟨bn, hbn⟩ : ∃ bn, bn = w.heap.size := ⟨_, rfl⟩
  obtain ⟨bm, hbm⟩ : ∃ bm, bm = w.heap.size + 1 := ⟨_, rfl⟩
  rw [← hbm] at hB
  have hB' : Boxes n (.slice na nl nc) w w2 bn bm := by rw [hbn]; exact hB
  clear hB
  have HB := hide hB'
  have HB0 : Hid (Below w0.heap.size w0 w2) := hw0.trans (hB'.bel.mono hw0.size)
  obtain ⟨d0, d1, d2, d3, d4, d5, d6, d7⟩ := nv_cells hB'.bn
  have qm := one_cellW hB'.bm
  rw [hk] at d0
  simp only [nvO] at hw2
  have hK2 : K.length ≤ 10000000000000 := by rw [hT] at hlen; simp only [List.length_append] at hlen; omega
  have HKid : Hid (∀ W, Below w0.heap.size w0 W → Boxes n (.slice na nl nc) w W bn bm → Calls Tryd.prog 22 #[.int .i64 0, .bool false, .pointer (some ⟨bn, 0, none⟩), .pointer (some ⟨bm, 0, none⟩)] W fun e w' => e = .returned (.string ⟨K.toArray⟩) ∧ Below W.heap.size W w') := fun W hW hBo => by
    have := kid_any w0 _ n v x 0 (by omega) hka (by rw [Nat.zero_mul, show x.add 0 = x from by cases x; rename_i a b c; cases c <;> rfl]; exact hc) _ hG hK2 false bn bm W hW hBo.bn hBo.bm
    exact this
  obtain ⟨KS, hKS⟩ : ∃ KS : ByteArray, KS = ⟨K.toArray⟩ := ⟨_, rfl⟩
  rw [← hKS] at HKid
  have sK : KS.size ≤ 10000000000000 := by rw [hKS, bA_size]; exact hK2
  have o1 : ((⟨#[40]⟩ : ByteArray)).size = 1 := rfl
  have o2 : ((⟨#[41]⟩ : ByteArray)).size = 1 := rfl
  have d0' : ∀ o, (w2.alloc o).cell? ⟨bn, 0, none⟩ = some (.int .i64 15) := fun o => by rw [← hk]; exact (nv_cells (at_old hB'.bn)).c0
  obtain ⟨w3, hw3⟩ : ∃ w3, w3 = w2.alloc (.cells #[.string ⟨#[]⟩, .string ⟨#[]⟩, .string ⟨#[63, 62]⟩, .string ⟨#[63, 61]⟩, .string ⟨#[63, 33]⟩, .string ⟨#[63, 60, 61]⟩, .string ⟨#[63, 60, 33]⟩] 9) := ⟨_, rfl⟩
  have hb3 : Below w2.heap.size w2 w3 := by rw [hw3]; exact (Below.refl _ _).alloc (Nat.le_refl _) _
  have hB3 := hB'.keep hb3
  have HB3 := hide hB3
  have HB03 : Hid (Below w0.heap.size w0 w3) := HB0.out.trans (hb3.mono HB0.out.size)
  have q0 := (nv_cells hB3.bn).c0
  rw [hk] at q0
  have qm3 := one_cellW hB3.bm
  have z1 : ¬ (9223372036854775807 < ((⟨#[40]⟩ : ByteArray)).size + ((⟨#[63, 33]⟩ : ByteArray)).size) := by have : ((⟨#[63, 33]⟩ : ByteArray)).size = 2 := rfl; omega
  have z2 : ¬ (9223372036854775807 < ((⟨#[40]⟩ : ByteArray) ++ (⟨#[63, 33]⟩ : ByteArray)).size + KS.size) := by rw [ByteArray.size_append]; have : ((⟨#[63, 33]⟩ : ByteArray)).size = 2 := rfl; omega
  have z3 : ¬ (9223372036854775807 < ((⟨#[40]⟩ : ByteArray) ++ (⟨#[63, 33]⟩ : ByteArray) ++ KS).size + ((⟨#[41]⟩ : ByteArray)).size) := by simp only [ByteArray.size_append]; have : ((⟨#[63, 33]⟩ : ByteArray)).size = 2 := rfl; omega
  have HR : Hid ((⟨T.toArray⟩ : ByteArray) = (⟨#[40]⟩ : ByteArray) ++ (⟨#[63, 33]⟩ : ByteArray) ++ KS ++ ⟨#[41]⟩) := by
    show _ = _
    rw [hT, hKS]
    apply ByteArray.ext
    simp only [ByteArray.data_append]
    apply Array.ext'
    simp
  obtain ⟨RT, hRT⟩ : ∃ RT : ByteArray, RT = ⟨T.toArray⟩ := ⟨_, rfl⟩
  rw [← hRT] at HR ⊢
  clear hka hkl hc hG hlen hT hK2 hKS sK hRT hb3 hB3 o1 o2
  clear hB' hw0 hk
  go_enter Tryd.func13, Tryd.ntmps13
  go_upto_region 1 with fail
  rw [← hw2, ← hbm, ← hbn]
  clear hw2 hbm hbn
  go_upto_region 42 with fail
  rw [← hw3]
  clear hw3 d0 d1 d2 d3 d4 d5 d6 d7 qm d0' HB HB0
  go_wp2
  go_loopw [6, 11] (fun s c wr => s = .string ⟨#[63, 33]⟩ ∧ c = .int .i64 0 ∧ wr = w3) (fun _ _ _ => 0)
  case atStart => exact ⟨rfl, rfl, rfl⟩
  case round =>
    obtain ⟨rfl, rfl, hwr⟩ := hrel
    have hwr2 := hwr.symm
    subst hwr2
    have HK := hide (HKid.out _ HB03.out HB3.out)
    by_cases hl0 : (0 : Int) < (nl : Int)
    · go_wp2_with fail
      refine HK.out.mono ?_
      rintro e w4 ⟨rfl, hb4⟩
      have HB4 := hide (HB3.out.keep hb4)
      clear hb4 HK HKid q0 qm3
      go_wp2
      go_ret
      exact ⟨by rw [HR.out]; rfl, HB4.out.bel⟩
    · go_wp2_with fail
      refine HK.out.mono ?_
      rintro e w4 ⟨rfl, hb4⟩
      have HB4 := hide (HB3.out.keep hb4)
      clear hb4 HK HKid q0 qm3
      go_wp2
      go_ret
      exact ⟨by rw [HR.out]; rfl, HB4.out.bel⟩
set_option maxHeartbeats 8000000 in
set_option maxRecDepth 100000 in
theorem ref_open16 (w0 : World) (n : NV) (na : Option Addr) (nl nc : Nat) (T : List UInt8) (w : World) (hw0 : Below w0.heap.size w0 w) (v : NV) (x : Addr) (K : List UInt8) (hka : n.ka = some x) (hkl : n.kl = 1) (hc : NCells w0 x v) (hG : RefG w0 (.slice na nl nc) v K) (hlen : T.length ≤ 10000000000000) (hT : T = [40] ++ ([63, 60, 61] ++ (K ++ [41]))) (hk : n.kind = 16) : Calls Tryd.prog 13 #[nvV n, .slice na nl nc] w fun e w' => e = .returned (.string ⟨T.toArray⟩) ∧ Below w.heap.size w w' := by
  have hmf : ∀ (fn : Fn) (first cap : Array Value) (w : World), (Instr.makeFunc fn first cap).run Tryd.prog w = .ok (.func fn first cap) w := fun _ _ _ _ => rfl
  obtain ⟨w2, hw2⟩ : ∃ w2, w2 = (w.alloc (nvO n)).alloc (.cells #[.slice na nl nc] 32) := ⟨_, rfl⟩
  have hB := Boxes.mk2 n (.slice na nl nc) w
  rw [← hw2] at hB
  obtain ⟨bn, hbn⟩ : ∃ bn, bn = w.heap.size := ⟨_, rfl⟩
  obtain ⟨bm, hbm⟩ : ∃ bm, bm = w.heap.size + 1 := ⟨_, rfl⟩
  rw [← hbm] at hB
  have hB' : Boxes n (.slice na nl nc) w w2 bn bm := by rw [hbn]; exact hB
  clear hB
  have HB := hide hB'
  have HB0 : Hid (Below w0.heap.size w0 w2) := hw0.trans (hB'.bel.mono hw0.size)
  obtain ⟨d0, d1, d2, d3, d4, d5, d6, d7⟩ := nv_cells hB'.bn
  have qm := one_cellW hB'.bm
  rw [hk] at d0
  simp only [nvO] at hw2
  have hK2 : K.length ≤ 10000000000000 := by rw [hT] at hlen; simp only [List.length_append] at hlen; omega
  have HKid : Hid (∀ W, Below w0.heap.size w0 W → Boxes n (.slice na nl nc) w W bn bm → Calls Tryd.prog 22 #[.int .i64 0, .bool false, .pointer (some ⟨bn, 0, none⟩), .pointer (some ⟨bm, 0, none⟩)] W fun e w' => e = .returned (.string ⟨K.toArray⟩) ∧ Below W.heap.size W w') := fun W hW hBo => by
    have := kid_any w0 _ n v x 0 (by omega) hka (by rw [Nat.zero_mul, show x.add 0 = x from by cases x; rename_i a b c; cases c <;> rfl]; exact hc) _ hG hK2 false bn bm W hW hBo.bn hBo.bm
    exact this
  obtain ⟨KS, hKS⟩ : ∃ KS : ByteArray, KS = ⟨K.toArray⟩ := ⟨_, rfl⟩
  rw [← hKS] at HKid
  have sK : KS.size ≤ 10000000000000 := by rw [hKS, bA_size]; exact hK2
  have o1 : ((⟨#[40]⟩ : ByteArray)).size = 1 := rfl
  have o2 : ((⟨#[41]⟩ : ByteArray)).size = 1 := rfl
  have d0' : ∀ o, (w2.alloc o).cell? ⟨bn, 0, none⟩ = some (.int .i64 16) := fun o => by rw [← hk]; exact (nv_cells (at_old hB'.bn)).c0
  obtain ⟨w3, hw3⟩ : ∃ w3, w3 = w2.alloc (.cells #[.string ⟨#[]⟩, .string ⟨#[]⟩, .string ⟨#[63, 62]⟩, .string ⟨#[63, 61]⟩, .string ⟨#[63, 33]⟩, .string ⟨#[63, 60, 61]⟩, .string ⟨#[63, 60, 33]⟩] 9) := ⟨_, rfl⟩
  have hb3 : Below w2.heap.size w2 w3 := by rw [hw3]; exact (Below.refl _ _).alloc (Nat.le_refl _) _
  have hB3 := hB'.keep hb3
  have HB3 := hide hB3
  have HB03 : Hid (Below w0.heap.size w0 w3) := HB0.out.trans (hb3.mono HB0.out.size)
  have q0 := (nv_cells hB3.bn).c0
  rw [hk] at q0
  have qm3 := one_cellW hB3.bm
  have z1 : ¬ (9223372036854775807 < ((⟨#[40]⟩ : ByteArray)).size + ((⟨#[63, 60, 61]⟩ : ByteArray)).size) := by have : ((⟨#[63, 60, 61]⟩ : ByteArray)).size = 3 := rfl; omega
  have z2 : ¬ (9223372036854775807 < ((⟨#[40]⟩ : ByteArray) ++ (⟨#[63, 60, 61]⟩ : ByteArray)).size + KS.size) := by rw [ByteArray.size_append]; have : ((⟨#[63, 60, 61]⟩ : ByteArray)).size = 3 := rfl; omega
  have z3 : ¬ (9223372036854775807 < ((⟨#[40]⟩ : ByteArray) ++ (⟨#[63, 60, 61]⟩ : ByteArray) ++ KS).size + ((⟨#[41]⟩ : ByteArray)).size) := by simp only [ByteArray.size_append]; have : ((⟨#[63, 60, 61]⟩ : ByteArray)).size = 3 := rfl; omega
  have HR : Hid ((⟨T.toArray⟩ : ByteArray) = (⟨#[40]⟩ : ByteArray) ++ (⟨#[63, 60, 61]⟩ : ByteArray) ++ KS ++ ⟨#[41]⟩) := by
    show _ = _
    rw [hT, hKS]
    apply ByteArray.ext
    simp only [ByteArray.data_append]
    apply Array.ext'
    simp
  obtain ⟨RT, hRT⟩ : ∃ RT : ByteArray, RT = ⟨T.toArray⟩ := ⟨_, rfl⟩
  rw [← hRT] at HR ⊢
  clear hka hkl hc hG hlen hT hK2 hKS sK hRT hb3 hB3 o1 o2
  clear hB' hw0 hk
  go_enter Tryd.func13, Tryd.ntmps13
  go_upto_region 1 with fail
  rw [← hw2, ← hbm, ← hbn]
  clear hw2 hbm hbn
  go_upto_region 42 with fail
  rw [← hw3]
  clear hw3 d0 d1 d2 d3 d4 d5 d6 d7 qm d0' HB HB0
  go_wp2
  go_loopw [6, 11] (fun s c wr => s = .string ⟨#[63, 60, 61]⟩ ∧ c = .int .i64 0 ∧ wr = w3) (fun _ _ _ => 0)
  case atStart => exact ⟨rfl, rfl, rfl⟩
  case round =>
    obtain ⟨rfl, rfl, hwr⟩ := hrel
    have hwr2 := hwr.symm
    subst hwr2
    have HK := hide (HKid.out _ HB03.out HB3.out)
    by_cases hl0 : (0 : Int) < (nl : Int)
    · go_wp2_with fail
      refine HK.out.mono ?_
      rintro e w4 ⟨rfl, hb4⟩
      have HB4 := hide (HB3.out.keep hb4)
      clear hb4 HK HKid q0 qm3
      go_wp2
      go_ret
      exact ⟨by rw [HR.out]; rfl, HB4.out.bel⟩
    · go_wp2_with fail
      refine HK.out.mono ?_
      rintro e w4 ⟨rfl, hb4⟩
      have HB4 := hide (HB3.out.keep hb4)
      clear hb4 HK HKid q0 qm3
      go_wp2
      go_ret
      exact ⟨by rw [HR.out]; rfl, HB4.out.bel⟩
set_option maxHeartbeats 8000000 in
set_option maxRecDepth 100000 in
theorem ref_open17 (w0 : World) (n : NV) (na : Option Addr) (nl nc : Nat) (T : List UInt8) (w : World) (hw0 : Below w0.heap.size w0 w) (v : NV) (x : Addr) (K : List UInt8) (hka : n.ka = some x) (hkl : n.kl = 1) (hc : NCells w0 x v) (hG : RefG w0 (.slice na nl nc) v K) (hlen : T.length ≤ 10000000000000) (hT : T = [40] ++ ([63, 60, 33] ++ (K ++ [41]))) (hk : n.kind = 17) : Calls Tryd.prog 13 #[nvV n, .slice na nl nc] w fun e w' => e = .returned (.string ⟨T.toArray⟩) ∧ Below w.heap.size w w' := by
  have hmf : ∀ (fn : Fn) (first cap : Array Value) (w : World), (Instr.makeFunc fn first cap).run Tryd.prog w = .ok (.func fn first cap) w := fun _ _ _ _ => rfl
  obtain ⟨w2, hw2⟩ : ∃ w2, w2 = (w.alloc (nvO n)).alloc (.cells #[.slice na nl nc] 32) := ⟨_, rfl⟩
  have hB := Boxes.mk2 n (.slice na nl nc) w
  rw [← hw2] at hB
  obtain ⟨bn, hbn⟩ : ∃ bn, bn = w.heap.size := ⟨_, rfl⟩
  obtain ⟨bm, hbm⟩ : ∃ bm, bm = w.heap.size + 1 := ⟨_, rfl⟩
  rw [← hbm] at hB
  have hB' : Boxes n (.slice na nl nc) w w2 bn bm := by rw [hbn]; exact hB
  clear hB
  have HB := hide hB'
  have HB0 : Hid (Below w0.heap.size w0 w2) := hw0.trans (hB'.bel.mono hw0.size)
  obtain ⟨d0, d1, d2, d3, d4, d5, d6, d7⟩ := nv_cells hB'.bn
  have qm := one_cellW hB'.bm
  rw [hk] at d0
  simp only [nvO] at hw2
  have hK2 : K.length ≤ 10000000000000 := by rw [hT] at hlen; simp only [List.length_append] at hlen; omega
  have HKid : Hid (∀ W, Below w0.heap.size w0 W → Boxes n (.slice na nl nc) w W bn bm → Calls Tryd.prog 22 #[.int .i64 0, .bool false, .pointer (some ⟨bn, 0, none⟩), .pointer (some ⟨bm, 0, none⟩)] W fun e w' => e = .returned (.string ⟨K.toArray⟩) ∧ Below W.heap.size W w') := fun W hW hBo => by
    have := kid_any w0 _ n v x 0 (by omega) hka (by rw [Nat.zero_mul, show x.add 0 = x from by cases x; rename_i a b c; cases c <;> rfl]; exact hc) _ hG hK2 false bn bm W hW hBo.bn hBo.bm
    exact this
  obtain ⟨KS, hKS⟩ : ∃ KS : ByteArray, KS = ⟨K.toArray⟩ := ⟨_, rfl⟩
  rw [← hKS] at HKid
  have sK : KS.size ≤ 10000000000000 := by rw [hKS, bA_size]; exact hK2
  have o1 : ((⟨#[40]⟩ : ByteArray)).size = 1 := rfl
  have o2 : ((⟨#[41]⟩ : ByteArray)).size = 1 := rfl
  have d0' : ∀ o, (w2.alloc o).cell? ⟨bn, 0, none⟩ = some (.int .i64 17) := fun o => by rw [← hk]; exact (nv_cells (at_old hB'.bn)).c0
  obtain ⟨w3, hw3⟩ : ∃ w3, w3 = w2.alloc (.cells #[.string ⟨#[]⟩, .string ⟨#[]⟩, .string ⟨#[63, 62]⟩, .string ⟨#[63, 61]⟩, .string ⟨#[63, 33]⟩, .string ⟨#[63, 60, 61]⟩, .string ⟨#[63, 60, 33]⟩] 9) := ⟨_, rfl⟩
  have hb3 : Below w2.heap.size w2 w3 := by rw [hw3]; exact (Below.refl _ _).alloc (Nat.le_refl _) _
  have hB3 := hB'.keep hb3
  have HB3 := hide hB3
  have HB03 : Hid (Below w0.heap.size w0 w3) := HB0.out.trans (hb3.mono HB0.out.size)
  have q0 := (nv_cells hB3.bn).c0
  rw [hk] at q0
  have qm3 := one_cellW hB3.bm
  have z1 : ¬ (9223372036854775807 < ((⟨#[40]⟩ : ByteArray)).size + ((⟨#[63, 60, 33]⟩ : ByteArray)).size) := by have : ((⟨#[63, 60, 33]⟩ : ByteArray)).size = 3 := rfl; omega
  have z2 : ¬ (9223372036854775807 < ((⟨#[40]⟩ : ByteArray) ++ (⟨#[63, 60, 33]⟩ : ByteArray)).size + KS.size) := by rw [ByteArray.size_append]; have : ((⟨#[63, 60, 33]⟩ : ByteArray)).size = 3 := rfl; omega
  have z3 : ¬ (9223372036854775807 < ((⟨#[40]⟩ : ByteArray) ++ (⟨#[63, 60, 33]⟩ : ByteArray) ++ KS).size + ((⟨#[41]⟩ : ByteArray)).size) := by simp only [ByteArray.size_append]; have : ((⟨#[63, 60, 33]⟩ : ByteArray)).size = 3 := rfl; omega
  have HR : Hid ((⟨T.toArray⟩ : ByteArray) = (⟨#[40]⟩ : ByteArray) ++ (⟨#[63, 60, 33]⟩ : ByteArray) ++ KS ++ ⟨#[41]⟩) := by
    show _ = _
    rw [hT, hKS]
    apply ByteArray.ext
    simp only [ByteArray.data_append]
    apply Array.ext'
    simp
  obtain ⟨RT, hRT⟩ : ∃ RT : ByteArray, RT = ⟨T.toArray⟩ := ⟨_, rfl⟩
  rw [← hRT] at HR ⊢
  clear hka hkl hc hG hlen hT hK2 hKS sK hRT hb3 hB3 o1 o2
  clear hB' hw0 hk
  go_enter Tryd.func13, Tryd.ntmps13
  go_upto_region 1 with fail
  rw [← hw2, ← hbm, ← hbn]
  clear hw2 hbm hbn
  go_upto_region 42 with fail
  rw [← hw3]
  clear hw3 d0 d1 d2 d3 d4 d5 d6 d7 qm d0' HB HB0
  go_wp2
  go_loopw [6, 11] (fun s c wr => s = .string ⟨#[63, 60, 33]⟩ ∧ c = .int .i64 0 ∧ wr = w3) (fun _ _ _ => 0)
  case atStart => exact ⟨rfl, rfl, rfl⟩
  case round =>
    obtain ⟨rfl, rfl, hwr⟩ := hrel
    have hwr2 := hwr.symm
    subst hwr2
    have HK := hide (HKid.out _ HB03.out HB3.out)
    by_cases hl0 : (0 : Int) < (nl : Int)
    · go_wp2_with fail
      refine HK.out.mono ?_
      rintro e w4 ⟨rfl, hb4⟩
      have HB4 := hide (HB3.out.keep hb4)
      clear hb4 HK HKid q0 qm3
      go_wp2
      go_ret
      exact ⟨by rw [HR.out]; rfl, HB4.out.bel⟩
    · go_wp2_with fail
      refine HK.out.mono ?_
      rintro e w4 ⟨rfl, hb4⟩
      have HB4 := hide (HB3.out.keep hb4)
      clear hb4 HK HKid q0 qm3
      go_wp2
      go_ret
      exact ⟨by rw [HR.out]; rfl, HB4.out.bel⟩

end Go.Proofs.YtpcohmbipbiglaaDoor

namespace Go.Proofs.YtpcohmbipbiglaaDoor
open Go.RowKit
open Go.Lib (decDigits)
set_option linter.unusedVariables false

/-- the name that the reference has found so far. -/
def NmS (N : NmL) (num : Int) (j : Nat) (S : ByteArray) : Prop := (∃ i, i < j ∧ nnx N i = num ∧ S = ⟨#[63, 60]⟩ ++ ntx N i ++ ⟨#[62]⟩) ∨ ((∀ i, i < j → nnx N i ≠ num) ∧ S = ⟨#[]⟩)
theorem NmS.size {N : NmL} {num : Int} {j : Nat} {S : ByteArray} (h : NmS N num j S) (hj : j ≤ N.length) (hz : ∀ i, i < N.length → (ntx N i).size ≤ 1048576) : S.size ≤ 1048579 := by
  rcases h with ⟨i, hi, _, rfl⟩ | ⟨_, rfl⟩
  · have := hz i (by omega)
    simp only [ByteArray.size_append]
    have h1 : ((⟨#[63, 60]⟩ : ByteArray)).size = 2 := rfl
    have h2 : ((⟨#[62]⟩ : ByteArray)).size = 1 := rfl
    omega
  · show 0 ≤ _
    omega
theorem NmS.name {N : NmL} {num : Int} {S : ByteArray} (h : NmS N num N.length S) (hn : NoTw N N.length) : nameT N num = [40] ++ S.data.toList := by
  refine NameAt.one hn (NameAt.nameT N num) ?_
  rcases h with ⟨i, hi, e, rfl⟩ | ⟨ha, rfl⟩
  · exact .inl ⟨i, hi, e, by simp [ByteArray.data_append]⟩
  · exact .inr ⟨ha, rfl⟩
set_option maxHeartbeats 8000000 in
set_option maxRecDepth 100000 in
theorem ref_open11 (w0 : World) (n : NV) (na : Option Addr) (nl nc : Nat) (T : List UInt8) (w : World) (hw0 : Below w0.heap.size w0 w) (v : NV) (x : Addr) (K : List UInt8) (hka : n.ka = some x) (hkl : n.kl = 1) (hc : NCells w0 x v) (hG : RefG w0 (.slice na nl nc) v K) (hlen : T.length ≤ 10000000000000) (N : NmL) (hN : NamesC w0 (.slice na nl nc) N) (htw : NoTw N N.length) (hnz : ∀ i, i < N.length → (ntx N i).size ≤ 1048576) (hT : T = nameT N n.num ++ (K ++ [41])) (hk : n.kind = 11) : Calls Tryd.prog 13 #[nvV n, .slice na nl nc] w fun e w' => e = .returned (.string ⟨T.toArray⟩) ∧ Below w.heap.size w w' := by
  have hmf : ∀ (fn : Fn) (first cap : Array Value) (w : World), (Instr.makeFunc fn first cap).run Tryd.prog w = .ok (.func fn first cap) w := fun _ _ _ _ => rfl
  obtain ⟨w2, hw2⟩ : ∃ w2, w2 = (w.alloc (nvO n)).alloc (.cells #[.slice na nl nc] 32) := ⟨_, rfl⟩
  have hB := Boxes.mk2 n (.slice na nl nc) w
  rw [← hw2] at hB
  obtain ⟨bn, hbn⟩ : ∃ bn, bn = w.heap.size := ⟨_, rfl⟩
  obtain ⟨bm, hbm⟩ : ∃ bm, bm = w.heap.size + 1 := ⟨_, rfl⟩
  rw [← hbm] at hB
  have hB' : Boxes n (.slice na nl nc) w w2 bn bm := by rw [hbn]; exact hB
  clear hB
  have HB := hide hB'
  have HB0 : Hid (Below w0.heap.size w0 w2) := hw0.trans (hB'.bel.mono hw0.size)
  obtain ⟨d0, d1, d2, d3, d4, d5, d6, d7⟩ := nv_cells hB'.bn
  have qm := one_cellW hB'.bm
  rw [hk] at d0
  simp only [nvO] at hw2
  have hK2 : K.length ≤ 10000000000000 := by rw [hT] at hlen; simp only [List.length_append] at hlen; omega
  have HKid : Hid (∀ W, Below w0.heap.size w0 W → Boxes n (.slice na nl nc) w W bn bm → Calls Tryd.prog 22 #[.int .i64 0, .bool false, .pointer (some ⟨bn, 0, none⟩), .pointer (some ⟨bm, 0, none⟩)] W fun e w' => e = .returned (.string ⟨K.toArray⟩) ∧ Below W.heap.size W w') := fun W hW hBo => by
    have := kid_any w0 _ n v x 0 (by omega) hka (by rw [Nat.zero_mul, show x.add 0 = x from by cases x; rename_i a b c; cases c <;> rfl]; exact hc) _ hG hK2 false bn bm W hW hBo.bn hBo.bm
    exact this
  obtain ⟨KS, hKS⟩ : ∃ KS : ByteArray, KS = ⟨K.toArray⟩ := ⟨_, rfl⟩
  rw [← hKS] at HKid
  have sK : KS.size ≤ 10000000000000 := by rw [hKS, bA_size]; exact hK2
  have o1 : ((⟨#[40]⟩ : ByteArray)).size = 1 := rfl
  have o2 : ((⟨#[41]⟩ : ByteArray)).size = 1 := rfl
  have d0' : ∀ o, (w2.alloc o).cell? ⟨bn, 0, none⟩ = some (.int .i64 11) := fun o => by rw [← hk]; exact (nv_cells (at_old hB'.bn)).c0
  obtain ⟨w3, hw3⟩ : ∃ w3, w3 = w2.alloc (.cells #[.string ⟨#[]⟩, .string ⟨#[]⟩, .string ⟨#[63, 62]⟩, .string ⟨#[63, 61]⟩, .string ⟨#[63, 33]⟩, .string ⟨#[63, 60, 61]⟩, .string ⟨#[63, 60, 33]⟩] 9) := ⟨_, rfl⟩
  have hb3 : Below w2.heap.size w2 w3 := by rw [hw3]; exact (Below.refl _ _).alloc (Nat.le_refl _) _
  have hB3 := hB'.keep hb3
  have HB3 := hide hB3
  have HB03 : Hid (Below w0.heap.size w0 w3) := HB0.out.trans (hb3.mono HB0.out.size)
  have hnl : nl = N.length := by
    rcases hN with ⟨e, rfl⟩ | ⟨y, c, e, _⟩
    · injection e
    · injection e
  have HNL := hide hnl
  have HNM : Hid (∀ W, Below w0.heap.size w0 W → ∀ j, j < nl → ∃ y, na = some y ∧ nl ≤ nc ∧ nc ≤ 9223372036854775807 ∧ W.cell? (y.add (j * 2)) = some (.string (ntx N j)) ∧ W.cell? ⟨(y.add (j * 2)).block, (y.add (j * 2)).off + 1, none⟩ = some (.int .i64 (nnx N j))) := fun W hbW j hj => by
    rcases hN with ⟨e, rfl⟩ | ⟨y, c, e, hcc, hcl⟩
    · rw [hnl] at hj; simp at hj
    · have hj' : j < N.length := by omega
      injection e with e1 e2 e3
      refine ⟨y, e1, by omega, by omega, ?_⟩
      rw [ntx_at hj', nnx_at hj']
      exact ⟨below_cell hbW (lt_of_cell (hcl j hj').1) (hcl j hj').1, below_cell hbW (lt_of_cell (hcl j hj').2) (hcl j hj').2⟩
  have HNZ := hide hnz
  obtain ⟨num, hnum⟩ : ∃ num, num = n.num := ⟨_, rfl⟩
  rw [← hnum] at hT
  have HX : Hid (∀ W, Boxes n (.slice na nl nc) w W bn bm → W.cell? ⟨bn, 0, none⟩ = some (.int .i64 11) ∧ W.cell? ⟨bn, 3, none⟩ = some (.int .i64 num) ∧ W.cell? ⟨bm, 0, none⟩ = some (.slice na nl nc)) := fun W hW => by
    have := nv_cells hW.bn
    rw [hnum, ← hk]
    exact ⟨this.c0, this.c3, one_cellW hW.bm⟩
  have HR : Hid (∀ S, NmS N num nl S → (⟨T.toArray⟩ : ByteArray) = (⟨#[40]⟩ : ByteArray) ++ S ++ KS ++ ⟨#[41]⟩) := fun S hS => by
    rw [hnl] at hS
    rw [hT, hS.name htw, hKS]
    apply ByteArray.ext
    simp only [ByteArray.data_append]
    apply Array.ext'
    simp
  obtain ⟨RT, hRT⟩ : ∃ RT : ByteArray, RT = ⟨T.toArray⟩ := ⟨_, rfl⟩
  rw [← hRT] at HR ⊢
  clear hka hkl hc hG hlen hT hK2 hKS hRT hb3 hB3 hN htw hnz hnl hnum
  clear hB' hw0 hk
  go_enter Tryd.func13, Tryd.ntmps13
  go_upto_region 1 with fail
  rw [← hw2, ← hbm, ← hbn]
  clear hw2 hbm hbn
  go_upto_region 42 with fail
  rw [← hw3]
  clear hw3 d0 d1 d2 d3 d4 d5 d6 d7 qm d0' HB HB0
  go_wp2
  go_loopw [6, 11] (fun s c wr => ∃ (j : Nat) (S : ByteArray), j ≤ nl ∧ c = .int .i64 j ∧ s = .string S ∧ NmS N num j S ∧ Boxes n (.slice na nl nc) w wr bn bm ∧ Below w0.heap.size w0 wr) (fun _ c _ => nl - (intOf c).toNat)
  case atStart => exact ⟨0, ⟨#[]⟩, Nat.zero_le _, rfl, rfl, .inr ⟨fun i hi => absurd hi (by omega), rfl⟩, HB3.out, HB03.out⟩
  case round =>
    obtain ⟨j, S, hj, rfl, rfl, hS, hB, hb0⟩ := hrel
    obtain ⟨w4, hw4⟩ : ∃ w4, w4 = wr := ⟨_, rfl⟩
    subst hw4
    have HS := hide hS
    have HB4 := hide hB
    have HB04 := hide hb0
    have hSz := hS.size (by have := HNL.out; omega) HNZ.out
    clear hS hB hb0 HB3 HB03
    by_cases hlt : j < nl
    · obtain ⟨y, hna, hc1, hc2, m0, m1⟩ := HNM.out _ HB04.out j hlt
      obtain ⟨c0, c3, cm⟩ := HX.out _ HB4.out
      subst hna
      have hsz := HNZ.out j (by have := HNL.out; omega)
      have HTr : Hid (nnx N j = num → NmS N num (j + 1) (⟨#[63, 60]⟩ ++ ntx N j ++ ⟨#[62]⟩)) := fun e => .inl ⟨j, by omega, e, rfl⟩
      have HFa : Hid (nnx N j ≠ num → NmS N num (j + 1) S) := fun e => by
        rcases HS.out with ⟨i, hi, h1, h2⟩ | ⟨h1, h2⟩
        · exact .inl ⟨i, by omega, h1, h2⟩
        · exact .inr ⟨fun i hi => by
            by_cases hij : i = j
            · rw [hij]; exact e
            · exact h1 i (by omega), h2⟩
      obtain ⟨a, ha⟩ : ∃ a, a = ntx N j := ⟨_, rfl⟩
      obtain ⟨nu, hnu⟩ : ∃ nu, nu = nnx N j := ⟨_, rfl⟩
      rw [← ha] at m0 hsz HTr
      rw [← hnu] at m1 HTr HFa
      have e5 : (j : Int) < (nl : Int) := by omega
      have e6 : (0 : Int) ≤ (j : Int) := by omega
      have hkw : IntKind.i64.wrap ((j : Int) + 1) = (j : Int) + 1 := by rw [IntKind.wrap_i64]; omega
      have z1 : ¬ (9223372036854775807 < ((⟨#[63, 60]⟩ : ByteArray)).size + a.size) := by have : ((⟨#[63, 60]⟩ : ByteArray)).size = 2 := rfl; omega
      have z2 : ¬ (9223372036854775807 < ((⟨#[63, 60]⟩ : ByteArray) ++ a).size + ((⟨#[62]⟩ : ByteArray)).size) := by rw [ByteArray.size_append]; have : ((⟨#[63, 60]⟩ : ByteArray)).size = 2 := rfl; have h2 : ((⟨#[62]⟩ : ByteArray)).size = 1 := rfl; omega
      clear ha hnu hsz hc1 hc2 hSz sK
      have HB5 : Hid (Boxes n (.slice (some y) nl nc) w w4.drew bn bm) := HB4.out.keep ⟨rfl, rfl, rfl, Nat.le_refl _, fun _ _ => rfl⟩
      have HB05 : Hid (Below w0.heap.size w0 w4.drew) := HB04.out.trans ⟨rfl, rfl, rfl, Nat.le_refl _, fun _ _ => rfl⟩
      by_cases hq : nu = num
      · have HF' := hide (HTr.out hq)
        have b1 : (nu == num) = true := by simp [hq]
        clear HTr HFa HKid HR
        go_upto_region 45 with fail
        go_region
        all_goals go_wp2
        all_goals go_roundw
        all_goals first | exact ⟨j + 1, _, by omega, by go_num, rfl, HF'.out, HB5.out, HB05.out⟩ | (simp [intOf]; omega)
      · have HF' := hide (HFa.out hq)
        have b1 : (nu == num) = false := by simpa using hq
        clear HTr HFa HKid HR
        go_upto_region 45 with fail
        go_region
        all_goals go_wp2
        all_goals go_roundw
        all_goals first | exact ⟨j + 1, _, by omega, by go_num, rfl, HF'.out, HB5.out, HB05.out⟩ | (simp [intOf]; omega)
    · have e5 : ¬ (j : Int) < (nl : Int) := by omega
      have hjm : j = nl := by omega
      subst hjm
      have HRR := hide (HR.out S HS.out)
      obtain ⟨c0, c3, cm⟩ := HX.out _ HB4.out
      have HK := hide (HKid.out _ HB04.out HB4.out)
      have z1 : ¬ (9223372036854775807 < ((⟨#[40]⟩ : ByteArray)).size + S.size) := by omega
      have z2 : ¬ (9223372036854775807 < ((⟨#[40]⟩ : ByteArray) ++ S).size + KS.size) := by rw [ByteArray.size_append]; omega
      have z3 : ¬ (9223372036854775807 < ((⟨#[40]⟩ : ByteArray) ++ S ++ KS).size + ((⟨#[41]⟩ : ByteArray)).size) := by simp only [ByteArray.size_append]; omega
      clear hSz sK HKid HR HS o1 o2
      go_wp2_with fail
      refine HK.out.mono ?_
      rintro e w5 ⟨rfl, hb5⟩
      have HB5 := hide (HB4.out.keep hb5)
      clear hb5 HK c0 c3 cm
      go_wp2
      go_ret
      exact ⟨by rw [HRR.out]; rfl, HB5.out.bel⟩

end Go.Proofs.YtpcohmbipbiglaaDoor

namespace Go.Proofs.YtpcohmbipbiglaaDoor
open Go.RowKit
set_option linter.unusedVariables false

theorem len_szL : ∀ ts : List Tr, ts.length ≤ szL ts
  | [] => by simp
  | t :: ts => by
    have h1 := len_szL ts
    have h2 : 1 ≤ szT t := by rw [szT_kids]; omega
    rw [szL, List.length_cons]; omega
theorem szT_at {ts : List Tr} {j : Nat} (hj : j < ts.length) : szT ts[j] ≤ szL ts := by
  have h1 := szL_drop hj
  have h2 := szL_le ts j
  omega
theorem refNode_any {w0 : World} {n : NV} {t : Tr} (h : NodeC w0 n t) (na : Option Addr) (nl nc : Nat) (N : NmL) (hN : NamesC w0 (.slice na nl nc) N) (htw : NoTw N N.length) (hnz : ∀ i, i < N.length → (ntx N i).size ≤ 1048576) : OkT t → szT t ≤ 1000 → (shT N t).length ≤ 10000000000000 → RefG w0 (.slice na nl nc) n (shT N t) := by
  induction h with
  | mk n set kids vs hs hk hkids ih =>
    intro hok hsz hlen w hw0
    obtain ⟨hno, hkok⟩ := hok.open
    rw [szT] at hsz
    have hkd : ∀ j (hj : j < kids.length), (vs j).kind = kids[j].kind := fun j hj => ((hkids j hj).open.1).symm
    have hkind := hno.kind
    simp only [Tr.kind] at hkind
    have hG : ∀ j (hj : j < kids.length), (shT N kids[j]).length ≤ 10000000000000 → RefG w0 (.slice na nl nc) (vs j) (shT N kids[j]) := fun j hj hl => ih j hj (hkok j hj) (by have := szT_at hj; omega) hl
    have hsh : shT N (.mk n.kind n.num n.least n.most n.way n.fold set kids) = nodeT N n.kind n.num n.least n.most n.way n.fold set (kids.map Tr.kind) (shL N kids) := by rw [shT]
    rw [hsh] at hlen ⊢
    unfold nodeT at hlen ⊢
    by_cases h2 : n.kind = 2
    · rw [if_pos h2] at hlen ⊢
      by_cases h0 : set.length = 0
      · have hsl : n.sl = 0 := by
          rcases hs with ⟨e, _⟩ | ⟨x, c, e, _⟩
          · injection e
          · injection e with _ e2; omega
        exact ref_noset w0 n na nl nc _ w hw0 hsl (by unfold setT; rw [if_pos h0]) h2
      · rcases hs with ⟨e, rfl⟩ | ⟨x, c, e, hc⟩
        · exact absurd rfl h0
        · injection e with e1 e2 e3
          exact ref_set w0 n na nl nc _ w hw0 x set e1 e2 h0 hno.set.1 hc hno.set.2 (by unfold setT; rw [if_neg h0]) h2
    rw [if_neg h2] at hlen ⊢
    have some : kids.length ≠ 0 → ∃ x, n.ka = .some x ∧ n.kl = kids.length ∧ ∀ j, j < kids.length → NCells w0 (x.add (j * 8)) (vs j) := fun h0 => by
      rcases hk with ⟨_, _, _, h1⟩ | ⟨x, hx, hl, _, hc⟩
      · exact absurd h1 h0
      · exact ⟨x, hx, hl, hc⟩
    have hkm := len_szL kids
    by_cases h9 : n.kind = 9
    · rw [if_pos h9, shL_len] at hlen ⊢
      have h22 : 2 ≤ kids.length := hok.two (.inl h9)
      obtain ⟨x, hx, hl, hc⟩ := some (by omega)
      refine ref_row w0 n na nl nc _ w hw0 N kids vs x hx hl (by omega) hc (fun j hj => hG j hj ?_) hkd hlen rfl h9
      have h1 := upT_le (partAt (kids.map Tr.kind) (shL N kids)) (j := j + 1) (n := kids.length) (by omega)
      rw [upT, List.length_append, partAt_at N kids j hj] at h1
      have h3 : (shT N kids[j]).length ≤ (wrapT (decide (kids[j].kind = 10)) (shT N kids[j])).length := by unfold wrapT; split <;> simp <;> omega
      omega
    rw [if_neg h9] at hlen ⊢
    by_cases h10 : n.kind = 10
    · rw [if_pos h10, shL_len] at hlen ⊢
      have h22 : 2 ≤ kids.length := hok.two (.inr h10)
      obtain ⟨x, hx, hl, hc⟩ := some (by omega)
      refine ref_either w0 n na nl nc _ w hw0 N kids vs x hx hl (by omega) hc (fun j hj => hG j hj ?_) hlen rfl h10
      have h1 := upT_le (barAt (shL N kids)) (j := j + 1) (n := kids.length) (by omega)
      rw [upT, List.length_append, barAt_at N kids j hj, List.length_append] at h1
      omega
    rw [if_neg h10] at hlen ⊢
    have one : 11 ≤ n.kind ∧ n.kind ≤ 17 → ∃ x, n.ka = .some x ∧ n.kl = 1 ∧ NCells w0 x (vs 0) ∧ 0 < kids.length := fun hh => by
      have h1 : kids.length = 1 := hok.one hh
      obtain ⟨x, hx, hl, hc⟩ := some (by omega)
      refine ⟨x, hx, by omega, ?_, by omega⟩
      have := hc 0 (by omega)
      rw [Nat.zero_mul, show x.add 0 = x from by cases x; rename_i a b c; cases c <;> rfl] at this
      exact this
    by_cases h12 : n.kind = 12
    · rw [if_pos h12] at hlen ⊢
      obtain ⟨x, hx, hl, hc, h0⟩ := one (by omega)
      rw [kind_at _ _ h0, shL_at _ _ _ h0, ← hkd 0 h0] at hlen ⊢
      obtain ⟨r1, r2, r3⟩ := hno.rep h12
      refine ref_repeat w0 n na nl nc _ w hw0 (vs 0) x (shT N kids[0]) hx hl hc (hG 0 h0 ?_) r1 r2 r3 hlen rfl h12
      rw [List.length_append] at hlen
      have h3 : (shT N kids[0]).length ≤ (wrapT (aloneB (vs 0).kind) (shT N kids[0])).length := by unfold wrapT; split <;> simp <;> omega
      omega
    rw [if_neg h12] at hlen ⊢
    by_cases h18 : n.kind = 18
    · rw [if_pos h18] at hlen ⊢
      have hn := hno.ag h18
      simp only [Tr.num] at hn
      by_cases hf : n.fold = true
      · exact ref_again_true w0 n na nl nc _ w hw0 hf (by unfold agT; rw [if_pos hf]; simp) (by omega) h18
      · exact ref_again_false w0 n na nl nc _ w hw0 (by simpa using hf) (by unfold agT; rw [if_neg hf]) (by omega) h18
    rw [if_neg h18] at hlen ⊢
    by_cases hop : n.kind = 11 ∨ (13 ≤ n.kind ∧ n.kind ≤ 17)
    · rw [if_pos hop] at hlen ⊢
      obtain ⟨x, hx, hl, hc, h0⟩ := one (by omega)
      rw [shL_at _ _ _ h0] at hlen ⊢
      have hg := hG 0 h0 (by simp only [List.length_append] at hlen; omega)
      rcases (by omega : n.kind = 11 ∨ n.kind = 13 ∨ n.kind = 14 ∨ n.kind = 15 ∨ n.kind = 16 ∨ n.kind = 17) with e | e | e | e | e | e
      · exact ref_open11 w0 n na nl nc _ w hw0 (vs 0) x (shT N kids[0]) hx hl hc hg hlen N hN htw hnz (by rw [e]; rfl) e
      · exact ref_open13 w0 n na nl nc _ w hw0 (vs 0) x (shT N kids[0]) hx hl hc hg hlen (by rw [e]; rfl) e
      · exact ref_open14 w0 n na nl nc _ w hw0 (vs 0) x (shT N kids[0]) hx hl hc hg hlen (by rw [e]; rfl) e
      · exact ref_open15 w0 n na nl nc _ w hw0 (vs 0) x (shT N kids[0]) hx hl hc hg hlen (by rw [e]; rfl) e
      · exact ref_open16 w0 n na nl nc _ w hw0 (vs 0) x (shT N kids[0]) hx hl hc hg hlen (by rw [e]; rfl) e
      · exact ref_open17 w0 n na nl nc _ w hw0 (vs 0) x (shT N kids[0]) hx hl hc hg hlen (by rw [e]; rfl) e
    · rw [if_neg hop] at hlen ⊢
      rcases (by omega : n.kind = 1 ∨ n.kind = 3 ∨ n.kind = 4 ∨ n.kind = 5 ∨ n.kind = 6 ∨ n.kind = 7 ∨ n.kind = 8) with e | e | e | e | e | e | e
      · exact ref_empty w0 n na nl nc _ w hw0 (by rw [e]; rfl) e
      · exact ref_sign3 w0 n na nl nc _ w hw0 (by rw [e]; rfl) e
      · exact ref_sign4 w0 n na nl nc _ w hw0 (by rw [e]; rfl) e
      · exact ref_sign5 w0 n na nl nc _ w hw0 (by rw [e]; rfl) e
      · exact ref_sign6 w0 n na nl nc _ w hw0 (by rw [e]; rfl) e
      · exact ref_sign7 w0 n na nl nc _ w hw0 (by rw [e]; rfl) e
      · exact ref_sign8 w0 n na nl nc _ w hw0 (by rw [e]; rfl) e

end Go.Proofs.YtpcohmbipbiglaaDoor
