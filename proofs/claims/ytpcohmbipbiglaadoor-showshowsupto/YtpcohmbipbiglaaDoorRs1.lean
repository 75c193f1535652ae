/- The reference's ShowNode: its closure kid. -/
import Derived.Test.YtpcohmbipbiglaaDoorWs2
import Derived.Test.YtpcohmbipbiglaaDoorNshow
import Derived.Deep.RegionWith

namespace Go.Proofs.YtpcohmbipbiglaaDoor
open Go.RowKit
open Go.Lib (decDigits)
set_option linter.unusedVariables false

/-- the reference shows this of a node. -/
def RefG (w0 : World) (nm : Value) (n : NV) (T : List UInt8) : Prop := ∀ W, Below w0.heap.size w0 W → Calls Tryd.prog 13 #[nvV n, nm] W fun e w' => e = .returned (.string ⟨T.toArray⟩) ∧ Below W.heap.size W w'
theorem one_cellW {w : World} {k : Nat} {v : Value} {t : TypeId} {fr : Nat × Nat} (h : w.heap[k]? = some (.cells #[v] t fr)) : w.cell? ⟨k, 0, none⟩ = some v := by simp [World.cell?, h]
set_option maxHeartbeats 4000000 in
set_option maxRecDepth 100000 in
theorem kid_any (w0 : World) (nm : Value) (n v : NV) (x : Addr) (j : Nat) (hj : j < n.kl) (hka : n.ka = some x) (hcl : NCells w0 (x.add (j * 8)) v) (T : List UInt8) (hG : RefG w0 nm v T) (hT : T.length ≤ 10000000000000) (z : Bool) (bn bm : Nat) (W : World) (hW : Below w0.heap.size w0 W) (hbn : W.heap[bn]? = some (nvO n)) (hbm : W.heap[bm]? = some (.cells #[nm] 32)) :
    Calls Tryd.prog 22 #[.int .i64 (j : Int), .bool z, .pointer (some ⟨bn, 0, none⟩), .pointer (some ⟨bm, 0, none⟩)] W fun e w' => e = .returned (.string ⟨(wrapT z T).toArray⟩) ∧ Below W.heap.size W w' := by
  have HBc : Hid (Below W.heap.size W W.drew) := ⟨rfl, rfl, rfl, Nat.le_refl _, fun _ _ => rfl⟩
  have HK := hide (hG W.drew (hW.trans (HBc.out.mono hW.size)))
  obtain ⟨d0, d1, d2, d3, d4, d5, d6, d7⟩ := hcl.below (hW.trans (HBc.out.mono hW.size))
  have q2 := (nv_cells (show W.drew.heap[bn]? = some (nvO n) from hbn)).c2
  rw [hka] at q2
  have qm := one_cellW (show W.drew.heap[bm]? = some (.cells #[nm] 32) from hbm)
  have e1 : (j : Int) < (n.kl : Int) := by omega
  have e0 : (0 : Int) ≤ (j : Int) := by omega
  simp only [nvV] at HK
  obtain ⟨S, hS⟩ : ∃ S : ByteArray, S = ⟨T.toArray⟩ := ⟨_, rfl⟩
  have hSz : S.size ≤ 10000000000000 := by rw [hS, bA_size]; exact hT
  rw [← hS] at HK
  have z1 : ¬ (9223372036854775807 < ((⟨#[40, 63, 58]⟩ : ByteArray)).size + S.size) := by have : ((⟨#[40, 63, 58]⟩ : ByteArray)).size = 3 := rfl; omega
  have z2 : ¬ (9223372036854775807 < ((⟨#[40, 63, 58]⟩ : ByteArray) ++ S).size + ((⟨#[41]⟩ : ByteArray)).size) := by rw [ByteArray.size_append]; have : ((⟨#[40, 63, 58]⟩ : ByteArray)).size = 3 := rfl; have h2 : ((⟨#[41]⟩ : ByteArray)).size = 1 := rfl; omega
  have HRt : Hid ((⟨(wrapT true T).toArray⟩ : ByteArray) = (⟨#[40, 63, 58]⟩ : ByteArray) ++ S ++ ⟨#[41]⟩) := by
    show _ = _
    rw [hS]
    apply ByteArray.ext
    rw [ByteArray.data_append, ByteArray.data_append]
    apply Array.ext'
    simp [wrapT]
  have HRf : Hid ((⟨(wrapT false T).toArray⟩ : ByteArray) = S) := by
    show _ = _
    rw [hS]
    rfl
  clear hj hka hcl hG hT hW hbn hbm hS hSz
  cases z with
  | true =>
    rw [HRt.out]
    clear HRt HRf
    go_enter Tryd.func22, Tryd.ntmps22
    go_wp2
    go_region_with (go_at_call 13; refine HK.out.mono ?_; rintro e w2 ⟨rfl, hb2⟩; have HB2 := hide (HBc.out.trans hb2); clear hb2 d0 d1 d2 d3 d4 d5 d6 d7 q2 qm)
    all_goals go_wp2
    all_goals go_ret
    all_goals exact ⟨rfl, HB2.out⟩
  | false =>
    rw [HRf.out]
    clear HRt HRf
    go_enter Tryd.func22, Tryd.ntmps22
    go_wp2
    go_region_with (go_at_call 13; refine HK.out.mono ?_; rintro e w2 ⟨rfl, hb2⟩; have HB2 := hide (HBc.out.trans hb2); clear hb2 d0 d1 d2 d3 d4 d5 d6 d7 q2 qm)
    all_goals go_wp2
    all_goals go_ret
    all_goals exact ⟨rfl, HB2.out⟩

/-- the two boxes that ShowNode makes. -/
structure Boxes (n : NV) (nm : Value) (w w2 : World) (bn bm : Nat) : Prop where
  bn : w2.heap[bn]? = some (nvO n)
  bm : w2.heap[bm]? = some (.cells #[nm] 32)
  bel : Below w.heap.size w w2
theorem Boxes.mk2 (n : NV) (nm : Value) (w : World) : Boxes n nm w ((w.alloc (nvO n)).alloc (.cells #[nm] 32)) w.heap.size (w.heap.size + 1) := by
  refine ⟨at_old (at_new _ _), at_new' _ _ (by simp), ((Below.refl _ w).alloc (Nat.le_refl _) _).alloc (by simp) _⟩
theorem Boxes.keep {n : NV} {nm : Value} {w w2 w3 : World} {bn bm : Nat} (h : Boxes n nm w w2 bn bm) (hb : Below w2.heap.size w2 w3) : Boxes n nm w w3 bn bm :=
  ⟨by rw [hb.block _ (lt_of_block h.bn)]; exact h.bn, by rw [hb.block _ (lt_of_block h.bm)]; exact h.bm, h.bel.trans (hb.mono h.bel.size)⟩

end Go.Proofs.YtpcohmbipbiglaaDoor

namespace Go.Proofs.YtpcohmbipbiglaaDoor
open Go.RowKit
open Go.Lib (decDigits)
set_option linter.unusedVariables false

set_option maxHeartbeats 8000000 in
set_option maxRecDepth 100000 in
theorem ref_empty (w0 : World) (n : NV) (na : Option Addr) (nl nc : Nat) (T : List UInt8) (w : World) (hw0 : Below w0.heap.size w0 w) (hT : T = [40, 63, 58, 41]) (hk : n.kind = 1) : Calls Tryd.prog 13 #[nvV n, .slice na nl nc] w fun e w' => e = .returned (.string ⟨T.toArray⟩) ∧ Below w.heap.size w w' := by
  have hmf : ∀ (fn : Fn) (first cap : Array Value) (w : World), (Instr.makeFunc fn first cap).run Tryd.prog w = .ok (.func fn first cap) w := fun _ _ _ _ => rfl
  obtain ⟨w2, hw2⟩ : ∃ w2, w2 = (w.alloc (nvO n)).alloc (.cells #[.slice na nl nc] 32) := ⟨_, rfl⟩
  have hB := Boxes.mk2 n (.slice na nl nc) w
  rw [← hw2] at hB
  obtain ⟨bn, hbn⟩ : ∃ bn, bn = w.heap.size := ⟨_, rfl⟩
  obtain ⟨bm, hbm⟩ : ∃ bm, bm = w.heap.size + 1 := ⟨_, rfl⟩
  rw [← hbm] at hB
  have hB' : Boxes n (.slice na nl nc) w w2 bn bm := by rw [hbn]; exact hB
  clear hB
  have HB := hide hB'
  have HB0 : Hid (Below w0.heap.size w0 w2) := hw0.trans (hB'.bel.mono hw0.size)
  obtain ⟨d0, d1, d2, d3, d4, d5, d6, d7⟩ := nv_cells hB'.bn
  have qm := one_cellW hB'.bm
  rw [hk] at d0
  simp only [nvO] at hw2
  subst hT
  clear hB' hw0 hk
  go_enter Tryd.func13, Tryd.ntmps13
  go_upto_region 1 with fail
  rw [← hw2, ← hbm, ← hbn]
  clear hw2 hbm hbn
  go_wp2
  go_ret
  exact ⟨rfl, HB.out.bel⟩
set_option maxHeartbeats 8000000 in
set_option maxRecDepth 100000 in
theorem ref_sign3 (w0 : World) (n : NV) (na : Option Addr) (nl nc : Nat) (T : List UInt8) (w : World) (hw0 : Below w0.heap.size w0 w) (hT : T = [94]) (hk : n.kind = 3) : Calls Tryd.prog 13 #[nvV n, .slice na nl nc] w fun e w' => e = .returned (.string ⟨T.toArray⟩) ∧ Below w.heap.size w w' := by
  have hmf : ∀ (fn : Fn) (first cap : Array Value) (w : World), (Instr.makeFunc fn first cap).run Tryd.prog w = .ok (.func fn first cap) w := fun _ _ _ _ => rfl
  obtain ⟨w2, hw2⟩ : ∃ w2, w2 = (w.alloc (nvO n)).alloc (.cells #[.slice na nl nc] 32) := ⟨_, rfl⟩
  have hB := Boxes.mk2 n (.slice na nl nc) w
  rw [← hw2] at hB
  obtain ⟨bn, hbn⟩ : ∃ bn, bn = w.heap.size := ⟨_, rfl⟩
  obtain ⟨bm, hbm⟩ : ∃ bm, bm = w.heap.size + 1 := ⟨_, rfl⟩
  rw [← hbm] at hB
  have hB' : Boxes n (.slice na nl nc) w w2 bn bm := by rw [hbn]; exact hB
  clear hB
  have HB := hide hB'
  have HB0 : Hid (Below w0.heap.size w0 w2) := hw0.trans (hB'.bel.mono hw0.size)
  obtain ⟨d0, d1, d2, d3, d4, d5, d6, d7⟩ := nv_cells hB'.bn
  have qm := one_cellW hB'.bm
  rw [hk] at d0
  simp only [nvO] at hw2
  subst hT
  have d0' : ∀ o, (w2.alloc o).cell? ⟨bn, 0, none⟩ = some (.int .i64 3) := fun o => by rw [← hk]; exact (nv_cells (at_old hB'.bn)).c0
  clear hB' hw0 hk
  go_enter Tryd.func13, Tryd.ntmps13
  go_upto_region 1 with fail
  rw [← hw2, ← hbm, ← hbn]
  clear hw2 hbm hbn
  go_wp2
  go_ret
  exact ⟨rfl, HB.out.bel.alloc HB.out.bel.size _⟩
set_option maxHeartbeats 8000000 in
set_option maxRecDepth 100000 in
theorem ref_sign4 (w0 : World) (n : NV) (na : Option Addr) (nl nc : Nat) (T : List UInt8) (w : World) (hw0 : Below w0.heap.size w0 w) (hT : T = [36]) (hk : n.kind = 4) : Calls Tryd.prog 13 #[nvV n, .slice na nl nc] w fun e w' => e = .returned (.string ⟨T.toArray⟩) ∧ Below w.heap.size w w' := by
  have hmf : ∀ (fn : Fn) (first cap : Array Value) (w : World), (Instr.makeFunc fn first cap).run Tryd.prog w = .ok (.func fn first cap) w := fun _ _ _ _ => rfl
  obtain ⟨w2, hw2⟩ : ∃ w2, w2 = (w.alloc (nvO n)).alloc (.cells #[.slice na nl nc] 32) := ⟨_, rfl⟩
  have hB := Boxes.mk2 n (.slice na nl nc) w
  rw [← hw2] at hB
  obtain ⟨bn, hbn⟩ : ∃ bn, bn = w.heap.size := ⟨_, rfl⟩
  obtain ⟨bm, hbm⟩ : ∃ bm, bm = w.heap.size + 1 := ⟨_, rfl⟩
  rw [← hbm] at hB
  have hB' : Boxes n (.slice na nl nc) w w2 bn bm := by rw [hbn]; exact hB
  clear hB
  have HB := hide hB'
  have HB0 : Hid (Below w0.heap.size w0 w2) := hw0.trans (hB'.bel.mono hw0.size)
  obtain ⟨d0, d1, d2, d3, d4, d5, d6, d7⟩ := nv_cells hB'.bn
  have qm := one_cellW hB'.bm
  rw [hk] at d0
  simp only [nvO] at hw2
  subst hT
  have d0' : ∀ o, (w2.alloc o).cell? ⟨bn, 0, none⟩ = some (.int .i64 4) := fun o => by rw [← hk]; exact (nv_cells (at_old hB'.bn)).c0
  clear hB' hw0 hk
  go_enter Tryd.func13, Tryd.ntmps13
  go_upto_region 1 with fail
  rw [← hw2, ← hbm, ← hbn]
  clear hw2 hbm hbn
  go_wp2
  go_ret
  exact ⟨rfl, HB.out.bel.alloc HB.out.bel.size _⟩
set_option maxHeartbeats 8000000 in
set_option maxRecDepth 100000 in
theorem ref_sign5 (w0 : World) (n : NV) (na : Option Addr) (nl nc : Nat) (T : List UInt8) (w : World) (hw0 : Below w0.heap.size w0 w) (hT : T = [92, 65]) (hk : n.kind = 5) : Calls Tryd.prog 13 #[nvV n, .slice na nl nc] w fun e w' => e = .returned (.string ⟨T.toArray⟩) ∧ Below w.heap.size w w' := by
  have hmf : ∀ (fn : Fn) (first cap : Array Value) (w : World), (Instr.makeFunc fn first cap).run Tryd.prog w = .ok (.func fn first cap) w := fun _ _ _ _ => rfl
  obtain ⟨w2, hw2⟩ : ∃ w2, w2 = (w.alloc (nvO n)).alloc (.cells #[.slice na nl nc] 32) := ⟨_, rfl⟩
  have hB := Boxes.mk2 n (.slice na nl nc) w
  rw [← hw2] at hB
  obtain ⟨bn, hbn⟩ : ∃ bn, bn = w.heap.size := ⟨_, rfl⟩
  obtain ⟨bm, hbm⟩ : ∃ bm, bm = w.heap.size + 1 := ⟨_, rfl⟩
  rw [← hbm] at hB
  have hB' : Boxes n (.slice na nl nc) w w2 bn bm := by rw [hbn]; exact hB
  clear hB
  have HB := hide hB'
  have HB0 : Hid (Below w0.heap.size w0 w2) := hw0.trans (hB'.bel.mono hw0.size)
  obtain ⟨d0, d1, d2, d3, d4, d5, d6, d7⟩ := nv_cells hB'.bn
  have qm := one_cellW hB'.bm
  rw [hk] at d0
  simp only [nvO] at hw2
  subst hT
  have d0' : ∀ o, (w2.alloc o).cell? ⟨bn, 0, none⟩ = some (.int .i64 5) := fun o => by rw [← hk]; exact (nv_cells (at_old hB'.bn)).c0
  clear hB' hw0 hk
  go_enter Tryd.func13, Tryd.ntmps13
  go_upto_region 1 with fail
  rw [← hw2, ← hbm, ← hbn]
  clear hw2 hbm hbn
  go_wp2
  go_ret
  exact ⟨rfl, HB.out.bel.alloc HB.out.bel.size _⟩
set_option maxHeartbeats 8000000 in
set_option maxRecDepth 100000 in
theorem ref_sign6 (w0 : World) (n : NV) (na : Option Addr) (nl nc : Nat) (T : List UInt8) (w : World) (hw0 : Below w0.heap.size w0 w) (hT : T = [92, 122]) (hk : n.kind = 6) : Calls Tryd.prog 13 #[nvV n, .slice na nl nc] w fun e w' => e = .returned (.string ⟨T.toArray⟩) ∧ Below w.heap.size w w' := by
  have hmf : ∀ (fn : Fn) (first cap : Array Value) (w : World), (Instr.makeFunc fn first cap).run Tryd.prog w = .ok (.func fn first cap) w := fun _ _ _ _ => rfl
  obtain ⟨w2, hw2⟩ : ∃ w2, w2 = (w.alloc (nvO n)).alloc (.cells #[.slice na nl nc] 32) := ⟨_, rfl⟩
  have hB := Boxes.mk2 n (.slice na nl nc) w
  rw [← hw2] at hB
  obtain ⟨bn, hbn⟩ : ∃ bn, bn = w.heap.size := ⟨_, rfl⟩
  obtain ⟨bm, hbm⟩ : ∃ bm, bm = w.heap.size + 1 := ⟨_, rfl⟩
  rw [← hbm] at hB
  have hB' : Boxes n (.slice na nl nc) w w2 bn bm := by rw [hbn]; exact hB
  clear hB
  have HB := hide hB'
  have HB0 : Hid (Below w0.heap.size w0 w2) := hw0.trans (hB'.bel.mono hw0.size)
  obtain ⟨d0, d1, d2, d3, d4, d5, d6, d7⟩ := nv_cells hB'.bn
  have qm := one_cellW hB'.bm
  rw [hk] at d0
  simp only [nvO] at hw2
  subst hT
  have d0' : ∀ o, (w2.alloc o).cell? ⟨bn, 0, none⟩ = some (.int .i64 6) := fun o => by rw [← hk]; exact (nv_cells (at_old hB'.bn)).c0
  clear hB' hw0 hk
  go_enter Tryd.func13, Tryd.ntmps13
  go_upto_region 1 with fail
  rw [← hw2, ← hbm, ← hbn]
  clear hw2 hbm hbn
  go_wp2
  go_ret
  exact ⟨rfl, HB.out.bel.alloc HB.out.bel.size _⟩
set_option maxHeartbeats 8000000 in
set_option maxRecDepth 100000 in
theorem ref_sign7 (w0 : World) (n : NV) (na : Option Addr) (nl nc : Nat) (T : List UInt8) (w : World) (hw0 : Below w0.heap.size w0 w) (hT : T = [92, 98]) (hk : n.kind = 7) : Calls Tryd.prog 13 #[nvV n, .slice na nl nc] w fun e w' => e = .returned (.string ⟨T.toArray⟩) ∧ Below w.heap.size w w' := by
  have hmf : ∀ (fn : Fn) (first cap : Array Value) (w : World), (Instr.makeFunc fn first cap).run Tryd.prog w = .ok (.func fn first cap) w := fun _ _ _ _ => rfl
  obtain ⟨w2, hw2⟩ : ∃ w2, w2 = (w.alloc (nvO n)).alloc (.cells #[.slice na nl nc] 32) := ⟨_, rfl⟩
  have hB := Boxes.mk2 n (.slice na nl nc) w
  rw [← hw2] at hB
  obtain ⟨bn, hbn⟩ : ∃ bn, bn = w.heap.size := ⟨_, rfl⟩
  obtain ⟨bm, hbm⟩ : ∃ bm, bm = w.heap.size + 1 := ⟨_, rfl⟩
  rw [← hbm] at hB
  have hB' : Boxes n (.slice na nl nc) w w2 bn bm := by rw [hbn]; exact hB
  clear hB
  have HB := hide hB'
  have HB0 : Hid (Below w0.heap.size w0 w2) := hw0.trans (hB'.bel.mono hw0.size)
  obtain ⟨d0, d1, d2, d3, d4, d5, d6, d7⟩ := nv_cells hB'.bn
  have qm := one_cellW hB'.bm
  rw [hk] at d0
  simp only [nvO] at hw2
  subst hT
  have d0' : ∀ o, (w2.alloc o).cell? ⟨bn, 0, none⟩ = some (.int .i64 7) := fun o => by rw [← hk]; exact (nv_cells (at_old hB'.bn)).c0
  clear hB' hw0 hk
  go_enter Tryd.func13, Tryd.ntmps13
  go_upto_region 1 with fail
  rw [← hw2, ← hbm, ← hbn]
  clear hw2 hbm hbn
  go_wp2
  go_ret
  exact ⟨rfl, HB.out.bel.alloc HB.out.bel.size _⟩
set_option maxHeartbeats 8000000 in
set_option maxRecDepth 100000 in
theorem ref_sign8 (w0 : World) (n : NV) (na : Option Addr) (nl nc : Nat) (T : List UInt8) (w : World) (hw0 : Below w0.heap.size w0 w) (hT : T = [92, 66]) (hk : n.kind = 8) : Calls Tryd.prog 13 #[nvV n, .slice na nl nc] w fun e w' => e = .returned (.string ⟨T.toArray⟩) ∧ Below w.heap.size w w' := by
  have hmf : ∀ (fn : Fn) (first cap : Array Value) (w : World), (Instr.makeFunc fn first cap).run Tryd.prog w = .ok (.func fn first cap) w := fun _ _ _ _ => rfl
  obtain ⟨w2, hw2⟩ : ∃ w2, w2 = (w.alloc (nvO n)).alloc (.cells #[.slice na nl nc] 32) := ⟨_, rfl⟩
  have hB := Boxes.mk2 n (.slice na nl nc) w
  rw [← hw2] at hB
  obtain ⟨bn, hbn⟩ : ∃ bn, bn = w.heap.size := ⟨_, rfl⟩
  obtain ⟨bm, hbm⟩ : ∃ bm, bm = w.heap.size + 1 := ⟨_, rfl⟩
  rw [← hbm] at hB
  have hB' : Boxes n (.slice na nl nc) w w2 bn bm := by rw [hbn]; exact hB
  clear hB
  have HB := hide hB'
  have HB0 : Hid (Below w0.heap.size w0 w2) := hw0.trans (hB'.bel.mono hw0.size)
  obtain ⟨d0, d1, d2, d3, d4, d5, d6, d7⟩ := nv_cells hB'.bn
  have qm := one_cellW hB'.bm
  rw [hk] at d0
  simp only [nvO] at hw2
  subst hT
  have d0' : ∀ o, (w2.alloc o).cell? ⟨bn, 0, none⟩ = some (.int .i64 8) := fun o => by rw [← hk]; exact (nv_cells (at_old hB'.bn)).c0
  clear hB' hw0 hk
  go_enter Tryd.func13, Tryd.ntmps13
  go_upto_region 1 with fail
  rw [← hw2, ← hbm, ← hbn]
  clear hw2 hbm hbn
  go_wp2
  go_ret
  exact ⟨rfl, HB.out.bel.alloc HB.out.bel.size _⟩
set_option maxHeartbeats 8000000 in
set_option maxRecDepth 100000 in
theorem ref_again_true (w0 : World) (n : NV) (na : Option Addr) (nl nc : Nat) (T : List UInt8) (w : World) (hw0 : Below w0.heap.size w0 w) (hf : n.fold = true) (hT : T = [40, 63, 105, 58] ++ ([92, 107, 60] ++ (decDigits n.num.toNat ++ ([62] ++ [41])))) (hn : 0 ≤ n.num ∧ n.num ≤ 20) (hk : n.kind = 18) : Calls Tryd.prog 13 #[nvV n, .slice na nl nc] w fun e w' => e = .returned (.string ⟨T.toArray⟩) ∧ Below w.heap.size w w' := by
  have hmf : ∀ (fn : Fn) (first cap : Array Value) (w : World), (Instr.makeFunc fn first cap).run Tryd.prog w = .ok (.func fn first cap) w := fun _ _ _ _ => rfl
  obtain ⟨w2, hw2⟩ : ∃ w2, w2 = (w.alloc (nvO n)).alloc (.cells #[.slice na nl nc] 32) := ⟨_, rfl⟩
  have hB := Boxes.mk2 n (.slice na nl nc) w
  rw [← hw2] at hB
  obtain ⟨bn, hbn⟩ : ∃ bn, bn = w.heap.size := ⟨_, rfl⟩
  obtain ⟨bm, hbm⟩ : ∃ bm, bm = w.heap.size + 1 := ⟨_, rfl⟩
  rw [← hbm] at hB
  have hB' : Boxes n (.slice na nl nc) w w2 bn bm := by rw [hbn]; exact hB
  clear hB
  have HB := hide hB'
  have HB0 : Hid (Below w0.heap.size w0 w2) := hw0.trans (hB'.bel.mono hw0.size)
  obtain ⟨d0, d1, d2, d3, d4, d5, d6, d7⟩ := nv_cells hB'.bn
  have qm := one_cellW hB'.bm
  rw [hk] at d0
  simp only [nvO] at hw2
  have HFo := hide hf
  have HFo := hide hf
  rw [hf] at d7
  obtain ⟨num, hnum⟩ : ∃ num, num = n.num := ⟨_, rfl⟩
  have HD : Hid (∀ W, Calls Tryd.prog 24 #[.int .i64 num] W fun e w' => e = .returned (.string ⟨(decDigits num.toNat).toArray⟩) ∧ Below W.heap.size W w') := fun W => by
    have := decimal_any num.toNat (by omega) W
    rw [show ((num.toNat : Nat) : Int) = num by omega] at this
    exact this
  rw [← hnum] at d3 hT
  obtain ⟨D, hD⟩ : ∃ D, D = decDigits num.toNat := ⟨_, rfl⟩
  have hDl : D.length ≤ 101 := by rw [hD]; exact decDigits_small (by omega)
  rw [← hD] at HD hT
  obtain ⟨S, hS⟩ : ∃ S : ByteArray, S = ⟨D.toArray⟩ := ⟨_, rfl⟩
  have hSs : S.size ≤ 101 := by rw [hS, bA_size]; exact hDl
  rw [← hS] at HD
  obtain ⟨P1, hP1⟩ : ∃ P1, P1 = (⟨#[92, 107, 60]⟩ : ByteArray) ++ S := ⟨_, rfl⟩
  obtain ⟨P2, hP2⟩ : ∃ P2, P2 = P1 ++ (⟨#[62]⟩ : ByteArray) := ⟨_, rfl⟩
  have s1 : P1.size ≤ 104 := by rw [hP1, ByteArray.size_append]; have : ((⟨#[92, 107, 60]⟩ : ByteArray)).size = 3 := rfl; omega
  have s2 : P2.size ≤ 105 := by rw [hP2, ByteArray.size_append]; have : ((⟨#[62]⟩ : ByteArray)).size = 1 := rfl; omega
  have z1 : ¬ (9223372036854775807 < ((⟨#[92, 107, 60]⟩ : ByteArray)).size + S.size) := by have : ((⟨#[92, 107, 60]⟩ : ByteArray)).size = 3 := rfl; omega
  have z2 : ¬ (9223372036854775807 < ((⟨#[92, 107, 60]⟩ : ByteArray) ++ S).size + ((⟨#[62]⟩ : ByteArray)).size) := by rw [← hP1]; have : ((⟨#[62]⟩ : ByteArray)).size = 1 := rfl; omega
  have z3 : ¬ (9223372036854775807 < ((⟨#[40, 63, 105, 58]⟩ : ByteArray)).size + ((⟨#[92, 107, 60]⟩ : ByteArray) ++ S ++ (⟨#[62]⟩ : ByteArray)).size) := by rw [← hP1, ← hP2]; have : ((⟨#[40, 63, 105, 58]⟩ : ByteArray)).size = 4 := rfl; omega
  have z4 : ¬ (9223372036854775807 < ((⟨#[40, 63, 105, 58]⟩ : ByteArray) ++ ((⟨#[92, 107, 60]⟩ : ByteArray) ++ S ++ (⟨#[62]⟩ : ByteArray))).size + ((⟨#[41]⟩ : ByteArray)).size) := by rw [ByteArray.size_append, ← hP1, ← hP2]; have : ((⟨#[40, 63, 105, 58]⟩ : ByteArray)).size = 4 := rfl; have h2 : ((⟨#[41]⟩ : ByteArray)).size = 1 := rfl; omega
  have HR : Hid ((⟨T.toArray⟩ : ByteArray) = (⟨#[40, 63, 105, 58]⟩ : ByteArray) ++ ((⟨#[92, 107, 60]⟩ : ByteArray) ++ S ++ (⟨#[62]⟩ : ByteArray)) ++ ⟨#[41]⟩) := by
    show _ = _
    rw [hT, hS]
    apply ByteArray.ext
    simp only [ByteArray.data_append]
    apply Array.ext'
    simp
  obtain ⟨RT, hRT⟩ : ∃ RT : ByteArray, RT = ⟨T.toArray⟩ := ⟨_, rfl⟩
  rw [← hRT] at HR ⊢
  clear hf hT hn hD hDl hS hSs hP1 hP2 s1 s2 hRT hnum
  clear hB' hw0 hk
  go_enter Tryd.func13, Tryd.ntmps13
  go_upto_region 1 with fail
  rw [← hw2, ← hbm, ← hbn]
  clear hw2 hbm hbn
  go_wp2_with fail
  refine (HD.out w2).mono ?_
  rintro e w3 ⟨rfl, hb3⟩
  have hB3 := HB.out.keep hb3
  have HB3 := hide hB3
  clear d0 d1 d2 d3 d4 d5 d6 d7 qm hb3 HD
  obtain ⟨d0, d1, d2, d3, d4, d5, d6, d7⟩ := nv_cells hB3.bn
  rw [HFo.out] at d7
  clear hB3
  go_wp2
  go_ret
  exact ⟨by rw [HR.out]; rfl, HB3.out.bel⟩
set_option maxHeartbeats 8000000 in
set_option maxRecDepth 100000 in
theorem ref_again_false (w0 : World) (n : NV) (na : Option Addr) (nl nc : Nat) (T : List UInt8) (w : World) (hw0 : Below w0.heap.size w0 w) (hf : n.fold = false) (hT : T = [92, 107, 60] ++ (decDigits n.num.toNat ++ [62])) (hn : 0 ≤ n.num ∧ n.num ≤ 20) (hk : n.kind = 18) : Calls Tryd.prog 13 #[nvV n, .slice na nl nc] w fun e w' => e = .returned (.string ⟨T.toArray⟩) ∧ Below w.heap.size w w' := by
  have hmf : ∀ (fn : Fn) (first cap : Array Value) (w : World), (Instr.makeFunc fn first cap).run Tryd.prog w = .ok (.func fn first cap) w := fun _ _ _ _ => rfl
  obtain ⟨w2, hw2⟩ : ∃ w2, w2 = (w.alloc (nvO n)).alloc (.cells #[.slice na nl nc] 32) := ⟨_, rfl⟩
  have hB := Boxes.mk2 n (.slice na nl nc) w
  rw [← hw2] at hB
  obtain ⟨bn, hbn⟩ : ∃ bn, bn = w.heap.size := ⟨_, rfl⟩
  obtain ⟨bm, hbm⟩ : ∃ bm, bm = w.heap.size + 1 := ⟨_, rfl⟩
  rw [← hbm] at hB
  have hB' : Boxes n (.slice na nl nc) w w2 bn bm := by rw [hbn]; exact hB
  clear hB
  have HB := hide hB'
  have HB0 : Hid (Below w0.heap.size w0 w2) := hw0.trans (hB'.bel.mono hw0.size)
  obtain ⟨d0, d1, d2, d3, d4, d5, d6, d7⟩ := nv_cells hB'.bn
  have qm := one_cellW hB'.bm
  rw [hk] at d0
  simp only [nvO] at hw2
  have HFo := hide hf
  rw [hf] at d7
  obtain ⟨num, hnum⟩ : ∃ num, num = n.num := ⟨_, rfl⟩
  have HD : Hid (∀ W, Calls Tryd.prog 24 #[.int .i64 num] W fun e w' => e = .returned (.string ⟨(decDigits num.toNat).toArray⟩) ∧ Below W.heap.size W w') := fun W => by
    have := decimal_any num.toNat (by omega) W
    rw [show ((num.toNat : Nat) : Int) = num by omega] at this
    exact this
  rw [← hnum] at d3 hT
  obtain ⟨D, hD⟩ : ∃ D, D = decDigits num.toNat := ⟨_, rfl⟩
  have hDl : D.length ≤ 101 := by rw [hD]; exact decDigits_small (by omega)
  rw [← hD] at HD hT
  obtain ⟨S, hS⟩ : ∃ S : ByteArray, S = ⟨D.toArray⟩ := ⟨_, rfl⟩
  have hSs : S.size ≤ 101 := by rw [hS, bA_size]; exact hDl
  rw [← hS] at HD
  obtain ⟨P1, hP1⟩ : ∃ P1, P1 = (⟨#[92, 107, 60]⟩ : ByteArray) ++ S := ⟨_, rfl⟩
  obtain ⟨P2, hP2⟩ : ∃ P2, P2 = P1 ++ (⟨#[62]⟩ : ByteArray) := ⟨_, rfl⟩
  have s1 : P1.size ≤ 104 := by rw [hP1, ByteArray.size_append]; have : ((⟨#[92, 107, 60]⟩ : ByteArray)).size = 3 := rfl; omega
  have s2 : P2.size ≤ 105 := by rw [hP2, ByteArray.size_append]; have : ((⟨#[62]⟩ : ByteArray)).size = 1 := rfl; omega
  have z1 : ¬ (9223372036854775807 < ((⟨#[92, 107, 60]⟩ : ByteArray)).size + S.size) := by have : ((⟨#[92, 107, 60]⟩ : ByteArray)).size = 3 := rfl; omega
  have z2 : ¬ (9223372036854775807 < ((⟨#[92, 107, 60]⟩ : ByteArray) ++ S).size + ((⟨#[62]⟩ : ByteArray)).size) := by rw [← hP1]; have : ((⟨#[62]⟩ : ByteArray)).size = 1 := rfl; omega
  have z3 : ¬ (9223372036854775807 < ((⟨#[40, 63, 105, 58]⟩ : ByteArray)).size + ((⟨#[92, 107, 60]⟩ : ByteArray) ++ S ++ (⟨#[62]⟩ : ByteArray)).size) := by rw [← hP1, ← hP2]; have : ((⟨#[40, 63, 105, 58]⟩ : ByteArray)).size = 4 := rfl; omega
  have z4 : ¬ (9223372036854775807 < ((⟨#[40, 63, 105, 58]⟩ : ByteArray) ++ ((⟨#[92, 107, 60]⟩ : ByteArray) ++ S ++ (⟨#[62]⟩ : ByteArray))).size + ((⟨#[41]⟩ : ByteArray)).size) := by rw [ByteArray.size_append, ← hP1, ← hP2]; have : ((⟨#[40, 63, 105, 58]⟩ : ByteArray)).size = 4 := rfl; have h2 : ((⟨#[41]⟩ : ByteArray)).size = 1 := rfl; omega
  have HR : Hid ((⟨T.toArray⟩ : ByteArray) = (⟨#[92, 107, 60]⟩ : ByteArray) ++ S ++ ⟨#[62]⟩) := by
    show _ = _
    rw [hT, hS]
    apply ByteArray.ext
    simp only [ByteArray.data_append]
    apply Array.ext'
    simp
  obtain ⟨RT, hRT⟩ : ∃ RT : ByteArray, RT = ⟨T.toArray⟩ := ⟨_, rfl⟩
  rw [← hRT] at HR ⊢
  clear hf hT hn hD hDl hS hSs hP1 hP2 s1 s2 hRT hnum
  clear hB' hw0 hk
  go_enter Tryd.func13, Tryd.ntmps13
  go_upto_region 1 with fail
  rw [← hw2, ← hbm, ← hbn]
  clear hw2 hbm hbn
  go_wp2_with fail
  refine (HD.out w2).mono ?_
  rintro e w3 ⟨rfl, hb3⟩
  have hB3 := HB.out.keep hb3
  have HB3 := hide hB3
  clear d0 d1 d2 d3 d4 d5 d6 d7 qm hb3 HD
  obtain ⟨d0, d1, d2, d3, d4, d5, d6, d7⟩ := nv_cells hB3.bn
  rw [HFo.out] at d7
  clear hB3
  go_wp2
  go_ret
  exact ⟨by rw [HR.out]; rfl, HB3.out.bel⟩

end Go.Proofs.YtpcohmbipbiglaaDoor

namespace Go.Proofs.YtpcohmbipbiglaaDoor
open Go.RowKit
open Go.Lib (decDigits)
set_option linter.unusedVariables false

set_option maxHeartbeats 8000000 in
set_option maxRecDepth 100000 in
theorem ref_row (w0 : World) (n : NV) (na : Option Addr) (nl nc : Nat) (T : List UInt8) (w : World) (hw0 : Below w0.heap.size w0 w) (N : NmL) (ks : List Tr) (vs : Nat → NV) (x : Addr) (hka : n.ka = some x) (hkl : n.kl = ks.length) (hkm : n.kl ≤ 1000) (hc : ∀ j, j < ks.length → NCells w0 (x.add (j * 8)) (vs j)) (hG : ∀ j (hj : j < ks.length), RefG w0 (.slice na nl nc) (vs j) (shT N ks[j])) (hkd : ∀ j (hj : j < ks.length), (vs j).kind = ks[j].kind) (hlen : (upT (partAt (ks.map Tr.kind) (shL N ks)) ks.length).length ≤ 10000000000000) (hT : T = upT (partAt (ks.map Tr.kind) (shL N ks)) ks.length) (hk : n.kind = 9) : Calls Tryd.prog 13 #[nvV n, .slice na nl nc] w fun e w' => e = .returned (.string ⟨T.toArray⟩) ∧ Below w.heap.size w w' := by
  have hmf : ∀ (fn : Fn) (first cap : Array Value) (w : World), (Instr.makeFunc fn first cap).run Tryd.prog w = .ok (.func fn first cap) w := fun _ _ _ _ => rfl
  obtain ⟨w2, hw2⟩ : ∃ w2, w2 = (w.alloc (nvO n)).alloc (.cells #[.slice na nl nc] 32) := ⟨_, rfl⟩
  have hB := Boxes.mk2 n (.slice na nl nc) w
  rw [← hw2] at hB
  obtain ⟨bn, hbn⟩ : ∃ bn, bn = w.heap.size := ⟨_, rfl⟩
  obtain ⟨bm, hbm⟩ : ∃ bm, bm = w.heap.size + 1 := ⟨_, rfl⟩
  rw [← hbm] at hB
  have hB' : Boxes n (.slice na nl nc) w w2 bn bm := by rw [hbn]; exact hB
  clear hB
  have HB := hide hB'
  have HB0 : Hid (Below w0.heap.size w0 w2) := hw0.trans (hB'.bel.mono hw0.size)
  obtain ⟨d0, d1, d2, d3, d4, d5, d6, d7⟩ := nv_cells hB'.bn
  have qm := one_cellW hB'.bm
  rw [hk] at d0
  simp only [nvO] at hw2
  have hKl : ∀ j (hj : j < ks.length), (shT N ks[j]).length ≤ 10000000000000 := fun j hj => by
    have h1 := upT_le (partAt (ks.map Tr.kind) (shL N ks)) (j := j + 1) (n := ks.length) (by omega)
    rw [upT, List.length_append, partAt_at N ks j hj] at h1
    have h2 : (shT N ks[j]).length ≤ (wrapT (decide (ks[j].kind = 10)) (shT N ks[j])).length := by unfold wrapT; split <;> simp <;> omega
    omega
  have HKid : Hid (∀ (j : Nat) (hj : j < ks.length) (z : Bool) W, Below w0.heap.size w0 W → Boxes n (.slice na nl nc) w W bn bm → Calls Tryd.prog 22 #[.int .i64 (j : Int), .bool z, .pointer (some ⟨bn, 0, none⟩), .pointer (some ⟨bm, 0, none⟩)] W fun e w' => e = .returned (.string ⟨(wrapT z (shT N ks[j])).toArray⟩) ∧ Below W.heap.size W w') := fun j hj z W hW hBo =>
    kid_any w0 _ n (vs j) x j (by omega) hka (hc j hj) _ (hG j hj) (by have := hKl j hj; omega) z bn bm W hW hBo.bn hBo.bm
  have HC2 : Hid (∀ W, Boxes n (.slice na nl nc) w W bn bm → W.cell? ⟨bn, 2, none⟩ = some (.slice (some x) n.kl n.kc)) := fun W hW => by
    have := (nv_cells hW.bn).c2
    rw [hka] at this
    exact this
  obtain ⟨m, hm⟩ : ∃ m, m = n.kl := ⟨_, rfl⟩
  rw [← hm] at HC2 d2
  rw [hka] at d2
  have hmk : m = ks.length := by omega
  have HMK := hide hmk
  rw [← hmk] at hlen hT
  have HLen := hide hlen
  have HTT := hide hT
  obtain ⟨f, hf⟩ : ∃ f, f = partAt (ks.map Tr.kind) (shL N ks) := ⟨_, rfl⟩
  have HF : Hid (∀ j (hj : j < ks.length), f j = wrapT (decide ((vs j).kind = 10)) (shT N ks[j])) := fun j hj => by rw [hf, partAt_at N ks j hj, hkd j hj]
  rw [← hf] at HLen HTT
  have HCl : Hid (∀ W, Below w0.heap.size w0 W → ∀ j, j < ks.length → W.cell? (x.add (j * 8)) = some (.int .i64 (vs j).kind)) := fun W hW j hj => ((hc j hj).below hW).c0
  have hm4 : m ≤ 1000 := by omega
  clear hKl hka hkl hkm hc hG hkd hlen hT hf hm hmk
  clear hB' hw0 hk
  go_enter Tryd.func13, Tryd.ntmps13
  go_upto_region 1 with fail
  rw [← hw2, ← hbm, ← hbn]
  clear hw2 hbm hbn
  go_wp2
  go_loopw [6, 8] (fun s c wr => ∃ (j : Nat), j ≤ m ∧ c = .int .i64 j ∧ s = .string ⟨(upT f j).toArray⟩ ∧ Boxes n (.slice na nl nc) w wr bn bm ∧ Below w0.heap.size w0 wr) (fun _ c _ => m - (intOf c).toNat)
  case atStart => exact ⟨0, Nat.zero_le _, rfl, rfl, HB.out, HB0.out⟩
  case round =>
    obtain ⟨j, hj, rfl, rfl, hB, hb0⟩ := hrel
    obtain ⟨w3, hw3⟩ : ∃ w3, w3 = wr := ⟨_, rfl⟩
    subst hw3
    have HB3 := hide hB
    have HB03 := hide hb0
    clear d0 d1 d2 d3 d4 d5 d6 d7 qm HB HB0
    have c2 := HC2.out _ hB
    clear hB hb0
    by_cases hlt : j < m
    · have hjk : j < ks.length := by have := HMK.out; omega
      have f0 := HCl.out _ HB03.out j hjk
      have hFj := HF.out j hjk
      have hup : upT f (j + 1) = upT f j ++ f j := rfl
      have hl1 := upT_le f (j := j + 1) (n := m) (by omega)
      have hbg := HLen.out
      have hlen := congrArg List.length hup
      rw [List.length_append] at hlen
      have HK := hide (HKid.out j hjk (decide ((vs j).kind = 10)) w3 HB03.out HB3.out)
      rw [← hFj] at HK
      obtain ⟨kd, hkd⟩ : ∃ kd, kd = (vs j).kind := ⟨_, rfl⟩
      rw [← hkd] at f0 HK
      obtain ⟨SS, hSS⟩ : ∃ SS : ByteArray, SS = ⟨(upT f j).toArray⟩ := ⟨_, rfl⟩
      obtain ⟨KS, hKS⟩ : ∃ KS : ByteArray, KS = ⟨(f j).toArray⟩ := ⟨_, rfl⟩
      have z1 : ¬ (9223372036854775807 < SS.size + KS.size) := by rw [hSS, hKS, bA_size, bA_size]; omega
      have HNx : Hid (SS ++ KS = ⟨(upT f (j + 1)).toArray⟩) := by show _ = _; rw [hSS, hKS, hup]; exact bA_app _ _
      rw [← hKS] at HK
      rw [← hSS]
      have e5 : (j : Int) < (m : Int) := by omega
      have e6 : (0 : Int) ≤ (j : Int) := by omega
      have hkw : IntKind.i64.wrap ((j : Int) + 1) = (j : Int) + 1 := by rw [IntKind.wrap_i64]; omega
      clear hFj hup hl1 hbg hlen hkd hSS hKS hjk
      by_cases hk10 : kd = 10
      · have ek : decide (kd = 10) = true := by simpa using hk10
        rw [ek] at HK
        subst hk10
        clear ek
        go_wp2_with fail
        refine HK.out.mono ?_
        rintro e w4 ⟨rfl, hb4⟩
        have HB4 := hide (HB3.out.keep hb4)
        have HB04 := hide (HB03.out.trans (hb4.mono HB03.out.size))
        clear hb4 HK c2 f0
        go_wp2
        go_roundw
        case rel => exact ⟨j + 1, by omega, by go_num, by rw [HNx.out], HB4.out, HB04.out⟩
        case measure => simp [intOf]; omega
      · have ek : decide (kd = 10) = false := by simpa using hk10
        have eb : (kd == 10) = false := by simpa using hk10
        rw [ek] at HK
        clear ek
        go_wp2_with fail
        refine HK.out.mono ?_
        rintro e w4 ⟨rfl, hb4⟩
        have HB4 := hide (HB3.out.keep hb4)
        have HB04 := hide (HB03.out.trans (hb4.mono HB03.out.size))
        clear hb4 HK c2 f0
        go_wp2
        go_roundw
        case rel => exact ⟨j + 1, by omega, by go_num, by rw [HNx.out], HB4.out, HB04.out⟩
        case measure => simp [intOf]; omega
    · have e5 : ¬ (j : Int) < (m : Int) := by omega
      have hjm : j = m := by omega
      subst hjm
      have HR : Hid ((⟨T.toArray⟩ : ByteArray) = ⟨(upT f j).toArray⟩) := by show _ = _; rw [HTT.out]
      go_wp2
      go_ret
      exact ⟨by rw [HR.out]; rfl, HB3.out.bel⟩

end Go.Proofs.YtpcohmbipbiglaaDoor

namespace Go.Proofs.YtpcohmbipbiglaaDoor
open Go.RowKit
open Go.Lib (decDigits)
set_option linter.unusedVariables false

set_option maxHeartbeats 8000000 in
set_option maxRecDepth 100000 in
theorem ref_either (w0 : World) (n : NV) (na : Option Addr) (nl nc : Nat) (T : List UInt8) (w : World) (hw0 : Below w0.heap.size w0 w) (N : NmL) (ks : List Tr) (vs : Nat → NV) (x : Addr) (hka : n.ka = some x) (hkl : n.kl = ks.length) (hkm : n.kl ≤ 1000) (hc : ∀ j, j < ks.length → NCells w0 (x.add (j * 8)) (vs j)) (hG : ∀ j (hj : j < ks.length), RefG w0 (.slice na nl nc) (vs j) (shT N ks[j])) (hlen : (upT (barAt (shL N ks)) ks.length).length ≤ 10000000000000) (hT : T = upT (barAt (shL N ks)) ks.length) (hk : n.kind = 10) : Calls Tryd.prog 13 #[nvV n, .slice na nl nc] w fun e w' => e = .returned (.string ⟨T.toArray⟩) ∧ Below w.heap.size w w' := by
  have hmf : ∀ (fn : Fn) (first cap : Array Value) (w : World), (Instr.makeFunc fn first cap).run Tryd.prog w = .ok (.func fn first cap) w := fun _ _ _ _ => rfl
  obtain ⟨w2, hw2⟩ : ∃ w2, w2 = (w.alloc (nvO n)).alloc (.cells #[.slice na nl nc] 32) := ⟨_, rfl⟩
  have hB := Boxes.mk2 n (.slice na nl nc) w
  rw [← hw2] at hB
  obtain ⟨bn, hbn⟩ : ∃ bn, bn = w.heap.size := ⟨_, rfl⟩
  obtain ⟨bm, hbm⟩ : ∃ bm, bm = w.heap.size + 1 := ⟨_, rfl⟩
  rw [← hbm] at hB
  have hB' : Boxes n (.slice na nl nc) w w2 bn bm := by rw [hbn]; exact hB
  clear hB
  have HB := hide hB'
  have HB0 : Hid (Below w0.heap.size w0 w2) := hw0.trans (hB'.bel.mono hw0.size)
  obtain ⟨d0, d1, d2, d3, d4, d5, d6, d7⟩ := nv_cells hB'.bn
  have qm := one_cellW hB'.bm
  rw [hk] at d0
  simp only [nvO] at hw2
  have hKl : ∀ j (hj : j < ks.length), (shT N ks[j]).length ≤ 10000000000000 := fun j hj => by
    have h1 := upT_le (barAt (shL N ks)) (j := j + 1) (n := ks.length) (by omega)
    rw [upT, List.length_append, barAt_at N ks j hj, List.length_append] at h1
    omega
  have HKid : Hid (∀ (j : Nat) (hj : j < ks.length) (z : Bool) W, Below w0.heap.size w0 W → Boxes n (.slice na nl nc) w W bn bm → Calls Tryd.prog 22 #[.int .i64 (j : Int), .bool z, .pointer (some ⟨bn, 0, none⟩), .pointer (some ⟨bm, 0, none⟩)] W fun e w' => e = .returned (.string ⟨(wrapT z (shT N ks[j])).toArray⟩) ∧ Below W.heap.size W w') := fun j hj z W hW hBo =>
    kid_any w0 _ n (vs j) x j (by omega) hka (hc j hj) _ (hG j hj) (by have := hKl j hj; omega) z bn bm W hW hBo.bn hBo.bm
  have HC2 : Hid (∀ W, Boxes n (.slice na nl nc) w W bn bm → W.cell? ⟨bn, 2, none⟩ = some (.slice (some x) n.kl n.kc)) := fun W hW => by
    have := (nv_cells hW.bn).c2
    rw [hka] at this
    exact this
  obtain ⟨m, hm⟩ : ∃ m, m = n.kl := ⟨_, rfl⟩
  rw [← hm] at HC2 d2
  rw [hka] at d2
  have hmk : m = ks.length := by omega
  have HMK := hide hmk
  rw [← hmk] at hlen hT
  have HLen := hide hlen
  have HTT := hide hT
  obtain ⟨f, hf⟩ : ∃ f, f = barAt (shL N ks) := ⟨_, rfl⟩
  have HF : Hid (∀ j (hj : j < ks.length), f j = (if j = 0 then [] else [124]) ++ shT N ks[j]) := fun j hj => by rw [hf, barAt_at N ks j hj]
  rw [← hf] at HLen HTT
  have hm4 : m ≤ 1000 := by omega
  clear hKl hka hkl hkm hc hG hlen hT hf hm hmk
  clear hB' hw0 hk
  go_enter Tryd.func13, Tryd.ntmps13
  go_upto_region 1 with fail
  rw [← hw2, ← hbm, ← hbn]
  clear hw2 hbm hbn
  go_wp2
  go_loopw [6, 9] (fun s c wr => ∃ (j : Nat), j ≤ m ∧ c = .int .i64 j ∧ s = .string ⟨(upT f j).toArray⟩ ∧ Boxes n (.slice na nl nc) w wr bn bm ∧ Below w0.heap.size w0 wr) (fun _ c _ => m - (intOf c).toNat)
  case atStart => exact ⟨0, Nat.zero_le _, rfl, rfl, HB.out, HB0.out⟩
  case round =>
    obtain ⟨j, hj, rfl, rfl, hB, hb0⟩ := hrel
    obtain ⟨w3, hw3⟩ : ∃ w3, w3 = wr := ⟨_, rfl⟩
    subst hw3
    have HB3 := hide hB
    have HB03 := hide hb0
    clear d0 d1 d2 d3 d4 d5 d6 d7 qm HB HB0
    have c2 := HC2.out _ hB
    clear hB hb0
    by_cases hlt : j < m
    · have hjk : j < ks.length := by have := HMK.out; omega
      have hFj := HF.out j hjk
      have hup : upT f (j + 1) = upT f j ++ f j := rfl
      have hl1 := upT_le f (j := j + 1) (n := m) (by omega)
      have hbg := HLen.out
      have HK := hide (HKid.out j hjk false w3 HB03.out HB3.out)
      obtain ⟨K, hK⟩ : ∃ K, K = shT N ks[j] := ⟨_, rfl⟩
      rw [show wrapT false (shT N ks[j]) = K by rw [hK]; rfl] at HK
      rw [← hK] at hFj
      obtain ⟨SS, hSS⟩ : ∃ SS : ByteArray, SS = ⟨(upT f j).toArray⟩ := ⟨_, rfl⟩
      obtain ⟨KS, hKS⟩ : ∃ KS : ByteArray, KS = ⟨K.toArray⟩ := ⟨_, rfl⟩
      rw [← hKS] at HK
      rw [← hSS]
      have e5 : (j : Int) < (m : Int) := by omega
      have e6 : (0 : Int) ≤ (j : Int) := by omega
      have hkw : IntKind.i64.wrap ((j : Int) + 1) = (j : Int) + 1 := by rw [IntKind.wrap_i64]; omega
      by_cases hj0 : j = 0
      · rw [hFj, if_pos hj0, List.nil_append] at hup
        have hlen := congrArg List.length hup
        rw [List.length_append] at hlen
        have z1 : ¬ (9223372036854775807 < SS.size + KS.size) := by rw [hSS, hKS, bA_size, bA_size]; omega
        have HNx : Hid (SS ++ KS = ⟨(upT f (j + 1)).toArray⟩) := by show _ = _; rw [hSS, hKS, hup]; exact bA_app _ _
        have e7 : ¬ (0 : Int) < (j : Int) := by omega
        clear hFj hup hl1 hbg hlen hK hSS hKS hjk hj0
        go_wp2_with fail
        refine HK.out.mono ?_
        rintro e w4 ⟨rfl, hb4⟩
        have HB4 := hide (HB3.out.keep hb4)
        have HB04 := hide (HB03.out.trans (hb4.mono HB03.out.size))
        clear hb4 HK c2
        go_wp2
        go_roundw
        case rel => exact ⟨j + 1, by omega, by go_num, by rw [HNx.out], HB4.out, HB04.out⟩
        case measure => simp [intOf]; omega
      · rw [hFj, if_neg hj0] at hup
        have hlen := congrArg List.length hup
        simp only [List.length_append, List.length_cons, List.length_nil] at hlen
        have s1 : SS.size ≤ 10000000000000 := by rw [hSS, bA_size]; omega
        have s2 : KS.size ≤ 10000000000000 := by rw [hKS, bA_size]; omega
        have z0 : ¬ (9223372036854775807 < SS.size + ((⟨#[124]⟩ : ByteArray)).size) := by have : ((⟨#[124]⟩ : ByteArray)).size = 1 := rfl; omega
        have z1 : ¬ (9223372036854775807 < (SS ++ (⟨#[124]⟩ : ByteArray)).size + KS.size) := by rw [ByteArray.size_append]; have : ((⟨#[124]⟩ : ByteArray)).size = 1 := rfl; omega
        have HNx : Hid (SS ++ (⟨#[124]⟩ : ByteArray) ++ KS = ⟨(upT f (j + 1)).toArray⟩) := by
          show _ = _
          rw [hSS, hKS, hup]
          apply ByteArray.ext
          simp only [ByteArray.data_append]
          apply Array.ext'
          simp
        have e7 : (0 : Int) < (j : Int) := by omega
        clear hFj hup hl1 hbg hlen hK hSS hKS hjk hj0 s1 s2
        go_wp2_with fail
        refine HK.out.mono ?_
        rintro e w4 ⟨rfl, hb4⟩
        have HB4 := hide (HB3.out.keep hb4)
        have HB04 := hide (HB03.out.trans (hb4.mono HB03.out.size))
        clear hb4 HK c2
        go_wp2
        go_roundw
        case rel => exact ⟨j + 1, by omega, by go_num, by rw [HNx.out], HB4.out, HB04.out⟩
        case measure => simp [intOf]; omega
    · have e5 : ¬ (j : Int) < (m : Int) := by omega
      have hjm : j = m := by omega
      subst hjm
      have HR : Hid ((⟨T.toArray⟩ : ByteArray) = ⟨(upT f j).toArray⟩) := by show _ = _; rw [HTT.out]
      go_wp2
      go_ret
      exact ⟨by rw [HR.out]; rfl, HB3.out.bel⟩

end Go.Proofs.YtpcohmbipbiglaaDoor
