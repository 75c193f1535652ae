import Derived.Test.YtaccofiegkdlgaaGreatDoorMN
import Derived.Test.YtaccofiegkdlgaaGreatDoorMK
namespace Go.Proofs.YtaccofiegkdlgaaGreatDoor.Pa
set_option maxHeartbeats 8000000
open Go.RowKit
open TR (Tr NV NCells nvV nvO NodeC KidsC)
open TK (Mv PatV)
open Br (BE PS givesF manyB fldB rngOf OR fauO)
set_option linter.unusedVariables false
set_option maxRecDepth 100000
variable {w w' : World} {g : Nat} {v : Value} {l : List Int} {d : Int} {s s' : St} {nv av : Value}
theorem infoI : (Tryz.prog.info? 3).map (fun i => (i.zero, i.size, i.bytes)) = some (some (.int .i64 0), 1, 8) := by kernel_rfl
theorem own_ne {W : World} {B e k n : Nat} {u : Value} {xs : List Value} (h : W.ownsRow B e k u n xs) {M i : Nat} {x : Value} (hM : u.ownBlock ≠ some M) : (W.setCell ⟨M, i, none⟩ x).ownsRow B e k u n xs := by
 refine ⟨h.1, ?_⟩
 rcases h.2 with h | ⟨b, cap, cur, rfl, h3, hb, h4⟩
 ·exact .inl h
 ·exact .inr ⟨b, cap, cur, rfl, h3, by rw [Below.heap_setCell _ _ _ _ (by show b ≠ M; exact fun e => hM (by rw [← e]; rfl))]; exact hb, h4⟩
theorem find_num (N : List Nm) (t : ByteArray) : (match N.find? (fun m => m.1.toList == t.toList) with | some m => m.2 | none => 0) = (numIn N t).getD 0 := by
 unfold numIn
 have : (fun m : Nm => m.1.toList == t.toList) = fun n => decide (n.1 = t) := by
  funext m
  by_cases h : m.1 = t
  ·simp [h]
  ·have : ¬ m.1.toList = t.toList := fun e => h (ba_ext e)
   simp [h, this]
 rw [this]
 cases N.find? (fun n => decide (n.1 = t)) with
 | none => rfl
 | some m => rfl
def OutU (R : Except BE (List Int)) (w : World) (e : Ending) (w' : World) : Prop :=
 (∃ ns u, R = .ok ns ∧ e = .returned u ∧ w'.ownsRow w.heap.size 3 1 u ns.length (i64s ns) ∧ Below w.heap.size w w') ∨ (∃ z a, R = .error (z, a) ∧ e = givesF z a ∧ Below w.heap.size w w')
theorem nums_at {names : List Nm} {gr j : Nat} {A : List Ag} (hj : j < A.length) : numsM names gr (A.drop j) = (if (if A[j].name.toList = [] then A[j].num else (numIn names A[j].name).getD 0) < 1 ∨ (gr : Int) < (if A[j].name.toList = [] then A[j].num else (numIn names A[j].name).getD 0) then .error (5, (A[j].pos : Int)) else match numsM names gr (A.drop (j + 1)) with
  | .error e => .error e
  | .ok ns => .ok ((if A[j].name.toList = [] then A[j].num else (numIn names A[j].name).getD 0) :: ns)) := by
 rw [List.drop_eq_getElem_cons hj]
 conv => lhs; unfold numsM
 rw [← find_num]
 rfl
theorem againNumbers_fn (h : RB w g v l d s nv av) (hal : s.agains.length ≤ 1000) : Calls Tryz.prog 25 #[.pointer (some ⟨g, 0, none⟩)] w fun e w' => OutU (numsM s.names s.groups s.agains) w e w' := by
 obtain ⟨i0, hi0, hz0, hz1, hz2⟩ := info_parts infoI
 have hgw := h.lt
 have HR := hide h
 have c16 := h.rd.2.2.2.2.2.2.2.2
 obtain ⟨ao, ac, hav⟩ := own_shape h.ags
 obtain ⟨m, hm⟩ : ∃ m, m = s.agains.length := ⟨_, rfl⟩
 obtain ⟨no, nc, hnv⟩ := h.names.shape
 obtain ⟨nn, hnn⟩ : ∃ nn, nn = s.names.length := ⟨_, rfl⟩
 obtain ⟨gr, hgr⟩ : ∃ gr, gr = s.groups := ⟨_, rfl⟩
 rw [← hnn] at hnv
 rw [← hm] at hav hal
 rw [hav] at c16
 have HM := hide hm
 have HC15 : Hid (∀ W, Below w.heap.size w W → W.cell? ⟨g, 15, none⟩ = some (.slice no nn nc)) := fun W hb => by have := (HR.out.keep hb).rd.2.2.2.2.2.2.2.1; rw [hnv] at this; exact this
 have HC14 : Hid (∀ W, Below w.heap.size w W → W.cell? ⟨g, 14, none⟩ = some (.int .i64 (gr : Nat))) := fun W hb => by rw [hgr]; exact (HR.out.keep hb).rd.2.2.2.2.2.2.1
 have HNames : Hid (∀ W, Below w.heap.size w W → NamesC W (.slice no nn nc) s.names) := fun W hb => by have := (HR.out.keep hb).names; rw [hnv] at this; exact this
 have HCell : Hid (∀ W, Below w.heap.size w W → ∀ j (hj : j < s.agains.length), ∃ b cap, ao = some ⟨b, 0, none⟩ ∧ ac = cap ∧ m ≤ cap ∧ W.cell? ⟨b, j * 3, none⟩ = some (.int .i64 s.agains[j].num) ∧ W.cell? ⟨b, j * 3 + 1, none⟩ = some (.string s.agains[j].name) ∧ W.cell? ⟨b, j * 3 + 2, none⟩ = some (.int .i64 (s.agains[j].pos : Nat))) := fun W hb j hj => by
  have ho := (HR.out.keep hb).ags
  rw [hav, ← HM.out] at ho
  rcases ho.2 with ⟨_, h0⟩ | ⟨b, cap, cur, h1, _, h3, h4, _⟩
  ·have := HM.out; omega
  ·cases h1
   obtain ⟨a1, a2, a3⟩ := cellsAg_get s.agains j hj
   rw [← HM.out] at hj
   exact ⟨b, ac, rfl, rfl, h4, (World.ownsRow.cellAt ho (j * 3) (by omega)).trans a1, (World.ownsRow.cellAt ho (j * 3 + 1) (by omega)).trans a2, (World.ownsRow.cellAt ho (j * 3 + 2) (by omega)).trans a3⟩
 have HGr := hide hgr
 clear h hav hm hnv hnn hgr
 go_enter Tryz.func25, Tryz.ntmps25
 go_wp2
 go_loopw [3, 11] (fun kv u wr => ∃ (j : Nat) (acc : List Int), j ≤ m ∧ u = .int .i64 j ∧ acc.length = j ∧ numsM s.names s.groups s.agains = (match numsM s.names s.groups (s.agains.drop j) with
  | .error e => .error e
  | .ok ns => .ok (acc ++ ns)) ∧ wr.ownsRow w.heap.size 3 1 kv acc.length (i64s acc) ∧ Below w.heap.size w wr) (fun _ u _ => m - (intOf u).toNat)
 case atStart =>
  refine ⟨0, [], Nat.zero_le _, rfl, rfl, ?_, World.ownsRow_nil _ _ _ _, Below.refl _ _⟩
  rw [List.drop_zero]
  cases numsM s.names s.groups s.agains with
  | error e => rfl
  | ok ns => rfl
 case round =>
  obtain ⟨j, acc, hj, rfl, hacc, hEq, ho, hb⟩ := hrel
  obtain ⟨wq, hwq⟩ : ∃ wq, wq = wr := ⟨_, rfl⟩
  subst hwq
  have HB := hide hb
  obtain ⟨ko, kc, hkv⟩ := own_shape ho
  obtain ⟨kn, hkn⟩ : ∃ kn, kn = acc.length := ⟨_, rfl⟩
  rw [← hkn] at hkv
  have HKn := hide hkn
  have hknj : kn ≤ 1000 := by omega
  have HEq0 := hide hEq
  have HO := hide ho
  rw [hkv] at HO ⊢
  have HAcc := hide hacc
  clear ho hb hkv hkn hEq hacc
  by_cases hlt : j < m
  ·have hjl : j < s.agains.length := by have := HM.out; omega
   have hat := nums_at (names := s.names) (gr := s.groups) hjl
   obtain ⟨b, cap, hao, hc, hcap, e0, e1, e2⟩ := HCell.out wq HB.out j hjl
   obtain ⟨num, hnum⟩ : ∃ num, num = s.agains[j].num := ⟨_, rfl⟩
   obtain ⟨nm, hnm⟩ : ∃ nm, nm = s.agains[j].name := ⟨_, rfl⟩
   obtain ⟨p, hp⟩ : ∃ p, p = s.agains[j].pos := ⟨_, rfl⟩
   rw [← hnum] at e0 hat
   rw [← hnm] at e1 hat
   rw [← hp] at e2 hat
   subst hao hc
   have q1 : (j : Int) < (m : Int) := by omega
   have q2 : (0 : Int) ≤ (j : Int) := by omega
   have hjw : IntKind.i64.wrap ((j : Int) + 1) = (j : Int) + 1 := by rw [IntKind.wrap_i64]; omega
   have HEq : Hid (numsM s.names s.groups s.agains = match (numsM s.names s.groups (s.agains.drop j)) with
    | .error e => .error e
    | .ok ns => .ok (acc ++ ns)) := HEq0.out
   have HAt := hide hat
   clear hat hnum hnm hp HEq0
   go_upto_region 5 with fail
   obtain ⟨w3, hw3⟩ : ∃ w3, w3 = wq.alloc (agO num nm p) := ⟨_, rfl⟩
   obtain ⟨M, hMe⟩ : ∃ M, M = wq.heap.size := ⟨_, rfl⟩
   have hb3 : Below wq.heap.size wq w3 := by rw [hw3]; exact (Below.refl _ wq).alloc (Nat.le_refl _) _
   have HM3 : Hid (w3.heap[M]? = some (agO num nm p)) := by show _ = _; rw [hw3, hMe]; exact TK.at_new _ _
   have HB3 := hide (HB.out.trans (hb3.mono HB.out.size))
   have HB3q := hide hb3
   have HMw : Hid (w.heap.size ≤ M) := by show _ ≤ _; rw [hMe]; exact HB.out.size
   have HKM : Hid ((Value.slice ko kn kc).ownBlock ≠ some M) := fun e => by have := (HO.out.lt M e).2; omega
   have HO3 := hide (own_below HO.out hb3)
   have hgM : ¬ g = M := by have := HMw.out; omega
   have hMg : ¬ M = g := fun e => hgM e.symm
   simp only [agO] at hw3
   rw [← hw3, ← hMe]
   obtain ⟨k0, k1, k2, kf⟩ := ag_cells HM3.out
   clear hw3 hMe hb3 e0 e1 e2
   by_cases hne : nm.toList = []
   ·have hni : nm.toList.isEmpty = true := by rw [hne]; rfl
    have HNs : Hid (numsM s.names s.groups (s.agains.drop j) = if num < 1 ∨ (gr : Int) < num then .error (5, (p : Int)) else match numsM s.names s.groups (s.agains.drop (j + 1)) with
     | .error e => .error e
     | .ok ns => .ok (num :: ns)) := by show _ = _; rw [HAt.out, HGr.out]; simp only [if_pos hne]
    clear k0 k1 k2 kf HAt
    obtain ⟨k0, k1, k2, kf⟩ := ag_cells HM3.out
    obtain ⟨k0, k1, k2, kf⟩ := ag_cells HM3.out
    have r14 := HC14.out _ HB3.out
    by_cases hbad : num < 1 ∨ (gr : Int) < num
    ·have hE2 : Hid (numsM s.names s.groups s.agains = .error (5, (p : Int))) := by show _ = _; rw [HEq.out, HNs.out, if_pos hbad]
     have HG := hide (fun q => giveUp_any 5 (p : Int) (w3.drewN q))
     simp only [givesF] at HG
     have HBq : Hid (Below w.heap.size w w3) := HB3.out
     by_cases h1 : num < 1
     ·have hd1 : (decide (num < 1)) = true := by simpa using h1
      go_upto_region 7 with fail
      go_quiet (fail)
      go_wp2_with fail
      refine (HG.out _).mono ?_
      rintro e w7 ⟨rfl, rfl⟩
      go_wp2
      exact ⟨rfl, .inr ⟨5, _, hE2.out, rfl, below_drewN HBq.out _⟩⟩
     ·have hd1 : (decide (num < 1)) = false := by simpa using h1
      have hd2 : (decide ((gr : Int) < num)) = true := by simp; omega
      go_upto_region 7 with fail
      go_quiet (fail)
      go_wp2_with fail
      refine (HG.out _).mono ?_
      rintro e w7 ⟨rfl, rfl⟩
      go_wp2
      exact ⟨rfl, .inr ⟨5, _, hE2.out, rfl, below_drewN HBq.out _⟩⟩
    ·have hd1 : (decide (num < 1)) = false := by simp; omega
     have hd2 : (decide ((gr : Int) < num)) = false := by simp; omega
     have HEq2 : Hid (numsM s.names s.groups s.agains = match numsM s.names s.groups (s.agains.drop (j + 1)) with
      | .error e => .error e
      | .ok ns => .ok ((acc ++ [num]) ++ ns)) := by
      show _ = _
      rw [HEq.out, HNs.out, if_neg hbad]
      cases numsM s.names s.groups (s.agains.drop (j + 1)) with
      | error e => rfl
      | ok ns => simp
     go_upto_region 7 with fail
     go_quiet (fail)
     obtain ⟨w7, hw7⟩ : ∃ w7, w7 = w3.drewN nq := ⟨_, rfl⟩
     have hb7 : Below w3.heap.size w3 w7 := by rw [hw7]; exact ⟨rfl, rfl, rfl, Nat.le_refl _, fun _ _ => rfl⟩
     have HM7 : Hid (w7.heap[M]? = some (agO num nm p)) := by show _ = _; rw [hb7.block M (TR.lt_of_block HM3.out)]; exact HM3.out
     have HB7 := hide (HB3.out.trans (hb7.mono HB3.out.size))
     have HO7 := hide (own_below HO3.out hb7)
     obtain ⟨e0, e1, e2, ef⟩ := ag_cells HM7.out
     rw [← hw7]
     have HLk : Hid (kn = acc.length) := HKn.out
     rw [← HLk.out] at HO7
     have hB7 : w.heap.size ≤ w7.heap.size := HB7.out.size
     clear hw7 hb7 k0 k1 k2 kf r14
     go_wp2_with (at_builtin; refine wpList_append_own_at _ rfl _ _ 22 rfl w.heap.size 3 i0 (.int .i64 0) 1 8 Tryz.underlying22 hi0 hz0 hz1 hz2 rfl (by decide) _ _ _ rfl (HO7.out.alloc _) ⟨w7.heap.size, 0, none⟩ 1 1 [.int .i64 num] rfl rfl (cell_one_new _ _ _) (by simp [Value.oneCell']) (by unfold maxLen; omega) (by omega) (by simp; omega) ?_)
     intro v' w8 hown' hgrow _ _
     have HO8 : Hid (w8.ownsRow w.heap.size 3 1 v' (acc ++ [num]).length (i64s (acc ++ [num]))) := by
      show World.ownsRow _ _ _ _ _ _ _
      rw [List.length_append, ← HLk.out, show i64s (acc ++ [num]) = i64s acc ++ [.int .i64 num] from by simp [i64s]]
      exact hown'
     have HB8 : Hid (Below w.heap.size w w8) := (HB7.out.alloc HB7.out.size _).grown hgrow (by have := HB7.out.size; simp; omega) (fun k hk => (HO7.out.lt k hk).1)
     obtain ⟨vo, vc, hv8⟩ := own_shape hown'
     rw [hv8] at HO8 ⊢
     clear hown' hgrow hv8 e0 e1 e2 ef
     go_wp2
     go_roundw
     case rel => exact ⟨j + 1, acc ++ [num], by omega, by go_num, by simp only [List.length_append, List.length_singleton]; have h9 := HAcc.out; omega, HEq2.out, HO8.out, HB8.out⟩
     case measure => simp [intOf]; omega
   ·have hni : nm.toList.isEmpty = false := by cases hh : nm.toList with
     | nil => exact absurd hh hne
     | cons _ _ => rfl
    obtain ⟨n1, hn1⟩ : ∃ n1, n1 = (numIn s.names nm).getD 0 := ⟨_, rfl⟩
    obtain ⟨o1, ho1⟩ : ∃ o1, o1 = (numIn s.names nm).isSome := ⟨_, rfl⟩
    have HNs : Hid (numsM s.names s.groups (s.agains.drop j) = if n1 < 1 ∨ (gr : Int) < n1 then .error (5, (p : Int)) else match numsM s.names s.groups (s.agains.drop (j + 1)) with
     | .error e => .error e
     | .ok ns => .ok (n1 :: ns)) := by show _ = _; rw [HAt.out, HGr.out, hn1]; simp only [if_neg hne]
    have HI : Hid (∀ W, Below w.heap.size w W → Calls Tryz.prog 13 #[.slice no nn nc, .string nm] W fun e w' => e = .returned (.tuple #[.int .i64 n1, .bool o1]) ∧ Below W.heap.size W w') := fun W hb => by rw [hn1, ho1]; exact numberIn_any _ s.names nm W (HNames.out W hb)
    clear hn1 ho1 HAt
    go_upto_region 6 with fail
    obtain ⟨wp, hwp⟩ : ∃ wp, wp = w3 := ⟨_, rfl⟩
    have HS : Hid (Below w.heap.size w w3.drew ∧ ∃ z, w3.drew.heap[M]? = some (agO z nm p)) := ⟨HB3.out.trans ⟨rfl, rfl, rfl, Nat.le_refl _, fun _ _ => rfl⟩, num, HM3.out⟩
    have HMd : Hid (w3.drew.heap[M]? = some (agO num nm p)) := HM3.out
    have HMl : Hid (M < w3.drew.heap.size) := TR.lt_of_block HM3.out
    have HBd : Hid (Below wq.heap.size wq w3.drew) := ⟨(HB3q.out).os, (HB3q.out).tape, (HB3q.out).output, (HB3q.out).size, (HB3q.out).block⟩
    clear hwp k0 k1 k2 kf
    refine wp_region_held (S := fun w' => Below w.heap.size w w' ∧ ∃ z, w'.heap[M]? = some (agO z nm p)) (by kernel_rfl) ?_
    change wpAnyH _ _ _ _ _ _ _ _ (World.drew _)
    refine wpAnyH_take (i := 0) (v := .pointer (some ⟨g, 0, none⟩)) rfl (by kernel_rfl) (by kernel_rfl) (by kernel_rfl) (fun _ _ _ h => h) (Or.inl ⟨by kernel_rfl, fun w' hS => ?_⟩) HS.out ?_
    ·go_simp
    refine wpAnyH_take (i := 1) (v := .pointer (some ⟨g, 0, none⟩)) rfl (by kernel_rfl) (by kernel_rfl) (by kernel_rfl) (fun _ _ _ h => h) (Or.inl ⟨by kernel_rfl, fun w' hS => ?_⟩) HS.out ?_
    ·go_simp
    refine wpAnyH_take (i := 2) (v := .pointer (some ⟨g, 15, none⟩)) rfl (by kernel_rfl) (by kernel_rfl) (by kernel_rfl) (fun _ _ _ h => h) (Or.inl ⟨by kernel_rfl, fun w' hS => ?_⟩) HS.out ?_
    ·go_simp
    refine wpAnyH_take (i := 3) (v := .slice no nn nc) rfl (by kernel_rfl) (by kernel_rfl) (by kernel_rfl) (fun _ _ _ h => h) (Or.inl ⟨by kernel_rfl, fun w' hS => ?_⟩) HS.out ?_
    ·(obtain ⟨yb, z9, y9⟩ := hS; obtain ⟨k0, k1, k2, kf⟩ := ag_cells y9; have k15 := HC15.out _ yb; go_simp)
    refine wpAnyH_take (i := 4) (v := .pointer (some ⟨M, 1, none⟩)) rfl (by kernel_rfl) (by kernel_rfl) (by kernel_rfl) (fun _ _ _ h => h) (Or.inl ⟨by kernel_rfl, fun w' hS => ?_⟩) HS.out ?_
    ·go_simp
    refine wpAnyH_take (i := 5) (v := .string nm) rfl (by kernel_rfl) (by kernel_rfl) (by kernel_rfl) (fun _ _ _ h => h) (Or.inl ⟨by kernel_rfl, fun w' hS => ?_⟩) HS.out ?_
    ·(obtain ⟨yb, z9, y9⟩ := hS; obtain ⟨k0, k1, k2, kf⟩ := ag_cells y9; have k15 := HC15.out _ yb; go_simp)
    refine wpAnyH_ready (rs := [6]) (by kernel_rfl) (by simp) ?_
    refine AllReadyH.cons rfl (fun K hK => ?_) AllReadyH.nil
    go_simp
    refine (HI.out _ HS.out.1).mono ?_
    rintro e w5 ⟨rfl, hb5⟩
    have hS5 : Below w.heap.size w w5 ∧ ∃ z, w5.heap[M]? = some (agO z nm p) := ⟨HS.out.1.trans (hb5.mono HS.out.1.size), num, by rw [hb5.block M HMl.out]; exact HMd.out⟩
    refine hK.out _ _ hS5 (fun _ => ?_)
    clear hK K
    refine wpAnyH_take (i := 7) (v := .tuple #[.int .i64 n1, .bool o1]) rfl (by kernel_rfl) (by kernel_rfl) (by kernel_rfl) (fun _ _ _ h => h) (Or.inl ⟨by kernel_rfl, fun w' hS => ?_⟩) hS5 ?_
    ·go_simp
    refine wpAnyH_take (i := 8) (v := .int .i64 n1) rfl (by kernel_rfl) (by kernel_rfl) (by kernel_rfl) (fun _ _ _ h => h) (Or.inl ⟨by kernel_rfl, fun w' hS => ?_⟩) hS5 ?_
    ·go_simp
    refine wpAnyH_take (i := 9) (v := .bool o1) rfl (by kernel_rfl) (by kernel_rfl) (by kernel_rfl) (fun _ _ _ h => h) (Or.inl ⟨by kernel_rfl, fun w' hS => ?_⟩) hS5 ?_
    ·go_simp
    refine wpAnyH_take (i := 10) (v := .pointer (some ⟨M, 0, none⟩)) rfl (by kernel_rfl) (by kernel_rfl) (by kernel_rfl) (fun _ _ _ h => h) (Or.inl ⟨by kernel_rfl, fun w' hS => ?_⟩) hS5 ?_
    ·go_simp
    have hM5 : w5.heap[M]? = some (agO num nm p) := by rw [hb5.block M HMl.out]; exact HMd.out
    obtain ⟨k0, k1, k2, kf⟩ := ag_cells hM5
    refine wpAnyH_ready (rs := [11]) (by kernel_rfl) (by simp) ?_
    refine AllReadyH.cons rfl (fun K hK => ?_) AllReadyH.nil
    go_simp
    have hM6 : (w5.setCell ⟨M, 0, none⟩ (.int .i64 n1)).heap[M]? = some (agO n1 nm p) := by rw [TK.set_one hM5]; rfl
    have hS6 : Below w.heap.size w (w5.setCell ⟨M, 0, none⟩ (.int .i64 n1)) ∧ ∃ z, (w5.setCell ⟨M, 0, none⟩ (.int .i64 n1)).heap[M]? = some (agO z nm p) := ⟨hS5.1.setCell (p := ⟨M, 0, none⟩) HMw.out _, n1, hM6⟩
    refine hK.out _ _ hS6 (fun _ => ?_)
    clear hK K
    refine wpAnyH_done (by kernel_rfl) ?_ _
    obtain ⟨w6, hw6⟩ : ∃ w6, w6 = w5.setCell ⟨M, 0, none⟩ (.int .i64 n1) := ⟨_, rfl⟩
    rw [← hw6] at hM6 hS6 ⊢
    have HM6 := hide hM6
    have HB6 := hide hS6.1
    have HO6 : Hid (w6.ownsRow (w.heap.size) 3 1 (.slice ko kn kc) acc.length (i64s acc)) := by
     show World.ownsRow _ _ _ _ _ _ _
     rw [hw6]
     exact own_ne (own_below (own_below HO.out HBd.out) hb5) HKM.out
    clear hw6 hS6 hM6 hM5 hS5 hb5 k0 k1 k2 kf HI HS HMd
    obtain ⟨k0, k1, k2, kf⟩ := ag_cells HM6.out
    have r14 := HC14.out _ HB6.out
    by_cases hbad : n1 < 1 ∨ (gr : Int) < n1
    ·have hE2 : Hid (numsM s.names s.groups s.agains = .error (5, (p : Int))) := by show _ = _; rw [HEq.out, HNs.out, if_pos hbad]
     have HG := hide (fun q => giveUp_any 5 (p : Int) (w6.drewN q))
     simp only [givesF] at HG
     have HBq : Hid (Below w.heap.size w w6) := HB6.out
     by_cases h1 : n1 < 1
     ·have hd1 : (decide (n1 < 1)) = true := by simpa using h1
      go_upto_region 7 with fail
      go_quiet (fail)
      go_wp2_with fail
      refine (HG.out _).mono ?_
      rintro e w7 ⟨rfl, rfl⟩
      go_wp2
      exact ⟨rfl, .inr ⟨5, _, hE2.out, rfl, below_drewN HBq.out _⟩⟩
     ·have hd1 : (decide (n1 < 1)) = false := by simpa using h1
      have hd2 : (decide ((gr : Int) < n1)) = true := by simp; omega
      go_upto_region 7 with fail
      go_quiet (fail)
      go_wp2_with fail
      refine (HG.out _).mono ?_
      rintro e w7 ⟨rfl, rfl⟩
      go_wp2
      exact ⟨rfl, .inr ⟨5, _, hE2.out, rfl, below_drewN HBq.out _⟩⟩
    ·have hd1 : (decide (n1 < 1)) = false := by simp; omega
     have hd2 : (decide ((gr : Int) < n1)) = false := by simp; omega
     have HEq2 : Hid (numsM s.names s.groups s.agains = match numsM s.names s.groups (s.agains.drop (j + 1)) with
      | .error e => .error e
      | .ok ns => .ok ((acc ++ [n1]) ++ ns)) := by
      show _ = _
      rw [HEq.out, HNs.out, if_neg hbad]
      cases numsM s.names s.groups (s.agains.drop (j + 1)) with
      | error e => rfl
      | ok ns => simp
     go_upto_region 7 with fail
     go_quiet (fail)
     obtain ⟨w7, hw7⟩ : ∃ w7, w7 = w6.drewN nq := ⟨_, rfl⟩
     have hb7 : Below w6.heap.size w6 w7 := by rw [hw7]; exact ⟨rfl, rfl, rfl, Nat.le_refl _, fun _ _ => rfl⟩
     have HM7 : Hid (w7.heap[M]? = some (agO n1 nm p)) := by show _ = _; rw [hb7.block M (TR.lt_of_block HM6.out)]; exact HM6.out
     have HB7 := hide (HB6.out.trans (hb7.mono HB6.out.size))
     have HO7 := hide (own_below HO6.out hb7)
     obtain ⟨e0, e1, e2, ef⟩ := ag_cells HM7.out
     rw [← hw7]
     have HLk : Hid (kn = acc.length) := HKn.out
     rw [← HLk.out] at HO7
     have hB7 : w.heap.size ≤ w7.heap.size := HB7.out.size
     clear hw7 hb7 k0 k1 k2 kf r14
     go_wp2_with (at_builtin; refine wpList_append_own_at _ rfl _ _ 22 rfl w.heap.size 3 i0 (.int .i64 0) 1 8 Tryz.underlying22 hi0 hz0 hz1 hz2 rfl (by decide) _ _ _ rfl (HO7.out.alloc _) ⟨w7.heap.size, 0, none⟩ 1 1 [.int .i64 n1] rfl rfl (cell_one_new _ _ _) (by simp [Value.oneCell']) (by unfold maxLen; omega) (by omega) (by simp; omega) ?_)
     intro v' w8 hown' hgrow _ _
     have HO8 : Hid (w8.ownsRow w.heap.size 3 1 v' (acc ++ [n1]).length (i64s (acc ++ [n1]))) := by
      show World.ownsRow _ _ _ _ _ _ _
      rw [List.length_append, ← HLk.out, show i64s (acc ++ [n1]) = i64s acc ++ [.int .i64 n1] from by simp [i64s]]
      exact hown'
     have HB8 : Hid (Below w.heap.size w w8) := (HB7.out.alloc HB7.out.size _).grown hgrow (by have := HB7.out.size; simp; omega) (fun k hk => (HO7.out.lt k hk).1)
     obtain ⟨vo, vc, hv8⟩ := own_shape hown'
     rw [hv8] at HO8 ⊢
     clear hown' hgrow hv8 e0 e1 e2 ef
     go_wp2
     go_roundw
     case rel => exact ⟨j + 1, acc ++ [n1], by omega, by go_num, by simp only [List.length_append, List.length_singleton]; have h9 := HAcc.out; omega, HEq2.out, HO8.out, HB8.out⟩
     case measure => simp [intOf]; omega
  ·have hjm : j = m := by omega
   have hE2 : Hid (numsM s.names s.groups s.agains = .ok acc) := by show _ = _; rw [HEq0.out, hjm, HM.out, List.drop_length]; simp [numsM]
   have q1 : ¬ (j : Int) < (m : Int) := by omega
   go_wp2
   go_ret
   exact .inl ⟨acc, _, hE2.out, rfl, HO.out, HB.out⟩
end Go.Proofs.YtaccofiegkdlgaaGreatDoor.Pa
namespace Go.Proofs.YtaccofiegkdlgaaGreatDoor.Pa
set_option maxHeartbeats 8000000
open Go.RowKit
open TR (Tr NV NCells nvV nvO NodeC KidsC)
open TK (Mv PatV)
open Br (BE PS givesF manyB fldB rngOf OR fauO)
set_option linter.unusedVariables false
set_option maxRecDepth 100000
variable {w w' : World}
def numS (ns : List Int) (k x : Int) : Int := if k = 18 then ns.getD x.toNat 0 else x
def setNV (ns : List Int) (n : NV) : NV := { n with num := numS ns n.kind n.num }
def setPc (ns : List Int) (p : Pc) : Pc := ⟨setNV ns p.nv, settleT ns p.tr, p.lo, p.hi⟩
theorem settleL_map (ns : List Int) : ∀ ts : List Tr, settleT.settleL ns ts = ts.map (settleT ns)
 | [] => rfl
 | t :: ts => by unfold settleT.settleL; rw [settleL_map ns ts]; rfl
theorem settle_mk (ns : List Int) (k n a b c : Int) (f : Bool) (S : RL) (ks : List Tr) : settleT ns (.mk k n a b c f S ks) = .mk k (numS ns k n) a b c f S (ks.map (settleT ns)) := by
 unfold settleT
 rw [settleL_map]
 rfl
structure FrS (lo hi ab : Nat) (W w' : World) : Prop where
 os : w'.os = W.os
 tape : w'.tape = W.tape
 output : w'.output = W.output
 size : W.heap.size ≤ w'.heap.size
 out : ∀ k, k < W.heap.size → k ≠ ab → ¬ (lo ≤ k ∧ k < hi) → w'.heap[k]? = W.heap[k]?
 typ : ∀ (k : Nat) (cs : Array Value) (e : TypeId) (fr : Nat × Nat), W.heap[k]? = some (Obj.cells cs e fr) → e ≠ 28 → w'.heap[k]? = some (Obj.cells cs e fr)
theorem FrS.refl (lo hi ab : Nat) (W : World) : FrS lo hi ab W W := ⟨rfl, rfl, rfl, Nat.le_refl _, fun _ _ _ _ => rfl, fun _ _ _ _ h _ => h⟩
theorem FrS.trans {lo hi ab : Nat} {W W1 W2 : World} (h : FrS lo hi ab W W1) (k : FrS lo hi ab W1 W2) : FrS lo hi ab W W2 :=
 ⟨k.os.trans h.os, k.tape.trans h.tape, k.output.trans h.output, Nat.le_trans h.size k.size, fun i h1 h2 h3 => (k.out i (Nat.lt_of_lt_of_le h1 h.size) h2 h3).trans (h.out i h1 h2 h3), fun i cs e fr hc he => k.typ i cs e fr (h.typ i cs e fr hc he) he⟩
theorem FrS.inner {lo hi ab lo' hi' b : Nat} {W W' : World} (h : FrS lo' hi' b W W') (h1 : lo ≤ lo') (h2 : hi' ≤ hi) (hb : lo ≤ b ∧ b < hi) : FrS lo hi ab W W' :=
 ⟨h.os, h.tape, h.output, h.size, fun k hk hne hno => h.out k hk (fun e => hno (by omega)) (fun e => hno (by omega)), h.typ⟩
theorem own_typ {W W' : World} {lo hi ab B e k n : Nat} {u : Value} {xs : List Value} (h : FrS lo hi ab W W') (ho : W.ownsRow B e k u n xs) (he : e ≠ 28) : W'.ownsRow B e k u n xs := by
 refine ⟨ho.1, ?_⟩
 rcases ho.2 with h2 | ⟨b, cap, cur, rfl, h3, hb, h4⟩
 ·exact .inl h2
 ·exact .inr ⟨b, cap, cur, rfl, h3, h.typ b _ _ _ hb he, h4⟩
theorem frs_set {lo hi ab o : Nat} {W : World} {cur : Array Value} (hc : W.heap[ab]? = some (.cells cur 28 (0, 0))) (u : Value) : FrS lo hi ab W (W.setCell ⟨ab, o, none⟩ u) :=
 ⟨rfl, rfl, rfl, by simp [World.setCell], fun k _ hne _ => Below.heap_setCell _ _ _ _ hne, fun k cs e fr hk he => by
  rw [Below.heap_setCell _ _ _ _ (fun h => he (by have h' : k = ab := h; subst h'; rw [hc] at hk; cases hk; rfl))]
  exact hk⟩
theorem set_same {cur : Array Value} {i : Nat} {u : Value} (h : cur[i]? = some u) : cur.setIfInBounds i u = cur := by
 apply Array.ext_getElem?
 intro j
 rw [Array.getElem?_setIfInBounds]
 split
 ·rename_i hij
  subst hij
  rw [h]
  have := (Array.getElem?_eq_some_iff.1 h).1
  simp [this]
 ·rfl
theorem cell_of {W : World} {ab o : Nat} {cur : Array Value} {e : TypeId} {fr : Nat × Nat} (hc : W.heap[ab]? = some (.cells cur e fr)) : W.cell? ⟨ab, o, none⟩ = cur[o]? := by
 simp [World.cell?, hc]
theorem nvL_set (n : NV) (x : Int) : (nvL n).set 3 (.int .i64 x) = nvL { n with num := x } := rfl
theorem cellsP_set : ∀ (ps : List Pc) (j : Nat) (hj : j < ps.length) (x : Int) (q : Pc), q.nv = { ps[j].nv with num := x } → (cellsP ps).set (j * 8 + 3) (.int .i64 x) = cellsP (ps.set j q)
 | p :: ps, 0, hj, x, q, hq => by
  have hq' : q.nv = { p.nv with num := x } := hq
  show (nvL p.nv ++ cellsP ps).set 3 _ = nvL q.nv ++ cellsP ps
  rw [List.set_append_left _ _ (by rw [nvL_len]; omega), nvL_set, hq']
 | p :: ps, j + 1, hj, x, q, hq => by
  have ih := cellsP_set ps j (by simpa using hj) x q hq
  show (nvL p.nv ++ cellsP ps).set _ _ = nvL p.nv ++ cellsP (ps.set j q)
  rw [List.set_append_right _ _ (by rw [nvL_len]; omega), nvL_len, ← ih, show (j + 1) * 8 + 3 - 8 = j * 8 + 3 from by omega]
def mixP (ns : List Int) (ps : List Pc) (j : Nat) : List Pc := (ps.take j).map (setPc ns) ++ ps.drop j
theorem mix_zero (ns : List Int) (ps : List Pc) : mixP ns ps 0 = ps := by simp [mixP]
theorem mix_all (ns : List Int) (ps : List Pc) : mixP ns ps ps.length = ps.map (setPc ns) := by simp [mixP]
theorem mix_len (ns : List Int) (ps : List Pc) (j : Nat) : (mixP ns ps j).length = ps.length := by
 unfold mixP
 rw [List.length_append, List.length_map, List.length_take, List.length_drop]
 omega
theorem mix_get (ns : List Int) (ps : List Pc) (j : Nat) (hj : j < ps.length) (h : j < (mixP ns ps j).length) : (mixP ns ps j)[j] = ps[j] := by
 have h1 : (mixP ns ps j)[j]? = some ps[j] := by
  unfold mixP
  have hl : ((ps.take j).map (setPc ns)).length = j := by rw [List.length_map, List.length_take]; omega
  rw [List.getElem?_append_right (by omega), hl, Nat.sub_self, List.getElem?_drop, Nat.add_zero, List.getElem?_eq_getElem hj]
 exact Option.some.inj ((List.getElem?_eq_getElem h).symm.trans h1)
theorem mix_succ (ns : List Int) (ps : List Pc) (j : Nat) (hj : j < ps.length) : mixP ns ps (j + 1) = (mixP ns ps j).set j (setPc ns ps[j]) := by
 unfold mixP
 have hl : ((ps.take j).map (setPc ns)).length = j := by rw [List.length_map, List.length_take]; omega
 rw [List.set_append_right _ _ (by omega), hl, Nat.sub_self, List.drop_eq_getElem_cons hj, List.set_cons_zero, List.take_add_one, List.getElem?_eq_getElem hj, List.map_append]
 simp
theorem own_setJ {W W' : World} {B g cap : Nat} {ps : List Pc} {j : Nat} {cur : Array Value} (ho : W.ownsRow B 28 8 (.slice (some ⟨g, 0, none⟩) ps.length cap) ps.length (cellsP ps)) (hc : W.heap[g]? = some (.cells cur 28 (0, 0))) (hj : j < ps.length) {x : Int} {q : Pc} (hq : q.nv = { ps[j].nv with num := x }) (hc' : W'.heap[g]? = some (.cells (cur.setIfInBounds (j * 8 + 3) (.int .i64 x)) 28 (0, 0))) : W'.ownsRow B 28 8 (.slice (some ⟨g, 0, none⟩) (ps.set j q).length cap) (ps.set j q).length (cellsP (ps.set j q)) := by
 rcases ho.2 with ⟨h1, _⟩ | ⟨g', cap', cur', h1, h2, h3, h4, h5, h6, h7⟩
 ·cases h1
 ·cases h1
  rw [h3] at hc
  cases hc
  rw [List.length_set]
  refine ⟨by rw [cellsP_len, List.length_set], .inr ⟨g, cap, _, rfl, h2, hc', h4, h5, by rw [Array.size_setIfInBounds]; exact h6, ?_⟩⟩
  rw [Array.toList_setIfInBounds, ← cellsP_set ps j hj x q hq, ← h7, List.take_set]
theorem settle_fn {w0 : World} {lo hi : Nat} {n : NV} {t : Tr} (hN : NodeI w0 lo hi n t) (ns : List Int) : AgOk ns.length t → hi ≤ w0.heap.size → ∀ (W : World) (ab o : Nat) (cur : Array Value) (nv : Value) (B : Nat), hi ≤ W.heap.size → (∀ k, lo ≤ k → k < hi → W.heap[k]? = w0.heap[k]?) → W.heap[ab]? = some (.cells cur 28 (0, 0)) → NCells W ⟨ab, o, none⟩ n → ¬ (lo ≤ ab ∧ ab < hi) → W.ownsRow B 3 1 nv ns.length (i64s ns) → ns.length ≤ 1000 →
  Calls Tryz.prog 24 #[.pointer (some ⟨ab, o, none⟩), nv] W fun e w' => e = .returned (.tuple #[]) ∧ w'.heap[ab]? = some (.cells (cur.setIfInBounds (o + 3) (.int .i64 (numS ns n.kind n.num))) 28 (0, 0)) ∧ NodeI w' lo hi (setNV ns n) (settleT ns t) ∧ FrS lo hi ab W w' := by
 induction hN with
 | mk lo hi n S ps hs hk hne h ih =>
  intro hag hhi W ab o cur nv B hWz hW hcur hcl hab hnv hns
  obtain ⟨hag1, hag2⟩ : (n.kind = 18 → 0 ≤ n.num ∧ n.num < (ns.length : Int)) ∧ ∀ u ∈ ps.map Pc.tr, AgOk ns.length u := by cases hag with | mk _ _ _ _ _ _ _ _ a b => exact ⟨a, b⟩
  obtain ⟨nvo, nvc, rfl⟩ := own_shape hnv
  obtain ⟨x, hx⟩ : ∃ x, x = numS ns n.kind n.num := ⟨_, rfl⟩
  have hcell : ∀ i, W.cell? ⟨ab, i, none⟩ = cur[i]? := fun i => cell_of hcur
  have hfrz : ∀ i, W.frozen? ⟨ab, i, none⟩ = false := fun i => by simp [World.frozen?, hcur]
  have d0 := hcl.c0
  have d2 := hcl.c2
  have d3 := hcl.c3
  simp only at d0 d2 d3
  have HNVo := hide hnv
  have HWz : Hid (hi ≤ W.heap.size) := hWz
  rw [← hx]
  by_cases k18 : n.kind = 18
  ·obtain ⟨h18a, h18b⟩ := hag1 k18
   obtain ⟨y, hy⟩ : ∃ y : Nat, n.num = (y : Int) := ⟨n.num.toNat, by omega⟩
   have hyl : y < ns.length := by omega
   have hxv : x = ns[y] := by
    rw [hx]
    unfold numS
    rw [if_pos k18, hy]
    simp [List.getD_eq_getElem?_getD, List.getElem?_eq_getElem hyl]
   obtain ⟨W1, hW1⟩ : ∃ W1, W1 = W.setCell ⟨ab, o + 3, none⟩ (.int .i64 x) := ⟨_, rfl⟩
   have hcur1 : W1.heap[ab]? = some (.cells (cur.setIfInBounds (o + 3) (.int .i64 x)) 28 (0, 0)) := by rw [hW1]; exact TK.set_one hcur _ _
   have hfr1 : FrS lo hi ab W W1 := by rw [hW1]; exact frs_set hcur _
   have hkeep1 : ∀ k, k ≠ ab → W1.heap[k]? = W.heap[k]? := fun k hk' => by rw [hW1]; exact Below.heap_setCell _ _ _ _ hk'
   have K2 : W1.cell? ⟨ab, o + 2, none⟩ = some (.slice n.ka n.kl n.kc) := by
    rw [cell_of hcur1, Array.getElem?_setIfInBounds_ne (by omega), ← hcell]
    exact d2
   obtain ⟨ng, ncap, hnvv, hng⟩ := own_some8 hnv (by omega)
   have en1 : nvo = some ⟨ng, 0, none⟩ := by injection hnvv
   have en2 : nvc = ncap := by injection hnvv
   subst en1 en2
   have hnc : W.cell? ⟨ng, y, none⟩ = some (.int .i64 x) := by
    rw [World.ownsRow.cellAt hnv y (by omega), hxv]
    simp [i64s, List.getElem?_eq_getElem hyl]
   have hncl : ns.length ≤ nvc := by
    rcases hnv.2 with ⟨h1, h2⟩ | ⟨b', cap', cb', h1, h2, h3, h4, _⟩
    ·omega
    ·cases h1; exact h4
   rw [hy] at d3
   rw [k18] at d0
   have q1 : (y : Int) < (ns.length : Int) := by omega
   have q2 : (0 : Int) ≤ (y : Int) := by omega
   have HNy := hide hy
   have f3 := hfrz (o + 3)
   have HX := hide hx
   clear hnvv hy hxv h18a h18b k18 hx hcell hfrz
   go_enter Tryz.func24, Tryz.ntmps24
   go_upto_region 2 with fail
   rw [← hW1]
   clear hW1 d0 d2 d3 hnc
   obtain ⟨m, hm⟩ : ∃ m, m = ps.length := ⟨_, rfl⟩
   have hkl : n.kl = m := by
    have ho := hk.own
    rcases ho.2 with ⟨h1, h2⟩ | ⟨b, cap, cur', h1, _⟩
    ·have e : n.kl = 0 := by injection h1
     omega
    ·have e : n.kl = ps.length := by injection h1
     omega
   have hmx : m ≤ 9223372036854775807 := by
    have ho := hk.own
    rcases ho.2 with ⟨h1, h2⟩ | ⟨b, cap, cur', h1, h2, h3, h4, h5, _⟩
    ·omega
    ·unfold maxLen at h5; omega
   have hW1k : ∀ k, lo ≤ k → k < hi → W1.heap[k]? = w0.heap[k]? := fun k h1 h2 => (hkeep1 k (fun e => hab (by omega))).trans (hW k h1 h2)
   have HR0 : Hid (W1.ownsRow lo 28 8 (.slice n.ka n.kl n.kc) ps.length (cellsP (mixP ns ps 0))) := by
    show World.ownsRow _ _ _ _ _ _ _
    rw [mix_zero]
    exact (hk.keep (KeepI.of_blocks hW1k)).own
   have HW1k := hide hW1k
   have HIH := hide ih
   have HK := hide hk
   have HS := hide hs
   have HH := hide h
   have HNE := hide hne
   have HAB := hide hab
   have HAG2 := hide hag2
   have HHI := hide hhi
   have HF1 := hide hfr1
   have HC1 := hide hcur1
   have HM := hide hm
   have HNS := hide hns
   have HNV1 := hide (own_typ hfr1 hnv (by decide))
   have HKP := hide hkeep1
   have HW := hide hW
   rw [hkl] at K2 HR0
   have HKl := hide hkl
   clear ih hk hs h hne hab hag1 hag2 hhi hfr1 hm hnv hns hkeep1 hW hW1k hcur hcl hkl
   go_wp2
   go_loopw [25] (fun u wr => ∃ j : Nat, j ≤ m ∧ u = .int .i64 j ∧ wr.heap[ab]? = some (.cells (cur.setIfInBounds (o + 3) (.int .i64 x)) 28 (0, 0)) ∧ FrS lo hi ab W wr ∧ wr.ownsRow lo 28 8 (.slice n.ka m n.kc) ps.length (cellsP (mixP ns ps j)) ∧ (∀ i (hi : i < ps.length), i < j → NodeI wr ps[i].lo ps[i].hi (setNV ns ps[i].nv) (settleT ns ps[i].tr)) ∧ (∀ i (hi : i < ps.length), j ≤ i → ∀ k, ps[i].lo ≤ k → k < ps[i].hi → wr.heap[k]? = w0.heap[k]?)) (fun u _ => m - (intOf u).toNat)
   case atStart => exact ⟨0, Nat.zero_le _, rfl, HC1.out, HF1.out, HR0.out, fun i _ hi0 => absurd hi0 (Nat.not_lt_zero _), fun i hi0 _ k h1 h2 => HW1k.out k (by have := (HK.out.rng _ (List.getElem_mem hi0)).1; omega) (by have := (HK.out.rng _ (List.getElem_mem hi0)).2.2; omega)⟩
   case round =>
    obtain ⟨j, hj, rfl, hca, hfr, hro, hdone, hrest⟩ := hrel
    obtain ⟨wq, hwq⟩ : ∃ wq, wq = wr := ⟨_, rfl⟩
    subst hwq
    have HCA := hide hca
    have HFR := hide hfr
    have HRO := hide hro
    have HDN := hide hdone
    have HRS := hide hrest
    have k2 : wq.cell? ⟨ab, o + 2, none⟩ = some (.slice n.ka m n.kc) := by rw [cell_of hca, ← cell_of HC1.out]; exact K2
    clear hca hfr hro hdone hrest
    by_cases hlt : j < m
    ·have hjl : j < ps.length := by have := HM.out; omega
     have hmem := List.getElem_mem hjl
     have hrng := HK.out.rng ps[j] hmem
     have ho := HRO.out
     obtain ⟨b, cap, cb, hka, hcap, hcb, hlob⟩ : ∃ b cap cb, n.ka = some ⟨b, 0, none⟩ ∧ n.kc = cap ∧ wq.heap[b]? = some (.cells cb 28 (0, 0)) ∧ lo ≤ b := by
      rcases ho.2 with ⟨h1, h2⟩ | ⟨b, cap, cb, h1, h2, h3, h4, _⟩
      ·omega
      ·exact ⟨b, cap, cb, by injection h1, by injection h1, h3, h2⟩
     have hcapm : m ≤ n.kc := by
      rcases ho.2 with ⟨h1, h2⟩ | ⟨b', cap', cb', h1, h2, h3, h4, _⟩
      ·omega
      ·have e2 : n.kc = cap' := by injection h1
       have := HM.out
       omega
     have htop := HK.out.top b (by rw [hka]; rfl)
     have hbi : ¬ (ps[j].lo ≤ b ∧ b < ps[j].hi) := by have := htop.2 ps[j] hmem; omega
     have ho2 : wq.ownsRow lo 28 8 (.slice (some ⟨b, 0, none⟩) (mixP ns ps j).length n.kc) (mixP ns ps j).length (cellsP (mixP ns ps j)) := by rw [mix_len, ← HM.out, ← hka]; rw [← HM.out] at ho; exact ho
     have hcells := own_ncells ho2 (j := j) (by rw [mix_len]; exact hjl)
     rw [mix_get ns ps j hjl] at hcells
     have HC := hide (HIH.out ps[j] hmem (HAG2.out _ (List.mem_map.2 ⟨_, hmem, rfl⟩)) (by have := HHI.out; omega) wq b (j * 8) cb _ B (by have := HFR.out.size; have := HWz.out; omega) (HRS.out j hjl (Nat.le_refl _)) hcb hcells hbi (own_typ HFR.out HNVo.out (by decide)) HNS.out)
     have HO2 := hide ho2
     have HCB := hide hcb
     have HTOP := hide htop
     have HBI := hide hbi
     have HRNG := hide hrng
     have HLB := hide hlob
     have hjb : (j : Int) < (m : Int) := by omega
     have hj0 : (0 : Int) ≤ (j : Int) := by omega
     have hjw : IntKind.i64.wrap ((j : Int) + 1) = (j : Int) + 1 := by rw [IntKind.wrap_i64]; omega
     rw [hka] at k2
     have HKA := hide hka
     clear ho ho2 hcells hcb hbi htop hrng hmem hlob hka hcap
     go_wp2_with fail
     refine HC.out.mono ?_
     rintro e w5 ⟨rfl, hb5, hn5, hf5⟩
     have e1 := HAB.out
     have e2 := HTOP.out.1
     have e3 := HLB.out
     have e4 := HRNG.out
     have HCA5 : Hid (w5.heap[ab]? = some (.cells (cur.setIfInBounds (o + 3) (.int .i64 x)) 28 (0, 0))) := by show _ = _; rw [hf5.out ab (TR.lt_of_block HCA.out) (fun e => e1 (by omega)) (fun e => e1 (by omega))]; exact HCA.out
     have HFR5 : Hid (FrS lo hi ab W w5) := HFR.out.trans (hf5.inner e4.1 e4.2.2 ⟨e3, e2⟩)
     have HRO5 : Hid (w5.ownsRow lo 28 8 (.slice n.ka m n.kc) ps.length (cellsP (mixP ns ps (j + 1)))) := by
      have h9 := own_setJ HO2.out HCB.out (j := j) (by rw [mix_len]; exact hjl) (q := setPc ns ps[j]) (x := numS ns ps[j].nv.kind ps[j].nv.num) (by rw [mix_get ns ps j hjl]; rfl) hb5
      rw [← mix_succ ns ps j hjl, mix_len, ← HKA.out] at h9
      show World.ownsRow _ _ _ _ _ _ _
      rw [← HM.out] at h9 ⊢
      exact h9
     have hsub : ∀ i (hi : i < ps.length) k, ps[i].lo ≤ k → k < ps[i].hi → k < wq.heap.size := fun i hi' k h1 h2 => by
      have r1 := HK.out.rng ps[i] (List.getElem_mem hi')
      have r5 := HFR.out.size
      have r6 := HHI.out
      have r7 := HWz.out
      omega
     have hkp : ∀ i (hi : i < ps.length), i ≠ j → ∀ k, ps[i].lo ≤ k → k < ps[i].hi → w5.heap[k]? = wq.heap[k]? := fun i hi' hij k h1 h2 => by
      have r1 := HK.out.rng ps[i] (List.getElem_mem hi')
      have r2 := HTOP.out.2 ps[i] (List.getElem_mem hi')
      have r3 : ps[i].hi ≤ ps[j].lo ∨ ps[j].hi ≤ ps[i].lo := by
       rcases Nat.lt_or_gt_of_ne hij with h3 | h3
       ·exact .inl (List.pairwise_iff_getElem.1 HK.out.par i j hi' hjl h3)
       ·exact .inr (List.pairwise_iff_getElem.1 HK.out.par j i hjl hi' h3)
      exact hf5.out k (by have h7 := hsub i hi' k h1 h2; exact h7) (by omega) (by omega)
     have HDN5 : Hid (∀ i (hi : i < ps.length), i < j + 1 → NodeI w5 ps[i].lo ps[i].hi (setNV ns ps[i].nv) (settleT ns ps[i].tr)) := fun i hi' hij => by
      by_cases h9 : i = j
      ·subst h9; exact hn5
      ·exact (HDN.out i hi' (by omega)).keep (KeepI.of_blocks (hkp i hi' h9))
     have HRS5 : Hid (∀ i (hi : i < ps.length), j + 1 ≤ i → ∀ k, ps[i].lo ≤ k → k < ps[i].hi → w5.heap[k]? = w0.heap[k]?) := fun i hi' hij k h1 h2 => (hkp i hi' (by omega) k h1 h2).trans (HRS.out i hi' (by omega) k h1 h2)
     clear hb5 hn5 hf5 hkp HC k2
     go_wp2
     go_roundw
     case rel => exact ⟨j + 1, by omega, by go_num, HCA5.out, HFR5.out, HRO5.out, HDN5.out, HRS5.out⟩
     case measure => simp [intOf]; omega
    ·have hjm : j = m := by omega
     have hjb : ¬ (j : Int) < (m : Int) := by omega
     go_wp2
     go_end0
     refine ⟨rfl, HCA.out, ?_, HFR.out⟩
     rw [settle_mk]
     have hro := HRO.out
     rw [hjm, HM.out, mix_all] at hro
     have hlen : (ps.map (setPc ns)).length = ps.length := List.length_map ..
     have hset : SetI wq lo hi (.slice n.sa n.sl n.sc) S := by
      have h1 := HS.out.keep (KeepI.of_blocks fun k a b => HW.out k a b)
      exact ⟨own_typ HFR.out h1.own (by decide), h1.top⟩
     have hrow : RowI wq lo hi (.slice n.ka n.kl n.kc) (ps.map (setPc ns)) := by
      refine ⟨by rw [hlen, HKl.out, HM.out]; exact hro, fun k hk => ?_, fun p hp => ?_, ?_⟩
      ·have h1 := HK.out.top k hk
       exact ⟨h1.1, fun p hp => by obtain ⟨p', hp', rfl⟩ := List.mem_map.1 hp; exact h1.2 p' hp'⟩
      ·obtain ⟨p', hp', rfl⟩ := List.mem_map.1 hp
       exact HK.out.rng p' hp'
      ·exact List.pairwise_map.2 HK.out.par
     have hall : ∀ p ∈ ps.map (setPc ns), NodeI wq p.lo p.hi p.nv p.tr := fun p hp => by
      obtain ⟨p', hp', rfl⟩ := List.mem_map.1 hp
      obtain ⟨i, hi', rfl⟩ := List.mem_iff_getElem.1 hp'
      exact HDN.out i hi' (by have := HM.out; omega)
     have := NodeI.mk lo hi (setNV ns n) S (ps.map (setPc ns)) hset hrow (fun h9 h10 => HNE.out h9 (List.map_eq_nil_iff.1 h10)) hall
     rw [show (ps.map (setPc ns)).map Pc.tr = (ps.map Pc.tr).map (settleT ns) from by rw [List.map_map, List.map_map]; rfl] at this
     exact this
  ·have q18 : (n.kind == 18) = false := by simpa using k18
   have hxn : x = n.num := by rw [hx]; unfold numS; rw [if_neg k18]
   obtain ⟨W1, hW1⟩ : ∃ W1, W1 = W := ⟨_, rfl⟩
   have hcur1 : W1.heap[ab]? = some (.cells (cur.setIfInBounds (o + 3) (.int .i64 x)) 28 (0, 0)) := by
    rw [hW1, set_same (by rw [← hcell, hxn]; exact d3)]
    exact hcur
   have hfr1 : FrS lo hi ab W W1 := by rw [hW1]; exact FrS.refl _ _ _ _
   have hkeep1 : ∀ k, k ≠ ab → W1.heap[k]? = W.heap[k]? := fun k _ => by rw [hW1]
   have K2 : W1.cell? ⟨ab, o + 2, none⟩ = some (.slice n.ka n.kl n.kc) := by rw [hW1]; exact d2
   have HX := hide hx
   clear hxn hx hcell hfrz
   go_enter Tryz.func24, Tryz.ntmps24
   go_upto_region 2 with fail
   rw [← hW1]
   clear hW1 d0 d2 d3 k18
   obtain ⟨m, hm⟩ : ∃ m, m = ps.length := ⟨_, rfl⟩
   have hkl : n.kl = m := by
    have ho := hk.own
    rcases ho.2 with ⟨h1, h2⟩ | ⟨b, cap, cur', h1, _⟩
    ·have e : n.kl = 0 := by injection h1
     omega
    ·have e : n.kl = ps.length := by injection h1
     omega
   have hmx : m ≤ 9223372036854775807 := by
    have ho := hk.own
    rcases ho.2 with ⟨h1, h2⟩ | ⟨b, cap, cur', h1, h2, h3, h4, h5, _⟩
    ·omega
    ·unfold maxLen at h5; omega
   have hW1k : ∀ k, lo ≤ k → k < hi → W1.heap[k]? = w0.heap[k]? := fun k h1 h2 => (hkeep1 k (fun e => hab (by omega))).trans (hW k h1 h2)
   have HR0 : Hid (W1.ownsRow lo 28 8 (.slice n.ka n.kl n.kc) ps.length (cellsP (mixP ns ps 0))) := by
    show World.ownsRow _ _ _ _ _ _ _
    rw [mix_zero]
    exact (hk.keep (KeepI.of_blocks hW1k)).own
   have HW1k := hide hW1k
   have HIH := hide ih
   have HK := hide hk
   have HS := hide hs
   have HH := hide h
   have HNE := hide hne
   have HAB := hide hab
   have HAG2 := hide hag2
   have HHI := hide hhi
   have HF1 := hide hfr1
   have HC1 := hide hcur1
   have HM := hide hm
   have HNS := hide hns
   have HNV1 := hide (own_typ hfr1 hnv (by decide))
   have HKP := hide hkeep1
   have HW := hide hW
   rw [hkl] at K2 HR0
   have HKl := hide hkl
   clear ih hk hs h hne hab hag1 hag2 hhi hfr1 hm hnv hns hkeep1 hW hW1k hcur hcl hkl
   go_wp2
   go_loopw [25] (fun u wr => ∃ j : Nat, j ≤ m ∧ u = .int .i64 j ∧ wr.heap[ab]? = some (.cells (cur.setIfInBounds (o + 3) (.int .i64 x)) 28 (0, 0)) ∧ FrS lo hi ab W wr ∧ wr.ownsRow lo 28 8 (.slice n.ka m n.kc) ps.length (cellsP (mixP ns ps j)) ∧ (∀ i (hi : i < ps.length), i < j → NodeI wr ps[i].lo ps[i].hi (setNV ns ps[i].nv) (settleT ns ps[i].tr)) ∧ (∀ i (hi : i < ps.length), j ≤ i → ∀ k, ps[i].lo ≤ k → k < ps[i].hi → wr.heap[k]? = w0.heap[k]?)) (fun u _ => m - (intOf u).toNat)
   case atStart => exact ⟨0, Nat.zero_le _, rfl, HC1.out, HF1.out, HR0.out, fun i _ hi0 => absurd hi0 (Nat.not_lt_zero _), fun i hi0 _ k h1 h2 => HW1k.out k (by have := (HK.out.rng _ (List.getElem_mem hi0)).1; omega) (by have := (HK.out.rng _ (List.getElem_mem hi0)).2.2; omega)⟩
   case round =>
    obtain ⟨j, hj, rfl, hca, hfr, hro, hdone, hrest⟩ := hrel
    obtain ⟨wq, hwq⟩ : ∃ wq, wq = wr := ⟨_, rfl⟩
    subst hwq
    have HCA := hide hca
    have HFR := hide hfr
    have HRO := hide hro
    have HDN := hide hdone
    have HRS := hide hrest
    have k2 : wq.cell? ⟨ab, o + 2, none⟩ = some (.slice n.ka m n.kc) := by rw [cell_of hca, ← cell_of HC1.out]; exact K2
    clear hca hfr hro hdone hrest
    by_cases hlt : j < m
    ·have hjl : j < ps.length := by have := HM.out; omega
     have hmem := List.getElem_mem hjl
     have hrng := HK.out.rng ps[j] hmem
     have ho := HRO.out
     obtain ⟨b, cap, cb, hka, hcap, hcb, hlob⟩ : ∃ b cap cb, n.ka = some ⟨b, 0, none⟩ ∧ n.kc = cap ∧ wq.heap[b]? = some (.cells cb 28 (0, 0)) ∧ lo ≤ b := by
      rcases ho.2 with ⟨h1, h2⟩ | ⟨b, cap, cb, h1, h2, h3, h4, _⟩
      ·omega
      ·exact ⟨b, cap, cb, by injection h1, by injection h1, h3, h2⟩
     have hcapm : m ≤ n.kc := by
      rcases ho.2 with ⟨h1, h2⟩ | ⟨b', cap', cb', h1, h2, h3, h4, _⟩
      ·omega
      ·have e2 : n.kc = cap' := by injection h1
       have := HM.out
       omega
     have htop := HK.out.top b (by rw [hka]; rfl)
     have hbi : ¬ (ps[j].lo ≤ b ∧ b < ps[j].hi) := by have := htop.2 ps[j] hmem; omega
     have ho2 : wq.ownsRow lo 28 8 (.slice (some ⟨b, 0, none⟩) (mixP ns ps j).length n.kc) (mixP ns ps j).length (cellsP (mixP ns ps j)) := by rw [mix_len, ← HM.out, ← hka]; rw [← HM.out] at ho; exact ho
     have hcells := own_ncells ho2 (j := j) (by rw [mix_len]; exact hjl)
     rw [mix_get ns ps j hjl] at hcells
     have HC := hide (HIH.out ps[j] hmem (HAG2.out _ (List.mem_map.2 ⟨_, hmem, rfl⟩)) (by have := HHI.out; omega) wq b (j * 8) cb _ B (by have := HFR.out.size; have := HWz.out; omega) (HRS.out j hjl (Nat.le_refl _)) hcb hcells hbi (own_typ HFR.out HNVo.out (by decide)) HNS.out)
     have HO2 := hide ho2
     have HCB := hide hcb
     have HTOP := hide htop
     have HBI := hide hbi
     have HRNG := hide hrng
     have HLB := hide hlob
     have hjb : (j : Int) < (m : Int) := by omega
     have hj0 : (0 : Int) ≤ (j : Int) := by omega
     have hjw : IntKind.i64.wrap ((j : Int) + 1) = (j : Int) + 1 := by rw [IntKind.wrap_i64]; omega
     rw [hka] at k2
     have HKA := hide hka
     clear ho ho2 hcells hcb hbi htop hrng hmem hlob hka hcap
     go_wp2_with fail
     refine HC.out.mono ?_
     rintro e w5 ⟨rfl, hb5, hn5, hf5⟩
     have e1 := HAB.out
     have e2 := HTOP.out.1
     have e3 := HLB.out
     have e4 := HRNG.out
     have HCA5 : Hid (w5.heap[ab]? = some (.cells (cur.setIfInBounds (o + 3) (.int .i64 x)) 28 (0, 0))) := by show _ = _; rw [hf5.out ab (TR.lt_of_block HCA.out) (fun e => e1 (by omega)) (fun e => e1 (by omega))]; exact HCA.out
     have HFR5 : Hid (FrS lo hi ab W w5) := HFR.out.trans (hf5.inner e4.1 e4.2.2 ⟨e3, e2⟩)
     have HRO5 : Hid (w5.ownsRow lo 28 8 (.slice n.ka m n.kc) ps.length (cellsP (mixP ns ps (j + 1)))) := by
      have h9 := own_setJ HO2.out HCB.out (j := j) (by rw [mix_len]; exact hjl) (q := setPc ns ps[j]) (x := numS ns ps[j].nv.kind ps[j].nv.num) (by rw [mix_get ns ps j hjl]; rfl) hb5
      rw [← mix_succ ns ps j hjl, mix_len, ← HKA.out] at h9
      show World.ownsRow _ _ _ _ _ _ _
      rw [← HM.out] at h9 ⊢
      exact h9
     have hsub : ∀ i (hi : i < ps.length) k, ps[i].lo ≤ k → k < ps[i].hi → k < wq.heap.size := fun i hi' k h1 h2 => by
      have r1 := HK.out.rng ps[i] (List.getElem_mem hi')
      have r5 := HFR.out.size
      have r6 := HHI.out
      have r7 := HWz.out
      omega
     have hkp : ∀ i (hi : i < ps.length), i ≠ j → ∀ k, ps[i].lo ≤ k → k < ps[i].hi → w5.heap[k]? = wq.heap[k]? := fun i hi' hij k h1 h2 => by
      have r1 := HK.out.rng ps[i] (List.getElem_mem hi')
      have r2 := HTOP.out.2 ps[i] (List.getElem_mem hi')
      have r3 : ps[i].hi ≤ ps[j].lo ∨ ps[j].hi ≤ ps[i].lo := by
       rcases Nat.lt_or_gt_of_ne hij with h3 | h3
       ·exact .inl (List.pairwise_iff_getElem.1 HK.out.par i j hi' hjl h3)
       ·exact .inr (List.pairwise_iff_getElem.1 HK.out.par j i hjl hi' h3)
      exact hf5.out k (by have h7 := hsub i hi' k h1 h2; exact h7) (by omega) (by omega)
     have HDN5 : Hid (∀ i (hi : i < ps.length), i < j + 1 → NodeI w5 ps[i].lo ps[i].hi (setNV ns ps[i].nv) (settleT ns ps[i].tr)) := fun i hi' hij => by
      by_cases h9 : i = j
      ·subst h9; exact hn5
      ·exact (HDN.out i hi' (by omega)).keep (KeepI.of_blocks (hkp i hi' h9))
     have HRS5 : Hid (∀ i (hi : i < ps.length), j + 1 ≤ i → ∀ k, ps[i].lo ≤ k → k < ps[i].hi → w5.heap[k]? = w0.heap[k]?) := fun i hi' hij k h1 h2 => (hkp i hi' (by omega) k h1 h2).trans (HRS.out i hi' (by omega) k h1 h2)
     clear hb5 hn5 hf5 hkp HC k2
     go_wp2
     go_roundw
     case rel => exact ⟨j + 1, by omega, by go_num, HCA5.out, HFR5.out, HRO5.out, HDN5.out, HRS5.out⟩
     case measure => simp [intOf]; omega
    ·have hjm : j = m := by omega
     have hjb : ¬ (j : Int) < (m : Int) := by omega
     go_wp2
     go_end0
     refine ⟨rfl, HCA.out, ?_, HFR.out⟩
     rw [settle_mk]
     have hro := HRO.out
     rw [hjm, HM.out, mix_all] at hro
     have hlen : (ps.map (setPc ns)).length = ps.length := List.length_map ..
     have hset : SetI wq lo hi (.slice n.sa n.sl n.sc) S := by
      have h1 := HS.out.keep (KeepI.of_blocks fun k a b => HW.out k a b)
      exact ⟨own_typ HFR.out h1.own (by decide), h1.top⟩
     have hrow : RowI wq lo hi (.slice n.ka n.kl n.kc) (ps.map (setPc ns)) := by
      refine ⟨by rw [hlen, HKl.out, HM.out]; exact hro, fun k hk => ?_, fun p hp => ?_, ?_⟩
      ·have h1 := HK.out.top k hk
       exact ⟨h1.1, fun p hp => by obtain ⟨p', hp', rfl⟩ := List.mem_map.1 hp; exact h1.2 p' hp'⟩
      ·obtain ⟨p', hp', rfl⟩ := List.mem_map.1 hp
       exact HK.out.rng p' hp'
      ·exact List.pairwise_map.2 HK.out.par
     have hall : ∀ p ∈ ps.map (setPc ns), NodeI wq p.lo p.hi p.nv p.tr := fun p hp => by
      obtain ⟨p', hp', rfl⟩ := List.mem_map.1 hp
      obtain ⟨i, hi', rfl⟩ := List.mem_iff_getElem.1 hp'
      exact HDN.out i hi' (by have := HM.out; omega)
     have := NodeI.mk lo hi (setNV ns n) S (ps.map (setPc ns)) hset hrow (fun h9 h10 => HNE.out h9 (List.map_eq_nil_iff.1 h10)) hall
     rw [show (ps.map (setPc ns)).map Pc.tr = (ps.map Pc.tr).map (settleT ns) from by rw [List.map_map, List.map_map]; rfl] at this
     exact this
end Go.Proofs.YtaccofiegkdlgaaGreatDoor.Pa
