import Derived.Test.YtfnndcbjklppeaaGreatDoorUC
import Derived.Test.YtfnndcbjklppeaaGreatDoorUE
import Derived.Deep.QuietTactic
import Derived.BigQuiet
import Derived.Deep.Cut
set_option linter.unusedVariables false
set_option maxHeartbeats 8000000
set_option maxRecDepth 100000
namespace Go.Proofs.YtfnndcbjklppeaaGreatDoor
open Go.RowKit
mutual
def szT : Tr → Nat
 | .mk _ _ _ _ _ _ _ kids => 1 + szL kids
def szL : List Tr → Nat
 | [] => 0
 | t :: ts => szT t + szL ts
end
theorem szL_drop {ts : List Tr} {j : Nat} (hj : j < ts.length) : szL (ts.drop j) = szT ts[j] + szL (ts.drop (j + 1)) := by
 rw [List.drop_eq_getElem_cons hj, szL]
theorem szT_kids (t : Tr) : szT t = 1 + szL t.kids := by cases t; rfl
theorem cntL_sz {step : Tr → Nat → Nat} (hs : ∀ t c, c < 1001 → step t c < 1001 → step t c = c + szT t) (hle : ∀ t c, c ≤ 1000 → step t c ≤ 1001) : ∀ (ts : List Tr) (c : Nat), c < 1001 → cntL step ts c < 1001 → cntL step ts c = c + szL ts := by
 intro ts
 induction ts with
 | nil => intro c _ _; rfl
 | cons t ts ih =>
  intro c hc h
  unfold cntL at h ⊢
  rw [if_pos hc] at h ⊢
  have h1 : step t c < 1001 := by
   by_cases hh : step t c < 1001
   ·exact hh
   ·rw [cntL_stop hh] at h; exact absurd h hh
  rw [ih _ h1 h, hs t c hc h1, szL]; omega
theorem cntT_sz : ∀ (f : Nat) (t : Tr) (c : Nat), c < 1001 → cntT f t c < 1001 → cntT f t c = c + szT t := by
 intro f
 induction f with
 | zero => intro t c _ h; exact absurd h (by unfold cntT; omega)
 | succ f ih =>
  intro t c hc h
  unfold cntT at h ⊢
  by_cases h1 : c + 1 < 1001
  ·rw [cntL_sz ih (cntT_le f) _ _ h1 h, szT_kids]; omega
  ·rw [cntL_stop h1] at h; omega
theorem cntA_sz {t : Tr} (h : cntA t < 1001) : szT t ≤ 1000 := by
 have := cntT_sz 201 t 0 (by omega) h
 unfold cntA at h
 omega
abbrev St : Type := Int × List Int
def nodeS (t : Tr) (s : St) : Except Int St :=
 if ¬ (1 ≤ t.kind ∧ t.kind ≤ 18) then .error 7
 else if (kidsB t && fieldsB t) = false then .error 1
 else if checkE t.set ≠ 0 then .error (checkE t.set)
 else if t.kind = 12 then (if repE t = 0 then .ok s else .error (repE t))
 else if t.kind = 11 then (if t.num = s.1 + 1 then .ok (s.1 + 1, s.2) else .error 4)
 else if t.kind = 18 then .ok (s.1, s.2 ++ [t.num])
 else .ok s
mutual
def chkT : Tr → St → Except Int St
 | .mk k a b c d e f kids, s => match nodeS (.mk k a b c d e f kids) s with
  | .ok s' => chkL kids s'
  | .error z => .error z
def chkL : List Tr → St → Except Int St
 | [], s => .ok s
 | t :: ts, s => match chkT t s with
  | .ok s' => chkL ts s'
  | .error z => .error z
end
theorem chkT_kids (t : Tr) (s : St) : chkT t s = match nodeS t s with | .ok s' => chkL t.kids s' | .error z => .error z := by
 cases t; rfl
theorem chkL_drop {ts : List Tr} {j : Nat} (hj : j < ts.length) (s : St) : chkL (ts.drop j) s = match chkT ts[j] s with | .ok s' => chkL (ts.drop (j + 1)) s' | .error z => .error z := by
 rw [List.drop_eq_getElem_cons hj]; rfl
theorem nodeS_grow {t : Tr} {s s' : St} (h : nodeS t s = .ok s') : s.1 ≤ s'.1 ∧ s'.1 ≤ s.1 + 1 ∧ s'.2.length ≤ s.2.length + 1 := by
 unfold nodeS at h
 split at h
 ·cases h
 ·split at h
  ·cases h
  ·split at h
   ·cases h
   ·split at h
    ·split at h
     ·cases h; omega
     ·cases h
    ·split at h
     ·split at h
      ·cases h; simp; omega
      ·cases h
     ·split at h
      ·cases h; simp <;> omega
      ·cases h; omega
mutual
theorem chkT_grow : ∀ (t : Tr) (s s' : St), chkT t s = .ok s' → s.1 ≤ s'.1 ∧ s'.1 ≤ s.1 + szT t ∧ s'.2.length ≤ s.2.length + szT t
 | .mk k a b c d e f kids, s, s', h => by
  rw [chkT_kids] at h
  cases hn : nodeS (.mk k a b c d e f kids) s with
  | error z => rw [hn] at h; cases h
  | ok s1 =>
   rw [hn] at h
   have h1 := nodeS_grow hn
   have h2 := chkL_grow kids s1 s' h
   rw [szT]
   omega
theorem chkL_grow : ∀ (ts : List Tr) (s s' : St), chkL ts s = .ok s' → s.1 ≤ s'.1 ∧ s'.1 ≤ s.1 + szL ts ∧ s'.2.length ≤ s.2.length + szL ts
 | [], s, s', h => by cases h; simp [szL]
 | t :: ts, s, s', h => by
  unfold chkL at h
  cases hn : chkT t s with
  | error z => rw [hn] at h; cases h
  | ok s1 =>
   rw [hn] at h
   have h1 := chkT_grow t s s1 hn
   have h2 := chkL_grow ts s1 s' h
   rw [szL]
   omega
end
def CK (B : Nat) (w : World) (cb : Nat) (s : St) : Prop :=
 B ≤ cb ∧ ∃ v, w.heap[cb]? = some (.cells #[.int .i64 s.1, v] 155 (0, 0)) ∧ w.ownsRow B 3 1 v s.2.length (i64s s.2) ∧ v.ownBlock ≠ some cb
def NodeE (B : Nat) (R : Except Int St) (cb : Nat) (w : World) (e : Ending) (w' : World) : Prop :=
 Below B w w' ∧ ((∃ s', R = .ok s' ∧ e = .returned (.tuple #[]) ∧ CK B w' cb s') ∨ (∃ z, R = .error z ∧ e = .panicked [{ v := .iface 26 (.int .i64 z), recovered := false }]))
theorem own_keep {B e k n : Nat} {w w' : World} {v : Value} {xs : List Value} (h : w.ownsRow B e k v n xs) (hb : Below w.heap.size w w') : w'.ownsRow B e k v n xs := by
 rcases h with ⟨h0, h1⟩
 refine ⟨h0, ?_⟩
 rcases h1 with h1 | ⟨g, cap, cur, h1, h2, h3, h4⟩
 ·exact .inl h1
 ·exact .inr ⟨g, cap, cur, h1, h2, by rw [hb.block g (lt_of_block h3)]; exact h3, h4⟩
theorem CK.keep {B : Nat} {w w' : World} {cb : Nat} {s : St} (h : CK B w cb s) (hb : Below w.heap.size w w') : CK B w' cb s := by
 obtain ⟨h1, v, h2, h3, h4⟩ := h
 exact ⟨h1, v, by rw [hb.block cb (lt_of_block h2)]; exact h2, own_keep h3 hb, h4⟩
theorem node_kind (B : Nat) (n : NV) (t : Tr) (w : World) (cb : Nat) (s : St) (h : NodeC w n t) (hB : B ≤ w.heap.size) (hck : CK B w cb s) (hbad : ¬ (1 ≤ t.kind ∧ t.kind ≤ 18)) : Calls Tryz.prog 101 #[.pointer (some ⟨cb, 0, none⟩), nvV n] w fun e w' => e = .panicked [{ v := .iface 26 (.int .i64 7), recovered := false }] ∧ Below w.heap.size w w' := by
 obtain ⟨k0, k1, k2, k3, k4, k5, hr, vs, hk, hkids⟩ := h.open
 have hb : Below w.heap.size w (w.alloc (nvO n)) := (Below.refl _ _).alloc (Nat.le_refl _) _
 have HHK := hide (fun W (hW : Below w.heap.size w W) => hasItsKids_any n t W (h.keep hW))
 have HHF := hide (fun W (hW : Below w.heap.size w W) => hasItsFields_any n t W (h.keep hW))
 have HHR := hide (fun W (hW : Below w.heap.size w W) => checkRepeat_any n t W (h.keep hW))
 have HSC := hide (fun W (hW : Below w.heap.size w W) => check_any _ t.set W (hr.below hW))
 have HY := hide (fun k W => must_yes k W)
 have HM : Hid (∀ k W, Calls Tryz.prog 138 #[.bool false, .int .i64 k] W fun e w' => e = .panicked [{ v := .iface 26 (.int .i64 k), recovered := false }] ∧ W = w') := fun k W => must_no k W
 obtain ⟨w1, hw1⟩ : ∃ w1, w1 = w.alloc (nvO n) := ⟨_, rfl⟩
 have hbox : w1.heap[w.heap.size]? = some (nvO n) := by rw [hw1]; exact at_new _ _
 rw [← hw1] at hb
 have HB := hide hb
 have HX := hide hbox
 have HCK := hide hck
 obtain ⟨d0, d1, d2, d3, d4, d5, d6, d7⟩ := nv_cells hbox
 simp only [nvO] at hw1
 rw [k0] at hbad
 clear h hr hk hkids hbox hb k0 k1 k2 k3 k4 k5 HHK HHF HHR HSC HX HCK hck hB
 by_cases g1 : 1 ≤ n.kind
 ·have g2 : decide (n.kind ≤ 18) = false := decide_eq_false (by omega)
  clear hbad
  go_enter Tryz.func101, Tryz.ntmps101
  go_wp2_with fail
  rw [← hw1]
  clear hw1
  refine (HM.out 7 w1).mono ?_
  rintro e w' ⟨rfl, rfl⟩
  go_wp2
  exact ⟨rfl, rfl, HB.out⟩
 ·clear hbad
  go_enter Tryz.func101, Tryz.ntmps101
  go_wp2_with fail
  rw [← hw1]
  clear hw1
  refine (HM.out 7 w1).mono ?_
  rintro e w' ⟨rfl, rfl⟩
  go_wp2
  exact ⟨rfl, rfl, HB.out⟩
theorem node_form (B : Nat) (n : NV) (t : Tr) (w : World) (cb : Nat) (s : St) (h : NodeC w n t) (hB : B ≤ w.heap.size) (hck : CK B w cb s) (hkd : 1 ≤ t.kind ∧ t.kind ≤ 18) (hbad : (kidsB t && fieldsB t) = false) : Calls Tryz.prog 101 #[.pointer (some ⟨cb, 0, none⟩), nvV n] w fun e w' => e = .panicked [{ v := .iface 26 (.int .i64 1), recovered := false }] ∧ Below w.heap.size w w' := by
 obtain ⟨k0, k1, k2, k3, k4, k5, hr, vs, hk, hkids⟩ := h.open
 have hb : Below w.heap.size w (w.alloc (nvO n)) := (Below.refl _ _).alloc (Nat.le_refl _) _
 have HHK := hide (fun W (hW : Below w.heap.size w W) => hasItsKids_any n t W (h.keep hW))
 have HHF := hide (fun W (hW : Below w.heap.size w W) => hasItsFields_any n t W (h.keep hW))
 have HHR := hide (fun W (hW : Below w.heap.size w W) => checkRepeat_any n t W (h.keep hW))
 have HSC := hide (fun W (hW : Below w.heap.size w W) => check_any _ t.set W (hr.below hW))
 have HY := hide (fun k W => must_yes k W)
 have HM : Hid (∀ k W, Calls Tryz.prog 138 #[.bool false, .int .i64 k] W fun e w' => e = .panicked [{ v := .iface 26 (.int .i64 k), recovered := false }] ∧ W = w') := fun k W => must_no k W
 obtain ⟨w1, hw1⟩ : ∃ w1, w1 = w.alloc (nvO n) := ⟨_, rfl⟩
 have hbox : w1.heap[w.heap.size]? = some (nvO n) := by rw [hw1]; exact at_new _ _
 rw [← hw1] at hb
 have HB := hide hb
 have HX := hide hbox
 have HCK := hide hck
 obtain ⟨d0, d1, d2, d3, d4, d5, d6, d7⟩ := nv_cells hbox
 simp only [nvO] at hw1
 rw [k0] at hkd
 obtain ⟨g1, g2⟩ := hkd
 obtain ⟨b1, hb1⟩ : ∃ b1, b1 = kidsB t := ⟨_, rfl⟩
 obtain ⟨b2, hb2⟩ : ∃ b2, b2 = fieldsB t := ⟨_, rfl⟩
 rw [← hb1] at HHK hbad
 rw [← hb2] at HHF hbad
 clear h hr hk hkids hbox hb k0 k1 k2 k3 k4 k5 HHR HSC HCK hck hB hb1 hb2
 cases b1 with
 | false =>
  have HB1 := HB
  have HX1 := HX
  clear HB HX
  go_enter Tryz.func101, Tryz.ntmps101
  go_wp2_with fail
  rw [← hw1]
  clear hw1
  refine (HY.out 7 w1).mono ?_
  rintro e w' ⟨rfl, rfl⟩
  go_wp2_with fail
  refine (HHK.out w1 HB1.out).mono ?_
  rintro e w2 ⟨rfl, hb2⟩
  have HB2 := hide (HB1.out.trans (hb2.mono HB1.out.size))
  have HX2 := hide (show w2.heap[w.heap.size]? = some (nvO n) by rw [hb2.block _ (lt_of_block HX1.out)]; exact HX1.out)
  clear hb2 HB1 HX1 d0 d1 d2 d3 d4 d5 d6 d7
  obtain ⟨d0, d1, d2, d3, d4, d5, d6, d7⟩ := nv_cells HX2.out
  go_wp2_with fail
  refine (HM.out 1 w2).mono ?_
  rintro e w' ⟨rfl, rfl⟩
  go_wp2
  exact ⟨rfl, rfl, HB2.out⟩
 | true =>
  cases b2 with
  | true => cases hbad
  | false =>
   have HB1 := HB
   have HX1 := HX
   clear HB HX
   go_enter Tryz.func101, Tryz.ntmps101
   go_wp2_with fail
   rw [← hw1]
   clear hw1
   refine (HY.out 7 w1).mono ?_
   rintro e w' ⟨rfl, rfl⟩
   go_wp2_with fail
   refine (HHK.out w1 HB1.out).mono ?_
   rintro e w2 ⟨rfl, hb2⟩
   have HB2 := hide (HB1.out.trans (hb2.mono HB1.out.size))
   have HX2 := hide (show w2.heap[w.heap.size]? = some (nvO n) by rw [hb2.block _ (lt_of_block HX1.out)]; exact HX1.out)
   clear hb2 HB1 HX1 d0 d1 d2 d3 d4 d5 d6 d7
   obtain ⟨d0, d1, d2, d3, d4, d5, d6, d7⟩ := nv_cells HX2.out
   go_wp2_with fail
   refine (HHF.out w2 HB2.out).mono ?_
   rintro e w3 ⟨rfl, hb3⟩
   have HB3 := hide (HB2.out.trans (hb3.mono HB2.out.size))
   have HX3 := hide (show w3.heap[w.heap.size]? = some (nvO n) by rw [hb3.block _ (lt_of_block HX2.out)]; exact HX2.out)
   clear hb3 HB2 HX2 d0 d1 d2 d3 d4 d5 d6 d7
   obtain ⟨d0, d1, d2, d3, d4, d5, d6, d7⟩ := nv_cells HX3.out
   go_wp2_with fail
   refine (HM.out 1 w3).mono ?_
   rintro e w' ⟨rfl, rfl⟩
   go_wp2
   exact ⟨rfl, rfl, HB3.out⟩
theorem node_set (B : Nat) (n : NV) (t : Tr) (w : World) (cb : Nat) (s : St) (h : NodeC w n t) (hB : B ≤ w.heap.size) (hck : CK B w cb s) (hkd : 1 ≤ t.kind ∧ t.kind ≤ 18) (hok : (kidsB t && fieldsB t) = true) (hbad : checkE t.set ≠ 0) : Calls Tryz.prog 101 #[.pointer (some ⟨cb, 0, none⟩), nvV n] w fun e w' => e = .panicked [{ v := .iface 26 (.int .i64 (checkE t.set)), recovered := false }] ∧ Below w.heap.size w w' := by
 obtain ⟨k0, k1, k2, k3, k4, k5, hr, vs, hk, hkids⟩ := h.open
 have hb : Below w.heap.size w (w.alloc (nvO n)) := (Below.refl _ _).alloc (Nat.le_refl _) _
 have HHK := hide (fun W (hW : Below w.heap.size w W) => hasItsKids_any n t W (h.keep hW))
 have HHF := hide (fun W (hW : Below w.heap.size w W) => hasItsFields_any n t W (h.keep hW))
 have HHR := hide (fun W (hW : Below w.heap.size w W) => checkRepeat_any n t W (h.keep hW))
 have HSC := hide (fun W (hW : Below w.heap.size w W) => check_any _ t.set W (hr.below hW))
 have HY := hide (fun k W => must_yes k W)
 have HM : Hid (∀ k W, Calls Tryz.prog 138 #[.bool false, .int .i64 k] W fun e w' => e = .panicked [{ v := .iface 26 (.int .i64 k), recovered := false }] ∧ W = w') := fun k W => must_no k W
 obtain ⟨w1, hw1⟩ : ∃ w1, w1 = w.alloc (nvO n) := ⟨_, rfl⟩
 have hbox : w1.heap[w.heap.size]? = some (nvO n) := by rw [hw1]; exact at_new _ _
 rw [← hw1] at hb
 have HB := hide hb
 have HX := hide hbox
 have HCK := hide hck
 obtain ⟨d0, d1, d2, d3, d4, d5, d6, d7⟩ := nv_cells hbox
 simp only [nvO] at hw1
 rw [k0] at hkd
 obtain ⟨g1, g2⟩ := hkd
 rw [Bool.and_eq_true] at hok
 rw [hok.1] at HHK
 rw [hok.2] at HHF
 obtain ⟨z, hz⟩ : ∃ z, z = checkE t.set := ⟨_, rfl⟩
 rw [← hz] at HSC hbad ⊢
 have hzb : (z == 0) = false := by simpa using hbad
 clear h hr hk hkids hbox hb k0 k1 k2 k3 k4 k5 HHR HCK hck hB hok hz hbad
 have HB1 := HB
 have HX1 := HX
 clear HB HX
 go_enter Tryz.func101, Tryz.ntmps101
 go_wp2_with fail
 rw [← hw1]
 clear hw1
 refine (HY.out 7 w1).mono ?_
 rintro e w' ⟨rfl, rfl⟩
 go_wp2_with fail
 refine (HHK.out w1 HB1.out).mono ?_
 rintro e w2 ⟨rfl, hb2⟩
 have HB2 := hide (HB1.out.trans (hb2.mono HB1.out.size))
 have HX2 := hide (show w2.heap[w.heap.size]? = some (nvO n) by rw [hb2.block _ (lt_of_block HX1.out)]; exact HX1.out)
 clear hb2 HB1 HX1 d0 d1 d2 d3 d4 d5 d6 d7
 obtain ⟨d0, d1, d2, d3, d4, d5, d6, d7⟩ := nv_cells HX2.out
 go_wp2_with fail
 refine (HHF.out w2 HB2.out).mono ?_
 rintro e w3 ⟨rfl, hb3⟩
 have HB3 := hide (HB2.out.trans (hb3.mono HB2.out.size))
 have HX3 := hide (show w3.heap[w.heap.size]? = some (nvO n) by rw [hb3.block _ (lt_of_block HX2.out)]; exact HX2.out)
 clear hb3 HB2 HX2 d0 d1 d2 d3 d4 d5 d6 d7
 obtain ⟨d0, d1, d2, d3, d4, d5, d6, d7⟩ := nv_cells HX3.out
 go_wp2_with fail
 refine (HY.out 1 w3).mono ?_
 rintro e w' ⟨rfl, rfl⟩
 go_wp2_with fail
 refine (HSC.out w3 HB3.out).mono ?_
 rintro e w4 ⟨rfl, hb4⟩
 have HB4 := hide (HB3.out.trans (hb4.mono HB3.out.size))
 have HX4 := hide (show w4.heap[w.heap.size]? = some (nvO n) by rw [hb4.block _ (lt_of_block HX3.out)]; exact HX3.out)
 clear hb4 HB3 HX3 d0 d1 d2 d3 d4 d5 d6 d7
 obtain ⟨d0, d1, d2, d3, d4, d5, d6, d7⟩ := nv_cells HX4.out
 go_wp2_with fail
 refine (HM.out z w4).mono ?_
 rintro e w' ⟨rfl, rfl⟩
 go_wp2
 exact ⟨rfl, rfl, HB4.out⟩
end Go.Proofs.YtfnndcbjklppeaaGreatDoor
