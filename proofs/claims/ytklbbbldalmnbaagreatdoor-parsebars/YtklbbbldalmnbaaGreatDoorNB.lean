import Derived.Test.YtklbbbldalmnbaaGreatDoorKV
import Derived.Test.YtklbbbldalmnbaaGreatDoorMJ
import Derived.Test.YtklbbbldalmnbaaGreatDoorMO
import Derived.Laws.OwnMore
import Derived.Test.YtklbbbldalmnbaaGreatDoorMQ
import Derived.Test.YtklbbbldalmnbaaGreatDoorMZ
import Derived.Test.YtklbbbldalmnbaaGreatDoorMY
namespace Go.Proofs.YtklbbbldalmnbaaGreatDoor.Br
set_option maxHeartbeats 2000000
open Go.RowKit
open TK (Mv PatV byteA add_block peel)
set_option linter.unusedVariables false
set_option maxRecDepth 100000
theorem hasInt_big (v : Value) (l : List Int) (p : Int) (w : World) (hv : PatV w v l) (hl : l.length ≤ 9223372036854775807) : Calls Tryz.prog 12 #[v, .int .i64 p] w fun e w' => e = .returned (.bool (decide (p ∈ l))) ∧ w = w' := by
 by_cases h0 : l.length = 0
 ·obtain rfl : l = [] := List.eq_nil_of_length_eq_zero h0
  obtain ⟨ao, c, hvv⟩ := hv.shape
  have hvv : v = .slice ao 0 c := hvv
  rw [hvv]
  clear hv hvv h0 hl
  go_enter Tryz.func12, Tryz.ntmps12
  go_wp2
  go_loop [5] (fun i => i = .int .i64 0) (fun i => 0)
  case atStart => exact rfl
  case round =>
   subst hrel
   go_wp2
   go_ret
   exact ⟨rfl, rfl⟩
 ·obtain ⟨x, c, rfl, hcap, hc⟩ := hv.some (by omega)
  obtain ⟨n, hn⟩ : ∃ n, n = l.length := ⟨_, rfl⟩
  have HC := hide hc
  have HN := hide hn
  rw [← hn] at hl hcap ⊢
  clear hc hn hv h0
  go_enter Tryz.func12, Tryz.ntmps12
  go_wp2
  go_loop [5] (fun i => ∃ k : Nat, k ≤ n ∧ i = .int .i64 k ∧ p ∉ l.take k) (fun i => n - (intOf i).toNat)
  case atStart => exact ⟨0, Nat.zero_le _, rfl, by simp⟩
  case round =>
   obtain ⟨k, hk, rfl, hf⟩ := hrel
   have HF := hide hf
   clear hf
   by_cases hlt : k < n
   ·have hkl : k < l.length := by have := HN.out; omega
    have c1 := HC.out k hkl
    have HM : Hid (l[k] ∈ l) := List.getElem_mem hkl
    have HT : Hid (l.take (k + 1) = l.take k ++ [l[k]]) := by show _ = _; rw [List.take_add_one, List.getElem?_eq_getElem hkl]; rfl
    obtain ⟨r, hr⟩ : ∃ r, r = l[k] := ⟨_, rfl⟩
    rw [← hr] at c1 HM HT
    clear hr hkl
    by_cases hrp : r = p
    ·have q1 : (r == p) = true := by simpa using hrp
     have HRP := hide hrp
     clear hrp
     go_wp2
     go_ret
     exact ⟨ret_bool (by rw [← HRP.out]; simp [HM.out]), rfl⟩
    ·have q1 : (r == p) = false := by simpa using hrp
     have HRP := hide hrp
     clear hrp
     go_wp2
     go_round
     case rel => exact ⟨k + 1, by omega, by go_num, by rw [HT.out]; simp [HF.out, Ne.symm HRP.out]⟩
     case measure => simp [intOf]; omega
   ·have HE : Hid (p ∉ l) := by
     have := HF.out
     rw [List.take_of_length_le (by have := HN.out; omega)] at this
     exact this
    go_wp2
    go_ret
    exact ⟨ret_bool (by simp [HE.out]), rfl⟩
end Go.Proofs.YtklbbbldalmnbaaGreatDoor.Br
namespace Go.Proofs.YtklbbbldalmnbaaGreatDoor.Pa
open Go.RowKit
open TR (Tr NV NCells nvV nvO NodeC KidsC)
open TK (Mv PatV)
set_option linter.unusedVariables false
set_option maxRecDepth 100000
theorem wpList_run {P : Program} {ops : Array Oper} {rest : List Oper} {o : Oper} {a : Act} {w : World} {Q : Exit → Act → World → Prop} (hgd : o.guard = none) (s x : Operand) (t : TypeId)
  (ho : o.op = .call { callee := .builtin .append, args := #[s, x], argTypes := #[t, t] }) (v v2 v' : Value) (w' : World) (hs : a.eval s = v) (hx : a.eval x = v2) (hr : (Builtin.append_ #[t, t] o.type #[v, v2]).run P w = .ok v' w') (h : wpList P ops Q rest (a.put o.dst v') w') : wpList P ops Q (o :: rest) a w :=
 wpList_plain hgd fun _ hK => by
  unfold Oper.wp execOp
  simp only [ho, resolve, invoke, builtin, Sem.run_bind, Sem.run_pure, Result.andThen_ok, List.map_toArray, List.map_cons, List.map_nil, hs, hx, hr]
  exact hK _ _ h
theorem i64s_ones (l : List Int) : ∀ u ∈ i64s l, u.oneCell' = true := by
 intro u hu
 simp [i64s] at hu
 obtain ⟨_, _, rfl⟩ := hu
 rfl
theorem i64s_app (l m : List Int) : i64s (l ++ m) = i64s l ++ i64s m := by simp [i64s]
theorem own_pat {w : World} {B n : Nat} {v : Value} {l : List Int} (h : w.ownsRow B 3 1 v n (i64s l)) (hn : n = l.length) : PatV w v l := by
 subst hn
 rcases h.2 with ⟨rfl, h0⟩ | ⟨g, cap, cur, rfl, hg, hh, hc, r⟩
 ·exact .inl ⟨rfl, List.eq_nil_of_length_eq_zero h0⟩
 ·refine .inr ⟨⟨g, 0, none⟩, cap, rfl, hc, fun j hj => ?_⟩
  have e1 : ((⟨g, 0, none⟩ : Addr).add j) = ⟨g, j, none⟩ := by unfold Addr.add; split <;> simp_all
  rw [e1, h.cellAt j (by omega)]
  simp [i64s, hj]
theorem app_ints {W : World} {B n : Nat} {v v2 : Value} {l m : List Int} (hB : B ≤ W.heap.size) (ho : W.ownsRow B 3 1 v n (i64s l)) (h2 : PatV W v2 m) (hl : n + m.length ≤ 100000000) :
  ∃ vo vc W', (Builtin.append_ #[36, 36] 36 #[v, v2]).run Tryz.prog W = .ok (.slice vo (n + m.length) vc) W' ∧ W'.ownsRow B 3 1 (.slice vo (n + m.length) vc) (n + m.length) (i64s (l ++ m)) ∧ Below B W W' := by
 obtain ⟨i0, hi, hz0, hz1, hz2⟩ := info_parts infoI
 rcases h2 with ⟨rfl, rfl⟩ | ⟨x, c, rfl, hc, hcl⟩
 ·obtain ⟨vo, vc, rfl⟩ := own_shape ho
  exact ⟨vo, vc, W, run_append_owned_none (P := Tryz.prog) W B 36 36 3 i0 1 Tryz.underlying36 hi _ n _ ho, by simpa using ho, Below.refl _ _⟩
 ·obtain ⟨v', w', hr, ho', hg, -⟩ := run_append_own (P := Tryz.prog) W B 36 36 3 i0 _ 1 8 Tryz.underlying36 hi hz0 hz1 hz2 rfl (by decide) v n (i64s l) ho x m.length c (i64s m) (by simp [i64s])
   (fun j u hu => by
    have hj : j < m.length := by have := (List.getElem?_eq_some_iff.1 hu).1; simpa [i64s] using this
    rw [hcl j hj]
    simp [i64s, hj] at hu
    rw [hu])
   (i64s_ones m) (by unfold maxLen; omega) (by omega) hB
  obtain ⟨vo, vc, rfl⟩ := own_shape ho'
  exact ⟨vo, vc, w', hr, by rw [i64s_app]; exact ho', (Below.refl B W).grown hg hB (fun k hk => (ho.lt k hk).1)⟩
def rowN (xs : List NV) : List Value := xs.flatMap nvL
theorem rowN_app (a b : List NV) : rowN (a ++ b) = rowN a ++ rowN b := by simp [rowN]
theorem rowN_len : ∀ xs : List NV, (rowN xs).length = xs.length * 8
 | [] => rfl
 | x :: xs => by rw [rowN, List.flatMap_cons, List.length_append, nvL_len]; have := rowN_len xs; rw [rowN] at this; rw [this, List.length_cons]; omega
theorem rowN_one (xs : List NV) : ∀ u ∈ rowN xs, u.oneCell' = true := by
 intro u hu
 obtain ⟨x, _, hx⟩ := List.mem_flatMap.1 hu
 exact nvL_one x u hx
theorem rowN_get : ∀ (xs : List NV) (j : Nat) (hj : j < xs.length) (i : Nat), i < 8 → (rowN xs)[j * 8 + i]? = (nvL xs[j])[i]?
 | x :: xs, 0, hj, i, hi => by
  rw [rowN, List.flatMap_cons, List.getElem?_append_left (by rw [nvL_len]; omega)]
  simp
 | x :: xs, j + 1, hj, i, hi => by
  rw [rowN, List.flatMap_cons, List.getElem?_append_right (by rw [nvL_len]; omega), nvL_len]
  have := rowN_get xs j (by simpa using hj) i hi
  rw [rowN] at this
  rw [show (j + 1) * 8 + i - 8 = j * 8 + i from by omega, this]
  rfl
theorem ncells_at {W : World} {a : Addr} {n : NV} (h : NCells W a n) (i : Nat) (hi : i < 8) (u : Value) (hu : (nvL n)[i]? = some u) : W.cell? (a.add i) = some u := by
 obtain ⟨c0, c1, c2, c3, c4, c5, c6, c7⟩ := h
 match i, hi with
 | 0, _ => simp [nvL] at hu; subst hu; exact c0
 | 1, _ => simp [nvL] at hu; subst hu; exact c1
 | 2, _ => simp [nvL] at hu; subst hu; exact c2
 | 3, _ => simp [nvL] at hu; subst hu; exact c3
 | 4, _ => simp [nvL] at hu; subst hu; exact c4
 | 5, _ => simp [nvL] at hu; subst hu; exact c5
 | 6, _ => simp [nvL] at hu; subst hu; exact c6
 | 7, _ => simp [nvL] at hu; subst hu; exact c7
theorem add_add (x : Addr) (a b : Nat) : (x.add a).add b = x.add (a + b) := by
 unfold Addr.add
 by_cases hb : b = 0
 ·subst hb; simp
 ·by_cases ha : a = 0
  ·subst ha; simp [hb]
  ·simp [ha, hb, Nat.add_assoc]
theorem app_nodes {W : World} {B n : Nat} {v : Value} {xs ys : List NV} {ao : Option Addr} {c m : Nat} (hB : B ≤ W.heap.size) (ho : W.ownsRow B 25 8 v n (rowN xs)) (hm : m = ys.length) (h2 : (ao = none ∧ m = 0 ∧ c = 0) ∨ ∃ x, ao = some x ∧ ∀ j (hj : j < ys.length), NCells W (x.add (j * 8)) ys[j]) (hl : n + m ≤ 100000000) :
  ∃ vo vc W', (Builtin.append_ #[23, 23] 23 #[v, .slice ao m c]).run Tryz.prog W = .ok (.slice vo (n + m) vc) W' ∧ W'.ownsRow B 25 8 (.slice vo (n + m) vc) (n + m) (rowN (xs ++ ys)) ∧ Below B W W' := by
 obtain ⟨i0, hi, hz0, hz1, hz2⟩ := info_parts infoNode
 rcases h2 with ⟨rfl, rfl, rfl⟩ | ⟨x, rfl, hcl⟩
 ·obtain rfl : ys = [] := List.eq_nil_of_length_eq_zero hm.symm
  obtain ⟨vo, vc, rfl⟩ := own_shape ho
  exact ⟨vo, vc, W, run_append_owned_none (P := Tryz.prog) W B 23 23 25 i0 8 Tryz.underlying23 hi _ n _ ho, by simpa using ho, Below.refl _ _⟩
 ·obtain ⟨v', w', hr, ho', hg, -⟩ := run_append_own (P := Tryz.prog) W B 23 23 25 i0 _ 8 96 Tryz.underlying23 hi hz0 hz1 hz2 rfl (by decide) v n (rowN xs) ho x m c (rowN ys) (by rw [rowN_len, hm])
   (fun j u hu => by
    have hj : j < ys.length * 8 := by have := (List.getElem?_eq_some_iff.1 hu).1; rwa [rowN_len] at this
    have h1 : j = (j / 8) * 8 + j % 8 := by omega
    have h2 : j / 8 < ys.length := by omega
    rw [h1, rowN_get ys (j / 8) h2 (j % 8) (by omega)] at hu
    have := ncells_at (hcl (j / 8) h2) (j % 8) (by omega) u hu
    rw [add_add, ← h1] at this
    exact this)
   (rowN_one ys) (by unfold maxLen; omega) (by omega) hB
  obtain ⟨vo, vc, rfl⟩ := own_shape ho'
  exact ⟨vo, vc, w', hr, by rw [rowN_app]; exact ho', (Below.refl B W).grown hg hB (fun k hk => (ho.lt k hk).1)⟩
structure RowC (W : World) (xs : List NV) (ts : List Tr) : Prop where
 len : xs.length = ts.length
 all : ∀ j (h : j < xs.length) (h' : j < ts.length), NodeC W xs[j] ts[j]
theorem RowC.app {W : World} {xs ys : List NV} {ts us : List Tr} (h : RowC W xs ts) (h' : RowC W ys us) : RowC W (xs ++ ys) (ts ++ us) := by
 refine ⟨by simp [h.len, h'.len], fun j hj hj' => ?_⟩
 have hlen := h.len
 by_cases hx : j < xs.length
 ·rw [List.getElem_append_left hx, List.getElem_append_left (by omega)]
  exact h.all j hx (by omega)
 ·rw [List.getElem_append_right (by omega), List.getElem_append_right (by omega)]
  have hj2 : j < xs.length + ys.length := by simpa using hj
  have := h'.all (j - xs.length) (by omega) (by have := h'.len; omega)
  simp only [hlen] at this ⊢
  exact this
theorem RowC.keep {W W' : World} {xs : List NV} {ts : List Tr} (h : RowC W xs ts) (hb : Below W.heap.size W W') : RowC W' xs ts := ⟨h.len, fun j a b => (h.all j a b).keep hb⟩
theorem row_node {W : World} {B n : Nat} {vo : Option Addr} {vc : Nat} {xs : List NV} {ts : List Tr} (ho : W.ownsRow B 25 8 (.slice vo n vc) n (rowN xs)) (hc : RowC W xs ts) (hn : n = xs.length) : NodeC W ⟨10, none, 0, 0, vo, n, vc, 0, 0, 0, 0, false⟩ (.mk 10 0 0 0 0 false [] ts) := by
 have hl := hc.len
 refine .mk ⟨10, none, 0, 0, vo, n, vc, 0, 0, 0, 0, false⟩ [] ts (fun j => xs.getD j nodeZ) (.inl ⟨rfl, rfl⟩) ?_ (fun j hj => ?_)
 ·rcases id ho.2 with ⟨h0, h1⟩ | ⟨g, cap, cur, h0, hg, hh, h4, h5, h6⟩
  ·cases h0
   exact .inl ⟨rfl, rfl, rfl, by omega⟩
  ·cases h0
   refine .inr ⟨_, rfl, by show n = _; omega, ⟨by show _ ≤ vc; omega, by show vc ≤ _; unfold maxLen at h5; omega⟩, fun j hj => ?_⟩
   have hj' : j < xs.length := by omega
   have e1 : ((⟨g, 0, none⟩ : Addr).add (j * 8)) = ⟨g, j * 8, none⟩ := by unfold Addr.add; split <;> simp_all
   have c : ∀ k, k < 8 → W.cell? ⟨g, j * 8 + k, none⟩ = (nvL xs[j])[k]? := fun k hk => by rw [ho.cellAt (j * 8 + k) (by omega), rowN_get xs j hj' k hk]
   have e2 : xs.getD j nodeZ = xs[j] := by simp [List.getD, hj']
   rw [e1]
   show NCells W ⟨g, j * 8, none⟩ (xs.getD j nodeZ)
   rw [e2]
   exact ⟨c 0 (by omega), c 1 (by omega), c 2 (by omega), c 3 (by omega), c 4 (by omega), c 5 (by omega), c 6 (by omega), c 7 (by omega)⟩
 ·have hj' : j < xs.length := by omega
  have e2 : xs.getD j nodeZ = xs[j] := by simp [List.getD, hj']
  show NodeC W (xs.getD j nodeZ) ts[j]
  rw [e2]
  exact hc.all j hj' hj
end Go.Proofs.YtklbbbldalmnbaaGreatDoor.Pa
namespace Go.Proofs.YtklbbbldalmnbaaGreatDoor.Pa
open Go.RowKit
open TR (Tr NV NCells nvV nvO NodeC KidsC)
open TK (Mv PatV)
open Br (BE PS givesF fauO fau_cells)
set_option linter.unusedVariables false
set_option maxRecDepth 100000
theorem settle_sm {ns : List Int} {t : Tr} (h : Sm t) : Sm (settleT ns t) := by
 induction h with
 | mk k n a b c o S ks hs h ih =>
  rw [settle_mk]
  refine .mk _ _ _ _ _ _ _ _ hs (fun u hu => ?_)
  obtain ⟨t, ht, rfl⟩ := List.mem_map.1 hu
  exact ih t ht
theorem pat_sm {d : Int} {fo : Bool} {l : List Int} {p : Pt} (h : patM bigB d fo l = .ok p) : Sm p.tree := by
 unfold patM at h
 split at h
 ·cases h
 ·rename_i hpe
  have hpe : TK.patE d l = 0 := by simpa using hpe
  unfold wholeM at h
  split at h
  ·cases h
  ·rename_i s0 h0
   have hA : InvA l {} := ⟨Nat.zero_le _, Nat.zero_le _, Nat.zero_le _, by decide, by decide⟩
   obtain ⟨i0, _, _, d0, _⟩ := adv_inv hpe hA h0
   split at h
   ·cases h
   ·rename_i t s hb
    split at h
    ·cases h
    ·split at h
     ·cases h
     ·split at h
      ·cases h
      ·cases h
       exact settle_sm (branchesF_q sm_clo hpe 21 _ _ _ _ _ i0 rfl hb)
def zeroT : Tr := .mk 0 0 0 0 0 false [] []
theorem zero_node (w : World) : NodeC w nodeZ zeroT := .mk nodeZ [] [] (fun _ => nodeZ) (.inl ⟨rfl, rfl⟩) (.inl ⟨rfl, rfl, rfl, rfl⟩) (fun j hj => by cases hj)
def patR (R : Except BE Pt) : Tr × Nat × List Nm := match R with
 | .ok p => (p.tree, p.groups, p.names)
 | .error _ => (zeroT, 0, [])
def patZ (R : Except BE Pt) : Int × Int := match R with
 | .ok _ => (0, 0)
 | .error e => e
theorem parse_one (d : Int) (fo : Bool) {v : Value} {l : List Int} {w : World} (h : PatV w v l) (hT : Fo.Tab w) (hpos : 3 < w.heap.size) : Calls Tryz.prog 11 #[.int .i64 d, v, .bool fo] w fun e w' => ∃ (n : NV) (gr : Int) (uo : Option Addr) (ul uc : Nat) (z a : Int), e = .returned (.tuple #[pnV n gr (.slice uo ul uc), .agg #[.int .i64 z, .int .i64 a]]) ∧
  (∀ w'' : World, (∀ k, w.heap.size ≤ k → k < w'.heap.size → w''.heap[k]? = w'.heap[k]?) → NodeC w'' n (patR (patM bigB d fo l)).1 ∧ NamesC w'' (.slice uo ul uc) (patR (patM bigB d fo l)).2.2) ∧ gr = ((patR (patM bigB d fo l)).2.1 : Nat) ∧ z = (patZ (patM bigB d fo l)).1 ∧ a = (patZ (patM bigB d fo l)).2 ∧ Below w.heap.size w w' := by
 refine (parse_fn (d := d) fo h hT hpos).mono ?_
 rintro e w' (⟨p, n, u, hR, rfl, hnc, hb⟩ | ⟨z, a, hR, rfl, hb⟩)
 ·obtain ⟨uo, uc, hu⟩ := (hnc w' (fun _ _ _ => rfl)).2.shape
  rw [hR]
  subst hu
  exact ⟨n, _, uo, _, uc, 0, 0, rfl, hnc, rfl, rfl, rfl, hb⟩
 ·rw [hR]
  exact ⟨nodeZ, 0, none, 0, 0, z, a, rfl, fun w'' _ => ⟨zero_node w'', .inl ⟨rfl, rfl⟩⟩, rfl, rfl, rfl, hb⟩
theorem patZ_ok {d : Int} {fo : Bool} {l : List Int} (h : (patZ (patM bigB d fo l)).1 = 0) : ∃ p, patM bigB d fo l = .ok p := by
 cases hR : patM bigB d fo l with
 | ok p => exact ⟨p, rfl⟩
 | error e =>
  rw [hR] at h
  exact absurd h (pat_at (z := e.1) (a := e.2) (by rw [hR])).1
end Go.Proofs.YtklbbbldalmnbaaGreatDoor.Pa
namespace Go.Proofs.YtklbbbldalmnbaaGreatDoor.Pa
open Go.RowKit
open TR (Tr NV NCells nvV nvO NodeC KidsC nv_cells)
open TK (Mv PatV)
open Br (BE PS givesF fauO fau_cells)
set_option linter.unusedVariables false
set_option maxRecDepth 100000
theorem pat_len {d : Int} {fo : Bool} {l : List Int} {p : Pt} (h : patM bigB d fo l = .ok p) : l.length ≤ 300 := by
 unfold patM at h
 split at h
 ·cases h
 ·rename_i hpe
  have hpe : TK.patE d l = 0 := by simpa using hpe
  unfold TK.patE at hpe
  split at hpe
  ·cases hpe
  ·split at hpe
   ·cases hpe
   ·omega
theorem pat_kids {d : Int} {fo : Bool} {l : List Int} {p : Pt} (h : patM bigB d fo l = .ok p) : p.tree.kids.length ≤ 600 := by
 have hl := pat_len h
 unfold patM at h
 split at h
 ·cases h
 ·rename_i hpe
  have hpe : TK.patE d l = 0 := by simpa using hpe
  unfold wholeM at h
  split at h
  ·cases h
  ·rename_i s0 h0
   have hA : InvA l {} := ⟨Nat.zero_le _, Nat.zero_le _, Nat.zero_le _, by decide, by decide⟩
   obtain ⟨i0, _, _, d0, _⟩ := adv_inv hpe hA h0
   split at h
   ·cases h
   ·rename_i t s hb
    have hg := branchesF_inv hpe 21 _ _ _ _ _ i0 rfl hb
    have hk := hg.kids
    have hp := hg.inv.inv.pos
    split at h
    ·cases h
    ·split at h
     ·cases h
     ·split at h
      ·cases h
      ·cases h
       rw [setT_kids, List.length_map]
       omega
def KidsIn (W : World) (n : NV) (X : List NV) : Prop := n.kl = X.length ∧ ((n.ka = none ∧ n.kl = 0 ∧ n.kc = 0) ∨ ∃ x, n.ka = some x ∧ ∀ j (hj : j < X.length), NCells W (x.add (j * 8)) X[j])
theorem split_node {W : World} {n : NV} {t : Tr} (h : NodeC W n t) : ∃ X : List NV, RowC W X (flatE [t]) ∧ ((n.kind = 10 ∧ KidsIn W n X) ∨ (n.kind ≠ 10 ∧ X = [n])) := by
 obtain ⟨k1, -, -, -, -, -, -, vs, hk, hkids⟩ := h.open
 rw [flatE_one]
 by_cases h10 : t.kind = 10
 ·rw [if_pos h10]
  refine ⟨(List.range t.kids.length).map vs, ⟨by simp, fun j hj hj' => ?_⟩, .inl ⟨k1 ▸ h10, ?_⟩⟩
  ·simp only [List.getElem_map, List.getElem_range]
   exact hkids j hj'
  ·refine ⟨by simp [hk.len], ?_⟩
   rcases hk with ⟨a, b, c, e⟩ | ⟨x, a, b, c, e⟩
   ·exact .inl ⟨a, b, c⟩
   ·refine .inr ⟨x, a, fun j hj => ?_⟩
    simp only [List.getElem_map, List.getElem_range]
    exact e j (by simpa using hj)
 ·rw [if_neg h10]
  refine ⟨[n], ⟨rfl, fun j hj hj' => ?_⟩, .inr ⟨fun e => h10 (k1.trans e), rfl⟩⟩
  have : j = 0 := by simpa using hj
  subst this
  exact h
theorem KidsIn.below {W W' : World} {n : NV} {X : List NV} (h : KidsIn W n X) (hb : Below W.heap.size W W') : KidsIn W' n X := by
 refine ⟨h.1, ?_⟩
 rcases h.2 with h | ⟨x, h1, h2⟩
 ·exact .inl h
 ·exact .inr ⟨x, h1, fun j hj => (h2 j hj).below hb⟩
theorem one_in (W : World) (n : NV) : ∀ j (hj : j < [n].length), NCells (W.alloc (nvO n)) ((⟨W.heap.size, 0, none⟩ : Addr).add (j * 8)) [n][j] := by
 intro j hj
 have : j = 0 := by simpa using hj
 subst this
 exact nv_cells (TK.at_new _ _)
theorem flatE_len {t : Tr} (h : t.kids.length ≤ 600) : (flatE [t]).length ≤ 600 := by
 rw [flatE_one]
 split
 ·exact h
 ·simp
def upX (X1 X2 : List NV) : Nat → List NV
 | 0 => []
 | 1 => X1
 | _ => X1 ++ X2
theorem both_trees {fo : Bool} {a b : List Int} (h1 : 0 = (patZ (patM bigB 1 fo a)).1) (h2 : 0 = (patZ (patM bigB 1 fo b)).1) (ha : (40 : Int) ∉ a) (hb : (40 : Int) ∉ b) (hl : a.length + b.length < 300) :
  ∃ t1 t2, (patR (patM bigB 1 fo a)).1 = t1 ∧ (patR (patM bigB 1 fo b)).1 = t2 ∧ (patR (patM bigB 1 fo (a ++ [124] ++ b))).1 = .mk 10 0 0 0 0 false [] (flatE [t1] ++ flatE [t2]) ∧ (patZ (patM bigB 1 fo (a ++ [124] ++ b))).1 = 0 ∧ t1.kids.length ≤ 600 ∧ t2.kids.length ≤ 600 ∧ Sm (.mk 10 0 0 0 0 false [] (flatE [t1] ++ flatE [t2])) := by
 obtain ⟨p, hp⟩ := patZ_ok h1.symm
 obtain ⟨q, hq⟩ := patZ_ok h2.symm
 obtain ⟨r, hr, ht⟩ := bars_pat (fun x hx e => ha (e ▸ hx)) (fun x hx e => hb (e ▸ hx)) hl hp hq
 have e : a ++ [124] ++ b = a ++ 124 :: b := by simp
 rw [e, hr, hp, hq]
 refine ⟨p.tree, q.tree, rfl, rfl, ht, rfl, pat_kids hp, pat_kids hq, ?_⟩
 rw [← ht]
 exact pat_sm hr
end Go.Proofs.YtklbbbldalmnbaaGreatDoor.Pa
