/- Bracket expressions of single points: no program. -/
import Derived.Test.YtpggffmfeahhaaaGreatDoorKM
import Derived.Test.YtpggffmfeahhaaaGreatDoorBbg
import Derived.Test.YtpggffmfeahhaaaGreatDoorLH
import Derived.Deep.Onto
import Derived.Maps.AppendAt
namespace Go.Proofs.YtpggffmfeahhaaaGreatDoor.Br
set_option linter.unusedVariables false

variable {P : Par}
theorem isAt_ne {l : List Int} {i : Nat} {q c : Int} {cs : List Int} (h : l[i]? = some q) (hc : q ≠ c) : isAt l i (c :: cs) = false := by
  obtain ⟨hi, rfl⟩ := List.getElem?_eq_some_iff.1 h
  unfold isAt
  rw [List.drop_eq_getElem_cons hi, List.length_cons, List.take_succ_cons, Bool.eq_false_iff]
  intro hh
  have h1 := eq_of_beq hh
  injection h1 with h1 _
  exact hc h1
theorem isAt_one {l : List Int} {i : Nat} {q : Int} (h : l[i]? = some q) : isAt l i [q] = true := by
  obtain ⟨hi, rfl⟩ := List.getElem?_eq_some_iff.1 h
  unfold isAt
  rw [List.drop_eq_getElem_cons hi, List.length_cons, List.take_succ_cons, List.length_nil, List.take_zero]
  exact beq_self_eq_true _
/-- none of the signs that mean something in an expression. -/
def plainC (q : Int) : Prop := q ≠ 91 ∧ q ≠ 92 ∧ q ≠ 93 ∧ q ≠ 94 ∧ q ≠ 38 ∧ q ≠ 45
theorem item_plain {rec : List Int → Nat → Nat → Except BE (PS × Nat)} {l : List Int} {i deep : Nat} {q r : Int} (h : l[i]? = some q) (hq : plainC q) (h1 : l[i + 1]? = some r) (hr : r ≠ 45) : itemE P rec l i deep = .ok (fun x => decide (q ≤ x) && decide (x ≤ q), i + 1) := by
  have c1 : isCls l i = false := isAt_ne h hq.1
  have c2 : isIn P l i = false := by unfold isIn; rw [isAt_ne h hq.1]; simp
  have c3 : isAt l i [92] = false := isAt_ne h hq.2.1
  have c4 : isRng l (i + 1) = false := by unfold isRng; rw [isAt_ne h1 hr]; rfl
  unfold itemE
  rw [c1, c2]
  simp [wordE, h, c3, c4]
theorem items_plain {rec : List Int → Nat → Nat → Except BE (PS × Nat)} {qs rest : List Int} (hq : ∀ q ∈ qs, plainC q) (hne : 0 < qs.length) (deep : Nat) : ∀ (n i : Nat) (acc : PS), i ≤ qs.length → qs.length - i < n → itemsE P rec (qs ++ 93 :: rest) 0 deep n i acc = .ok (fun x => acc x || (qs.drop i).any (fun q => decide (q ≤ x) && decide (x ≤ q)), qs.length)
  | 0, i, acc, hi, hn => absurd hn (by omega)
  | n + 1, i, acc, hi, hn => by
    unfold itemsE
    by_cases he : i = qs.length
    · subst he
      have hg : (qs ++ 93 :: rest)[qs.length]? = some 93 := by simp
      have hp : partEnd P (qs ++ 93 :: rest) 0 qs.length = true := by
        unfold partEnd
        rw [isAt_one hg, decide_eq_true (show qs.length ≠ 0 by omega)]
        rfl
      rw [if_pos hp]
      simp
    · have hlt : i < qs.length := by omega
      have hg : (qs ++ 93 :: rest)[i]? = some qs[i] := by rw [List.getElem?_append_left hlt]; simp [hlt]
      have hpl := hq _ (List.getElem_mem hlt)
      have hp : partEnd P (qs ++ 93 :: rest) 0 i = false := by
        unfold partEnd isAnd
        rw [isAt_ne hg hpl.2.2.1, isAt_ne hg hpl.2.2.2.2.1]
        simp
      obtain ⟨r, hr, hr45⟩ : ∃ r, (qs ++ 93 :: rest)[i + 1]? = some r ∧ r ≠ 45 := by
        by_cases h2 : i + 1 < qs.length
        · exact ⟨qs[i + 1], by rw [List.getElem?_append_left h2]; simp [h2], (hq _ (List.getElem_mem h2)).2.2.2.2.2⟩
        · have e : i + 1 = qs.length := by omega
          exact ⟨93, by rw [e]; simp, by decide⟩
      rw [if_neg (by rw [hp]; decide), item_plain hg hpl hr hr45]
      simp only
      rw [items_plain hq hne deep n (i + 1) _ (by omega) (by omega)]
      congr 2
      funext x
      rw [List.drop_eq_getElem_cons hlt, List.any_cons, Bool.or_assoc]
/-- an expression of single points has these, and no others. -/
theorem expr_plain {n : Nat} {qs rest : List Int} (hf : P.folded = false) (hq : ∀ q ∈ qs, plainC q) (hne : 0 < qs.length) : exprF P (n + 1) (qs ++ 93 :: rest) 0 0 = .ok (fun x => qs.any (fun q => decide (q ≤ x) && decide (x ≤ q)), qs.length + 1) := by
  have h0 : (qs ++ 93 :: rest)[0]? = some qs[0] := by rw [List.getElem?_append_left hne]; simp [hne]
  have hp0 := hq _ (List.getElem_mem hne)
  have hg : (qs ++ 93 :: rest)[qs.length]? = some 93 := by simp
  have hpart : partE P (exprF P n) (qs ++ 93 :: rest) 0 0 0 = .ok (fun x => qs.any (fun q => decide (q ≤ x) && decide (x ≤ q)), qs.length) := by
    unfold partE
    rw [items_plain hq hne 0 _ 0 _ (by omega) (by simp; omega)]
    simp only
    rw [if_neg (by omega), hf]
    simp
  unfold exprF exprG
  rw [if_neg (by rw [isAt_ne h0 hp0.2.2.2.1]; decide)]
  unfold bodyE
  rw [hpart]
  simp only
  have hand : isAnd P (qs ++ 93 :: rest) qs.length = false := by unfold isAnd; rw [isAt_ne hg (by decide)]; simp
  have hm : ∀ m, andsE P (exprF P n) (qs ++ 93 :: rest) 0 0 m qs.length (fun x => qs.any (fun q => decide (q ≤ x) && decide (x ≤ q))) = .ok (fun x => qs.any (fun q => decide (q ≤ x) && decide (x ≤ q)), qs.length) := fun m => by
    cases m with
    | zero => rfl
    | succ m => unfold andsE; rw [hand]; simp
  rw [hm]
  simp only [isAt_one hg, if_true]
end Go.Proofs.YtpggffmfeahhaaaGreatDoor.Br
/- BracketOnes: what its walk needs. -/
namespace Go.Proofs.YtpggffmfeahhaaaGreatDoor.Br
open Go.RowKit
open TK (Mv PatV byteA add_block peel)
set_option linter.unusedVariables false
set_option maxRecDepth 100000
variable {w w' : World}

/-- a letter or a digit. -/
def leafC (q : Int) : Prop := (48 ≤ q ∧ q ≤ 57) ∨ (65 ≤ q ∧ q ≤ 90) ∨ (97 ≤ q ∧ q ≤ 122)
theorem leaf_plain {q : Int} (h : leafC q) : plainC q := by unfold leafC at h; unfold plainC; omega
theorem leaf_pt {q : Int} (h : leafC q) : 0 ≤ q ∧ q ≤ 1114111 := by unfold leafC at h; omega
def ones (Q : List Int) : RL := Q.map fun q => (q, q)
def onesF (Q : List Int) : PS := fun x => Q.any fun q => decide (q ≤ x) && decide (x ≤ q)
theorem ones_ins (Q : List Int) (x : Int) : ins (ones Q) x = onesF Q x := by simp [ins, ones, onesF, List.any_map, Function.comp_def]
theorem ones_mem (Q : List Int) (x : Int) : onesF Q x = decide (x ∈ Q) := by
  rw [Bool.eq_iff_iff, decide_eq_true_iff]
  simp only [onesF, List.any_eq_true, Bool.and_eq_true, decide_eq_true_eq]
  constructor
  · rintro ⟨q, hq, h1, h2⟩; rw [show x = q by omega]; exact hq
  · intro h; exact ⟨x, h, Int.le_refl _, Int.le_refl _⟩
theorem ones_set {Q : List Int} (hq : ∀ q ∈ Q, leafC q) : ∃ S, IsSet (onesF Q) S ∧ S.length ≤ Q.length := by
  obtain ⟨P, hP⟩ : ∃ P, P = (ones Q).mergeSort (fun a b => decide (a.1 ≤ b.1)) := ⟨_, rfl⟩
  have hperm : P.Perm (ones Q) := by rw [hP]; exact List.mergeSort_perm _ _
  have hs : P.Pairwise (fun a b => a.1 ≤ b.1) := by
    have := List.pairwise_mergeSort (le := fun (a b : Int × Int) => decide (a.1 ≤ b.1)) (fun a b c h1 h2 => by simp at h1 h2 ⊢; omega) (fun a b => by simp; omega) (ones Q)
    rw [← hP] at this
    exact this.imp fun h => by simpa using h
  have hok : ∀ r ∈ P, okR r := by
    intro r hr
    have := hperm.mem_iff.1 hr
    simp only [ones, List.mem_map] at this
    obtain ⟨q, hqm, rfl⟩ := this
    have := leaf_pt (hq q hqm)
    unfold okR
    simp only
    omega
  obtain ⟨j1, j2⟩ := join_spec hok hs
  refine ⟨joinL P, isSet_congr (isSet_self j1) fun q _ _ => by rw [j2, ins_perm hperm, ones_ins], ?_⟩
  have := foldl_join_len P P.length
  rw [List.take_of_length_le (Nat.le_refl _)] at this
  have e : P.length = Q.length := by rw [hperm.length_eq]; simp [ones]
  show (P.foldl joinStep []).length ≤ _
  omega
theorem ones_parse {d : Int} {Q : List Int} (hd : d = 1 ∨ d = 2 ∨ d = 3) (hq : ∀ q ∈ Q, leafC q) (hne : 0 < Q.length) (hl : Q.length ≤ 60) : parseM d false (Q ++ [93]) 0 = .ok (onesF Q, Q.length + 1) := by
  unfold parseM
  have hp : TK.patE d (Q ++ [93]) = 0 := by
    unfold TK.patE
    rw [if_neg (by omega), if_neg (by simp; omega), if_pos (List.all_eq_true.2 fun p hp => by
      rcases List.mem_append.1 hp with h | h
      · have := leaf_pt (hq p h); simp [TK.pointB]; omega
      · simp at h; subst h; decide)]
  rw [if_neg (by simp [hp]), if_neg (by simp; omega)]
  unfold readM
  rw [show (0 : Int).toNat = 0 from rfl, expr_plain (P := par d false) (n := 20) (qs := Q) (rest := []) rfl (fun q h => leaf_plain (hq q h)) hne]
  obtain ⟨S, h1, h2⟩ := ones_set hq
  have hm : manyB (onesF Q) = false := by rw [many_of h1]; simp; omega
  show (if manyB (onesF Q) then _ else _) = _
  rw [hm]
  rfl
theorem kind_parse {d : Int} {l : List Int} (hd : ¬ (d = 1 ∨ d = 2 ∨ d = 3)) : parseM d false l 0 = .error (7, 0) := by
  unfold parseM
  have : TK.patE d l = 7 := by unfold TK.patE; rw [if_pos (by omega)]
  rw [this]
  rfl
/-- append to a row of one's own, whose old value is read on. -/
theorem app_in (W : World) (B g n c : Nat) (l : List Int) (hn : n = l.length) (hl : n ≤ 1000) (hB : B ≤ W.heap.size) (ho : W.ownsRow B 3 1 (.slice (some ⟨g, 0, none⟩) n c) n (i64s l)) (q : Int) :
    ∃ v' w', (Builtin.append_ #[22, 22] 22 #[.slice (some ⟨g, 0, none⟩) n c, .slice (some ⟨W.heap.size, 0, none⟩) 1 1]).run Tryz.prog (W.alloc (.cells #[.int .i64 q] 3)) = .ok v' w' ∧ w'.ownsRow B 3 1 v' (n + 1) (i64s l ++ [.int .i64 q]) ∧ (W.alloc (.cells #[.int .i64 q] 3)).grownBy w' (some g) ∧ Below B W w' ∧ ∀ j (h : j < l.length), w'.cell? ⟨g, j, none⟩ = some (.int .i64 l[j]) := by
  obtain ⟨i0, hi, hz0, hz1, hz2⟩ := info_parts infoI
  have hnews : ∀ j u, [Value.int .i64 q][j]? = some u → (W.alloc (.cells #[.int .i64 q] 3)).cell? ((⟨W.heap.size, 0, none⟩ : Addr).add j) = some u := by
    intro j u hu
    match j, hu with
    | 0, hu =>
      simp at hu
      rw [show (⟨W.heap.size, 0, none⟩ : Addr).add 0 = ⟨W.heap.size, 0, none⟩ from rfl, World.cell?_alloc_at _ _ _ _ (by simp), ← hu]
      rfl
    | j + 1, hu => simp at hu
  have hone : ∀ u ∈ [Value.int .i64 q], u.oneCell' = true := by simp [Value.oneCell']
  obtain ⟨v', w', hr, ho', hg, -⟩ := run_append_own (P := Tryz.prog) (W.alloc (.cells #[.int .i64 q] 3)) B 22 22 3 i0 _ 1 8 Tryz.underlying22 hi hz0 hz1 hz2 rfl (by decide) (.slice (some ⟨g, 0, none⟩) n c) n (i64s l) (ho.alloc _) ⟨W.heap.size, 0, none⟩ 1 1 [.int .i64 q] rfl hnews hone (by unfold maxLen; omega) (by omega) (by simp; omega)
  have hoa := ho.alloc (.cells #[.int .i64 q] 3)
  have hC : Came (W.alloc (.cells #[.int .i64 q] 3)) 1 (some ⟨g, 0, none⟩) g 0 n c (i64s l) := by
    rcases id hoa.2 with ⟨h0, _⟩ | ⟨g', cap, cur, hv, hg', hh, hn', hm, hs, ht⟩
    · cases h0
    cases hv
    refine ⟨hn', fun _ => rfl, fun _ => lt_of_block hh, by simp [i64s, hn], fun j u hu => ?_, fun j hj => ?_⟩
    · rw [Nat.zero_add, hoa.cellAt j (by have := (List.getElem?_eq_some_iff.1 hu).1; simp [i64s] at this; omega)]
      exact hu
    · refine ⟨?_, ?_⟩
      · unfold World.cell?
        simp only
        rw [hh]
        simp
        omega
      · unfold World.frozen?
        simp only
        rw [hh]
        simp
  obtain ⟨v2, w2, hr2, hon⟩ := run_append_onto (P := Tryz.prog) hC 22 22 i0 _ 8 Tryz.underlying22 hi hz0 hz1 hz2 rfl (by decide) (Onto.start hC) ⟨W.heap.size, 0, none⟩ 1 [.int .i64 q] rfl hnews hone (by unfold maxLen; omega) (by omega)
  rw [hr] at hr2
  cases hr2
  refine ⟨v', w', hr, ho', hg, ((Below.refl B W).alloc hB _).grown hg (by simp; omega) (fun k hk => (ho.lt k hk).1), fun j hj => ?_⟩
  have hlt : g < (W.alloc (.cells #[.int .i64 q] 3)).heap.size := (hoa.lt g rfl).2
  rw [hon.old hlt (fun j' h1 h2 ⟨_, h3⟩ => by omega), hoa.cellAt j (by omega)]
  simp [i64s, hj]
/-- a row of another kind is left alone. -/
theorem own_other {B e1 e2 k1 k2 n1 n2 : Nat} {v1 v2 : Value} {xs1 xs2 : List Value} {o : Obj} (h1 : w.ownsRow B e1 k1 v1 n1 xs1) (h2 : w.ownsRow B e2 k2 v2 n2 xs2) (he : e1 ≠ e2) (hg : (w.alloc o).grownBy w' v1.ownBlock) : w'.ownsRow B e2 k2 v2 n2 xs2 := by
  refine ⟨h2.1, ?_⟩
  rcases id h2.2 with h | ⟨g, cap, cur, rfl, hb, hh, hn, hm, hs, ht⟩
  · exact .inl h
  · refine .inr ⟨g, cap, cur, rfl, hb, ?_, hn, hm, hs, ht⟩
    rw [hg.block g (by have := lt_of_block hh; simp; omega) ?_, Below.heap_alloc _ _ _ (lt_of_block hh)]
    · exact hh
    · intro e
      rcases id h1.2 with ⟨rfl, _⟩ | ⟨g1, cap1, cur1, rfl, hb1, hh1, _⟩
      · cases e
      · simp only [Value.ownBlock, Option.some.injEq] at e
        subst e
        rw [hh] at hh1
        cases hh1
        exact he rfl
set_option maxHeartbeats 2000000 in
theorem choose_any (z : Int) (h0 : -9223372036854775808 ≤ z) (h1 : z ≤ 9223372036854775807) (w : World) : Calls Tryz.prog 10 #[.int .i64 z, .int .i64 62] w fun e w' => ∃ c : Int, e = .returned (.int .i64 c) ∧ 0 ≤ c ∧ c < 62 ∧ w = w' := by
  by_cases hz : z < 0
  · go_enter Tryz.func10, Tryz.ntmps10
    go_wp2
    go_ret
    have e : -(z + 1).tmod 62 = (-(z + 1)) % 62 := by rw [← Int.neg_tmod, Int.tmod_eq_emod_of_nonneg (by omega)]
    exact ⟨_, rfl, by rw [e]; omega, by rw [e]; omega, rfl⟩
  · go_enter Tryz.func10, Tryz.ntmps10
    go_wp2
    go_ret
    exact ⟨_, rfl, by omega, by omega, rfl⟩
set_option maxHeartbeats 2000000 in
theorem hasInt_any (v : Value) (l : List Int) (p : Int) (w : World) (hv : PatV w v l) (hl : l.length ≤ 1000000) : Calls Tryz.prog 14 #[v, .int .i64 p] w fun e w' => e = .returned (.bool (decide (p ∈ l))) ∧ w = w' := by
  by_cases h0 : l.length = 0
  · obtain rfl : l = [] := List.eq_nil_of_length_eq_zero h0
    obtain ⟨ao, c, hvv⟩ := hv.shape
    have hvv : v = .slice ao 0 c := hvv
    rw [hvv]
    clear hv hvv h0 hl
    go_enter Tryz.func14, Tryz.ntmps14
    go_wp2
    go_loop [5] (fun i => i = .int .i64 0) (fun i => 0)
    case atStart => exact rfl
    case round =>
      subst hrel
      go_wp2
      go_ret
      exact ⟨rfl, rfl⟩
  · obtain ⟨x, c, rfl, hcap, hc⟩ := hv.some (by omega)
    obtain ⟨n, hn⟩ : ∃ n, n = l.length := ⟨_, rfl⟩
    have HC := hide hc
    have HN := hide hn
    rw [← hn] at hl hcap ⊢
    clear hc hn hv h0
    go_enter Tryz.func14, Tryz.ntmps14
    go_wp2
    go_loop [5] (fun i => ∃ k : Nat, k ≤ n ∧ i = .int .i64 k ∧ p ∉ l.take k) (fun i => n - (intOf i).toNat)
    case atStart => exact ⟨0, Nat.zero_le _, rfl, by simp⟩
    case round =>
      obtain ⟨k, hk, rfl, hf⟩ := hrel
      have HF := hide hf
      clear hf
      by_cases hlt : k < n
      · have hkl : k < l.length := by have := HN.out; omega
        have c1 := HC.out k hkl
        have HM : Hid (l[k] ∈ l) := List.getElem_mem hkl
        have HT : Hid (l.take (k + 1) = l.take k ++ [l[k]]) := by show _ = _; rw [List.take_add_one, List.getElem?_eq_getElem hkl]; rfl
        obtain ⟨r, hr⟩ : ∃ r, r = l[k] := ⟨_, rfl⟩
        rw [← hr] at c1 HM HT
        clear hr hkl
        by_cases hrp : r = p
        · have q1 : (r == p) = true := by simpa using hrp
          have HRP := hide hrp
          clear hrp
          go_wp2
          go_ret
          exact ⟨ret_bool (by rw [← HRP.out]; simp [HM.out]), rfl⟩
        · have q1 : (r == p) = false := by simpa using hrp
          have HRP := hide hrp
          clear hrp
          go_wp2
          go_round
          case rel => exact ⟨k + 1, by omega, by go_num, by rw [HT.out]; simp [HF.out, Ne.symm HRP.out]⟩
          case measure => simp [intOf]; omega
      · have HE : Hid (p ∉ l) := by
          have := HF.out
          rw [List.take_of_length_le (by have := HN.out; omega)] at this
          exact this
        go_wp2
        go_ret
        exact ⟨ret_bool (by simp [HE.out]), rfl⟩
end Go.Proofs.YtpggffmfeahhaaaGreatDoor.Br
