import Derived.Test.YtaccofiegkdlgaaGreatDoorKC
import Derived.Test.YtaccofiegkdlgaaGreatDoorKP
namespace Go.Proofs.YtaccofiegkdlgaaGreatDoor
set_option maxHeartbeats 1000000
set_option maxRecDepth 100000
open Go.RowKit
set_option linter.unusedVariables false
theorem all_take_succ {L : RL} {k : Nat} (hk : k < L.length) (h : ∀ r ∈ L.take k, okR r) (hr : okR L[k]) : ∀ r ∈ L.take (k + 1), okR r := by
 intro r h1
 rw [List.take_add_one, List.getElem?_eq_getElem hk] at h1
 rcases List.mem_append.1 h1 with h1 | h1
 ·exact h r h1
 ·simp at h1; rw [h1]; exact hr
theorem rightE_no {L : RL} {r : Int × Int} (hl : L.length ≤ 400) (hr : r ∈ L) (hn : ¬ okR r) : rightE L = 3 := by
 unfold rightE
 rw [if_neg (by omega), if_neg]
 rw [List.all_eq_true]
 intro h
 exact hn ((okB_iff r).1 (h r hr))
theorem checkRanges_any (v : Value) (L : RL) (w : World) (hv : Reads w v L) : Calls Tryz.prog 119 #[v] w fun e w' => e = .returned (.int .i64 (rightE L)) ∧ Below w.heap.size w w' := by
 by_cases hl : 400 < L.length
 ·have hE : Hid (rightE L = 2) := by show _ = _; simp [rightE, hl]
  obtain ⟨ao, c, rfl⟩ := hv.shape
  clear hv
  obtain ⟨n, hn⟩ : ∃ n, n = L.length := ⟨_, rfl⟩
  rw [← hn] at hl ⊢
  go_enter Tryz.func119, Tryz.ntmps119
  go_wp2
  go_ret
  exact ⟨ret_int hE.out.symm, by go_grown⟩
 ·rcases hv with ⟨rfl, rfl⟩ | ⟨x, c, rfl, hc⟩
  ·go_enter Tryz.func119, Tryz.ntmps119
   go_wp2
   go_loop [10] (fun i => i = .int .i64 0) (fun i => 0)
   case atStart => exact rfl
   case round =>
    subst hrel
    go_wp2
    go_ret
    exact ⟨rfl, by go_grown⟩
  ·obtain ⟨n, hn⟩ : ∃ n, n = L.length := ⟨_, rfl⟩
   have HC := hide hc
   have HN := hide hn
   rw [← hn] at hl ⊢
   clear hc hn
   go_enter Tryz.func119, Tryz.ntmps119
   go_wp2
   go_loopw [10] (fun i wr => ∃ k : Nat, k ≤ n ∧ i = .int .i64 k ∧ (∀ r ∈ L.take k, okR r) ∧ Below w.heap.size w wr) (fun i _ => n - (intOf i).toNat)
   case atStart => exact ⟨0, Nat.zero_le _, rfl, by simp, Below.refl _ _⟩
   case round =>
    obtain ⟨k, hk, rfl, hok, hb⟩ := hrel
    have hok := hide hok
    by_cases hlt : k < n
    ·have hkL : k < L.length := by have := HN.out; omega
     obtain ⟨c1, c2⟩ := (HC.out.below hb) k hkL
     obtain ⟨r, hr⟩ : ∃ r, r = L[k] := ⟨_, rfl⟩
     rw [← hr] at c1 c2
     have HR := hide hr
     obtain ⟨a, b⟩ := r
     simp only at c1 c2
     clear hr
     by_cases hab : okR (a, b)
     ·have hab' := hab
      unfold okR at hab'
      simp only at hab'
      obtain ⟨h0, h1, h2⟩ := hab'
      have HAB := hide hab
      clear hab
      go_wp2_with (first | (go_at_call 16; refine (is_any _ _).mono ?_; rintro e w' ⟨rfl, rfl⟩))
      go_roundw
      case rel => exact ⟨k + 1, by omega, by go_num, all_take_succ hkL hok.out (by rw [← HR.out]; exact HAB.out), hb.alloc (by exact hb.size) _⟩
      case measure => simp [intOf]; omega
     ·have hE : Hid (rightE L = 3) := rightE_no (by have := HN.out; omega) (r := (a, b)) (by rw [HR.out]; exact List.getElem_mem _) hab
      unfold okR at hab
      simp only at hab
      by_cases h1 : 0 ≤ a ∧ a ≤ 1114111
      ·by_cases h2 : 0 ≤ b ∧ b ≤ 1114111
       ·have h3 : b < a := by omega
        clear hab
        go_wp2_with (first | (go_at_call 16; refine (is_any _ _).mono ?_; rintro e w' ⟨rfl, rfl⟩))
        go_ret
        exact ⟨ret_int hE.out.symm, hb.alloc (by exact hb.size) _⟩
       ·have hd : decide (0 ≤ b ∧ b ≤ 1114111) = false := by simpa using h2
        have HI := hide (fun w => is_any b w)
        rw [hd] at HI
        clear hab h2 hd
        go_wp2_with (first | (go_at_call 16; first | (refine (HI.out _).mono ?_; rintro e w' ⟨rfl, rfl⟩) | (refine (is_any _ _).mono ?_; rintro e w' ⟨rfl, rfl⟩)))
        go_ret
        exact ⟨ret_int hE.out.symm, hb.alloc (by exact hb.size) _⟩
      ·have hd : decide (0 ≤ a ∧ a ≤ 1114111) = false := by simpa using h1
       have HI := hide (fun w => is_any a w)
       rw [hd] at HI
       clear hab h1 hd
       go_wp2_with (first | (go_at_call 16; refine (HI.out _).mono ?_; rintro e w' ⟨rfl, rfl⟩))
       go_ret
       exact ⟨ret_int hE.out.symm, hb.alloc (by exact hb.size) _⟩
    ·have hkn : k = n := by omega
     have hE : Hid (rightE L = 0) := by
      have h := hok.out
      rw [hkn, HN.out, List.take_length] at h
      exact rightE_ok.2 ⟨by have := HN.out; omega, h⟩
     go_wp2
     go_ret
     exact ⟨ret_int hE.out.symm, hb⟩
end Go.Proofs.YtaccofiegkdlgaaGreatDoor
namespace Go.Proofs.YtaccofiegkdlgaaGreatDoor
set_option maxHeartbeats 4000000
open Go.RowKit
set_option linter.unusedVariables false
theorem checkE_bad {L : RL} (h : rightE L ≠ 0) : checkE L = rightE L := by unfold checkE; rw [if_neg h]
theorem checkE_no {L : RL} {j : Nat} (h : rightE L = 0) (hj : j + 1 < L.length) (hn : ¬ L[j].2 + 1 < L[j + 1].1) : checkE L = 4 := by
 unfold checkE
 rw [if_pos h, if_neg]
 rw [chainB_iff]
 exact fun hc => hn (hc j hj)
theorem checkE_yes {L : RL} (h : rightE L = 0) (hc : ∀ j (h : j + 1 < L.length), L[j].2 + 1 < L[j + 1].1) : checkE L = 0 := by
 unfold checkE
 rw [if_pos h, if_pos ((chainB_iff L).2 hc)]
theorem check_any (v : Value) (L : RL) (w : World) (hv : Reads w v L) : Calls Tryz.prog 100 #[v] w fun e w' => e = .returned (.int .i64 (checkE L)) ∧ Below w.heap.size w w' := by
 have H := hide (checkRanges_any v L w hv)
 by_cases hr : rightE L = 0
 ·rw [hr] at H
  obtain ⟨hlen, hok⟩ := rightE_ok.1 hr
  have HR := hide hr
  have HO := hide hok
  clear hr hok
  rcases hv with ⟨rfl, rfl⟩ | ⟨x, c, rfl, hc⟩
  ·go_enter Tryz.func100, Tryz.ntmps100
   go_wp2_with fail
   refine H.out.mono ?_
   rintro e w1 ⟨rfl, hb1⟩
   clear H
   go_wp2
   go_loopw [4] (fun i wr => i = .int .i64 1 ∧ w1 = wr) (fun i _ => 0)
   case atStart => exact ⟨rfl, rfl⟩
   case round =>
    obtain ⟨rfl, rfl⟩ := hrel
    go_wp2
    go_ret
    exact ⟨ret_int rfl, hb1⟩
  ·obtain ⟨n, hn⟩ : ∃ n, n = L.length := ⟨_, rfl⟩
   have HC := hide hc
   have HN := hide hn
   rw [← hn] at hlen H ⊢
   clear hc hn
   go_enter Tryz.func100, Tryz.ntmps100
   go_wp2_with fail
   refine H.out.mono ?_
   rintro e w1 ⟨rfl, hb1⟩
   clear H
   go_wp2
   go_loopw [4] (fun i wr => ∃ k : Nat, k ≤ n ∧ i = .int .i64 (k + 1) ∧ (∀ j (h : j + 1 < L.length), j < k → L[j].2 + 1 < L[j + 1].1) ∧ Below w.heap.size w wr) (fun i _ => n + 1 - (intOf i).toNat)
   case atStart => exact ⟨0, Nat.zero_le _, rfl, fun j h hj => by omega, hb1⟩
   case round =>
    obtain ⟨k, hk, rfl, hch, hb⟩ := hrel
    have HCh := hide hch
    clear hch
    by_cases hlt : k + 1 < n
    ·have hkL : k + 1 < L.length := by have := HN.out; omega
     have hkL' : k < L.length := by omega
     obtain ⟨c1, c2⟩ := (HC.out.below hb) (k + 1) hkL
     obtain ⟨c3, c4⟩ := (HC.out.below hb) k hkL'
     have hr1 := HO.out L[k] (List.getElem_mem _)
     unfold okR at hr1
     obtain ⟨b, hb'⟩ : ∃ b, b = L[k].2 := ⟨_, rfl⟩
     obtain ⟨a, ha'⟩ : ∃ a, a = L[k + 1].1 := ⟨_, rfl⟩
     rw [← ha'] at c1
     rw [← hb'] at c4 hr1
     have HA := hide ha'
     have HB := hide hb'
     obtain ⟨_, hr2, hr3⟩ := hr1
     have hr4 : 0 ≤ b := by omega
     clear c2 c3 ha' hb' hr2
     have e1 : (k : Int) + 1 < (n : Int) := by omega
     have e2 : (k : Int) < (n : Int) := by omega
     have e0 : (0 : Int) ≤ (k : Int) := by omega
     have c1' : wr.cell? (x.add ((k + 1) * 2)) = some (.int .i64 a) := c1
     have wb : IntKind.i64.wrap (b + 1) = b + 1 := by rw [IntKind.wrap_i64]; omega
     by_cases hab : a ≤ b + 1
     ·have hE : Hid (checkE L = 4) := checkE_no HR.out hkL (by rw [← HA.out, ← HB.out]; omega)
      go_wp2
      go_quiet (fail)
      go_wp2
      go_ret
      exact ⟨ret_int hE.out.symm, below_drewN hb _⟩
     ·have HNab := hide hab
      have hd : decide (a ≤ b + 1) = false := by simpa using hab
      clear hab
      go_wp2
      go_quiet (fail)
      go_wp2
      go_roundw
      case rel => exact ⟨k + 1, by omega, by go_num, fun j h hj => by
       by_cases hjk : j = k
       ·subst hjk; rw [← HA.out, ← HB.out]; have := HNab.out; omega
       ·exact HCh.out j h (by omega), below_drewN hb _⟩
      case measure => simp [intOf]; omega
    ·have hE : Hid (checkE L = 0) := checkE_yes HR.out fun j h => HCh.out j h (by have := HN.out; omega)
     go_wp2
     go_ret
     exact ⟨ret_int hE.out.symm, hb⟩
 ·have hE : Hid (checkE L = rightE L) := checkE_bad hr
  clear hv
  obtain ⟨z, hz⟩ : ∃ z, z = rightE L := ⟨_, rfl⟩
  rw [← hz] at hr H hE
  clear hz
  go_enter Tryz.func100, Tryz.ntmps100
  go_wp2_with fail
  refine H.out.mono ?_
  rintro e w1 ⟨rfl, hb1⟩
  go_wp2
  go_ret
  exact ⟨ret_int hE.out.symm, hb1⟩
end Go.Proofs.YtaccofiegkdlgaaGreatDoor
namespace Go.Proofs.YtaccofiegkdlgaaGreatDoor
set_option maxHeartbeats 4000000
open Go.RowKit
set_option linter.unusedVariables false
def chkL : List (Value × RL) → Int
 | [] => 0
 | x :: xs => if checkE x.2 = 0 then chkL xs else checkE x.2
theorem chkL_zero {vs : List (Value × RL)} : chkL vs = 0 ↔ ∀ x ∈ vs, checkE x.2 = 0 := by
 induction vs with
 | nil => simp [chkL]
 | cons x xs ih =>
  unfold chkL
  split
  ·rename_i h; rw [ih]; simp [h]
  ·rename_i h; simp [h]
theorem chkL_first : ∀ {vs : List (Value × RL)} {k : Nat} (hk : k < vs.length), (∀ x ∈ vs.take k, checkE x.2 = 0) → checkE vs[k].2 ≠ 0 → chkL vs = checkE vs[k].2 := by
 intro vs
 induction vs with
 | nil => intro k hk; simp at hk
 | cons x xs ih =>
  intro k hk h1 h2
  match k with
  | 0 => unfold chkL; rw [List.getElem_cons_zero] at h2 ⊢; rw [if_neg h2]
  | k + 1 =>
   unfold chkL
   rw [if_pos (h1 x (by simp))]
   exact ih (by simpa using hk) (fun y hy => h1 y (by simp [hy])) h2
def Made (f : Int → Bool) (c err : Int) (O : RL) : Prop := (c ≠ 0 ∧ err = c ∧ O = []) ∨ (c = 0 ∧ ∃ S, IsSet f S ∧ ((S.length ≤ 400 ∧ err = 0 ∧ O = S) ∨ (400 < S.length ∧ err = 2 ∧ O = [])))
theorem own_reads {B : Nat} {w : World} {v : Value} {L : RL} (h : w.ownsRow B 66 2 v L.length (cells2 L)) : Reads w v L := by
 rcases h.2 with ⟨rfl, h0⟩ | ⟨g, cap, cur, rfl, h3⟩
 ·exact .inl ⟨rfl, List.eq_nil_of_length_eq_zero h0⟩
 ·refine .inr ⟨⟨g, 0, none⟩, cap, rfl, fun j hj => ?_⟩
  obtain ⟨h1, h2⟩ := cells2_get L j hj
  have e1 : ((⟨g, 0, none⟩ : Addr).add (j * 2)) = ⟨g, j * 2, none⟩ := by unfold Addr.add; split <;> simp_all
  rw [e1]
  simp only
  rw [h.cellAt (j * 2) (by omega), h.cellAt (j * 2 + 1) (by omega)]
  exact ⟨h1, h2⟩
def Res (f : Int → Bool) (c : Int) (w : World) (e : Ending) (w' : World) : Prop := ∃ v' err O, e = .returned (.tuple #[v', .int .i64 err]) ∧ w'.ownsRow w.heap.size 66 2 v' (List.length O) (cells2 O) ∧ Made f c err O ∧ Below w.heap.size w w'
theorem own_low {B B' e k n : Nat} {w : World} {v : Value} {xs : List Value} (h : w.ownsRow B' e k v n xs) (hb : B ≤ B') : w.ownsRow B e k v n xs := by
 refine ⟨h.1, ?_⟩
 rcases h.2 with h2 | ⟨g, cap, cur, rfl, h3, h4⟩
 ·exact Or.inl h2
 ·exact Or.inr ⟨g, cap, cur, rfl, by omega, h4⟩
def Makes (g : Nat) (cb : Array Value) (f : Int → Bool) (w : World) : Prop := Calls Tryz.prog g cb w fun e w' => ∃ ao c O, e = .returned (.slice ao (List.length O) c) ∧ w'.ownsRow w.heap.size 66 2 (.slice ao (List.length O) c) O.length (cells2 O) ∧ IsSet f O ∧ Below w.heap.size w w'
theorem made_any (g : Nat) (cb : Array Value) (f : Int → Bool) (b : Nat) (vs : List (Value × RL)) (w : World) (eg : ∀ args w, (callFunc g args).run Tryz.prog w = .ok (.enter g args) w) (hl : vs.length ≤ 4)
  (hvs : ∀ j (h : j < vs.length), w.cell? ⟨b, j, none⟩ = some vs[j].1 ∧ Reads w vs[j].1 vs[j].2) (hdo : chkL vs = 0 → ∀ w', Below w.heap.size w w' → Makes g cb f w') :
  Calls Tryz.prog 86 #[.func (.func g) #[] cb, .slice (some ⟨b, 0, none⟩) vs.length vs.length] w fun e w' => Res f (chkL vs) w e w' := by
 have HV := hide hvs
 have HD := hide hdo
 obtain ⟨n, hn⟩ : ∃ n, n = vs.length := ⟨_, rfl⟩
 have HN := hide hn
 rw [← hn] at hl ⊢
 clear hvs hdo hn
 go_enter Tryz.func86, Tryz.ntmps86
 go_wp2
 go_loopw [12] (fun i wr => ∃ k : Nat, k ≤ n ∧ i = .int .i64 k ∧ (∀ x ∈ vs.take k, checkE x.2 = 0) ∧ Below w.heap.size w wr) (fun i _ => n - (intOf i).toNat)
 case atStart => exact ⟨0, Nat.zero_le _, rfl, by simp, Below.refl _ _⟩
 case round =>
  obtain ⟨k, hk, rfl, hz, hb⟩ := hrel
  have HZ := hide hz
  have HB := hide hb
  clear hz
  by_cases hlt : k < n
  ·have hkL : k < vs.length := by have := HN.out; omega
   obtain ⟨c1, hr⟩ := HV.out k hkL
   have c2 : wr.cell? ⟨b, k, none⟩ = some vs[k].1 := below_cell hb (lt_of_cell c1) c1
   have HC := hide (check_any _ _ wr (hr.below hb))
   obtain ⟨x, hx⟩ : ∃ x, x = vs[k] := ⟨_, rfl⟩
   rw [← hx] at c2 HC
   have HX := hide hx
   obtain ⟨vx, X⟩ := x
   simp only at c2 HC
   clear hx c1 hr hb
   by_cases hc : checkE X = 0
   ·rw [hc] at HC
    have hnext : Hid (∀ x ∈ vs.take (k + 1), checkE x.2 = 0) := by
     intro y hy
     rw [List.take_add_one, List.getElem?_eq_getElem hkL] at hy
     rcases List.mem_append.1 hy with hy | hy
     ·exact HZ.out y hy
     ·simp at hy; rw [hy, ← HX.out]; exact hc
    clear hc
    go_wp2_with fail
    refine HC.out.mono ?_
    rintro e w1 ⟨rfl, hb1⟩
    go_wp2
    go_roundw
    case rel => exact ⟨k + 1, by omega, by go_num, hnext.out, HB.out.trans (hb1.mono HB.out.size)⟩
    case measure => simp [intOf]; omega
   ·have hE : Hid (chkL vs = checkE X) := by
     have := chkL_first hkL HZ.out (by rw [← HX.out]; exact hc)
     rw [← HX.out] at this
     exact this
    have hne : Hid (chkL vs ≠ 0) := by show _ ≠ _; rw [hE.out]; exact hc
    obtain ⟨z, hz⟩ : ∃ z, z = checkE X := ⟨_, rfl⟩
    rw [← hz] at hc HC hE
    clear hz
    go_wp2_with fail
    refine HC.out.mono ?_
    rintro e w1 ⟨rfl, hb1⟩
    go_wp2
    go_ret2
    exact ⟨_, _, [], rfl, World.ownsRow_nil _ _ _ _, .inl ⟨hne.out, hE.out.symm, rfl⟩, HB.out.trans (hb1.mono HB.out.size)⟩
  ·have hkn : k = n := by omega
   have h0 : Hid (chkL vs = 0) := by
    have h := HZ.out
    rw [hkn, HN.out, List.take_length] at h
    exact chkL_zero.2 h
   have HM := hide (HD.out h0.out wr hb)
   clear hb
   go_wp2_with (go_at_fn g; refine HM.out.mono ?_; rintro e w2 ⟨ao, c, O, rfl, ho, hs, hb2⟩)
   ·go_ret2
    first
     | exact ⟨_, _, [], rfl, World.ownsRow_nil _ _ _ _, .inr ⟨h0.out, O, hs, .inr ⟨by omega, rfl, rfl⟩⟩, HB.out.trans (hb2.mono HB.out.size)⟩
     | exact ⟨_, _, O, rfl, own_low ho HB.out.size, .inr ⟨h0.out, O, hs, .inl ⟨by omega, rfl, rfl⟩⟩, HB.out.trans (hb2.mono HB.out.size)⟩
   ·go_ret2
    first
     | exact ⟨_, _, [], rfl, World.ownsRow_nil _ _ _ _, .inr ⟨h0.out, O, hs, .inr ⟨by omega, rfl, rfl⟩⟩, HB.out.trans (hb2.mono HB.out.size)⟩
     | exact ⟨_, _, O, rfl, own_low ho HB.out.size, .inr ⟨h0.out, O, hs, .inl ⟨by omega, rfl, rfl⟩⟩, HB.out.trans (hb2.mono HB.out.size)⟩
end Go.Proofs.YtaccofiegkdlgaaGreatDoor
