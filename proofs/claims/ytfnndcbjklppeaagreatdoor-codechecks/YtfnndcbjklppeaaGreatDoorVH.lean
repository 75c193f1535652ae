import Derived.Test.YtfnndcbjklppeaaGreatDoorVF
import Derived.Test.YtfnndcbjklppeaaGreatDoorVG
set_option linter.unusedVariables false
set_option maxRecDepth 100000
set_option maxHeartbeats 8000000
namespace Go.Proofs.YtfnndcbjklppeaaGreatDoor.Mk
open Go.RowKit
variable {w w' : World} {mb : Nat} {g : Int} {s s' : MS} {ov lv : Value} {L : OpL}
theorem all_any (h : MB w mb g s) (rb : Nat) (hrl : mb < rb) (n v : NV) (x : Addr) (cb wb : Bool) (dn fl : Nat) (hr : w.heap[rb]? = some (rnO mb n cb wb dn fl)) (hka : n.ka = some x) (hkl : n.kl = 1) (hK : ∀ W, Step mb w W → NCells W x v) (f : MS → MS) (hu : Up f) (hf : DoesF mb g w 42 #[.pointer (some ⟨mb, 0, none⟩), nvV v] f) (hfl : fl < s.lab.length) (hcb : cb = (decide (0 < n.least) || decide (0 < n.most))) (hl : 0 ≤ n.least) (hm : n.most = -1 ∨ n.least ≤ n.most) (hm0 : n.most ≠ 0) (hs : (allM ⟨n.least, n.most, n.way, cb, wb, dn, fl⟩ f s).fits) : Calls Tryz.prog 148 #[.pointer (some ⟨rb, 0, none⟩)] w fun e w' => MkE mb g (allM ⟨n.least, n.most, n.way, cb, wb, dn, fl⟩ f s) w e w' := by
 cases cb
 ·have h1 : ¬ 0 < n.least := fun h => by rw [decide_eq_true h] at hcb; cases hcb
  have h2 : ¬ 0 < n.most := fun h => by rw [decide_eq_true h, Bool.or_true] at hcb; cases hcb
  exact all001 h rb hrl n v x wb dn fl hr hka hkl hK f hu hf hfl (by omega) (by omega) hs
 ·by_cases q1 : n.least = n.most
  ·exact all110 h rb hrl n v x wb dn fl hr hka hkl hK f hu hf hfl q1 (by omega) (by omega) hs
  ·by_cases q2 : n.most < 0
   ·exact all101 h rb hrl n v x wb dn fl hr hka hkl hK f hu hf hfl q1 q2 hs
   ·exact all100 h rb hrl n v x wb dn fl hr hka hkl hK f hu hf hfl q1 q2 (by omega) hs
theorem MV.other {rb : Nat} {cs : Array Value} {e : TypeId} {fr : Nat × Nat} (h : MV w mb g s ov lv L) (hr : w.heap[rb]? = some (.cells cs e fr)) (hm : rb ≠ mb) (e1 : e ≠ 52) (e2 : e ≠ 3) (e3 : e ≠ 101) (i : Nat) (v : Value) : MV (w.setCell ⟨rb, i, none⟩ v) mb g s ov lv L := by
 have key : ∀ {t : TypeId} {b : Nat} {c : Array Value}, t ≠ e → w.heap[b]? = some (.cells c t (0, 0)) → (w.setCell ⟨rb, i, none⟩ v).heap[b]? = some (.cells c t (0, 0)) := fun {t b c} ht hb => by
  rw [Below.heap_setCell _ _ _ _ (by
   show b ≠ rb
   rintro rfl
   rw [hr] at hb
   cases hb
   exact ht rfl)]
  exact hb
 refine ⟨?_, own_oth h.ops fun b _ _ c hb => key (Ne.symm e1) hb, own_oth h.lab fun b _ _ c hb => key (Ne.symm e2) hb, h.str, fun y hy => own_oth (h.set y hy) fun b _ _ c hb => key (Ne.symm e3) hb⟩
 rw [Below.heap_setCell _ _ _ _ (by show mb ≠ rb; exact Ne.symm hm)]
 exact h.box
theorem MB.other {rb : Nat} {cs : Array Value} {e : TypeId} {fr : Nat × Nat} (h : MB w mb g s) (hr : w.heap[rb]? = some (.cells cs e fr)) (hm : rb ≠ mb) (e1 : e ≠ 52) (e2 : e ≠ 3) (e3 : e ≠ 101) (i : Nat) (v : Value) : MB (w.setCell ⟨rb, i, none⟩ v) mb g s := by
 obtain ⟨a, b, c, h⟩ := h
 exact ⟨a, b, c, h.other hr hm e1 e2 e3 i v⟩
theorem Step.other {W : World} {rb : Nat} (h : Step mb w W) (hr : w.heap.size ≤ rb) (hm : mb < rb) (i : Nat) (v : Value) : Step mb w (W.setCell ⟨rb, i, none⟩ v) :=
 ⟨h.os, h.tape, h.output, by simpa [World.setCell] using h.size, fun k hk => by rw [Below.heap_setCell _ _ _ _ (by show k ≠ rb; omega)]; exact h.low k hk, fun k h1 h2 cs e fr hc n1 n2 => by rw [Below.heap_setCell _ _ _ _ (by show k ≠ rb; omega)]; exact h.oth k h1 h2 cs e fr hc n1 n2⟩
theorem rn_watch {rb : Nat} {n : NV} {cb wb : Bool} {dn fl : Nat} (h : w.heap[rb]? = some (rnO mb n cb wb dn fl)) (b : Bool) : (w.setCell ⟨rb, 10, none⟩ (.bool b)).heap[rb]? = some (rnO mb n cb b dn fl) := by
 rw [set_oneQ h]; rfl
theorem rn_done {rb : Nat} {n : NV} {cb wb : Bool} {dn fl : Nat} (h : w.heap[rb]? = some (rnO mb n cb wb dn fl)) (c : Nat) : (w.setCell ⟨rb, 11, none⟩ (.int .i64 (c : Int))).heap[rb]? = some (rnO mb n cb wb c fl) := by
 rw [set_oneQ h]; rfl
theorem rn_free {rb : Nat} {n : NV} {cb wb : Bool} {dn fl : Nat} (h : w.heap[rb]? = some (rnO mb n cb wb dn fl)) (i : Nat) : w.frozen? ⟨rb, i, none⟩ = false := by simp [World.frozen?, h]
variable {w w' : World} {mb : Nat} {g : Int} {s s' : MS}
theorem roundsA0 (h : MB w mb g s) (n v : NV) (x : Addr) (F : FT) (hka : n.ka = some x) (hkl : n.kl = 1) (hK : ∀ W, Step mb w W → NCells W x v) (hF : ∀ W, Step mb w W → Calls Tryz.prog 64 #[nvV v] W fun e w' => e = .returned (ftV F) ∧ Below W.heap.size W w') (f : MS → MS) (hu : Up f) (hf : DoesF mb g w 42 #[.pointer (some ⟨mb, 0, none⟩), nvV v] f) (hl : 0 ≤ n.least) (hm : n.most = -1 ∨ n.least ≤ n.most) (hm0 : n.most ≠ 0) (q1 : 0 < n.least) (q3 : n.least = n.most) (hs : (roundsM n.least n.most n.way F.least f s).fits) : Calls Tryz.prog 112 #[.pointer (some ⟨mb, 0, none⟩), nvV n] w fun e w' => MkE mb g (roundsM n.least n.most n.way F.least f s) w e w' := by
 have HCB : Hid (true = (decide (0 < n.least) || decide (0 < n.most))) := by show _ = _; simp [q1]
 have HWB : Hid (false = (!decide (n.least = n.most) && decide (F.least = 0))) := by show _ = _; simp [q3]
 have HE : Hid (roundsM n.least n.most n.way F.least f s = allM ⟨n.least, n.most, n.way, true, false, s.cnt, s.lab.length⟩ f s.newL.newC) := by show _ = _; unfold roundsM; dsimp only; rw [← HCB.out, ← HWB.out]; rfl
 have HS0 := hide ((rounds_up _ _ _ _ hu s).fits hs)
 have HF := hide hf
 have HK := hide hK
 have HUf := hide hu
 have HKA := hide hka
 have HKL := hide hkl
 have hlt := h.lt
 have HFA : Hid (allM ⟨n.least, n.most, n.way, true, false, s.cnt, s.lab.length⟩ f s.newL.newC).fits := by have hh := hs; rw [HE.out] at hh; exact hh
 obtain ⟨c, hc⟩ : ∃ x, x = s.cnt := ⟨_, rfl⟩
 have HN0 := hide hc
 clear hc
 obtain ⟨l, hl⟩ : ∃ x, x = s.lab.length := ⟨_, rfl⟩
 have HN1 := hide hl
 clear hl
 rw [← HN1.out, ← HN0.out] at HE HFA
 have HFc := hide hF
 have HB1 := hide (show 0 ≤ n.least from hl)
 have HB2 := hide hm
 have HB3 := hide hm0
 obtain ⟨W0, hW0⟩ : ∃ W0, W0 = w.alloc (nvO n) := ⟨_, rfl⟩
 have hb0 : Below w.heap.size w W0 := by rw [hW0]; exact (Below.refl _ _).alloc (Nat.le_refl _) _
 have hx0 : W0.heap[w.heap.size]? = some (nvO n) := by rw [hW0]; exact at_new _ _
 have h0 := h.keep hb0
 have HT0 := hide (Step.of_below hb0 hlt)
 obtain ⟨nb, hnb⟩ : ∃ nb, nb = w.heap.size := ⟨_, rfl⟩
 have hnl : mb < nb := by omega
 have HNB := hide hnb
 rw [← hnb] at hx0
 have HX0 := hide hx0
 simp only [nvO] at hW0
 have HS : Hid (Step mb W0 W0.drew) := Step.of_below (drew1 W0) h0.lt
 have HC1 := hide (newL_at (h0.keep (drew1 W0)) l (by have e0 := HN0.out; have e1 := HN1.out; have := HS0.out.1; have := HS0.out.2.1; have := HS0.out.2.2; (try simp only [z1, z2, z3, z4, z5, z6, z7, z8, z9, za, zb, zc]); omega) (by have e0 := HN0.out; have e1 := HN1.out; have := HS0.out.1; have := HS0.out.2.1; have := HS0.out.2.2; (try simp only [z1, z2, z3, z4, z5, z6, z7, z8, z9, za, zb, zc]); omega))
 have hw0 : W0.heap.size = nb + 1 := by rw [hW0, hnb]; simp
 have HW0 := hide hw0
 have b3 : (n.least == n.most) = true := by simpa using q3
 have b5 : (n.least != n.most) = false := by simpa using q3
 clear hf hs hu h hK hx0 hb0 hka hkl hF h0 hl hm hm0 hw0 q3
 go_enter Tryz.func112, Tryz.ntmps112
 go_upto_region 1 with fail
 rw [← hW0, ← hnb]
 clear hW0 hnb
 refine wp_region_held (S := fun w' => Step mb W0 w') (by kernel_rfl) ?_
 change wpAnyH _ _ _ _ _ _ _ _ (World.drew _)
 refine wpAnyH_take (i := 0) (v := .pointer (some ⟨mb, 0, none⟩)) rfl (by kernel_rfl) (by kernel_rfl) (by kernel_rfl) (fun _ _ _ h => h) (Or.inl ⟨by kernel_rfl, fun w' hS => ?_⟩) HS.out ?_
 ·go_simp
 refine wpAnyH_take (i := 1) (v := nvV n) rfl (by kernel_rfl) (by kernel_rfl) (by kernel_rfl) (fun _ _ _ h => h) (Or.inl ⟨by kernel_rfl, fun w' hS => ?_⟩) HS.out ?_
 ·(obtain ⟨d0, d1, d2, d3, d4, d5, d6, d7⟩ := nv_cells (hS.blk hnl HX0.out (by decide) (by decide)); simp only [Nat.zero_add] at d0 d1 d2 d3 d4 d5 d6 d7; go_simp)
 refine wpAnyH_take (i := 2) (v := .pointer (some ⟨nb, 4, none⟩)) rfl (by kernel_rfl) (by kernel_rfl) (by kernel_rfl) (fun _ _ _ h => h) (Or.inl ⟨by kernel_rfl, fun w' hS => ?_⟩) HS.out ?_
 ·go_simp
 refine wpAnyH_take (i := 3) (v := .int .i64 n.least) rfl (by kernel_rfl) (by kernel_rfl) (by kernel_rfl) (fun _ _ _ h => h) (Or.inl ⟨by kernel_rfl, fun w' hS => ?_⟩) HS.out ?_
 ·(obtain ⟨d0, d1, d2, d3, d4, d5, d6, d7⟩ := nv_cells (hS.blk hnl HX0.out (by decide) (by decide)); simp only [Nat.zero_add] at d0 d1 d2 d3 d4 d5 d6 d7; go_simp)
 refine wpAnyH_take (i := 4) (v := .bool true) rfl (by kernel_rfl) (by kernel_rfl) (by kernel_rfl) (fun _ _ _ h => h) (Or.inl ⟨by kernel_rfl, fun w' hS => ?_⟩) HS.out ?_
 ·go_simp
 refine wpAnyH_take (i := 5) (v := .bool true) rfl (by kernel_rfl) (by kernel_rfl) (by kernel_rfl) (fun _ _ _ h => h) (Or.inl ⟨by kernel_rfl, fun w' hS => ?_⟩) HS.out ?_
 ·go_simp
 refine wpAnyH_take (i := 6) (v := undef) rfl (by kernel_rfl) (by kernel_rfl) (by kernel_rfl) (fun _ _ _ h => h) (Or.inr ⟨by kernel_rfl, rfl⟩) HS.out ?_
 refine wpAnyH_take (i := 7) (v := undef) rfl (by kernel_rfl) (by kernel_rfl) (by kernel_rfl) (fun _ _ _ h => h) (Or.inr ⟨by kernel_rfl, rfl⟩) HS.out ?_
 refine wpAnyH_take (i := 8) (v := undef) rfl (by kernel_rfl) (by kernel_rfl) (by kernel_rfl) (fun _ _ _ h => h) (Or.inr ⟨by kernel_rfl, rfl⟩) HS.out ?_
 refine wpAnyH_take (i := 9) (v := .bool true) rfl (by kernel_rfl) (by kernel_rfl) (by kernel_rfl) (fun _ _ _ h => h) (Or.inl ⟨by kernel_rfl, fun w' hS => ?_⟩) HS.out ?_
 ·go_simp
 refine wpAnyH_take (i := 10) (v := .pointer (some ⟨mb, 0, none⟩)) rfl (by kernel_rfl) (by kernel_rfl) (by kernel_rfl) (fun _ _ _ h => h) (Or.inl ⟨by kernel_rfl, fun w' hS => ?_⟩) HS.out ?_
 ·go_simp
 refine wpAnyH_ready (rs := [11]) (by kernel_rfl) (by simp) ?_
 refine AllReadyH.cons rfl (fun K hK => ?_) AllReadyH.nil
 go_simp
 refine HC1.out.mono ?_
 rintro e w1 ⟨rfl, h1, st1⟩
 have HTx := hide (HS.out.trans st1)
 refine hK.out _ _ HTx.out (fun _ => ?_)
 clear hK K
 have HT1 := hide (HT0.out.trans HTx.out)
 have HX1 := hide (HTx.out.blk hnl HX0.out (by decide) (by decide))
 refine wpAnyH_take (i := 12) (v := .agg #[.pointer (some ⟨mb, 0, none⟩), .int .i64 n.kind, .slice n.sa n.sl n.sc, .slice n.ka n.kl n.kc, .int .i64 n.num, .int .i64 n.least, .int .i64 n.most, .int .i64 n.way, .bool n.fold, .bool true, .bool false, .int .i64 0, .int .i64 (l : Int)]) rfl (by kernel_rfl) (by kernel_rfl) (by kernel_rfl) (fun _ _ _ h => h) (Or.inl ⟨by kernel_rfl, fun w' hS => ?_⟩) HTx.out ?_
 ·go_simp
 refine wpAnyH_ready (rs := [13]) (by kernel_rfl) (by simp) ?_
 refine AllReadyH.cons rfl (fun K hK => ?_) AllReadyH.nil
 go_simp
 obtain ⟨W2, hW2⟩ : ∃ W2, W2 = w1.alloc (rnO mb n true false 0 l) := ⟨_, rfl⟩
 have hb2 : Below w1.heap.size w1 W2 := by rw [hW2]; exact (Below.refl _ _).alloc (Nat.le_refl _) _
 have hy2 : W2.heap[w1.heap.size]? = some (rnO mb n true false 0 l) := by rw [hW2]; exact at_new _ _
 have hs2 := Step.of_below hb2 h1.lt
 have h2 := h1.keep hb2
 have HT2 := hide (HT1.out.trans hs2)
 have HTy := hide (HTx.out.trans hs2)
 have HX2 := hide (hs2.blk hnl HX1.out (by decide) (by decide))
 obtain ⟨rb, hrb⟩ : ∃ rb, rb = w1.heap.size := ⟨_, rfl⟩
 have hrl : mb < rb := by have := h1.lt; omega
 have HRG : Hid (nb < rb) := by have h5 := HTx.out.size; have h6 := HW0.out; show nb < rb; omega
 rw [← hrb] at hy2
 have HY2 := hide hy2
 simp only [rnO] at hW2
 rw [show ((0 : Nat) : Int) = 0 from rfl] at hW2
 rw [← hW2, ← hrb]
 refine hK.out _ _ HTy.out (fun _ => ?_)
 clear hK K
 refine wpAnyH_take (i := 14) (v := .pointer (some ⟨rb, 0, none⟩)) rfl (by kernel_rfl) (by kernel_rfl) (by kernel_rfl) (fun _ _ _ h => h) (Or.inl ⟨by kernel_rfl, fun w' hS => ?_⟩) HTy.out ?_
 ·go_simp
 refine wpAnyH_done (by kernel_rfl) ?_ _
 clear HC1 HT0 HT1 HTx HTy HX0 HX1 h1 st1 hb2 hs2 hW2 hrb hy2 HS
 obtain ⟨d0, d1, d2, d3, d4, d5, d6, d7⟩ := nv_cells HX2.out
 simp only [Nat.zero_add] at d0 d1 d2 d3 d4 d5 d6 d7
 rw [HKA.out, HKL.out] at d2
 obtain ⟨W3, hW3⟩ : ∃ W3, W3 = W2.setCell ⟨rb, 10, none⟩ (.bool false) := ⟨_, rfl⟩
 have fz := rn_free HY2.out
 obtain ⟨r0, r3, r5, r6, r7, r9, r10, r11, r12⟩ := rn_cells HY2.out
 have HM3 : Hid (MB W3 mb g s.newL) := by show MB _ _ _ _; rw [hW3]; exact h2.other HY2.out (by omega) (by decide) (by decide) (by decide) _ _
 have HT3 : Hid (Step mb w W3) := by show Step _ _ _; rw [hW3]; exact HT2.out.other (by have := HRG.out; have := HNB.out; omega) hrl _ _
 have HY3 : Hid (W3.heap[rb]? = some (rnO mb n true false 0 l)) := by show _ = _; rw [hW3]; exact rn_watch HY2.out _
 go_upto_region 3 with fail
 rw [← hW3]
 clear hW3 fz r0 r3 r5 r6 r7 r9 r10 r11 r12 d0 d1 d2 d3 d4 d5 d6 d7 h2 HT2 HY2 HX2
 obtain ⟨r0, r3, r5, r6, r7, r9, r10, r11, r12⟩ := rn_cells HY3.out
 have HC2 := hide (newC_at HM3.out c (by have e0 := HN0.out; have e1 := HN1.out; have := HS0.out.1; have := HS0.out.2.1; have := HS0.out.2.2; (try simp only [z9]); omega) (by have e0 := HN0.out; have e1 := HN1.out; have := HS0.out.1; have := HS0.out.2.1; have := HS0.out.2.2; (try simp only [z1, z2, z3, z4, z5, z6, z7, z8, z9, za, zb, zc]); omega))
 go_wp2_with fail
 refine HC2.out.mono ?_
 rintro e w4 ⟨rfl, h4, st4⟩
 have HY4 := hide (st4.blk hrl HY3.out (by decide) (by decide))
 have HT4 := hide (HT3.out.trans st4)
 clear HC2 HM3 HT3 HY3 st4 r0 r3 r5 r6 r7 r9 r10 r11 r12
 obtain ⟨W5, hW5⟩ : ∃ W5, W5 = w4.setCell ⟨rb, 11, none⟩ (.int .i64 (c : Int)) := ⟨_, rfl⟩
 have fz := rn_free HY4.out
 obtain ⟨r0, r3, r5, r6, r7, r9, r10, r11, r12⟩ := rn_cells HY4.out
 have HM5 : Hid (MB W5 mb g s.newL.newC) := by show MB _ _ _ _; rw [hW5]; exact h4.other HY4.out (by omega) (by decide) (by decide) (by decide) _ _
 have HT5 : Hid (Step mb w W5) := by show Step _ _ _; rw [hW5]; exact HT4.out.other (by have := HRG.out; have := HNB.out; omega) hrl _ _
 have HY5 : Hid (W5.heap[rb]? = some (rnO mb n true false c l)) := by show _ = _; rw [hW5]; exact rn_done HY4.out _
 go_upto_region 5 with fail
 rw [← hW5]
 clear hW5 fz r0 r3 r5 r6 r7 r9 r10 r11 r12 h4 HT4 HY4
 have HC3 := hide (all_any HM5.out rb hrl n v x true false c l HY5.out HKA.out HKL.out (fun W hW => HK.out W (HT5.out.trans hW)) f HUf.out (fun W s hW hM hh => HF.out W s (HT5.out.trans hW) hM hh) (by have e0 := HN0.out; have e1 := HN1.out; have := HS0.out.1; have := HS0.out.2.1; have := HS0.out.2.2; (try simp only [z5, z8]); omega) HCB.out HB1.out HB2.out HB3.out HFA.out)
 go_wp2_with fail
 refine HC3.out.mono ?_
 rintro e w6 ⟨rfl, h6, st6⟩
 have HH := hide h6
 have HT6 := hide (HT5.out.trans st6)
 clear h6 st6 HC3
 go_wp2
 go_end0
 rw [HE.out]
 exact ⟨rfl, HH.out, HT6.out⟩
variable {w w' : World} {mb : Nat} {g : Int} {s s' : MS}
theorem roundsA1 (h : MB w mb g s) (n v : NV) (x : Addr) (F : FT) (hka : n.ka = some x) (hkl : n.kl = 1) (hK : ∀ W, Step mb w W → NCells W x v) (hF : ∀ W, Step mb w W → Calls Tryz.prog 64 #[nvV v] W fun e w' => e = .returned (ftV F) ∧ Below W.heap.size W w') (f : MS → MS) (hu : Up f) (hf : DoesF mb g w 42 #[.pointer (some ⟨mb, 0, none⟩), nvV v] f) (hl : 0 ≤ n.least) (hm : n.most = -1 ∨ n.least ≤ n.most) (hm0 : n.most ≠ 0) (q1 : 0 < n.least) (q3 : ¬ n.least = n.most) (q4 : F.least = 0) (hs : (roundsM n.least n.most n.way F.least f s).fits) : Calls Tryz.prog 112 #[.pointer (some ⟨mb, 0, none⟩), nvV n] w fun e w' => MkE mb g (roundsM n.least n.most n.way F.least f s) w e w' := by
 have HCB : Hid (true = (decide (0 < n.least) || decide (0 < n.most))) := by show _ = _; simp [q1]
 have HWB : Hid (true = (!decide (n.least = n.most) && decide (F.least = 0))) := by show _ = _; simp [q3, q4]
 have HE : Hid (roundsM n.least n.most n.way F.least f s = allM ⟨n.least, n.most, n.way, true, true, s.cnt, s.lab.length⟩ f s.newL.newC) := by show _ = _; unfold roundsM; dsimp only; rw [← HCB.out, ← HWB.out]; rfl
 have HS0 := hide ((rounds_up _ _ _ _ hu s).fits hs)
 have HF := hide hf
 have HK := hide hK
 have HUf := hide hu
 have HKA := hide hka
 have HKL := hide hkl
 have hlt := h.lt
 have HFA : Hid (allM ⟨n.least, n.most, n.way, true, true, s.cnt, s.lab.length⟩ f s.newL.newC).fits := by have hh := hs; rw [HE.out] at hh; exact hh
 obtain ⟨c, hc⟩ : ∃ x, x = s.cnt := ⟨_, rfl⟩
 have HN0 := hide hc
 clear hc
 obtain ⟨l, hl⟩ : ∃ x, x = s.lab.length := ⟨_, rfl⟩
 have HN1 := hide hl
 clear hl
 rw [← HN1.out, ← HN0.out] at HE HFA
 have HFc := hide hF
 have HB1 := hide (show 0 ≤ n.least from hl)
 have HB2 := hide hm
 have HB3 := hide hm0
 obtain ⟨W0, hW0⟩ : ∃ W0, W0 = w.alloc (nvO n) := ⟨_, rfl⟩
 have hb0 : Below w.heap.size w W0 := by rw [hW0]; exact (Below.refl _ _).alloc (Nat.le_refl _) _
 have hx0 : W0.heap[w.heap.size]? = some (nvO n) := by rw [hW0]; exact at_new _ _
 have h0 := h.keep hb0
 have HT0 := hide (Step.of_below hb0 hlt)
 obtain ⟨nb, hnb⟩ : ∃ nb, nb = w.heap.size := ⟨_, rfl⟩
 have hnl : mb < nb := by omega
 have HNB := hide hnb
 rw [← hnb] at hx0
 have HX0 := hide hx0
 simp only [nvO] at hW0
 have HS : Hid (Step mb W0 W0.drew) := Step.of_below (drew1 W0) h0.lt
 have HC1 := hide (newL_at (h0.keep (drew1 W0)) l (by have e0 := HN0.out; have e1 := HN1.out; have := HS0.out.1; have := HS0.out.2.1; have := HS0.out.2.2; (try simp only [z1, z2, z3, z4, z5, z6, z7, z8, z9, za, zb, zc]); omega) (by have e0 := HN0.out; have e1 := HN1.out; have := HS0.out.1; have := HS0.out.2.1; have := HS0.out.2.2; (try simp only [z1, z2, z3, z4, z5, z6, z7, z8, z9, za, zb, zc]); omega))
 have hw0 : W0.heap.size = nb + 1 := by rw [hW0, hnb]; simp
 have HW0 := hide hw0
 have b3 : (n.least == n.most) = false := by simpa using q3
 have b5 : (n.least != n.most) = true := by simpa using q3
 have b4 : (F.least == 0) = true := by simpa using q4
 clear hf hs hu h hK hx0 hb0 hka hkl hF h0 hl hm hm0 hw0 q4
 go_enter Tryz.func112, Tryz.ntmps112
 go_upto_region 1 with fail
 rw [← hW0, ← hnb]
 clear hW0 hnb
 refine wp_region_held (S := fun w' => Step mb W0 w') (by kernel_rfl) ?_
 change wpAnyH _ _ _ _ _ _ _ _ (World.drew _)
 refine wpAnyH_take (i := 0) (v := .pointer (some ⟨mb, 0, none⟩)) rfl (by kernel_rfl) (by kernel_rfl) (by kernel_rfl) (fun _ _ _ h => h) (Or.inl ⟨by kernel_rfl, fun w' hS => ?_⟩) HS.out ?_
 ·go_simp
 refine wpAnyH_take (i := 1) (v := nvV n) rfl (by kernel_rfl) (by kernel_rfl) (by kernel_rfl) (fun _ _ _ h => h) (Or.inl ⟨by kernel_rfl, fun w' hS => ?_⟩) HS.out ?_
 ·(obtain ⟨d0, d1, d2, d3, d4, d5, d6, d7⟩ := nv_cells (hS.blk hnl HX0.out (by decide) (by decide)); simp only [Nat.zero_add] at d0 d1 d2 d3 d4 d5 d6 d7; go_simp)
 refine wpAnyH_take (i := 2) (v := .pointer (some ⟨nb, 4, none⟩)) rfl (by kernel_rfl) (by kernel_rfl) (by kernel_rfl) (fun _ _ _ h => h) (Or.inl ⟨by kernel_rfl, fun w' hS => ?_⟩) HS.out ?_
 ·go_simp
 refine wpAnyH_take (i := 3) (v := .int .i64 n.least) rfl (by kernel_rfl) (by kernel_rfl) (by kernel_rfl) (fun _ _ _ h => h) (Or.inl ⟨by kernel_rfl, fun w' hS => ?_⟩) HS.out ?_
 ·(obtain ⟨d0, d1, d2, d3, d4, d5, d6, d7⟩ := nv_cells (hS.blk hnl HX0.out (by decide) (by decide)); simp only [Nat.zero_add] at d0 d1 d2 d3 d4 d5 d6 d7; go_simp)
 refine wpAnyH_take (i := 4) (v := .bool true) rfl (by kernel_rfl) (by kernel_rfl) (by kernel_rfl) (fun _ _ _ h => h) (Or.inl ⟨by kernel_rfl, fun w' hS => ?_⟩) HS.out ?_
 ·go_simp
 refine wpAnyH_take (i := 5) (v := .bool true) rfl (by kernel_rfl) (by kernel_rfl) (by kernel_rfl) (fun _ _ _ h => h) (Or.inl ⟨by kernel_rfl, fun w' hS => ?_⟩) HS.out ?_
 ·go_simp
 refine wpAnyH_take (i := 6) (v := undef) rfl (by kernel_rfl) (by kernel_rfl) (by kernel_rfl) (fun _ _ _ h => h) (Or.inr ⟨by kernel_rfl, rfl⟩) HS.out ?_
 refine wpAnyH_take (i := 7) (v := undef) rfl (by kernel_rfl) (by kernel_rfl) (by kernel_rfl) (fun _ _ _ h => h) (Or.inr ⟨by kernel_rfl, rfl⟩) HS.out ?_
 refine wpAnyH_take (i := 8) (v := undef) rfl (by kernel_rfl) (by kernel_rfl) (by kernel_rfl) (fun _ _ _ h => h) (Or.inr ⟨by kernel_rfl, rfl⟩) HS.out ?_
 refine wpAnyH_take (i := 9) (v := .bool true) rfl (by kernel_rfl) (by kernel_rfl) (by kernel_rfl) (fun _ _ _ h => h) (Or.inl ⟨by kernel_rfl, fun w' hS => ?_⟩) HS.out ?_
 ·go_simp
 refine wpAnyH_take (i := 10) (v := .pointer (some ⟨mb, 0, none⟩)) rfl (by kernel_rfl) (by kernel_rfl) (by kernel_rfl) (fun _ _ _ h => h) (Or.inl ⟨by kernel_rfl, fun w' hS => ?_⟩) HS.out ?_
 ·go_simp
 refine wpAnyH_ready (rs := [11]) (by kernel_rfl) (by simp) ?_
 refine AllReadyH.cons rfl (fun K hK => ?_) AllReadyH.nil
 go_simp
 refine HC1.out.mono ?_
 rintro e w1 ⟨rfl, h1, st1⟩
 have HTx := hide (HS.out.trans st1)
 refine hK.out _ _ HTx.out (fun _ => ?_)
 clear hK K
 have HT1 := hide (HT0.out.trans HTx.out)
 have HX1 := hide (HTx.out.blk hnl HX0.out (by decide) (by decide))
 refine wpAnyH_take (i := 12) (v := .agg #[.pointer (some ⟨mb, 0, none⟩), .int .i64 n.kind, .slice n.sa n.sl n.sc, .slice n.ka n.kl n.kc, .int .i64 n.num, .int .i64 n.least, .int .i64 n.most, .int .i64 n.way, .bool n.fold, .bool true, .bool false, .int .i64 0, .int .i64 (l : Int)]) rfl (by kernel_rfl) (by kernel_rfl) (by kernel_rfl) (fun _ _ _ h => h) (Or.inl ⟨by kernel_rfl, fun w' hS => ?_⟩) HTx.out ?_
 ·go_simp
 refine wpAnyH_ready (rs := [13]) (by kernel_rfl) (by simp) ?_
 refine AllReadyH.cons rfl (fun K hK => ?_) AllReadyH.nil
 go_simp
 obtain ⟨W2, hW2⟩ : ∃ W2, W2 = w1.alloc (rnO mb n true false 0 l) := ⟨_, rfl⟩
 have hb2 : Below w1.heap.size w1 W2 := by rw [hW2]; exact (Below.refl _ _).alloc (Nat.le_refl _) _
 have hy2 : W2.heap[w1.heap.size]? = some (rnO mb n true false 0 l) := by rw [hW2]; exact at_new _ _
 have hs2 := Step.of_below hb2 h1.lt
 have h2 := h1.keep hb2
 have HT2 := hide (HT1.out.trans hs2)
 have HTy := hide (HTx.out.trans hs2)
 have HX2 := hide (hs2.blk hnl HX1.out (by decide) (by decide))
 obtain ⟨rb, hrb⟩ : ∃ rb, rb = w1.heap.size := ⟨_, rfl⟩
 have hrl : mb < rb := by have := h1.lt; omega
 have HRG : Hid (nb < rb) := by have h5 := HTx.out.size; have h6 := HW0.out; show nb < rb; omega
 rw [← hrb] at hy2
 have HY2 := hide hy2
 simp only [rnO] at hW2
 rw [show ((0 : Nat) : Int) = 0 from rfl] at hW2
 rw [← hW2, ← hrb]
 refine hK.out _ _ HTy.out (fun _ => ?_)
 clear hK K
 refine wpAnyH_take (i := 14) (v := .pointer (some ⟨rb, 0, none⟩)) rfl (by kernel_rfl) (by kernel_rfl) (by kernel_rfl) (fun _ _ _ h => h) (Or.inl ⟨by kernel_rfl, fun w' hS => ?_⟩) HTy.out ?_
 ·go_simp
 refine wpAnyH_done (by kernel_rfl) ?_ _
 clear HC1 HT0 HT1 HTx HTy HX0 HX1 h1 st1 hb2 hs2 hW2 hrb hy2 HS
 obtain ⟨d0, d1, d2, d3, d4, d5, d6, d7⟩ := nv_cells HX2.out
 simp only [Nat.zero_add] at d0 d1 d2 d3 d4 d5 d6 d7
 rw [HKA.out, HKL.out] at d2
 obtain ⟨k0, k1, k2, k3, k4, k5, k6, k7⟩ := HK.out _ HT2.out
 have HCf := hide (HFc.out W2 HT2.out)
 go_wp2_with fail
 refine HCf.out.mono ?_
 rintro e W2b ⟨rfl, hbb⟩
 have hsb := Step.of_below hbb h2.lt
 have h2b := h2.keep hbb
 have HT2b := hide (HT2.out.trans hsb)
 have HY2b := hide (hsb.blk hrl HY2.out (by decide) (by decide))
 clear HCf k0 k1 k2 k3 k4 k5 k6 k7 d0 d1 d2 d3 d4 d5 d6 d7 hbb hsb h2 HT2 HY2 HX2
 obtain ⟨W3, hW3⟩ : ∃ W3, W3 = W2b.setCell ⟨rb, 10, none⟩ (.bool true) := ⟨_, rfl⟩
 have fz := rn_free HY2b.out
 obtain ⟨r0, r3, r5, r6, r7, r9, r10, r11, r12⟩ := rn_cells HY2b.out
 have HM3 : Hid (MB W3 mb g s.newL) := by show MB _ _ _ _; rw [hW3]; exact h2b.other HY2b.out (by omega) (by decide) (by decide) (by decide) _ _
 have HT3 : Hid (Step mb w W3) := by show Step _ _ _; rw [hW3]; exact HT2b.out.other (by have := HRG.out; have := HNB.out; omega) hrl _ _
 have HY3 : Hid (W3.heap[rb]? = some (rnO mb n true true 0 l)) := by show _ = _; rw [hW3]; exact rn_watch HY2b.out _
 obtain ⟨Fl, Fm, Fp⟩ := F
 simp only [ftV] at b4 ⊢
 have hfd : ∀ W : World, (Instr.field 127 (.agg #[.int .i64 Fl, .int .i64 Fm, .bool Fp]) 0).run Tryz.prog W = .ok (.int .i64 Fl) W := fun W => by rfl
 go_upto_region 3 with fail
 rw [← hW3]
 clear hW3 fz r0 r3 r5 r6 r7 r9 r10 r11 r12 h2b HT2b HY2b
 obtain ⟨r0, r3, r5, r6, r7, r9, r10, r11, r12⟩ := rn_cells HY3.out
 have HC2 := hide (newC_at HM3.out c (by have e0 := HN0.out; have e1 := HN1.out; have := HS0.out.1; have := HS0.out.2.1; have := HS0.out.2.2; (try simp only [z9]); omega) (by have e0 := HN0.out; have e1 := HN1.out; have := HS0.out.1; have := HS0.out.2.1; have := HS0.out.2.2; (try simp only [z1, z2, z3, z4, z5, z6, z7, z8, z9, za, zb, zc]); omega))
 go_wp2_with fail
 refine HC2.out.mono ?_
 rintro e w4 ⟨rfl, h4, st4⟩
 have HY4 := hide (st4.blk hrl HY3.out (by decide) (by decide))
 have HT4 := hide (HT3.out.trans st4)
 clear HC2 HM3 HT3 HY3 st4 r0 r3 r5 r6 r7 r9 r10 r11 r12
 obtain ⟨W5, hW5⟩ : ∃ W5, W5 = w4.setCell ⟨rb, 11, none⟩ (.int .i64 (c : Int)) := ⟨_, rfl⟩
 have fz := rn_free HY4.out
 obtain ⟨r0, r3, r5, r6, r7, r9, r10, r11, r12⟩ := rn_cells HY4.out
 have HM5 : Hid (MB W5 mb g s.newL.newC) := by show MB _ _ _ _; rw [hW5]; exact h4.other HY4.out (by omega) (by decide) (by decide) (by decide) _ _
 have HT5 : Hid (Step mb w W5) := by show Step _ _ _; rw [hW5]; exact HT4.out.other (by have := HRG.out; have := HNB.out; omega) hrl _ _
 have HY5 : Hid (W5.heap[rb]? = some (rnO mb n true true c l)) := by show _ = _; rw [hW5]; exact rn_done HY4.out _
 go_upto_region 5 with fail
 rw [← hW5]
 clear hW5 fz r0 r3 r5 r6 r7 r9 r10 r11 r12 h4 HT4 HY4
 have HC3 := hide (all_any HM5.out rb hrl n v x true true c l HY5.out HKA.out HKL.out (fun W hW => HK.out W (HT5.out.trans hW)) f HUf.out (fun W s hW hM hh => HF.out W s (HT5.out.trans hW) hM hh) (by have e0 := HN0.out; have e1 := HN1.out; have := HS0.out.1; have := HS0.out.2.1; have := HS0.out.2.2; (try simp only [z5, z8]); omega) HCB.out HB1.out HB2.out HB3.out HFA.out)
 go_wp2_with fail
 refine HC3.out.mono ?_
 rintro e w6 ⟨rfl, h6, st6⟩
 have HH := hide h6
 have HT6 := hide (HT5.out.trans st6)
 clear h6 st6 HC3
 go_wp2
 go_end0
 rw [HE.out]
 exact ⟨rfl, HH.out, HT6.out⟩
variable {w w' : World} {mb : Nat} {g : Int} {s s' : MS}
theorem roundsA2 (h : MB w mb g s) (n v : NV) (x : Addr) (F : FT) (hka : n.ka = some x) (hkl : n.kl = 1) (hK : ∀ W, Step mb w W → NCells W x v) (hF : ∀ W, Step mb w W → Calls Tryz.prog 64 #[nvV v] W fun e w' => e = .returned (ftV F) ∧ Below W.heap.size W w') (f : MS → MS) (hu : Up f) (hf : DoesF mb g w 42 #[.pointer (some ⟨mb, 0, none⟩), nvV v] f) (hl : 0 ≤ n.least) (hm : n.most = -1 ∨ n.least ≤ n.most) (hm0 : n.most ≠ 0) (q1 : 0 < n.least) (q3 : ¬ n.least = n.most) (q4 : ¬ F.least = 0) (hs : (roundsM n.least n.most n.way F.least f s).fits) : Calls Tryz.prog 112 #[.pointer (some ⟨mb, 0, none⟩), nvV n] w fun e w' => MkE mb g (roundsM n.least n.most n.way F.least f s) w e w' := by
 have HCB : Hid (true = (decide (0 < n.least) || decide (0 < n.most))) := by show _ = _; simp [q1]
 have HWB : Hid (false = (!decide (n.least = n.most) && decide (F.least = 0))) := by show _ = _; simp [q3, q4]
 have HE : Hid (roundsM n.least n.most n.way F.least f s = allM ⟨n.least, n.most, n.way, true, false, s.cnt, s.lab.length⟩ f s.newL.newC) := by show _ = _; unfold roundsM; dsimp only; rw [← HCB.out, ← HWB.out]; rfl
 have HS0 := hide ((rounds_up _ _ _ _ hu s).fits hs)
 have HF := hide hf
 have HK := hide hK
 have HUf := hide hu
 have HKA := hide hka
 have HKL := hide hkl
 have hlt := h.lt
 have HFA : Hid (allM ⟨n.least, n.most, n.way, true, false, s.cnt, s.lab.length⟩ f s.newL.newC).fits := by have hh := hs; rw [HE.out] at hh; exact hh
 obtain ⟨c, hc⟩ : ∃ x, x = s.cnt := ⟨_, rfl⟩
 have HN0 := hide hc
 clear hc
 obtain ⟨l, hl⟩ : ∃ x, x = s.lab.length := ⟨_, rfl⟩
 have HN1 := hide hl
 clear hl
 rw [← HN1.out, ← HN0.out] at HE HFA
 have HFc := hide hF
 have HB1 := hide (show 0 ≤ n.least from hl)
 have HB2 := hide hm
 have HB3 := hide hm0
 obtain ⟨W0, hW0⟩ : ∃ W0, W0 = w.alloc (nvO n) := ⟨_, rfl⟩
 have hb0 : Below w.heap.size w W0 := by rw [hW0]; exact (Below.refl _ _).alloc (Nat.le_refl _) _
 have hx0 : W0.heap[w.heap.size]? = some (nvO n) := by rw [hW0]; exact at_new _ _
 have h0 := h.keep hb0
 have HT0 := hide (Step.of_below hb0 hlt)
 obtain ⟨nb, hnb⟩ : ∃ nb, nb = w.heap.size := ⟨_, rfl⟩
 have hnl : mb < nb := by omega
 have HNB := hide hnb
 rw [← hnb] at hx0
 have HX0 := hide hx0
 simp only [nvO] at hW0
 have HS : Hid (Step mb W0 W0.drew) := Step.of_below (drew1 W0) h0.lt
 have HC1 := hide (newL_at (h0.keep (drew1 W0)) l (by have e0 := HN0.out; have e1 := HN1.out; have := HS0.out.1; have := HS0.out.2.1; have := HS0.out.2.2; (try simp only [z1, z2, z3, z4, z5, z6, z7, z8, z9, za, zb, zc]); omega) (by have e0 := HN0.out; have e1 := HN1.out; have := HS0.out.1; have := HS0.out.2.1; have := HS0.out.2.2; (try simp only [z1, z2, z3, z4, z5, z6, z7, z8, z9, za, zb, zc]); omega))
 have hw0 : W0.heap.size = nb + 1 := by rw [hW0, hnb]; simp
 have HW0 := hide hw0
 have b3 : (n.least == n.most) = false := by simpa using q3
 have b5 : (n.least != n.most) = true := by simpa using q3
 have b4 : (F.least == 0) = false := by simpa using q4
 clear hf hs hu h hK hx0 hb0 hka hkl hF h0 hl hm hm0 hw0 q4
 go_enter Tryz.func112, Tryz.ntmps112
 go_upto_region 1 with fail
 rw [← hW0, ← hnb]
 clear hW0 hnb
 refine wp_region_held (S := fun w' => Step mb W0 w') (by kernel_rfl) ?_
 change wpAnyH _ _ _ _ _ _ _ _ (World.drew _)
 refine wpAnyH_take (i := 0) (v := .pointer (some ⟨mb, 0, none⟩)) rfl (by kernel_rfl) (by kernel_rfl) (by kernel_rfl) (fun _ _ _ h => h) (Or.inl ⟨by kernel_rfl, fun w' hS => ?_⟩) HS.out ?_
 ·go_simp
 refine wpAnyH_take (i := 1) (v := nvV n) rfl (by kernel_rfl) (by kernel_rfl) (by kernel_rfl) (fun _ _ _ h => h) (Or.inl ⟨by kernel_rfl, fun w' hS => ?_⟩) HS.out ?_
 ·(obtain ⟨d0, d1, d2, d3, d4, d5, d6, d7⟩ := nv_cells (hS.blk hnl HX0.out (by decide) (by decide)); simp only [Nat.zero_add] at d0 d1 d2 d3 d4 d5 d6 d7; go_simp)
 refine wpAnyH_take (i := 2) (v := .pointer (some ⟨nb, 4, none⟩)) rfl (by kernel_rfl) (by kernel_rfl) (by kernel_rfl) (fun _ _ _ h => h) (Or.inl ⟨by kernel_rfl, fun w' hS => ?_⟩) HS.out ?_
 ·go_simp
 refine wpAnyH_take (i := 3) (v := .int .i64 n.least) rfl (by kernel_rfl) (by kernel_rfl) (by kernel_rfl) (fun _ _ _ h => h) (Or.inl ⟨by kernel_rfl, fun w' hS => ?_⟩) HS.out ?_
 ·(obtain ⟨d0, d1, d2, d3, d4, d5, d6, d7⟩ := nv_cells (hS.blk hnl HX0.out (by decide) (by decide)); simp only [Nat.zero_add] at d0 d1 d2 d3 d4 d5 d6 d7; go_simp)
 refine wpAnyH_take (i := 4) (v := .bool true) rfl (by kernel_rfl) (by kernel_rfl) (by kernel_rfl) (fun _ _ _ h => h) (Or.inl ⟨by kernel_rfl, fun w' hS => ?_⟩) HS.out ?_
 ·go_simp
 refine wpAnyH_take (i := 5) (v := .bool true) rfl (by kernel_rfl) (by kernel_rfl) (by kernel_rfl) (fun _ _ _ h => h) (Or.inl ⟨by kernel_rfl, fun w' hS => ?_⟩) HS.out ?_
 ·go_simp
 refine wpAnyH_take (i := 6) (v := undef) rfl (by kernel_rfl) (by kernel_rfl) (by kernel_rfl) (fun _ _ _ h => h) (Or.inr ⟨by kernel_rfl, rfl⟩) HS.out ?_
 refine wpAnyH_take (i := 7) (v := undef) rfl (by kernel_rfl) (by kernel_rfl) (by kernel_rfl) (fun _ _ _ h => h) (Or.inr ⟨by kernel_rfl, rfl⟩) HS.out ?_
 refine wpAnyH_take (i := 8) (v := undef) rfl (by kernel_rfl) (by kernel_rfl) (by kernel_rfl) (fun _ _ _ h => h) (Or.inr ⟨by kernel_rfl, rfl⟩) HS.out ?_
 refine wpAnyH_take (i := 9) (v := .bool true) rfl (by kernel_rfl) (by kernel_rfl) (by kernel_rfl) (fun _ _ _ h => h) (Or.inl ⟨by kernel_rfl, fun w' hS => ?_⟩) HS.out ?_
 ·go_simp
 refine wpAnyH_take (i := 10) (v := .pointer (some ⟨mb, 0, none⟩)) rfl (by kernel_rfl) (by kernel_rfl) (by kernel_rfl) (fun _ _ _ h => h) (Or.inl ⟨by kernel_rfl, fun w' hS => ?_⟩) HS.out ?_
 ·go_simp
 refine wpAnyH_ready (rs := [11]) (by kernel_rfl) (by simp) ?_
 refine AllReadyH.cons rfl (fun K hK => ?_) AllReadyH.nil
 go_simp
 refine HC1.out.mono ?_
 rintro e w1 ⟨rfl, h1, st1⟩
 have HTx := hide (HS.out.trans st1)
 refine hK.out _ _ HTx.out (fun _ => ?_)
 clear hK K
 have HT1 := hide (HT0.out.trans HTx.out)
 have HX1 := hide (HTx.out.blk hnl HX0.out (by decide) (by decide))
 refine wpAnyH_take (i := 12) (v := .agg #[.pointer (some ⟨mb, 0, none⟩), .int .i64 n.kind, .slice n.sa n.sl n.sc, .slice n.ka n.kl n.kc, .int .i64 n.num, .int .i64 n.least, .int .i64 n.most, .int .i64 n.way, .bool n.fold, .bool true, .bool false, .int .i64 0, .int .i64 (l : Int)]) rfl (by kernel_rfl) (by kernel_rfl) (by kernel_rfl) (fun _ _ _ h => h) (Or.inl ⟨by kernel_rfl, fun w' hS => ?_⟩) HTx.out ?_
 ·go_simp
 refine wpAnyH_ready (rs := [13]) (by kernel_rfl) (by simp) ?_
 refine AllReadyH.cons rfl (fun K hK => ?_) AllReadyH.nil
 go_simp
 obtain ⟨W2, hW2⟩ : ∃ W2, W2 = w1.alloc (rnO mb n true false 0 l) := ⟨_, rfl⟩
 have hb2 : Below w1.heap.size w1 W2 := by rw [hW2]; exact (Below.refl _ _).alloc (Nat.le_refl _) _
 have hy2 : W2.heap[w1.heap.size]? = some (rnO mb n true false 0 l) := by rw [hW2]; exact at_new _ _
 have hs2 := Step.of_below hb2 h1.lt
 have h2 := h1.keep hb2
 have HT2 := hide (HT1.out.trans hs2)
 have HTy := hide (HTx.out.trans hs2)
 have HX2 := hide (hs2.blk hnl HX1.out (by decide) (by decide))
 obtain ⟨rb, hrb⟩ : ∃ rb, rb = w1.heap.size := ⟨_, rfl⟩
 have hrl : mb < rb := by have := h1.lt; omega
 have HRG : Hid (nb < rb) := by have h5 := HTx.out.size; have h6 := HW0.out; show nb < rb; omega
 rw [← hrb] at hy2
 have HY2 := hide hy2
 simp only [rnO] at hW2
 rw [show ((0 : Nat) : Int) = 0 from rfl] at hW2
 rw [← hW2, ← hrb]
 refine hK.out _ _ HTy.out (fun _ => ?_)
 clear hK K
 refine wpAnyH_take (i := 14) (v := .pointer (some ⟨rb, 0, none⟩)) rfl (by kernel_rfl) (by kernel_rfl) (by kernel_rfl) (fun _ _ _ h => h) (Or.inl ⟨by kernel_rfl, fun w' hS => ?_⟩) HTy.out ?_
 ·go_simp
 refine wpAnyH_done (by kernel_rfl) ?_ _
 clear HC1 HT0 HT1 HTx HTy HX0 HX1 h1 st1 hb2 hs2 hW2 hrb hy2 HS
 obtain ⟨d0, d1, d2, d3, d4, d5, d6, d7⟩ := nv_cells HX2.out
 simp only [Nat.zero_add] at d0 d1 d2 d3 d4 d5 d6 d7
 rw [HKA.out, HKL.out] at d2
 obtain ⟨k0, k1, k2, k3, k4, k5, k6, k7⟩ := HK.out _ HT2.out
 have HCf := hide (HFc.out W2 HT2.out)
 go_wp2_with fail
 refine HCf.out.mono ?_
 rintro e W2b ⟨rfl, hbb⟩
 have hsb := Step.of_below hbb h2.lt
 have h2b := h2.keep hbb
 have HT2b := hide (HT2.out.trans hsb)
 have HY2b := hide (hsb.blk hrl HY2.out (by decide) (by decide))
 clear HCf k0 k1 k2 k3 k4 k5 k6 k7 d0 d1 d2 d3 d4 d5 d6 d7 hbb hsb h2 HT2 HY2 HX2
 obtain ⟨W3, hW3⟩ : ∃ W3, W3 = W2b.setCell ⟨rb, 10, none⟩ (.bool false) := ⟨_, rfl⟩
 have fz := rn_free HY2b.out
 obtain ⟨r0, r3, r5, r6, r7, r9, r10, r11, r12⟩ := rn_cells HY2b.out
 have HM3 : Hid (MB W3 mb g s.newL) := by show MB _ _ _ _; rw [hW3]; exact h2b.other HY2b.out (by omega) (by decide) (by decide) (by decide) _ _
 have HT3 : Hid (Step mb w W3) := by show Step _ _ _; rw [hW3]; exact HT2b.out.other (by have := HRG.out; have := HNB.out; omega) hrl _ _
 have HY3 : Hid (W3.heap[rb]? = some (rnO mb n true false 0 l)) := by show _ = _; rw [hW3]; exact rn_watch HY2b.out _
 obtain ⟨Fl, Fm, Fp⟩ := F
 simp only [ftV] at b4 ⊢
 have hfd : ∀ W : World, (Instr.field 127 (.agg #[.int .i64 Fl, .int .i64 Fm, .bool Fp]) 0).run Tryz.prog W = .ok (.int .i64 Fl) W := fun W => by rfl
 go_upto_region 3 with fail
 rw [← hW3]
 clear hW3 fz r0 r3 r5 r6 r7 r9 r10 r11 r12 h2b HT2b HY2b
 obtain ⟨r0, r3, r5, r6, r7, r9, r10, r11, r12⟩ := rn_cells HY3.out
 have HC2 := hide (newC_at HM3.out c (by have e0 := HN0.out; have e1 := HN1.out; have := HS0.out.1; have := HS0.out.2.1; have := HS0.out.2.2; (try simp only [z9]); omega) (by have e0 := HN0.out; have e1 := HN1.out; have := HS0.out.1; have := HS0.out.2.1; have := HS0.out.2.2; (try simp only [z1, z2, z3, z4, z5, z6, z7, z8, z9, za, zb, zc]); omega))
 go_wp2_with fail
 refine HC2.out.mono ?_
 rintro e w4 ⟨rfl, h4, st4⟩
 have HY4 := hide (st4.blk hrl HY3.out (by decide) (by decide))
 have HT4 := hide (HT3.out.trans st4)
 clear HC2 HM3 HT3 HY3 st4 r0 r3 r5 r6 r7 r9 r10 r11 r12
 obtain ⟨W5, hW5⟩ : ∃ W5, W5 = w4.setCell ⟨rb, 11, none⟩ (.int .i64 (c : Int)) := ⟨_, rfl⟩
 have fz := rn_free HY4.out
 obtain ⟨r0, r3, r5, r6, r7, r9, r10, r11, r12⟩ := rn_cells HY4.out
 have HM5 : Hid (MB W5 mb g s.newL.newC) := by show MB _ _ _ _; rw [hW5]; exact h4.other HY4.out (by omega) (by decide) (by decide) (by decide) _ _
 have HT5 : Hid (Step mb w W5) := by show Step _ _ _; rw [hW5]; exact HT4.out.other (by have := HRG.out; have := HNB.out; omega) hrl _ _
 have HY5 : Hid (W5.heap[rb]? = some (rnO mb n true false c l)) := by show _ = _; rw [hW5]; exact rn_done HY4.out _
 go_upto_region 5 with fail
 rw [← hW5]
 clear hW5 fz r0 r3 r5 r6 r7 r9 r10 r11 r12 h4 HT4 HY4
 have HC3 := hide (all_any HM5.out rb hrl n v x true false c l HY5.out HKA.out HKL.out (fun W hW => HK.out W (HT5.out.trans hW)) f HUf.out (fun W s hW hM hh => HF.out W s (HT5.out.trans hW) hM hh) (by have e0 := HN0.out; have e1 := HN1.out; have := HS0.out.1; have := HS0.out.2.1; have := HS0.out.2.2; (try simp only [z5, z8]); omega) HCB.out HB1.out HB2.out HB3.out HFA.out)
 go_wp2_with fail
 refine HC3.out.mono ?_
 rintro e w6 ⟨rfl, h6, st6⟩
 have HH := hide h6
 have HT6 := hide (HT5.out.trans st6)
 clear h6 st6 HC3
 go_wp2
 go_end0
 rw [HE.out]
 exact ⟨rfl, HH.out, HT6.out⟩
variable {w w' : World} {mb : Nat} {g : Int} {s s' : MS}
theorem roundsB1 (h : MB w mb g s) (n v : NV) (x : Addr) (F : FT) (hka : n.ka = some x) (hkl : n.kl = 1) (hK : ∀ W, Step mb w W → NCells W x v) (hF : ∀ W, Step mb w W → Calls Tryz.prog 64 #[nvV v] W fun e w' => e = .returned (ftV F) ∧ Below W.heap.size W w') (f : MS → MS) (hu : Up f) (hf : DoesF mb g w 42 #[.pointer (some ⟨mb, 0, none⟩), nvV v] f) (hl : 0 ≤ n.least) (hm : n.most = -1 ∨ n.least ≤ n.most) (hm0 : n.most ≠ 0) (q1 : ¬ 0 < n.least) (q2 : 0 < n.most) (q3 : ¬ n.least = n.most) (q4 : F.least = 0) (hs : (roundsM n.least n.most n.way F.least f s).fits) : Calls Tryz.prog 112 #[.pointer (some ⟨mb, 0, none⟩), nvV n] w fun e w' => MkE mb g (roundsM n.least n.most n.way F.least f s) w e w' := by
 have HCB : Hid (true = (decide (0 < n.least) || decide (0 < n.most))) := by show _ = _; simp [q1, q2]
 have HWB : Hid (true = (!decide (n.least = n.most) && decide (F.least = 0))) := by show _ = _; simp [q3, q4]
 have HE : Hid (roundsM n.least n.most n.way F.least f s = allM ⟨n.least, n.most, n.way, true, true, s.cnt, s.lab.length⟩ f s.newL.newC) := by show _ = _; unfold roundsM; dsimp only; rw [← HCB.out, ← HWB.out]; rfl
 have HS0 := hide ((rounds_up _ _ _ _ hu s).fits hs)
 have HF := hide hf
 have HK := hide hK
 have HUf := hide hu
 have HKA := hide hka
 have HKL := hide hkl
 have hlt := h.lt
 have HFA : Hid (allM ⟨n.least, n.most, n.way, true, true, s.cnt, s.lab.length⟩ f s.newL.newC).fits := by have hh := hs; rw [HE.out] at hh; exact hh
 obtain ⟨c, hc⟩ : ∃ x, x = s.cnt := ⟨_, rfl⟩
 have HN0 := hide hc
 clear hc
 obtain ⟨l, hl⟩ : ∃ x, x = s.lab.length := ⟨_, rfl⟩
 have HN1 := hide hl
 clear hl
 rw [← HN1.out, ← HN0.out] at HE HFA
 have HFc := hide hF
 have HB1 := hide (show 0 ≤ n.least from hl)
 have HB2 := hide hm
 have HB3 := hide hm0
 obtain ⟨W0, hW0⟩ : ∃ W0, W0 = w.alloc (nvO n) := ⟨_, rfl⟩
 have hb0 : Below w.heap.size w W0 := by rw [hW0]; exact (Below.refl _ _).alloc (Nat.le_refl _) _
 have hx0 : W0.heap[w.heap.size]? = some (nvO n) := by rw [hW0]; exact at_new _ _
 have h0 := h.keep hb0
 have HT0 := hide (Step.of_below hb0 hlt)
 obtain ⟨nb, hnb⟩ : ∃ nb, nb = w.heap.size := ⟨_, rfl⟩
 have hnl : mb < nb := by omega
 have HNB := hide hnb
 rw [← hnb] at hx0
 have HX0 := hide hx0
 simp only [nvO] at hW0
 have HS : Hid (Step mb W0 W0.drew) := Step.of_below (drew1 W0) h0.lt
 have HC1 := hide (newL_at (h0.keep (drew1 W0)) l (by have e0 := HN0.out; have e1 := HN1.out; have := HS0.out.1; have := HS0.out.2.1; have := HS0.out.2.2; (try simp only [z1, z2, z3, z4, z5, z6, z7, z8, z9, za, zb, zc]); omega) (by have e0 := HN0.out; have e1 := HN1.out; have := HS0.out.1; have := HS0.out.2.1; have := HS0.out.2.2; (try simp only [z1, z2, z3, z4, z5, z6, z7, z8, z9, za, zb, zc]); omega))
 have hw0 : W0.heap.size = nb + 1 := by rw [hW0, hnb]; simp
 have HW0 := hide hw0
 have b3 : (n.least == n.most) = false := by simpa using q3
 have b5 : (n.least != n.most) = true := by simpa using q3
 have b4 : (F.least == 0) = true := by simpa using q4
 clear hf hs hu h hK hx0 hb0 hka hkl hF h0 hl hm hm0 hw0 q4
 go_enter Tryz.func112, Tryz.ntmps112
 go_upto_region 1 with fail
 rw [← hW0, ← hnb]
 clear hW0 hnb
 refine wp_region_held (S := fun w' => Step mb W0 w') (by kernel_rfl) ?_
 change wpAnyH _ _ _ _ _ _ _ _ (World.drew _)
 refine wpAnyH_take (i := 0) (v := .pointer (some ⟨mb, 0, none⟩)) rfl (by kernel_rfl) (by kernel_rfl) (by kernel_rfl) (fun _ _ _ h => h) (Or.inl ⟨by kernel_rfl, fun w' hS => ?_⟩) HS.out ?_
 ·go_simp
 refine wpAnyH_take (i := 1) (v := nvV n) rfl (by kernel_rfl) (by kernel_rfl) (by kernel_rfl) (fun _ _ _ h => h) (Or.inl ⟨by kernel_rfl, fun w' hS => ?_⟩) HS.out ?_
 ·(obtain ⟨d0, d1, d2, d3, d4, d5, d6, d7⟩ := nv_cells (hS.blk hnl HX0.out (by decide) (by decide)); simp only [Nat.zero_add] at d0 d1 d2 d3 d4 d5 d6 d7; go_simp)
 refine wpAnyH_take (i := 2) (v := .pointer (some ⟨nb, 4, none⟩)) rfl (by kernel_rfl) (by kernel_rfl) (by kernel_rfl) (fun _ _ _ h => h) (Or.inl ⟨by kernel_rfl, fun w' hS => ?_⟩) HS.out ?_
 ·go_simp
 refine wpAnyH_take (i := 3) (v := .int .i64 n.least) rfl (by kernel_rfl) (by kernel_rfl) (by kernel_rfl) (fun _ _ _ h => h) (Or.inl ⟨by kernel_rfl, fun w' hS => ?_⟩) HS.out ?_
 ·(obtain ⟨d0, d1, d2, d3, d4, d5, d6, d7⟩ := nv_cells (hS.blk hnl HX0.out (by decide) (by decide)); simp only [Nat.zero_add] at d0 d1 d2 d3 d4 d5 d6 d7; go_simp)
 refine wpAnyH_take (i := 4) (v := .bool false) rfl (by kernel_rfl) (by kernel_rfl) (by kernel_rfl) (fun _ _ _ h => h) (Or.inl ⟨by kernel_rfl, fun w' hS => ?_⟩) HS.out ?_
 ·go_simp
 refine wpAnyH_take (i := 5) (v := .bool false) rfl (by kernel_rfl) (by kernel_rfl) (by kernel_rfl) (fun _ _ _ h => h) (Or.inl ⟨by kernel_rfl, fun w' hS => ?_⟩) HS.out ?_
 ·go_simp
 refine wpAnyH_take (i := 6) (v := .pointer (some ⟨nb, 5, none⟩)) rfl (by kernel_rfl) (by kernel_rfl) (by kernel_rfl) (fun _ _ _ h => h) (Or.inl ⟨by kernel_rfl, fun w' hS => ?_⟩) HS.out ?_
 ·go_simp
 refine wpAnyH_take (i := 7) (v := .int .i64 n.most) rfl (by kernel_rfl) (by kernel_rfl) (by kernel_rfl) (fun _ _ _ h => h) (Or.inl ⟨by kernel_rfl, fun w' hS => ?_⟩) HS.out ?_
 ·(obtain ⟨d0, d1, d2, d3, d4, d5, d6, d7⟩ := nv_cells (hS.blk hnl HX0.out (by decide) (by decide)); simp only [Nat.zero_add] at d0 d1 d2 d3 d4 d5 d6 d7; go_simp)
 refine wpAnyH_take (i := 8) (v := .bool true) rfl (by kernel_rfl) (by kernel_rfl) (by kernel_rfl) (fun _ _ _ h => h) (Or.inl ⟨by kernel_rfl, fun w' hS => ?_⟩) HS.out ?_
 ·go_simp
 refine wpAnyH_take (i := 9) (v := .bool true) rfl (by kernel_rfl) (by kernel_rfl) (by kernel_rfl) (fun _ _ _ h => h) (Or.inl ⟨by kernel_rfl, fun w' hS => ?_⟩) HS.out ?_
 ·go_simp
 refine wpAnyH_take (i := 10) (v := .pointer (some ⟨mb, 0, none⟩)) rfl (by kernel_rfl) (by kernel_rfl) (by kernel_rfl) (fun _ _ _ h => h) (Or.inl ⟨by kernel_rfl, fun w' hS => ?_⟩) HS.out ?_
 ·go_simp
 refine wpAnyH_ready (rs := [11]) (by kernel_rfl) (by simp) ?_
 refine AllReadyH.cons rfl (fun K hK => ?_) AllReadyH.nil
 go_simp
 refine HC1.out.mono ?_
 rintro e w1 ⟨rfl, h1, st1⟩
 have HTx := hide (HS.out.trans st1)
 refine hK.out _ _ HTx.out (fun _ => ?_)
 clear hK K
 have HT1 := hide (HT0.out.trans HTx.out)
 have HX1 := hide (HTx.out.blk hnl HX0.out (by decide) (by decide))
 refine wpAnyH_take (i := 12) (v := .agg #[.pointer (some ⟨mb, 0, none⟩), .int .i64 n.kind, .slice n.sa n.sl n.sc, .slice n.ka n.kl n.kc, .int .i64 n.num, .int .i64 n.least, .int .i64 n.most, .int .i64 n.way, .bool n.fold, .bool true, .bool false, .int .i64 0, .int .i64 (l : Int)]) rfl (by kernel_rfl) (by kernel_rfl) (by kernel_rfl) (fun _ _ _ h => h) (Or.inl ⟨by kernel_rfl, fun w' hS => ?_⟩) HTx.out ?_
 ·go_simp
 refine wpAnyH_ready (rs := [13]) (by kernel_rfl) (by simp) ?_
 refine AllReadyH.cons rfl (fun K hK => ?_) AllReadyH.nil
 go_simp
 obtain ⟨W2, hW2⟩ : ∃ W2, W2 = w1.alloc (rnO mb n true false 0 l) := ⟨_, rfl⟩
 have hb2 : Below w1.heap.size w1 W2 := by rw [hW2]; exact (Below.refl _ _).alloc (Nat.le_refl _) _
 have hy2 : W2.heap[w1.heap.size]? = some (rnO mb n true false 0 l) := by rw [hW2]; exact at_new _ _
 have hs2 := Step.of_below hb2 h1.lt
 have h2 := h1.keep hb2
 have HT2 := hide (HT1.out.trans hs2)
 have HTy := hide (HTx.out.trans hs2)
 have HX2 := hide (hs2.blk hnl HX1.out (by decide) (by decide))
 obtain ⟨rb, hrb⟩ : ∃ rb, rb = w1.heap.size := ⟨_, rfl⟩
 have hrl : mb < rb := by have := h1.lt; omega
 have HRG : Hid (nb < rb) := by have h5 := HTx.out.size; have h6 := HW0.out; show nb < rb; omega
 rw [← hrb] at hy2
 have HY2 := hide hy2
 simp only [rnO] at hW2
 rw [show ((0 : Nat) : Int) = 0 from rfl] at hW2
 rw [← hW2, ← hrb]
 refine hK.out _ _ HTy.out (fun _ => ?_)
 clear hK K
 refine wpAnyH_take (i := 14) (v := .pointer (some ⟨rb, 0, none⟩)) rfl (by kernel_rfl) (by kernel_rfl) (by kernel_rfl) (fun _ _ _ h => h) (Or.inl ⟨by kernel_rfl, fun w' hS => ?_⟩) HTy.out ?_
 ·go_simp
 refine wpAnyH_done (by kernel_rfl) ?_ _
 clear HC1 HT0 HT1 HTx HTy HX0 HX1 h1 st1 hb2 hs2 hW2 hrb hy2 HS
 obtain ⟨d0, d1, d2, d3, d4, d5, d6, d7⟩ := nv_cells HX2.out
 simp only [Nat.zero_add] at d0 d1 d2 d3 d4 d5 d6 d7
 rw [HKA.out, HKL.out] at d2
 obtain ⟨k0, k1, k2, k3, k4, k5, k6, k7⟩ := HK.out _ HT2.out
 have HCf := hide (HFc.out W2 HT2.out)
 go_wp2_with fail
 refine HCf.out.mono ?_
 rintro e W2b ⟨rfl, hbb⟩
 have hsb := Step.of_below hbb h2.lt
 have h2b := h2.keep hbb
 have HT2b := hide (HT2.out.trans hsb)
 have HY2b := hide (hsb.blk hrl HY2.out (by decide) (by decide))
 clear HCf k0 k1 k2 k3 k4 k5 k6 k7 d0 d1 d2 d3 d4 d5 d6 d7 hbb hsb h2 HT2 HY2 HX2
 obtain ⟨W3, hW3⟩ : ∃ W3, W3 = W2b.setCell ⟨rb, 10, none⟩ (.bool true) := ⟨_, rfl⟩
 have fz := rn_free HY2b.out
 obtain ⟨r0, r3, r5, r6, r7, r9, r10, r11, r12⟩ := rn_cells HY2b.out
 have HM3 : Hid (MB W3 mb g s.newL) := by show MB _ _ _ _; rw [hW3]; exact h2b.other HY2b.out (by omega) (by decide) (by decide) (by decide) _ _
 have HT3 : Hid (Step mb w W3) := by show Step _ _ _; rw [hW3]; exact HT2b.out.other (by have := HRG.out; have := HNB.out; omega) hrl _ _
 have HY3 : Hid (W3.heap[rb]? = some (rnO mb n true true 0 l)) := by show _ = _; rw [hW3]; exact rn_watch HY2b.out _
 obtain ⟨Fl, Fm, Fp⟩ := F
 simp only [ftV] at b4 ⊢
 have hfd : ∀ W : World, (Instr.field 127 (.agg #[.int .i64 Fl, .int .i64 Fm, .bool Fp]) 0).run Tryz.prog W = .ok (.int .i64 Fl) W := fun W => by rfl
 go_upto_region 3 with fail
 rw [← hW3]
 clear hW3 fz r0 r3 r5 r6 r7 r9 r10 r11 r12 h2b HT2b HY2b
 obtain ⟨r0, r3, r5, r6, r7, r9, r10, r11, r12⟩ := rn_cells HY3.out
 have HC2 := hide (newC_at HM3.out c (by have e0 := HN0.out; have e1 := HN1.out; have := HS0.out.1; have := HS0.out.2.1; have := HS0.out.2.2; (try simp only [z9]); omega) (by have e0 := HN0.out; have e1 := HN1.out; have := HS0.out.1; have := HS0.out.2.1; have := HS0.out.2.2; (try simp only [z1, z2, z3, z4, z5, z6, z7, z8, z9, za, zb, zc]); omega))
 go_wp2_with fail
 refine HC2.out.mono ?_
 rintro e w4 ⟨rfl, h4, st4⟩
 have HY4 := hide (st4.blk hrl HY3.out (by decide) (by decide))
 have HT4 := hide (HT3.out.trans st4)
 clear HC2 HM3 HT3 HY3 st4 r0 r3 r5 r6 r7 r9 r10 r11 r12
 obtain ⟨W5, hW5⟩ : ∃ W5, W5 = w4.setCell ⟨rb, 11, none⟩ (.int .i64 (c : Int)) := ⟨_, rfl⟩
 have fz := rn_free HY4.out
 obtain ⟨r0, r3, r5, r6, r7, r9, r10, r11, r12⟩ := rn_cells HY4.out
 have HM5 : Hid (MB W5 mb g s.newL.newC) := by show MB _ _ _ _; rw [hW5]; exact h4.other HY4.out (by omega) (by decide) (by decide) (by decide) _ _
 have HT5 : Hid (Step mb w W5) := by show Step _ _ _; rw [hW5]; exact HT4.out.other (by have := HRG.out; have := HNB.out; omega) hrl _ _
 have HY5 : Hid (W5.heap[rb]? = some (rnO mb n true true c l)) := by show _ = _; rw [hW5]; exact rn_done HY4.out _
 go_upto_region 5 with fail
 rw [← hW5]
 clear hW5 fz r0 r3 r5 r6 r7 r9 r10 r11 r12 h4 HT4 HY4
 have HC3 := hide (all_any HM5.out rb hrl n v x true true c l HY5.out HKA.out HKL.out (fun W hW => HK.out W (HT5.out.trans hW)) f HUf.out (fun W s hW hM hh => HF.out W s (HT5.out.trans hW) hM hh) (by have e0 := HN0.out; have e1 := HN1.out; have := HS0.out.1; have := HS0.out.2.1; have := HS0.out.2.2; (try simp only [z5, z8]); omega) HCB.out HB1.out HB2.out HB3.out HFA.out)
 go_wp2_with fail
 refine HC3.out.mono ?_
 rintro e w6 ⟨rfl, h6, st6⟩
 have HH := hide h6
 have HT6 := hide (HT5.out.trans st6)
 clear h6 st6 HC3
 go_wp2
 go_end0
 rw [HE.out]
 exact ⟨rfl, HH.out, HT6.out⟩
variable {w w' : World} {mb : Nat} {g : Int} {s s' : MS}
theorem roundsB2 (h : MB w mb g s) (n v : NV) (x : Addr) (F : FT) (hka : n.ka = some x) (hkl : n.kl = 1) (hK : ∀ W, Step mb w W → NCells W x v) (hF : ∀ W, Step mb w W → Calls Tryz.prog 64 #[nvV v] W fun e w' => e = .returned (ftV F) ∧ Below W.heap.size W w') (f : MS → MS) (hu : Up f) (hf : DoesF mb g w 42 #[.pointer (some ⟨mb, 0, none⟩), nvV v] f) (hl : 0 ≤ n.least) (hm : n.most = -1 ∨ n.least ≤ n.most) (hm0 : n.most ≠ 0) (q1 : ¬ 0 < n.least) (q2 : 0 < n.most) (q3 : ¬ n.least = n.most) (q4 : ¬ F.least = 0) (hs : (roundsM n.least n.most n.way F.least f s).fits) : Calls Tryz.prog 112 #[.pointer (some ⟨mb, 0, none⟩), nvV n] w fun e w' => MkE mb g (roundsM n.least n.most n.way F.least f s) w e w' := by
 have HCB : Hid (true = (decide (0 < n.least) || decide (0 < n.most))) := by show _ = _; simp [q1, q2]
 have HWB : Hid (false = (!decide (n.least = n.most) && decide (F.least = 0))) := by show _ = _; simp [q3, q4]
 have HE : Hid (roundsM n.least n.most n.way F.least f s = allM ⟨n.least, n.most, n.way, true, false, s.cnt, s.lab.length⟩ f s.newL.newC) := by show _ = _; unfold roundsM; dsimp only; rw [← HCB.out, ← HWB.out]; rfl
 have HS0 := hide ((rounds_up _ _ _ _ hu s).fits hs)
 have HF := hide hf
 have HK := hide hK
 have HUf := hide hu
 have HKA := hide hka
 have HKL := hide hkl
 have hlt := h.lt
 have HFA : Hid (allM ⟨n.least, n.most, n.way, true, false, s.cnt, s.lab.length⟩ f s.newL.newC).fits := by have hh := hs; rw [HE.out] at hh; exact hh
 obtain ⟨c, hc⟩ : ∃ x, x = s.cnt := ⟨_, rfl⟩
 have HN0 := hide hc
 clear hc
 obtain ⟨l, hl⟩ : ∃ x, x = s.lab.length := ⟨_, rfl⟩
 have HN1 := hide hl
 clear hl
 rw [← HN1.out, ← HN0.out] at HE HFA
 have HFc := hide hF
 have HB1 := hide (show 0 ≤ n.least from hl)
 have HB2 := hide hm
 have HB3 := hide hm0
 obtain ⟨W0, hW0⟩ : ∃ W0, W0 = w.alloc (nvO n) := ⟨_, rfl⟩
 have hb0 : Below w.heap.size w W0 := by rw [hW0]; exact (Below.refl _ _).alloc (Nat.le_refl _) _
 have hx0 : W0.heap[w.heap.size]? = some (nvO n) := by rw [hW0]; exact at_new _ _
 have h0 := h.keep hb0
 have HT0 := hide (Step.of_below hb0 hlt)
 obtain ⟨nb, hnb⟩ : ∃ nb, nb = w.heap.size := ⟨_, rfl⟩
 have hnl : mb < nb := by omega
 have HNB := hide hnb
 rw [← hnb] at hx0
 have HX0 := hide hx0
 simp only [nvO] at hW0
 have HS : Hid (Step mb W0 W0.drew) := Step.of_below (drew1 W0) h0.lt
 have HC1 := hide (newL_at (h0.keep (drew1 W0)) l (by have e0 := HN0.out; have e1 := HN1.out; have := HS0.out.1; have := HS0.out.2.1; have := HS0.out.2.2; (try simp only [z1, z2, z3, z4, z5, z6, z7, z8, z9, za, zb, zc]); omega) (by have e0 := HN0.out; have e1 := HN1.out; have := HS0.out.1; have := HS0.out.2.1; have := HS0.out.2.2; (try simp only [z1, z2, z3, z4, z5, z6, z7, z8, z9, za, zb, zc]); omega))
 have hw0 : W0.heap.size = nb + 1 := by rw [hW0, hnb]; simp
 have HW0 := hide hw0
 have b3 : (n.least == n.most) = false := by simpa using q3
 have b5 : (n.least != n.most) = true := by simpa using q3
 have b4 : (F.least == 0) = false := by simpa using q4
 clear hf hs hu h hK hx0 hb0 hka hkl hF h0 hl hm hm0 hw0 q4
 go_enter Tryz.func112, Tryz.ntmps112
 go_upto_region 1 with fail
 rw [← hW0, ← hnb]
 clear hW0 hnb
 refine wp_region_held (S := fun w' => Step mb W0 w') (by kernel_rfl) ?_
 change wpAnyH _ _ _ _ _ _ _ _ (World.drew _)
 refine wpAnyH_take (i := 0) (v := .pointer (some ⟨mb, 0, none⟩)) rfl (by kernel_rfl) (by kernel_rfl) (by kernel_rfl) (fun _ _ _ h => h) (Or.inl ⟨by kernel_rfl, fun w' hS => ?_⟩) HS.out ?_
 ·go_simp
 refine wpAnyH_take (i := 1) (v := nvV n) rfl (by kernel_rfl) (by kernel_rfl) (by kernel_rfl) (fun _ _ _ h => h) (Or.inl ⟨by kernel_rfl, fun w' hS => ?_⟩) HS.out ?_
 ·(obtain ⟨d0, d1, d2, d3, d4, d5, d6, d7⟩ := nv_cells (hS.blk hnl HX0.out (by decide) (by decide)); simp only [Nat.zero_add] at d0 d1 d2 d3 d4 d5 d6 d7; go_simp)
 refine wpAnyH_take (i := 2) (v := .pointer (some ⟨nb, 4, none⟩)) rfl (by kernel_rfl) (by kernel_rfl) (by kernel_rfl) (fun _ _ _ h => h) (Or.inl ⟨by kernel_rfl, fun w' hS => ?_⟩) HS.out ?_
 ·go_simp
 refine wpAnyH_take (i := 3) (v := .int .i64 n.least) rfl (by kernel_rfl) (by kernel_rfl) (by kernel_rfl) (fun _ _ _ h => h) (Or.inl ⟨by kernel_rfl, fun w' hS => ?_⟩) HS.out ?_
 ·(obtain ⟨d0, d1, d2, d3, d4, d5, d6, d7⟩ := nv_cells (hS.blk hnl HX0.out (by decide) (by decide)); simp only [Nat.zero_add] at d0 d1 d2 d3 d4 d5 d6 d7; go_simp)
 refine wpAnyH_take (i := 4) (v := .bool false) rfl (by kernel_rfl) (by kernel_rfl) (by kernel_rfl) (fun _ _ _ h => h) (Or.inl ⟨by kernel_rfl, fun w' hS => ?_⟩) HS.out ?_
 ·go_simp
 refine wpAnyH_take (i := 5) (v := .bool false) rfl (by kernel_rfl) (by kernel_rfl) (by kernel_rfl) (fun _ _ _ h => h) (Or.inl ⟨by kernel_rfl, fun w' hS => ?_⟩) HS.out ?_
 ·go_simp
 refine wpAnyH_take (i := 6) (v := .pointer (some ⟨nb, 5, none⟩)) rfl (by kernel_rfl) (by kernel_rfl) (by kernel_rfl) (fun _ _ _ h => h) (Or.inl ⟨by kernel_rfl, fun w' hS => ?_⟩) HS.out ?_
 ·go_simp
 refine wpAnyH_take (i := 7) (v := .int .i64 n.most) rfl (by kernel_rfl) (by kernel_rfl) (by kernel_rfl) (fun _ _ _ h => h) (Or.inl ⟨by kernel_rfl, fun w' hS => ?_⟩) HS.out ?_
 ·(obtain ⟨d0, d1, d2, d3, d4, d5, d6, d7⟩ := nv_cells (hS.blk hnl HX0.out (by decide) (by decide)); simp only [Nat.zero_add] at d0 d1 d2 d3 d4 d5 d6 d7; go_simp)
 refine wpAnyH_take (i := 8) (v := .bool true) rfl (by kernel_rfl) (by kernel_rfl) (by kernel_rfl) (fun _ _ _ h => h) (Or.inl ⟨by kernel_rfl, fun w' hS => ?_⟩) HS.out ?_
 ·go_simp
 refine wpAnyH_take (i := 9) (v := .bool true) rfl (by kernel_rfl) (by kernel_rfl) (by kernel_rfl) (fun _ _ _ h => h) (Or.inl ⟨by kernel_rfl, fun w' hS => ?_⟩) HS.out ?_
 ·go_simp
 refine wpAnyH_take (i := 10) (v := .pointer (some ⟨mb, 0, none⟩)) rfl (by kernel_rfl) (by kernel_rfl) (by kernel_rfl) (fun _ _ _ h => h) (Or.inl ⟨by kernel_rfl, fun w' hS => ?_⟩) HS.out ?_
 ·go_simp
 refine wpAnyH_ready (rs := [11]) (by kernel_rfl) (by simp) ?_
 refine AllReadyH.cons rfl (fun K hK => ?_) AllReadyH.nil
 go_simp
 refine HC1.out.mono ?_
 rintro e w1 ⟨rfl, h1, st1⟩
 have HTx := hide (HS.out.trans st1)
 refine hK.out _ _ HTx.out (fun _ => ?_)
 clear hK K
 have HT1 := hide (HT0.out.trans HTx.out)
 have HX1 := hide (HTx.out.blk hnl HX0.out (by decide) (by decide))
 refine wpAnyH_take (i := 12) (v := .agg #[.pointer (some ⟨mb, 0, none⟩), .int .i64 n.kind, .slice n.sa n.sl n.sc, .slice n.ka n.kl n.kc, .int .i64 n.num, .int .i64 n.least, .int .i64 n.most, .int .i64 n.way, .bool n.fold, .bool true, .bool false, .int .i64 0, .int .i64 (l : Int)]) rfl (by kernel_rfl) (by kernel_rfl) (by kernel_rfl) (fun _ _ _ h => h) (Or.inl ⟨by kernel_rfl, fun w' hS => ?_⟩) HTx.out ?_
 ·go_simp
 refine wpAnyH_ready (rs := [13]) (by kernel_rfl) (by simp) ?_
 refine AllReadyH.cons rfl (fun K hK => ?_) AllReadyH.nil
 go_simp
 obtain ⟨W2, hW2⟩ : ∃ W2, W2 = w1.alloc (rnO mb n true false 0 l) := ⟨_, rfl⟩
 have hb2 : Below w1.heap.size w1 W2 := by rw [hW2]; exact (Below.refl _ _).alloc (Nat.le_refl _) _
 have hy2 : W2.heap[w1.heap.size]? = some (rnO mb n true false 0 l) := by rw [hW2]; exact at_new _ _
 have hs2 := Step.of_below hb2 h1.lt
 have h2 := h1.keep hb2
 have HT2 := hide (HT1.out.trans hs2)
 have HTy := hide (HTx.out.trans hs2)
 have HX2 := hide (hs2.blk hnl HX1.out (by decide) (by decide))
 obtain ⟨rb, hrb⟩ : ∃ rb, rb = w1.heap.size := ⟨_, rfl⟩
 have hrl : mb < rb := by have := h1.lt; omega
 have HRG : Hid (nb < rb) := by have h5 := HTx.out.size; have h6 := HW0.out; show nb < rb; omega
 rw [← hrb] at hy2
 have HY2 := hide hy2
 simp only [rnO] at hW2
 rw [show ((0 : Nat) : Int) = 0 from rfl] at hW2
 rw [← hW2, ← hrb]
 refine hK.out _ _ HTy.out (fun _ => ?_)
 clear hK K
 refine wpAnyH_take (i := 14) (v := .pointer (some ⟨rb, 0, none⟩)) rfl (by kernel_rfl) (by kernel_rfl) (by kernel_rfl) (fun _ _ _ h => h) (Or.inl ⟨by kernel_rfl, fun w' hS => ?_⟩) HTy.out ?_
 ·go_simp
 refine wpAnyH_done (by kernel_rfl) ?_ _
 clear HC1 HT0 HT1 HTx HTy HX0 HX1 h1 st1 hb2 hs2 hW2 hrb hy2 HS
 obtain ⟨d0, d1, d2, d3, d4, d5, d6, d7⟩ := nv_cells HX2.out
 simp only [Nat.zero_add] at d0 d1 d2 d3 d4 d5 d6 d7
 rw [HKA.out, HKL.out] at d2
 obtain ⟨k0, k1, k2, k3, k4, k5, k6, k7⟩ := HK.out _ HT2.out
 have HCf := hide (HFc.out W2 HT2.out)
 go_wp2_with fail
 refine HCf.out.mono ?_
 rintro e W2b ⟨rfl, hbb⟩
 have hsb := Step.of_below hbb h2.lt
 have h2b := h2.keep hbb
 have HT2b := hide (HT2.out.trans hsb)
 have HY2b := hide (hsb.blk hrl HY2.out (by decide) (by decide))
 clear HCf k0 k1 k2 k3 k4 k5 k6 k7 d0 d1 d2 d3 d4 d5 d6 d7 hbb hsb h2 HT2 HY2 HX2
 obtain ⟨W3, hW3⟩ : ∃ W3, W3 = W2b.setCell ⟨rb, 10, none⟩ (.bool false) := ⟨_, rfl⟩
 have fz := rn_free HY2b.out
 obtain ⟨r0, r3, r5, r6, r7, r9, r10, r11, r12⟩ := rn_cells HY2b.out
 have HM3 : Hid (MB W3 mb g s.newL) := by show MB _ _ _ _; rw [hW3]; exact h2b.other HY2b.out (by omega) (by decide) (by decide) (by decide) _ _
 have HT3 : Hid (Step mb w W3) := by show Step _ _ _; rw [hW3]; exact HT2b.out.other (by have := HRG.out; have := HNB.out; omega) hrl _ _
 have HY3 : Hid (W3.heap[rb]? = some (rnO mb n true false 0 l)) := by show _ = _; rw [hW3]; exact rn_watch HY2b.out _
 obtain ⟨Fl, Fm, Fp⟩ := F
 simp only [ftV] at b4 ⊢
 have hfd : ∀ W : World, (Instr.field 127 (.agg #[.int .i64 Fl, .int .i64 Fm, .bool Fp]) 0).run Tryz.prog W = .ok (.int .i64 Fl) W := fun W => by rfl
 go_upto_region 3 with fail
 rw [← hW3]
 clear hW3 fz r0 r3 r5 r6 r7 r9 r10 r11 r12 h2b HT2b HY2b
 obtain ⟨r0, r3, r5, r6, r7, r9, r10, r11, r12⟩ := rn_cells HY3.out
 have HC2 := hide (newC_at HM3.out c (by have e0 := HN0.out; have e1 := HN1.out; have := HS0.out.1; have := HS0.out.2.1; have := HS0.out.2.2; (try simp only [z9]); omega) (by have e0 := HN0.out; have e1 := HN1.out; have := HS0.out.1; have := HS0.out.2.1; have := HS0.out.2.2; (try simp only [z1, z2, z3, z4, z5, z6, z7, z8, z9, za, zb, zc]); omega))
 go_wp2_with fail
 refine HC2.out.mono ?_
 rintro e w4 ⟨rfl, h4, st4⟩
 have HY4 := hide (st4.blk hrl HY3.out (by decide) (by decide))
 have HT4 := hide (HT3.out.trans st4)
 clear HC2 HM3 HT3 HY3 st4 r0 r3 r5 r6 r7 r9 r10 r11 r12
 obtain ⟨W5, hW5⟩ : ∃ W5, W5 = w4.setCell ⟨rb, 11, none⟩ (.int .i64 (c : Int)) := ⟨_, rfl⟩
 have fz := rn_free HY4.out
 obtain ⟨r0, r3, r5, r6, r7, r9, r10, r11, r12⟩ := rn_cells HY4.out
 have HM5 : Hid (MB W5 mb g s.newL.newC) := by show MB _ _ _ _; rw [hW5]; exact h4.other HY4.out (by omega) (by decide) (by decide) (by decide) _ _
 have HT5 : Hid (Step mb w W5) := by show Step _ _ _; rw [hW5]; exact HT4.out.other (by have := HRG.out; have := HNB.out; omega) hrl _ _
 have HY5 : Hid (W5.heap[rb]? = some (rnO mb n true false c l)) := by show _ = _; rw [hW5]; exact rn_done HY4.out _
 go_upto_region 5 with fail
 rw [← hW5]
 clear hW5 fz r0 r3 r5 r6 r7 r9 r10 r11 r12 h4 HT4 HY4
 have HC3 := hide (all_any HM5.out rb hrl n v x true false c l HY5.out HKA.out HKL.out (fun W hW => HK.out W (HT5.out.trans hW)) f HUf.out (fun W s hW hM hh => HF.out W s (HT5.out.trans hW) hM hh) (by have e0 := HN0.out; have e1 := HN1.out; have := HS0.out.1; have := HS0.out.2.1; have := HS0.out.2.2; (try simp only [z5, z8]); omega) HCB.out HB1.out HB2.out HB3.out HFA.out)
 go_wp2_with fail
 refine HC3.out.mono ?_
 rintro e w6 ⟨rfl, h6, st6⟩
 have HH := hide h6
 have HT6 := hide (HT5.out.trans st6)
 clear h6 st6 HC3
 go_wp2
 go_end0
 rw [HE.out]
 exact ⟨rfl, HH.out, HT6.out⟩
variable {w w' : World} {mb : Nat} {g : Int} {s s' : MS}
theorem roundsC1 (h : MB w mb g s) (n v : NV) (x : Addr) (F : FT) (hka : n.ka = some x) (hkl : n.kl = 1) (hK : ∀ W, Step mb w W → NCells W x v) (hF : ∀ W, Step mb w W → Calls Tryz.prog 64 #[nvV v] W fun e w' => e = .returned (ftV F) ∧ Below W.heap.size W w') (f : MS → MS) (hu : Up f) (hf : DoesF mb g w 42 #[.pointer (some ⟨mb, 0, none⟩), nvV v] f) (hl : 0 ≤ n.least) (hm : n.most = -1 ∨ n.least ≤ n.most) (hm0 : n.most ≠ 0) (q1 : ¬ 0 < n.least) (q2 : ¬ 0 < n.most) (q3 : ¬ n.least = n.most) (q4 : F.least = 0) (hs : (roundsM n.least n.most n.way F.least f s).fits) : Calls Tryz.prog 112 #[.pointer (some ⟨mb, 0, none⟩), nvV n] w fun e w' => MkE mb g (roundsM n.least n.most n.way F.least f s) w e w' := by
 have HCB : Hid (false = (decide (0 < n.least) || decide (0 < n.most))) := by show _ = _; simp [q1, q2]
 have HWB : Hid (true = (!decide (n.least = n.most) && decide (F.least = 0))) := by show _ = _; simp [q3, q4]
 have HE : Hid (roundsM n.least n.most n.way F.least f s = allM ⟨n.least, n.most, n.way, false, true, s.cnt, s.lab.length⟩ f s.newL.newC) := by show _ = _; unfold roundsM; dsimp only; rw [← HCB.out, ← HWB.out]; rfl
 have HS0 := hide ((rounds_up _ _ _ _ hu s).fits hs)
 have HF := hide hf
 have HK := hide hK
 have HUf := hide hu
 have HKA := hide hka
 have HKL := hide hkl
 have hlt := h.lt
 have HFA : Hid (allM ⟨n.least, n.most, n.way, false, true, s.cnt, s.lab.length⟩ f s.newL.newC).fits := by have hh := hs; rw [HE.out] at hh; exact hh
 obtain ⟨c, hc⟩ : ∃ x, x = s.cnt := ⟨_, rfl⟩
 have HN0 := hide hc
 clear hc
 obtain ⟨l, hl⟩ : ∃ x, x = s.lab.length := ⟨_, rfl⟩
 have HN1 := hide hl
 clear hl
 rw [← HN1.out, ← HN0.out] at HE HFA
 have HFc := hide hF
 have HB1 := hide (show 0 ≤ n.least from hl)
 have HB2 := hide hm
 have HB3 := hide hm0
 obtain ⟨W0, hW0⟩ : ∃ W0, W0 = w.alloc (nvO n) := ⟨_, rfl⟩
 have hb0 : Below w.heap.size w W0 := by rw [hW0]; exact (Below.refl _ _).alloc (Nat.le_refl _) _
 have hx0 : W0.heap[w.heap.size]? = some (nvO n) := by rw [hW0]; exact at_new _ _
 have h0 := h.keep hb0
 have HT0 := hide (Step.of_below hb0 hlt)
 obtain ⟨nb, hnb⟩ : ∃ nb, nb = w.heap.size := ⟨_, rfl⟩
 have hnl : mb < nb := by omega
 have HNB := hide hnb
 rw [← hnb] at hx0
 have HX0 := hide hx0
 simp only [nvO] at hW0
 have HS : Hid (Step mb W0 W0.drew) := Step.of_below (drew1 W0) h0.lt
 have HC1 := hide (newL_at (h0.keep (drew1 W0)) l (by have e0 := HN0.out; have e1 := HN1.out; have := HS0.out.1; have := HS0.out.2.1; have := HS0.out.2.2; (try simp only [z1, z2, z3, z4, z5, z6, z7, z8, z9, za, zb, zc]); omega) (by have e0 := HN0.out; have e1 := HN1.out; have := HS0.out.1; have := HS0.out.2.1; have := HS0.out.2.2; (try simp only [z1, z2, z3, z4, z5, z6, z7, z8, z9, za, zb, zc]); omega))
 have hw0 : W0.heap.size = nb + 1 := by rw [hW0, hnb]; simp
 have HW0 := hide hw0
 have b3 : (n.least == n.most) = false := by simpa using q3
 have b5 : (n.least != n.most) = true := by simpa using q3
 have b4 : (F.least == 0) = true := by simpa using q4
 clear hf hs hu h hK hx0 hb0 hka hkl hF h0 hl hm hm0 hw0 q4
 go_enter Tryz.func112, Tryz.ntmps112
 go_upto_region 1 with fail
 rw [← hW0, ← hnb]
 clear hW0 hnb
 refine wp_region_held (S := fun w' => Step mb W0 w') (by kernel_rfl) ?_
 change wpAnyH _ _ _ _ _ _ _ _ (World.drew _)
 refine wpAnyH_take (i := 0) (v := .pointer (some ⟨mb, 0, none⟩)) rfl (by kernel_rfl) (by kernel_rfl) (by kernel_rfl) (fun _ _ _ h => h) (Or.inl ⟨by kernel_rfl, fun w' hS => ?_⟩) HS.out ?_
 ·go_simp
 refine wpAnyH_take (i := 1) (v := nvV n) rfl (by kernel_rfl) (by kernel_rfl) (by kernel_rfl) (fun _ _ _ h => h) (Or.inl ⟨by kernel_rfl, fun w' hS => ?_⟩) HS.out ?_
 ·(obtain ⟨d0, d1, d2, d3, d4, d5, d6, d7⟩ := nv_cells (hS.blk hnl HX0.out (by decide) (by decide)); simp only [Nat.zero_add] at d0 d1 d2 d3 d4 d5 d6 d7; go_simp)
 refine wpAnyH_take (i := 2) (v := .pointer (some ⟨nb, 4, none⟩)) rfl (by kernel_rfl) (by kernel_rfl) (by kernel_rfl) (fun _ _ _ h => h) (Or.inl ⟨by kernel_rfl, fun w' hS => ?_⟩) HS.out ?_
 ·go_simp
 refine wpAnyH_take (i := 3) (v := .int .i64 n.least) rfl (by kernel_rfl) (by kernel_rfl) (by kernel_rfl) (fun _ _ _ h => h) (Or.inl ⟨by kernel_rfl, fun w' hS => ?_⟩) HS.out ?_
 ·(obtain ⟨d0, d1, d2, d3, d4, d5, d6, d7⟩ := nv_cells (hS.blk hnl HX0.out (by decide) (by decide)); simp only [Nat.zero_add] at d0 d1 d2 d3 d4 d5 d6 d7; go_simp)
 refine wpAnyH_take (i := 4) (v := .bool false) rfl (by kernel_rfl) (by kernel_rfl) (by kernel_rfl) (fun _ _ _ h => h) (Or.inl ⟨by kernel_rfl, fun w' hS => ?_⟩) HS.out ?_
 ·go_simp
 refine wpAnyH_take (i := 5) (v := .bool false) rfl (by kernel_rfl) (by kernel_rfl) (by kernel_rfl) (fun _ _ _ h => h) (Or.inl ⟨by kernel_rfl, fun w' hS => ?_⟩) HS.out ?_
 ·go_simp
 refine wpAnyH_take (i := 6) (v := .pointer (some ⟨nb, 5, none⟩)) rfl (by kernel_rfl) (by kernel_rfl) (by kernel_rfl) (fun _ _ _ h => h) (Or.inl ⟨by kernel_rfl, fun w' hS => ?_⟩) HS.out ?_
 ·go_simp
 refine wpAnyH_take (i := 7) (v := .int .i64 n.most) rfl (by kernel_rfl) (by kernel_rfl) (by kernel_rfl) (fun _ _ _ h => h) (Or.inl ⟨by kernel_rfl, fun w' hS => ?_⟩) HS.out ?_
 ·(obtain ⟨d0, d1, d2, d3, d4, d5, d6, d7⟩ := nv_cells (hS.blk hnl HX0.out (by decide) (by decide)); simp only [Nat.zero_add] at d0 d1 d2 d3 d4 d5 d6 d7; go_simp)
 refine wpAnyH_take (i := 8) (v := .bool false) rfl (by kernel_rfl) (by kernel_rfl) (by kernel_rfl) (fun _ _ _ h => h) (Or.inl ⟨by kernel_rfl, fun w' hS => ?_⟩) HS.out ?_
 ·go_simp
 refine wpAnyH_take (i := 9) (v := .bool false) rfl (by kernel_rfl) (by kernel_rfl) (by kernel_rfl) (fun _ _ _ h => h) (Or.inl ⟨by kernel_rfl, fun w' hS => ?_⟩) HS.out ?_
 ·go_simp
 refine wpAnyH_take (i := 10) (v := .pointer (some ⟨mb, 0, none⟩)) rfl (by kernel_rfl) (by kernel_rfl) (by kernel_rfl) (fun _ _ _ h => h) (Or.inl ⟨by kernel_rfl, fun w' hS => ?_⟩) HS.out ?_
 ·go_simp
 refine wpAnyH_ready (rs := [11]) (by kernel_rfl) (by simp) ?_
 refine AllReadyH.cons rfl (fun K hK => ?_) AllReadyH.nil
 go_simp
 refine HC1.out.mono ?_
 rintro e w1 ⟨rfl, h1, st1⟩
 have HTx := hide (HS.out.trans st1)
 refine hK.out _ _ HTx.out (fun _ => ?_)
 clear hK K
 have HT1 := hide (HT0.out.trans HTx.out)
 have HX1 := hide (HTx.out.blk hnl HX0.out (by decide) (by decide))
 refine wpAnyH_take (i := 12) (v := .agg #[.pointer (some ⟨mb, 0, none⟩), .int .i64 n.kind, .slice n.sa n.sl n.sc, .slice n.ka n.kl n.kc, .int .i64 n.num, .int .i64 n.least, .int .i64 n.most, .int .i64 n.way, .bool n.fold, .bool false, .bool false, .int .i64 0, .int .i64 (l : Int)]) rfl (by kernel_rfl) (by kernel_rfl) (by kernel_rfl) (fun _ _ _ h => h) (Or.inl ⟨by kernel_rfl, fun w' hS => ?_⟩) HTx.out ?_
 ·go_simp
 refine wpAnyH_ready (rs := [13]) (by kernel_rfl) (by simp) ?_
 refine AllReadyH.cons rfl (fun K hK => ?_) AllReadyH.nil
 go_simp
 obtain ⟨W2, hW2⟩ : ∃ W2, W2 = w1.alloc (rnO mb n false false 0 l) := ⟨_, rfl⟩
 have hb2 : Below w1.heap.size w1 W2 := by rw [hW2]; exact (Below.refl _ _).alloc (Nat.le_refl _) _
 have hy2 : W2.heap[w1.heap.size]? = some (rnO mb n false false 0 l) := by rw [hW2]; exact at_new _ _
 have hs2 := Step.of_below hb2 h1.lt
 have h2 := h1.keep hb2
 have HT2 := hide (HT1.out.trans hs2)
 have HTy := hide (HTx.out.trans hs2)
 have HX2 := hide (hs2.blk hnl HX1.out (by decide) (by decide))
 obtain ⟨rb, hrb⟩ : ∃ rb, rb = w1.heap.size := ⟨_, rfl⟩
 have hrl : mb < rb := by have := h1.lt; omega
 have HRG : Hid (nb < rb) := by have h5 := HTx.out.size; have h6 := HW0.out; show nb < rb; omega
 rw [← hrb] at hy2
 have HY2 := hide hy2
 simp only [rnO] at hW2
 rw [show ((0 : Nat) : Int) = 0 from rfl] at hW2
 rw [← hW2, ← hrb]
 refine hK.out _ _ HTy.out (fun _ => ?_)
 clear hK K
 refine wpAnyH_take (i := 14) (v := .pointer (some ⟨rb, 0, none⟩)) rfl (by kernel_rfl) (by kernel_rfl) (by kernel_rfl) (fun _ _ _ h => h) (Or.inl ⟨by kernel_rfl, fun w' hS => ?_⟩) HTy.out ?_
 ·go_simp
 refine wpAnyH_done (by kernel_rfl) ?_ _
 clear HC1 HT0 HT1 HTx HTy HX0 HX1 h1 st1 hb2 hs2 hW2 hrb hy2 HS
 obtain ⟨d0, d1, d2, d3, d4, d5, d6, d7⟩ := nv_cells HX2.out
 simp only [Nat.zero_add] at d0 d1 d2 d3 d4 d5 d6 d7
 rw [HKA.out, HKL.out] at d2
 obtain ⟨k0, k1, k2, k3, k4, k5, k6, k7⟩ := HK.out _ HT2.out
 have HCf := hide (HFc.out W2 HT2.out)
 go_wp2_with fail
 refine HCf.out.mono ?_
 rintro e W2b ⟨rfl, hbb⟩
 have hsb := Step.of_below hbb h2.lt
 have h2b := h2.keep hbb
 have HT2b := hide (HT2.out.trans hsb)
 have HY2b := hide (hsb.blk hrl HY2.out (by decide) (by decide))
 clear HCf k0 k1 k2 k3 k4 k5 k6 k7 d0 d1 d2 d3 d4 d5 d6 d7 hbb hsb h2 HT2 HY2 HX2
 obtain ⟨W3, hW3⟩ : ∃ W3, W3 = W2b.setCell ⟨rb, 10, none⟩ (.bool true) := ⟨_, rfl⟩
 have fz := rn_free HY2b.out
 obtain ⟨r0, r3, r5, r6, r7, r9, r10, r11, r12⟩ := rn_cells HY2b.out
 have HM3 : Hid (MB W3 mb g s.newL) := by show MB _ _ _ _; rw [hW3]; exact h2b.other HY2b.out (by omega) (by decide) (by decide) (by decide) _ _
 have HT3 : Hid (Step mb w W3) := by show Step _ _ _; rw [hW3]; exact HT2b.out.other (by have := HRG.out; have := HNB.out; omega) hrl _ _
 have HY3 : Hid (W3.heap[rb]? = some (rnO mb n false true 0 l)) := by show _ = _; rw [hW3]; exact rn_watch HY2b.out _
 obtain ⟨Fl, Fm, Fp⟩ := F
 simp only [ftV] at b4 ⊢
 have hfd : ∀ W : World, (Instr.field 127 (.agg #[.int .i64 Fl, .int .i64 Fm, .bool Fp]) 0).run Tryz.prog W = .ok (.int .i64 Fl) W := fun W => by rfl
 go_upto_region 3 with fail
 rw [← hW3]
 clear hW3 fz r0 r3 r5 r6 r7 r9 r10 r11 r12 h2b HT2b HY2b
 obtain ⟨r0, r3, r5, r6, r7, r9, r10, r11, r12⟩ := rn_cells HY3.out
 have HC2 := hide (newC_at HM3.out c (by have e0 := HN0.out; have e1 := HN1.out; have := HS0.out.1; have := HS0.out.2.1; have := HS0.out.2.2; (try simp only [z9]); omega) (by have e0 := HN0.out; have e1 := HN1.out; have := HS0.out.1; have := HS0.out.2.1; have := HS0.out.2.2; (try simp only [z1, z2, z3, z4, z5, z6, z7, z8, z9, za, zb, zc]); omega))
 go_wp2_with fail
 refine HC2.out.mono ?_
 rintro e w4 ⟨rfl, h4, st4⟩
 have HY4 := hide (st4.blk hrl HY3.out (by decide) (by decide))
 have HT4 := hide (HT3.out.trans st4)
 clear HC2 HM3 HT3 HY3 st4 r0 r3 r5 r6 r7 r9 r10 r11 r12
 obtain ⟨W5, hW5⟩ : ∃ W5, W5 = w4.setCell ⟨rb, 11, none⟩ (.int .i64 (c : Int)) := ⟨_, rfl⟩
 have fz := rn_free HY4.out
 obtain ⟨r0, r3, r5, r6, r7, r9, r10, r11, r12⟩ := rn_cells HY4.out
 have HM5 : Hid (MB W5 mb g s.newL.newC) := by show MB _ _ _ _; rw [hW5]; exact h4.other HY4.out (by omega) (by decide) (by decide) (by decide) _ _
 have HT5 : Hid (Step mb w W5) := by show Step _ _ _; rw [hW5]; exact HT4.out.other (by have := HRG.out; have := HNB.out; omega) hrl _ _
 have HY5 : Hid (W5.heap[rb]? = some (rnO mb n false true c l)) := by show _ = _; rw [hW5]; exact rn_done HY4.out _
 go_upto_region 5 with fail
 rw [← hW5]
 clear hW5 fz r0 r3 r5 r6 r7 r9 r10 r11 r12 h4 HT4 HY4
 have HC3 := hide (all_any HM5.out rb hrl n v x false true c l HY5.out HKA.out HKL.out (fun W hW => HK.out W (HT5.out.trans hW)) f HUf.out (fun W s hW hM hh => HF.out W s (HT5.out.trans hW) hM hh) (by have e0 := HN0.out; have e1 := HN1.out; have := HS0.out.1; have := HS0.out.2.1; have := HS0.out.2.2; (try simp only [z5, z8]); omega) HCB.out HB1.out HB2.out HB3.out HFA.out)
 go_wp2_with fail
 refine HC3.out.mono ?_
 rintro e w6 ⟨rfl, h6, st6⟩
 have HH := hide h6
 have HT6 := hide (HT5.out.trans st6)
 clear h6 st6 HC3
 go_wp2
 go_end0
 rw [HE.out]
 exact ⟨rfl, HH.out, HT6.out⟩
variable {w w' : World} {mb : Nat} {g : Int} {s s' : MS}
theorem roundsC2 (h : MB w mb g s) (n v : NV) (x : Addr) (F : FT) (hka : n.ka = some x) (hkl : n.kl = 1) (hK : ∀ W, Step mb w W → NCells W x v) (hF : ∀ W, Step mb w W → Calls Tryz.prog 64 #[nvV v] W fun e w' => e = .returned (ftV F) ∧ Below W.heap.size W w') (f : MS → MS) (hu : Up f) (hf : DoesF mb g w 42 #[.pointer (some ⟨mb, 0, none⟩), nvV v] f) (hl : 0 ≤ n.least) (hm : n.most = -1 ∨ n.least ≤ n.most) (hm0 : n.most ≠ 0) (q1 : ¬ 0 < n.least) (q2 : ¬ 0 < n.most) (q3 : ¬ n.least = n.most) (q4 : ¬ F.least = 0) (hs : (roundsM n.least n.most n.way F.least f s).fits) : Calls Tryz.prog 112 #[.pointer (some ⟨mb, 0, none⟩), nvV n] w fun e w' => MkE mb g (roundsM n.least n.most n.way F.least f s) w e w' := by
 have HCB : Hid (false = (decide (0 < n.least) || decide (0 < n.most))) := by show _ = _; simp [q1, q2]
 have HWB : Hid (false = (!decide (n.least = n.most) && decide (F.least = 0))) := by show _ = _; simp [q3, q4]
 have HE : Hid (roundsM n.least n.most n.way F.least f s = allM ⟨n.least, n.most, n.way, false, false, 0, s.lab.length⟩ f s.newL) := by show _ = _; unfold roundsM; dsimp only; rw [← HCB.out, ← HWB.out]; rfl
 have HS0 := hide ((rounds_up _ _ _ _ hu s).fits hs)
 have HF := hide hf
 have HK := hide hK
 have HUf := hide hu
 have HKA := hide hka
 have HKL := hide hkl
 have hlt := h.lt
 have HFA : Hid (allM ⟨n.least, n.most, n.way, false, false, 0, s.lab.length⟩ f s.newL).fits := by have hh := hs; rw [HE.out] at hh; exact hh
 obtain ⟨c, hc⟩ : ∃ x, x = s.cnt := ⟨_, rfl⟩
 have HN0 := hide hc
 clear hc
 obtain ⟨l, hl⟩ : ∃ x, x = s.lab.length := ⟨_, rfl⟩
 have HN1 := hide hl
 clear hl
 rw [← HN1.out] at HE HFA
 have HFc := hide hF
 have HB1 := hide (show 0 ≤ n.least from hl)
 have HB2 := hide hm
 have HB3 := hide hm0
 obtain ⟨W0, hW0⟩ : ∃ W0, W0 = w.alloc (nvO n) := ⟨_, rfl⟩
 have hb0 : Below w.heap.size w W0 := by rw [hW0]; exact (Below.refl _ _).alloc (Nat.le_refl _) _
 have hx0 : W0.heap[w.heap.size]? = some (nvO n) := by rw [hW0]; exact at_new _ _
 have h0 := h.keep hb0
 have HT0 := hide (Step.of_below hb0 hlt)
 obtain ⟨nb, hnb⟩ : ∃ nb, nb = w.heap.size := ⟨_, rfl⟩
 have hnl : mb < nb := by omega
 have HNB := hide hnb
 rw [← hnb] at hx0
 have HX0 := hide hx0
 simp only [nvO] at hW0
 have HS : Hid (Step mb W0 W0.drew) := Step.of_below (drew1 W0) h0.lt
 have HC1 := hide (newL_at (h0.keep (drew1 W0)) l (by have e0 := HN0.out; have e1 := HN1.out; have := HS0.out.1; have := HS0.out.2.1; have := HS0.out.2.2; (try simp only [z1, z2, z3, z4, z5, z6, z7, z8, z9, za, zb, zc]); omega) (by have e0 := HN0.out; have e1 := HN1.out; have := HS0.out.1; have := HS0.out.2.1; have := HS0.out.2.2; (try simp only [z1, z2, z3, z4, z5, z6, z7, z8, z9, za, zb, zc]); omega))
 have hw0 : W0.heap.size = nb + 1 := by rw [hW0, hnb]; simp
 have HW0 := hide hw0
 have b3 : (n.least == n.most) = false := by simpa using q3
 have b5 : (n.least != n.most) = true := by simpa using q3
 have b4 : (F.least == 0) = false := by simpa using q4
 clear hf hs hu h hK hx0 hb0 hka hkl hF h0 hl hm hm0 hw0 q4
 go_enter Tryz.func112, Tryz.ntmps112
 go_upto_region 1 with fail
 rw [← hW0, ← hnb]
 clear hW0 hnb
 refine wp_region_held (S := fun w' => Step mb W0 w') (by kernel_rfl) ?_
 change wpAnyH _ _ _ _ _ _ _ _ (World.drew _)
 refine wpAnyH_take (i := 0) (v := .pointer (some ⟨mb, 0, none⟩)) rfl (by kernel_rfl) (by kernel_rfl) (by kernel_rfl) (fun _ _ _ h => h) (Or.inl ⟨by kernel_rfl, fun w' hS => ?_⟩) HS.out ?_
 ·go_simp
 refine wpAnyH_take (i := 1) (v := nvV n) rfl (by kernel_rfl) (by kernel_rfl) (by kernel_rfl) (fun _ _ _ h => h) (Or.inl ⟨by kernel_rfl, fun w' hS => ?_⟩) HS.out ?_
 ·(obtain ⟨d0, d1, d2, d3, d4, d5, d6, d7⟩ := nv_cells (hS.blk hnl HX0.out (by decide) (by decide)); simp only [Nat.zero_add] at d0 d1 d2 d3 d4 d5 d6 d7; go_simp)
 refine wpAnyH_take (i := 2) (v := .pointer (some ⟨nb, 4, none⟩)) rfl (by kernel_rfl) (by kernel_rfl) (by kernel_rfl) (fun _ _ _ h => h) (Or.inl ⟨by kernel_rfl, fun w' hS => ?_⟩) HS.out ?_
 ·go_simp
 refine wpAnyH_take (i := 3) (v := .int .i64 n.least) rfl (by kernel_rfl) (by kernel_rfl) (by kernel_rfl) (fun _ _ _ h => h) (Or.inl ⟨by kernel_rfl, fun w' hS => ?_⟩) HS.out ?_
 ·(obtain ⟨d0, d1, d2, d3, d4, d5, d6, d7⟩ := nv_cells (hS.blk hnl HX0.out (by decide) (by decide)); simp only [Nat.zero_add] at d0 d1 d2 d3 d4 d5 d6 d7; go_simp)
 refine wpAnyH_take (i := 4) (v := .bool false) rfl (by kernel_rfl) (by kernel_rfl) (by kernel_rfl) (fun _ _ _ h => h) (Or.inl ⟨by kernel_rfl, fun w' hS => ?_⟩) HS.out ?_
 ·go_simp
 refine wpAnyH_take (i := 5) (v := .bool false) rfl (by kernel_rfl) (by kernel_rfl) (by kernel_rfl) (fun _ _ _ h => h) (Or.inl ⟨by kernel_rfl, fun w' hS => ?_⟩) HS.out ?_
 ·go_simp
 refine wpAnyH_take (i := 6) (v := .pointer (some ⟨nb, 5, none⟩)) rfl (by kernel_rfl) (by kernel_rfl) (by kernel_rfl) (fun _ _ _ h => h) (Or.inl ⟨by kernel_rfl, fun w' hS => ?_⟩) HS.out ?_
 ·go_simp
 refine wpAnyH_take (i := 7) (v := .int .i64 n.most) rfl (by kernel_rfl) (by kernel_rfl) (by kernel_rfl) (fun _ _ _ h => h) (Or.inl ⟨by kernel_rfl, fun w' hS => ?_⟩) HS.out ?_
 ·(obtain ⟨d0, d1, d2, d3, d4, d5, d6, d7⟩ := nv_cells (hS.blk hnl HX0.out (by decide) (by decide)); simp only [Nat.zero_add] at d0 d1 d2 d3 d4 d5 d6 d7; go_simp)
 refine wpAnyH_take (i := 8) (v := .bool false) rfl (by kernel_rfl) (by kernel_rfl) (by kernel_rfl) (fun _ _ _ h => h) (Or.inl ⟨by kernel_rfl, fun w' hS => ?_⟩) HS.out ?_
 ·go_simp
 refine wpAnyH_take (i := 9) (v := .bool false) rfl (by kernel_rfl) (by kernel_rfl) (by kernel_rfl) (fun _ _ _ h => h) (Or.inl ⟨by kernel_rfl, fun w' hS => ?_⟩) HS.out ?_
 ·go_simp
 refine wpAnyH_take (i := 10) (v := .pointer (some ⟨mb, 0, none⟩)) rfl (by kernel_rfl) (by kernel_rfl) (by kernel_rfl) (fun _ _ _ h => h) (Or.inl ⟨by kernel_rfl, fun w' hS => ?_⟩) HS.out ?_
 ·go_simp
 refine wpAnyH_ready (rs := [11]) (by kernel_rfl) (by simp) ?_
 refine AllReadyH.cons rfl (fun K hK => ?_) AllReadyH.nil
 go_simp
 refine HC1.out.mono ?_
 rintro e w1 ⟨rfl, h1, st1⟩
 have HTx := hide (HS.out.trans st1)
 refine hK.out _ _ HTx.out (fun _ => ?_)
 clear hK K
 have HT1 := hide (HT0.out.trans HTx.out)
 have HX1 := hide (HTx.out.blk hnl HX0.out (by decide) (by decide))
 refine wpAnyH_take (i := 12) (v := .agg #[.pointer (some ⟨mb, 0, none⟩), .int .i64 n.kind, .slice n.sa n.sl n.sc, .slice n.ka n.kl n.kc, .int .i64 n.num, .int .i64 n.least, .int .i64 n.most, .int .i64 n.way, .bool n.fold, .bool false, .bool false, .int .i64 0, .int .i64 (l : Int)]) rfl (by kernel_rfl) (by kernel_rfl) (by kernel_rfl) (fun _ _ _ h => h) (Or.inl ⟨by kernel_rfl, fun w' hS => ?_⟩) HTx.out ?_
 ·go_simp
 refine wpAnyH_ready (rs := [13]) (by kernel_rfl) (by simp) ?_
 refine AllReadyH.cons rfl (fun K hK => ?_) AllReadyH.nil
 go_simp
 obtain ⟨W2, hW2⟩ : ∃ W2, W2 = w1.alloc (rnO mb n false false 0 l) := ⟨_, rfl⟩
 have hb2 : Below w1.heap.size w1 W2 := by rw [hW2]; exact (Below.refl _ _).alloc (Nat.le_refl _) _
 have hy2 : W2.heap[w1.heap.size]? = some (rnO mb n false false 0 l) := by rw [hW2]; exact at_new _ _
 have hs2 := Step.of_below hb2 h1.lt
 have h2 := h1.keep hb2
 have HT2 := hide (HT1.out.trans hs2)
 have HTy := hide (HTx.out.trans hs2)
 have HX2 := hide (hs2.blk hnl HX1.out (by decide) (by decide))
 obtain ⟨rb, hrb⟩ : ∃ rb, rb = w1.heap.size := ⟨_, rfl⟩
 have hrl : mb < rb := by have := h1.lt; omega
 have HRG : Hid (nb < rb) := by have h5 := HTx.out.size; have h6 := HW0.out; show nb < rb; omega
 rw [← hrb] at hy2
 have HY2 := hide hy2
 simp only [rnO] at hW2
 rw [show ((0 : Nat) : Int) = 0 from rfl] at hW2
 rw [← hW2, ← hrb]
 refine hK.out _ _ HTy.out (fun _ => ?_)
 clear hK K
 refine wpAnyH_take (i := 14) (v := .pointer (some ⟨rb, 0, none⟩)) rfl (by kernel_rfl) (by kernel_rfl) (by kernel_rfl) (fun _ _ _ h => h) (Or.inl ⟨by kernel_rfl, fun w' hS => ?_⟩) HTy.out ?_
 ·go_simp
 refine wpAnyH_done (by kernel_rfl) ?_ _
 clear HC1 HT0 HT1 HTx HTy HX0 HX1 h1 st1 hb2 hs2 hW2 hrb hy2 HS
 obtain ⟨d0, d1, d2, d3, d4, d5, d6, d7⟩ := nv_cells HX2.out
 simp only [Nat.zero_add] at d0 d1 d2 d3 d4 d5 d6 d7
 rw [HKA.out, HKL.out] at d2
 obtain ⟨k0, k1, k2, k3, k4, k5, k6, k7⟩ := HK.out _ HT2.out
 have HCf := hide (HFc.out W2 HT2.out)
 go_wp2_with fail
 refine HCf.out.mono ?_
 rintro e W2b ⟨rfl, hbb⟩
 have hsb := Step.of_below hbb h2.lt
 have h2b := h2.keep hbb
 have HT2b := hide (HT2.out.trans hsb)
 have HY2b := hide (hsb.blk hrl HY2.out (by decide) (by decide))
 clear HCf k0 k1 k2 k3 k4 k5 k6 k7 d0 d1 d2 d3 d4 d5 d6 d7 hbb hsb h2 HT2 HY2 HX2
 obtain ⟨W3, hW3⟩ : ∃ W3, W3 = W2b.setCell ⟨rb, 10, none⟩ (.bool false) := ⟨_, rfl⟩
 have fz := rn_free HY2b.out
 obtain ⟨r0, r3, r5, r6, r7, r9, r10, r11, r12⟩ := rn_cells HY2b.out
 have HM3 : Hid (MB W3 mb g s.newL) := by show MB _ _ _ _; rw [hW3]; exact h2b.other HY2b.out (by omega) (by decide) (by decide) (by decide) _ _
 have HT3 : Hid (Step mb w W3) := by show Step _ _ _; rw [hW3]; exact HT2b.out.other (by have := HRG.out; have := HNB.out; omega) hrl _ _
 have HY3 : Hid (W3.heap[rb]? = some (rnO mb n false false 0 l)) := by show _ = _; rw [hW3]; exact rn_watch HY2b.out _
 obtain ⟨Fl, Fm, Fp⟩ := F
 simp only [ftV] at b4 ⊢
 have hfd : ∀ W : World, (Instr.field 127 (.agg #[.int .i64 Fl, .int .i64 Fm, .bool Fp]) 0).run Tryz.prog W = .ok (.int .i64 Fl) W := fun W => by rfl
 go_upto_region 3 with fail
 rw [← hW3]
 clear hW3 fz r0 r3 r5 r6 r7 r9 r10 r11 r12 h2b HT2b HY2b
 obtain ⟨r0, r3, r5, r6, r7, r9, r10, r11, r12⟩ := rn_cells HY3.out
 have HC3 := hide (all_any HM3.out rb hrl n v x false false 0 l HY3.out HKA.out HKL.out (fun W hW => HK.out W (HT3.out.trans hW)) f HUf.out (fun W s hW hM hh => HF.out W s (HT3.out.trans hW) hM hh) (by have e0 := HN0.out; have e1 := HN1.out; have := HS0.out.1; have := HS0.out.2.1; have := HS0.out.2.2; (try simp only [z8]); omega) HCB.out HB1.out HB2.out HB3.out HFA.out)
 go_wp2_with fail
 refine HC3.out.mono ?_
 rintro e w6 ⟨rfl, h6, st6⟩
 have HH := hide h6
 have HT6 := hide (HT3.out.trans st6)
 clear h6 st6 HC3
 go_wp2
 go_end0
 rw [HE.out]
 exact ⟨rfl, HH.out, HT6.out⟩
end Go.Proofs.YtfnndcbjklppeaaGreatDoor.Mk
