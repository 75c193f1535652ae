import Derived.Test.YtfnndcbjklppeaaGreatDoorVH
set_option maxHeartbeats 8000000
set_option linter.unusedVariables false
set_option maxRecDepth 100000
namespace Go.Proofs.YtfnndcbjklppeaaGreatDoor.Mk
open Go.RowKit
variable {w w' : World} {mb : Nat} {g : Int} {s s' : MS}
theorem rounds_any (h : MB w mb g s) (n v : NV) (x : Addr) (F : FT) (hka : n.ka = some x) (hkl : n.kl = 1) (hK : ∀ W, Step mb w W → NCells W x v) (hF : ∀ W, Step mb w W → Calls Tryz.prog 64 #[nvV v] W fun e w' => e = .returned (ftV F) ∧ Below W.heap.size W w') (f : MS → MS) (hu : Up f) (hf : DoesF mb g w 42 #[.pointer (some ⟨mb, 0, none⟩), nvV v] f) (hl : 0 ≤ n.least) (hm : n.most = -1 ∨ n.least ≤ n.most) (hm0 : n.most ≠ 0) (hs : (roundsM n.least n.most n.way F.least f s).fits) : Calls Tryz.prog 112 #[.pointer (some ⟨mb, 0, none⟩), nvV n] w fun e w' => MkE mb g (roundsM n.least n.most n.way F.least f s) w e w' := by
 by_cases q1 : 0 < n.least
 ·by_cases q3 : n.least = n.most
  ·exact roundsA0 h n v x F hka hkl hK hF f hu hf hl hm hm0 q1 q3 hs
  ·by_cases q4 : F.least = 0
   ·exact roundsA1 h n v x F hka hkl hK hF f hu hf hl hm hm0 q1 q3 q4 hs
   ·exact roundsA2 h n v x F hka hkl hK hF f hu hf hl hm hm0 q1 q3 q4 hs
 ·by_cases q2 : 0 < n.most
  ·by_cases q4 : F.least = 0
   ·exact roundsB1 h n v x F hka hkl hK hF f hu hf hl hm hm0 q1 q2 (by omega) q4 hs
   ·exact roundsB2 h n v x F hka hkl hK hF f hu hf hl hm hm0 q1 q2 (by omega) q4 hs
  ·by_cases q4 : F.least = 0
   ·exact roundsC1 h n v x F hka hkl hK hF f hu hf hl hm hm0 q1 q2 (by omega) q4 hs
   ·exact roundsC2 h n v x F hka hkl hK hF f hu hf hl hm hm0 q1 q2 (by omega) q4 hs
theorem cloR (n : NV) (pb nb : Nat) (hpl : mb < pb) (hnl : mb < nb) (hp : w.heap[pb]? = some (.cells #[.pointer (some ⟨mb, 0, none⟩)] 103)) (hn : w.heap[nb]? = some (nvO n)) (f : MS → MS) (hf : DoesF mb g w 112 #[.pointer (some ⟨mb, 0, none⟩), nvV n] f) : DoesF mb g w 111 #[.pointer (some ⟨pb, 0, none⟩), .pointer (some ⟨nb, 0, none⟩)] f := by
 intro W s hst hM hfit
 have p0 : W.cell? ⟨pb, 0, none⟩ = some (.pointer (some ⟨mb, 0, none⟩)) := by simp [World.cell?, hst.blk hpl hp (by decide) (by decide)]
 obtain ⟨d0, d1, d2, d3, d4, d5, d6, d7⟩ := nv_cells (hst.blk hnl hn (by decide) (by decide))
 simp only [Nat.zero_add] at d0 d1 d2 d3 d4 d5 d6 d7
 have HC := hide (hf W s hst hM hfit)
 clear hst hM hp hn hf hfit
 go_enter Tryz.func111, Tryz.ntmps111
 go_wp2_with fail
 refine HC.out.mono ?_
 rintro e w1 ⟨rfl, h1, st1⟩
 have HH := hide h1
 have HT := hide st1
 clear h1 st1 HC
 go_wp2
 go_end0
 exact ⟨rfl, HH.out, HT.out⟩
theorem DoesF.step {w W : World} {k : Nat} {cs : Array Value} {f : MS → MS} (h : DoesF mb g w k cs f) (st : Step mb w W) : DoesF mb g W k cs f := fun W' s hst hM hf => h W' s (st.trans hst) hM hf
theorem entersR (args : Array Value) (w : World) : (callFunc 111 args).run Tryz.prog w = .ok (.enter 111 args) w := by first | rfl | kernel_rfl
theorem two_box (h : MB w mb g s) (n : NV) : ∃ W, W = (w.alloc (.cells #[.pointer (some ⟨mb, 0, none⟩)] 103)).alloc (nvO n) ∧ MB W mb g s ∧ Step mb w W ∧ W.heap[w.heap.size]? = some (.cells #[.pointer (some ⟨mb, 0, none⟩)] 103) ∧ W.heap[w.heap.size + 1]? = some (nvO n) := by
 refine ⟨_, rfl, ?_, ?_, at_old (at_new _ _), at_new' _ _ (by simp)⟩
 ·exact h.keep (two_below _ _ _)
 ·exact Step.of_below (two_below _ _ _) h.lt
theorem repeat_any (h : MB w mb g s) (n v : NV) (x : Addr) (F : FT) (hka : n.ka = some x) (hkl : n.kl = 1) (hK : ∀ W, Step mb w W → NCells W x v) (hF : ∀ W, Step mb w W → Calls Tryz.prog 64 #[nvV v] W fun e w' => e = .returned (ftV F) ∧ Below W.heap.size W w') (f : MS → MS) (hu : Up f) (hf : DoesF mb g w 42 #[.pointer (some ⟨mb, 0, none⟩), nvV v] f) (hl : 0 ≤ n.least) (hm : n.most = -1 ∨ n.least ≤ n.most) (hs : (repM n.least n.most n.way F.least f s).fits) : Calls Tryz.prog 68 #[.pointer (some ⟨mb, 0, none⟩), nvV n] w fun e w' => MkE mb g (repM n.least n.most n.way F.least f s) w e w' := by
 have hlt := h.lt
 obtain ⟨W, hW, hM, hT, hp, hn⟩ := two_box h n
 have HT := hide hT
 have HR : Hid (n.most ≠ 0 → DoesF mb g W 112 #[.pointer (some ⟨mb, 0, none⟩), nvV n] (roundsM n.least n.most n.way F.least f)) := fun hm0 W1 s1 hst hM1 hf1 => rounds_any hM1 n v x F hka hkl (fun W2 h2 => hK W2 (hT.trans (hst.trans h2))) (fun W2 h2 => hF W2 (hT.trans (hst.trans h2))) f hu (hf.step (hT.trans hst)) hl hm hm0 hf1
 have p0 : W.cell? ⟨w.heap.size, 0, none⟩ = some (.pointer (some ⟨mb, 0, none⟩)) := by simp [World.cell?, hp]
 obtain ⟨d0, d1, d2, d3, d4, d5, d6, d7⟩ := nv_cells hn
 simp only [Nat.zero_add] at d0 d1 d2 d3 d4 d5 d6 d7
 simp only [nvO] at hW
 by_cases q0 : n.most = 0
 ·have HE : Hid (repM n.least n.most n.way F.least f s = s) := by show _ = _; unfold repM; rw [if_pos q0]
  rw [HE.out]
  have b0 : (n.most == 0) = true := by simpa using q0
  have HM := hide hM
  clear h hp hn hka hkl hK hF hf hl hm hs hT hM HE HR q0 hu
  go_enter Tryz.func68, Tryz.ntmps68
  go_upto_region 2 with fail
  rw [← hW]
  clear hW
  go_wp2
  go_end0
  exact ⟨rfl, HM.out, HT.out⟩
 ·have b0 : (n.most == 0) = false := by simpa using q0
  by_cases q3 : n.way = 3
  ·have HE : Hid (repM n.least n.most n.way F.least f s = firstM false (roundsM n.least n.most n.way F.least f) s) := by show _ = _; unfold repM; rw [if_neg q0, if_pos q3]
   rw [HE.out] at hs ⊢
   have b3 : (n.way == 3) = true := by simpa using q3
   have HC := hide (first_any hM false 111 #[.pointer (some ⟨w.heap.size, 0, none⟩), .pointer (some ⟨w.heap.size + 1, 0, none⟩)] entersR _ (rounds_up _ _ _ _ hu) (cloR n _ _ hlt (by omega) hp hn _ (HR.out q0)) hs)
   clear h hp hn hka hkl hK hF hf hl hm hs hT hM HE HR q0 q3 hu
   go_enter Tryz.func68, Tryz.ntmps68
   go_upto_region 2 with fail
   rw [← hW]
   clear hW
   go_wp2_with fail
   refine HC.out.mono ?_
   rintro e w1 ⟨rfl, h1, st1⟩
   have HH := hide h1
   have HT1 := hide (HT.out.trans st1)
   clear h1 st1 HC
   go_wp2
   go_end0
   exact ⟨rfl, HH.out, HT1.out⟩
  ·have HE : Hid (repM n.least n.most n.way F.least f s = roundsM n.least n.most n.way F.least f s) := by show _ = _; unfold repM; rw [if_neg q0, if_neg q3]
   rw [HE.out] at hs ⊢
   have b3 : (n.way == 3) = false := by simpa using q3
   have HC := hide (HR.out q0 W s (Step.refl _ _) hM hs)
   clear h hp hn hka hkl hK hF hf hl hm hs hT hM HE HR q0 q3 hu
   go_enter Tryz.func68, Tryz.ntmps68
   go_upto_region 2 with fail
   rw [← hW]
   clear hW
   go_wp2_with fail
   refine HC.out.mono ?_
   rintro e w1 ⟨rfl, h1, st1⟩
   have HH := hide h1
   have HT1 := hide (HT.out.trans st1)
   clear h1 st1 HC
   go_wp2
   go_end0
   exact ⟨rfl, HH.out, HT1.out⟩
variable {w w' : World} {mb : Nat} {g : Int} {s s' : MS}
theorem mkE_next {e : Nat} {ts : List Tr} {j : Nat} (hj : j + 1 < ts.length) (s : MS) : mkE e (ts.drop j) s = mkE e (ts.drop (j + 1)) (splitM e (mkT (ts[j]'(by omega))) s) := by
 rw [List.drop_eq_getElem_cons (by omega : j < ts.length), mkE, if_neg]
 intro h
 have : (ts.drop (j + 1)).length = 0 := by rw [List.isEmpty_iff.1 h]; rfl
 rw [List.length_drop] at this
 omega
theorem mkE_last {e : Nat} {ts : List Tr} {j : Nat} (hj : j < ts.length) (hl : j + 1 = ts.length) (s : MS) : mkE e (ts.drop j) s = (mkT ts[j] s).stand e := by
 rw [List.drop_eq_getElem_cons hj, mkE, if_pos]
 rw [List.drop_eq_nil_of_le (by omega)]
 rfl
theorem either_any (h : MB w mb g s) (x : Addr) (kc m : Nat) (ts : List Tr) (vs : Nat → NV) (hlen : ts.length = m + 1) (hmx : m + 1 ≤ kc ∧ kc ≤ 9223372036854775807) (hK : ∀ j, j < ts.length → ∀ W, Step mb w W → NCells W (x.add (j * 8)) (vs j)) (hf : ∀ j (hj : j < ts.length), DoesF mb g w 42 #[.pointer (some ⟨mb, 0, none⟩), nvV (vs j)] (mkT ts[j])) (hs : (mkE s.lab.length ts s.newL).fits) : Calls Tryz.prog 66 #[.pointer (some ⟨mb, 0, none⟩), .slice (some x) (m + 1) kc] w fun e w' => MkE mb g (mkE s.lab.length ts s.newL) w e w' := by
 have HS0 : Hid s.fits := ((le_newL s).trans (mkE_up _ ts _)).fits hs
 have hlt := h.lt
 have HT0 := hide (Step.refl mb w)
 have HK := hide hK
 have HF := hide hf
 have HLen := hide hlen
 obtain ⟨l, hl⟩ : ∃ l, l = s.lab.length := ⟨_, rfl⟩
 have HN0 := hide hl
 rw [← hl] at hs ⊢
 obtain ⟨R, hR⟩ : ∃ R, R = mkE l ts s.newL := ⟨_, rfl⟩
 rw [← hR] at hs ⊢
 have HR := hide hR
 have HFit := hide hs
 have wm : IntKind.i64.wrap (((m + 1 : Nat) : Int) - 1) = (m : Int) := by rw [IntKind.wrap_i64]; omega
 have HC1 := hide (newL_at h l HN0.out.symm (by have := HS0.out.2.1; have := HN0.out; omega))
 clear h hK hf hs hlen hl hR
 go_enter Tryz.func66, Tryz.ntmps66
 go_wp2_with fail
 refine HC1.out.mono ?_
 rintro e w1 ⟨rfl, h1, st1⟩
 have HM1 := hide h1
 have HT1 := hide st1
 clear HC1 h1 st1 HT0
 go_wp2
 go_loopw [19] (fun v wr => ∃ (j : Nat) (sj : MS), j ≤ m ∧ v = .int .i64 (j : Int) ∧ MB wr mb g sj ∧ Step mb w wr ∧ R = mkE l (ts.drop j) sj ∧ l < sj.lab.length) (fun v _ => m - (intOf v).toNat)
 case atStart => exact ⟨0, s.newL, Nat.zero_le _, rfl, HM1.out, HT1.out, by rw [List.drop_zero]; exact HR.out, by rw [z8, HN0.out]; omega⟩
 case round =>
  obtain ⟨j, sj, hj, rfl, hMj, hTj, hRj, hlj⟩ := hrel
  obtain ⟨w5, hw5⟩ : ∃ w5, w5 = wr := ⟨_, rfl⟩
  subst hw5
  by_cases hlt2 : j < m
  ·have e1 : (0 : Int) ≤ (j : Int) := by omega
   have e2 : (j : Int) < (m : Int) := by omega
   have hjt : j < ts.length := by have := HLen.out; omega
   have hjt1 : j + 1 < ts.length := by have := HLen.out; omega
   have hjw : IntKind.i64.wrap ((j : Int) + 1) = (j : Int) + 1 := by rw [IntKind.wrap_i64]; omega
   have HRn : Hid (R = mkE l (ts.drop (j + 1)) (splitM l (mkT ts[j]) sj)) := hRj.trans (mkE_next hjt1 sj)
   have HSp : Hid (splitM l (mkT ts[j]) sj).fits := (mkE_up l (ts.drop (j + 1)) _).fits (by rw [← HRn.out]; exact HFit.out)
   obtain ⟨f, hfe⟩ : ∃ f, f = mkT ts[j] := ⟨_, rfl⟩
   have HUf : Hid (Up f) := by show Up f; rw [hfe]; exact mkT_up _
   rw [← hfe] at HRn HSp
   have HFj : Hid (DoesF mb g w 42 #[.pointer (some ⟨mb, 0, none⟩), nvV (vs j)] f) := by have := HF.out j hjt; rw [← hfe] at this; exact this
   have HSj : Hid sj.fits := (split_up l HUf.out sj).fits HSp.out
   have HLj := hide hlj
   have HF1 : Hid (f ((sj.newL.newL.add ⟨3, [], (sj.lab.length : Int), ((sj.lab.length + 1 : Nat) : Int), 0, 0, false, false⟩).stand sj.lab.length)).fits := (((le_add _ _).stand _)).fits HSp.out
   have HU1 : Hid (((sj.newL.newL.add ⟨3, [], (sj.lab.length : Int), ((sj.lab.length + 1 : Nat) : Int), 0, 0, false, false⟩).stand sj.lab.length).le (f ((sj.newL.newL.add ⟨3, [], (sj.lab.length : Int), ((sj.lab.length + 1 : Nat) : Int), 0, 0, false, false⟩).stand sj.lab.length))) := HUf.out _
   obtain ⟨la, hla⟩ : ∃ x, x = sj.lab.length := ⟨_, rfl⟩
   have HNa := hide hla
   clear hla
   obtain ⟨lb, hlb⟩ : ∃ x, x = la + 1 := ⟨_, rfl⟩
   have HNb := hide hlb
   clear hlb
   rw [← HNa.out, ← HNb.out] at HF1 HU1
   obtain ⟨c0, c1, c2, c3, c4, c5, c6, c7⟩ := HK.out j hjt w5 hTj
   obtain ⟨nn, hnn⟩ : ∃ nn, nn = vs j := ⟨_, rfl⟩
   rw [← hnn] at c0 c1 c2 c3 c4 c5 c6 c7 HFj
   obtain ⟨W6, hW6⟩ : ∃ W6, W6 = w5.alloc (nvO nn) := ⟨_, rfl⟩
   have hb6 : Below w5.heap.size w5 W6 := by rw [hW6]; exact (Below.refl _ _).alloc (Nat.le_refl _) _
   have hx6 : W6.heap[w5.heap.size]? = some (nvO nn) := by rw [hW6]; exact at_new _ _
   have hs6 := Step.of_below hb6 hMj.lt
   have h0 := hMj.keep hb6
   have HT0 := hide (hTj.trans hs6)
   obtain ⟨nb, hnb⟩ : ∃ nb, nb = w5.heap.size := ⟨_, rfl⟩
   have hnl : mb < nb := by have := hMj.lt; omega
   rw [← hnb] at hx6
   have HX0 := hide hx6
   simp only [nvO] at hW6
   clear hMj hTj hRj hlj hb6 hx6 hs6 hfe hlt2 hnn
   go_upto_region 4 with fail
   rw [← hW6, ← hnb]
   clear hW6 hnb c0 c1 c2 c3 c4 c5 c6 c7
   have HC1 := hide (newL_at h0 la (by have e0 := HNa.out; have e1 := HNb.out; have := HSj.out.1; have := HSj.out.2.1; have := HSj.out.2.2; (try simp only [z1, z2, z3, z4, z5, z6, z7, z8, z9, za, zb, zc]); omega) (by have e0 := HNa.out; have e1 := HNb.out; have := HSj.out.1; have := HSj.out.2.1; have := HSj.out.2.2; (try simp only [z1, z2, z3, z4, z5, z6, z7, z8, z9, za, zb, zc]); omega))
   clear h0
   go_wp2_with fail
   refine HC1.out.mono ?_
   rintro e w1 ⟨rfl, h1, st1⟩
   have HT1 := hide (HT0.out.trans st1)
   clear HC1 HT0
   have HX1 := hide (st1.blk hnl HX0.out (by decide) (by decide))
   clear HX0
   have HC2 := hide (newL_at h1 lb (by have e0 := HNa.out; have e1 := HNb.out; have := HSj.out.1; have := HSj.out.2.1; have := HSj.out.2.2; (try simp only [z8]); omega) (by have e0 := HNa.out; have e1 := HNb.out; have := HSj.out.1; have := HSj.out.2.1; have := HSj.out.2.2; (try simp only [z1, z2, z3, z4, z5, z6, z7, z8, z9, za, zb, zc]); omega))
   clear h1 st1
   go_wp2_with fail
   refine HC2.out.mono ?_
   rintro e w2 ⟨rfl, h2, st2⟩
   have HT2 := hide (HT1.out.trans st2)
   clear HC2 HT1
   have HX2 := hide (st2.blk hnl HX1.out (by decide) (by decide))
   clear HX1
   have HC3 := hide (add0 h2 3 la lb 0 0 false false (by have e0 := HNa.out; have e1 := HNb.out; have := HSj.out.1; have := HSj.out.2.1; have := HSj.out.2.2; (try simp only [z7]); omega))
   clear h2 st2
   go_wp2_with fail
   refine HC3.out.mono ?_
   rintro e w3 ⟨rfl, h3, st3⟩
   have HT3 := hide (HT2.out.trans st3)
   clear HC3 HT2
   have HX3 := hide (st3.blk hnl HX2.out (by decide) (by decide))
   clear HX2
   have HC4 := hide (stand_any h3 la (by have e0 := HNa.out; have e1 := HNb.out; have := HSj.out.1; have := HSj.out.2.1; have := HSj.out.2.2; (try simp only [z2, z8]); omega))
   clear h3 st3
   go_wp2_with fail
   refine HC4.out.mono ?_
   rintro e w4 ⟨rfl, h4, st4⟩
   have HT4 := hide (HT3.out.trans st4)
   clear HC4 HT3
   have HX4 := hide (st4.blk hnl HX3.out (by decide) (by decide))
   clear HX3
   obtain ⟨d0, d1, d2, d3, d4, d5, d6, d7⟩ := nv_cells HX4.out
   simp only [Nat.zero_add] at d0 d1 d2 d3 d4 d5 d6 d7
   have HC5 := hide (HFj.out w4 _ HT4.out h4 HF1.out)
   clear h4 st4
   go_wp2_with fail
   refine HC5.out.mono ?_
   rintro e w5 ⟨rfl, h5, st5⟩
   have HT5 := hide (HT4.out.trans st5)
   clear HC5 HT4
   have HX5 := hide (st5.blk hnl HX4.out (by decide) (by decide))
   clear HX4
   clear d0 d1 d2 d3 d4 d5 d6 d7
   clear HFj
   have HC6 := hide (add0 h5 2 l 0 0 0 false false (by have e0 := HNa.out; have e1 := HNb.out; have := HSj.out.1; have := HSj.out.2.1; have := HSj.out.2.2; have := HF1.out.1; have := HF1.out.2.1; have := HF1.out.2.2; have qHU1 := HU1.out.lab; have rHU1 := HU1.out.cnt; (try simp only [z2, z8, zb] at qHU1); (try simp only [z3, z9, zc] at rHU1); (try simp only [z1, z2, z3, z4, z5, z6, z7, z8, z9, za, zb, zc]); omega))
   clear h5 st5
   go_wp2_with fail
   refine HC6.out.mono ?_
   rintro e w6 ⟨rfl, h6, st6⟩
   have HT6 := hide (HT5.out.trans st6)
   clear HC6 HT5
   have HX6 := hide (st6.blk hnl HX5.out (by decide) (by decide))
   clear HX5
   have HC7 := hide (stand_any h6 lb (by have e0 := HNa.out; have e1 := HNb.out; have := HSj.out.1; have := HSj.out.2.1; have := HSj.out.2.2; have := HF1.out.1; have := HF1.out.2.1; have := HF1.out.2.2; have qHU1 := HU1.out.lab; have rHU1 := HU1.out.cnt; (try simp only [z2, z8, zb] at qHU1); (try simp only [z3, z9, zc] at rHU1); (try simp only [z2]); omega))
   clear h6 st6
   go_wp2_with fail
   refine HC7.out.mono ?_
   rintro e w7 ⟨rfl, h7, st7⟩
   have HT7 := hide (HT6.out.trans st7)
   clear HC7 HT6
   have HX7 := hide (st7.blk hnl HX6.out (by decide) (by decide))
   clear HX6
   have HH := hide h7
   clear h7 st7 HX7
   have HEq : Hid (splitM l f sj = ((f (((sj.newL.newL.add ⟨3, [], (sj.lab.length : Int), ((sj.lab.length + 1 : Nat) : Int), 0, 0, false, false⟩).stand sj.lab.length))).add ⟨2, [], (l : Int), 0, 0, 0, false, false⟩).stand (sj.lab.length + 1)) := rfl
   rw [← HNa.out, ← HNb.out] at HEq
   go_wp2
   go_roundw
   case rel => exact ⟨j + 1, _, by omega, by go_num, HH.out, HT7.out, by rw [HRn.out, HEq.out], by have q := HU1.out.lab; have r := HLj.out; have e0 := HNa.out; simp only [z2, z8, zb] at q ⊢; omega⟩
   case measure => simp [intOf]; omega
  ·have hjm : j = m := by omega
   subst hjm
   have hjt : j < ts.length := by have := HLen.out; omega
   have e2 : ¬ (j : Int) < (j : Int) := by omega
   have HRn : Hid (R = (mkT ts[j] sj).stand l) := hRj.trans (mkE_last hjt HLen.out.symm sj)
   have HF1 : Hid (mkT ts[j] sj).fits := (le_stand _ l).fits (by rw [← HRn.out]; exact HFit.out)
   have HU1 : Hid (sj.le (mkT ts[j] sj)) := mkT_up _ _
   have HLj := hide hlj
   obtain ⟨c0, c1, c2, c3, c4, c5, c6, c7⟩ := HK.out j hjt w5 hTj
   have HC1 := hide (HF.out j hjt w5 sj hTj hMj HF1.out)
   obtain ⟨nn, hnn⟩ : ∃ nn, nn = vs j := ⟨_, rfl⟩
   rw [← hnn] at c0 c1 c2 c3 c4 c5 c6 c7 HC1
   have e1 : (0 : Int) ≤ (j : Int) := by omega
   have e3 : (j : Int) < ((j + 1 : Nat) : Int) := by omega
   have HTj := hide hTj
   clear hMj hTj hRj hlj hlt2 hnn hj
   go_wp2_with fail
   refine HC1.out.mono ?_
   rintro e w6 ⟨rfl, h6, st6⟩
   have HT6 := hide (HTj.out.trans st6)
   have HC2 := hide (stand_any h6 l (by have q := HU1.out.lab; have r := HLj.out; omega))
   clear h6 st6 HC1 c0 c1 c2 c3 c4 c5 c6 c7 HTj
   go_wp2_with fail
   refine HC2.out.mono ?_
   rintro e w7 ⟨rfl, h7, st7⟩
   have HH := hide h7
   have HT7 := hide (HT6.out.trans st7)
   clear h7 st7 HC2
   go_wp2
   go_end0
   rw [HRn.out]
   exact ⟨rfl, HH.out, HT7.out⟩
end Go.Proofs.YtfnndcbjklppeaaGreatDoor.Mk
