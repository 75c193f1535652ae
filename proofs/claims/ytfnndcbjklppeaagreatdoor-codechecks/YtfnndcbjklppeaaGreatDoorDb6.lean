import Derived.Test.YtfnndcbjklppeaaGreatDoorVC
set_option maxHeartbeats 4000000
set_option linter.unusedVariables false
set_option maxRecDepth 100000
namespace Go.Proofs.YtfnndcbjklppeaaGreatDoor.Mk
open Go.RowKit
variable {w w' : World} {mb : Nat} {g : Int} {s s' : MS}
abbrev rnO (mb : Nat) (n : NV) (cb wb : Bool) (dn fl : Nat) : Obj := .cells #[.pointer (some ⟨mb, 0, none⟩), .int .i64 n.kind, .slice n.sa n.sl n.sc, .slice n.ka n.kl n.kc, .int .i64 n.num, .int .i64 n.least, .int .i64 n.most, .int .i64 n.way, .bool n.fold, .bool cb, .bool wb, .int .i64 (dn : Int), .int .i64 (fl : Int)] 195
theorem rn_cells {w : World} {rb mb : Nat} {n : NV} {cb wb : Bool} {dn fl : Nat} (h : w.heap[rb]? = some (rnO mb n cb wb dn fl)) : w.cell? ⟨rb, 0, none⟩ = some (.pointer (some ⟨mb, 0, none⟩)) ∧ w.cell? ⟨rb, 3, none⟩ = some (.slice n.ka n.kl n.kc) ∧ w.cell? ⟨rb, 5, none⟩ = some (.int .i64 n.least) ∧ w.cell? ⟨rb, 6, none⟩ = some (.int .i64 n.most) ∧ w.cell? ⟨rb, 7, none⟩ = some (.int .i64 n.way) ∧ w.cell? ⟨rb, 9, none⟩ = some (.bool cb) ∧ w.cell? ⟨rb, 10, none⟩ = some (.bool wb) ∧ w.cell? ⟨rb, 11, none⟩ = some (.int .i64 (dn : Int)) ∧ w.cell? ⟨rb, 12, none⟩ = some (.int .i64 (fl : Int)) := by
 refine ⟨?_, ?_, ?_, ?_, ?_, ?_, ?_, ?_, ?_⟩ <;> simp [World.cell?, h]
theorem choice111 (h : MB w mb g s) (rb : Nat) (hrl : mb < rb) (n : NV) (cb : Bool) (dn fl b e : Nat) (hr : w.heap[rb]? = some (rnO mb n cb true dn fl)) (q1 : 0 < n.least) (q2 : n.way = 2) (hfl : fl < s.lab.length) (hs : (choiceM ⟨n.least, n.most, n.way, cb, true, dn, fl⟩ b e s).fits) : Calls Tryz.prog 171 #[.pointer (some ⟨rb, 0, none⟩), .int .i64 (b : Int), .int .i64 (e : Int)] w fun en w' => MkE mb g (choiceM ⟨n.least, n.most, n.way, cb, true, dn, fl⟩ b e s) w en w' := by
 have HS0 := hide ((choice_up _ _ _ s).fits hs)
 have HT0 := hide (Step.refl mb w)
 have HX0 := hide hr
 have HFL := hide hfl
 have HE : Hid (choiceM ⟨n.least, n.most, n.way, cb, true, dn, fl⟩ b e s = ((((s).add ⟨11, [], (dn : Int), (b : Int), 0, n.least, false, false⟩).add ⟨3, [], (e : Int), (b : Int), 0, 0, false, false⟩).stand fl).add ⟨14, [], 0, 0, 0, 0, false, false⟩) := by show _ = _; unfold choiceM; dsimp only; rw [if_pos q1, if_pos q2, if_pos rfl]
 have b2 : (n.way == 2) = true := by simpa using q2
 clear hr hs hfl q2
 go_enter Tryz.func171, Tryz.ntmps171
 obtain ⟨r0, r3, r5, r6, r7, r9, r10, r11, r12⟩ := rn_cells HX0.out
 have hlt0 := h.lt
 have hd0 := h.keep (drew1 w)
 have HD0 := hide (Step.of_below (drew1 w) hlt0)
 have HC1 := hide (add0 hd0 11 dn b 0 n.least false false (by have := HS0.out.1; have := HS0.out.2.1; have := HS0.out.2.2; (try simp only [z1, z2, z3, z4, z5, z6, z7, z8, z9, za, zb, zc]); omega))
 clear h hd0 hlt0
 go_upto_region 1 with fail
 go_still_tail 15, (by kernel_rfl)
 go_wp2_with fail
 refine HC1.out.mono ?_
 rintro e w1 ⟨rfl, h1, st1⟩
 replace st1 := HD0.out.trans st1
 clear HD0
 have HT1 := hide (HT0.out.trans st1)
 clear HC1 HT0
 have HX1 := hide (st1.blk hrl HX0.out (by decide) (by decide))
 clear HX0
 clear r0 r3 r5 r6 r7 r9 r10 r11 r12
 obtain ⟨r0, r3, r5, r6, r7, r9, r10, r11, r12⟩ := rn_cells HX1.out
 have HC2 := hide (add0 h1 3 e b 0 0 false false (by have := HS0.out.1; have := HS0.out.2.1; have := HS0.out.2.2; (try simp only [z1]); omega))
 clear h1 st1
 go_wp2_with fail
 refine HC2.out.mono ?_
 rintro e w2 ⟨rfl, h2, st2⟩
 have HT2 := hide (HT1.out.trans st2)
 clear HC2 HT1
 have HX2 := hide (st2.blk hrl HX1.out (by decide) (by decide))
 clear HX1
 clear r0 r3 r5 r6 r7 r9 r10 r11 r12
 obtain ⟨r0, r3, r5, r6, r7, r9, r10, r11, r12⟩ := rn_cells HX2.out
 have hlt2 := h2.lt
 have hd2 := h2.keep (drew1 w2)
 have HD2 := hide (Step.of_below (drew1 w2) hlt2)
 have HC3 := hide (stand_any hd2 fl (by have qx := HFL.out; have := HS0.out.1; have := HS0.out.2.1; have := HS0.out.2.2; (try simp only [z2]); omega))
 clear h2 st2 hd2 hlt2
 go_upto_region 6 with fail
 go_still_tail 8, (by kernel_rfl)
 go_wp2_with fail
 refine HC3.out.mono ?_
 rintro e w3 ⟨rfl, h3, st3⟩
 replace st3 := HD2.out.trans st3
 clear HD2
 have HT3 := hide (HT2.out.trans st3)
 clear HC3 HT2
 have HX3 := hide (st3.blk hrl HX2.out (by decide) (by decide))
 clear HX2
 clear r0 r3 r5 r6 r7 r9 r10 r11 r12
 obtain ⟨r0, r3, r5, r6, r7, r9, r10, r11, r12⟩ := rn_cells HX3.out
 have HC4 := hide (add0 h3 14 0 0 0 0 false false (by have qx := HFL.out; have := HS0.out.1; have := HS0.out.2.1; have := HS0.out.2.2; (try simp only [z1, za]); omega))
 clear h3 st3
 go_wp2_with fail
 refine HC4.out.mono ?_
 rintro e w4 ⟨rfl, h4, st4⟩
 have HT4 := hide (HT3.out.trans st4)
 clear HC4 HT3
 have HX4 := hide (st4.blk hrl HX3.out (by decide) (by decide))
 clear HX3
 clear r0 r3 r5 r6 r7 r9 r10 r11 r12
 have HH := hide h4
 clear h4 st4
 go_wp2
 go_end0
 rw [HE.out]
 exact ⟨rfl, HH.out, HT4.out⟩
theorem choice110 (h : MB w mb g s) (rb : Nat) (hrl : mb < rb) (n : NV) (cb : Bool) (dn fl b e : Nat) (hr : w.heap[rb]? = some (rnO mb n cb false dn fl)) (q1 : 0 < n.least) (q2 : n.way = 2) (hfl : fl < s.lab.length) (hs : (choiceM ⟨n.least, n.most, n.way, cb, false, dn, fl⟩ b e s).fits) : Calls Tryz.prog 171 #[.pointer (some ⟨rb, 0, none⟩), .int .i64 (b : Int), .int .i64 (e : Int)] w fun en w' => MkE mb g (choiceM ⟨n.least, n.most, n.way, cb, false, dn, fl⟩ b e s) w en w' := by
 have HS0 := hide ((choice_up _ _ _ s).fits hs)
 have HT0 := hide (Step.refl mb w)
 have HX0 := hide hr
 have HFL := hide hfl
 have HE : Hid (choiceM ⟨n.least, n.most, n.way, cb, false, dn, fl⟩ b e s = ((s).add ⟨11, [], (dn : Int), (b : Int), 0, n.least, false, false⟩).add ⟨3, [], (e : Int), (b : Int), 0, 0, false, false⟩) := by show _ = _; unfold choiceM; dsimp only; rw [if_pos q1, if_pos q2, if_neg (by decide)]
 have b2 : (n.way == 2) = true := by simpa using q2
 clear hr hs hfl q2
 go_enter Tryz.func171, Tryz.ntmps171
 obtain ⟨r0, r3, r5, r6, r7, r9, r10, r11, r12⟩ := rn_cells HX0.out
 have hlt0 := h.lt
 have hd0 := h.keep (drew1 w)
 have HD0 := hide (Step.of_below (drew1 w) hlt0)
 have HC1 := hide (add0 hd0 11 dn b 0 n.least false false (by have := HS0.out.1; have := HS0.out.2.1; have := HS0.out.2.2; (try simp only [z1, z2, z3, z4, z5, z6, z7, z8, z9, za, zb, zc]); omega))
 clear h hd0 hlt0
 go_upto_region 1 with fail
 go_still_tail 15, (by kernel_rfl)
 go_wp2_with fail
 refine HC1.out.mono ?_
 rintro e w1 ⟨rfl, h1, st1⟩
 replace st1 := HD0.out.trans st1
 clear HD0
 have HT1 := hide (HT0.out.trans st1)
 clear HC1 HT0
 have HX1 := hide (st1.blk hrl HX0.out (by decide) (by decide))
 clear HX0
 clear r0 r3 r5 r6 r7 r9 r10 r11 r12
 obtain ⟨r0, r3, r5, r6, r7, r9, r10, r11, r12⟩ := rn_cells HX1.out
 have HC2 := hide (add0 h1 3 e b 0 0 false false (by have := HS0.out.1; have := HS0.out.2.1; have := HS0.out.2.2; (try simp only [z1]); omega))
 clear h1 st1
 go_wp2_with fail
 refine HC2.out.mono ?_
 rintro e w2 ⟨rfl, h2, st2⟩
 have HT2 := hide (HT1.out.trans st2)
 clear HC2 HT1
 have HX2 := hide (st2.blk hrl HX1.out (by decide) (by decide))
 clear HX1
 clear r0 r3 r5 r6 r7 r9 r10 r11 r12
 obtain ⟨r0, r3, r5, r6, r7, r9, r10, r11, r12⟩ := rn_cells HX2.out
 have HH := hide h2
 clear h2 st2
 go_wp2
 go_end0
 rw [HE.out]
 exact ⟨rfl, HH.out, HT2.out⟩
theorem choice101 (h : MB w mb g s) (rb : Nat) (hrl : mb < rb) (n : NV) (cb : Bool) (dn fl b e : Nat) (hr : w.heap[rb]? = some (rnO mb n cb true dn fl)) (q1 : 0 < n.least) (q2 : ¬ n.way = 2) (hfl : fl < s.lab.length) (hs : (choiceM ⟨n.least, n.most, n.way, cb, true, dn, fl⟩ b e s).fits) : Calls Tryz.prog 171 #[.pointer (some ⟨rb, 0, none⟩), .int .i64 (b : Int), .int .i64 (e : Int)] w fun en w' => MkE mb g (choiceM ⟨n.least, n.most, n.way, cb, true, dn, fl⟩ b e s) w en w' := by
 have HS0 := hide ((choice_up _ _ _ s).fits hs)
 have HT0 := hide (Step.refl mb w)
 have HX0 := hide hr
 have HFL := hide hfl
 have HE : Hid (choiceM ⟨n.least, n.most, n.way, cb, true, dn, fl⟩ b e s = ((((s).add ⟨11, [], (dn : Int), (b : Int), 0, n.least, false, false⟩).add ⟨3, [], (b : Int), (e : Int), 0, 0, false, false⟩).stand fl).add ⟨14, [], 0, 0, 0, 0, false, false⟩) := by show _ = _; unfold choiceM; dsimp only; rw [if_pos q1, if_neg q2, if_pos rfl]
 have b2 : (n.way == 2) = false := by simpa using q2
 clear hr hs hfl q2
 go_enter Tryz.func171, Tryz.ntmps171
 obtain ⟨r0, r3, r5, r6, r7, r9, r10, r11, r12⟩ := rn_cells HX0.out
 have hlt0 := h.lt
 have hd0 := h.keep (drew1 w)
 have HD0 := hide (Step.of_below (drew1 w) hlt0)
 have HC1 := hide (add0 hd0 11 dn b 0 n.least false false (by have := HS0.out.1; have := HS0.out.2.1; have := HS0.out.2.2; (try simp only [z1, z2, z3, z4, z5, z6, z7, z8, z9, za, zb, zc]); omega))
 clear h hd0 hlt0
 go_upto_region 1 with fail
 go_still_tail 15, (by kernel_rfl)
 go_wp2_with fail
 refine HC1.out.mono ?_
 rintro e w1 ⟨rfl, h1, st1⟩
 replace st1 := HD0.out.trans st1
 clear HD0
 have HT1 := hide (HT0.out.trans st1)
 clear HC1 HT0
 have HX1 := hide (st1.blk hrl HX0.out (by decide) (by decide))
 clear HX0
 clear r0 r3 r5 r6 r7 r9 r10 r11 r12
 obtain ⟨r0, r3, r5, r6, r7, r9, r10, r11, r12⟩ := rn_cells HX1.out
 have HC2 := hide (add0 h1 3 b e 0 0 false false (by have := HS0.out.1; have := HS0.out.2.1; have := HS0.out.2.2; (try simp only [z1]); omega))
 clear h1 st1
 go_wp2_with fail
 refine HC2.out.mono ?_
 rintro e w2 ⟨rfl, h2, st2⟩
 have HT2 := hide (HT1.out.trans st2)
 clear HC2 HT1
 have HX2 := hide (st2.blk hrl HX1.out (by decide) (by decide))
 clear HX1
 clear r0 r3 r5 r6 r7 r9 r10 r11 r12
 obtain ⟨r0, r3, r5, r6, r7, r9, r10, r11, r12⟩ := rn_cells HX2.out
 have hlt2 := h2.lt
 have hd2 := h2.keep (drew1 w2)
 have HD2 := hide (Step.of_below (drew1 w2) hlt2)
 have HC3 := hide (stand_any hd2 fl (by have qx := HFL.out; have := HS0.out.1; have := HS0.out.2.1; have := HS0.out.2.2; (try simp only [z2]); omega))
 clear h2 st2 hd2 hlt2
 go_upto_region 6 with fail
 go_still_tail 8, (by kernel_rfl)
 go_wp2_with fail
 refine HC3.out.mono ?_
 rintro e w3 ⟨rfl, h3, st3⟩
 replace st3 := HD2.out.trans st3
 clear HD2
 have HT3 := hide (HT2.out.trans st3)
 clear HC3 HT2
 have HX3 := hide (st3.blk hrl HX2.out (by decide) (by decide))
 clear HX2
 clear r0 r3 r5 r6 r7 r9 r10 r11 r12
 obtain ⟨r0, r3, r5, r6, r7, r9, r10, r11, r12⟩ := rn_cells HX3.out
 have HC4 := hide (add0 h3 14 0 0 0 0 false false (by have qx := HFL.out; have := HS0.out.1; have := HS0.out.2.1; have := HS0.out.2.2; (try simp only [z1, za]); omega))
 clear h3 st3
 go_wp2_with fail
 refine HC4.out.mono ?_
 rintro e w4 ⟨rfl, h4, st4⟩
 have HT4 := hide (HT3.out.trans st4)
 clear HC4 HT3
 have HX4 := hide (st4.blk hrl HX3.out (by decide) (by decide))
 clear HX3
 clear r0 r3 r5 r6 r7 r9 r10 r11 r12
 have HH := hide h4
 clear h4 st4
 go_wp2
 go_end0
 rw [HE.out]
 exact ⟨rfl, HH.out, HT4.out⟩
theorem choice100 (h : MB w mb g s) (rb : Nat) (hrl : mb < rb) (n : NV) (cb : Bool) (dn fl b e : Nat) (hr : w.heap[rb]? = some (rnO mb n cb false dn fl)) (q1 : 0 < n.least) (q2 : ¬ n.way = 2) (hfl : fl < s.lab.length) (hs : (choiceM ⟨n.least, n.most, n.way, cb, false, dn, fl⟩ b e s).fits) : Calls Tryz.prog 171 #[.pointer (some ⟨rb, 0, none⟩), .int .i64 (b : Int), .int .i64 (e : Int)] w fun en w' => MkE mb g (choiceM ⟨n.least, n.most, n.way, cb, false, dn, fl⟩ b e s) w en w' := by
 have HS0 := hide ((choice_up _ _ _ s).fits hs)
 have HT0 := hide (Step.refl mb w)
 have HX0 := hide hr
 have HFL := hide hfl
 have HE : Hid (choiceM ⟨n.least, n.most, n.way, cb, false, dn, fl⟩ b e s = ((s).add ⟨11, [], (dn : Int), (b : Int), 0, n.least, false, false⟩).add ⟨3, [], (b : Int), (e : Int), 0, 0, false, false⟩) := by show _ = _; unfold choiceM; dsimp only; rw [if_pos q1, if_neg q2, if_neg (by decide)]
 have b2 : (n.way == 2) = false := by simpa using q2
 clear hr hs hfl q2
 go_enter Tryz.func171, Tryz.ntmps171
 obtain ⟨r0, r3, r5, r6, r7, r9, r10, r11, r12⟩ := rn_cells HX0.out
 have hlt0 := h.lt
 have hd0 := h.keep (drew1 w)
 have HD0 := hide (Step.of_below (drew1 w) hlt0)
 have HC1 := hide (add0 hd0 11 dn b 0 n.least false false (by have := HS0.out.1; have := HS0.out.2.1; have := HS0.out.2.2; (try simp only [z1, z2, z3, z4, z5, z6, z7, z8, z9, za, zb, zc]); omega))
 clear h hd0 hlt0
 go_upto_region 1 with fail
 go_still_tail 15, (by kernel_rfl)
 go_wp2_with fail
 refine HC1.out.mono ?_
 rintro e w1 ⟨rfl, h1, st1⟩
 replace st1 := HD0.out.trans st1
 clear HD0
 have HT1 := hide (HT0.out.trans st1)
 clear HC1 HT0
 have HX1 := hide (st1.blk hrl HX0.out (by decide) (by decide))
 clear HX0
 clear r0 r3 r5 r6 r7 r9 r10 r11 r12
 obtain ⟨r0, r3, r5, r6, r7, r9, r10, r11, r12⟩ := rn_cells HX1.out
 have HC2 := hide (add0 h1 3 b e 0 0 false false (by have := HS0.out.1; have := HS0.out.2.1; have := HS0.out.2.2; (try simp only [z1]); omega))
 clear h1 st1
 go_wp2_with fail
 refine HC2.out.mono ?_
 rintro e w2 ⟨rfl, h2, st2⟩
 have HT2 := hide (HT1.out.trans st2)
 clear HC2 HT1
 have HX2 := hide (st2.blk hrl HX1.out (by decide) (by decide))
 clear HX1
 clear r0 r3 r5 r6 r7 r9 r10 r11 r12
 obtain ⟨r0, r3, r5, r6, r7, r9, r10, r11, r12⟩ := rn_cells HX2.out
 have HH := hide h2
 clear h2 st2
 go_wp2
 go_end0
 rw [HE.out]
 exact ⟨rfl, HH.out, HT2.out⟩
theorem choice011 (h : MB w mb g s) (rb : Nat) (hrl : mb < rb) (n : NV) (cb : Bool) (dn fl b e : Nat) (hr : w.heap[rb]? = some (rnO mb n cb true dn fl)) (q1 : ¬ 0 < n.least) (q2 : n.way = 2) (hfl : fl < s.lab.length) (hs : (choiceM ⟨n.least, n.most, n.way, cb, true, dn, fl⟩ b e s).fits) : Calls Tryz.prog 171 #[.pointer (some ⟨rb, 0, none⟩), .int .i64 (b : Int), .int .i64 (e : Int)] w fun en w' => MkE mb g (choiceM ⟨n.least, n.most, n.way, cb, true, dn, fl⟩ b e s) w en w' := by
 have HS0 := hide ((choice_up _ _ _ s).fits hs)
 have HT0 := hide (Step.refl mb w)
 have HX0 := hide hr
 have HFL := hide hfl
 have HE : Hid (choiceM ⟨n.least, n.most, n.way, cb, true, dn, fl⟩ b e s = (((s).add ⟨3, [], (e : Int), (b : Int), 0, 0, false, false⟩).stand fl).add ⟨14, [], 0, 0, 0, 0, false, false⟩) := by show _ = _; unfold choiceM; dsimp only; rw [if_neg q1, if_pos q2, if_pos rfl]
 have b2 : (n.way == 2) = true := by simpa using q2
 clear hr hs hfl q2
 go_enter Tryz.func171, Tryz.ntmps171
 obtain ⟨r0, r3, r5, r6, r7, r9, r10, r11, r12⟩ := rn_cells HX0.out
 have HC1 := hide (add0 h 3 e b 0 0 false false (by have := HS0.out.1; have := HS0.out.2.1; have := HS0.out.2.2; (try simp only [z1, z2, z3, z4, z5, z6, z7, z8, z9, za, zb, zc]); omega))
 clear h
 go_wp2_with fail
 refine HC1.out.mono ?_
 rintro e w1 ⟨rfl, h1, st1⟩
 have HT1 := hide (HT0.out.trans st1)
 clear HC1 HT0
 have HX1 := hide (st1.blk hrl HX0.out (by decide) (by decide))
 clear HX0
 clear r0 r3 r5 r6 r7 r9 r10 r11 r12
 obtain ⟨r0, r3, r5, r6, r7, r9, r10, r11, r12⟩ := rn_cells HX1.out
 have hlt1 := h1.lt
 have hd1 := h1.keep (drew1 w1)
 have HD1 := hide (Step.of_below (drew1 w1) hlt1)
 have HC2 := hide (stand_any hd1 fl (by have qx := HFL.out; have := HS0.out.1; have := HS0.out.2.1; have := HS0.out.2.2; (try simp only [z2]); omega))
 clear h1 st1 hd1 hlt1
 go_upto_region 6 with fail
 go_still_tail 8, (by kernel_rfl)
 go_wp2_with fail
 refine HC2.out.mono ?_
 rintro e w2 ⟨rfl, h2, st2⟩
 replace st2 := HD1.out.trans st2
 clear HD1
 have HT2 := hide (HT1.out.trans st2)
 clear HC2 HT1
 have HX2 := hide (st2.blk hrl HX1.out (by decide) (by decide))
 clear HX1
 clear r0 r3 r5 r6 r7 r9 r10 r11 r12
 obtain ⟨r0, r3, r5, r6, r7, r9, r10, r11, r12⟩ := rn_cells HX2.out
 have HC3 := hide (add0 h2 14 0 0 0 0 false false (by have qx := HFL.out; have := HS0.out.1; have := HS0.out.2.1; have := HS0.out.2.2; (try simp only [z1, za]); omega))
 clear h2 st2
 go_wp2_with fail
 refine HC3.out.mono ?_
 rintro e w3 ⟨rfl, h3, st3⟩
 have HT3 := hide (HT2.out.trans st3)
 clear HC3 HT2
 have HX3 := hide (st3.blk hrl HX2.out (by decide) (by decide))
 clear HX2
 clear r0 r3 r5 r6 r7 r9 r10 r11 r12
 have HH := hide h3
 clear h3 st3
 go_wp2
 go_end0
 rw [HE.out]
 exact ⟨rfl, HH.out, HT3.out⟩
theorem choice010 (h : MB w mb g s) (rb : Nat) (hrl : mb < rb) (n : NV) (cb : Bool) (dn fl b e : Nat) (hr : w.heap[rb]? = some (rnO mb n cb false dn fl)) (q1 : ¬ 0 < n.least) (q2 : n.way = 2) (hfl : fl < s.lab.length) (hs : (choiceM ⟨n.least, n.most, n.way, cb, false, dn, fl⟩ b e s).fits) : Calls Tryz.prog 171 #[.pointer (some ⟨rb, 0, none⟩), .int .i64 (b : Int), .int .i64 (e : Int)] w fun en w' => MkE mb g (choiceM ⟨n.least, n.most, n.way, cb, false, dn, fl⟩ b e s) w en w' := by
 have HS0 := hide ((choice_up _ _ _ s).fits hs)
 have HT0 := hide (Step.refl mb w)
 have HX0 := hide hr
 have HFL := hide hfl
 have HE : Hid (choiceM ⟨n.least, n.most, n.way, cb, false, dn, fl⟩ b e s = (s).add ⟨3, [], (e : Int), (b : Int), 0, 0, false, false⟩) := by show _ = _; unfold choiceM; dsimp only; rw [if_neg q1, if_pos q2, if_neg (by decide)]
 have b2 : (n.way == 2) = true := by simpa using q2
 clear hr hs hfl q2
 go_enter Tryz.func171, Tryz.ntmps171
 obtain ⟨r0, r3, r5, r6, r7, r9, r10, r11, r12⟩ := rn_cells HX0.out
 have HC1 := hide (add0 h 3 e b 0 0 false false (by have := HS0.out.1; have := HS0.out.2.1; have := HS0.out.2.2; (try simp only [z1, z2, z3, z4, z5, z6, z7, z8, z9, za, zb, zc]); omega))
 clear h
 go_wp2_with fail
 refine HC1.out.mono ?_
 rintro e w1 ⟨rfl, h1, st1⟩
 have HT1 := hide (HT0.out.trans st1)
 clear HC1 HT0
 have HX1 := hide (st1.blk hrl HX0.out (by decide) (by decide))
 clear HX0
 clear r0 r3 r5 r6 r7 r9 r10 r11 r12
 obtain ⟨r0, r3, r5, r6, r7, r9, r10, r11, r12⟩ := rn_cells HX1.out
 have HH := hide h1
 clear h1 st1
 go_wp2
 go_end0
 rw [HE.out]
 exact ⟨rfl, HH.out, HT1.out⟩
theorem choice001 (h : MB w mb g s) (rb : Nat) (hrl : mb < rb) (n : NV) (cb : Bool) (dn fl b e : Nat) (hr : w.heap[rb]? = some (rnO mb n cb true dn fl)) (q1 : ¬ 0 < n.least) (q2 : ¬ n.way = 2) (hfl : fl < s.lab.length) (hs : (choiceM ⟨n.least, n.most, n.way, cb, true, dn, fl⟩ b e s).fits) : Calls Tryz.prog 171 #[.pointer (some ⟨rb, 0, none⟩), .int .i64 (b : Int), .int .i64 (e : Int)] w fun en w' => MkE mb g (choiceM ⟨n.least, n.most, n.way, cb, true, dn, fl⟩ b e s) w en w' := by
 have HS0 := hide ((choice_up _ _ _ s).fits hs)
 have HT0 := hide (Step.refl mb w)
 have HX0 := hide hr
 have HFL := hide hfl
 have HE : Hid (choiceM ⟨n.least, n.most, n.way, cb, true, dn, fl⟩ b e s = (((s).add ⟨3, [], (b : Int), (e : Int), 0, 0, false, false⟩).stand fl).add ⟨14, [], 0, 0, 0, 0, false, false⟩) := by show _ = _; unfold choiceM; dsimp only; rw [if_neg q1, if_neg q2, if_pos rfl]
 have b2 : (n.way == 2) = false := by simpa using q2
 clear hr hs hfl q2
 go_enter Tryz.func171, Tryz.ntmps171
 obtain ⟨r0, r3, r5, r6, r7, r9, r10, r11, r12⟩ := rn_cells HX0.out
 have HC1 := hide (add0 h 3 b e 0 0 false false (by have := HS0.out.1; have := HS0.out.2.1; have := HS0.out.2.2; (try simp only [z1, z2, z3, z4, z5, z6, z7, z8, z9, za, zb, zc]); omega))
 clear h
 go_wp2_with fail
 refine HC1.out.mono ?_
 rintro e w1 ⟨rfl, h1, st1⟩
 have HT1 := hide (HT0.out.trans st1)
 clear HC1 HT0
 have HX1 := hide (st1.blk hrl HX0.out (by decide) (by decide))
 clear HX0
 clear r0 r3 r5 r6 r7 r9 r10 r11 r12
 obtain ⟨r0, r3, r5, r6, r7, r9, r10, r11, r12⟩ := rn_cells HX1.out
 have hlt1 := h1.lt
 have hd1 := h1.keep (drew1 w1)
 have HD1 := hide (Step.of_below (drew1 w1) hlt1)
 have HC2 := hide (stand_any hd1 fl (by have qx := HFL.out; have := HS0.out.1; have := HS0.out.2.1; have := HS0.out.2.2; (try simp only [z2]); omega))
 clear h1 st1 hd1 hlt1
 go_upto_region 6 with fail
 go_still_tail 8, (by kernel_rfl)
 go_wp2_with fail
 refine HC2.out.mono ?_
 rintro e w2 ⟨rfl, h2, st2⟩
 replace st2 := HD1.out.trans st2
 clear HD1
 have HT2 := hide (HT1.out.trans st2)
 clear HC2 HT1
 have HX2 := hide (st2.blk hrl HX1.out (by decide) (by decide))
 clear HX1
 clear r0 r3 r5 r6 r7 r9 r10 r11 r12
 obtain ⟨r0, r3, r5, r6, r7, r9, r10, r11, r12⟩ := rn_cells HX2.out
 have HC3 := hide (add0 h2 14 0 0 0 0 false false (by have qx := HFL.out; have := HS0.out.1; have := HS0.out.2.1; have := HS0.out.2.2; (try simp only [z1, za]); omega))
 clear h2 st2
 go_wp2_with fail
 refine HC3.out.mono ?_
 rintro e w3 ⟨rfl, h3, st3⟩
 have HT3 := hide (HT2.out.trans st3)
 clear HC3 HT2
 have HX3 := hide (st3.blk hrl HX2.out (by decide) (by decide))
 clear HX2
 clear r0 r3 r5 r6 r7 r9 r10 r11 r12
 have HH := hide h3
 clear h3 st3
 go_wp2
 go_end0
 rw [HE.out]
 exact ⟨rfl, HH.out, HT3.out⟩
theorem choice000 (h : MB w mb g s) (rb : Nat) (hrl : mb < rb) (n : NV) (cb : Bool) (dn fl b e : Nat) (hr : w.heap[rb]? = some (rnO mb n cb false dn fl)) (q1 : ¬ 0 < n.least) (q2 : ¬ n.way = 2) (hfl : fl < s.lab.length) (hs : (choiceM ⟨n.least, n.most, n.way, cb, false, dn, fl⟩ b e s).fits) : Calls Tryz.prog 171 #[.pointer (some ⟨rb, 0, none⟩), .int .i64 (b : Int), .int .i64 (e : Int)] w fun en w' => MkE mb g (choiceM ⟨n.least, n.most, n.way, cb, false, dn, fl⟩ b e s) w en w' := by
 have HS0 := hide ((choice_up _ _ _ s).fits hs)
 have HT0 := hide (Step.refl mb w)
 have HX0 := hide hr
 have HFL := hide hfl
 have HE : Hid (choiceM ⟨n.least, n.most, n.way, cb, false, dn, fl⟩ b e s = (s).add ⟨3, [], (b : Int), (e : Int), 0, 0, false, false⟩) := by show _ = _; unfold choiceM; dsimp only; rw [if_neg q1, if_neg q2, if_neg (by decide)]
 have b2 : (n.way == 2) = false := by simpa using q2
 clear hr hs hfl q2
 go_enter Tryz.func171, Tryz.ntmps171
 obtain ⟨r0, r3, r5, r6, r7, r9, r10, r11, r12⟩ := rn_cells HX0.out
 have HC1 := hide (add0 h 3 b e 0 0 false false (by have := HS0.out.1; have := HS0.out.2.1; have := HS0.out.2.2; (try simp only [z1, z2, z3, z4, z5, z6, z7, z8, z9, za, zb, zc]); omega))
 clear h
 go_wp2_with fail
 refine HC1.out.mono ?_
 rintro e w1 ⟨rfl, h1, st1⟩
 have HT1 := hide (HT0.out.trans st1)
 clear HC1 HT0
 have HX1 := hide (st1.blk hrl HX0.out (by decide) (by decide))
 clear HX0
 clear r0 r3 r5 r6 r7 r9 r10 r11 r12
 obtain ⟨r0, r3, r5, r6, r7, r9, r10, r11, r12⟩ := rn_cells HX1.out
 have HH := hide h1
 clear h1 st1
 go_wp2
 go_end0
 rw [HE.out]
 exact ⟨rfl, HH.out, HT1.out⟩
theorem choice_any (h : MB w mb g s) (rb : Nat) (hrl : mb < rb) (n : NV) (cb wb : Bool) (dn fl b e : Nat) (hr : w.heap[rb]? = some (rnO mb n cb wb dn fl)) (hfl : fl < s.lab.length) (hs : (choiceM ⟨n.least, n.most, n.way, cb, wb, dn, fl⟩ b e s).fits) : Calls Tryz.prog 171 #[.pointer (some ⟨rb, 0, none⟩), .int .i64 (b : Int), .int .i64 (e : Int)] w fun en w' => MkE mb g (choiceM ⟨n.least, n.most, n.way, cb, wb, dn, fl⟩ b e s) w en w' := by
 by_cases q1 : 0 < n.least <;> by_cases q2 : n.way = 2 <;> cases wb
 ·exact choice110 h rb hrl n cb dn fl b e hr q1 q2 hfl hs
 ·exact choice111 h rb hrl n cb dn fl b e hr q1 q2 hfl hs
 ·exact choice100 h rb hrl n cb dn fl b e hr q1 q2 hfl hs
 ·exact choice101 h rb hrl n cb dn fl b e hr q1 q2 hfl hs
 ·exact choice010 h rb hrl n cb dn fl b e hr q1 q2 hfl hs
 ·exact choice011 h rb hrl n cb dn fl b e hr q1 q2 hfl hs
 ·exact choice000 h rb hrl n cb dn fl b e hr q1 q2 hfl hs
 ·exact choice001 h rb hrl n cb dn fl b e hr q1 q2 hfl hs
end Go.Proofs.YtfnndcbjklppeaaGreatDoor.Mk
