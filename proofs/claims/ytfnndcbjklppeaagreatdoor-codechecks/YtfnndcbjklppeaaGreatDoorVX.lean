import Derived.Test.YtfnndcbjklppeaaGreatDoorVW
import Derived.Test.YtfnndcbjklppeaaGreatDoorVL
import Derived.Test.YtfnndcbjklppeaaGreatDoorVO
import Derived.StillTailTactics
import Derived.Test.YtfnndcbjklppeaaGreatDoorVR
set_option maxHeartbeats 8000000
set_option maxRecDepth 1000000
set_option linter.unusedVariables false
namespace Go.Proofs.YtfnndcbjklppeaaGreatDoor
open Go.RowKit
abbrev patZ : Obj := .cells #[.int .i64 0, .slice none 0 0, .slice none 0 0, .int .i64 0, .int .i64 0, .int .i64 0, .int .i64 0, .bool false, .int .i64 0, .slice none 0 0] 35
abbrev fltZ : Obj := .cells #[.int .i64 0, .int .i64 0] 41
abbrev patS (W : World) (N : Nat) (n : NV) : World := ((nset W N n).setCell ⟨N, 8, none⟩ (.int .i64 0)).setCell ⟨N, 9, none⟩ (.slice none 0 0)
theorem patS_at {W : World} {N : Nat} (h : W.heap[N]? = some patZ) (n : NV) : (patS W N n).heap[N]? = some (patNO n 0 none 0 0) := by
 unfold patS nset
 rw [set_oneQ (set_oneQ (set_oneQ (set_oneQ (set_oneQ (set_oneQ (set_oneQ (set_oneQ (set_oneQ (set_oneQ h _ _) _ _) _ _) _ _) _ _) _ _) _ _) _ _) _ _) _ _]
 simp [patNO]
theorem patS_keep {W : World} {N b : Nat} (n : NV) (h : b ≠ N) : (patS W N n).heap[b]? = W.heap[b]? := by
 unfold patS
 have e : ∀ (W : World) (o : Nat) (v : Value), (W.setCell ⟨N, o, none⟩ v).heap[b]? = W.heap[b]? := fun W o v => Below.heap_setCell _ _ _ _ (by simpa using h)
 rw [e, e, nset_keep n h]
theorem patS_below {B N : Nat} {w W : World} (h : Below B w W) (hB : B ≤ N) (n : NV) : Below B w (patS W N n) := ((below_tok h hB _ _ _ _ _ _ _ _).setCell (p := ⟨N, 8, none⟩) hB _).setCell (p := ⟨N, 9, none⟩) hB _
abbrev fltS (W : World) (N : Nat) : World := (W.setCell ⟨N, 0, none⟩ (.int .i64 0)).setCell ⟨N, 1, none⟩ (.int .i64 0)
theorem fltS_at {W : World} {N : Nat} (h : W.heap[N]? = some fltZ) : (fltS W N).heap[N]? = some fltZ := by
 unfold fltS
 rw [set_oneQ (set_oneQ h _ _) _ _]
 simp
theorem fltS_keep {W : World} {N b : Nat} (h : b ≠ N) : (fltS W N).heap[b]? = W.heap[b]? := by
 unfold fltS
 have e : ∀ (W : World) (o : Nat) (v : Value), (W.setCell ⟨N, o, none⟩ v).heap[b]? = W.heap[b]? := fun W o v => Below.heap_setCell _ _ _ _ (by simpa using h)
 rw [e, e]
theorem fltS_below {B N : Nat} {w W : World} (h : Below B w W) (hB : B ≤ N) : Below B w (fltS W N) := (h.setCell (p := ⟨N, 0, none⟩) hB _).setCell (p := ⟨N, 1, none⟩) hB _
theorem ret_pat {f : Func} {tmps : Array Value} {W : World} {N M s a : Nat} {n : NV} {R : Ending → World → Prop} (hres : f.results = #[ResultVar.cell s 35, ResultVar.cell a 41]) (h2 : tmps[s]? = some (.pointer (some ⟨N, 0, none⟩))) (h3 : tmps[a]? = some (.pointer (some ⟨M, 0, none⟩))) (hW : W.heap[N]? = some (patNO n 0 none 0 0)) (hV : W.heap[M]? = some fltZ) (hF : R (.returned (.tuple #[patNV n 0 none 0 0, .agg #[.int .i64 0, .int .i64 0]])) W) :
  bodyPost Tryz.prog f R Exit.ret { tmps := tmps, defers := [] } W := by
 obtain ⟨⟨p0, p1, p2, p3, p4, p5, p6, p7⟩, p8, p9⟩ := patN_cells hW
 simp only [Nat.zero_add] at p0 p1 p2 p3 p4 p5 p6 p7
 have q0 : W.cell? ⟨M, 0, none⟩ = some (.int .i64 0) := by simp [World.cell?, hV]
 have q1 : W.cell? ⟨M, 1, none⟩ = some (.int .i64 0) := by simp [World.cell?, hV]
 refine bodyPost_ret (v := .tuple #[patNV n 0 none 0 0, .agg #[.int .i64 0, .int .i64 0]]) ?_ rfl hF
 simp [results, hres, go_sem, h2, h3, p0, p1, p2, p3, p4, p5, p6, p7, p8, p9, q0, q1]
theorem own_keepB {w w' : World} {B e k n : Nat} {v : Value} {xs : List Value} (h : w.ownsRow B e k v n xs) (hb : ∀ b o, B ≤ b → w.heap[b]? = some o → w'.heap[b]? = some o) : w'.ownsRow B e k v n xs := by
 refine ⟨h.1, ?_⟩
 rcases h.2 with h2 | ⟨g, cap, cur, rfl, h3, hg, h4⟩
 ·exact .inl h2
 ·exact .inr ⟨g, cap, cur, rfl, h3, hb g _ h3 hg, h4⟩
theorem parseOf_ab (x : Addr) (c : Nat) (w : World) (h : ReadsI w x abL) : Calls Tryz.prog 10 #[.int .i64 1, .slice (some x) 3 c, .bool false] w fun e w' => ∃ n, e = .returned (.tuple #[patNV n 0 none 0 0, .agg #[.int .i64 0, .int .i64 0]]) ∧ NodeC w' n tAB ∧ Below w.heap.size w w' := by
 have hxl : x.block < w.heap.size := by have := lt_of_cell (h 0 (by decide)); rw [show (x.add 0).block = x.block from add_block x 0] at this; exact this
 obtain ⟨w1, hw1⟩ : ∃ w1, w1 = (w.alloc patZ).alloc fltZ := ⟨_, rfl⟩
 have hb1 : Below w.heap.size w w1 := by rw [hw1]; exact two_below _ _ _
 have hx1 : w1.heap[w.heap.size]? = some patZ := by rw [hw1]; exact at_old (at_new _ _)
 have hx2 : w1.heap[w.heap.size + 1]? = some fltZ := by rw [hw1]; exact at_new' _ _ (by simp)
 have hs1 : w1.heap.size = w.heap.size + 1 + 1 := by rw [hw1]; simp
 obtain ⟨w2, hw2⟩ : ∃ w2, w2 = w1.alloc (prsO x c 0) := ⟨_, rfl⟩
 have hb2 : Below w1.heap.size w1 w2 := by rw [hw2]; exact (Below.refl _ _).alloc (Nat.le_refl _) _
 have hP2 : w2.heap[w.heap.size + 1 + 1]? = some (prsO x c 0) := by rw [hw2]; exact at_new' _ _ hs1.symm
 have hbb := hb1.trans (hb2.mono hb1.size)
 have HC1 := hide (right_ab x c w1 (h.below hb1))
 obtain ⟨N, hN⟩ : ∃ N, N = w.heap.size := ⟨_, rfl⟩
 rw [← hN] at hx1 hx2 hs1 hP2 hxl
 have HC2 := hide (pattern_ab (N + 1 + 1) x c w2 hP2 (h.below hbb) (by omega) (Nat.lt_of_lt_of_le (by omega) hbb.size))
 have HX1 := hide (below_at hb2 hx1)
 have HX2 := hide (below_at hb2 hx2)
 have HB2 := hide hbb
 have HP2 := hide hP2
 have HS1 := hide hs1
 have HNN := hide hN
 have HS2 : Hid (N + 1 + 1 < w2.heap.size) := lt_of_block hP2
 simp only [patZ, fltZ] at hw1
 simp only [prsO] at hw2
 clear hb1 hx1 hx2 hb2 hP2 hbb h hs1
 go_enter Tryz.func10, Tryz.ntmps10
 go_upto_region 1 with fail
 rw [← hw1, ← hN]
 clear hw1 hN
 go_wp2_with fail
 refine HC1.out.mono ?_
 rintro e w' ⟨rfl, hw'⟩
 have hw'' := hw'.symm
 subst hw''
 clear HC1
 go_upto_region 5 with fail
 rw [← hw2, HS1.out]
 clear hw2
 go_wp2_with fail
 refine HC2.out.mono ?_
 rintro e w3 ⟨kb, r1, r2, g, c4, rfl, hP3, hO3, hkb3, hr13, hr23, hR3, hK3, hl1, hl2, hl3⟩
 clear HC2
 -- the tree's box
 obtain ⟨W4, hW4⟩ : ∃ W4, W4 = w3.alloc (nvO (rwN g c4)) := ⟨_, rfl⟩
 have hb4 : Below w3.heap.size w3 W4 := by rw [hW4]; exact (Below.refl _ _).alloc (Nat.le_refl _) _
 have ht4 : W4.heap[w3.heap.size]? = some (nvO (rwN g c4)) := by rw [hW4]; exact at_new _ _
 obtain ⟨tb, htb⟩ : ∃ tb, tb = w3.heap.size := ⟨_, rfl⟩
 rw [← htb] at ht4
 have hx3 : w3.heap[N]? = some patZ := hK3.keep _ _ HX1.out (by omega)
 have hy3 : w3.heap[N + 1]? = some fltZ := hK3.keep _ _ HX2.out (by omega)
 have HX4 := hide (below_at hb4 hx3)
 have HY4 := hide (below_at hb4 hy3)
 have hP4 := below_at hb4 hP3
 have HP4 := hide hP4
 have hB3 : Below N w w3 := hK3.low N w (by omega) (by have := HB2.out; rw [← HNN.out] at this; exact this)
 have HB4 : Hid (Below N w W4) := hB3.trans (hb4.mono (by have := lt_of_block hP3; omega))
 have HO4 := hide (own_below hO3 hb4)
 have HK4 := hide (below_at hb4 hkb3)
 have HR1 := hide (below_at hb4 hr13)
 have HR2 := hide (below_at hb4 hr23)
 have HT4 := hide ht4
 have HLr : Hid (r1 < tb ∧ r2 < tb ∧ N + 1 + 1 < tb ∧ N + 1 + 1 < r1 ∧ N + 1 + 1 < r2) := ⟨by rw [htb]; exact lt_of_block hr13, by rw [htb]; exact lt_of_block hr23, by rw [htb]; exact lt_of_block hP3, by have := HS2.out; omega, by have := HS2.out; omega⟩
 obtain ⟨p0, p1, p2, p3, p4, p5, p6, p7, p8, p9, p10, p11⟩ := prs_cells hP4
 obtain ⟨d0, d1, d2, d3, d4, d5, d6, d7⟩ := nv_cells ht4
 simp only [Nat.zero_add] at d0 d1 d2 d3 d4 d5 d6 d7
 have HDr : Hid (Below W4.heap.size W4 W4.drew) := ⟨rfl, rfl, rfl, Nat.le_refl _, fun _ _ => rfl⟩
 have HC3 := hide (numbered_row _ g c4 kb r1 r2 W4.drew (own_below HO4.out HDr.out) (below_at HDr.out HK4.out))
 have HWl : Hid (tb < W4.heap.size) := lt_of_block ht4
 simp only [nvO] at hW4
 clear hP3 hO3 hkb3 hr13 hr23 hR3 hK3 hl1 hl2 hl3 hb4 ht4 hx3 hy3 hP4 hB3
 go_upto_region 6 with fail
 rw [← hW4, ← htb]
 clear hW4 htb
 go_upto_region 8 with fail
 go_wp2
 refine wp_loop_rounds 1 ?_
 rw [rounds_succ]
 go_wp2_with fail
 go_still_tail 5, (by kernel_rfl)
 go_wp2_with fail
 refine HC3.out.mono ?_
 rintro e w5 ⟨g1, c1, hh, c', rfl, ho5, hg5, hb5⟩
 have hb5' := HDr.out.trans hb5
 have hT5 := below_at hb5' HT4.out
 obtain ⟨t0, t1, t2, t3, t4, t5, t6, t7⟩ := nv_cells hT5
 simp only [Nat.zero_add] at t0 t1 t2 t3 t4 t5 t6 t7
 have fz : ∀ o, w5.frozen? ⟨tb, o, none⟩ = false := fun o => by simp [World.frozen?, hT5]
 obtain ⟨w6, hw6⟩ : ∃ w6, w6 = nset w5 tb (rwN hh c') := ⟨_, rfl⟩
 have hk6 : ∀ b o, b ≠ tb → w5.heap[b]? = some o → w6.heap[b]? = some o := fun b o hb ho => by rw [hw6, nset_keep _ hb]; exact ho
 have hX6 := hk6 _ _ (by have := HLr.out; omega) (below_at hb5' HX4.out)
 have hY6 := hk6 _ _ (by have := HLr.out; omega) (below_at hb5' HY4.out)
 have hP6 := hk6 _ _ (by have := HLr.out; omega) (below_at hb5' HP4.out)
 have hT6 : w6.heap[tb]? = some (nvO (rwN hh c')) := by rw [hw6]; exact nv_set hT5 _
 have hR16 := hk6 _ _ (by have := HLr.out; omega) (below_at hb5' HR1.out)
 have hR26 := hk6 _ _ (by have := HLr.out; omega) (below_at hb5' HR2.out)
 have hO6 := own_keepB (w' := w6) ho5 fun b o hb ho => hk6 b o (by have := HWl.out; have e : W4.drew.heap.size = W4.heap.size := rfl; omega) ho
 have hG6 := own_keepB (w' := w6) hg5 fun b o hb ho => hk6 b o (by have := HWl.out; have e : W4.drew.heap.size = W4.heap.size := rfl; omega) ho
 have hN6 := node_ab hO6 hG6 hR16 hR26
 have hb6 : Below N w w6 := by rw [hw6]; exact below_tok (HB4.out.trans (hb5'.mono (by have := HWl.out; have := HLr.out; omega))) (by have := HLr.out; omega) _ _ _ _ _ _ _ _
 have HX6 := hide hX6
 have HY6 := hide hY6
 have HP6 := hide hP6
 have HT6 := hide hT6
 have HR16 := hide hR16
 have HR26 := hide hR26
 have HO6 := hide hO6
 have HG6 := hide hG6
 have HB6 := hide hb6
 have HWl4 : Hid (tb < W4.drew.heap.size) := HWl.out
 have HC4 := hide (nodesOf_any hN6 (by decide) w6 (Below.refl _ _))
 have hszt : ((szT tAB : Nat) : Int) = 4 := rfl
 rw [hszt] at HC4
 clear hszt
 obtain ⟨s0, s1, s2, s3, s4, s5, s6, s7⟩ := nv_cells hT6
 simp only [Nat.zero_add] at s0 s1 s2 s3 s4 s5 s6 s7
 simp only [nset] at hw6
 clear HC3 hb5 hb5' hT5 hX6 hY6 hP6 hT6 hR16 hR26 ho5 hg5 hO6 hG6 hk6 hb6 hN6 HX4 HY4 HP4 HO4 HK4 HR1 HR2 HT4 HB4 p0 p1 p2 p3 p4 p5 p6 p7 p8 p9 p10 p11 d0 d1 d2 d3 d4 d5 d6 d7
 go_upto_region 22 with fail
 rw [← hw6]
 clear hw6 t0 t1 t2 t3 t4 t5 t6 t7 fz
 go_wp2_with fail
 refine HC4.out.mono ?_
 rintro e w7 ⟨rfl, hb7⟩
 have hX7 := below_at hb7 HX6.out
 have hY7 := below_at hb7 HY6.out
 have hP7 := below_at hb7 HP6.out
 have hT7 := below_at hb7 HT6.out
 obtain ⟨p0, p1, p2, p3, p4, p5, p6, p7, p8, p9, p10, p11⟩ := prs_cells hP7
 obtain ⟨d0, d1, d2, d3, d4, d5, d6, d7⟩ := nv_cells hT7
 simp only [Nat.zero_add] at d0 d1 d2 d3 d4 d5 d6 d7
 have fN : ∀ o, w7.frozen? ⟨N, o, none⟩ = false := fun o => by simp [World.frozen?, hX7]
 have fM : ∀ o, w7.frozen? ⟨N + 1, o, none⟩ = false := fun o => by simp [World.frozen?, hY7]
 have x0 : w7.cell? ⟨N, 0, none⟩ = some (.int .i64 0) := by simp [World.cell?, hX7]
 have x1 : w7.cell? ⟨N, 1, none⟩ = some (.slice none 0 0) := by simp [World.cell?, hX7]
 have x2 : w7.cell? ⟨N, 2, none⟩ = some (.slice none 0 0) := by simp [World.cell?, hX7]
 have x3 : w7.cell? ⟨N, 3, none⟩ = some (.int .i64 0) := by simp [World.cell?, hX7]
 have x4 : w7.cell? ⟨N, 4, none⟩ = some (.int .i64 0) := by simp [World.cell?, hX7]
 have x5 : w7.cell? ⟨N, 5, none⟩ = some (.int .i64 0) := by simp [World.cell?, hX7]
 have x6 : w7.cell? ⟨N, 6, none⟩ = some (.int .i64 0) := by simp [World.cell?, hX7]
 have x7 : w7.cell? ⟨N, 7, none⟩ = some (.bool false) := by simp [World.cell?, hX7]
 have x8 : w7.cell? ⟨N, 8, none⟩ = some (.int .i64 0) := by simp [World.cell?, hX7]
 have x9 : w7.cell? ⟨N, 9, none⟩ = some (.slice none 0 0) := by simp [World.cell?, hX7]
 have y0 : w7.cell? ⟨N + 1, 0, none⟩ = some (.int .i64 0) := by simp [World.cell?, hY7]
 have y1 : w7.cell? ⟨N + 1, 1, none⟩ = some (.int .i64 0) := by simp [World.cell?, hY7]
 have hlt7 := lt_of_block hY7
 obtain ⟨W8, hW8⟩ : ∃ W8, W8 = (fltS (patS w7 N (rwN hh c')) (N + 1)).drew := ⟨_, rfl⟩
 have dh : ∀ X : World, X.drew.heap = X.heap := fun _ => rfl
 have dB : ∀ (B : Nat) (Y X : World), Below B Y X → Below B Y X.drew := fun B Y X h => ⟨h.1, h.2, h.3, h.4, h.5⟩
 have hD8 : W8.heap = (fltS (patS w7 N (rwN hh c')) (N + 1)).heap := by rw [hW8, dh]
 have hk8 : ∀ b o, b ≠ N → b ≠ N + 1 → w7.heap[b]? = some o → W8.heap[b]? = some o := fun b o h1 h2 ho => by rw [hD8, fltS_keep h2, patS_keep _ h1]; exact ho
 have hN8 := node_ab (w := W8) (own_keepB (own_below HO6.out hb7) fun b o hb ho => hk8 b o (by have := HWl4.out; have := HLr.out; omega) (by have := HWl4.out; have := HLr.out; omega) ho) (own_keepB (own_below HG6.out hb7) fun b o hb ho => hk8 b o (by have := HWl4.out; have := HLr.out; omega) (by have := HWl4.out; have := HLr.out; omega) ho) (hk8 _ _ (by have := HLr.out; omega) (by have := HLr.out; omega) (below_at hb7 HR16.out)) (hk8 _ _ (by have := HLr.out; omega) (by have := HLr.out; omega) (below_at hb7 HR26.out))
 have hB8 : Below w.heap.size w W8 := by
  rw [hW8, ← HNN.out]
  have h9 := fltS_below (N := N + 1) (patS_below (N := N) (HB6.out.trans (hb7.mono (by have := lt_of_block HX6.out; omega))) (Nat.le_refl _) (rwN hh c')) (by omega)
  exact dB _ _ _ h9
 have HZ1 : Hid (W8.heap[N]? = some (patNO (rwN hh c') 0 none 0 0)) := by show _ = _; rw [hD8, fltS_keep (by omega)]; exact patS_at (W := w7) hX7 _
 have HZ2 : Hid (W8.heap[N + 1]? = some fltZ) := by show _ = _; rw [hD8]; exact fltS_at (by rw [patS_keep _ (by omega)]; exact hY7)
 have HN8 := hide hN8
 have HB8 := hide hB8
 simp only [fltS, patS, nset] at hW8
 have HW8 := hide hW8
 clear dh dB hW8 hX7 hY7 hP7 hT7 hk8 hN8 hB8 hD8 hb7 HC4
 go_upto_region 24 with fail
 go_region
 rw [← HW8.out]
 clear HW8 x0 x1 x2 x3 x4 x5 x6 x7 x8 x9 y0 y1 fN fM d0 d1 d2 d3 d4 d5 d6 d7 p0 p1 p2 p3 p4 p5 p6 p7 p8 p9 p10 p11
 go_wp2
 exact ret_pat rfl rfl rfl HZ1.out HZ2.out ⟨_, rfl, HN8.out, HB8.out⟩
end Go.Proofs.YtfnndcbjklppeaaGreatDoor
namespace Go.Proofs.YtfnndcbjklppeaaGreatDoor.Mk
open Go.RowKit Go.PlainAid
theorem made_ab8 : madeO tAB = [⟨9, [], 0, 0, 0, 0, false, false⟩, ⟨11, [], 0, 3, 0, 1, false, false⟩, ⟨3, [], 3, 6, 0, 0, false, false⟩, ⟨1, [(97, 97)], 0, 0, 0, 0, false, false⟩, ⟨10, [], 0, 1, 0, 0, false, false⟩, ⟨2, [], 1, 0, 0, 0, false, false⟩, ⟨1, [(98, 98)], 0, 0, 0, 0, false, false⟩, ⟨15, [], 0, 0, 0, 0, false, false⟩] := by rfl
theorem tree_ab : treeE tAB 0 = 0 := by rfl
theorem bh_ab : bhA tAB = true := by rfl
theorem prog_ab : progE 8 0 1 ((madeO tAB).map emb) = 0 := by rfl
theorem ops_ab {w : World} {oa : Option Addr} {oc : Nat} {L : OpL} (hO : OpsC w oa (madeO tAB).length oc L) (hL : L.map stripO = madeO tAB) : ∃ (x : Addr) (so0 so1 so2 so3 so4 so5 so6 so7 : Option Addr × Nat × Nat), oa = some x ∧ (8 ≤ oc ∧ oc ≤ 9223372036854775807) ∧ OCells w (x.add (0 * 8)) ⟨9, so0.1, so0.2.1, so0.2.2, 0, 0, 0, 0, false, false⟩ ∧ OCells w (x.add (1 * 8)) ⟨11, so1.1, so1.2.1, so1.2.2, 0, 3, 0, 1, false, false⟩ ∧ OCells w (x.add (2 * 8)) ⟨3, so2.1, so2.2.1, so2.2.2, 3, 6, 0, 0, false, false⟩ ∧ OCells w (x.add (3 * 8)) ⟨1, so3.1, so3.2.1, so3.2.2, 0, 0, 0, 0, false, false⟩ ∧ OCells w (x.add (4 * 8)) ⟨10, so4.1, so4.2.1, so4.2.2, 0, 1, 0, 0, false, false⟩ ∧ OCells w (x.add (5 * 8)) ⟨2, so5.1, so5.2.1, so5.2.2, 1, 0, 0, 0, false, false⟩ ∧ OCells w (x.add (6 * 8)) ⟨1, so6.1, so6.2.1, so6.2.2, 0, 0, 0, 0, false, false⟩ ∧ OCells w (x.add (7 * 8)) ⟨15, so7.1, so7.2.1, so7.2.2, 0, 0, 0, 0, false, false⟩ ∧ Reads w (.slice so3.1 so3.2.1 so3.2.2) [(97, 97)] ∧ Reads w (.slice so6.1 so6.2.1 so6.2.2) [(98, 98)] := by
 rw [made_ab8] at hO hL
 obtain ⟨x, hx, hc, h⟩ := op_at hO hL (by decide)
 obtain ⟨so0, q0, r0⟩ := h 0 (by decide)
 obtain ⟨so1, q1, r1⟩ := h 1 (by decide)
 obtain ⟨so2, q2, r2⟩ := h 2 (by decide)
 obtain ⟨so3, q3, r3⟩ := h 3 (by decide)
 obtain ⟨so4, q4, r4⟩ := h 4 (by decide)
 obtain ⟨so5, q5, r5⟩ := h 5 (by decide)
 obtain ⟨so6, q6, r6⟩ := h 6 (by decide)
 obtain ⟨so7, q7, r7⟩ := h 7 (by decide)
 exact ⟨x, so0, so1, so2, so3, so4, so5, so6, so7, hx, hc, q0, q1, q2, q3, q4, q5, q6, q7, r3, r6⟩
theorem name_nil {z : Int} (h : NameE [] z) : z = 0 := by
 rcases h with ⟨_, i, hi, _⟩ | ⟨_, _, i, hi, _⟩ | ⟨_, _, _, i, _, hi, _⟩ | ⟨h, _⟩
 ·simp at hi
 ·simp at hi
 ·simp at hi
 ·exact h
theorem beh_ab {z : Int} (h : BehE tAB 0 [] z) : z = 0 := by
 have pat : ∀ z, PatE tAB 0 [] z → z = 0 := fun z h => by
  rcases h with ⟨h1, _⟩ | ⟨_, h⟩
  ·exact absurd (by decide) h1
  ·have ht := tree_ab
   rcases h with ⟨h2, h3⟩ | ⟨h2, h3, h4⟩ | ⟨h2, h3, h4⟩
   ·omega
   ·exact absurd rfl h3
   ·exact name_nil h4
 rcases h with ⟨h1, _⟩ | ⟨_, h2⟩
 ·exact pat z h1
 ·rw [bh_ab] at h2; simpa using h2
def MadeAb (w : World) (e : Ending) (w' : World) : Prop := ∃ (L : OpL) (oc : Nat) (x : Addr) (so0 so1 so2 so3 so4 so5 so6 so7 : Option Addr × Nat × Nat), e = .returned (.tuple #[prV (some x) 8 oc 0 1, .int .i64 0]) ∧ Below w.heap.size w w' ∧ OpsC w' (some x) 8 oc L ∧ progE 8 0 1 L = 0 ∧ (8 ≤ oc ∧ oc ≤ 9223372036854775807) ∧ OCells w' (x.add (0 * 8)) ⟨9, so0.1, so0.2.1, so0.2.2, 0, 0, 0, 0, false, false⟩ ∧ OCells w' (x.add (1 * 8)) ⟨11, so1.1, so1.2.1, so1.2.2, 0, 3, 0, 1, false, false⟩ ∧ OCells w' (x.add (2 * 8)) ⟨3, so2.1, so2.2.1, so2.2.2, 3, 6, 0, 0, false, false⟩ ∧ OCells w' (x.add (3 * 8)) ⟨1, so3.1, so3.2.1, so3.2.2, 0, 0, 0, 0, false, false⟩ ∧ OCells w' (x.add (4 * 8)) ⟨10, so4.1, so4.2.1, so4.2.2, 0, 1, 0, 0, false, false⟩ ∧ OCells w' (x.add (5 * 8)) ⟨2, so5.1, so5.2.1, so5.2.2, 1, 0, 0, 0, false, false⟩ ∧ OCells w' (x.add (6 * 8)) ⟨1, so6.1, so6.2.1, so6.2.2, 0, 0, 0, 0, false, false⟩ ∧ OCells w' (x.add (7 * 8)) ⟨15, so7.1, so7.2.1, so7.2.2, 0, 0, 0, 0, false, false⟩ ∧ Reads w' (.slice so3.1 so3.2.1 so3.2.2) [(97, 97)] ∧ Reads w' (.slice so6.1 so6.2.1 so6.2.2) [(98, 98)]
theorem make_ab (n : NV) (w : World) (h : NodeC w n tAB) : Calls Tryz.prog 8 #[patNV n 0 none 0 0] w fun e w' => MadeAb w e w' := by
 refine (make_any n tAB 0 none 0 0 [] w h (.inl ⟨rfl, rfl⟩)).mono ?_
 rintro e w' ⟨z, hz, hb, ⟨hne, _⟩ | ⟨_, oa, oc, L, he, hO, hL⟩⟩
 ·exact absurd (beh_ab hz) hne
 ·have hp : progE 8 0 1 L = 0 := by rw [progE_emb (OpsC.sl hO), hL]; exact prog_ab
  obtain ⟨x, so0, so1, so2, so3, so4, so5, so6, so7, hx, hc, q⟩ := ops_ab hO hL
  subst hx
  exact ⟨L, oc, x, so0, so1, so2, so3, so4, so5, so6, so7, he, hb, hO, hp, hc, q⟩
end Go.Proofs.YtfnndcbjklppeaaGreatDoor.Mk
