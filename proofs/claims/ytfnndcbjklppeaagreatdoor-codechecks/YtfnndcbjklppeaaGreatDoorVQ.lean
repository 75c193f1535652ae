import Derived.Test.YtfnndcbjklppeaaGreatDoorVJ
import Derived.Test.YtfnndcbjklppeaaGreatDoorVP
set_option maxHeartbeats 4000000
set_option linter.unusedVariables false
set_option maxRecDepth 100000
namespace Go.Proofs.YtfnndcbjklppeaaGreatDoor.Mk
open Go.RowKit
variable {w w' : World} {mb : Nat} {g : Int} {s s' : MS}
abbrev nodeA (mb : Nat) (n : NV) : Array Value := #[.pointer (some ⟨mb, 0, none⟩), nvV n]
theorem enters1 (args : Array Value) (w : World) : (callFunc 70 args).run Tryz.prog w = .ok (.enter 70 args) w := by first | rfl | kernel_rfl
theorem enters2 (args : Array Value) (w : World) : (callFunc 71 args).run Tryz.prog w = .ok (.enter 71 args) w := by first | rfl | kernel_rfl
theorem enters3 (args : Array Value) (w : World) : (callFunc 73 args).run Tryz.prog w = .ok (.enter 73 args) w := by first | rfl | kernel_rfl
theorem enters4 (args : Array Value) (w : World) : (callFunc 74 args).run Tryz.prog w = .ok (.enter 74 args) w := by first | rfl | kernel_rfl
theorem enters5 (args : Array Value) (w : World) : (callFunc 76 args).run Tryz.prog w = .ok (.enter 76 args) w := by first | rfl | kernel_rfl
theorem arm1 (h : MB w mb g s) (n : NV) (hk : n.kind = 1) : Calls Tryz.prog 42 (nodeA mb n) w fun e w' => MkE mb g s w e w' := by
 have hlt := h.lt
 obtain ⟨W, hW, hM, hT, hp, hn⟩ := two_box h n
 have HT := hide hT
 have p0 : W.cell? ⟨w.heap.size, 0, none⟩ = some (.pointer (some ⟨mb, 0, none⟩)) := by simp [World.cell?, hp]
 obtain ⟨d0, d1, d2, d3, d4, d5, d6, d7⟩ := nv_cells hn
 simp only [Nat.zero_add] at d0 d1 d2 d3 d4 d5 d6 d7
 rw [hk] at d0
 simp only [nvO] at hW
 have HH := hide hM
 clear h hp hn hT hM hk
 go_enter Tryz.func42, Tryz.ntmps42
 go_upto_region 1 with fail
 rw [← hW]
 clear hW
 go_wp2
 go_end0
 exact ⟨rfl, HH.out, HT.out⟩
theorem arm10 (h : MB w mb g s) (n : NV) (hk : n.kind = 10) (x : Addr) (m : Nat) (ts : List Tr) (vs : Nat → NV) (hka : n.ka = some x) (hkl : n.kl = m + 1) (hlen : ts.length = m + 1) (hmx : m + 1 ≤ n.kc ∧ n.kc ≤ 9223372036854775807) (hK : ∀ j, j < ts.length → ∀ W, Step mb w W → NCells W (x.add (j * 8)) (vs j)) (hf : ∀ j (hj : j < ts.length), DoesF mb g w 42 (nodeA mb (vs j)) (mkT ts[j])) (hs : (mkE s.lab.length ts s.newL).fits) : Calls Tryz.prog 42 (nodeA mb n) w fun e w' => MkE mb g (mkE s.lab.length ts s.newL) w e w' := by
 have hlt := h.lt
 obtain ⟨W, hW, hM, hT, hp, hn⟩ := two_box h n
 have HT := hide hT
 have p0 : W.cell? ⟨w.heap.size, 0, none⟩ = some (.pointer (some ⟨mb, 0, none⟩)) := by simp [World.cell?, hp]
 obtain ⟨d0, d1, d2, d3, d4, d5, d6, d7⟩ := nv_cells hn
 simp only [Nat.zero_add] at d0 d1 d2 d3 d4 d5 d6 d7
 rw [hk] at d0
 simp only [nvO] at hW
 rw [hka, hkl] at d2
 clear hka hkl
 have HC := hide (either_any hM x n.kc m ts vs hlen hmx (fun j hj W2 h2 => hK j hj W2 (hT.trans h2)) (fun j hj => (hf j hj).step hT) hs)
 clear h hp hn hs hT hM hk hK hf hmx hlen
 go_enter Tryz.func42, Tryz.ntmps42
 go_upto_region 1 with fail
 rw [← hW]
 clear hW
 go_wp2_with fail
 refine HC.out.mono ?_
 rintro e w1 ⟨rfl, h1, st1⟩
 have HH := hide h1
 have HT1 := hide (HT.out.trans st1)
 clear h1 st1 HC
 go_wp2
 go_end0
 exact ⟨rfl, HH.out, HT1.out⟩
theorem arm11 (h : MB w mb g s) (n : NV) (hk : n.kind = 11) (v : NV) (x : Addr) (hka : n.ka = some x) (hkl : n.kl = 1) (hK : ∀ W, Step mb w W → NCells W x v) (f : MS → MS) (hu : Up f) (hf : DoesF mb g w 42 (nodeA mb v) f) (hs : ((f (s.newC.add { dn := 7, to := s.cnt })).add { dn := 4, to := n.num, other := s.cnt }).fits) : Calls Tryz.prog 42 (nodeA mb n) w fun e w' => MkE mb g ((f (s.newC.add { dn := 7, to := s.cnt })).add { dn := 4, to := n.num, other := s.cnt }) w e w' := by
 have hlt := h.lt
 obtain ⟨W, hW, hM, hT, hp, hn⟩ := two_box h n
 have HT := hide hT
 have p0 : W.cell? ⟨w.heap.size, 0, none⟩ = some (.pointer (some ⟨mb, 0, none⟩)) := by simp [World.cell?, hp]
 obtain ⟨d0, d1, d2, d3, d4, d5, d6, d7⟩ := nv_cells hn
 simp only [Nat.zero_add] at d0 d1 d2 d3 d4 d5 d6 d7
 rw [hk] at d0
 simp only [nvO] at hW
 have HC := hide (group_any hM n v x hka hkl (fun W2 h2 => hK W2 (hT.trans h2)) f hu (hf.step hT) hs)
 simp only [nvV, hk] at HC
 clear h hp hn hs hT hM hk hka hkl hK hu hf
 go_enter Tryz.func42, Tryz.ntmps42
 go_upto_region 1 with fail
 rw [← hW]
 clear hW
 go_wp2_with fail
 refine HC.out.mono ?_
 rintro e w1 ⟨rfl, h1, st1⟩
 have HH := hide h1
 have HT1 := hide (HT.out.trans st1)
 clear h1 st1 HC
 go_wp2
 go_end0
 exact ⟨rfl, HH.out, HT1.out⟩
theorem arm12 (h : MB w mb g s) (n : NV) (hk : n.kind = 12) (v : NV) (x : Addr) (hka : n.ka = some x) (hkl : n.kl = 1) (hK : ∀ W, Step mb w W → NCells W x v) (f : MS → MS) (hu : Up f) (hf : DoesF mb g w 42 (nodeA mb v) f) (F : FT) (hF : ∀ W, Step mb w W → Calls Tryz.prog 64 #[nvV v] W fun e w' => e = .returned (ftV F) ∧ Below W.heap.size W w') (hl : 0 ≤ n.least) (hm : n.most = -1 ∨ n.least ≤ n.most) (hs : (repM n.least n.most n.way F.least f s).fits) : Calls Tryz.prog 42 (nodeA mb n) w fun e w' => MkE mb g (repM n.least n.most n.way F.least f s) w e w' := by
 have hlt := h.lt
 obtain ⟨W, hW, hM, hT, hp, hn⟩ := two_box h n
 have HT := hide hT
 have p0 : W.cell? ⟨w.heap.size, 0, none⟩ = some (.pointer (some ⟨mb, 0, none⟩)) := by simp [World.cell?, hp]
 obtain ⟨d0, d1, d2, d3, d4, d5, d6, d7⟩ := nv_cells hn
 simp only [Nat.zero_add] at d0 d1 d2 d3 d4 d5 d6 d7
 rw [hk] at d0
 simp only [nvO] at hW
 have HC := hide (repeat_any hM n v x F hka hkl (fun W2 h2 => hK W2 (hT.trans h2)) (fun W2 h2 => hF W2 (hT.trans h2)) f hu (hf.step hT) hl hm hs)
 simp only [nvV, hk] at HC
 clear h hp hn hs hT hM hk hka hkl hK hu hf hF hl hm
 go_enter Tryz.func42, Tryz.ntmps42
 go_upto_region 1 with fail
 rw [← hW]
 clear hW
 go_wp2_with fail
 refine HC.out.mono ?_
 rintro e w1 ⟨rfl, h1, st1⟩
 have HH := hide h1
 have HT1 := hide (HT.out.trans st1)
 clear h1 st1 HC
 go_wp2
 go_end0
 exact ⟨rfl, HH.out, HT1.out⟩
theorem arm13 (h : MB w mb g s) (n : NV) (hk : n.kind = 13) (v : NV) (x : Addr) (hka : n.ka = some x) (hkl : n.kl = 1) (hK : ∀ W, Step mb w W → NCells W x v) (f : MS → MS) (hu : Up f) (hf : DoesF mb g w 42 (nodeA mb v) f) (hs : (firstM false f s).fits) : Calls Tryz.prog 42 (nodeA mb n) w fun e w' => MkE mb g (firstM false f s) w e w' := by
 have hlt := h.lt
 obtain ⟨W, hW, hM, hT, hp, hn⟩ := two_box h n
 have HT := hide hT
 have p0 : W.cell? ⟨w.heap.size, 0, none⟩ = some (.pointer (some ⟨mb, 0, none⟩)) := by simp [World.cell?, hp]
 obtain ⟨d0, d1, d2, d3, d4, d5, d6, d7⟩ := nv_cells hn
 simp only [Nat.zero_add] at d0 d1 d2 d3 d4 d5 d6 d7
 rw [hk] at d0
 simp only [nvO] at hW
 have HC := hide (first_any hM false 70 #[.pointer (some ⟨w.heap.size, 0, none⟩), .pointer (some ⟨w.heap.size + 1, 0, none⟩)] enters1 f hu (clo1 n v x _ _ hlt (by omega) hp hn hka hkl (fun W2 h2 => hK W2 (hT.trans h2)) f (hf.step hT)) hs)
 clear h hp hn hs hT hM hk hka hkl hK hu hf
 go_enter Tryz.func42, Tryz.ntmps42
 go_upto_region 1 with fail
 rw [← hW]
 clear hW
 go_wp2_with fail
 refine HC.out.mono ?_
 rintro e w1 ⟨rfl, h1, st1⟩
 have HH := hide h1
 have HT1 := hide (HT.out.trans st1)
 clear h1 st1 HC
 go_wp2
 go_end0
 exact ⟨rfl, HH.out, HT1.out⟩
theorem arm14 (h : MB w mb g s) (n : NV) (hk : n.kind = 14) (v : NV) (x : Addr) (hka : n.ka = some x) (hkl : n.kl = 1) (hK : ∀ W, Step mb w W → NCells W x v) (f : MS → MS) (hu : Up f) (hf : DoesF mb g w 42 (nodeA mb v) f) (hs : (firstM true f s).fits) : Calls Tryz.prog 42 (nodeA mb n) w fun e w' => MkE mb g (firstM true f s) w e w' := by
 have hlt := h.lt
 obtain ⟨W, hW, hM, hT, hp, hn⟩ := two_box h n
 have HT := hide hT
 have p0 : W.cell? ⟨w.heap.size, 0, none⟩ = some (.pointer (some ⟨mb, 0, none⟩)) := by simp [World.cell?, hp]
 obtain ⟨d0, d1, d2, d3, d4, d5, d6, d7⟩ := nv_cells hn
 simp only [Nat.zero_add] at d0 d1 d2 d3 d4 d5 d6 d7
 rw [hk] at d0
 simp only [nvO] at hW
 have HC := hide (first_any hM true 71 #[.pointer (some ⟨w.heap.size, 0, none⟩), .pointer (some ⟨w.heap.size + 1, 0, none⟩)] enters2 f hu (clo2 n v x _ _ hlt (by omega) hp hn hka hkl (fun W2 h2 => hK W2 (hT.trans h2)) f (hf.step hT)) hs)
 clear h hp hn hs hT hM hk hka hkl hK hu hf
 go_enter Tryz.func42, Tryz.ntmps42
 go_upto_region 1 with fail
 rw [← hW]
 clear hW
 go_wp2_with fail
 refine HC.out.mono ?_
 rintro e w1 ⟨rfl, h1, st1⟩
 have HH := hide h1
 have HT1 := hide (HT.out.trans st1)
 clear h1 st1 HC
 go_wp2
 go_end0
 exact ⟨rfl, HH.out, HT1.out⟩
theorem arm15 (h : MB w mb g s) (n : NV) (hk : n.kind = 15) (v : NV) (x : Addr) (hka : n.ka = some x) (hkl : n.kl = 1) (hK : ∀ W, Step mb w W → NCells W x v) (f : MS → MS) (hu : Up f) (hf : DoesF mb g w 42 (nodeA mb v) f) (hs : (noneM f s).fits) : Calls Tryz.prog 42 (nodeA mb n) w fun e w' => MkE mb g (noneM f s) w e w' := by
 have hlt := h.lt
 obtain ⟨W, hW, hM, hT, hp, hn⟩ := two_box h n
 have HT := hide hT
 have p0 : W.cell? ⟨w.heap.size, 0, none⟩ = some (.pointer (some ⟨mb, 0, none⟩)) := by simp [World.cell?, hp]
 obtain ⟨d0, d1, d2, d3, d4, d5, d6, d7⟩ := nv_cells hn
 simp only [Nat.zero_add] at d0 d1 d2 d3 d4 d5 d6 d7
 rw [hk] at d0
 simp only [nvO] at hW
 have HC := hide (none_any hM 73 #[.pointer (some ⟨w.heap.size, 0, none⟩), .pointer (some ⟨w.heap.size + 1, 0, none⟩)] enters3 f hu (clo3 n v x _ _ hlt (by omega) hp hn hka hkl (fun W2 h2 => hK W2 (hT.trans h2)) f (hf.step hT)) hs)
 clear h hp hn hs hT hM hk hka hkl hK hu hf
 go_enter Tryz.func42, Tryz.ntmps42
 go_upto_region 1 with fail
 rw [← hW]
 clear hW
 go_wp2_with fail
 refine HC.out.mono ?_
 rintro e w1 ⟨rfl, h1, st1⟩
 have HH := hide h1
 have HT1 := hide (HT.out.trans st1)
 clear h1 st1 HC
 go_wp2
 go_end0
 exact ⟨rfl, HH.out, HT1.out⟩
theorem arm16 (h : MB w mb g s) (n : NV) (hk : n.kind = 16) (v : NV) (x : Addr) (hka : n.ka = some x) (hkl : n.kl = 1) (hK : ∀ W, Step mb w W → NCells W x v) (f : MS → MS) (hu : Up f) (hf : DoesF mb g w 42 (nodeA mb v) f) (F : FT) (hF : ∀ W, Step mb w W → Calls Tryz.prog 64 #[nvV v] W fun e w' => e = .returned (ftV F) ∧ Below W.heap.size W w') (hFm : F.most ≤ 1000000 ∧ -1 ≤ F.most) (hs : (firstM false (behindM F.least F.most f) s).fits) : Calls Tryz.prog 42 (nodeA mb n) w fun e w' => MkE mb g (firstM false (behindM F.least F.most f) s) w e w' := by
 have hlt := h.lt
 obtain ⟨W, hW, hM, hT, hp, hn⟩ := two_box h n
 have HT := hide hT
 have p0 : W.cell? ⟨w.heap.size, 0, none⟩ = some (.pointer (some ⟨mb, 0, none⟩)) := by simp [World.cell?, hp]
 obtain ⟨d0, d1, d2, d3, d4, d5, d6, d7⟩ := nv_cells hn
 simp only [Nat.zero_add] at d0 d1 d2 d3 d4 d5 d6 d7
 rw [hk] at d0
 simp only [nvO] at hW
 have HC := hide (first_any hM false 74 #[.pointer (some ⟨w.heap.size, 0, none⟩), .pointer (some ⟨w.heap.size + 1, 0, none⟩)] enters4 _ (behind_up _ _ hu) (clo4 n v x _ _ hlt (by omega) hp hn hka hkl (fun W2 h2 => hK W2 (hT.trans h2)) _ (fun W2 s2 h2 hM2 hf2 => behind_any hM2 v F f hu hFm (fun W3 h3 => hF W3 (hT.trans (h2.trans h3))) (hf.step (hT.trans h2)) hf2)) hs)
 clear h hp hn hs hT hM hk hka hkl hK hu hf hF hFm
 go_enter Tryz.func42, Tryz.ntmps42
 go_upto_region 1 with fail
 rw [← hW]
 clear hW
 go_wp2_with fail
 refine HC.out.mono ?_
 rintro e w1 ⟨rfl, h1, st1⟩
 have HH := hide h1
 have HT1 := hide (HT.out.trans st1)
 clear h1 st1 HC
 go_wp2
 go_end0
 exact ⟨rfl, HH.out, HT1.out⟩
theorem arm17 (h : MB w mb g s) (n : NV) (hk : n.kind = 17) (v : NV) (x : Addr) (hka : n.ka = some x) (hkl : n.kl = 1) (hK : ∀ W, Step mb w W → NCells W x v) (f : MS → MS) (hu : Up f) (hf : DoesF mb g w 42 (nodeA mb v) f) (F : FT) (hF : ∀ W, Step mb w W → Calls Tryz.prog 64 #[nvV v] W fun e w' => e = .returned (ftV F) ∧ Below W.heap.size W w') (hFm : F.most ≤ 1000000 ∧ -1 ≤ F.most) (hs : (noneM (behindM F.least F.most f) s).fits) : Calls Tryz.prog 42 (nodeA mb n) w fun e w' => MkE mb g (noneM (behindM F.least F.most f) s) w e w' := by
 have hlt := h.lt
 obtain ⟨W, hW, hM, hT, hp, hn⟩ := two_box h n
 have HT := hide hT
 have p0 : W.cell? ⟨w.heap.size, 0, none⟩ = some (.pointer (some ⟨mb, 0, none⟩)) := by simp [World.cell?, hp]
 obtain ⟨d0, d1, d2, d3, d4, d5, d6, d7⟩ := nv_cells hn
 simp only [Nat.zero_add] at d0 d1 d2 d3 d4 d5 d6 d7
 rw [hk] at d0
 simp only [nvO] at hW
 have HC := hide (none_any hM 76 #[.pointer (some ⟨w.heap.size, 0, none⟩), .pointer (some ⟨w.heap.size + 1, 0, none⟩)] enters5 _ (behind_up _ _ hu) (clo5 n v x _ _ hlt (by omega) hp hn hka hkl (fun W2 h2 => hK W2 (hT.trans h2)) _ (fun W2 s2 h2 hM2 hf2 => behind_any hM2 v F f hu hFm (fun W3 h3 => hF W3 (hT.trans (h2.trans h3))) (hf.step (hT.trans h2)) hf2)) hs)
 clear h hp hn hs hT hM hk hka hkl hK hu hf hF hFm
 go_enter Tryz.func42, Tryz.ntmps42
 go_upto_region 1 with fail
 rw [← hW]
 clear hW
 go_wp2_with fail
 refine HC.out.mono ?_
 rintro e w1 ⟨rfl, h1, st1⟩
 have HH := hide h1
 have HT1 := hide (HT.out.trans st1)
 clear h1 st1 HC
 go_wp2
 go_end0
 exact ⟨rfl, HH.out, HT1.out⟩
theorem arm18 (h : MB w mb g s) (n : NV) (hk : n.kind = 18) (hs : (s.add { dn := 6, to := n.num, fold := n.fold }).fits) : Calls Tryz.prog 42 (nodeA mb n) w fun e w' => MkE mb g (s.add { dn := 6, to := n.num, fold := n.fold }) w e w' := by
 have hlt := h.lt
 obtain ⟨W, hW, hM, hT, hp, hn⟩ := two_box h n
 have HT := hide hT
 have p0 : W.cell? ⟨w.heap.size, 0, none⟩ = some (.pointer (some ⟨mb, 0, none⟩)) := by simp [World.cell?, hp]
 obtain ⟨d0, d1, d2, d3, d4, d5, d6, d7⟩ := nv_cells hn
 simp only [Nat.zero_add] at d0 d1 d2 d3 d4 d5 d6 d7
 rw [hk] at d0
 simp only [nvO] at hW
 have HC := hide (add0 hM 6 n.num 0 0 0 n.fold false (by have := ((le_add s _).fits hs).1; omega))
 clear h hp hn hs hT hM hk 
 go_enter Tryz.func42, Tryz.ntmps42
 go_upto_region 1 with fail
 rw [← hW]
 clear hW
 go_wp2_with fail
 refine HC.out.mono ?_
 rintro e w1 ⟨rfl, h1, st1⟩
 have HH := hide h1
 have HT1 := hide (HT.out.trans st1)
 clear h1 st1 HC
 go_wp2
 go_end0
 exact ⟨rfl, HH.out, HT1.out⟩
theorem arm3 (h : MB w mb g s) (n : NV) (hk : n.kind = 3) (hs : (s.add { dn := 5, kind := 3 }).fits) : Calls Tryz.prog 42 (nodeA mb n) w fun e w' => MkE mb g (s.add { dn := 5, kind := 3 }) w e w' := by
 have hlt := h.lt
 obtain ⟨W, hW, hM, hT, hp, hn⟩ := two_box h n
 have HT := hide hT
 have p0 : W.cell? ⟨w.heap.size, 0, none⟩ = some (.pointer (some ⟨mb, 0, none⟩)) := by simp [World.cell?, hp]
 obtain ⟨d0, d1, d2, d3, d4, d5, d6, d7⟩ := nv_cells hn
 simp only [Nat.zero_add] at d0 d1 d2 d3 d4 d5 d6 d7
 rw [hk] at d0
 simp only [nvO] at hW
 have HC := hide (add0 hM 5 0 0 3 0 false false (by have := ((le_add s _).fits hs).1; omega))
 clear h hp hn hs hT hM hk 
 go_enter Tryz.func42, Tryz.ntmps42
 go_upto_region 1 with fail
 rw [← hW]
 clear hW
 go_wp2_with fail
 refine HC.out.mono ?_
 rintro e w1 ⟨rfl, h1, st1⟩
 have HH := hide h1
 have HT1 := hide (HT.out.trans st1)
 clear h1 st1 HC
 go_wp2
 go_end0
 exact ⟨rfl, HH.out, HT1.out⟩
theorem arm4 (h : MB w mb g s) (n : NV) (hk : n.kind = 4) (hs : (s.add { dn := 5, kind := 4 }).fits) : Calls Tryz.prog 42 (nodeA mb n) w fun e w' => MkE mb g (s.add { dn := 5, kind := 4 }) w e w' := by
 have hlt := h.lt
 obtain ⟨W, hW, hM, hT, hp, hn⟩ := two_box h n
 have HT := hide hT
 have p0 : W.cell? ⟨w.heap.size, 0, none⟩ = some (.pointer (some ⟨mb, 0, none⟩)) := by simp [World.cell?, hp]
 obtain ⟨d0, d1, d2, d3, d4, d5, d6, d7⟩ := nv_cells hn
 simp only [Nat.zero_add] at d0 d1 d2 d3 d4 d5 d6 d7
 rw [hk] at d0
 simp only [nvO] at hW
 have HC := hide (add0 hM 5 0 0 4 0 false false (by have := ((le_add s _).fits hs).1; omega))
 clear h hp hn hs hT hM hk 
 go_enter Tryz.func42, Tryz.ntmps42
 go_upto_region 1 with fail
 rw [← hW]
 clear hW
 go_wp2_with fail
 refine HC.out.mono ?_
 rintro e w1 ⟨rfl, h1, st1⟩
 have HH := hide h1
 have HT1 := hide (HT.out.trans st1)
 clear h1 st1 HC
 go_wp2
 go_end0
 exact ⟨rfl, HH.out, HT1.out⟩
theorem arm5 (h : MB w mb g s) (n : NV) (hk : n.kind = 5) (hs : (s.add { dn := 5, kind := 5 }).fits) : Calls Tryz.prog 42 (nodeA mb n) w fun e w' => MkE mb g (s.add { dn := 5, kind := 5 }) w e w' := by
 have hlt := h.lt
 obtain ⟨W, hW, hM, hT, hp, hn⟩ := two_box h n
 have HT := hide hT
 have p0 : W.cell? ⟨w.heap.size, 0, none⟩ = some (.pointer (some ⟨mb, 0, none⟩)) := by simp [World.cell?, hp]
 obtain ⟨d0, d1, d2, d3, d4, d5, d6, d7⟩ := nv_cells hn
 simp only [Nat.zero_add] at d0 d1 d2 d3 d4 d5 d6 d7
 rw [hk] at d0
 simp only [nvO] at hW
 have HC := hide (add0 hM 5 0 0 5 0 false false (by have := ((le_add s _).fits hs).1; omega))
 clear h hp hn hs hT hM hk 
 go_enter Tryz.func42, Tryz.ntmps42
 go_upto_region 1 with fail
 rw [← hW]
 clear hW
 go_wp2_with fail
 refine HC.out.mono ?_
 rintro e w1 ⟨rfl, h1, st1⟩
 have HH := hide h1
 have HT1 := hide (HT.out.trans st1)
 clear h1 st1 HC
 go_wp2
 go_end0
 exact ⟨rfl, HH.out, HT1.out⟩
theorem arm6 (h : MB w mb g s) (n : NV) (hk : n.kind = 6) (hs : (s.add { dn := 5, kind := 6 }).fits) : Calls Tryz.prog 42 (nodeA mb n) w fun e w' => MkE mb g (s.add { dn := 5, kind := 6 }) w e w' := by
 have hlt := h.lt
 obtain ⟨W, hW, hM, hT, hp, hn⟩ := two_box h n
 have HT := hide hT
 have p0 : W.cell? ⟨w.heap.size, 0, none⟩ = some (.pointer (some ⟨mb, 0, none⟩)) := by simp [World.cell?, hp]
 obtain ⟨d0, d1, d2, d3, d4, d5, d6, d7⟩ := nv_cells hn
 simp only [Nat.zero_add] at d0 d1 d2 d3 d4 d5 d6 d7
 rw [hk] at d0
 simp only [nvO] at hW
 have HC := hide (add0 hM 5 0 0 6 0 false false (by have := ((le_add s _).fits hs).1; omega))
 clear h hp hn hs hT hM hk 
 go_enter Tryz.func42, Tryz.ntmps42
 go_upto_region 1 with fail
 rw [← hW]
 clear hW
 go_wp2_with fail
 refine HC.out.mono ?_
 rintro e w1 ⟨rfl, h1, st1⟩
 have HH := hide h1
 have HT1 := hide (HT.out.trans st1)
 clear h1 st1 HC
 go_wp2
 go_end0
 exact ⟨rfl, HH.out, HT1.out⟩
theorem arm7 (h : MB w mb g s) (n : NV) (hk : n.kind = 7) (hs : (s.add { dn := 5, kind := 7 }).fits) : Calls Tryz.prog 42 (nodeA mb n) w fun e w' => MkE mb g (s.add { dn := 5, kind := 7 }) w e w' := by
 have hlt := h.lt
 obtain ⟨W, hW, hM, hT, hp, hn⟩ := two_box h n
 have HT := hide hT
 have p0 : W.cell? ⟨w.heap.size, 0, none⟩ = some (.pointer (some ⟨mb, 0, none⟩)) := by simp [World.cell?, hp]
 obtain ⟨d0, d1, d2, d3, d4, d5, d6, d7⟩ := nv_cells hn
 simp only [Nat.zero_add] at d0 d1 d2 d3 d4 d5 d6 d7
 rw [hk] at d0
 simp only [nvO] at hW
 have HC := hide (add0 hM 5 0 0 7 0 false false (by have := ((le_add s _).fits hs).1; omega))
 clear h hp hn hs hT hM hk 
 go_enter Tryz.func42, Tryz.ntmps42
 go_upto_region 1 with fail
 rw [← hW]
 clear hW
 go_wp2_with fail
 refine HC.out.mono ?_
 rintro e w1 ⟨rfl, h1, st1⟩
 have HH := hide h1
 have HT1 := hide (HT.out.trans st1)
 clear h1 st1 HC
 go_wp2
 go_end0
 exact ⟨rfl, HH.out, HT1.out⟩
theorem arm8 (h : MB w mb g s) (n : NV) (hk : n.kind = 8) (hs : (s.add { dn := 5, kind := 8 }).fits) : Calls Tryz.prog 42 (nodeA mb n) w fun e w' => MkE mb g (s.add { dn := 5, kind := 8 }) w e w' := by
 have hlt := h.lt
 obtain ⟨W, hW, hM, hT, hp, hn⟩ := two_box h n
 have HT := hide hT
 have p0 : W.cell? ⟨w.heap.size, 0, none⟩ = some (.pointer (some ⟨mb, 0, none⟩)) := by simp [World.cell?, hp]
 obtain ⟨d0, d1, d2, d3, d4, d5, d6, d7⟩ := nv_cells hn
 simp only [Nat.zero_add] at d0 d1 d2 d3 d4 d5 d6 d7
 rw [hk] at d0
 simp only [nvO] at hW
 have HC := hide (add0 hM 5 0 0 8 0 false false (by have := ((le_add s _).fits hs).1; omega))
 clear h hp hn hs hT hM hk 
 go_enter Tryz.func42, Tryz.ntmps42
 go_upto_region 1 with fail
 rw [← hW]
 clear hW
 go_wp2_with fail
 refine HC.out.mono ?_
 rintro e w1 ⟨rfl, h1, st1⟩
 have HH := hide h1
 have HT1 := hide (HT.out.trans st1)
 clear h1 st1 HC
 go_wp2
 go_end0
 exact ⟨rfl, HH.out, HT1.out⟩
variable {w w' : World} {mb : Nat} {g : Int} {s s' : MS}
theorem checkE_len {S : RL} (h : checkE S = 0) : S.length ≤ 400 := by
 unfold checkE at h
 have hr : rightE S = 0 := by
  by_cases hh : rightE S = 0
  ·exact hh
  ·rw [if_neg hh] at h; exact absurd h hh
 unfold rightE at hr
 by_cases h4 : 400 < S.length
 ·rw [if_pos h4] at hr; exact absurd hr (by decide)
 ·omega
theorem own_base {B B' e k n : Nat} {v : Value} {xs : List Value} (h : w.ownsRow B e k v n xs) (hb : B' ≤ B) : w.ownsRow B' e k v n xs := by
 refine ⟨h.1, ?_⟩
 rcases h.2 with h2 | ⟨b, cap, cur, rfl, h3, h4⟩
 ·exact .inl h2
 ·exact .inr ⟨b, cap, cur, rfl, Nat.le_trans hb h3, h4⟩
theorem arm2 (h : MB w mb g s) (n : NV) (hk : n.kind = 2) (S : RL) (hS : Reads w (.slice n.sa n.sl n.sc) S) (hl : S.length ≤ 400) (hs : (s.add { dn := 1, set := S }).fits) : Calls Tryz.prog 42 (nodeA mb n) w fun e w' => MkE mb g (s.add { dn := 1, set := S }) w e w' := by
 have hlt := h.lt
 have hbw : Below w.heap.size w ((w.alloc (.cells #[.pointer (some ⟨mb, 0, none⟩)] 103)).alloc (nvO n)) := two_below _ _ _
 obtain ⟨W, hW, hM, hT, hp, hn⟩ := two_box h n
 rw [← hW] at hbw
 have HT := hide hT
 have hWl := hM.lt
 have HS : Hid (Step mb W W.drew) := Step.of_below (drew1 W) hWl
 have HP := hide hp
 have HN := hide hn
 have HC1 := hide (clone_any (.slice n.sa n.sl n.sc) S W.drew ((hS.below hbw).below (drew1 W)) (by omega))
 have HM0 := hide (hM.keep (drew1 W))
 have HB0 : Hid (mb + 1 ≤ W.drew.heap.size) := hWl
 have HFS : Hid (s.ops.length ≤ 20000) := by have := ((le_add s _).fits hs).1; show s.ops.length ≤ 20000; omega
 obtain ⟨d0, d1, d2, d3, d4, d5, d6, d7⟩ := nv_cells hn
 simp only [Nat.zero_add] at d0 d1 d2 d3 d4 d5 d6 d7
 rw [hk] at d0
 simp only [nvO] at hW
 obtain ⟨pb, hpb⟩ : ∃ pb, pb = w.heap.size := ⟨_, rfl⟩
 have hpl : mb < pb := by omega
 rw [← hpb] at HP HN d0 d1 d2 d3 d4 d5 d6 d7
 obtain ⟨sl, hsl⟩ : ∃ sl, sl = S.length := ⟨_, rfl⟩
 have HSL := hide hsl
 clear h hp hn hs hT hM hk hS hbw hl hsl
 go_enter Tryz.func42, Tryz.ntmps42
 go_upto_region 1 with fail
 rw [← hW, ← hpb]
 clear hW hpb
 go_upto_region 5 with fail
 refine wp_region_held (S := fun w' => Step mb W w') (by kernel_rfl) ?_
 change wpAnyH _ _ _ _ _ _ _ _ (World.drew _)
 refine wpAnyH_take (i := 0) (v := .pointer (some ⟨mb, 0, none⟩)) rfl (by kernel_rfl) (by kernel_rfl) (by kernel_rfl) (fun _ _ _ h => h) (Or.inl ⟨by kernel_rfl, fun w' hS => ?_⟩) HS.out ?_
 ·(have y0 : w'.cell? ⟨pb, 0, none⟩ = some (.pointer (some ⟨mb, 0, none⟩)) := by simp [World.cell?, hS.blk hpl HP.out (by decide) (by decide)]); go_simp
 refine wpAnyH_take (i := 1) (v := .pointer (some ⟨pb + 1, 1, none⟩)) rfl (by kernel_rfl) (by kernel_rfl) (by kernel_rfl) (fun _ _ _ h => h) (Or.inl ⟨by kernel_rfl, fun w' hS => ?_⟩) HS.out ?_
 ·go_simp
 refine wpAnyH_take (i := 2) (v := .slice n.sa n.sl n.sc) rfl (by kernel_rfl) (by kernel_rfl) (by kernel_rfl) (fun _ _ _ h => h) (Or.inl ⟨by kernel_rfl, fun w' hS => ?_⟩) HS.out ?_
 ·(obtain ⟨y0, y1, y2, y3, y4, y5, y6, y7⟩ := nv_cells (hS.blk (by omega) HN.out (by decide) (by decide)); simp only [Nat.zero_add] at y0 y1 y2 y3 y4 y5 y6 y7; go_simp)
 refine wpAnyH_ready (rs := [3]) (by kernel_rfl) (by simp) ?_
 refine AllReadyH.cons rfl (fun K hK => ?_) AllReadyH.nil
 go_simp
 refine HC1.out.mono ?_
 rintro e w1 ⟨v', rfl, ho, hb1⟩
 have st1 := Step.of_below hb1 HM0.out.lt
 have HS1 := hide (HS.out.trans st1)
 refine hK.out _ _ HS1.out (fun _ => ?_)
 clear hK K
 obtain ⟨ao, c, rfl⟩ := own_shape ho
 rw [← HSL.out]
 have HC2 := hide (add_any (HM0.out.keep hb1) ⟨1, ao, sl, c, 0, 0, 0, 0, false, false⟩ S (by show World.ownsRow _ _ _ _ _ _ _; rw [HSL.out]; exact own_base ho HB0.out) HFS.out)
 clear ho hb1 st1 HC1 HM0
 refine wpAnyH_take (i := 4) (v := .agg #[.int .i64 1, .slice ao sl c, .int .i64 0, .int .i64 0, .int .i64 0, .int .i64 0, .bool false, .bool false]) rfl (by kernel_rfl) (by kernel_rfl) (by kernel_rfl) (fun _ _ _ h => h) (Or.inl ⟨by kernel_rfl, fun w' hS => ?_⟩) HS1.out ?_
 ·go_simp
 refine wpAnyH_ready (rs := [5]) (by kernel_rfl) (by simp) ?_
 refine AllReadyH.cons rfl (fun K hK => ?_) AllReadyH.nil
 go_simp
 refine HC2.out.mono ?_
 rintro e w2 ⟨rfl, h2, st2⟩
 have HS2 := hide (HS1.out.trans st2)
 refine hK.out _ _ HS2.out (fun _ => ?_)
 clear hK K
 refine wpAnyH_done (by kernel_rfl) ?_ _
 have HH := hide h2
 have HT2 := hide (HT.out.trans HS2.out)
 clear h2 st2 HC2 HS1 HS2
 go_wp2
 go_end0
 exact ⟨rfl, HH.out, HT2.out⟩
theorem mkL_next {ts : List Tr} {j : Nat} (hj : j < ts.length) (s : MS) : mkL (ts.drop j) s = mkL (ts.drop (j + 1)) (mkT ts[j] s) := by
 rw [List.drop_eq_getElem_cons hj, mkL]
theorem arm9 (h : MB w mb g s) (n : NV) (hk : n.kind = 9) (x : Addr) (ts : List Tr) (vs : Nat → NV) (hka : n.ka = some x) (hkl : n.kl = ts.length) (hmx : ts.length ≤ n.kc ∧ n.kc ≤ 9223372036854775807) (hK : ∀ j, j < ts.length → ∀ W, Step mb w W → NCells W (x.add (j * 8)) (vs j)) (hf : ∀ j (hj : j < ts.length), DoesF mb g w 42 (nodeA mb (vs j)) (mkT ts[j])) (hs : (mkL ts s).fits) : Calls Tryz.prog 42 (nodeA mb n) w fun e w' => MkE mb g (mkL ts s) w e w' := by
 have hlt := h.lt
 obtain ⟨W, hW, hM, hT, hp, hn⟩ := two_box h n
 have HT := hide hT
 have HM := hide hM
 have HK := hide hK
 have HF := hide hf
 have HFit := hide hs
 obtain ⟨d0, d1, d2, d3, d4, d5, d6, d7⟩ := nv_cells hn
 simp only [Nat.zero_add] at d0 d1 d2 d3 d4 d5 d6 d7
 rw [hk] at d0
 rw [hka, hkl] at d2
 simp only [nvO] at hW
 obtain ⟨pb, hpb⟩ : ∃ pb, pb = w.heap.size := ⟨_, rfl⟩
 have hpl : mb < pb := by omega
 have HP := hide hp
 rw [← hpb] at HP d0 d1 d2 d3 d4 d5 d6 d7
 obtain ⟨R, hR⟩ : ∃ R, R = mkL ts s := ⟨_, rfl⟩
 rw [← hR] at HFit ⊢
 have HR := hide hR
 obtain ⟨m, hm⟩ : ∃ m, m = ts.length := ⟨_, rfl⟩
 rw [← hm] at d2 hmx
 have HLen := hide hm
 clear h hp hn hs hT hM hk hK hf hka hkl hR hm
 go_enter Tryz.func42, Tryz.ntmps42
 go_upto_region 1 with fail
 rw [← hW, ← hpb]
 clear hW hpb
 go_wp2
 go_loopw [28] (fun v wr => ∃ (j : Nat) (sj : MS), j ≤ m ∧ v = .int .i64 (j : Int) ∧ MB wr mb g sj ∧ Step mb W wr ∧ R = mkL (ts.drop j) sj) (fun v _ => m - (intOf v).toNat)
 case atStart => exact ⟨0, s, Nat.zero_le _, rfl, HM.out, Step.refl _ _, by rw [List.drop_zero]; exact HR.out⟩
 case round =>
  obtain ⟨j, sj, hj, rfl, hMj, hTj, hRj⟩ := hrel
  obtain ⟨w5, hw5⟩ : ∃ w5, w5 = wr := ⟨_, rfl⟩
  subst hw5
  clear d0 d1 d2 d3 d4 d5 d6 d7
  by_cases hlt2 : j < m
  ·have e1 : (0 : Int) ≤ (j : Int) := by omega
   have e2 : (j : Int) < (m : Int) := by omega
   have hjt : j < ts.length := by have := HLen.out; omega
   have hjw : IntKind.i64.wrap ((j : Int) + 1) = (j : Int) + 1 := by rw [IntKind.wrap_i64]; omega
   have HRn : Hid (R = mkL (ts.drop (j + 1)) (mkT ts[j] sj)) := hRj.trans (mkL_next hjt sj)
   have HF1 : Hid (mkT ts[j] sj).fits := (mkL_up (ts.drop (j + 1)) _).fits (by rw [← HRn.out]; exact HFit.out)
   obtain ⟨c0, c1, c2, c3, c4, c5, c6, c7⟩ := HK.out j hjt w5 (HT.out.trans hTj)
   obtain ⟨W6, hW6⟩ : ∃ W6, W6 = w5.alloc (nvO (vs j)) := ⟨_, rfl⟩
   have hb6 : Below w5.heap.size w5 W6 := by rw [hW6]; exact (Below.refl _ _).alloc (Nat.le_refl _) _
   have hx6 : W6.heap[w5.heap.size]? = some (nvO (vs j)) := by rw [hW6]; exact at_new _ _
   have hs6 := Step.of_below hb6 hMj.lt
   have HT6 := hide (hTj.trans hs6)
   have HC := hide (HF.out j hjt W6 sj (HT.out.trans HT6.out) (hMj.keep hb6) HF1.out)
   have p6 : W6.cell? ⟨pb, 0, none⟩ = some (.pointer (some ⟨mb, 0, none⟩)) := by simp [World.cell?, HT6.out.blk hpl HP.out (by decide) (by decide)]
   obtain ⟨nn, hnn⟩ : ∃ nn, nn = vs j := ⟨_, rfl⟩
   rw [← hnn] at c0 c1 c2 c3 c4 c5 c6 c7 HC hx6 hW6
   obtain ⟨y0, y1, y2, y3, y4, y5, y6, y7⟩ := nv_cells hx6
   simp only [Nat.zero_add] at y0 y1 y2 y3 y4 y5 y6 y7
   obtain ⟨nb, hnb⟩ : ∃ nb, nb = w5.heap.size := ⟨_, rfl⟩
   rw [← hnb] at y0 y1 y2 y3 y4 y5 y6 y7
   simp only [nvO] at hW6
   clear hMj hTj hRj hb6 hx6 hs6 hnn hlt2
   go_upto_region 10 with fail
   rw [← hW6, ← hnb]
   clear hW6 hnb c0 c1 c2 c3 c4 c5 c6 c7
   go_wp2_with fail
   refine HC.out.mono ?_
   rintro e w7 ⟨rfl, h7, st7⟩
   have HH := hide h7
   have HT7 := hide (HT6.out.trans st7)
   clear h7 st7 HC y0 y1 y2 y3 y4 y5 y6 y7 p6
   go_wp2
   go_roundw
   case rel => exact ⟨j + 1, _, by omega, by go_num, HH.out, HT7.out, HRn.out⟩
   case measure => simp [intOf]; omega
  ·have hjm : j = m := by omega
   subst hjm
   have e2 : ¬ (j : Int) < (j : Int) := by omega
   have HRn : Hid (R = sj) := by show _ = _; rw [hRj, List.drop_eq_nil_of_le (by have := HLen.out; omega), mkL]
   have HH := hide hMj
   have HT7 := hide (HT.out.trans hTj)
   clear hMj hTj hRj hlt2 hj
   go_wp2
   go_end0
   rw [HRn.out]
   exact ⟨rfl, HH.out, HT7.out⟩
variable {mb : Nat} {g : Int}
theorem add_zero'' (x : Addr) : x.add (0 * 8) = x := by simp [Addr.add]
theorem node_does {w0 : World} {n : NV} {t : Tr} (h : NodeC w0 n t) : good t → w0.heap.size ≤ mb → ∀ w : World, Below w0.heap.size w0 w → DoesF mb g w 42 (nodeA mb n) (mkT t) := by
 induction h with
 | mk n set ks vs hs hk hkids ih =>
  intro hg hB w hw W s hst hM hfit
  have hgn := good_node hg
  have hgk : ∀ j (hj : j < ks.length), good ks[j] := good_kids hg
  have hkb := hgn.2.1
  have hkk : 1 ≤ n.kind ∧ n.kind ≤ 18 := hgn.1
  have hset : checkE set = 0 := by
   obtain ⟨a, b, hab⟩ := hg
   rw [chkT_kids] at hab
   cases hn : nodeS (.mk n.kind n.num n.least n.most n.way n.fold set ks) a with
   | error z => rw [hn] at hab; cases hab
   | ok s1 => exact (nodeS_in hn).1
  have hbW : ∀ W2, Step mb W W2 → Below w0.heap.size w0 W2 := fun W2 h2 => (hw.trans ((hst.trans h2).below.mono hB))
  have hf : ∀ j (hj : j < ks.length), DoesF mb g W 42 (nodeA mb (vs j)) (mkT ks[j]) := fun j hj => ih j hj (hgk j hj) hB W (hbW W (Step.refl _ _))
  -- one kid alone
  have one : 11 ≤ n.kind ∧ n.kind ≤ 17 → ∃ t x, ks = [t] ∧ n.ka = some x ∧ n.kl = 1 ∧ (∀ W2, Step mb W W2 → NCells W2 x (vs 0)) ∧ DoesF mb g W 42 (nodeA mb (vs 0)) (mkT t) ∧ (∀ W2, Step mb W W2 → Calls Tryz.prog 64 #[nvV (vs 0)] W2 fun e w' => e = .returned (ftV (factT t)) ∧ Below W2.heap.size W2 w') ∧ good t := fun hr => by
   unfold kidsB at hkb
   rw [if_neg (by show ¬ n.kind = 9; omega), if_neg (by show ¬ n.kind = 10; omega), if_pos (by show 11 ≤ n.kind ∧ n.kind ≤ 17; omega)] at hkb
   have hl : ks.length = 1 := of_decide_eq_true hkb
   rcases hk with ⟨_, _, _, h00⟩ | ⟨x, hx, hkl, hmx, hcl⟩
   ·omega
   ·match ks, hl, hkl, hcl, hf, hkids, hgk with
    | [t], _, hkl, hcl, hf, hkids, hgk =>
     refine ⟨t, x, rfl, hx, hkl, fun W2 h2 => ?_, hf 0 (by simp), fun W2 h2 => facts_any (hkids 0 (by simp)) (hgk 0 (by simp)) W2 (hbW W2 h2), hgk 0 (by simp)⟩
     have := (hcl 0 (by simp)).below (hbW W2 h2)
     rwa [add_zero''] at this
  have hmk : ∀ {R}, mkT (.mk n.kind n.num n.least n.most n.way n.fold set ks) s = R → R.fits := fun e => by rw [← e]; exact hfit
  by_cases e1 : n.kind = 1
  ·have hE : mkT (.mk n.kind n.num n.least n.most n.way n.fold set ks) s = s := by rw [mkT, if_pos e1]
   rw [hE]; exact arm1 hM n e1
  by_cases e2 : n.kind = 2
  ·have hE : mkT (.mk n.kind n.num n.least n.most n.way n.fold set ks) s = s.add { dn := 1, set := set } := by rw [mkT, if_neg e1, if_pos e2]
   rw [hE]; exact arm2 hM n e2 set (hs.below (hbW W (Step.refl _ _))) (checkE_len hset) (hmk hE)
  by_cases e9 : n.kind = 9
  ·have hE : mkT (.mk n.kind n.num n.least n.most n.way n.fold set ks) s = mkL ks s := by rw [mkT, if_neg e1, if_neg e2, if_pos e9]
   rw [hE]
   unfold kidsB at hkb
   rw [if_pos (by show n.kind = 9; omega)] at hkb
   simp only [Bool.and_eq_true, decide_eq_true_eq] at hkb
   have hl2 : 2 ≤ ks.length := hkb.1.1
   rcases hk with ⟨_, _, _, h00⟩ | ⟨x, hx, hkl, hmx, hcl⟩
   ·omega
   ·exact arm9 hM n e9 x ks vs hx hkl hmx (fun j hj W2 h2 => (hcl j hj).below (hbW W2 h2)) hf (hmk hE)
  by_cases e10 : n.kind = 10
  ·have hE : mkT (.mk n.kind n.num n.least n.most n.way n.fold set ks) s = mkE s.lab.length ks s.newL := by rw [mkT, if_neg e1, if_neg e2, if_neg e9, if_pos e10]
   rw [hE]
   unfold kidsB at hkb
   rw [if_neg (by show ¬ n.kind = 9; omega), if_pos (by show n.kind = 10; omega)] at hkb
   simp only [Bool.and_eq_true, decide_eq_true_eq] at hkb
   have hl2 : 2 ≤ ks.length := hkb.1
   rcases hk with ⟨_, _, _, h00⟩ | ⟨x, hx, hkl, hmx, hcl⟩
   ·omega
   ·exact arm10 hM n e10 x (ks.length - 1) ks vs hx (by omega) (by omega) (by omega) (fun j hj W2 h2 => (hcl j hj).below (hbW W2 h2)) hf (hmk hE)
  by_cases e11 : n.kind = 11
  ·obtain ⟨t, x, rfl, hx, hkl, hK, hd, hF, hgt⟩ := one (by omega)
   have hE : mkT (.mk n.kind n.num n.least n.most n.way n.fold set [t]) s = ((mkT t) (s.newC.add { dn := 7, to := s.cnt })).add { dn := 4, to := n.num, other := s.cnt } := by rw [mkT, if_neg e1, if_neg e2, if_neg e9, if_neg e10, if_pos e11, mkH]
   rw [hE]; exact arm11 hM n e11 (vs 0) x hx hkl hK (mkT t) (mkT_up t) hd (hmk hE)
  by_cases e12 : n.kind = 12
  ·obtain ⟨t, x, rfl, hx, hkl, hK, hd, hF, hgt⟩ := one (by omega)
   have hH : mkH [t] = mkT t := by funext s; rw [mkH]
   have hE : mkT (.mk n.kind n.num n.least n.most n.way n.fold set [t]) s = repM n.least n.most n.way (factT t).least (mkT t) s := by rw [mkT, if_neg e1, if_neg e2, if_neg e9, if_neg e10, if_neg e11, if_pos e12, hH, head0_eq]
   have hr := repE_in (hgn.2.2 e12)
   have hr : (0 ≤ n.least ∧ n.least ≤ 100) ∧ (n.most = -1 ∨ n.least ≤ n.most ∧ n.most ≤ 100) := hr
   rw [hE]; exact arm12 hM n e12 (vs 0) x hx hkl hK (mkT t) (mkT_up t) hd (factT t) hF (by omega) (by omega) (hmk hE)
  by_cases e13 : n.kind = 13
  ·obtain ⟨t, x, rfl, hx, hkl, hK, hd, hF, hgt⟩ := one (by omega)
   have hH : mkH [t] = mkT t := by funext s; rw [mkH]
   have hE : mkT (.mk n.kind n.num n.least n.most n.way n.fold set [t]) s = firstM false (mkT t) s := by rw [mkT, if_neg e1, if_neg e2, if_neg e9, if_neg e10, if_neg e11, if_neg e12, if_pos e13, hH]
   rw [hE]; exact arm13 hM n e13 (vs 0) x hx hkl hK (mkT t) (mkT_up t) hd (hmk hE)
  by_cases e14 : n.kind = 14
  ·obtain ⟨t, x, rfl, hx, hkl, hK, hd, hF, hgt⟩ := one (by omega)
   have hH : mkH [t] = mkT t := by funext s; rw [mkH]
   have hE : mkT (.mk n.kind n.num n.least n.most n.way n.fold set [t]) s = firstM true (mkT t) s := by rw [mkT, if_neg e1, if_neg e2, if_neg e9, if_neg e10, if_neg e11, if_neg e12, if_neg e13, if_pos e14, hH]
   rw [hE]; exact arm14 hM n e14 (vs 0) x hx hkl hK (mkT t) (mkT_up t) hd (hmk hE)
  by_cases e15 : n.kind = 15
  ·obtain ⟨t, x, rfl, hx, hkl, hK, hd, hF, hgt⟩ := one (by omega)
   have hH : mkH [t] = mkT t := by funext s; rw [mkH]
   have hE : mkT (.mk n.kind n.num n.least n.most n.way n.fold set [t]) s = noneM (mkT t) s := by rw [mkT, if_neg e1, if_neg e2, if_neg e9, if_neg e10, if_neg e11, if_neg e12, if_neg e13, if_neg e14, if_pos e15, hH]
   rw [hE]; exact arm15 hM n e15 (vs 0) x hx hkl hK (mkT t) (mkT_up t) hd (hmk hE)
  by_cases e16 : n.kind = 16
  ·obtain ⟨t, x, rfl, hx, hkl, hK, hd, hF, hgt⟩ := one (by omega)
   have hH : mkH [t] = mkT t := by funext s; rw [mkH]
   have ho := factT_ok t hgt
   have hE : mkT (.mk n.kind n.num n.least n.most n.way n.fold set [t]) s = firstM false (behindM (factT t).least (factT t).most (mkT t)) s := by rw [mkT, if_neg e1, if_neg e2, if_neg e9, if_neg e10, if_neg e11, if_neg e12, if_neg e13, if_neg e14, if_neg e15, if_pos e16, hH, head0_eq]
   rw [hE]; exact arm16 hM n e16 (vs 0) x hx hkl hK (mkT t) (mkT_up t) hd (factT t) hF ⟨ho.2.2.2, ho.2.2.1⟩ (hmk hE)
  by_cases e17 : n.kind = 17
  ·obtain ⟨t, x, rfl, hx, hkl, hK, hd, hF, hgt⟩ := one (by omega)
   have hH : mkH [t] = mkT t := by funext s; rw [mkH]
   have ho := factT_ok t hgt
   have hE : mkT (.mk n.kind n.num n.least n.most n.way n.fold set [t]) s = noneM (behindM (factT t).least (factT t).most (mkT t)) s := by rw [mkT, if_neg e1, if_neg e2, if_neg e9, if_neg e10, if_neg e11, if_neg e12, if_neg e13, if_neg e14, if_neg e15, if_neg e16, if_pos e17, hH, head0_eq]
   rw [hE]; exact arm17 hM n e17 (vs 0) x hx hkl hK (mkT t) (mkT_up t) hd (factT t) hF ⟨ho.2.2.2, ho.2.2.1⟩ (hmk hE)
  by_cases e18 : n.kind = 18
  ·have hE : mkT (.mk n.kind n.num n.least n.most n.way n.fold set ks) s = s.add { dn := 6, to := n.num, fold := n.fold } := by rw [mkT, if_neg e1, if_neg e2, if_neg e9, if_neg e10, if_neg e11, if_neg e12, if_neg e13, if_neg e14, if_neg e15, if_neg e16, if_neg e17, if_pos e18]
   rw [hE]; exact arm18 hM n e18 (hmk hE)
  have hE : mkT (.mk n.kind n.num n.least n.most n.way n.fold set ks) s = s.add { dn := 5, kind := n.kind } := by rw [mkT, if_neg e1, if_neg e2, if_neg e9, if_neg e10, if_neg e11, if_neg e12, if_neg e13, if_neg e14, if_neg e15, if_neg e16, if_neg e17, if_neg e18]
  have hfit2 := hmk hE
  rw [hE]
  rcases (show n.kind = 3 ∨ n.kind = 4 ∨ n.kind = 5 ∨ n.kind = 6 ∨ n.kind = 7 ∨ n.kind = 8 by omega) with e | e | e | e | e | e
  ·rw [e] at hfit2 ⊢; exact arm3 hM n e hfit2
  ·rw [e] at hfit2 ⊢; exact arm4 hM n e hfit2
  ·rw [e] at hfit2 ⊢; exact arm5 hM n e hfit2
  ·rw [e] at hfit2 ⊢; exact arm6 hM n e hfit2
  ·rw [e] at hfit2 ⊢; exact arm7 hM n e hfit2
  ·rw [e] at hfit2 ⊢; exact arm8 hM n e hfit2
end Go.Proofs.YtfnndcbjklppeaaGreatDoor.Mk
