import Derived.Test.YtfnndcbjklppeaaGreatDoorUY
import Derived.Deep.Cut
set_option linter.unusedVariables false
set_option maxHeartbeats 8000000
set_option maxRecDepth 100000
namespace Go.Proofs.YtfnndcbjklppeaaGreatDoor
open Go.RowKit
theorem ft_cells {w : World} {k : Nat} {f : FT} (h : w.heap[k]? = some (ftO f)) : w.cell? ⟨k, 0, none⟩ = some (.int .i64 f.least) ∧ w.cell? ⟨k, 1, none⟩ = some (.int .i64 f.most) ∧ w.cell? ⟨k, 2, none⟩ = some (.bool f.plain) ∧ ∀ o, w.frozen? ⟨k, o, none⟩ = false := by
 refine ⟨?_, ?_, ?_, fun o => ?_⟩ <;> simp [World.cell?, World.frozen?, h]
abbrev fset (W : World) (N : Nat) (f : FT) : World := ((W.setCell ⟨N, 0, none⟩ (.int .i64 f.least)).setCell ⟨N, 1, none⟩ (.int .i64 f.most)).setCell ⟨N, 2, none⟩ (.bool f.plain)
theorem set_one' {w : World} {N : Nat} {cs : Array Value} {e : TypeId} {fr : Nat × Nat} (h : w.heap[N]? = some (.cells cs e fr)) (o : Nat) (v : Value) : (w.setCell ⟨N, o, none⟩ v).heap[N]? = some (.cells (cs.setIfInBounds o v) e fr) := by
 have hlt := lt_of_block h
 have h' : w.heap[N] = .cells cs e fr := by simpa [Array.getElem?_eq_getElem hlt] using h
 show (w.heap.modify N _)[N]? = _
 rw [Array.getElem?_eq_getElem (by simpa using hlt), Array.getElem_modify_self, h']
 rfl
theorem fset_at {W : World} {N : Nat} {f0 : FT} (h : W.heap[N]? = some (ftO f0)) (f : FT) : (fset W N f).heap[N]? = some (ftO f) := by
 rw [set_one' (set_one' (set_one' h _ _) _ _) _ _]; rfl
theorem fset_other {W : World} {N b : Nat} {o : Obj} {f : FT} (h : W.heap[b]? = some o) (hb : b ≠ N) : (fset W N f).heap[b]? = some o := by
 simp only [fset]
 rw [Below.heap_setCell _ _ _ _ (fun e => hb e), Below.heap_setCell _ _ _ _ (fun e => hb e), Below.heap_setCell _ _ _ _ (fun e => hb e)]
 exact h
theorem fset_below {B : Nat} {w W : World} (h : Below B w W) {k : Nat} (hk : B ≤ k) (f : FT) : Below B w (fset W k f) := ((h.setCell (p := ⟨k, 0, none⟩) hk _).setCell (p := ⟨k, 1, none⟩) hk _).setCell (p := ⟨k, 2, none⟩) hk _
theorem ret_f {f : Func} {tmps : Array Value} {W : World} {N s : Nat} {F : FT} {R : Ending → World → Prop} (hres : f.results = #[ResultVar.cell s 127]) (h2 : tmps[s]? = some (.pointer (some ⟨N, 0, none⟩))) (q : W.heap[N]? = some (ftO F)) (hF : R (.returned (ftV F)) W) : bodyPost Tryz.prog f R Exit.ret { tmps := tmps, defers := [] } W := by
 obtain ⟨m0, m1, m2, mf⟩ := ft_cells q
 refine bodyPost_ret (v := ftV F) ?_ rfl hF
 simp [results, hres, go_sem, h2, m0, m1, m2]
theorem add_zero' (x : Addr) : x.add 0 = x := by unfold Addr.add; split <;> simp_all
theorem add_eq' (x : Addr) {k : Nat} (hk : k ≠ 0) : x.add k = ⟨x.block, x.off + k, none⟩ := by unfold Addr.add; rw [if_neg hk]
theorem fold_head (op : FT → FT → FT) (ks : List Tr) (h : 0 < ks.length) : foldF op (factL ks) = ((factL ks).drop 1).foldl op (factT ks[0]) := by
 cases ks with
 | nil => cases h
 | cons t ts => rfl
theorem rowFacts_any {w0 : World} {ks : List Tr} {vs : Nat → NV} {x : Addr} {kc : Nat} (hcl : ∀ j, j < ks.length → NCells w0 (x.add (j * 8)) (vs j)) (hl : 2 ≤ ks.length) (hkc : ks.length ≤ kc ∧ kc ≤ 9223372036854775807)
  (ih : ∀ j (hj : j < ks.length) (W : World), Below w0.heap.size w0 W → Calls Tryz.prog 64 #[nvV (vs j)] W fun e w' => e = .returned (ftV (factT ks[j])) ∧ Below W.heap.size W w')
  (hok : ∀ j (hj : j < ks.length), okF (factT ks[j])) (w : World) (hw0 : Below w0.heap.size w0 w) :
  Calls Tryz.prog 105 #[.slice (some x) ks.length kc] w fun e w' => e = .returned (ftV (foldF addF (factL ks))) ∧ Below w.heap.size w w' := by
 have HIH := hide ih
 have HOK := hide hok
 have HCL := hide hcl
 have HW0 := hide hw0
 obtain ⟨n, hn⟩ : ∃ n, n = ks.length := ⟨_, rfl⟩
 have HN := hide hn
 have hbR : Below w.heap.size w (w.alloc (ftO ⟨0, 0, false⟩)) := (Below.refl _ _).alloc (Nat.le_refl _) _
 obtain ⟨w1, hw1⟩ : ∃ w1, w1 = w.alloc (ftO ⟨0, 0, false⟩) := ⟨_, rfl⟩
 have hR1 : w1.heap[w.heap.size]? = some (ftO ⟨0, 0, false⟩) := by rw [hw1]; exact at_new _ _
 rw [← hw1] at hbR
 have HB1 := hide hbR
 have HR1 := hide hR1
 have hB1' := hw0.trans (hbR.mono hw0.size)
 have HC0 := hide (ih 0 (by omega) w1 hB1')
 obtain ⟨d0, d1, d2, d3, d4, d5, d6, d7⟩ : NCells w1 x (vs 0) := by have := (hcl 0 (by omega)).below hB1'; simpa [add_zero'] using this
 simp only [ftO] at hw1
 have HF0 : Hid (foldF addF (factL ks) = ((factL ks).drop 1).foldl addF (factT (ks[0]'(by omega)))) := fold_head addF ks (by omega)
 have hok0 := hok 0 (by omega)
 obtain ⟨F0, hF0⟩ : ∃ F0, F0 = factT (ks[0]'(by omega)) := ⟨_, rfl⟩
 rw [← hF0] at HC0 HF0 hok0
 obtain ⟨G, hG⟩ : ∃ G, G = foldF addF (factL ks) := ⟨_, rfl⟩
 have HG := hide hG
 rw [← hG, ← hn]
 rw [← hn] at hl hkc
 have hk1 : ¬ kc = 1 := by omega
 have hnl : (1 : Int) ≤ (n : Int) := by omega
 have hnc : (n : Int) ≤ (kc : Int) := by omega
 have hn0 : (0 : Int) < (n : Int) := by omega
 obtain ⟨l0, m0, p0⟩ := F0
 have HOk0 := hide hok0
 clear ih hok hcl hw0 hbR hR1 hB1' hF0 hG hn hok0
 go_enter Tryz.func105, Tryz.ntmps105
 go_upto_region 1 with fail
 rw [← hw1]
 clear hw1
 go_wp2_with fail
 refine HC0.out.mono ?_
 rintro e w2 ⟨rfl, hb2⟩
 have HB2 := hide (HB1.out.trans (hb2.mono HB1.out.size))
 have HR2 := hide (show w2.heap[w.heap.size]? = some (ftO ⟨0, 0, false⟩) by rw [hb2.block _ (lt_of_block HR1.out)]; exact HR1.out)
 clear hb2 HC0 d0 d1 d2 d3 d4 d5 d6 d7
 obtain ⟨w3, hw3⟩ : ∃ w3, w3 = w2.alloc (ftO ⟨l0, m0, p0⟩) := ⟨_, rfl⟩
 have HT3 : Hid (w3.heap[w2.heap.size]? = some (ftO ⟨l0, m0, p0⟩)) := by show _ = _; rw [hw3]; exact at_new _ _
 have HR3 : Hid (w3.heap[w.heap.size]? = some (ftO ⟨0, 0, false⟩)) := by show _ = _; rw [hw3]; exact at_old HR2.out
 have HB3 : Hid (Below w.heap.size w w3) := by show Below _ _ _; rw [hw3]; exact HB2.out.alloc HB2.out.size _
 have hRT : Hid (w.heap.size ≠ w2.heap.size) := by have := lt_of_block HR2.out; show _ ≠ _; omega
 have hTB : Hid (w.heap.size ≤ w2.heap.size) := HB2.out.size
 obtain ⟨T, hT⟩ : ∃ T, T = w2.heap.size := ⟨_, rfl⟩
 rw [← hT] at HT3 hRT hTB
 have HTq := hide hT
 simp only [ftO] at hw3
 simp only [ftV]
 clear HR2 HB2 HB1 HR1 hT
 go_wp2
 rw [← hw3, ← HTq.out]
 clear hw3 HTq
 go_loopw [14] (fun t wr => ∃ (j : Nat) (ac : FT), j + 1 ≤ n ∧ t = .int .i64 j ∧ foldF addF (factL ks) = ((factL ks).drop (j + 1)).foldl addF ac ∧ okF ac ∧ wr.heap[T]? = some (ftO ac) ∧ wr.heap[w.heap.size]? = some (ftO ⟨0, 0, false⟩) ∧ Below w.heap.size w wr) (fun t _ => n - (intOf t).toNat)
 case atStart => exact ⟨0, ⟨l0, m0, p0⟩, by omega, rfl, HF0.out, HOk0.out, HT3.out, HR3.out, HB3.out⟩
 case round =>
  obtain ⟨j, ac, hj, rfl, hE, hoa, hT, hR, hb⟩ := hrel
  have HE := hide hE
  have HOa := hide hoa
  have HTr := hide hT
  have HRr := hide hR
  have HBr := hide hb
  obtain ⟨w4, hw4⟩ : ∃ w4, w4 = wr := ⟨_, rfl⟩
  subst hw4
  clear hE hoa hT hR hb HT3 HR3 HB3
  by_cases hlt : j + 1 < n
  ·have hjl : j + 1 < ks.length := by have := HN.out; omega
   have e1 : (j : Int) < (n : Int) - 1 := by omega
   have e2 : (j : Int) < ((n - 1 : Nat) : Int) := by omega
   have e0 : (0 : Int) ≤ (j : Int) := by omega
   have hB4' := HW0.out.trans (HBr.out.mono HW0.out.size)
   obtain ⟨d0, d1, d2, d3, d4, d5, d6, d7⟩ : NCells w4 ⟨x.block, x.off + 8 + j * 8, none⟩ (vs (j + 1)) := by
    have := (HCL.out (j + 1) hjl).below hB4'
    rw [add_eq' x (by omega), show x.off + (j + 1) * 8 = x.off + 8 + j * 8 from by omega] at this
    exact this
   have hB5' : Below w4.heap.size w4 (w4.alloc (nvO (vs (j + 1)))) := (Below.refl _ _).alloc (Nat.le_refl _) _
   have HC := hide (HIH.out (j + 1) hjl (w4.alloc (nvO (vs (j + 1)))) (hB4'.trans (hB5'.mono hB4'.size)))
   obtain ⟨w5, hw5⟩ : ∃ w5, w5 = w4.alloc (nvO (vs (j + 1))) := ⟨_, rfl⟩
   have hbx : w5.heap[w4.heap.size]? = some (nvO (vs (j + 1))) := by rw [hw5]; exact at_new _ _
   rw [← hw5] at HC hB5'
   have HB5 := hide (HBr.out.trans (hB5'.mono HBr.out.size))
   have HT5 := hide (show w5.heap[T]? = some (ftO ac) by rw [hB5'.block _ (lt_of_block HTr.out)]; exact HTr.out)
   have HR5 := hide (show w5.heap[w.heap.size]? = some (ftO ⟨0, 0, false⟩) by rw [hB5'.block _ (lt_of_block HRr.out)]; exact HRr.out)
   obtain ⟨b0, b1, b2, b3, b4, b5, b6, b7⟩ := nv_cells hbx
   simp only [nvO] at hw5
   have hjw : IntKind.i64.wrap ((j : Int) + 1) = (j : Int) + 1 := by rw [IntKind.wrap_i64]; omega
   have hoF := HOK.out (j + 1) hjl
   have HD : Hid ((factL ks).drop (j + 1) = factT ks[j + 1] :: (factL ks).drop (j + 2)) := by
    show _ = _
    have h1 := factL_get ks (j + 1) hjl
    have h2 : j + 1 < (factL ks).length := by rw [factL_len]; exact hjl
    rw [List.drop_eq_getElem_cons h2]
    rw [List.getElem?_eq_getElem h2] at h1
    rw [Option.some.inj h1]
   obtain ⟨F, hF⟩ : ∃ F, F = factT ks[j + 1] := ⟨_, rfl⟩
   rw [← hF] at HC hoF HD
   clear hF hB4' hB5' hbx HTr HRr HBr hjl
   have HOk2 := hide (addF_ok HOa.out hoF)
   obtain ⟨al, am, ap⟩ := ac
   obtain ⟨fl, fm, fp⟩ := F
   have hoa := HOa.out
   unfold okF at hoa hoF
   simp only at hoa hoF
   obtain ⟨f1, f2, f3, f4⟩ := hoF
   obtain ⟨a1, a2, a3, a4⟩ := hoa
   go_wp2_with fail
   rw [← hw5]
   clear hw5
   refine HC.out.mono ?_
   rintro e w6 ⟨rfl, hb6⟩
   have HB6 := hide (HB5.out.trans (hb6.mono HB5.out.size))
   have HT6 := hide (show w6.heap[T]? = some (ftO ⟨al, am, ap⟩) by rw [hb6.block _ (lt_of_block HT5.out)]; exact HT5.out)
   have HR6 := hide (show w6.heap[w.heap.size]? = some (ftO ⟨0, 0, false⟩) by rw [hb6.block _ (lt_of_block HR5.out)]; exact HR5.out)
   clear hb6 HC HB5 HT5 HR5 b0 b1 b2 b3 b4 b5 b6 b7 d0 d1 d2 d3 d4 d5 d6 d7
   obtain ⟨w7, hw7⟩ : ∃ w7, w7 = w6.alloc (ftO ⟨fl, fm, fp⟩) := ⟨_, rfl⟩
   have HU7 : Hid (w7.heap[w6.heap.size]? = some (ftO ⟨fl, fm, fp⟩)) := by show _ = _; rw [hw7]; exact at_new _ _
   have HT7 : Hid (w7.heap[T]? = some (ftO ⟨al, am, ap⟩)) := by show _ = _; rw [hw7]; exact at_old HT6.out
   have HR7 : Hid (w7.heap[w.heap.size]? = some (ftO ⟨0, 0, false⟩)) := by show _ = _; rw [hw7]; exact at_old HR6.out
   have HB7 : Hid (Below w.heap.size w w7) := by show Below _ _ _; rw [hw7]; exact HB6.out.alloc HB6.out.size _
   have hTU : T < w6.heap.size := lt_of_block HT6.out
   obtain ⟨U, hU⟩ : ∃ U, U = w6.heap.size := ⟨_, rfl⟩
   rw [← hU] at HU7 hTU
   have q1 : ¬ T = U := by omega
   have q2 : ¬ U = T := by omega
   have HUq := hide hU
   simp only [ftO] at hw7
   obtain ⟨t0, t1, t2, tf⟩ := ft_cells HT7.out
   obtain ⟨u0, u1, u2, uf⟩ := ft_cells HU7.out
   simp only at t0 t1 t2 u0 u1 u2
   simp only [ftV]
   clear HT6 HR6 HB6 hU
   go_upto_region 6 with fail
   rw [← hw7, ← HUq.out]
   clear hw7 HUq
   have hlw : IntKind.i64.wrap (al + fl) = al + fl := by rw [IntKind.wrap_i64]; omega
   cases ap with
   | true =>
    go_wp2_with fail
    refine (leastTaken_any (al + fl) _).mono ?_
    rintro e w' ⟨rfl, rfl⟩
    go_wp2_with fail
    refine (mostAdded_any am fm _ a4 f4).mono ?_
    rintro e w' ⟨rfl, rfl⟩
    go_wp2
    have HT9 := hide (fset_at HT7.out (addF ⟨al, am, true⟩ ⟨fl, fm, fp⟩))
    have HR9 := hide (fset_other (f := addF ⟨al, am, true⟩ ⟨fl, fm, fp⟩) HR7.out hRT.out)
    have HB9 := hide (fset_below HB7.out hTB.out (addF ⟨al, am, true⟩ ⟨fl, fm, fp⟩))
    have HNx : Hid (foldF addF (factL ks) = ((factL ks).drop (j + 1 + 1)).foldl addF (addF ⟨al, am, true⟩ ⟨fl, fm, fp⟩)) := by show _ = _; rw [HE.out, HD.out]; rfl
    go_roundw
    case rel => exact ⟨j + 1, addF ⟨al, am, true⟩ ⟨fl, fm, fp⟩, by omega, by go_num, HNx.out, HOk2.out, HT9.out, HR9.out, HB9.out⟩
    case measure => simp [intOf]; omega
   | false =>
    go_wp2_with fail
    refine (leastTaken_any (al + fl) _).mono ?_
    rintro e w' ⟨rfl, rfl⟩
    go_wp2_with fail
    refine (mostAdded_any am fm _ a4 f4).mono ?_
    rintro e w' ⟨rfl, rfl⟩
    go_wp2
    have HT9 := hide (fset_at HT7.out (addF ⟨al, am, false⟩ ⟨fl, fm, fp⟩))
    have HR9 := hide (fset_other (f := addF ⟨al, am, false⟩ ⟨fl, fm, fp⟩) HR7.out hRT.out)
    have HB9 := hide (fset_below HB7.out hTB.out (addF ⟨al, am, false⟩ ⟨fl, fm, fp⟩))
    have HNx : Hid (foldF addF (factL ks) = ((factL ks).drop (j + 1 + 1)).foldl addF (addF ⟨al, am, false⟩ ⟨fl, fm, fp⟩)) := by show _ = _; rw [HE.out, HD.out]; rfl
    go_roundw
    case rel => exact ⟨j + 1, addF ⟨al, am, false⟩ ⟨fl, fm, fp⟩, by omega, by go_num, HNx.out, HOk2.out, HT9.out, HR9.out, HB9.out⟩
    case measure => simp [intOf]; omega
  ·have hjn : j + 1 = n := by omega
   have e1 : ¬ (j : Int) < (n : Int) - 1 := by omega
   have e2 : ¬ (j : Int) < ((n - 1 : Nat) : Int) := by omega
   have hG2 : Hid (G = ac) := by
    show _ = _
    rw [HG.out, HE.out, List.drop_eq_nil_of_le (by rw [factL_len]; have := HN.out; omega)]; rfl
   obtain ⟨t0, t1, t2, tf⟩ := ft_cells HTr.out
   obtain ⟨r0, r1, r2, rf⟩ := ft_cells HRr.out
   clear hjn
   go_wp2
   exact ret_f (N := w.heap.size) (F := ac) rfl rfl (fset_at HRr.out ac) ⟨by rw [hG2.out], fset_below HBr.out (Nat.le_refl _) _⟩
theorem eitherFacts_any {w0 : World} {ks : List Tr} {vs : Nat → NV} {x : Addr} {kc : Nat} (hcl : ∀ j, j < ks.length → NCells w0 (x.add (j * 8)) (vs j)) (hl : 2 ≤ ks.length) (hkc : ks.length ≤ kc ∧ kc ≤ 9223372036854775807)
  (ih : ∀ j (hj : j < ks.length) (W : World), Below w0.heap.size w0 W → Calls Tryz.prog 64 #[nvV (vs j)] W fun e w' => e = .returned (ftV (factT ks[j])) ∧ Below W.heap.size W w')
  (hok : ∀ j (hj : j < ks.length), okF (factT ks[j])) (w : World) (hw0 : Below w0.heap.size w0 w) :
  Calls Tryz.prog 106 #[.slice (some x) ks.length kc] w fun e w' => e = .returned (ftV (foldF orF (factL ks))) ∧ Below w.heap.size w w' := by
 have HIH := hide ih
 have HOK := hide hok
 have HCL := hide hcl
 have HW0 := hide hw0
 obtain ⟨n, hn⟩ : ∃ n, n = ks.length := ⟨_, rfl⟩
 have HN := hide hn
 have hbR : Below w.heap.size w (w.alloc (ftO ⟨0, 0, false⟩)) := (Below.refl _ _).alloc (Nat.le_refl _) _
 obtain ⟨w1, hw1⟩ : ∃ w1, w1 = w.alloc (ftO ⟨0, 0, false⟩) := ⟨_, rfl⟩
 have hR1 : w1.heap[w.heap.size]? = some (ftO ⟨0, 0, false⟩) := by rw [hw1]; exact at_new _ _
 rw [← hw1] at hbR
 have HB1 := hide hbR
 have HR1 := hide hR1
 have hB1' := hw0.trans (hbR.mono hw0.size)
 have HC0 := hide (ih 0 (by omega) w1 hB1')
 obtain ⟨d0, d1, d2, d3, d4, d5, d6, d7⟩ : NCells w1 x (vs 0) := by have := (hcl 0 (by omega)).below hB1'; simpa [add_zero'] using this
 simp only [ftO] at hw1
 have HF0 : Hid (foldF orF (factL ks) = ((factL ks).drop 1).foldl orF (factT (ks[0]'(by omega)))) := fold_head orF ks (by omega)
 have hok0 := hok 0 (by omega)
 obtain ⟨F0, hF0⟩ : ∃ F0, F0 = factT (ks[0]'(by omega)) := ⟨_, rfl⟩
 rw [← hF0] at HC0 HF0 hok0
 obtain ⟨G, hG⟩ : ∃ G, G = foldF orF (factL ks) := ⟨_, rfl⟩
 have HG := hide hG
 rw [← hG, ← hn]
 rw [← hn] at hl hkc
 have hk1 : ¬ kc = 1 := by omega
 have hnl : (1 : Int) ≤ (n : Int) := by omega
 have hnc : (n : Int) ≤ (kc : Int) := by omega
 have hn0 : (0 : Int) < (n : Int) := by omega
 obtain ⟨l0, m0, p0⟩ := F0
 have HOk0 := hide hok0
 clear ih hok hcl hw0 hbR hR1 hB1' hF0 hG hn hok0
 go_enter Tryz.func106, Tryz.ntmps106
 go_upto_region 1 with fail
 rw [← hw1]
 clear hw1
 go_wp2_with fail
 refine HC0.out.mono ?_
 rintro e w2 ⟨rfl, hb2⟩
 have HB2 := hide (HB1.out.trans (hb2.mono HB1.out.size))
 have HR2 := hide (show w2.heap[w.heap.size]? = some (ftO ⟨0, 0, false⟩) by rw [hb2.block _ (lt_of_block HR1.out)]; exact HR1.out)
 clear hb2 HC0 d0 d1 d2 d3 d4 d5 d6 d7
 obtain ⟨w3, hw3⟩ : ∃ w3, w3 = w2.alloc (ftO ⟨l0, m0, p0⟩) := ⟨_, rfl⟩
 have HT3 : Hid (w3.heap[w2.heap.size]? = some (ftO ⟨l0, m0, p0⟩)) := by show _ = _; rw [hw3]; exact at_new _ _
 have HR3 : Hid (w3.heap[w.heap.size]? = some (ftO ⟨0, 0, false⟩)) := by show _ = _; rw [hw3]; exact at_old HR2.out
 have HB3 : Hid (Below w.heap.size w w3) := by show Below _ _ _; rw [hw3]; exact HB2.out.alloc HB2.out.size _
 have hRT : Hid (w.heap.size ≠ w2.heap.size) := by have := lt_of_block HR2.out; show _ ≠ _; omega
 have hTB : Hid (w.heap.size ≤ w2.heap.size) := HB2.out.size
 obtain ⟨T, hT⟩ : ∃ T, T = w2.heap.size := ⟨_, rfl⟩
 rw [← hT] at HT3 hRT hTB
 have HTq := hide hT
 simp only [ftO] at hw3
 simp only [ftV]
 clear HR2 HB2 HB1 HR1 hT
 go_wp2
 rw [← hw3, ← HTq.out]
 clear hw3 HTq
 go_loopw [14] (fun t wr => ∃ (j : Nat) (ac : FT), j + 1 ≤ n ∧ t = .int .i64 j ∧ foldF orF (factL ks) = ((factL ks).drop (j + 1)).foldl orF ac ∧ okF ac ∧ wr.heap[T]? = some (ftO ac) ∧ wr.heap[w.heap.size]? = some (ftO ⟨0, 0, false⟩) ∧ Below w.heap.size w wr) (fun t _ => n - (intOf t).toNat)
 case atStart => exact ⟨0, ⟨l0, m0, p0⟩, by omega, rfl, HF0.out, HOk0.out, HT3.out, HR3.out, HB3.out⟩
 case round =>
  obtain ⟨j, ac, hj, rfl, hE, hoa, hT, hR, hb⟩ := hrel
  have HE := hide hE
  have HOa := hide hoa
  have HTr := hide hT
  have HRr := hide hR
  have HBr := hide hb
  obtain ⟨w4, hw4⟩ : ∃ w4, w4 = wr := ⟨_, rfl⟩
  subst hw4
  clear hE hoa hT hR hb HT3 HR3 HB3
  by_cases hlt : j + 1 < n
  ·have hjl : j + 1 < ks.length := by have := HN.out; omega
   have e1 : (j : Int) < (n : Int) - 1 := by omega
   have e2 : (j : Int) < ((n - 1 : Nat) : Int) := by omega
   have e0 : (0 : Int) ≤ (j : Int) := by omega
   have hB4' := HW0.out.trans (HBr.out.mono HW0.out.size)
   obtain ⟨d0, d1, d2, d3, d4, d5, d6, d7⟩ : NCells w4 ⟨x.block, x.off + 8 + j * 8, none⟩ (vs (j + 1)) := by
    have := (HCL.out (j + 1) hjl).below hB4'
    rw [add_eq' x (by omega), show x.off + (j + 1) * 8 = x.off + 8 + j * 8 from by omega] at this
    exact this
   have hB5' : Below w4.heap.size w4 (w4.alloc (nvO (vs (j + 1)))) := (Below.refl _ _).alloc (Nat.le_refl _) _
   have HC := hide (HIH.out (j + 1) hjl (w4.alloc (nvO (vs (j + 1)))) (hB4'.trans (hB5'.mono hB4'.size)))
   obtain ⟨w5, hw5⟩ : ∃ w5, w5 = w4.alloc (nvO (vs (j + 1))) := ⟨_, rfl⟩
   have hbx : w5.heap[w4.heap.size]? = some (nvO (vs (j + 1))) := by rw [hw5]; exact at_new _ _
   rw [← hw5] at HC hB5'
   have HB5 := hide (HBr.out.trans (hB5'.mono HBr.out.size))
   have HT5 := hide (show w5.heap[T]? = some (ftO ac) by rw [hB5'.block _ (lt_of_block HTr.out)]; exact HTr.out)
   have HR5 := hide (show w5.heap[w.heap.size]? = some (ftO ⟨0, 0, false⟩) by rw [hB5'.block _ (lt_of_block HRr.out)]; exact HRr.out)
   obtain ⟨b0, b1, b2, b3, b4, b5, b6, b7⟩ := nv_cells hbx
   simp only [nvO] at hw5
   have hjw : IntKind.i64.wrap ((j : Int) + 1) = (j : Int) + 1 := by rw [IntKind.wrap_i64]; omega
   have hoF := HOK.out (j + 1) hjl
   have HD : Hid ((factL ks).drop (j + 1) = factT ks[j + 1] :: (factL ks).drop (j + 2)) := by
    show _ = _
    have h1 := factL_get ks (j + 1) hjl
    have h2 : j + 1 < (factL ks).length := by rw [factL_len]; exact hjl
    rw [List.drop_eq_getElem_cons h2]
    rw [List.getElem?_eq_getElem h2] at h1
    rw [Option.some.inj h1]
   obtain ⟨F, hF⟩ : ∃ F, F = factT ks[j + 1] := ⟨_, rfl⟩
   rw [← hF] at HC hoF HD
   clear hF hB4' hB5' hbx HTr HRr HBr hjl
   have HOk2 := hide (orF_ok HOa.out hoF)
   obtain ⟨al, am, ap⟩ := ac
   obtain ⟨fl, fm, fp⟩ := F
   have hoa := HOa.out
   unfold okF at hoa hoF
   simp only at hoa hoF
   obtain ⟨f1, f2, f3, f4⟩ := hoF
   obtain ⟨a1, a2, a3, a4⟩ := hoa
   go_wp2_with fail
   rw [← hw5]
   clear hw5
   refine HC.out.mono ?_
   rintro e w6 ⟨rfl, hb6⟩
   have HB6 := hide (HB5.out.trans (hb6.mono HB5.out.size))
   have HT6 := hide (show w6.heap[T]? = some (ftO ⟨al, am, ap⟩) by rw [hb6.block _ (lt_of_block HT5.out)]; exact HT5.out)
   have HR6 := hide (show w6.heap[w.heap.size]? = some (ftO ⟨0, 0, false⟩) by rw [hb6.block _ (lt_of_block HR5.out)]; exact HR5.out)
   clear hb6 HC HB5 HT5 HR5 b0 b1 b2 b3 b4 b5 b6 b7 d0 d1 d2 d3 d4 d5 d6 d7
   obtain ⟨w7, hw7⟩ : ∃ w7, w7 = w6.alloc (ftO ⟨fl, fm, fp⟩) := ⟨_, rfl⟩
   have HU7 : Hid (w7.heap[w6.heap.size]? = some (ftO ⟨fl, fm, fp⟩)) := by show _ = _; rw [hw7]; exact at_new _ _
   have HT7 : Hid (w7.heap[T]? = some (ftO ⟨al, am, ap⟩)) := by show _ = _; rw [hw7]; exact at_old HT6.out
   have HR7 : Hid (w7.heap[w.heap.size]? = some (ftO ⟨0, 0, false⟩)) := by show _ = _; rw [hw7]; exact at_old HR6.out
   have HB7 : Hid (Below w.heap.size w w7) := by show Below _ _ _; rw [hw7]; exact HB6.out.alloc HB6.out.size _
   have hTU : T < w6.heap.size := lt_of_block HT6.out
   obtain ⟨U, hU⟩ : ∃ U, U = w6.heap.size := ⟨_, rfl⟩
   rw [← hU] at HU7 hTU
   have q1 : ¬ T = U := by omega
   have q2 : ¬ U = T := by omega
   have HUq := hide hU
   simp only [ftO] at hw7
   obtain ⟨t0, t1, t2, tf⟩ := ft_cells HT7.out
   obtain ⟨u0, u1, u2, uf⟩ := ft_cells HU7.out
   simp only at t0 t1 t2 u0 u1 u2
   simp only [ftV]
   clear HT6 HR6 HB6 hU
   go_upto_region 6 with fail
   rw [← hw7, ← HUq.out]
   clear hw7 HUq
   by_cases hmn : al < fl
   ·have g1 : ¬ fl ≤ al := by omega
    have g2 : al ≤ fl := by omega
    cases ap with
    | true =>
     go_wp2_with fail
     refine (greaterMost_any am fm _).mono ?_
     rintro e w' ⟨rfl, rfl⟩
     go_wp2
     have hO : orF ⟨al, am, true⟩ ⟨fl, fm, fp⟩ = ⟨al, maxM am fm, fp⟩ := by
      show (⟨if al < fl then al else fl, maxM am fm, true && fp⟩ : FT) = _
      rw [if_pos (by omega)]; rfl
     rw [hO] at HOk2
     have HT9 := hide (fset_at HT7.out ⟨al, maxM am fm, fp⟩)
     have HR9 := hide (fset_other (f := ⟨al, maxM am fm, fp⟩) HR7.out hRT.out)
     have HB9 := hide (fset_below HB7.out hTB.out ⟨al, maxM am fm, fp⟩)
     have HNx : Hid (foldF orF (factL ks) = ((factL ks).drop (j + 1 + 1)).foldl orF ⟨al, maxM am fm, fp⟩) := by show _ = _; rw [HE.out, HD.out, ← hO]; rfl
     clear hO
     go_roundw
     case rel => exact ⟨j + 1, ⟨al, maxM am fm, fp⟩, by omega, by go_num, HNx.out, HOk2.out, HT9.out, HR9.out, HB9.out⟩
     case measure => simp [intOf]; omega
    | false =>
     go_wp2_with fail
     refine (greaterMost_any am fm _).mono ?_
     rintro e w' ⟨rfl, rfl⟩
     go_wp2
     have hO : orF ⟨al, am, false⟩ ⟨fl, fm, fp⟩ = ⟨al, maxM am fm, false⟩ := by
      show (⟨if al < fl then al else fl, maxM am fm, false && fp⟩ : FT) = _
      rw [if_pos (by omega)]; rfl
     rw [hO] at HOk2
     have HT9 := hide (fset_at HT7.out ⟨al, maxM am fm, false⟩)
     have HR9 := hide (fset_other (f := ⟨al, maxM am fm, false⟩) HR7.out hRT.out)
     have HB9 := hide (fset_below HB7.out hTB.out ⟨al, maxM am fm, false⟩)
     have HNx : Hid (foldF orF (factL ks) = ((factL ks).drop (j + 1 + 1)).foldl orF ⟨al, maxM am fm, false⟩) := by show _ = _; rw [HE.out, HD.out, ← hO]; rfl
     clear hO
     go_roundw
     case rel => exact ⟨j + 1, ⟨al, maxM am fm, false⟩, by omega, by go_num, HNx.out, HOk2.out, HT9.out, HR9.out, HB9.out⟩
     case measure => simp [intOf]; omega
   ·by_cases heq : al = fl
    ·subst heq
     clear hmn
     cases ap with
     | true =>
      go_wp2_with fail
      refine (greaterMost_any am fm _).mono ?_
      rintro e w' ⟨rfl, rfl⟩
      go_wp2
      have hO : orF ⟨al, am, true⟩ ⟨al, fm, fp⟩ = ⟨al, maxM am fm, fp⟩ := by
       show (⟨if al < al then al else al, maxM am fm, true && fp⟩ : FT) = _
       rw [if_neg (by omega)]; rfl
      rw [hO] at HOk2
      have HT9 := hide (fset_at HT7.out ⟨al, maxM am fm, fp⟩)
      have HR9 := hide (fset_other (f := ⟨al, maxM am fm, fp⟩) HR7.out hRT.out)
      have HB9 := hide (fset_below HB7.out hTB.out ⟨al, maxM am fm, fp⟩)
      have HNx : Hid (foldF orF (factL ks) = ((factL ks).drop (j + 1 + 1)).foldl orF ⟨al, maxM am fm, fp⟩) := by show _ = _; rw [HE.out, HD.out, ← hO]; rfl
      clear hO
      go_roundw
      case rel => exact ⟨j + 1, ⟨al, maxM am fm, fp⟩, by omega, by go_num, HNx.out, HOk2.out, HT9.out, HR9.out, HB9.out⟩
      case measure => simp [intOf]; omega
     | false =>
      go_wp2_with fail
      refine (greaterMost_any am fm _).mono ?_
      rintro e w' ⟨rfl, rfl⟩
      go_wp2
      have hO : orF ⟨al, am, false⟩ ⟨al, fm, fp⟩ = ⟨al, maxM am fm, false⟩ := by
       show (⟨if al < al then al else al, maxM am fm, false && fp⟩ : FT) = _
       rw [if_neg (by omega)]; rfl
      rw [hO] at HOk2
      have HT9 := hide (fset_at HT7.out ⟨al, maxM am fm, false⟩)
      have HR9 := hide (fset_other (f := ⟨al, maxM am fm, false⟩) HR7.out hRT.out)
      have HB9 := hide (fset_below HB7.out hTB.out ⟨al, maxM am fm, false⟩)
      have HNx : Hid (foldF orF (factL ks) = ((factL ks).drop (j + 1 + 1)).foldl orF ⟨al, maxM am fm, false⟩) := by show _ = _; rw [HE.out, HD.out, ← hO]; rfl
      clear hO
      go_roundw
      case rel => exact ⟨j + 1, ⟨al, maxM am fm, false⟩, by omega, by go_num, HNx.out, HOk2.out, HT9.out, HR9.out, HB9.out⟩
      case measure => simp [intOf]; omega
    ·have g1 : ¬ al ≤ fl := by omega
     have g2 : fl ≤ al := by omega
     clear hmn heq
     cases ap with
     | true =>
      go_wp2_with fail
      refine (greaterMost_any am fm _).mono ?_
      rintro e w' ⟨rfl, rfl⟩
      go_wp2
      have hO : orF ⟨al, am, true⟩ ⟨fl, fm, fp⟩ = ⟨fl, maxM am fm, fp⟩ := by
       show (⟨if al < fl then al else fl, maxM am fm, true && fp⟩ : FT) = _
       rw [if_neg (by omega)]; rfl
      rw [hO] at HOk2
      have HT9 := hide (fset_at HT7.out ⟨fl, maxM am fm, fp⟩)
      have HR9 := hide (fset_other (f := ⟨fl, maxM am fm, fp⟩) HR7.out hRT.out)
      have HB9 := hide (fset_below HB7.out hTB.out ⟨fl, maxM am fm, fp⟩)
      have HNx : Hid (foldF orF (factL ks) = ((factL ks).drop (j + 1 + 1)).foldl orF ⟨fl, maxM am fm, fp⟩) := by show _ = _; rw [HE.out, HD.out, ← hO]; rfl
      clear hO
      go_roundw
      case rel => exact ⟨j + 1, ⟨fl, maxM am fm, fp⟩, by omega, by go_num, HNx.out, HOk2.out, HT9.out, HR9.out, HB9.out⟩
      case measure => simp [intOf]; omega
     | false =>
      go_wp2_with fail
      refine (greaterMost_any am fm _).mono ?_
      rintro e w' ⟨rfl, rfl⟩
      go_wp2
      have hO : orF ⟨al, am, false⟩ ⟨fl, fm, fp⟩ = ⟨fl, maxM am fm, false⟩ := by
       show (⟨if al < fl then al else fl, maxM am fm, false && fp⟩ : FT) = _
       rw [if_neg (by omega)]; rfl
      rw [hO] at HOk2
      have HT9 := hide (fset_at HT7.out ⟨fl, maxM am fm, false⟩)
      have HR9 := hide (fset_other (f := ⟨fl, maxM am fm, false⟩) HR7.out hRT.out)
      have HB9 := hide (fset_below HB7.out hTB.out ⟨fl, maxM am fm, false⟩)
      have HNx : Hid (foldF orF (factL ks) = ((factL ks).drop (j + 1 + 1)).foldl orF ⟨fl, maxM am fm, false⟩) := by show _ = _; rw [HE.out, HD.out, ← hO]; rfl
      clear hO
      go_roundw
      case rel => exact ⟨j + 1, ⟨fl, maxM am fm, false⟩, by omega, by go_num, HNx.out, HOk2.out, HT9.out, HR9.out, HB9.out⟩
      case measure => simp [intOf]; omega
  ·have hjn : j + 1 = n := by omega
   have e1 : ¬ (j : Int) < (n : Int) - 1 := by omega
   have e2 : ¬ (j : Int) < ((n - 1 : Nat) : Int) := by omega
   have hG2 : Hid (G = ac) := by
    show _ = _
    rw [HG.out, HE.out, List.drop_eq_nil_of_le (by rw [factL_len]; have := HN.out; omega)]; rfl
   obtain ⟨t0, t1, t2, tf⟩ := ft_cells HTr.out
   obtain ⟨r0, r1, r2, rf⟩ := ft_cells HRr.out
   clear hjn
   go_wp2
   exact ret_f (N := w.heap.size) (F := ac) rfl rfl (fset_at HRr.out ac) ⟨by rw [hG2.out], fset_below HBr.out (Nat.le_refl _) _⟩
end Go.Proofs.YtfnndcbjklppeaaGreatDoor
