import Derived.Test.YtfnndcbjklppeaaGreatDoorUF
import Derived.Deep.QuietTactic
import Derived.BigQuiet
import Derived.Deep.Cut
set_option maxHeartbeats 8000000
set_option maxRecDepth 100000
set_option linter.unusedVariables false
namespace Go.Proofs.YtfnndcbjklppeaaGreatDoor
open Go.RowKit
theorem set_one {w : World} {N : Nat} {cs : Array Value} {e : TypeId} {fr : Nat × Nat} (h : w.heap[N]? = some (.cells cs e fr)) (o : Nat) (v : Value) : (w.setCell ⟨N, o, none⟩ v).heap[N]? = some (.cells (cs.setIfInBounds o v) e fr) := by
 have hlt := lt_of_block h
 have h' : w.heap[N] = .cells cs e fr := by simpa [Array.getElem?_eq_getElem hlt] using h
 show (w.heap.modify N _)[N]? = _
 rw [Array.getElem?_eq_getElem (by simpa using hlt), Array.getElem_modify_self, h']
 rfl
theorem own_set {B e k n : Nat} {w : World} {v : Value} {xs : List Value} (h : w.ownsRow B e k v n xs) {cb o : Nat} {u : Value} (hne : v.ownBlock ≠ some cb) : (w.setCell ⟨cb, o, none⟩ u).ownsRow B e k v n xs := by
 rcases h with ⟨h0, h1⟩
 refine ⟨h0, ?_⟩
 rcases h1 with h1 | ⟨g, cap, cur, h1, h2, h3, h4⟩
 ·exact .inl h1
 ·refine .inr ⟨g, cap, cur, h1, h2, ?_, h4⟩
  rw [Below.heap_setCell _ _ _ _ (fun e => hne (by rw [h1]; simp only at e; rw [← e]; rfl))]
  exact h3
theorem CK.groups {B : Nat} {w : World} {cb : Nat} {s : St} (h : CK B w cb s) (g : Int) : CK B (w.setCell ⟨cb, 0, none⟩ (.int .i64 g)) cb (g, s.2) := by
 obtain ⟨h1, v, h2, h3, h4⟩ := h
 exact ⟨h1, v, by rw [set_one h2]; rfl, own_set h3 h4, h4⟩
theorem CK.cells {B : Nat} {w : World} {cb : Nat} {s : St} (h : CK B w cb s) : ∃ v, w.cell? ⟨cb, 0, none⟩ = some (.int .i64 s.1) ∧ w.cell? ⟨cb, 1, none⟩ = some v ∧ w.ownsRow B 3 1 v s.2.length (i64s s.2) ∧ v.ownBlock ≠ some cb ∧ (∀ o, w.frozen? ⟨cb, o, none⟩ = false) ∧ cb < w.heap.size := by
 obtain ⟨h1, v, h2, h3, h4⟩ := h
 exact ⟨v, by simp [World.cell?, h2], by simp [World.cell?, h2], h3, h4, fun o => by simp [World.frozen?, h2], lt_of_block h2⟩
theorem must_yes' (k : Int) (w : World) : Calls Tryz.prog 138 #[.bool true, .int .i64 k] w fun e w' => e = .returned (.tuple #[]) ∧ w' = w := (must_yes k w).mono (by rintro e w' ⟨rfl, rfl⟩; exact ⟨rfl, rfl⟩)
theorem node_rep (w0 : World) (n : NV) (set : RL) (ks : List Tr) (vs : Nat → NV) (h0 : NodeC w0 n (.mk n.kind n.num n.least n.most n.way n.fold set ks)) (hk : KidsC w0 n.ka n.kl n.kc ks.length vs) (w : World) (hw0 : Below w0.heap.size w0 w) (cb : Nat) (s : St) (hck : CK w0.heap.size w cb s) (hkd : 1 ≤ n.kind ∧ n.kind ≤ 18) (hok : (kidsB (.mk n.kind n.num n.least n.most n.way n.fold set ks) && fieldsB (.mk n.kind n.num n.least n.most n.way n.fold set ks)) = true) (hzs : checkE set = 0) (hk12 : n.kind = 12) (hrep : repE (.mk n.kind n.num n.least n.most n.way n.fold set ks) = 0) (hsz : 0 ≤ s.1 ∧ s.1 + szL ks + 1 ≤ 1000000 ∧ s.2.length + szL ks + 1 ≤ 1000000) (ih : ∀ j (hj : j < ks.length) (W : World) (s : St), Below w0.heap.size w0 W → CK w0.heap.size W cb s → 0 ≤ s.1 ∧ s.1 + szT ks[j] ≤ 1000000 ∧ s.2.length + szT ks[j] ≤ 1000000 → Calls Tryz.prog 101 #[.pointer (some ⟨cb, 0, none⟩), nvV (vs j)] W fun e w' => NodeE w0.heap.size (chkT ks[j] s) cb W e w') : Calls Tryz.prog 101 #[.pointer (some ⟨cb, 0, none⟩), nvV n] w fun e w' => NodeE w0.heap.size (chkT (.mk n.kind n.num n.least n.most n.way n.fold set ks) s) cb w e w' := by
 have h := h0.keep hw0
 have hr := h.open.2.2.2.2.2.2.1
 obtain ⟨t, ht⟩ : ∃ t, t = Tr.mk n.kind n.num n.least n.most n.way n.fold set ks := ⟨_, rfl⟩
 have hset : t.set = set := by rw [ht]; rfl
 rw [← ht] at h hr hok hrep ⊢
 rw [← hset] at hzs
 have hb : Below w.heap.size w (w.alloc (nvO n)) := (Below.refl _ _).alloc (Nat.le_refl _) _
 rw [Bool.and_eq_true] at hok
 have HHK := hide (fun W (hW : Below w.heap.size w W) => hasItsKids_any n t W (h.keep hW))
 have HHF := hide (fun W (hW : Below w.heap.size w W) => hasItsFields_any n t W (h.keep hW))
 have HHR := hide (fun W (hW : Below w.heap.size w W) => checkRepeat_any n t W (h.keep hW))
 have HSC := hide (fun W (hW : Below w.heap.size w W) => check_any _ t.set W (hr.below hW))
 rw [hok.1] at HHK
 rw [hok.2] at HHF
 rw [hzs] at HSC
 have HY := hide (fun k W => must_yes k W)
 have HM : Hid (∀ k W, Calls Tryz.prog 138 #[.bool false, .int .i64 k] W fun e w' => e = .panicked [{ v := .iface 26 (.int .i64 k), recovered := false }] ∧ W = w') := fun k W => must_no k W
 have HKL : Hid (n.kl = ks.length) := hk.len
 have HK := hide hk
 have HW0 := hide hw0
 obtain ⟨w1, hw1⟩ : ∃ w1, w1 = w.alloc (nvO n) := ⟨_, rfl⟩
 have hbox : w1.heap[w.heap.size]? = some (nvO n) := by rw [hw1]; exact at_new _ _
 rw [← hw1] at hb
 have HB1 := hide hb
 have HX1 := hide hbox
 have HCK := hide hck
 obtain ⟨d0, d1, d2, d3, d4, d5, d6, d7⟩ := nv_cells hbox
 simp only [nvO] at hw1
 obtain ⟨g1, g2⟩ := hkd
 have HIH := hide ih
 have HFin : Hid (chkT t s = chkL ks s) := by
  show _ = _
  rw [chkT_kids]
  have hn : nodeS t s = .ok s := by
   unfold nodeS
   have hkk : t.kind = n.kind := by rw [ht]; rfl
   have hnn : t.num = n.num := by rw [ht]; rfl
   rw [hkk, hnn, if_neg (by omega), if_neg (by rw [hok.1, hok.2]; decide), if_neg (by omega)]
   rw [if_pos hk12, if_pos hrep]
  rw [hn, ht]; rfl
 have b12 : (n.kind == 12) = true := by simpa using hk12
 rw [hrep] at HHR
 simp only [mustE, if_true] at HHR
 clear hk12 hrep
 clear h0 h hr hok hzs hset ht hbox hb hk hw0 hck ih
 go_enter Tryz.func101, Tryz.ntmps101
 go_wp2_with fail
 rw [← hw1]
 clear hw1
 refine (HY.out 7 w1).mono ?_
 rintro e w' ⟨rfl, rfl⟩
 go_wp2_with fail
 refine (HHK.out w1 HB1.out).mono ?_
 rintro e w2 ⟨rfl, hb2⟩
 have HB2 := hide (HB1.out.trans (hb2.mono HB1.out.size))
 have HX2 := hide (show w2.heap[w.heap.size]? = some (nvO n) by rw [hb2.block _ (lt_of_block HX1.out)]; exact HX1.out)
 clear hb2 HB1 HX1 d0 d1 d2 d3 d4 d5 d6 d7
 obtain ⟨d0, d1, d2, d3, d4, d5, d6, d7⟩ := nv_cells HX2.out
 go_wp2_with fail
 refine (HHF.out w2 HB2.out).mono ?_
 rintro e w3 ⟨rfl, hb3⟩
 have HB3 := hide (HB2.out.trans (hb3.mono HB2.out.size))
 have HX3 := hide (show w3.heap[w.heap.size]? = some (nvO n) by rw [hb3.block _ (lt_of_block HX2.out)]; exact HX2.out)
 clear hb3 HB2 HX2 d0 d1 d2 d3 d4 d5 d6 d7
 obtain ⟨d0, d1, d2, d3, d4, d5, d6, d7⟩ := nv_cells HX3.out
 go_wp2_with fail
 refine (HY.out 1 w3).mono ?_
 rintro e w' ⟨rfl, rfl⟩
 go_wp2_with fail
 refine (HSC.out w3 HB3.out).mono ?_
 rintro e w4 ⟨rfl, hb4⟩
 have HB4 := hide (HB3.out.trans (hb4.mono HB3.out.size))
 have HX4 := hide (show w4.heap[w.heap.size]? = some (nvO n) by rw [hb4.block _ (lt_of_block HX3.out)]; exact HX3.out)
 clear hb4 HB3 HX3 d0 d1 d2 d3 d4 d5 d6 d7
 obtain ⟨d0, d1, d2, d3, d4, d5, d6, d7⟩ := nv_cells HX4.out
 go_wp2_with fail
 refine (HY.out 0 w4).mono ?_
 rintro e w' ⟨rfl, rfl⟩
 have HC4 := hide (HCK.out.keep HB4.out)
 go_wp2_with fail
 refine (HHR.out w4 HB4.out).mono ?_
 rintro e w5 ⟨rfl, hb5⟩
 have HB5 := hide (HB4.out.trans (hb5.mono HB4.out.size))
 have HX5 := hide (show w5.heap[w.heap.size]? = some (nvO n) by rw [hb5.block _ (lt_of_block HX4.out)]; exact HX4.out)
 have HC5 := hide (HC4.out.keep hb5)
 clear hb5 HB4 HX4 d0 d1 d2 d3 d4 d5 d6 d7
 obtain ⟨d0, d1, d2, d3, d4, d5, d6, d7⟩ := nv_cells HX5.out
 have HBw : Hid (Below w0.heap.size w w5) := HB5.out.mono HW0.out.size
 go_wp2
 clear d0 d1 d2 d3 d4 d5 d6 d7
 have hsz2 := hsz
 go_loopw [69] (fun t wr => ∃ (j : Nat) (s2 : St), j ≤ ks.length ∧ t = .int .i64 j ∧ chkL ks s = chkL (ks.drop j) s2 ∧ CK w0.heap.size wr cb s2 ∧ (0 ≤ s2.1 ∧ s2.1 + szL (ks.drop j) ≤ 1000000 ∧ s2.2.length + szL (ks.drop j) ≤ 1000000) ∧ Below w0.heap.size w wr) (fun t _ => ks.length - (intOf t).toNat)
 case atStart => exact ⟨0, s, Nat.zero_le _, rfl, rfl, HC5.out, by have h := hsz2; simp only [List.drop_zero]; omega, HBw.out⟩
 case round =>
  obtain ⟨j, s2, hj, rfl, hE, hck2, hbd, hb⟩ := hrel
  have HE := hide hE
  have HBr := hide hb
  have HCr := hide hck2
  obtain ⟨w20, hw20⟩ : ∃ w20, w20 = wr := ⟨_, rfl⟩
  subst hw20
  clear hb hE hck2
  by_cases hlt : j < ks.length
  ·have e2 : (j : Int) < (n.kl : Int) := by have := HKL.out; omega
   have e4 : (0 : Int) ≤ (j : Int) := by omega
   rcases HK.out with ⟨_, _, _, h00⟩ | ⟨x, hx, hkk, hmx, hcl⟩
   ·exact absurd h00 (by omega)
   ·obtain ⟨d0, d1, d2, d3, d4, d5, d6, d7⟩ := (hcl j hlt).below (HW0.out.trans HBr.out)
    have hszj := szL_drop hlt
    have hB3 : Below w20.heap.size w20 (w20.alloc (nvO (vs j))) := (Below.refl _ _).alloc (Nat.le_refl _) _
    have HC := hide (HIH.out j hlt (w20.alloc (nvO (vs j))) s2 (HW0.out.trans (HBr.out.trans (hB3.mono (Nat.le_trans HW0.out.size HBr.out.size)))) (HCr.out.keep hB3) (by omega))
    obtain ⟨w21, hw21⟩ : ∃ w21, w21 = w20.alloc (nvO (vs j)) := ⟨_, rfl⟩
    have hbx : w21.heap[w20.heap.size]? = some (nvO (vs j)) := by rw [hw21]; exact at_new _ _
    rw [← hw21] at HC hB3
    have HB21 := hide (HBr.out.trans (hB3.mono (Nat.le_trans HW0.out.size HBr.out.size)))
    obtain ⟨b0, b1, b2, b3, b4, b5, b6, b7⟩ := nv_cells hbx
    simp only [nvO] at hw21
    have hjw : IntKind.i64.wrap ((j : Int) + 1) = (j : Int) + 1 := by rw [IntKind.wrap_i64]; omega
    have HD := hide (chkL_drop hlt s2)
    have HBD := hide hbd
    have HSJ := hide hszj
    rw [hx]
    clear hcl hx hkk hB3 hbx hszj hbd
    go_wp2_with fail
    rw [← hw21]
    clear hw21
    refine HC.out.mono ?_
    rintro e w22 ⟨hb22, ⟨s3, hR, rfl, hck3⟩ | ⟨z, hR, rfl⟩⟩
    ·have HB22 := hide (HB21.out.trans hb22)
     have HC3 := hide hck3
     have hgr := chkT_grow _ _ _ hR
     have HNx : Hid (chkL ks s = chkL (ks.drop (j + 1)) s3) := by show _ = _; rw [HE.out, HD.out, hR]
     have HBd3 : Hid (0 ≤ s3.1 ∧ s3.1 + szL (ks.drop (j + 1)) ≤ 1000000 ∧ s3.2.length + szL (ks.drop (j + 1)) ≤ 1000000) := by have := HBD.out; have := HSJ.out; show _ ∧ _ ∧ _; omega
     clear hb22 hck3 hgr hR HC HBD
     go_wp2
     go_roundw
     case rel => exact ⟨j + 1, s3, by omega, by go_num, HNx.out, HC3.out, HBd3.out, HB22.out⟩
     case measure => simp [intOf]; omega
    ·have HB22 := hide (HB21.out.trans hb22)
     have hF : Hid (chkT t s = .error z) := by show _ = _; rw [HFin.out, HE.out, HD.out, hR]
     clear hb22 hR HC
     go_wp2
     exact ⟨rfl, HB22.out, .inr ⟨z, hF.out, rfl⟩⟩
  ·have e2 : ¬ (j : Int) < (n.kl : Int) := by have := HKL.out; omega
   have hF : Hid (chkT t s = .ok s2) := by
    show _ = _
    rw [HFin.out, HE.out, List.drop_eq_nil_of_le (by omega)]; rfl
   go_wp2
   go_end0
   exact ⟨HBr.out, .inl ⟨s2, hF.out, rfl, HCr.out⟩⟩
theorem node_repbad (w0 : World) (n : NV) (set : RL) (ks : List Tr) (vs : Nat → NV) (h0 : NodeC w0 n (.mk n.kind n.num n.least n.most n.way n.fold set ks)) (hk : KidsC w0 n.ka n.kl n.kc ks.length vs) (w : World) (hw0 : Below w0.heap.size w0 w) (cb : Nat) (s : St) (hck : CK w0.heap.size w cb s) (hkd : 1 ≤ n.kind ∧ n.kind ≤ 18) (hok : (kidsB (.mk n.kind n.num n.least n.most n.way n.fold set ks) && fieldsB (.mk n.kind n.num n.least n.most n.way n.fold set ks)) = true) (hzs : checkE set = 0) (hk12 : n.kind = 12) (hrep : repE (.mk n.kind n.num n.least n.most n.way n.fold set ks) ≠ 0) : Calls Tryz.prog 101 #[.pointer (some ⟨cb, 0, none⟩), nvV n] w fun e w' => e = .panicked [{ v := .iface 26 (.int .i64 (repE (.mk n.kind n.num n.least n.most n.way n.fold set ks))), recovered := false }] ∧ Below w.heap.size w w' := by
 have h := h0.keep hw0
 have hr := h.open.2.2.2.2.2.2.1
 obtain ⟨t, ht⟩ : ∃ t, t = Tr.mk n.kind n.num n.least n.most n.way n.fold set ks := ⟨_, rfl⟩
 have hset : t.set = set := by rw [ht]; rfl
 rw [← ht] at h hr hok hrep ⊢
 rw [← hset] at hzs
 have hb : Below w.heap.size w (w.alloc (nvO n)) := (Below.refl _ _).alloc (Nat.le_refl _) _
 rw [Bool.and_eq_true] at hok
 have HHK := hide (fun W (hW : Below w.heap.size w W) => hasItsKids_any n t W (h.keep hW))
 have HHF := hide (fun W (hW : Below w.heap.size w W) => hasItsFields_any n t W (h.keep hW))
 have HHR := hide (fun W (hW : Below w.heap.size w W) => checkRepeat_any n t W (h.keep hW))
 have HSC := hide (fun W (hW : Below w.heap.size w W) => check_any _ t.set W (hr.below hW))
 rw [hok.1] at HHK
 rw [hok.2] at HHF
 rw [hzs] at HSC
 have HY := hide (fun k W => must_yes k W)
 have HM : Hid (∀ k W, Calls Tryz.prog 138 #[.bool false, .int .i64 k] W fun e w' => e = .panicked [{ v := .iface 26 (.int .i64 k), recovered := false }] ∧ W = w') := fun k W => must_no k W
 have HKL : Hid (n.kl = ks.length) := hk.len
 have HK := hide hk
 have HW0 := hide hw0
 obtain ⟨w1, hw1⟩ : ∃ w1, w1 = w.alloc (nvO n) := ⟨_, rfl⟩
 have hbox : w1.heap[w.heap.size]? = some (nvO n) := by rw [hw1]; exact at_new _ _
 rw [← hw1] at hb
 have HB1 := hide hb
 have HX1 := hide hbox
 have HCK := hide hck
 obtain ⟨d0, d1, d2, d3, d4, d5, d6, d7⟩ := nv_cells hbox
 simp only [nvO] at hw1
 obtain ⟨g1, g2⟩ := hkd
 have b12 : (n.kind == 12) = true := by simpa using hk12
 obtain ⟨z, hz⟩ : ∃ z, z = repE t := ⟨_, rfl⟩
 rw [← hz] at HHR hrep ⊢
 simp only [mustE, gives] at HHR
 rw [if_neg hrep] at HHR
 clear h0 h hr hok hzs hset ht hbox hb hk hw0 hck hk12 hrep hz
 go_enter Tryz.func101, Tryz.ntmps101
 go_wp2_with fail
 rw [← hw1]
 clear hw1
 refine (HY.out 7 w1).mono ?_
 rintro e w' ⟨rfl, rfl⟩
 go_wp2_with fail
 refine (HHK.out w1 HB1.out).mono ?_
 rintro e w2 ⟨rfl, hb2⟩
 have HB2 := hide (HB1.out.trans (hb2.mono HB1.out.size))
 have HX2 := hide (show w2.heap[w.heap.size]? = some (nvO n) by rw [hb2.block _ (lt_of_block HX1.out)]; exact HX1.out)
 clear hb2 HB1 HX1 d0 d1 d2 d3 d4 d5 d6 d7
 obtain ⟨d0, d1, d2, d3, d4, d5, d6, d7⟩ := nv_cells HX2.out
 go_wp2_with fail
 refine (HHF.out w2 HB2.out).mono ?_
 rintro e w3 ⟨rfl, hb3⟩
 have HB3 := hide (HB2.out.trans (hb3.mono HB2.out.size))
 have HX3 := hide (show w3.heap[w.heap.size]? = some (nvO n) by rw [hb3.block _ (lt_of_block HX2.out)]; exact HX2.out)
 clear hb3 HB2 HX2 d0 d1 d2 d3 d4 d5 d6 d7
 obtain ⟨d0, d1, d2, d3, d4, d5, d6, d7⟩ := nv_cells HX3.out
 go_wp2_with fail
 refine (HY.out 1 w3).mono ?_
 rintro e w' ⟨rfl, rfl⟩
 go_wp2_with fail
 refine (HSC.out w3 HB3.out).mono ?_
 rintro e w4 ⟨rfl, hb4⟩
 have HB4 := hide (HB3.out.trans (hb4.mono HB3.out.size))
 have HX4 := hide (show w4.heap[w.heap.size]? = some (nvO n) by rw [hb4.block _ (lt_of_block HX3.out)]; exact HX3.out)
 clear hb4 HB3 HX3 d0 d1 d2 d3 d4 d5 d6 d7
 obtain ⟨d0, d1, d2, d3, d4, d5, d6, d7⟩ := nv_cells HX4.out
 go_wp2_with fail
 refine (HY.out 0 w4).mono ?_
 rintro e w' ⟨rfl, rfl⟩
 go_wp2_with fail
 refine (HHR.out w4 HB4.out).mono ?_
 rintro e w5 ⟨rfl, hb5⟩
 have HB5 := hide (HB4.out.trans (hb5.mono HB4.out.size))
 clear hb5
 go_wp2
 exact ⟨rfl, rfl, HB5.out⟩
theorem own_shape {B e : Nat} {w : World} {v : Value} {n k : Nat} {xs : List Value} (h : w.ownsRow B e k v n xs) : ∃ ao cap, v = .slice ao n cap := by
 rcases h.2 with ⟨rfl, rfl⟩ | ⟨g, cap, cur, rfl, _⟩
 ·exact ⟨_, _, rfl⟩
 ·exact ⟨_, _, rfl⟩
theorem info_parts {o : Option TypeInfo} {z : Option Value} {s b : Nat} (h : o.map (fun i => (i.zero, i.size, i.bytes)) = some (z, s, b)) : ∃ i, o = some i ∧ i.zero = z ∧ i.size = s ∧ i.bytes = b := by
 cases o with
 | none => simp at h
 | some i => simp at h; exact ⟨i, rfl, h.1, h.2.1, h.2.2⟩
theorem info3 : (Tryz.prog.info? 3).map (fun i => (i.zero, i.size, i.bytes)) = some (some (.int .i64 0), 1, 8) := by kernel_rfl
theorem below_drew {B : Nat} {w w' : World} (h : Below B w w') : Below B w w'.drew := ⟨h.1, h.2, h.3, h.4, h.5⟩
theorem grown_below {B : Nat} {w wr w1 : World} {v : Value} {n : Nat} {xs : List Value} (ho : wr.ownsRow B 3 1 v n xs) (hb : Below B w wr) (hB : B ≤ wr.heap.size) {o : Obj} (hg : (wr.alloc o).drew.grownBy w1 v.ownBlock) : Below B w w1 :=
 hb.trans (((below_drew ((Below.refl B wr).alloc hB o))).grown hg (by show B ≤ (wr.alloc o).heap.size; simp; omega) (fun k hk => (ho.lt k hk).1))
theorem grown_at {wr w1 : World} {v : Value} {o : Obj} (hg : (wr.alloc o).drew.grownBy w1 v.ownBlock) {k : Nat} (hk : k < wr.heap.size) (hne : v.ownBlock ≠ some k) : w1.heap[k]? = wr.heap[k]? := by
 rw [hg.block k (by show k < (wr.alloc o).heap.size; simp; omega) (fun e => hne e.symm)]
 show (wr.alloc o).heap[k]? = _
 rw [Below.heap_alloc _ _ _ hk]
theorem CK.again {B : Nat} {wr w1 : World} {cb : Nat} {s : St} {o : Obj} {ro : Option Addr} {rc gg cap : Nat} {num : Int} (hB : B ≤ cb) (hc : wr.heap[cb]? = some (.cells #[.int .i64 s.1, .slice ro s.2.length rc] 155 (0, 0))) (hne : (Value.slice ro s.2.length rc).ownBlock ≠ some cb) (hg : (wr.alloc o).drew.grownBy w1 (Value.slice ro s.2.length rc).ownBlock) (hown : w1.ownsRow B 3 1 (.slice (some ⟨gg, 0, none⟩) (s.2.length + 1) cap) (s.2.length + 1) (i64s s.2 ++ [.int .i64 num])) (hat : (Value.slice ro s.2.length rc).ownBlock = some gg ∨ gg = wr.heap.size + 1) : CK B (w1.setCell ⟨cb, 1, none⟩ (.slice (some ⟨gg, 0, none⟩) (s.2.length + 1) cap)) cb (s.1, s.2 ++ [num]) := by
 have hlt := lt_of_block hc
 have h1 : w1.heap[cb]? = some (.cells #[.int .i64 s.1, .slice ro s.2.length rc] 155 (0, 0)) := by rw [grown_at hg hlt hne]; exact hc
 have hn2 : (Value.slice (some ⟨gg, 0, none⟩) (s.2.length + 1) cap).ownBlock ≠ some cb := by
  rcases hat with e | e
  ·show some gg ≠ some cb
   rw [← e]; exact hne
  ·show some gg ≠ some cb
   intro e2
   have := Option.some.inj e2
   omega
 refine ⟨hB, _, by rw [set_one h1]; rfl, ?_, hn2⟩
 have := own_set (cb := cb) (o := 1) (u := .slice (some ⟨gg, 0, none⟩) (s.2.length + 1) cap) hown hn2
 simpa [i64s] using this
theorem own_row_elem {B e k n : Nat} {w : World} {v : Value} {xs : List Value} (h : w.ownsRow B e k v n xs) {g : Nat} (hg : v.ownBlock = some g) : ∃ cur, w.heap[g]? = some (.cells cur e (0, 0)) := by
 rcases h.2 with ⟨rfl, _⟩ | ⟨g', cap, cur, rfl, _, hh, _⟩
 ·cases hg
 ·have : g' = g := Option.some.inj hg
  subst this
  exact ⟨_, hh⟩
end Go.Proofs.YtfnndcbjklppeaaGreatDoor
