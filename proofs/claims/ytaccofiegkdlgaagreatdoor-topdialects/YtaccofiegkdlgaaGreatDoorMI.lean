import Derived.Test.YtaccofiegkdlgaaGreatDoorMF
import Derived.Test.YtaccofiegkdlgaaGreatDoorMH
namespace Go.Proofs.YtaccofiegkdlgaaGreatDoor.Pa
set_option maxHeartbeats 2000000
open Go.RowKit
open TR (Tr NV NCells nvV nvO NodeC KidsC)
open TK (Mv PatV)
open Br (BE PS givesF manyB fldB rngOf OR fauO)
set_option linter.unusedVariables false
set_option maxRecDepth 100000
variable {w w' : World} {g : Nat} {v : Value} {l : List Int} {d : Int} {s s' : St} {nv av : Value}
def OutS (R : Except BE (PS × Nat)) (g : Nat) (v : Value) (l : List Int) (d : Int) (s : St) (nv av : Value) (w : World) (e : Ending) (w' : World) : Prop :=
 (∃ f k sv L, R = .ok (f, k) ∧ e = .returned sv ∧ OR w' w.heap.size sv L ∧ IsSet f L ∧ L.length ≤ 400 ∧ k ≤ l.length ∧ RB w' g v l d { s with next := k } nv av ∧ Mv g w w') ∨ (∃ z a, R = .error (z, a) ∧ e = givesF z a ∧ Mv g w w')
theorem set_fn (h : RB w g v l d s nv av) (hn : s.next ≤ l.length) (ht : TokOk s.tok) : Calls Tryz.prog 56 #[.pointer (some ⟨g, 0, none⟩)] w fun e w' => OutS (setM d l s) g v l d s nv av w e w' := by
 obtain ⟨c2, c3, c4, c5, c6, c7, c8, c9⟩ := h.tk
 have hgw := h.lt
 have hb1 : Below w.heap.size w (w.alloc (TK.tokO s.tok)) := (Below.refl _ w).alloc (Nat.le_refl _) _
 have HR := hide h
 obtain ⟨t, htt⟩ : ∃ t, t = s.tok := ⟨_, rfl⟩
 have HE0 : Hid (setM d l s = if t.kind = 1 then .ok (foldP s.folded (oneF t.num), s.next)
  else if t.kind = 4 then .ok ((if t.neg then (fun x => !foldP s.folded (ins (rngOf t.text)) x) else foldP s.folded (ins (rngOf t.text))), s.next)
  else if t.kind = 5 then (match Br.parseM d s.folded l (s.next : Int) with
   | .error (z, a) => .error (z, max a (s.pos : Int))
   | .ok (f, k) => .ok (f, k))
  else .ok (fun x => !oneF 10 x, s.next)) := by show _ = _; rw [htt]; rfl
 rw [← htt] at c2 c3 c4 c5 c6 c7 c8 c9 ht hb1
 obtain ⟨w1, hw1⟩ : ∃ w1, w1 = w.alloc (TK.tokO t) := ⟨_, rfl⟩
 have hM : w1.heap[w.heap.size]? = some (TK.tokO t) := by rw [hw1]; exact TK.at_new _ _
 rw [← hw1] at hb1
 have HB1 := hide hb1
 obtain ⟨m0, m1, m2, m3, m4, m5, m6, m7⟩ := TK.tok_cells hM
 simp only [TK.tokO] at hw1
 have HNL := hide hn
 clear h hM hb1 htt hn
 by_cases k1 : t.kind = 1
 ·have hE : Hid (setM d l s = .ok (foldP s.folded (oneF t.num), s.next)) := by show _ = _; rw [HE0.out, if_pos k1]
  have hp : 0 ≤ t.num ∧ t.num ≤ 1114111 := by unfold TokOk at ht; omega
  have HO := hide (onePoint_any t.num hp w1)
  have HF1 := hide (few_raw hp)
  have HF2 := hide (few_one hp s.folded)
  rw [k1] at hw1 c2 m0
  clear HE0 ht hp k1
  go_enter Tryz.func56, Tryz.ntmps56
  go_wp2_with fail
  rw [← hw1]
  clear hw1
  refine HO.out.mono ?_
  rintro e w2 ⟨sv, L, rfl, ho, hs, hl, hb⟩
  have hb2 := HB1.out.trans (hb.mono HB1.out.size)
  have HX := hide (fold_fn (HR.out.keep hb2) (Nat.le_trans HB1.out.size hb.size) (ho.low HB1.out.size) hs HF1.out HF2.out)
  have HB2 := hide hb2
  obtain ⟨so, sc, hsv⟩ := OR.shape ho
  obtain ⟨ln, hln⟩ : ∃ ln, ln = L.length := ⟨_, rfl⟩
  rw [← hln] at hsv
  rw [hsv] at HX ⊢
  clear ho hs hb hsv hln HO hl hb2 m0 m1 m2 m3 m4 m5 m6 m7
  go_wp2_with fail
  refine HX.out.mono ?_
  rintro e w3 ⟨sv, L, rfl, ho, hs, hl, hb⟩
  have hb3 := HB2.out.trans (hb.mono HB2.out.size)
  have HO := hide ho
  have HS := hide hs
  have HL := hide hl
  have HB3 := hide hb3
  obtain ⟨so, sc, hsv⟩ := OR.shape ho
  obtain ⟨ln, hln⟩ : ∃ ln, ln = L.length := ⟨_, rfl⟩
  rw [← hln] at hsv
  rw [hsv] at HO ⊢
  clear ho hs hb hsv hln HX hl hb3
  go_wp2
  go_ret
  exact .inl ⟨_, _, _, L, hE.out, rfl, HO.out, HS.out, HL.out, HNL.out, HR.out.keep HB3.out, Mv.of_below HB3.out⟩
 ·have q1 : (t.kind == 1) = false := by simpa using k1
  by_cases k4 : t.kind = 4
  ·have hE : Hid (setM d l s = .ok ((if t.neg then (fun x => !foldP s.folded (ins (rngOf t.text)) x) else foldP s.folded (ins (rngOf t.text))), s.next)) := by show _ = _; rw [HE0.out, if_neg k1, if_pos k4]
   have hp : t.text = TK.bDigit ∨ t.text = TK.bWord ∨ t.text = TK.bSpace ∨ t.text = TK.bXdigit := by
    unfold TokOk at ht
    rcases ht with h | h | h | h | h | h | h | h | h | h | h
    ·omega
    ·omega
    ·omega
    ·exact h.2
    all_goals omega
   have HO := hide (class_fn (HR.out.keep HB1.out) hp t.neg)
   rw [k4] at hw1 c2 m0 q1
   clear HE0 ht hp k4 k1
   go_enter Tryz.func56, Tryz.ntmps56
   go_wp2_with fail
   rw [← hw1]
   clear hw1
   refine HO.out.mono ?_
   rintro e w3 ⟨sv, L, rfl, ho, hs, hl, hb⟩
   have hb3 := HB1.out.trans (hb.mono HB1.out.size)
   have HO := hide (ho.low HB1.out.size)
   have HS := hide hs
   have HL := hide hl
   have HB3 := hide hb3
   obtain ⟨so, sc, hsv⟩ := OR.shape ho
   obtain ⟨ln, hln⟩ : ∃ ln, ln = L.length := ⟨_, rfl⟩
   rw [← hln] at hsv
   rw [hsv] at HO ⊢
   clear ho hs hb hsv hln hl hb3 m0 m1 m2 m3 m4 m5 m6 m7
   go_wp2
   go_ret
   exact .inl ⟨_, _, _, L, hE.out, rfl, HO.out, HS.out, HL.out, HNL.out, HR.out.keep HB3.out, Mv.of_below HB3.out⟩
  ·have q4 : (t.kind == 4) = false := by simpa using k4
   by_cases k5 : t.kind = 5
   ·have HO := hide (bracket_fn (HR.out.keep HB1.out))
    have HE1 : Hid (setM d l s = match Br.parseM d s.folded l (s.next : Int) with
     | .error (z, a) => .error (z, max a (s.pos : Int))
     | .ok (f, k) => .ok (f, k)) := by show _ = _; rw [HE0.out, if_neg k1, if_neg k4, if_pos k5]
    rw [k5] at hw1 c2 m0 q1 q4
    clear HE0 ht k5 k1 k4
    go_enter Tryz.func56, Tryz.ntmps56
    go_wp2_with fail
    rw [← hw1]
    clear hw1
    refine HO.out.mono ?_
    rintro e w3 (⟨f, k, sv, L, hR, rfl, ho, hs, hl, hk, hr, hm⟩ | ⟨z, a, hR, rfl, hm⟩)
    ·have hE : Hid (setM d l s = .ok (f, k)) := by show _ = _; rw [HE1.out, hR]
     have HO := hide (ho.low HB1.out.size)
     have HS := hide hs
     have HL := hide hl
     have HK := hide hk
     have HRR := hide hr
     have HM := hide (Mv.trans (b := g) (Mv.of_below HB1.out) hm)
     obtain ⟨so, sc, hsv⟩ := OR.shape ho
     obtain ⟨ln, hln⟩ : ∃ ln, ln = L.length := ⟨_, rfl⟩
     rw [← hln] at hsv
     rw [hsv] at HO ⊢
     clear ho hs hsv hln hl hk hr hm HE1 hR m0 m1 m2 m3 m4 m5 m6 m7
     go_wp2
     go_ret
     exact .inl ⟨_, _, _, L, hE.out, rfl, HO.out, HS.out, HL.out, HK.out, HRR.out, HM.out⟩
    ·have hE : Hid (setM d l s = .error (z, max a (s.pos : Int))) := by show _ = _; rw [HE1.out, hR]
     have HM := hide (Mv.trans (b := g) (Mv.of_below HB1.out) hm)
     clear hm HE1 hR m0 m1 m2 m3 m4 m5 m6 m7
     simp only [givesF]
     go_wp2
     exact ⟨rfl, .inr ⟨z, _, hE.out, rfl, HM.out⟩⟩
   ·have q5 : (t.kind == 5) = false := by simpa using k5
    have hE : Hid (setM d l s = .ok (fun x => !oneF 10 x, s.next)) := by show _ = _; rw [HE0.out, if_neg k1, if_neg k4, if_neg k5]
    have HO := hide (onePoint_any 10 (by decide) w1)
    clear HE0 ht
    go_enter Tryz.func56, Tryz.ntmps56
    go_wp2_with fail
    rw [← hw1]
    clear hw1
    refine HO.out.mono ?_
    rintro e w2 ⟨sv, L, rfl, ho, hs, hl, hb⟩
    have hb2 := HB1.out.trans (hb.mono HB1.out.size)
    have HX := hide (not_fn ho hs (few_raw (by decide)) few_dot)
    have HB2 := hide hb2
    obtain ⟨so, sc, hsv⟩ := OR.shape ho
    obtain ⟨ln, hln⟩ : ∃ ln, ln = L.length := ⟨_, rfl⟩
    rw [← hln] at hsv
    rw [hsv] at HX ⊢
    clear ho hs hb hsv hln HO hl hb2 m0 m1 m2 m3 m4 m5 m6 m7
    go_wp2_with fail
    refine HX.out.mono ?_
    rintro e w3 ⟨sv, L, rfl, ho, hs, hl, hb⟩
    have hb3 := HB2.out.trans (hb.mono HB2.out.size)
    have HO := hide (ho.low HB2.out.size)
    have HS := hide hs
    have HL := hide hl
    have HB3 := hide hb3
    obtain ⟨so, sc, hsv⟩ := OR.shape ho
    obtain ⟨ln, hln⟩ : ∃ ln, ln = L.length := ⟨_, rfl⟩
    rw [← hln] at hsv
    rw [hsv] at HO ⊢
    clear ho hs hb hsv hln HX hl hb3
    go_wp2
    go_ret
    exact .inl ⟨_, _, _, L, hE.out, rfl, HO.out, HS.out, HL.out, HNL.out, HR.out.keep HB3.out, Mv.of_below HB3.out⟩
end Go.Proofs.YtaccofiegkdlgaaGreatDoor.Pa
namespace Go.Proofs.YtaccofiegkdlgaaGreatDoor.Pa
open Go.RowKit
open TR (Tr NV NCells nvV nvO NodeC KidsC)
open TK (Mv PatV)
open Br (BE PS givesF manyB fldB rngOf OR fauO)
set_option linter.unusedVariables false
set_option maxRecDepth 100000
variable {w w' : World} {g : Nat} {v : Value} {l : List Int} {d : Int} {s s' : St} {nv av : Value}
theorem below_setNode {B N : Nat} {w0 : World} (h : Below B w0 w) (hN : B ≤ N) (n : NV) : Below B w0 (setNode w N n) :=
 (((((((h.setCell (p := ⟨N, 0, none⟩) hN _).setCell (p := ⟨N, 1, none⟩) hN _).setCell (p := ⟨N, 2, none⟩) hN _).setCell (p := ⟨N, 3, none⟩) hN _).setCell (p := ⟨N, 4, none⟩) hN _).setCell (p := ⟨N, 5, none⟩) hN _).setCell (p := ⟨N, 6, none⟩) hN _).setCell (p := ⟨N, 7, none⟩) hN _
theorem Pieces.single {W : World} {lo hi R : Nat} {n : NV} {t : Tr} (h : NodeI W lo hi n t) (hle : lo ≤ hi) (hR : hi ≤ R) (hrow : W.heap[R]? = some (nvO n)) {lo' hi' : Nat} (h1 : lo' ≤ lo) (h2 : R < hi') : Pieces W lo' hi' (.slice (some ⟨R, 0, none⟩) 1 1) [⟨n, t, lo, hi⟩] := by
 refine ⟨⟨⟨rfl, .inr ⟨R, 1, _, rfl, by omega, hrow, Nat.le_refl _, by decide, rfl, rfl⟩⟩, fun k hk => ?_, fun p hp => ?_, List.pairwise_singleton _ _⟩, fun p hp => ?_⟩
 ·have : R = k := Option.some.inj hk
  subst this
  exact ⟨h2, fun p hp => by rw [List.mem_singleton] at hp; subst hp; exact .inr hR⟩
 ·rw [List.mem_singleton] at hp; subst hp
  exact ⟨h1, hle, by show hi ≤ hi'; omega⟩
 ·rw [List.mem_singleton] at hp; subst hp
  exact h
end Go.Proofs.YtaccofiegkdlgaaGreatDoor.Pa
namespace Go.Proofs.YtaccofiegkdlgaaGreatDoor.Pa
set_option maxHeartbeats 4000000
open Go.RowKit
open TR (Tr NV NCells nvV nvO NodeC KidsC)
open TK (Mv PatV)
open Br (BE PS givesF manyB fldB rngOf OR fauO)
set_option linter.unusedVariables false
set_option maxRecDepth 100000
variable {w w' : World} {g : Nat} {v : Value} {l : List Int} {d : Int} {s s' : St} {nv av : Value}
theorem NodeI.setN {W : World} {lo hi : Nat} {so : Option Addr} {sl sc : Nat} {L : RL} (ho : OR W lo (.slice so sl sc) L) (hh : W.heap.size ≤ hi) : NodeI W lo hi ⟨2, so, sl, sc, none, 0, 0, 0, 0, 0, 0, false⟩ (setT L) :=
 .mk lo hi ⟨2, so, sl, sc, none, 0, 0, 0, 0, 0, 0, false⟩ L [] ⟨ho, fun k hk => (by have := (World.ownsRow.lt (show W.ownsRow lo 66 2 _ L.length (cells2 L) from ho) k hk).2; omega)⟩ (RowI.nil _ _ _) (fun h => (by simp at h)) (fun p hp => (by cases hp))
theorem single_fn (h : RB w g v l d s nv av) (hi : Inv l s) (hp : s.pos < l.length) : Calls Tryz.prog 46 #[.pointer (some ⟨g, 0, none⟩)] w fun e w' => OutN (singleM d l s) g v l d w e w' := by
 have hgw := h.lt
 obtain ⟨hpn, htok⟩ := hi.on hp
 have hal : s.agains.length ≤ 1000 := by have := hi.ags; have := hi.pos; have := h.small; omega
 have hnum : s.tok.kind = 10 → -999 ≤ s.tok.num ∧ s.tok.num ≤ 999 := fun hk => by unfold TokOk at htok; omega
 have h3n : s.tok.kind = 3 → 3 ≤ s.tok.num ∧ s.tok.num ≤ 8 := fun hk => by unfold TokOk at htok; omega
 have hg20 := hi.grp
 have hnx := hi.next
 obtain ⟨c2, c3, c4, c5, c6, c7, c8, c9⟩ := h.tk
 obtain ⟨w1, hw1⟩ : ∃ w1, w1 = (w.alloc (nvO nodeZ)).alloc (TK.tokO s.tok) := ⟨_, rfl⟩
 have hb1 : Below w.heap.size w w1 := by rw [hw1]; exact ((Below.refl _ w).alloc (Nat.le_refl _) _).alloc (by simp) _
 have hN : w1.heap[w.heap.size]? = some (nvO nodeZ) := by rw [hw1]; exact TK.at_old (TK.at_new _ _)
 have hM : w1.heap[w.heap.size + 1]? = some (TK.tokO s.tok) := by rw [hw1]; exact TK.at_new' _ _ (by simp)
 have HR1 := hide (h.keep hb1)
 have HB1 := hide hb1
 have HN := hide hN
 have HNF := hide (node_free hN)
 obtain ⟨m0, m1, m2, m3, m4, m5, m6, m7⟩ := TK.tok_cells hM
 simp only [TK.tokO, nvO, nodeZ] at hw1
 obtain ⟨t, htt⟩ : ∃ t, t = s.tok := ⟨_, rfl⟩
 rw [← htt] at c2 c3 c4 c5 c6 c7 c8 c9 m0 m1 m2 m3 m4 m5 m6 m7 hw1 htok hnum h3n
 have HE0 : Hid (singleM d l s = if t.kind = 3 then .ok (kindT t.num, s) else if t.kind = 10 then againM s else if t.kind = 11 then .ok (emptyT, { s with folded := foldedBy s t.fold }) else match setM d l s with
  | .error e => .error e
  | .ok (f, k) => .ok (setT (listOf f), { s with next := k })) := by show _ = _; rw [htt]; rfl
 have HTT := hide htt
 clear hN hM hb1 htt h
 by_cases k3 : t.kind = 3
 ·have hE : Hid (singleM d l s = .ok (kindT t.num, s)) := by show _ = _; rw [HE0.out, if_pos k3]
  have hkk : ¬ (t.num = 9 ∨ t.num = 10) := by have := h3n k3; omega
  rw [k3] at hw1 c2 m0
  have hf := HNF.out
  obtain ⟨x0, x1, x2, x3, x4, x5, x6, x7⟩ := node_cells HN.out
  clear HE0 k3 hi htok hnum h3n
  go_enter Tryz.func46, Tryz.ntmps46
  go_upto_region 2 with fail
  rw [← hw1]
  obtain ⟨N, hNe⟩ : ∃ N, N = w.heap.size := ⟨_, rfl⟩
  have HNe := hide hNe
  rw [← hNe] at HN x0 x1 x2 x3 x4 x5 x6 x7 hf m0 m1 m2 m3 m4 m5 m6 m7 ⊢
  clear hw1 hNe
  go_wp21
  obtain ⟨W4, hW4⟩ : ∃ W4, W4 = setNode w1 N ⟨t.num, none, 0, 0, none, 0, 0, 0, 0, 0, 0, false⟩ := ⟨_, rfl⟩
  have hN4 : W4.heap[N]? = some (nvO ⟨t.num, none, 0, 0, none, 0, 0, 0, 0, 0, 0, false⟩) := by rw [hW4]; exact setNode_at HN.out _
  have hm4 : Mv N w1 W4 := by rw [hW4]; exact mv_setNode (Mv.refl N w1) _
  simp only [setNode] at hW4
  rw [← hW4]
  clear hW4
  have hgN : g < N := by have := HNe.out; omega
  refine ret_node (N := N) Tryz.results46 rfl (TR.nv_cells hN4) (.inl ⟨_, _, _, nv, av, hE.out, rfl, NodeI.leaf _ _ _ t.num 0 0 0 0 false hkk, HR1.out.mvN hgN HN.out (by decide) (by decide) hm4, (Step.of_below HB1.out hgw).mvN (by have := HNe.out; omega) hgw hm4⟩)
 ·have q3 : (t.kind == 3) = false := by simpa using k3
  by_cases k10 : t.kind = 10
  ·have hE : Hid (singleM d l s = againM s) := by show _ = _; rw [HE0.out, if_neg k3, if_pos k10]
   have HA := hide (again_fn HR1.out hg20 (by rw [← HTT.out]; exact hnum k10) hal)
   rw [k10] at hw1 c2 m0 q3
   clear HE0 k3 hi htok hnum h3n k10
   go_enter Tryz.func46, Tryz.ntmps46
   go_wp2_with fail
   rw [← hw1]
   obtain ⟨N, hNe⟩ : ∃ N, N = w.heap.size := ⟨_, rfl⟩
   have HNe := hide hNe
   rw [← hNe] at HN ⊢
   clear hw1 hNe
   refine HA.out.mono ?_
   rintro e w2 (⟨tr, s', n, nv', av', hR, rfl, hni, hr, hst⟩ | ⟨z, a, hR, rfl, hst⟩)
   ·have hN2 := hst.blk (by have := HNe.out; omega) HN.out (by decide) (by decide)
    have hf := node_free hN2
    obtain ⟨x0, x1, x2, x3, x4, x5, x6, x7⟩ := node_cells hN2
    have HN2 := hide hN2
    have HNI := hide hni
    have HR2 := hide hr
    have HST := hide ((Step.of_below HB1.out hgw).trans hst)
    have hE2 := hide (hE.out.trans hR)
    have HS1 := hide HB1.out.size
    have HLT1 := hide (TR.lt_of_block HN.out)
    clear hN2 hni hr hst hR hE HA m0 m1 m2 m3 m4 m5 m6 m7 c2 c3 c4 c5 c6 c7 c8 c9
    go_wp21
    obtain ⟨W4, hW4⟩ : ∃ W4, W4 = setNode w2 N n := ⟨_, rfl⟩
    have hN4 : W4.heap[N]? = some (nvO n) := by rw [hW4]; exact setNode_at HN2.out _
    have hm4 : Mv N w2 W4 := by rw [hW4]; exact mv_setNode (Mv.refl N w2) _
    simp only [setNode] at hW4
    rw [← hW4]
    clear hW4
    have hgN : g < N := by have := HNe.out; omega
    refine ret_node (N := N) Tryz.results46 rfl (TR.nv_cells hN4) (.inl ⟨_, _, _, nv', av', hE2.out, rfl, ?_, HR2.out.mvN hgN HN2.out (by decide) (by decide) hm4, HST.out.mvN (by have := HNe.out; omega) hgw hm4⟩)
    have e1 := HNe.out
    have e2 := HLT1.out
    exact (HNI.out.keep (KeepI.of_blocks fun k h1 h2 => hm4.block k (by omega) (by omega))).wide (by omega) hm4.size
   ·have hE2 := hide (hE.out.trans hR)
    have HST := hide ((Step.of_below HB1.out hgw).trans hst)
    clear hst hR hE HA m0 m1 m2 m3 m4 m5 m6 m7 c2 c3 c4 c5 c6 c7 c8 c9
    simp only [givesF]
    go_wp2
    exact ⟨rfl, .inr ⟨z, a, hE2.out, rfl, HST.out⟩⟩
  ·have q10 : (t.kind == 10) = false := by simpa using k10
   by_cases k11 : t.kind = 11
   ·have hE : Hid (singleM d l s = .ok (emptyT, { s with folded := foldedBy s t.fold })) := by show _ = _; rw [HE0.out, if_neg k3, if_neg k10, if_pos k11]
    have HA := hide (foldedBy_any HR1.out t.fold)
    obtain ⟨fb, hfb⟩ : ∃ fb, fb = foldedBy s t.fold := ⟨_, rfl⟩
    rw [← hfb] at HA hE
    have HR2 : Hid (RB (w1.setCell ⟨g, 12, none⟩ (.bool fb)) g v l d { s with folded := fb } nv av) := HR1.out.set 12 _ rfl rfl rfl
    have HM2 : Hid (Mv g w1 (w1.setCell ⟨g, 12, none⟩ (.bool fb))) := (Mv.refl g w1).setCell 12 _
    have f12 := HR1.out.fr 12
    have d12 := HR1.out.rd.2.2.2.2.1
    have hgw1 := HR1.out.lt
    have hf := HNF.out
    obtain ⟨x0, x1, x2, x3, x4, x5, x6, x7⟩ := node_cells HN.out
    rw [k11] at hw1 c2 m0 q3 q10
    clear HE0 k3 hi htok hnum h3n k10 k11 hfb
    go_enter Tryz.func46, Tryz.ntmps46
    go_wp2_with fail
    rw [← hw1]
    obtain ⟨N, hNe⟩ : ∃ N, N = w.heap.size := ⟨_, rfl⟩
    have HNe := hide hNe
    rw [← hNe] at HN x0 x1 x2 x3 x4 x5 x6 x7 hf m0 m1 m2 m3 m4 m5 m6 m7 ⊢
    clear hw1 hNe
    refine HA.out.mono ?_
    rintro e w2 ⟨rfl, rfl⟩
    have hgN : g < N := by have := HNe.out; omega
    have hNg : ¬ N = g := by omega
    have hgN2 : ¬ g = N := by omega
    clear HA m0 m1 m2 m3 m4 m5 m6 m7 c2 c3 c4 c5 c6 c7 c8 c9
    go_wp21
    obtain ⟨w3, hw3⟩ : ∃ w3, w3 = w1.setCell ⟨g, 12, none⟩ (.bool fb) := ⟨_, rfl⟩
    rw [← hw3] at HR2 HM2 ⊢
    have HN3 : Hid (w3.heap[N]? = some (nvO nodeZ)) := by show _ = _; rw [HM2.out.block N (TR.lt_of_block HN.out) (by omega)]; exact HN.out
    clear hw3
    obtain ⟨W4, hW4⟩ : ∃ W4, W4 = setNode w3 N ⟨1, none, 0, 0, none, 0, 0, 0, 0, 0, 0, false⟩ := ⟨_, rfl⟩
    have hN4 : W4.heap[N]? = some (nvO ⟨1, none, 0, 0, none, 0, 0, 0, 0, 0, 0, false⟩) := by rw [hW4]; exact setNode_at HN3.out _
    have hm4 : Mv N w3 W4 := by rw [hW4]; exact mv_setNode (Mv.refl N w3) _
    simp only [setNode] at hW4
    rw [← hW4]
    clear hW4
    refine ret_node (N := N) Tryz.results46 rfl (TR.nv_cells hN4) (.inl ⟨_, _, _, nv, av, hE.out, rfl, NodeI.leaf _ _ _ 1 0 0 0 0 false (by decide), HR2.out.mvN hgN HN3.out (by decide) (by decide) hm4, ((Step.of_below HB1.out hgw).trans (Step.of_mv HM2.out hgw1)).mvN (by have := HNe.out; omega) hgw hm4⟩)
   ·have q11 : (t.kind == 11) = false := by simpa using k11
    have hE1 : Hid (singleM d l s = match setM d l s with
     | .error e => .error e
     | .ok (f, k) => .ok (setT (listOf f), { s with next := k })) := by show _ = _; rw [HE0.out, if_neg k3, if_neg k10, if_neg k11]
    have HA := hide (set_fn HR1.out hnx (by rw [← HTT.out]; exact htok))
    have hf := HNF.out
    have hgw1 := HR1.out.lt
    clear HE0 k3 hi htok hnum h3n k10 k11
    go_enter Tryz.func46, Tryz.ntmps46
    go_wp2_with fail
    rw [← hw1]
    obtain ⟨N, hNe⟩ : ∃ N, N = w.heap.size := ⟨_, rfl⟩
    have HNe := hide hNe
    rw [← hNe] at HN ⊢
    clear hw1 hNe
    refine HA.out.mono ?_
    rintro e w2 (⟨f, k, sv, L, hR, rfl, ho, hs, hl, hk, hr, hm⟩ | ⟨z, a, hR, rfl, hm⟩)
    ·have hE2 : Hid (singleM d l s = .ok (setT L, { s with next := k })) := by show _ = _; rw [hE1.out, hR]; simp only [listOf_is hs]
     have hgN : g < N := by have := HNe.out; omega
     have hN2 : w2.heap[N]? = some (nvO nodeZ) := by rw [hm.block N (TR.lt_of_block HN.out) (by omega)]; exact HN.out
     have hf := node_free hN2
     obtain ⟨x0, x1, x2, x3, x4, x5, x6, x7⟩ := node_cells hN2
     have HN2 := hide hN2
     have HR2 := hide hr
     have HST := hide ((Step.of_below HB1.out hgw).trans (Step.of_mv hm hgw1))
     have HO := hide ho
     have HLT1 := hide (TR.lt_of_block HN.out)
     obtain ⟨so, sc, hsv⟩ := OR.shape ho
     obtain ⟨ln, hln⟩ : ∃ ln, ln = L.length := ⟨_, rfl⟩
     rw [← hln] at hsv
     rw [hsv] at HO ⊢
     clear hN2 ho hs hl hk hr hm hR hE1 HA m0 m1 m2 m3 m4 m5 m6 m7 c2 c3 c4 c5 c6 c7 c8 c9 hsv hln
     go_wp21
     obtain ⟨W4, hW4⟩ : ∃ W4, W4 = setNode w2 N ⟨2, so, ln, sc, none, 0, 0, 0, 0, 0, 0, false⟩ := ⟨_, rfl⟩
     have hN4 : W4.heap[N]? = some (nvO ⟨2, so, ln, sc, none, 0, 0, 0, 0, 0, 0, false⟩) := by rw [hW4]; exact setNode_at HN2.out _
     have hm4 : Mv N w2 W4 := by rw [hW4]; exact mv_setNode (Mv.refl N w2) _
     simp only [setNode] at hW4
     rw [← hW4]
     clear hW4
     refine ret_node (N := N) Tryz.results46 rfl (TR.nv_cells hN4) (.inl ⟨_, _, _, nv, av, hE2.out, rfl, ?_, HR2.out.mvN hgN HN2.out (by decide) (by decide) hm4, HST.out.mvN (by have := HNe.out; omega) hgw hm4⟩)
     have e1 := HNe.out
     have e2 := HLT1.out
     exact NodeI.setN ((OR.mv HO.out hm4 (by omega)).low (by omega)) (Nat.le_refl _)
    ·have hE2 : Hid (singleM d l s = .error (z, a)) := by show _ = _; rw [hE1.out, hR]
     have HST := hide ((Step.of_below HB1.out hgw).trans (Step.of_mv hm hgw1))
     clear hm hR hE1 HA m0 m1 m2 m3 m4 m5 m6 m7 c2 c3 c4 c5 c6 c7 c8 c9
     simp only [givesF]
     go_wp2
     exact ⟨rfl, .inr ⟨z, a, hE2.out, rfl, HST.out⟩⟩
end Go.Proofs.YtaccofiegkdlgaaGreatDoor.Pa
