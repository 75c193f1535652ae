import Derived.Test.YtaccofiegkdlgaaGreatDoorML
namespace Go.Proofs.YtaccofiegkdlgaaGreatDoor.Pa
set_option maxHeartbeats 4000000
open Go.RowKit
open TR (Tr NV NCells nvV nvO NodeC KidsC)
open TK (Mv PatV)
open Br (BE PS givesF manyB fldB rngOf OR fauO)
set_option linter.unusedVariables false
set_option maxRecDepth 100000
variable {w w' : World} {g : Nat} {v : Value} {l : List Int} {d : Int} {s s' : St} {nv av : Value}
theorem open_deep {rec : Rd} (h : RB w g v l d s nv av) (h20 : s.deep = 20) : Calls Tryz.prog 45 #[.pointer (some ⟨g, 0, none⟩)] w fun e w' => OutN (openM d l rec s) g v l d w e w' := by
 have hgw := h.lt
 have hE : Hid (openM d l rec s = .error (2, (s.pos : Int))) := by show _ = _; unfold openM; rw [if_pos h20]
 obtain ⟨c2, c3, c4, c5, c6, c7, c8, c9⟩ := h.tk
 have c13 := h.rd.2.2.2.2.2.1
 rw [h20] at c13
 obtain ⟨w2, hw2⟩ : ∃ w2, w2 = (w.alloc (nvO nodeZ)).alloc (TK.tokO s.tok) := ⟨_, rfl⟩
 have hb2 : Below w.heap.size w w2 := by rw [hw2]; exact ((Below.refl _ w).alloc (Nat.le_refl _) _).alloc (by simp) _
 have hr2 := h.keep hb2
 have d10 := hr2.rd.2.2.1
 have d13 := hr2.rd.2.2.2.2.2.1
 rw [h20] at d13
 have HG := hide (giveUp_any 2 (s.pos : Int) w2)
 simp only [givesF] at HG
 simp only [TK.tokO, nvO, nodeZ] at hw2
 have HB := hide hb2
 clear h hr2 hb2
 go_enter Tryz.func45, Tryz.ntmps45
 go_upto_region 2 with fail
 rw [← hw2]
 clear hw2 c13 c2 c3 c4 c5 c6 c7 c8 c9
 go_wp2_with fail
 refine HG.out.mono ?_
 rintro e w3 ⟨rfl, rfl⟩
 go_wp2
 exact ⟨rfl, .inr ⟨2, _, hE.out, rfl, Step.of_below HB.out hgw⟩⟩
theorem open_fn {rec : Rd} (h : RB w g v l d s nv av) (hi : Inv' l s) (hp : s.pos < l.length) (hk7 : s.tok.kind = 7) (hrec : s.deep ≠ 20 → RecOk g v l d (s.deep + 1) rec) (hrg : RecG l (s.deep + 1) rec) : Calls Tryz.prog 45 #[.pointer (some ⟨g, 0, none⟩)] w fun e w' => OutN (openM d l rec s) g v l d w e w' := by
 by_cases h20 : s.deep = 20
 ·exact open_deep h h20
 ·by_cases h11 : s.tok.num = 11
  ·exact open_g h hi hp hk7 h20 h11 (hrec h20) hrg
  ·by_cases h1 : s.tok.num = 1
   ·exact open_e h hi hp hk7 h20 h1 (hrec h20) hrg
   ·exact open_o h hi hp hk7 h20 ⟨h11, h1⟩ (hrec h20) hrg
theorem atom_fn {rec : Rd} (h : RB w g v l d s nv av) (hi : Inv' l s) (hp : s.pos < l.length) (hrec : s.deep ≠ 20 → RecOk g v l d (s.deep + 1) rec) (hrg : RecG l (s.deep + 1) rec) : Calls Tryz.prog 37 #[.pointer (some ⟨g, 0, none⟩)] w fun e w' => OutN (atomM d l rec s) g v l d w e w' := by
 have hgw := h.lt
 have hpe := h.pe
 obtain ⟨w1, hw1⟩ : ∃ w1, w1 = w.alloc (nvO nodeZ) := ⟨_, rfl⟩
 have hb1 : Below w.heap.size w w1 := by rw [hw1]; exact (Below.refl _ w).alloc (Nat.le_refl _) _
 have hN1 : w1.heap[w.heap.size]? = some (nvO nodeZ) := by rw [hw1]; exact TK.at_new _ _
 have hr1 := h.keep hb1
 have c2 := hr1.tk.1
 have c10 := hr1.rd.2.2.1
 simp only [nvO, nodeZ] at hw1
 have HN1 := hide hN1
 have HB1 := hide hb1
 have HR1 := hide hr1
 have hS1 : Hid (Step g w w1) := Step.of_below hb1 hgw
 obtain ⟨N, hNe⟩ : ∃ N, N = w.heap.size := ⟨_, rfl⟩
 have HNe := hide hNe
 have hgN : g < N := by omega
 by_cases k6 : s.tok.kind = 6
 ·have hE : Hid (atomM d l rec s = .error (1, (s.pos : Int))) := by show _ = _; unfold atomM; rw [if_pos k6]
  rw [k6] at c2
  have HG := hide (giveUp_any 1 (s.pos : Int) w1)
  simp only [givesF] at HG
  clear h hr1 hb1 hN1 hi hrec hrg hNe k6
  go_enter Tryz.func37, Tryz.ntmps37
  go_upto_region 1 with fail
  rw [← hw1]
  clear hw1
  go_wp2_with fail
  refine HG.out.mono ?_
  rintro e w2 ⟨rfl, rfl⟩
  go_wp2
  exact ⟨rfl, .inr ⟨1, _, hE.out, rfl, hS1.out⟩⟩
 ·have q6 : (s.tok.kind == 6) = false := by simpa using k6
  by_cases k7 : s.tok.kind = 7
  ·have hE : Hid (atomM d l rec s = openM d l rec s) := by show _ = _; unfold atomM; rw [if_neg k6, if_pos k7]
   have HX := hide (open_fn hr1 hi hp k7 hrec hrg)
   rw [k7] at c2
   clear h hr1 hb1 hN1 hi hrec hrg k6 q6 k7
   go_enter Tryz.func37, Tryz.ntmps37
   go_upto_region 1 with fail
   rw [← hw1]
   rw [← hNe] at HN1 ⊢
   clear hw1 hNe
   go_wp2_with fail
   refine HX.out.mono ?_
   rintro e w2 (⟨t, s2, n, nv2, av2, hR, rfl, hni, hr2, hst⟩ | ⟨z, a, hR, rfl, hst⟩)
   ·have hN2 := hst.blk hgN HN1.out (by decide) (by decide)
    have hE2 := hide (hE.out.trans hR)
    have HNI := hide hni
    have HR2 := hide hr2
    have HS2 := hide (hS1.out.trans hst)
    have HN2 := hide hN2
    have HL1 := hide (TR.lt_of_block HN1.out)
    obtain ⟨z0, z1, z2, z3, z4, z5, z6, z7⟩ := node_cells hN2
    have zf := node_free hN2
    clear hN2 hni hr2 hst hR HX c2 c10 HR1 HB1
    go_wp21
    obtain ⟨W4, hW4⟩ : ∃ W4, W4 = setNode w2 N n := ⟨_, rfl⟩
    have hN4 : W4.heap[N]? = some (nvO n) := by rw [hW4]; exact setNode_at HN2.out _
    have hm4 : Mv N w2 W4 := by rw [hW4]; exact mv_setNode (Mv.refl N w2) _
    simp only [setNode] at hW4
    rw [← hW4]
    clear hW4
    refine ret_node (N := N) Tryz.results37 rfl (TR.nv_cells hN4) (.inl ⟨_, _, _, nv2, av2, hE2.out, rfl, ?_, HR2.out.mvN hgN HN2.out (by decide) (by decide) hm4, HS2.out.mvN (by have := HNe.out; omega) hgw hm4⟩)
    have e1 := HNe.out
    have e2 := HL1.out
    exact (HNI.out.keep (KeepI.of_blocks fun k h1 h2 => hm4.block k (by omega) (by omega))).wide (by omega) hm4.size
   ·have hE2 := hide (hE.out.trans hR)
    have HS2 := hide (hS1.out.trans hst)
    clear hst hR HX c2 c10 HR1 HB1
    simp only [givesF]
    go_wp2
    exact ⟨rfl, .inr ⟨z, a, hE2.out, rfl, HS2.out⟩⟩
  ·have q7 : (s.tok.kind == 7) = false := by simpa using k7
   have hE : Hid (atomM d l rec s = match singleM d l s with
    | .error e => .error e
    | .ok (t, s1) => match advM d l s1 with
     | .error e => .error e
     | .ok s2 => .ok (t, s2)) := by show _ = _; unfold atomM; rw [if_neg k6, if_neg k7]; rfl
   have HX := hide (single_fn hr1 hi.inv hp)
   have HSI := hide (fun t s' => single_inv (t := t) (s' := s') hpe hi hp)
   clear h hr1 hb1 hN1 hi hrec hrg k6 k7
   go_enter Tryz.func37, Tryz.ntmps37
   go_upto_region 1 with fail
   rw [← hw1]
   rw [← hNe] at HN1 ⊢
   clear hw1 hNe
   go_wp2_with fail
   refine HX.out.mono ?_
   rintro e w2 (⟨t, s2, n, nv2, av2, hR, rfl, hni, hr2, hst⟩ | ⟨z, a, hR, rfl, hst⟩)
   ·have hia := (HSI.out _ _ hR).1
    have hN2 := hst.blk hgN HN1.out (by decide) (by decide)
    have HL1 := hide (TR.lt_of_block HN1.out)
    obtain ⟨w3, hw3⟩ : ∃ w3, w3 = w2.alloc (nvO n) := ⟨_, rfl⟩
    have hb3 : Below w2.heap.size w2 w3 := by rw [hw3]; exact (Below.refl _ w2).alloc (Nat.le_refl _) _
    have hX3 : w3.heap[w2.heap.size]? = some (nvO n) := by rw [hw3]; exact TK.at_new _ _
    have hN3 : w3.heap[N]? = some (nvO nodeZ) := by rw [hb3.block N (TR.lt_of_block hN2)]; exact hN2
    have hr3 := hr2.keep hb3
    have HNI3 := hide (hni.keep (KeepI.of_below hb3 (Nat.le_refl _)))
    have HS3 := hide ((hS1.out.trans hst).trans (Step.of_below (g := g) hb3 hr2.lt))
    have HAV := hide (advance_any hr3 hia.next)
    have HRe := hide hR
    have HX3 := hide hX3
    have HN3 := hide hN3
    have hgw3 := hr3.lt
    have hNX : N < w2.heap.size := TR.lt_of_block hN2
    have HLL : Hid (w1.heap.size ≤ w2.heap.size) := hst.size
    simp only [nvO] at hw3
    clear hN2 hni hr2 hst hR HX c2 c10 HR1 HB1 hb3 hX3 hN3 hr3 HSI hia
    go_upto_region 7 with fail
    rw [← hw3]
    obtain ⟨X, hXe⟩ : ∃ X, X = w2.heap.size := ⟨_, rfl⟩
    rw [← hXe] at HX3 HNI3 hNX HLL ⊢
    clear hw3 hXe
    go_wp2_with fail
    refine HAV.out.mono ?_
    rintro e w4 (⟨s4, hR4, rfl, hr4, hm4⟩ | ⟨z, a, hR4, rfl, hm4⟩)
    ·have hE2 : Hid (atomM d l rec s = .ok (t, s4)) := by show _ = _; rw [hE.out, HRe.out]; simp only [hR4]
     have hX4 := mv_blk hm4 HX3.out (by omega)
     have hN4 := mv_blk hm4 HN3.out (by omega)
     have hltX := TR.lt_of_block HX3.out
     have HNI4 := hide (HNI3.out.keep (KeepI.of_blocks fun k h1 h2 => hm4.block k (by omega) (by have := HL1.out; omega)))
     have HR4 := hide hr4
     have HS4 := hide (HS3.out.trans (Step.of_mv hm4 hgw3))
     have HN4 := hide hN4
     have hltX4 := TR.lt_of_block hX4
     obtain ⟨x0, x1, x2, x3, x4, x5, x6, x7⟩ := node_cells hX4
     obtain ⟨z0, z1, z2, z3, z4, z5, z6, z7⟩ := node_cells hN4
     have zf := node_free hN4
     have hXN : ¬ X = N := by omega
     have hNX2 : ¬ N = X := by omega
     clear hX4 hN4 hr4 hm4 hR4 HAV HX3 HN3 HNI3 HS3
     go_wp21
     obtain ⟨W4, hW4⟩ : ∃ W4, W4 = setNode w4 N n := ⟨_, rfl⟩
     have hN5 : W4.heap[N]? = some (nvO n) := by rw [hW4]; exact setNode_at HN4.out _
     have hm5 : Mv N w4 W4 := by rw [hW4]; exact mv_setNode (Mv.refl N w4) _
     simp only [setNode] at hW4
     rw [← hW4]
     clear hW4
     refine ret_node (N := N) Tryz.results37 rfl (TR.nv_cells hN5) (.inl ⟨_, _, _, nv2, av2, hE2.out, rfl, ?_, HR4.out.mvN hgN HN4.out (by decide) (by decide) hm5, HS4.out.mvN (by have := HNe.out; omega) hgw hm5⟩)
     have e1 := HNe.out
     have e2 := HL1.out
     have e3 := hm5.size
     exact (HNI4.out.keep (KeepI.of_blocks fun k h1 h2 => hm5.block k (by omega) (by omega))).wide (by omega) (by omega)
    ·have hE2 : Hid (atomM d l rec s = .error (z, a)) := by show _ = _; rw [hE.out, HRe.out]; simp only [hR4]
     have HS4 := hide (HS3.out.trans (Step.of_mv hm4 hgw3))
     clear hm4 hR4 HAV
     simp only [givesF]
     go_wp2
     exact ⟨rfl, .inr ⟨z, a, hE2.out, rfl, HS4.out⟩⟩
   ·have hE2 : Hid (atomM d l rec s = .error (z, a)) := by show _ = _; rw [hE.out, hR]
    have HS2 := hide (hS1.out.trans hst)
    clear hst hR HX c2 c10 HR1 HB1
    simp only [givesF]
    go_wp2
    exact ⟨rfl, .inr ⟨z, a, hE2.out, rfl, HS2.out⟩⟩
end Go.Proofs.YtaccofiegkdlgaaGreatDoor.Pa
namespace Go.Proofs.YtaccofiegkdlgaaGreatDoor.Pa
set_option maxHeartbeats 8000000
open Go.RowKit
open TR (Tr NV NCells nvV nvO NodeC KidsC)
open TK (Mv PatV)
open Br (BE PS givesF manyB fldB rngOf OR fauO)
set_option linter.unusedVariables false
set_option maxRecDepth 100000
variable {w w' : World} {g : Nat} {v : Value} {l : List Int} {d : Int} {s s' : St} {nv av : Value}
theorem reps_stop {may : Bool} {n ahead : Nat} {t : Tr} (h : s.tok.kind ≠ 6) : repsM d l may n ahead t s = .ok (t, s) := by
 cases n with
 | zero => rfl
 | succ n => unfold repsM; rw [if_neg h]
theorem reps_on {may : Bool} {n ahead : Nat} {t : Tr} (h : s.tok.kind = 6) : repsM d l may (n + 1) ahead t s = if may = false then .error (1, (s.pos : Int)) else if 3 < ahead then .error (2, (s.pos : Int)) else match advM d l s with
    | .error e => .error e
    | .ok s1 => repsM d l may n (ahead + 1) (repT t s.tok) s1 := by
 conv => lhs; unfold repsM
 rw [if_pos h]
 rfl
theorem repeated_raw (n : NV) (k : TK.Tok) (w : World) : Calls Tryz.prog 38 #[nvV n, TK.tokV k] w fun e w' => ∃ R, e = .returned (nvV ⟨12, none, 0, 0, some ⟨R, 0, none⟩, 1, 1, 0, k.least, k.most, k.way, false⟩) ∧ w'.heap[R]? = some (nvO n) ∧ w.heap.size ≤ R ∧ Below w.heap.size w w' := by
 simp only [TK.tokV]
 go_enter Tryz.func38, Tryz.ntmps38
 go_wp21
 obtain ⟨W4, hW4⟩ : ∃ W4, W4 = (((w.alloc (nvO n)).alloc (TK.tokO k)).alloc (nvO ⟨12, none, 0, 0, some ⟨w.heap.size + 1 + 1 + 1, 0, none⟩, 1, 1, 0, k.least, k.most, k.way, false⟩)).alloc (nvO n) := ⟨_, rfl⟩
 have hN4 : W4.heap[w.heap.size + 1 + 1]? = some (nvO ⟨12, none, 0, 0, some ⟨w.heap.size + 1 + 1 + 1, 0, none⟩, 1, 1, 0, k.least, k.most, k.way, false⟩) := by rw [hW4]; exact TK.at_old (TK.at_new' _ _ (by simp))
 have hR4 : W4.heap[w.heap.size + 1 + 1 + 1]? = some (nvO n) := by rw [hW4]; exact TK.at_new' _ _ (by simp)
 have hb4 : Below w.heap.size w W4 := by rw [hW4]; exact ((((Below.refl _ w).alloc (Nat.le_refl _) _).alloc (by simp) _).alloc (by simp; omega) _).alloc (by simp; omega) _
 simp only [nvO, TK.tokO] at hW4
 rw [← hW4]
 clear hW4
 exact ret_node (N := w.heap.size + 1 + 1) Tryz.results38 rfl (TR.nv_cells hN4) ⟨_, rfl, hR4, by omega, hb4⟩
def NodeX (w : World) (lo hi X : Nat) (n : NV) (t : Tr) : Prop := ∀ w' : World, (∀ k, lo ≤ k → k < hi → k ≠ X → ∀ cs e, (e = 28 ∨ e = 66) → w.heap[k]? = some (.cells cs e (0, 0)) → w'.heap[k]? = some (.cells cs e (0, 0))) → NodeI w' lo hi n t
theorem NodeX.of {w : World} {lo hi : Nat} {n : NV} {t : Tr} (h : NodeI w lo hi n t) : NodeX w lo hi hi n t := fun w' hk => h.keep fun k h1 h2 cs e he hc => hk k h1 h2 (by omega) cs e he hc
theorem NodeX.step {w w1 : World} {lo hi X : Nat} {n : NV} {t : Tr} (h : NodeX w lo hi X n t) (hk : ∀ k, lo ≤ k → k < hi → k ≠ X → ∀ cs e, (e = 28 ∨ e = 66) → w.heap[k]? = some (.cells cs e (0, 0)) → w1.heap[k]? = some (.cells cs e (0, 0))) : NodeX w1 lo hi X n t := fun w' hk' => h w' fun k h1 h2 h3 cs e he hc => hk' k h1 h2 h3 cs e he (hk k h1 h2 h3 cs e he hc)
theorem NodeX.rep {w w1 : World} {lo hi X R : Nat} {n : NV} {t : Tr} {k : TK.Tok} (h : NodeX w lo hi X n t) (hle : lo ≤ hi) (hhi : hi ≤ w.heap.size) (hX : X < w.heap.size) (hb : Below w.heap.size w w1) (hR : w1.heap[R]? = some (nvO n)) (hRl : w.heap.size ≤ R) : NodeX w1 lo w1.heap.size X ⟨12, none, 0, 0, some ⟨R, 0, none⟩, 1, 1, 0, k.least, k.most, k.way, false⟩ (repT t k) := fun w' hk => by
 have hlt := TR.lt_of_block hR
 have hn := h w' fun j h1 h2 h3 cs e he hc => hk j h1 (by have := hb.size; omega) h3 cs e he (by rw [hb.block j (by omega)]; exact hc)
 exact (Pieces.single hn hle (R := R) (by omega) (hk R (by omega) hlt (by omega) _ _ (.inl rfl) hR) (lo' := lo) (hi' := w1.heap.size) (Nat.le_refl _) hlt).node 12 0 k.least k.most k.way false (by simp)
theorem piece_fn {rec : Rd} (h : RB w g v l d s nv av) (hi : Inv' l s) (hp : s.pos < l.length) (hrec : s.deep ≠ 20 → RecOk g v l d (s.deep + 1) rec) (hrg : RecG l (s.deep + 1) rec) : Calls Tryz.prog 33 #[.pointer (some ⟨g, 0, none⟩)] w fun e w' => OutN (pieceM d l rec s) g v l d w e w' := by
 have hgw := h.lt
 have hpe := h.pe
 have HPE := hide hpe
 obtain ⟨w1, hw1⟩ : ∃ w1, w1 = w.alloc (nvO nodeZ) := ⟨_, rfl⟩
 have hb1 : Below w.heap.size w w1 := by rw [hw1]; exact (Below.refl _ w).alloc (Nat.le_refl _) _
 have hN1 : w1.heap[w.heap.size]? = some (nvO nodeZ) := by rw [hw1]; exact TK.at_new _ _
 have hr1 := h.keep hb1
 have c2 := hr1.tk.1
 simp only [nvO, nodeZ] at hw1
 have HN1 := hide hN1
 have hS1 : Hid (Step g w w1) := Step.of_below hb1 hgw
 obtain ⟨N, hNe⟩ : ∃ N, N = w.heap.size := ⟨_, rfl⟩
 have HNe := hide hNe
 have hgN : g < N := by omega
 have HX := hide (atom_fn hr1 hi hp hrec hrg)
 have HAI := hide (fun t s' => atom_inv (t := t) (s' := s') hpe hrg hi hp)
 obtain ⟨may, hmay⟩ : ∃ may, may = (s.tok.kind != 11) := ⟨_, rfl⟩
 have hmay2 : (s.tok.kind != 11) = may := hmay.symm
 have HE : Hid (pieceM d l rec s = match atomM d l rec s with
  | .error e => .error e
  | .ok (t, s1) => repsM d l may 6 0 t s1) := by
  show _ = _
  unfold pieceM
  rw [show decide (s.tok.kind ≠ 11) = may from by rw [hmay]; by_cases hk : s.tok.kind = 11 <;> simp [hk]]
  rfl
 clear h hr1 hb1 hN1 hi hrec hrg hmay hpe
 go_enter Tryz.func33, Tryz.ntmps33
 go_upto_region 1 with fail
 rw [← hw1]
 rw [← hNe] at HN1 ⊢
 clear hw1 hNe
 go_wp2_with fail
 refine HX.out.mono ?_
 rintro e w2 (⟨t, s2, n, nv2, av2, hR, rfl, hni, hr2, hst⟩ | ⟨z, a, hR, rfl, hst⟩)
 case inr =>
  have hE2 : Hid (pieceM d l rec s = .error (z, a)) := by show _ = _; rw [HE.out, hR]
  have HS2 := hide (hS1.out.trans hst)
  clear hst hR HX c2
  simp only [givesF]
  go_wp2
  exact ⟨rfl, .inr ⟨z, a, hE2.out, rfl, HS2.out⟩⟩
 obtain ⟨hgood, hlt⟩ := HAI.out _ _ hR
 have hE2 : Hid (pieceM d l rec s = repsM d l may 6 0 t s2) := by show _ = _; rw [HE.out, hR]
 have HL1 := hide (TR.lt_of_block HN1.out)
 have hN2 := hst.blk hgN HN1.out (by decide) (by decide)
 obtain ⟨w3, hw3⟩ : ∃ w3, w3 = w2.alloc (nvO n) := ⟨_, rfl⟩
 obtain ⟨X, hXe⟩ : ∃ X, X = w2.heap.size := ⟨_, rfl⟩
 have hb3 : Below w2.heap.size w2 w3 := by rw [hw3]; exact (Below.refl _ w2).alloc (Nat.le_refl _) _
 have hX3 : w3.heap[X]? = some (nvO n) := by rw [hw3, hXe]; exact TK.at_new _ _
 have hN3 : w3.heap[N]? = some (nvO nodeZ) := by rw [hb3.block N (TR.lt_of_block hN2)]; exact hN2
 have hNX : N < X := by rw [hXe]; exact TR.lt_of_block hN2
 have HNX := hide hNX
 have hr3 := hr2.keep hb3
 have hni3 := hni.keep (KeepI.of_below hb3 (Nat.le_refl _))
 have hS3 := (hS1.out.trans hst).trans (Step.of_below (g := g) hb3 hr2.lt)
 obtain ⟨A, hAe⟩ : ∃ A, A = w1.heap.size := ⟨_, rfl⟩
 have hAX : A ≤ X := by rw [hAe, hXe]; exact hst.size
 have hNA : N < A := by rw [hAe]; exact HL1.out
 rw [← hXe, ← hAe] at hni3
 have HG0 := hide hgood
 have HL0 := hide hlt
 have HNI3 := hide hni3
 have HX3 := hide hX3
 have HN3 := hide hN3
 have HR3 := hide hr3
 have HS3 := hide hS3
 have HX3l : Hid (X < w3.heap.size) := TR.lt_of_block hX3
 have HNA := hide hNA
 have HAX := hide hAX
 have hgX : g < X := by omega
 simp only [nvO] at hw3
 clear hR hgood hlt hN2 hb3 hX3 hN3 hr3 hni3 hS3 hni hr2 hst HX HAI HN1 hS1 HE c2
 go_upto_region 4 with fail
 rw [← hw3, ← hXe]
 clear hw3 hXe hAe
 go_loopw [5] (fun u wr => ∃ (ah : Nat) (t1 : Tr) (s1 : St) (n1 : NV) (nv1 av1 : Value) (hi1 : Nat), u = .int .i64 ah ∧ ah ≤ 4 ∧ pieceM d l rec s = repsM d l may (6 - ah) ah t1 s1 ∧ Good l s t1 s1 ∧ s.pos < s1.pos ∧ wr.heap[X]? = some (nvO n1) ∧ wr.heap[N]? = some (nvO nodeZ) ∧ RB wr g v l d s1 nv1 av1 ∧ Step g w wr ∧ A ≤ hi1 ∧ hi1 ≤ wr.heap.size ∧ NodeX wr A hi1 X n1 t1) (fun u _ => 5 - (intOf u).toNat)
 case atStart => exact ⟨0, t, s2, n, nv2, av2, X, rfl, by omega, hE2.out, HG0.out, HL0.out, HX3.out, HN3.out, HR3.out, HS3.out, HAX.out, by have := HX3l.out; omega, NodeX.of HNI3.out⟩
 case round =>
  obtain ⟨ah, t1, s1, n1, nv1, av1, hi1, rfl, hah, hEq, hgd, hlt1, hXr, hNr, hrr, hsr, hh1, hh2, hnx⟩ := hrel
  obtain ⟨wq, hwq⟩ : ∃ wq, wq = wr := ⟨_, rfl⟩
  subst hwq
  have c2 := hrr.tk.1
  have c10 := hrr.rd.2.2.1
  obtain ⟨x0, x1, x2, x3, x4, x5, x6, x7⟩ := node_cells hXr
  have HEq := hide hEq
  have HGd := hide hgd
  have HLt := hide hlt1
  clear hlt1
  have HXr := hide hXr
  have HNr := hide hNr
  have HRr := hide hrr
  have HSr := hide hsr
  have HH1 := hide hh1
  have HH2 := hide hh2
  have HNx := hide hnx
  by_cases k6 : s1.tok.kind = 6
  ·rw [k6] at c2
   have hst := reps_on (d := d) (l := l) (may := may) (n := 5 - ah) (ahead := ah) (t := t1) k6
   rw [show 5 - ah + 1 = 6 - ah from by omega] at hst
   have HStp := hide (HEq.out.trans hst)
   clear hEq hgd hNr hsr hh1 hh2 hnx hst k6
   cases hm : may with
   | false =>
    rw [hm] at hmay2 HStp
    have hE3 : Hid (pieceM d l rec s = .error (1, (s1.pos : Int))) := by show _ = _; rw [HStp.out, if_pos rfl]
    have HG := hide (giveUp_any 1 (s1.pos : Int) wq)
    simp only [givesF] at HG
    clear hXr hrr
    try simp only [hm]
    clear hm
    go_wp2_with fail
    refine HG.out.mono ?_
    rintro e w4 ⟨rfl, rfl⟩
    go_wp2
    exact ⟨rfl, .inr ⟨1, _, hE3.out, rfl, HSr.out⟩⟩
   | true =>
    have hmq : Hid (may = true) := hm
    rw [hm] at hmay2 HStp
    try simp only [hm]
    by_cases hah3 : 3 < ah
    ·have hE3 : Hid (pieceM d l rec s = .error (2, (s1.pos : Int))) := by show _ = _; rw [HStp.out, if_neg (by simp), if_pos hah3]
     have HG := hide (giveUp_any 2 (s1.pos : Int) wq)
     simp only [givesF] at HG
     have q3 : (3 : Int) < (ah : Int) := by omega
     clear hXr hrr hm
     go_wp2_with fail
     refine HG.out.mono ?_
     rintro e w4 ⟨rfl, rfl⟩
     go_wp2
     exact ⟨rfl, .inr ⟨2, _, hE3.out, rfl, HSr.out⟩⟩
    ·have q3 : ¬ (3 : Int) < (ah : Int) := by omega
     have HStp2 : Hid (pieceM d l rec s = match advM d l s1 with
      | .error e => .error e
      | .ok s4 => repsM d l true (5 - ah) (ah + 1) (repT t1 s1.tok) s4) := by show _ = _; rw [HStp.out, if_neg (by simp), if_neg hah3]
     obtain ⟨-, c3, c4, c5, c6, c7, c8, c9⟩ := hrr.tk
     have HRP : Hid (∀ W, Below wq.heap.size wq W → Calls Tryz.prog 38 #[nvV n1, TK.tokV s1.tok] W fun e w' => ∃ R, e = .returned (nvV ⟨12, none, 0, 0, some ⟨R, 0, none⟩, 1, 1, 0, s1.tok.least, s1.tok.most, s1.tok.way, false⟩) ∧ w'.heap[R]? = some (nvO n1) ∧ wq.heap.size ≤ R ∧ Below wq.heap.size wq w') := fun W hb => (repeated_raw n1 s1.tok W).mono fun e w' ⟨R, h1, h2, h3, h4⟩ => ⟨R, h1, h2, Nat.le_trans hb.size h3, hb.trans (h4.mono hb.size)⟩
     simp only [TK.tokV] at HRP
     have hkk : ((6 : Int)) = s1.tok.kind := by have := HRr.out.tk.1; rw [c2] at this; injection this with this; injection this
     rw [← hkk] at HRP
     have hXl := TR.lt_of_block hXr
     have xf := node_free hXr
     have HDr : Hid (Below wq.heap.size wq wq.drew) := drew_below wq
     clear hXr hrr hm hah3 hkk HStp
     go_upto_region 10 with fail
     go_still_tail 5, (by kernel_rfl)
     go_wp2_with fail
     refine (HRP.out _ HDr.out).mono ?_
     rintro e w4 ⟨R, rfl, hRow, hRl, hb4⟩
     have hX4 : w4.heap[X]? = some (nvO n1) := by rw [hb4.block X hXl]; exact HXr.out
     have hN4 : w4.heap[N]? = some (nvO nodeZ) := by rw [hb4.block N (by omega)]; exact HNr.out
     have hr4 := HRr.out.keep hb4
     have hx4 := HNx.out.rep (k := s1.tok) HH1.out HH2.out hXl hb4 hRow hRl
     obtain ⟨x0, x1, x2, x3, x4, x5, x6, x7⟩ := node_cells hX4
     have xf := node_free hX4
     obtain ⟨w5, hw5⟩ : ∃ w5, w5 = setNode w4 X ⟨12, none, 0, 0, some ⟨R, 0, none⟩, 1, 1, 0, s1.tok.least, s1.tok.most, s1.tok.way, false⟩ := ⟨_, rfl⟩
     have hm5 : Mv X w4 w5 := by rw [hw5]; exact mv_setNode (Mv.refl X w4) _
     have HX5 : Hid (w5.heap[X]? = some (nvO ⟨12, none, 0, 0, some ⟨R, 0, none⟩, 1, 1, 0, s1.tok.least, s1.tok.most, s1.tok.way, false⟩)) := by show _ = _; rw [hw5]; exact setNode_at hX4 _
     have HN5 : Hid (w5.heap[N]? = some (nvO nodeZ)) := mv_blk hm5 hN4 (by omega)
     have HR5 := hide (hr4.mvN hgX hX4 (by decide) (by decide) hm5)
     have HS5 : Hid (Step g w w5) := (HSr.out.trans (Step.of_below (g := g) hb4 HRr.out.lt)).mvN (by have := HNe.out; omega) hgw hm5
     have HX5n := hide (hx4.step (w1 := w5) fun k h1 h2 h3 cs e he hc => by rw [hm5.block k h2 h3]; exact hc)
     have HSz5 : Hid (w4.heap.size ≤ w5.heap.size ∧ A ≤ w4.heap.size) := ⟨hm5.size, by have := hb4.size; have := HH1.out; have := HH2.out; omega⟩
     have HAV := hide (advance_any HR5.out HGd.out.inv.toA.next)
     have HAI := hide (fun s4 => adv_inv (d := d) (s' := s4) HPE.out HGd.out.inv.toA)
     have HXl := hide hXl
     simp only [setNode] at hw5
     clear hX4 hN4 hr4 hx4 hb4 hRow hRl hm5 HRP HXr HNr HRr HSr HNx c2 c3 c4 c5 c6 c7 c8 c9 c10
     go_upto_region 11 with fail
     rw [← hw5]
     clear hw5 x0 x1 x2 x3 x4 x5 x6 x7 xf
     go_wp2_with fail
     refine HAV.out.mono ?_
     rintro e w6 (⟨s4, hR4, rfl, hr6, hm6⟩ | ⟨z, a, hR4, rfl, hm6⟩)
     ·obtain ⟨i4, p4, f4, d4, -⟩ := HAI.out s4 hR4
      have HE4 : Hid (pieceM d l rec s = repsM d l may (6 - (ah + 1)) (ah + 1) (repT t1 s1.tok) s4) := by show _ = _; rw [HStp2.out, hR4]; simp only; rw [show 6 - (ah + 1) = 5 - ah from by omega, hmq.out]
      have HG4 : Hid (Good l s (repT t1 s1.tok) s4) := by
       have g1 := HGd.out
       have g2 := g1.pos
       have g3 := g1.inv.pn
       have g4 := g1.deep
       have g5 := HLt.out
       refine ⟨i4, by omega, by omega, ?_, fun h9 => absurd (show (12 : Int) = 9 from h9) (by decide)⟩
       show [t1].length ≤ _
       simp only [List.length_singleton]
       omega
      have HLt4 : Hid (s.pos < s4.pos) := by have g3 := HGd.out.inv.pn; have g5 := HLt.out; show _ < _; omega
      have hgw5 := HR5.out.lt
      have HX6 : Hid (w6.heap[X]? = some (nvO ⟨12, none, 0, 0, some ⟨R, 0, none⟩, 1, 1, 0, s1.tok.least, s1.tok.most, s1.tok.way, false⟩)) := mv_blk hm6 HX5.out (by omega)
      have HN6 : Hid (w6.heap[N]? = some (nvO nodeZ)) := mv_blk hm6 HN5.out (by omega)
      have HR6 := hide hr6
      have HS6 := hide (HS5.out.trans (Step.of_mv hm6 hgw5))
      have HNx6 := hide (HX5n.out.step (w1 := w6) fun k h1 h2 h3 cs e he hc => by rw [hm6.block k (TR.lt_of_block hc) (by omega)]; exact hc)
      have HSz6 : Hid (w4.heap.size ≤ w6.heap.size) := Nat.le_trans HSz5.out.1 hm6.size
      have haw : IntKind.i64.wrap ((ah : Int) + 1) = (ah : Int) + 1 := by rw [IntKind.wrap_i64]; omega
      clear hr6 hm6 hR4 HAV HAI i4 p4 f4 d4
      go_wp2
      go_roundw
      case rel => exact ⟨ah + 1, _, s4, _, nv1, av1, w4.heap.size, by go_num, by omega, (by rw [← hmq.out]; exact HE4.out), HG4.out, HLt4.out, HX6.out, HN6.out, HR6.out, HS6.out, HSz5.out.2, HSz6.out, HNx6.out⟩
      case measure => simp [intOf]; omega
     ·have hE3 : Hid (pieceM d l rec s = .error (z, a)) := by show _ = _; rw [HStp2.out, hR4]
      have HS6 := hide (HS5.out.trans (Step.of_mv hm6 HR5.out.lt))
      clear hm6 hR4 HAV HAI
      simp only [givesF]
      go_wp2
      exact ⟨rfl, .inr ⟨z, a, hE3.out, rfl, HS6.out⟩⟩
  ·have hE3 : Hid (pieceM d l rec s = .ok (t1, s1)) := by show _ = _; rw [HEq.out, reps_stop k6]
   have q6 : (s1.tok.kind == 6) = false := by simpa using k6
   obtain ⟨z0, z1, z2, z3, z4, z5, z6, z7⟩ := node_cells hNr
   have zf := node_free hNr
   have hXN : ¬ X = N := by omega
   have hNX2 : ¬ N = X := by omega
   clear hEq hgd hXr hNr hrr hsr hh1 hh2 hnx k6
   go_wp21
   obtain ⟨W4, hW4⟩ : ∃ W4, W4 = setNode wq N n1 := ⟨_, rfl⟩
   have hN4 : W4.heap[N]? = some (nvO n1) := by rw [hW4]; exact setNode_at HNr.out _
   have hm4 : Mv N wq W4 := by rw [hW4]; exact mv_setNode (Mv.refl N wq) _
   simp only [setNode] at hW4
   rw [← hW4]
   clear hW4
   refine ret_node (N := N) Tryz.results33 rfl (TR.nv_cells hN4) (.inl ⟨_, _, _, nv1, av1, hE3.out, rfl, ?_, HRr.out.mvN hgN HNr.out (by decide) (by decide) hm4, HSr.out.mvN (by have := HNe.out; omega) hgw hm4⟩)
   have e1 := HNe.out
   have e2 := HNA.out
   have e3 := hm4.size
   have e4 := HH2.out
   exact (HNx.out W4 fun k h1 h2 h3 cs e he hc => by rw [hm4.block k (TR.lt_of_block hc) (by omega)]; exact hc).wide (by omega) (by omega)
end Go.Proofs.YtaccofiegkdlgaaGreatDoor.Pa
