import Derived.Test.YtaccofiegkdlgaaGreatDoorMM
namespace Go.Proofs.YtaccofiegkdlgaaGreatDoor.Pa
set_option maxHeartbeats 8000000
open Go.RowKit
open TR (Tr NV NCells nvV nvO NodeC KidsC)
open TK (Mv PatV)
open Br (BE PS givesF manyB fldB rngOf OR fauO)
set_option linter.unusedVariables false
set_option maxRecDepth 100000
variable {w w' : World} {g : Nat} {v : Value} {l : List Int} {d : Int} {s s' : St} {nv av : Value}
theorem Pieces.snoc {W W1 W2 : World} {lo : Nat} {kv v' : Value} {ps : List Pc} {n : NV} {t : Tr} {a b : Nat} (hp : Pieces W lo a kv ps) (hlo : lo ≤ a) (hab : a ≤ b) (hb : b ≤ W1.heap.size) (hk : KeepI lo a W W1) (hn : NodeI W1 a b n t) (hg : W1.grownBy W2 kv.ownBlock) (ho : W2.ownsRow lo 28 8 v' (ps.length + 1) (cellsP ps ++ nvL n)) (hat : v'.ownBlock = kv.ownBlock ∨ ∃ k, v'.ownBlock = some k ∧ b ≤ k) : Pieces W2 lo W2.heap.size v' (ps ++ [⟨n, t, a, b⟩]) := by
 have hrow := hp.row
 have hkb : ∀ k, kv.ownBlock = some k → k < a := fun k hk => (hrow.top k hk).1
 have hsz := hg.size
 have hbl : ∀ k, k < W1.heap.size → kv.ownBlock ≠ some k → W2.heap[k]? = W1.heap[k]? := fun k h1 h2 => hg.block k h1 (fun e => h2 e.symm)
 refine ⟨⟨?_, fun k hk' => ?_, fun p hp' => ?_, ?_⟩, fun p hp' => ?_⟩
 ·rw [cellsP_append, cellsP_one, List.length_append]
  exact ho
 ·have hlt := (ho.lt k hk').2
  refine ⟨hlt, fun p hp' => ?_⟩
  rcases hat with e | ⟨k', e, hk2⟩
  ·rw [e] at hk'
   rcases List.mem_append.1 hp' with h1 | h1
   ·exact (hrow.top k hk').2 p h1
   ·rw [List.mem_singleton] at h1
    subst h1
    exact .inl (hkb k hk')
  ·rw [e] at hk'
   cases hk'
   rcases List.mem_append.1 hp' with h1 | h1
   ·exact .inr (by have := (hrow.rng p h1).2.2; omega)
   ·rw [List.mem_singleton] at h1
    subst h1
    exact .inr hk2
 ·rcases List.mem_append.1 hp' with h1 | h1
  ·have := hrow.rng p h1
   exact ⟨this.1, this.2.1, by omega⟩
  ·rw [List.mem_singleton] at h1
   subst h1
   exact ⟨hlo, hab, by show b ≤ _; omega⟩
 ·rw [List.pairwise_append]
  refine ⟨hrow.par, List.pairwise_singleton _ _, fun x hx y hy => ?_⟩
  rw [List.mem_singleton] at hy
  subst hy
  exact (hrow.rng x hx).2.2
 ·rcases List.mem_append.1 hp' with h1 | h1
  ·have hr := hrow.rng p h1
   refine ((hp.all p h1).keep (hk.sub hr.1 hr.2.2)).keep (KeepI.of_blocks fun k h2 h3 => hbl k (by omega) fun e => ?_)
   rcases (hrow.top k e).2 p h1 with h4 | h4 <;> omega
  ·rw [List.mem_singleton] at h1
   subst h1
   refine hn.keep (KeepI.of_blocks fun k h2 h3 => hbl k (by have : k < b := h3; omega) fun e => ?_)
   have := hkb k e
   have : a ≤ k := h2
   omega
theorem own_step {W W1 : World} {B k n : Nat} {u : Value} {xs : List Value} (h : W.ownsRow B 28 k u n xs) (hg : g < B) (hs : Step g W W1) : W1.ownsRow B 28 k u n xs := by
 refine ⟨h.1, ?_⟩
 rcases h.2 with h2 | ⟨b, cap, cur, rfl, h3, hb, h4⟩
 ·exact .inl h2
 ·exact .inr ⟨b, cap, cur, rfl, h3, hs.blk (by omega) hb (by decide) (by decide), h4⟩
theorem pieces_step {rec : Rd} {n : Nat} {ps : List Tr} (he : endM l s = false) : piecesM d l rec (n + 1) ps s = match pieceM d l rec s with
   | .error e => .error e
   | .ok (t, s1) => piecesM d l rec n (ps ++ [t]) s1 := by
 conv => lhs; unfold piecesM
 rw [if_neg (by rw [he]; simp)]
 rfl
theorem pieces_stop {rec : Rd} {n : Nat} {ps : List Tr} (he : endM l s = true) : piecesM d l rec n ps s = .ok (ps, s) := by
 cases n with
 | zero => rfl
 | succ n => unfold piecesM; rw [if_pos he]
theorem RB.grown {W W1 : World} {B k n : Nat} {u : Value} {xs : List Value} (h : RB W g v l d s nv av) (hgB : g < B) (ho : W.ownsRow B 28 k u n xs) (hg : W.grownBy W1 u.ownBlock) : RB W1 g v l d s nv av := by
 rcases ho.2 with ⟨rfl, _⟩ | ⟨b, cap, cur, rfl, h3, hb, _⟩
 ·exact h.keep ⟨hg.os, hg.tape, hg.output, hg.size, fun k hk => hg.block k hk (by simp [Value.ownBlock])⟩
 ·exact h.mvN (N := b) (by omega) hb (by decide) (by decide) ⟨hg.os, hg.tape, hg.output, hg.size, fun k hk hne => hg.block k hk (fun e => hne (Option.some.inj e))⟩
theorem Step.grown {w0 W W1 : World} {B k n : Nat} {u : Value} {xs : List Value} (h : Step g w0 W) (hB : w0.heap.size ≤ B) (hgw : g < w0.heap.size) (ho : W.ownsRow B 28 k u n xs) (hg : W.grownBy W1 u.ownBlock) : Step g w0 W1 := by
 rcases ho.2 with ⟨rfl, _⟩ | ⟨b, cap, cur, rfl, h3, hb, _⟩
 ·refine h.trans (Step.of_below ⟨hg.os, hg.tape, hg.output, hg.size, fun k hk => hg.block k hk (by simp [Value.ownBlock])⟩ (by have := h.size; omega))
 ·exact h.mvN (N := b) (by omega) hgw ⟨hg.os, hg.tape, hg.output, hg.size, fun k hk hne => hg.block k hk (fun e => hne (Option.some.inj e))⟩
theorem branch_fn {rec : Rd} (h : RB w g v l d s nv av) (hi : Inv' l s) (hrec : s.deep ≠ 20 → RecOk g v l d (s.deep + 1) rec) (hrg : RecG l (s.deep + 1) rec) : Calls Tryz.prog 28 #[.pointer (some ⟨g, 0, none⟩)] w fun e w' => OutN (branchM d l rec s) g v l d w e w' := by
 have hgw := h.lt
 have hpe := h.pe
 have hsm := h.small
 obtain ⟨i0, hi0, hz0, hz1, hz2⟩ := info_parts infoNode
 obtain ⟨w1, hw1⟩ : ∃ w1, w1 = w.alloc (nvO nodeZ) := ⟨_, rfl⟩
 have hb1 : Below w.heap.size w w1 := by rw [hw1]; exact (Below.refl _ w).alloc (Nat.le_refl _) _
 have hN1 : w1.heap[w.heap.size]? = some (nvO nodeZ) := by rw [hw1]; exact TK.at_new _ _
 have HR1 := hide (h.keep hb1)
 have HS1 : Hid (Step g w w1) := Step.of_below hb1 hgw
 have HN1 := hide hN1
 obtain ⟨A, hAe⟩ : ∃ A, A = w1.heap.size := ⟨_, rfl⟩
 obtain ⟨N, hNe⟩ : ∃ N, N = w.heap.size := ⟨_, rfl⟩
 have HNe := hide hNe
 have hNA : N < A := by rw [hAe, hNe]; exact TR.lt_of_block hN1
 have hgN : g < N := by omega
 have HAe := hide hAe
 have HI := hide hi
 have HREC := hide hrec
 have HRG := hide hrg
 have HPE := hide hpe
 simp only [nvO, nodeZ] at hw1
 have HE : Hid (branchM d l rec s = match piecesM d l rec (l.length + 1) [] s with
  | .error e => .error e
  | .ok (ps, s1) => .ok (rowT ps, s1)) := by show _ = _; unfold branchM; rfl
 clear h hb1 hN1 hi hrec hrg hpe
 go_enter Tryz.func28, Tryz.ntmps28
 go_upto_region 2 with fail
 rw [← hw1]
 rw [← hNe] at HN1 ⊢
 clear hw1 hNe hAe
 go_loopw [3] (fun kv wr => ∃ (ps : List Pc) (s1 : St) (nv1 av1 : Value) (m a : Nat), piecesM d l rec (l.length + 1) [] s = piecesM d l rec m (ps.map Pc.tr) s1 ∧ l.length + 1 - s1.pos ≤ m ∧ GoodL l s (ps.map Pc.tr) s1 ∧ A ≤ a ∧ a ≤ wr.heap.size ∧ Pieces wr A a kv ps ∧ RB wr g v l d s1 nv1 av1 ∧ Step g w wr ∧ wr.heap[N]? = some (nvO nodeZ) ∧ wr.cell? ⟨g, 10, none⟩ = some (.int .i64 (s1.pos : Nat))) (fun _ wr => l.length - (match wr.cell? ⟨g, 10, none⟩ with | some u => (intOf u).toNat | none => 0))
 case atStart => exact ⟨[], s, nv, av, l.length + 1, A, rfl, by omega, goodL_nil HI.out, Nat.le_refl _, by rw [HAe.out]; exact Nat.le_refl _, Pieces.nil _ _ _, HR1.out, HS1.out, HN1.out, HR1.out.rd.2.2.1⟩
 case round =>
  obtain ⟨ps, s1, nv1, av1, m, a, hEq, hm, hgd, hAa, haw, hps, hrr, hsr, hNr, hc10⟩ := hrel
  obtain ⟨wq, hwq⟩ : ∃ wq, wq = wr := ⟨_, rfl⟩
  subst hwq
  have HEq := hide hEq
  have HM := hide hm
  have HGd := hide hgd
  have HAa := hide hAa
  have HAw := hide haw
  have HPs := hide hps
  have HRr := hide hrr
  have HSr := hide hsr
  have HNr := hide hNr
  have HC10 := hide hc10
  have hplen : ps.length ≤ 300 := by have h1 := hgd.len; have h2 := hgd.inv.inv.pos; rw [List.length_map] at h1; omega
  have HBE := hide (isBranchEnd_any hrr)
  obtain ⟨ko, kc, hkv⟩ := own_shape hps.row.own
  obtain ⟨kn, hkn⟩ : ∃ kn, kn = ps.length := ⟨_, rfl⟩
  rw [← hkn] at hkv hplen
  have HKn := hide hkn
  obtain ⟨en, hen⟩ : ∃ en, en = endM l s1 := ⟨_, rfl⟩
  rw [show (decide (s1.pos = l.length) || decide (s1.tok.kind = 9) || decide (s1.tok.kind = 8)) = en from hen.symm] at HBE
  have HEn := hide hen
  rw [hkv] at HPs ⊢
  clear hEq hm hgd hAa haw hps hrr hsr hNr hkv hkn hen hc10
  cases en with
  | false =>
   go_wp2_with fail
   refine HBE.out.mono ?_
   rintro e wd ⟨rfl, q, rfl⟩
   have hrd := HRr.out.drewN q
   have hbd : Below wq.heap.size wq (wq.drewN q) := ⟨rfl, rfl, rfl, Nat.le_refl _, fun _ _ => rfl⟩
   have hlt1 : s1.pos < l.length := by
    have h1 := HGd.out.inv.inv.pos
    have h2 : s1.pos ≠ l.length := fun e => by have h3 := HEn.out; unfold endM at h3; rw [show decide (s1.pos = l.length) = true by simp [e]] at h3; simp at h3
    omega
   have HX := hide (piece_fn hrd HGd.out.inv hlt1 (by rw [HGd.out.deep]; exact HREC.out) (by rw [HGd.out.deep]; exact HRG.out))
   have HPI := hide (fun t s' => piece_inv (t := t) (s' := s') HPE.out (s := s1) (by rw [HGd.out.deep]; exact HRG.out) HGd.out.inv hlt1)
   obtain ⟨wd, hwd⟩ : ∃ wd, wd = wq.drewN q := ⟨_, rfl⟩
   have HSzd : Hid (wd.heap.size = wq.heap.size) := by show _ = _; rw [hwd]; rfl
   rw [← hwd] at HX hrd hbd ⊢
   have HRd := hide hrd
   have HBd := hide hbd
   have HLt1 := hide hlt1
   clear hwd hrd hbd HBE hlt1
   go_wp2_with fail
   refine HX.out.mono ?_
   rintro e w3 (⟨t, s3, n, nv3, av3, hR, rfl, hni, hr3, hst⟩ | ⟨z, az, hR, rfl, hst⟩)
   ·obtain ⟨hgo, hlt3⟩ := HPI.out _ _ hR
    obtain ⟨m', hm'⟩ : ∃ m', m = m' + 1 := ⟨m - 1, by have := HM.out; have := HLt1.out; omega⟩
    have HEq3 : Hid (piecesM d l rec (l.length + 1) [] s = piecesM d l rec m' (ps.map Pc.tr ++ [t]) s3) := by
     show _ = _
     rw [HEq.out, hm', pieces_step HEn.out.symm, hR]
    have HGd3 := hide (HGd.out.snoc hgo hlt3)
    have HM3 : Hid (l.length + 1 - s3.pos ≤ m') := by have := HM.out; show _ ≤ _; omega
    have hs0 : Step g wq w3 := (Step.of_below (g := g) HBd.out HRr.out.lt).trans hst
    have hsz : wq.heap.size ≤ wd.heap.size := HBd.out.size
    have hown := own_step (g := g) HPs.out.row.own (by have := HNe.out; omega) hs0
    have hN3 := hs0.blk hgN HNr.out (by decide) (by decide)
    have hAw3 : A ≤ w3.heap.size := by have := hs0.size; have := HAa.out; have := HAw.out; omega
    have HOw : Hid (w3.ownsRow A 28 8 (.slice ko kn kc) ps.length (cellsP ps)) := hown
    rw [← HKn.out] at HOw
    have HKI' : Hid (KeepI A wd.heap.size wq w3) := hs0.keepI (by have := HNe.out; omega) (by rw [HSzd.out]; exact Nat.le_refl _)
    have HNI := hide hni
    have HR3 := hide hr3
    have HS3 := hide (HSr.out.trans hs0)
    have HN3 := hide hN3
    have HAd : Hid (a ≤ wd.heap.size) := Nat.le_trans HAw.out hsz
    have HSz3 : Hid (wd.heap.size ≤ w3.heap.size) := hst.size
    have HLt3 := hide hlt3
    clear hR hgo hs0 hsz hown hN3 hni hr3 hst HX HPI HBd HRd hm' hlt3
    go_wp2_with (at_builtin; refine wpList_append_own_at _ rfl _ _ 26 rfl A 28 i0 (.agg #[.int .i64 0, .slice none 0 0, .slice none 0 0, .int .i64 0, .int .i64 0, .int .i64 0, .int .i64 0, .bool false]) 8 96 Tryz.underlying26 hi0 hz0 hz1 hz2 rfl (by decide) _ _ _ rfl (HOw.out.alloc _) ⟨w3.heap.size, 0, none⟩ 1 1 (nvL n) rfl rfl (cells_nodeP w3 n) (nvL_one n) (by unfold maxLen; omega) (by omega) (by simp; omega) ?_)
    intro v' w4 hown' hgrow _ hat
    have hb3 : Below w3.heap.size w3 (w3.alloc (nvO n)) := (Below.refl _ w3).alloc (Nat.le_refl _) _
    have hni4 := HNI.out.keep (KeepI.of_below hb3 (Nat.le_refl _))
    have hown4 : w4.ownsRow A 28 8 v' (ps.length + 1) (cellsP ps ++ nvL n) := by rw [← HKn.out]; exact hown'
    have HPs4 : Hid (Pieces w4 A w4.heap.size v' (ps ++ [⟨n, t, wd.heap.size, w3.heap.size⟩])) := by
     refine Pieces.snoc (W := wq) (W1 := w3.alloc (nvO n)) (HPs.out.wide (Nat.le_refl _) HAd.out) (by have := HAa.out; have := HAd.out; omega) HSz3.out (by simp) ?_ hni4 hgrow hown4 ?_
     ·exact KeepI.trans (fun k h1 h2 cs e he hc => HKI'.out k h1 h2 cs e he hc) (KeepI.of_below hb3 HSz3.out)
     ·rcases hat with e | e
      ·exact .inl e
      ·exact .inr ⟨_, e, by simp⟩
    have HR4 : Hid (RB w4 g v l d s3 nv3 av3) := (HR3.out.keep hb3).grown (B := A) (by have := HNe.out; omega) (HOw.out.alloc _) hgrow
    have HS4 : Hid (Step g w w4) := (HS3.out.trans (Step.of_below (g := g) hb3 HR3.out.lt)).grown (B := A) (by have := HNe.out; omega) hgw (HOw.out.alloc _) hgrow
    have HN4 : Hid (w4.heap[N]? = some (nvO nodeZ)) := grow_nodeN hgrow hNA HOw.out (TK.at_old HN3.out)
    have HC4 := hide HR4.out.rd.2.2.1
    have HSz4 : Hid (w3.heap.size ≤ w4.heap.size) := by have := hgrow.size; simp at this; show _ ≤ _; omega
    obtain ⟨vo, vc, hv4⟩ := own_shape hown'
    rw [hv4] at HPs4 ⊢
    clear hown' hgrow hv4 hat hni4 hown4 hb3
    go_wp2
    go_roundw
    case rel => exact ⟨_, s3, nv3, av3, m', w4.heap.size, by rw [List.map_append]; exact HEq3.out, HM3.out, by rw [List.map_append]; exact HGd3.out, by have h9 := HAa.out; have h8 := HAd.out; have h7 := HSz3.out; have h6 := HSz4.out; omega, Nat.le_refl _, HPs4.out, HR4.out, HS4.out, HN4.out, HC4.out⟩
    case measure =>
     rw [HC4.out, HC10.out]
     simp only [intOf]
     have h1 := HLt3.out
     have h2 := HLt1.out
     simp
     omega
   ·have hE2 : Hid (branchM d l rec s = .error (z, az)) := by
     obtain ⟨m', hm'⟩ : ∃ m', m = m' + 1 := ⟨m - 1, by have := HM.out; have := HLt1.out; omega⟩
     show _ = _
     rw [HE.out, HEq.out, hm', pieces_step HEn.out.symm, hR]
    have HS3 := hide (HSr.out.trans ((Step.of_below (g := g) HBd.out HRr.out.lt).trans hst))
    clear hR hst HX HPI
    simp only [givesF]
    go_wp2
    exact ⟨rfl, .inr ⟨z, az, hE2.out, rfl, HS3.out⟩⟩
  | true =>
   have hE2 : Hid (branchM d l rec s = .ok (rowT (ps.map Pc.tr), s1)) := by show _ = _; rw [HE.out, HEq.out, pieces_stop HEn.out.symm]
   go_wp2_with fail
   refine HBE.out.mono ?_
   rintro e wd ⟨rfl, q, rfl⟩
   have hrd := HRr.out.drewN q
   have hbd : Below wq.heap.size wq (wq.drewN q) := ⟨rfl, rfl, rfl, Nat.le_refl _, fun _ _ => rfl⟩
   obtain ⟨wd, hwd⟩ : ∃ wd, wd = wq.drewN q := ⟨_, rfl⟩
   rw [← hwd] at hrd hbd ⊢
   have hpd := HPs.out.keep (KeepI.of_below hbd HAw.out)
   have hN3 : wd.heap[N]? = some (nvO nodeZ) := by rw [hbd.block N (TR.lt_of_block HNr.out)]; exact HNr.out
   have HX := hide (row_fn hpd (Nat.le_trans HAw.out hbd.size) (by have := HAa.out; have := HAw.out; have := hbd.size; omega) (by rw [← HKn.out]; omega) (by have h1 := HGd.out.kids; have h2 := HGd.out.inv.inv.pos; omega))
   have HRd := hide hrd
   have HSd := hide (HSr.out.trans (Step.of_below (g := g) hbd HRr.out.lt))
   have HNd := hide hN3
   have HAw2 : Hid (A ≤ wd.heap.size) := by have := HAa.out; have := HAw.out; have := hbd.size; show _ ≤ _; omega
   clear hwd hrd hbd HBE hpd hN3
   go_wp2_with fail
   refine HX.out.mono ?_
   rintro e w3 ⟨n, rfl, hni, hb3⟩
   have hN3 : w3.heap[N]? = some (nvO nodeZ) := by rw [hb3.block N (TR.lt_of_block HNd.out)]; exact HNd.out
   obtain ⟨z0, z1, z2, z3, z4, z5, z6, z7⟩ := node_cells hN3
   have zf := node_free hN3
   have HN3 := hide hN3
   have HNI := hide hni
   have HR3 := hide (HRd.out.keep hb3)
   have HS3 := hide (HSd.out.trans (Step.of_below (g := g) hb3 HRd.out.lt))
   clear hN3 hni hb3 HX
   go_wp21
   obtain ⟨W4, hW4⟩ : ∃ W4, W4 = setNode w3 N n := ⟨_, rfl⟩
   have hN4 : W4.heap[N]? = some (nvO n) := by rw [hW4]; exact setNode_at HN3.out _
   have hm4 : Mv N w3 W4 := by rw [hW4]; exact mv_setNode (Mv.refl N w3) _
   simp only [setNode] at hW4
   rw [← hW4]
   clear hW4
   refine ret_node (N := N) Tryz.results28 rfl (TR.nv_cells hN4) (.inl ⟨_, _, _, nv1, av1, hE2.out, rfl, ?_, HR3.out.mvN hgN HN3.out (by decide) (by decide) hm4, HS3.out.mvN (by have := HNe.out; omega) hgw hm4⟩)
   have e1 := HNe.out
   have e3 := hm4.size
   exact (HNI.out.keep (KeepI.of_blocks fun k h1 h2 => hm4.block k (by omega) (by omega))).wide (by omega) (by omega)
end Go.Proofs.YtaccofiegkdlgaaGreatDoor.Pa
namespace Go.Proofs.YtaccofiegkdlgaaGreatDoor.Pa
set_option maxHeartbeats 8000000
open Go.RowKit
open TR (Tr NV NCells nvV nvO NodeC KidsC)
open TK (Mv PatV)
open Br (BE PS givesF manyB fldB rngOf OR fauO)
set_option linter.unusedVariables false
set_option maxRecDepth 100000
variable {w w' : World} {g : Nat} {v : Value} {l : List Int} {d : Int} {s s' : St} {nv av : Value}
theorem bars_step {rec : Rd} {n : Nat} {bs : List Tr} (he : s.tok.kind = 9) : barsM d l rec (n + 1) bs s = match advM d l s with
   | .error e => .error e
   | .ok s1 => match branchM d l rec s1 with
    | .error e => .error e
    | .ok (t, s2) => barsM d l rec n (bs ++ [t]) s2 := by
 conv => lhs; unfold barsM
 rw [if_pos he]
 rfl
theorem bars_stop {rec : Rd} {n : Nat} {bs : List Tr} (he : s.tok.kind ≠ 9) : barsM d l rec n bs s = .ok (bs, s) := by
 cases n with
 | zero => rfl
 | succ n => unfold barsM; rw [if_neg he]
theorem either_any {lo hi : Nat} {ps : List Pc} (hp : Pieces w lo hi v ps) (hhi : hi ≤ w.heap.size) (hlo : lo ≤ w.heap.size) (hps : ps.length ≤ 1000000) (hlen : (eitL (ps.map Pc.tr)).length ≤ 1000000) (h1 : 1 ≤ ps.length) : Calls Tryz.prog 29 #[v] w fun e w' => ∃ n', e = .returned (nvV n') ∧ NodeI w' lo w'.heap.size n' (eitherT (ps.map Pc.tr)) ∧ Below w.heap.size w w' := by
 by_cases h2 : 2 ≤ ps.length
 ·exact either_fn hp hhi hlo hps hlen h2
 ·obtain ⟨p, rfl⟩ := List.length_eq_one_iff.1 (show ps.length = 1 by omega)
  exact either_one hp hhi hlo
theorem branches_fn {rec : Rd} (fo : Bool) (h : RB w g v l d s nv av) (hi : Inv' l s) (hrec : s.deep ≠ 20 → RecOk g v l d (s.deep + 1) rec) (hrg : RecG l (s.deep + 1) rec) : Calls Tryz.prog 22 #[.pointer (some ⟨g, 0, none⟩), .bool fo] w fun e w' => OutN (branchesG d l rec fo s) g v l d w e w' := by
 have hgw := h.lt
 have hpe := h.pe
 have hsm := h.small
 obtain ⟨i0, hi0, hz0, hz1, hz2⟩ := info_parts infoNode
 have c12 := h.rd.2.2.2.2.1
 have f12 := h.fr 12
 obtain ⟨w1, hw1⟩ : ∃ w1, w1 = w.alloc (nvO nodeZ) := ⟨_, rfl⟩
 have hb1 : Below w.heap.size w w1 := by rw [hw1]; exact (Below.refl _ w).alloc (Nat.le_refl _) _
 have hN1 : w1.heap[w.heap.size]? = some (nvO nodeZ) := by rw [hw1]; exact TK.at_new _ _
 have hr1 := h.keep hb1
 have d12 := hr1.rd.2.2.2.2.1
 have df12 := hr1.fr 12
 have hgw1 := hr1.lt
 obtain ⟨w2, hw2⟩ : ∃ w2, w2 = w1.setCell ⟨g, 12, none⟩ (.bool fo) := ⟨_, rfl⟩
 have hm2 : Mv g w1 w2 := by rw [hw2]; exact (Mv.refl g w1).setCell 12 _
 have HR2 : Hid (RB w2 g v l d { s with folded := fo } nv av) := by show RB _ _ _ _ _ _ _ _; rw [hw2]; exact hr1.set 12 _ rfl rfl rfl
 have HN2 : Hid (w2.heap[w.heap.size]? = some (nvO nodeZ)) := mv_blk hm2 hN1 (by omega)
 have HS2 : Hid (Step g w w2) := (Step.of_below hb1 hgw).trans (Step.of_mv hm2 hr1.lt)
 obtain ⟨A, hAe⟩ : ∃ A, A = w2.heap.size := ⟨_, rfl⟩
 obtain ⟨N, hNe⟩ : ∃ N, N = w.heap.size := ⟨_, rfl⟩
 have HNe := hide hNe
 have hNA : N < A := by rw [hAe, hNe]; exact TR.lt_of_block HN2.out
 have hgN : g < N := by omega
 have HAe := hide hAe
 have HI2 := hide (inv_folded hi fo)
 have HREC := hide hrec
 have HRG := hide hrg
 have HPE := hide hpe
 obtain ⟨fo0, hfo0⟩ : ∃ fo0, fo0 = s.folded := ⟨_, rfl⟩
 rw [← hfo0] at c12 d12
 have HFO := hide hfo0
 simp only [nvO, nodeZ] at hw1
 have HE : Hid (branchesG d l rec fo s = match branchM d l rec { s with folded := fo } with
  | .error e => .error e
  | .ok (t, s1) => match barsM d l rec (l.length + 1) [t] s1 with
   | .error e => .error e
   | .ok (bs, s2) => .ok (eitherT bs, { s2 with folded := fo0 })) := by show _ = _; rw [hfo0]; unfold branchesG; rfl
 have HX := hide (branch_fn (s := { s with folded := fo }) HR2.out HI2.out hrec hrg)
 have HBI := hide (fun t s' => branch_inv (t := t) (s' := s') hpe (s := { s with folded := fo }) hrg HI2.out)
 clear h hb1 hN1 hr1 hi hrec hrg hpe hm2 hfo0 c12 f12
 go_enter Tryz.func22, Tryz.ntmps22
 go_upto_region 1 with fail
 rw [← hw1]
 clear hw1
 go_upto_region 3 with fail
 rw [← hw2]
 rw [← hNe] at HN2 ⊢
 clear hw2 hNe hAe d12 df12
 go_wp2_with fail
 refine HX.out.mono ?_
 rintro e w3 (⟨t, s3, n, nv3, av3, hR, rfl, hni, hr3, hst⟩ | ⟨z, az, hR, rfl, hst⟩)
 case inr =>
  have hE2 : Hid (branchesG d l rec fo s = .error (z, az)) := by show _ = _; rw [HE.out, hR]
  have HS3 := hide (HS2.out.trans hst)
  clear hst hR HX
  simp only [givesF]
  go_wp2
  exact ⟨rfl, .inr ⟨z, az, hE2.out, rfl, HS3.out⟩⟩
 have hgo := HBI.out _ _ hR
 have HE3 : Hid (branchesG d l rec fo s = match barsM d l rec (l.length + 1) [t] s3 with
   | .error e => .error e
   | .ok (bs, s2) => .ok (eitherT bs, { s2 with folded := fo0 })) := by show _ = _; rw [HE.out, hR]
 have hN3 := hst.blk hgN HN2.out (by decide) (by decide)
 obtain ⟨w4, hw4⟩ : ∃ w4, w4 = w3.alloc (nvO n) := ⟨_, rfl⟩
 obtain ⟨R, hRe⟩ : ∃ R, R = w3.heap.size := ⟨_, rfl⟩
 have hb4 : Below w3.heap.size w3 w4 := by rw [hw4]; exact (Below.refl _ w3).alloc (Nat.le_refl _) _
 have hR4 : w4.heap[R]? = some (nvO n) := by rw [hw4, hRe]; exact TK.at_new _ _
 have HN4 : Hid (w4.heap[N]? = some (nvO nodeZ)) := by show _ = _; rw [hb4.block N (TR.lt_of_block hN3)]; exact hN3
 have HR4 := hide (hr3.keep hb4)
 have HS4 := hide ((HS2.out.trans hst).trans (Step.of_below (g := g) hb4 hr3.lt))
 have HPs0 : Hid (Pieces w4 A w4.heap.size (.slice (some ⟨R, 0, none⟩) 1 1) [⟨n, t, A, R⟩]) := by
  have hnk := hni.keep (KeepI.of_below hb4 (Nat.le_refl _))
  rw [← HAe.out, ← hRe] at hnk
  exact Pieces.single hnk (by rw [HAe.out, hRe]; exact hst.size) (Nat.le_refl _) hR4 (Nat.le_refl _) (TR.lt_of_block hR4)
 have HA4 : Hid (A ≤ w4.heap.size) := by rw [HAe.out]; exact Nat.le_trans hst.size hb4.size
 have HGB0 := hide (goodB_one hgo)
 simp only [nvO] at hw4
 clear hR hgo hN3 hb4 hR4 hni hr3 hst HX HBI HE
 go_upto_region 4 with fail
 rw [← hw4, ← hRe]
 clear hw4 hRe
 go_loopw [6] (fun kv wr => ∃ (ps : List Pc) (s1 : St) (nv1 av1 : Value) (m : Nat), barsM d l rec (l.length + 1) [t] s3 = barsM d l rec m (ps.map Pc.tr) s1 ∧ l.length + 1 - s1.pos ≤ m ∧ GoodB l { s with folded := fo } (ps.map Pc.tr) s1 ∧ 1 ≤ ps.length ∧ A ≤ wr.heap.size ∧ Pieces wr A wr.heap.size kv ps ∧ RB wr g v l d s1 nv1 av1 ∧ Step g w wr ∧ wr.heap[N]? = some (nvO nodeZ) ∧ wr.cell? ⟨g, 10, none⟩ = some (.int .i64 (s1.pos : Nat))) (fun _ wr => l.length - (match wr.cell? ⟨g, 10, none⟩ with | some u => (intOf u).toNat | none => 0))
 case atStart => exact ⟨[⟨n, t, A, R⟩], s3, nv3, av3, l.length + 1, rfl, by omega, HGB0.out, by simp, HA4.out, HPs0.out, HR4.out, HS4.out, HN4.out, HR4.out.rd.2.2.1⟩
 case round =>
  obtain ⟨ps, s1, nv1, av1, m, hEq, hm, hgd, hps1, hAw, hps, hrr, hsr, hNr, hc10⟩ := hrel
  obtain ⟨wq, hwq⟩ : ∃ wq, wq = wr := ⟨_, rfl⟩
  subst hwq
  have HEq := hide hEq
  have HM := hide hm
  have HGd := hide hgd
  have HPs1 := hide hps1
  have HAw := hide hAw
  have HPs := hide hps
  have HRr := hide hrr
  have HSr := hide hsr
  have HNr := hide hNr
  have HC10 := hide hc10
  have hplen : ps.length ≤ 301 := by have h1 := hgd.len; have h2 := hgd.inv.inv.pos; rw [List.length_map] at h1; omega
  obtain ⟨ko, kc, hkv⟩ := own_shape hps.row.own
  obtain ⟨kn, hkn⟩ : ∃ kn, kn = ps.length := ⟨_, rfl⟩
  rw [← hkn] at hkv hplen
  have HKn := hide hkn
  have c2 := hrr.tk.1
  rw [hkv] at HPs ⊢
  clear hEq hm hgd hps1 hAw hps hsr hNr hkv hkn hc10
  by_cases k9 : s1.tok.kind = 9
  ·rw [k9] at c2
   have HAV := hide (advance_any hrr HGd.out.inv.toA.next)
   have hlt1 : s1.pos < l.length := by
    rcases Nat.lt_or_ge s1.pos l.length with h5 | h5
    ·exact h5
    ·have := HGd.out.inv.inv.off (by have := HGd.out.inv.inv.pos; omega)
     rw [this] at k9
     exact absurd k9 (by decide)
   have HLt1 := hide hlt1
   have HLn : Hid (s1.pos < s1.next) := (HGd.out.inv.inv.on hlt1).1
   obtain ⟨m', hm'⟩ : ∃ m', m = m' + 1 := ⟨m - 1, by have := HM.out; omega⟩
   have HEq1 : Hid (barsM d l rec (l.length + 1) [t] s3 = match advM d l s1 with
    | .error e => .error e
    | .ok s1 => match branchM d l rec s1 with
     | .error e => .error e
     | .ok (t, s2) => barsM d l rec m' (ps.map Pc.tr ++ [t]) s2) := by show _ = _; rw [HEq.out, hm', bars_step k9]
   have HM' : Hid (m = m' + 1) := hm'
   have HAI := hide (fun s4 => adv_inv (d := d) (s' := s4) HPE.out HGd.out.inv.toA)
   clear hrr hlt1 hm' k9
   go_wp2_with fail
   refine HAV.out.mono ?_
   rintro e w5 (⟨s4, hR4, rfl, hr5, hm5⟩ | ⟨z, az, hR4, rfl, hm5⟩)
   case inr =>
    have hE2 : Hid (branchesG d l rec fo s = .error (z, az)) := by show _ = _; rw [HE3.out, HEq1.out]; simp only [hR4]
    have HS3 := hide (HSr.out.trans (Step.of_mv hm5 HRr.out.lt))
    clear hm5 hR4 HAV HAI c2
    simp only [givesF]
    go_wp2
    exact ⟨rfl, .inr ⟨z, az, hE2.out, rfl, HS3.out⟩⟩
   obtain ⟨i4, p4, f4, d4, -⟩ := HAI.out s4 hR4
   have hd4 : s4.deep = s.deep := d4.trans HGd.out.deep
   have HX := hide (branch_fn hr5 i4 (by rw [hd4]; exact HREC.out) (by rw [hd4]; exact HRG.out))
   have HBI := hide (fun t s' => branch_inv (t := t) (s' := s') HPE.out (s := s4) (by rw [hd4]; exact HRG.out) i4)
   have HEq2 : Hid (barsM d l rec (l.length + 1) [t] s3 = match branchM d l rec s4 with
     | .error e => .error e
     | .ok (t, s2) => barsM d l rec m' (ps.map Pc.tr ++ [t]) s2) := by show _ = _; rw [HEq1.out]; simp only [hR4]
   have HR5 := hide hr5
   have hs5 : Step g wq w5 := Step.of_mv hm5 HRr.out.lt
   have HS5q := hide hs5
   have HP4 := hide p4
   have HD4 := hide d4
   clear hR4 i4 p4 f4 d4 hd4 hr5 hm5 hs5 HAV HAI c2 HEq1
   go_wp2_with fail
   refine HX.out.mono ?_
   rintro e w6 (⟨t6, s6, n6, nv6, av6, hR, rfl, hni, hr6, hst⟩ | ⟨z, az, hR, rfl, hst⟩)
   case inr =>
    have hE2 : Hid (branchesG d l rec fo s = .error (z, az)) := by show _ = _; rw [HE3.out, HEq2.out, hR]
    have HS3 := hide (HSr.out.trans (HS5q.out.trans hst))
    clear hst hR HX HBI
    simp only [givesF]
    go_wp2
    exact ⟨rfl, .inr ⟨z, az, hE2.out, rfl, HS3.out⟩⟩
   have hgo := HBI.out _ _ hR
   have HEq3 : Hid (barsM d l rec (l.length + 1) [t] s3 = barsM d l rec m' (ps.map Pc.tr ++ [t6]) s6) := by show _ = _; rw [HEq2.out, hR]
   have HGd3 : Hid (GoodB l { s with folded := fo } (ps.map Pc.tr ++ [t6]) s6) := HGd.out.snoc (s1 := s4) (by have := HP4.out; have := HLn.out; omega) HD4.out hgo
   have HLt6 : Hid (s1.pos < s6.pos) := by have h1 := hgo.pos; have h2 := HP4.out; have h3 := HLn.out; show _ < _; omega
   have HM3 : Hid (l.length + 1 - s6.pos ≤ m') := by have h1 := HM.out; have h2 := HM'.out; have h3 := HLt6.out; show _ ≤ _; omega
   have hs0 : Step g wq w6 := HS5q.out.trans hst
   have hown := own_step (g := g) HPs.out.row.own (by have := HNe.out; omega) hs0
   have hN6 := hs0.blk hgN HNr.out (by decide) (by decide)
   have hAw6 : A ≤ w6.heap.size := Nat.le_trans HAw.out hs0.size
   have HOw : Hid (w6.ownsRow A 28 8 (.slice ko kn kc) ps.length (cellsP ps)) := hown
   rw [← HKn.out] at HOw
   have HKI' : Hid (KeepI A wq.heap.size wq w6) := hs0.keepI (by have := HNe.out; omega) (Nat.le_refl _)
   have HNI := hide (hni.wide HS5q.out.size (Nat.le_refl _))
   have HR6 := hide hr6
   have HS6 := hide (HSr.out.trans hs0)
   have HN6 := hide hN6
   have HSz6 : Hid (wq.heap.size ≤ w6.heap.size) := hs0.size
   clear hR hgo hs0 hown hN6 hni hr6 hst HX HBI HS5q HR5
   go_wp2_with (at_builtin; refine wpList_append_own_at _ rfl _ _ 26 rfl A 28 i0 (.agg #[.int .i64 0, .slice none 0 0, .slice none 0 0, .int .i64 0, .int .i64 0, .int .i64 0, .int .i64 0, .bool false]) 8 96 Tryz.underlying26 hi0 hz0 hz1 hz2 rfl (by decide) _ _ _ rfl (HOw.out.alloc _) ⟨w6.heap.size, 0, none⟩ 1 1 (nvL n6) rfl rfl (cells_nodeP w6 n6) (nvL_one n6) (by unfold maxLen; omega) (by omega) (by simp; omega) ?_)
   intro v' w7 hown' hgrow _ hat
   have hb7 : Below w6.heap.size w6 (w6.alloc (nvO n6)) := (Below.refl _ w6).alloc (Nat.le_refl _) _
   have hni7 := HNI.out.keep (KeepI.of_below hb7 (Nat.le_refl _))
   have hown7 : w7.ownsRow A 28 8 v' (ps.length + 1) (cellsP ps ++ nvL n6) := by rw [← HKn.out]; exact hown'
   have HPs7 : Hid (Pieces w7 A w7.heap.size v' (ps ++ [⟨n6, t6, wq.heap.size, w6.heap.size⟩])) := by
    refine Pieces.snoc (W := wq) (W1 := w6.alloc (nvO n6)) HPs.out HAw.out HSz6.out (by simp) ?_ hni7 hgrow hown7 ?_
    ·exact KeepI.trans HKI'.out (KeepI.of_below hb7 HSz6.out)
    ·rcases hat with e | e
     ·exact .inl e
     ·exact .inr ⟨_, e, by simp⟩
   have HR7 : Hid (RB w7 g v l d s6 nv6 av6) := (HR6.out.keep hb7).grown (B := A) (by have := HNe.out; omega) (HOw.out.alloc _) hgrow
   have HS7 : Hid (Step g w w7) := (HS6.out.trans (Step.of_below (g := g) hb7 HR6.out.lt)).grown (B := A) (by have := HNe.out; omega) hgw (HOw.out.alloc _) hgrow
   have HN7 : Hid (w7.heap[N]? = some (nvO nodeZ)) := grow_nodeN hgrow hNA HOw.out (TK.at_old HN6.out)
   have HC7 := hide HR7.out.rd.2.2.1
   have HSz7 : Hid (A ≤ w7.heap.size) := by have h1 := hgrow.size; simp at h1; show _ ≤ _; omega
   obtain ⟨vo, vc, hv7⟩ := own_shape hown'
   rw [hv7] at HPs7 ⊢
   clear hown' hgrow hv7 hat hni7 hown7 hb7
   go_wp2
   go_roundw
   case rel => exact ⟨_, s6, nv6, av6, m', by rw [List.map_append]; exact HEq3.out, HM3.out, by rw [List.map_append]; exact HGd3.out, by simp, HSz7.out, HPs7.out, HR7.out, HS7.out, HN7.out, HC7.out⟩
   case measure =>
    rw [HC7.out, HC10.out]
    simp only [intOf]
    have h1 := HLt6.out
    have h2 := HLt1.out
    simp
    omega
  ·have q9 : (s1.tok.kind == 9) = false := by simpa using k9
   have hE2 : Hid (branchesG d l rec fo s = .ok (eitherT (ps.map Pc.tr), { s1 with folded := fo0 })) := by show _ = _; rw [HE3.out, HEq.out, bars_stop k9]
   have d12 := hrr.rd.2.2.2.2.1
   have df12 := hrr.fr 12
   have hgwq := hrr.lt
   obtain ⟨w5, hw5⟩ : ∃ w5, w5 = wq.setCell ⟨g, 12, none⟩ (.bool fo0) := ⟨_, rfl⟩
   have hm5 : Mv g wq w5 := by rw [hw5]; exact (Mv.refl g wq).setCell 12 _
   have hr5 : RB w5 g v l d { s1 with folded := fo0 } nv1 av1 := by rw [hw5]; exact hrr.set 12 _ rfl rfl rfl
   have hN5 := mv_blk hm5 HNr.out (by omega)
   have hpd := (HPs.out.keep (w' := w5) (KeepI.of_blocks fun k h1 h2 => hm5.block k h2 (by have := HNe.out; omega))).wide (Nat.le_refl A) hm5.size
   have hlen5 : (eitL (ps.map Pc.tr)).length ≤ 1000000 := by have h1 := HGd.out.sum; have h2 := HGd.out.inv.inv.pos; have h3 : (eitL (ps.map Pc.tr)).length = ((ps.map Pc.tr).flatMap fun t => if t.kind = 10 then t.kids else [t]).length := rfl; omega
   have HX := hide (either_any hpd (Nat.le_refl _) (Nat.le_trans HAw.out hm5.size) (by rw [← HKn.out]; omega) hlen5 HPs1.out)
   have HR5 := hide hr5
   have HS5 := hide (HSr.out.trans (Step.of_mv hm5 hgwq))
   have HN5 := hide hN5
   have HA5 : Hid (A ≤ w5.heap.size) := Nat.le_trans HAw.out hm5.size
   clear hrr hm5 hr5 hN5 hpd hlen5 k9
   go_upto_region 8 with fail
   rw [← hw5]
   clear hw5 d12 df12
   go_wp2_with fail
   refine HX.out.mono ?_
   rintro e w6 ⟨n6, rfl, hni, hb6⟩
   have hN6 : w6.heap[N]? = some (nvO nodeZ) := by rw [hb6.block N (TR.lt_of_block HN5.out)]; exact HN5.out
   obtain ⟨z0, z1, z2, z3, z4, z5, z6, z7⟩ := node_cells hN6
   have zf := node_free hN6
   have HN6 := hide hN6
   have HNI := hide hni
   have HR6 := hide (HR5.out.keep hb6)
   have HS6 := hide (HS5.out.trans (Step.of_below (g := g) hb6 HR5.out.lt))
   clear hN6 hni hb6 HX
   go_wp21
   obtain ⟨W4, hW4⟩ : ∃ W4, W4 = setNode w6 N n6 := ⟨_, rfl⟩
   have hN4 : W4.heap[N]? = some (nvO n6) := by rw [hW4]; exact setNode_at HN6.out _
   have hm4 : Mv N w6 W4 := by rw [hW4]; exact mv_setNode (Mv.refl N w6) _
   simp only [setNode] at hW4
   rw [← hW4]
   clear hW4
   refine ret_node (N := N) Tryz.results22 rfl (TR.nv_cells hN4) (.inl ⟨_, _, _, nv1, av1, hE2.out, rfl, ?_, HR6.out.mvN hgN HN6.out (by decide) (by decide) hm4, HS6.out.mvN (by have := HNe.out; omega) hgw hm4⟩)
   have e1 := HNe.out
   have e3 := hm4.size
   exact (HNI.out.keep (KeepI.of_blocks fun k h1 h2 => hm4.block k (by omega) (by omega))).wide (by omega) (by omega)
theorem branches_all : ∀ (n dp : Nat), dp + n = 21 → 0 < n → RecOk g v l d dp (branchesF d l n)
 | 0, dp, h, hn => absurd hn (by omega)
 | n + 1, dp, h, hn => fun w s nv av fo hr hi hd => branches_fn fo hr hi (fun h20 => by rw [hd]; exact branches_all n (dp + 1) (by omega) (by omega)) (by rw [hd]; exact branchesF_inv hr.pe n (dp + 1))
end Go.Proofs.YtaccofiegkdlgaaGreatDoor.Pa
