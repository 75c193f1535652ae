import Derived.Test.YtaccofiegkdlgaaGreatDoorMO
import Derived.Test.YtaccofiegkdlgaaGreatDoorMB
namespace Go.Proofs.YtaccofiegkdlgaaGreatDoor.Pa
set_option maxHeartbeats 8000000
open Go.RowKit
open TR (Tr NV NCells nvV nvO NodeC KidsC)
open TK (Mv PatV)
open Br (BE PS givesF manyB fldB rngOf OR fauO)
set_option linter.unusedVariables false
set_option maxRecDepth 100000
variable {w w' : World} {g : Nat} {v : Value} {l : List Int} {d : Int} {s s' : St} {nv av : Value}
def bigB (t : Tr) : Bool := decide (¬ TR.cntA t < 1001)
abbrev pnV (n : NV) (gr : Int) (nv : Value) : Value := .agg #[.int .i64 n.kind, .slice n.sa n.sl n.sc, .slice n.ka n.kl n.kc, .int .i64 n.num, .int .i64 n.least, .int .i64 n.most, .int .i64 n.way, .bool n.fold, .int .i64 gr, nv]
abbrev pnO (n : NV) (gr : Int) (nv : Value) : Obj := .cells #[.int .i64 n.kind, .slice n.sa n.sl n.sc, .slice n.ka n.kl n.kc, .int .i64 n.num, .int .i64 n.least, .int .i64 n.most, .int .i64 n.way, .bool n.fold, .int .i64 gr, nv] 31 (0, 0)
theorem pn_cells {N : Nat} {n : NV} {gr : Int} (h : w.heap[N]? = some (pnO n gr nv)) : w.cell? ⟨N, 0, none⟩ = some (.int .i64 n.kind) ∧ w.cell? ⟨N, 1, none⟩ = some (.slice n.sa n.sl n.sc) ∧ w.cell? ⟨N, 2, none⟩ = some (.slice n.ka n.kl n.kc) ∧ w.cell? ⟨N, 3, none⟩ = some (.int .i64 n.num) ∧ w.cell? ⟨N, 4, none⟩ = some (.int .i64 n.least) ∧ w.cell? ⟨N, 5, none⟩ = some (.int .i64 n.most) ∧ w.cell? ⟨N, 6, none⟩ = some (.int .i64 n.way) ∧ w.cell? ⟨N, 7, none⟩ = some (.bool n.fold) ∧ w.cell? ⟨N, 8, none⟩ = some (.int .i64 gr) ∧ w.cell? ⟨N, 9, none⟩ = some nv := by
 refine ⟨?_, ?_, ?_, ?_, ?_, ?_, ?_, ?_, ?_, ?_⟩ <;> simp [World.cell?, h]
theorem pn_free {N : Nat} {n : NV} {gr : Int} (h : w.heap[N]? = some (pnO n gr nv)) (o : Nat) : w.frozen? ⟨N, o, none⟩ = false := by simp [World.frozen?, h]
def setPat (w : World) (N : Nat) (n : NV) (gr : Int) (nv : Value) : World := ((setNode w N n).setCell ⟨N, 8, none⟩ (.int .i64 gr)).setCell ⟨N, 9, none⟩ nv
theorem setPat_at {N : Nat} {n0 : NV} {g0 : Int} {v0 : Value} (h : w.heap[N]? = some (pnO n0 g0 v0)) (n : NV) (gr : Int) (nv : Value) : (setPat w N n gr nv).heap[N]? = some (pnO n gr nv) := by
 unfold setPat setNode
 rw [TK.set_one (TK.set_one (TK.set_one (TK.set_one (TK.set_one (TK.set_one (TK.set_one (TK.set_one (TK.set_one (TK.set_one h _ _) _ _) _ _) _ _) _ _) _ _) _ _) _ _) _ _) _ _]
 simp
theorem mv_setPat {w0 : World} {N : Nat} (h : Mv N w0 w) (n : NV) (gr : Int) (nv : Value) : Mv N w0 (setPat w N n gr nv) := ((mv_setNode h n).setCell 8 _).setCell 9 _
theorem RB.frs {lo hi ab : Nat} (h : RB w g v l d s nv av) (hf : FrS lo hi ab w w') (h1 : g < lo) (h2 : g < ab) : RB w' g v l d s nv av := by
 refine ⟨hf.typ g _ _ _ h.box (by decide), ?_, h.ne, own_typ hf h.nms (by decide), own_typ hf h.ags (by decide), ?_, h.low, h.pe⟩
 ·rcases h.pat with ⟨a, b⟩ | ⟨x, c, a, b, e⟩
  ·exact .inl ⟨a, b⟩
  ·refine .inr ⟨x, c, a, b, fun j hj => ?_⟩
   have hx := h.ne x c (by omega) a
   have hlt := h.lt
   rw [← e j hj]
   unfold World.cell?
   rw [hf.out _ (by rw [TK.add_block]; omega) (by rw [TK.add_block]; omega) (by rw [TK.add_block]; omega)]
 ·have hb : Below g w w' := ⟨hf.os, hf.tape, hf.output, hf.size, fun k hk => hf.out k (by have := h.lt; omega) (by omega) (by omega)⟩
  exact h.tab.below hb h.low
theorem Step.frs {w0 : World} {lo hi ab : Nat} (h : Step g w0 w) (hf : FrS lo hi ab w w') (h1 : w0.heap.size ≤ lo) (h2 : w0.heap.size ≤ ab) (hg : g < w0.heap.size) : Step g w0 w' :=
 ⟨hf.os.trans h.os, hf.tape.trans h.tape, hf.output.trans h.output, Nat.le_trans h.size hf.size, fun k hk => by rw [hf.out k (by have := h.size; omega) (by omega) (by omega)]; exact h.low k hk, fun k a b cs e fr hc n1 n2 => by rw [hf.out k (by have := h.size; omega) (by omega) (by omega)]; exact h.oth k a b cs e fr hc n1 n2⟩
def OutW (R : Except BE Pt) (g : Nat) (w : World) (e : Ending) (w' : World) : Prop :=
 (∃ (p : Pt) (n : NV) (u : Value), R = .ok p ∧ e = .returned (pnV n (p.groups : Nat) u) ∧ (∀ w'' : World, (∀ k, g < k → k < w'.heap.size → w''.heap[k]? = w'.heap[k]?) → NodeC w'' n p.tree ∧ NamesC w'' u p.names) ∧ Below g w w') ∨ (∃ z a, R = .error (z, a) ∧ e = givesF z a ∧ Below g w w')
theorem ret_pat {f : Func} {tmps : Array Value} {W : World} {N s : Nat} {n : NV} {gr : Int} {u : Value} {R : Ending → World → Prop} (hres : f.results = #[ResultVar.cell s 31]) (h2 : tmps[s]? = some (.pointer (some ⟨N, 0, none⟩))) (q1 : W.heap[N]? = some (pnO n gr u)) (hF : R (.returned (pnV n gr u)) W) :
  bodyPost Tryz.prog f R Exit.ret { tmps := tmps, defers := [] } W := by
 obtain ⟨c0, c1, c2, c3, c4, c5, c6, c7, c8, c9⟩ := pn_cells q1
 refine bodyPost_ret (v := pnV n gr u) ?_ rfl hF
 simp [results, hres, go_sem, h2, c0, c1, c2, c3, c4, c5, c6, c7, c8, c9]
theorem whole_fn (fo : Bool) (h : RB w g v l d {} nv av) : Calls Tryz.prog 18 #[.pointer (some ⟨g, 0, none⟩), .bool fo] w fun e w' => OutW (wholeM bigB d fo l) g w e w' := by
 have hgw := h.lt
 have hpe := h.pe
 have HPE := hide hpe
 have hsm := h.small
 obtain ⟨w1, hw1⟩ : ∃ w1, w1 = w.alloc (pnO nodeZ 0 (.slice none 0 0)) := ⟨_, rfl⟩
 have hb1 : Below w.heap.size w w1 := by rw [hw1]; exact (Below.refl _ w).alloc (Nat.le_refl _) _
 have HN1 : Hid (w1.heap[w.heap.size]? = some (pnO nodeZ 0 (.slice none 0 0))) := by show _ = _; rw [hw1]; exact TK.at_new _ _
 have HR1 := hide (h.keep hb1)
 have HS1 : Hid (Step g w w1) := Step.of_below hb1 hgw
 obtain ⟨N, hNe⟩ : ∃ N, N = w.heap.size := ⟨_, rfl⟩
 have HNe := hide hNe
 have hgN : g < N := by omega
 have hia : InvA l ({} : St) := ⟨Nat.zero_le _, Nat.zero_le _, Nat.zero_le _, by decide, by decide⟩
 have HAV := hide (advance_any HR1.out (Nat.zero_le _))
 have HAI := hide (fun s0 => adv_inv (d := d) (s' := s0) hpe hia)
 simp only [pnO, nodeZ] at hw1
 have HE0 : Hid (wholeM bigB d fo l = match advM d l {} with
  | .error e => .error e
  | .ok s0 => match branchesF d l 21 fo s0 with
   | .error e => .error e
   | .ok (t, s) =>
    if s.tok.kind = 8 then .error (1, (s.pos : Int))
    else match numsM s.names s.groups s.agains with
     | .error e => .error e
     | .ok ns => if bigB (settleT ns t) then .error (2, 0) else .ok ⟨settleT ns t, s.groups, s.names⟩) := by show _ = _; unfold wholeM; rfl
 clear h hb1 hpe hia
 go_enter Tryz.func18, Tryz.ntmps18
 go_upto_region 1 with fail
 rw [← hw1]
 rw [← hNe] at HN1 ⊢
 clear hw1 hNe
 go_wp2_with fail
 refine HAV.out.mono ?_
 rintro e w2 (⟨s0, hR0, rfl, hr2, hm2⟩ | ⟨z, a, hR0, rfl, hm2⟩)
 case inr =>
  have hE : Hid (wholeM bigB d fo l = .error (z, a)) := by show _ = _; rw [HE0.out]; simp only [hR0]
  have HS2 := hide (HS1.out.trans (Step.of_mv hm2 HR1.out.lt))
  clear hm2 hR0 HAV HAI
  simp only [givesF]
  go_wp2
  exact ⟨rfl, .inr ⟨z, a, hE.out, rfl, HS2.out.below⟩⟩
 obtain ⟨i2, p2, f2, d2, g2, n2, a2⟩ := HAI.out s0 hR0
 have hS2 := HS1.out.trans (Step.of_mv hm2 HR1.out.lt)
 have hN2 := mv_blk hm2 HN1.out (by omega)
 have HX := hide (branches_all (g := g) (v := v) (l := l) (d := d) 21 0 (by omega) (by omega) w2 s0 nv av fo hr2 i2 d2)
 have HBG := hide (fun t s' => branchesF_inv HPE.out 21 0 fo s0 t s' i2 d2)
 have HBA := hide (fun t s' => branchesF_ag HPE.out 21 0 fo s0 t s' i2 d2)
 have HE1 : Hid (wholeM bigB d fo l = match branchesF d l 21 fo s0 with
   | .error e => .error e
   | .ok (t, s) =>
    if s.tok.kind = 8 then .error (1, (s.pos : Int))
    else match numsM s.names s.groups s.agains with
     | .error e => .error e
     | .ok ns => if bigB (settleT ns t) then .error (2, 0) else .ok ⟨settleT ns t, s.groups, s.names⟩) := by show _ = _; rw [HE0.out]; simp only [hR0]
 have HS2 := hide hS2
 have HN2 := hide hN2
 have HR2 := hide hr2
 clear hR0 hr2 hm2 i2 p2 f2 d2 g2 n2 a2 hS2 hN2 HAV HAI HE0 HR1 HS1 HN1
 go_wp2_with fail
 refine HX.out.mono ?_
 rintro e w3 (⟨t, s3, n, nv3, av3, hR, rfl, hni, hr3, hst⟩ | ⟨z, a, hR, rfl, hst⟩)
 case inr =>
  have hE : Hid (wholeM bigB d fo l = .error (z, a)) := by show _ = _; rw [HE1.out]; simp only [hR]
  have HS3 := hide (HS2.out.trans hst)
  clear hst hR HX HBG HBA
  simp only [givesF]
  go_wp2
  exact ⟨rfl, .inr ⟨z, a, hE.out, rfl, HS3.out.below⟩⟩
 have hgo := HBG.out _ _ hR
 have hag := HBA.out _ _ hR
 have HE2 : Hid (wholeM bigB d fo l = if s3.tok.kind = 8 then .error (1, (s3.pos : Int))
    else match numsM s3.names s3.groups s3.agains with
     | .error e => .error e
     | .ok ns => if bigB (settleT ns t) then .error (2, 0) else .ok ⟨settleT ns t, s3.groups, s3.names⟩) := by show _ = _; rw [HE1.out]; simp only [hR]
 obtain ⟨w4, hw4⟩ : ∃ w4, w4 = w3.alloc (nvO n) := ⟨_, rfl⟩
 obtain ⟨X, hXe⟩ : ∃ X, X = w3.heap.size := ⟨_, rfl⟩
 obtain ⟨A, hAe⟩ : ∃ A, A = w2.heap.size := ⟨_, rfl⟩
 have hb4 : Below w3.heap.size w3 w4 := by rw [hw4]; exact (Below.refl _ w3).alloc (Nat.le_refl _) _
 have hX4 : w4.heap[X]? = some (nvO n) := by rw [hw4, hXe]; exact TK.at_new _ _
 have hN3 := hst.blk hgN HN2.out (by decide) (by decide)
 have HN4 : Hid (w4.heap[N]? = some (pnO nodeZ 0 (.slice none 0 0))) := by show _ = _; rw [hb4.block N (TR.lt_of_block hN3)]; exact hN3
 have hr4 := hr3.keep hb4
 have HR4 := hide hr4
 have HS4 := hide ((HS2.out.trans hst).trans (Step.of_below (g := g) hb4 hr3.lt))
 have HNI4 : Hid (NodeI w4 A X n t) := by show NodeI _ _ _ _ _; rw [hAe, hXe]; exact hni.keep (KeepI.of_below hb4 (Nat.le_refl _))
 have HX4 := hide hX4
 have hNA : N < A := by rw [hAe]; exact TR.lt_of_block HN2.out
 have hAX : A ≤ X := by rw [hAe, hXe]; exact hst.size
 have hal : s3.agains.length ≤ 1000 := by have h1 := hgo.inv.inv.ags; have h2 := hgo.inv.inv.pos; omega
 have HAN := hide (againNumbers_fn hr4 hal)
 have HAG := hide hag.2
 have HAL := hide hal
 have c2 := hr4.tk.1
 have c10 := hr4.rd.2.2.1
 simp only [nvO] at hw4
 clear hR hni hr3 hst hb4 hX4 hN3 hr4 hgo hag HX HBG HBA hal
 go_upto_region 3 with fail
 rw [← hw4, ← hXe]
 clear hw4 hXe hAe
 by_cases k8 : s3.tok.kind = 8
 ·have hE : Hid (wholeM bigB d fo l = .error (1, (s3.pos : Int))) := by show _ = _; rw [HE2.out, if_pos k8]
  rw [k8] at c2
  have HG := hide (giveUp_any 1 (s3.pos : Int) w4)
  simp only [givesF] at HG
  clear k8
  go_wp2_with fail
  refine HG.out.mono ?_
  rintro e w5 ⟨rfl, rfl⟩
  go_wp2
  exact ⟨rfl, .inr ⟨1, _, hE.out, rfl, HS4.out.below⟩⟩
 ·have q8 : (s3.tok.kind == 8) = false := by simpa using k8
  have HE3 : Hid (wholeM bigB d fo l = match numsM s3.names s3.groups s3.agains with
     | .error e => .error e
     | .ok ns => if bigB (settleT ns t) then .error (2, 0) else .ok ⟨settleT ns t, s3.groups, s3.names⟩) := by show _ = _; rw [HE2.out, if_neg k8]
  clear k8
  go_wp2_with fail
  refine HAN.out.mono ?_
  rintro e w5 (⟨ns, u, hR, rfl, hou, hb5⟩ | ⟨z, a, hR, rfl, hb5⟩)
  case inr =>
   have hE : Hid (wholeM bigB d fo l = .error (z, a)) := by show _ = _; rw [HE3.out]; simp only [hR]
   have HS5 := hide (HS4.out.trans (Step.of_below (g := g) hb5 HR4.out.lt))
   clear hb5 hR HAN c2 c10
   simp only [givesF]
   go_wp2
   exact ⟨rfl, .inr ⟨z, a, hE.out, rfl, HS5.out.below⟩⟩
  have HE4 : Hid (wholeM bigB d fo l = if bigB (settleT ns t) then .error (2, 0) else .ok ⟨settleT ns t, s3.groups, s3.names⟩) := by show _ = _; rw [HE3.out]; simp only [hR]
  have hnl := nums_len _ _ hR
  have hX5 : w5.heap[X]? = some (nvO n) := by rw [hb5.block X (TR.lt_of_block HX4.out)]; exact HX4.out
  have hN5 : w5.heap[N]? = some (pnO nodeZ 0 (.slice none 0 0)) := by rw [hb5.block N (TR.lt_of_block HN4.out)]; exact HN4.out
  have hni5 := HNI4.out.keep (KeepI.of_below hb5 (by have := TR.lt_of_block HX4.out; omega))
  have hX5l := TR.lt_of_block hX5
  have HST := hide (settle_fn hni5 ns (by rw [hnl]; exact HAG.out) (by omega) w5 X 0 _ u w4.heap.size (by omega) (fun k _ _ => rfl) hX5 (TR.nv_cells hX5) (by omega) hou (by rw [hnl]; exact HAL.out))
  have HR5 := hide (HR4.out.keep hb5)
  have HS5 := hide (HS4.out.trans (Step.of_below (g := g) hb5 HR4.out.lt))
  have HN5 := hide hN5
  obtain ⟨uo, uc, huv⟩ := own_shape hou
  obtain ⟨ul, hul⟩ : ∃ ul, ul = ns.length := ⟨_, rfl⟩
  rw [← hul] at huv
  rw [huv] at HST ⊢
  clear hR hnl hX5 hN5 hni5 hou hb5 huv hul HAN c2 c10 HX4 HN4 HNI4 HR4 HS4
  go_wp2_with fail
  refine HST.out.mono ?_
  rintro e w6 ⟨rfl, hX6, hni6, hf6⟩
  have hX6' : w6.heap[X]? = some (nvO (setNV ns n)) := by rw [hX6]; rfl
  have hN6 : w6.heap[N]? = some (pnO nodeZ 0 (.slice none 0 0)) := hf6.typ N _ _ _ HN5.out (by decide)
  have hr6 := HR5.out.frs hf6 (by omega) (by omega)
  have hX6l := TR.lt_of_block hX6'
  have HCT := hide (TR.count_any (setNV ns n) (settleT ns t) w6 hni6.toC)
  have HS6 := hide (HS5.out.frs hf6 (by have := HNe.out; omega) (by have := HNe.out; omega) hgw)
  have HNI6 := hide hni6
  have HR6 := hide hr6
  have HX6 := hide hX6'
  have HN6 := hide hN6
  obtain ⟨x0, x1, x2, x3, x4, x5, x6, x7⟩ := node_cells hX6'
  obtain ⟨nn, hnn⟩ : ∃ nn, nn = setNV ns n := ⟨_, rfl⟩
  rw [← hnn] at x0 x1 x2 x3 x4 x5 x6 x7 HCT HNI6 HX6
  obtain ⟨tt, htt⟩ : ∃ tt, tt = settleT ns t := ⟨_, rfl⟩
  rw [← htt] at HCT HNI6 HE4
  clear hX6 hX6' hN6 hr6 hni6 hf6 HST hnn htt HR5 HS5 HN5
  cases hbg : bigB tt with
  | true =>
   have hcnt : ¬ TR.cntA tt < 1001 := by unfold bigB at hbg; simpa using hbg
   have hE : Hid (wholeM bigB d fo l = .error (2, 0)) := by show _ = _; rw [HE4.out, hbg, if_pos rfl]
   simp only [if_neg hcnt] at HCT
   clear hcnt hbg
   go_wp2_with fail
   refine HCT.out.mono ?_
   rintro e w7 ⟨rfl, hb7⟩
   have HG := hide (giveUp_any 2 0 w7)
   simp only [givesF] at HG
   have HS7 := hide (HS6.out.trans (Step.of_below (g := g) hb7 HR6.out.lt))
   clear hb7 HCT x0 x1 x2 x3 x4 x5 x6 x7
   go_wp2_with fail
   refine HG.out.mono ?_
   rintro e w8 ⟨rfl, rfl⟩
   go_wp2
   exact ⟨rfl, .inr ⟨2, 0, hE.out, rfl, HS7.out.below⟩⟩
  | false =>
   have hcnt : TR.cntA tt < 1001 := by unfold bigB at hbg; simpa using hbg
   have hE : Hid (wholeM bigB d fo l = .ok ⟨tt, s3.groups, s3.names⟩) := by show _ = _; rw [HE4.out, hbg, if_neg (by simp)]
   simp only [if_pos hcnt] at HCT
   obtain ⟨cc, hcc⟩ : ∃ cc, cc = TR.cntA tt := ⟨_, rfl⟩
   rw [← hcc] at HCT
   clear hcnt hbg hcc
   go_wp2_with fail
   refine HCT.out.mono ?_
   rintro e w7 ⟨rfl, hb7⟩
   have hr7 := HR6.out.keep hb7
   have hX7 : w7.heap[X]? = some (nvO nn) := by rw [hb7.block X hX6l]; exact HX6.out
   have hN7 : w7.heap[N]? = some (pnO nodeZ 0 (.slice none 0 0)) := by rw [hb7.block N (by omega)]; exact HN6.out
   have HNI7 := hide (HNI6.out.keep (KeepI.of_below hb7 (by omega)))
   have HS7 := hide (HS6.out.trans (Step.of_below (g := g) hb7 HR6.out.lt))
   obtain ⟨-, -, -, -, -, -, c14, c15, -⟩ := hr7.rd
   obtain ⟨gr, hgr⟩ : ∃ gr, gr = s3.groups := ⟨_, rfl⟩
   rw [← hgr] at c14
   obtain ⟨mo, mc, hmv⟩ := hr7.names.shape
   obtain ⟨ml, hml⟩ : ∃ ml, ml = s3.names.length := ⟨_, rfl⟩
   rw [← hml] at hmv
   rw [hmv] at c15
   have HNM : Hid (NamesC w7 (.slice mo ml mc) s3.names) := by rw [← hmv]; exact hr7.names
   have HNS : Hid (∀ b, (Value.slice mo ml mc).ownBlock = some b → b ≠ N ∧ g < b ∧ b < w7.heap.size) := fun b hb => by
    have h1 := hr7.nms
    rw [hmv] at h1
    obtain ⟨h2, h3⟩ := h1.lt b hb
    refine ⟨fun e => ?_, by omega, h3⟩
    rcases h1.2 with ⟨h4, _⟩ | ⟨b', cap, cur, h4, _, h6, _⟩
    ·rw [h4] at hb; cases hb
    ·rw [h4] at hb
     have : b' = b := Option.some.inj hb
     subst this
     rw [e, hN7] at h6
     cases h6
   obtain ⟨x0, x1, x2, x3, x4, x5, x6, x7⟩ := node_cells hX7
   obtain ⟨y0, y1, y2, y3, y4, y5, y6, y7, y8, y9⟩ := pn_cells hN7
   have yf := pn_free hN7
   have HN7 := hide hN7
   have hXN : ¬ X = N := by omega
   have hNX : ¬ N = X := by omega
   have hNg : ¬ N = g := by omega
   have hgN2 : ¬ g = N := by omega
   have HGr := hide hgr
   have hX7l := TR.lt_of_block hX7
   clear hb7 HCT hr7 hX7 hN7 hgr hmv hml
   go_upto_region 9 with fail
   go_region
   all_goals
    obtain ⟨W4, hW4⟩ : ∃ W4, W4 = (setPat w7 N nn (gr : Nat) (.slice mo ml mc)).drew := ⟨_, rfl⟩
    have hN4 : W4.heap[N]? = some (pnO nn (gr : Nat) (.slice mo ml mc)) := by rw [hW4, drew_heap]; exact setPat_at HN7.out _ _ _
    have hm4 : Mv N w7 W4 := by rw [hW4]; exact mv_drew (mv_setPat (Mv.refl N w7) _ _ _)
    simp only [setPat, setNode] at hW4
    go_wp21
    rw [← hW4]
    clear hW4
    refine ret_pat (N := N) Tryz.results18 rfl hN4 (.inl ⟨_, nn, .slice mo ml mc, hE.out, ?_, fun w'' hw'' => ⟨?_, ?_⟩, (HS7.out.mvN (by have := HNe.out; omega) hgw hm4).below⟩)
    ·rw [HGr.out]
    ·have hs4 := hm4.size
     exact (HNI7.out.keep (KeepI.of_blocks fun k a b => (hw'' k (by omega) (by omega)).trans (hm4.block k (by omega) (by omega)))).toC
    ·have hs4 := hm4.size
     rcases HNM.out with ⟨a, b⟩ | ⟨x, c, a, b, e⟩
     ·exact .inl ⟨a, b⟩
     ·refine .inr ⟨x, c, a, b, fun j hj => ?_⟩
      obtain ⟨hxN, hxg, hxl⟩ := HNS.out x.block (by rw [a]; rfl)
      have hbl : w''.heap[x.block]? = w7.heap[x.block]? := (hw'' x.block hxg (by omega)).trans (hm4.block x.block hxl hxN)
      have hcell : ∀ q : Addr, q.block = x.block → w''.cell? q = w7.cell? q := fun q hq => by unfold World.cell?; rw [hq, hbl]
      exact ⟨(hcell _ (TK.add_block _ _)).trans (e j hj).1, (hcell _ (by show (x.add (j * 2)).block = _; exact TK.add_block _ _)).trans (e j hj).2⟩
end Go.Proofs.YtaccofiegkdlgaaGreatDoor.Pa
namespace Go.Proofs.YtaccofiegkdlgaaGreatDoor.Pa
set_option maxHeartbeats 8000000
open Go.RowKit
open TR (Tr NV NCells nvV nvO NodeC KidsC)
open TK (Mv PatV heap_hit)
open Br (BE PS givesF fauO fau_cells)
set_option linter.unusedVariables false
set_option maxRecDepth 100000
variable {w w' : World} {v : Value} {l : List Int} {d : Int}
theorem pcatch_idle (p q : Addr) (w : World) :
  CallsD Tryz.prog 17 #[.pointer (some p), .pointer (some q)] .returning w fun e u' w' => e = .returned (.tuple #[]) ∧ u' = .returning ∧ w' = w := by
 have hnn : ∀ w, (binOp .neq 20 .nilIface .nilIface).run Tryz.prog w = .ok (.bool false) w := fun w => by kernel_rfl
 refine callsD_of_wpS Tryz.func17 rfl fun c₀ cs hu => ?_
 apply wpS_seq
 apply wpS_region
 simp [wpOpsS, go_sem, recoverD, hu, Tryz.ntmps17, Exit.thenS]
 apply wpS_seq
 apply wpS_region
 simp [wpOpsS, go_sem, hnn, Exit.thenS]
 refine wpS_cond (t := false) (by simp [Act.eval, Array.replicate]) ?_
 simp only [Bool.false_eq_true, if_false]
 refine wpS_of_wp (wp_skip ?_)
 cases c₀
 simp_all [bodyPostS, results, Tryz.results17]
theorem pcatch_some (n k : Nat) (z c : Int) (w : World) (h1 : n < k) {n0 : NV} {g0 : Int} {v0 : Value} {e e2 : Int} (ht : w.heap[n]? = some (pnO n0 g0 v0)) (hk : w.heap[k]? = some (fauO e e2)) :
  CallsD Tryz.prog 17 #[.pointer (some ⟨n, 0, none⟩), .pointer (some ⟨k, 0, none⟩)] (.panicking [{ v := .iface 34 (.agg #[.int .i64 z, .int .i64 c]), recovered := false }]) w fun e u' w' => e = .returned (.tuple #[]) ∧ u' = .panicking [{ v := .iface 34 (.agg #[.int .i64 z, .int .i64 c]), recovered := true }] ∧ w'.heap[n]? = some (pnO nodeZ 0 (.slice none 0 0)) ∧ w'.heap[k]? = some (fauO z c) ∧ Below n w w' := by
 have hta : ∀ w, (Instr.typeAssert (.iface 34 (.agg #[.int .i64 z, .int .i64 c])) 20 34 false).run Tryz.prog w = .ok (.agg #[.int .i64 z, .int .i64 c]) w := fun w => by kernel_rfl
 have hnn : ∀ x w, (binOp .neq 20 (.iface 34 x) .nilIface).run Tryz.prog w = .ok (.bool true) w := fun x w => by rfl
 refine callsD_of_wpS Tryz.func17 rfl fun c₀ cs hu => ?_
 apply wpS_seq
 apply wpS_region
 simp [wpOpsS, go_sem, recoverD, hu, Tryz.ntmps17, Exit.thenS]
 apply wpS_seq
 apply wpS_region
 simp [wpOpsS, go_sem, hnn, Exit.thenS]
 refine wpS_cond (t := true) (by simp [Act.eval, Array.replicate]) ?_
 simp only [if_true]
 refine wpS_of_wp ?_
 obtain ⟨y0, y1, y2, y3, y4, y5, y6, y7, y8, y9⟩ := pn_cells ht
 have yf := pn_free ht
 obtain ⟨ck, ck2, fk⟩ := fau_cells hk
 have q3 : ¬ n = k := by omega
 have q4 : ¬ k = n := by omega
 have ne_nk : ∀ (X : World) o u, (X.setCell ⟨k, o, none⟩ u).heap[n]? = X.heap[n]? := fun X o u => Below.heap_setCell _ _ _ _ q3
 have ne_kn : ∀ (X : World) o u, (X.setCell ⟨n, o, none⟩ u).heap[k]? = X.heap[k]? := fun X o u => Below.heap_setCell _ _ _ _ q4
 have dr : ∀ (X : World), X.drew.heap = X.heap := fun X => rfl
 simp only [pnO] at ht
 unfold fauO at hk
 go_region
 all_goals
  refine ⟨rfl, _, rfl, .tuple #[], by simp [results, Tryz.results17], rfl, rfl, ?_, ?_, ?_⟩
  ·simp only [dr, ne_nk, heap_hit, ht, Option.map_some, pnO, nodeZ]
   simp
  ·simp only [dr, ne_kn, heap_hit, hk, Option.map_some, fauO]
   simp
  ·refine Below.drew ?_
   repeat refine Below.setCell ?_ (by first | exact Nat.le_refl _ | exact Nat.le_of_lt h1) _
   exact Below.refl _ _
abbrev pdfr (N : Nat) : List Deferred := [{ target := Target.fn (Fn.func 17) #[.pointer (some ⟨N, 0, none⟩), .pointer (some ⟨N + 1, 0, none⟩)], args := #[] }]
theorem pleave_ok {tmps : Array Value} {W : World} {N : Nat} {n : NV} {gr : Int} {u : Value} {e a : Int} {R : Ending → World → Prop} (h6 : tmps[6]? = some (.pointer (some ⟨N, 0, none⟩))) (h7 : tmps[7]? = some (.pointer (some ⟨N + 1, 0, none⟩)))
  (q0 : W.heap[N]? = some (pnO n gr u)) (q2 : W.heap[N + 1]? = some (fauO e a)) (hF : R (.returned (.tuple #[pnV n gr u, .agg #[.int .i64 e, .int .i64 a]])) W) :
  bodyPostD Tryz.prog Tryz.f11 R Exit.ret { tmps := tmps, defers := pdfr N } W := by
 obtain ⟨y0, y1, y2, y3, y4, y5, y6, y7, y8, y9⟩ := pn_cells q0
 obtain ⟨c2, c3, -⟩ := fau_cells q2
 refine leaves_cons (f := 17) (args := #[.pointer (some ⟨N, 0, none⟩), .pointer (some ⟨N + 1, 0, none⟩)]) (by simp) (by simp [go_sem]) ?_
 refine (pcatch_idle _ _ _).mono ?_
 rintro e u' w2 ⟨rfl, rfl, rfl⟩
 simp [Leaves, settle, results, Tryz.results11, go_sem, h6, h7, y0, y1, y2, y3, y4, y5, y6, y7, y8, y9, c2, c3]
 exact hF
theorem pleave_bad {tmps : Array Value} {W : World} {N : Nat} {n : NV} {gr : Int} {u : Value} {e a z c : Int} {R : Ending → World → Prop} (h6 : tmps[6]? = some (.pointer (some ⟨N, 0, none⟩))) (h7 : tmps[7]? = some (.pointer (some ⟨N + 1, 0, none⟩)))
  (q0 : W.heap[N]? = some (pnO n gr u)) (q2 : W.heap[N + 1]? = some (fauO e a)) (hF : ∀ W', Below N W W' → R (.returned (.tuple #[pnV nodeZ 0 (.slice none 0 0), .agg #[.int .i64 z, .int .i64 c]])) W') :
  bodyPostD Tryz.prog Tryz.f11 R (Exit.panic [{ v := .iface 34 (.agg #[.int .i64 z, .int .i64 c]), recovered := false }]) { tmps := tmps, defers := pdfr N } W := by
 refine leaves_cons (f := 17) (args := #[.pointer (some ⟨N, 0, none⟩), .pointer (some ⟨N + 1, 0, none⟩)]) (by simp) (by simp [go_sem]) ?_
 refine (pcatch_some N (N + 1) z c W (by omega) q0 q2).mono ?_
 rintro e u' w2 ⟨rfl, rfl, k0, k2, hb⟩
 obtain ⟨y0, y1, y2, y3, y4, y5, y6, y7, y8, y9⟩ := pn_cells k0
 obtain ⟨c2, c3, -⟩ := fau_cells k2
 have hG := hF w2 hb
 simp [Leaves, settle, results, Tryz.results11, go_sem, h6, h7, y0, y1, y2, y3, y4, y5, y6, y7, y8, y9, c2, c3]
 simp [nodeZ] at hG
 exact hG
def OutR (R : Except BE Pt) (w : World) (e : Ending) (w' : World) : Prop :=
 (∃ (p : Pt) (n : NV) (u : Value), R = .ok p ∧ e = .returned (.tuple #[pnV n (p.groups : Nat) u, .agg #[.int .i64 0, .int .i64 0]]) ∧ (∀ w'' : World, (∀ k, w.heap.size ≤ k → k < w'.heap.size → w''.heap[k]? = w'.heap[k]?) → NodeC w'' n p.tree ∧ NamesC w'' u p.names) ∧ Below w.heap.size w w') ∨ (∃ z a, R = .error (z, a) ∧ e = .returned (.tuple #[pnV nodeZ 0 (.slice none 0 0), .agg #[.int .i64 z, .int .i64 a]]) ∧ Below w.heap.size w w')
theorem read_fn (fo : Bool) (h : PatV w v l) (hT : Fo.Tab w) (hpos : 0 < w.heap.size) (hpe : TK.patE d l = 0) : Calls Tryz.prog 11 #[.int .i64 d, v, .bool fo] w fun e w' => OutR (wholeM bigB d fo l) w e w' := by
 have hmf : ∀ (fn : Fn) (first cap : Array Value) (w : World), (Instr.makeFunc fn first cap).run Tryz.prog w = .ok (.func fn first cap) w := fun _ _ _ _ => rfl
 obtain ⟨w1, hw1⟩ : ∃ w1, w1 = ((w.alloc (pnO nodeZ 0 (.slice none 0 0))).alloc (fauO 0 0)).alloc (rdO d v {} (.slice none 0 0) (.slice none 0 0)) := ⟨_, rfl⟩
 have hb1 : Below w.heap.size w w1 := by rw [hw1]; exact (((Below.refl _ w).alloc (Nat.le_refl _) _).alloc (by simp) _).alloc (by simp; omega) _
 have hN1 : w1.heap[w.heap.size]? = some (pnO nodeZ 0 (.slice none 0 0)) := by rw [hw1]; exact TK.at_old (TK.at_old (TK.at_new _ _))
 have hF1 : w1.heap[w.heap.size + 1]? = some (fauO 0 0) := by rw [hw1]; exact TK.at_old (TK.at_new' _ _ (by simp))
 have hR1 : RB w1 (w.heap.size + 1 + 1) v l d {} (.slice none 0 0) (.slice none 0 0) := by
  refine ⟨by rw [hw1]; exact TK.at_new' _ _ (by simp), h.below hb1, fun x c hl e => ?_, World.ownsRow_nil _ _ _ _, World.ownsRow_nil _ _ _ _, hT.below hb1 hpos, by omega, hpe⟩
  obtain ⟨y, c', e', _, hr⟩ := h.some hl
  rw [e'] at e
  cases e
  have := World.block_lt_of_cell? _ _ (hr 0 hl)
  rw [TK.add_block] at this
  omega
 have HX := hide (whole_fn fo hR1)
 have HB1 := hide hb1
 have HN1 := hide hN1
 have HF1 := hide hF1
 obtain ⟨ao, ac, hv⟩ := h.shape
 obtain ⟨ll, hll⟩ : ∃ ll, ll = l.length := ⟨_, rfl⟩
 rw [← hll] at hv
 simp only [pnO, nodeZ, fauO, rdO, show ((0 : Nat) : Int) = 0 from rfl] at hw1
 rw [hv] at hw1 ⊢
 clear h hT hpos hpe hb1 hN1 hF1 hR1 hv hll
 go_enter_defers Tryz.func11, Tryz.ntmps11
 go_upto_region 3 with fail
 rw [← hw1]
 clear hw1
 go_wp2_with fail
 refine HX.out.mono ?_
 rintro e w2 (⟨p, n, u, hR, rfl, hnc, hb2⟩ | ⟨z, a, hR, rfl, hb2⟩)
 ·have hN2 : w2.heap[w.heap.size]? = some (pnO nodeZ 0 (.slice none 0 0)) := by rw [hb2.block _ (by omega)]; exact HN1.out
  have hF2 : w2.heap[w.heap.size + 1]? = some (fauO 0 0) := by rw [hb2.block _ (by omega)]; exact HF1.out
  obtain ⟨y0, y1, y2, y3, y4, y5, y6, y7, y8, y9⟩ := pn_cells hN2
  have yf := pn_free hN2
  obtain ⟨ck, ck2, fk⟩ := fau_cells hF2
  have HN2 := hide hN2
  have HF2 := hide hF2
  have HNC := hide hnc
  have HRR := hide hR
  have HB2 := hide (HB1.out.trans (hb2.mono (by omega)))
  obtain ⟨uo, ul, uc, hu⟩ : ∃ uo ul uc, u = .slice uo ul uc := by
   obtain ⟨h1, h2⟩ := hnc w2 (fun _ _ _ => rfl)
   obtain ⟨a, b, c⟩ := h2.shape
   exact ⟨a, _, b, c⟩
  subst hu
  obtain ⟨gr, hgr⟩ : ∃ gr, gr = p.groups := ⟨_, rfl⟩
  rw [← hgr]
  have HGr := hide hgr
  obtain ⟨N, hNe⟩ : ∃ N, N = w.heap.size := ⟨_, rfl⟩
  have HNe := hide hNe
  have e1 : ¬ N = N + 1 := by omega
  have e2 : ¬ N + 1 = N := by omega
  rw [← hNe] at y0 y1 y2 y3 y4 y5 y6 y7 y8 y9 yf ck ck2 fk HN2 HF2 ⊢
  clear hN2 hF2 hnc hR hb2 HX hgr hNe HB1 HN1 HF1
  go_wp2
  obtain ⟨W3, hW3⟩ : ∃ W3, W3 = setPat w2 N n (gr : Nat) (.slice uo ul uc) := ⟨_, rfl⟩
  have hN3 : W3.heap[N]? = some (pnO n (gr : Nat) (.slice uo ul uc)) := by rw [hW3]; exact setPat_at HN2.out _ _ _
  have hm3 : Mv N w2 W3 := by rw [hW3]; exact mv_setPat (Mv.refl N w2) _ _ _
  have hF3 : W3.heap[N + 1]? = some (fauO 0 0) := mv_blk hm3 HF2.out (by omega)
  simp only [setPat, setNode] at hW3
  rw [← hW3]
  clear hW3
  obtain ⟨W4, hW4⟩ : ∃ W4, W4 = (W3.setCell ⟨N + 1, 0, none⟩ (.int .i64 0)).setCell ⟨N + 1, 1, none⟩ (.int .i64 0) := ⟨_, rfl⟩
  have hm4 : Mv (N + 1) W3 W4 := by rw [hW4]; exact ((Mv.refl (N + 1) W3).setCell 0 _).setCell 1 _
  have hF4 : W4.heap[N + 1]? = some (fauO 0 0) := by rw [hW4]; exact Br.fau_set hF3
  have hN4 : W4.heap[N]? = some (pnO n (gr : Nat) (.slice uo ul uc)) := mv_blk hm4 hN3 (by omega)
  rw [← hW4]
  clear hW4
  have hs3 := hm3.size
  have hs4 := hm4.size
  refine pleave_ok (N := N) rfl rfl hN4 hF4 (.inl ⟨p, n, .slice uo ul uc, HRR.out, by rw [HGr.out], fun w'' hw'' => HNC.out w'' (fun k hk hkl => ?_), ?_⟩)
  ·have := HNe.out
   rw [hw'' k (by omega) (by omega), hm4.block k (by omega) (by omega), hm3.block k hkl (by omega)]
  have h1 : Below w.heap.size w2 W3 := (hm3.below (TR.lt_of_block HN2.out)).mono (by have := HNe.out; omega)
  have h2 : Below w.heap.size W3 W4 := (hm4.below (TR.lt_of_block hF3)).mono (by have := HNe.out; omega)
  exact HB2.out.trans (h1.trans h2)
 ·have hN2 : w2.heap[w.heap.size]? = some (pnO nodeZ 0 (.slice none 0 0)) := by rw [hb2.block _ (by omega)]; exact HN1.out
  have hF2 : w2.heap[w.heap.size + 1]? = some (fauO 0 0) := by rw [hb2.block _ (by omega)]; exact HF1.out
  have HN2 := hide hN2
  have HF2 := hide hF2
  have HRR := hide hR
  have HB2 := hide (HB1.out.trans (hb2.mono (by omega)))
  clear hN2 hF2 hR hb2 HX HB1 HN1 HF1
  simp only [givesF]
  go_wp2
  exact pleave_bad (N := w.heap.size) rfl rfl HN2.out HF2.out (fun W' hb => .inr ⟨z, a, HRR.out, rfl, HB2.out.trans hb⟩)
end Go.Proofs.YtaccofiegkdlgaaGreatDoor.Pa
namespace Go.Proofs.YtaccofiegkdlgaaGreatDoor.Pa
set_option maxHeartbeats 8000000
open Go.RowKit
open TR (Tr NV NCells nvV nvO NodeC KidsC)
open TK (Mv PatV heap_hit)
open Br (BE PS givesF fauO fau_cells)
set_option linter.unusedVariables false
set_option maxRecDepth 100000
variable {w w' : World} {v : Value} {l : List Int} {d : Int}
theorem ret_parse {tmps : Array Value} {W : World} {N : Nat} {n : NV} {gr : Int} {u : Value} {e a : Int} {R : Ending → World → Prop} (h6 : tmps[6]? = some (.pointer (some ⟨N, 0, none⟩))) (h7 : tmps[7]? = some (.pointer (some ⟨N + 1, 0, none⟩)))
  (q0 : W.heap[N]? = some (pnO n gr u)) (q2 : W.heap[N + 1]? = some (fauO e a)) (hF : R (.returned (.tuple #[pnV n gr u, .agg #[.int .i64 e, .int .i64 a]])) W) :
  bodyPost Tryz.prog Tryz.f6 R Exit.ret { tmps := tmps, defers := [] } W := by
 obtain ⟨y0, y1, y2, y3, y4, y5, y6, y7, y8, y9⟩ := pn_cells q0
 obtain ⟨c2, c3, -⟩ := fau_cells q2
 refine bodyPost_ret (v := .tuple #[pnV n gr u, .agg #[.int .i64 e, .int .i64 a]]) ?_ rfl hF
 simp [results, Tryz.results6, go_sem, h6, h7, y0, y1, y2, y3, y4, y5, y6, y7, y8, y9, c2, c3]
theorem parse_fn (fo : Bool) (h : PatV w v l) (hT : Fo.Tab w) (hpos : 0 < w.heap.size) : Calls Tryz.prog 6 #[.int .i64 d, v, .bool fo] w fun e w' => OutR (patM bigB d fo l) w e w' := by
 obtain ⟨w1, hw1⟩ : ∃ w1, w1 = (w.alloc (pnO nodeZ 0 (.slice none 0 0))).alloc (fauO 0 0) := ⟨_, rfl⟩
 have hb1 : Below w.heap.size w w1 := by rw [hw1]; exact ((Below.refl _ w).alloc (Nat.le_refl _) _).alloc (by simp) _
 have hN1 : w1.heap[w.heap.size]? = some (pnO nodeZ 0 (.slice none 0 0)) := by rw [hw1]; exact TK.at_old (TK.at_new _ _)
 have hF1 : w1.heap[w.heap.size + 1]? = some (fauO 0 0) := by rw [hw1]; exact TK.at_new' _ _ (by simp)
 have hsz : w1.heap.size = w.heap.size + 1 + 1 := by rw [hw1]; simp
 have HC := hide (TK.checkPattern_any d v l w1 (h.below hb1))
 obtain ⟨ao, ac, hv⟩ := h.shape
 obtain ⟨ll, hll⟩ : ∃ ll, ll = l.length := ⟨_, rfl⟩
 rw [← hll] at hv
 have HB1 := hide hb1
 have HN1 := hide hN1
 have HF1 := hide hF1
 have HSz := hide hsz
 obtain ⟨y0, y1, y2, y3, y4, y5, y6, y7, y8, y9⟩ := pn_cells hN1
 have yf := pn_free hN1
 obtain ⟨ck, ck2, fk⟩ := fau_cells hF1
 simp only [pnO, nodeZ, fauO] at hw1
 by_cases hz : TK.patE d l = 0
 ·have hE : Hid (patM bigB d fo l = wholeM bigB d fo l) := by show _ = _; unfold patM; rw [if_neg (by simp [hz])]
  have HX := hide (read_fn (d := d) fo (h.below hb1) (hT.below hb1 hpos) (by rw [hsz]; omega) hz)
  rw [hz] at HC
  rw [hv] at HC HX ⊢
  obtain ⟨N, hNe⟩ : ∃ N, N = w.heap.size := ⟨_, rfl⟩
  have HNe := hide hNe
  have e1 : ¬ N = N + 1 := by omega
  have e2 : ¬ N + 1 = N := by omega
  clear h hT hpos hb1 hN1 hF1 hv hll hz hsz
  go_enter Tryz.func6, Tryz.ntmps6
  go_upto_region 1 with fail
  rw [← hw1]
  rw [← hNe] at y0 y1 y2 y3 y4 y5 y6 y7 y8 y9 yf ck ck2 fk HN1 HF1 HSz ⊢
  clear hw1 hNe
  go_wp2_with fail
  refine HC.out.mono ?_
  rintro e w1' ⟨rfl, rfl⟩
  go_wp2_with fail
  refine HX.out.mono ?_
  rintro e w2 (⟨p, n, u, hR, rfl, hnc, hb2⟩ | ⟨z, a, hR, rfl, hb2⟩)
  ·have hN2 : w2.heap[N]? = some (pnO nodeZ 0 (.slice none 0 0)) := by rw [hb2.block _ (by rw [HSz.out]; omega)]; exact HN1.out
   have hF2 : w2.heap[N + 1]? = some (fauO 0 0) := by rw [hb2.block _ (by rw [HSz.out]; omega)]; exact HF1.out
   clear y0 y1 y2 y3 y4 y5 y6 y7 y8 y9 yf ck ck2 fk
   obtain ⟨y0, y1, y2, y3, y4, y5, y6, y7, y8, y9⟩ := pn_cells hN2
   have yf := pn_free hN2
   obtain ⟨ck, ck2, fk⟩ := fau_cells hF2
   have HN2 := hide hN2
   have HF2 := hide hF2
   have HNC := hide hnc
   have HRR := hide (hE.out.trans hR)
   have HB2 := hide (HB1.out.trans (hb2.mono HB1.out.size))
   obtain ⟨uo, ul, uc, hu⟩ : ∃ uo ul uc, u = .slice uo ul uc := by
    obtain ⟨h1, h2⟩ := hnc w2 (fun _ _ _ => rfl)
    obtain ⟨a, b, c⟩ := h2.shape
    exact ⟨a, _, b, c⟩
   subst hu
   obtain ⟨gr, hgr⟩ : ∃ gr, gr = p.groups := ⟨_, rfl⟩
   rw [← hgr]
   have HGr := hide hgr
   clear hN2 hF2 hnc hR hb2 HX hgr HC
   go_wp21
   obtain ⟨W3, hW3⟩ : ∃ W3, W3 = setPat w2 N n (gr : Nat) (.slice uo ul uc) := ⟨_, rfl⟩
   have hN3 : W3.heap[N]? = some (pnO n (gr : Nat) (.slice uo ul uc)) := by rw [hW3]; exact setPat_at HN2.out _ _ _
   have hm3 : Mv N w2 W3 := by rw [hW3]; exact mv_setPat (Mv.refl N w2) _ _ _
   have hF3 : W3.heap[N + 1]? = some (fauO 0 0) := mv_blk hm3 HF2.out (by omega)
   simp only [setPat, setNode] at hW3
   rw [← hW3]
   clear hW3
   obtain ⟨W4, hW4⟩ : ∃ W4, W4 = (W3.setCell ⟨N + 1, 0, none⟩ (.int .i64 0)).setCell ⟨N + 1, 1, none⟩ (.int .i64 0) := ⟨_, rfl⟩
   have hm4 : Mv (N + 1) W3 W4 := by rw [hW4]; exact ((Mv.refl (N + 1) W3).setCell 0 _).setCell 1 _
   have hF4 : W4.heap[N + 1]? = some (fauO 0 0) := by rw [hW4]; exact Br.fau_set hF3
   have hN4 : W4.heap[N]? = some (pnO n (gr : Nat) (.slice uo ul uc)) := mv_blk hm4 hN3 (by omega)
   rw [← hW4]
   clear hW4
   have hs3 := hm3.size
   have hs4 := hm4.size
   refine ret_parse (N := N) rfl rfl hN4 hF4 (.inl ⟨p, n, .slice uo ul uc, HRR.out, by rw [HGr.out], fun w'' hw'' => HNC.out w'' (fun k hk hkl => ?_), ?_⟩)
   ·have h1 := HNe.out
    have h2 := HSz.out
    rw [hw'' k (by omega) (by omega), hm4.block k (by omega) (by omega), hm3.block k hkl (by omega)]
   ·have h1 : Below w.heap.size w2 W3 := (hm3.below (TR.lt_of_block HN2.out)).mono (by have := HNe.out; omega)
    have h2 : Below w.heap.size W3 W4 := (hm4.below (TR.lt_of_block hF3)).mono (by have := HNe.out; omega)
    exact HB2.out.trans (h1.trans h2)
  ·have hN2 : w2.heap[N]? = some (pnO nodeZ 0 (.slice none 0 0)) := by rw [hb2.block _ (by rw [HSz.out]; omega)]; exact HN1.out
   have hF2 : w2.heap[N + 1]? = some (fauO 0 0) := by rw [hb2.block _ (by rw [HSz.out]; omega)]; exact HF1.out
   clear y0 y1 y2 y3 y4 y5 y6 y7 y8 y9 yf ck ck2 fk
   obtain ⟨y0, y1, y2, y3, y4, y5, y6, y7, y8, y9⟩ := pn_cells hN2
   have yf := pn_free hN2
   obtain ⟨ck, ck2, fk⟩ := fau_cells hF2
   have HN2 := hide hN2
   have HF2 := hide hF2
   have HRR := hide (hE.out.trans hR)
   have HB2 := hide (HB1.out.trans (hb2.mono HB1.out.size))
   clear hN2 hF2 hR hb2 HX HC
   simp only [nodeZ]
   go_wp21
   obtain ⟨W3, hW3⟩ : ∃ W3, W3 = setPat w2 N nodeZ 0 (.slice none 0 0) := ⟨_, rfl⟩
   have hN3 : W3.heap[N]? = some (pnO nodeZ 0 (.slice none 0 0)) := by rw [hW3]; exact setPat_at HN2.out _ _ _
   have hm3 : Mv N w2 W3 := by rw [hW3]; exact mv_setPat (Mv.refl N w2) _ _ _
   have hF3 : W3.heap[N + 1]? = some (fauO 0 0) := mv_blk hm3 HF2.out (by omega)
   simp only [setPat, setNode, nodeZ] at hW3
   rw [← hW3]
   clear hW3
   obtain ⟨W4, hW4⟩ : ∃ W4, W4 = (W3.setCell ⟨N + 1, 0, none⟩ (.int .i64 z)).setCell ⟨N + 1, 1, none⟩ (.int .i64 a) := ⟨_, rfl⟩
   have hm4 : Mv (N + 1) W3 W4 := by rw [hW4]; exact ((Mv.refl (N + 1) W3).setCell 0 _).setCell 1 _
   have hF4 : W4.heap[N + 1]? = some (fauO z a) := by rw [hW4]; exact Br.fau_set hF3
   have hN4 : W4.heap[N]? = some (pnO nodeZ 0 (.slice none 0 0)) := mv_blk hm4 hN3 (by omega)
   rw [← hW4]
   clear hW4
   refine ret_parse (N := N) rfl rfl hN4 hF4 (.inr ⟨z, a, HRR.out, rfl, ?_⟩)
   have h1 : Below w.heap.size w2 W3 := (hm3.below (TR.lt_of_block HN2.out)).mono (by have := HNe.out; omega)
   have h2 : Below w.heap.size W3 W4 := (hm4.below (TR.lt_of_block hF3)).mono (by have := HNe.out; omega)
   exact HB2.out.trans (h1.trans h2)
 ·have hE : Hid (patM bigB d fo l = .error (TK.patE d l, 0)) := by show _ = _; unfold patM; rw [if_pos hz]
  obtain ⟨z, hzz⟩ : ∃ z, z = TK.patE d l := ⟨_, rfl⟩
  rw [← hzz] at HC hE hz
  have hzb : (z != 0) = true := by simpa using hz
  rw [hv] at HC ⊢
  obtain ⟨N, hNe⟩ : ∃ N, N = w.heap.size := ⟨_, rfl⟩
  have HNe := hide hNe
  have e1 : ¬ N = N + 1 := by omega
  have e2 : ¬ N + 1 = N := by omega
  clear h hT hpos hb1 hN1 hF1 hv hll hz hsz hzz
  go_enter Tryz.func6, Tryz.ntmps6
  go_upto_region 1 with fail
  rw [← hw1]
  rw [← hNe] at y0 y1 y2 y3 y4 y5 y6 y7 y8 y9 yf ck ck2 fk HN1 HF1 HSz ⊢
  clear hw1 hNe
  go_wp2_with fail
  refine HC.out.mono ?_
  rintro e w2 ⟨rfl, rfl⟩
  go_wp21
  obtain ⟨W3, hW3⟩ : ∃ W3, W3 = setPat w1 N nodeZ 0 (.slice none 0 0) := ⟨_, rfl⟩
  have hN3 : W3.heap[N]? = some (pnO nodeZ 0 (.slice none 0 0)) := by rw [hW3]; exact setPat_at HN1.out _ _ _
  have hm3 : Mv N w1 W3 := by rw [hW3]; exact mv_setPat (Mv.refl N w1) _ _ _
  have hF3 : W3.heap[N + 1]? = some (fauO 0 0) := mv_blk hm3 HF1.out (by omega)
  simp only [setPat, setNode, nodeZ] at hW3
  rw [← hW3]
  clear hW3
  obtain ⟨W4, hW4⟩ : ∃ W4, W4 = (W3.setCell ⟨N + 1, 0, none⟩ (.int .i64 z)).setCell ⟨N + 1, 1, none⟩ (.int .i64 0) := ⟨_, rfl⟩
  have hm4 : Mv (N + 1) W3 W4 := by rw [hW4]; exact ((Mv.refl (N + 1) W3).setCell 0 _).setCell 1 _
  have hF4 : W4.heap[N + 1]? = some (fauO z 0) := by rw [hW4]; exact Br.fau_set hF3
  have hN4 : W4.heap[N]? = some (pnO nodeZ 0 (.slice none 0 0)) := mv_blk hm4 hN3 (by omega)
  rw [← hW4]
  clear hW4
  refine ret_parse (N := N) rfl rfl hN4 hF4 (.inr ⟨z, 0, hE.out, rfl, ?_⟩)
  have h1 : Below w.heap.size w1 W3 := (hm3.below (TR.lt_of_block HN1.out)).mono (by have := HNe.out; omega)
  have h2 : Below w.heap.size W3 W4 := (hm4.below (TR.lt_of_block hF3)).mono (by have := HNe.out; omega)
  exact HB1.out.trans (h1.trans h2)
end Go.Proofs.YtaccofiegkdlgaaGreatDoor.Pa
