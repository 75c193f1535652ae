import Derived.Test.YtaccofiegkdlgaaGreatDoorMI
namespace Go.Proofs.YtaccofiegkdlgaaGreatDoor.Pa
set_option maxHeartbeats 8000000
open Go.RowKit
open TR (Tr NV NCells nvV nvO NodeC KidsC)
open TK (Mv PatV)
open Br (BE PS givesF manyB fldB rngOf OR fauO)
set_option linter.unusedVariables false
set_option maxRecDepth 100000
variable {w w' : World} {g : Nat} {v : Value} {l : List Int} {d : Int} {s s' : St} {nv av : Value}
theorem infoNode : (Tryz.prog.info? 28).map (fun i => (i.zero, i.size, i.bytes)) = some (some (.agg #[.int .i64 0, .slice none 0 0, .slice none 0 0, .int .i64 0, .int .i64 0, .int .i64 0, .int .i64 0, .bool false]), 8, 96) := by kernel_rfl
structure Flat (w : World) (lo hi : Nat) (ps : List Pc) (j : Nat) (ks : List Pc) : Prop where
 all : ∀ q ∈ ks, NodeI w q.lo q.hi q.nv q.tr ∧ lo ≤ q.lo ∧ q.lo ≤ q.hi ∧ q.hi ≤ hi
 par : ks.Pairwise fun a b => a.hi ≤ b.lo
 far : ∀ q ∈ ks, ∀ i (h : i < ps.length), j ≤ i → q.hi ≤ ps[i].lo
theorem Flat.nil (w : World) (lo hi : Nat) (ps : List Pc) : Flat w lo hi ps 0 [] := ⟨fun q hq => (by cases hq), List.Pairwise.nil, fun q hq => (by cases hq)⟩
theorem Flat.skip {w : World} {lo hi j : Nat} {ps ks : List Pc} (h : Flat w lo hi ps j ks) : Flat w lo hi ps (j + 1) ks := ⟨h.all, h.par, fun q hq i hi hj => h.far q hq i hi (by omega)⟩
theorem Flat.many {w : World} {lo hi j : Nat} {ps ks : List Pc} {v : Value} (hp : Pieces w lo hi v ps) (h : Flat w lo hi ps j ks) (hj : j < ps.length) {qs : List Pc} (h1 : ∀ q ∈ qs, NodeI w q.lo q.hi q.nv q.tr ∧ ps[j].lo ≤ q.lo ∧ q.lo ≤ q.hi ∧ q.hi ≤ ps[j].hi) (h2 : qs.Pairwise fun a b => a.hi ≤ b.lo) : Flat w lo hi ps (j + 1) (ks ++ qs) := by
 have hr := hp.row.rng ps[j] (List.getElem_mem hj)
 refine ⟨fun q hq => ?_, ?_, fun q hq i hi hji => ?_⟩
 ·rcases List.mem_append.1 hq with h3 | h3
  ·exact h.all q h3
  ·obtain ⟨a, b, c, e⟩ := h1 q h3
   exact ⟨a, by omega, c, by omega⟩
 ·rw [List.pairwise_append]
  refine ⟨h.par, h2, fun a ha b hb => ?_⟩
  have := h.far a ha j hj (Nat.le_refl _)
  have := (h1 b hb).2.1
  omega
 ·rcases List.mem_append.1 hq with h3 | h3
  ·exact h.far q h3 i hi (by omega)
  ·have h4 := (h1 q h3).2.2.2
   have h5 := List.pairwise_iff_getElem.1 hp.row.par j i hj hi (by omega)
   omega
theorem Flat.one {w : World} {lo hi j : Nat} {ps ks : List Pc} {v : Value} (hp : Pieces w lo hi v ps) (h : Flat w lo hi ps j ks) (hj : j < ps.length) : Flat w lo hi ps (j + 1) (ks ++ [ps[j]]) := by
 have hr := hp.row.rng ps[j] (List.getElem_mem hj)
 exact h.many hp hj (fun q hq => by rw [List.mem_singleton] at hq; subst hq; exact ⟨hp.all _ (List.getElem_mem hj), Nat.le_refl _, hr.2.1, Nat.le_refl _⟩) (List.pairwise_singleton _ _)
theorem Flat.pieces {w w' : World} {lo hi j : Nat} {ps ks : List Pc} {kv : Value} (h : Flat w lo hi ps j ks) (hhi : hi ≤ w.heap.size) (hlo : lo ≤ w.heap.size) (hb : Below w.heap.size w w') (ho : w'.ownsRow w.heap.size 28 8 kv ks.length (cellsP ks)) : Pieces w' lo w'.heap.size kv ks := by
 refine ⟨⟨own_base ho hlo, fun k hk => ⟨(ho.lt k hk).2, fun p hp => .inr ?_⟩, fun p hp => ?_, h.par⟩, fun p hp => ?_⟩
 ·have := (ho.lt k hk).1
  have := (h.all p hp).2.2.2
  omega
 ·obtain ⟨_, a, b, c⟩ := h.all p hp
  have := hb.size
  exact ⟨a, b, by omega⟩
 ·exact (h.all p hp).1.keep (KeepI.of_below hb (by have := (h.all p hp).2.2.2; omega))
theorem NodeI.kidsP {w : World} {lo hi : Nat} {n : NV} {t : Tr} (h : NodeI w lo hi n t) : t.kind = n.kind ∧ ∃ qs : List Pc, t.kids = qs.map Pc.tr ∧ (n.kind = 9 ∨ n.kind = 10 → qs ≠ []) ∧ w.ownsRow lo 28 8 (.slice n.ka n.kl n.kc) qs.length (cellsP qs) ∧ (∀ q ∈ qs, NodeI w q.lo q.hi q.nv q.tr ∧ lo ≤ q.lo ∧ q.lo ≤ q.hi ∧ q.hi ≤ hi) ∧ (qs.Pairwise fun a b => a.hi ≤ b.lo) := by
 cases h with
 | mk _ _ n S ps hs hk hne h => exact ⟨rfl, ps, rfl, hne, hk.own, fun q hq => ⟨h q hq, hk.rng q hq⟩, hk.par⟩
theorem cells_nodeP (W : World) (n : NV) : ∀ j u, (nvL n)[j]? = some u → (W.alloc (nvO n)).cell? ((⟨W.heap.size, 0, none⟩ : Addr).add j) = some u := by
 intro j u hj
 have := World.news_of_block (cs := #[.int .i64 n.kind, .slice n.sa n.sl n.sc, .slice n.ka n.kl n.kc, .int .i64 n.num, .int .i64 n.least, .int .i64 n.most, .int .i64 n.way, .bool n.fold]) (t := 28) (fr := (0, 0)) (heap_alloc_new W (nvO n)) j u
 exact this hj
def rowC (t : Tr) : List Tr := if t.kind = 1 then [] else if t.kind = 9 then t.kids else [t]
def eitC (t : Tr) : List Tr := if t.kind = 10 then t.kids else [t]
def eitL (bs : List Tr) : List Tr := bs.flatMap eitC
theorem flat_take {C : Tr → List Tr} (ps : List Pc) (j : Nat) (hj : j < ps.length) : ((ps.take (j + 1)).map Pc.tr).flatMap C = ((ps.take j).map Pc.tr).flatMap C ++ C ps[j].tr := by
 rw [List.take_add_one, List.getElem?_eq_getElem hj, List.map_append, List.flatMap_append]
 congr 1
 simp
theorem flat_len {C : Tr → List Tr} (ps : List Pc) (j : Nat) : (((ps.take j).map Pc.tr).flatMap C).length ≤ ((ps.map Pc.tr).flatMap C).length := by
 conv => rhs; rw [← List.take_append_drop j ps]
 rw [List.map_append, List.flatMap_append, List.length_append]
 omega
theorem below_app1 {w wr W W' : World} {kv : Value} {n : Nat} {xs : List Value} (hb : Below w.heap.size w wr) (hb2 : Below wr.heap.size wr W) (ho : wr.ownsRow (w.heap.size + 1) 28 8 kv n xs) (hg : W.grownBy W' kv.ownBlock) : Below w.heap.size w W' :=
 (hb.trans (hb2.mono hb.size)).grown hg (Nat.le_trans hb.size hb2.size) (fun k hk => by have := (ho.lt k hk).1; omega)
theorem grow_nodeN {W W' W3 : World} {kv : Value} {n B N : Nat} {xs : List Value} {o : Obj} (hg : W.grownBy W' kv.ownBlock) (hNB : N < B) (ho : W3.ownsRow B 28 8 kv n xs) (hN : W.heap[N]? = some o) : W'.heap[N]? = some o := by
 rw [hg.block N (TR.lt_of_block hN) (fun e => by have := (ho.lt N e.symm).1; omega)]
 exact hN
theorem own_some8 {W : World} {B e k n : Nat} {v : Value} {xs : List Value} (h : W.ownsRow B e k v n xs) (hn : 0 < n) : ∃ b cap, v = .slice (some ⟨b, 0, none⟩) n cap ∧ b < W.heap.size := by
 rcases h.2 with ⟨_, h0⟩ | ⟨b, cap, cur, h1, _, h3, _⟩
 ·omega
 ·exact ⟨b, cap, h1, TR.lt_of_block h3⟩
theorem own_mvN {W W' : World} {B B' e k n N : Nat} {v : Value} {xs : List Value} (h : W.ownsRow B e k v n xs) (hm : Mv N W W') (hN : N < B ∧ B' ≤ B) : W'.ownsRow B' e k v n xs := by
 refine ⟨h.1, ?_⟩
 rcases h.2 with h2 | ⟨b, cap, cur, rfl, h3, hg, h4⟩
 ·exact .inl h2
 ·exact .inr ⟨b, cap, cur, rfl, by omega, by rw [hm.block b (TR.lt_of_block hg) (by omega)]; exact hg, h4⟩
theorem ncells_below' {W W' : World} {B : Nat} {a : Addr} {n : NV} (h : NCells W a n) (hb : Below B W W') (ha : a.block < B) : NCells W' a n :=
 ⟨below_cell hb ha h.c0, below_cell hb ha h.c1, below_cell hb ha h.c2, below_cell hb ha h.c3, below_cell hb ha h.c4, below_cell hb ha h.c5, below_cell hb ha h.c6, below_cell hb ha h.c7⟩
theorem either_eq {bs : List Tr} {ks : List Pc} (h : ks.map Pc.tr = eitL bs) (h2 : 2 ≤ bs.length) : eitherT bs = .mk 10 0 0 0 0 false [] (ks.map Pc.tr) := by
 rw [h]
 unfold eitherT
 match bs, h2 with
 | a :: b :: r, _ => rfl
theorem either_ne {bs : List Tr} {ks : List Pc} (h : ks.map Pc.tr = eitL bs) (h2 : 2 ≤ bs.length) (hk : ∀ t ∈ bs, t.kind = 10 → t.kids ≠ []) : ks ≠ [] := by
 intro e
 rw [e] at h
 match bs, h2 with
 | a :: b :: r, _ =>
  have h3 : eitC a = [] := by
   have : eitL (a :: b :: r) = eitC a ++ eitL (b :: r) := rfl
   rw [this] at h
   exact (List.append_eq_nil_iff.1 h.symm).1
  unfold eitC at h3
  split at h3
  ·rename_i hk10
   exact hk a (by simp) hk10 h3
  ·cases h3
theorem row_fn {lo hi : Nat} {ps : List Pc} (hp : Pieces w lo hi v ps) (hhi : hi ≤ w.heap.size) (hlo : lo ≤ w.heap.size) (hps : ps.length ≤ 1000000) (hlen : (rowL (ps.map Pc.tr)).length ≤ 1000000) : Calls Tryz.prog 34 #[v] w fun e w' => ∃ n', e = .returned (nvV n') ∧ NodeI w' lo w'.heap.size n' (rowT (ps.map Pc.tr)) ∧ Below w.heap.size w w' := by
 obtain ⟨i0, hi0, hz0, hz1, hz2⟩ := info_parts infoNode
 obtain ⟨ao, c, hv⟩ := own_shape hp.row.own
 obtain ⟨m, hm⟩ : ∃ m, m = ps.length := ⟨_, rfl⟩
 rw [← hm] at hv hps
 have HM := hide hm
 have HP := hide hp
 have HHI := hide hhi
 have HLO := hide hlo
 have HLEN := hide hlen
 have HV := hide hv
 have HCell : Hid (∀ W, Below w.heap.size w W → ∀ j (hj : j < ps.length), ∃ b cap, ao = some ⟨b, 0, none⟩ ∧ c = cap ∧ m ≤ cap ∧ NCells W ⟨b, j * 8, none⟩ ps[j].nv) := fun W hb j hj => by
  have ho := HP.out.row.own
  rw [HV.out, ← HM.out] at ho
  rcases ho.2 with ⟨_, h0⟩ | ⟨b, cap, cur, h1, _, h3, h4, _⟩
  ·omega
  ·cases h1
   rw [HM.out] at ho
   exact ⟨b, c, rfl, rfl, h4, ncells_below' (own_ncells ho hj) hb (TR.lt_of_block h3)⟩
 rw [hv]
 clear hp hhi hlo hlen hm hv
 have hbN : Below w.heap.size w (w.alloc (nvO nodeZ)) := (Below.refl _ w).alloc (Nat.le_refl _) _
 have HN0 : Hid ((w.alloc (nvO nodeZ)).heap[w.heap.size]? = some (nvO nodeZ)) := TK.at_new _ _
 obtain ⟨W0, hW0⟩ : ∃ W0, W0 = w.alloc (nvO nodeZ) := ⟨_, rfl⟩
 have hsz0 : w.heap.size + 1 = W0.heap.size := by rw [hW0]; simp
 rw [← hW0] at hbN HN0
 simp only [nvO, nodeZ] at hW0
 have HBN := hide hbN
 have HSZ := hide hsz0
 clear hbN hsz0
 go_enter Tryz.func34, Tryz.ntmps34
 go_wp2_with fail
 rw [← hW0]
 clear hW0
 obtain ⟨N, hNe⟩ : ∃ N, N = w.heap.size := ⟨_, rfl⟩
 have HNe := hide hNe
 rw [← hNe] at HN0 ⊢
 clear hNe
 go_loopw [3, 8] (fun kv u wr => ∃ (j : Nat) (ks : List Pc), j ≤ m ∧ u = .int .i64 j ∧ Flat w lo hi ps j ks ∧ ks.map Pc.tr = ((ps.take j).map Pc.tr).flatMap rowC ∧ wr.ownsRow (w.heap.size + 1) 28 8 kv ks.length (cellsP ks) ∧ Below w.heap.size w wr ∧ wr.heap[N]? = some (nvO nodeZ)) (fun _ u _ => m - (intOf u).toNat)
 case atStart => exact ⟨0, [], Nat.zero_le _, rfl, Flat.nil _ _ _ _, by simp, World.ownsRow_nil _ _ _ _, HBN.out, HN0.out⟩
 case round =>
  obtain ⟨j, ks, hj, rfl, hF, hT, ho, hb, hN⟩ := hrel
  obtain ⟨wr2, hwr⟩ : ∃ wr2, wr2 = wr := ⟨_, rfl⟩
  subst hwr
  have HF := hide hF
  have HT := hide hT
  have HO := hide ho
  have HB := hide hb
  have HN := hide hN
  have hkl : ks.length ≤ 1000000 := by
   have h1 := congrArg List.length hT
   rw [List.length_map] at h1
   have h2 := flat_len (C := rowC) ps j
   have h3 := HLEN.out
   change ((ps.map Pc.tr).flatMap rowC).length ≤ 1000000 at h3
   omega
  obtain ⟨ko, kc, hkv⟩ := own_shape ho
  obtain ⟨kn, hkn⟩ : ∃ kn, kn = ks.length := ⟨_, rfl⟩
  rw [← hkn] at hkv hkl
  have HKN := hide hkn
  rw [hkv] at HO ⊢
  have HO1 : Hid (wr2.ownsRow (w.heap.size + 1) 28 8 (.slice ko kn kc) ks.length (cellsP ks)) := HO.out
  have HF1 : Hid (∀ p : Pc, lo ≤ w.heap.size + 0 → True) := fun _ _ => trivial
  rw [← hkn] at HO
  clear hF hT ho hb hN hkv hkn
  by_cases hlt : j < m
  ·have hjl : j < ps.length := by have := HM.out; omega
   obtain ⟨b, cap, hao, hc, hcap, hcl⟩ := HCell.out wr2 HB.out j hjl
   have HNI := hide (HP.out.all ps[j] (List.getElem_mem hjl))
   have HONE := hide (HF.out.one HP.out hjl)
   have HTK := hide (flat_take (C := rowC) ps j hjl)
   obtain ⟨hkind, qs, hqk, hqne, hqo, hqa, hqp⟩ := HNI.out.kidsP
   have HMANY := hide (HF.out.many HP.out hjl hqa hqp)
   have hlen2 := flat_len (C := rowC) ps (j + 1)
   rw [HTK.out, List.length_append] at hlen2
   have h3 := HLEN.out
   change ((ps.map Pc.tr).flatMap rowC).length ≤ 1000000 at h3
   have hTl := congrArg List.length HT.out
   rw [List.length_map, ← HKN.out] at hTl
   have HTl := hide hTl
   clear hTl
   have HSK := hide HF.out.skip
   obtain ⟨p, hpp⟩ : ∃ p, p = ps[j] := ⟨_, rfl⟩
   rw [← hpp] at hcl HNI HONE HTK hkind hqk hqne hqo hqa hlen2
   obtain ⟨n, hn⟩ : ∃ n, n = p.nv := ⟨_, rfl⟩
   rw [← hn] at hcl hkind hqne hqo
   have HNn := hide hn
   subst hao hc
   obtain ⟨e0, e1, e2, e3, e4, e5, e6, e7⟩ := hcl
   simp only at e0 e1 e2 e3 e4 e5 e6 e7
   have e8 : (j : Int) < (m : Int) := by omega
   have e9 : (0 : Int) ≤ (j : Int) := by omega
   have hjw : IntKind.i64.wrap ((j : Int) + 1) = (j : Int) + 1 := by rw [IntKind.wrap_i64]; omega
   have HQO := hide hqo
   have HQN := hide hqne
   have HQK := hide hqk
   have HKD := hide hkind
   clear hpp hn hqo hqa hqp hqne hqk
   go_upto_region 5 with fail
   obtain ⟨w3, hw3⟩ : ∃ w3, w3 = wr2.alloc (nvO n) := ⟨_, rfl⟩
   have hL : w3.heap[wr2.heap.size]? = some (nvO n) := by rw [hw3]; exact TK.at_new _ _
   have hb3 : Below wr2.heap.size wr2 w3 := by rw [hw3]; exact (Below.refl _ wr2).alloc (Nat.le_refl _) _
   obtain ⟨d0, d1, d2, d3, d4, d5, d6, d7⟩ := node_cells hL
   have HL := hide hL
   have HB3 := hide hb3
   have HO3 := hide (own_below HO.out hb3)
   have HN3 : Hid (w3.heap[N]? = some (nvO nodeZ)) := by show _ = _; rw [hb3.block N (TR.lt_of_block HN.out)]; exact HN.out
   have hsz3 : w.heap.size + 1 ≤ w3.heap.size := by have h1 := TR.lt_of_block HN3.out; have h2 := HNe.out; omega
   have HLt : Hid (wr2.heap.size < w3.heap.size) := TR.lt_of_block hL
   simp only [nvO] at hw3
   rw [← hw3]
   obtain ⟨M, hMe⟩ : ∃ M, M = wr2.heap.size := ⟨_, rfl⟩
   rw [← hMe] at d0 d1 d2 d3 d4 d5 d6 d7 HL HLt ⊢
   clear hw3 hL hb3 e0 e1 e2 e3 e4 e5 e6 e7 hMe
   by_cases k1 : n.kind = 1
   ·have EC : rowC p.tr = [] := by unfold rowC; rw [if_pos (by rw [hkind]; exact k1)]
    have HB4 : Hid (Below w.heap.size w w3) := HB.out.trans (HB3.out.mono HB.out.size)
    clear d1 d2 d3 d4 d5 d6 d7
    go_wp2
    go_roundw
    case rel => exact ⟨j + 1, ks, by omega, by go_num, HSK.out, by rw [HT.out, HTK.out, EC, List.append_nil], by rw [← HKN.out]; exact HO3.out, HB4.out, HN3.out⟩
    case measure => simp [intOf]; omega
   ·have q1 : (n.kind == 1) = false := by simpa using k1
    by_cases k9 : n.kind = 9
    ·have EC : rowC p.tr = p.tr.kids := by unfold rowC; rw [if_neg (by rw [hkind]; exact k1), if_pos (by rw [hkind]; exact k9)]
     have KK := k9
     obtain ⟨qg, qcap, hqv, hqb⟩ := own_some8 HQO.out (List.length_pos_iff.2 (HQN.out (by rw [KK]; decide)))
     have hql : qs.length ≤ 1000000 := by have h1 := congrArg List.length HQK.out; rw [List.length_map] at h1; rw [EC, HQK.out, List.length_map] at hlen2; have h9 := HTl.out; omega
     have hkq : kn + qs.length ≤ 1000000 := by rw [EC, HQK.out, List.length_map] at hlen2; have h9 := HTl.out; omega
     have hqo3 : ∀ i u, (cellsP qs)[i]? = some u → w3.cell? ((⟨qg, 0, none⟩ : Addr).add i) = some u := fun i u hu => by
      have h1 := HQO.out.cells (g := qg) (by rw [hqv]; rfl) i u hu
      exact below_cell ((HB.out.trans (HB3.out.mono HB.out.size))) (by rw [zadd]; exact hqb) h1
     have hqlen := cellsP_len qs
     rw [hqv] at d2
     have HQ3 := hide hqo3
     clear hqo3 hqv
     go_wp2_with (at_builtin; refine wpList_append_own_at _ rfl _ _ 26 rfl (w.heap.size + 1) 28 i0 (.agg #[.int .i64 0, .slice none 0 0, .slice none 0 0, .int .i64 0, .int .i64 0, .int .i64 0, .int .i64 0, .bool false]) 8 96 Tryz.underlying26 hi0 hz0 hz1 hz2 rfl (by decide) _ _ _ rfl HO3.out ⟨qg, 0, none⟩ qs.length qcap (cellsP qs) rfl hqlen HQ3.out (cellsP_ones qs) (by unfold maxLen; omega) (by omega) (by omega) ?_)
     intro v' w4 hown' hgrow _ _
     have HO4 : Hid (w4.ownsRow (w.heap.size + 1) 28 8 v' (ks ++ qs).length (cellsP (ks ++ qs))) := by
      show World.ownsRow _ _ _ _ _ _ _
      rw [cellsP_append, List.length_append, ← HKN.out]
      exact hown'
     have HB4 : Hid (Below w.heap.size w w4) := below_app1 HB.out HB3.out HO.out hgrow
     have HN4 : Hid (w4.heap[N]? = some (nvO nodeZ)) := grow_nodeN hgrow (by have := HNe.out; omega) HO3.out HN3.out
     obtain ⟨vo, vc, hv4⟩ := own_shape hown'
     obtain ⟨n4, hn4⟩ : ∃ n4, n4 = kn + qs.length := ⟨_, rfl⟩
     rw [← hn4] at hv4
     rw [hv4] at HO4 ⊢
     clear hown' hgrow hv4 d0 d1 d2 d3 d4 d5 d6 d7 hn4
     go_wp2
     go_roundw
     case rel => exact ⟨j + 1, ks ++ qs, by omega, by go_num, HMANY.out, by rw [List.map_append, HT.out, HTK.out, EC, HQK.out], HO4.out, HB4.out, HN4.out⟩
     case measure => simp [intOf]; omega
    ·have q9 : (n.kind == 9) = false := by simpa using k9
     have EC : rowC p.tr = [p.tr] := by unfold rowC; rw [if_neg (by rw [hkind]; exact k1), if_neg (by rw [hkind]; exact k9)]
     have hk1 : kn + 1 ≤ 1000000 := by rw [EC] at hlen2; simp only [List.length_singleton] at hlen2; have h9 := HTl.out; omega
     go_wp2_with (at_builtin; refine wpList_append_own_at _ rfl _ _ 26 rfl (w.heap.size + 1) 28 i0 (.agg #[.int .i64 0, .slice none 0 0, .slice none 0 0, .int .i64 0, .int .i64 0, .int .i64 0, .int .i64 0, .bool false]) 8 96 Tryz.underlying26 hi0 hz0 hz1 hz2 rfl (by decide) _ _ _ rfl (HO3.out.alloc _) ⟨w3.heap.size, 0, none⟩ 1 1 (nvL n) rfl rfl (cells_nodeP w3 n) (nvL_one n) (by unfold maxLen; omega) (by omega) (by simp; omega) ?_)
     intro v' w4 hown' hgrow _ _
     have HO4 : Hid (w4.ownsRow (w.heap.size + 1) 28 8 v' (ks ++ [p]).length (cellsP (ks ++ [p]))) := by
      show World.ownsRow _ _ _ _ _ _ _
      rw [cellsP_append, cellsP_one, ← HNn.out, List.length_append, ← HKN.out]
      exact hown'
     have HB4 : Hid (Below w.heap.size w w4) := below_app1 HB.out (HB3.out.trans (((Below.refl _ w3).alloc (Nat.le_refl _) _).mono HB3.out.size)) HO.out hgrow
     have HN4 : Hid (w4.heap[N]? = some (nvO nodeZ)) := grow_nodeN hgrow (by have := HNe.out; omega) HO3.out (TK.at_old HN3.out)
     obtain ⟨vo, vc, hv4⟩ := own_shape hown'
     rw [hv4] at HO4 ⊢
     clear hown' hgrow hv4 d0 d1 d2 d3 d4 d5 d6 d7
     go_wp2
     go_roundw
     case rel => exact ⟨j + 1, ks ++ [p], by omega, by go_num, HONE.out, by rw [List.map_append, HT.out, HTK.out, EC]; rfl, HO4.out, HB4.out, HN4.out⟩
     case measure => simp [intOf]; omega
  ·have hjm : j = m := by omega
   have hTT : ks.map Pc.tr = rowL (ps.map Pc.tr) := by
    rw [HT.out, hjm, HM.out, List.take_length]
    rfl
   have HPS := hide (HF.out.pieces HHI.out HLO.out HB.out (own_base HO1.out (Nat.le_succ _)))
   have hfr := node_free HN.out
   obtain ⟨x0, x1, x2, x3, x4, x5, x6, x7⟩ := node_cells HN.out
   have HNn := hide (show w.heap.size ≤ N by have := HNe.out; omega)
   by_cases z0 : kn = 0
   ·have hnil : ks = [] := List.eq_nil_of_length_eq_zero (by have := HKN.out; omega)
    have hE : Hid (rowT (ps.map Pc.tr) = emptyT) := by show _ = _; unfold rowT; rw [← hTT, hnil]; rfl
    subst z0
    clear hTT hnil
    go_wp21
    obtain ⟨W4, hW4⟩ : ∃ W4, W4 = setNode wr2 N ⟨1, none, 0, 0, none, 0, 0, 0, 0, 0, 0, false⟩ := ⟨_, rfl⟩
    have hN4 : W4.heap[N]? = some (nvO ⟨1, none, 0, 0, none, 0, 0, 0, 0, 0, 0, false⟩) := by rw [hW4]; exact setNode_at HN.out _
    have hb4 : Below w.heap.size w W4 := by rw [hW4]; exact below_setNode HB.out HNn.out _
    simp only [setNode] at hW4
    rw [← hW4]
    refine ret_node (N := N) Tryz.results34 rfl (TR.nv_cells hN4) ⟨_, rfl, ?_, hb4⟩
    rw [hE.out]
    exact NodeI.leaf _ _ _ 1 0 0 0 0 false (by decide)
   ·by_cases z1 : kn = 1
    ·obtain ⟨p, hks⟩ : ∃ p, ks = [p] := List.length_eq_one_iff.1 (by have := HKN.out; omega)
     have hE : Hid (rowT (ps.map Pc.tr) = p.tr) := by show _ = _; unfold rowT; rw [← hTT, hks]; rfl
     obtain ⟨kg, kcap, hkv, hkb⟩ := own_some8 (HO1.out) (by rw [hks]; simp)
     have hcl := HO1.out
     rw [hkv, hks] at hcl
     have hcells := own_ncells hcl (j := 0) (by simp)
     have HNI := hide (HPS.out.all p (by rw [hks]; simp))
     have HFA := hide (HF.out.all p (by rw [hks]; simp))
     have HHh := HHI.out
     obtain ⟨n, hn⟩ : ∃ n, n = p.nv := ⟨_, rfl⟩
     have hcells2 : NCells wr2 ⟨kg, 0, none⟩ n := by rw [hn]; exact hcells
     rw [← hn] at HNI
     obtain ⟨e0, e1, e2, e3, e4, e5, e6, e7⟩ := hcells2
     simp only [Nat.zero_add] at e0 e1 e2 e3 e4 e5 e6 e7
     have hko : ko = some ⟨kg, 0, none⟩ := by injection hkv
     subst hko z1
     have hkgN : ¬ kg = N := by have h1 := (HO1.out.lt kg rfl).1; have := HNe.out; omega
     have hNkg : ¬ N = kg := fun e => hkgN e.symm
     clear hTT hks hcl hcells hkv hn
     go_wp21
     obtain ⟨W4, hW4⟩ : ∃ W4, W4 = setNode wr2 N n := ⟨_, rfl⟩
     have hN4 : W4.heap[N]? = some (nvO n) := by rw [hW4]; exact setNode_at HN.out _
     have hb4 : Below w.heap.size w W4 := by rw [hW4]; exact below_setNode HB.out HNn.out _
     have hm4 : Mv N wr2 W4 := by rw [hW4]; exact mv_setNode (Mv.refl N wr2) n
     simp only [setNode] at hW4
     rw [← hW4]
     refine ret_node (N := N) Tryz.results34 rfl (TR.nv_cells hN4) ⟨_, rfl, ?_, hb4⟩
     rw [hE.out]
     have hal := HFA.out
     refine (HNI.out.keep (KeepI.of_blocks fun k h1 h2 => hm4.block k ?_ ?_)).wide hal.2.1 ?_
     ·have h3 := hal.2.2.2
      have h4 := HB.out.size
      omega
     ·have h3 := hal.2.2.2
      have h4 := HNn.out
      omega
     ·have h3 := hal.2.2.2
      have h4 := hb4.size
      omega
    ·have hE : Hid (rowT (ps.map Pc.tr) = .mk 9 0 0 0 0 false [] (ks.map Pc.tr)) := by
      show _ = _
      have h1 := HKN.out
      unfold rowT
      rw [← hTT]
      match ks, h1 with
      | [], h1 => simp at h1; omega
      | [a], h1 => simp at h1; omega
      | a :: b :: r, _ => rfl
     have q0 : ¬ (kn : Int) = 0 := by omega
     have q1 : ¬ (kn : Int) = 1 := by omega
     have hne : ks ≠ [] := fun e => by have h1 := HKN.out; rw [e] at h1; simp at h1; omega
     clear hTT
     go_wp21
     obtain ⟨W4, hW4⟩ : ∃ W4, W4 = setNode wr2 N ⟨9, none, 0, 0, ko, kn, kc, 0, 0, 0, 0, false⟩ := ⟨_, rfl⟩
     have hN4 : W4.heap[N]? = some (nvO ⟨9, none, 0, 0, ko, kn, kc, 0, 0, 0, 0, false⟩) := by rw [hW4]; exact setNode_at HN.out _
     have hb4 : Below w.heap.size w W4 := by rw [hW4]; exact below_setNode HB.out HNn.out _
     have hm4 : Mv N wr2 W4 := by rw [hW4]; exact mv_setNode (Mv.refl N wr2) _
     simp only [setNode] at hW4
     rw [← hW4]
     refine ret_node (N := N) Tryz.results34 rfl (TR.nv_cells hN4) ⟨_, rfl, ?_, hb4⟩
     rw [hE.out]
     exact (HF.out.pieces HHI.out HLO.out hb4 (own_mvN HO1.out hm4 (by have := HNe.out; omega))).node 9 0 0 0 0 false hne
end Go.Proofs.YtaccofiegkdlgaaGreatDoor.Pa
namespace Go.Proofs.YtaccofiegkdlgaaGreatDoor.Pa
set_option maxHeartbeats 8000000
open Go.RowKit
open TR (Tr NV NCells nvV nvO NodeC KidsC)
open TK (Mv PatV)
open Br (BE PS givesF manyB fldB rngOf OR fauO)
set_option linter.unusedVariables false
set_option maxRecDepth 100000
variable {w w' : World} {g : Nat} {v : Value} {l : List Int} {d : Int} {s s' : St} {nv av : Value}
theorem either_fn {lo hi : Nat} {ps : List Pc} (hp : Pieces w lo hi v ps) (hhi : hi ≤ w.heap.size) (hlo : lo ≤ w.heap.size) (hps : ps.length ≤ 1000000) (hlen : (eitL (ps.map Pc.tr)).length ≤ 1000000) (h2 : 2 ≤ ps.length) : Calls Tryz.prog 29 #[v] w fun e w' => ∃ n', e = .returned (nvV n') ∧ NodeI w' lo w'.heap.size n' (eitherT (ps.map Pc.tr)) ∧ Below w.heap.size w w' := by
 obtain ⟨i0, hi0, hz0, hz1, hz2⟩ := info_parts infoNode
 obtain ⟨ao, c, hv⟩ := own_shape hp.row.own
 obtain ⟨m, hm⟩ : ∃ m, m = ps.length := ⟨_, rfl⟩
 rw [← hm] at hv hps
 have HM := hide hm
 have HP := hide hp
 have HHI := hide hhi
 have HLO := hide hlo
 have HLEN := hide hlen
 have HV := hide hv
 have qm : ((m : Int) == 1) = false := by simp; omega
 have HCell : Hid (∀ W, Below w.heap.size w W → ∀ j (hj : j < ps.length), ∃ b cap, ao = some ⟨b, 0, none⟩ ∧ c = cap ∧ m ≤ cap ∧ NCells W ⟨b, j * 8, none⟩ ps[j].nv) := fun W hb j hj => by
  have ho := HP.out.row.own
  rw [HV.out, ← HM.out] at ho
  rcases ho.2 with ⟨_, h0⟩ | ⟨b, cap, cur, h1, _, h3, h4, _⟩
  ·omega
  ·cases h1
   rw [HM.out] at ho
   exact ⟨b, c, rfl, rfl, h4, ncells_below' (own_ncells ho hj) hb (TR.lt_of_block h3)⟩
 rw [hv]
 clear hp hhi hlo hlen hm hv
 have hbN : Below w.heap.size w (w.alloc (nvO nodeZ)) := (Below.refl _ w).alloc (Nat.le_refl _) _
 have HN0 : Hid ((w.alloc (nvO nodeZ)).heap[w.heap.size]? = some (nvO nodeZ)) := TK.at_new _ _
 obtain ⟨W0, hW0⟩ : ∃ W0, W0 = w.alloc (nvO nodeZ) := ⟨_, rfl⟩
 have hsz0 : w.heap.size + 1 = W0.heap.size := by rw [hW0]; simp
 rw [← hW0] at hbN HN0
 simp only [nvO, nodeZ] at hW0
 have HBN := hide hbN
 have HSZ := hide hsz0
 clear hbN hsz0
 go_enter Tryz.func29, Tryz.ntmps29
 go_wp2_with fail
 rw [← hW0]
 clear hW0
 obtain ⟨N, hNe⟩ : ∃ N, N = w.heap.size := ⟨_, rfl⟩
 have HNe := hide hNe
 rw [← hNe] at HN0 ⊢
 clear hNe
 go_loopw [3, 14] (fun kv u wr => ∃ (j : Nat) (ks : List Pc), j ≤ m ∧ u = .int .i64 j ∧ Flat w lo hi ps j ks ∧ ks.map Pc.tr = ((ps.take j).map Pc.tr).flatMap eitC ∧ wr.ownsRow (w.heap.size + 1) 28 8 kv ks.length (cellsP ks) ∧ Below w.heap.size w wr ∧ wr.heap[N]? = some (nvO nodeZ)) (fun _ u _ => m - (intOf u).toNat)
 case atStart => exact ⟨0, [], Nat.zero_le _, rfl, Flat.nil _ _ _ _, by simp, World.ownsRow_nil _ _ _ _, HBN.out, HN0.out⟩
 case round =>
  obtain ⟨j, ks, hj, rfl, hF, hT, ho, hb, hN⟩ := hrel
  obtain ⟨wr2, hwr⟩ : ∃ wr2, wr2 = wr := ⟨_, rfl⟩
  subst hwr
  have HF := hide hF
  have HT := hide hT
  have HO := hide ho
  have HB := hide hb
  have HN := hide hN
  have hkl : ks.length ≤ 1000000 := by
   have h1 := congrArg List.length hT
   rw [List.length_map] at h1
   have h2 := flat_len (C := eitC) ps j
   have h3 := HLEN.out
   change ((ps.map Pc.tr).flatMap eitC).length ≤ 1000000 at h3
   omega
  obtain ⟨ko, kc, hkv⟩ := own_shape ho
  obtain ⟨kn, hkn⟩ : ∃ kn, kn = ks.length := ⟨_, rfl⟩
  rw [← hkn] at hkv hkl
  have HKN := hide hkn
  rw [hkv] at HO ⊢
  have HO1 : Hid (wr2.ownsRow (w.heap.size + 1) 28 8 (.slice ko kn kc) ks.length (cellsP ks)) := HO.out
  have HF1 : Hid (∀ p : Pc, lo ≤ w.heap.size + 0 → True) := fun _ _ => trivial
  rw [← hkn] at HO
  clear hF hT ho hb hN hkv hkn
  by_cases hlt : j < m
  ·have hjl : j < ps.length := by have := HM.out; omega
   obtain ⟨b, cap, hao, hc, hcap, hcl⟩ := HCell.out wr2 HB.out j hjl
   have HNI := hide (HP.out.all ps[j] (List.getElem_mem hjl))
   have HONE := hide (HF.out.one HP.out hjl)
   have HTK := hide (flat_take (C := eitC) ps j hjl)
   obtain ⟨hkind, qs, hqk, hqne, hqo, hqa, hqp⟩ := HNI.out.kidsP
   have HMANY := hide (HF.out.many HP.out hjl hqa hqp)
   have hlen2 := flat_len (C := eitC) ps (j + 1)
   rw [HTK.out, List.length_append] at hlen2
   have h3 := HLEN.out
   change ((ps.map Pc.tr).flatMap eitC).length ≤ 1000000 at h3
   have hTl := congrArg List.length HT.out
   rw [List.length_map, ← HKN.out] at hTl
   have HTl := hide hTl
   clear hTl
   have HSK := hide HF.out.skip
   obtain ⟨p, hpp⟩ : ∃ p, p = ps[j] := ⟨_, rfl⟩
   rw [← hpp] at hcl HNI HONE HTK hkind hqk hqne hqo hqa hlen2
   obtain ⟨n, hn⟩ : ∃ n, n = p.nv := ⟨_, rfl⟩
   rw [← hn] at hcl hkind hqne hqo
   have HNn := hide hn
   subst hao hc
   obtain ⟨e0, e1, e2, e3, e4, e5, e6, e7⟩ := hcl
   simp only at e0 e1 e2 e3 e4 e5 e6 e7
   have e8 : (j : Int) < (m : Int) := by omega
   have e9 : (0 : Int) ≤ (j : Int) := by omega
   have hjw : IntKind.i64.wrap ((j : Int) + 1) = (j : Int) + 1 := by rw [IntKind.wrap_i64]; omega
   have HQO := hide hqo
   have HQN := hide hqne
   have HQK := hide hqk
   have HKD := hide hkind
   clear hpp hn hqo hqa hqp hqne hqk
   go_upto_region 7 with fail
   obtain ⟨w3, hw3⟩ : ∃ w3, w3 = wr2.alloc (nvO n) := ⟨_, rfl⟩
   have hL : w3.heap[wr2.heap.size]? = some (nvO n) := by rw [hw3]; exact TK.at_new _ _
   have hb3 : Below wr2.heap.size wr2 w3 := by rw [hw3]; exact (Below.refl _ wr2).alloc (Nat.le_refl _) _
   obtain ⟨d0, d1, d2, d3, d4, d5, d6, d7⟩ := node_cells hL
   have HL := hide hL
   have HB3 := hide hb3
   have HO3 := hide (own_below HO.out hb3)
   have HN3 : Hid (w3.heap[N]? = some (nvO nodeZ)) := by show _ = _; rw [hb3.block N (TR.lt_of_block HN.out)]; exact HN.out
   have hsz3 : w.heap.size + 1 ≤ w3.heap.size := by have h1 := TR.lt_of_block HN3.out; have h2 := HNe.out; omega
   have HLt : Hid (wr2.heap.size < w3.heap.size) := TR.lt_of_block hL
   simp only [nvO] at hw3
   rw [← hw3]
   obtain ⟨M, hMe⟩ : ∃ M, M = wr2.heap.size := ⟨_, rfl⟩
   rw [← hMe] at d0 d1 d2 d3 d4 d5 d6 d7 HL HLt ⊢
   clear hw3 hL hb3 e0 e1 e2 e3 e4 e5 e6 e7 hMe
   by_cases k10 : n.kind = 10
   ·have EC : eitC p.tr = p.tr.kids := by unfold eitC; rw [if_pos (by rw [hkind]; exact k10)]
    have KK := k10
    obtain ⟨qg, qcap, hqv, hqb⟩ := own_some8 HQO.out (List.length_pos_iff.2 (HQN.out (by rw [KK]; decide)))
    have hql : qs.length ≤ 1000000 := by have h1 := congrArg List.length HQK.out; rw [List.length_map] at h1; rw [EC, HQK.out, List.length_map] at hlen2; have h9 := HTl.out; omega
    have hkq : kn + qs.length ≤ 1000000 := by rw [EC, HQK.out, List.length_map] at hlen2; have h9 := HTl.out; omega
    have hqo3 : ∀ i u, (cellsP qs)[i]? = some u → w3.cell? ((⟨qg, 0, none⟩ : Addr).add i) = some u := fun i u hu => by
     have h1 := HQO.out.cells (g := qg) (by rw [hqv]; rfl) i u hu
     exact below_cell ((HB.out.trans (HB3.out.mono HB.out.size))) (by rw [zadd]; exact hqb) h1
    have hqlen := cellsP_len qs
    rw [hqv] at d2
    have HQ3 := hide hqo3
    clear hqo3 hqv
    go_wp2_with (at_builtin; refine wpList_append_own_at _ rfl _ _ 26 rfl (w.heap.size + 1) 28 i0 (.agg #[.int .i64 0, .slice none 0 0, .slice none 0 0, .int .i64 0, .int .i64 0, .int .i64 0, .int .i64 0, .bool false]) 8 96 Tryz.underlying26 hi0 hz0 hz1 hz2 rfl (by decide) _ _ _ rfl HO3.out ⟨qg, 0, none⟩ qs.length qcap (cellsP qs) rfl hqlen HQ3.out (cellsP_ones qs) (by unfold maxLen; omega) (by omega) (by omega) ?_)
    intro v' w4 hown' hgrow _ _
    have HO4 : Hid (w4.ownsRow (w.heap.size + 1) 28 8 v' (ks ++ qs).length (cellsP (ks ++ qs))) := by
     show World.ownsRow _ _ _ _ _ _ _
     rw [cellsP_append, List.length_append, ← HKN.out]
     exact hown'
    have HB4 : Hid (Below w.heap.size w w4) := below_app1 HB.out HB3.out HO.out hgrow
    have HN4 : Hid (w4.heap[N]? = some (nvO nodeZ)) := grow_nodeN hgrow (by have := HNe.out; omega) HO3.out HN3.out
    obtain ⟨vo, vc, hv4⟩ := own_shape hown'
    obtain ⟨n4, hn4⟩ : ∃ n4, n4 = kn + qs.length := ⟨_, rfl⟩
    rw [← hn4] at hv4
    rw [hv4] at HO4 ⊢
    clear hown' hgrow hv4 d0 d1 d2 d3 d4 d5 d6 d7 hn4
    go_wp2
    go_roundw
    case rel => exact ⟨j + 1, ks ++ qs, by omega, by go_num, HMANY.out, by rw [List.map_append, HT.out, HTK.out, EC, HQK.out], HO4.out, HB4.out, HN4.out⟩
    case measure => simp [intOf]; omega
   ·have q10 : (n.kind == 10) = false := by simpa using k10
    have EC : eitC p.tr = [p.tr] := by unfold eitC; rw [if_neg (by rw [hkind]; exact k10)]
    have hk1 : kn + 1 ≤ 1000000 := by rw [EC] at hlen2; simp only [List.length_singleton] at hlen2; have h9 := HTl.out; omega
    go_wp2_with (at_builtin; refine wpList_append_own_at _ rfl _ _ 26 rfl (w.heap.size + 1) 28 i0 (.agg #[.int .i64 0, .slice none 0 0, .slice none 0 0, .int .i64 0, .int .i64 0, .int .i64 0, .int .i64 0, .bool false]) 8 96 Tryz.underlying26 hi0 hz0 hz1 hz2 rfl (by decide) _ _ _ rfl (HO3.out.alloc _) ⟨w3.heap.size, 0, none⟩ 1 1 (nvL n) rfl rfl (cells_nodeP w3 n) (nvL_one n) (by unfold maxLen; omega) (by omega) (by simp; omega) ?_)
    intro v' w4 hown' hgrow _ _
    have HO4 : Hid (w4.ownsRow (w.heap.size + 1) 28 8 v' (ks ++ [p]).length (cellsP (ks ++ [p]))) := by
     show World.ownsRow _ _ _ _ _ _ _
     rw [cellsP_append, cellsP_one, ← HNn.out, List.length_append, ← HKN.out]
     exact hown'
    have HB4 : Hid (Below w.heap.size w w4) := below_app1 HB.out (HB3.out.trans (((Below.refl _ w3).alloc (Nat.le_refl _) _).mono HB3.out.size)) HO.out hgrow
    have HN4 : Hid (w4.heap[N]? = some (nvO nodeZ)) := grow_nodeN hgrow (by have := HNe.out; omega) HO3.out (TK.at_old HN3.out)
    obtain ⟨vo, vc, hv4⟩ := own_shape hown'
    rw [hv4] at HO4 ⊢
    clear hown' hgrow hv4 d0 d1 d2 d3 d4 d5 d6 d7
    go_wp2
    go_roundw
    case rel => exact ⟨j + 1, ks ++ [p], by omega, by go_num, HONE.out, by rw [List.map_append, HT.out, HTK.out, EC]; rfl, HO4.out, HB4.out, HN4.out⟩
    case measure => simp [intOf]; omega
  ·have hjm : j = m := by omega
   have hTT : ks.map Pc.tr = eitL (ps.map Pc.tr) := by
    rw [HT.out, hjm, HM.out, List.take_length]
    rfl
   have hfr := node_free HN.out
   obtain ⟨x0, x1, x2, x3, x4, x5, x6, x7⟩ := node_cells HN.out
   have HNn := hide (show w.heap.size ≤ N by have := HNe.out; omega)
   have HE := hide (either_eq hTT (by rw [List.length_map]; have := HM.out; omega))
   have hne : ks ≠ [] := either_ne hTT (by rw [List.length_map]; have := HM.out; omega) (fun t ht hk => by
    obtain ⟨p, hp, rfl⟩ := List.mem_map.1 ht
    obtain ⟨hkd, qs, hqk, hqn, _⟩ := (HP.out.all p hp).kidsP
    rw [hqk]
    intro e
    exact hqn (.inr (by rw [← hkd]; exact hk)) (List.map_eq_nil_iff.1 e))
   clear hTT
   go_wp21
   obtain ⟨W4, hW4⟩ : ∃ W4, W4 = setNode wr2 N ⟨10, none, 0, 0, ko, kn, kc, 0, 0, 0, 0, false⟩ := ⟨_, rfl⟩
   have hN4 : W4.heap[N]? = some (nvO ⟨10, none, 0, 0, ko, kn, kc, 0, 0, 0, 0, false⟩) := by rw [hW4]; exact setNode_at HN.out _
   have hb4 : Below w.heap.size w W4 := by rw [hW4]; exact below_setNode HB.out HNn.out _
   have hm4 : Mv N wr2 W4 := by rw [hW4]; exact mv_setNode (Mv.refl N wr2) _
   simp only [setNode] at hW4
   rw [← hW4]
   refine ret_node (N := N) Tryz.results29 rfl (TR.nv_cells hN4) ⟨_, rfl, ?_, hb4⟩
   rw [HE.out]
   exact (HF.out.pieces HHI.out HLO.out hb4 (own_mvN HO1.out hm4 (by have := HNe.out; omega))).node 10 0 0 0 0 false hne
theorem either_one {lo hi : Nat} {p : Pc} (hp : Pieces w lo hi v [p]) (hhi : hi ≤ w.heap.size) (hlo : lo ≤ w.heap.size) : Calls Tryz.prog 29 #[v] w fun e w' => ∃ n', e = .returned (nvV n') ∧ NodeI w' lo w'.heap.size n' p.tr ∧ Below w.heap.size w w' := by
 obtain ⟨b, cap, hv, hb⟩ := own_some8 hp.row.own (by simp)
 have ho := hp.row.own
 rw [hv] at ho ⊢
 have hc := own_ncells ho (j := 0) (by simp)
 have HNI := hide (hp.all p (by simp))
 have HRG := hide (hp.row.rng p (by simp))
 obtain ⟨n, hn⟩ : ∃ n, n = p.nv := ⟨_, rfl⟩
 have hc2 : NCells w ⟨b, 0, none⟩ n := by rw [hn]; exact hc
 rw [← hn] at HNI
 obtain ⟨e0, e1, e2, e3, e4, e5, e6, e7⟩ := hc2
 simp only [Nat.zero_add] at e0 e1 e2 e3 e4 e5 e6 e7
 have HHI := hide hhi
 simp only [List.length_singleton]
 clear hp ho hc hv hn hhi hlo
 go_enter Tryz.func29, Tryz.ntmps29
 go_wp21
 obtain ⟨W4, hW4⟩ : ∃ W4, W4 = w.alloc (nvO n) := ⟨_, rfl⟩
 have hN4 : W4.heap[w.heap.size]? = some (nvO n) := by rw [hW4]; exact TK.at_new _ _
 have hb4 : Below w.heap.size w W4 := by rw [hW4]; exact (Below.refl _ w).alloc (Nat.le_refl _) _
 simp only [nvO] at hW4
 rw [← hW4]
 clear hW4
 refine ret_node (N := w.heap.size) Tryz.results29 rfl (TR.nv_cells hN4) ⟨_, rfl, ?_, hb4⟩
 have h1 := HRG.out
 have h2 := HHI.out
 exact (HNI.out.keep (KeepI.of_below hb4 (by omega))).wide h1.1 (by have := hb4.size; omega)
end Go.Proofs.YtaccofiegkdlgaaGreatDoor.Pa
