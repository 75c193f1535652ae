import Derived.Test.YtaccofiegkdlgaaGreatDoorKR
import Derived.Maps.AppendAt
namespace Go.Proofs.YtaccofiegkdlgaaGreatDoor
set_option maxHeartbeats 2000000
open Go.RowKit
set_option linter.unusedVariables false
def rowQ (l : List Int) : RL := l.map fun q => (q, q)
theorem rowQ_len (l : List Int) : (rowQ l).length = l.length := by simp [rowQ]
theorem rowQ_take (l : List Int) (k : Nat) (h : k < l.length) : rowQ (l.take (k + 1)) = rowQ (l.take k) ++ [(l.getD k 0, l.getD k 0)] := by
 unfold rowQ
 rw [List.take_add_one, List.map_append, List.getElem?_eq_getElem h, List.getD_eq_getElem?_getD, List.getElem?_eq_getElem h]
 rfl
theorem orb_len (p : Int) (h0 : 0 ≤ p) (h1 : p ≤ 1114111) : (Fo.orb p).length ≤ 3 := by
 have := (Fo.orbS_ok p h0 h1 3 (by omega)).2.1
 show (Fo.srt _).length ≤ 3
 rw [Fo.srt_len]
 exact this
theorem own_is {B e : Nat} {w : World} {g n c : Nat} {xs : List Value} (h : w.ownsRow B e 1 (.slice (some ⟨g, 0, none⟩) n c) n xs) : ∃ cur, w.heap[g]? = some (.cells cur e (0, 0)) := by
 rcases h.2 with ⟨h1, _⟩ | ⟨g', cap, cur, h1, _, hh, _⟩
 ·simp at h1
 ·simp at h1
  rw [h1.1]
  exact ⟨_, hh⟩
theorem cell_block {w w' : World} {a : Addr} (h : w'.heap[a.block]? = w.heap[a.block]?) : w'.cell? a = w.cell? a := by
 unfold World.cell?
 rw [h]
def KB (b : Nat) (v : Value) (w : World) (v' : Value) (w' : World) : Prop :=
 (∀ k, k < w.heap.size → k ≠ b → some k ≠ v.ownBlock → w'.heap[k]? = w.heap[k]?) ∧ (v'.ownBlock = v.ownBlock ∨ ∃ j, w.heap.size ≤ j ∧ v'.ownBlock = some j)
theorem KB.refl (b : Nat) (v : Value) (w : World) : KB b v w v w := ⟨fun _ _ _ _ => rfl, .inl rfl⟩
theorem KB.trans {b : Nat} {v1 v2 v3 : Value} {w1 w2 w3 : World} (h : KB b v1 w1 v2 w2) (g : KB b v2 w2 v3 w3) (hs : w1.heap.size ≤ w2.heap.size) : KB b v1 w1 v3 w3 := by
 refine ⟨fun k hk hb hv => ?_, ?_⟩
 ·rw [g.1 k (by omega) hb ?_, h.1 k hk hb hv]
  rcases h.2 with e | ⟨j, hj, e⟩
  ·rw [e]; exact hv
  ·rw [e]; intro e; have := Option.some.inj e; omega
 ·rcases g.2 with e | ⟨j, hj, e⟩
  ·rw [e]; exact h.2
  ·exact .inr ⟨j, by omega, e⟩
theorem KB.below {b : Nat} {v : Value} {w w' : World} (h : Below w.heap.size w w') : KB b v w v w' := ⟨fun k hk _ _ => h.block k hk, .inl rfl⟩
theorem KB.app {b : Nat} {v v' : Value} {w w' : World} {o : Obj} (u : Value) (hg : (w.alloc o).grownBy w' v.ownBlock) (hv : v'.ownBlock = v.ownBlock ∨ v'.ownBlock = some (w.heap.size + 1)) : KB b v w v' (w'.setCell ⟨b, 0, none⟩ u) := by
 refine ⟨fun k hk hb hv' => ?_, ?_⟩
 ·rw [Below.heap_setCell _ _ _ _ hb, hg.block k (by simp; omega) hv', Below.heap_alloc _ _ _ hk]
 ·rcases hv with e | e
  ·exact .inl e
  ·exact .inr ⟨_, by omega, e⟩
theorem takeF (B b : Nat) (hB0 : 0 < B) (hBb : B ≤ b) (v : Value) (L : RL) (p : Int) (h0 : 0 ≤ p) (h1 : p ≤ 1114111) (w : World) (hT : Fo.Tab w) (hbox : w.heap[b]? = some (.cells #[v] 25 (0, 0))) (hown : w.ownsRow B 66 2 v L.length (cells2 L)) (hn : L.length ≤ 3000) (hB : B ≤ w.heap.size) :
  Calls Tryz.prog 90 #[.int .i64 p, .pointer (some ⟨b, 0, none⟩)] w fun e w' => e = .returned (.tuple #[]) ∧ (∃ v', w'.heap[b]? = some (.cells #[v'] 25 (0, 0)) ∧ w'.ownsRow B 66 2 v' (L ++ rowQ (Fo.orb p)).length (cells2 (L ++ rowQ (Fo.orb p))) ∧ KB b v w v' w') ∧ Below B w w' := by
 obtain ⟨i0, hi, hz0, hz1, hz2⟩ := info_parts infoR
 have HR := hide (Fo.Orbit_yes p w h0 h1 hT (by omega))
 have hl3 := orb_len p h0 h1
 obtain ⟨l, hl⟩ : ∃ l, l = Fo.orb p := ⟨_, rfl⟩
 rw [← hl] at HR hl3 ⊢
 obtain ⟨n, hnl⟩ : ∃ n, n = l.length := ⟨_, rfl⟩
 rw [← hnl] at HR hl3
 have HB := hide hbox
 have HO := hide hown
 have HN := hide hnl
 clear hbox hown hT hl hnl
 go_enter Tryz.func90, Tryz.ntmps90
 go_wp2_with fail
 refine HR.out.mono ?_
 rintro e w1 ⟨g, cap, rfl, ho1, hb1⟩
 obtain ⟨cur, hcur⟩ := own_is ho1
 have HC := hide hcur
 have HO1 := hide ho1
 have HB1 := hide hb1
 clear HR hcur ho1 hb1
 go_wp2_with fail
 go_loopw [14] (fun i wr => ∃ (k : Nat) (u : Value), k ≤ n ∧ i = .int .i64 k ∧ wr.heap[b]? = some (.cells #[u] 25 (0, 0)) ∧ wr.ownsRow B 66 2 u (L.length + k) (cells2 (L ++ rowQ (l.take k))) ∧ Below B w wr ∧ wr.heap[g]? = some (.cells cur 3 (0, 0)) ∧ KB b v w u wr) (fun i _ => n - (intOf i).toNat)
 case atStart => exact ⟨0, v, by omega, rfl, by rw [HB1.out.block b (lt_of_block HB.out)]; exact HB.out, by rw [show L ++ rowQ (l.take 0) = L from by simp [rowQ]]; exact own_below HO.out HB1.out, HB1.out.mono hB, HC.out, KB.below HB1.out⟩
 case round =>
  obtain ⟨k, u, hk, rfl, hb, ho, hbl, hg, hkb⟩ := hrel
  obtain ⟨ao, c, rfl⟩ := own_shape ho
  have hcb := cell_of_one hb
  have hlt := lt_of_block hb
  have HBk := hide hb
  have HOk := hide ho
  have HBl := hide hbl
  have HG := hide hg
  have HK := hide hkb
  have hBw := hbl.size
  clear hb ho hbl hg hkb
  by_cases hlk : k < n
  ·obtain ⟨q, hq⟩ : ∃ q, q = l.getD k 0 := ⟨_, rfl⟩
   have hcq : wr.cell? ⟨g, k, none⟩ = some (.int .i64 q) := by
    rw [cell_block (w := w1) (by rw [HG.out, HC.out])]
    have := Fo.own_cells (by rw [HN.out] at HO1; exact HO1.out) k (by rw [← HN.out]; exact hlk)
    rw [Addr.add_lit, Nat.zero_add] at this
    rw [hq]; exact this
   have hE : Hid (cells2 (L ++ rowQ (l.take (k + 1))) = cells2 (L ++ rowQ (l.take k)) ++ [.int .i64 q, .int .i64 q]) := by
    show _ = _
    rw [rowQ_take l k (by rw [← HN.out]; exact hlk), ← List.append_assoc, cells2_append (L ++ _), ← hq]
    rfl
   clear hq
   go_wp2_with (at_builtin; refine wpList_append_own_at _ rfl _ _ 25 rfl B 66 i0 (.agg #[.int .i64 0, .int .i64 0]) 2 16 Tryz.underlying25 hi hz0 hz1 hz2 rfl (by decide) _ _ _ rfl (HOk.out.alloc _) ⟨wr.heap.size, 0, none⟩ 1 1 [.int .i64 q, .int .i64 q] rfl rfl (cells_twoR _ _ (by simp) q q) (two_one q q) (by unfold maxLen; omega) (by omega) (by simp; omega) ?_)
   intro v' w2 hown' hgrow _ hat
   have hob := own_blockR HOk.out HBk.out (by simp)
   have hog := own_blockR HOk.out HG.out (by simp)
   have hb2 : w2.heap[b]? = some (.cells #[.slice ao (L.length + k) c] 25 (0, 0)) := by
    rw [hgrow.block b (by simp; omega) hob, Below.heap_alloc _ _ _ hlt]; exact HBk.out
   have hg2 : w2.heap[g]? = some (.cells cur 3 (0, 0)) := by
    have := lt_of_block HG.out
    rw [hgrow.block g (by simp; omega) hog, Below.heap_alloc _ _ _ this]; exact HG.out
   have hgb : g ≠ b := fun e => by
    subst e
    have := HBk.out
    rw [HG.out] at this
    simp at this
   have hc2 := cell_of_one hb2
   have hf2 := free_of_one hb2
   obtain ⟨ao', c', hv'⟩ := own_shape hown'
   have HGr := hide hgrow
   have HO2 := hide hown'
   have HB2 := hide hb2
   have HG2 := hide hg2
   have HGB := hide hgb
   have HAT := hide hat
   clear hgrow hown' hb2 hcb hcq hob hog hg2 hgb hat
   rw [hv'] at HO2 HAT
   rw [hv']
   clear hv'
   go_wp2
   go_roundw
   case rel =>
    have hb3 := one_setCell (u := .slice ao' (L.length + k + 1) c') HB2.out
    have hne : (Value.slice ao' (L.length + k + 1) c').ownBlock ≠ some b := fun e => own_blockR HO2.out HB2.out (by simp) e.symm
    exact ⟨k + 1, _, by omega, by go_num, hb3, by rw [hE.out]; exact ownsRow_setCell_other HO2.out hne _, HBl.out.trans ((below_appR HOk.out (Nat.le_trans hB hBw) HGr.out).setCell hBb _), by rw [Below.heap_setCell _ _ _ _ HGB.out]; exact HG2.out, HK.out.trans (KB.app _ HGr.out HAT.out) hBw⟩
   case measure => simp [intOf]; omega
  ·obtain rfl : k = n := by omega
   go_wp2
   go_end0
   refine ⟨rfl, ⟨_, HBk.out, ?_, HK.out⟩, HBl.out⟩
   have := HOk.out
   rw [HN.out, List.take_length] at this
   rw [List.length_append, rowQ_len]
   rw [← HN.out] at this ⊢
   exact this
end Go.Proofs.YtaccofiegkdlgaaGreatDoor
namespace Go.Proofs.YtaccofiegkdlgaaGreatDoor
set_option linter.unusedVariables false
def seqI (a : Int) (n : Nat) : List Int := (List.range n).map fun (i : Nat) => a + (i : Int)
theorem seqI_succ (a : Int) (n : Nat) : seqI a (n + 1) = seqI a n ++ [a + (n : Int)] := by simp [seqI, List.range_succ]
theorem seqI_len (a : Int) (n : Nat) : (seqI a n).length = n := by simp [seqI]
theorem mem_seqI {a : Int} {n : Nat} {q : Int} : q ∈ seqI a n ↔ a ≤ q ∧ q < a + (n : Int) := by
 simp only [seqI, List.mem_map, List.mem_range]
 constructor
 ·rintro ⟨i, hi, rfl⟩; omega
 ·rintro ⟨h1, h2⟩; exact ⟨(q - a).toNat, by omega, by omega⟩
def lenR (r : Int × Int) : Nat := (r.2 - r.1 + 1).toNat
def pts : RL → List Int
 | [] => []
 | r :: L => seqI r.1 (lenR r) ++ pts L
theorem pts_append (a b : RL) : pts (a ++ b) = pts a ++ pts b := by
 induction a with
 | nil => rfl
 | cons r a ih => simp only [List.cons_append, pts, ih, List.append_assoc]
theorem pts_take (O : RL) (k : Nat) (h : k < O.length) : pts (O.take (k + 1)) = pts (O.take k) ++ seqI O[k].1 (lenR O[k]) := by
 rw [List.take_add_one, List.getElem?_eq_getElem h, pts_append]
 show _ ++ (_ ++ []) = _
 rw [List.append_nil]
theorem mem_pts {O : RL} {q : Int} : q ∈ pts O ↔ ins O q = true := by
 induction O with
 | nil => simp [pts, ins]
 | cons r O ih =>
  rw [pts, List.mem_append, ih, mem_seqI]
  simp only [ins, List.any_cons, Bool.or_eq_true, Bool.and_eq_true, decide_eq_true_eq]
  unfold lenR
  constructor
  ·rintro (⟨h1, h2⟩ | h)
   ·exact .inl ⟨h1, by omega⟩
   ·exact .inr h
  ·rintro (⟨h1, h2⟩ | h)
   ·exact .inl ⟨h1, by omega⟩
   ·exact .inr h
def clip (r : Int × Int) (x : Int) : Nat := min (x - r.1).toNat (lenR r)
def rank : RL → Int → Nat
 | [], _ => 0
 | r :: L, x => clip r x + rank L x
theorem clip_mono (r : Int × Int) {x y : Int} (h : x ≤ y) : clip r x ≤ clip r y := by unfold clip; omega
theorem rank_mono (L : RL) {x y : Int} (h : x ≤ y) : rank L x ≤ rank L y := by
 induction L with
 | nil => exact Nat.le_refl _
 | cons r L ih => have := clip_mono r h; simp only [rank]; omega
theorem rank_in (L : RL) (x : Int) (h : ins L x = true) : rank L x + 1 ≤ rank L (x + 1) := by
 induction L with
 | nil => simp [ins] at h
 | cons r L ih =>
  simp only [ins, List.any_cons, Bool.or_eq_true, Bool.and_eq_true, decide_eq_true_eq] at h
  simp only [rank]
  rcases h with ⟨h1, h2⟩ | h
  ·have := rank_mono L (show x ≤ x + 1 by omega)
   have : clip r x + 1 ≤ clip r (x + 1) := by unfold clip lenR; omega
   omega
  ·have := ih h
   have := clip_mono r (show x ≤ x + 1 by omega)
   omega
theorem rank_seq (L : RL) (a : Int) (n : Nat) (h : ∀ q, a ≤ q → q < a + n → ins L q = true) : rank L a + n ≤ rank L (a + n) := by
 induction n with
 | zero => simp
 | succ n ih =>
  have h1 := ih (fun q h1 h2 => h q h1 (by omega))
  have h2 := rank_in L (a + n) (h _ (by omega) (by omega))
  rw [show a + ((n + 1 : Nat) : Int) = a + n + 1 from by omega]
  omega
def total : RL → Nat
 | [] => 0
 | r :: L => lenR r + total L
theorem rank_total (L : RL) (x : Int) : rank L x ≤ total L := by
 induction L with
 | nil => exact Nat.le_refl _
 | cons r L ih => have : clip r x ≤ lenR r := by unfold clip; omega
                  simp only [rank, total]; omega
theorem pts_rank (L : RL) : ∀ (O : RL) (x : Int), Canon O → (∀ q, ins O q = true → ins L q = true) → (∀ r ∈ O, x ≤ r.1) → rank L x + (pts O).length ≤ total L
 | [], x, _, _, _ => by have := rank_total L x; simpa [pts] using this
 | r :: O, x, hc, hs, hx => by
  obtain ⟨h1, h2, h3⟩ := canon_cons.1 hc
  unfold okR at h1
  have hx1 := hx r (List.mem_cons_self ..)
  have m := rank_mono L hx1
  have e := rank_seq L r.1 (lenR r) (fun q q1 q2 => hs q (mem_pts.1 (by rw [pts, List.mem_append, mem_seqI]; exact .inl ⟨q1, q2⟩)))
  have ih := pts_rank L O (r.1 + (lenR r : Int)) h3 (fun q hq => hs q (by rw [← mem_pts] at hq ⊢; rw [pts, List.mem_append]; exact .inr hq)) (fun r' hr' => by have := h2 r' hr'; unfold lenR; omega)
  rw [pts, List.length_append, seqI_len]
  omega
theorem alpha_total : total Fo.ps_alpha = 647 := by decide +kernel
theorem pts_647 (O : RL) (hc : Canon O) (hs : ∀ q, ins O q = true → ins Fo.ps_alpha q = true) : (pts O).length ≤ 647 := by
 have := pts_rank Fo.ps_alpha O 0 hc hs (fun r hr => (hc.1 r hr).1)
 rw [alpha_total] at this
 omega
def adds (P : List Int) : RL := P.flatMap fun p => rowQ (Fo.orb p)
theorem adds_append (a b : List Int) : adds (a ++ b) = adds a ++ adds b := by simp [adds]
theorem adds_one (p : Int) : adds [p] = rowQ (Fo.orb p) := by simp [adds]
theorem adds_len : ∀ (P : List Int), (∀ p ∈ P, 0 ≤ p ∧ p ≤ 1114111) → (adds P).length ≤ 3 * P.length
 | [], _ => Nat.le_refl _
 | p :: P, h => by
  have ih := adds_len P (fun q hq => h q (List.mem_cons_of_mem _ hq))
  have h1 := h p (List.mem_cons_self ..)
  have := orb_len p h1.1 h1.2
  rw [show p :: P = [p] ++ P from rfl, adds_append, adds_one, List.length_append, rowQ_len, List.length_append]
  simp only [List.length_singleton]
  omega
theorem pts_ok {O : RL} (hc : Canon O) : ∀ p ∈ pts O, 0 ≤ p ∧ p ≤ 1114111 := fun p hp => by
 rw [mem_pts] at hp
 simp only [ins, List.any_eq_true, Bool.and_eq_true, decide_eq_true_eq] at hp
 obtain ⟨r, hr, h1, h2⟩ := hp
 have := hc.1 r hr
 unfold okR at this
 omega
theorem adds_room {O : RL} (hc : Canon O) (hs : ∀ q, ins O q = true → ins Fo.ps_alpha q = true) (k : Nat) (hk : k < O.length) (m : Nat) (hm : m ≤ lenR O[k]) : (adds (pts (O.take k) ++ seqI O[k].1 m)).length ≤ 1941 := by
 have h6 := pts_647 O hc hs
 have hlen : (pts (O.take k) ++ seqI O[k].1 m).length ≤ (pts O).length := by
  have e : pts O = pts (O.take (k + 1)) ++ pts (O.drop (k + 1)) := by rw [← pts_append, List.take_append_drop]
  rw [e, pts_take O k hk]
  simp only [List.length_append, seqI_len]
  omega
 have hok := pts_ok hc
 refine Nat.le_trans (adds_len _ fun p hp => ?_) (by omega)
 rcases List.mem_append.1 hp with hp | hp
 ·refine hok p ?_
  rw [← List.take_append_drop k O, pts_append]
  exact List.mem_append.2 (.inl hp)
 ·rw [mem_seqI] at hp
  have := hc.1 O[k] (List.getElem_mem _)
  unfold okR at this
  unfold lenR at hm
  omega
end Go.Proofs.YtaccofiegkdlgaaGreatDoor
namespace Go.Proofs.YtaccofiegkdlgaaGreatDoor
set_option maxHeartbeats 4000000
open Go.RowKit
set_option linter.unusedVariables false
theorem saysAnd : Says 101 (fun a b => a && b) := by
 intro a b w
 cases a <;> cases b
 all_goals
  go_enter Tryz.func101, Tryz.ntmps101
  go_wp2
  go_ret
  exact ⟨rfl, rfl⟩
theorem entersAnd (args : Array Value) (w : World) : (callFunc 101 args).run Tryz.prog w = .ok (.enter 101 args) w := enters_of Tryz.func101 (by kernel_rfl) rfl args w
theorem entersF11 (args : Array Value) (w : World) : (callFunc 90 args).run Tryz.prog w = .ok (.enter 90 args) w := enters_of Tryz.func90 (by kernel_rfl) rfl args w
theorem own_keep {b B2 : Nat} {v0 u v : Value} {w2 wr : World} {O : RL} (h : w2.ownsRow B2 66 2 v O.length (cells2 O)) (hk : KB b v0 w2 u wr) (hb : b < B2) (hv : ∀ k, v0.ownBlock = some k → k < B2) : wr.ownsRow B2 66 2 v O.length (cells2 O) := by
 refine ⟨h.1, ?_⟩
 rcases h.2 with h2 | ⟨g, cap, cur, rfl, h3, hg, h4⟩
 ·exact Or.inl h2
 ·exact Or.inr ⟨g, cap, cur, rfl, h3, by rw [hk.1 g (Array.getElem?_eq_some_iff.1 hg).1 (by omega) (fun e => by have := hv g e.symm; omega)]; exact hg, h4⟩
theorem set_and {A O1 O : RL} {P : RL} (h1 : IsSet (ins P) O1) (h : IsSet (fun q => ins A q && ins O1 q) O) : IsSet (fun q => ins A q && ins P q) O := by
 refine ⟨h.1, fun q => ?_⟩
 have e := h.2 q
 simp only at e ⊢
 rw [e, h1.2 q]
 cases decide (0 ≤ q) <;> cases decide (q ≤ 1114111) <;> simp
theorem set_sub {A O P : RL} (h : IsSet (fun q => ins A q && ins P q) O) : ∀ q, ins O q = true → ins P q = true := fun q hq => by
 rw [h.2 q] at hq
 simp only [Bool.and_eq_true] at hq
 exact hq.2.2
theorem letter_any (B b : Nat) (hB0 : 0 < B) (hBb : B ≤ b) (va : Value) (A : RL) (v : Value) (L : RL) (w : World) (hT : Fo.Tab w) (hA : Reads w va A) (cA : Canon A) (lA : A.length ≤ 400) (hbox : w.heap[b]? = some (.cells #[v] 25 (0, 0))) (hown : w.ownsRow B 66 2 v L.length (cells2 L)) (hn : L.length ≤ 400) (hB : B ≤ w.heap.size) :
  Calls Tryz.prog 89 #[va, .func (.func 90) #[] #[.pointer (some ⟨b, 0, none⟩)]] w fun e w' => ∃ O v', e = .returned (.tuple #[]) ∧ IsSet (fun q => ins A q && ins Fo.ps_alpha q) O ∧ w'.heap[b]? = some (.cells #[v'] 25 (0, 0)) ∧ w'.ownsRow B 66 2 v' (L ++ adds (pts O)).length (cells2 (L ++ adds (pts O))) ∧ Below B w w' := by
 have HCl := hide (class_alpha w)
 have ent := entersF11
 have hlt0 := lt_of_block hbox
 have hv0 : Hid (∀ k, v.ownBlock = some k → k < w.heap.size) := fun k hk => (hown.lt k hk).2
 obtain ⟨aa, ca, hva⟩ := hA.shape
 have HA := hide hA
 have CA := hide cA
 have HB := hide hbox
 have HO := hide hown
 have HT := hide hT
 clear hA cA hbox hown hT
 obtain ⟨na, hna⟩ : ∃ na, na = A.length := ⟨_, rfl⟩
 rw [← hna] at lA hva
 have HNA := hide hna
 clear hna
 rw [hva] at HA ⊢
 go_enter Tryz.func89, Tryz.ntmps89
 go_wp2_with fail
 refine HCl.out.mono ?_
 rintro e w1 ⟨v1, O1, rfl, ho1, hs1, hl1, hb1⟩
 have HK := hide (kept_any 101 _ saysAnd entersAnd _ v1 A O1 w1 (HA.out.below hb1) (own_reads ho1) CA.out hs1.1 (by have := HNA.out; omega) (by omega))
 have HS1 := hide hs1
 have HB1 := hide hb1
 obtain ⟨a1, c1, hv1⟩ := own_shape ho1
 rw [hv1] at HK ⊢
 clear HCl ho1 hs1 hb1 hv1 hl1
 go_wp2_with fail
 refine HK.out.mono ?_
 rintro e w2 ⟨v2, O, rfl, ho2, hs2, hb2⟩
 have HS := hide (set_and HS1.out hs2)
 have hb02 : Below w.heap.size w w2 := HB1.out.trans (hb2.mono HB1.out.size)
 have HO2 := hide (own_base ho2 HB1.out.size)
 have HB2 := hide hb02
 obtain ⟨a2, c2, hv2⟩ := own_shape ho2
 rw [hv2] at HO2 ⊢
 obtain ⟨n, hnn⟩ : ∃ n, n = O.length := ⟨_, rfl⟩
 have HN := hide hnn
 have hn3 : Hid (n ≤ 2000000) := by
  show n ≤ 2000000
  have h1 := pts_647 O HS.out.1 (set_sub HS.out)
  have h2 : ∀ M : RL, (∀ r ∈ M, okR r) → M.length ≤ (pts M).length := by
   intro M
   induction M with
   | nil => intro _; exact Nat.le_refl _
   | cons r M ih =>
    intro hM
    have a1 := ih (fun x hx => hM x (List.mem_cons_of_mem _ hx))
    have a2 := hM r (List.mem_cons_self ..)
    unfold okR at a2
    rw [pts, List.length_append, seqI_len, List.length_cons]
    unfold lenR
    omega
  have h3 := h2 O HS.out.1.1
  omega
 have hn3' := hn3.out
 rw [← hnn] at HO2 ⊢
 have hBw2 : B ≤ w2.heap.size := Nat.le_trans hB hb02.size
 clear HK ho2 hs2 hb2 hv2 hb02 hnn HS1 HB1
 go_wp2_with fail
 go_loopw [17] (fun i wr => ∃ (k : Nat) (u : Value), k ≤ n ∧ i = .int .i64 k ∧ wr.heap[b]? = some (.cells #[u] 25 (0, 0)) ∧ wr.ownsRow B 66 2 u (L ++ adds (pts (O.take k))).length (cells2 (L ++ adds (pts (O.take k)))) ∧ Below B w2 wr ∧ KB b v w2 u wr) (fun i _ => n - (intOf i).toNat)
 case atStart => exact ⟨0, v, Nat.zero_le _, rfl, by rw [HB2.out.block b hlt0]; exact HB.out, by rw [show L ++ adds (pts (O.take 0)) = L from by simp [adds, pts]]; exact own_below HO.out HB2.out, Below.refl _ _, KB.refl _ _ _⟩
 case round =>
  obtain ⟨k, u, hk, rfl, hb, ho, hbl, hkb⟩ := hrel
  by_cases hlk : k < n
  ·have hkO : k < O.length := by have := HN.out; omega
   have hkeep := own_keep (by rw [HN.out] at HO2; exact HO2.out) hkb hlt0 hv0.out
   obtain ⟨x, cx, hx, hcx⟩ := (own_reads hkeep).some (by omega)
   obtain ⟨rfl⟩ : a2 = some x := by cases hx; rfl
   obtain ⟨d1, d2⟩ := hcx k hkO
   have hr := HS.out.1.1 O[k] (List.getElem_mem _)
   have hroom := hide (fun m hm => adds_room HS.out.1 (set_sub HS.out) k hkO m hm)
   have hpt := hide (pts_take O k hkO)
   obtain ⟨r, hr'⟩ : ∃ r, r = O[k] := ⟨_, rfl⟩
   rw [← hr'] at d1 d2 hr hroom hpt
   obtain ⟨p, q⟩ := r
   unfold okR at hr
   simp only at d1 d2 hr hroom hpt
   obtain ⟨r0, r1, r2⟩ := hr
   have hltb := lt_of_block hb
   have hBwr := Nat.le_trans hBw2 hbl.size
   have hown_lt : Hid (∀ k, u.ownBlock = some k → k < wr.heap.size) := fun k hk => (ho.lt k hk).2
   have HBk := hide hb
   have HOk := hide ho
   have HBl := hide hbl
   have HKB := hide hkb
   clear hb ho hbl hkb hkeep hx hcx hr'
   go_wp2_with fail
   obtain ⟨W, hW⟩ : ∃ W, W = wr.alloc (.cells #[.int .i64 p, .int .i64 q] 66) := ⟨_, rfl⟩
   have HBW : Hid (Below B w2 W) := by rw [hW]; exact HBl.out.alloc hBwr _
   have HKW : Hid (KB b v w2 u W) := by rw [hW]; exact HKB.out.trans (KB.below ((Below.refl _ wr).alloc (Nat.le_refl _) _)) HBl.out.size
   have HCq : Hid (∀ u' ws, KB b u W u' ws → ws.cell? ⟨wr.heap.size, 1, none⟩ = some (.int .i64 q)) := fun u' ws hk => by
    rw [cell_block (w := W) (hk.1 wr.heap.size (by rw [hW]; simp) (by omega) (fun e => by have := hown_lt.out _ e.symm; omega)), hW]
    exact World.cell?_alloc_at _ _ _ _ rfl
   have hBW : B ≤ W.heap.size := Nat.le_trans hBw2 HBW.out.size
   have HXW : Hid (W.heap[b]? = some (.cells #[u] 25 (0, 0))) := by show _ = _; rw [hW, Below.heap_alloc _ _ _ hltb]; exact HBk.out
   have HOW : Hid (W.ownsRow B 66 2 u (L ++ adds (pts (O.take k))).length (cells2 (L ++ adds (pts (O.take k))))) := by rw [hW]; exact HOk.out.alloc _
   have HTW : Hid (Fo.Tab W) := (HT.out.below HB2.out (by omega)).below HBW.out hB0
   rw [← hW]
   clear d1 d2 HBk HOk hown_lt HBl HKB hltb
   go_loopw [8] (fun i ws => ∃ (m : Nat) (u' : Value) (z : Int), z = p + m ∧ m ≤ lenR (p, q) ∧ i = .int .i64 z ∧ ws.heap[b]? = some (.cells #[u'] 25 (0, 0)) ∧ ws.ownsRow B 66 2 u' (L ++ adds (pts (O.take k) ++ seqI p m)).length (cells2 (L ++ adds (pts (O.take k) ++ seqI p m))) ∧ Below B W ws ∧ KB b u W u' ws) (fun i _ => (q + 1 - intOf i).toNat)
   case atStart => exact ⟨0, u, p, by simp, Nat.zero_le _, rfl, HXW.out, by rw [show pts (O.take k) ++ seqI p 0 = pts (O.take k) from by simp [seqI]]; exact HOW.out, Below.refl _ _, KB.refl _ _ _⟩
   case round =>
    obtain ⟨m, u', z, hz, hm, rfl, hb, ho, hbl, hkb⟩ := hrel
    have hcq := HCq.out u' wr hkb
    by_cases hzq : z ≤ q
    ·have hz0 : 0 ≤ z := by omega
     have hz1 : IntKind.i64.wrap (z + 1) = z + 1 := by rw [IntKind.wrap_i64]; omega
     have hlen := hroom.out m hm
     have HE := hide (takeF B b hB0 hBb u' _ z hz0 (by omega) wr (HTW.out.below hbl hB0) hb ho (by rw [List.length_append]; omega) (Nat.le_trans hBW hbl.size))
     have HZ := hide hz
     have HBl := hide hbl
     have HKB := hide hkb
     have hm1 : m + 1 ≤ lenR (p, q) := by unfold lenR; simp only; omega
     clear hz hlen hb ho hbl hkb
     go_wp2_with fail
     refine HE.out.mono ?_
     rintro e w3 ⟨rfl, ⟨u2, hbx, hown, hkb2⟩, hbl2⟩
     have HX3 := hide hbx
     have HO3 := hide hown
     have HK3 := hide hkb2
     have HB3 := hide hbl2
     clear HE hbx hown hkb2 hbl2
     go_wp2
     go_roundw
     case rel => exact ⟨m + 1, u2, z + 1, by have := HZ.out; omega, hm1, by go_num, HX3.out, by rw [seqI_succ, ← HZ.out, ← List.append_assoc (pts _), adds_append, adds_one, ← List.append_assoc L]; exact HO3.out, HBl.out.trans HB3.out, HKB.out.trans HK3.out HBl.out.size⟩
     case measure => simp [intOf]; omega
    ·have hme : m = lenR (p, q) := by unfold lenR at hm ⊢; simp only at hm ⊢; omega
     rw [hme] at ho
     have HX3 := hide hb
     have HO3 := hide ho
     have HB3 := hide hbl
     have HK3 := hide hkb
     clear hb ho hbl hkb
     go_wp2
     go_roundw
     case rel => exact ⟨k + 1, u', by omega, by go_num, HX3.out, by rw [hpt.out]; exact HO3.out, HBW.out.trans HB3.out, HKW.out.trans HK3.out HBW.out.size⟩
     case measure => simp [intOf]; omega
  ·rw [List.take_of_length_le (by have := HN.out; omega)] at ho
   have HX3 := hide hb
   have HO3 := hide ho
   have HB3 := hide hbl
   clear hb ho hbl hkb
   go_wp2
   go_end0
   exact ⟨O, u, rfl, HS.out, HX3.out, HO3.out, (HB2.out.mono hB).trans HB3.out⟩
end Go.Proofs.YtaccofiegkdlgaaGreatDoor
