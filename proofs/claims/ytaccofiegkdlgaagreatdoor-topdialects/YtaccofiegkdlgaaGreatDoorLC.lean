import Derived.Test.YtaccofiegkdlgaaGreatDoorLB
import Derived.Deep.RegionHeld3
namespace Go.Proofs.YtaccofiegkdlgaaGreatDoor.Br
set_option maxHeartbeats 16000000
open Go.RowKit
open TK (Mv PatV ReadsI byteA add_block peel)
set_option linter.unusedVariables false
set_option maxRecDepth 100000
variable {w w' : World} {b : Nat} {v : Value} {l : List Int} {i : Nat} {d : Int} {fo : Bool}
noncomputable def readM (d : Int) (fo : Bool) (l : List Int) (i : Nat) : Except BE (PS × Nat) := match exprF (par d fo) 21 l i 0 with
 | .error e => .error e
 | .ok (f, k) => if manyB f then .error (2, 0) else .ok (f, k)
def ReadB (d : Int) (fo : Bool) (l : List Int) (i : Nat) (w : World) (e : Ending) (w' : World) : Prop :=
 (∃ f k sv L, readM d fo l i = .ok (f, k) ∧ e = .returned (.tuple #[sv, .int .i64 (k : Nat), .agg #[.int .i64 0, .int .i64 0]]) ∧ OR w' w.heap.size sv L ∧ IsSet f L ∧ L.length ≤ 400 ∧ k ≤ l.length ∧ Below w.heap.size w w') ∨
 (∃ z c : Int, readM d fo l i = .error (z, c) ∧ e = .returned (.tuple #[.slice none 0 0, .int .i64 0, .agg #[.int .i64 z, .int .i64 c]]) ∧ Below w.heap.size w w')
theorem store_block {W : World} {N j : Nat} {o : Obj} (h : W.heap[j]? = some o) (hne : j ≠ N) (k : Nat) (u : Value) : (W.setCell ⟨N, k, none⟩ u).heap[j]? = some o := by rw [Below.heap_setCell _ _ _ _ hne]; exact h
theorem sl_set {W : World} {N : Nat} {s s' : Value} (h : W.heap[N]? = some (slO s)) : (W.setCell ⟨N, 0, none⟩ s').heap[N]? = some (slO s') := by
 unfold slO at h ⊢
 rw [TK.set_one h]
 simp
theorem in_set {W : World} {N : Nat} {s s' : Int} (h : W.heap[N]? = some (inO s)) : (W.setCell ⟨N, 0, none⟩ (.int .i64 s')).heap[N]? = some (inO s') := by
 unfold inO at h ⊢
 rw [TK.set_one h]
 simp
theorem fau_set {W : World} {N : Nat} {e a e' a' : Int} (h : W.heap[N]? = some (fauO e a)) : ((W.setCell ⟨N, 0, none⟩ (.int .i64 e')).setCell ⟨N, 1, none⟩ (.int .i64 a')).heap[N]? = some (fauO e' a') := by
 unfold fauO at h ⊢
 rw [TK.set_one (TK.set_one h _ _) _ _]
 simp
structure Door (w W : World) (sv : Value) (k : Nat) (L : RL) : Prop where
 n0 : W.heap[w.heap.size]? = some (slO sv)
 n1 : W.heap[w.heap.size + 1]? = some (inO 0)
 n2 : W.heap[w.heap.size + 1 + 1]? = some (fauO 0 0)
 n3 : W.cell? ⟨w.heap.size + 1 + 1 + 1, 1, none⟩ = some (.int .i64 k)
 sz : w.heap.size + 3 < W.heap.size
 own : OR W (w.heap.size + 1 + 1 + 1 + 1) sv L
 bel : Below w.heap.size w W
theorem Door.keep {W W' : World} {sv : Value} {k : Nat} {L : RL} (h : Door w W sv k L) (hb : Below W.heap.size W W') : Door w W' sv k L :=
 ⟨by rw [hb.block _ (lt_of_block h.n0)]; exact h.n0, by rw [hb.block _ (lt_of_block h.n1)]; exact h.n1, by rw [hb.block _ (lt_of_block h.n2)]; exact h.n2, below_cell hb (lt_of_cell h.n3) h.n3, Nat.lt_of_lt_of_le h.sz hb.size, h.own.below hb, h.bel.trans (hb.mono h.bel.size)⟩
theorem Door.last {W : World} {sv : Value} {k : Nat} {L : RL} (h : Door w W sv k L) : let W' := (((W.setCell ⟨w.heap.size, 0, none⟩ sv).setCell ⟨w.heap.size + 1, 0, none⟩ (.int .i64 k)).setCell ⟨w.heap.size + 1 + 1, 0, none⟩ (.int .i64 0)).setCell ⟨w.heap.size + 1 + 1, 1, none⟩ (.int .i64 0)
  W'.heap[w.heap.size]? = some (slO sv) ∧ W'.heap[w.heap.size + 1]? = some (inO k) ∧ W'.heap[w.heap.size + 1 + 1]? = some (fauO 0 0) ∧ OR W' w.heap.size sv L ∧ Below w.heap.size w W' := by
 have e1 : w.heap.size ≠ w.heap.size + 1 := by omega
 have e2 : w.heap.size ≠ w.heap.size + 1 + 1 := by omega
 have e3 : w.heap.size + 1 ≠ w.heap.size + 1 + 1 := by omega
 refine ⟨store_block (store_block (store_block (sl_set h.n0) e1 _ _) e2 _ _) e2 _ _, store_block (store_block (in_set (store_block h.n1 e1.symm _ _)) e3 _ _) e3 _ _, fau_set (store_block (store_block h.n2 e2.symm _ _) e3.symm _ _), ?_, ?_⟩
 ·have a1 := h.own
  have hset : ∀ (X : World) (j o : Nat) (u : Value), j < w.heap.size + 1 + 1 + 1 → OR X (w.heap.size + 1 + 1 + 1 + 1) sv L → OR (X.setCell ⟨j, o, none⟩ u) (w.heap.size + 1 + 1 + 1 + 1) sv L := by
   intro X j o u hj hX
   obtain ⟨h1, h2⟩ := (show X.ownsRow _ 66 2 sv L.length (cells2 L) from hX)
   refine ⟨h1, ?_⟩
   rcases h2 with h | ⟨g, cap, cur, rfl, hg, hh, hn, hm', hs, ht⟩
   ·exact .inl h
   ·exact .inr ⟨g, cap, cur, rfl, hg, by rw [Below.heap_setCell _ _ _ _ (by show g ≠ j; omega)]; exact hh, hn, hm', hs, ht⟩
  exact (hset _ _ _ _ (by omega) (hset _ _ _ _ (by omega) (hset _ _ _ _ (by omega) (hset _ _ _ _ (by omega) a1)))).low (by omega)
 ·exact (((h.bel.setCell (p := ⟨w.heap.size, 0, none⟩) (Nat.le_refl _) _).setCell (p := ⟨w.heap.size + 1, 0, none⟩) (by show _ ≤ _; simp) _).setCell (p := ⟨w.heap.size + 1 + 1, 0, none⟩) (by show w.heap.size ≤ w.heap.size + 1 + 1; omega) _).setCell (p := ⟨w.heap.size + 1 + 1, 1, none⟩) (by show w.heap.size ≤ w.heap.size + 1 + 1; omega) _
theorem read_er (h : PatV w v l) (hT : Fo.Tab w) (hpos : 0 < w.heap.size) (hsm : l.length ≤ 300) (hpts : ∀ p ∈ l, 0 ≤ p ∧ p ≤ 1114111) (hdia : d = 1 ∨ d = 2 ∨ d = 3) (hi : i ≤ l.length) {z c : Int} (hX : exprF (par d fo) 21 l i 0 = .error (z, c)) :
  Calls Tryz.prog 95 #[.int .i64 d, v, .int .i64 i, .bool fo] w fun e w' => ReadB d fo l i w e w' := by
 have hE : Hid (readM d fo l i = .error (z, c)) := by show _ = _; unfold readM; rw [hX]
 have hmf : ∀ (fn : Fn) (first cap : Array Value) (w : World), (Instr.makeFunc fn first cap).run Tryz.prog w = .ok (.func fn first cap) w := fun _ _ _ _ => rfl
 have hb0 : Below w.heap.size w ((((w.alloc (slO (.slice none 0 0))).alloc (inO 0)).alloc (fauO 0 0)).alloc (.cells #[v, .int .i64 i, .int .i64 d, .bool fo] 132)) := ((((Below.refl _ w).alloc (Nat.le_refl _) _).alloc (by simp) _).alloc (by simp; omega) _).alloc (by simp; omega) _
 have hBB : BB ((((w.alloc (slO (.slice none 0 0))).alloc (inO 0)).alloc (fauO 0 0)).alloc (.cells #[v, .int .i64 i, .int .i64 d, .bool fo] 132)) (w.heap.size + 1 + 1 + 1) v l i d fo :=
  ⟨TK.at_new' _ _ (by simp), h.below hb0, fun x c hl e => by
   obtain ⟨y, c', e', _, hr⟩ := h.some hl
   rw [e'] at e
   cases e
   have := World.block_lt_of_cell? _ _ (hr 0 hl)
   rw [add_block] at this
   omega, hsm, hi, hpts, hdia, hT.below hb0 hpos, by omega⟩
 have hX0 := expr_all (d := d) (fo := fo) (b := w.heap.size + 1 + 1 + 1) (v := v) (l := l) 21 0 rfl (by omega) _ i hBB
 rw [hX] at hX0
 rw [show ((0 : Nat) : Int) = 0 from rfl] at hX0
 obtain ⟨ao, ac, hv⟩ := h.shape
 have HX := hide hX0
 have HB0 := hide hb0
 have hg0 : Hid (∀ w1, Mv (w.heap.size + 1 + 1 + 1) ((((w.alloc (slO (.slice none 0 0))).alloc (inO 0)).alloc (fauO 0 0)).alloc (.cells #[v, .int .i64 i, .int .i64 d, .bool fo] 132)) w1 → w1.heap[w.heap.size]? = some (slO (.slice none 0 0)) ∧ w1.heap[w.heap.size + 1]? = some (inO 0) ∧ w1.heap[w.heap.size + 1 + 1]? = some (fauO 0 0) ∧ Below w.heap.size w w1) := by
  intro w1 hm
  refine ⟨TK.Mv.blockAt hm (TK.at_old (TK.at_old (TK.at_old (TK.at_new _ _)))) (by omega), TK.Mv.blockAt hm (TK.at_old (TK.at_old (TK.at_new' _ _ (by simp)))) (by omega), TK.Mv.blockAt hm (TK.at_old (TK.at_new' _ _ (by simp))) (by omega), ?_⟩
  exact hb0.trans ((hm.below (by simp)).mono (by omega))
 have hsz0 : Hid (((((w.alloc (slO (.slice none 0 0))).alloc (inO 0)).alloc (fauO 0 0)).alloc (.cells #[v, .int .i64 i, .int .i64 d, .bool fo] 132)).heap.size = w.heap.size + 1 + 1 + 1 + 1) := by show _ = _; simp
 clear hb0 hBB h hT hsm hpts hdia hi hX0
 obtain ⟨n, hn⟩ : ∃ n, n = l.length := ⟨_, rfl⟩
 rw [← hn] at hv
 have HN := hide hn
 rw [hv] at HX HB0 hg0 hsz0 ⊢
 clear hn hv
 simp only [slO, inO, fauO] at HX HB0 hg0 hsz0
 go_enter_defers Tryz.func95, Tryz.ntmps95
 go_wp2_with fail
 refine HX.out.mono ?_
 rintro e w1 (⟨f', k', sv, L, hp, rfl, ho, hs, hr, hik, hm⟩ | ⟨z', a', hp, rfl, hm⟩)
 ·cases hp
 ·cases hp
  obtain ⟨g0, g1, g2, g3⟩ := hg0.out w1 hm
  have G0 := hide g0
  have G1 := hide g1
  have G2 := hide g2
  have G3 := hide g3
  clear hm HX HB0 hg0 g0 g1 g2 g3 hX
  simp only [givesF]
  go_wp2
  exact leave_bad (N := w.heap.size) rfl rfl rfl G0.out G1.out G2.out (fun W' hb => .inr ⟨z, c, hE.out, rfl, G3.out.trans hb⟩)
theorem read_ok (h : PatV w v l) (hT : Fo.Tab w) (hpos : 0 < w.heap.size) (hsm : l.length ≤ 300) (hpts : ∀ p ∈ l, 0 ≤ p ∧ p ≤ 1114111) (hdia : d = 1 ∨ d = 2 ∨ d = 3) (hi : i ≤ l.length) {f : PS} {k : Nat} (hX : exprF (par d fo) 21 l i 0 = .ok (f, k)) (hf : manyB f = false) :
  Calls Tryz.prog 95 #[.int .i64 d, v, .int .i64 i, .bool fo] w fun e w' => ReadB d fo l i w e w' := by
 have hE : Hid (readM d fo l i = .ok (f, k)) := by show _ = _; unfold readM; rw [hX]; simp [hf]
 have hmf : ∀ (fn : Fn) (first cap : Array Value) (w : World), (Instr.makeFunc fn first cap).run Tryz.prog w = .ok (.func fn first cap) w := fun _ _ _ _ => rfl
 have hb0 : Below w.heap.size w ((((w.alloc (slO (.slice none 0 0))).alloc (inO 0)).alloc (fauO 0 0)).alloc (.cells #[v, .int .i64 i, .int .i64 d, .bool fo] 132)) := ((((Below.refl _ w).alloc (Nat.le_refl _) _).alloc (by simp) _).alloc (by simp; omega) _).alloc (by simp; omega) _
 have hBB : BB ((((w.alloc (slO (.slice none 0 0))).alloc (inO 0)).alloc (fauO 0 0)).alloc (.cells #[v, .int .i64 i, .int .i64 d, .bool fo] 132)) (w.heap.size + 1 + 1 + 1) v l i d fo :=
  ⟨TK.at_new' _ _ (by simp), h.below hb0, fun x c hl e => by
   obtain ⟨y, c', e', _, hr⟩ := h.some hl
   rw [e'] at e
   cases e
   have := World.block_lt_of_cell? _ _ (hr 0 hl)
   rw [add_block] at this
   omega, hsm, hi, hpts, hdia, hT.below hb0 hpos, by omega⟩
 have hX0 := expr_all (d := d) (fo := fo) (b := w.heap.size + 1 + 1 + 1) (v := v) (l := l) 21 0 rfl (by omega) _ i hBB
 rw [hX] at hX0
 rw [show ((0 : Nat) : Int) = 0 from rfl] at hX0
 obtain ⟨ao, ac, hv⟩ := h.shape
 have HX := hide hX0
 have HB0 := hide hb0
 have hg0 : Hid (∀ w1, Mv (w.heap.size + 1 + 1 + 1) ((((w.alloc (slO (.slice none 0 0))).alloc (inO 0)).alloc (fauO 0 0)).alloc (.cells #[v, .int .i64 i, .int .i64 d, .bool fo] 132)) w1 → w1.heap[w.heap.size]? = some (slO (.slice none 0 0)) ∧ w1.heap[w.heap.size + 1]? = some (inO 0) ∧ w1.heap[w.heap.size + 1 + 1]? = some (fauO 0 0) ∧ Below w.heap.size w w1) := by
  intro w1 hm
  refine ⟨TK.Mv.blockAt hm (TK.at_old (TK.at_old (TK.at_old (TK.at_new _ _)))) (by omega), TK.Mv.blockAt hm (TK.at_old (TK.at_old (TK.at_new' _ _ (by simp)))) (by omega), TK.Mv.blockAt hm (TK.at_old (TK.at_new' _ _ (by simp))) (by omega), ?_⟩
  exact hb0.trans ((hm.below (by simp)).mono (by omega))
 have hsz0 : Hid (((((w.alloc (slO (.slice none 0 0))).alloc (inO 0)).alloc (fauO 0 0)).alloc (.cells #[v, .int .i64 i, .int .i64 d, .bool fo] 132)).heap.size = w.heap.size + 1 + 1 + 1 + 1) := by show _ = _; simp
 clear hb0 hBB h hT hsm hpts hdia hi hX0
 obtain ⟨n, hn⟩ : ∃ n, n = l.length := ⟨_, rfl⟩
 rw [← hn] at hv
 have HN := hide hn
 rw [hv] at HX HB0 hg0 hsz0 ⊢
 clear hn hv
 simp only [slO, inO, fauO] at HX HB0 hg0 hsz0
 go_enter_defers Tryz.func95, Tryz.ntmps95
 go_wp2_with fail
 refine HX.out.mono ?_
 rintro e w1 (⟨f', k', sv, L, hp, rfl, ho, hs, hr, hik, hm⟩ | ⟨z', a', hp, rfl, hm⟩)
 case inr => cases hp
 obtain ⟨rfl, rfl⟩ : f = f' ∧ k = k' := by cases hp; exact ⟨rfl, rfl⟩
 have hfl := many_of hs
 rw [hf] at hfl
 have hL : L.length ≤ 400 := by have := of_decide_eq_false hfl.symm; omega
 obtain ⟨g0, g1, g2, g3⟩ := hg0.out w1 hm
 have hkl := hide hr.at'
 have hc1 := hr.cells.2.1
 have hw1s : w.heap.size + 3 < w1.heap.size := by have := hr.lt; omega
 rw [hsz0.out] at ho
 have hDo : Hid (Door w (w1.setCell ⟨w.heap.size, 0, none⟩ sv) sv k L) := by
  have e1 : w.heap.size ≠ w.heap.size + 1 := by omega
  have e2 : w.heap.size ≠ w.heap.size + 1 + 1 := by omega
  refine ⟨sl_set g0, store_block g1 e1.symm _ _, store_block g2 e2.symm _ _, ?_, by simpa [World.setCell] using hw1s, ?_, g3.setCell (p := ⟨w.heap.size, 0, none⟩) (Nat.le_refl _) _⟩
  ·unfold World.cell? at hc1 ⊢
   rw [Below.heap_setCell _ _ _ _ (by show w.heap.size + 1 + 1 + 1 ≠ w.heap.size; omega)]
   exact hc1
  ·obtain ⟨h1, h2⟩ := (show w1.ownsRow _ 66 2 sv L.length (cells2 L) from ho)
   refine ⟨h1, ?_⟩
   rcases h2 with h | ⟨g, cap, cur, rfl, hg, hh, hn', hm', hs', ht⟩
   ·exact .inl h
   ·exact .inr ⟨g, cap, cur, rfl, hg, by rw [Below.heap_setCell _ _ _ _ (by show g ≠ w.heap.size; omega)]; exact hh, hn', hm', hs', ht⟩
 obtain ⟨m0, f0⟩ := sl_cells (sv := .slice none 0 0) g0
 have HS := hide hs
 obtain ⟨so, sc, hsv⟩ := ho.shape
 obtain ⟨ln, hln⟩ : ∃ ln, ln = L.length := ⟨_, rfl⟩
 rw [← hln] at hsv
 have HLN := hide hln
 have HSV := hide hsv
 have HLL := hide hL
 rw [hsv] at hDo ⊢
 clear hp ho hs hr hik hm hX hf hfl g0 g1 g2 g3 hc1 hw1s HX HB0 hg0 hsz0 hsv hln hL
 go_upto_region 4 with fail
 obtain ⟨W, hW⟩ : ∃ W, W = w1.setCell ⟨w.heap.size, 0, none⟩ (.slice so ln sc) := ⟨_, rfl⟩
 rw [← hW] at hDo ⊢
 clear hW m0 f0
 have HK := hide (fun W' (hD : Door w W' (.slice so ln sc) k L) => check_any _ L W' hD.own.reads)
 rw [checkE_ok.2 ⟨HLL.out, HS.out.1⟩] at HK
 have HMd := hide (fun W' => made_ok so ln sc W')
 refine wp_region_noPanic ?_
 have hDd := hDo.out.keep (W' := W.drew) ⟨rfl, rfl, rfl, Nat.le_refl _, fun _ _ => rfl⟩
 have HDd := hide hDd
 have HSs := hide hDd.n3
 obtain ⟨m0, f0⟩ := sl_cells hDd.n0
 refine wp_region_held (S := fun w' => w'.cell? ⟨w.heap.size + 1 + 1 + 1, 1, none⟩ = some (.int .i64 k)) (by kernel_rfl) ?_
 change wpAnyH _ _ _ _ _ _ _ _ (World.drew _)
 clear hDd
 refine wpAnyH_take (i := 4) (v := .pointer (some ⟨w.heap.size + 1 + 1 + 1, 0, none⟩)) rfl (by kernel_rfl) (by kernel_rfl) (by kernel_rfl) (fun _ _ _ h => h) (Or.inl ⟨by kernel_rfl, fun w' hS => ?_⟩) HSs.out ?_
 ·go_simp
 refine wpAnyH_take (i := 5) (v := .pointer (some ⟨w.heap.size + 1 + 1 + 1, 0, none⟩)) rfl (by kernel_rfl) (by kernel_rfl) (by kernel_rfl) (fun _ _ _ h => h) (Or.inl ⟨by kernel_rfl, fun w' hS => ?_⟩) HSs.out ?_
 ·go_simp
 refine wpAnyH_take (i := 6) (v := .pointer (some ⟨w.heap.size + 1 + 1 + 1, 0, none⟩)) rfl (by kernel_rfl) (by kernel_rfl) (by kernel_rfl) (fun _ _ _ h => h) (Or.inl ⟨by kernel_rfl, fun w' hS => ?_⟩) HSs.out ?_
 ·go_simp
 refine wpAnyH_take (i := 7) (v := .pointer (some ⟨w.heap.size + 1 + 1 + 1, 1, none⟩)) rfl (by kernel_rfl) (by kernel_rfl) (by kernel_rfl) (fun _ _ _ h => h) (Or.inl ⟨by kernel_rfl, fun w' hS => ?_⟩) HSs.out ?_
 ·go_simp
 refine wpAnyH_take (i := 8) (v := .int .i64 k) rfl (by kernel_rfl) (by kernel_rfl) (by kernel_rfl) (fun _ _ _ h => h) (Or.inl ⟨by kernel_rfl, fun w' hS => ?_⟩) HSs.out ?_
 ·go_simp
 refine wpAnyH_take (i := 9) (v := .agg #[.int .i64 0, .int .i64 0]) rfl (by kernel_rfl) (by kernel_rfl) (by kernel_rfl) (fun _ _ _ h => h) (Or.inl ⟨by kernel_rfl, fun w' hS => ?_⟩) HSs.out ?_
 ·go_simp
 refine wpAnyH_ready (rs := [0, 1]) (by kernel_rfl) (by simp) ?_
 refine AllReadyH.cons rfl (fun K hK => ?_) (AllReadyH.cons rfl (fun K hK => ?_) AllReadyH.nil)
 ·go_simp
  refine hK.out _ _ HDd.out.n3 (fun _ => ?_)
  clear hK K
  refine wpAnyH_ready (rs := [1]) (by kernel_rfl) (by simp) ?_
  refine AllReadyH.cons rfl (fun K hK => ?_) AllReadyH.nil
  go_simp
  refine hK.out _ _ HDd.out.n3 (fun _ => ?_)
  clear hK K
  refine wpAnyH_ready (rs := [2]) (by kernel_rfl) (by simp) ?_
  refine AllReadyH.cons rfl (fun K hK => ?_) AllReadyH.nil
  go_simp
  refine (HK.out _ HDd.out).mono ?_
  rintro e w7 ⟨rfl, hb7⟩
  have HD7 := hide (HDd.out.keep hb7)
  have m7 := (sl_cells HD7.out.n0).1
  refine hK.out _ _ HD7.out.n3 (fun _ => ?_)
  clear hK K hb7
  refine wpAnyH_ready (rs := [3]) (by kernel_rfl) (by simp) ?_
  refine AllReadyH.cons rfl (fun K hK => ?_) AllReadyH.nil
  go_simp
  refine (HMd.out _).mono ?_
  rintro e w8 ⟨rfl, rfl⟩
  refine hK.out _ _ HD7.out.n3 (fun _ => ?_)
  clear hK K
  have hDx := HD7.out
  obtain ⟨x0, y0⟩ := sl_cells hDx.n0
  obtain ⟨x1, y1⟩ := in_cells hDx.n1
  obtain ⟨x2, x3, y2⟩ := fau_cells hDx.n2
  have hla := hDx.last
  have u1 : ¬ w.heap.size = w.heap.size + 1 := by omega
  have u2 : ¬ w.heap.size + 1 = w.heap.size := by omega
  have u3 : ¬ w.heap.size = w.heap.size + 1 + 1 := by omega
  have u4 : ¬ w.heap.size + 1 + 1 = w.heap.size := by omega
  have u5 : ¬ w.heap.size + 1 = w.heap.size + 1 + 1 := by omega
  have u6 : ¬ w.heap.size + 1 + 1 = w.heap.size + 1 := by omega
  have x9 := hDx.n3
  have HLA := hide hla
  clear hla hDx
  refine wpAnyH_ready (rs := [10]) (by kernel_rfl) (by simp) ?_
  refine AllReadyH.cons rfl (fun K hK => ?_) AllReadyH.nil
  go_simp
  refine hK.out _ _ (by rw [World.cell?_setCell_far _ _ _ _ (by show w.heap.size ≠ w.heap.size + 1 + 1 + 1; omega)]; exact x9) (fun hS1 => ?_)
  clear hK K
  refine wpAnyH_ready (rs := [11]) (by kernel_rfl) (by simp) ?_
  refine AllReadyH.cons rfl (fun K hK => ?_) AllReadyH.nil
  go_simp
  refine hK.out _ _ (by rw [World.cell?_setCell_far _ _ _ _ (by show w.heap.size + 1 ≠ w.heap.size + 1 + 1 + 1; omega)]; exact hS1) (fun hS2 => ?_)
  clear hK K
  refine wpAnyH_ready (rs := [12]) (by kernel_rfl) (by simp) ?_
  refine AllReadyH.cons rfl (fun K hK => ?_) AllReadyH.nil
  go_simp
  refine hK.out _ _ (by rw [World.cell?_setCell_far _ _ _ _ (by show w.heap.size + 1 + 1 ≠ w.heap.size + 1 + 1 + 1; omega), World.cell?_setCell_far _ _ _ _ (by show w.heap.size + 1 + 1 ≠ w.heap.size + 1 + 1 + 1; omega)]; exact hS2) (fun hS3 => ?_)
  clear hK K
  refine wpAnyH_done (by kernel_rfl) ?_ _
  refine NoPanic.normal ?_
  clear x0 x1 x2 x3 x9 y0 y1 y2 hS1 hS2 hS3
  go_wp2
  obtain ⟨z0, z1, z2, z3, z4⟩ := HLA.out
  exact leave_ok (N := w.heap.size) rfl rfl rfl z0 z1 z2 (.inl ⟨f, k, _, L, hE.out, rfl, z3, HS.out, HLL.out, hkl.out, z4⟩)
 ·go_simp
  refine hK.out _ _ HDd.out.n3 (fun _ => ?_)
  clear hK K
  refine wpAnyH_ready (rs := [0, 2]) (by kernel_rfl) (by simp) ?_
  refine AllReadyH.cons rfl (fun K hK => ?_) (AllReadyH.cons rfl (fun K hK => ?_) AllReadyH.nil)
  ·go_simp
   refine hK.out _ _ HDd.out.n3 (fun _ => ?_)
   clear hK K
   refine wpAnyH_ready (rs := [2]) (by kernel_rfl) (by simp) ?_
   refine AllReadyH.cons rfl (fun K hK => ?_) AllReadyH.nil
   go_simp
   refine (HK.out _ HDd.out).mono ?_
   rintro e w7 ⟨rfl, hb7⟩
   have HD7 := hide (HDd.out.keep hb7)
   have m7 := (sl_cells HD7.out.n0).1
   refine hK.out _ _ HD7.out.n3 (fun _ => ?_)
   clear hK K hb7
   refine wpAnyH_ready (rs := [3]) (by kernel_rfl) (by simp) ?_
   refine AllReadyH.cons rfl (fun K hK => ?_) AllReadyH.nil
   go_simp
   refine (HMd.out _).mono ?_
   rintro e w8 ⟨rfl, rfl⟩
   refine hK.out _ _ HD7.out.n3 (fun _ => ?_)
   clear hK K
   have hDx := HD7.out
   obtain ⟨x0, y0⟩ := sl_cells hDx.n0
   obtain ⟨x1, y1⟩ := in_cells hDx.n1
   obtain ⟨x2, x3, y2⟩ := fau_cells hDx.n2
   have hla := hDx.last
   have u1 : ¬ w.heap.size = w.heap.size + 1 := by omega
   have u2 : ¬ w.heap.size + 1 = w.heap.size := by omega
   have u3 : ¬ w.heap.size = w.heap.size + 1 + 1 := by omega
   have u4 : ¬ w.heap.size + 1 + 1 = w.heap.size := by omega
   have u5 : ¬ w.heap.size + 1 = w.heap.size + 1 + 1 := by omega
   have u6 : ¬ w.heap.size + 1 + 1 = w.heap.size + 1 := by omega
   have x9 := hDx.n3
   have HLA := hide hla
   clear hla hDx
   refine wpAnyH_ready (rs := [10]) (by kernel_rfl) (by simp) ?_
   refine AllReadyH.cons rfl (fun K hK => ?_) AllReadyH.nil
   go_simp
   refine hK.out _ _ (by rw [World.cell?_setCell_far _ _ _ _ (by show w.heap.size ≠ w.heap.size + 1 + 1 + 1; omega)]; exact x9) (fun hS1 => ?_)
   clear hK K
   refine wpAnyH_ready (rs := [11]) (by kernel_rfl) (by simp) ?_
   refine AllReadyH.cons rfl (fun K hK => ?_) AllReadyH.nil
   go_simp
   refine hK.out _ _ (by rw [World.cell?_setCell_far _ _ _ _ (by show w.heap.size + 1 ≠ w.heap.size + 1 + 1 + 1; omega)]; exact hS1) (fun hS2 => ?_)
   clear hK K
   refine wpAnyH_ready (rs := [12]) (by kernel_rfl) (by simp) ?_
   refine AllReadyH.cons rfl (fun K hK => ?_) AllReadyH.nil
   go_simp
   refine hK.out _ _ (by rw [World.cell?_setCell_far _ _ _ _ (by show w.heap.size + 1 + 1 ≠ w.heap.size + 1 + 1 + 1; omega), World.cell?_setCell_far _ _ _ _ (by show w.heap.size + 1 + 1 ≠ w.heap.size + 1 + 1 + 1; omega)]; exact hS2) (fun hS3 => ?_)
   clear hK K
   refine wpAnyH_done (by kernel_rfl) ?_ _
   refine NoPanic.normal ?_
   clear x0 x1 x2 x3 x9 y0 y1 y2 hS1 hS2 hS3
   go_wp2
   obtain ⟨z0, z1, z2, z3, z4⟩ := HLA.out
   exact leave_ok (N := w.heap.size) rfl rfl rfl z0 z1 z2 (.inl ⟨f, k, _, L, hE.out, rfl, z3, HS.out, HLL.out, hkl.out, z4⟩)
  ·go_simp
   refine (HK.out _ HDd.out).mono ?_
   rintro e w7 ⟨rfl, hb7⟩
   have HD7 := hide (HDd.out.keep hb7)
   have m7 := (sl_cells HD7.out.n0).1
   refine hK.out _ _ HD7.out.n3 (fun _ => ?_)
   clear hK K hb7
   refine wpAnyH_ready (rs := [0]) (by kernel_rfl) (by simp) ?_
   refine AllReadyH.cons rfl (fun K hK => ?_) AllReadyH.nil
   go_simp
   refine hK.out _ _ HD7.out.n3 (fun _ => ?_)
   clear hK K
   refine wpAnyH_ready (rs := [3]) (by kernel_rfl) (by simp) ?_
   refine AllReadyH.cons rfl (fun K hK => ?_) AllReadyH.nil
   go_simp
   refine (HMd.out _).mono ?_
   rintro e w8 ⟨rfl, rfl⟩
   refine hK.out _ _ HD7.out.n3 (fun _ => ?_)
   clear hK K
   have hDx := HD7.out
   obtain ⟨x0, y0⟩ := sl_cells hDx.n0
   obtain ⟨x1, y1⟩ := in_cells hDx.n1
   obtain ⟨x2, x3, y2⟩ := fau_cells hDx.n2
   have hla := hDx.last
   have u1 : ¬ w.heap.size = w.heap.size + 1 := by omega
   have u2 : ¬ w.heap.size + 1 = w.heap.size := by omega
   have u3 : ¬ w.heap.size = w.heap.size + 1 + 1 := by omega
   have u4 : ¬ w.heap.size + 1 + 1 = w.heap.size := by omega
   have u5 : ¬ w.heap.size + 1 = w.heap.size + 1 + 1 := by omega
   have u6 : ¬ w.heap.size + 1 + 1 = w.heap.size + 1 := by omega
   have x9 := hDx.n3
   have HLA := hide hla
   clear hla hDx
   refine wpAnyH_ready (rs := [10]) (by kernel_rfl) (by simp) ?_
   refine AllReadyH.cons rfl (fun K hK => ?_) AllReadyH.nil
   go_simp
   refine hK.out _ _ (by rw [World.cell?_setCell_far _ _ _ _ (by show w.heap.size ≠ w.heap.size + 1 + 1 + 1; omega)]; exact x9) (fun hS1 => ?_)
   clear hK K
   refine wpAnyH_ready (rs := [11]) (by kernel_rfl) (by simp) ?_
   refine AllReadyH.cons rfl (fun K hK => ?_) AllReadyH.nil
   go_simp
   refine hK.out _ _ (by rw [World.cell?_setCell_far _ _ _ _ (by show w.heap.size + 1 ≠ w.heap.size + 1 + 1 + 1; omega)]; exact hS1) (fun hS2 => ?_)
   clear hK K
   refine wpAnyH_ready (rs := [12]) (by kernel_rfl) (by simp) ?_
   refine AllReadyH.cons rfl (fun K hK => ?_) AllReadyH.nil
   go_simp
   refine hK.out _ _ (by rw [World.cell?_setCell_far _ _ _ _ (by show w.heap.size + 1 + 1 ≠ w.heap.size + 1 + 1 + 1; omega), World.cell?_setCell_far _ _ _ _ (by show w.heap.size + 1 + 1 ≠ w.heap.size + 1 + 1 + 1; omega)]; exact hS2) (fun hS3 => ?_)
   clear hK K
   refine wpAnyH_done (by kernel_rfl) ?_ _
   refine NoPanic.normal ?_
   clear x0 x1 x2 x3 x9 y0 y1 y2 hS1 hS2 hS3
   go_wp2
   obtain ⟨z0, z1, z2, z3, z4⟩ := HLA.out
   exact leave_ok (N := w.heap.size) rfl rfl rfl z0 z1 z2 (.inl ⟨f, k, _, L, hE.out, rfl, z3, HS.out, HLL.out, hkl.out, z4⟩)
end Go.Proofs.YtaccofiegkdlgaaGreatDoor.Br
namespace Go.Proofs.YtaccofiegkdlgaaGreatDoor.Br
set_option maxHeartbeats 16000000
open Go.RowKit
open TK (Mv PatV ReadsI byteA add_block peel)
set_option linter.unusedVariables false
set_option maxRecDepth 100000
variable {w w' : World} {b : Nat} {v : Value} {l : List Int} {i : Nat} {d : Int} {fo : Bool}
def PostB (w : World) (D : World → Prop) : Exit → Act → World → Prop
 | .panic c, a, W => c = [{ v := .iface 34 (.agg #[.int .i64 2, .int .i64 0]), recovered := false }] ∧ D W ∧ a.defers = dfr w.heap.size ∧ a.tmps[8]? = some (.pointer (some ⟨w.heap.size, 0, none⟩)) ∧ a.tmps[9]? = some (.pointer (some ⟨w.heap.size + 1, 0, none⟩)) ∧ a.tmps[10]? = some (.pointer (some ⟨w.heap.size + 1 + 1, 0, none⟩))
 | _, _, _ => False
theorem PostB.back {D : World → Prop} {c : List PanicEntry} {a : Act} {dst : Nat} {u : Value} {W : World} (hd : (dst != 8 && dst != 9 && dst != 10) = true) (h : PostB w D (.panic c) (a.put (some dst) u) W) : PostB w D (.panic c) a W := by
 simp only [Bool.and_eq_true, bne_iff_ne, ne_eq] at hd
 obtain ⟨h1, h2, h3, h4, h5, h6⟩ := h
 simp only [Act.put] at h3 h4 h5 h6
 rw [Array.getElem?_setIfInBounds_ne (by omega)] at h4 h5 h6
 exact ⟨h1, h2, h3, h4, h5, h6⟩
theorem read_no (h : PatV w v l) (hT : Fo.Tab w) (hpos : 0 < w.heap.size) (hsm : l.length ≤ 300) (hpts : ∀ p ∈ l, 0 ≤ p ∧ p ≤ 1114111) (hdia : d = 1 ∨ d = 2 ∨ d = 3) (hi : i ≤ l.length) {f : PS} {k : Nat} (hX : exprF (par d fo) 21 l i 0 = .ok (f, k)) (hf : manyB f = true) :
  Calls Tryz.prog 95 #[.int .i64 d, v, .int .i64 i, .bool fo] w fun e w' => ReadB d fo l i w e w' := by
 have hE : Hid (readM d fo l i = .error (2, 0)) := by show _ = _; unfold readM; rw [hX]; simp [hf]
 have hmf : ∀ (fn : Fn) (first cap : Array Value) (w : World), (Instr.makeFunc fn first cap).run Tryz.prog w = .ok (.func fn first cap) w := fun _ _ _ _ => rfl
 have hb0 : Below w.heap.size w ((((w.alloc (slO (.slice none 0 0))).alloc (inO 0)).alloc (fauO 0 0)).alloc (.cells #[v, .int .i64 i, .int .i64 d, .bool fo] 132)) := ((((Below.refl _ w).alloc (Nat.le_refl _) _).alloc (by simp) _).alloc (by simp; omega) _).alloc (by simp; omega) _
 have hBB : BB ((((w.alloc (slO (.slice none 0 0))).alloc (inO 0)).alloc (fauO 0 0)).alloc (.cells #[v, .int .i64 i, .int .i64 d, .bool fo] 132)) (w.heap.size + 1 + 1 + 1) v l i d fo :=
  ⟨TK.at_new' _ _ (by simp), h.below hb0, fun x c hl e => by
   obtain ⟨y, c', e', _, hr⟩ := h.some hl
   rw [e'] at e
   cases e
   have := World.block_lt_of_cell? _ _ (hr 0 hl)
   rw [add_block] at this
   omega, hsm, hi, hpts, hdia, hT.below hb0 hpos, by omega⟩
 have hX0 := expr_all (d := d) (fo := fo) (b := w.heap.size + 1 + 1 + 1) (v := v) (l := l) 21 0 rfl (by omega) _ i hBB
 rw [hX] at hX0
 rw [show ((0 : Nat) : Int) = 0 from rfl] at hX0
 obtain ⟨ao, ac, hv⟩ := h.shape
 have HX := hide hX0
 have HB0 := hide hb0
 have hg0 : Hid (∀ w1, Mv (w.heap.size + 1 + 1 + 1) ((((w.alloc (slO (.slice none 0 0))).alloc (inO 0)).alloc (fauO 0 0)).alloc (.cells #[v, .int .i64 i, .int .i64 d, .bool fo] 132)) w1 → w1.heap[w.heap.size]? = some (slO (.slice none 0 0)) ∧ w1.heap[w.heap.size + 1]? = some (inO 0) ∧ w1.heap[w.heap.size + 1 + 1]? = some (fauO 0 0) ∧ Below w.heap.size w w1) := by
  intro w1 hm
  refine ⟨TK.Mv.blockAt hm (TK.at_old (TK.at_old (TK.at_old (TK.at_new _ _)))) (by omega), TK.Mv.blockAt hm (TK.at_old (TK.at_old (TK.at_new' _ _ (by simp)))) (by omega), TK.Mv.blockAt hm (TK.at_old (TK.at_new' _ _ (by simp))) (by omega), ?_⟩
  exact hb0.trans ((hm.below (by simp)).mono (by omega))
 have hsz0 : Hid (((((w.alloc (slO (.slice none 0 0))).alloc (inO 0)).alloc (fauO 0 0)).alloc (.cells #[v, .int .i64 i, .int .i64 d, .bool fo] 132)).heap.size = w.heap.size + 1 + 1 + 1 + 1) := by show _ = _; simp
 clear hb0 hBB h hT hsm hpts hdia hi hX0
 obtain ⟨n, hn⟩ : ∃ n, n = l.length := ⟨_, rfl⟩
 rw [← hn] at hv
 have HN := hide hn
 rw [hv] at HX HB0 hg0 hsz0 ⊢
 clear hn hv
 simp only [slO, inO, fauO] at HX HB0 hg0 hsz0
 go_enter_defers Tryz.func95, Tryz.ntmps95
 go_wp2_with fail
 refine HX.out.mono ?_
 rintro e w1 (⟨f', k', sv, L, hp, rfl, ho, hs, hr, hik, hm⟩ | ⟨z', a', hp, rfl, hm⟩)
 case inr => cases hp
 obtain ⟨rfl, rfl⟩ : f = f' ∧ k = k' := by cases hp; exact ⟨rfl, rfl⟩
 have hfl := many_of hs
 rw [hf] at hfl
 have hL : 400 < L.length := of_decide_eq_true hfl.symm
 obtain ⟨g0, g1, g2, g3⟩ := hg0.out w1 hm
 have hkl := hide hr.at'
 have hc1 := hr.cells.2.1
 have hw1s : w.heap.size + 3 < w1.heap.size := by have := hr.lt; omega
 rw [hsz0.out] at ho
 have hDo : Hid (Door w (w1.setCell ⟨w.heap.size, 0, none⟩ sv) sv k L) := by
  have e1 : w.heap.size ≠ w.heap.size + 1 := by omega
  have e2 : w.heap.size ≠ w.heap.size + 1 + 1 := by omega
  refine ⟨sl_set g0, store_block g1 e1.symm _ _, store_block g2 e2.symm _ _, ?_, by simpa [World.setCell] using hw1s, ?_, g3.setCell (p := ⟨w.heap.size, 0, none⟩) (Nat.le_refl _) _⟩
  ·unfold World.cell? at hc1 ⊢
   rw [Below.heap_setCell _ _ _ _ (by show w.heap.size + 1 + 1 + 1 ≠ w.heap.size; omega)]
   exact hc1
  ·obtain ⟨h1, h2⟩ := (show w1.ownsRow _ 66 2 sv L.length (cells2 L) from ho)
   refine ⟨h1, ?_⟩
   rcases h2 with h | ⟨g, cap, cur, rfl, hg, hh, hn', hm', hs', ht⟩
   ·exact .inl h
   ·exact .inr ⟨g, cap, cur, rfl, hg, by rw [Below.heap_setCell _ _ _ _ (by show g ≠ w.heap.size; omega)]; exact hh, hn', hm', hs', ht⟩
 obtain ⟨m0, f0⟩ := sl_cells (sv := .slice none 0 0) g0
 have HS := hide hs
 obtain ⟨so, sc, hsv⟩ := ho.shape
 obtain ⟨ln, hln⟩ : ∃ ln, ln = L.length := ⟨_, rfl⟩
 rw [← hln] at hsv
 have HLN := hide hln
 have HSV := hide hsv
 have HLL := hide hL
 rw [hsv] at hDo ⊢
 clear hp ho hs hr hik hm hX hf hfl g0 g1 g2 g3 hc1 hw1s HX HB0 hg0 hsz0 hsv hln hL
 go_upto_region 4 with fail
 obtain ⟨W, hW⟩ : ∃ W, W = w1.setCell ⟨w.heap.size, 0, none⟩ (.slice so ln sc) := ⟨_, rfl⟩
 rw [← hW] at hDo ⊢
 clear hW m0 f0
 have HK := hide (fun W' (hD : Door w W' (.slice so ln sc) k L) => check_any _ L W' hD.own.reads)
 rw [checkE_canon HS.out.1, if_pos HLL.out] at HK
 have HMd := hide (fun W' => made_no so ln sc 2 (by decide) W')
 simp only [givesF] at HMd
 refine Code.wp_mono (Q := PostB w (Door w · (.slice so ln sc) k L)) ?_ ?_
 ·rintro e a W' hp
  cases e with
  | panic c =>
   obtain ⟨rfl, hD, hdf, t8, t9, t10⟩ := hp
   obtain ⟨tmps, defers⟩ := a
   simp only at hdf t8 t9 t10
   subst hdf
   exact leave_bad (N := w.heap.size) t8 t9 t10 hD.n0 hD.n1 hD.n2 (fun W'' hb => .inr ⟨2, 0, hE.out, rfl, hD.bel.trans hb⟩)
  | _ => exact hp.elim
 have hDd := hDo.out.keep (W' := W.drew) ⟨rfl, rfl, rfl, Nat.le_refl _, fun _ _ => rfl⟩
 have HDd := hide hDd
 have HSs := hide hDd.n3
 obtain ⟨m0, f0⟩ := sl_cells hDd.n0
 refine wp_region_held (S := fun w' => w'.cell? ⟨w.heap.size + 1 + 1 + 1, 1, none⟩ = some (.int .i64 k)) (by kernel_rfl) ?_
 change wpAnyH _ _ _ _ _ _ _ _ (World.drew _)
 clear hDd
 refine wpAnyH_take (i := 4) (v := .pointer (some ⟨w.heap.size + 1 + 1 + 1, 0, none⟩)) rfl (by kernel_rfl) (by kernel_rfl) (by kernel_rfl) (fun _ _ _ h => PostB.back (dst := 26) (by decide) h) (Or.inl ⟨by kernel_rfl, fun w' hS => ?_⟩) HSs.out ?_
 ·go_simp
 refine wpAnyH_take (i := 5) (v := .pointer (some ⟨w.heap.size + 1 + 1 + 1, 0, none⟩)) rfl (by kernel_rfl) (by kernel_rfl) (by kernel_rfl) (fun _ _ _ h => PostB.back (dst := 27) (by decide) h) (Or.inl ⟨by kernel_rfl, fun w' hS => ?_⟩) HSs.out ?_
 ·go_simp
 refine wpAnyH_take (i := 6) (v := .pointer (some ⟨w.heap.size + 1 + 1 + 1, 0, none⟩)) rfl (by kernel_rfl) (by kernel_rfl) (by kernel_rfl) (fun _ _ _ h => PostB.back (dst := 28) (by decide) h) (Or.inl ⟨by kernel_rfl, fun w' hS => ?_⟩) HSs.out ?_
 ·go_simp
 refine wpAnyH_take (i := 7) (v := .pointer (some ⟨w.heap.size + 1 + 1 + 1, 1, none⟩)) rfl (by kernel_rfl) (by kernel_rfl) (by kernel_rfl) (fun _ _ _ h => PostB.back (dst := 29) (by decide) h) (Or.inl ⟨by kernel_rfl, fun w' hS => ?_⟩) HSs.out ?_
 ·go_simp
 refine wpAnyH_take (i := 8) (v := .int .i64 k) rfl (by kernel_rfl) (by kernel_rfl) (by kernel_rfl) (fun _ _ _ h => PostB.back (dst := 30) (by decide) h) (Or.inl ⟨by kernel_rfl, fun w' hS => ?_⟩) HSs.out ?_
 ·go_simp
 refine wpAnyH_take (i := 9) (v := .agg #[.int .i64 0, .int .i64 0]) rfl (by kernel_rfl) (by kernel_rfl) (by kernel_rfl) (fun _ _ _ h => PostB.back (dst := 31) (by decide) h) (Or.inl ⟨by kernel_rfl, fun w' hS => ?_⟩) HSs.out ?_
 ·go_simp
 refine wpAnyH_ready (rs := [0, 1]) (by kernel_rfl) (by simp) ?_
 refine AllReadyH.cons rfl (fun K hK => ?_) (AllReadyH.cons rfl (fun K hK => ?_) AllReadyH.nil)
 ·go_simp
  refine hK.out _ _ HDd.out.n3 (fun _ => ?_)
  clear hK K
  refine wpAnyH_ready (rs := [1]) (by kernel_rfl) (by simp) ?_
  refine AllReadyH.cons rfl (fun K hK => ?_) AllReadyH.nil
  go_simp
  refine hK.out _ _ HDd.out.n3 (fun _ => ?_)
  clear hK K
  refine wpAnyH_ready (rs := [2]) (by kernel_rfl) (by simp) ?_
  refine AllReadyH.cons rfl (fun K hK => ?_) AllReadyH.nil
  go_simp
  refine (HK.out _ HDd.out).mono ?_
  rintro e w7 ⟨rfl, hb7⟩
  have HD7 := hide (HDd.out.keep hb7)
  have m7 := (sl_cells HD7.out.n0).1
  refine hK.out _ _ HD7.out.n3 (fun _ => ?_)
  clear hK K hb7
  refine wpAnyH_ready (rs := [3]) (by kernel_rfl) (by simp) ?_
  refine AllReadyH.cons rfl (fun K hK => ?_) AllReadyH.nil
  go_simp
  refine (HMd.out _).mono ?_
  rintro e w8 ⟨rfl, rfl⟩
  exact ⟨rfl, HD7.out, rfl, rfl, rfl, rfl⟩
 ·go_simp
  refine hK.out _ _ HDd.out.n3 (fun _ => ?_)
  clear hK K
  refine wpAnyH_ready (rs := [0, 2]) (by kernel_rfl) (by simp) ?_
  refine AllReadyH.cons rfl (fun K hK => ?_) (AllReadyH.cons rfl (fun K hK => ?_) AllReadyH.nil)
  ·go_simp
   refine hK.out _ _ HDd.out.n3 (fun _ => ?_)
   clear hK K
   refine wpAnyH_ready (rs := [2]) (by kernel_rfl) (by simp) ?_
   refine AllReadyH.cons rfl (fun K hK => ?_) AllReadyH.nil
   go_simp
   refine (HK.out _ HDd.out).mono ?_
   rintro e w7 ⟨rfl, hb7⟩
   have HD7 := hide (HDd.out.keep hb7)
   have m7 := (sl_cells HD7.out.n0).1
   refine hK.out _ _ HD7.out.n3 (fun _ => ?_)
   clear hK K hb7
   refine wpAnyH_ready (rs := [3]) (by kernel_rfl) (by simp) ?_
   refine AllReadyH.cons rfl (fun K hK => ?_) AllReadyH.nil
   go_simp
   refine (HMd.out _).mono ?_
   rintro e w8 ⟨rfl, rfl⟩
   exact ⟨rfl, HD7.out, rfl, rfl, rfl, rfl⟩
  ·go_simp
   refine (HK.out _ HDd.out).mono ?_
   rintro e w7 ⟨rfl, hb7⟩
   have HD7 := hide (HDd.out.keep hb7)
   have m7 := (sl_cells HD7.out.n0).1
   refine hK.out _ _ HD7.out.n3 (fun _ => ?_)
   clear hK K hb7
   refine wpAnyH_ready (rs := [0]) (by kernel_rfl) (by simp) ?_
   refine AllReadyH.cons rfl (fun K hK => ?_) AllReadyH.nil
   go_simp
   refine hK.out _ _ HD7.out.n3 (fun _ => ?_)
   clear hK K
   refine wpAnyH_ready (rs := [3]) (by kernel_rfl) (by simp) ?_
   refine AllReadyH.cons rfl (fun K hK => ?_) AllReadyH.nil
   go_simp
   refine (HMd.out _).mono ?_
   rintro e w8 ⟨rfl, rfl⟩
   exact ⟨rfl, HD7.out, rfl, rfl, rfl, rfl⟩
theorem read_any (h : PatV w v l) (hT : Fo.Tab w) (hpos : 0 < w.heap.size) (hsm : l.length ≤ 300) (hpts : ∀ p ∈ l, 0 ≤ p ∧ p ≤ 1114111) (hdia : d = 1 ∨ d = 2 ∨ d = 3) (hi : i ≤ l.length) : Calls Tryz.prog 95 #[.int .i64 d, v, .int .i64 i, .bool fo] w fun e w' => ReadB d fo l i w e w' := by
 cases hX : exprF (par d fo) 21 l i 0 with
 | error e => obtain ⟨z, c⟩ := e; exact read_er h hT hpos hsm hpts hdia hi hX
 | ok x =>
  obtain ⟨f, k⟩ := x
  cases hf : manyB f with
  | false => exact read_ok h hT hpos hsm hpts hdia hi hX hf
  | true => exact read_no h hT hpos hsm hpts hdia hi hX hf
end Go.Proofs.YtaccofiegkdlgaaGreatDoor.Br
namespace Go.Proofs.YtaccofiegkdlgaaGreatDoor.Br
set_option maxHeartbeats 4000000
open Go.RowKit
open TK (Mv PatV ReadsI byteA add_block peel)
set_option linter.unusedVariables false
set_option maxRecDepth 100000
variable {w w' : World} {b : Nat} {v : Value} {l : List Int} {i : Nat} {d : Int} {fo : Bool}
noncomputable def parseM (d : Int) (fo : Bool) (l : List Int) (a : Int) : Except BE (PS × Nat) := if TK.patE d l ≠ 0 then .error (TK.patE d l, 0) else if a < 0 ∨ (l.length : Int) < a then .error (3, 0) else readM d fo l a.toNat
def ParseB (R : Except BE (PS × Nat)) (l : List Int) (w : World) (e : Ending) (w' : World) : Prop :=
 (∃ f k sv L, R = .ok (f, k) ∧ e = .returned (.tuple #[sv, .int .i64 (k : Nat), .agg #[.int .i64 0, .int .i64 0]]) ∧ OR w' w.heap.size sv L ∧ IsSet f L ∧ L.length ≤ 400 ∧ k ≤ l.length ∧ Below w.heap.size w w') ∨
 (∃ z c : Int, R = .error (z, c) ∧ z ≠ 0 ∧ e = .returned (.tuple #[.slice none 0 0, .int .i64 0, .agg #[.int .i64 z, .int .i64 c]]) ∧ Below w.heap.size w w')
theorem ret_parse {tmps : Array Value} {W : World} {N : Nat} {v1 : Value} {k e a : Int} {R : Ending → World → Prop} (h8 : tmps[8]? = some v1) (h9 : tmps[9]? = some (.int .i64 k)) (h10 : tmps[10]? = some (.pointer (some ⟨N, 0, none⟩))) (q0 : W.heap[N]? = some (fauO e a)) (hF : R (.returned (.tuple #[v1, .int .i64 k, .agg #[.int .i64 e, .int .i64 a]])) W) :
  bodyPost Tryz.prog Tryz.f82 R Exit.ret { tmps := tmps, defers := [] } W := by
 obtain ⟨c0, c1, _⟩ := fau_cells q0
 refine bodyPost_ret (v := .tuple #[v1, .int .i64 k, .agg #[.int .i64 e, .int .i64 a]]) ?_ rfl hF
 simp [results, Tryz.results82, go_sem, h8, h9, h10, c0, c1]
theorem not_err {f : PS} {z a : Int} (h : notE (par d fo) f = .error (z, a)) : z ≠ 0 := by
 unfold notE at h; split at h
 ·cases h; decide
 ·cases h
theorem meet_err {f g : PS} {z a : Int} (h : meetE (par d fo) f g = .error (z, a)) : z ≠ 0 := by
 unfold meetE at h; split at h
 ·cases h; decide
 ·cases h
theorem fold_err {f : PS} {z a : Int} (h : foldE (par d fo) f = .error (z, a)) : z ≠ 0 := by
 unfold foldE at h; split at h
 ·cases h; decide
 ·cases h
theorem class_err {s : ByteArray} {no : Bool} {c z a : Int} (h : classE (par d fo) s no c = .error (z, a)) : z ≠ 0 := by
 unfold classE at h
 simp only [par] at h
 by_cases hs : s ∈ names
 ·rw [if_pos hs] at h
  simp only at h
  split at h
  ·exact not_err (d := d) (fo := fo) h
  ·cases h
 ·rw [if_neg hs] at h
  cases h; decide
theorem word_err {z a : Int} (h : wordE (par d fo) l i = .error (z, a)) : z ≠ 0 := by
 unfold wordE at h
 split at h
 ·cases h; decide
 ·split at h
  ·simp only [par] at h
   cases hn : TK.nextT 1 l i with
   | error e =>
    rw [hn] at h
    simp only [wordOf] at h
    cases h
    have := TK.next_err hn
    unfold TK.eOk at this
    omega
   | ok x =>
    rw [hn] at h
    obtain ⟨t, k⟩ := x
    simp only [wordOf] at h
    split at h
    ·rename_i heq
     split at heq
     ·cases heq
     ·split at heq
      ·cases heq
      ·cases heq; cases h; decide
    ·cases h
  ·cases h
theorem named_err' {z a : Int} (h : namedE (par d fo) l i = .error (z, a)) : z ≠ 0 := by
 unfold namedE at h
 simp only at h
 generalize (if ((par d fo).ruby && isAt l (i + 2) [94]) = true then i + 3 else i + 2) = j at h
 split at h
 ·cases h; decide
 ·split at h
  ·rename_i e heq
   cases h
   exact class_err heq
  ·cases h
theorem end_err {c z a : Int} (h : endE (par d fo) l i c = .error (z, a)) : z ≠ 0 := by
 unfold endE at h
 split at h
 ·cases h; decide
 ·split at h
  ·rename_i e heq; cases h; exact word_err heq
  ·cases h; decide
  ·split at h
   ·cases h; decide
   ·cases h
def ErrOk (rec : Rec) : Prop := ∀ l i deep z a, rec l i deep = .error (z, a) → z ≠ 0
theorem item_err {rec : Rec} (hr : ErrOk rec) {deep : Nat} {z a : Int} (h : itemE (par d fo) rec l i deep = .error (z, a)) : z ≠ 0 := by
 unfold itemE at h
 split at h
 ·exact named_err' h
 ·split at h
  ·split at h
   ·cases h; decide
   ·exact hr _ _ _ _ _ h
  ·split at h
   ·rename_i e heq; cases h; exact word_err heq
   ·split at h
    ·rename_i e heq; cases h; exact class_err heq
    ·cases h
   ·split at h
    ·split at h
     ·rename_i e heq; cases h; exact end_err heq
     ·cases h
    ·cases h
theorem items_err {rec : Rec} (hr : ErrOk rec) {first deep : Nat} {z a : Int} : ∀ (n i : Nat) (acc : PS), itemsE (par d fo) rec l first deep n i acc = .error (z, a) → z ≠ 0
 | 0, i, acc, h => by cases h
 | n + 1, i, acc, h => by
  unfold itemsE at h
  split at h
  ·cases h
  ·split at h
   ·rename_i e heq; cases h; exact item_err hr heq
   ·exact items_err hr n _ _ h
theorem part_err {rec : Rec} (hr : ErrOk rec) {first deep : Nat} {z a : Int} (h : partE (par d fo) rec l first deep i = .error (z, a)) : z ≠ 0 := by
 unfold partE at h
 split at h
 ·rename_i e heq; cases h; exact items_err hr _ _ _ heq
 ·split at h
  ·cases h; decide
  ·split at h
   ·split at h
    ·rename_i e heq; cases h; exact fold_err heq
    ·cases h
   ·cases h
theorem ands_err {rec : Rec} (hr : ErrOk rec) {first deep : Nat} {z a : Int} : ∀ (n i : Nat) (acc : PS), andsE (par d fo) rec l first deep n i acc = .error (z, a) → z ≠ 0
 | 0, i, acc, h => by cases h
 | n + 1, i, acc, h => by
  unfold andsE at h
  split at h
  ·split at h
   ·rename_i e heq; cases h; exact part_err hr heq
   ·split at h
    ·rename_i e heq; cases h; exact meet_err heq
    ·exact ands_err hr n _ _ h
  ·cases h
theorem body_err {rec : Rec} (hr : ErrOk rec) {deep : Nat} {z a : Int} (h : bodyE (par d fo) rec l i deep = .error (z, a)) : z ≠ 0 := by
 unfold bodyE at h
 split at h
 ·rename_i e heq; cases h; exact part_err hr heq
 ·split at h
  ·rename_i e heq; cases h; exact ands_err hr _ _ _ heq
  ·cases h
theorem expr_err : ∀ n, ErrOk (exprF (par d fo) n)
 | 0 => fun l i deep z a h => by cases h; decide
 | n + 1 => fun l i deep z a h => by
  unfold exprF exprG at h
  split at h
  ·split at h
   ·rename_i e heq; cases h; exact body_err (expr_err n) heq
   ·split at h
    ·rename_i e heq; cases h; exact not_err heq
    ·cases h
  ·exact body_err (expr_err n) h
theorem read_err {z a : Int} (h : readM d fo l i = .error (z, a)) : z ≠ 0 := by
 unfold readM at h
 split at h
 ·rename_i e heq; cases h; exact expr_err 21 _ _ _ _ _ heq
 ·split at h
  ·cases h; decide
  ·cases h
theorem parse_any (d a : Int) (v : Value) (l : List Int) (fo : Bool) (w : World) (h : PatV w v l) (hT : Fo.Tab w) (hpos : 0 < w.heap.size) : Calls Tryz.prog 82 #[.int .i64 d, v, .int .i64 a, .bool fo] w fun e w' => ParseB (parseM d fo l a) l w e w' := by
 have hb0 : Below w.heap.size w (w.alloc (fauO 0 0)) := (Below.refl _ w).alloc (Nat.le_refl _) _
 have HC := hide (TK.checkPattern_any d v l _ (h.below hb0))
 obtain ⟨ao, c, hv⟩ := h.shape
 by_cases hz : TK.patE d l = 0
 ·obtain ⟨hd, hsm, hpts⟩ := TK.patE_ok hz
  rw [hz] at HC
  by_cases ha : a < 0
  ·have hE : Hid (parseM d fo l a = .error (3, 0)) := by show _ = _; unfold parseM; rw [if_neg (by simp [hz]), if_pos (Or.inl ha)]
   simp only [fauO] at HC
   have HB := hide hb0
   rw [hv] at HC ⊢
   clear h hv hz hpts hb0
   go_enter Tryz.func82, Tryz.ntmps82
   go_wp2_with fail
   refine HC.out.mono ?_
   rintro e w' ⟨rfl, rfl⟩
   go_wp21
   go_wp21
   exact ret_parse (N := w.heap.size) (e := 3) (a := 0) rfl rfl rfl (TK.at_new _ _) (.inr ⟨3, 0, hE.out, by decide, rfl, (Below.refl _ w).alloc (Nat.le_refl _) _⟩)
  ·by_cases hb : (l.length : Int) < a
   ·have hE : Hid (parseM d fo l a = .error (3, 0)) := by show _ = _; unfold parseM; rw [if_neg (by simp [hz]), if_pos (Or.inr hb)]
    simp only [fauO] at HC
    have HB := hide hb0
    rw [hv] at HC ⊢
    clear h hv hz hpts hb0
    go_enter Tryz.func82, Tryz.ntmps82
    go_wp2_with fail
    refine HC.out.mono ?_
    rintro e w' ⟨rfl, rfl⟩
    go_wp21
    go_wp21
    exact ret_parse (N := w.heap.size) (e := 3) (a := 0) rfl rfl rfl (TK.at_new _ _) (.inr ⟨3, 0, hE.out, by decide, rfl, (Below.refl _ w).alloc (Nat.le_refl _) _⟩)
   ·obtain ⟨i, rfl⟩ : ∃ i : Nat, a = i := ⟨a.toNat, by omega⟩
    have hE : Hid (parseM d fo l (i : Int) = readM d fo l i) := by show _ = _; unfold parseM; rw [if_neg (by simp [hz]), if_neg (by omega)]; simp
    have HR := hide (read_any (d := d) (fo := fo) (i := i) (h.below hb0) (hT.below hb0 hpos) (by simp) hsm hpts hd (by omega))
    have hli : ¬ ((l.length : Int) < (i : Int)) := by omega
    have hli2 : (i : Int) ≤ (l.length : Int) := by omega
    simp only [fauO] at HC HR
    have HB := hide hb0
    obtain ⟨n, hn⟩ : ∃ n, n = l.length := ⟨_, rfl⟩
    rw [← hn] at hv hli hli2
    rw [hv] at HC HR ⊢
    clear h hv hz hpts hb0 ha hb hn hT
    go_enter Tryz.func82, Tryz.ntmps82
    go_wp2_with fail
    refine HC.out.mono ?_
    rintro e w' ⟨rfl, rfl⟩
    go_wp2_with fail
    refine HR.out.mono ?_
    rintro e w2 (⟨f, k, sv, L, hR, rfl, ho, hs, hL, hkl, hb2⟩ | ⟨z, c', hR, rfl, hb2⟩)
    ·have hN : w2.heap[w.heap.size]? = some (fauO 0 0) := by rw [hb2.block _ (by simp)]; exact TK.at_new _ _
     obtain ⟨m0, m1, fr0⟩ := fau_cells hN
     have HE := hide (hE.out.trans hR)
     have HB2 := hide (HB.out.trans (hb2.mono HB.out.size))
     have HO : Hid (OR ((w2.setCell ⟨w.heap.size, 0, none⟩ (.int .i64 0)).setCell ⟨w.heap.size, 1, none⟩ (.int .i64 0)) w.heap.size sv L) := by
      obtain ⟨h1, h2⟩ := (show w2.ownsRow _ 66 2 sv L.length (cells2 L) from ho)
      refine ⟨h1, ?_⟩
      rcases h2 with h | ⟨g, cap, cur, rfl, hg, hh, hn', hm', hs', ht⟩
      ·exact .inl h
      ·have hg' : w.heap.size + 1 ≤ g := by simpa using hg
       exact .inr ⟨g, cap, cur, rfl, by omega, by rw [Below.heap_setCell _ _ _ _ (by show g ≠ w.heap.size; omega), Below.heap_setCell _ _ _ _ (by show g ≠ w.heap.size; omega)]; exact hh, hn', hm', hs', ht⟩
     have HS := hide hs
     have HL := hide hL
     have HKL := hide hkl
     have HN := hide hN
     obtain ⟨so, sc, hsv⟩ := ho.shape
     obtain ⟨ln, hln⟩ : ∃ ln, ln = L.length := ⟨_, rfl⟩
     rw [← hln] at hsv
     rw [hsv] at HO ⊢
     clear hb2 hR hE ho hs hL hkl hsv hln hN HR HC
     go_wp21
     exact ret_parse (N := w.heap.size) (e := 0) (a := 0) rfl rfl rfl (fau_set HN.out) (.inl ⟨f, k, _, L, HE.out, rfl, HO.out, HS.out, HL.out, HKL.out, (HB2.out.setCell (p := ⟨w.heap.size, 0, none⟩) (Nat.le_refl _) _).setCell (p := ⟨w.heap.size, 1, none⟩) (Nat.le_refl _) _⟩)
    ·have hN : w2.heap[w.heap.size]? = some (fauO 0 0) := by rw [hb2.block _ (by simp)]; exact TK.at_new _ _
     obtain ⟨m0, m1, fr0⟩ := fau_cells hN
     have HE := hide (hE.out.trans hR)
     have HZ := hide (read_err hR)
     have HB2 := hide (HB.out.trans (hb2.mono HB.out.size))
     have HN := hide hN
     clear hb2 hR hE hN HR HC
     go_wp21
     exact ret_parse (N := w.heap.size) (e := z) (a := c') rfl rfl rfl (fau_set HN.out) (.inr ⟨z, c', HE.out, HZ.out, rfl, (HB2.out.setCell (p := ⟨w.heap.size, 0, none⟩) (Nat.le_refl _) _).setCell (p := ⟨w.heap.size, 1, none⟩) (Nat.le_refl _) _⟩)
 ·have hE : Hid (parseM d fo l a = .error (TK.patE d l, 0)) := by show _ = _; unfold parseM; rw [if_pos hz]
  simp only [fauO] at HC
  have HB := hide hb0
  have HZ := hide hz
  obtain ⟨z, hzz⟩ : ∃ z, z = TK.patE d l := ⟨_, rfl⟩
  rw [← hzz] at HC hE hz HZ
  rw [hv] at HC ⊢
  have hzb : (z != 0) = true := by simpa using hz
  clear h hv hb0 hzz hz
  go_enter Tryz.func82, Tryz.ntmps82
  go_wp2_with fail
  refine HC.out.mono ?_
  rintro e w' ⟨rfl, rfl⟩
  go_wp21
  go_wp21
  exact ret_parse (N := w.heap.size) (e := z) (a := 0) rfl rfl rfl (TK.at_new _ _) (.inr ⟨z, 0, hE.out, HZ.out, rfl, (Below.refl _ w).alloc (Nat.le_refl _) _⟩)
end Go.Proofs.YtaccofiegkdlgaaGreatDoor.Br
