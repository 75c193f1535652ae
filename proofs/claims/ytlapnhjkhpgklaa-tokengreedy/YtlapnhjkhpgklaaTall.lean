/- What All answers. -/
import Derived.Test.YtlapnhjkhpgklaaTnext2
import Derived.Test.YtlapnhjkhpgklaaTgerr
namespace Go.Proofs.Ytlapnhjkhpgklaa
open Go.RowKit
set_option linter.unusedVariables false

def i64s (l : List Int) : List Value := l.map (Value.int .i64)
theorem i64s_append (a b : List Int) : i64s (a ++ b) = i64s a ++ i64s b := by simp [i64s]
def encT (t : Tok) : List Value := [.int .i64 t.kind, .int .i64 t.num, .string t.text, .bool t.neg, .int .i64 t.least, .int .i64 t.most, .int .i64 t.way, .int .i64 t.fold]
def cells8 (L : List Tok) : List Value := L.flatMap encT
theorem cells8_append (a b : List Tok) : cells8 (a ++ b) = cells8 a ++ cells8 b := by simp [cells8]
theorem cells8_one (t : Tok) : cells8 [t] = encT t := by simp [cells8]
/-- the tokens of the points up to i, and where each begins. -/
inductive Run (d : Int) (l : List Int) : Nat → List Tok → List Int → Prop
  | nil : Run d l 0 [] []
  | step {i k : Nat} {t : Tok} {L : List Tok} {S : List Int} : Run d l i L S → nextT d l i = .ok (t, k) → Run d l k (L ++ [t]) (S ++ [(i : Int)])
theorem Run.len {d : Int} {l : List Int} {i : Nat} {L : List Tok} {S : List Int} (h : Run d l i L S) : L.length ≤ i ∧ S.length = L.length := by
  induction h with
  | nil => simp
  | step h1 h2 ih => have := next_pos h2; simp; omega
theorem Run.mem {d : Int} {l : List Int} {i : Nat} {L : List Tok} {S : List Int} (h : Run d l i L S) : ∀ t ∈ L, ∃ j k, nextT d l j = .ok (t, k) := by
  induction h with
  | nil => simp
  | step h1 h2 ih =>
    intro t ht
    rcases List.mem_append.1 ht with ht | ht
    · exact ih t ht
    · simp at ht; subst ht; exact ⟨_, _, h2⟩
theorem info24 : (Try.prog.info? 24).map (fun i => (i.zero, i.size, i.bytes)) = some (some (.agg #[.int .i64 0, .int .i64 0, .string ⟨#[]⟩, .bool false, .int .i64 0, .int .i64 0, .int .i64 0, .int .i64 0]), 8, 72) := by kernel_rfl
theorem info3 : (Try.prog.info? 3).map (fun i => (i.zero, i.size, i.bytes)) = some (some (.int .i64 0), 1, 8) := by kernel_rfl
theorem own_keep {B e k n : Nat} {w w' : World} {v : Value} {xs : List Value} (h : w.ownsRow B e k v n xs) (hb : Below w.heap.size w w') : w'.ownsRow B e k v n xs := by
  obtain ⟨h1, h2⟩ := h
  refine ⟨h1, ?_⟩
  rcases h2 with h2 | ⟨g, cap, cur, hv, hg, hh, r⟩
  · exact .inl h2
  · exact .inr ⟨g, cap, cur, hv, hg, by rw [hb.block g (lt_of_block hh)]; exact hh, r⟩
theorem own_grown {B e k n : Nat} {w w' : World} {v : Value} {xs : List Value} {row : Option Nat} (h : w.ownsRow B e k v n xs) (hg : w.grownBy w' row) (hne : ∀ g, v.ownBlock = some g → some g ≠ row) : w'.ownsRow B e k v n xs := by
  obtain ⟨h1, h2⟩ := h
  refine ⟨h1, ?_⟩
  rcases h2 with h2 | ⟨g, cap, cur, hv, hb, hh, r⟩
  · exact .inl h2
  · refine .inr ⟨g, cap, cur, hv, hb, ?_, r⟩
    rw [hg.block g (lt_of_block hh) (hne g (by rw [hv]; rfl))]
    exact hh
/-- rows of two kinds lie apart. -/
theorem own_apart {B e e' k k' n n' : Nat} {w : World} {v v' : Value} {xs xs' : List Value} (h : w.ownsRow B e k v n xs) (h' : w.ownsRow B e' k' v' n' xs') (hee : e ≠ e') : ∀ g, v.ownBlock = some g → some g ≠ v'.ownBlock := by
  intro g hg hg'
  rcases h.2 with ⟨rfl, _⟩ | ⟨g1, cap, cur, rfl, _, hh, _⟩
  · simp [Value.ownBlock] at hg
  · rcases h'.2 with ⟨rfl, _⟩ | ⟨g2, cap', cur', rfl, _, hh', _⟩
    · simp [Value.ownBlock] at hg'
    · simp [Value.ownBlock] at hg hg'
      rw [hg] at hh
      rw [← hg', hh] at hh'
      simp at hh'
      exact hee hh'.2
theorem tok_one (t : Tok) : ∀ u ∈ encT t, u.oneCell' = true := by
  intro u hu
  simp [encT] at hu
  rcases hu with rfl | rfl | rfl | rfl | rfl | rfl | rfl | rfl <;> rfl
theorem int_one (z : Int) : ∀ u ∈ [Value.int .i64 z], u.oneCell' = true := by
  intro u hu
  simp at hu
  rw [hu]; rfl
def fauO (e a : Int) : Obj := .cells #[.int .i64 e, .int .i64 a] 33 (0, 0)
theorem fau_cells {w : World} {N : Nat} {e a : Int} (h : w.heap[N]? = some (fauO e a)) : w.cell? ⟨N, 0, none⟩ = some (.int .i64 e) ∧ w.cell? ⟨N, 1, none⟩ = some (.int .i64 a) ∧ ∀ o, w.frozen? ⟨N, o, none⟩ = false := by
  unfold fauO at h
  refine ⟨?_, ?_, fun o => ?_⟩ <;> simp [World.cell?, World.frozen?, h]
theorem fau_set {w : World} {N : Nat} {e a e' a' : Int} (h : w.heap[N]? = some (fauO e a)) : ((w.setCell ⟨N, 0, none⟩ (.int .i64 e')).setCell ⟨N, 1, none⟩ (.int .i64 a')).heap[N]? = some (fauO e' a') := by
  unfold fauO at h
  rw [set_one (set_one h _ _) _ _]
  simp [fauO]
theorem ret_all {tmps : Array Value} {W : World} {N : Nat} {v1 v2 : Value} {e a : Int} {R : Ending → World → Prop} (h4 : tmps[4]? = some v1) (h5 : tmps[5]? = some v2) (h6 : tmps[6]? = some (.pointer (some ⟨N, 0, none⟩))) (q0 : W.heap[N]? = some (fauO e a)) (hF : R (.returned (.tuple #[v1, v2, .agg #[.int .i64 e, .int .i64 a]])) W) :
    bodyPost Try.prog Try.f12 R Exit.ret { tmps := tmps, defers := [] } W := by
  obtain ⟨c0, c1, _⟩ := fau_cells q0
  refine bodyPost_ret (v := .tuple #[v1, v2, .agg #[.int .i64 e, .int .i64 a]]) ?_ rfl hF
  simp [results, Try.results12, go_sem, h4, h5, h6, c0, c1]
/-- what All answers. -/
def AllE (d : Int) (l : List Int) (w : World) (e : Ending) (w' : World) : Prop :=
  Below w.heap.size w w' ∧ ((patE d l ≠ 0 ∧ e = .returned (.tuple #[.slice none 0 0, .slice none 0 0, .agg #[.int .i64 (patE d l), .int .i64 0]])) ∨
  (patE d l = 0 ∧ ∃ (i : Nat) (L : List Tok) (S : List Int) (z : Int), Run d l i L S ∧ i < l.length ∧ nextT d l i = .error z ∧ e = .returned (.tuple #[.slice none 0 0, .slice none 0 0, .agg #[.int .i64 z, .int .i64 i]])) ∨
  (patE d l = 0 ∧ ∃ (L : List Tok) (S : List Int) (v1 v2 : Value), Run d l l.length L S ∧ e = .returned (.tuple #[v1, v2, .agg #[.int .i64 0, .int .i64 0]]) ∧ w'.ownsRow w.heap.size 24 8 v1 L.length (cells8 L) ∧ w'.ownsRow w.heap.size 3 1 v2 S.length (i64s S)))

set_option maxHeartbeats 4000000 in
theorem all_bad (d : Int) (v : Value) (l : List Int) (w : World) (h : PatV w v l) (hz : patE d l ≠ 0) : Calls Try.prog 12 #[.int .i64 d, v] w fun e w' => AllE d l w e w' := by
  have hb0 : Below w.heap.size w (w.alloc (fauO 0 0)) := (Below.refl _ w).alloc (Nat.le_refl _) _
  have HC := hide (checkPattern_any d v l _ (h.below hb0))
  obtain ⟨ao, c, hv⟩ := h.shape
  simp only [fauO] at HC
  have hE : Hid (∀ w', Below w.heap.size w w' → AllE d l w (.returned (.tuple #[.slice none 0 0, .slice none 0 0, .agg #[.int .i64 (patE d l), .int .i64 0]])) w') := fun w' hb => ⟨hb, .inl ⟨hz, rfl⟩⟩
  obtain ⟨z, hzz⟩ : ∃ z, z = patE d l := ⟨_, rfl⟩
  rw [← hzz] at HC hz hE
  have hzb : (z != 0) = true := by simpa using hz
  rw [hv] at HC ⊢
  have HB := hide hb0
  clear h hv hb0 hzz hz
  go_enter Try.func12, Try.ntmps12
  go_wp2_with fail
  refine HC.out.mono ?_
  rintro e w' ⟨rfl, rfl⟩
  go_wp21
  exact ret_all (N := w.heap.size) (e := z) (a := 0) rfl rfl rfl (at_new _ _) (hE.out _ ((Below.refl _ w).alloc (Nat.le_refl _) _))

set_option maxRecDepth 100000 in
set_option maxHeartbeats 8000000 in
theorem all_good (d : Int) (v : Value) (l : List Int) (w : World) (h : PatV w v l) (hz : patE d l = 0) : Calls Try.prog 12 #[.int .i64 d, v] w fun e w' => AllE d l w e w' := by
  obtain ⟨i0, hi, hz0, hz1, hz2⟩ := info_parts info24
  obtain ⟨j0, hj, hy0, hy1, hy2⟩ := info_parts info3
  have hb0 : Below w.heap.size w (w.alloc (fauO 0 0)) := (Below.refl _ w).alloc (Nat.le_refl _) _
  have HC := hide (checkPattern_any d v l _ (h.below hb0))
  rw [hz] at HC
  obtain ⟨hd, hsm, hpts⟩ := patE_ok hz
  obtain ⟨ao, c, hv⟩ := h.shape
  simp only [fauO] at HC
  have HZ := hide hz
  have HPat := hide h
  have HPts := hide hpts
  obtain ⟨n, hn⟩ : ∃ n, n = l.length := ⟨_, rfl⟩
  have HN := hide hn
  rw [← hn] at hv hsm
  rw [hv] at HC HPat ⊢
  clear h hv hb0 hz hpts hn hd
  go_enter Try.func12, Try.ntmps12
  go_wp2_with fail
  refine HC.out.mono ?_
  rintro e w' ⟨rfl, rfl⟩
  go_wp2
  go_loopw [8, 9, 10] (fun v1 v2 a wr => ∃ (i : Nat) (L : List Tok) (S : List Int), a = .int .i64 i ∧ i ≤ n ∧ Run d l i L S ∧ wr.ownsRow w.heap.size 24 8 v1 L.length (cells8 L) ∧ wr.ownsRow w.heap.size 3 1 v2 L.length (i64s S) ∧ wr.heap[w.heap.size]? = some (fauO 0 0) ∧ Below w.heap.size w wr) (fun _ _ a _ => n - (intOf a).toNat)
  case atStart => exact ⟨0, [], [], rfl, Nat.zero_le _, Run.nil, World.ownsRow_nil _ _ _ _, World.ownsRow_nil _ _ _ _, at_new _ _, (Below.refl _ w).alloc (Nat.le_refl _) _⟩
  case round =>
    obtain ⟨i, L, S, rfl, hin, hrun, ho1, ho2, hf, hb⟩ := hrel
    obtain ⟨c0, c1, fz⟩ := fau_cells hf
    have hlen := hrun.len
    obtain ⟨a1, k1, rfl⟩ := own_shape ho1
    obtain ⟨a2, k2, rfl⟩ := own_shape ho2
    have HRun := hide hrun
    have HO1 := hide ho1
    have HO2 := hide ho2
    have HF := hide hf
    have HB := hide hb
    have hsz : w.heap.size < wr.heap.size := lt_of_block hf
    by_cases hlt : i < n
    · have hil : i < l.length := by have := HN.out; omega
      obtain ⟨x, cx, hx, hcap, hrd⟩ := HPat.out.some (by omega)
      obtain ⟨rfl⟩ : ao = some x := by cases hx; rfl
      obtain ⟨rfl⟩ : c = cx := by cases hx; rfl
      have HR := hide (read_any d x c l i wr ⟨hrd.below hb, hcap, by have := HN.out; omega, HPts.out⟩ hil)
      rw [← HN.out] at HR
      have e1 : (i : Int) < (n : Int) := by omega
      clear hx hcap hrd hrun ho1 ho2 hf hb
      go_wp2_with fail
      refine HR.out.mono ?_
      rintro e w2 (⟨t, k, hR, rfl, hkl, hb2⟩ | ⟨z, hR, rfl, hb2⟩)
      · have hpos := next_pos hR
        have ho1 := own_keep HO1.out hb2
        have ho2 := own_keep HO2.out hb2
        have hs2 := hb2.size
        have hf2 : w2.heap[w.heap.size]? = some (fauO 0 0) := by rw [hb2.block _ hsz]; exact HF.out
        have HNX := hide hR
        have HB2 := hide (HB.out.trans (hb2.mono HB.out.size))
        have hap := own_apart ho2 ho1 (by decide)
        have hkn : k ≤ n := by have := HN.out; omega
        have hfne : ∀ g, (Value.slice a1 L.length k1).ownBlock = some g → g ≠ w.heap.size := fun g hg e => by
          obtain ⟨_, h2⟩ := ho1
          rcases h2 with ⟨hnil, _⟩ | ⟨g', cap, cur, hv', _, hh, _⟩
          · rw [hnil] at hg; simp [Value.ownBlock] at hg
          · cases hv'
            simp [Value.ownBlock] at hg
            rw [hg, e, hf2] at hh
            simp [fauO] at hh
        have hfne2 : ∀ g, (Value.slice a2 L.length k2).ownBlock = some g → g ≠ w.heap.size := fun g hg e => by
          obtain ⟨_, h2⟩ := ho2
          rcases h2 with ⟨hnil, _⟩ | ⟨g', cap, cur, hv', _, hh, _⟩
          · rw [hnil] at hg; simp [Value.ownBlock] at hg
          · cases hv'
            simp [Value.ownBlock] at hg
            rw [hg, e, hf2] at hh
            simp [fauO] at hh
        have P1 := hide ho1
        have P2 := hide ho2
        have PF := hide hf2
        have HAP := hide hap
        have HF1 := hide hfne
        have HF2 := hide hfne2
        clear hb2 hR ho1 ho2 hf2 hap hfne hfne2 HR
        simp only [tokV]
        have hll : L.length ≤ 300 := by omega
        go_wp2_with (at_builtin; refine wpList_append_own _ rfl _ _ 31 rfl w.heap.size 24 i0 _ 8 72 Try.underlying31 hi hz0 hz1 hz2 rfl (by decide) _ _ _ rfl ((P1.out.alloc _).alloc _) ⟨w2.heap.size + 1, 0, none⟩ 1 1 (encT t) rfl rfl (World.news_of_block (cs := #[.int .i64 t.kind, .int .i64 t.num, .string t.text, .bool t.neg, .int .i64 t.least, .int .i64 t.most, .int .i64 t.way, .int .i64 t.fold]) (t := 24) (fr := (0, 0)) (at_new' _ _ (by simp))) (tok_one t) (by unfold maxLen; omega) (by omega) (by simp; omega) ?_)
        intro v5 w5 hown5 hgrow5 _
        have ho2 := own_grown ((P2.out.alloc _).alloc _) hgrow5 HAP.out
        have hf5 : w5.heap[w.heap.size]? = some (fauO 0 0) := by
          rw [hgrow5.block _ (by simp; omega) (fun e => HF1.out _ e.symm rfl)]
          exact at_old (at_old PF.out)
        have hb5 : Below w.heap.size w w5 := ((HB2.out.alloc (by omega) _).alloc (by simp; omega) _).grown hgrow5 (by simp; omega) (fun g hg => (P1.out.lt g hg).1)
        have hs5 : w2.heap.size ≤ w5.heap.size := by have := hgrow5.size; simp at this; omega
        obtain ⟨a5, k5, hv5⟩ := own_shape hown5
        rw [hv5] at hown5 ⊢
        have Q1 := hide hown5
        have Q2 := hide ho2
        have QF := hide hf5
        have QB := hide hb5
        clear hown5 hgrow5 ho2 hf5 hb5 hv5 P1 P2 PF HAP HF1
        go_wp2_with (at_builtin; refine wpList_append_own _ rfl _ _ 22 rfl w.heap.size 3 j0 _ 1 8 Try.underlying22 hj hy0 hy1 hy2 rfl (by decide) _ _ _ rfl (Q2.out.alloc _) ⟨w5.heap.size, 0, none⟩ 1 1 [.int .i64 i] rfl rfl (World.news_of_block (cs := #[.int .i64 i]) (t := 3) (fr := (0, 0)) (at_new _ _)) (int_one i) (by unfold maxLen; omega) (by omega) (by simp; omega) ?_)
        intro v7 w7 hown7 hgrow7 _
        have ho1 := own_grown (Q1.out.alloc _) hgrow7 (own_apart Q1.out Q2.out (by decide))
        have hf7 : w7.heap[w.heap.size]? = some (fauO 0 0) := by
          rw [hgrow7.block _ (by simp; omega) (fun e => HF2.out _ e.symm rfl)]
          exact at_old QF.out
        have hb7 : Below w.heap.size w w7 := (QB.out.alloc (by omega) _).grown hgrow7 (by simp; omega) (fun g hg => (Q2.out.lt g hg).1)
        obtain ⟨a7, k7, hv7⟩ := own_shape hown7
        rw [hv7] at hown7 ⊢
        have R1 := hide ho1
        have R2 := hide hown7
        have RF := hide hf7
        have RB7 := hide hb7
        clear hown7 hgrow7 ho1 hf7 hb7 hv7 Q1 Q2 QF QB HF2
        go_wp2
        go_roundw
        case rel => exact ⟨k, L ++ [t], S ++ [(i : Int)], rfl, hkn, Run.step HRun.out HNX.out, by rw [cells8_append, cells8_one, List.length_append]; exact R1.out, by rw [i64s_append, List.length_append]; exact R2.out, RF.out, RB7.out⟩
        case measure => simp [intOf]; omega
      · have hs2 := hb2.size
        have hf2 : w2.heap[w.heap.size]? = some (fauO 0 0) := by rw [hb2.block _ hsz]; exact HF.out
        obtain ⟨d0, d1, dz⟩ := fau_cells hf2
        have he := next_err hR
        unfold eOk at he
        have hzb : (z != 0) = true := by simp; omega
        have hq0 : w.heap.size < w2.heap.size := by omega
        have hq1 : ¬ w.heap.size = w2.heap.size := by omega
        have hq2 : ¬ w2.heap.size = w.heap.size := by omega
        have hF : Hid (∀ w', Below w.heap.size w w' → AllE d l w (.returned (.tuple #[.slice none 0 0, .slice none 0 0, .agg #[.int .i64 z, .int .i64 i]])) w') := fun w' hb => ⟨hb, .inr (.inl ⟨HZ.out, i, L, S, z, HRun.out, hil, hR, rfl⟩)⟩
        have HB2 := hide (HB.out.trans (hb2.mono HB.out.size))
        have PF := hide hf2
        clear hb2 hR HR he hf2 c0 c1 fz
        simp only [tokV]
        go_wp21
        exact ret_all (N := w.heap.size) (e := z) (a := (i : Int)) rfl rfl rfl (at_old (fau_set PF.out)) (hF.out _ (((HB2.out.setCell (p := ⟨w.heap.size, 0, none⟩) (Nat.le_refl _) _).setCell (p := ⟨w.heap.size, 1, none⟩) (Nat.le_refl _) _).alloc (by simp [World.setCell]; omega) _))
    · have hin2 : i = n := by omega
      have e1 : ¬ (i : Int) < (n : Int) := by omega
      have hne1 : (Value.slice a1 L.length k1).ownBlock ≠ some w.heap.size := fun e => by
        obtain ⟨_, h2⟩ := HO1.out
        rcases h2 with ⟨hnil, _⟩ | ⟨g', cap, cur, hv', _, hh, _⟩
        · rw [hnil] at e; simp [Value.ownBlock] at e
        · cases hv'
          simp [Value.ownBlock] at e
          rw [e, HF.out] at hh
          simp [fauO] at hh
      have hne2 : (Value.slice a2 L.length k2).ownBlock ≠ some w.heap.size := fun e => by
        obtain ⟨_, h2⟩ := HO2.out
        rcases h2 with ⟨hnil, _⟩ | ⟨g', cap, cur, hv', _, hh, _⟩
        · rw [hnil] at e; simp [Value.ownBlock] at e
        · cases hv'
          simp [Value.ownBlock] at e
          rw [e, HF.out] at hh
          simp [fauO] at hh
      have hF : Hid (∀ w', Below w.heap.size w w' → w'.ownsRow w.heap.size 24 8 (.slice a1 L.length k1) L.length (cells8 L) → w'.ownsRow w.heap.size 3 1 (.slice a2 L.length k2) L.length (i64s S) → AllE d l w (.returned (.tuple #[.slice a1 L.length k1, .slice a2 L.length k2, .agg #[.int .i64 0, .int .i64 0]])) w') := fun w' hb h1 h2 =>
        ⟨hb, .inr (.inr ⟨HZ.out, L, S, _, _, by have := HRun.out; rw [hin2, HN.out] at this; exact this, rfl, h1, by rw [hlen.2]; exact h2⟩)⟩
      have N1 := hide hne1
      have N2 := hide hne2
      clear hrun ho1 ho2 hf hb hne1 hne2 hlen hin2
      go_wp21
      exact ret_all (N := w.heap.size) (e := 0) (a := 0) rfl rfl rfl (fau_set HF.out) (hF.out _ ((HB.out.setCell (p := ⟨w.heap.size, 0, none⟩) (Nat.le_refl _) _).setCell (p := ⟨w.heap.size, 1, none⟩) (Nat.le_refl _) _) (ownsRow_setCell_other (ownsRow_setCell_other HO1.out N1.out _) N1.out _) (ownsRow_setCell_other (ownsRow_setCell_other HO2.out N2.out _) N2.out _))

theorem all_any (d : Int) (v : Value) (l : List Int) (w : World) (h : PatV w v l) : Calls Try.prog 12 #[.int .i64 d, v] w fun e w' => AllE d l w e w' := by
  by_cases hz : patE d l = 0
  · exact all_good d v l w h hz
  · exact all_bad d v l w h hz

end Go.Proofs.Ytlapnhjkhpgklaa
