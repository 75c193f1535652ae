import Derived.Test.YtfnndcbjklppeaaGreatDoorUR
import Derived.LoopN
set_option maxHeartbeats 8000000
set_option linter.unusedVariables false
set_option maxRecDepth 100000
namespace Go.Proofs.YtfnndcbjklppeaaGreatDoor.Vm
open Go.RowKit
variable {w w' : World} {E : ME} {s s' : XS} {cv bv : Value}
theorem put_any (h : MX w E s cv bv) (v : Int) (hl : s.ch.length ≤ 1000) : Calls Tryz.prog 136 #[.pointer (some ⟨E.M, 11, none⟩), .int .i64 0, .agg #[.int .i64 v, .int .i64 0, .int .i64 0]] w fun e w' => e = .returned (.tuple #[]) ∧ (∃ cv', MX w' E { s with ch := s.ch ++ [s.num], num := v } cv' bv) ∧ FX E w w' := by
 have hlt0 := h.lt
 obtain ⟨W, hW⟩ : ∃ W, W = w.alloc (cnO v) := ⟨_, rfl⟩
 have hbW : Below w.heap.size w W := by rw [hW]; exact (Below.refl _ _).alloc (Nat.le_refl _) _
 have hvb : W.heap[w.heap.size]? = some (cnO v) := by rw [hW]; exact at_new _ _
 obtain ⟨vb, hvbe⟩ : ∃ vb, vb = w.heap.size := ⟨_, rfl⟩
 rw [← hvbe] at hvb
 have h1 := h.keep hbW
 have hlt := h1.lt
 have hvM : vb ≠ E.M := by omega
 have hvC : vb ≠ E.cb := by have := lt_of_block h.cnt; omega
 have HFW := hide (FX.of hbW h.ltB)
 obtain ⟨so, sc, w6, hap, hmb, hm, hst⟩ := h1.drew.appC hl
 obtain ⟨co, cc, rfl⟩ := own_shape h.ch
 obtain ⟨n, hn⟩ : ∃ n, n = s.ch.length := ⟨_, rfl⟩
 obtain ⟨n1, hn1⟩ : ∃ n1, n1 = s.ch.length + 1 := ⟨_, rfl⟩
 rw [← hn1] at hap hm hst
 have hcb6 : w6.heap[E.cb]? = some (cnO s.num) := by
  have := hm.cnt
  rw [Below.heap_setCell _ _ _ _ (by show E.cb ≠ E.M; exact Ne.symm h.ne)] at this
  exact this
 have hbb : w6.heap[E.M]? = some (mcO E s (.slice co s.ch.length cc) bv) := by rw [hmb]; exact h1.drew.box
 have k12 : w6.cell? ⟨E.M, 12, none⟩ = some (.slice co n cc) := by rw [hn]; simp [World.cell?, hbb]
 have kf : ∀ o, w6.frozen? ⟨E.M, o, none⟩ = false := by intro o; simp [World.frozen?, hbb]
 have hgk : E.M < w6.heap.size := lt_of_block hbb
 obtain ⟨-, -, -, -, -, -, -, -, -, c12, -⟩ := h1.rd
 simp only [chL] at hap
 rw [← hn] at hap c12
 have ca : ∀ o, (W.drew.alloc o).cell? ⟨E.M, 12, none⟩ = some (.slice co n cc) := fun o => below_cell ((Below.refl _ W.drew).alloc (Nat.le_refl _) o) hlt c12
 have HAP := hide hap
 have HM := hide hm
 have HF := hide ((FX.of (drew1 W) h1.ltB).trans hst)
 have HS : Hid ((∃ x, W.drew.heap[E.M]? = some (mcO E s x bv)) ∧ W.drew.heap[E.cb]? = some (cnO s.num)) := ⟨⟨_, h1.drew.box⟩, h1.drew.cnt⟩
 have HS6 : Hid ((∃ x, w6.heap[E.M]? = some (mcO E s x bv)) ∧ w6.heap[E.cb]? = some (cnO s.num)) := ⟨⟨_, hbb⟩, hcb6⟩
 have HSa : Hid (∀ o, (∃ x, (W.drew.alloc o).heap[E.M]? = some (mcO E s x bv)) ∧ (W.drew.alloc o).heap[E.cb]? = some (cnO s.num)) := fun o => ⟨⟨_, below_at ((Below.refl _ W.drew).alloc (Nat.le_refl _) o) h1.drew.box⟩, below_at ((Below.refl _ W.drew).alloc (Nat.le_refl _) o) h1.drew.cnt⟩
 have HSf : Hid ((∃ x, (w6.setCell ⟨E.M, 12, none⟩ (.slice so n1 sc)).heap[E.M]? = some (mcO E s x bv)) ∧ (w6.setCell ⟨E.M, 12, none⟩ (.slice so n1 sc)).heap[E.cb]? = some (cnO s.num)) := ⟨⟨_, hm.box⟩, hm.cnt⟩
 have HCl : Hid (∀ w' : World, ((∃ x, w'.heap[E.M]? = some (mcO E s x bv)) ∧ w'.heap[E.cb]? = some (cnO s.num)) → w'.cell? ⟨E.M, 11, none⟩ = some (.slice (some ⟨E.cb, 0, none⟩) 1 1) ∧ w'.cell? ⟨E.cb, 0, none⟩ = some (.int .i64 s.num) ∧ w'.cell? ⟨E.cb, 1, none⟩ = some (.int .i64 0) ∧ w'.cell? ⟨E.cb, 2, none⟩ = some (.int .i64 0)) := fun w' ⟨⟨x, hv⟩, hc⟩ => by refine ⟨?_, ?_, ?_, ?_⟩ <;> simp [World.cell?, hv, hc]
 have HVB := hide hvb
 simp only [cnO] at hW
 clear h h1 hap hm hst hbb hmb hn hn1 hbW hvb hcb6
 go_enter Tryz.func136, Tryz.ntmps136
 go_upto_region 1 with fail
 rw [← hW, ← hvbe]
 clear hW hvbe
 refine wp_region_held (S := fun w' => (∃ x, w'.heap[E.M]? = some (mcO E s x bv)) ∧ w'.heap[E.cb]? = some (cnO s.num)) (by kernel_rfl) ?_
 change wpAnyH _ _ _ _ _ _ _ _ (World.drew _)
 refine wpAnyH_take (i := 0) (v := .pointer (some ⟨E.M, 11, none⟩)) rfl (by kernel_rfl) (by kernel_rfl) (by kernel_rfl) (fun _ _ _ h => h) (Or.inl ⟨by kernel_rfl, fun w' hS => ?_⟩) HS.out ?_
 ·go_simp
 refine wpAnyH_take (i := 1) (v := .pointer (some ⟨E.M, 11, none⟩)) rfl (by kernel_rfl) (by kernel_rfl) (by kernel_rfl) (fun _ _ _ h => h) (Or.inl ⟨by kernel_rfl, fun w' hS => ?_⟩) HS.out ?_
 ·go_simp
 refine wpAnyH_take (i := 2) (v := .pointer (some ⟨E.M, 11, none⟩)) rfl (by kernel_rfl) (by kernel_rfl) (by kernel_rfl) (fun _ _ _ h => h) (Or.inl ⟨by kernel_rfl, fun w' hS => ?_⟩) HS.out ?_
 ·go_simp
 refine wpAnyH_take (i := 3) (v := .pointer (some ⟨E.M, 12, none⟩)) rfl (by kernel_rfl) (by kernel_rfl) (by kernel_rfl) (fun _ _ _ h => h) (Or.inl ⟨by kernel_rfl, fun w' hS => ?_⟩) HS.out ?_
 ·go_simp
 refine wpAnyH_take (i := 5) (v := .int .i64 0) rfl (by kernel_rfl) (by kernel_rfl) (by kernel_rfl) (fun _ _ _ h => h) (Or.inl ⟨by kernel_rfl, fun w' hS => ?_⟩) HS.out ?_
 ·go_simp
 refine wpAnyH_take (i := 6) (v := .pointer (some ⟨E.M, 11, none⟩)) rfl (by kernel_rfl) (by kernel_rfl) (by kernel_rfl) (fun _ _ _ h => h) (Or.inl ⟨by kernel_rfl, fun w' hS => ?_⟩) HS.out ?_
 ·go_simp
 refine wpAnyH_take (i := 7) (v := .pointer (some ⟨E.M, 11, none⟩)) rfl (by kernel_rfl) (by kernel_rfl) (by kernel_rfl) (fun _ _ _ h => h) (Or.inl ⟨by kernel_rfl, fun w' hS => ?_⟩) HS.out ?_
 ·go_simp
 refine wpAnyH_take (i := 8) (v := .pointer (some ⟨E.M, 11, none⟩)) rfl (by kernel_rfl) (by kernel_rfl) (by kernel_rfl) (fun _ _ _ h => h) (Or.inl ⟨by kernel_rfl, fun w' hS => ?_⟩) HS.out ?_
 ·go_simp
 refine wpAnyH_take (i := 9) (v := .slice (some ⟨E.cb, 0, none⟩) 1 1) rfl (by kernel_rfl) (by kernel_rfl) (by kernel_rfl) (fun _ _ _ h => h) (Or.inl ⟨by kernel_rfl, fun w' hS => ?_⟩) HS.out ?_
 ·(obtain ⟨y11, z0, z1, z2⟩ := HCl.out w' hS; go_simp)
 refine wpAnyH_take (i := 10) (v := .int .i64 0) rfl (by kernel_rfl) (by kernel_rfl) (by kernel_rfl) (fun _ _ _ h => h) (Or.inl ⟨by kernel_rfl, fun w' hS => ?_⟩) HS.out ?_
 ·go_simp
 refine wpAnyH_take (i := 11) (v := .pointer (some ⟨E.cb, 0, none⟩)) rfl (by kernel_rfl) (by kernel_rfl) (by kernel_rfl) (fun _ _ _ h => h) (Or.inl ⟨by kernel_rfl, fun w' hS => ?_⟩) HS.out ?_
 ·go_simp
 refine wpAnyH_take (i := 12) (v := .agg #[.int .i64 s.num, .int .i64 0, .int .i64 0]) rfl (by kernel_rfl) (by kernel_rfl) (by kernel_rfl) (fun _ _ _ h => h) (Or.inl ⟨by kernel_rfl, fun w' hS => ?_⟩) HS.out ?_
 ·(obtain ⟨y11, z0, z1, z2⟩ := HCl.out w' hS; go_simp)
 refine wpAnyH_take (i := 13) (v := .agg #[.int .i64 0, .int .i64 s.num, .int .i64 0, .int .i64 0]) rfl (by kernel_rfl) (by kernel_rfl) (by kernel_rfl) (fun _ _ _ h => h) (Or.inl ⟨by kernel_rfl, fun w' hS => ?_⟩) HS.out ?_
 ·go_simp
 refine wpAnyH_ready (rs := [4, 14]) (by kernel_rfl) (by simp) ?_
 refine AllReadyH.cons rfl (fun K hK => ?_) (AllReadyH.cons rfl (fun K hK => ?_) AllReadyH.nil)
 ·go_simp
  refine hK.out _ _ HS.out (fun _ => ?_)
  clear hK K
  refine wpAnyH_ready (rs := [14]) (by kernel_rfl) (by simp) ?_
  refine AllReadyH.cons rfl (fun K hK => ?_) AllReadyH.nil
  go_simp
  refine hK.out _ _ (HSa.out _) (fun _ => ?_)
  clear hK K
  refine wpAnyH_ready (rs := [15]) (by kernel_rfl) (by simp) ?_
  refine AllReadyH.cons rfl (fun K hK => ?_) AllReadyH.nil
  refine step_run rfl _ _ _ rfl _ _ (.slice so n1 sc) w6 (by rfl) (by rfl) HAP.out ?_
  refine hK.out _ _ HS6.out (fun _ => ?_)
  clear hK K
  refine wpAnyH_take (i := 16) (v := .pointer (some ⟨E.M, 11, none⟩)) rfl (by kernel_rfl) (by kernel_rfl) (by kernel_rfl) (fun _ _ _ h => h) (Or.inl ⟨by kernel_rfl, fun w' hS => ?_⟩) HS6.out ?_
  ·go_simp
  refine wpAnyH_take (i := 17) (v := .pointer (some ⟨E.M, 12, none⟩)) rfl (by kernel_rfl) (by kernel_rfl) (by kernel_rfl) (fun _ _ _ h => h) (Or.inl ⟨by kernel_rfl, fun w' hS => ?_⟩) HS6.out ?_
  ·go_simp
  refine wpAnyH_ready (rs := [18]) (by kernel_rfl) (by simp) ?_
  refine AllReadyH.cons rfl (fun K hK => ?_) AllReadyH.nil
  go_simp
  refine hK.out _ _ HSf.out (fun _ => ?_)
  clear hK K
  refine wpAnyH_done (by kernel_rfl) ?_ _
  obtain ⟨w7, hw7⟩ : ∃ w7, w7 = w6.setCell ⟨E.M, 12, none⟩ (.slice so n1 sc) := ⟨_, rfl⟩
  have HM7 := hide HM.out
  have HF7 := hide HF.out
  rw [← hw7] at HM7 HF7 ⊢
  have hV7 := HF7.out.oth _ _ _ _ HVB.out hvM hvC (by decide) (by decide)
  have v0 : w7.cell? ⟨vb, 0, none⟩ = some (.int .i64 v) := by simp [World.cell?, hV7]
  have v1 : w7.cell? ⟨vb, 1, none⟩ = some (.int .i64 0) := by simp [World.cell?, hV7]
  have v2 : w7.cell? ⟨vb, 2, none⟩ = some (.int .i64 0) := by simp [World.cell?, hV7]
  obtain ⟨-, -, -, -, -, -, -, -, c11, -, -⟩ := HM7.out.rd
  obtain ⟨z0, z1, z2⟩ := HM7.out.cr
  have zf := HM7.out.cf
  have hltc := lt_of_block HM7.out.cnt
  obtain ⟨hm8, hf8⟩ := HM7.out.num v
  have HM8 := hide hm8
  have HF8 := hide (HFW.out.trans (HF7.out.trans hf8))
  clear hm8 hf8 hw7 HAP HM HF hV7 k12 kf c12 ca
  go_upto_region 2 with fail
  go_region
  go_wp2
  go_end0
  have dM : ∀ X : World, MX X E { s with ch := s.ch ++ [s.num], num := v } (.slice so n1 sc) bv → MX X.drew E { s with ch := s.ch ++ [s.num], num := v } (.slice so n1 sc) bv := fun X h => h.drew
  have dF : ∀ X : World, FX E w X → FX E w X.drew := fun X h => ⟨⟨h.low.1, h.low.2, h.low.3, h.low.4, h.low.5⟩, h.oth⟩
  exact ⟨rfl, ⟨_, dM _ HM8.out⟩, dF _ HF8.out⟩
 ·go_simp
  refine hK.out _ _ (HSa.out _) (fun _ => ?_)
  clear hK K
  refine wpAnyH_ready (rs := [4]) (by kernel_rfl) (by simp) ?_
  refine AllReadyH.cons rfl (fun K hK => ?_) AllReadyH.nil
  go_simp
  refine hK.out _ _ (HSa.out _) (fun _ => ?_)
  clear hK K
  refine wpAnyH_ready (rs := [15]) (by kernel_rfl) (by simp) ?_
  refine AllReadyH.cons rfl (fun K hK => ?_) AllReadyH.nil
  refine step_run rfl _ _ _ rfl _ _ (.slice so n1 sc) w6 (by rfl) (by rfl) HAP.out ?_
  refine hK.out _ _ HS6.out (fun _ => ?_)
  clear hK K
  refine wpAnyH_take (i := 16) (v := .pointer (some ⟨E.M, 11, none⟩)) rfl (by kernel_rfl) (by kernel_rfl) (by kernel_rfl) (fun _ _ _ h => h) (Or.inl ⟨by kernel_rfl, fun w' hS => ?_⟩) HS6.out ?_
  ·go_simp
  refine wpAnyH_take (i := 17) (v := .pointer (some ⟨E.M, 12, none⟩)) rfl (by kernel_rfl) (by kernel_rfl) (by kernel_rfl) (fun _ _ _ h => h) (Or.inl ⟨by kernel_rfl, fun w' hS => ?_⟩) HS6.out ?_
  ·go_simp
  refine wpAnyH_ready (rs := [18]) (by kernel_rfl) (by simp) ?_
  refine AllReadyH.cons rfl (fun K hK => ?_) AllReadyH.nil
  go_simp
  refine hK.out _ _ HSf.out (fun _ => ?_)
  clear hK K
  refine wpAnyH_done (by kernel_rfl) ?_ _
  obtain ⟨w7, hw7⟩ : ∃ w7, w7 = w6.setCell ⟨E.M, 12, none⟩ (.slice so n1 sc) := ⟨_, rfl⟩
  have HM7 := hide HM.out
  have HF7 := hide HF.out
  rw [← hw7] at HM7 HF7 ⊢
  have hV7 := HF7.out.oth _ _ _ _ HVB.out hvM hvC (by decide) (by decide)
  have v0 : w7.cell? ⟨vb, 0, none⟩ = some (.int .i64 v) := by simp [World.cell?, hV7]
  have v1 : w7.cell? ⟨vb, 1, none⟩ = some (.int .i64 0) := by simp [World.cell?, hV7]
  have v2 : w7.cell? ⟨vb, 2, none⟩ = some (.int .i64 0) := by simp [World.cell?, hV7]
  obtain ⟨-, -, -, -, -, -, -, -, c11, -, -⟩ := HM7.out.rd
  obtain ⟨z0, z1, z2⟩ := HM7.out.cr
  have zf := HM7.out.cf
  have hltc := lt_of_block HM7.out.cnt
  obtain ⟨hm8, hf8⟩ := HM7.out.num v
  have HM8 := hide hm8
  have HF8 := hide (HFW.out.trans (HF7.out.trans hf8))
  clear hm8 hf8 hw7 HAP HM HF hV7 k12 kf c12 ca
  go_upto_region 2 with fail
  go_region
  go_wp2
  go_end0
  have dM : ∀ X : World, MX X E { s with ch := s.ch ++ [s.num], num := v } (.slice so n1 sc) bv → MX X.drew E { s with ch := s.ch ++ [s.num], num := v } (.slice so n1 sc) bv := fun X h => h.drew
  have dF : ∀ X : World, FX E w X → FX E w X.drew := fun X h => ⟨⟨h.low.1, h.low.2, h.low.3, h.low.4, h.low.5⟩, h.oth⟩
  exact ⟨rfl, ⟨_, dM _ HM8.out⟩, dF _ HF8.out⟩
variable {w w' : World} {E : ME} {s s' : XS} {cv bv : Value}
theorem own_prefix {B e k n : Nat} {g cap : Nat} {xs ys : List Value} (h : w.ownsRow B e k (.slice (some ⟨g, 0, none⟩) (n + 1) cap) (n + 1) (xs ++ ys)) (hx : xs.length = n * k) : w.ownsRow B e k (.slice (some ⟨g, 0, none⟩) n cap) n xs := by
 obtain ⟨h1, h2⟩ := h
 rcases h2 with ⟨h0, _⟩ | ⟨g', cap', cur, hv, hB, hh, hn, hm, hs, ht⟩
 ·cases h0
 ·cases hv
  refine ⟨hx, .inr ⟨g, cap, cur, rfl, hB, hh, by omega, hm, hs, ?_⟩⟩
  have e : List.take (n * k) (cur.toList.take ((n + 1) * k)) = List.take (n * k) (xs ++ ys) := by rw [ht]
  rw [List.take_take, Nat.min_eq_left (Nat.mul_le_mul_right k (Nat.le_succ n))] at e
  rw [e, ← hx, List.take_left']
  rfl
theorem undo0 (h : MX w E s cv bv) : Calls Tryz.prog 96 #[.pointer (some ⟨E.M, 9, none⟩), .int .i64 0] w fun e w' => e = .returned (.tuple #[]) ∧ w' = w.setCell ⟨E.M, 10, none⟩ (.slice none 0 0) := by
 obtain ⟨c0, c1, c2, c3, c5, c8, c9, c10, c11, c12, c13⟩ := h.rd
 have fz := h.fr
 have hlt := h.lt
 clear h
 go_enter Tryz.func96, Tryz.ntmps96
 go_wp2
 refine wp_loop_rounds 1 ?_
 rw [rounds_succ]
 go_wp2
 go_end0
 exact ⟨rfl, rfl⟩
theorem undoN (h : MX w E s cv bv) (co : Addr) (n cc : Nat) (hcv : cv = .slice (some co) n cc) (hn : 0 < n ∧ n ≤ 1000 ∧ n ≤ cc) : Calls Tryz.prog 97 #[.pointer (some ⟨E.M, 11, none⟩), .int .i64 (n : Int)] w fun e w' => e = .returned (.tuple #[]) ∧ w' = w.setCell ⟨E.M, 12, none⟩ (.slice (some co) n cc) := by
 obtain ⟨c0, c1, c2, c3, c5, c8, c9, c10, c11, c12, c13⟩ := h.rd
 rw [hcv] at c12
 have fz := h.fr
 have hlt := h.lt
 have e1 : IntKind.i64.wrap ((n : Int) - 1) = (n : Int) - 1 := by rw [IntKind.wrap_i64]; omega
 have e2 : ¬ (n : Int) ≤ (n : Int) - 1 := by omega
 clear h hcv
 go_enter Tryz.func97, Tryz.ntmps97
 go_wp2
 refine wp_loop_rounds 1 ?_
 rw [rounds_succ]
 go_wp2
 go_end0
 exact ⟨rfl, rfl⟩
theorem rowBk_len : ∀ l : List (Int × Int × Int), (rowBk l).length = l.length * 4
 | [] => rfl
 | x :: xs => by
  have := rowBk_len xs
  rw [rowBk] at this
  rw [rowBk, List.flatMap_cons, List.length_append, this, List.length_cons]
  simp [bkL]; omega
variable {w w' : World} {E : ME} {s s' : XS} {cv bv : Value}
theorem rowBk_get (l : List (Int × Int × Int)) (x : Int × Int × Int) (i : Nat) (hi : i < 4) : (rowBk (l ++ [x]))[l.length * 4 + i]? = (bkL x)[i]? := by
 rw [show rowBk (l ++ [x]) = rowBk l ++ bkL x from by simp [rowBk], List.getElem?_append_right (by rw [rowBk_len]; omega), rowBk_len]
 congr 1
 omega
theorem MX.cutB (h : MX w E s cv bv) (bs : List (Int × Int × Int)) (x : Int × Int × Int) (hb : s.bk = bs ++ [x]) (b cap : Nat) (hbv : bv = .slice (some ⟨b, 0, none⟩) (bs.length + 1) cap) : MX (w.setCell ⟨E.M, 13, none⟩ (.slice (some ⟨b, 0, none⟩) bs.length cap)) E { s with bk := bs } cv (.slice (some ⟨b, 0, none⟩) bs.length cap) := by
 have key : ∀ {k : Nat} {o : Obj}, k ≠ E.M → w.heap[k]? = some o → (w.setCell ⟨E.M, 13, none⟩ (.slice (some ⟨b, 0, none⟩) bs.length cap)).heap[k]? = some o := fun {k o} hk ho => by rw [Below.heap_setCell _ _ _ _ (by simpa using hk)]; exact ho
 have nm : ∀ {k : Nat} {cs : Array Value} {e : TypeId} {fr : Nat × Nat}, e ≠ 91 → w.heap[k]? = some (.cells cs e fr) → k ≠ E.M := fun {k cs e fr} he hk ek => by
  rw [ek, h.box] at hk
  cases hk
  exact he rfl
 have ho := h.bk
 rw [hbv, hb] at ho
 rw [show (bs ++ [x]).length = bs.length + 1 from by simp, show rowBk (bs ++ [x]) = rowBk bs ++ bkL x from by simp [rowBk]] at ho
 refine ⟨?_, key (Ne.symm h.ne) h.cnt, own_oth h.ch fun k cs hk => key (nm (by decide) hk) hk, own_oth (own_prefix ho (rowBk_len bs)) fun k cs hk => key (nm (by decide) hk) hk, h.lm, h.lc⟩
 rw [set_oneQ h.box]
 rfl
theorem goBack_any (h : MX w E s cv bv) (bs : List (Int × Int × Int)) (nx p : Int) (hb : s.bk = bs ++ [(nx, p, (s.ch.length : Int))]) (hch : 0 < s.ch.length ∧ s.ch.length ≤ 1000) (hbl : bs.length ≤ 1000) : Calls Tryz.prog 58 #[.pointer (some ⟨E.M, 0, none⟩)] w fun e w' => e = .returned (.bool true) ∧ (∃ bv', MX w' E { s with next := nx, pos := p, bk := bs } cv bv') ∧ FX E w w' := by
 obtain ⟨co, cc, hcv⟩ := own_some h.ch hch.1
 obtain ⟨b, cap, hbv⟩ := own_some h.bk (by rw [hb]; simp)
 rw [hb, show (bs ++ [(nx, p, (s.ch.length : Int))]).length = bs.length + 1 from by simp] at hbv
 have hcap : bs.length + 1 ≤ cap ∧ cap ≤ 9223372036854775807 := by
  rcases h.bk.2 with ⟨e, _⟩ | ⟨g', cap', cur, hv, _, _, hn, hm, _⟩
  ·rw [hbv] at e; cases e
  ·rw [hbv] at hv; injection hv with e1 e2 e3; unfold maxLen at hm; omega
 have hccp : s.ch.length ≤ cc := by
  rcases h.ch.2 with ⟨e, _⟩ | ⟨g', cap', cur, hv, _, _, hn, hm, _⟩
  ·rw [hcv] at e; cases e
  ·rw [hcv] at hv; cases hv; exact hn
 obtain ⟨n, hn⟩ : ∃ n, n = s.ch.length := ⟨_, rfl⟩
 obtain ⟨m, hm⟩ : ∃ m, m = bs.length := ⟨_, rfl⟩
 have hcell : ∀ i, i < 4 → w.cell? ⟨b, m * 4 + i, none⟩ = (bkL (nx, p, (n : Int)))[i]? := fun i hi => by
  have ho := h.bk
  rw [hbv, hb, show (bs ++ [(nx, p, (s.ch.length : Int))]).length = bs.length + 1 from by simp] at ho
  rw [hm, World.ownsRow.cellAt ho (bs.length * 4 + i) (by omega), rowBk_get _ _ i hi, hn]
 have b0 : w.cell? ⟨b, m * 4, none⟩ = some (.int .i64 nx) := hcell 0 (by omega)
 have b1 : w.cell? ⟨b, m * 4 + 1, none⟩ = some (.int .i64 p) := hcell 1 (by omega)
 have b2 : w.cell? ⟨b, m * 4 + 2, none⟩ = some (.int .i64 0) := hcell 2 (by omega)
 have b3 : w.cell? ⟨b, m * 4 + 3, none⟩ = some (.int .i64 (n : Int)) := hcell 3 (by omega)
 obtain ⟨W1, hW1⟩ : ∃ W1, W1 = w.alloc (.cells #[.int .i64 nx, .int .i64 p, .int .i64 0, .int .i64 (n : Int)] 152) := ⟨_, rfl⟩
 have hB1 : Below w.heap.size w W1 := by rw [hW1]; exact (Below.refl _ _).alloc (Nat.le_refl _) _
 have hx1 : W1.heap[w.heap.size]? = some (.cells #[.int .i64 nx, .int .i64 p, .int .i64 0, .int .i64 (n : Int)] 152) := by rw [hW1]; exact at_new _ _
 obtain ⟨xb, hxb⟩ : ∃ xb, xb = w.heap.size := ⟨_, rfl⟩
 rw [← hxb] at hx1
 have hxM : xb ≠ E.M := by have := h.lt; omega
 have h1 := h.keep hB1
 have h2 := h1.cutB bs _ hb b cap hbv
 obtain ⟨W2, hW2⟩ : ∃ W2, W2 = W1.setCell ⟨E.M, 13, none⟩ (.slice (some ⟨b, 0, none⟩) bs.length cap) := ⟨_, rfl⟩
 rw [← hW2] at h2
 have kx : ∀ (X : World) (i : Nat) (v : Value), X.heap[xb]? = some (.cells #[.int .i64 nx, .int .i64 p, .int .i64 0, .int .i64 (n : Int)] 152) → (X.setCell ⟨E.M, i, none⟩ v).heap[xb]? = some (.cells #[.int .i64 nx, .int .i64 p, .int .i64 0, .int .i64 (n : Int)] 152) := fun X i v hX => by rw [Below.heap_setCell _ _ _ _ (by simpa using hxM)]; exact hX
 have hx2 : W2.heap[xb]? = some (.cells #[.int .i64 nx, .int .i64 p, .int .i64 0, .int .i64 (n : Int)] 152) := by rw [hW2]; exact kx _ _ _ hx1
 have h3a := h2.put 8 (.int .i64 nx) { s with bk := bs, next := nx } rfl rfl rfl rfl
 have h3 := h3a.put 1 (.int .i64 p) { s with bk := bs, next := nx, pos := p } rfl rfl rfl rfl
 obtain ⟨W3, hW3⟩ : ∃ W3, W3 = ((W2.setCell ⟨E.M, 8, none⟩ (.int .i64 nx)).setCell ⟨E.M, 1, none⟩ (.int .i64 p)).drew := ⟨_, rfl⟩
 have dM : ∀ (X : World) (t : XS) (a c : Value), MX X E t a c → MX X.drew E t a c := fun X t a c h => h.drew
 have dh : ∀ X : World, X.drew.heap = X.heap := fun _ => rfl
 have dF : ∀ (Y X : World), FX E Y X → FX E Y X.drew := fun Y X h => ⟨⟨h.low.1, h.low.2, h.low.3, h.low.4, h.low.5⟩, h.oth⟩
 have h4 : MX W3 E { s with bk := bs, next := nx, pos := p } cv (.slice (some ⟨b, 0, none⟩) bs.length cap) := by rw [hW3]; exact dM _ _ _ _ h3
 have hx3 : W3.heap[xb]? = some (.cells #[.int .i64 nx, .int .i64 p, .int .i64 0, .int .i64 (n : Int)] 152) := by rw [hW3, dh]; exact kx _ _ _ (kx _ _ _ hx2)
 have hF3 : FX E w W3 := by
  rw [hW3, hW2]
  exact dF _ _ ((((FX.of hB1 h.ltB).trans (FX.set E W1 h.lm 13 _)).trans (FX.set E _ h.lm 8 _)).trans (FX.set E _ h.lm 1 _))
 -- behind the draw of region 7 and undo0
 have h5 := h4.drew
 have HC1 := hide (undo0 h5)
 obtain ⟨W5, hW5⟩ : ∃ W5, W5 = W3.drew.setCell ⟨E.M, 10, none⟩ (.slice none 0 0) := ⟨_, rfl⟩
 have h6 : MX W5 E { s with bk := bs, next := nx, pos := p } cv (.slice (some ⟨b, 0, none⟩) bs.length cap) := by rw [hW5]; exact h5.put 10 (.slice none 0 0) { s with bk := bs, next := nx, pos := p } rfl rfl rfl rfl
 have hx5 : W5.heap[xb]? = some (.cells #[.int .i64 nx, .int .i64 p, .int .i64 0, .int .i64 (n : Int)] 152) := by rw [hW5]; exact kx _ _ _ (by rw [dh]; exact hx3)
 have hF5 : FX E w W5 := by rw [hW5]; exact (dF _ _ hF3).trans (FX.set E _ h.lm 10 _)
 have h7 := h6.drew
 have HC2 := hide (undoN h7 ⟨co, 0, none⟩ n cc (by rw [hcv, hn]) (by omega))
 rw [← hW5] at HC1
 obtain ⟨W7, hW7⟩ : ∃ W7, W7 = W5.drew.setCell ⟨E.M, 12, none⟩ (.slice (some ⟨co, 0, none⟩) n cc) := ⟨_, rfl⟩
 have h8 : MX W7 E { s with bk := bs, next := nx, pos := p } cv (.slice (some ⟨b, 0, none⟩) bs.length cap) := by
  rw [hW7]
  refine h7.put 12 (.slice (some ⟨co, 0, none⟩) n cc) { s with bk := bs, next := nx, pos := p } ?_ rfl rfl rfl
  rw [hcv, hn]; rfl
 have hF7 : FX E w W7 := by rw [hW7]; exact (dF _ _ hF5).trans (FX.set E _ h.lm 12 _)
 rw [← hW7] at HC2
 obtain ⟨-, -, -, -, -, -, -, -, -, -, c13⟩ := h.rd
 rw [hbv, ← hm] at c13
 obtain ⟨-, -, -, -, -, -, -, -, -, -, a13⟩ := h1.rd
 rw [hbv, ← hm] at a13
 have a13f := h1.fr
 have hlt1 := h1.lt
 obtain ⟨-, e1, -, -, -, e8, -, -, -, -, -⟩ := h2.rd
 have e8f := h2.fr
 have x0 : W2.cell? ⟨xb, 0, none⟩ = some (.int .i64 nx) := by simp [World.cell?, hx2]
 have x1 : W2.cell? ⟨xb, 1, none⟩ = some (.int .i64 p) := by simp [World.cell?, hx2]
 have u2 : W3.cell? ⟨xb, 2, none⟩ = some (.int .i64 0) := by simp [World.cell?, hx3]
 have v3 : W5.cell? ⟨xb, 3, none⟩ = some (.int .i64 (n : Int)) := by simp [World.cell?, hx5]
 have HM8 := hide h8
 have HF8 := hide hF7
 have HW2 := hide hW2
 have HW3 := hide hW3
 have q1 : IntKind.i64.wrap (((m + 1 : Nat) : Int) - 1) = (m : Int) := by rw [IntKind.wrap_i64]; omega
 have q2 : ¬ (m : Int) < 0 := by omega
 have q3 : (0 : Int) ≤ (m : Int) := by omega
 have q4 : (m : Int) < ((m + 1 : Nat) : Int) := by omega
 have q5 : m ≤ cap := by omega
 rw [← hm] at HW2
 clear h h1 h2 h3a h3 h4 h5 h6 h7 h8 hF3 hF5 hF7 hx1 hx2 hx3 hx5 hW2 hW3 hW5 hW7 hB1 hcell hb hbv hcv hm hn dM dh dF kx
 go_enter Tryz.func58, Tryz.ntmps58
 go_upto_region 5 with fail
 rw [← hW1, ← hxb]
 clear hW1 hxb
 go_upto_region 6 with fail
 rw [← HW2.out]
 clear c13 a13 a13f b0 b1 b2 b3
 go_region
 rw [← HW3.out]
 clear x0 x1 e1 e8 e8f
 go_upto_region 7 with fail
 go_still_tail 5, (by kernel_rfl)
 go_wp2_with fail
 refine HC1.out.mono ?_
 rintro e w8 ⟨rfl, rfl⟩
 clear HC1 u2
 go_upto_region 8 with fail
 go_still_tail 5, (by kernel_rfl)
 go_wp2_with fail
 refine HC2.out.mono ?_
 rintro e w9 ⟨rfl, rfl⟩
 clear HC2 v3
 go_wp2
 go_ret
 exact ⟨rfl, ⟨_, HM8.out⟩, HF8.out⟩
end Go.Proofs.YtfnndcbjklppeaaGreatDoor.Vm
