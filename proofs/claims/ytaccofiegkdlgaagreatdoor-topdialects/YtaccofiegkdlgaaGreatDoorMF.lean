import Derived.Test.YtaccofiegkdlgaaGreatDoorMD
import Derived.Test.YtaccofiegkdlgaaGreatDoorME
import Derived.StillTailTactics
namespace Go.Proofs.YtaccofiegkdlgaaGreatDoor.Pa
set_option maxHeartbeats 2000000
open Go.RowKit
open TR (Tr NV NCells nvV nvO NodeC KidsC)
open TK (Mv PatV)
open Br (BE PS givesF manyB fldB rngOf OR)
set_option linter.unusedVariables false
set_option maxRecDepth 100000
variable {w w' : World} {g : Nat} {v : Value} {l : List Int} {d : Int} {s s' : St} {nv av : Value}
def OutP (f : PS) (B : Nat) (w : World) (e : Ending) (w' : World) : Prop := ∃ sv L, e = .returned sv ∧ OR w' B sv L ∧ IsSet f L ∧ L.length ≤ 400 ∧ Below w.heap.size w w'
theorem len_few {f : PS} {L : RL} (h : IsSet f L) (hm : manyB f = false) : L.length ≤ 400 := by
 rw [Br.many_of h] at hm
 simpa using hm
theorem onePoint_any (p : Int) (hp : 0 ≤ p ∧ p ≤ 1114111) (w : World) : Calls Tryz.prog 72 #[.int .i64 p] w fun e w' => OutP (oneF p) w.heap.size w e w' := by
 have HS := hide (one_set hp)
 have HO : Hid (OR (w.alloc (.cells #[.int .i64 p, .int .i64 p] 66)) w.heap.size (.slice (some ⟨w.heap.size, 0, none⟩) 1 1) [(p, p)]) := ⟨rfl, .inr ⟨w.heap.size, 1, _, rfl, Nat.le_refl _, TK.at_new _ _, Nat.le_refl _, by decide, rfl, rfl⟩⟩
 clear hp
 go_enter Tryz.func72, Tryz.ntmps72
 go_wp2
 go_ret
 exact ⟨_, _, rfl, HO.out, HS.out, by simp, (Below.refl _ w).alloc (Nat.le_refl _) _⟩
theorem not_fn {B : Nat} {va : Value} {A : RL} {f : PS} (hA : OR w B va A) (hS : IsSet f A) (h1 : manyB f = false) (h2 : manyB (fun x => !f x) = false) : Calls Tryz.prog 75 #[va] w fun e w' => OutP (fun x => !f x) w.heap.size w e w' := by
 have HN := hide (not_any va A w hA.reads)
 have HB : Hid (∀ err O, Made (fun q => !ins A q) (checkE A) err O → err = 0 ∧ IsSet (fun q => !f q) O) := fun err O hm => by
  rcases Br.bridge hm (g' := fun q => !f q) (m := manyB f) (fun q h0 h1 => by show (!ins A q) = (!f q); rw [Br.ins_of_set hS h0 h1]) (Br.check_set hS) with ⟨h3, _⟩ | ⟨_, h4, h5⟩
  ·rw [h1, h2] at h3; cases h3
  ·exact ⟨h4, h5⟩
 obtain ⟨ao, c, hv⟩ := hA.shape
 obtain ⟨n, hn⟩ : ∃ n, n = A.length := ⟨_, rfl⟩
 rw [← hn] at hv
 rw [hv] at HN ⊢
 have H2 := hide h2
 clear hA hS h1 h2 hv hn
 go_enter Tryz.func75, Tryz.ntmps75
 go_wp2_with fail
 refine HN.out.mono ?_
 rintro e w1 ⟨v', err, O, rfl, ho, hm, hb⟩
 obtain ⟨rfl, hs⟩ := HB.out _ _ hm
 have HO := hide ho
 have HS := hide hs
 have HBB := hide hb
 obtain ⟨so, sc, hsv⟩ := own_shape ho
 obtain ⟨ln, hln⟩ : ∃ ln, ln = O.length := ⟨_, rfl⟩
 rw [← hln] at hsv
 rw [hsv] at HO ⊢
 clear ho hs hb hm hsv HB HN hln
 go_wp2
 go_ret
 exact ⟨_, O, rfl, HO.out, HS.out, len_few HS.out H2.out, HBB.out⟩
theorem fold_fn {B : Nat} {va : Value} {A : RL} {f : PS} (h : RB w g v l d s nv av) (hB : B ≤ w.heap.size) (hA : OR w B va A) (hS : IsSet f A) (h1 : manyB f = false) (h2 : manyB (foldP s.folded f) = false) : Calls Tryz.prog 71 #[.pointer (some ⟨g, 0, none⟩), va] w fun e w' => OutP (foldP s.folded f) B w e w' := by
 have c12 := h.rd.2.2.2.2.1
 have HLen := hide (len_few hS h1)
 have HA := hide hA
 have HS := hide hS
 have HN := hide (fold_any va A w h.tab (Nat.lt_trans h.low h.lt) hA.reads)
 obtain ⟨ao, c, hv⟩ := hA.shape
 obtain ⟨n, hn⟩ : ∃ n, n = A.length := ⟨_, rfl⟩
 rw [← hn] at hv
 cases hf : s.folded with
 | false =>
  rw [hf] at c12
  rw [hv] at HA ⊢
  clear hA hS h1 h2 hv hn h HN
  go_enter Tryz.func71, Tryz.ntmps71
  go_wp2
  go_ret
  exact ⟨_, A, rfl, HA.out, HS.out, HLen.out, Below.refl _ _⟩
 | true =>
  rw [hf] at c12 h2
  have HB : Hid (∀ err O, Made (foldF A) (checkE A) err O → err = 0 ∧ IsSet (fldB f) O) := fun err O hm => by
   rcases Br.bridge hm (g' := fldB f) (m := manyB f) (fun q h0 h1 => (Br.fld_of hS q).symm) (Br.check_set hS) with ⟨h3, _⟩ | ⟨_, h4, h5⟩
   ·rw [h1, show manyB (fldB f) = false from h2] at h3; cases h3
   ·exact ⟨h4, h5⟩
  rw [hv] at HN ⊢
  have H2 := hide h2
  have HBs := hide hB
  clear hA hS h1 h2 hv hn h hB HA HS
  go_enter Tryz.func71, Tryz.ntmps71
  go_wp2_with fail
  refine HN.out.mono ?_
  rintro e w1 ⟨v', err, O, rfl, ho, hm, hb⟩
  obtain ⟨rfl, hs⟩ := HB.out _ _ hm
  have HO := hide (own_low ho HBs.out)
  have HS := hide hs
  have HBB := hide hb
  obtain ⟨so, sc, hsv⟩ := own_shape ho
  obtain ⟨ln, hln⟩ : ∃ ln, ln = O.length := ⟨_, rfl⟩
  rw [← hln] at hsv
  rw [hsv] at HO ⊢
  clear ho hs hb hm hsv HB HN hln
  go_wp2
  go_ret
  exact ⟨_, O, rfl, HO.out, HS.out, len_few HS.out H2.out, HBB.out⟩
theorem class_fn (h : RB w g v l d s nv av) {c : ByteArray} (hc : c = TK.bDigit ∨ c = TK.bWord ∨ c = TK.bSpace ∨ c = TK.bXdigit) (no : Bool) : Calls Tryz.prog 73 #[.pointer (some ⟨g, 0, none⟩), .string c, .bool no] w fun e w' => OutP (if no then (fun x => !foldP s.folded (ins (rngOf c)) x) else foldP s.folded (ins (rngOf c))) w.heap.size w e w' := by
 have HC := hide (Br.class_some c w (four_rng hc).2.1)
 have HR := hide h
 have H1 := hide (few_cls hc s.folded)
 have H0 := hide (few_cls hc false)
 have H2 := hide (few_ncls hc s.folded)
 clear h hc
 have HF : Hid (∀ w1 va A, Below w.heap.size w w1 → w1.ownsRow w.heap.size 66 2 va A.length (cells2 A) → IsSet (ins (rngOf c)) A → Calls Tryz.prog 71 #[.pointer (some ⟨g, 0, none⟩), va] w1 fun e w' => OutP (foldP s.folded (ins (rngOf c))) w.heap.size w1 e w') := fun w1 va A hb ho hs => fold_fn (HR.out.keep hb) hb.size ho hs H0.out H1.out
 cases no with
 | false =>
  simp only [Bool.false_eq_true, if_false]
  go_enter Tryz.func73, Tryz.ntmps73
  go_wp2_with fail
  refine HC.out.mono ?_
  rintro e w1 ⟨va, A, rfl, ho, hs, hb⟩
  have HX := hide (HF.out w1 va A hb ho hs)
  have HB := hide hb
  obtain ⟨so, sc, hsv⟩ := own_shape ho
  obtain ⟨ln, hln⟩ : ∃ ln, ln = A.length := ⟨_, rfl⟩
  rw [← hln] at hsv
  rw [hsv] at HX ⊢
  clear ho hs hb hsv hln HF HC
  go_wp2_with fail
  refine HX.out.mono ?_
  rintro e w2 ⟨vb, L, rfl, ho, hs, hl, hb⟩
  have HO := hide ho
  have HS := hide hs
  have HL := hide hl
  have HB2 := hide (HB.out.trans (hb.mono HB.out.size))
  obtain ⟨so, sc, hsv⟩ := OR.shape ho
  obtain ⟨ln, hln⟩ : ∃ ln, ln = L.length := ⟨_, rfl⟩
  rw [← hln] at hsv
  rw [hsv] at HO ⊢
  clear ho hs hb hsv hln HX hl
  go_wp2
  go_ret
  exact ⟨_, L, rfl, HO.out, HS.out, HL.out, HB2.out⟩
 | true =>
  simp only [if_true]
  go_enter Tryz.func73, Tryz.ntmps73
  go_wp2_with fail
  refine HC.out.mono ?_
  rintro e w1 ⟨va, A, rfl, ho, hs, hb⟩
  have HX := hide (HF.out w1 va A hb ho hs)
  have HB := hide hb
  obtain ⟨so, sc, hsv⟩ := own_shape ho
  obtain ⟨ln, hln⟩ : ∃ ln, ln = A.length := ⟨_, rfl⟩
  rw [← hln] at hsv
  rw [hsv] at HX ⊢
  clear ho hs hb hsv hln HF HC
  go_wp2_with fail
  refine HX.out.mono ?_
  rintro e w2 ⟨vb, L, rfl, ho, hs, hl, hb⟩
  have HN := hide (not_fn ho hs H1.out H2.out)
  have HB2 := hide (HB.out.trans (hb.mono HB.out.size))
  obtain ⟨so, sc, hsv⟩ := OR.shape ho
  obtain ⟨ln, hln⟩ : ∃ ln, ln = L.length := ⟨_, rfl⟩
  rw [← hln] at hsv
  rw [hsv] at HN ⊢
  clear ho hs hb hsv hln HX hl
  go_wp2_with fail
  refine HN.out.mono ?_
  rintro e w3 ⟨vb, L, rfl, ho, hs, hl, hb⟩
  have HO := hide (ho.low HB2.out.size)
  have HS := hide hs
  have HL := hide hl
  have HB3 := hide (HB2.out.trans (hb.mono HB2.out.size))
  obtain ⟨so, sc, hsv⟩ := OR.shape ho
  obtain ⟨ln, hln⟩ : ∃ ln, ln = L.length := ⟨_, rfl⟩
  rw [← hln] at hsv
  rw [hsv] at HO ⊢
  clear ho hs hb hsv hln HN hl
  go_wp2
  go_ret
  exact ⟨_, L, rfl, HO.out, HS.out, HL.out, HB3.out⟩
end Go.Proofs.YtaccofiegkdlgaaGreatDoor.Pa
namespace Go.Proofs.YtaccofiegkdlgaaGreatDoor.Pa
set_option maxHeartbeats 8000000
open Go.RowKit
open TR (Tr NV NCells nvV nvO NodeC KidsC)
open TK (Mv PatV)
open Br (BE PS givesF manyB fldB rngOf OR fauO)
set_option linter.unusedVariables false
set_option maxRecDepth 100000
variable {w w' : World} {g : Nat} {v : Value} {l : List Int} {d : Int} {s s' : St} {nv av : Value}
def OutK (R : Except BE (PS × Nat)) (g : Nat) (v : Value) (l : List Int) (d : Int) (s : St) (nv av : Value) (w : World) (e : Ending) (w' : World) : Prop :=
 (∃ f k sv L, R = .ok (f, k) ∧ e = .returned sv ∧ OR w' w.heap.size sv L ∧ IsSet f L ∧ L.length ≤ 400 ∧ k ≤ l.length ∧ RB w' g v l d { s with next := k } nv av ∧ Mv g w w') ∨ (∃ z a, R = .error (z, a) ∧ e = givesF z (max a (s.pos : Int)) ∧ Mv g w w')
theorem bracket_er (h : RB w g v l d s nv av) {z a : Int} (hR : Br.parseM d s.folded l (s.next : Int) = .error (z, a)) : Calls Tryz.prog 74 #[.pointer (some ⟨g, 0, none⟩)] w fun e w' => OutK (Br.parseM d s.folded l (s.next : Int)) g v l d s nv av w e w' := by
 have HR0 := hide h
 obtain ⟨p, hp⟩ : ∃ p, p = s.next := ⟨_, rfl⟩
 obtain ⟨fo, hfo⟩ : ∃ fo, fo = s.folded := ⟨_, rfl⟩
 have HX : Hid (∀ W, RB W g v l d s nv av → ∀ Wc, Below W.heap.size W Wc → Calls Tryz.prog 82 #[.int .i64 d, v, .int .i64 (p : Nat), .bool fo] Wc fun e w2 => e = .returned (.tuple #[.slice none 0 0, .int .i64 0, .agg #[.int .i64 (z), .int .i64 (a)]]) ∧ z ≠ 0 ∧ Below W.heap.size W w2 ∧ Below Wc.heap.size Wc w2) := by
  intro W hW Wc hWc
  have hWk := hW.keep hWc
  have := Br.parse_any d (p : Int) v l fo Wc hWk.pat hWk.tab (Nat.lt_trans hWk.low hWk.lt)
  rw [hp, hfo, hR] at this
  rw [hp, hfo]
  refine this.mono ?_
  rintro e w2 (⟨f', k', sv, L, hR', he, ho, hs, hl, hkl, hb⟩ | ⟨z', c', hR', hz, he, hb⟩)
  ·cases hR'
  ·cases hR'
   exact ⟨he, hz, hWc.trans (hb.mono hWc.size), hb⟩
 have HRR := hide hR
 obtain ⟨ao, c, hv⟩ := h.pat.shape
 obtain ⟨n, hnn⟩ : ∃ n, n = l.length := ⟨_, rfl⟩
 rw [← hnn] at hv
 have HV := hide hv
 have hgw := h.lt
 have HD := hide (HX.out w h)
 have HP := hide hp
 have HFO := hide hfo
 have HNN := hide hnn
 rw [hv] at HD
 have HS : Hid (Below w.heap.size w w.drew) := ⟨rfl, rfl, rfl, Nat.le_refl _, fun _ _ => rfl⟩
 have HCl : Hid (∀ w', Below w.heap.size w w' → w'.cell? ⟨g, 0, none⟩ = some (.int .i64 d) ∧ w'.cell? ⟨g, 1, none⟩ = some (.slice ao n c) ∧ w'.cell? ⟨g, 11, none⟩ = some (.int .i64 (p : Nat)) ∧ w'.cell? ⟨g, 12, none⟩ = some (.bool fo)) := fun w' hS => by
  obtain ⟨y0, y1, -, y2, y3, -⟩ := (HR0.out.keep hS).rd
  rw [HV.out] at y1
  rw [← HP.out] at y2
  rw [← HFO.out] at y3
  exact ⟨y0, y1, y2, y3⟩
 clear h hv hR hnn hp hfo HX
 go_enter Tryz.func74, Tryz.ntmps74
 go_upto_region 1 with fail
 refine wp_region_held (S := fun w' => Below w.heap.size w w') (by kernel_rfl) ?_
 change wpAnyH _ _ _ _ _ _ _ _ (World.drew _)
 refine wpAnyH_take (i := 0) (v := .pointer (some ⟨g, 0, none⟩)) rfl (by kernel_rfl) (by kernel_rfl) (by kernel_rfl) (fun _ _ _ h => h) (Or.inl ⟨by kernel_rfl, fun w' hS => ?_⟩) HS.out ?_
 ·go_simp
 refine wpAnyH_take (i := 1) (v := .pointer (some ⟨g, 0, none⟩)) rfl (by kernel_rfl) (by kernel_rfl) (by kernel_rfl) (fun _ _ _ h => h) (Or.inl ⟨by kernel_rfl, fun w' hS => ?_⟩) HS.out ?_
 ·go_simp
 refine wpAnyH_take (i := 2) (v := .pointer (some ⟨g, 0, none⟩)) rfl (by kernel_rfl) (by kernel_rfl) (by kernel_rfl) (fun _ _ _ h => h) (Or.inl ⟨by kernel_rfl, fun w' hS => ?_⟩) HS.out ?_
 ·go_simp
 refine wpAnyH_take (i := 3) (v := .int .i64 d) rfl (by kernel_rfl) (by kernel_rfl) (by kernel_rfl) (fun _ _ _ h => h) (Or.inl ⟨by kernel_rfl, fun w' hS => ?_⟩) HS.out ?_
 ·(obtain ⟨y0, y1, y2, y3⟩ := HCl.out w' hS; go_simp)
 refine wpAnyH_take (i := 4) (v := .pointer (some ⟨g, 0, none⟩)) rfl (by kernel_rfl) (by kernel_rfl) (by kernel_rfl) (fun _ _ _ h => h) (Or.inl ⟨by kernel_rfl, fun w' hS => ?_⟩) HS.out ?_
 ·go_simp
 refine wpAnyH_take (i := 5) (v := .pointer (some ⟨g, 0, none⟩)) rfl (by kernel_rfl) (by kernel_rfl) (by kernel_rfl) (fun _ _ _ h => h) (Or.inl ⟨by kernel_rfl, fun w' hS => ?_⟩) HS.out ?_
 ·go_simp
 refine wpAnyH_take (i := 6) (v := .pointer (some ⟨g, 1, none⟩)) rfl (by kernel_rfl) (by kernel_rfl) (by kernel_rfl) (fun _ _ _ h => h) (Or.inl ⟨by kernel_rfl, fun w' hS => ?_⟩) HS.out ?_
 ·go_simp
 refine wpAnyH_take (i := 7) (v := .slice ao n c) rfl (by kernel_rfl) (by kernel_rfl) (by kernel_rfl) (fun _ _ _ h => h) (Or.inl ⟨by kernel_rfl, fun w' hS => ?_⟩) HS.out ?_
 ·(obtain ⟨y0, y1, y2, y3⟩ := HCl.out w' hS; go_simp)
 refine wpAnyH_take (i := 8) (v := .pointer (some ⟨g, 0, none⟩)) rfl (by kernel_rfl) (by kernel_rfl) (by kernel_rfl) (fun _ _ _ h => h) (Or.inl ⟨by kernel_rfl, fun w' hS => ?_⟩) HS.out ?_
 ·go_simp
 refine wpAnyH_take (i := 9) (v := .pointer (some ⟨g, 0, none⟩)) rfl (by kernel_rfl) (by kernel_rfl) (by kernel_rfl) (fun _ _ _ h => h) (Or.inl ⟨by kernel_rfl, fun w' hS => ?_⟩) HS.out ?_
 ·go_simp
 refine wpAnyH_take (i := 10) (v := .pointer (some ⟨g, 11, none⟩)) rfl (by kernel_rfl) (by kernel_rfl) (by kernel_rfl) (fun _ _ _ h => h) (Or.inl ⟨by kernel_rfl, fun w' hS => ?_⟩) HS.out ?_
 ·go_simp
 refine wpAnyH_take (i := 11) (v := .int .i64 (p : Nat)) rfl (by kernel_rfl) (by kernel_rfl) (by kernel_rfl) (fun _ _ _ h => h) (Or.inl ⟨by kernel_rfl, fun w' hS => ?_⟩) HS.out ?_
 ·(obtain ⟨y0, y1, y2, y3⟩ := HCl.out w' hS; go_simp)
 refine wpAnyH_take (i := 12) (v := .pointer (some ⟨g, 0, none⟩)) rfl (by kernel_rfl) (by kernel_rfl) (by kernel_rfl) (fun _ _ _ h => h) (Or.inl ⟨by kernel_rfl, fun w' hS => ?_⟩) HS.out ?_
 ·go_simp
 refine wpAnyH_take (i := 13) (v := .pointer (some ⟨g, 0, none⟩)) rfl (by kernel_rfl) (by kernel_rfl) (by kernel_rfl) (fun _ _ _ h => h) (Or.inl ⟨by kernel_rfl, fun w' hS => ?_⟩) HS.out ?_
 ·go_simp
 refine wpAnyH_take (i := 14) (v := .pointer (some ⟨g, 12, none⟩)) rfl (by kernel_rfl) (by kernel_rfl) (by kernel_rfl) (fun _ _ _ h => h) (Or.inl ⟨by kernel_rfl, fun w' hS => ?_⟩) HS.out ?_
 ·go_simp
 refine wpAnyH_take (i := 15) (v := .bool fo) rfl (by kernel_rfl) (by kernel_rfl) (by kernel_rfl) (fun _ _ _ h => h) (Or.inl ⟨by kernel_rfl, fun w' hS => ?_⟩) HS.out ?_
 ·(obtain ⟨y0, y1, y2, y3⟩ := HCl.out w' hS; go_simp)
 refine wpAnyH_ready (rs := [16, 21]) (by kernel_rfl) (by simp) ?_
 refine AllReadyH.cons rfl (fun K hK => ?_) (AllReadyH.cons rfl (fun K hK => ?_) AllReadyH.nil)
 ·go_simp
  refine (HD.out _ HS.out).mono ?_
  rintro e w2 ⟨rfl, hz, hbW, hbc⟩
  have q1 : (z != 0) = true := by simpa using hz
  clear hz
  refine hK.out _ _ hbW (fun _ => ?_)
  clear hK K
  refine wpAnyH_take (i := 17) (v := .tuple #[.slice none 0 0, .int .i64 0, .agg #[.int .i64 (z), .int .i64 (a)]]) rfl (by kernel_rfl) (by kernel_rfl) (by kernel_rfl) (fun _ _ _ h => h) (Or.inl ⟨by kernel_rfl, fun w' hS => ?_⟩) hbW ?_
  ·go_simp
  refine wpAnyH_take (i := 18) (v := .slice none 0 0) rfl (by kernel_rfl) (by kernel_rfl) (by kernel_rfl) (fun _ _ _ h => h) (Or.inl ⟨by kernel_rfl, fun w' hS => ?_⟩) hbW ?_
  ·go_simp
  refine wpAnyH_take (i := 19) (v := .int .i64 0) rfl (by kernel_rfl) (by kernel_rfl) (by kernel_rfl) (fun _ _ _ h => h) (Or.inl ⟨by kernel_rfl, fun w' hS => ?_⟩) hbW ?_
  ·go_simp
  refine wpAnyH_take (i := 20) (v := .agg #[.int .i64 (z), .int .i64 (a)]) rfl (by kernel_rfl) (by kernel_rfl) (by kernel_rfl) (fun _ _ _ h => h) (Or.inl ⟨by kernel_rfl, fun w' hS => ?_⟩) hbW ?_
  ·go_simp
  refine wpAnyH_ready (rs := [21]) (by kernel_rfl) (by simp) ?_
  refine AllReadyH.cons rfl (fun K hK => ?_) AllReadyH.nil
  go_simp
  refine hK.out _ _ (hbW.alloc hbW.size _) (fun hS2 => ?_)
  clear hK K
  refine wpAnyH_take (i := 22) (v := .slice none 0 0) rfl (by kernel_rfl) (by kernel_rfl) (by kernel_rfl) (fun _ _ _ h => h) (Or.inl ⟨by kernel_rfl, fun w' hS => ?_⟩) hS2 ?_
  ·go_simp
  refine wpAnyH_take (i := 23) (v := .int .i64 0) rfl (by kernel_rfl) (by kernel_rfl) (by kernel_rfl) (fun _ _ _ h => h) (Or.inl ⟨by kernel_rfl, fun w' hS => ?_⟩) hS2 ?_
  ·go_simp
  refine wpAnyH_ready (rs := [24]) (by kernel_rfl) (by simp) ?_
  refine AllReadyH.cons rfl (fun K hK => ?_) AllReadyH.nil
  go_simp
  refine hK.out _ _ (hbW.alloc hbW.size _) (fun hS3 => ?_)
  clear hK K
  refine wpAnyH_done (by kernel_rfl) ?_ _
  have hM3 := TK.at_new w2 (fauO z a)
  have hM3l := hbW.size
  obtain ⟨w3, hw3⟩ : ∃ w3, w3 = w2.alloc (fauO z a) := ⟨_, rfl⟩
  obtain ⟨M, hMM⟩ : ∃ M, M = w2.heap.size := ⟨_, rfl⟩
  rw [← hw3] at hM3
  simp only [fauO] at hw3
  rw [← hw3] at hS3 ⊢
  rw [← hMM] at hM3 hM3l ⊢
  clear hw3 hMM hbc hS2 hbW
  have hr3 := HR0.out.keep hS3
  have HR3 := hide hr3
  have hm3 : Hid (Mv g w w3) := Mv.of_below hS3
  obtain ⟨c0, c1, c10, c11, -⟩ := hr3.rd
  have f11 := hr3.fr 11
  obtain ⟨g0, g1, gf⟩ := Br.fau_cells hM3
  have hMg : ¬ M = g := by omega
  have hgM : ¬ g = M := by omega
  clear hr3 hS3 hM3 hM3l HD HCl HS HR0 c0 c1
  have HG : Hid (∀ W, Calls Tryz.prog 23 #[.int .i64 z, .int .i64 (max a (s.pos : Int))] W fun r w' => r = givesF z (max a (s.pos : Int)) ∧ W = w') := fun W => giveUp_any z _ W
  simp only [givesF] at HG
  go_upto_region 3 with fail
  go_still_tail 9, (by kernel_rfl)
  go_wp2_with fail
  refine (HG.out _).mono ?_
  rintro e w4 ⟨rfl, rfl⟩
  go_wp2
  exact ⟨rfl, .inr ⟨z, a, HRR.out, rfl, hm3.out.trans ⟨rfl, rfl, rfl, Nat.le_refl _, fun _ _ _ => rfl⟩⟩⟩
 ·go_simp
  have hb1 : Below w.heap.size w (w.alloc (fauO 0 0)).drew := ((Below.refl _ w).alloc (Nat.le_refl _) _).drew
  refine hK.out _ _ hb1 (fun hS1 => ?_)
  clear hK K
  refine wpAnyH_ready (rs := [16]) (by kernel_rfl) (by simp) ?_
  refine AllReadyH.cons rfl (fun K hK => ?_) AllReadyH.nil
  go_simp
  refine (HD.out _ hS1).mono ?_
  rintro e w2 ⟨rfl, hz, hbW, hbc⟩
  have q1 : (z != 0) = true := by simpa using hz
  clear hz
  have hM : w2.heap[w.heap.size]? = some (fauO 0 0) := by rw [hbc.block _ (by show _ < (w.alloc _).heap.size; simp)]; exact TK.at_new _ _
  obtain ⟨g0, g1, gf⟩ := Br.fau_cells hM
  refine hK.out _ _ hbW (fun _ => ?_)
  clear hK K
  refine wpAnyH_take (i := 17) (v := .tuple #[.slice none 0 0, .int .i64 0, .agg #[.int .i64 (z), .int .i64 (a)]]) rfl (by kernel_rfl) (by kernel_rfl) (by kernel_rfl) (fun _ _ _ h => h) (Or.inl ⟨by kernel_rfl, fun w' hS => ?_⟩) hbW ?_
  ·go_simp
  refine wpAnyH_take (i := 18) (v := .slice none 0 0) rfl (by kernel_rfl) (by kernel_rfl) (by kernel_rfl) (fun _ _ _ h => h) (Or.inl ⟨by kernel_rfl, fun w' hS => ?_⟩) hbW ?_
  ·go_simp
  refine wpAnyH_take (i := 19) (v := .int .i64 0) rfl (by kernel_rfl) (by kernel_rfl) (by kernel_rfl) (fun _ _ _ h => h) (Or.inl ⟨by kernel_rfl, fun w' hS => ?_⟩) hbW ?_
  ·go_simp
  refine wpAnyH_take (i := 20) (v := .agg #[.int .i64 (z), .int .i64 (a)]) rfl (by kernel_rfl) (by kernel_rfl) (by kernel_rfl) (fun _ _ _ h => h) (Or.inl ⟨by kernel_rfl, fun w' hS => ?_⟩) hbW ?_
  ·go_simp
  refine wpAnyH_take (i := 22) (v := .slice none 0 0) rfl (by kernel_rfl) (by kernel_rfl) (by kernel_rfl) (fun _ _ _ h => h) (Or.inl ⟨by kernel_rfl, fun w' hS => ?_⟩) hbW ?_
  ·go_simp
  refine wpAnyH_take (i := 23) (v := .int .i64 0) rfl (by kernel_rfl) (by kernel_rfl) (by kernel_rfl) (fun _ _ _ h => h) (Or.inl ⟨by kernel_rfl, fun w' hS => ?_⟩) hbW ?_
  ·go_simp
  refine wpAnyH_ready (rs := [24]) (by kernel_rfl) (by simp) ?_
  refine AllReadyH.cons rfl (fun K hK => ?_) AllReadyH.nil
  go_simp
  have hS3' := (hbW.setCell (p := ⟨w.heap.size, 0, none⟩) (Nat.le_refl _) (.int .i64 (z))).setCell (p := ⟨w.heap.size, 1, none⟩) (Nat.le_refl _) (.int .i64 (a))
  refine hK.out _ _ hS3' (fun hS3 => ?_)
  clear hK K
  refine wpAnyH_done (by kernel_rfl) ?_ _
  have hM3 := Br.fau_set (e' := z) (a' := a) hM
  have hM3l := Nat.le_refl w.heap.size
  obtain ⟨w3, hw3⟩ : ∃ w3, w3 = (w2.setCell ⟨w.heap.size, 0, none⟩ (.int .i64 (z))).setCell ⟨w.heap.size, 1, none⟩ (.int .i64 (a)) := ⟨_, rfl⟩
  obtain ⟨M, hMM⟩ : ∃ M, M = w.heap.size := ⟨_, rfl⟩
  rw [← hw3] at hM3 hS3 ⊢
  rw [← hMM] at hM3 ⊢
  replace hM3l : w.heap.size ≤ M := by omega
  clear hw3 hMM hbc hS1 hb1 hbW hM g0 g1 gf hS3'
  have hr3 := HR0.out.keep hS3
  have HR3 := hide hr3
  have hm3 : Hid (Mv g w w3) := Mv.of_below hS3
  obtain ⟨c0, c1, c10, c11, -⟩ := hr3.rd
  have f11 := hr3.fr 11
  obtain ⟨g0, g1, gf⟩ := Br.fau_cells hM3
  have hMg : ¬ M = g := by omega
  have hgM : ¬ g = M := by omega
  clear hr3 hS3 hM3 hM3l HD HCl HS HR0 c0 c1
  have HG : Hid (∀ W, Calls Tryz.prog 23 #[.int .i64 z, .int .i64 (max a (s.pos : Int))] W fun r w' => r = givesF z (max a (s.pos : Int)) ∧ W = w') := fun W => giveUp_any z _ W
  simp only [givesF] at HG
  go_upto_region 3 with fail
  go_still_tail 9, (by kernel_rfl)
  go_wp2_with fail
  refine (HG.out _).mono ?_
  rintro e w4 ⟨rfl, rfl⟩
  go_wp2
  exact ⟨rfl, .inr ⟨z, a, HRR.out, rfl, hm3.out.trans ⟨rfl, rfl, rfl, Nat.le_refl _, fun _ _ _ => rfl⟩⟩⟩
theorem bracket_ok (h : RB w g v l d s nv av) {f : PS} {k : Nat} (hR : Br.parseM d s.folded l (s.next : Int) = .ok (f, k)) : Calls Tryz.prog 74 #[.pointer (some ⟨g, 0, none⟩)] w fun e w' => OutK (Br.parseM d s.folded l (s.next : Int)) g v l d s nv av w e w' := by
 have HR0 := hide h
 obtain ⟨p, hp⟩ : ∃ p, p = s.next := ⟨_, rfl⟩
 obtain ⟨fo, hfo⟩ : ∃ fo, fo = s.folded := ⟨_, rfl⟩
 have HX : Hid (∀ W, RB W g v l d s nv av → ∀ Wc, Below W.heap.size W Wc → Calls Tryz.prog 82 #[.int .i64 d, v, .int .i64 (p : Nat), .bool fo] Wc fun e w2 => ∃ so ln sc L, e = .returned (.tuple #[.slice so ln sc, .int .i64 (k : Nat), .agg #[.int .i64 (0), .int .i64 (0)]]) ∧ OR w2 Wc.heap.size (.slice so ln sc) L ∧ IsSet f L ∧ L.length ≤ 400 ∧ k ≤ l.length ∧ Below W.heap.size W w2 ∧ Below Wc.heap.size Wc w2) := by
  intro W hW Wc hWc
  have hWk := hW.keep hWc
  have := Br.parse_any d (p : Int) v l fo Wc hWk.pat hWk.tab (Nat.lt_trans hWk.low hWk.lt)
  rw [hp, hfo, hR] at this
  rw [hp, hfo]
  refine this.mono ?_
  rintro e w2 (⟨f', k', sv, L, hR', he, ho, hs, hl, hkl, hb⟩ | ⟨z', c', hR', hz, he, hb⟩)
  ·cases hR'
   obtain ⟨so, sc, hsv⟩ := OR.shape ho
   rw [hsv] at he ho
   exact ⟨so, L.length, sc, L, he, ho, hs, hl, hkl, hWc.trans (hb.mono hWc.size), hb⟩
  ·cases hR'
 have HRR := hide hR
 obtain ⟨ao, c, hv⟩ := h.pat.shape
 obtain ⟨n, hnn⟩ : ∃ n, n = l.length := ⟨_, rfl⟩
 rw [← hnn] at hv
 have HV := hide hv
 have hgw := h.lt
 have HD := hide (HX.out w h)
 have HP := hide hp
 have HFO := hide hfo
 have HNN := hide hnn
 rw [hv] at HD
 have HS : Hid (Below w.heap.size w w.drew) := ⟨rfl, rfl, rfl, Nat.le_refl _, fun _ _ => rfl⟩
 have HCl : Hid (∀ w', Below w.heap.size w w' → w'.cell? ⟨g, 0, none⟩ = some (.int .i64 d) ∧ w'.cell? ⟨g, 1, none⟩ = some (.slice ao n c) ∧ w'.cell? ⟨g, 11, none⟩ = some (.int .i64 (p : Nat)) ∧ w'.cell? ⟨g, 12, none⟩ = some (.bool fo)) := fun w' hS => by
  obtain ⟨y0, y1, -, y2, y3, -⟩ := (HR0.out.keep hS).rd
  rw [HV.out] at y1
  rw [← HP.out] at y2
  rw [← HFO.out] at y3
  exact ⟨y0, y1, y2, y3⟩
 clear h hv hR hnn hp hfo HX
 go_enter Tryz.func74, Tryz.ntmps74
 go_upto_region 1 with fail
 refine wp_region_held (S := fun w' => Below w.heap.size w w') (by kernel_rfl) ?_
 change wpAnyH _ _ _ _ _ _ _ _ (World.drew _)
 refine wpAnyH_take (i := 0) (v := .pointer (some ⟨g, 0, none⟩)) rfl (by kernel_rfl) (by kernel_rfl) (by kernel_rfl) (fun _ _ _ h => h) (Or.inl ⟨by kernel_rfl, fun w' hS => ?_⟩) HS.out ?_
 ·go_simp
 refine wpAnyH_take (i := 1) (v := .pointer (some ⟨g, 0, none⟩)) rfl (by kernel_rfl) (by kernel_rfl) (by kernel_rfl) (fun _ _ _ h => h) (Or.inl ⟨by kernel_rfl, fun w' hS => ?_⟩) HS.out ?_
 ·go_simp
 refine wpAnyH_take (i := 2) (v := .pointer (some ⟨g, 0, none⟩)) rfl (by kernel_rfl) (by kernel_rfl) (by kernel_rfl) (fun _ _ _ h => h) (Or.inl ⟨by kernel_rfl, fun w' hS => ?_⟩) HS.out ?_
 ·go_simp
 refine wpAnyH_take (i := 3) (v := .int .i64 d) rfl (by kernel_rfl) (by kernel_rfl) (by kernel_rfl) (fun _ _ _ h => h) (Or.inl ⟨by kernel_rfl, fun w' hS => ?_⟩) HS.out ?_
 ·(obtain ⟨y0, y1, y2, y3⟩ := HCl.out w' hS; go_simp)
 refine wpAnyH_take (i := 4) (v := .pointer (some ⟨g, 0, none⟩)) rfl (by kernel_rfl) (by kernel_rfl) (by kernel_rfl) (fun _ _ _ h => h) (Or.inl ⟨by kernel_rfl, fun w' hS => ?_⟩) HS.out ?_
 ·go_simp
 refine wpAnyH_take (i := 5) (v := .pointer (some ⟨g, 0, none⟩)) rfl (by kernel_rfl) (by kernel_rfl) (by kernel_rfl) (fun _ _ _ h => h) (Or.inl ⟨by kernel_rfl, fun w' hS => ?_⟩) HS.out ?_
 ·go_simp
 refine wpAnyH_take (i := 6) (v := .pointer (some ⟨g, 1, none⟩)) rfl (by kernel_rfl) (by kernel_rfl) (by kernel_rfl) (fun _ _ _ h => h) (Or.inl ⟨by kernel_rfl, fun w' hS => ?_⟩) HS.out ?_
 ·go_simp
 refine wpAnyH_take (i := 7) (v := .slice ao n c) rfl (by kernel_rfl) (by kernel_rfl) (by kernel_rfl) (fun _ _ _ h => h) (Or.inl ⟨by kernel_rfl, fun w' hS => ?_⟩) HS.out ?_
 ·(obtain ⟨y0, y1, y2, y3⟩ := HCl.out w' hS; go_simp)
 refine wpAnyH_take (i := 8) (v := .pointer (some ⟨g, 0, none⟩)) rfl (by kernel_rfl) (by kernel_rfl) (by kernel_rfl) (fun _ _ _ h => h) (Or.inl ⟨by kernel_rfl, fun w' hS => ?_⟩) HS.out ?_
 ·go_simp
 refine wpAnyH_take (i := 9) (v := .pointer (some ⟨g, 0, none⟩)) rfl (by kernel_rfl) (by kernel_rfl) (by kernel_rfl) (fun _ _ _ h => h) (Or.inl ⟨by kernel_rfl, fun w' hS => ?_⟩) HS.out ?_
 ·go_simp
 refine wpAnyH_take (i := 10) (v := .pointer (some ⟨g, 11, none⟩)) rfl (by kernel_rfl) (by kernel_rfl) (by kernel_rfl) (fun _ _ _ h => h) (Or.inl ⟨by kernel_rfl, fun w' hS => ?_⟩) HS.out ?_
 ·go_simp
 refine wpAnyH_take (i := 11) (v := .int .i64 (p : Nat)) rfl (by kernel_rfl) (by kernel_rfl) (by kernel_rfl) (fun _ _ _ h => h) (Or.inl ⟨by kernel_rfl, fun w' hS => ?_⟩) HS.out ?_
 ·(obtain ⟨y0, y1, y2, y3⟩ := HCl.out w' hS; go_simp)
 refine wpAnyH_take (i := 12) (v := .pointer (some ⟨g, 0, none⟩)) rfl (by kernel_rfl) (by kernel_rfl) (by kernel_rfl) (fun _ _ _ h => h) (Or.inl ⟨by kernel_rfl, fun w' hS => ?_⟩) HS.out ?_
 ·go_simp
 refine wpAnyH_take (i := 13) (v := .pointer (some ⟨g, 0, none⟩)) rfl (by kernel_rfl) (by kernel_rfl) (by kernel_rfl) (fun _ _ _ h => h) (Or.inl ⟨by kernel_rfl, fun w' hS => ?_⟩) HS.out ?_
 ·go_simp
 refine wpAnyH_take (i := 14) (v := .pointer (some ⟨g, 12, none⟩)) rfl (by kernel_rfl) (by kernel_rfl) (by kernel_rfl) (fun _ _ _ h => h) (Or.inl ⟨by kernel_rfl, fun w' hS => ?_⟩) HS.out ?_
 ·go_simp
 refine wpAnyH_take (i := 15) (v := .bool fo) rfl (by kernel_rfl) (by kernel_rfl) (by kernel_rfl) (fun _ _ _ h => h) (Or.inl ⟨by kernel_rfl, fun w' hS => ?_⟩) HS.out ?_
 ·(obtain ⟨y0, y1, y2, y3⟩ := HCl.out w' hS; go_simp)
 refine wpAnyH_ready (rs := [16, 21]) (by kernel_rfl) (by simp) ?_
 refine AllReadyH.cons rfl (fun K hK => ?_) (AllReadyH.cons rfl (fun K hK => ?_) AllReadyH.nil)
 ·go_simp
  refine (HD.out _ HS.out).mono ?_
  rintro e w2 ⟨so, ln, sc, L, rfl, ho, hs, hl, hkl, hbW, hbc⟩
  have HOO := hide ho
  have HSS := hide hs
  have HLL := hide hl
  have HKL := hide hkl
  clear ho hs hl hkl
  refine hK.out _ _ hbW (fun _ => ?_)
  clear hK K
  refine wpAnyH_take (i := 17) (v := .tuple #[.slice so ln sc, .int .i64 (k : Nat), .agg #[.int .i64 (0), .int .i64 (0)]]) rfl (by kernel_rfl) (by kernel_rfl) (by kernel_rfl) (fun _ _ _ h => h) (Or.inl ⟨by kernel_rfl, fun w' hS => ?_⟩) hbW ?_
  ·go_simp
  refine wpAnyH_take (i := 18) (v := .slice so ln sc) rfl (by kernel_rfl) (by kernel_rfl) (by kernel_rfl) (fun _ _ _ h => h) (Or.inl ⟨by kernel_rfl, fun w' hS => ?_⟩) hbW ?_
  ·go_simp
  refine wpAnyH_take (i := 19) (v := .int .i64 (k : Nat)) rfl (by kernel_rfl) (by kernel_rfl) (by kernel_rfl) (fun _ _ _ h => h) (Or.inl ⟨by kernel_rfl, fun w' hS => ?_⟩) hbW ?_
  ·go_simp
  refine wpAnyH_take (i := 20) (v := .agg #[.int .i64 (0), .int .i64 (0)]) rfl (by kernel_rfl) (by kernel_rfl) (by kernel_rfl) (fun _ _ _ h => h) (Or.inl ⟨by kernel_rfl, fun w' hS => ?_⟩) hbW ?_
  ·go_simp
  refine wpAnyH_ready (rs := [21]) (by kernel_rfl) (by simp) ?_
  refine AllReadyH.cons rfl (fun K hK => ?_) AllReadyH.nil
  go_simp
  refine hK.out _ _ (hbW.alloc hbW.size _) (fun hS2 => ?_)
  clear hK K
  refine wpAnyH_take (i := 22) (v := .slice so ln sc) rfl (by kernel_rfl) (by kernel_rfl) (by kernel_rfl) (fun _ _ _ h => h) (Or.inl ⟨by kernel_rfl, fun w' hS => ?_⟩) hS2 ?_
  ·go_simp
  refine wpAnyH_take (i := 23) (v := .int .i64 (k : Nat)) rfl (by kernel_rfl) (by kernel_rfl) (by kernel_rfl) (fun _ _ _ h => h) (Or.inl ⟨by kernel_rfl, fun w' hS => ?_⟩) hS2 ?_
  ·go_simp
  refine wpAnyH_ready (rs := [24]) (by kernel_rfl) (by simp) ?_
  refine AllReadyH.cons rfl (fun K hK => ?_) AllReadyH.nil
  go_simp
  refine hK.out _ _ (hbW.alloc hbW.size _) (fun hS3 => ?_)
  clear hK K
  refine wpAnyH_done (by kernel_rfl) ?_ _
  have hM3 := TK.at_new w2 (fauO 0 0)
  have hM3l := hbW.size
  obtain ⟨w3, hw3⟩ : ∃ w3, w3 = w2.alloc (fauO 0 0) := ⟨_, rfl⟩
  obtain ⟨M, hMM⟩ : ∃ M, M = w2.heap.size := ⟨_, rfl⟩
  rw [← hw3] at hM3
  have HO3 : Hid (OR w3 w.heap.size (.slice so ln sc) L) := by
   show OR _ _ _ _
   rw [hw3]
   exact OR.below (HOO.out.low (Nat.le_refl _)) ((Below.refl _ w2).alloc (Nat.le_refl _) _)
  clear HOO
  simp only [fauO] at hw3
  rw [← hw3] at hS3 ⊢
  rw [← hMM] at hM3 hM3l ⊢
  clear hw3 hMM hbc hS2 hbW
  have hr3 := HR0.out.keep hS3
  have HR3 := hide hr3
  have hm3 : Hid (Mv g w w3) := Mv.of_below hS3
  obtain ⟨c0, c1, c10, c11, -⟩ := hr3.rd
  have f11 := hr3.fr 11
  obtain ⟨g0, g1, gf⟩ := Br.fau_cells hM3
  have hMg : ¬ M = g := by omega
  have hgM : ¬ g = M := by omega
  clear hr3 hS3 hM3 hM3l HD HCl HS HR0 c0 c1
  go_wp2
  go_ret
  refine .inl ⟨f, k, _, L, HRR.out, rfl, ?_, HSS.out, HLL.out, HKL.out, ?_, ?_⟩
  ·exact OR.mv HO3.out ((Mv.refl g w3).setCell 11 _) hgw
  ·exact HR3.out.set (s' := { s with next := k }) 11 (.int .i64 (k : Nat)) rfl rfl rfl
  ·exact hm3.out.setCell 11 _
 ·go_simp
  have hb1 : Below w.heap.size w (w.alloc (fauO 0 0)).drew := ((Below.refl _ w).alloc (Nat.le_refl _) _).drew
  refine hK.out _ _ hb1 (fun hS1 => ?_)
  clear hK K
  refine wpAnyH_ready (rs := [16]) (by kernel_rfl) (by simp) ?_
  refine AllReadyH.cons rfl (fun K hK => ?_) AllReadyH.nil
  go_simp
  refine (HD.out _ hS1).mono ?_
  rintro e w2 ⟨so, ln, sc, L, rfl, ho, hs, hl, hkl, hbW, hbc⟩
  have HOO := hide ho
  have HSS := hide hs
  have HLL := hide hl
  have HKL := hide hkl
  clear ho hs hl hkl
  have hM : w2.heap[w.heap.size]? = some (fauO 0 0) := by rw [hbc.block _ (by show _ < (w.alloc _).heap.size; simp)]; exact TK.at_new _ _
  obtain ⟨g0, g1, gf⟩ := Br.fau_cells hM
  refine hK.out _ _ hbW (fun _ => ?_)
  clear hK K
  refine wpAnyH_take (i := 17) (v := .tuple #[.slice so ln sc, .int .i64 (k : Nat), .agg #[.int .i64 (0), .int .i64 (0)]]) rfl (by kernel_rfl) (by kernel_rfl) (by kernel_rfl) (fun _ _ _ h => h) (Or.inl ⟨by kernel_rfl, fun w' hS => ?_⟩) hbW ?_
  ·go_simp
  refine wpAnyH_take (i := 18) (v := .slice so ln sc) rfl (by kernel_rfl) (by kernel_rfl) (by kernel_rfl) (fun _ _ _ h => h) (Or.inl ⟨by kernel_rfl, fun w' hS => ?_⟩) hbW ?_
  ·go_simp
  refine wpAnyH_take (i := 19) (v := .int .i64 (k : Nat)) rfl (by kernel_rfl) (by kernel_rfl) (by kernel_rfl) (fun _ _ _ h => h) (Or.inl ⟨by kernel_rfl, fun w' hS => ?_⟩) hbW ?_
  ·go_simp
  refine wpAnyH_take (i := 20) (v := .agg #[.int .i64 (0), .int .i64 (0)]) rfl (by kernel_rfl) (by kernel_rfl) (by kernel_rfl) (fun _ _ _ h => h) (Or.inl ⟨by kernel_rfl, fun w' hS => ?_⟩) hbW ?_
  ·go_simp
  refine wpAnyH_take (i := 22) (v := .slice so ln sc) rfl (by kernel_rfl) (by kernel_rfl) (by kernel_rfl) (fun _ _ _ h => h) (Or.inl ⟨by kernel_rfl, fun w' hS => ?_⟩) hbW ?_
  ·go_simp
  refine wpAnyH_take (i := 23) (v := .int .i64 (k : Nat)) rfl (by kernel_rfl) (by kernel_rfl) (by kernel_rfl) (fun _ _ _ h => h) (Or.inl ⟨by kernel_rfl, fun w' hS => ?_⟩) hbW ?_
  ·go_simp
  refine wpAnyH_ready (rs := [24]) (by kernel_rfl) (by simp) ?_
  refine AllReadyH.cons rfl (fun K hK => ?_) AllReadyH.nil
  go_simp
  have hS3' := (hbW.setCell (p := ⟨w.heap.size, 0, none⟩) (Nat.le_refl _) (.int .i64 (0))).setCell (p := ⟨w.heap.size, 1, none⟩) (Nat.le_refl _) (.int .i64 (0))
  refine hK.out _ _ hS3' (fun hS3 => ?_)
  clear hK K
  refine wpAnyH_done (by kernel_rfl) ?_ _
  have hM3 := Br.fau_set (e' := 0) (a' := 0) hM
  have hM3l := Nat.le_refl w.heap.size
  obtain ⟨w3, hw3⟩ : ∃ w3, w3 = (w2.setCell ⟨w.heap.size, 0, none⟩ (.int .i64 (0))).setCell ⟨w.heap.size, 1, none⟩ (.int .i64 (0)) := ⟨_, rfl⟩
  obtain ⟨M, hMM⟩ : ∃ M, M = w.heap.size := ⟨_, rfl⟩
  have HO3 : Hid (OR w3 w.heap.size (.slice so ln sc) L) := by
   show OR _ _ _ _
   rw [hw3]
   exact (OR.mv HOO.out (((Mv.refl w.heap.size w2).setCell 0 _).setCell 1 _) (by show _ < (w.alloc _).heap.size; simp)).low (by show _ ≤ (w.alloc _).heap.size; simp)
  clear HOO
  rw [← hw3] at hM3 hS3 ⊢
  rw [← hMM] at hM3 ⊢
  replace hM3l : w.heap.size ≤ M := by omega
  clear hw3 hMM hbc hS1 hb1 hbW hM g0 g1 gf hS3'
  have hr3 := HR0.out.keep hS3
  have HR3 := hide hr3
  have hm3 : Hid (Mv g w w3) := Mv.of_below hS3
  obtain ⟨c0, c1, c10, c11, -⟩ := hr3.rd
  have f11 := hr3.fr 11
  obtain ⟨g0, g1, gf⟩ := Br.fau_cells hM3
  have hMg : ¬ M = g := by omega
  have hgM : ¬ g = M := by omega
  clear hr3 hS3 hM3 hM3l HD HCl HS HR0 c0 c1
  go_wp2
  go_ret
  refine .inl ⟨f, k, _, L, HRR.out, rfl, ?_, HSS.out, HLL.out, HKL.out, ?_, ?_⟩
  ·exact OR.mv HO3.out ((Mv.refl g w3).setCell 11 _) hgw
  ·exact HR3.out.set (s' := { s with next := k }) 11 (.int .i64 (k : Nat)) rfl rfl rfl
  ·exact hm3.out.setCell 11 _
theorem bracket_fn (h : RB w g v l d s nv av) : Calls Tryz.prog 74 #[.pointer (some ⟨g, 0, none⟩)] w fun e w' => OutK (Br.parseM d s.folded l (s.next : Int)) g v l d s nv av w e w' := by
 cases hR : Br.parseM d s.folded l (s.next : Int) with
 | error x => rw [← hR]; exact bracket_er h (z := x.1) (a := x.2) hR
 | ok x => rw [← hR]; exact bracket_ok h (f := x.1) (k := x.2) hR
end Go.Proofs.YtaccofiegkdlgaaGreatDoor.Pa
