import Derived.Test.YtaccofiegkdlgaaGreatDoorKW
import Derived.StillTailTactics
namespace Go.Proofs.YtaccofiegkdlgaaGreatDoor.Br
set_option maxHeartbeats 2000000
open Go.RowKit
open TK (Mv PatV ReadsI byteA add_block)
set_option linter.unusedVariables false
set_option maxRecDepth 100000
variable {w w' : World} {b : Nat} {v : Value} {l : List Int} {i : Nat} {d : Int} {fo : Bool}
def WdT (x : Wd) (t : TK.Tok) : Prop := match x with | .pt p => t.kind = 1 ∧ t.num = p | .cls s no => t.kind = 4 ∧ t.text = s ∧ t.neg = no
def OutW (R : Except BE (Wd × Nat)) (b : Nat) (v : Value) (l : List Int) (i : Nat) (d : Int) (fo : Bool) (w : World) (e : Ending) (w' : World) : Prop :=
 (∃ x k t, R = .ok (x, k) ∧ e = .returned (TK.tokV t) ∧ WdT x t ∧ (t.kind = 1 → 0 ≤ t.num ∧ t.num ≤ 1114111) ∧ BB w' b v l k d fo ∧ i < k ∧ Mv b w w') ∨ (∃ z : Int, R = .error (z, (i : Int)) ∧ e = givesF z i ∧ Mv b w w')
theorem word_none (h : l.length ≤ i) : wordE (par d fo) l i = .error (1, (i : Int)) := by
 unfold wordE
 rw [List.getElem?_eq_none h]
theorem word_pt (h : i < l.length) (hz : ((d == 1) && isAt l i [92]) = false) : wordE (par d fo) l i = .ok (.pt l[i], i + 1) := by
 unfold wordE
 rw [List.getElem?_eq_getElem h]
 show (if ((d == 1) && isAt l i [92]) = true then _ else _) = _
 rw [hz]
 rfl
theorem word_esc (h : i < l.length) (hz : ((d == 1) && isAt l i [92]) = true) : wordE (par d fo) l i = match wordOf (TK.nextT 1 l i) with | .error e => .error (e, (i : Int)) | .ok x => .ok x := by
 unfold wordE
 rw [List.getElem?_eq_getElem h]
 show (if ((d == 1) && isAt l i [92]) = true then _ else _) = _
 rw [hz]
 rfl
theorem word_end (h : BB w b v l i d fo) (hi : l.length ≤ i) : Calls Tryz.prog 168 #[.pointer (some ⟨b, 0, none⟩)] w fun e w' => OutW (wordE (par d fo) l i) b v l i d fo w e w' := by
 have hE := hide (word_none (d := d) (fo := fo) hi)
 have h0 := h.alloc (TK.tokO {})
 have HM : Hid (Mv b w (w.alloc (TK.tokO {}))) := (Mv.refl b w).alloc _
 have HN := hide (cended_any h0)
 rw [show decide (l.length ≤ i) = true by simpa using hi] at HN
 have HG := hide (fun q => giveUp_any 1 (i : Int) ((w.alloc (TK.tokO {})).drewN q))
 obtain ⟨c0, c1, c2, c3, f1⟩ := h0.cells
 simp only [TK.tokO] at HM HN HG c0 c1 c2 c3 f1
 simp only [givesF] at HG
 clear h h0 hi
 go_enter Tryz.func168, Tryz.ntmps168
 go_wp2_with fail
 refine HN.out.mono ?_
 rintro e w1 ⟨rfl, q, rfl⟩
 go_wp2_with fail
 refine (HG.out q).mono ?_
 rintro e w2 ⟨rfl, rfl⟩
 go_wp2
 exact ⟨rfl, .inr ⟨1, hE.out, rfl, HM.out.drewN q⟩⟩
end Go.Proofs.YtaccofiegkdlgaaGreatDoor.Br
namespace Go.Proofs.YtaccofiegkdlgaaGreatDoor.Br
set_option maxHeartbeats 4000000
open Go.RowKit
open TK (Mv PatV ReadsI byteA add_block)
set_option linter.unusedVariables false
set_option maxRecDepth 100000
variable {w w' : World} {b : Nat} {v : Value} {l : List Int} {i : Nat} {d : Int} {fo : Bool}
theorem word_pl (h : BB w b v l i d fo) (hi : i < l.length) (hd : (d == 1) = false) : Calls Tryz.prog 168 #[.pointer (some ⟨b, 0, none⟩)] w fun e w' => OutW (wordE (par d fo) l i) b v l i d fo w e w' := by
 have hE := hide (word_pt (d := d) (fo := fo) hi (by rw [hd]; rfl))
 have h0 := h.alloc (TK.tokO {})
 have HN := hide (cended_any h0)
 rw [show decide (l.length ≤ i) = false by simpa using hi] at HN
 have HB := hide h0
 have hbs := h.lt
 have HBS := hide hbs
 have hsm := h.small
 have hpm := hide (h.pts l[i] (List.getElem_mem _))
 have hN0 := hide (TK.at_new w (TK.tokO {}))
 have HXL := hide h.xlt
 have HZ := hide (fun q => ruby_is (h0.drewN q) hd)
 have HM0 : Hid (Mv b w (w.alloc (TK.tokO {}))) := (Mv.refl b w).alloc _
 have HF : Hid (∀ q W, W = (w.alloc (TK.tokO {})).drewN q → BB W b v l i d fo ∧ Mv b w W ∧ W.heap[w.heap.size]? = some (TK.tokO {})) := by
  intro q W hW
  rw [hW]
  exact ⟨h0.drewN q, HM0.out.drewN q, hN0.out⟩
 simp only [TK.tokO] at HN HZ HF
 clear h h0 hN0 HM0 HB hd
 go_enter Tryz.func168, Tryz.ntmps168
 go_wp2_with fail
 refine HN.out.mono ?_
 rintro e w1 ⟨rfl, q, rfl⟩
 go_wp2_with fail
 refine (HZ.out q).mono ?_
 rintro e w1 ⟨rfl, rfl⟩
 go_upto_region 4 with fail
 obtain ⟨W, hW⟩ : ∃ W, W = (w.alloc (.cells #[.int .i64 0, .int .i64 0, .string ⟨#[]⟩, .bool false, .int .i64 0, .int .i64 0, .int .i64 0, .int .i64 0] 52)).drewN q := ⟨_, rfl⟩
 obtain ⟨hr, hm, hN⟩ := HF.out q W hW
 rw [← hW]
 clear hW HF HZ HN
 have HR := hide hr
 have HM := hide hm
 have HN := hide hN
 obtain ⟨c0, c1, c2, c3, f1⟩ := hr.cells
 obtain ⟨x, c, hvx, hcap, hpat⟩ := hr.pat.some (by omega)
 have hp := hpat i hi
 obtain ⟨m0, m1, m2, m3, m4, m5, m6, m7⟩ := TK.tok_cells (t := {}) hN
 have fr0 := TK.tok_free (t := {}) hN
 rw [hvx] at c0
 obtain ⟨p, hpp⟩ : ∃ p, p = l[i] := ⟨_, rfl⟩
 rw [← hpp] at hp hE hpm
 obtain ⟨n, hn⟩ : ∃ n, n = l.length := ⟨_, rfl⟩
 rw [← hn] at c0 hi hcap hsm
 have HI1 : Hid (i + 1 ≤ l.length) := by show _ ≤ _; omega
 have t3 : (i : Int) < (n : Int) := by omega
 have t4 : (0 : Int) ≤ (i : Int) := by omega
 have hNb : ¬ w.heap.size = b := by omega
 have hbN : ¬ b = w.heap.size := by omega
 obtain ⟨N, hNN⟩ : ∃ N, N = w.heap.size := ⟨_, rfl⟩
 have HNN := hide hNN
 rw [← hNN] at HN m0 m1 m2 m3 m4 m5 m6 m7 fr0 hNb hbN ⊢
 clear hr hm hN hpat hvx hpp hn hNN hbs
 go_wp2
 go_quiet (fail)
 go_wp21
 refine TK.ret_tok (t := TK.pointT p) (N := N) Tryz.results168 rfl (TK.tok_set (t0 := {}) (by rw [Below.heap_setCell _ _ _ _ hNb]; exact HN.out) (TK.pointT p)) ?_
 have k1 := ((HM.out.drewN nq).setCell 1 (.int .i64 ((i + 1 : Nat) : Int)))
 have k2 := ((HR.out.drewN nq).go (i + 1) HI1.out)
 refine .inl ⟨.pt p, i + 1, TK.pointT p, hE.out, rfl, ⟨rfl, rfl⟩, fun _ => hpm.out, ?_, by omega, ?_⟩
 ·refine BB.keepB (B := w.heap.size) k2 (TK.below_tok (Below.refl _ _) (by have := HNN.out; omega) _ _ _ _ _ _ _ _) HBS.out HXL.out
 ·exact TK.Mv.tok k1 (by have := HNN.out; omega) _ _ _ _ _ _ _ _
end Go.Proofs.YtaccofiegkdlgaaGreatDoor.Br
namespace Go.Proofs.YtaccofiegkdlgaaGreatDoor.Br
set_option maxHeartbeats 4000000
open Go.RowKit
open TK (Mv PatV ReadsI byteA add_block)
set_option linter.unusedVariables false
set_option maxRecDepth 100000
variable {w w' : World} {b : Nat} {v : Value} {l : List Int} {i : Nat} {d : Int} {fo : Bool}
theorem word_rb (h : BB w b v l i d fo) (hi : i < l.length) (hd : (d == 1) = true) (h92 : isAt l i [92] = false) : Calls Tryz.prog 168 #[.pointer (some ⟨b, 0, none⟩)] w fun e w' => OutW (wordE (par d fo) l i) b v l i d fo w e w' := by
 have hE := hide (word_pt (d := d) (fo := fo) hi (by rw [hd, h92]; rfl))
 have h0 := h.alloc (TK.tokO {})
 have HN : Hid (Calls Tryz.prog 47 #[.pointer (some ⟨b, 0, none⟩)] (w.alloc (TK.tokO {})) fun e w' => e = .returned (.bool false) ∧ BB w' b v l i d fo ∧ Mv b w w' ∧ w'.heap[w.heap.size]? = some (TK.tokO {})) := by
  have := cended_any h0
  rw [show decide (l.length ≤ i) = false by simpa using hi] at this
  exact this.mono fun e w' ⟨h1, q, h2⟩ => ⟨h1, by rw [h2]; exact h0.drewN q, by rw [h2]; exact ((Mv.refl b w).alloc _).drewN q, by rw [h2]; exact TK.at_new _ _⟩
 have hbs := h.lt
 have HBS := hide hbs
 have hsm := h.small
 have hpm := hide (h.pts l[i] (List.getElem_mem _))
 have HXL := hide h.xlt
 have HD0 := hide hd
 have HI : Hid (∀ w1, BB w1 b v l i d fo → Calls Tryz.prog 65 #[.pointer (some ⟨b, 0, none⟩), .slice (some ⟨w1.heap.size, 0, none⟩) 1 1] (w1.alloc (.cells #[.int .i64 92] 3)) fun e w' => e = .returned (.bool false) ∧ Below w1.heap.size w1 w') := fun w1 h1 => by
  have := is1 h1 92
  rw [h92] at this
  exact this
 simp only [TK.tokO] at HN
 clear h h0 h92 hd
 go_enter Tryz.func168, Tryz.ntmps168
 go_wp2_with fail
 refine HN.out.mono ?_
 rintro e w1 ⟨rfl, hr1, hm1, hN1⟩
 have HR1 := hide hr1
 have HM1 := hide hm1
 have HN1 := hide hN1
 clear hr1 hm1 hN1 HN
 go_wp2_with fail
 refine (ruby_is HR1.out HD0.out).mono ?_
 rintro e w1' ⟨rfl, rfl⟩
 go_wp2_with fail
 refine (HI.out w1 HR1.out).mono ?_
 rintro e W ⟨rfl, hbW⟩
 go_upto_region 4 with fail
 have hr := HR1.out.keep hbW
 have hm := HM1.out.trans (Mv.of_below hbW)
 have hN : W.heap[w.heap.size]? = some (TK.tokO {}) := by rw [hbW.block _ (lt_of_block HN1.out)]; exact HN1.out
 clear hbW HI HR1 HM1 HN1 HD0
 have HR := hide hr
 have HM := hide hm
 have HN := hide hN
 obtain ⟨c0, c1, c2, c3, f1⟩ := hr.cells
 obtain ⟨x, c, hvx, hcap, hpat⟩ := hr.pat.some (by omega)
 have hp := hpat i hi
 obtain ⟨m0, m1, m2, m3, m4, m5, m6, m7⟩ := TK.tok_cells (t := {}) hN
 have fr0 := TK.tok_free (t := {}) hN
 rw [hvx] at c0
 obtain ⟨p, hpp⟩ : ∃ p, p = l[i] := ⟨_, rfl⟩
 rw [← hpp] at hp hE hpm
 obtain ⟨n, hn⟩ : ∃ n, n = l.length := ⟨_, rfl⟩
 rw [← hn] at c0 hi hcap hsm
 have HI1 : Hid (i + 1 ≤ l.length) := by show _ ≤ _; omega
 have t3 : (i : Int) < (n : Int) := by omega
 have t4 : (0 : Int) ≤ (i : Int) := by omega
 have hNb : ¬ w.heap.size = b := by omega
 have hbN : ¬ b = w.heap.size := by omega
 obtain ⟨N, hNN⟩ : ∃ N, N = w.heap.size := ⟨_, rfl⟩
 have HNN := hide hNN
 rw [← hNN] at HN m0 m1 m2 m3 m4 m5 m6 m7 fr0 hNb hbN ⊢
 clear hr hm hN hpat hvx hpp hn hNN hbs
 go_wp2
 go_quiet (fail)
 go_wp21
 refine TK.ret_tok (t := TK.pointT p) (N := N) Tryz.results168 rfl (TK.tok_set (t0 := {}) (by rw [Below.heap_setCell _ _ _ _ hNb]; exact HN.out) (TK.pointT p)) ?_
 have k1 := ((HM.out.drewN nq).setCell 1 (.int .i64 ((i + 1 : Nat) : Int)))
 have k2 := ((HR.out.drewN nq).go (i + 1) HI1.out)
 refine .inl ⟨.pt p, i + 1, TK.pointT p, hE.out, rfl, ⟨rfl, rfl⟩, fun _ => hpm.out, ?_, by omega, ?_⟩
 ·refine BB.keepB (B := w.heap.size) k2 (TK.below_tok (Below.refl _ _) (by have := HNN.out; omega) _ _ _ _ _ _ _ _) HBS.out HXL.out
 ·exact TK.Mv.tok k1 (by have := HNN.out; omega) _ _ _ _ _ _ _ _
end Go.Proofs.YtaccofiegkdlgaaGreatDoor.Br
