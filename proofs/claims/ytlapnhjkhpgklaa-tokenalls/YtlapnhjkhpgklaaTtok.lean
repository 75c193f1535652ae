/- Tokens as values; the small makers of them; how often. -/
import Derived.Test.YtlapnhjkhpgklaaTname
namespace Go.Proofs.Ytlapnhjkhpgklaa
open Go.RowKit
set_option linter.unusedVariables false

def tokV (t : Tok) : Value := .agg #[.int .i64 t.kind, .int .i64 t.num, .string t.text, .bool t.neg, .int .i64 t.least, .int .i64 t.most, .int .i64 t.way, .int .i64 t.fold]
/-- a block with a token. -/
def tokO (t : Tok) : Obj := .cells #[.int .i64 t.kind, .int .i64 t.num, .string t.text, .bool t.neg, .int .i64 t.least, .int .i64 t.most, .int .i64 t.way, .int .i64 t.fold] 24 (0, 0)
theorem tok_cells {w : World} {k : Nat} {t : Tok} (h : w.heap[k]? = some (tokO t)) :
    w.cell? ⟨k, 0, none⟩ = some (.int .i64 t.kind) ∧ w.cell? ⟨k, 1, none⟩ = some (.int .i64 t.num) ∧ w.cell? ⟨k, 2, none⟩ = some (.string t.text) ∧ w.cell? ⟨k, 3, none⟩ = some (.bool t.neg) ∧ w.cell? ⟨k, 4, none⟩ = some (.int .i64 t.least) ∧ w.cell? ⟨k, 5, none⟩ = some (.int .i64 t.most) ∧ w.cell? ⟨k, 6, none⟩ = some (.int .i64 t.way) ∧ w.cell? ⟨k, 7, none⟩ = some (.int .i64 t.fold) := by
  unfold tokO at h
  refine ⟨?_, ?_, ?_, ?_, ?_, ?_, ?_, ?_⟩ <;> simp [World.cell?, h]
theorem tok_free {w : World} {k : Nat} {t : Tok} (h : w.heap[k]? = some (tokO t)) (o : Nat) : w.frozen? ⟨k, o, none⟩ = false := by
  unfold tokO at h
  simp [World.frozen?, h]

set_option maxHeartbeats 1000000 in
theorem point_any (p : Int) (w : World) : Calls Try.prog 42 #[.int .i64 p] w fun e w' => e = .returned (tokV (pointT p)) ∧ Below w.heap.size w w' := by
  go_enter Try.func42, Try.ntmps42
  go_wp2
  exact bodyPost_ret (v := tokV (pointT p)) (by simp [results, Try.results42, go_sem, tokV, pointT]) rfl ⟨rfl, (Below.refl _ _).alloc (Nat.le_refl _) _⟩
set_option maxHeartbeats 1000000 in
theorem look_any (p : Int) (w : World) : Calls Try.prog 40 #[.int .i64 p] w fun e w' => e = .returned (tokV (lookT p)) ∧ Below w.heap.size w w' := by
  go_enter Try.func40, Try.ntmps40
  go_wp2
  exact bodyPost_ret (v := tokV (lookT p)) (by simp [results, Try.results40, go_sem, tokV, lookT]) rfl ⟨rfl, (Below.refl _ _).alloc (Nat.le_refl _) _⟩
set_option maxHeartbeats 1000000 in
theorem again_any (p : Int) (w : World) : Calls Try.prog 58 #[.int .i64 p] w fun e w' => e = .returned (tokV (againT p)) ∧ Below w.heap.size w w' := by
  go_enter Try.func58, Try.ntmps58
  go_wp2
  exact bodyPost_ret (v := tokV (againT p)) (by simp [results, Try.results58, go_sem, tokV, againT]) rfl ⟨rfl, (Below.refl _ _).alloc (Nat.le_refl _) _⟩
set_option maxHeartbeats 1000000 in
theorem open_any (p : Int) (w : World) : Calls Try.prog 60 #[.int .i64 p] w fun e w' => e = .returned (tokV (openT p)) ∧ Below w.heap.size w w' := by
  go_enter Try.func60, Try.ntmps60
  go_wp2
  exact bodyPost_ret (v := tokV (openT p)) (by simp [results, Try.results60, go_sem, tokV, openT]) rfl ⟨rfl, (Below.refl _ _).alloc (Nat.le_refl _) _⟩

theorem Mv.blockAt {b : Nat} {w w1 : World} (h : Mv b w w1) {k : Nat} {o : Obj} (hk : w.heap[k]? = some o) (hb : k ≠ b) : w1.heap[k]? = some o := by rw [h.block k (lt_of_block hk) hb]; exact hk
/-- a token stored into a block of its own. -/
theorem RB.tok {w : World} {b : Nat} {x : Addr} {c : Nat} {l : List Int} {i : Nat} {d : Int} (h : RB w b x c l i d) {k : Nat} (hk : k ≠ b) (hx : k ≠ x.block) (v0 v1 v2 v3 v4 v5 v6 v7 : Value) :
    RB ((((((((w.setCell ⟨k, 0, none⟩ v0).setCell ⟨k, 1, none⟩ v1).setCell ⟨k, 2, none⟩ v2).setCell ⟨k, 3, none⟩ v3).setCell ⟨k, 4, none⟩ v4).setCell ⟨k, 5, none⟩ v5).setCell ⟨k, 6, none⟩ v6).setCell ⟨k, 7, none⟩ v7) b x c l i d :=
  (((((((h.other hk hx v0).other hk hx v1).other hk hx v2).other hk hx v3).other hk hx v4).other hk hx v5).other hk hx v6).other hk hx v7
theorem Mv.tok {b : Nat} {w w1 : World} (h : Mv b w w1) {k : Nat} (hk : w.heap.size ≤ k) (v0 v1 v2 v3 v4 v5 v6 v7 : Value) :
    Mv b w ((((((((w1.setCell ⟨k, 0, none⟩ v0).setCell ⟨k, 1, none⟩ v1).setCell ⟨k, 2, none⟩ v2).setCell ⟨k, 3, none⟩ v3).setCell ⟨k, 4, none⟩ v4).setCell ⟨k, 5, none⟩ v5).setCell ⟨k, 6, none⟩ v6).setCell ⟨k, 7, none⟩ v7) :=
  (((((((h.setNew (p := ⟨k, 0, none⟩) hk v0).setNew (p := ⟨k, 1, none⟩) hk v1).setNew (p := ⟨k, 2, none⟩) hk v2).setNew (p := ⟨k, 3, none⟩) hk v3).setNew (p := ⟨k, 4, none⟩) hk v4).setNew (p := ⟨k, 5, none⟩) hk v5).setNew (p := ⟨k, 6, none⟩) hk v6).setNew (p := ⟨k, 7, none⟩) hk v7
theorem at_old {w : World} {k : Nat} {o o' : Obj} (h : w.heap[k]? = some o) : (w.alloc o').heap[k]? = some o := by rw [Below.heap_alloc _ _ _ (lt_of_block h)]; exact h
theorem at_new' (w : World) (o : Obj) {k : Nat} (h : k = w.heap.size) : (w.alloc o).heap[k]? = some o := by rw [h]; exact heap_alloc_new w o
theorem at_new (w : World) (o : Obj) : (w.alloc o).heap[w.heap.size]? = some o := heap_alloc_new w o

theorem skip_yes {b : Nat} {x : Addr} {c : Nat} {l : List Int} {i : Nat} {d : Int} (w : World) (h : RB w b x c l i d) (p : Int) (hs : says l i [p] = true) :
    Calls Try.prog 48 #[.pointer (some ⟨b, 0, none⟩), .slice (some ⟨w.heap.size, 0, none⟩) 1 1] (w.alloc (.cells #[.int .i64 p] 3)) fun e w' => e = .returned (.bool true) ∧ RB w' b x c l (i + 1) d ∧ Mv b w w' := by
  have := skip_any _ 1 [p] _ (h.alloc (.cells #[.int .i64 p] 3)) (readsI_one w p 3) (by simp) (by simp)
  rw [hs, if_pos rfl] at this
  exact this.mono fun e w' ⟨h1, h2, h3⟩ => ⟨h1, h2, ((Mv.refl b w).alloc _).trans h3⟩
theorem skip_no {b : Nat} {x : Addr} {c : Nat} {l : List Int} {i : Nat} {d : Int} (w : World) (h : RB w b x c l i d) (p : Int) (hs : says l i [p] = false) :
    Calls Try.prog 48 #[.pointer (some ⟨b, 0, none⟩), .slice (some ⟨w.heap.size, 0, none⟩) 1 1] (w.alloc (.cells #[.int .i64 p] 3)) fun e w' => e = .returned (.bool false) ∧ RB w' b x c l i d ∧ Mv b w w' := by
  have := skip_any _ 1 [p] _ (h.alloc (.cells #[.int .i64 p] 3)) (readsI_one w p 3) (by simp) (by simp)
  rw [hs, if_neg (by simp)] at this
  exact this.mono fun e w' ⟨h1, h2, h3⟩ => ⟨h1, h2, ((Mv.refl b w).alloc _).trans h3⟩

set_option maxHeartbeats 4000000 in
theorem repeat_any {b : Nat} {x : Addr} {c : Nat} {l : List Int} {i : Nat} {d : Int} (least most : Int) (w : World) (h : RB w b x c l i d) :
    Calls Try.prog 41 #[.pointer (some ⟨b, 0, none⟩), .int .i64 least, .int .i64 most] w fun e w' => e = .returned (tokV (repT d l i least most).1) ∧ RB w' b x c l (repT d l i least most).2 d ∧ Mv b w w' := by
  have HR := hide h
  obtain ⟨c0, c1, c2, f1⟩ := h.cells
  have hlt := h.lt
  have hxw := h.xw
  by_cases hd : d = 1
  · subst hd
    have h2 := (h.alloc (tokO {})).alloc (tokO { kind := 6, least := least, most := most, way := 1 })
    cases hs : says l i [63] with
    | true =>
      have HS := hide (skip_yes _ h2 63 hs)
      have hE : Hid (repT 1 l i least most = ({ kind := 6, least := least, most := most, way := 2 }, i + 1)) := by show _ = _; unfold repT; rw [if_pos rfl, if_pos hs]
      clear hs h2 h
      go_enter Try.func41, Try.ntmps41
      go_wp2_with fail
      simp only [tokO, World.size_alloc] at HS
      refine HS.out.mono ?_
      rintro e w1 ⟨rfl, hr, hm⟩
      have hN : w1.heap[w.heap.size]? = some (tokO {}) := hm.blockAt (at_old (at_new _ _)) (by omega)
      have hN1 : w1.heap[w.heap.size + 1]? = some (tokO { kind := 6, least := least, most := most, way := 1 }) := hm.blockAt (at_new' (w.alloc (tokO {})) _ (by simp)) (by omega)
      obtain ⟨n0, n1, n2, n3, n4, n5, n6, n7⟩ := tok_cells hN1
      obtain ⟨m0, m1, m2, m3, m4, m5, m6, m7⟩ := tok_cells hN
      have fr1 := tok_free hN1
      have fr0 := tok_free hN
      have HRR := hide hr
      have HMM := hide hm
      clear hr hm c0 c1 c2 f1 HS
      go_wp2
      rw [hE.out]
      refine bodyPost_ret (v := tokV { kind := 6, least := least, most := most, way := 2 }) (by simp [results, Try.results41, go_sem, tokV, m0, m1, m2, m3, m4, m5, m6, m7]) rfl ⟨rfl, ?_, ?_⟩
      · exact (HRR.out.other (by simp; omega) (by simp; omega) _).tok (by omega) (by omega) _ _ _ _ _ _ _ _
      · exact Mv.tok (Mv.setNew ((((Mv.refl b w).alloc _).alloc _).trans HMM.out) (by simp) _) (Nat.le_refl _) _ _ _ _ _ _ _ _
    | false =>
      have HS := hide (skip_no _ h2 63 hs)
      cases hs2 : says l i [43] with
      | true =>
        have hE : Hid (repT 1 l i least most = ({ kind := 6, least := least, most := most, way := 3 }, i + 1)) := by show _ = _; unfold repT; rw [if_pos rfl, if_neg (by rw [hs]; simp), if_pos hs2]
        have HS2 : Hid (∀ w1, RB w1 b x c l i 1 → _) := fun w1 h1 => skip_yes w1 h1 43 hs2
        clear hs hs2 h2 h
        go_enter Try.func41, Try.ntmps41
        go_wp2_with fail
        simp only [tokO, World.size_alloc] at HS
        refine HS.out.mono ?_
        rintro e w1 ⟨rfl, hr, hm⟩
        go_wp2_with fail
        refine (HS2.out w1 hr).mono ?_
        rintro e w2 ⟨rfl, hr2, hm2⟩
        have hm3 := hm.trans hm2
        have hN : w2.heap[w.heap.size]? = some (tokO {}) := hm3.blockAt (at_old (at_new _ _)) (by omega)
        have hN1 : w2.heap[w.heap.size + 1]? = some (tokO { kind := 6, least := least, most := most, way := 1 }) := hm3.blockAt (at_new' (w.alloc (tokO {})) _ (by simp)) (by omega)
        obtain ⟨n0, n1, n2, n3, n4, n5, n6, n7⟩ := tok_cells hN1
        obtain ⟨m0, m1, m2, m3, m4, m5, m6, m7⟩ := tok_cells hN
        have fr1 := tok_free hN1
        have fr0 := tok_free hN
        have HRR := hide hr2
        have HMM := hide hm3
        clear hr hm hr2 hm2 hm3 c0 c1 c2 f1 HS HS2
        go_wp2
        rw [hE.out]
        refine bodyPost_ret (v := tokV { kind := 6, least := least, most := most, way := 3 }) (by simp [results, Try.results41, go_sem, tokV, m0, m1, m2, m3, m4, m5, m6, m7]) rfl ⟨rfl, ?_, ?_⟩
        · exact (HRR.out.other (by simp; omega) (by simp; omega) _).tok (by omega) (by omega) _ _ _ _ _ _ _ _
        · exact Mv.tok (Mv.setNew ((((Mv.refl b w).alloc _).alloc _).trans HMM.out) (by simp) _) (Nat.le_refl _) _ _ _ _ _ _ _ _
      | false =>
        have hE : Hid (repT 1 l i least most = ({ kind := 6, least := least, most := most, way := 1 }, i)) := by show _ = _; unfold repT; rw [if_pos rfl, if_neg (by rw [hs]; simp), if_neg (by rw [hs2]; simp)]
        have HS2 : Hid (∀ w1, RB w1 b x c l i 1 → _) := fun w1 h1 => skip_no w1 h1 43 hs2
        clear hs hs2 h2 h
        go_enter Try.func41, Try.ntmps41
        go_wp2_with fail
        simp only [tokO, World.size_alloc] at HS
        refine HS.out.mono ?_
        rintro e w1 ⟨rfl, hr, hm⟩
        go_wp2_with fail
        refine (HS2.out w1 hr).mono ?_
        rintro e w2 ⟨rfl, hr2, hm2⟩
        have hm3 := hm.trans hm2
        have hN : w2.heap[w.heap.size]? = some (tokO {}) := hm3.blockAt (at_old (at_new _ _)) (by omega)
        have hN1 : w2.heap[w.heap.size + 1]? = some (tokO { kind := 6, least := least, most := most, way := 1 }) := hm3.blockAt (at_new' (w.alloc (tokO {})) _ (by simp)) (by omega)
        obtain ⟨n0, n1, n2, n3, n4, n5, n6, n7⟩ := tok_cells hN1
        obtain ⟨m0, m1, m2, m3, m4, m5, m6, m7⟩ := tok_cells hN
        have fr0 := tok_free hN
        have HRR := hide hr2
        have HMM := hide hm3
        clear hr hm hr2 hm2 hm3 c0 c1 c2 f1 HS HS2
        go_wp2
        rw [hE.out]
        refine bodyPost_ret (v := tokV { kind := 6, least := least, most := most, way := 1 }) (by simp [results, Try.results41, go_sem, tokV, m0, m1, m2, m3, m4, m5, m6, m7]) rfl ⟨rfl, ?_, ?_⟩
        · exact HRR.out.tok (by omega) (by omega) _ _ _ _ _ _ _ _
        · exact Mv.tok ((((Mv.refl b w).alloc _).alloc _).trans HMM.out) (Nat.le_refl _) _ _ _ _ _ _ _ _
  · have hE : Hid (repT d l i least most = ({ kind := 6, least := least, most := most, way := 1 }, i)) := by show _ = _; unfold repT; rw [if_neg hd]
    have hdb : (d == 1) = false := by simpa using hd
    clear h
    go_enter Try.func41, Try.ntmps41
    go_wp2
    rw [hE.out]
    exact bodyPost_ret (v := tokV { kind := 6, least := least, most := most, way := 1 }) (by simp [results, Try.results41, go_sem, tokV]) rfl ⟨rfl, (HR.out.alloc _).alloc _, ((Mv.refl b w).alloc _).alloc _⟩

end Go.Proofs.Ytlapnhjkhpgklaa
