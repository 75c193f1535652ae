/- Answers with a token; the reference's Repeat. -/
import Derived.Test.YtlapnhjkhpgklaaRb4
import Derived.Test.YtlapnhjkhpgklaaTnext2
namespace Go.Proofs.Ytlapnhjkhpgklaa
open Go.RowKit
set_option linter.unusedVariables false

/-- a token stored into a block. -/
abbrev tset (W : World) (N : Nat) (t : Tok) : World := ((((((((W.setCell ⟨N, 0, none⟩ (.int .i64 t.kind)).setCell ⟨N, 1, none⟩ (.int .i64 t.num)).setCell ⟨N, 2, none⟩ (.string t.text)).setCell ⟨N, 3, none⟩ (.bool t.neg)).setCell ⟨N, 4, none⟩ (.int .i64 t.least)).setCell ⟨N, 5, none⟩ (.int .i64 t.most)).setCell ⟨N, 6, none⟩ (.int .i64 t.way)).setCell ⟨N, 7, none⟩ (.int .i64 t.fold))
theorem tset_below {B : Nat} {w W : World} (h : Below B w W) {k : Nat} (hk : B ≤ k) (t : Tok) : Below B w (tset W k t) := below_tok h hk _ _ _ _ _ _ _ _
theorem ret_t1 {f : Func} {tmps : Array Value} {W : World} {N s a : Nat} {t0 t : Tok} {k : Int} {R : Ending → World → Prop} (hres : f.results = #[ResultVar.cell s 24, ResultVar.tmp a]) (h6 : tmps[s]? = some (.pointer (some ⟨N, 0, none⟩))) (h7 : tmps[a]? = some (.int .i64 k)) (q0 : W.heap[N]? = some (tokO t0)) (hF : R (.returned (.tuple #[tokV t, .int .i64 k])) (tset W N t)) :
    bodyPost Try.prog f R Exit.ret { tmps := tmps, defers := [] } (tset W N t) := by
  obtain ⟨m0, m1, m2, m3, m4, m5, m6, m7⟩ := tok_cells (tok_set q0 t)
  refine bodyPost_ret (v := .tuple #[tokV t, .int .i64 k]) ?_ rfl hF
  simp [results, hres, go_sem, h6, h7, m0, m1, m2, m3, m4, m5, m6, m7, tokV]
theorem ret_t2 {f : Func} {tmps : Array Value} {W : World} {N s a b : Nat} {t0 t : Tok} {k z : Int} {R : Ending → World → Prop} (hres : f.results = #[ResultVar.cell s 24, ResultVar.tmp a, ResultVar.tmp b]) (h6 : tmps[s]? = some (.pointer (some ⟨N, 0, none⟩))) (h7 : tmps[a]? = some (.int .i64 k)) (h8 : tmps[b]? = some (.int .i64 z)) (q0 : W.heap[N]? = some (tokO t0)) (hF : R (.returned (.tuple #[tokV t, .int .i64 k, .int .i64 z])) (tset W N t)) :
    bodyPost Try.prog f R Exit.ret { tmps := tmps, defers := [] } (tset W N t) := by
  obtain ⟨m0, m1, m2, m3, m4, m5, m6, m7⟩ := tok_cells (tok_set q0 t)
  refine bodyPost_ret (v := .tuple #[tokV t, .int .i64 k, .int .i64 z]) ?_ rfl hF
  simp [results, hres, go_sem, h6, h7, h8, m0, m1, m2, m3, m4, m5, m6, m7, tokV]
theorem ret_t3 {f : Func} {tmps : Array Value} {W : World} {N s a b c : Nat} {t0 t : Tok} {k z : Int} {y : Bool} {R : Ending → World → Prop} (hres : f.results = #[ResultVar.cell s 24, ResultVar.tmp a, ResultVar.tmp b, ResultVar.tmp c]) (h6 : tmps[s]? = some (.pointer (some ⟨N, 0, none⟩))) (h7 : tmps[a]? = some (.int .i64 k)) (h8 : tmps[b]? = some (.bool y)) (h9 : tmps[c]? = some (.int .i64 z)) (q0 : W.heap[N]? = some (tokO t0)) (hF : R (.returned (.tuple #[tokV t, .int .i64 k, .bool y, .int .i64 z])) (tset W N t)) :
    bodyPost Try.prog f R Exit.ret { tmps := tmps, defers := [] } (tset W N t) := by
  obtain ⟨m0, m1, m2, m3, m4, m5, m6, m7⟩ := tok_cells (tok_set q0 t)
  refine bodyPost_ret (v := .tuple #[tokV t, .int .i64 k, .bool y, .int .i64 z]) ?_ rfl hF
  simp [results, hres, go_sem, h6, h7, h8, h9, m0, m1, m2, m3, m4, m5, m6, m7, tokV]
theorem below_at {w w' : World} (h : Below w.heap.size w w') {k : Nat} {o : Obj} (hk : w.heap[k]? = some o) : w'.heap[k]? = some o := by rw [h.block k (lt_of_block hk)]; exact hk
theorem drew_below {w w' : World} {q : Nat} (h : w' = w.drewN q) : Below w.heap.size w w' := by rw [h]; exact ⟨rfl, rfl, rfl, Nat.le_refl _, fun _ _ => rfl⟩
theorem two_below (w : World) (o o' : Obj) : Below w.heap.size w ((w.alloc o).alloc o') := ((Below.refl _ w).alloc (Nat.le_refl _) o).alloc (by simp) o'

theorem says1_b (x : Addr) (c : Nat) (l : List Int) (i : Nat) (u : UInt8) (z : Int) (hz : z = (u.toNat : Int)) (w : World) (h : ReadsI w x l) (hi : i ≤ 1000) (hl : l.length ≤ 1000) : Calls Try.prog 18 #[.slice (some x) l.length c, .int .i64 i, .string ⟨#[u]⟩] w fun e w' => e = .returned (.bool (says l i [z])) ∧ Below w.heap.size w w' :=
  (says1_any x c l i u w h hi hl).mono fun e w' ⟨h1, q, h2⟩ => ⟨by rw [hz]; exact h1, drew_below h2⟩
theorem says2_b (x : Addr) (c : Nat) (l : List Int) (i : Nat) (u v : UInt8) (z y : Int) (hz : z = (u.toNat : Int)) (hy : y = (v.toNat : Int)) (w : World) (h : ReadsI w x l) (hi : i ≤ 1000) (hl : l.length ≤ 1000) : Calls Try.prog 18 #[.slice (some x) l.length c, .int .i64 i, .string ⟨#[u, v]⟩] w fun e w' => e = .returned (.bool (says l i [z, y])) ∧ Below w.heap.size w w' :=
  (says2_any x c l i u v w h hi hl).mono fun e w' ⟨h1, q, h2⟩ => ⟨by rw [hz, hy]; exact h1, drew_below h2⟩

set_option maxHeartbeats 1000000 in
theorem repeatR_any (d least most : Int) (x : Addr) (c : Nat) (l : List Int) (i : Nat) (w : World) (h : ReadsI w x l) (hi : i ≤ 1000) (hl : l.length ≤ 1000) : Calls Try.prog 19 #[.int .i64 d, .slice (some x) l.length c, .int .i64 i, .int .i64 least, .int .i64 most] w fun e w' => e = .returned (.tuple #[tokV (repT d l i least most).1, .int .i64 ((repT d l i least most).2 : Nat)]) ∧ Below w.heap.size w w' := by
  have hb2 := two_below w (tokO {}) (tokO { kind := 6, least := least, most := most, way := 1 })
  have hr2 := h.belowB hb2
  by_cases hd : d = 1
  · subst hd
    have HS := hide (says1_b x c l i 63 63 rfl _ hr2 hi hl)
    have HS2 := hide (fun W (hW : Below w.heap.size w W) => says1_b x c l i 43 43 rfl W (h.belowB hW) hi hl)
    simp only [tokO] at HS
    have HB2 := hide hb2
    clear h hr2 hb2
    cases hs : says l i [63] with
    | true =>
      have hE : Hid (repT 1 l i least most = ({ kind := 6, least := least, most := most, way := 2 }, i + 1)) := by show _ = _; unfold repT; rw [if_pos rfl, if_pos hs]
      rw [hs] at HS
      clear hs HS2
      go_enter Try.func19, Try.ntmps19
      go_wp2_with fail
      refine HS.out.mono ?_
      rintro e w1 ⟨rfl, hb1⟩
      have HB := hide (HB2.out.trans (hb1.mono HB2.out.size))
      have hN0 : w1.heap[w.heap.size]? = some (tokO {}) := below_at hb1 (at_old (at_new _ _))
      have hM0 : w1.heap[w.heap.size + 1]? = some (tokO { kind := 6, least := least, most := most, way := 1 }) := below_at hb1 (at_new' (w.alloc (tokO {})) _ (by simp))
      have HN0 := hide hN0
      have HM0 := hide hM0
      clear hb1 hN0 hM0
      have hN := HN0.out
      have hM := HM0.out
      have HBe := HB
      obtain ⟨n0, n1, n2, n3, n4, n5, n6, n7⟩ := tok_cells hM
      obtain ⟨m0, m1, m2, m3, m4, m5, m6, m7⟩ := tok_cells hN
      have fr1 := tok_free hM
      have fr0 := tok_free hN
      have HN := hide hN
      clear hN hM HS HB2 HB HN0 HM0
      go_wp2
      refine ret_t1 (N := w.heap.size) (t0 := {}) (W := w1.setCell ⟨w.heap.size + 1, 6, none⟩ (.int .i64 2)) (t := { kind := 6, least := least, most := most, way := 2 }) (k := (i : Int) + 1) rfl rfl rfl (by rw [Below.heap_setCell _ _ _ _ (by simp)]; exact HN.out) ⟨by rw [hE.out]; rfl, tset_below (HBe.out.setCell (by simp) _) (Nat.le_refl _) _⟩
    | false =>
      cases hs2 : says l i [43] with
      | true =>
        have hE : Hid (repT 1 l i least most = ({ kind := 6, least := least, most := most, way := 3 }, i + 1)) := by show _ = _; unfold repT; rw [if_pos rfl, if_neg (by rw [hs]; simp), if_pos hs2]
        rw [hs] at HS
        rw [hs2] at HS2
        clear hs hs2
        go_enter Try.func19, Try.ntmps19
        go_wp2_with fail
        refine HS.out.mono ?_
        rintro e w1 ⟨rfl, hb1⟩
        have HB := hide (HB2.out.trans (hb1.mono HB2.out.size))
        have hN0 : w1.heap[w.heap.size]? = some (tokO {}) := below_at hb1 (at_old (at_new _ _))
        have hM0 : w1.heap[w.heap.size + 1]? = some (tokO { kind := 6, least := least, most := most, way := 1 }) := below_at hb1 (at_new' (w.alloc (tokO {})) _ (by simp))
        have HN0 := hide hN0
        have HM0 := hide hM0
        clear hb1 hN0 hM0
        go_wp2_with fail
        refine (HS2.out w1 HB.out).mono ?_
        rintro e w3 ⟨rfl, hb3⟩
        have HBe := hide (HB.out.trans (hb3.mono HB.out.size))
        have hN := below_at hb3 HN0.out
        have hM := below_at hb3 HM0.out
        clear hb3
        obtain ⟨n0, n1, n2, n3, n4, n5, n6, n7⟩ := tok_cells hM
        obtain ⟨m0, m1, m2, m3, m4, m5, m6, m7⟩ := tok_cells hN
        have fr1 := tok_free hM
        have fr0 := tok_free hN
        have HN := hide hN
        clear hN hM HS HB2 HB HN0 HM0
        go_wp2
        refine ret_t1 (N := w.heap.size) (t0 := {}) (W := w3.setCell ⟨w.heap.size + 1, 6, none⟩ (.int .i64 3)) (t := { kind := 6, least := least, most := most, way := 3 }) (k := (i : Int) + 1) rfl rfl rfl (by rw [Below.heap_setCell _ _ _ _ (by simp)]; exact HN.out) ⟨by rw [hE.out]; rfl, tset_below (HBe.out.setCell (by simp) _) (Nat.le_refl _) _⟩
      | false =>
        have hE : Hid (repT 1 l i least most = ({ kind := 6, least := least, most := most, way := 1 }, i)) := by show _ = _; unfold repT; rw [if_pos rfl, if_neg (by rw [hs]; simp), if_neg (by rw [hs2]; simp)]
        rw [hs] at HS
        rw [hs2] at HS2
        clear hs hs2
        go_enter Try.func19, Try.ntmps19
        go_wp2_with fail
        refine HS.out.mono ?_
        rintro e w1 ⟨rfl, hb1⟩
        have HB := hide (HB2.out.trans (hb1.mono HB2.out.size))
        have hN0 : w1.heap[w.heap.size]? = some (tokO {}) := below_at hb1 (at_old (at_new _ _))
        have hM0 : w1.heap[w.heap.size + 1]? = some (tokO { kind := 6, least := least, most := most, way := 1 }) := below_at hb1 (at_new' (w.alloc (tokO {})) _ (by simp))
        have HN0 := hide hN0
        have HM0 := hide hM0
        clear hb1 hN0 hM0
        go_wp2_with fail
        refine (HS2.out w1 HB.out).mono ?_
        rintro e w3 ⟨rfl, hb3⟩
        have HBe := hide (HB.out.trans (hb3.mono HB.out.size))
        have hN := below_at hb3 HN0.out
        have hM := below_at hb3 HM0.out
        clear hb3
        obtain ⟨n0, n1, n2, n3, n4, n5, n6, n7⟩ := tok_cells hM
        obtain ⟨m0, m1, m2, m3, m4, m5, m6, m7⟩ := tok_cells hN
        have fr1 := tok_free hM
        have fr0 := tok_free hN
        have HN := hide hN
        clear hN hM HS HB2 HB HN0 HM0
        go_wp2
        refine ret_t1 (N := w.heap.size) (t0 := {}) (W := w3) (t := { kind := 6, least := least, most := most, way := 1 }) (k := (i : Int)) rfl rfl rfl HN.out ⟨by rw [hE.out], tset_below HBe.out (Nat.le_refl _) _⟩
  · have hE : Hid (repT d l i least most = ({ kind := 6, least := least, most := most, way := 1 }, i)) := by show _ = _; unfold repT; rw [if_neg hd]
    have hdb : (d == 1) = false := by simpa using hd
    have HBe := hide hb2
    clear h hr2 hb2 hd
    go_enter Try.func19, Try.ntmps19
    go_wp2
    exact bodyPost_ret (v := .tuple #[tokV { kind := 6, least := least, most := most, way := 1 }, .int .i64 i]) (by simp [results, Try.results19, go_sem, tokV]) rfl ⟨by rw [hE.out], ((Below.refl _ w).alloc (Nat.le_refl _) _).alloc (by simp) _⟩

end Go.Proofs.Ytlapnhjkhpgklaa
