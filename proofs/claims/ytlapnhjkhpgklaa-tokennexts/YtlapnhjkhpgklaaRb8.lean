/- The reference's Opened. -/
import Derived.Test.YtlapnhjkhpgklaaRb7
import Derived.Deep.Cut
import Derived.BigRegion
namespace Go.Proofs.Ytlapnhjkhpgklaa
open Go.RowKit
set_option linter.unusedVariables false

theorem ret_t2d {f : Func} {tmps : Array Value} {W : World} {N s a b : Nat} {t0 t : Tok} {k z : Int} {R : Ending → World → Prop} (hres : f.results = #[ResultVar.cell s 24, ResultVar.tmp a, ResultVar.tmp b]) (h6 : tmps[s]? = some (.pointer (some ⟨N, 0, none⟩))) (h7 : tmps[a]? = some (.int .i64 k)) (h8 : tmps[b]? = some (.int .i64 z)) (q0 : W.heap[N]? = some (tokO t0)) (hF : R (.returned (.tuple #[tokV t, .int .i64 k, .int .i64 z])) (tset W N t).drew) :
    bodyPost Try.prog f R Exit.ret { tmps := tmps, defers := [] } (tset W N t).drew := by
  have hd : (tset W N t).drew.heap[N]? = some (tokO t) := by rw [drew_heap]; exact tok_set q0 t
  obtain ⟨m0, m1, m2, m3, m4, m5, m6, m7⟩ := tok_cells hd
  refine bodyPost_ret (v := .tuple #[tokV t, .int .i64 k, .int .i64 z]) ?_ rfl hF
  simp [results, hres, go_sem, h6, h7, h8, m0, m1, m2, m3, m4, m5, m6, m7, tokV]
theorem below_drewT {B : Nat} {w w' : World} (h : Below B w w') : Below B w w'.drew := ⟨h.1, h.2, h.3, h.4, h.5⟩
theorem below_cellT {w w' : World} (hb : Below w.heap.size w w') {a : Addr} {v : Value} (h : w.cell? a = some v) : w'.cell? a = some v := by
  have hlt : a.block < w.heap.size := World.block_lt_of_cell? _ _ h
  rw [← h]
  unfold World.cell?
  rw [hb.block a.block hlt]
theorem below_atT {w w' : World} (h : Below w.heap.size w w') {k : Nat} {o : Obj} (hk : w.heap[k]? = some o) : w'.heap[k]? = some o := below_at h hk
theorem World.cell?_alloc1 (w : World) (o : Obj) (cs : Array Value) (j : Nat) (v : Value) {t : TypeId} {fr : Nat × Nat} (h : cs[j]? = some v) : ((w.alloc o).alloc (.cells cs t fr)).cell? ⟨w.heap.size + 1, j, none⟩ = some v := by
  have : ((w.alloc o).alloc (.cells cs t fr)).heap[w.heap.size + 1]? = some (.cells cs t fr) := at_new' _ _ (by simp)
  unfold World.cell?
  simp only [this]
  exact h
theorem World.cell?_alloc2 (w : World) (cs : Array Value) (o : Obj) (j : Nat) (v : Value) {t : TypeId} {fr : Nat × Nat} (h : cs[j]? = some v) : ((w.alloc (.cells cs t fr)).alloc o).cell? ⟨w.heap.size, j, none⟩ = some v := by
  have : ((w.alloc (.cells cs t fr)).alloc o).heap[w.heap.size]? = some (.cells cs t fr) := at_old (at_new _ _)
  unfold World.cell?
  simp only [this]
  exact h

set_option maxRecDepth 100000 in
set_option maxHeartbeats 20000000 in
theorem openedR_any (d : Int) (x : Addr) (c : Nat) (l : List Int) (i : Nat) (w : World) (h : ReadsI w x l) (hi : i ≤ l.length) (hl : l.length ≤ 300) : Calls Try.prog 21 #[.int .i64 d, .slice (some x) l.length c, .int .i64 i] w fun e w' => NextE (openS d l i) w e w' := by
  have hb2 := two_below w (tokO {}) (tokO { kind := 7, num := 11 })
  have HR := hide h
  by_cases hd : d = 1
  · subst hd
    have HS63 := hide (says1_b x c l i 63 63 rfl _ (h.belowB hb2) (by omega) (by omega))
    simp only [tokO] at HS63
    have HNm := hide (fun W (hW : Below w.heap.size w W) (j2 : Nat) (hj : j2 ≤ l.length) => nameAt_any x c l j2 W (h.belowB hW) hj (by omega))
    have HSs := hide (fun W (hW : Below w.heap.size w W) (j2 : Nat) (hj : j2 ≤ 900) (u : UInt8) (z : Int) (hz : z = (u.toNat : Int)) => says1_b x c l j2 u z hz W (h.belowB hW) (by omega) (by omega))
    have HSt := hide (fun W (hW : Below w.heap.size w W) (j2 : Nat) (hj : j2 ≤ 900) (u v : UInt8) (z y : Int) (hz : z = (u.toNat : Int)) (hy : y = (v.toNat : Int)) => says2_b x c l j2 u v z y hz hy W (h.belowB hW) (by omega) (by omega))
    have hln : ∀ j2 z, says l j2 [z] = true → j2 + 1 ≤ l.length := fun j2 z hs => by have := says_len hs (by simp); simpa using this
    have HLn := hide hln
    obtain ⟨n, hn⟩ : ∃ n, n = l.length := ⟨_, rfl⟩
    have HN := hide hn
    rw [← hn] at HS63 HNm HSs HSt hl hi ⊢
    have HB2 := hide hb2
    clear h hn hb2 hln
    go_enter Try.func21, Try.ntmps21
    go_wp2_with fail
    refine HS63.out.mono ?_
    rintro e w1 ⟨rfl, hb1⟩
    have HB1 := hide (HB2.out.trans (hb1.mono HB2.out.size))
    have HN1 := hide (below_at hb1 (show ((w.alloc (tokO {})).alloc (tokO { kind := 7, num := 11 })).heap[w.heap.size]? = some (tokO {}) from at_old (at_new _ _)))
    have HM1 := hide (below_at hb1 (show ((w.alloc (tokO {})).alloc (tokO { kind := 7, num := 11 })).heap[w.heap.size + 1]? = some (tokO { kind := 7, num := 11 }) from at_new' (w.alloc (tokO {})) _ (by simp)))
    have HW1 : Hid (w.heap.size + 2 ≤ w1.heap.size) := by have := lt_of_block HM1.out; show _ ≤ _; omega
    clear hb1 HB2 HS63
    cases hq : says l i [63] with
    | false =>
      have hE : Hid (openS 1 l i = .ok (openT 11, i)) := by show _ = _; unfold openS; rw [if_neg (by simp), if_pos hq]
      clear hq
      obtain ⟨n0, n1, n2, n3, n4, n5, n6, n7⟩ := tok_cells HM1.out
      obtain ⟨m0, m1, m2, m3, m4, m5, m6, m7⟩ := tok_cells HN1.out
      have fr0 := tok_free HN1.out
      go_wp2
      exact ret_t2 (N := w.heap.size) (t0 := {}) (W := w1) (t := openT 11) (k := (i : Int)) (z := 0) rfl rfl rfl rfl HN1.out (.inl ⟨_, _, hE.out, rfl, tset_below HB1.out (Nat.le_refl _) _⟩)
    | true =>
      have HQ := hide hq
      have hi1 : i + 1 ≤ n := by have := HLn.out i 63 hq; have := HN.out; omega
      clear hq
      obtain ⟨k1, hk1⟩ : ∃ k1, k1 = i + 1 := ⟨_, rfl⟩
      have HK1 := hide hk1
      have hk1i : ((i : Int) + 1) = (k1 : Int) := by omega
      have hk1n : k1 ≤ n := by omega
      clear hk1 hi1
      go_wp2
      obtain ⟨w4, hw4⟩ : ∃ w4, w4 = (w1.alloc (.cells #[.string ⟨#[58]⟩, .string ⟨#[62]⟩, .string ⟨#[61]⟩, .string ⟨#[33]⟩, .string ⟨#[60, 61]⟩, .string ⟨#[60, 33]⟩] 9)).alloc (.cells #[.int .i64 1, .int .i64 13, .int .i64 14, .int .i64 15, .int .i64 16, .int .i64 17] 3) := ⟨_, rfl⟩
      rw [← hw4]
      have HW4 := hide hw4
      have HB4 : Hid (Below w.heap.size w w4) := by show Below _ _ _; rw [hw4]; exact (HB1.out.alloc (by have := HW1.out; omega) _).alloc (by have := HW1.out; simp; omega) _
      have HN4 : Hid (w4.heap[w.heap.size]? = some (tokO {})) := by show _ = _; rw [hw4]; exact at_old (at_old HN1.out)
      have HM4 : Hid (w4.heap[w.heap.size + 1]? = some (tokO { kind := 7, num := 11 })) := by show _ = _; rw [hw4]; exact at_old (at_old HM1.out)
      clear hw4 HB1 HN1 HM1
      go_loopw [12] (fun s wr => ∃ r : Nat, r ≤ 6 ∧ s = .int .i64 r ∧ noS l k1 r ∧ Below w4.heap.size w4 wr) (fun s _ => 6 - (intOf s).toNat)
      case atStart => exact ⟨0, by omega, rfl, noS_zero _ _, Below.refl _ _⟩
      case round =>
        obtain ⟨r, hr, rfl, hs, hb⟩ := hrel
        have HS := hide hs
        clear hs
        match r, hr with
        | 0, _ =>
          have hc : wr.cell? ⟨w1.heap.size, 0, none⟩ = some (.string ⟨#[58]⟩) := below_cellT hb (by rw [HW4.out]; exact World.cell?_alloc2 w1 _ _ 0 _ rfl)
          have HSg := hide (says1_b x c l k1 58 58 rfl wr (HR.out.belowB (HB4.out.trans (hb.mono HB4.out.size))) (by omega) (by have := HN.out; omega))
          rw [← HN.out] at HSg
          have hbb := hide hb
          clear hb
          go_wp2_with fail
          refine HSg.out.mono ?_
          rintro e w5 ⟨rfl, hb5⟩
          have HB5 := hide (hbb.out.trans (hb5.mono hbb.out.size))
          clear hb5 hbb HSg hc
          cases hy : says l k1 [58] with
          | false =>
            have hnx := hide (noS_next HS.out (by decide : 0 < sgn.length) hy)
            clear hy
            go_wp2
            go_roundw
            case rel => exact ⟨1, by omega, rfl, hnx.out, HB5.out⟩
            case measure => simp [intOf]
          | true =>
            have hE : Hid (openS 1 l i = .ok (openT 1, k1 + 1)) := by
              have hk := HK1.out
              subst hk
              exact open_0 HQ.out HS.out hy
            clear hy
            obtain ⟨w6, hw6⟩ : ∃ w6, w6 = w5 := ⟨_, rfl⟩
            subst hw6
            have HB6 := hide (HB4.out.trans (HB5.out.mono HB4.out.size))
            have hN := below_atT HB5.out HN4.out
            have hM := below_atT HB5.out HM4.out
            have hc : w6.cell? ⟨w1.heap.size, 0, none⟩ = some (.string ⟨#[58]⟩) := below_cellT HB5.out (by rw [HW4.out]; exact World.cell?_alloc2 w1 _ _ 0 _ rfl)
            have hk : w6.cell? ⟨w1.heap.size + 1, 0, none⟩ = some (.int .i64 1) := below_cellT HB5.out (by rw [HW4.out]; exact World.cell?_alloc1 w1 _ _ 0 _ rfl)
            obtain ⟨n0, n1, n2, n3, n4, n5, n6, n7⟩ := tok_cells hM
            obtain ⟨m0, m1, m2, m3, m4, m5, m6, m7⟩ := tok_cells hN
            have fr1 := tok_free hM
            have fr0 := tok_free hN
            have HNn := hide hN
            have hne1 : w1.heap.size ≠ w.heap.size + 1 := by have := HW1.out; omega
            have hne2 : w1.heap.size ≠ w.heap.size := by have := HW1.out; omega
            clear hN hM HB5
            obtain ⟨S1, hS1⟩ : ∃ S1, S1 = w1.heap.size := ⟨_, rfl⟩
            rw [← hS1] at hc hk hne1 hne2 ⊢
            clear hS1
            go_wp2
            go_region
            go_wp2
            exact ret_t2d (N := w.heap.size) (t0 := {}) (W := w6.setCell ⟨w.heap.size + 1, 1, none⟩ (.int .i64 1)) (t := openT 1) (k := (k1 : Int) + 1) (z := 0) rfl rfl rfl rfl (by rw [Below.heap_setCell _ _ _ _ (by simp)]; exact HNn.out) (.inl ⟨_, _, hE.out, rfl, below_drewT (tset_below (HB6.out.setCell (by simp) _) (Nat.le_refl _) _)⟩)
        | 1, _ =>
          have hc : wr.cell? ⟨w1.heap.size, 1, none⟩ = some (.string ⟨#[62]⟩) := below_cellT hb (by rw [HW4.out]; exact World.cell?_alloc2 w1 _ _ 1 _ rfl)
          have HSg := hide (says1_b x c l k1 62 62 rfl wr (HR.out.belowB (HB4.out.trans (hb.mono HB4.out.size))) (by omega) (by have := HN.out; omega))
          rw [← HN.out] at HSg
          have hbb := hide hb
          clear hb
          go_wp2_with fail
          refine HSg.out.mono ?_
          rintro e w5 ⟨rfl, hb5⟩
          have HB5 := hide (hbb.out.trans (hb5.mono hbb.out.size))
          clear hb5 hbb HSg hc
          cases hy : says l k1 [62] with
          | false =>
            have hnx := hide (noS_next HS.out (by decide : 1 < sgn.length) hy)
            clear hy
            go_wp2
            go_roundw
            case rel => exact ⟨2, by omega, rfl, hnx.out, HB5.out⟩
            case measure => simp [intOf]
          | true =>
            have hE : Hid (openS 1 l i = .ok (openT 13, k1 + 1)) := by
              have hk := HK1.out
              subst hk
              exact open_1 HQ.out HS.out hy
            clear hy
            obtain ⟨w6, hw6⟩ : ∃ w6, w6 = w5 := ⟨_, rfl⟩
            subst hw6
            have HB6 := hide (HB4.out.trans (HB5.out.mono HB4.out.size))
            have hN := below_atT HB5.out HN4.out
            have hM := below_atT HB5.out HM4.out
            have hc : w6.cell? ⟨w1.heap.size, 1, none⟩ = some (.string ⟨#[62]⟩) := below_cellT HB5.out (by rw [HW4.out]; exact World.cell?_alloc2 w1 _ _ 1 _ rfl)
            have hk : w6.cell? ⟨w1.heap.size + 1, 1, none⟩ = some (.int .i64 13) := below_cellT HB5.out (by rw [HW4.out]; exact World.cell?_alloc1 w1 _ _ 1 _ rfl)
            obtain ⟨n0, n1, n2, n3, n4, n5, n6, n7⟩ := tok_cells hM
            obtain ⟨m0, m1, m2, m3, m4, m5, m6, m7⟩ := tok_cells hN
            have fr1 := tok_free hM
            have fr0 := tok_free hN
            have HNn := hide hN
            have hne1 : w1.heap.size ≠ w.heap.size + 1 := by have := HW1.out; omega
            have hne2 : w1.heap.size ≠ w.heap.size := by have := HW1.out; omega
            clear hN hM HB5
            obtain ⟨S1, hS1⟩ : ∃ S1, S1 = w1.heap.size := ⟨_, rfl⟩
            rw [← hS1] at hc hk hne1 hne2 ⊢
            clear hS1
            go_wp2
            go_region
            go_wp2
            exact ret_t2d (N := w.heap.size) (t0 := {}) (W := w6.setCell ⟨w.heap.size + 1, 1, none⟩ (.int .i64 13)) (t := openT 13) (k := (k1 : Int) + 1) (z := 0) rfl rfl rfl rfl (by rw [Below.heap_setCell _ _ _ _ (by simp)]; exact HNn.out) (.inl ⟨_, _, hE.out, rfl, below_drewT (tset_below (HB6.out.setCell (by simp) _) (Nat.le_refl _) _)⟩)
        | 2, _ =>
          have hc : wr.cell? ⟨w1.heap.size, 2, none⟩ = some (.string ⟨#[61]⟩) := below_cellT hb (by rw [HW4.out]; exact World.cell?_alloc2 w1 _ _ 2 _ rfl)
          have HSg := hide (says1_b x c l k1 61 61 rfl wr (HR.out.belowB (HB4.out.trans (hb.mono HB4.out.size))) (by omega) (by have := HN.out; omega))
          rw [← HN.out] at HSg
          have hbb := hide hb
          clear hb
          go_wp2_with fail
          refine HSg.out.mono ?_
          rintro e w5 ⟨rfl, hb5⟩
          have HB5 := hide (hbb.out.trans (hb5.mono hbb.out.size))
          clear hb5 hbb HSg hc
          cases hy : says l k1 [61] with
          | false =>
            have hnx := hide (noS_next HS.out (by decide : 2 < sgn.length) hy)
            clear hy
            go_wp2
            go_roundw
            case rel => exact ⟨3, by omega, rfl, hnx.out, HB5.out⟩
            case measure => simp [intOf]
          | true =>
            have hE : Hid (openS 1 l i = .ok (openT 14, k1 + 1)) := by
              have hk := HK1.out
              subst hk
              exact open_2 HQ.out HS.out hy
            clear hy
            obtain ⟨w6, hw6⟩ : ∃ w6, w6 = w5 := ⟨_, rfl⟩
            subst hw6
            have HB6 := hide (HB4.out.trans (HB5.out.mono HB4.out.size))
            have hN := below_atT HB5.out HN4.out
            have hM := below_atT HB5.out HM4.out
            have hc : w6.cell? ⟨w1.heap.size, 2, none⟩ = some (.string ⟨#[61]⟩) := below_cellT HB5.out (by rw [HW4.out]; exact World.cell?_alloc2 w1 _ _ 2 _ rfl)
            have hk : w6.cell? ⟨w1.heap.size + 1, 2, none⟩ = some (.int .i64 14) := below_cellT HB5.out (by rw [HW4.out]; exact World.cell?_alloc1 w1 _ _ 2 _ rfl)
            obtain ⟨n0, n1, n2, n3, n4, n5, n6, n7⟩ := tok_cells hM
            obtain ⟨m0, m1, m2, m3, m4, m5, m6, m7⟩ := tok_cells hN
            have fr1 := tok_free hM
            have fr0 := tok_free hN
            have HNn := hide hN
            have hne1 : w1.heap.size ≠ w.heap.size + 1 := by have := HW1.out; omega
            have hne2 : w1.heap.size ≠ w.heap.size := by have := HW1.out; omega
            clear hN hM HB5
            obtain ⟨S1, hS1⟩ : ∃ S1, S1 = w1.heap.size := ⟨_, rfl⟩
            rw [← hS1] at hc hk hne1 hne2 ⊢
            clear hS1
            go_wp2
            go_region
            go_wp2
            exact ret_t2d (N := w.heap.size) (t0 := {}) (W := w6.setCell ⟨w.heap.size + 1, 1, none⟩ (.int .i64 14)) (t := openT 14) (k := (k1 : Int) + 1) (z := 0) rfl rfl rfl rfl (by rw [Below.heap_setCell _ _ _ _ (by simp)]; exact HNn.out) (.inl ⟨_, _, hE.out, rfl, below_drewT (tset_below (HB6.out.setCell (by simp) _) (Nat.le_refl _) _)⟩)
        | 3, _ =>
          have hc : wr.cell? ⟨w1.heap.size, 3, none⟩ = some (.string ⟨#[33]⟩) := below_cellT hb (by rw [HW4.out]; exact World.cell?_alloc2 w1 _ _ 3 _ rfl)
          have HSg := hide (says1_b x c l k1 33 33 rfl wr (HR.out.belowB (HB4.out.trans (hb.mono HB4.out.size))) (by omega) (by have := HN.out; omega))
          rw [← HN.out] at HSg
          have hbb := hide hb
          clear hb
          go_wp2_with fail
          refine HSg.out.mono ?_
          rintro e w5 ⟨rfl, hb5⟩
          have HB5 := hide (hbb.out.trans (hb5.mono hbb.out.size))
          clear hb5 hbb HSg hc
          cases hy : says l k1 [33] with
          | false =>
            have hnx := hide (noS_next HS.out (by decide : 3 < sgn.length) hy)
            clear hy
            go_wp2
            go_roundw
            case rel => exact ⟨4, by omega, rfl, hnx.out, HB5.out⟩
            case measure => simp [intOf]
          | true =>
            have hE : Hid (openS 1 l i = .ok (openT 15, k1 + 1)) := by
              have hk := HK1.out
              subst hk
              exact open_3 HQ.out HS.out hy
            clear hy
            obtain ⟨w6, hw6⟩ : ∃ w6, w6 = w5 := ⟨_, rfl⟩
            subst hw6
            have HB6 := hide (HB4.out.trans (HB5.out.mono HB4.out.size))
            have hN := below_atT HB5.out HN4.out
            have hM := below_atT HB5.out HM4.out
            have hc : w6.cell? ⟨w1.heap.size, 3, none⟩ = some (.string ⟨#[33]⟩) := below_cellT HB5.out (by rw [HW4.out]; exact World.cell?_alloc2 w1 _ _ 3 _ rfl)
            have hk : w6.cell? ⟨w1.heap.size + 1, 3, none⟩ = some (.int .i64 15) := below_cellT HB5.out (by rw [HW4.out]; exact World.cell?_alloc1 w1 _ _ 3 _ rfl)
            obtain ⟨n0, n1, n2, n3, n4, n5, n6, n7⟩ := tok_cells hM
            obtain ⟨m0, m1, m2, m3, m4, m5, m6, m7⟩ := tok_cells hN
            have fr1 := tok_free hM
            have fr0 := tok_free hN
            have HNn := hide hN
            have hne1 : w1.heap.size ≠ w.heap.size + 1 := by have := HW1.out; omega
            have hne2 : w1.heap.size ≠ w.heap.size := by have := HW1.out; omega
            clear hN hM HB5
            obtain ⟨S1, hS1⟩ : ∃ S1, S1 = w1.heap.size := ⟨_, rfl⟩
            rw [← hS1] at hc hk hne1 hne2 ⊢
            clear hS1
            go_wp2
            go_region
            go_wp2
            exact ret_t2d (N := w.heap.size) (t0 := {}) (W := w6.setCell ⟨w.heap.size + 1, 1, none⟩ (.int .i64 15)) (t := openT 15) (k := (k1 : Int) + 1) (z := 0) rfl rfl rfl rfl (by rw [Below.heap_setCell _ _ _ _ (by simp)]; exact HNn.out) (.inl ⟨_, _, hE.out, rfl, below_drewT (tset_below (HB6.out.setCell (by simp) _) (Nat.le_refl _) _)⟩)
        | 4, _ =>
          have hc : wr.cell? ⟨w1.heap.size, 4, none⟩ = some (.string ⟨#[60, 61]⟩) := below_cellT hb (by rw [HW4.out]; exact World.cell?_alloc2 w1 _ _ 4 _ rfl)
          have HSg := hide (says2_b x c l k1 60 61 60 61 rfl rfl wr (HR.out.belowB (HB4.out.trans (hb.mono HB4.out.size))) (by omega) (by have := HN.out; omega))
          rw [← HN.out] at HSg
          have hbb := hide hb
          clear hb
          go_wp2_with fail
          refine HSg.out.mono ?_
          rintro e w5 ⟨rfl, hb5⟩
          have HB5 := hide (hbb.out.trans (hb5.mono hbb.out.size))
          clear hb5 hbb HSg hc
          cases hy : says l k1 [60, 61] with
          | false =>
            have hnx := hide (noS_next HS.out (by decide : 4 < sgn.length) hy)
            clear hy
            go_wp2
            go_roundw
            case rel => exact ⟨5, by omega, rfl, hnx.out, HB5.out⟩
            case measure => simp [intOf]
          | true =>
            have hE : Hid (openS 1 l i = .ok (openT 16, k1 + 2)) := by
              have hk := HK1.out
              subst hk
              exact open_4 HQ.out HS.out hy
            clear hy
            obtain ⟨w6, hw6⟩ : ∃ w6, w6 = w5 := ⟨_, rfl⟩
            subst hw6
            have HB6 := hide (HB4.out.trans (HB5.out.mono HB4.out.size))
            have hN := below_atT HB5.out HN4.out
            have hM := below_atT HB5.out HM4.out
            have hc : w6.cell? ⟨w1.heap.size, 4, none⟩ = some (.string ⟨#[60, 61]⟩) := below_cellT HB5.out (by rw [HW4.out]; exact World.cell?_alloc2 w1 _ _ 4 _ rfl)
            have hk : w6.cell? ⟨w1.heap.size + 1, 4, none⟩ = some (.int .i64 16) := below_cellT HB5.out (by rw [HW4.out]; exact World.cell?_alloc1 w1 _ _ 4 _ rfl)
            obtain ⟨n0, n1, n2, n3, n4, n5, n6, n7⟩ := tok_cells hM
            obtain ⟨m0, m1, m2, m3, m4, m5, m6, m7⟩ := tok_cells hN
            have fr1 := tok_free hM
            have fr0 := tok_free hN
            have HNn := hide hN
            have hne1 : w1.heap.size ≠ w.heap.size + 1 := by have := HW1.out; omega
            have hne2 : w1.heap.size ≠ w.heap.size := by have := HW1.out; omega
            clear hN hM HB5
            obtain ⟨S1, hS1⟩ : ∃ S1, S1 = w1.heap.size := ⟨_, rfl⟩
            rw [← hS1] at hc hk hne1 hne2 ⊢
            clear hS1
            go_wp2
            go_region
            go_wp2
            exact ret_t2d (N := w.heap.size) (t0 := {}) (W := w6.setCell ⟨w.heap.size + 1, 1, none⟩ (.int .i64 16)) (t := openT 16) (k := (k1 : Int) + 2) (z := 0) rfl rfl rfl rfl (by rw [Below.heap_setCell _ _ _ _ (by simp)]; exact HNn.out) (.inl ⟨_, _, hE.out, rfl, below_drewT (tset_below (HB6.out.setCell (by simp) _) (Nat.le_refl _) _)⟩)
        | 5, _ =>
          have hc : wr.cell? ⟨w1.heap.size, 5, none⟩ = some (.string ⟨#[60, 33]⟩) := below_cellT hb (by rw [HW4.out]; exact World.cell?_alloc2 w1 _ _ 5 _ rfl)
          have HSg := hide (says2_b x c l k1 60 33 60 33 rfl rfl wr (HR.out.belowB (HB4.out.trans (hb.mono HB4.out.size))) (by omega) (by have := HN.out; omega))
          rw [← HN.out] at HSg
          have hbb := hide hb
          clear hb
          go_wp2_with fail
          refine HSg.out.mono ?_
          rintro e w5 ⟨rfl, hb5⟩
          have HB5 := hide (hbb.out.trans (hb5.mono hbb.out.size))
          clear hb5 hbb HSg hc
          cases hy : says l k1 [60, 33] with
          | false =>
            have hnx := hide (noS_next HS.out (by decide : 5 < sgn.length) hy)
            clear hy
            go_wp2
            go_roundw
            case rel => exact ⟨6, by omega, rfl, hnx.out, HB5.out⟩
            case measure => simp [intOf]
          | true =>
            have hE : Hid (openS 1 l i = .ok (openT 17, k1 + 2)) := by
              have hk := HK1.out
              subst hk
              exact open_5 HQ.out HS.out hy
            clear hy
            obtain ⟨w6, hw6⟩ : ∃ w6, w6 = w5 := ⟨_, rfl⟩
            subst hw6
            have HB6 := hide (HB4.out.trans (HB5.out.mono HB4.out.size))
            have hN := below_atT HB5.out HN4.out
            have hM := below_atT HB5.out HM4.out
            have hc : w6.cell? ⟨w1.heap.size, 5, none⟩ = some (.string ⟨#[60, 33]⟩) := below_cellT HB5.out (by rw [HW4.out]; exact World.cell?_alloc2 w1 _ _ 5 _ rfl)
            have hk : w6.cell? ⟨w1.heap.size + 1, 5, none⟩ = some (.int .i64 17) := below_cellT HB5.out (by rw [HW4.out]; exact World.cell?_alloc1 w1 _ _ 5 _ rfl)
            obtain ⟨n0, n1, n2, n3, n4, n5, n6, n7⟩ := tok_cells hM
            obtain ⟨m0, m1, m2, m3, m4, m5, m6, m7⟩ := tok_cells hN
            have fr1 := tok_free hM
            have fr0 := tok_free hN
            have HNn := hide hN
            have hne1 : w1.heap.size ≠ w.heap.size + 1 := by have := HW1.out; omega
            have hne2 : w1.heap.size ≠ w.heap.size := by have := HW1.out; omega
            clear hN hM HB5
            obtain ⟨S1, hS1⟩ : ∃ S1, S1 = w1.heap.size := ⟨_, rfl⟩
            rw [← hS1] at hc hk hne1 hne2 ⊢
            clear hS1
            go_wp2
            go_region
            go_wp2
            exact ret_t2d (N := w.heap.size) (t0 := {}) (W := w6.setCell ⟨w.heap.size + 1, 1, none⟩ (.int .i64 17)) (t := openT 17) (k := (k1 : Int) + 2) (z := 0) rfl rfl rfl rfl (by rw [Below.heap_setCell _ _ _ _ (by simp)]; exact HNn.out) (.inl ⟨_, _, hE.out, rfl, below_drewT (tset_below (HB6.out.setCell (by simp) _) (Nat.le_refl _) _)⟩)
        | 6, _ =>
          have hb5 := hb
          clear hb
          obtain ⟨w5, hw5⟩ : ∃ w5, w5 = wr := ⟨_, rfl⟩
          subst hw5
          have HB5 := hide (HB4.out.trans (hb5.mono HB4.out.size))
          have HN5 := hide (below_atT hb5 HN4.out)
          have HM5 := hide (below_atT hb5 HM4.out)
          clear hb5 HB4 HN4 HM4
          go_wp2_with fail
          refine (HSs.out w5 HB5.out k1 (by omega) 60 60 rfl).mono ?_
          rintro e w6 ⟨rfl, hb6⟩
          have HB6 := hide (HB5.out.trans (hb6.mono HB5.out.size))
          have HN6 := hide (below_atT hb6 HN5.out)
          have HM6 := hide (below_atT hb6 HM5.out)
          clear hb6 HB5 HN5 HM5
          cases h60 : says l k1 [60] with
          | true =>
            have hk2 : k1 + 1 ≤ n := by have := HLn.out k1 60 h60; have := HN.out; omega
            have HNa := hide (HNm.out w6 HB6.out (k1 + 1) hk2)
            rw [show (((k1 + 1 : Nat)) : Int) = (k1 : Int) + 1 from by omega] at HNa
            have hE0 : Hid (openS 1 l i = if nameL l (k1 + 1) = [] then .error 1 else if says l (k1 + 1 + (nameL l (k1 + 1)).length) [62] then .ok ({ kind := 7, num := 11, text := byteA (nameL l (k1 + 1)) }, k1 + 1 + (nameL l (k1 + 1)).length + 1) else .error 1) := by
              have hk := HK1.out
              subst hk
              exact open_name HQ.out HS.out h60
            have hnl := (name_len l (k1 + 1) (by have := HN.out; omega)).1
            rw [← HN.out] at hnl
            clear h60
            obtain ⟨nm, hnm⟩ : ∃ nm, nm = nameL l (k1 + 1) := ⟨_, rfl⟩
            rw [← hnm] at HNa hE0 hnl
            obtain ⟨j3, hj3⟩ : ∃ j3, j3 = k1 + 1 + nm.length := ⟨_, rfl⟩
            rw [← hj3] at HNa hE0 hnl
            obtain ⟨S, hS⟩ : ∃ S, S = byteA nm := ⟨_, rfl⟩
            rw [← hS] at HNa hE0
            have HSS := hide hS
            clear hnm hj3 hS
            go_wp2_with fail
            refine HNa.out.mono ?_
            rintro e w7 ⟨rfl, hb7⟩
            have HB7 := hide (HB6.out.trans (hb7.mono HB6.out.size))
            have HN7 := hide (below_atT hb7 HN6.out)
            have HM7 := hide (below_atT hb7 HM6.out)
            clear hb7 HB6 HN6 HM6
            by_cases hz : nm = []
            · have hE : Hid (openS 1 l i = .error 1) := by show _ = _; rw [hE0.out, if_pos hz]
              have hSe : S = ⟨#[]⟩ := by rw [HSS.out, hz]; rfl
              rw [hSe]
              clear hSe hz
              obtain ⟨n0, n1, n2, n3, n4, n5, n6, n7⟩ := tok_cells HM7.out
              obtain ⟨m0, m1, m2, m3, m4, m5, m6, m7⟩ := tok_cells HN7.out
              have fr1 := tok_free HM7.out
              have fr0 := tok_free HN7.out
              go_wp2
              exact ret_t2 (N := w.heap.size) (t0 := {}) (W := w7) (t := {}) (k := 0) (z := 1) rfl rfl rfl rfl HN7.out (.inr ⟨1, hE.out, rfl, tset_below HB7.out (Nat.le_refl _) _⟩)
            · have hSe : (S == (⟨#[]⟩ : ByteArray)) = false := by
                rw [HSS.out]
                cases nm with
                | nil => exact absurd rfl hz
                | cons a t => rfl
              have hSn : ¬ S = (⟨#[]⟩ : ByteArray) := fun e => by rw [e] at hSe; exact absurd hSe (by decide)
              have hSd : decide (S = (⟨#[]⟩ : ByteArray)) = false := decide_eq_false hSn
              have hSl : ¬ S.toList = [] := fun e => hSn (ByteArray.ext (by rw [ByteArray.toList_eq] at e; simpa using e))
              have hSb : S.toList.isEmpty = false := by
                cases h : S.toList with
                | nil => exact absurd h hSl
                | cons a t => rfl
              clear hSn hSd hSe
              have HZ := hide hz
              clear hz
              go_wp2_with fail
              refine (HSs.out w7 HB7.out j3 (by omega) 62 62 rfl).mono ?_
              rintro e w8 ⟨rfl, hb8⟩
              have HB8 := hide (HB7.out.trans (hb8.mono HB7.out.size))
              have HN8 := hide (below_atT hb8 HN7.out)
              have HM8 := hide (below_atT hb8 HM7.out)
              clear hb8 HB7 HN7 HM7
              cases h62 : says l j3 [62] with
              | false =>
                have hE : Hid (openS 1 l i = .error 1) := by show _ = _; rw [hE0.out, if_neg HZ.out, if_neg (by rw [h62]; simp)]
                clear h62
                obtain ⟨n0, n1, n2, n3, n4, n5, n6, n7⟩ := tok_cells HM8.out
                obtain ⟨m0, m1, m2, m3, m4, m5, m6, m7⟩ := tok_cells HN8.out
                have fr1 := tok_free HM8.out
                have fr0 := tok_free HN8.out
                go_wp2
                exact ret_t2 (N := w.heap.size) (t0 := {}) (W := w8) (t := {}) (k := 0) (z := 1) rfl rfl rfl rfl HN8.out (.inr ⟨1, hE.out, rfl, tset_below HB8.out (Nat.le_refl _) _⟩)
              | true =>
                have hE : Hid (openS 1 l i = .ok ({ kind := 7, num := 11, text := S }, j3 + 1)) := by show _ = _; rw [hE0.out, if_neg HZ.out, if_pos h62]
                clear h62
                obtain ⟨n0, n1, n2, n3, n4, n5, n6, n7⟩ := tok_cells HM8.out
                obtain ⟨m0, m1, m2, m3, m4, m5, m6, m7⟩ := tok_cells HN8.out
                have fr1 := tok_free HM8.out
                have fr0 := tok_free HN8.out
                go_wp2
                exact ret_t2 (N := w.heap.size) (t0 := {}) (W := w8.setCell ⟨w.heap.size + 1, 2, none⟩ (.string S)) (t := { kind := 7, num := 11, text := S }) (k := (j3 : Int) + 1) (z := 0) rfl rfl rfl rfl (by rw [Below.heap_setCell _ _ _ _ (by simp)]; exact HN8.out) (.inl ⟨_, _, hE.out, rfl, tset_below (HB8.out.setCell (by simp) _) (Nat.le_refl _) _⟩)
          | false =>
            have H60 := hide h60
            clear h60
            go_wp2_with fail
            refine (HSs.out w6 HB6.out k1 (by omega) 45 45 rfl).mono ?_
            rintro e w7 ⟨rfl, hb7⟩
            have HB7 := hide (HB6.out.trans (hb7.mono HB6.out.size))
            have HN7 := hide (below_atT hb7 HN6.out)
            have HM7 := hide (below_atT hb7 HM6.out)
            clear hb7 HB6 HN6 HM6
            cases h45 : says l k1 [45] with
            | false =>
              have H45 := hide h45
              clear h45
              have HT1 := hide (HSt.out w7 HB7.out (k1) (by omega) 105 41 105 41 rfl rfl)
              have HT2 := hide (fun W hW => HSt.out W hW (k1) (by omega) 105 58 105 58 rfl rfl)
              go_wp2_with fail
              refine HT1.out.mono ?_
              rintro e w8 ⟨rfl, hb8⟩
              have HB8 := hide (HB7.out.trans (hb8.mono HB7.out.size))
              have HN8 := hide (below_atT hb8 HN7.out)
              have HM8 := hide (below_atT hb8 HM7.out)
              clear hb8 HB7 HN7 HM7
              cases g1 : says l (k1) [105, 41] with
              | true =>
                have hE : Hid (openS 1 l i = .ok ({ kind := 11, fold := 1 }, k1 + 2)) := by
                  have hk := HK1.out
                  subst hk
                  have h0 := open_opt HQ.out HS.out H60.out H45.out
                  rw [if_pos g1] at h0
                  exact h0
                clear g1
                obtain ⟨n0, n1, n2, n3, n4, n5, n6, n7⟩ := tok_cells HM8.out
                obtain ⟨m0, m1, m2, m3, m4, m5, m6, m7⟩ := tok_cells HN8.out
                have fr1 := tok_free HM8.out
                have fr0 := tok_free HN8.out
                go_wp2
                exact ret_t2 (N := w.heap.size) (t0 := {}) (W := w8) (t := { kind := 11, fold := 1 }) (k := (((k1 : Nat)) : Int) + 2) (z := 0) rfl rfl rfl rfl HN8.out (.inl ⟨_, _, hE.out, rfl, tset_below HB8.out (Nat.le_refl _) _⟩)
              | false =>
                go_wp2_with fail
                refine (HT2.out w8 HB8.out).mono ?_
                rintro e w9 ⟨rfl, hb9⟩
                have HB9 := hide (HB8.out.trans (hb9.mono HB8.out.size))
                have HN9 := hide (below_atT hb9 HN8.out)
                have HM9 := hide (below_atT hb9 HM8.out)
                clear hb9 HB8 HN8 HM8
                cases g2 : says l (k1) [105, 58] with
                | true =>
                  have hE : Hid (openS 1 l i = .ok ({ kind := 7, num := 1, fold := 1 }, k1 + 2)) := by
                    have hk := HK1.out
                    subst hk
                    have h0 := open_opt HQ.out HS.out H60.out H45.out
                    rw [if_neg (by rw [g1]; simp), if_pos g2] at h0
                    exact h0
                  clear g1 g2
                  obtain ⟨n0, n1, n2, n3, n4, n5, n6, n7⟩ := tok_cells HM9.out
                  obtain ⟨m0, m1, m2, m3, m4, m5, m6, m7⟩ := tok_cells HN9.out
                  have fr1 := tok_free HM9.out
                  have fr0 := tok_free HN9.out
                  go_wp2
                  exact ret_t2 (N := w.heap.size) (t0 := {}) (W := w9) (t := { kind := 7, num := 1, fold := 1 }) (k := (((k1 : Nat)) : Int) + 2) (z := 0) rfl rfl rfl rfl HN9.out (.inl ⟨_, _, hE.out, rfl, tset_below HB9.out (Nat.le_refl _) _⟩)
                | false =>
                  have hE : Hid (openS 1 l i = .error 1) := by
                    have hk := HK1.out
                    subst hk
                    show _ = _
                    rw [open_opt HQ.out HS.out H60.out H45.out, if_neg (by rw [g1]; simp), if_neg (by rw [g2]; simp)]
                  clear g1 g2
                  obtain ⟨n0, n1, n2, n3, n4, n5, n6, n7⟩ := tok_cells HM9.out
                  obtain ⟨m0, m1, m2, m3, m4, m5, m6, m7⟩ := tok_cells HN9.out
                  have fr1 := tok_free HM9.out
                  have fr0 := tok_free HN9.out
                  go_wp2
                  exact ret_t2 (N := w.heap.size) (t0 := {}) (W := w9) (t := {}) (k := 0) (z := 1) rfl rfl rfl rfl HN9.out (.inr ⟨1, hE.out, rfl, tset_below HB9.out (Nat.le_refl _) _⟩)
            | true =>
              have H45 := hide h45
              clear h45
              have HT1 := hide (HSt.out w7 HB7.out (k1 + 1) (by omega) 105 41 105 41 rfl rfl)
              have HT2 := hide (fun W hW => HSt.out W hW (k1 + 1) (by omega) 105 58 105 58 rfl rfl)
              rw [show (((k1 + 1 : Nat)) : Int) = (k1 : Int) + 1 from by omega] at HT1 HT2
              go_wp2_with fail
              refine HT1.out.mono ?_
              rintro e w8 ⟨rfl, hb8⟩
              have HB8 := hide (HB7.out.trans (hb8.mono HB7.out.size))
              have HN8 := hide (below_atT hb8 HN7.out)
              have HM8 := hide (below_atT hb8 HM7.out)
              clear hb8 HB7 HN7 HM7
              cases g1 : says l (k1 + 1) [105, 41] with
              | true =>
                have hE : Hid (openS 1 l i = .ok ({ kind := 11, fold := -1 }, k1 + 1 + 2)) := by
                  have hk := HK1.out
                  subst hk
                  have h0 := open_off HQ.out HS.out H45.out
                  rw [if_pos g1] at h0
                  exact h0
                clear g1
                obtain ⟨n0, n1, n2, n3, n4, n5, n6, n7⟩ := tok_cells HM8.out
                obtain ⟨m0, m1, m2, m3, m4, m5, m6, m7⟩ := tok_cells HN8.out
                have fr1 := tok_free HM8.out
                have fr0 := tok_free HN8.out
                go_wp2
                exact ret_t2 (N := w.heap.size) (t0 := {}) (W := w8) (t := { kind := 11, fold := -1 }) (k := (((k1 + 1 : Nat)) : Int) + 2) (z := 0) rfl rfl rfl rfl HN8.out (.inl ⟨_, _, hE.out, rfl, tset_below HB8.out (Nat.le_refl _) _⟩)
              | false =>
                go_wp2_with fail
                refine (HT2.out w8 HB8.out).mono ?_
                rintro e w9 ⟨rfl, hb9⟩
                have HB9 := hide (HB8.out.trans (hb9.mono HB8.out.size))
                have HN9 := hide (below_atT hb9 HN8.out)
                have HM9 := hide (below_atT hb9 HM8.out)
                clear hb9 HB8 HN8 HM8
                cases g2 : says l (k1 + 1) [105, 58] with
                | true =>
                  have hE : Hid (openS 1 l i = .ok ({ kind := 7, num := 1, fold := -1 }, k1 + 1 + 2)) := by
                    have hk := HK1.out
                    subst hk
                    have h0 := open_off HQ.out HS.out H45.out
                    rw [if_neg (by rw [g1]; simp), if_pos g2] at h0
                    exact h0
                  clear g1 g2
                  obtain ⟨n0, n1, n2, n3, n4, n5, n6, n7⟩ := tok_cells HM9.out
                  obtain ⟨m0, m1, m2, m3, m4, m5, m6, m7⟩ := tok_cells HN9.out
                  have fr1 := tok_free HM9.out
                  have fr0 := tok_free HN9.out
                  go_wp2
                  exact ret_t2 (N := w.heap.size) (t0 := {}) (W := w9) (t := { kind := 7, num := 1, fold := -1 }) (k := (((k1 + 1 : Nat)) : Int) + 2) (z := 0) rfl rfl rfl rfl HN9.out (.inl ⟨_, _, hE.out, rfl, tset_below HB9.out (Nat.le_refl _) _⟩)
                | false =>
                  have hE : Hid (openS 1 l i = .error 1) := by
                    have hk := HK1.out
                    subst hk
                    show _ = _
                    rw [open_off HQ.out HS.out H45.out, if_neg (by rw [g1]; simp), if_neg (by rw [g2]; simp)]
                  clear g1 g2
                  obtain ⟨n0, n1, n2, n3, n4, n5, n6, n7⟩ := tok_cells HM9.out
                  obtain ⟨m0, m1, m2, m3, m4, m5, m6, m7⟩ := tok_cells HN9.out
                  have fr1 := tok_free HM9.out
                  have fr0 := tok_free HN9.out
                  go_wp2
                  exact ret_t2 (N := w.heap.size) (t0 := {}) (W := w9) (t := {}) (k := 0) (z := 1) rfl rfl rfl rfl HN9.out (.inr ⟨1, hE.out, rfl, tset_below HB9.out (Nat.le_refl _) _⟩)
        | (r + 7), hr => exact absurd hr (by omega)
  · have hE : Hid (openS d l i = .ok (openT 11, i)) := by show _ = _; unfold openS; rw [if_pos hd]
    have hdb : (d != 1) = true := by simpa using hd
    clear h hb2 hd
    go_enter Try.func21, Try.ntmps21
    go_wp2
    exact bodyPost_ret (v := .tuple #[tokV (openT 11), .int .i64 i, .int .i64 0]) (by simp [results, Try.results21, go_sem, tokV, openT]) rfl (.inl ⟨_, _, hE.out, rfl, ((Below.refl _ w).alloc (Nat.le_refl _) _).alloc (by simp) _⟩)

end Go.Proofs.Ytlapnhjkhpgklaa
