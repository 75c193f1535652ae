/- The law EncodeWrites returns true, over any slice of numbers that lies in memory. -/
import Derived.Test.YtihnaihmpokiiaaEncode
import Derived.Test.YtihnaihmpokiiaaWalk
namespace Go.Proofs.Ytihnaihmpokiiaa
open Go.RowKit Go.PlainAid
set_option linter.unusedVariables false

set_option maxHeartbeats 2000000 in
theorem TextOf_nil (enc : Int) (he : encB enc = true) (w : World) :
    Calls Try.prog 5 #[.int .i64 enc, .slice none 0 0] w fun e w' => e = .returned (.tuple #[.string (encS enc []), .int .i64 (encE enc [])]) ∧ Below w.heap.size w w' := by
  have hR := hide (enc_ok he (l := []) rfl (by simp [flat]))
  have hcv := fun w => conv_own (B := 0) (l := []) (World.ownsRow_nil w 0 5 1)
  have hisenc := isEnc_any enc
  rw [he] at hisenc
  have HI := hide hisenc
  clear he hisenc
  go_enter Try.func5, Try.ntmps5
  go_wp2_with (go_at_call 8; refine (HI.out _).mono ?_; rintro e w' ⟨rfl, hw⟩; have hw2 := hw.symm; clear hw; subst hw2)
  refine wp_loop_rounds 1 ?_
  rw [rounds_succ]
  go_wp2
  refine wp_loop_rounds 1 ?_
  rw [rounds_succ]
  go_wp2
  go_ret2
  exact ⟨ret2s hR.out.2.symm hR.out.1.symm, Below.refl _ _⟩

theorem TextOf_any (enc : Int) (v : Value) (l : List Int) (w : World) (hlen : l.length * 8 ≤ 140737488351232) (hr : RdI w v l) :
    Calls Try.prog 5 #[.int .i64 enc, v] w fun e w' => e = .returned (.tuple #[.string (encS enc l), .int .i64 (encE enc l)]) ∧ Below w.heap.size w w' := by
  cases he : encB enc with
  | false =>
    have hE : encE enc l = 7 := by simp [encE, he]
    have hS : encS enc l = ⟨#[]⟩ := by simp [encS, hE]
    rw [hE, hS]
    exact (TextOf_kind enc v w he).mono fun e w' ⟨h1, h2⟩ => ⟨h1, h2 ▸ Below.refl _ _⟩
  | true =>
    rcases hr with ⟨rfl, rfl⟩ | ⟨a, cap, rfl, hc⟩
    · exact TextOf_nil enc he w
    · exact TextOf_some enc he a cap l w hlen hc

theorem encE_s0 : encE 2 [128512, 65] = 0 := by decide
theorem encS_s0 : encS 2 [128512, 65] = s0 := rfl
theorem s0_len : s0.size = 6 := by decide

theorem Encode_s0 (w : World) : Calls Try.prog 4 #[.int .i64 2, .slice (some ⟨w.heap.size, 0, none⟩) 2 2] (w.alloc (.cells #[.int .i64 128512, .int .i64 65] 3)) fun e w' => e = .returned (.tuple #[.string s0, .int .i64 0]) ∧ Below w.heap.size w w' := by
  have h := Encode_2 ⟨w.heap.size, 0, none⟩ 2 [128512, 65] (w.alloc (.cells #[.int .i64 128512, .int .i64 65] 3)) (by decide) (fun j hj => by
    match j, hj with
    | 0, _ => exact World.cell?_alloc_at _ _ _ _ rfl
    | 1, _ => exact World.cell?_alloc_at _ _ _ _ rfl
    | (j + 2), hj => simp at hj; omega)
  rw [encE_s0, encS_s0] at h
  exact h.mono fun e w' ⟨h1, h2⟩ => ⟨h1, ((Below.refl w.heap.size w).alloc (Nat.le_refl _) _).trans (h2.mono (by simp))⟩

theorem same_two {B : Nat} (w : World) (g cap : Nat) (ho : w.ownsRow B 3 1 (.slice (some ⟨g, 0, none⟩) 2 cap) 2 [.int .i64 128512, .int .i64 65]) :
    Calls Try.prog 12 #[.slice (some ⟨g, 0, none⟩) 2 cap, .slice (some ⟨w.heap.size + 1, 0, none⟩) 2 2] ((w.alloc (.cells #[.int .i64 0, .int .i64 0] 39)).alloc (.cells #[.int .i64 128512, .int .i64 65] 3)) fun e w' => e = .returned (.bool true) ∧ Below w.heap.size w w' := by
  have h := SameInts_eq [128512, 65] ⟨g, 0, none⟩ ⟨w.heap.size + 1, 0, none⟩ cap 2 (by decide) ((w.alloc (.cells #[.int .i64 0, .int .i64 0] 39)).alloc (.cells #[.int .i64 128512, .int .i64 65] 3)) (fun j hj => by
    have h2 := (ho.alloc (.cells #[.int .i64 0, .int .i64 0] 39)).alloc (.cells #[.int .i64 128512, .int .i64 65] 3)
    match j, hj with
    | 0, _ => exact h2.cellAt 0 (by decide)
    | 1, _ => exact h2.cellAt 1 (by decide)
    | (j + 2), hj => simp at hj; omega) (fun j hj => by
    match j, hj with
    | 0, _ => exact World.cell?_alloc_at _ _ _ _ (by simp)
    | 1, _ => exact World.cell?_alloc_at _ _ _ _ (by simp)
    | (j + 2), hj => simp at hj; omega)
  exact h.mono fun e w' ⟨h1, h2⟩ => ⟨h1, (((Below.refl w.heap.size w).alloc (Nat.le_refl _) _).alloc (by simp) _).trans (h2.mono (by simp; omega))⟩

set_option maxHeartbeats 2000000 in
theorem begun_of (s : ByteArray) (hs : s.size = 6)
    (H1 : ∀ w : World, Calls Try.prog 4 #[.int .i64 2, .slice (some ⟨w.heap.size, 0, none⟩) 2 2] (w.alloc (.cells #[.int .i64 128512, .int .i64 65] 3)) fun e w' => e = .returned (.tuple #[.string s, .int .i64 0]) ∧ Below w.heap.size w w')
    (H2 : ∀ w : World, Calls Try.prog 11 #[.int .i64 2, .string s] w fun e w' => ∃ v, e = .returned (.tuple #[v, .agg #[.int .i64 0, .int .i64 0]]) ∧ w'.ownsRow w.heap.size 3 1 v 2 [.int .i64 128512, .int .i64 65] ∧ Below w.heap.size w w')
    (w : World) : Calls Try.prog 6 #[] w fun e w' => e = .returned (.bool true) ∧ Below w.heap.size w w' := by
  have G1 := hide H1
  have G2 := hide H2
  clear H1 H2
  go_enter Try.func6, Try.ntmps6
  go_wp2_with fail
  refine (G1.out _).mono ?_
  rintro e w1 ⟨rfl, hb1⟩
  go_wp2_with fail
  refine (G2.out _).mono ?_
  rintro e w2 ⟨v, rfl, ho2, hb2⟩
  obtain ⟨g, cap, hv⟩ := own_some ho2 (by decide)
  have HO := hide ho2
  clear ho2
  rw [hv] at HO
  rw [hv]
  clear hv
  go_wp2_with fail
  refine (same_two w2 g cap HO.out).mono ?_
  rintro e w3 ⟨rfl, hb3⟩
  go_wp2
  go_ret
  refine ⟨rfl, ?_⟩
  exact (hb1.trans (hb2.mono hb1.size)).trans (hb3.mono (by have := hb1.size; have := hb2.size; omega))

theorem begun_any (w : World) : Calls Try.prog 6 #[] w fun e w' => e = .returned (.bool true) ∧ Below w.heap.size w w' :=
  begun_of s0 s0_len Encode_s0 Decode_s0 w

set_option maxHeartbeats 2000000 in
theorem writes_any (enc : Int) (v : Value) (l : List Int) (w : World) (hlen : l.length * 8 ≤ 140737488351232) (hr : RdI w v l) :
    Calls Try.prog 3 #[.int .i64 enc, v] w fun e w' => e = .returned (.bool true) ∧ Below w.heap.size w w' := by
  have H1 := hide (Encode_any enc v l w hlen hr)
  have H2 : Hid (∀ w1, Below w.heap.size w w1 → Calls Try.prog 5 #[.int .i64 enc, v] w1 fun e w' => e = .returned (.tuple #[.string (encS enc l), .int .i64 (encE enc l)]) ∧ Below w1.heap.size w1 w') := fun w1 hb => TextOf_any enc v l w1 hlen (hr.below hb)
  obtain ⟨S, hS⟩ : ∃ S, S = encS enc l := ⟨_, rfl⟩
  obtain ⟨E, hE⟩ : ∃ E, E = encE enc l := ⟨_, rfl⟩
  rw [← hS, ← hE] at H1
  simp only [← hS, ← hE] at H2
  clear hS hE hr
  have hrefl : (E == E) = true := by simp
  go_enter Try.func3, Try.ntmps3
  go_wp2_with fail
  refine H1.out.mono ?_
  rintro e w1 ⟨rfl, hb1⟩
  go_wp2_with fail
  refine (H2.out _ hb1).mono ?_
  rintro e w2 ⟨rfl, hb2⟩
  go_wp2_with fail
  refine (begun_any _).mono ?_
  rintro e w3 ⟨rfl, hb3⟩
  go_wp2
  go_ret
  exact ⟨rfl, (hb1.trans (hb2.mono hb1.size)).trans (hb3.mono (by have := hb1.size; have := hb2.size; omega))⟩
end Go.Proofs.Ytihnaihmpokiiaa
