/- What eachRange hands on to the function literal of Class: the ranges of each class. -/
import Derived.Test.YtojjfmnbpfpanaaDoorFEach
namespace Go.Proofs.YtojjfmnbpfpanaaDoor.Fo
open Go.RowKit
set_option linter.unusedVariables false

set_option maxHeartbeats 1000000 in
theorem handC {caps : Array Value} {Inv : List (Int × Int) → World → Prop} (T : Taker 51 caps Inv) (ps : List (Int × Int)) (hn : ps.length ≤ 100) (n : Nat) (hnn : n = 2 * ps.length) (g : Nat) (L : List (Int × Int)) (hL : L.length ≤ 800) (w : World) (hI : Inv L w) (hrow : w.heap[g]? = some (.cells (i64s (flat2 ps)).toArray 3 (0, 0))) :
    Calls Tryd.prog 59 #[.func (.func 51) #[] caps, .slice (some ⟨g, 0, none⟩) n n] w fun e w' => e = .returned (.tuple #[]) ∧ Inv (L ++ ps) w' ∧ w.heap.size ≤ w'.heap.size ∧ Keep3 w w' := by
  have HI := hide hI
  have HR := hide hrow
  have HT := hide T
  have ent := T.enters
  have HN := hide hnn
  have hn2 : n ≤ 200 := by omega
  clear hI hrow T hnn
  go_enter Tryd.func59, Tryd.ntmps59
  go_wp2
  go_loopw [4] (fun i wr => ∃ k j : Nat, k ≤ ps.length ∧ j = 2 * k ∧ i = .int .i64 j ∧ Inv (L ++ ps.take k) wr ∧ w.heap.size ≤ wr.heap.size ∧ Keep3 w wr) (fun i _ => n - (intOf i).toNat)
  case atStart => exact ⟨0, 0, Nat.zero_le _, rfl, rfl, by simpa using HI.out, Nat.le_refl _, Keep3.refl w⟩
  case round =>
    obtain ⟨k, j, hk, hj, rfl, hinv, hsz, hk3⟩ := hrel
    have HJ := hide hj
    by_cases hlt : k < ps.length
    · have hjn : j + 1 < n := by have := HN.out; omega
      have b0 : j < n := by omega
      have b1 : (0 : Int) ≤ (j : Int) + 1 := by omega
      have b2 : (j : Int) + 1 < (n : Int) := by omega
      have b3 : IntKind.i64.wrap ((j : Int) + 1) = (j : Int) + 1 := by rw [IntKind.wrap_i64]; omega
      have hrow := hk3 _ _ HR.out
      obtain ⟨x, hx⟩ : ∃ x, x = ps[k] := ⟨_, rfl⟩
      obtain ⟨g1, g2⟩ := flat2_get ps k hlt
      obtain ⟨x1, x2⟩ := x
      have c1 : wr.cell? ⟨g, j, none⟩ = some (.int .i64 x1) := by rw [hj]; simp [World.cell?, hrow, i64s, g1, ← hx]
      have c2 : wr.cell? ⟨g, j + 1, none⟩ = some (.int .i64 x2) := by rw [hj]; simp [World.cell?, hrow, i64s, g2, ← hx]
      have HX := hide hx
      have HV := hide hinv
      have HTK : Hid (∀ w1, Below wr.heap.size wr w1 → Calls Tryd.prog 51 (#[.int .i64 x1, .int .i64 x2] ++ caps) w1 fun e w' => e = .returned (.tuple #[]) ∧ Hid (Inv (L ++ ps.take k ++ [(x1, x2)]) w') ∧ w1.heap.size ≤ w'.heap.size ∧ Hid (Keep3 w1 w')) := fun w1 hb => HT.out.take (L ++ ps.take k) x1 x2 w1 (by rw [List.length_append, List.length_take]; omega) (HT.out.below _ _ _ HV.out hb)
      clear hx hinv hrow g1 g2 hj
      go_wp2
      go_region_with (go_at_call 51; refine (HTK.out _ (by first | exact Below.refl _ _ | exact (Below.refl _ _).drew | exact (Below.refl _ _).drew.drew)).mono ?_; rintro e w1 ⟨rfl, HV1, hsz1, HK1⟩)
      all_goals
        go_wp2
        go_roundw
        case rel => exact ⟨k + 1, j + 2, by omega, by have := HJ.out; omega, by go_num, by rw [List.take_add_one, List.getElem?_eq_getElem hlt, ← HX.out, ← List.append_assoc]; exact HV1.out, Nat.le_trans hsz hsz1, hk3.trans HK1.out⟩
        case measure => simp [intOf]; omega
    · have hkl : k = ps.length := by omega
      subst hkl
      rw [List.take_length] at hinv
      have hjn : n ≤ j := by have := HN.out; omega
      go_wp2
      go_end0
      exact ⟨rfl, hinv, hsz, hk3⟩

set_option maxHeartbeats 1000000 in
theorem everyC {caps : Array Value} {Inv : List (Int × Int) → World → Prop} (T : Taker 51 caps Inv) (a b : Int) (h0 : 0 ≤ a) (h1 : b ≤ 10000) (hb : b = a + 46) (L : List (Int × Int)) (hL : L.length ≤ 800) (w : World) (hI : Inv L w) :
    Calls Tryd.prog 63 #[.func (.func 51) #[] caps, .int .i64 a, .int .i64 b] w fun e w' => e = .returned (.tuple #[]) ∧ Inv (L ++ psEvery a 24) w' ∧ w.heap.size ≤ w'.heap.size ∧ Keep3 w w' := by
  have HI := hide hI
  have HT := hide T
  have ent := T.enters
  have hab1 : b < a + 48 := by omega
  have hab2 : a + 46 ≤ b := by omega
  clear hI T hb
  go_enter Tryd.func63, Tryd.ntmps63
  go_wp2
  go_loopw [6] (fun i wr => ∃ (k : Nat) (j : Int), k ≤ 24 ∧ j = a + 2 * (k : Int) ∧ i = .int .i64 j ∧ Inv (L ++ psEvery a k) wr ∧ w.heap.size ≤ wr.heap.size ∧ Keep3 w wr) (fun i _ => (b + 2 - intOf i).toNat)
  case atStart => exact ⟨0, a, Nat.zero_le _, by simp, rfl, by simpa [psEvery] using HI.out, Nat.le_refl _, Keep3.refl w⟩
  case round =>
    obtain ⟨k, j, hk, hj, rfl, hinv, hsz, hk3⟩ := hrel
    have HJ := hide hj
    have j0 : 0 ≤ j := by omega
    have j1 : j ≤ 20000 := by omega
    by_cases hlt : k < 24
    · have hjb : j ≤ b := by omega
      have HV := hide hinv
      have HTK : Hid (∀ w1, Below wr.heap.size wr w1 → Calls Tryd.prog 51 (#[.int .i64 j, .int .i64 j] ++ caps) w1 fun e w' => e = .returned (.tuple #[]) ∧ Hid (Inv (L ++ psEvery a k ++ [(j, j)]) w') ∧ w1.heap.size ≤ w'.heap.size ∧ Hid (Keep3 w1 w')) := fun w1 hb => HT.out.take _ j j w1 (by rw [List.length_append, psEvery_len]; omega) (HT.out.below _ _ _ HV.out hb)
      clear hinv hj
      go_wp2_with (go_at_call 51; refine (HTK.out _ (Below.refl _ _)).mono ?_; rintro e w1 ⟨rfl, HV1, hsz1, HK1⟩)
      go_roundw
      case rel => exact ⟨k + 1, j + 2, by omega, by have := HJ.out; omega, by go_num, by rw [psEvery_succ, ← HJ.out, ← List.append_assoc]; exact HV1.out, Nat.le_trans hsz hsz1, hk3.trans HK1.out⟩
      case measure => simp [intOf]; omega
    · have hkl : k = 24 := by omega
      have hjb : ¬ j ≤ b := by omega
      have hjb2 : b < j := by omega
      have E : Hid (psEvery a 24 = psEvery a k) := by show _ = _; rw [hkl]
      have HV := hide hinv
      clear hinv hj hkl
      go_wp2
      go_end0
      exact ⟨rfl, by rw [E.out]; exact HV.out, hsz, hk3⟩

set_option maxHeartbeats 1000000 in
theorem digitC {caps : Array Value} {Inv : List (Int × Int) → World → Prop} (T : Taker 51 caps Inv) (L : List (Int × Int)) (hL : L.length ≤ 600) (w : World) (hI : Inv L w) :
    Calls Tryd.prog 60 #[.func (.func 51) #[] caps] w fun e w' => e = .returned (.tuple #[]) ∧ Inv (L ++ psDigit) w' ∧ w.heap.size ≤ w'.heap.size ∧ Keep3 w w' := by
  have HI := hide hI
  have HT := hide T
  clear hI T
  go_enter Tryd.func60, Tryd.ntmps60
  go_wp2_with fail
  refine (handC HT.out psDigit (by decide) 4 (by decide) w.heap.size (L) (by first | omega | (simp [psDigit, psPunct, psPunct1, psPunct2, psAlpha, psAlpha1, psAlpha2]; omega)) _ (HT.out.below _ w _ HI.out ((Below.refl _ w).alloc (Nat.le_refl _) _)) (heap_alloc_new w _)).mono ?_
  rintro e w1 ⟨rfl, hi0, hs0, hk0⟩
  have HI0 := hide hi0
  have HK0 := hide hk0
  clear hi0 hk0
  have hz0 : w.heap.size ≤ w1.heap.size := by simp at hs0; omega
  have hq0 : Hid (Keep3 w w1) := (Keep3.below ((Below.refl _ w).alloc (Nat.le_refl _) _)).trans HK0.out
  go_wp2
  go_end0
  exact ⟨rfl, by exact HI0.out, hz0, hq0.out⟩

set_option maxHeartbeats 1000000 in
theorem punctC {caps : Array Value} {Inv : List (Int × Int) → World → Prop} (T : Taker 51 caps Inv) (L : List (Int × Int)) (hL : L.length ≤ 600) (w : World) (hI : Inv L w) :
    Calls Tryd.prog 61 #[.func (.func 51) #[] caps] w fun e w' => e = .returned (.tuple #[]) ∧ Inv (L ++ psPunct) w' ∧ w.heap.size ≤ w'.heap.size ∧ Keep3 w w' := by
  have HI := hide hI
  have HT := hide T
  clear hI T
  go_enter Tryd.func61, Tryd.ntmps61
  go_wp2_with fail
  refine (handC HT.out psPunct1 (by decide) 8 (by decide) w.heap.size (L) (by first | omega | (simp [psDigit, psPunct, psPunct1, psPunct2, psAlpha, psAlpha1, psAlpha2]; omega)) _ (HT.out.below _ w _ HI.out ((Below.refl _ w).alloc (Nat.le_refl _) _)) (heap_alloc_new w _)).mono ?_
  rintro e w1 ⟨rfl, hi0, hs0, hk0⟩
  have HI0 := hide hi0
  have HK0 := hide hk0
  clear hi0 hk0
  have hz0 : w.heap.size ≤ w1.heap.size := by simp at hs0; omega
  have hq0 : Hid (Keep3 w w1) := (Keep3.below ((Below.refl _ w).alloc (Nat.le_refl _) _)).trans HK0.out
  go_wp2_with fail
  refine (handC HT.out psPunct2 (by decide) 12 (by decide) w1.heap.size (L ++ psPunct1) (by first | omega | (simp [psPunct1]; omega)) _ (HT.out.below _ w1 _ HI0.out ((Below.refl _ w1).alloc (Nat.le_refl _) _)) (heap_alloc_new w1 _)).mono ?_
  rintro e w2 ⟨rfl, hi1, hs1, hk1⟩
  have HI1 := hide hi1
  have HK1 := hide hk1
  clear hi1 hk1
  have hz1 : w1.heap.size ≤ w2.heap.size := by simp at hs1; omega
  have hq1 : Hid (Keep3 w1 w2) := (Keep3.below ((Below.refl _ w1).alloc (Nat.le_refl _) _)).trans HK1.out
  go_wp2
  go_end0
  exact ⟨rfl, by have h := HI1.out; rw [List.append_assoc] at h; exact h, (Nat.le_trans hz0 hz1), (Keep3.trans hq0.out hq1.out)⟩

set_option maxHeartbeats 1000000 in
theorem alphaC {caps : Array Value} {Inv : List (Int × Int) → World → Prop} (T : Taker 51 caps Inv) (L : List (Int × Int)) (hL : L.length ≤ 600) (w : World) (hI : Inv L w) :
    Calls Tryd.prog 62 #[.func (.func 51) #[] caps] w fun e w' => e = .returned (.tuple #[]) ∧ Inv (L ++ psAlpha) w' ∧ w.heap.size ≤ w'.heap.size ∧ Keep3 w w' := by
  have HI := hide hI
  have HT := hide T
  clear hI T
  go_enter Tryd.func62, Tryd.ntmps62
  go_wp2_with fail
  refine (handC HT.out psAlpha1 (by decide) 16 (by decide) w.heap.size (L) (by first | omega | (simp [psDigit, psPunct, psPunct1, psPunct2, psAlpha, psAlpha1, psAlpha2]; omega)) _ (HT.out.below _ w _ HI.out ((Below.refl _ w).alloc (Nat.le_refl _) _)) (heap_alloc_new w _)).mono ?_
  rintro e w1 ⟨rfl, hi0, hs0, hk0⟩
  have HI0 := hide hi0
  have HK0 := hide hk0
  clear hi0 hk0
  have hz0 : w.heap.size ≤ w1.heap.size := by simp at hs0; omega
  have hq0 : Hid (Keep3 w w1) := (Keep3.below ((Below.refl _ w).alloc (Nat.le_refl _) _)).trans HK0.out
  go_wp2_with fail
  refine (handC HT.out psAlpha2 (by decide) 10 (by decide) w1.heap.size (L ++ psAlpha1) (by first | omega | (simp [psAlpha1]; omega)) _ (HT.out.below _ w1 _ HI0.out ((Below.refl _ w1).alloc (Nat.le_refl _) _)) (heap_alloc_new w1 _)).mono ?_
  rintro e w2 ⟨rfl, hi1, hs1, hk1⟩
  have HI1 := hide hi1
  have HK1 := hide hk1
  clear hi1 hk1
  have hz1 : w1.heap.size ≤ w2.heap.size := by simp at hs1; omega
  have hq1 : Hid (Keep3 w1 w2) := (Keep3.below ((Below.refl _ w1).alloc (Nat.le_refl _) _)).trans HK1.out
  go_wp2
  go_end0
  exact ⟨rfl, by have h := HI1.out; rw [List.append_assoc] at h; exact h, (Nat.le_trans hz0 hz1), (Keep3.trans hq0.out hq1.out)⟩

set_option maxHeartbeats 1000000 in
theorem alnumC {caps : Array Value} {Inv : List (Int × Int) → World → Prop} (T : Taker 51 caps Inv) (L : List (Int × Int)) (hL : L.length ≤ 400) (w : World) (hI : Inv L w) :
    Calls Tryd.prog 64 #[.func (.func 51) #[] caps] w fun e w' => e = .returned (.tuple #[]) ∧ Inv (L ++ psAlnum) w' ∧ w.heap.size ≤ w'.heap.size ∧ Keep3 w w' := by
  have HI := hide hI
  have HT := hide T
  clear hI T
  go_enter Tryd.func64, Tryd.ntmps64
  go_wp2_with fail
  refine (alphaC HT.out (L) (by first | omega | (simp [psDigit, psPunct, psPunct1, psPunct2, psAlpha, psAlpha1, psAlpha2]; omega)) w HI.out).mono ?_
  rintro e w1 ⟨rfl, hi0, hs0, hk0⟩
  have HI0 := hide hi0
  have HK0 := hide hk0
  clear hi0 hk0
  have hz0 : w.heap.size ≤ w1.heap.size := hs0
  have hq0 : Hid (Keep3 w w1) := HK0.out
  go_wp2_with fail
  refine (digitC HT.out (L ++ psAlpha) (by first | omega | (simp [psAlpha, psAlpha1, psAlpha2]; omega)) w1 HI0.out).mono ?_
  rintro e w2 ⟨rfl, hi1, hs1, hk1⟩
  have HI1 := hide hi1
  have HK1 := hide hk1
  clear hi1 hk1
  have hz1 : w1.heap.size ≤ w2.heap.size := hs1
  have hq1 : Hid (Keep3 w1 w2) := HK1.out
  go_wp2
  go_end0
  exact ⟨rfl, by have h := HI1.out; rw [List.append_assoc] at h; exact h, (Nat.le_trans hz0 hz1), (Keep3.trans hq0.out hq1.out)⟩

set_option maxHeartbeats 1000000 in
theorem eachC_any {caps : Array Value} {Inv : List (Int × Int) → World → Prop} (T : Taker 51 caps Inv) (w : World) (hI : Inv [] w) :
    Calls Tryd.prog 50 #[.string ⟨#[97, 110, 121]⟩, .func (.func 51) #[] caps] w fun e w' => e = .returned (.bool true) ∧ Inv ps_any w' ∧ w.heap.size ≤ w'.heap.size ∧ Keep3 w w' := by
  have HI := hide hI
  have HT := hide T
  clear hI T
  go_enter Tryd.func50, Tryd.ntmps50
  go_wp2_with fail
  refine (handC HT.out ([(0, 1114111)] : List (Int × Int)) (by decide) 2 (by decide) w.heap.size [] (by decide) _ (HT.out.below _ w _ HI.out ((Below.refl _ w).alloc (Nat.le_refl _) _)) (heap_alloc_new w _)).mono ?_
  rintro e w1 ⟨rfl, hi0, hs0, hk0⟩
  have HI0 := hide hi0
  have HK0 := hide hk0
  clear hi0 hk0
  have hz0 : w.heap.size ≤ w1.heap.size := by simp at hs0; omega
  have hq0 : Hid (Keep3 w w1) := (Keep3.below ((Below.refl _ w).alloc (Nat.le_refl _) _)).trans HK0.out
  go_wp2
  go_ret
  exact ⟨rfl, HI0.out, hz0, hq0.out⟩

set_option maxHeartbeats 1000000 in
theorem eachC_ascii {caps : Array Value} {Inv : List (Int × Int) → World → Prop} (T : Taker 51 caps Inv) (w : World) (hI : Inv [] w) :
    Calls Tryd.prog 50 #[.string ⟨#[97, 115, 99, 105, 105]⟩, .func (.func 51) #[] caps] w fun e w' => e = .returned (.bool true) ∧ Inv ps_ascii w' ∧ w.heap.size ≤ w'.heap.size ∧ Keep3 w w' := by
  have HI := hide hI
  have HT := hide T
  clear hI T
  go_enter Tryd.func50, Tryd.ntmps50
  go_wp2_with fail
  refine (handC HT.out ([(0, 127)] : List (Int × Int)) (by decide) 2 (by decide) w.heap.size [] (by decide) _ (HT.out.below _ w _ HI.out ((Below.refl _ w).alloc (Nat.le_refl _) _)) (heap_alloc_new w _)).mono ?_
  rintro e w1 ⟨rfl, hi0, hs0, hk0⟩
  have HI0 := hide hi0
  have HK0 := hide hk0
  clear hi0 hk0
  have hz0 : w.heap.size ≤ w1.heap.size := by simp at hs0; omega
  have hq0 : Hid (Keep3 w w1) := (Keep3.below ((Below.refl _ w).alloc (Nat.le_refl _) _)).trans HK0.out
  go_wp2
  go_ret
  exact ⟨rfl, HI0.out, hz0, hq0.out⟩

set_option maxHeartbeats 1000000 in
theorem eachC_cntrl {caps : Array Value} {Inv : List (Int × Int) → World → Prop} (T : Taker 51 caps Inv) (w : World) (hI : Inv [] w) :
    Calls Tryd.prog 50 #[.string ⟨#[99, 110, 116, 114, 108]⟩, .func (.func 51) #[] caps] w fun e w' => e = .returned (.bool true) ∧ Inv ps_cntrl w' ∧ w.heap.size ≤ w'.heap.size ∧ Keep3 w w' := by
  have HI := hide hI
  have HT := hide T
  clear hI T
  go_enter Tryd.func50, Tryd.ntmps50
  go_wp2_with fail
  refine (handC HT.out ([(0, 31), (127, 159)] : List (Int × Int)) (by decide) 4 (by decide) w.heap.size [] (by decide) _ (HT.out.below _ w _ HI.out ((Below.refl _ w).alloc (Nat.le_refl _) _)) (heap_alloc_new w _)).mono ?_
  rintro e w1 ⟨rfl, hi0, hs0, hk0⟩
  have HI0 := hide hi0
  have HK0 := hide hk0
  clear hi0 hk0
  have hz0 : w.heap.size ≤ w1.heap.size := by simp at hs0; omega
  have hq0 : Hid (Keep3 w w1) := (Keep3.below ((Below.refl _ w).alloc (Nat.le_refl _) _)).trans HK0.out
  go_wp2
  go_ret
  exact ⟨rfl, HI0.out, hz0, hq0.out⟩

set_option maxHeartbeats 1000000 in
theorem eachC_digit {caps : Array Value} {Inv : List (Int × Int) → World → Prop} (T : Taker 51 caps Inv) (w : World) (hI : Inv [] w) :
    Calls Tryd.prog 50 #[.string ⟨#[100, 105, 103, 105, 116]⟩, .func (.func 51) #[] caps] w fun e w' => e = .returned (.bool true) ∧ Inv ps_digit w' ∧ w.heap.size ≤ w'.heap.size ∧ Keep3 w w' := by
  have HI := hide hI
  have HT := hide T
  clear hI T
  go_enter Tryd.func50, Tryd.ntmps50
  go_wp2_with fail
  refine (digitC HT.out [] (by decide) w HI.out).mono ?_
  rintro e w1 ⟨rfl, hi0, hs0, hk0⟩
  have HI0 := hide hi0
  have HK0 := hide hk0
  clear hi0 hk0
  have hz0 : w.heap.size ≤ w1.heap.size := hs0
  have hq0 : Hid (Keep3 w w1) := HK0.out
  go_wp2
  go_ret
  exact ⟨rfl, HI0.out, hz0, hq0.out⟩

set_option maxHeartbeats 1000000 in
theorem eachC_xdigit {caps : Array Value} {Inv : List (Int × Int) → World → Prop} (T : Taker 51 caps Inv) (w : World) (hI : Inv [] w) :
    Calls Tryd.prog 50 #[.string ⟨#[120, 100, 105, 103, 105, 116]⟩, .func (.func 51) #[] caps] w fun e w' => e = .returned (.bool true) ∧ Inv ps_xdigit w' ∧ w.heap.size ≤ w'.heap.size ∧ Keep3 w w' := by
  have HI := hide hI
  have HT := hide T
  clear hI T
  go_enter Tryd.func50, Tryd.ntmps50
  go_wp2_with fail
  refine (handC HT.out ([(48, 57), (65, 70), (97, 102)] : List (Int × Int)) (by decide) 6 (by decide) w.heap.size [] (by decide) _ (HT.out.below _ w _ HI.out ((Below.refl _ w).alloc (Nat.le_refl _) _)) (heap_alloc_new w _)).mono ?_
  rintro e w1 ⟨rfl, hi0, hs0, hk0⟩
  have HI0 := hide hi0
  have HK0 := hide hk0
  clear hi0 hk0
  have hz0 : w.heap.size ≤ w1.heap.size := by simp at hs0; omega
  have hq0 : Hid (Keep3 w w1) := (Keep3.below ((Below.refl _ w).alloc (Nat.le_refl _) _)).trans HK0.out
  go_wp2
  go_ret
  exact ⟨rfl, HI0.out, hz0, hq0.out⟩

set_option maxHeartbeats 1000000 in
theorem eachC_blank {caps : Array Value} {Inv : List (Int × Int) → World → Prop} (T : Taker 51 caps Inv) (w : World) (hI : Inv [] w) :
    Calls Tryd.prog 50 #[.string ⟨#[98, 108, 97, 110, 107]⟩, .func (.func 51) #[] caps] w fun e w' => e = .returned (.bool true) ∧ Inv ps_blank w' ∧ w.heap.size ≤ w'.heap.size ∧ Keep3 w w' := by
  have HI := hide hI
  have HT := hide T
  clear hI T
  go_enter Tryd.func50, Tryd.ntmps50
  go_wp2_with fail
  refine (handC HT.out ([(9, 9), (32, 32)] : List (Int × Int)) (by decide) 4 (by decide) w.heap.size [] (by decide) _ (HT.out.below _ w _ HI.out ((Below.refl _ w).alloc (Nat.le_refl _) _)) (heap_alloc_new w _)).mono ?_
  rintro e w1 ⟨rfl, hi0, hs0, hk0⟩
  have HI0 := hide hi0
  have HK0 := hide hk0
  clear hi0 hk0
  have hz0 : w.heap.size ≤ w1.heap.size := by simp at hs0; omega
  have hq0 : Hid (Keep3 w w1) := (Keep3.below ((Below.refl _ w).alloc (Nat.le_refl _) _)).trans HK0.out
  go_wp2
  go_ret
  exact ⟨rfl, HI0.out, hz0, hq0.out⟩

set_option maxHeartbeats 1000000 in
theorem eachC_space {caps : Array Value} {Inv : List (Int × Int) → World → Prop} (T : Taker 51 caps Inv) (w : World) (hI : Inv [] w) :
    Calls Tryd.prog 50 #[.string ⟨#[115, 112, 97, 99, 101]⟩, .func (.func 51) #[] caps] w fun e w' => e = .returned (.bool true) ∧ Inv ps_space w' ∧ w.heap.size ≤ w'.heap.size ∧ Keep3 w w' := by
  have HI := hide hI
  have HT := hide T
  clear hI T
  go_enter Tryd.func50, Tryd.ntmps50
  go_wp2_with fail
  refine (handC HT.out ([(9, 13), (32, 32), (133, 133), (160, 160), (8192, 8202), (8232, 8233), (12288, 12288)] : List (Int × Int)) (by decide) 14 (by decide) w.heap.size [] (by decide) _ (HT.out.below _ w _ HI.out ((Below.refl _ w).alloc (Nat.le_refl _) _)) (heap_alloc_new w _)).mono ?_
  rintro e w1 ⟨rfl, hi0, hs0, hk0⟩
  have HI0 := hide hi0
  have HK0 := hide hk0
  clear hi0 hk0
  have hz0 : w.heap.size ≤ w1.heap.size := by simp at hs0; omega
  have hq0 : Hid (Keep3 w w1) := (Keep3.below ((Below.refl _ w).alloc (Nat.le_refl _) _)).trans HK0.out
  go_wp2
  go_ret
  exact ⟨rfl, HI0.out, hz0, hq0.out⟩

set_option maxHeartbeats 1000000 in
theorem eachC_punct {caps : Array Value} {Inv : List (Int × Int) → World → Prop} (T : Taker 51 caps Inv) (w : World) (hI : Inv [] w) :
    Calls Tryd.prog 50 #[.string ⟨#[112, 117, 110, 99, 116]⟩, .func (.func 51) #[] caps] w fun e w' => e = .returned (.bool true) ∧ Inv ps_punct w' ∧ w.heap.size ≤ w'.heap.size ∧ Keep3 w w' := by
  have HI := hide hI
  have HT := hide T
  clear hI T
  go_enter Tryd.func50, Tryd.ntmps50
  go_wp2_with fail
  refine (punctC HT.out [] (by decide) w HI.out).mono ?_
  rintro e w1 ⟨rfl, hi0, hs0, hk0⟩
  have HI0 := hide hi0
  have HK0 := hide hk0
  clear hi0 hk0
  have hz0 : w.heap.size ≤ w1.heap.size := hs0
  have hq0 : Hid (Keep3 w w1) := HK0.out
  go_wp2
  go_ret
  exact ⟨rfl, HI0.out, hz0, hq0.out⟩

set_option maxHeartbeats 1000000 in
theorem eachC_alpha {caps : Array Value} {Inv : List (Int × Int) → World → Prop} (T : Taker 51 caps Inv) (w : World) (hI : Inv [] w) :
    Calls Tryd.prog 50 #[.string ⟨#[97, 108, 112, 104, 97]⟩, .func (.func 51) #[] caps] w fun e w' => e = .returned (.bool true) ∧ Inv ps_alpha w' ∧ w.heap.size ≤ w'.heap.size ∧ Keep3 w w' := by
  have HI := hide hI
  have HT := hide T
  clear hI T
  go_enter Tryd.func50, Tryd.ntmps50
  go_wp2_with fail
  refine (alphaC HT.out [] (by decide) w HI.out).mono ?_
  rintro e w1 ⟨rfl, hi0, hs0, hk0⟩
  have HI0 := hide hi0
  have HK0 := hide hk0
  clear hi0 hk0
  have hz0 : w.heap.size ≤ w1.heap.size := hs0
  have hq0 : Hid (Keep3 w w1) := HK0.out
  go_wp2
  go_ret
  exact ⟨rfl, HI0.out, hz0, hq0.out⟩

set_option maxHeartbeats 1000000 in
theorem eachC_upper {caps : Array Value} {Inv : List (Int × Int) → World → Prop} (T : Taker 51 caps Inv) (w : World) (hI : Inv [] w) :
    Calls Tryd.prog 50 #[.string ⟨#[117, 112, 112, 101, 114]⟩, .func (.func 51) #[] caps] w fun e w' => e = .returned (.bool true) ∧ Inv ps_upper w' ∧ w.heap.size ≤ w'.heap.size ∧ Keep3 w w' := by
  have HI := hide hI
  have HT := hide T
  clear hI T
  go_enter Tryd.func50, Tryd.ntmps50
  go_wp2_with fail
  refine (handC HT.out ([(65, 90), (192, 214), (216, 222)] : List (Int × Int)) (by decide) 6 (by decide) w.heap.size [] (by decide) _ (HT.out.below _ w _ HI.out ((Below.refl _ w).alloc (Nat.le_refl _) _)) (heap_alloc_new w _)).mono ?_
  rintro e w1 ⟨rfl, hi0, hs0, hk0⟩
  have HI0 := hide hi0
  have HK0 := hide hk0
  clear hi0 hk0
  have hz0 : w.heap.size ≤ w1.heap.size := by simp at hs0; omega
  have hq0 : Hid (Keep3 w w1) := (Keep3.below ((Below.refl _ w).alloc (Nat.le_refl _) _)).trans HK0.out
  go_wp2_with fail
  refine (everyC HT.out 256 302 (by decide) (by decide) (by decide) ([] ++ ([(65, 90), (192, 214), (216, 222)] : List (Int × Int))) (by decide) w1 HI0.out).mono ?_
  rintro e w2 ⟨rfl, hi1, hs1, hk1⟩
  have HI1 := hide hi1
  have HK1 := hide hk1
  clear hi1 hk1
  have hz1 : w1.heap.size ≤ w2.heap.size := hs1
  have hq1 : Hid (Keep3 w1 w2) := HK1.out
  go_wp2_with fail
  refine (handC HT.out ([(913, 929), (931, 939), (1024, 1071), (7838, 7838), (8490, 8491)] : List (Int × Int)) (by decide) 10 (by decide) w2.heap.size ([] ++ ([(65, 90), (192, 214), (216, 222)] : List (Int × Int)) ++ psEvery 256 24) (by decide) _ (HT.out.below _ w2 _ HI1.out ((Below.refl _ w2).alloc (Nat.le_refl _) _)) (heap_alloc_new w2 _)).mono ?_
  rintro e w3 ⟨rfl, hi2, hs2, hk2⟩
  have HI2 := hide hi2
  have HK2 := hide hk2
  clear hi2 hk2
  have hz2 : w2.heap.size ≤ w3.heap.size := by simp at hs2; omega
  have hq2 : Hid (Keep3 w2 w3) := (Keep3.below ((Below.refl _ w2).alloc (Nat.le_refl _) _)).trans HK2.out
  go_wp2
  go_ret
  exact ⟨rfl, HI2.out, (Nat.le_trans (Nat.le_trans hz0 hz1) hz2), (Keep3.trans (Keep3.trans hq0.out hq1.out) hq2.out)⟩

set_option maxHeartbeats 1000000 in
theorem eachC_lower {caps : Array Value} {Inv : List (Int × Int) → World → Prop} (T : Taker 51 caps Inv) (w : World) (hI : Inv [] w) :
    Calls Tryd.prog 50 #[.string ⟨#[108, 111, 119, 101, 114]⟩, .func (.func 51) #[] caps] w fun e w' => e = .returned (.bool true) ∧ Inv ps_lower w' ∧ w.heap.size ≤ w'.heap.size ∧ Keep3 w w' := by
  have HI := hide hI
  have HT := hide T
  clear hI T
  go_enter Tryd.func50, Tryd.ntmps50
  go_wp2_with fail
  refine (handC HT.out ([(97, 122), (181, 181), (223, 246), (248, 255)] : List (Int × Int)) (by decide) 8 (by decide) w.heap.size [] (by decide) _ (HT.out.below _ w _ HI.out ((Below.refl _ w).alloc (Nat.le_refl _) _)) (heap_alloc_new w _)).mono ?_
  rintro e w1 ⟨rfl, hi0, hs0, hk0⟩
  have HI0 := hide hi0
  have HK0 := hide hk0
  clear hi0 hk0
  have hz0 : w.heap.size ≤ w1.heap.size := by simp at hs0; omega
  have hq0 : Hid (Keep3 w w1) := (Keep3.below ((Below.refl _ w).alloc (Nat.le_refl _) _)).trans HK0.out
  go_wp2_with fail
  refine (everyC HT.out 257 303 (by decide) (by decide) (by decide) ([] ++ ([(97, 122), (181, 181), (223, 246), (248, 255)] : List (Int × Int))) (by decide) w1 HI0.out).mono ?_
  rintro e w2 ⟨rfl, hi1, hs1, hk1⟩
  have HI1 := hide hi1
  have HK1 := hide hk1
  clear hi1 hk1
  have hz1 : w1.heap.size ≤ w2.heap.size := hs1
  have hq1 : Hid (Keep3 w1 w2) := HK1.out
  go_wp2_with fail
  refine (handC HT.out ([(945, 971), (1072, 1119)] : List (Int × Int)) (by decide) 4 (by decide) w2.heap.size ([] ++ ([(97, 122), (181, 181), (223, 246), (248, 255)] : List (Int × Int)) ++ psEvery 257 24) (by decide) _ (HT.out.below _ w2 _ HI1.out ((Below.refl _ w2).alloc (Nat.le_refl _) _)) (heap_alloc_new w2 _)).mono ?_
  rintro e w3 ⟨rfl, hi2, hs2, hk2⟩
  have HI2 := hide hi2
  have HK2 := hide hk2
  clear hi2 hk2
  have hz2 : w2.heap.size ≤ w3.heap.size := by simp at hs2; omega
  have hq2 : Hid (Keep3 w2 w3) := (Keep3.below ((Below.refl _ w2).alloc (Nat.le_refl _) _)).trans HK2.out
  go_wp2
  go_ret
  exact ⟨rfl, HI2.out, (Nat.le_trans (Nat.le_trans hz0 hz1) hz2), (Keep3.trans (Keep3.trans hq0.out hq1.out) hq2.out)⟩

set_option maxHeartbeats 1000000 in
theorem eachC_alnum {caps : Array Value} {Inv : List (Int × Int) → World → Prop} (T : Taker 51 caps Inv) (w : World) (hI : Inv [] w) :
    Calls Tryd.prog 50 #[.string ⟨#[97, 108, 110, 117, 109]⟩, .func (.func 51) #[] caps] w fun e w' => e = .returned (.bool true) ∧ Inv ps_alnum w' ∧ w.heap.size ≤ w'.heap.size ∧ Keep3 w w' := by
  have HI := hide hI
  have HT := hide T
  clear hI T
  go_enter Tryd.func50, Tryd.ntmps50
  go_wp2_with fail
  refine (alnumC HT.out [] (by decide) w HI.out).mono ?_
  rintro e w1 ⟨rfl, hi0, hs0, hk0⟩
  have HI0 := hide hi0
  have HK0 := hide hk0
  clear hi0 hk0
  have hz0 : w.heap.size ≤ w1.heap.size := hs0
  have hq0 : Hid (Keep3 w w1) := HK0.out
  go_wp2
  go_ret
  exact ⟨rfl, HI0.out, hz0, hq0.out⟩

set_option maxHeartbeats 1000000 in
theorem eachC_word {caps : Array Value} {Inv : List (Int × Int) → World → Prop} (T : Taker 51 caps Inv) (w : World) (hI : Inv [] w) :
    Calls Tryd.prog 50 #[.string ⟨#[119, 111, 114, 100]⟩, .func (.func 51) #[] caps] w fun e w' => e = .returned (.bool true) ∧ Inv ps_word w' ∧ w.heap.size ≤ w'.heap.size ∧ Keep3 w w' := by
  have HI := hide hI
  have HT := hide T
  clear hI T
  go_enter Tryd.func50, Tryd.ntmps50
  go_wp2_with fail
  refine (alnumC HT.out [] (by decide) w HI.out).mono ?_
  rintro e w1 ⟨rfl, hi0, hs0, hk0⟩
  have HI0 := hide hi0
  have HK0 := hide hk0
  clear hi0 hk0
  have hz0 : w.heap.size ≤ w1.heap.size := hs0
  have hq0 : Hid (Keep3 w w1) := HK0.out
  go_wp2_with fail
  refine (handC HT.out ([(95, 95)] : List (Int × Int)) (by decide) 2 (by decide) w1.heap.size ([] ++ psAlnum) (by decide) _ (HT.out.below _ w1 _ HI0.out ((Below.refl _ w1).alloc (Nat.le_refl _) _)) (heap_alloc_new w1 _)).mono ?_
  rintro e w2 ⟨rfl, hi1, hs1, hk1⟩
  have HI1 := hide hi1
  have HK1 := hide hk1
  clear hi1 hk1
  have hz1 : w1.heap.size ≤ w2.heap.size := by simp at hs1; omega
  have hq1 : Hid (Keep3 w1 w2) := (Keep3.below ((Below.refl _ w1).alloc (Nat.le_refl _) _)).trans HK1.out
  go_wp2
  go_ret
  exact ⟨rfl, HI1.out, (Nat.le_trans hz0 hz1), (Keep3.trans hq0.out hq1.out)⟩

set_option maxHeartbeats 1000000 in
theorem eachC_graph {caps : Array Value} {Inv : List (Int × Int) → World → Prop} (T : Taker 51 caps Inv) (w : World) (hI : Inv [] w) :
    Calls Tryd.prog 50 #[.string ⟨#[103, 114, 97, 112, 104]⟩, .func (.func 51) #[] caps] w fun e w' => e = .returned (.bool true) ∧ Inv ps_graph w' ∧ w.heap.size ≤ w'.heap.size ∧ Keep3 w w' := by
  have HI := hide hI
  have HT := hide T
  clear hI T
  go_enter Tryd.func50, Tryd.ntmps50
  go_wp2_with fail
  refine (alnumC HT.out [] (by decide) w HI.out).mono ?_
  rintro e w1 ⟨rfl, hi0, hs0, hk0⟩
  have HI0 := hide hi0
  have HK0 := hide hk0
  clear hi0 hk0
  have hz0 : w.heap.size ≤ w1.heap.size := hs0
  have hq0 : Hid (Keep3 w w1) := HK0.out
  go_wp2_with fail
  refine (punctC HT.out ([] ++ psAlnum) (by decide) w1 HI0.out).mono ?_
  rintro e w2 ⟨rfl, hi1, hs1, hk1⟩
  have HI1 := hide hi1
  have HK1 := hide hk1
  clear hi1 hk1
  have hz1 : w1.heap.size ≤ w2.heap.size := hs1
  have hq1 : Hid (Keep3 w1 w2) := HK1.out
  go_wp2
  go_ret
  exact ⟨rfl, HI1.out, (Nat.le_trans hz0 hz1), (Keep3.trans hq0.out hq1.out)⟩

end Go.Proofs.YtojjfmnbpfpanaaDoor.Fo
