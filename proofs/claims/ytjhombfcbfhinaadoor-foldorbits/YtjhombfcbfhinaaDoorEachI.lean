/- What eachRange hands on to the function literal of In: the ranges of each class. -/
import Derived.Test.YtjhombfcbfhinaaDoorEach
namespace Go.Proofs.YtjhombfcbfhinaaDoor
open Go.RowKit
set_option linter.unusedVariables false

set_option maxHeartbeats 1000000 in
theorem eachI_any {caps : Array Value} {Inv : List (Int × Int) → World → Prop} (T : Taker 35 caps Inv) (w : World) (hI : Inv [] w) :
    Calls Tryd.prog 29 #[.string ⟨#[97, 110, 121]⟩, .func (.func 35) #[] caps] w fun e w' => e = .returned (.bool true) ∧ Inv ps_any w' ∧ w.heap.size ≤ w'.heap.size ∧ Keep3 w w' := by
  have HI := hide hI
  have HT := hide T
  clear hI T
  go_enter Tryd.func29, Tryd.ntmps29
  go_wp2_with fail
  refine (handI HT.out ([(0, 1114111)] : List (Int × Int)) (by decide) 2 (by decide) w.heap.size [] (by decide) _ (HT.out.below _ w _ HI.out ((Below.refl _ w).alloc (Nat.le_refl _) _)) (heap_alloc_new w _)).mono ?_
  rintro e w1 ⟨rfl, hi0, hs0, hk0⟩
  have HI0 := hide hi0
  have HK0 := hide hk0
  clear hi0 hk0
  have hz0 : w.heap.size ≤ w1.heap.size := by simp at hs0; omega
  have hq0 : Hid (Keep3 w w1) := (Keep3.below ((Below.refl _ w).alloc (Nat.le_refl _) _)).trans HK0.out
  go_wp2
  go_ret
  exact ⟨rfl, HI0.out, hz0, hq0.out⟩

set_option maxHeartbeats 1000000 in
theorem eachI_ascii {caps : Array Value} {Inv : List (Int × Int) → World → Prop} (T : Taker 35 caps Inv) (w : World) (hI : Inv [] w) :
    Calls Tryd.prog 29 #[.string ⟨#[97, 115, 99, 105, 105]⟩, .func (.func 35) #[] caps] w fun e w' => e = .returned (.bool true) ∧ Inv ps_ascii w' ∧ w.heap.size ≤ w'.heap.size ∧ Keep3 w w' := by
  have HI := hide hI
  have HT := hide T
  clear hI T
  go_enter Tryd.func29, Tryd.ntmps29
  go_wp2_with fail
  refine (handI HT.out ([(0, 127)] : List (Int × Int)) (by decide) 2 (by decide) w.heap.size [] (by decide) _ (HT.out.below _ w _ HI.out ((Below.refl _ w).alloc (Nat.le_refl _) _)) (heap_alloc_new w _)).mono ?_
  rintro e w1 ⟨rfl, hi0, hs0, hk0⟩
  have HI0 := hide hi0
  have HK0 := hide hk0
  clear hi0 hk0
  have hz0 : w.heap.size ≤ w1.heap.size := by simp at hs0; omega
  have hq0 : Hid (Keep3 w w1) := (Keep3.below ((Below.refl _ w).alloc (Nat.le_refl _) _)).trans HK0.out
  go_wp2
  go_ret
  exact ⟨rfl, HI0.out, hz0, hq0.out⟩

set_option maxHeartbeats 1000000 in
theorem eachI_cntrl {caps : Array Value} {Inv : List (Int × Int) → World → Prop} (T : Taker 35 caps Inv) (w : World) (hI : Inv [] w) :
    Calls Tryd.prog 29 #[.string ⟨#[99, 110, 116, 114, 108]⟩, .func (.func 35) #[] caps] w fun e w' => e = .returned (.bool true) ∧ Inv ps_cntrl w' ∧ w.heap.size ≤ w'.heap.size ∧ Keep3 w w' := by
  have HI := hide hI
  have HT := hide T
  clear hI T
  go_enter Tryd.func29, Tryd.ntmps29
  go_wp2_with fail
  refine (handI HT.out ([(0, 31), (127, 159)] : List (Int × Int)) (by decide) 4 (by decide) w.heap.size [] (by decide) _ (HT.out.below _ w _ HI.out ((Below.refl _ w).alloc (Nat.le_refl _) _)) (heap_alloc_new w _)).mono ?_
  rintro e w1 ⟨rfl, hi0, hs0, hk0⟩
  have HI0 := hide hi0
  have HK0 := hide hk0
  clear hi0 hk0
  have hz0 : w.heap.size ≤ w1.heap.size := by simp at hs0; omega
  have hq0 : Hid (Keep3 w w1) := (Keep3.below ((Below.refl _ w).alloc (Nat.le_refl _) _)).trans HK0.out
  go_wp2
  go_ret
  exact ⟨rfl, HI0.out, hz0, hq0.out⟩

set_option maxHeartbeats 1000000 in
theorem eachI_digit {caps : Array Value} {Inv : List (Int × Int) → World → Prop} (T : Taker 35 caps Inv) (w : World) (hI : Inv [] w) :
    Calls Tryd.prog 29 #[.string ⟨#[100, 105, 103, 105, 116]⟩, .func (.func 35) #[] caps] w fun e w' => e = .returned (.bool true) ∧ Inv ps_digit w' ∧ w.heap.size ≤ w'.heap.size ∧ Keep3 w w' := by
  have HI := hide hI
  have HT := hide T
  clear hI T
  go_enter Tryd.func29, Tryd.ntmps29
  go_wp2_with fail
  refine (digitI HT.out [] (by decide) w HI.out).mono ?_
  rintro e w1 ⟨rfl, hi0, hs0, hk0⟩
  have HI0 := hide hi0
  have HK0 := hide hk0
  clear hi0 hk0
  have hz0 : w.heap.size ≤ w1.heap.size := hs0
  have hq0 : Hid (Keep3 w w1) := HK0.out
  go_wp2
  go_ret
  exact ⟨rfl, HI0.out, hz0, hq0.out⟩

set_option maxHeartbeats 1000000 in
theorem eachI_xdigit {caps : Array Value} {Inv : List (Int × Int) → World → Prop} (T : Taker 35 caps Inv) (w : World) (hI : Inv [] w) :
    Calls Tryd.prog 29 #[.string ⟨#[120, 100, 105, 103, 105, 116]⟩, .func (.func 35) #[] caps] w fun e w' => e = .returned (.bool true) ∧ Inv ps_xdigit w' ∧ w.heap.size ≤ w'.heap.size ∧ Keep3 w w' := by
  have HI := hide hI
  have HT := hide T
  clear hI T
  go_enter Tryd.func29, Tryd.ntmps29
  go_wp2_with fail
  refine (handI HT.out ([(48, 57), (65, 70), (97, 102)] : List (Int × Int)) (by decide) 6 (by decide) w.heap.size [] (by decide) _ (HT.out.below _ w _ HI.out ((Below.refl _ w).alloc (Nat.le_refl _) _)) (heap_alloc_new w _)).mono ?_
  rintro e w1 ⟨rfl, hi0, hs0, hk0⟩
  have HI0 := hide hi0
  have HK0 := hide hk0
  clear hi0 hk0
  have hz0 : w.heap.size ≤ w1.heap.size := by simp at hs0; omega
  have hq0 : Hid (Keep3 w w1) := (Keep3.below ((Below.refl _ w).alloc (Nat.le_refl _) _)).trans HK0.out
  go_wp2
  go_ret
  exact ⟨rfl, HI0.out, hz0, hq0.out⟩

set_option maxHeartbeats 1000000 in
theorem eachI_blank {caps : Array Value} {Inv : List (Int × Int) → World → Prop} (T : Taker 35 caps Inv) (w : World) (hI : Inv [] w) :
    Calls Tryd.prog 29 #[.string ⟨#[98, 108, 97, 110, 107]⟩, .func (.func 35) #[] caps] w fun e w' => e = .returned (.bool true) ∧ Inv ps_blank w' ∧ w.heap.size ≤ w'.heap.size ∧ Keep3 w w' := by
  have HI := hide hI
  have HT := hide T
  clear hI T
  go_enter Tryd.func29, Tryd.ntmps29
  go_wp2_with fail
  refine (handI HT.out ([(9, 9), (32, 32)] : List (Int × Int)) (by decide) 4 (by decide) w.heap.size [] (by decide) _ (HT.out.below _ w _ HI.out ((Below.refl _ w).alloc (Nat.le_refl _) _)) (heap_alloc_new w _)).mono ?_
  rintro e w1 ⟨rfl, hi0, hs0, hk0⟩
  have HI0 := hide hi0
  have HK0 := hide hk0
  clear hi0 hk0
  have hz0 : w.heap.size ≤ w1.heap.size := by simp at hs0; omega
  have hq0 : Hid (Keep3 w w1) := (Keep3.below ((Below.refl _ w).alloc (Nat.le_refl _) _)).trans HK0.out
  go_wp2
  go_ret
  exact ⟨rfl, HI0.out, hz0, hq0.out⟩

set_option maxHeartbeats 1000000 in
theorem eachI_space {caps : Array Value} {Inv : List (Int × Int) → World → Prop} (T : Taker 35 caps Inv) (w : World) (hI : Inv [] w) :
    Calls Tryd.prog 29 #[.string ⟨#[115, 112, 97, 99, 101]⟩, .func (.func 35) #[] caps] w fun e w' => e = .returned (.bool true) ∧ Inv ps_space w' ∧ w.heap.size ≤ w'.heap.size ∧ Keep3 w w' := by
  have HI := hide hI
  have HT := hide T
  clear hI T
  go_enter Tryd.func29, Tryd.ntmps29
  go_wp2_with fail
  refine (handI HT.out ([(9, 13), (32, 32), (133, 133), (160, 160), (8192, 8202), (8232, 8233), (12288, 12288)] : List (Int × Int)) (by decide) 14 (by decide) w.heap.size [] (by decide) _ (HT.out.below _ w _ HI.out ((Below.refl _ w).alloc (Nat.le_refl _) _)) (heap_alloc_new w _)).mono ?_
  rintro e w1 ⟨rfl, hi0, hs0, hk0⟩
  have HI0 := hide hi0
  have HK0 := hide hk0
  clear hi0 hk0
  have hz0 : w.heap.size ≤ w1.heap.size := by simp at hs0; omega
  have hq0 : Hid (Keep3 w w1) := (Keep3.below ((Below.refl _ w).alloc (Nat.le_refl _) _)).trans HK0.out
  go_wp2
  go_ret
  exact ⟨rfl, HI0.out, hz0, hq0.out⟩

set_option maxHeartbeats 1000000 in
theorem eachI_punct {caps : Array Value} {Inv : List (Int × Int) → World → Prop} (T : Taker 35 caps Inv) (w : World) (hI : Inv [] w) :
    Calls Tryd.prog 29 #[.string ⟨#[112, 117, 110, 99, 116]⟩, .func (.func 35) #[] caps] w fun e w' => e = .returned (.bool true) ∧ Inv ps_punct w' ∧ w.heap.size ≤ w'.heap.size ∧ Keep3 w w' := by
  have HI := hide hI
  have HT := hide T
  clear hI T
  go_enter Tryd.func29, Tryd.ntmps29
  go_wp2_with fail
  refine (punctI HT.out [] (by decide) w HI.out).mono ?_
  rintro e w1 ⟨rfl, hi0, hs0, hk0⟩
  have HI0 := hide hi0
  have HK0 := hide hk0
  clear hi0 hk0
  have hz0 : w.heap.size ≤ w1.heap.size := hs0
  have hq0 : Hid (Keep3 w w1) := HK0.out
  go_wp2
  go_ret
  exact ⟨rfl, HI0.out, hz0, hq0.out⟩

set_option maxHeartbeats 1000000 in
theorem eachI_alpha {caps : Array Value} {Inv : List (Int × Int) → World → Prop} (T : Taker 35 caps Inv) (w : World) (hI : Inv [] w) :
    Calls Tryd.prog 29 #[.string ⟨#[97, 108, 112, 104, 97]⟩, .func (.func 35) #[] caps] w fun e w' => e = .returned (.bool true) ∧ Inv ps_alpha w' ∧ w.heap.size ≤ w'.heap.size ∧ Keep3 w w' := by
  have HI := hide hI
  have HT := hide T
  clear hI T
  go_enter Tryd.func29, Tryd.ntmps29
  go_wp2_with fail
  refine (alphaI HT.out [] (by decide) w HI.out).mono ?_
  rintro e w1 ⟨rfl, hi0, hs0, hk0⟩
  have HI0 := hide hi0
  have HK0 := hide hk0
  clear hi0 hk0
  have hz0 : w.heap.size ≤ w1.heap.size := hs0
  have hq0 : Hid (Keep3 w w1) := HK0.out
  go_wp2
  go_ret
  exact ⟨rfl, HI0.out, hz0, hq0.out⟩

set_option maxHeartbeats 1000000 in
theorem eachI_upper {caps : Array Value} {Inv : List (Int × Int) → World → Prop} (T : Taker 35 caps Inv) (w : World) (hI : Inv [] w) :
    Calls Tryd.prog 29 #[.string ⟨#[117, 112, 112, 101, 114]⟩, .func (.func 35) #[] caps] w fun e w' => e = .returned (.bool true) ∧ Inv ps_upper w' ∧ w.heap.size ≤ w'.heap.size ∧ Keep3 w w' := by
  have HI := hide hI
  have HT := hide T
  clear hI T
  go_enter Tryd.func29, Tryd.ntmps29
  go_wp2_with fail
  refine (handI HT.out ([(65, 90), (192, 214), (216, 222)] : List (Int × Int)) (by decide) 6 (by decide) w.heap.size [] (by decide) _ (HT.out.below _ w _ HI.out ((Below.refl _ w).alloc (Nat.le_refl _) _)) (heap_alloc_new w _)).mono ?_
  rintro e w1 ⟨rfl, hi0, hs0, hk0⟩
  have HI0 := hide hi0
  have HK0 := hide hk0
  clear hi0 hk0
  have hz0 : w.heap.size ≤ w1.heap.size := by simp at hs0; omega
  have hq0 : Hid (Keep3 w w1) := (Keep3.below ((Below.refl _ w).alloc (Nat.le_refl _) _)).trans HK0.out
  go_wp2_with fail
  refine (everyI HT.out 256 302 (by decide) (by decide) (by decide) ([] ++ ([(65, 90), (192, 214), (216, 222)] : List (Int × Int))) (by decide) w1 HI0.out).mono ?_
  rintro e w2 ⟨rfl, hi1, hs1, hk1⟩
  have HI1 := hide hi1
  have HK1 := hide hk1
  clear hi1 hk1
  have hz1 : w1.heap.size ≤ w2.heap.size := hs1
  have hq1 : Hid (Keep3 w1 w2) := HK1.out
  go_wp2_with fail
  refine (handI HT.out ([(913, 929), (931, 939), (1024, 1071), (7838, 7838), (8490, 8491)] : List (Int × Int)) (by decide) 10 (by decide) w2.heap.size ([] ++ ([(65, 90), (192, 214), (216, 222)] : List (Int × Int)) ++ psEvery 256 24) (by decide) _ (HT.out.below _ w2 _ HI1.out ((Below.refl _ w2).alloc (Nat.le_refl _) _)) (heap_alloc_new w2 _)).mono ?_
  rintro e w3 ⟨rfl, hi2, hs2, hk2⟩
  have HI2 := hide hi2
  have HK2 := hide hk2
  clear hi2 hk2
  have hz2 : w2.heap.size ≤ w3.heap.size := by simp at hs2; omega
  have hq2 : Hid (Keep3 w2 w3) := (Keep3.below ((Below.refl _ w2).alloc (Nat.le_refl _) _)).trans HK2.out
  go_wp2
  go_ret
  exact ⟨rfl, HI2.out, (Nat.le_trans (Nat.le_trans hz0 hz1) hz2), (Keep3.trans (Keep3.trans hq0.out hq1.out) hq2.out)⟩

set_option maxHeartbeats 1000000 in
theorem eachI_lower {caps : Array Value} {Inv : List (Int × Int) → World → Prop} (T : Taker 35 caps Inv) (w : World) (hI : Inv [] w) :
    Calls Tryd.prog 29 #[.string ⟨#[108, 111, 119, 101, 114]⟩, .func (.func 35) #[] caps] w fun e w' => e = .returned (.bool true) ∧ Inv ps_lower w' ∧ w.heap.size ≤ w'.heap.size ∧ Keep3 w w' := by
  have HI := hide hI
  have HT := hide T
  clear hI T
  go_enter Tryd.func29, Tryd.ntmps29
  go_wp2_with fail
  refine (handI HT.out ([(97, 122), (181, 181), (223, 246), (248, 255)] : List (Int × Int)) (by decide) 8 (by decide) w.heap.size [] (by decide) _ (HT.out.below _ w _ HI.out ((Below.refl _ w).alloc (Nat.le_refl _) _)) (heap_alloc_new w _)).mono ?_
  rintro e w1 ⟨rfl, hi0, hs0, hk0⟩
  have HI0 := hide hi0
  have HK0 := hide hk0
  clear hi0 hk0
  have hz0 : w.heap.size ≤ w1.heap.size := by simp at hs0; omega
  have hq0 : Hid (Keep3 w w1) := (Keep3.below ((Below.refl _ w).alloc (Nat.le_refl _) _)).trans HK0.out
  go_wp2_with fail
  refine (everyI HT.out 257 303 (by decide) (by decide) (by decide) ([] ++ ([(97, 122), (181, 181), (223, 246), (248, 255)] : List (Int × Int))) (by decide) w1 HI0.out).mono ?_
  rintro e w2 ⟨rfl, hi1, hs1, hk1⟩
  have HI1 := hide hi1
  have HK1 := hide hk1
  clear hi1 hk1
  have hz1 : w1.heap.size ≤ w2.heap.size := hs1
  have hq1 : Hid (Keep3 w1 w2) := HK1.out
  go_wp2_with fail
  refine (handI HT.out ([(945, 971), (1072, 1119)] : List (Int × Int)) (by decide) 4 (by decide) w2.heap.size ([] ++ ([(97, 122), (181, 181), (223, 246), (248, 255)] : List (Int × Int)) ++ psEvery 257 24) (by decide) _ (HT.out.below _ w2 _ HI1.out ((Below.refl _ w2).alloc (Nat.le_refl _) _)) (heap_alloc_new w2 _)).mono ?_
  rintro e w3 ⟨rfl, hi2, hs2, hk2⟩
  have HI2 := hide hi2
  have HK2 := hide hk2
  clear hi2 hk2
  have hz2 : w2.heap.size ≤ w3.heap.size := by simp at hs2; omega
  have hq2 : Hid (Keep3 w2 w3) := (Keep3.below ((Below.refl _ w2).alloc (Nat.le_refl _) _)).trans HK2.out
  go_wp2
  go_ret
  exact ⟨rfl, HI2.out, (Nat.le_trans (Nat.le_trans hz0 hz1) hz2), (Keep3.trans (Keep3.trans hq0.out hq1.out) hq2.out)⟩

set_option maxHeartbeats 1000000 in
theorem eachI_alnum {caps : Array Value} {Inv : List (Int × Int) → World → Prop} (T : Taker 35 caps Inv) (w : World) (hI : Inv [] w) :
    Calls Tryd.prog 29 #[.string ⟨#[97, 108, 110, 117, 109]⟩, .func (.func 35) #[] caps] w fun e w' => e = .returned (.bool true) ∧ Inv ps_alnum w' ∧ w.heap.size ≤ w'.heap.size ∧ Keep3 w w' := by
  have HI := hide hI
  have HT := hide T
  clear hI T
  go_enter Tryd.func29, Tryd.ntmps29
  go_wp2_with fail
  refine (alnumI HT.out [] (by decide) w HI.out).mono ?_
  rintro e w1 ⟨rfl, hi0, hs0, hk0⟩
  have HI0 := hide hi0
  have HK0 := hide hk0
  clear hi0 hk0
  have hz0 : w.heap.size ≤ w1.heap.size := hs0
  have hq0 : Hid (Keep3 w w1) := HK0.out
  go_wp2
  go_ret
  exact ⟨rfl, HI0.out, hz0, hq0.out⟩

set_option maxHeartbeats 1000000 in
theorem eachI_word {caps : Array Value} {Inv : List (Int × Int) → World → Prop} (T : Taker 35 caps Inv) (w : World) (hI : Inv [] w) :
    Calls Tryd.prog 29 #[.string ⟨#[119, 111, 114, 100]⟩, .func (.func 35) #[] caps] w fun e w' => e = .returned (.bool true) ∧ Inv ps_word w' ∧ w.heap.size ≤ w'.heap.size ∧ Keep3 w w' := by
  have HI := hide hI
  have HT := hide T
  clear hI T
  go_enter Tryd.func29, Tryd.ntmps29
  go_wp2_with fail
  refine (alnumI HT.out [] (by decide) w HI.out).mono ?_
  rintro e w1 ⟨rfl, hi0, hs0, hk0⟩
  have HI0 := hide hi0
  have HK0 := hide hk0
  clear hi0 hk0
  have hz0 : w.heap.size ≤ w1.heap.size := hs0
  have hq0 : Hid (Keep3 w w1) := HK0.out
  go_wp2_with fail
  refine (handI HT.out ([(95, 95)] : List (Int × Int)) (by decide) 2 (by decide) w1.heap.size ([] ++ psAlnum) (by decide) _ (HT.out.below _ w1 _ HI0.out ((Below.refl _ w1).alloc (Nat.le_refl _) _)) (heap_alloc_new w1 _)).mono ?_
  rintro e w2 ⟨rfl, hi1, hs1, hk1⟩
  have HI1 := hide hi1
  have HK1 := hide hk1
  clear hi1 hk1
  have hz1 : w1.heap.size ≤ w2.heap.size := by simp at hs1; omega
  have hq1 : Hid (Keep3 w1 w2) := (Keep3.below ((Below.refl _ w1).alloc (Nat.le_refl _) _)).trans HK1.out
  go_wp2
  go_ret
  exact ⟨rfl, HI1.out, (Nat.le_trans hz0 hz1), (Keep3.trans hq0.out hq1.out)⟩

set_option maxHeartbeats 1000000 in
theorem eachI_graph {caps : Array Value} {Inv : List (Int × Int) → World → Prop} (T : Taker 35 caps Inv) (w : World) (hI : Inv [] w) :
    Calls Tryd.prog 29 #[.string ⟨#[103, 114, 97, 112, 104]⟩, .func (.func 35) #[] caps] w fun e w' => e = .returned (.bool true) ∧ Inv ps_graph w' ∧ w.heap.size ≤ w'.heap.size ∧ Keep3 w w' := by
  have HI := hide hI
  have HT := hide T
  clear hI T
  go_enter Tryd.func29, Tryd.ntmps29
  go_wp2_with fail
  refine (alnumI HT.out [] (by decide) w HI.out).mono ?_
  rintro e w1 ⟨rfl, hi0, hs0, hk0⟩
  have HI0 := hide hi0
  have HK0 := hide hk0
  clear hi0 hk0
  have hz0 : w.heap.size ≤ w1.heap.size := hs0
  have hq0 : Hid (Keep3 w w1) := HK0.out
  go_wp2_with fail
  refine (punctI HT.out ([] ++ psAlnum) (by decide) w1 HI0.out).mono ?_
  rintro e w2 ⟨rfl, hi1, hs1, hk1⟩
  have HI1 := hide hi1
  have HK1 := hide hk1
  clear hi1 hk1
  have hz1 : w1.heap.size ≤ w2.heap.size := hs1
  have hq1 : Hid (Keep3 w1 w2) := HK1.out
  go_wp2
  go_ret
  exact ⟨rfl, HI1.out, (Nat.le_trans hz0 hz1), (Keep3.trans hq0.out hq1.out)⟩

end Go.Proofs.YtjhombfcbfhinaaDoor
