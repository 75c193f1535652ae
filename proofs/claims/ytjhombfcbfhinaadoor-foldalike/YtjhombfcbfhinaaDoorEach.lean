/- What the functions of fold hand on of a class: its ranges, one by one, to whatever is called with each. -/
import Derived.Test.YtjhombfcbfhinaaDoorLeaf
import Derived.Deep.RegionWith
namespace Go.Proofs.YtjhombfcbfhinaaDoor
open Go.RowKit
set_option linter.unusedVariables false

/-- rows of numbers stay. -/
def Keep3 (w w' : World) : Prop := ∀ (k : Nat) (cs : Array Value), w.heap[k]? = some (.cells cs 3 (0, 0)) → w'.heap[k]? = some (.cells cs 3 (0, 0))
theorem Keep3.refl (w : World) : Keep3 w w := fun _ _ h => h
theorem Keep3.trans {a b c : World} (h : Keep3 a b) (k : Keep3 b c) : Keep3 a c := fun i cs hi => k i cs (h i cs hi)
theorem Keep3.below {w w' : World} (h : Below w.heap.size w w') : Keep3 w w' := fun i cs hi => by rw [h.block i (lt_of_block hi)]; exact hi

/-- who takes ranges, one by one. -/
structure Taker (F : Nat) (caps : Array Value) (Inv : List (Int × Int) → World → Prop) : Prop where
  enters : ∀ args w, (callFunc F args).run Tryd.prog w = .ok (.enter F args) w
  take : ∀ L a b w, L.length ≤ 1000 → Inv L w → Calls Tryd.prog F (#[.int .i64 a, .int .i64 b] ++ caps) w fun e w' => e = .returned (.tuple #[]) ∧ Inv (L ++ [(a, b)]) w' ∧ w.heap.size ≤ w'.heap.size ∧ Keep3 w w'
  below : ∀ L w w', Inv L w → Below w.heap.size w w' → Inv L w'

def flat2 (ps : List (Int × Int)) : List Int := ps.flatMap fun x => [x.1, x.2]
theorem flat2_len (ps : List (Int × Int)) : (flat2 ps).length = 2 * ps.length := by
  induction ps with
  | nil => rfl
  | cons x xs ih => simp [flat2] at ih ⊢; omega
theorem flat2_get (ps : List (Int × Int)) (k : Nat) (h : k < ps.length) : (flat2 ps)[2 * k]? = some ps[k].1 ∧ (flat2 ps)[2 * k + 1]? = some ps[k].2 := by
  induction ps generalizing k with
  | nil => simp at h
  | cons x xs ih =>
    match k with
    | 0 => simp [flat2]
    | k + 1 =>
      have := ih k (by simpa using h)
      have e : flat2 (x :: xs) = x.1 :: x.2 :: flat2 xs := rfl
      rw [e]
      rw [show 2 * (k + 1) = 2 * k + 1 + 1 from by omega]
      simpa using this

def psDigit : List (Int × Int) := [(48, 57), (1632, 1641)]
def psPunct1 : List (Int × Int) := [(33, 47), (58, 64), (91, 96), (123, 126)]
def psPunct2 : List (Int × Int) := [(161, 169), (171, 180), (182, 185), (187, 191), (215, 215), (247, 247)]
def psPunct : List (Int × Int) := psPunct1 ++ psPunct2
def psAlpha1 : List (Int × Int) := [(65, 90), (97, 122), (170, 170), (181, 181), (186, 186), (192, 214), (216, 246), (248, 591)]
def psAlpha2 : List (Int × Int) := [(913, 929), (931, 974), (1024, 1153), (7838, 7838), (8490, 8491)]
def psAlpha : List (Int × Int) := psAlpha1 ++ psAlpha2
def psAlnum : List (Int × Int) := psAlpha ++ psDigit
def psEvery (a : Int) (n : Nat) : List (Int × Int) := (List.range n).map fun (i : Nat) => (a + 2 * (i : Int), a + 2 * (i : Int))
theorem psEvery_succ (a : Int) (n : Nat) : psEvery a (n + 1) = psEvery a n ++ [(a + 2 * (n : Int), a + 2 * (n : Int))] := by
  simp [psEvery, List.range_succ]
theorem psEvery_len (a : Int) (n : Nat) : (psEvery a n).length = n := by simp [psEvery]
def ps_any : List (Int × Int) := [(0, 1114111)]
def nm_any : ByteArray := ⟨#[97, 110, 121]⟩
def ps_ascii : List (Int × Int) := [(0, 127)]
def nm_ascii : ByteArray := ⟨#[97, 115, 99, 105, 105]⟩
def ps_cntrl : List (Int × Int) := [(0, 31), (127, 159)]
def nm_cntrl : ByteArray := ⟨#[99, 110, 116, 114, 108]⟩
def ps_digit : List (Int × Int) := psDigit
def nm_digit : ByteArray := ⟨#[100, 105, 103, 105, 116]⟩
def ps_xdigit : List (Int × Int) := [(48, 57), (65, 70), (97, 102)]
def nm_xdigit : ByteArray := ⟨#[120, 100, 105, 103, 105, 116]⟩
def ps_blank : List (Int × Int) := [(9, 9), (32, 32)]
def nm_blank : ByteArray := ⟨#[98, 108, 97, 110, 107]⟩
def ps_space : List (Int × Int) := [(9, 13), (32, 32), (133, 133), (160, 160), (8192, 8202), (8232, 8233), (12288, 12288)]
def nm_space : ByteArray := ⟨#[115, 112, 97, 99, 101]⟩
def ps_punct : List (Int × Int) := psPunct
def nm_punct : ByteArray := ⟨#[112, 117, 110, 99, 116]⟩
def ps_alpha : List (Int × Int) := psAlpha
def nm_alpha : ByteArray := ⟨#[97, 108, 112, 104, 97]⟩
def ps_upper : List (Int × Int) := [(65, 90), (192, 214), (216, 222)] ++ psEvery 256 24 ++ [(913, 929), (931, 939), (1024, 1071), (7838, 7838), (8490, 8491)]
def nm_upper : ByteArray := ⟨#[117, 112, 112, 101, 114]⟩
def ps_lower : List (Int × Int) := [(97, 122), (181, 181), (223, 246), (248, 255)] ++ psEvery 257 24 ++ [(945, 971), (1072, 1119)]
def nm_lower : ByteArray := ⟨#[108, 111, 119, 101, 114]⟩
def ps_alnum : List (Int × Int) := psAlnum
def nm_alnum : ByteArray := ⟨#[97, 108, 110, 117, 109]⟩
def ps_word : List (Int × Int) := psAlnum ++ [(95, 95)]
def nm_word : ByteArray := ⟨#[119, 111, 114, 100]⟩
def ps_graph : List (Int × Int) := psAlnum ++ psPunct
def nm_graph : ByteArray := ⟨#[103, 114, 97, 112, 104]⟩
set_option maxHeartbeats 1000000 in
theorem handI {caps : Array Value} {Inv : List (Int × Int) → World → Prop} (T : Taker 35 caps Inv) (ps : List (Int × Int)) (hn : ps.length ≤ 100) (n : Nat) (hnn : n = 2 * ps.length) (g : Nat) (L : List (Int × Int)) (hL : L.length ≤ 800) (w : World) (hI : Inv L w) (hrow : w.heap[g]? = some (.cells (i64s (flat2 ps)).toArray 3 (0, 0))) :
    Calls Tryd.prog 41 #[.func (.func 35) #[] caps, .slice (some ⟨g, 0, none⟩) n n] w fun e w' => e = .returned (.tuple #[]) ∧ Inv (L ++ ps) w' ∧ w.heap.size ≤ w'.heap.size ∧ Keep3 w w' := by
  have HI := hide hI
  have HR := hide hrow
  have HT := hide T
  have ent := T.enters
  have HN := hide hnn
  have hn2 : n ≤ 200 := by omega
  clear hI hrow T hnn
  go_enter Tryd.func41, Tryd.ntmps41
  go_wp2
  go_loopw [4] (fun i wr => ∃ k j : Nat, k ≤ ps.length ∧ j = 2 * k ∧ i = .int .i64 j ∧ Inv (L ++ ps.take k) wr ∧ w.heap.size ≤ wr.heap.size ∧ Keep3 w wr) (fun i _ => n - (intOf i).toNat)
  case atStart => exact ⟨0, 0, Nat.zero_le _, rfl, rfl, by simpa using HI.out, Nat.le_refl _, Keep3.refl w⟩
  case round =>
    obtain ⟨k, j, hk, hj, rfl, hinv, hsz, hk3⟩ := hrel
    have HJ := hide hj
    by_cases hlt : k < ps.length
    · have hjn : j + 1 < n := by have := HN.out; omega
      have b0 : j < n := by omega
      have b1 : (0 : Int) ≤ (j : Int) + 1 := by omega
      have b2 : (j : Int) + 1 < (n : Int) := by omega
      have b3 : IntKind.i64.wrap ((j : Int) + 1) = (j : Int) + 1 := by rw [IntKind.wrap_i64]; omega
      have hrow := hk3 _ _ HR.out
      obtain ⟨x, hx⟩ : ∃ x, x = ps[k] := ⟨_, rfl⟩
      obtain ⟨g1, g2⟩ := flat2_get ps k hlt
      obtain ⟨x1, x2⟩ := x
      have c1 : wr.cell? ⟨g, j, none⟩ = some (.int .i64 x1) := by rw [hj]; simp [World.cell?, hrow, i64s, g1, ← hx]
      have c2 : wr.cell? ⟨g, j + 1, none⟩ = some (.int .i64 x2) := by rw [hj]; simp [World.cell?, hrow, i64s, g2, ← hx]
      have HX := hide hx
      have HV := hide hinv
      have HTK : Hid (∀ w1, Below wr.heap.size wr w1 → Calls Tryd.prog 35 (#[.int .i64 x1, .int .i64 x2] ++ caps) w1 fun e w' => e = .returned (.tuple #[]) ∧ Hid (Inv (L ++ ps.take k ++ [(x1, x2)]) w') ∧ w1.heap.size ≤ w'.heap.size ∧ Hid (Keep3 w1 w')) := fun w1 hb => HT.out.take (L ++ ps.take k) x1 x2 w1 (by rw [List.length_append, List.length_take]; omega) (HT.out.below _ _ _ HV.out hb)
      clear hx hinv hrow g1 g2 hj
      go_wp2
      go_region_with (go_at_call 35; refine (HTK.out _ (by first | exact Below.refl _ _ | exact (Below.refl _ _).drew | exact (Below.refl _ _).drew.drew)).mono ?_; rintro e w1 ⟨rfl, HV1, hsz1, HK1⟩)
      all_goals
        go_wp2
        go_roundw
        case rel => exact ⟨k + 1, j + 2, by omega, by have := HJ.out; omega, by go_num, by rw [List.take_add_one, List.getElem?_eq_getElem hlt, ← HX.out, ← List.append_assoc]; exact HV1.out, Nat.le_trans hsz hsz1, hk3.trans HK1.out⟩
        case measure => simp [intOf]; omega
    · have hkl : k = ps.length := by omega
      subst hkl
      rw [List.take_length] at hinv
      have hjn : n ≤ j := by have := HN.out; omega
      go_wp2
      go_end0
      exact ⟨rfl, hinv, hsz, hk3⟩

set_option maxHeartbeats 1000000 in
theorem everyI {caps : Array Value} {Inv : List (Int × Int) → World → Prop} (T : Taker 35 caps Inv) (a b : Int) (h0 : 0 ≤ a) (h1 : b ≤ 10000) (hb : b = a + 46) (L : List (Int × Int)) (hL : L.length ≤ 800) (w : World) (hI : Inv L w) :
    Calls Tryd.prog 45 #[.func (.func 35) #[] caps, .int .i64 a, .int .i64 b] w fun e w' => e = .returned (.tuple #[]) ∧ Inv (L ++ psEvery a 24) w' ∧ w.heap.size ≤ w'.heap.size ∧ Keep3 w w' := by
  have HI := hide hI
  have HT := hide T
  have ent := T.enters
  have hab1 : b < a + 48 := by omega
  have hab2 : a + 46 ≤ b := by omega
  clear hI T hb
  go_enter Tryd.func45, Tryd.ntmps45
  go_wp2
  go_loopw [6] (fun i wr => ∃ (k : Nat) (j : Int), k ≤ 24 ∧ j = a + 2 * (k : Int) ∧ i = .int .i64 j ∧ Inv (L ++ psEvery a k) wr ∧ w.heap.size ≤ wr.heap.size ∧ Keep3 w wr) (fun i _ => (b + 2 - intOf i).toNat)
  case atStart => exact ⟨0, a, Nat.zero_le _, by simp, rfl, by simpa [psEvery] using HI.out, Nat.le_refl _, Keep3.refl w⟩
  case round =>
    obtain ⟨k, j, hk, hj, rfl, hinv, hsz, hk3⟩ := hrel
    have HJ := hide hj
    have j0 : 0 ≤ j := by omega
    have j1 : j ≤ 20000 := by omega
    by_cases hlt : k < 24
    · have hjb : j ≤ b := by omega
      have HV := hide hinv
      have HTK : Hid (∀ w1, Below wr.heap.size wr w1 → Calls Tryd.prog 35 (#[.int .i64 j, .int .i64 j] ++ caps) w1 fun e w' => e = .returned (.tuple #[]) ∧ Hid (Inv (L ++ psEvery a k ++ [(j, j)]) w') ∧ w1.heap.size ≤ w'.heap.size ∧ Hid (Keep3 w1 w')) := fun w1 hb => HT.out.take _ j j w1 (by rw [List.length_append, psEvery_len]; omega) (HT.out.below _ _ _ HV.out hb)
      clear hinv hj
      go_wp2_with (go_at_call 35; refine (HTK.out _ (Below.refl _ _)).mono ?_; rintro e w1 ⟨rfl, HV1, hsz1, HK1⟩)
      go_roundw
      case rel => exact ⟨k + 1, j + 2, by omega, by have := HJ.out; omega, by go_num, by rw [psEvery_succ, ← HJ.out, ← List.append_assoc]; exact HV1.out, Nat.le_trans hsz hsz1, hk3.trans HK1.out⟩
      case measure => simp [intOf]; omega
    · have hkl : k = 24 := by omega
      have hjb : ¬ j ≤ b := by omega
      have hjb2 : b < j := by omega
      have E : Hid (psEvery a 24 = psEvery a k) := by show _ = _; rw [hkl]
      have HV := hide hinv
      clear hinv hj hkl
      go_wp2
      go_end0
      exact ⟨rfl, by rw [E.out]; exact HV.out, hsz, hk3⟩

set_option maxHeartbeats 1000000 in
theorem digitI {caps : Array Value} {Inv : List (Int × Int) → World → Prop} (T : Taker 35 caps Inv) (L : List (Int × Int)) (hL : L.length ≤ 600) (w : World) (hI : Inv L w) :
    Calls Tryd.prog 42 #[.func (.func 35) #[] caps] w fun e w' => e = .returned (.tuple #[]) ∧ Inv (L ++ psDigit) w' ∧ w.heap.size ≤ w'.heap.size ∧ Keep3 w w' := by
  have HI := hide hI
  have HT := hide T
  clear hI T
  go_enter Tryd.func42, Tryd.ntmps42
  go_wp2_with fail
  refine (handI HT.out psDigit (by decide) 4 (by decide) w.heap.size (L) (by first | omega | (simp [psDigit, psPunct, psPunct1, psPunct2, psAlpha, psAlpha1, psAlpha2]; omega)) _ (HT.out.below _ w _ HI.out ((Below.refl _ w).alloc (Nat.le_refl _) _)) (heap_alloc_new w _)).mono ?_
  rintro e w1 ⟨rfl, hi0, hs0, hk0⟩
  have HI0 := hide hi0
  have HK0 := hide hk0
  clear hi0 hk0
  have hz0 : w.heap.size ≤ w1.heap.size := by simp at hs0; omega
  have hq0 : Hid (Keep3 w w1) := (Keep3.below ((Below.refl _ w).alloc (Nat.le_refl _) _)).trans HK0.out
  go_wp2
  go_end0
  exact ⟨rfl, by exact HI0.out, hz0, hq0.out⟩

set_option maxHeartbeats 1000000 in
theorem punctI {caps : Array Value} {Inv : List (Int × Int) → World → Prop} (T : Taker 35 caps Inv) (L : List (Int × Int)) (hL : L.length ≤ 600) (w : World) (hI : Inv L w) :
    Calls Tryd.prog 43 #[.func (.func 35) #[] caps] w fun e w' => e = .returned (.tuple #[]) ∧ Inv (L ++ psPunct) w' ∧ w.heap.size ≤ w'.heap.size ∧ Keep3 w w' := by
  have HI := hide hI
  have HT := hide T
  clear hI T
  go_enter Tryd.func43, Tryd.ntmps43
  go_wp2_with fail
  refine (handI HT.out psPunct1 (by decide) 8 (by decide) w.heap.size (L) (by first | omega | (simp [psDigit, psPunct, psPunct1, psPunct2, psAlpha, psAlpha1, psAlpha2]; omega)) _ (HT.out.below _ w _ HI.out ((Below.refl _ w).alloc (Nat.le_refl _) _)) (heap_alloc_new w _)).mono ?_
  rintro e w1 ⟨rfl, hi0, hs0, hk0⟩
  have HI0 := hide hi0
  have HK0 := hide hk0
  clear hi0 hk0
  have hz0 : w.heap.size ≤ w1.heap.size := by simp at hs0; omega
  have hq0 : Hid (Keep3 w w1) := (Keep3.below ((Below.refl _ w).alloc (Nat.le_refl _) _)).trans HK0.out
  go_wp2_with fail
  refine (handI HT.out psPunct2 (by decide) 12 (by decide) w1.heap.size (L ++ psPunct1) (by first | omega | (simp [psPunct1]; omega)) _ (HT.out.below _ w1 _ HI0.out ((Below.refl _ w1).alloc (Nat.le_refl _) _)) (heap_alloc_new w1 _)).mono ?_
  rintro e w2 ⟨rfl, hi1, hs1, hk1⟩
  have HI1 := hide hi1
  have HK1 := hide hk1
  clear hi1 hk1
  have hz1 : w1.heap.size ≤ w2.heap.size := by simp at hs1; omega
  have hq1 : Hid (Keep3 w1 w2) := (Keep3.below ((Below.refl _ w1).alloc (Nat.le_refl _) _)).trans HK1.out
  go_wp2
  go_end0
  exact ⟨rfl, by have h := HI1.out; rw [List.append_assoc] at h; exact h, (Nat.le_trans hz0 hz1), (Keep3.trans hq0.out hq1.out)⟩

set_option maxHeartbeats 1000000 in
theorem alphaI {caps : Array Value} {Inv : List (Int × Int) → World → Prop} (T : Taker 35 caps Inv) (L : List (Int × Int)) (hL : L.length ≤ 600) (w : World) (hI : Inv L w) :
    Calls Tryd.prog 44 #[.func (.func 35) #[] caps] w fun e w' => e = .returned (.tuple #[]) ∧ Inv (L ++ psAlpha) w' ∧ w.heap.size ≤ w'.heap.size ∧ Keep3 w w' := by
  have HI := hide hI
  have HT := hide T
  clear hI T
  go_enter Tryd.func44, Tryd.ntmps44
  go_wp2_with fail
  refine (handI HT.out psAlpha1 (by decide) 16 (by decide) w.heap.size (L) (by first | omega | (simp [psDigit, psPunct, psPunct1, psPunct2, psAlpha, psAlpha1, psAlpha2]; omega)) _ (HT.out.below _ w _ HI.out ((Below.refl _ w).alloc (Nat.le_refl _) _)) (heap_alloc_new w _)).mono ?_
  rintro e w1 ⟨rfl, hi0, hs0, hk0⟩
  have HI0 := hide hi0
  have HK0 := hide hk0
  clear hi0 hk0
  have hz0 : w.heap.size ≤ w1.heap.size := by simp at hs0; omega
  have hq0 : Hid (Keep3 w w1) := (Keep3.below ((Below.refl _ w).alloc (Nat.le_refl _) _)).trans HK0.out
  go_wp2_with fail
  refine (handI HT.out psAlpha2 (by decide) 10 (by decide) w1.heap.size (L ++ psAlpha1) (by first | omega | (simp [psAlpha1]; omega)) _ (HT.out.below _ w1 _ HI0.out ((Below.refl _ w1).alloc (Nat.le_refl _) _)) (heap_alloc_new w1 _)).mono ?_
  rintro e w2 ⟨rfl, hi1, hs1, hk1⟩
  have HI1 := hide hi1
  have HK1 := hide hk1
  clear hi1 hk1
  have hz1 : w1.heap.size ≤ w2.heap.size := by simp at hs1; omega
  have hq1 : Hid (Keep3 w1 w2) := (Keep3.below ((Below.refl _ w1).alloc (Nat.le_refl _) _)).trans HK1.out
  go_wp2
  go_end0
  exact ⟨rfl, by have h := HI1.out; rw [List.append_assoc] at h; exact h, (Nat.le_trans hz0 hz1), (Keep3.trans hq0.out hq1.out)⟩

set_option maxHeartbeats 1000000 in
theorem alnumI {caps : Array Value} {Inv : List (Int × Int) → World → Prop} (T : Taker 35 caps Inv) (L : List (Int × Int)) (hL : L.length ≤ 400) (w : World) (hI : Inv L w) :
    Calls Tryd.prog 46 #[.func (.func 35) #[] caps] w fun e w' => e = .returned (.tuple #[]) ∧ Inv (L ++ psAlnum) w' ∧ w.heap.size ≤ w'.heap.size ∧ Keep3 w w' := by
  have HI := hide hI
  have HT := hide T
  clear hI T
  go_enter Tryd.func46, Tryd.ntmps46
  go_wp2_with fail
  refine (alphaI HT.out (L) (by first | omega | (simp [psDigit, psPunct, psPunct1, psPunct2, psAlpha, psAlpha1, psAlpha2]; omega)) w HI.out).mono ?_
  rintro e w1 ⟨rfl, hi0, hs0, hk0⟩
  have HI0 := hide hi0
  have HK0 := hide hk0
  clear hi0 hk0
  have hz0 : w.heap.size ≤ w1.heap.size := hs0
  have hq0 : Hid (Keep3 w w1) := HK0.out
  go_wp2_with fail
  refine (digitI HT.out (L ++ psAlpha) (by first | omega | (simp [psAlpha, psAlpha1, psAlpha2]; omega)) w1 HI0.out).mono ?_
  rintro e w2 ⟨rfl, hi1, hs1, hk1⟩
  have HI1 := hide hi1
  have HK1 := hide hk1
  clear hi1 hk1
  have hz1 : w1.heap.size ≤ w2.heap.size := hs1
  have hq1 : Hid (Keep3 w1 w2) := HK1.out
  go_wp2
  go_end0
  exact ⟨rfl, by have h := HI1.out; rw [List.append_assoc] at h; exact h, (Nat.le_trans hz0 hz1), (Keep3.trans hq0.out hq1.out)⟩

end Go.Proofs.YtjhombfcbfhinaaDoor
