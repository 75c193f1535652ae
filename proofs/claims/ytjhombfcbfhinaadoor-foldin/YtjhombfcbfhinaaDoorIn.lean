/- What In answers. -/
import Derived.Test.YtjhombfcbfhinaaDoorEachI
import Derived.Shelf.Abstract
namespace Go.Proofs.YtjhombfcbfhinaaDoor
open Go.RowKit
set_option linter.unusedVariables false

def inP (p : Int) (L : List (Int × Int)) : Bool := L.any fun x => decide (x.1 ≤ p) && decide (p ≤ x.2)
theorem inP_snoc (p : Int) (L : List (Int × Int)) (a b : Int) : inP p (L ++ [(a, b)]) = (inP p L || (decide (a ≤ p) && decide (p ≤ b))) := by
  simp [inP]

/-- what In keeps while ranges come. -/
def InvI (w0 : World) (p : Int) (L : List (Int × Int)) (w : World) : Prop :=
  w.heap[w0.heap.size + 1]? = some (.cells #[.bool (inP p L)] 4 (0, 0)) ∧ w.heap[w0.heap.size]? = some (.cells #[.int .i64 p] 3 (0, 0)) ∧ Below w0.heap.size w0 w

theorem setCell_keep3 {w : World} {b : Nat} {v u : Value} {t : TypeId} (hb : w.heap[b]? = some (.cells #[v] t (0, 0))) (ht : t ≠ 3) : Keep3 w (w.setCell ⟨b, 0, none⟩ u) := fun k cs hk => by
  have hne : k ≠ b := fun e => by
    subst e
    rw [hb] at hk
    simp at hk
    exact ht hk.2
  rw [Below.heap_setCell _ _ _ _ hne]; exact hk

set_option maxHeartbeats 1000000 in
theorem takeI (w0 : World) (p : Int) (L : List (Int × Int)) (a b : Int) (w : World) (hI : InvI w0 p L w) :
    Calls Tryd.prog 35 #[.int .i64 a, .int .i64 b, .pointer (some ⟨w0.heap.size + 1, 0, none⟩), .pointer (some ⟨w0.heap.size, 0, none⟩)] w fun e w' => e = .returned (.tuple #[]) ∧ InvI w0 p (L ++ [(a, b)]) w' ∧ w.heap.size ≤ w'.heap.size ∧ Keep3 w w' := by
  obtain ⟨h1, h2, h3⟩ := hI
  have c1 := cell_of_one h1
  have f1 := free_of_one h1
  have c2 := cell_of_one h2
  have H1 := hide h1
  have H2 := hide h2
  have H3 := hide h3
  clear h1 h2 h3
  have fin : ∀ u : Bool, u = inP p (L ++ [(a, b)]) → InvI w0 p (L ++ [(a, b)]) (w.setCell ⟨w0.heap.size + 1, 0, none⟩ (.bool u)) ∧ w.heap.size ≤ (w.setCell ⟨w0.heap.size + 1, 0, none⟩ (.bool u)).heap.size ∧ Keep3 w (w.setCell ⟨w0.heap.size + 1, 0, none⟩ (.bool u)) := by
    intro u hu
    subst hu
    exact ⟨⟨one_setCell H1.out, by rw [Below.heap_setCell _ _ _ _ (by simp)]; exact H2.out, H3.out.setCell (by simp) _⟩, by simp [World.setCell], setCell_keep3 H1.out (by decide)⟩
  have FIN := hide fin
  clear fin
  obtain ⟨z, hz⟩ : ∃ z, z = inP p L := ⟨_, rfl⟩
  rw [← hz] at c1
  have hs := hide (inP_snoc p L a b)
  rw [← hz] at hs
  clear hz
  cases z with
  | true =>
    go_enter Tryd.func35, Tryd.ntmps35
    go_wp2
    go_end0
    exact ⟨rfl, FIN.out true (by rw [hs.out]; rfl)⟩
  | false =>
    by_cases q1 : a ≤ p
    · by_cases q2 : p ≤ b
      · go_enter Tryd.func35, Tryd.ntmps35
        go_wp2
        go_end0
        exact ⟨rfl, FIN.out true (by rw [hs.out]; simp [q1, q2])⟩
      · go_enter Tryd.func35, Tryd.ntmps35
        go_wp2
        go_end0
        exact ⟨rfl, FIN.out false (by rw [hs.out]; simp; omega)⟩
    · go_enter Tryd.func35, Tryd.ntmps35
      go_wp2
      go_end0
      exact ⟨rfl, FIN.out false (by rw [hs.out]; simp; omega)⟩

theorem run_enters35 (args : Array Value) (w : World) : (callFunc 35 args).run Tryd.prog w = .ok (.enter 35 args) w := enters_of Tryd.func35 (by kernel_rfl) rfl args w

theorem takerI (w0 : World) (p : Int) : Taker 35 #[.pointer (some ⟨w0.heap.size + 1, 0, none⟩), .pointer (some ⟨w0.heap.size, 0, none⟩)] (InvI w0 p) where
  enters := fun args w => run_enters35 args w
  take := fun L a b w _ h => takeI w0 p L a b w h
  below := fun L w w' h hb => ⟨by rw [hb.block _ (lt_of_block h.1)]; exact h.1, by rw [hb.block _ (lt_of_block h.2.1)]; exact h.2.1, h.2.2.trans (hb.mono h.2.2.size)⟩

/-- the names there are. -/
def names : List ByteArray := [nm_any, nm_ascii, nm_cntrl, nm_digit, nm_xdigit, nm_blank, nm_space, nm_punct, nm_alpha, nm_upper, nm_lower, nm_alnum, nm_word, nm_graph]

theorem ne_bytes {s : ByteArray} {l : List UInt8} (h : s ≠ ⟨l.toArray⟩) : (s.toList == l) = false := by
  rw [ByteArray.toList_eq]
  simp only [beq_eq_false_iff_ne, ne_eq]
  intro e
  apply h
  cases s
  rename_i d
  simp only at e
  rw [← e]

set_option maxHeartbeats 1000000 in
theorem each_none (s : ByteArray) (f : Value) (w : World) (h : s ∉ names) :
    Calls Tryd.prog 29 #[.string s, f] w fun e w' => e = .returned (.bool false) ∧ w = w' := by
  have n0 : (s.toList == [97, 110, 121]) = false := ne_bytes (fun e => h (by rw [e]; simp [names, nm_any]))
  have n1 : (s.toList == [97, 115, 99, 105, 105]) = false := ne_bytes (fun e => h (by rw [e]; simp [names, nm_ascii]))
  have n2 : (s.toList == [99, 110, 116, 114, 108]) = false := ne_bytes (fun e => h (by rw [e]; simp [names, nm_cntrl]))
  have n3 : (s.toList == [100, 105, 103, 105, 116]) = false := ne_bytes (fun e => h (by rw [e]; simp [names, nm_digit]))
  have n4 : (s.toList == [120, 100, 105, 103, 105, 116]) = false := ne_bytes (fun e => h (by rw [e]; simp [names, nm_xdigit]))
  have n5 : (s.toList == [98, 108, 97, 110, 107]) = false := ne_bytes (fun e => h (by rw [e]; simp [names, nm_blank]))
  have n6 : (s.toList == [115, 112, 97, 99, 101]) = false := ne_bytes (fun e => h (by rw [e]; simp [names, nm_space]))
  have n7 : (s.toList == [112, 117, 110, 99, 116]) = false := ne_bytes (fun e => h (by rw [e]; simp [names, nm_punct]))
  have n8 : (s.toList == [97, 108, 112, 104, 97]) = false := ne_bytes (fun e => h (by rw [e]; simp [names, nm_alpha]))
  have n9 : (s.toList == [117, 112, 112, 101, 114]) = false := ne_bytes (fun e => h (by rw [e]; simp [names, nm_upper]))
  have n10 : (s.toList == [108, 111, 119, 101, 114]) = false := ne_bytes (fun e => h (by rw [e]; simp [names, nm_lower]))
  have n11 : (s.toList == [97, 108, 110, 117, 109]) = false := ne_bytes (fun e => h (by rw [e]; simp [names, nm_alnum]))
  have n12 : (s.toList == [119, 111, 114, 100]) = false := ne_bytes (fun e => h (by rw [e]; simp [names, nm_word]))
  have n13 : (s.toList == [103, 114, 97, 112, 104]) = false := ne_bytes (fun e => h (by rw [e]; simp [names, nm_graph]))
  clear h
  go_enter Tryd.func29, Tryd.ntmps29
  go_wp2
  go_ret
  exact ⟨rfl, rfl⟩

/-- the ranges of a class. -/
def rngOf (s : ByteArray) : List (Int × Int) :=
  if s = nm_any then ps_any else
  if s = nm_ascii then ps_ascii else
  if s = nm_cntrl then ps_cntrl else
  if s = nm_digit then ps_digit else
  if s = nm_xdigit then ps_xdigit else
  if s = nm_blank then ps_blank else
  if s = nm_space then ps_space else
  if s = nm_punct then ps_punct else
  if s = nm_alpha then ps_alpha else
  if s = nm_upper then ps_upper else
  if s = nm_lower then ps_lower else
  if s = nm_alnum then ps_alnum else
  if s = nm_word then ps_word else
  if s = nm_graph then ps_graph else
  []

theorem eachI_some (s : ByteArray) (hs : s ∈ names) {caps : Array Value} {Inv : List (Int × Int) → World → Prop} (T : Taker 35 caps Inv) (w : World) (hI : Inv [] w) :
    Calls Tryd.prog 29 #[.string s, .func (.func 35) #[] caps] w fun e w' => e = .returned (.bool true) ∧ Inv (rngOf s) w' ∧ w.heap.size ≤ w'.heap.size ∧ Keep3 w w' := by
  simp only [names, List.mem_cons, List.not_mem_nil, or_false] at hs
  rcases hs with rfl | rfl | rfl | rfl | rfl | rfl | rfl | rfl | rfl | rfl | rfl | rfl | rfl | rfl
  · exact eachI_any T w hI
  · exact eachI_ascii T w hI
  · exact eachI_cntrl T w hI
  · exact eachI_digit T w hI
  · exact eachI_xdigit T w hI
  · exact eachI_blank T w hI
  · exact eachI_space T w hI
  · exact eachI_punct T w hI
  · exact eachI_alpha T w hI
  · exact eachI_upper T w hI
  · exact eachI_lower T w hI
  · exact eachI_alnum T w hI
  · exact eachI_word T w hI
  · exact eachI_graph T w hI

theorem invI_start (w : World) (p : Int) : InvI w p [] ((w.alloc (.cells #[.int .i64 p] 3)).alloc (.cells #[.bool false] 4)) := by
  refine ⟨?_, ?_, ((Below.refl _ w).alloc (Nat.le_refl _) _).alloc (by simp) _⟩
  · rw [← World.size_alloc w (.cells #[.int .i64 p] 3)]; exact heap_alloc_new _ _
  · rw [Below.heap_alloc _ _ _ (by simp)]; exact heap_alloc_new _ _

theorem ret2b {a c : Bool} {b d : Int} (h1 : a = c) (h2 : b = d) : Ending.returned (.tuple #[.bool a, .int .i64 b]) = .returned (.tuple #[.bool c, .int .i64 d]) := by rw [h1, h2]

set_option maxHeartbeats 1000000 in
theorem In_none (s : ByteArray) (p : Int) (w : World) (h : s ∉ names) :
    Calls Tryd.prog 19 #[.string s, .int .i64 p] w fun e w' => e = .returned (.tuple #[.bool false, .int .i64 5]) ∧ Below w.heap.size w w' := by
  have H := hide (fun f w => each_none s f w h)
  have hmf : ∀ (fn : Fn) (first cap : Array Value) (w : World), (Instr.makeFunc fn first cap).run Tryd.prog w = .ok (.func fn first cap) w := fun _ _ _ _ => rfl
  clear h
  go_enter Tryd.func19, Tryd.ntmps19
  go_wp2_with (go_at_call 29; refine (H.out _ _).mono ?_; rintro e w' ⟨rfl, rfl⟩)
  go_ret2
  exact ⟨rfl, by go_grown⟩

set_option maxHeartbeats 1000000 in
theorem In_some (s : ByteArray) (p : Int) (w : World) (h : s ∈ names) :
    Calls Tryd.prog 19 #[.string s, .int .i64 p] w fun e w' => e = .returned (.tuple #[.bool (decide (0 ≤ p ∧ p ≤ 1114111) && inP p (rngOf s)), .int .i64 (if 0 ≤ p ∧ p ≤ 1114111 then 0 else 3)]) ∧ Below w.heap.size w w' := by
  have H := hide (eachI_some s h (takerI w p) _ (invI_start w p))
  have hmf : ∀ (fn : Fn) (first cap : Array Value) (w : World), (Instr.makeFunc fn first cap).run Tryd.prog w = .ok (.func fn first cap) w := fun _ _ _ _ => rfl
  have HP := isPoint_any p
  clear h
  by_cases hp : 0 ≤ p ∧ p ≤ 1114111
  · rw [show decide (0 ≤ p ∧ p ≤ 1114111) = true from by simpa using hp] at HP ⊢
    rw [if_pos hp]
    have HPP := hide HP
    clear HP hp
    go_enter Tryd.func19, Tryd.ntmps19
    go_wp2_with fail
    refine H.out.mono ?_
    rintro e w1 ⟨rfl, ⟨i1, i2, i3⟩, hs, hk⟩
    have c1 := cell_of_one i1
    have c2 := cell_of_one i2
    have I3 := hide i3
    clear hk i1 i2 i3 hs
    go_wp2_with (go_at_call 23; refine (HPP.out _).mono ?_; rintro e w2 ⟨rfl, hw⟩; have hw2 := hw.symm; clear hw; subst hw2)
    go_ret2
    exact ⟨ret2b (by simp) rfl, I3.out⟩
  · rw [show decide (0 ≤ p ∧ p ≤ 1114111) = false from by simpa using hp] at HP ⊢
    rw [if_neg hp]
    have HPP := hide HP
    clear HP hp
    go_enter Tryd.func19, Tryd.ntmps19
    go_wp2_with fail
    refine H.out.mono ?_
    rintro e w1 ⟨rfl, ⟨i1, i2, i3⟩, hs, hk⟩
    have c1 := cell_of_one i1
    have c2 := cell_of_one i2
    have I3 := hide i3
    clear hk i1 i2 i3 hs
    go_wp2_with (go_at_call 23; refine (HPP.out _).mono ?_; rintro e w2 ⟨rfl, hw⟩; have hw2 := hw.symm; clear hw; subst hw2)
    go_ret2
    exact ⟨ret2b (by simp) rfl, I3.out⟩

end Go.Proofs.YtjhombfcbfhinaaDoor
