/- What Class answers: the ranges of a class, or that there is none. -/
import Derived.Test.YtjhombfcbfhinaaDoorEachC
import Derived.Test.YtjhombfcbfhinaaDoorJoin
import Derived.Test.YtjhombfcbfhinaaDoorIn
namespace Go.Proofs.YtjhombfcbfhinaaDoor
open Go.RowKit
set_option linter.unusedVariables false

/-- what Class keeps while ranges come. -/
def InvC (w0 : World) (L : List (Int × Int)) (w : World) : Prop :=
  (∃ v, w.heap[w0.heap.size]? = some (.cells #[v] 32 (0, 0)) ∧ w.ownsRow w0.heap.size 49 2 v L.length (cells2 L)) ∧ Below w0.heap.size w0 w

theorem run_enters30 (args : Array Value) (w : World) : (callFunc 30 args).run Tryd.prog w = .ok (.enter 30 args) w := enters_of Tryd.func30 (by kernel_rfl) rfl args w

theorem takerC (w0 : World) : Taker 30 #[.pointer (some ⟨w0.heap.size, 0, none⟩)] (InvC w0) where
  enters := fun args w => run_enters30 args w
  take := fun L a b w hl h => by
    obtain ⟨⟨v, h1, h2⟩, h3⟩ := h
    refine (takeC w0.heap.size w0.heap.size (Nat.le_refl _) v L a b w h1 h2 (by omega) h3.size).mono ?_
    rintro e w' ⟨rfl, ⟨v', g1, g2⟩, hb, hk⟩
    exact ⟨rfl, ⟨⟨v', g1, by rw [List.length_append, List.length_singleton]; exact g2⟩, h3.trans hb⟩, hb.size, hk⟩
  below := fun L w w' h hb => by
    obtain ⟨⟨v, h1, h2⟩, h3⟩ := h
    exact ⟨⟨v, by rw [hb.block _ (lt_of_block h1)]; exact h1, own_below h2 hb⟩, h3.trans (hb.mono h3.size)⟩

theorem eachC_some (s : ByteArray) (hs : s ∈ names) {caps : Array Value} {Inv : List (Int × Int) → World → Prop} (T : Taker 30 caps Inv) (w : World) (hI : Inv [] w) :
    Calls Tryd.prog 29 #[.string s, .func (.func 30) #[] caps] w fun e w' => e = .returned (.bool true) ∧ Inv (rngOf s) w' ∧ w.heap.size ≤ w'.heap.size ∧ Keep3 w w' := by
  simp only [names, List.mem_cons, List.not_mem_nil, or_false] at hs
  rcases hs with rfl | rfl | rfl | rfl | rfl | rfl | rfl | rfl | rfl | rfl | rfl | rfl | rfl | rfl
  · exact eachC_any T w hI
  · exact eachC_ascii T w hI
  · exact eachC_cntrl T w hI
  · exact eachC_digit T w hI
  · exact eachC_xdigit T w hI
  · exact eachC_blank T w hI
  · exact eachC_space T w hI
  · exact eachC_punct T w hI
  · exact eachC_alpha T w hI
  · exact eachC_upper T w hI
  · exact eachC_lower T w hI
  · exact eachC_alnum T w hI
  · exact eachC_word T w hI
  · exact eachC_graph T w hI

/-- what is looked at of the ranges of a class. -/
def okB (l : List (Int × Int)) : Bool := decide (1 ≤ l.length) && decide (l.length ≤ 1000) && (l.all fun x => decide (0 ≤ x.1) && decide (x.1 ≤ 1114111) && decide (0 ≤ x.2) && decide (x.2 ≤ 1114111)) && (l.all fun a => l.all fun b => !(a.1 == b.1) || (a.2 == b.2))
theorem okB_of {l : List (Int × Int)} (h : okB l = true) : 1 ≤ l.length ∧ l.length ≤ 1000 ∧ (∀ x ∈ l, 0 ≤ x.1 ∧ x.1 ≤ 1114111 ∧ 0 ≤ x.2 ∧ x.2 ≤ 1114111) ∧ KD l := by
  simp only [okB, Bool.and_eq_true, decide_eq_true_eq, List.all_eq_true] at h
  obtain ⟨⟨⟨h1, h2⟩, h3⟩, h4⟩ := h
  refine ⟨h1, h2, fun x hx => ?_, fun a ha b hb e => ?_⟩
  · have := h3 x hx; exact ⟨this.1.1.1, this.1.1.2, this.1.2, this.2⟩
  · have := h4 a ha b hb
    simp [e] at this
    exact Prod.ext e this
theorem names_ok : ∀ s ∈ names, okB (rngOf s) = true := by
  intro s hs
  simp only [names, List.mem_cons, List.not_mem_nil, or_false] at hs
  rcases hs with rfl | rfl | rfl | rfl | rfl | rfl | rfl | rfl | rfl | rfl | rfl | rfl | rfl | rfl <;> decide +kernel

/-- the ranges of a class, joined. -/
def clsOf (s : ByteArray) : List (Int × Int) := joinL (srtR (rngOf s))

theorem invC_start (w : World) : InvC w [] (w.alloc (.cells #[.slice none 0 0] 32)) :=
  ⟨⟨_, heap_alloc_new w _, World.ownsRow_nil _ _ _ _⟩, (Below.refl _ w).alloc (Nat.le_refl _) _⟩

set_option maxHeartbeats 1000000 in
theorem Class_none (s : ByteArray) (w : World) (h : s ∉ names) :
    Calls Tryd.prog 15 #[.string s] w fun e w' => e = .returned (.tuple #[.slice none 0 0, .int .i64 5]) ∧ Below w.heap.size w w' := by
  have H := hide (fun f w => each_none s f w h)
  have hmf : ∀ (fn : Fn) (first cap : Array Value) (w : World), (Instr.makeFunc fn first cap).run Tryd.prog w = .ok (.func fn first cap) w := fun _ _ _ _ => rfl
  clear h
  go_enter Tryd.func15, Tryd.ntmps15
  go_wp2_with (go_at_call 29; refine (H.out _ _).mono ?_; rintro e w' ⟨rfl, rfl⟩)
  go_ret2
  exact ⟨rfl, by go_grown⟩

set_option maxHeartbeats 1000000 in
theorem Class_some (s : ByteArray) (w : World) (h : s ∈ names) :
    Calls Tryd.prog 15 #[.string s] w fun e w' => ∃ v, e = .returned (.tuple #[v, .int .i64 0]) ∧ w'.ownsRow w.heap.size 49 2 v (clsOf s).length (cells2 (clsOf s)) ∧ Below w.heap.size w w' := by
  have H := hide (eachC_some s h (takerC w) _ (invC_start w))
  obtain ⟨k1, k2, k3, k4⟩ := okB_of (names_ok s h)
  have hmf : ∀ (fn : Fn) (first cap : Array Value) (w : World), (Instr.makeFunc fn first cap).run Tryd.prog w = .ok (.func fn first cap) w := fun _ _ _ _ => rfl
  have HJ : Hid (∀ (g cap : Nat) (w1 : World), w.heap.size ≤ w1.heap.size → w1.ownsRow w.heap.size 49 2 (.slice (some ⟨g, 0, none⟩) (rngOf s).length cap) (rngOf s).length (cells2 (rngOf s)) → Calls Tryd.prog 31 #[.slice (some ⟨g, 0, none⟩) (rngOf s).length cap] w1 fun e w' => ∃ v', e = .returned v' ∧ w'.ownsRow w.heap.size 49 2 v' (clsOf s).length (cells2 (clsOf s)) ∧ Below w.heap.size w1 w') := fun g cap w1 hB ho => joined_any w.heap.size g cap (rngOf s) w1 k2 k1 k3 k4 hB ho
  clear h k2 k3 k4
  go_enter Tryd.func15, Tryd.ntmps15
  go_wp2_with fail
  refine H.out.mono ?_
  rintro e w1 ⟨rfl, ⟨⟨v, i1, i2⟩, i3⟩, hs, hk⟩
  obtain ⟨g, c, rfl⟩ := own_some i2 k1
  have c1 := cell_of_one i1
  have I2 := hide i2
  have I3 := hide i3
  clear hk i1 i2 i3 hs
  go_wp2_with fail
  refine (HJ.out g c w1 I3.out.size I2.out).mono ?_
  rintro e w2 ⟨v2, rfl, ho, hb⟩
  obtain ⟨ao, cc, hv⟩ := own_shape ho
  have HO := hide ho
  have HB := hide hb
  clear ho hb
  rw [hv] at HO
  rw [hv]
  clear hv
  go_wp2
  go_ret2
  exact ⟨_, rfl, HO.out, I3.out.trans HB.out⟩

end Go.Proofs.YtjhombfcbfhinaaDoor
