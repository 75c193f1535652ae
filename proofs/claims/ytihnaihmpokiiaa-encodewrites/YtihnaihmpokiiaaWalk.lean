/- What Decode answers of the text of two points; and that lists that are the same are told to be. -/
import Derived.Test.YtihnaihmpokiiaaBegun
namespace Go.Proofs.Ytihnaihmpokiiaa
open Go.RowKit Go.PlainAid
set_option linter.unusedVariables false

/-- the text of two points. -/
def s0 : ByteArray := strOfNums (flat 2 [128512, 65])

theorem of_2' (w : World) : Calls Try.prog 7 #[.int .i64 2] w fun e w' => e = .returned (.tuple #[.iface 46 (.agg #[.int .i64 0, .int .i64 1]), .bool true]) ∧ w = w' :=
  (encodingOf_yes 2 w rfl).mono fun e w' ⟨h1, h2⟩ => ⟨h1, h2.symm⟩

/-- how far, and what was handed on. -/
def stA (k : Nat) : Int := if k = 0 then 0 else if k = 1 then 4 else 6
def stL (k : Nat) : List Value := if k = 0 then [] else if k = 1 then [.int .i64 128512] else [.int .i64 128512, .int .i64 65]

set_option maxHeartbeats 2000000 in
theorem walk_two (s : ByteArray) (hs : s.size = 6)
    (H0 : ∀ w : World, Calls Try.prog 43 #[.agg #[.int .i64 0, .int .i64 1], .string s, .int .i64 0] w fun e w' => e = .returned (.tuple #[.int .i64 128512, .int .i64 4]) ∧ Below w.heap.size w w')
    (H4 : ∀ w : World, Calls Try.prog 43 #[.agg #[.int .i64 0, .int .i64 1], .string s, .int .i64 4] w fun e w' => e = .returned (.tuple #[.int .i64 65, .int .i64 2]) ∧ Below w.heap.size w w')
    (B b : Nat) (hBb : B ≤ b) (w : World) (hbox : w.heap[b]? = some (.cells #[.slice none 0 0] 22 (0, 0))) (hB : B ≤ w.heap.size) :
    Calls Try.prog 15 #[.int .i64 2, .string s, .func (.func 16) #[] #[.pointer (some ⟨b, 0, none⟩)]] w fun e w' => e = .returned (.agg #[.int .i64 0, .int .i64 0]) ∧ (∃ v, w'.heap[b]? = some (.cells #[v] 22 (0, 0)) ∧ w'.ownsRow B 3 1 v 2 [.int .i64 128512, .int .i64 65]) ∧ Below B w w' := by
  have hlt : b < w.heap.size := (Array.getElem?_eq_some_iff.1 hbox).1
  have HBX := hide hbox
  have G0 := hide H0
  have G4 := hide H4
  clear H0 H4 hbox
  go_enter Try.func15, Try.ntmps15
  go_wp2_with (go_at_call 7; refine (of_2' _).mono ?_; rintro e w' ⟨rfl, rfl⟩)
  go_loopw [9] (fun i wr => ∃ k v, k ≤ 2 ∧ i = .int .i64 (stA k) ∧ wr.heap[b]? = some (.cells #[v] 22 (0, 0)) ∧ wr.ownsRow B 3 1 v k (stL k) ∧ wr.heap[w.heap.size]? = some (.cells #[.int .i64 0, .int .i64 0] 39 (0, 0)) ∧ Below B w wr ∧ w.heap.size + 1 ≤ wr.heap.size) (fun i _ => 6 - (intOf i).toNat)
  case atStart => exact ⟨0, _, by decide, rfl, by rw [Below.heap_alloc _ _ _ hlt]; exact HBX.out, World.ownsRow_nil _ _ _ _, heap_alloc_new w _, (Below.refl B w).alloc hB _, by simp⟩
  case round =>
    obtain ⟨k, v, hk, rfl, hb, ho, hf, hbl, hsz⟩ := hrel
    have hk3 : k = 0 ∨ k = 1 ∨ k = 2 := by omega
    have hf' := hide hf
    have hb' := hide hb
    have ho' := hide ho
    clear hf hb ho
    rcases hk3 with rfl | rfl | rfl
    · simp only [stA, if_true]
      go_wp2_with (first | (go_at_call 43; refine (G0.out _).mono ?_; rintro e w1 ⟨rfl, hb1⟩) | (go_at_call 16; refine (points_any B b hBb v 0 [] 128512 0 _ (by rw [hb1.block b (lt_of_block hb'.out)]; exact hb'.out) (own_below ho'.out hb1) (by decide) (by have := hb1.size; have := hbl.size; omega)).mono ?_; rintro e w2 ⟨rfl, ⟨v2, hv2, ho2⟩, hb2, hk2⟩))
      go_roundw
      case rel => exact ⟨1, v2, by decide, rfl, hv2, ho2, hk2 _ _ (by omega) (by rw [hb1.block _ (by omega)]; exact hf'.out) (by simp), (hbl.trans (hb1.mono (by omega))).trans hb2, by have := hb1.size; have := hb2.size; omega⟩
      case measure => simp [intOf]
    · simp only [stA, if_true, if_false, Nat.one_ne_zero]
      go_wp2_with (first | (go_at_call 43; refine (G4.out _).mono ?_; rintro e w1 ⟨rfl, hb1⟩) | (go_at_call 16; refine (points_any B b hBb v 1 _ 65 4 _ (by rw [hb1.block b (lt_of_block hb'.out)]; exact hb'.out) (own_below ho'.out hb1) (by decide) (by have := hb1.size; have := hbl.size; omega)).mono ?_; rintro e w2 ⟨rfl, ⟨v2, hv2, ho2⟩, hb2, hk2⟩))
      go_roundw
      case rel => exact ⟨2, v2, by decide, rfl, hv2, ho2, hk2 _ _ (by omega) (by rw [hb1.block _ (by omega)]; exact hf'.out) (by simp), (hbl.trans (hb1.mono (by omega))).trans hb2, by have := hb1.size; have := hb2.size; omega⟩
      case measure => simp [intOf]
    · simp only [stA, show ¬ (2 : Nat) = 0 from by decide, show ¬ (2 : Nat) = 1 from by decide, if_false]
      have c0 : wr.cell? ⟨w.heap.size, 0, none⟩ = some (.int .i64 0) := by have h := hf'.out; simp [World.cell?, h]
      have c1 : wr.cell? ⟨w.heap.size, 1, none⟩ = some (.int .i64 0) := by have h := hf'.out; simp [World.cell?, h]
      have f0 : wr.frozen? ⟨w.heap.size, 0, none⟩ = false := by have h := hf'.out; simp [World.frozen?, h]
      have f1 : wr.frozen? ⟨w.heap.size, 1, none⟩ = false := by have h := hf'.out; simp [World.frozen?, h]
      go_wp2
      have hne : v.ownBlock ≠ some w.heap.size := fun e => own_block3 ho'.out hf'.out (by simp) e.symm
      refine bodyPost_ret (v := .agg #[.int .i64 0, .int .i64 0]) (by simp [results, Try.results15, go_sem, c0, c1]) rfl ⟨rfl, ⟨v, ?_, ?_⟩, ?_⟩
      · rw [Below.heap_setCell _ _ _ _ (by simp; omega), Below.heap_setCell _ _ _ _ (by simp; omega)]; exact hb'.out
      · exact ownsRow_setCell_other (ownsRow_setCell_other ho'.out hne _) hne _
      · exact (hbl.setCell (by simpa using hB) _).setCell (by simpa using hB) _

theorem s0_bt : bt s0 0 = 61 ∧ bt s0 1 = 216 ∧ bt s0 2 = 0 ∧ bt s0 3 = 222 ∧ bt s0 4 = 65 ∧ bt s0 5 = 0 := by decide
theorem s0_at0 (w : World) : Calls Try.prog 43 #[.agg #[.int .i64 0, .int .i64 1], .string s0, .int .i64 0] w fun e w' => e = .returned (.tuple #[.int .i64 128512, .int .i64 4]) ∧ Below w.heap.size w w' :=
  read_pair s0 0 55357 56832 (by decide) (by decide) (by decide) (by decide) (by decide) (by decide) (by decide) (by decide) w
theorem s0_at4 (w : World) : Calls Try.prog 43 #[.agg #[.int .i64 0, .int .i64 1], .string s0, .int .i64 4] w fun e w' => e = .returned (.tuple #[.int .i64 65, .int .i64 2]) ∧ Below w.heap.size w w' :=
  read_one s0 4 65 (by decide) (by decide) (by decide) (by decide) w

set_option maxHeartbeats 2000000 in
theorem Decode_two (s : ByteArray) (hs : s.size = 6)
    (H : ∀ (B b : Nat), B ≤ b → ∀ (w : World), w.heap[b]? = some (.cells #[.slice none 0 0] 22 (0, 0)) → B ≤ w.heap.size → Calls Try.prog 15 #[.int .i64 2, .string s, .func (.func 16) #[] #[.pointer (some ⟨b, 0, none⟩)]] w fun e w' => e = .returned (.agg #[.int .i64 0, .int .i64 0]) ∧ (∃ v, w'.heap[b]? = some (.cells #[v] 22 (0, 0)) ∧ w'.ownsRow B 3 1 v 2 [.int .i64 128512, .int .i64 65]) ∧ Below B w w')
    (w : World) :
    Calls Try.prog 11 #[.int .i64 2, .string s] w fun e w' => ∃ v, e = .returned (.tuple #[v, .agg #[.int .i64 0, .int .i64 0]]) ∧ w'.ownsRow w.heap.size 3 1 v 2 [.int .i64 128512, .int .i64 65] ∧ Below w.heap.size w w' := by
  have G := hide H
  clear H
  have hmf : ∀ (fn : Fn) (first cap : Array Value) (w : World), (Instr.makeFunc fn first cap).run Try.prog w = .ok (.func fn first cap) w := fun _ _ _ _ => rfl
  go_enter Try.func11, Try.ntmps11
  go_wp2_with fail
  refine (G.out (w.heap.size + 1) (w.heap.size + 1) (Nat.le_refl _) _ (by rw [← World.size_alloc]; exact heap_alloc_new _ _) (by simp)).mono ?_
  rintro e w1 ⟨rfl, ⟨v, hv, ho⟩, hb⟩
  obtain ⟨g, cap, rfl⟩ := own_some ho (by decide)
  have hf : w1.heap[w.heap.size]? = some (.cells #[.int .i64 0, .int .i64 0] 39 (0, 0)) := by
    rw [hb.block _ (by omega), Below.heap_alloc _ _ _ (by simp)]; exact heap_alloc_new w _
  have hz0 : w.heap.size + 1 + 1 ≤ w1.heap.size := by have := hb.size; simpa using this
  have hz : w.heap.size + 1 < w1.heap.size := by omega
  have hy : w.heap.size < w1.heap.size := by omega
  clear hz0
  have c0 : w1.cell? ⟨w.heap.size, 0, none⟩ = some (.int .i64 0) := by simp [World.cell?, hf]
  have c1 : w1.cell? ⟨w.heap.size, 1, none⟩ = some (.int .i64 0) := by simp [World.cell?, hf]
  have f0 : w1.frozen? ⟨w.heap.size, 0, none⟩ = false := by simp [World.frozen?, hf]
  have f1 : w1.frozen? ⟨w.heap.size, 1, none⟩ = false := by simp [World.frozen?, hf]
  have cb := cell_of_one hv
  have HF := hide hf
  have HV := hide hv
  have HO := hide ho
  have HB := hide hb
  clear hf hv ho hb
  go_wp2
  refine bodyPost_ret (v := .tuple #[.slice (some ⟨g, 0, none⟩) 2 cap, .agg #[.int .i64 0, .int .i64 0]]) (by simp [results, Try.results11, go_sem, c0, c1, hy]) rfl ⟨_, rfl, ?_, ?_⟩
  · exact own_base (((ownsRow_setCell_below (ownsRow_setCell_below HO.out (by simp) _) (by simp) _)).alloc _) (by omega)
  · have h0 : Below w.heap.size w w1 := (((Below.refl w.heap.size w).alloc (Nat.le_refl _) _).alloc (by simp) _).trans (HB.out.mono (by omega))
    exact ((h0.setCell (Nat.le_refl _) _).setCell (Nat.le_refl _) _).alloc (by simp [World.setCell]; omega) _

theorem Decode_s0 (w : World) :
    Calls Try.prog 11 #[.int .i64 2, .string s0] w fun e w' => ∃ v, e = .returned (.tuple #[v, .agg #[.int .i64 0, .int .i64 0]]) ∧ w'.ownsRow w.heap.size 3 1 v 2 [.int .i64 128512, .int .i64 65] ∧ Below w.heap.size w w' :=
  Decode_two s0 (by decide) (fun B b h1 w h2 h3 => walk_two s0 (by decide) s0_at0 s0_at4 B b h1 w h2 h3) w

set_option maxHeartbeats 2000000 in
theorem SameInts_eq (l : List Int) (a b : Addr) (ca cb : Nat) (hl : l.length ≤ 4000) (w : World) (ha : ∀ j, j < l.length → w.cell? (a.add j) = some (.int .i64 (l.getD j 0))) (hb : ∀ j, j < l.length → w.cell? (b.add j) = some (.int .i64 (l.getD j 0))) :
    Calls Try.prog 12 #[.slice (some a) l.length ca, .slice (some b) l.length cb] w fun e w' => e = .returned (.bool true) ∧ Below w.heap.size w w' := by
  have HA := hide ha
  have HB := hide hb
  clear ha hb
  go_enter Try.func12, Try.ntmps12
  go_wp2
  go_loopw [5] (fun i wr => ∃ k n : Nat, k ≤ l.length ∧ i = .int .i64 k ∧ wr = w.drewN n) (fun i _ => l.length - (intOf i).toNat)
  case atStart => exact ⟨0, 0, Nat.zero_le _, rfl, rfl⟩
  case round =>
    obtain ⟨k, n, hk, rfl, rfl⟩ := hrel
    by_cases hlt : k < l.length
    · have c1 := HA.out k hlt
      have c2 := HB.out k hlt
      obtain ⟨x, hx⟩ : ∃ x, x = l.getD k 0 := ⟨_, rfl⟩
      rw [← hx] at c1 c2
      clear hx
      go_wp2
      go_quiet (fail)
      go_wp2
      go_roundw
      case rel => exact ⟨k + 1, _, by omega, by go_num, rfl⟩
      case measure => simp [intOf]; omega
    · go_wp2
      go_ret
      exact ⟨rfl, below_drewN (Below.refl _ _) _⟩

end Go.Proofs.Ytihnaihmpokiiaa
