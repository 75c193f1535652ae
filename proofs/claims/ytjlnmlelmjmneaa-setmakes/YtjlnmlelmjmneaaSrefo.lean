/- What the reference's MakeOf, NotOf, MeetOf and UnionOf answer. -/
import Derived.Test.YtjlnmlelmjmneaaSsetof
import Derived.Test.YtjlnmlelmjmneaaSops
namespace Go.Proofs.Ytjlnmlelmjmneaa
open Go.RowKit Go.Shelf
set_option linter.unusedVariables false

theorem stays_of (A B : RL) (g : Bool → Bool → Bool) : Stays (fun q => g (ins A q) (ins B q)) ((endsL A ++ endsL B).foldl endIns [0]) := by
  obtain ⟨h1, h2⟩ := ends_fold (endsL A ++ endsL B) [0] ends_zero
  intro k hk q hq hq2
  exact stays_two (A := A) (B := B) g h1 (fun x hx h0 hm => (h2 x).2 (.inr ⟨by rw [List.mem_append]; exact hx, h0, hm⟩)) hk q hq hq2
theorem endsL_nil : endsL [] = [] := rfl
/-- a set that the reference makes. -/
def Refs (f : Int → Bool) (n : Nat) (w : World) (e : Ending) (w' : World) : Prop := ∃ v' O, e = .returned v' ∧ Reads w' v' O ∧ IsSet f O ∧ O.length ≤ n ∧ Below w.heap.size w w'
theorem entersMakeOf1 (args : Array Value) (w : World) : (callFunc 30 args).run Try.prog w = .ok (.enter 30 args) w := enters_of Try.func30 (by kernel_rfl) rfl args w

set_option maxHeartbeats 1000000 in
theorem tellsMakeOf (bx : Addr) (va : Value) (A : RL) (w : World) (hbx : w.cell? bx = some va) (hA : Reads w va A) (lA : A.length ≤ 1000000) : Tells 30 #[.pointer (some bx)] (fun q => ins A q) w := by
  intro p w' hb
  have hc := below_cell hb (lt_of_cell hbx) hbx
  have HW := hide (within_any va A p w' (hA.below hb) lA)
  obtain ⟨z, hz⟩ : ∃ z, z = ins A p := ⟨_, rfl⟩
  rw [← hz] at HW
  show Calls Try.prog 30 #[.int .i64 p, .pointer (some bx)] w' _
  simp only
  rw [← hz]
  clear hz hA hbx
  go_enter Try.func30, Try.ntmps30
  go_wp2_with fail
  refine HW.out.mono ?_
  rintro e w2 ⟨rfl, q, rfl⟩
  go_wp2
  go_ret
  exact ⟨rfl, q, rfl⟩
set_option maxHeartbeats 1000000 in
theorem makeOf_any (va : Value) (A : RL) (w : World) (hA : Reads w va A) (lA : A.length ≤ 1000) (oA : ∀ r ∈ A, okR r) : Calls Try.prog 14 #[va] w fun e w' => Refs (fun q => ins A q) (1 + 2 * A.length) w e w' := by
  have hb0 : Below w.heap.size w (w.alloc (.cells #[va] 22)) := (Below.refl _ w).alloc (Nat.le_refl _) _
  have HE := hide (endsOf_any va (.slice none 0 0) A [] (w.alloc (.cells #[va] 22)) (hA.below hb0) (reads_nil _) lA (by decide) oA (by simp))
  rw [endsL_nil, List.append_nil] at HE
  have hst := hide (stays_of A [] (fun a b => a))
  rw [endsL_nil, List.append_nil] at hst
  have HA := hide hA
  have HB0 := hide hb0
  have hel := hide (endsL_len A)
  obtain ⟨ao, ca, hva⟩ := hA.shape
  have hbx0 : Hid ((w.alloc (.cells #[va] 22)).cell? ⟨w.heap.size, 0, none⟩ = some va) := reads_one va _
  rw [hva] at HE HA HB0 hbx0 ⊢
  clear hA hb0 hva oA
  go_enter Try.func14, Try.ntmps14
  go_wp2_with fail
  refine HE.out.mono ?_
  rintro e w1 ⟨v1, rfl, ho1, hb1⟩
  have hb01 := HB0.out.trans (hb1.mono HB0.out.size)
  go_wp2_with fail
  refine (setOf_any 30 #[.pointer (some ⟨w.heap.size, 0, none⟩)] _ v1 (endsL A) w1 entersMakeOf1 (own_readsI ho1) (by rw [endsL_len]; omega) (tellsMakeOf _ _ A w1 (below_cell hb1 (lt_of_cell hbx0.out) hbx0.out) (HA.out.below hb01) (by omega)) hst.out).mono ?_
  rintro e w2 ⟨v2, O, rfl, ho2, hs2, hl2, hb2⟩
  go_wp2
  go_ret
  exact ⟨_, O, rfl, own_reads ho2, hs2, by have := hel.out; omega, hb01.trans (hb2.mono hb01.size)⟩
theorem entersNotOf1 (args : Array Value) (w : World) : (callFunc 43 args).run Try.prog w = .ok (.enter 43 args) w := enters_of Try.func43 (by kernel_rfl) rfl args w

set_option maxHeartbeats 1000000 in
theorem tellsNotOf (bx : Addr) (va : Value) (A : RL) (w : World) (hbx : w.cell? bx = some va) (hA : Reads w va A) (lA : A.length ≤ 1000000) : Tells 43 #[.pointer (some bx)] (fun q => !ins A q) w := by
  intro p w' hb
  have hc := below_cell hb (lt_of_cell hbx) hbx
  have HW := hide (within_any va A p w' (hA.below hb) lA)
  obtain ⟨z, hz⟩ : ∃ z, z = ins A p := ⟨_, rfl⟩
  rw [← hz] at HW
  show Calls Try.prog 43 #[.int .i64 p, .pointer (some bx)] w' _
  simp only
  rw [← hz]
  clear hz hA hbx
  go_enter Try.func43, Try.ntmps43
  go_wp2_with fail
  refine HW.out.mono ?_
  rintro e w2 ⟨rfl, q, rfl⟩
  go_wp2
  go_ret
  exact ⟨rfl, q, rfl⟩
set_option maxHeartbeats 1000000 in
theorem notOf_any (va : Value) (A : RL) (w : World) (hA : Reads w va A) (lA : A.length ≤ 1000) (oA : ∀ r ∈ A, okR r) : Calls Try.prog 22 #[va] w fun e w' => Refs (fun q => !ins A q) (1 + 2 * A.length) w e w' := by
  have hb0 : Below w.heap.size w (w.alloc (.cells #[va] 22)) := (Below.refl _ w).alloc (Nat.le_refl _) _
  have HE := hide (endsOf_any va (.slice none 0 0) A [] (w.alloc (.cells #[va] 22)) (hA.below hb0) (reads_nil _) lA (by decide) oA (by simp))
  rw [endsL_nil, List.append_nil] at HE
  have hst := hide (stays_of A [] (fun a b => !a))
  rw [endsL_nil, List.append_nil] at hst
  have HA := hide hA
  have HB0 := hide hb0
  have hel := hide (endsL_len A)
  obtain ⟨ao, ca, hva⟩ := hA.shape
  have hbx0 : Hid ((w.alloc (.cells #[va] 22)).cell? ⟨w.heap.size, 0, none⟩ = some va) := reads_one va _
  rw [hva] at HE HA HB0 hbx0 ⊢
  clear hA hb0 hva oA
  go_enter Try.func22, Try.ntmps22
  go_wp2_with fail
  refine HE.out.mono ?_
  rintro e w1 ⟨v1, rfl, ho1, hb1⟩
  have hb01 := HB0.out.trans (hb1.mono HB0.out.size)
  go_wp2_with fail
  refine (setOf_any 43 #[.pointer (some ⟨w.heap.size, 0, none⟩)] _ v1 (endsL A) w1 entersNotOf1 (own_readsI ho1) (by rw [endsL_len]; omega) (tellsNotOf _ _ A w1 (below_cell hb1 (lt_of_cell hbx0.out) hbx0.out) (HA.out.below hb01) (by omega)) hst.out).mono ?_
  rintro e w2 ⟨v2, O, rfl, ho2, hs2, hl2, hb2⟩
  go_wp2
  go_ret
  exact ⟨_, O, rfl, own_reads ho2, hs2, by have := hel.out; omega, hb01.trans (hb2.mono hb01.size)⟩
theorem entersMeetOf1 (args : Array Value) (w : World) : (callFunc 40 args).run Try.prog w = .ok (.enter 40 args) w := enters_of Try.func40 (by kernel_rfl) rfl args w

set_option maxHeartbeats 1000000 in
theorem tellsMeetOf (bx by' : Addr) (va vb : Value) (A B : RL) (w : World) (hbx : w.cell? bx = some va) (hby : w.cell? by' = some vb) (hA : Reads w va A) (hB : Reads w vb B) (lA : A.length ≤ 1000000) (lB : B.length ≤ 1000000) : Tells 40 #[.pointer (some bx), .pointer (some by')] (fun q => ins A q && ins B q) w := by
  intro p w' hb
  have hc := below_cell hb (lt_of_cell hbx) hbx
  have hd := below_cell hb (lt_of_cell hby) hby
  have HW := hide (within_any va A p w' (hA.below hb) lA)
  have HV := hide (fun q => within_any vb B p (w'.drewN q) (show Reads (w'.drewN q) vb B from hB.below (below_drewN hb q)) lB)
  obtain ⟨z, hz⟩ : ∃ z, z = ins A p := ⟨_, rfl⟩
  obtain ⟨y, hy⟩ : ∃ y, y = ins B p := ⟨_, rfl⟩
  rw [← hz] at HW
  rw [← hy] at HV
  show Calls Try.prog 40 #[.int .i64 p, .pointer (some bx), .pointer (some by')] w' _
  simp only
  rw [← hz, ← hy]
  clear hz hy hA hB hbx hby
  cases z with
  | true =>
    go_enter Try.func40, Try.ntmps40
    go_wp2_with fail
    refine HW.out.mono ?_
    rintro e w2 ⟨rfl, q, rfl⟩
    go_wp2_with fail
    refine (HV.out q).mono ?_
    rintro e w3 ⟨rfl, q', rfl⟩
    go_wp2
    go_ret
    exact ⟨by simp, _, rfl⟩
  | false =>
    go_enter Try.func40, Try.ntmps40
    go_wp2_with fail
    refine HW.out.mono ?_
    rintro e w2 ⟨rfl, q, rfl⟩
    go_wp2
    go_ret
    exact ⟨by simp, q, rfl⟩
set_option maxHeartbeats 1000000 in
theorem meetOf_any (va vb : Value) (A B : RL) (w : World) (hA : Reads w va A) (hB : Reads w vb B) (lA : A.length ≤ 1000) (lB : B.length ≤ 1000) (oA : ∀ r ∈ A, okR r) (oB : ∀ r ∈ B, okR r) : Calls Try.prog 20 #[va, vb] w fun e w' => Refs (fun q => ins A q && ins B q) (1 + 2 * (A.length + B.length)) w e w' := by
  have hb0 := below_two w (.cells #[va] 22) (.cells #[vb] 22)
  have HE := hide (endsOf_any va vb A B ((w.alloc (.cells #[va] 22)).alloc (.cells #[vb] 22)) (hA.below hb0) (hB.below hb0) lA lB oA oB)
  have hst := hide (stays_of A B (fun a b => a && b))
  have HA := hide hA
  have HBr := hide hB
  have HB0 := hide hb0
  have hel : Hid ((endsL A ++ endsL B).length = A.length * 2 + B.length * 2) := by show _ = _; rw [List.length_append, endsL_len, endsL_len]
  obtain ⟨ao, ca, hva⟩ := hA.shape
  obtain ⟨bo, cb, hvb⟩ := hB.shape
  have hbx0 : Hid (((w.alloc (.cells #[va] 22)).alloc (.cells #[vb] 22)).cell? ⟨w.heap.size, 0, none⟩ = some va) := box_two w va _
  have hby0 : Hid (((w.alloc (.cells #[va] 22)).alloc (.cells #[vb] 22)).cell? ⟨w.heap.size + 1, 0, none⟩ = some vb) := by
    have := reads_one (w := w.alloc (.cells #[va] 22)) vb 22
    rw [World.size_alloc] at this
    exact this
  rw [hva] at HE HA HB0 hbx0 hby0 ⊢
  rw [hvb] at HE HBr HB0 hbx0 hby0 ⊢
  clear hA hB hb0 hva hvb oA oB
  go_enter Try.func20, Try.ntmps20
  go_wp2_with fail
  refine HE.out.mono ?_
  rintro e w1 ⟨v1, rfl, ho1, hb1⟩
  have hb01 := HB0.out.trans (hb1.mono HB0.out.size)
  go_wp2_with fail
  refine (setOf_any 40 #[.pointer (some ⟨w.heap.size, 0, none⟩), .pointer (some ⟨w.heap.size + 1, 0, none⟩)] _ v1 (endsL A ++ endsL B) w1 entersMeetOf1 (own_readsI ho1) (by have := hel.out; omega) (tellsMeetOf _ _ _ _ A B w1 (below_cell hb1 (lt_of_cell hbx0.out) hbx0.out) (below_cell hb1 (lt_of_cell hby0.out) hby0.out) (HA.out.below hb01) (HBr.out.below hb01) (by omega) (by omega)) hst.out).mono ?_
  rintro e w2 ⟨v2, O, rfl, ho2, hs2, hl2, hb2⟩
  go_wp2
  go_ret
  exact ⟨_, O, rfl, own_reads ho2, hs2, by have := hel.out; omega, hb01.trans (hb2.mono hb01.size)⟩
theorem entersUnionOf1 (args : Array Value) (w : World) : (callFunc 37 args).run Try.prog w = .ok (.enter 37 args) w := enters_of Try.func37 (by kernel_rfl) rfl args w

set_option maxHeartbeats 1000000 in
theorem tellsUnionOf (bx by' : Addr) (va vb : Value) (A B : RL) (w : World) (hbx : w.cell? bx = some va) (hby : w.cell? by' = some vb) (hA : Reads w va A) (hB : Reads w vb B) (lA : A.length ≤ 1000000) (lB : B.length ≤ 1000000) : Tells 37 #[.pointer (some bx), .pointer (some by')] (fun q => ins A q || ins B q) w := by
  intro p w' hb
  have hc := below_cell hb (lt_of_cell hbx) hbx
  have hd := below_cell hb (lt_of_cell hby) hby
  have HW := hide (within_any va A p w' (hA.below hb) lA)
  have HV := hide (fun q => within_any vb B p (w'.drewN q) (show Reads (w'.drewN q) vb B from hB.below (below_drewN hb q)) lB)
  obtain ⟨z, hz⟩ : ∃ z, z = ins A p := ⟨_, rfl⟩
  obtain ⟨y, hy⟩ : ∃ y, y = ins B p := ⟨_, rfl⟩
  rw [← hz] at HW
  rw [← hy] at HV
  show Calls Try.prog 37 #[.int .i64 p, .pointer (some bx), .pointer (some by')] w' _
  simp only
  rw [← hz, ← hy]
  clear hz hy hA hB hbx hby
  cases z with
  | false =>
    go_enter Try.func37, Try.ntmps37
    go_wp2_with fail
    refine HW.out.mono ?_
    rintro e w2 ⟨rfl, q, rfl⟩
    go_wp2_with fail
    refine (HV.out q).mono ?_
    rintro e w3 ⟨rfl, q', rfl⟩
    go_wp2
    go_ret
    exact ⟨by simp, _, rfl⟩
  | true =>
    go_enter Try.func37, Try.ntmps37
    go_wp2_with fail
    refine HW.out.mono ?_
    rintro e w2 ⟨rfl, q, rfl⟩
    go_wp2
    go_ret
    exact ⟨by simp, q, rfl⟩
set_option maxHeartbeats 1000000 in
theorem unionOf_any (va vb : Value) (A B : RL) (w : World) (hA : Reads w va A) (hB : Reads w vb B) (lA : A.length ≤ 1000) (lB : B.length ≤ 1000) (oA : ∀ r ∈ A, okR r) (oB : ∀ r ∈ B, okR r) : Calls Try.prog 18 #[va, vb] w fun e w' => Refs (fun q => ins A q || ins B q) (1 + 2 * (A.length + B.length)) w e w' := by
  have hb0 := below_two w (.cells #[va] 22) (.cells #[vb] 22)
  have HE := hide (endsOf_any va vb A B ((w.alloc (.cells #[va] 22)).alloc (.cells #[vb] 22)) (hA.below hb0) (hB.below hb0) lA lB oA oB)
  have hst := hide (stays_of A B (fun a b => a || b))
  have HA := hide hA
  have HBr := hide hB
  have HB0 := hide hb0
  have hel : Hid ((endsL A ++ endsL B).length = A.length * 2 + B.length * 2) := by show _ = _; rw [List.length_append, endsL_len, endsL_len]
  obtain ⟨ao, ca, hva⟩ := hA.shape
  obtain ⟨bo, cb, hvb⟩ := hB.shape
  have hbx0 : Hid (((w.alloc (.cells #[va] 22)).alloc (.cells #[vb] 22)).cell? ⟨w.heap.size, 0, none⟩ = some va) := box_two w va _
  have hby0 : Hid (((w.alloc (.cells #[va] 22)).alloc (.cells #[vb] 22)).cell? ⟨w.heap.size + 1, 0, none⟩ = some vb) := by
    have := reads_one (w := w.alloc (.cells #[va] 22)) vb 22
    rw [World.size_alloc] at this
    exact this
  rw [hva] at HE HA HB0 hbx0 hby0 ⊢
  rw [hvb] at HE HBr HB0 hbx0 hby0 ⊢
  clear hA hB hb0 hva hvb oA oB
  go_enter Try.func18, Try.ntmps18
  go_wp2_with fail
  refine HE.out.mono ?_
  rintro e w1 ⟨v1, rfl, ho1, hb1⟩
  have hb01 := HB0.out.trans (hb1.mono HB0.out.size)
  go_wp2_with fail
  refine (setOf_any 37 #[.pointer (some ⟨w.heap.size, 0, none⟩), .pointer (some ⟨w.heap.size + 1, 0, none⟩)] _ v1 (endsL A ++ endsL B) w1 entersUnionOf1 (own_readsI ho1) (by have := hel.out; omega) (tellsUnionOf _ _ _ _ A B w1 (below_cell hb1 (lt_of_cell hbx0.out) hbx0.out) (below_cell hb1 (lt_of_cell hby0.out) hby0.out) (HA.out.below hb01) (HBr.out.below hb01) (by omega) (by omega)) hst.out).mono ?_
  rintro e w2 ⟨v2, O, rfl, ho2, hs2, hl2, hb2⟩
  go_wp2
  go_ret
  exact ⟨_, O, rfl, own_reads ho2, hs2, by have := hel.out; omega, hb01.trans (hb2.mono hb01.size)⟩

end Go.Proofs.Ytjlnmlelmjmneaa
