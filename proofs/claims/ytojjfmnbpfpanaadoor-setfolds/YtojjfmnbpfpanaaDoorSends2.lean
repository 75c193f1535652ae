/- What the reference's EndsOf answers. -/
import Derived.Test.YtojjfmnbpfpanaaDoorSref
import Derived.Deep.RegionHeld3
import Derived.Deep.AppendLies
namespace Go.Proofs.YtojjfmnbpfpanaaDoor
open Go.RowKit
set_option linter.unusedVariables false

theorem info3 : (Tryd.prog.info? 3).map (fun i => (i.zero, i.size, i.bytes)) = some (some (.int .i64 0), 1, 8) := by kernel_rfl
theorem i64s_len (l : List Int) : (i64s l).length = l.length := by simp [i64s]
theorem i64s_append (a b : List Int) : i64s (a ++ b) = i64s a ++ i64s b := by simp [i64s]
theorem endsL_take {A : RL} {k : Nat} (h : k < A.length) : endsL (A.take (k + 1)) = endsL (A.take k) ++ [A[k].1, A[k].2 + 1] := by
  rw [List.take_add_one, List.getElem?_eq_getElem h, endsL_append]
  rfl

theorem below_drew {B : Nat} {w w' : World} (h : Below B w w') : Below B w w'.drew := ⟨h.1, h.2, h.3, h.4, h.5⟩
theorem ends_snd (E : List Int) {B : RL} {k : Nat} (h : k < B.length) : E ++ endsL (B.take (k + 1)) = (E ++ endsL (B.take k)) ++ [B[k].1, B[k].2 + 1] := by rw [endsL_take h, List.append_assoc]
theorem ends_below {B : Nat} {w wr w1 : World} {v : Value} {n : Nat} {xs : List Value} (ho : wr.ownsRow B 3 1 v n xs) (hb : Below B w wr) (hB : B ≤ wr.heap.size) {o : Obj} (hg : (wr.alloc o).drew.grownBy w1 v.ownBlock) : Below B w w1 :=
  hb.trans (((below_drew ((Below.refl B wr).alloc hB o))).grown hg (by show B ≤ (wr.alloc o).heap.size; simp; omega) (fun k hk => (ho.lt k hk).1))
theorem add_block (x : Addr) (n : Nat) : (x.add n).block = x.block := by unfold Addr.add; split <;> rfl

set_option maxRecDepth 100000 in
set_option maxHeartbeats 4000000 in
theorem endsOf_any (va vb : Value) (A B : RL) (w : World) (hA : Reads w va A) (hB : Reads w vb B) (lA : A.length ≤ 40000) (lB : B.length ≤ 40000) (oA : ∀ r ∈ A, okR r) (oB : ∀ r ∈ B, okR r) :
    Calls Tryd.prog 44 #[va, vb] w fun e w' => ∃ v', e = .returned v' ∧ w'.ownsRow w.heap.size 3 1 v' (endsL A ++ endsL B).length (i64s (endsL A ++ endsL B)) ∧ Below w.heap.size w w' := by
  obtain ⟨i0, hi, hz0, hz1, hz2⟩ := info_parts info3
  obtain ⟨ao, ca, hva⟩ := hA.shape
  obtain ⟨bo, cb, hvb⟩ := hB.shape
  have HA := hide hA
  have HB := hide hB
  have OA := hide oA
  have OB := hide oB
  obtain ⟨n, hn⟩ : ∃ n, n = A.length := ⟨_, rfl⟩
  obtain ⟨m, hm⟩ : ∃ m, m = B.length := ⟨_, rfl⟩
  have HN := hide hn
  have HM := hide hm
  rw [← hn] at hva lA
  rw [← hm] at hvb lB
  rw [hva] at HA ⊢
  rw [hvb] at HB ⊢
  clear hA hB oA oB hn hm hva hvb
  go_enter Tryd.func44, Tryd.ntmps44
  go_wp2
  go_loopw [5, 6] (fun v i wr => ∃ k : Nat, k ≤ n ∧ i = .int .i64 k ∧ wr.ownsRow w.heap.size 3 1 v (endsL (A.take k)).length (i64s (endsL (A.take k))) ∧ Below w.heap.size w wr) (fun _ i _ => n - (intOf i).toNat)
  case atStart => exact ⟨0, Nat.zero_le _, rfl, World.ownsRow_nil _ _ _ _, Below.refl _ _⟩
  case round =>
    obtain ⟨k, hk, rfl, ho, hb⟩ := hrel
    by_cases hlt : k < n
    · have hkL : k < A.length := by have := HN.out; omega
      obtain ⟨x, cx, hx, hcx⟩ := (HA.out.below hb).some (by omega)
      obtain ⟨rfl⟩ : ao = some x := by cases hx; rfl
      obtain ⟨c1, c2⟩ := hcx k hkL
      have HXB : Hid (x.block < w.heap.size) := by
        obtain ⟨x', cx', hx', hcx'⟩ := HA.out.some (by omega)
        cases hx'
        have := lt_of_cell (hcx' k hkL).1
        rw [add_block] at this
        exact this
      have hE := hide (endsL_take hkL)
      have hr := OA.out A[k] (List.getElem_mem _)
      unfold okR at hr
      have hel : (endsL (A.take k)).length ≤ 2 * k := by rw [endsL_len, List.length_take]; omega
      obtain ⟨L, hL⟩ : ∃ L, L = endsL (A.take k) := ⟨_, rfl⟩
      rw [← hL] at ho hE hel
      obtain ⟨r, hr'⟩ : ∃ r, r = A[k] := ⟨_, rfl⟩
      rw [← hr'] at c1 c2 hr hE
      obtain ⟨a, b⟩ := r
      simp only at c1 c2 hr hE
      obtain ⟨r0, r1, r2⟩ := hr
      obtain ⟨ro, rc, rfl⟩ := own_shape ho
      have hBw : w.heap.size ≤ wr.heap.size := hb.size
      have HO := hide ho
      have HBl := hide hb
      have e1 : (k : Int) < (n : Int) := by omega
      have e0 : (0 : Int) ≤ (k : Int) := by omega
      have wb : IntKind.i64.wrap (b + 1) = b + 1 := by rw [IntKind.wrap_i64]; omega
      have lx := lt_of_cell c1
      rw [add_block] at lx
      have hne : (Value.slice ro L.length rc).ownBlock ≠ some x.block := fun e => by
        have h1 := (HO.out.lt _ e).1
        have h2 := HXB.out
        omega
      clear hcx hx hL hr' ho hb
      go_wp2
      go_region_held3 (fun w' => w'.cell? (x.add (k * 2)) = some (.int .i64 a) ∧ w'.cell? ⟨(x.add (k * 2)).block, (x.add (k * 2)).off + 1, none⟩ = some (.int .i64 b))
        (first | go_keep | (go_split_ands; refine ⟨?_, ?_⟩ <;> (rw [hgrow.cell_far _ (by simp [add_block]; omega) (by simpa [add_block] using Ne.symm hne)]; assumption)))
        ((refine step_append_lies _ (by rfl) _ _ _ (by rfl) w.heap.size 3 i0 _ 1 8 Tryd.underlying37 hi hz0 hz1 hz2 rfl (by omega) (.slice ro L.length rc) L.length (i64s L) (by rfl) ((HO.out.alloc _).drew) ⟨wr.heap.size, 0, none⟩ 2 2 [.int .i64 a, .int .i64 (b + 1)] (by rfl) (by rfl) (World.news_of_block (cs := #[.int .i64 a, .int .i64 (b + 1)]) (t := 3) (fr := (0, 0)) (heap_alloc_new wr _)) (by simp [Value.oneCell']) (by omega) (by unfold maxLen; omega) (by omega) (by simp; omega) (wr.heap.size + 1) (by simp) ?_; intro gg cap w1 hown1 hgrow hat hltt))
      go_wp2
      go_roundw
      case rel => exact ⟨k + 1, by omega, by go_num, by rw [hE.out, i64s_append, List.length_append]; exact hown1, ends_below HO.out HBl.out hBw hgrow⟩
      case measure => simp [intOf]; omega
    · have hkn : k = n := by omega
      subst hkn
      have hfull : A.take k = A := List.take_of_length_le (by have := HN.out; omega)
      rw [hfull] at ho
      have HO1 := hide ho
      have HB1 := hide hb
      obtain ⟨ro1, rc1, rfl⟩ := own_shape ho
      have hel1 := endsL_len A
      clear ho hb hfull
      obtain ⟨E1, hE1⟩ : ∃ E1, E1 = endsL A := ⟨_, rfl⟩
      rw [← hE1] at HO1 hel1
      have HE1 := hide hE1
      clear hE1
      have hel2 : E1.length ≤ 80000 := by have := HN.out; omega
      clear hel1
      go_wp2
      go_loopw [5, 7] (fun v i wr => ∃ k : Nat, k ≤ m ∧ i = .int .i64 k ∧ wr.ownsRow w.heap.size 3 1 v (E1 ++ endsL (B.take k)).length (i64s (E1 ++ endsL (B.take k))) ∧ Below w.heap.size w wr) (fun _ i _ => m - (intOf i).toNat)
      case atStart => exact ⟨0, Nat.zero_le _, rfl, by rw [List.take_zero, show endsL [] = [] from rfl, List.append_nil]; rw [← HE1.out]; exact HO1.out, HB1.out⟩
      case round =>
        obtain ⟨k, hk, rfl, ho, hb⟩ := hrel
        by_cases hlt : k < m
        · have hkL : k < B.length := by have := HM.out; omega
          obtain ⟨x, cx, hx, hcx⟩ := (HB.out.below hb).some (by omega)
          obtain ⟨rfl⟩ : bo = some x := by cases hx; rfl
          obtain ⟨c1, c2⟩ := hcx k hkL
          have HXB : Hid (x.block < w.heap.size) := by
            obtain ⟨x', cx', hx', hcx'⟩ := HB.out.some (by omega)
            cases hx'
            have := lt_of_cell (hcx' k hkL).1
            rw [add_block] at this
            exact this
          have hE := hide (ends_snd E1 hkL)
          have hr := OB.out B[k] (List.getElem_mem _)
          unfold okR at hr
          have hel : (E1 ++ endsL (B.take k)).length ≤ 2 * k + 80000 := by rw [List.length_append, endsL_len, List.length_take]; omega
          obtain ⟨L, hL⟩ : ∃ L, L = E1 ++ endsL (B.take k) := ⟨_, rfl⟩
          rw [← hL] at ho hE hel
          obtain ⟨r, hr'⟩ : ∃ r, r = B[k] := ⟨_, rfl⟩
          rw [← hr'] at c1 c2 hr hE
          obtain ⟨a, b⟩ := r
          simp only at c1 c2 hr hE
          obtain ⟨r0, r1, r2⟩ := hr
          obtain ⟨ro, rc, rfl⟩ := own_shape ho
          have hBw : w.heap.size ≤ wr.heap.size := hb.size
          have HO := hide ho
          have HBl := hide hb
          have e1 : (k : Int) < (m : Int) := by omega
          have e0 : (0 : Int) ≤ (k : Int) := by omega
          have wb : IntKind.i64.wrap (b + 1) = b + 1 := by rw [IntKind.wrap_i64]; omega
          have lx := lt_of_cell c1
          rw [add_block] at lx
          have hne : (Value.slice ro L.length rc).ownBlock ≠ some x.block := fun e => by
            have h1 := (HO.out.lt _ e).1
            have h2 := HXB.out
            omega
          clear hcx hx hL hr' ho hb
          go_wp2
          go_region_held3 (fun w' => w'.cell? (x.add (k * 2)) = some (.int .i64 a) ∧ w'.cell? ⟨(x.add (k * 2)).block, (x.add (k * 2)).off + 1, none⟩ = some (.int .i64 b))
            (first | go_keep | (go_split_ands; refine ⟨?_, ?_⟩ <;> (rw [hgrow.cell_far _ (by simp [add_block]; omega) (by simpa [add_block] using Ne.symm hne)]; assumption)))
            ((refine step_append_lies _ (by rfl) _ _ _ (by rfl) w.heap.size 3 i0 _ 1 8 Tryd.underlying37 hi hz0 hz1 hz2 rfl (by omega) (.slice ro L.length rc) L.length (i64s L) (by rfl) ((HO.out.alloc _).drew) ⟨wr.heap.size, 0, none⟩ 2 2 [.int .i64 a, .int .i64 (b + 1)] (by rfl) (by rfl) (World.news_of_block (cs := #[.int .i64 a, .int .i64 (b + 1)]) (t := 3) (fr := (0, 0)) (heap_alloc_new wr _)) (by simp [Value.oneCell']) (by omega) (by unfold maxLen; omega) (by omega) (by simp; omega) (wr.heap.size + 1) (by simp) ?_; intro gg cap w1 hown1 hgrow hat hltt))
          go_wp2
          go_roundw
          case rel => exact ⟨k + 1, by omega, by go_num, by rw [hE.out, i64s_append, List.length_append]; exact hown1, ends_below HO.out HBl.out hBw hgrow⟩
          case measure => simp [intOf]; omega
        · have hkn : k = m := by omega
          subst hkn
          have hfull : B.take k = B := List.take_of_length_le (by have := HM.out; omega)
          rw [hfull] at ho
          have HO2 := hide ho
          have HB2 := hide hb
          obtain ⟨ro2, rc2, rfl⟩ := own_shape ho
          clear ho hb hfull
          go_wp2
          go_ret
          exact ⟨_, rfl, by rw [← HE1.out]; exact HO2.out, HB2.out⟩

end Go.Proofs.YtojjfmnbpfpanaaDoor
