/- What eachLetter does with the function literal of set.Fold. -/
import Derived.Test.YtojjfmnbpfpanaaDoorGlp
namespace Go.Proofs.YtojjfmnbpfpanaaDoor
open Go.RowKit
set_option linter.unusedVariables false

theorem saysAnd : Says 31 (fun a b => a && b) := by
  intro a b w
  cases a <;> cases b
  all_goals
    go_enter Tryd.func31, Tryd.ntmps31
    go_wp2
    go_ret
    exact ⟨rfl, rfl⟩
theorem entersAnd (args : Array Value) (w : World) : (callFunc 31 args).run Tryd.prog w = .ok (.enter 31 args) w := enters_of Tryd.func31 (by kernel_rfl) rfl args w
theorem entersF11 (args : Array Value) (w : World) : (callFunc 16 args).run Tryd.prog w = .ok (.enter 16 args) w := enters_of Tryd.func16 (by kernel_rfl) rfl args w
theorem own_keep {b B2 : Nat} {v0 u v : Value} {w2 wr : World} {O : RL} (h : w2.ownsRow B2 35 2 v O.length (cells2 O)) (hk : KB b v0 w2 u wr) (hb : b < B2) (hv : ∀ k, v0.ownBlock = some k → k < B2) : wr.ownsRow B2 35 2 v O.length (cells2 O) := by
  refine ⟨h.1, ?_⟩
  rcases h.2 with h2 | ⟨g, cap, cur, rfl, h3, hg, h4⟩
  · exact Or.inl h2
  · exact Or.inr ⟨g, cap, cur, rfl, h3, by rw [hk.1 g (Array.getElem?_eq_some_iff.1 hg).1 (by omega) (fun e => by have := hv g e.symm; omega)]; exact hg, h4⟩
theorem set_and {A O1 O : RL} {P : RL} (h1 : IsSet (ins P) O1) (h : IsSet (fun q => ins A q && ins O1 q) O) : IsSet (fun q => ins A q && ins P q) O := by
  refine ⟨h.1, fun q => ?_⟩
  have e := h.2 q
  simp only at e ⊢
  rw [e, h1.2 q]
  cases decide (0 ≤ q) <;> cases decide (q ≤ 1114111) <;> simp
theorem set_sub {A O P : RL} (h : IsSet (fun q => ins A q && ins P q) O) : ∀ q, ins O q = true → ins P q = true := fun q hq => by
  rw [h.2 q] at hq
  simp only [Bool.and_eq_true] at hq
  exact hq.2.2

set_option maxHeartbeats 4000000 in
theorem letter_any (B b : Nat) (hB0 : 0 < B) (hBb : B ≤ b) (va : Value) (A : RL) (v : Value) (L : RL) (w : World) (hT : Fo.Tab w) (hA : Reads w va A) (cA : Canon A) (lA : A.length ≤ 400) (hbox : w.heap[b]? = some (.cells #[v] 22 (0, 0))) (hown : w.ownsRow B 35 2 v L.length (cells2 L)) (hn : L.length ≤ 400) (hB : B ≤ w.heap.size) :
    Calls Tryd.prog 15 #[va, .func (.func 16) #[] #[.pointer (some ⟨b, 0, none⟩)]] w fun e w' => ∃ O v', e = .returned (.tuple #[]) ∧ IsSet (fun q => ins A q && ins Fo.ps_alpha q) O ∧ w'.heap[b]? = some (.cells #[v'] 22 (0, 0)) ∧ w'.ownsRow B 35 2 v' (L ++ adds (pts O)).length (cells2 (L ++ adds (pts O))) ∧ Below B w w' := by
  have HCl := hide (class_alpha w)
  have ent := entersF11
  have hlt0 := lt_of_block hbox
  have hv0 : Hid (∀ k, v.ownBlock = some k → k < w.heap.size) := fun k hk => (hown.lt k hk).2
  obtain ⟨aa, ca, hva⟩ := hA.shape
  have HA := hide hA
  have CA := hide cA
  have HB := hide hbox
  have HO := hide hown
  have HT := hide hT
  clear hA cA hbox hown hT
  obtain ⟨na, hna⟩ : ∃ na, na = A.length := ⟨_, rfl⟩
  rw [← hna] at lA hva
  have HNA := hide hna
  clear hna
  rw [hva] at HA ⊢
  go_enter Tryd.func15, Tryd.ntmps15
  go_wp2_with fail
  refine HCl.out.mono ?_
  rintro e w1 ⟨v1, O1, rfl, ho1, hs1, hl1, hb1⟩
  have HK := hide (kept_any 31 _ saysAnd entersAnd _ v1 A O1 w1 (HA.out.below hb1) (own_reads ho1) CA.out hs1.1 (by have := HNA.out; omega) (by omega))
  have HS1 := hide hs1
  have HB1 := hide hb1
  obtain ⟨a1, c1, hv1⟩ := own_shape ho1
  rw [hv1] at HK ⊢
  clear HCl ho1 hs1 hb1 hv1 hl1
  go_wp2_with fail
  refine HK.out.mono ?_
  rintro e w2 ⟨v2, O, rfl, ho2, hs2, hb2⟩
  have HS := hide (set_and HS1.out hs2)
  have hb02 : Below w.heap.size w w2 := HB1.out.trans (hb2.mono HB1.out.size)
  have HO2 := hide (own_base ho2 HB1.out.size)
  have HB2 := hide hb02
  obtain ⟨a2, c2, hv2⟩ := own_shape ho2
  rw [hv2] at HO2 ⊢
  obtain ⟨n, hnn⟩ : ∃ n, n = O.length := ⟨_, rfl⟩
  have HN := hide hnn
  have hn3 : Hid (n ≤ 2000000) := by
    show n ≤ 2000000
    have h1 := pts_647 O HS.out.1 (set_sub HS.out)
    have h2 : ∀ M : RL, (∀ r ∈ M, okR r) → M.length ≤ (pts M).length := by
      intro M
      induction M with
      | nil => intro _; exact Nat.le_refl _
      | cons r M ih =>
        intro hM
        have a1 := ih (fun x hx => hM x (List.mem_cons_of_mem _ hx))
        have a2 := hM r (List.mem_cons_self ..)
        unfold okR at a2
        rw [pts, List.length_append, seqI_len, List.length_cons]
        unfold lenR
        omega
    have h3 := h2 O HS.out.1.1
    omega
  have hn3' := hn3.out
  rw [← hnn] at HO2 ⊢
  have hBw2 : B ≤ w2.heap.size := Nat.le_trans hB hb02.size
  clear HK ho2 hs2 hb2 hv2 hb02 hnn HS1 HB1
  go_wp2_with fail
  go_loopw [17] (fun i wr => ∃ (k : Nat) (u : Value), k ≤ n ∧ i = .int .i64 k ∧ wr.heap[b]? = some (.cells #[u] 22 (0, 0)) ∧ wr.ownsRow B 35 2 u (L ++ adds (pts (O.take k))).length (cells2 (L ++ adds (pts (O.take k)))) ∧ Below B w2 wr ∧ KB b v w2 u wr) (fun i _ => n - (intOf i).toNat)
  case atStart => exact ⟨0, v, Nat.zero_le _, rfl, by rw [HB2.out.block b hlt0]; exact HB.out, by rw [show L ++ adds (pts (O.take 0)) = L from by simp [adds, pts]]; exact own_below HO.out HB2.out, Below.refl _ _, KB.refl _ _ _⟩
  case round =>
    obtain ⟨k, u, hk, rfl, hb, ho, hbl, hkb⟩ := hrel
    by_cases hlk : k < n
    · have hkO : k < O.length := by have := HN.out; omega
      have hkeep := own_keep (by rw [HN.out] at HO2; exact HO2.out) hkb hlt0 hv0.out
      obtain ⟨x, cx, hx, hcx⟩ := (own_reads hkeep).some (by omega)
      obtain ⟨rfl⟩ : a2 = some x := by cases hx; rfl
      obtain ⟨d1, d2⟩ := hcx k hkO
      have hr := HS.out.1.1 O[k] (List.getElem_mem _)
      have hroom := hide (fun m hm => adds_room HS.out.1 (set_sub HS.out) k hkO m hm)
      have hpt := hide (pts_take O k hkO)
      obtain ⟨r, hr'⟩ : ∃ r, r = O[k] := ⟨_, rfl⟩
      rw [← hr'] at d1 d2 hr hroom hpt
      obtain ⟨p, q⟩ := r
      unfold okR at hr
      simp only at d1 d2 hr hroom hpt
      obtain ⟨r0, r1, r2⟩ := hr
      have hltb := lt_of_block hb
      have hBwr := Nat.le_trans hBw2 hbl.size
      have hown_lt : Hid (∀ k, u.ownBlock = some k → k < wr.heap.size) := fun k hk => (ho.lt k hk).2
      have HBk := hide hb
      have HOk := hide ho
      have HBl := hide hbl
      have HKB := hide hkb
      clear hb ho hbl hkb hkeep hx hcx hr'
      go_wp2_with fail
      obtain ⟨W, hW⟩ : ∃ W, W = wr.alloc (.cells #[.int .i64 p, .int .i64 q] 35) := ⟨_, rfl⟩
      have HBW : Hid (Below B w2 W) := by rw [hW]; exact HBl.out.alloc hBwr _
      have HKW : Hid (KB b v w2 u W) := by rw [hW]; exact HKB.out.trans (KB.below ((Below.refl _ wr).alloc (Nat.le_refl _) _)) HBl.out.size
      have HCq : Hid (∀ u' ws, KB b u W u' ws → ws.cell? ⟨wr.heap.size, 1, none⟩ = some (.int .i64 q)) := fun u' ws hk => by
        rw [cell_block (w := W) (hk.1 wr.heap.size (by rw [hW]; simp) (by omega) (fun e => by have := hown_lt.out _ e.symm; omega)), hW]
        exact World.cell?_alloc_at _ _ _ _ rfl
      have hBW : B ≤ W.heap.size := Nat.le_trans hBw2 HBW.out.size
      have HXW : Hid (W.heap[b]? = some (.cells #[u] 22 (0, 0))) := by show _ = _; rw [hW, Below.heap_alloc _ _ _ hltb]; exact HBk.out
      have HOW : Hid (W.ownsRow B 35 2 u (L ++ adds (pts (O.take k))).length (cells2 (L ++ adds (pts (O.take k))))) := by rw [hW]; exact HOk.out.alloc _
      have HTW : Hid (Fo.Tab W) := (HT.out.below HB2.out (by omega)).below HBW.out hB0
      rw [← hW]
      clear d1 d2 HBk HOk hown_lt HBl HKB hltb
      go_loopw [8] (fun i ws => ∃ (m : Nat) (u' : Value) (z : Int), z = p + m ∧ m ≤ lenR (p, q) ∧ i = .int .i64 z ∧ ws.heap[b]? = some (.cells #[u'] 22 (0, 0)) ∧ ws.ownsRow B 35 2 u' (L ++ adds (pts (O.take k) ++ seqI p m)).length (cells2 (L ++ adds (pts (O.take k) ++ seqI p m))) ∧ Below B W ws ∧ KB b u W u' ws) (fun i _ => (q + 1 - intOf i).toNat)
      case atStart => exact ⟨0, u, p, by simp, Nat.zero_le _, rfl, HXW.out, by rw [show pts (O.take k) ++ seqI p 0 = pts (O.take k) from by simp [seqI]]; exact HOW.out, Below.refl _ _, KB.refl _ _ _⟩
      case round =>
        obtain ⟨m, u', z, hz, hm, rfl, hb, ho, hbl, hkb⟩ := hrel
        have hcq := HCq.out u' wr hkb
        by_cases hzq : z ≤ q
        · have hz0 : 0 ≤ z := by omega
          have hz1 : IntKind.i64.wrap (z + 1) = z + 1 := by rw [IntKind.wrap_i64]; omega
          have hlen := hroom.out m hm
          have HE := hide (takeF B b hB0 hBb u' _ z hz0 (by omega) wr (HTW.out.below hbl hB0) hb ho (by rw [List.length_append]; omega) (Nat.le_trans hBW hbl.size))
          have HZ := hide hz
          have HBl := hide hbl
          have HKB := hide hkb
          have hm1 : m + 1 ≤ lenR (p, q) := by unfold lenR; simp only; omega
          clear hz hlen hb ho hbl hkb
          go_wp2_with fail
          refine HE.out.mono ?_
          rintro e w3 ⟨rfl, ⟨u2, hbx, hown, hkb2⟩, hbl2⟩
          have HX3 := hide hbx
          have HO3 := hide hown
          have HK3 := hide hkb2
          have HB3 := hide hbl2
          clear HE hbx hown hkb2 hbl2
          go_wp2
          go_roundw
          case rel => exact ⟨m + 1, u2, z + 1, by have := HZ.out; omega, hm1, by go_num, HX3.out, by rw [seqI_succ, ← HZ.out, ← List.append_assoc (pts _), adds_append, adds_one, ← List.append_assoc L]; exact HO3.out, HBl.out.trans HB3.out, HKB.out.trans HK3.out HBl.out.size⟩
          case measure => simp [intOf]; omega
        · have hme : m = lenR (p, q) := by unfold lenR at hm ⊢; simp only at hm ⊢; omega
          rw [hme] at ho
          have HX3 := hide hb
          have HO3 := hide ho
          have HB3 := hide hbl
          have HK3 := hide hkb
          clear hb ho hbl hkb
          go_wp2
          go_roundw
          case rel => exact ⟨k + 1, u', by omega, by go_num, HX3.out, by rw [hpt.out]; exact HO3.out, HBW.out.trans HB3.out, HKW.out.trans HK3.out HBW.out.size⟩
          case measure => simp [intOf]; omega
    · rw [List.take_of_length_le (by have := HN.out; omega)] at ho
      have HX3 := hide hb
      have HO3 := hide ho
      have HB3 := hide hbl
      clear hb ho hbl hkb
      go_wp2
      go_end0
      exact ⟨O, u, rfl, HS.out, HX3.out, HO3.out, (HB2.out.mono hB).trans HB3.out⟩

end Go.Proofs.YtojjfmnbpfpanaaDoor
