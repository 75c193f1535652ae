/- The walk of BracketOnes. -/
import Derived.Test.YtpggffmfeahhaaaGreatDoorLI
namespace Go.Proofs.YtpggffmfeahhaaaGreatDoor.Br
open Go.RowKit
open TK (Mv PatV byteA add_block peel)
set_option linter.unusedVariables false
set_option maxRecDepth 100000

theorem wpList_run {P : Program} {ops : Array Oper} {rest : List Oper} {o : Oper} {a : Act} {w : World} {Q : Exit → Act → World → Prop} (hgd : o.guard = none) (s x : Operand) (t : TypeId)
    (ho : o.op = .call { callee := .builtin .append, args := #[s, x], argTypes := #[t, t] }) (v v2 v' : Value) (w' : World) (hs : a.eval s = v) (hx : a.eval x = v2) (hr : (Builtin.append_ #[t, t] o.type #[v, v2]).run P w = .ok v' w') (h : wpList P ops Q rest (a.put o.dst v') w') : wpList P ops Q (o :: rest) a w :=
  wpList_plain hgd fun _ hK => by
    unfold Oper.wp execOp
    simp only [ho, resolve, invoke, builtin, Sem.run_bind, Sem.run_pure, Result.andThen_ok, List.map_toArray, List.map_cons, List.map_nil, hs, hx, hr]
    exact hK _ _ h
theorem append1 {ops : Array Oper} {rest : List Oper} {o : Oper} {a : Act} {Q : Exit → Act → World → Prop} (W : World) (hgd : o.guard = none) (s x : Operand) (ho : o.op = .call { callee := .builtin .append, args := #[s, x], argTypes := #[22, 22] })
    (base : Nat) (v : Value) (n : Nat) (xs : List Value) (hs : a.eval s = v) (hown : W.ownsRow base 3 1 v n xs) (q : Int) (hx : a.eval x = .slice (some ⟨W.heap.size, 0, none⟩) 1 1) (hn : n ≤ 1000) (hbase : base ≤ W.heap.size)
    (h : ∀ v' w', w'.ownsRow base 3 1 v' (n + 1) (xs ++ [.int .i64 q]) → (W.alloc (.cells #[.int .i64 q] 3)).grownBy w' v.ownBlock → wpList Tryz.prog ops Q rest (a.put o.dst v') w') : wpList Tryz.prog ops Q (o :: rest) a (W.alloc (.cells #[.int .i64 q] 3)) := by
  obtain ⟨i0, hi, hz0, hz1, hz2⟩ := info_parts infoI
  refine wpList_append_own _ hgd s x 22 ho base 3 i0 _ 1 8 Tryz.underlying22 hi hz0 hz1 hz2 rfl (by decide) v n xs hs (hown.alloc _) ⟨W.heap.size, 0, none⟩ 1 1 [.int .i64 q] hx rfl ?_ (by simp [Value.oneCell']) (by unfold maxLen; omega) (by omega) (by simp; omega) (fun v' w' h1 h2 _ => h v' w' h1 h2)
  intro j u hu
  match j, hu with
  | 0, hu =>
    simp at hu
    rw [show (⟨W.heap.size, 0, none⟩ : Addr).add 0 = ⟨W.heap.size, 0, none⟩ from rfl, World.cell?_alloc_at _ _ _ _ (by simp), ← hu]
    rfl
  | j + 1, hu => simp at hu
theorem append2 {ops : Array Oper} {rest : List Oper} {o : Oper} {a : Act} {Q : Exit → Act → World → Prop} (W : World) (hgd : o.guard = none) (s x : Operand) (ho : o.op = .call { callee := .builtin .append, args := #[s, x], argTypes := #[24, 24] })
    (base : Nat) (v : Value) (n : Nat) (xs : List Value) (hs : a.eval s = v) (hown : W.ownsRow base 35 2 v n xs) (q : Int) (hx : a.eval x = .slice (some ⟨W.heap.size, 0, none⟩) 1 1) (hn : n ≤ 1000) (hbase : base ≤ W.heap.size)
    (h : ∀ v' w', w'.ownsRow base 35 2 v' (n + 1) (xs ++ [.int .i64 q, .int .i64 q]) → (W.alloc (.cells #[.int .i64 q, .int .i64 q] 35)).grownBy w' v.ownBlock → wpList Tryz.prog ops Q rest (a.put o.dst v') w') : wpList Tryz.prog ops Q (o :: rest) a (W.alloc (.cells #[.int .i64 q, .int .i64 q] 35)) := by
  obtain ⟨i0, hi, hz0, hz1, hz2⟩ := info_parts infoR
  refine wpList_append_own _ hgd s x 24 ho base 35 i0 _ 2 16 Tryz.underlying24 hi hz0 hz1 hz2 rfl (by decide) v n xs hs (hown.alloc _) ⟨W.heap.size, 0, none⟩ 1 1 [.int .i64 q, .int .i64 q] hx rfl ?_ (by simp [Value.oneCell']) (by unfold maxLen; omega) (by omega) (by simp; omega) (fun v' w' h1 h2 _ => h v' w' h1 h2)
  intro j u hu
  match j, hu with
  | 0, hu =>
    simp at hu
    rw [show (⟨W.heap.size, 0, none⟩ : Addr).add 0 = ⟨W.heap.size, 0, none⟩ from rfl, World.cell?_alloc_at _ _ _ _ (by simp), ← hu]
    rfl
  | 1, hu =>
    simp at hu
    rw [show (⟨W.heap.size, 0, none⟩ : Addr).add 1 = ⟨W.heap.size, 1, none⟩ from rfl, World.cell?_alloc_at _ _ _ _ (by simp), ← hu]
    rfl
  | j + 2, hu => simp at hu
theorem ones_snoc (Q : List Int) (q : Int) : cells2 (ones (Q ++ [q])) = cells2 (ones Q) ++ [.int .i64 q, .int .i64 q] := by simp [ones, cells2, encR]
theorem i64s_snoc (Q : List Int) (q : Int) : i64s (Q ++ [q]) = i64s Q ++ [.int .i64 q] := by simp [i64s]
/-- what the rounds have gathered. -/
structure OneR (w1 wr : World) (k : Nat) (Q : List Int) (u1 u2 : Value) : Prop where
  len : Q.length = k
  leaf : ∀ q ∈ Q, leafC q
  a : wr.ownsRow w1.heap.size 3 1 u1 k (i64s Q)
  b : wr.ownsRow w1.heap.size 35 2 u2 k (cells2 (ones Q))
  bel : Below w1.heap.size w1 wr

set_option maxHeartbeats 16000000 in
theorem ones_walk (d p : Int) (v : Value) (l : List Int) (w : World) (hT : Fo.Tab w) (hpos : 0 < w.heap.size) (h : PatV w v l) (hrg : ∀ z ∈ l, -9223372036854775808 ≤ z ∧ z ≤ 9223372036854775807) : Calls Tryz.prog 4 #[.int .i64 d, v, .int .i64 p] w fun e w' => e = .returned (.bool true) ∧ Below w.heap.size w w' := by
  have HT := hide hT
  have HH := hide h
  have HRG := hide hrg
  have HBg := hide (bbegun_any w hT hpos)
  obtain ⟨ao, c, hv⟩ := h.shape
  obtain ⟨n, hn⟩ : ∃ n, n = l.length := ⟨_, rfl⟩
  have HN := hide hn
  rw [← hn] at hv
  rw [hv] at HH ⊢
  clear h hT hrg hn hv
  go_enter Tryz.func4, Tryz.ntmps4
  go_wp2_with fail
  refine HBg.out.mono ?_
  rintro e w1 ⟨rfl, hb1⟩
  have HB1 := hide hb1
  have HT1 := hide (HT.out.below hb1 hpos)
  have HH1 := hide (HH.out.below hb1)
  have hp1 : 0 < w1.heap.size := Nat.lt_of_lt_of_le hpos hb1.size
  clear hb1 HBg HT HH
  go_wp2
  go_loopw [7, 8, 9] (fun u1 u2 u3 wr => ∃ (k : Nat) (Q : List Int), k ≤ n ∧ k ≤ 60 ∧ u3 = .int .i64 k ∧ OneR w1 wr k Q u1 u2) (fun _ _ u3 _ => 60 - (intOf u3).toNat)
  case atStart => exact ⟨0, [], Nat.zero_le _, Nat.zero_le _, rfl, ⟨rfl, by simp, World.ownsRow_nil _ _ _ _, World.ownsRow_nil _ _ _ _, Below.refl _ _⟩⟩
  case round =>
    obtain ⟨k, Q, hkn, hk6, rfl, hO⟩ := hrel
    have HO := hide hO
    have HBr := hide (HB1.out.trans (hO.bel.mono HB1.out.size))
    have hsz := hO.bel.size
    have HSZ := hide hsz
    obtain ⟨ao1, c1, rfl⟩ := own_shape hO.a
    obtain ⟨ao2, c2, rfl⟩ := own_shape hO.b
    have HHr := hide (HH1.out.below hO.bel)
    clear hO
    by_cases h60 : k < 60
    · by_cases hlt : k < n
      · have hkl : k < l.length := by rw [← HN.out]; exact hlt
        obtain ⟨x, cx, hvx, hcap, hrd⟩ := HHr.out.some (by omega)
        have hcx : ao = some x := by cases hvx; rfl
        subst hcx
        have cell := hrd k hkl
        obtain ⟨z0, z1⟩ := HRG.out l[k] (List.getElem_mem hkl)
        obtain ⟨z, hz⟩ : ∃ z, z = l[k] := ⟨_, rfl⟩
        rw [← hz] at cell z0 z1
        have HC := hide (choose_any z z0 z1 wr)
        have HK6 := hide h60
        have HKN := hide hlt
        have t1 : (k : Int) < (n : Int) := by omega
        have t2 : (0 : Int) ≤ (k : Int) := by omega
        have t3 : (k : Int) < 60 := by omega
        clear hz hkl hrd hvx hcap z0 z1
        go_wp2_with fail
        refine HC.out.mono ?_
        rintro e w2 ⟨cc, rfl, hc0, hc6, rfl⟩
        have HCC : Hid (0 ≤ cc ∧ cc < 62) := ⟨hc0, hc6⟩
        clear HC cell
        by_cases h36 : 36 ≤ cc
        · have H36 := hide h36
          go_wp2_with (at_builtin; refine append1 wr rfl _ _ rfl w1.heap.size (.slice ao1 k c1) k (i64s Q) (by rfl) HO.out.a _ (by rfl) (by have := HK6.out; omega) HSZ.out ?_)
          intro v3 w3 ho3 hg3
          rw [← i64s_snoc] at ho3
          have hb3 : Below w1.heap.size wr w3 := ((Below.refl _ wr).alloc HSZ.out _).grown hg3 (by have := HSZ.out; simp; omega) (fun g hg => (HO.out.a.lt g hg).1)
          have HB3 := hide hb3
          have HO3 := hide ho3
          have HW3 := hide (own_other HO.out.a HO.out.b (by decide) hg3)
          have hsz3 : w1.heap.size ≤ w3.heap.size := Nat.le_trans HSZ.out hb3.size
          have HSZ3 := hide hsz3
          obtain ⟨ao3, c3, hv3⟩ := own_shape ho3
          rw [hv3] at HO3 ⊢
          clear ho3 hg3 hb3 hv3
          go_wp2_with (at_builtin; refine append2 w3 rfl _ _ rfl w1.heap.size (.slice ao2 k c2) k (cells2 (ones Q)) (by rfl) HW3.out _ (by rfl) (by have := HK6.out; omega) HSZ3.out ?_)
          intro v4 w4 ho4 hg4
          rw [← ones_snoc] at ho4
          have hb4 : Below w1.heap.size w3 w4 := ((Below.refl _ w3).alloc HSZ3.out _).grown hg4 (by have := HSZ3.out; simp; omega) (fun g hg => (HW3.out.lt g hg).1)
          have HB4 := hide (HB3.out.trans hb4)
          have HO4 := hide (own_other HW3.out HO3.out (by decide) hg4)
          have HW4 := hide ho4
          obtain ⟨ao4, c4, hv4⟩ := own_shape ho4
          rw [hv4] at HW4 ⊢
          clear ho4 hg4 hb4 hv4
          go_wp2
          go_roundw
          case rel => exact ⟨k + 1, Q ++ [_], by have := HKN.out; omega, by have := HK6.out; omega, by go_num, ⟨by simp [HO.out.len], fun y hy => by
            rcases List.mem_append.1 hy with hy | hy
            · exact HO.out.leaf y hy
            · simp at hy; subst hy; unfold leafC; have := HCC.out; have := H36.out; omega, HO4.out, HW4.out, HO.out.bel.trans HB4.out⟩⟩
          case measure => have := HK6.out; simp [intOf]; omega
        · by_cases h10 : 10 ≤ cc
          · have H36 : Hid (10 ≤ cc ∧ ¬ 36 ≤ cc) := ⟨h10, h36⟩
            go_wp2_with (at_builtin; refine append1 wr rfl _ _ rfl w1.heap.size (.slice ao1 k c1) k (i64s Q) (by rfl) HO.out.a _ (by rfl) (by have := HK6.out; omega) HSZ.out ?_)
            intro v3 w3 ho3 hg3
            rw [← i64s_snoc] at ho3
            have hb3 : Below w1.heap.size wr w3 := ((Below.refl _ wr).alloc HSZ.out _).grown hg3 (by have := HSZ.out; simp; omega) (fun g hg => (HO.out.a.lt g hg).1)
            have HB3 := hide hb3
            have HO3 := hide ho3
            have HW3 := hide (own_other HO.out.a HO.out.b (by decide) hg3)
            have hsz3 : w1.heap.size ≤ w3.heap.size := Nat.le_trans HSZ.out hb3.size
            have HSZ3 := hide hsz3
            obtain ⟨ao3, c3, hv3⟩ := own_shape ho3
            rw [hv3] at HO3 ⊢
            clear ho3 hg3 hb3 hv3
            go_wp2_with (at_builtin; refine append2 w3 rfl _ _ rfl w1.heap.size (.slice ao2 k c2) k (cells2 (ones Q)) (by rfl) HW3.out _ (by rfl) (by have := HK6.out; omega) HSZ3.out ?_)
            intro v4 w4 ho4 hg4
            rw [← ones_snoc] at ho4
            have hb4 : Below w1.heap.size w3 w4 := ((Below.refl _ w3).alloc HSZ3.out _).grown hg4 (by have := HSZ3.out; simp; omega) (fun g hg => (HW3.out.lt g hg).1)
            have HB4 := hide (HB3.out.trans hb4)
            have HO4 := hide (own_other HW3.out HO3.out (by decide) hg4)
            have HW4 := hide ho4
            obtain ⟨ao4, c4, hv4⟩ := own_shape ho4
            rw [hv4] at HW4 ⊢
            clear ho4 hg4 hb4 hv4
            go_wp2
            go_roundw
            case rel => exact ⟨k + 1, Q ++ [_], by have := HKN.out; omega, by have := HK6.out; omega, by go_num, ⟨by simp [HO.out.len], fun y hy => by
              rcases List.mem_append.1 hy with hy | hy
              · exact HO.out.leaf y hy
              · simp at hy; subst hy; unfold leafC; have := HCC.out; have := H36.out; omega, HO4.out, HW4.out, HO.out.bel.trans HB4.out⟩⟩
            case measure => have := HK6.out; simp [intOf]; omega
          · have H36 : Hid (¬ 10 ≤ cc) := h10
            go_wp2_with (at_builtin; refine append1 wr rfl _ _ rfl w1.heap.size (.slice ao1 k c1) k (i64s Q) (by rfl) HO.out.a _ (by rfl) (by have := HK6.out; omega) HSZ.out ?_)
            intro v3 w3 ho3 hg3
            rw [← i64s_snoc] at ho3
            have hb3 : Below w1.heap.size wr w3 := ((Below.refl _ wr).alloc HSZ.out _).grown hg3 (by have := HSZ.out; simp; omega) (fun g hg => (HO.out.a.lt g hg).1)
            have HB3 := hide hb3
            have HO3 := hide ho3
            have HW3 := hide (own_other HO.out.a HO.out.b (by decide) hg3)
            have hsz3 : w1.heap.size ≤ w3.heap.size := Nat.le_trans HSZ.out hb3.size
            have HSZ3 := hide hsz3
            obtain ⟨ao3, c3, hv3⟩ := own_shape ho3
            rw [hv3] at HO3 ⊢
            clear ho3 hg3 hb3 hv3
            go_wp2_with (at_builtin; refine append2 w3 rfl _ _ rfl w1.heap.size (.slice ao2 k c2) k (cells2 (ones Q)) (by rfl) HW3.out _ (by rfl) (by have := HK6.out; omega) HSZ3.out ?_)
            intro v4 w4 ho4 hg4
            rw [← ones_snoc] at ho4
            have hb4 : Below w1.heap.size w3 w4 := ((Below.refl _ w3).alloc HSZ3.out _).grown hg4 (by have := HSZ3.out; simp; omega) (fun g hg => (HW3.out.lt g hg).1)
            have HB4 := hide (HB3.out.trans hb4)
            have HO4 := hide (own_other HW3.out HO3.out (by decide) hg4)
            have HW4 := hide ho4
            obtain ⟨ao4, c4, hv4⟩ := own_shape ho4
            rw [hv4] at HW4 ⊢
            clear ho4 hg4 hb4 hv4
            go_wp2
            go_roundw
            case rel => exact ⟨k + 1, Q ++ [_], by have := HKN.out; omega, by have := HK6.out; omega, by go_num, ⟨by simp [HO.out.len], fun y hy => by
              rcases List.mem_append.1 hy with hy | hy
              · exact HO.out.leaf y hy
              · simp at hy; subst hy; unfold leafC; have := HCC.out; have := H36.out; omega, HO4.out, HW4.out, HO.out.bel.trans HB4.out⟩⟩
            case measure => have := HK6.out; simp [intOf]; omega
      · have t1 : ¬ (k : Int) < (n : Int) := by omega
        go_upto_region 16 with fail
        by_cases hk0 : k = 0
        · have q0 : ((k : Int) == 0) = true := by simp; omega
          have q1 : (k : Int) = 0 := by omega
          go_wp2
          go_ret
          exact ⟨rfl, HBr.out⟩
        · have q0 : ((k : Int) == 0) = false := by simp; omega
          have q1 : ¬ (k : Int) = 0 := by omega
          obtain ⟨g, cg, hvg⟩ := own_some HO.out.a (by omega)
          have hag : ao1 = some ⟨g, 0, none⟩ ∧ c1 = cg := by cases hvg; exact ⟨rfl, rfl⟩
          obtain ⟨rfl, rfl⟩ := hag
          have hQk := HO.out.len
          obtain ⟨v3, w3, hr3, ho3, hg3, hb3, hold⟩ := app_in wr w1.heap.size g k c1 Q hQk.symm (by omega) hsz HO.out.a 93
          have HB3 := hide (HBr.out.trans (hb3.mono HB1.out.size))
          have HP3 : Hid (PatV w3 v3 (Q ++ [93])) := own_patV (l := Q ++ [93]) (by rw [i64s_snoc]; exact ho3) (by simp [hQk])
          have HI3 : Hid (PatV w3 (.slice (some ⟨g, 0, none⟩) k c1) Q) := by
            have hcap : k ≤ c1 := by
              rcases id HO.out.a.2 with ⟨h0, _⟩ | ⟨g', cap, cur, hv', _, _, hn', _⟩
              · cases h0
              · cases hv'; exact hn'
            refine .inr ⟨⟨g, 0, none⟩, c1, by rw [hQk], by rw [hQk]; exact hcap, fun j hj => ?_⟩
            have e1 : ((⟨g, 0, none⟩ : Addr).add j) = ⟨g, j, none⟩ := by unfold Addr.add; split <;> simp_all
            rw [e1]
            exact hold j hj
          have HW3 := hide (own_other HO.out.a HO.out.b (by decide) hg3)
          have HT3 := hide (HT1.out.below (HO.out.bel.trans hb3) hp1)
          have hp3 : 0 < w3.heap.size := Nat.lt_of_lt_of_le hpos HB3.out.size
          have HLf := hide HO.out.leaf
          have HQk := hide hQk
          have HR3 := hide hr3
          obtain ⟨ao3, c3, hv3⟩ := own_shape ho3
          rw [hv3] at HP3 HR3
          clear hold hvg hr3 ho3 hg3 hb3 hv3 hQk HO HHr hsz HT1 HH1
          go_wp2_with (at_builtin; refine wpList_run rfl _ _ 22 rfl _ _ _ _ rfl rfl HR3.out ?_)
          have HPa := hide (parse_any d 0 _ (Q ++ [93]) false w3 HP3.out HT3.out hp3)
          clear HR3 HP3
          by_cases hd : d = 1 ∨ d = 2 ∨ d = 3
          · rw [ones_parse hd HLf.out (by have := HQk.out; omega) (by have := HQk.out; omega)] at HPa
            go_wp2_with fail
            refine HPa.out.mono ?_
            rintro e w4 (⟨f, m, sv, L, hR, rfl, hoL, hs, hL, hkl, hb4⟩ | ⟨z, cc, hR, hz, rfl, hb4⟩)
            case inr => cases hR
            obtain ⟨rfl, rfl⟩ : onesF Q = f ∧ Q.length + 1 = m := by cases hR; exact ⟨rfl, rfl⟩
            have HRd := hide hoL.reads
            have HSs := hide hs
            have HLl := hide hL
            have HB4 := hide (HB3.out.trans (hb4.mono HB3.out.size))
            have HI4 := hide (HI3.out.below hb4)
            have HW4 := hide (own_below HW3.out hb4)
            obtain ⟨so, sc, hsv⟩ := hoL.shape
            obtain ⟨ln, hln⟩ : ∃ ln, ln = L.length := ⟨_, rfl⟩
            rw [← hln] at hsv
            rw [hsv] at HRd ⊢
            rw [HQk.out]
            clear hR hoL hs hL hkl hb4 hsv hln HPa HI3 HW3 HT3
            go_upto_region 19 with fail
            obtain ⟨w5, hw5⟩ : ∃ w5, w5 = w4.alloc (.cells #[.int .i64 0, .int .i64 0] 27) := ⟨_, rfl⟩
            have hb5 : Below w4.heap.size w4 w5 := by rw [hw5]; exact (Below.refl _ w4).alloc (Nat.le_refl _) _
            have f0 : w5.cell? ⟨w4.heap.size, 0, none⟩ = some (.int .i64 0) := by rw [hw5, World.cell?_alloc_at _ _ _ _ (by simp)]; rfl
            rw [← hw5]
            have HB5 := hide (HB4.out.trans (hb5.mono HB4.out.size))
            have HRd5 := hide (HRd.out.below hb5)
            have HI5 := hide (HI4.out.below hb5)
            have HW5 := hide (own_below HW4.out hb5)
            obtain ⟨M, hM⟩ : ∃ M, M = w4.heap.size := ⟨_, rfl⟩
            rw [← hM] at f0 ⊢
            have t1 : ¬ d < 1 := by omega
            have t2 : ¬ 3 < d := by omega
            have HMk := hide (makeOf_any _ (ones Q) w5 (own_reads (L := ones Q) (by rw [show (ones Q).length = k by simp [ones, HQk.out]]; exact HW5.out)) (by simp [ones]; have := HQk.out; omega) (fun r hr => by
              simp only [ones, List.mem_map] at hr
              obtain ⟨q, hqm, rfl⟩ := hr
              have := leaf_pt (HLf.out q hqm)
              unfold okR
              simp only
              omega))
            have r1 : ((k : Int) + 1 == (k : Int) + 1) = true := by simp
            clear hw5 hb5 hM HRd HI4 HW4 HB4 hd
            go_wp2_with fail
            refine HMk.out.mono ?_
            rintro e w6 ⟨v6, O6, rfl, hr6, hs6, hl6, hb6⟩
            have hLO : O6 = L := isSet_one (isSet_congr hs6 fun q _ _ => ones_ins Q q) HSs.out
            subst hLO
            have HB6 := hide (HB5.out.trans (hb6.mono HB5.out.size))
            have HRd6 := hide (HRd5.out.below hb6)
            have HI6 := hide (HI5.out.below hb6)
            have HSm := hide (same_yes _ v6 O6 w6 HRd6.out hr6 (by have := HLl.out; omega))
            obtain ⟨so6, sc6, hv6⟩ := hr6.shape
            obtain ⟨ln6, hln6⟩ : ∃ ln6, ln6 = O6.length := ⟨_, rfl⟩
            rw [← hln6] at hv6
            rw [hv6] at HSm ⊢
            clear hr6 hs6 hl6 hb6 hv6 hln6 HMk HB5 HRd5 HI5 HW5
            go_wp2_with fail
            refine HSm.out.mono ?_
            rintro e w7 ⟨rfl, hb7⟩
            have HB7 := hide (HB6.out.trans (hb7.mono HB6.out.size))
            have HRd7 := hide (HRd6.out.below hb7)
            have HI7 := hide (HI6.out.below hb7)
            have HWi := hide (Go.Proofs.YtpggffmfeahhaaaGreatDoor.within_any _ O6 p w7 HRd7.out (by have := HLl.out; omega))
            have hzz : ins O6 p = decide (p ∈ Q) := by
              rw [HSs.out.2 p, ones_mem]
              by_cases hp : p ∈ Q
              · have := leaf_pt (HLf.out p hp)
                simp [hp, this.1, this.2]
              · simp [hp]
            rw [hzz] at HWi
            obtain ⟨zz, hz2⟩ : ∃ zz, zz = decide (p ∈ Q) := ⟨_, rfl⟩
            rw [← hz2] at HWi
            clear hb7 HSm HB6 HRd6 HI6 hzz
            go_wp2_with fail
            refine HWi.out.mono ?_
            rintro e w8 ⟨rfl, qd, hw8⟩
            have hb8 : Below w7.heap.size w7 w8 := by rw [hw8]; exact below_drewN (Below.refl _ _) qd
            have HB8 := hide (HB7.out.trans (hb8.mono HB7.out.size))
            have HHi := hide (hasInt_any _ Q p w8 (HI7.out.below hb8) (by have := HQk.out; omega))
            rw [← hz2] at HHi
            clear hw8 hb8 HWi HB7 HRd7 HI7 hz2
            go_wp2_with fail
            refine HHi.out.mono ?_
            rintro e w9 ⟨rfl, rfl⟩
            cases zz
            all_goals
              go_wp2
              go_ret
              exact ⟨rfl, HB8.out⟩
          · rw [kind_parse hd] at HPa
            go_wp2_with fail
            refine HPa.out.mono ?_
            rintro e w4 (⟨f, m, sv, L, hR, rfl, hoL, hs, hL, hkl, hb4⟩ | ⟨z, cc, hR, hz, rfl, hb4⟩)
            case inl => cases hR
            obtain ⟨rfl, rfl⟩ : (7 : Int) = z ∧ (0 : Int) = cc := by cases hR; exact ⟨rfl, rfl⟩
            have HB4 := hide (HB3.out.trans (hb4.mono HB3.out.size))
            clear hR hz hb4 HPa HI3 HW3 HT3
            go_upto_region 19 with fail
            obtain ⟨w5, hw5⟩ : ∃ w5, w5 = w4.alloc (.cells #[.int .i64 7, .int .i64 0] 27) := ⟨_, rfl⟩
            have hb5 : Below w4.heap.size w4 w5 := by rw [hw5]; exact (Below.refl _ w4).alloc (Nat.le_refl _) _
            have f0 : w5.cell? ⟨w4.heap.size, 0, none⟩ = some (.int .i64 7) := by rw [hw5, World.cell?_alloc_at _ _ _ _ (by simp)]; rfl
            rw [← hw5]
            have HB5 := hide (HB4.out.trans (hb5.mono HB4.out.size))
            obtain ⟨M, hM⟩ : ∃ M, M = w4.heap.size := ⟨_, rfl⟩
            rw [← hM] at f0 ⊢
            clear hw5 hb5 hM
            by_cases hd1 : d < 1
            · clear hd
              go_wp2
              go_ret
              exact ⟨rfl, HB5.out⟩
            · have hd3 : 3 < d := by omega
              clear hd
              go_wp2
              go_ret
              exact ⟨rfl, HB5.out⟩
    · have t3 : ¬ (k : Int) < 60 := by omega
      have t1 : (k : Int) < (n : Int) ∨ ¬ (k : Int) < (n : Int) := by omega
      rcases t1 with t1 | t1
      · go_upto_region 16 with fail
        by_cases hk0 : k = 0
        · have q0 : ((k : Int) == 0) = true := by simp; omega
          have q1 : (k : Int) = 0 := by omega
          go_wp2
          go_ret
          exact ⟨rfl, HBr.out⟩
        · have q0 : ((k : Int) == 0) = false := by simp; omega
          have q1 : ¬ (k : Int) = 0 := by omega
          obtain ⟨g, cg, hvg⟩ := own_some HO.out.a (by omega)
          have hag : ao1 = some ⟨g, 0, none⟩ ∧ c1 = cg := by cases hvg; exact ⟨rfl, rfl⟩
          obtain ⟨rfl, rfl⟩ := hag
          have hQk := HO.out.len
          obtain ⟨v3, w3, hr3, ho3, hg3, hb3, hold⟩ := app_in wr w1.heap.size g k c1 Q hQk.symm (by omega) hsz HO.out.a 93
          have HB3 := hide (HBr.out.trans (hb3.mono HB1.out.size))
          have HP3 : Hid (PatV w3 v3 (Q ++ [93])) := own_patV (l := Q ++ [93]) (by rw [i64s_snoc]; exact ho3) (by simp [hQk])
          have HI3 : Hid (PatV w3 (.slice (some ⟨g, 0, none⟩) k c1) Q) := by
            have hcap : k ≤ c1 := by
              rcases id HO.out.a.2 with ⟨h0, _⟩ | ⟨g', cap, cur, hv', _, _, hn', _⟩
              · cases h0
              · cases hv'; exact hn'
            refine .inr ⟨⟨g, 0, none⟩, c1, by rw [hQk], by rw [hQk]; exact hcap, fun j hj => ?_⟩
            have e1 : ((⟨g, 0, none⟩ : Addr).add j) = ⟨g, j, none⟩ := by unfold Addr.add; split <;> simp_all
            rw [e1]
            exact hold j hj
          have HW3 := hide (own_other HO.out.a HO.out.b (by decide) hg3)
          have HT3 := hide (HT1.out.below (HO.out.bel.trans hb3) hp1)
          have hp3 : 0 < w3.heap.size := Nat.lt_of_lt_of_le hpos HB3.out.size
          have HLf := hide HO.out.leaf
          have HQk := hide hQk
          have HR3 := hide hr3
          obtain ⟨ao3, c3, hv3⟩ := own_shape ho3
          rw [hv3] at HP3 HR3
          clear hold hvg hr3 ho3 hg3 hb3 hv3 hQk HO HHr hsz HT1 HH1
          go_wp2_with (at_builtin; refine wpList_run rfl _ _ 22 rfl _ _ _ _ rfl rfl HR3.out ?_)
          have HPa := hide (parse_any d 0 _ (Q ++ [93]) false w3 HP3.out HT3.out hp3)
          clear HR3 HP3
          by_cases hd : d = 1 ∨ d = 2 ∨ d = 3
          · rw [ones_parse hd HLf.out (by have := HQk.out; omega) (by have := HQk.out; omega)] at HPa
            go_wp2_with fail
            refine HPa.out.mono ?_
            rintro e w4 (⟨f, m, sv, L, hR, rfl, hoL, hs, hL, hkl, hb4⟩ | ⟨z, cc, hR, hz, rfl, hb4⟩)
            case inr => cases hR
            obtain ⟨rfl, rfl⟩ : onesF Q = f ∧ Q.length + 1 = m := by cases hR; exact ⟨rfl, rfl⟩
            have HRd := hide hoL.reads
            have HSs := hide hs
            have HLl := hide hL
            have HB4 := hide (HB3.out.trans (hb4.mono HB3.out.size))
            have HI4 := hide (HI3.out.below hb4)
            have HW4 := hide (own_below HW3.out hb4)
            obtain ⟨so, sc, hsv⟩ := hoL.shape
            obtain ⟨ln, hln⟩ : ∃ ln, ln = L.length := ⟨_, rfl⟩
            rw [← hln] at hsv
            rw [hsv] at HRd ⊢
            rw [HQk.out]
            clear hR hoL hs hL hkl hb4 hsv hln HPa HI3 HW3 HT3
            go_upto_region 19 with fail
            obtain ⟨w5, hw5⟩ : ∃ w5, w5 = w4.alloc (.cells #[.int .i64 0, .int .i64 0] 27) := ⟨_, rfl⟩
            have hb5 : Below w4.heap.size w4 w5 := by rw [hw5]; exact (Below.refl _ w4).alloc (Nat.le_refl _) _
            have f0 : w5.cell? ⟨w4.heap.size, 0, none⟩ = some (.int .i64 0) := by rw [hw5, World.cell?_alloc_at _ _ _ _ (by simp)]; rfl
            rw [← hw5]
            have HB5 := hide (HB4.out.trans (hb5.mono HB4.out.size))
            have HRd5 := hide (HRd.out.below hb5)
            have HI5 := hide (HI4.out.below hb5)
            have HW5 := hide (own_below HW4.out hb5)
            obtain ⟨M, hM⟩ : ∃ M, M = w4.heap.size := ⟨_, rfl⟩
            rw [← hM] at f0 ⊢
            have t1 : ¬ d < 1 := by omega
            have t2 : ¬ 3 < d := by omega
            have HMk := hide (makeOf_any _ (ones Q) w5 (own_reads (L := ones Q) (by rw [show (ones Q).length = k by simp [ones, HQk.out]]; exact HW5.out)) (by simp [ones]; have := HQk.out; omega) (fun r hr => by
              simp only [ones, List.mem_map] at hr
              obtain ⟨q, hqm, rfl⟩ := hr
              have := leaf_pt (HLf.out q hqm)
              unfold okR
              simp only
              omega))
            have r1 : ((k : Int) + 1 == (k : Int) + 1) = true := by simp
            clear hw5 hb5 hM HRd HI4 HW4 HB4 hd
            go_wp2_with fail
            refine HMk.out.mono ?_
            rintro e w6 ⟨v6, O6, rfl, hr6, hs6, hl6, hb6⟩
            have hLO : O6 = L := isSet_one (isSet_congr hs6 fun q _ _ => ones_ins Q q) HSs.out
            subst hLO
            have HB6 := hide (HB5.out.trans (hb6.mono HB5.out.size))
            have HRd6 := hide (HRd5.out.below hb6)
            have HI6 := hide (HI5.out.below hb6)
            have HSm := hide (same_yes _ v6 O6 w6 HRd6.out hr6 (by have := HLl.out; omega))
            obtain ⟨so6, sc6, hv6⟩ := hr6.shape
            obtain ⟨ln6, hln6⟩ : ∃ ln6, ln6 = O6.length := ⟨_, rfl⟩
            rw [← hln6] at hv6
            rw [hv6] at HSm ⊢
            clear hr6 hs6 hl6 hb6 hv6 hln6 HMk HB5 HRd5 HI5 HW5
            go_wp2_with fail
            refine HSm.out.mono ?_
            rintro e w7 ⟨rfl, hb7⟩
            have HB7 := hide (HB6.out.trans (hb7.mono HB6.out.size))
            have HRd7 := hide (HRd6.out.below hb7)
            have HI7 := hide (HI6.out.below hb7)
            have HWi := hide (Go.Proofs.YtpggffmfeahhaaaGreatDoor.within_any _ O6 p w7 HRd7.out (by have := HLl.out; omega))
            have hzz : ins O6 p = decide (p ∈ Q) := by
              rw [HSs.out.2 p, ones_mem]
              by_cases hp : p ∈ Q
              · have := leaf_pt (HLf.out p hp)
                simp [hp, this.1, this.2]
              · simp [hp]
            rw [hzz] at HWi
            obtain ⟨zz, hz2⟩ : ∃ zz, zz = decide (p ∈ Q) := ⟨_, rfl⟩
            rw [← hz2] at HWi
            clear hb7 HSm HB6 HRd6 HI6 hzz
            go_wp2_with fail
            refine HWi.out.mono ?_
            rintro e w8 ⟨rfl, qd, hw8⟩
            have hb8 : Below w7.heap.size w7 w8 := by rw [hw8]; exact below_drewN (Below.refl _ _) qd
            have HB8 := hide (HB7.out.trans (hb8.mono HB7.out.size))
            have HHi := hide (hasInt_any _ Q p w8 (HI7.out.below hb8) (by have := HQk.out; omega))
            rw [← hz2] at HHi
            clear hw8 hb8 HWi HB7 HRd7 HI7 hz2
            go_wp2_with fail
            refine HHi.out.mono ?_
            rintro e w9 ⟨rfl, rfl⟩
            cases zz
            all_goals
              go_wp2
              go_ret
              exact ⟨rfl, HB8.out⟩
          · rw [kind_parse hd] at HPa
            go_wp2_with fail
            refine HPa.out.mono ?_
            rintro e w4 (⟨f, m, sv, L, hR, rfl, hoL, hs, hL, hkl, hb4⟩ | ⟨z, cc, hR, hz, rfl, hb4⟩)
            case inl => cases hR
            obtain ⟨rfl, rfl⟩ : (7 : Int) = z ∧ (0 : Int) = cc := by cases hR; exact ⟨rfl, rfl⟩
            have HB4 := hide (HB3.out.trans (hb4.mono HB3.out.size))
            clear hR hz hb4 HPa HI3 HW3 HT3
            go_upto_region 19 with fail
            obtain ⟨w5, hw5⟩ : ∃ w5, w5 = w4.alloc (.cells #[.int .i64 7, .int .i64 0] 27) := ⟨_, rfl⟩
            have hb5 : Below w4.heap.size w4 w5 := by rw [hw5]; exact (Below.refl _ w4).alloc (Nat.le_refl _) _
            have f0 : w5.cell? ⟨w4.heap.size, 0, none⟩ = some (.int .i64 7) := by rw [hw5, World.cell?_alloc_at _ _ _ _ (by simp)]; rfl
            rw [← hw5]
            have HB5 := hide (HB4.out.trans (hb5.mono HB4.out.size))
            obtain ⟨M, hM⟩ : ∃ M, M = w4.heap.size := ⟨_, rfl⟩
            rw [← hM] at f0 ⊢
            clear hw5 hb5 hM
            by_cases hd1 : d < 1
            · clear hd
              go_wp2
              go_ret
              exact ⟨rfl, HB5.out⟩
            · have hd3 : 3 < d := by omega
              clear hd
              go_wp2
              go_ret
              exact ⟨rfl, HB5.out⟩
      · go_upto_region 16 with fail
        by_cases hk0 : k = 0
        · have q0 : ((k : Int) == 0) = true := by simp; omega
          have q1 : (k : Int) = 0 := by omega
          go_wp2
          go_ret
          exact ⟨rfl, HBr.out⟩
        · have q0 : ((k : Int) == 0) = false := by simp; omega
          have q1 : ¬ (k : Int) = 0 := by omega
          obtain ⟨g, cg, hvg⟩ := own_some HO.out.a (by omega)
          have hag : ao1 = some ⟨g, 0, none⟩ ∧ c1 = cg := by cases hvg; exact ⟨rfl, rfl⟩
          obtain ⟨rfl, rfl⟩ := hag
          have hQk := HO.out.len
          obtain ⟨v3, w3, hr3, ho3, hg3, hb3, hold⟩ := app_in wr w1.heap.size g k c1 Q hQk.symm (by omega) hsz HO.out.a 93
          have HB3 := hide (HBr.out.trans (hb3.mono HB1.out.size))
          have HP3 : Hid (PatV w3 v3 (Q ++ [93])) := own_patV (l := Q ++ [93]) (by rw [i64s_snoc]; exact ho3) (by simp [hQk])
          have HI3 : Hid (PatV w3 (.slice (some ⟨g, 0, none⟩) k c1) Q) := by
            have hcap : k ≤ c1 := by
              rcases id HO.out.a.2 with ⟨h0, _⟩ | ⟨g', cap, cur, hv', _, _, hn', _⟩
              · cases h0
              · cases hv'; exact hn'
            refine .inr ⟨⟨g, 0, none⟩, c1, by rw [hQk], by rw [hQk]; exact hcap, fun j hj => ?_⟩
            have e1 : ((⟨g, 0, none⟩ : Addr).add j) = ⟨g, j, none⟩ := by unfold Addr.add; split <;> simp_all
            rw [e1]
            exact hold j hj
          have HW3 := hide (own_other HO.out.a HO.out.b (by decide) hg3)
          have HT3 := hide (HT1.out.below (HO.out.bel.trans hb3) hp1)
          have hp3 : 0 < w3.heap.size := Nat.lt_of_lt_of_le hpos HB3.out.size
          have HLf := hide HO.out.leaf
          have HQk := hide hQk
          have HR3 := hide hr3
          obtain ⟨ao3, c3, hv3⟩ := own_shape ho3
          rw [hv3] at HP3 HR3
          clear hold hvg hr3 ho3 hg3 hb3 hv3 hQk HO HHr hsz HT1 HH1
          go_wp2_with (at_builtin; refine wpList_run rfl _ _ 22 rfl _ _ _ _ rfl rfl HR3.out ?_)
          have HPa := hide (parse_any d 0 _ (Q ++ [93]) false w3 HP3.out HT3.out hp3)
          clear HR3 HP3
          by_cases hd : d = 1 ∨ d = 2 ∨ d = 3
          · rw [ones_parse hd HLf.out (by have := HQk.out; omega) (by have := HQk.out; omega)] at HPa
            go_wp2_with fail
            refine HPa.out.mono ?_
            rintro e w4 (⟨f, m, sv, L, hR, rfl, hoL, hs, hL, hkl, hb4⟩ | ⟨z, cc, hR, hz, rfl, hb4⟩)
            case inr => cases hR
            obtain ⟨rfl, rfl⟩ : onesF Q = f ∧ Q.length + 1 = m := by cases hR; exact ⟨rfl, rfl⟩
            have HRd := hide hoL.reads
            have HSs := hide hs
            have HLl := hide hL
            have HB4 := hide (HB3.out.trans (hb4.mono HB3.out.size))
            have HI4 := hide (HI3.out.below hb4)
            have HW4 := hide (own_below HW3.out hb4)
            obtain ⟨so, sc, hsv⟩ := hoL.shape
            obtain ⟨ln, hln⟩ : ∃ ln, ln = L.length := ⟨_, rfl⟩
            rw [← hln] at hsv
            rw [hsv] at HRd ⊢
            rw [HQk.out]
            clear hR hoL hs hL hkl hb4 hsv hln HPa HI3 HW3 HT3
            go_upto_region 19 with fail
            obtain ⟨w5, hw5⟩ : ∃ w5, w5 = w4.alloc (.cells #[.int .i64 0, .int .i64 0] 27) := ⟨_, rfl⟩
            have hb5 : Below w4.heap.size w4 w5 := by rw [hw5]; exact (Below.refl _ w4).alloc (Nat.le_refl _) _
            have f0 : w5.cell? ⟨w4.heap.size, 0, none⟩ = some (.int .i64 0) := by rw [hw5, World.cell?_alloc_at _ _ _ _ (by simp)]; rfl
            rw [← hw5]
            have HB5 := hide (HB4.out.trans (hb5.mono HB4.out.size))
            have HRd5 := hide (HRd.out.below hb5)
            have HI5 := hide (HI4.out.below hb5)
            have HW5 := hide (own_below HW4.out hb5)
            obtain ⟨M, hM⟩ : ∃ M, M = w4.heap.size := ⟨_, rfl⟩
            rw [← hM] at f0 ⊢
            have t1 : ¬ d < 1 := by omega
            have t2 : ¬ 3 < d := by omega
            have HMk := hide (makeOf_any _ (ones Q) w5 (own_reads (L := ones Q) (by rw [show (ones Q).length = k by simp [ones, HQk.out]]; exact HW5.out)) (by simp [ones]; have := HQk.out; omega) (fun r hr => by
              simp only [ones, List.mem_map] at hr
              obtain ⟨q, hqm, rfl⟩ := hr
              have := leaf_pt (HLf.out q hqm)
              unfold okR
              simp only
              omega))
            have r1 : ((k : Int) + 1 == (k : Int) + 1) = true := by simp
            clear hw5 hb5 hM HRd HI4 HW4 HB4 hd
            go_wp2_with fail
            refine HMk.out.mono ?_
            rintro e w6 ⟨v6, O6, rfl, hr6, hs6, hl6, hb6⟩
            have hLO : O6 = L := isSet_one (isSet_congr hs6 fun q _ _ => ones_ins Q q) HSs.out
            subst hLO
            have HB6 := hide (HB5.out.trans (hb6.mono HB5.out.size))
            have HRd6 := hide (HRd5.out.below hb6)
            have HI6 := hide (HI5.out.below hb6)
            have HSm := hide (same_yes _ v6 O6 w6 HRd6.out hr6 (by have := HLl.out; omega))
            obtain ⟨so6, sc6, hv6⟩ := hr6.shape
            obtain ⟨ln6, hln6⟩ : ∃ ln6, ln6 = O6.length := ⟨_, rfl⟩
            rw [← hln6] at hv6
            rw [hv6] at HSm ⊢
            clear hr6 hs6 hl6 hb6 hv6 hln6 HMk HB5 HRd5 HI5 HW5
            go_wp2_with fail
            refine HSm.out.mono ?_
            rintro e w7 ⟨rfl, hb7⟩
            have HB7 := hide (HB6.out.trans (hb7.mono HB6.out.size))
            have HRd7 := hide (HRd6.out.below hb7)
            have HI7 := hide (HI6.out.below hb7)
            have HWi := hide (Go.Proofs.YtpggffmfeahhaaaGreatDoor.within_any _ O6 p w7 HRd7.out (by have := HLl.out; omega))
            have hzz : ins O6 p = decide (p ∈ Q) := by
              rw [HSs.out.2 p, ones_mem]
              by_cases hp : p ∈ Q
              · have := leaf_pt (HLf.out p hp)
                simp [hp, this.1, this.2]
              · simp [hp]
            rw [hzz] at HWi
            obtain ⟨zz, hz2⟩ : ∃ zz, zz = decide (p ∈ Q) := ⟨_, rfl⟩
            rw [← hz2] at HWi
            clear hb7 HSm HB6 HRd6 HI6 hzz
            go_wp2_with fail
            refine HWi.out.mono ?_
            rintro e w8 ⟨rfl, qd, hw8⟩
            have hb8 : Below w7.heap.size w7 w8 := by rw [hw8]; exact below_drewN (Below.refl _ _) qd
            have HB8 := hide (HB7.out.trans (hb8.mono HB7.out.size))
            have HHi := hide (hasInt_any _ Q p w8 (HI7.out.below hb8) (by have := HQk.out; omega))
            rw [← hz2] at HHi
            clear hw8 hb8 HWi HB7 HRd7 HI7 hz2
            go_wp2_with fail
            refine HHi.out.mono ?_
            rintro e w9 ⟨rfl, rfl⟩
            cases zz
            all_goals
              go_wp2
              go_ret
              exact ⟨rfl, HB8.out⟩
          · rw [kind_parse hd] at HPa
            go_wp2_with fail
            refine HPa.out.mono ?_
            rintro e w4 (⟨f, m, sv, L, hR, rfl, hoL, hs, hL, hkl, hb4⟩ | ⟨z, cc, hR, hz, rfl, hb4⟩)
            case inl => cases hR
            obtain ⟨rfl, rfl⟩ : (7 : Int) = z ∧ (0 : Int) = cc := by cases hR; exact ⟨rfl, rfl⟩
            have HB4 := hide (HB3.out.trans (hb4.mono HB3.out.size))
            clear hR hz hb4 HPa HI3 HW3 HT3
            go_upto_region 19 with fail
            obtain ⟨w5, hw5⟩ : ∃ w5, w5 = w4.alloc (.cells #[.int .i64 7, .int .i64 0] 27) := ⟨_, rfl⟩
            have hb5 : Below w4.heap.size w4 w5 := by rw [hw5]; exact (Below.refl _ w4).alloc (Nat.le_refl _) _
            have f0 : w5.cell? ⟨w4.heap.size, 0, none⟩ = some (.int .i64 7) := by rw [hw5, World.cell?_alloc_at _ _ _ _ (by simp)]; rfl
            rw [← hw5]
            have HB5 := hide (HB4.out.trans (hb5.mono HB4.out.size))
            obtain ⟨M, hM⟩ : ∃ M, M = w4.heap.size := ⟨_, rfl⟩
            rw [← hM] at f0 ⊢
            clear hw5 hb5 hM
            by_cases hd1 : d < 1
            · clear hd
              go_wp2
              go_ret
              exact ⟨rfl, HB5.out⟩
            · have hd3 : 3 < d := by omega
              clear hd
              go_wp2
              go_ret
              exact ⟨rfl, HB5.out⟩
end Go.Proofs.YtpggffmfeahhaaaGreatDoor.Br
