/- What spoilSet does. -/
import Derived.Test.YtljankfhnmcbaaaGreatDoorSmake
namespace Go.Proofs.YtljankfhnmcbaaaGreatDoor
open Go.RowKit
set_option linter.unusedVariables false

/-- a row of ranges of one's own, whatever it has. -/
def RowAt (B : Nat) (w : World) (v : Value) : Prop := v = .slice none 0 0 ∨ ∃ g n cap cur, v = .slice (some ⟨g, 0, none⟩) n cap ∧ B ≤ g ∧ w.heap[g]? = some (.cells cur 25 (0, 0)) ∧ n * 2 ≤ cur.size ∧ n ≤ 9223372036854775807
/-- nothing below, and nothing but what is in ranges, has changed. -/
structure KpR (B : Nat) (w w' : World) : Prop where
  below : Below B w w'
  other : ∀ (k : Nat) (cs : Array Value) (T : TypeId) (fr : Nat × Nat), T ≠ 25 → w.heap[k]? = some (.cells cs T fr) → w'.heap[k]? = some (.cells cs T fr)
  same : ∀ (k : Nat) (cs : Array Value) (fr : Nat × Nat), w.heap[k]? = some (.cells cs 25 fr) → ∃ cs' : Array Value, w'.heap[k]? = some (.cells cs' 25 fr) ∧ cs'.size = cs.size
theorem KpR.refl (B : Nat) (w : World) : KpR B w w := ⟨Below.refl _ _, fun _ _ _ _ _ h => h, fun _ cs _ h => ⟨cs, h, rfl⟩⟩
theorem KpR.trans {B : Nat} {a b c : World} (h : KpR B a b) (k : KpR B b c) : KpR B a c :=
  ⟨h.below.trans k.below, fun x cs T fr hT hx => k.other x cs T fr hT (h.other x cs T fr hT hx), fun x cs fr hx => by
    obtain ⟨c1, h1, s1⟩ := h.same x cs fr hx
    obtain ⟨c2, h2, s2⟩ := k.same x c1 fr h1
    exact ⟨c2, h2, by rw [s2, s1]⟩⟩
theorem KpR.of_below {B : Nat} {w w' : World} (h : Below w.heap.size w w') (hB : B ≤ w.heap.size) : KpR B w w' :=
  ⟨h.mono hB, fun k cs T fr _ hk => by rw [h.block k (Array.getElem?_eq_some_iff.1 hk).1]; exact hk, fun k cs fr hk => ⟨cs, by rw [h.block k (Array.getElem?_eq_some_iff.1 hk).1]; exact hk, rfl⟩⟩
theorem RowAt.kp {B : Nat} {w w' : World} {v : Value} (h : RowAt B w v) (k : KpR B w w') : RowAt B w' v := by
  rcases h with h | ⟨g, n, cap, cur, h1, h2, h3, h4, h5⟩
  · exact .inl h
  · obtain ⟨cur', k1, k2⟩ := k.same g cur _ h3
    exact .inr ⟨g, n, cap, cur', h1, h2, k1, by omega, h5⟩
theorem own_rowAt {B : Nat} {w : World} {v : Value} {O : RL} (h : w.ownsRow B 25 2 v O.length (cells2 O)) : RowAt B w v := by
  rcases h.2 with ⟨h1, _⟩ | ⟨g, cap, cur, h1, h2, h3, h4, h5, h6, _⟩
  · exact .inl h1
  · refine .inr ⟨g, O.length, cap, cur, h1, h2, h3, ?_, by unfold maxLen at h5; omega⟩
    rw [h6]
    exact Nat.mul_le_mul_right 2 h4
theorem heap_set {w : World} {g : Nat} {cur : Array Value} {T : TypeId} {fr : Nat × Nat} (h : w.heap[g]? = some (.cells cur T fr)) (o : Nat) (v : Value) : (w.setCell ⟨g, o, none⟩ v).heap[g]? = some (.cells (cur.setIfInBounds o v) T fr) := by
  have hlt : g < w.heap.size := (Array.getElem?_eq_some_iff.1 h).1
  have h' : w.heap[g] = .cells cur T fr := by simpa [Array.getElem?_eq_getElem hlt] using h
  show (w.heap.modify g _)[g]? = _
  rw [Array.getElem?_eq_getElem (by simpa using hlt), Array.getElem_modify_self, h']
  rfl
theorem KpR.set {B : Nat} {w : World} {g : Nat} {cur : Array Value} {fr : Nat × Nat} (h : w.heap[g]? = some (.cells cur 25 fr)) (hB : B ≤ g) (o : Nat) (v : Value) : KpR B w (w.setCell ⟨g, o, none⟩ v) := by
  refine ⟨(Below.refl B w).setCell (p := ⟨g, o, none⟩) hB _, fun k cs T fr' hT hk => ?_, fun k cs fr' hk => ?_⟩
  · rw [Below.heap_setCell _ _ _ _ (fun e => ?_)]
    · exact hk
    · have e' : k = g := e
      subst e'
      rw [h] at hk
      have := Option.some.inj hk
      injection this with _ h2 _
      exact hT h2.symm
  · by_cases e : k = g
    · subst e
      rw [h] at hk
      have := Option.some.inj hk
      injection this with h1 _ h3
      subst h1 h3
      exact ⟨_, heap_set h o v, by simp⟩
    · exact ⟨cs, by rw [Below.heap_setCell _ _ _ _ e]; exact hk, rfl⟩
set_option maxRecDepth 100000 in
set_option maxHeartbeats 2000000 in
theorem spoil_any (B : Nat) (v : Value) (w : World) (hR : RowAt B w v) : Calls Tryz.prog 16 #[v] w fun e w' => e = .returned (.tuple #[]) ∧ KpR B w w' := by
  rcases hR with rfl | ⟨g, n, cap, cur, rfl, hg, hh, hs, hn⟩
  · go_enter Tryz.func16, Tryz.ntmps16
    go_wp2
    go_loopw [2] (fun q wr => q = .int .i64 0 ∧ wr = w) (fun _ _ => 0)
    case atStart => exact ⟨rfl, rfl⟩
    case round =>
      obtain ⟨rfl, hwr⟩ := hrel
      have hwr2 := hwr.symm
      subst hwr2
      go_wp2
      go_end0
      exact ⟨rfl, KpR.refl _ _⟩
  · have HH := hide hh
    have HS := hide hs
    have HG := hide hg
    clear hh hs hg
    go_enter Tryz.func16, Tryz.ntmps16
    go_wp2
    go_loopw [2] (fun q wr => ∃ k : Nat, k ≤ n ∧ q = .int .i64 k ∧ KpR B w wr) (fun q _ => n - (intOf q).toNat)
    case atStart => exact ⟨0, Nat.zero_le _, rfl, KpR.refl _ _⟩
    case round =>
      obtain ⟨k, hk, rfl, hkp⟩ := hrel
      obtain ⟨w3, hw3⟩ : ∃ w3, w3 = wr := ⟨_, rfl⟩
      subst hw3
      have HK := hide hkp
      clear hkp
      by_cases hlt : k < n
      · obtain ⟨c3, h3, s3⟩ := HK.out.same _ _ _ HH.out
        have hsz := HS.out
        have m0 : w3.cell? ⟨g, k * 2, none⟩ = some (c3[k * 2]'(by omega)) := by simp [World.cell?, h3, show k * 2 < c3.size by omega]
        have m1 : w3.cell? ⟨g, k * 2 + 1, none⟩ = some (c3[k * 2 + 1]'(by omega)) := by simp [World.cell?, h3, show k * 2 + 1 < c3.size by omega]
        have f0 : ∀ o, w3.frozen? ⟨g, o, none⟩ = false := fun o => by simp [World.frozen?, h3]
        obtain ⟨x0, hx0⟩ : ∃ x0, x0 = c3[k * 2]'(by omega) := ⟨_, rfl⟩
        obtain ⟨x1, hx1⟩ : ∃ x1, x1 = c3[k * 2 + 1]'(by omega) := ⟨_, rfl⟩
        rw [← hx0] at m0
        rw [← hx1] at m1
        have HF : Hid (KpR B w ((w3.setCell ⟨g, k * 2, none⟩ (.int .i64 (-5))).setCell ⟨g, k * 2 + 1, none⟩ (.int .i64 (-9)))) := HK.out.trans ((KpR.set h3 HG.out _ _).trans (KpR.set (heap_set h3 _ _) HG.out _ _))
        have e5 : (k : Int) < (n : Int) := by omega
        have e6 : (0 : Int) ≤ (k : Int) := by omega
        have hkw : IntKind.i64.wrap ((k : Int) + 1) = (k : Int) + 1 := by rw [IntKind.wrap_i64]; omega
        clear h3 s3 hsz hx0 hx1
        go_wp2
        go_roundw
        case rel => exact ⟨k + 1, by omega, by go_num, HF.out⟩
        case measure => simp [intOf]; omega
      · have e5 : ¬ (k : Int) < (n : Int) := by omega
        go_wp2
        go_end0
        exact ⟨rfl, HK.out⟩

end Go.Proofs.YtljankfhnmcbaaaGreatDoor

namespace Go.Proofs.YtljankfhnmcbaaaGreatDoor
open Go.RowKit
set_option linter.unusedVariables false

theorem app_none (w : World) (g : Nat) : (Builtin.append_ #[22, 22] 22 #[.slice (some ⟨g, 0, none⟩) 0 0, .slice none 0 0]).run Tryz.prog w = .ok (.slice (some ⟨g, 0, none⟩) 0 0) w := by
  obtain ⟨i0, hi, hz0, hz1, hz2⟩ := info_parts infoR
  simp [Builtin.append_, run_underlying Tryz.underlying22, sizeOf, typeInfo, hi, Builtin.lenOf, run_firstCells_none, storeCells]
/-- appended to nothing: a row of its own. -/
theorem app_any (v : Value) (L : RL) (w : World) (hv : Reads w v L) (hl : L.length ≤ 1048576) : ∃ g c w', (Builtin.append_ #[22, 22] 22 #[.slice (some ⟨w.heap.size, 0, none⟩) 0 0, v]).run Tryz.prog (w.alloc (.cells #[] 25)) = .ok (.slice (some ⟨g, 0, none⟩) L.length c) w' ∧ w'.ownsRow w.heap.size 25 2 (.slice (some ⟨g, 0, none⟩) L.length c) L.length (cells2 L) ∧ Below w.heap.size w w' := by
  obtain ⟨i0, hi, hz0, hz1, hz2⟩ := info_parts infoR
  have hb0 : Below w.heap.size w (w.alloc (.cells #[] 25)) := (Below.refl _ w).alloc (Nat.le_refl _) _
  rcases hv with ⟨rfl, rfl⟩ | ⟨x, c, rfl, hc⟩
  · exact ⟨w.heap.size, 0, _, app_none _ _, own_empty w, hb0⟩
  · obtain ⟨v', w', hr, ho, hg, hne⟩ := run_append_own (P := Tryz.prog) (w.alloc (.cells #[] 25)) w.heap.size 22 22 25 i0 _ 2 16 Tryz.underlying22 hi hz0 hz1 hz2 rfl (by decide) (.slice (some ⟨w.heap.size, 0, none⟩) 0 0) 0 [] (own_empty w) x L.length c (cells2 L) (cells2_len L) (cells_of (hc.below hb0)) (cells2_one L) (by unfold maxLen; omega) (by omega) (by simp)
    rw [Nat.zero_add, List.nil_append] at ho
    have hbw : Below w.heap.size w w' := hb0.grown hg (by simp) (fun k hk => by simp [Value.ownBlock] at hk; omega)
    rcases id ho.2 with ⟨h0, _⟩ | ⟨g, cap, cur, rfl, _⟩
    · have := (hne.1 h0).1
      cases this
    · exact ⟨g, cap, w', hr, ho, hbw⟩
theorem app_one (w : World) (B g n c : Nat) (L : RL) (hn : n = L.length) (hl : n ≤ 1048576) (hB : B ≤ w.heap.size) (ho : w.ownsRow B 25 2 (.slice (some ⟨g, 0, none⟩) n c) n (cells2 L)) : ∃ g' c' w', (Builtin.append_ #[22, 22] 22 #[.slice (some ⟨g, 0, none⟩) n c, .slice (some ⟨w.heap.size, 0, none⟩) 1 1]).run Tryz.prog (w.alloc (.cells #[.int .i64 1, .int .i64 2] 25)) = .ok (.slice (some ⟨g', 0, none⟩) (n + 1) c') w' ∧ w'.ownsRow B 25 2 (.slice (some ⟨g', 0, none⟩) (n + 1) c') (n + 1) (cells2 L ++ [.int .i64 1, .int .i64 2]) ∧ Below B w w' := by
  obtain ⟨i0, hi, hz0, hz1, hz2⟩ := info_parts infoR
  obtain ⟨v', w', hr, ho', hg, hne⟩ := run_append_own (P := Tryz.prog) (w.alloc (.cells #[.int .i64 1, .int .i64 2] 25)) B 22 22 25 i0 _ 2 16 Tryz.underlying22 hi hz0 hz1 hz2 rfl (by decide) (.slice (some ⟨g, 0, none⟩) n c) n (cells2 L) (ho.alloc _) ⟨w.heap.size, 0, none⟩ 1 1 [.int .i64 1, .int .i64 2] rfl (cells_twoR _ _ rfl 1 2) (two_one 1 2) (by unfold maxLen; omega) (by omega) (by simp; omega)
  have hbw : Below B w w' := ((Below.refl B w).alloc hB _).grown hg (by simp; omega) (fun k hk => (ho.lt k hk).1)
  rcases id ho'.2 with ⟨h0, _⟩ | ⟨g', cap, cur, rfl, _⟩
  · have := (hne.1 h0).1
    cases this
  · exact ⟨g', cap, w', hr, ho', hbw⟩
/-- an append by its run. -/
theorem wpList_run {P : Program} {ops : Array Oper} {rest : List Oper} {o : Oper} {a : Act} {w : World} {Q : Exit → Act → World → Prop} (hgd : o.guard = none) (s x : Operand) (t : TypeId)
    (ho : o.op = .call { callee := .builtin .append, args := #[s, x], argTypes := #[t, t] }) (v v2 v' : Value) (w' : World) (hs : a.eval s = v) (hx : a.eval x = v2) (hr : (Builtin.append_ #[t, t] o.type #[v, v2]).run P w = .ok v' w') (h : wpList P ops Q rest (a.put o.dst v') w') : wpList P ops Q (o :: rest) a w :=
  wpList_plain hgd fun _ hK => by
    unfold Oper.wp execOp
    simp only [ho, resolve, invoke, builtin, Sem.run_bind, Sem.run_pure, Result.andThen_ok, List.map_toArray, List.map_cons, List.map_nil, hs, hx, hr]
    exact hK _ _ h

end Go.Proofs.YtljankfhnmcbaaaGreatDoor
