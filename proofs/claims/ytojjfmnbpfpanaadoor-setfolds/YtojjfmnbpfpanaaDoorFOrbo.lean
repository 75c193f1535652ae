/- What the reference's OrbitOf answers: the orbit. -/
import Derived.Test.YtojjfmnbpfpanaaDoorFOrbp
import Derived.Deep.RegionHeld3
namespace Go.Proofs.YtojjfmnbpfpanaaDoor.Fo
open Go.RowKit
set_option linter.unusedVariables false

theorem own_drewN {B e k : Nat} {w : World} {v : Value} {n : Nat} {xs : List Value} (h : w.ownsRow B e k v n xs) (q : Nat) : (w.drewN q).ownsRow B e k v n xs := h
theorem drewN_more {w wr : World} {q : Nat} (h : wr = w.drewN q) (n : Nat) : ∃ q2, wr.drewN n = w.drewN q2 := ⟨q + n, by rw [h]; simp [World.drewN, Nat.add_assoc]⟩

def mu (v c : Value) : Nat := match c with | .bool true => 4 - lenV v | _ => 0
/-- what was picked, rising, and what is left. -/
structure Sel (p : Int) (I O : List Int) : Prop where
  once : I.Nodup
  rise : O.Pairwise (· < ·)
  lower : ∀ a ∈ O, ∀ b ∈ I, a < b
  all : ∀ x, x ∈ O ∨ x ∈ I ↔ x ∈ orb p
set_option maxRecDepth 100000 in
theorem Sel.start {p : Int} {I : List Int} (h : Part p I) (hc : Closed I) : Sel p I [] :=
  ⟨h.once, List.Pairwise.nil, fun a ha => (by cases ha), fun x => ⟨fun hx => by rcases hx with hx | hx; cases hx; exact h.sub x hx, fun hx => .inr (closed_all hc h.self x hx)⟩⟩
set_option maxRecDepth 100000 in
theorem Sel.done {p : Int} {O : List Int} (h : Sel p [] O) : O = orb p := sorted_ext _ _ h.rise (orb_sorted p) fun x => by
  have := h.all x
  simp at this
  exact this
set_option maxRecDepth 100000 in
theorem mem_out {I : List Int} {a : Nat} (ha : a < I.length) (x : Int) : x ∈ I ↔ x = I[a] ∨ x ∈ I.take a ++ I.drop (a + 1) := by
  have e : I = I.take a ++ I[a] :: I.drop (a + 1) := by rw [← List.drop_eq_getElem_cons ha, List.take_append_drop]
  constructor
  · intro hx
    rw [e] at hx
    simp only [List.mem_append, List.mem_cons] at hx ⊢
    rcases hx with hx | hx | hx
    · exact .inr (.inl hx)
    · left; rw [hx]
    · exact .inr (.inr hx)
  · intro hx
    rw [e]
    simp only [List.mem_append, List.mem_cons] at hx ⊢
    rcases hx with hx | hx | hx
    · right; left; rw [hx]
    · exact .inl hx
    · exact .inr (.inr hx)
set_option maxRecDepth 100000 in
theorem Sel.pick {p : Int} {I O : List Int} (h : Sel p I O) {a : Nat} (ha : a < I.length) (hmin : ∀ t (ht : t < I.length), I[a] ≤ I[t]) : Sel p (I.take a ++ I.drop (a + 1)) (O ++ [I[a]]) := by
  have e : I = I.take a ++ I[a] :: I.drop (a + 1) := by rw [← List.drop_eq_getElem_cons ha, List.take_append_drop]
  have hn := h.once
  rw [e] at hn
  have hn2 : I[a] ∉ I.take a ++ I.drop (a + 1) ∧ (I.take a ++ I.drop (a + 1)).Nodup := by
    have := (List.perm_middle (a := I[a]) (l₁ := I.take a) (l₂ := I.drop (a + 1))).nodup_iff.1 hn
    rw [List.nodup_cons] at this
    exact this
  refine ⟨hn2.2, ?_, ?_, ?_⟩
  · rw [List.pairwise_append]
    exact ⟨h.rise, List.pairwise_singleton _ _, fun x hx y hy => by simp at hy; rw [hy]; exact h.lower x hx _ (List.getElem_mem _)⟩
  · intro x hx b hb
    have hbI : b ∈ I := (mem_out ha b).2 (.inr hb)
    rcases List.mem_append.1 hx with hx | hx
    · exact h.lower x hx b hbI
    · simp at hx
      obtain ⟨t, ht, rfl⟩ := List.mem_iff_getElem.1 hbI
      have h1 := hmin t ht
      have h2 : I[t] ≠ I[a] := fun e => hn2.1 (e ▸ hb)
      rw [hx]; omega
  · intro x
    rw [← h.all x, mem_out ha x]
    simp only [List.mem_append, List.mem_singleton]
    constructor
    · rintro ((h1 | h1) | h1)
      · exact .inl h1
      · exact .inr (.inl h1)
      · exact .inr (.inr h1)
    · rintro (h1 | h1 | h1)
      · exact .inl (.inl h1)
      · exact .inl (.inr h1)
      · exact .inr h1
set_option maxRecDepth 100000 in
theorem ext_get {I T : List Int} {k : Nat} (h : k < I.length) : (I ++ T)[k]'(by simp; omega) = I[k] := List.getElem_append_left h
set_option maxRecDepth 100000 in
theorem nears_lies {w : World} {x : Int} (nb : Nat) (hn : nb = w.heap.size) : Lies (w.alloc (.cells #[.int .i64 (x - 32), .int .i64 (x - 1), .int .i64 (x - 80), .int .i64 181, .int .i64 8490, .int .i64 8491, .int .i64 7838] 3)) nb (nears x) := by
  subst hn
  intro j hj
  match j, hj with
  | 0, _ => exact World.cell?_alloc_at _ _ _ _ rfl
  | 1, _ => exact World.cell?_alloc_at _ _ _ _ rfl
  | 2, _ => exact World.cell?_alloc_at _ _ _ _ rfl
  | 3, _ => exact World.cell?_alloc_at _ _ _ _ rfl
  | 4, _ => exact World.cell?_alloc_at _ _ _ _ rfl
  | 5, _ => exact World.cell?_alloc_at _ _ _ _ rfl
  | 6, _ => exact World.cell?_alloc_at _ _ _ _ rfl
  | (j + 7), hj => simp [nears] at hj; omega
set_option maxRecDepth 100000 in
theorem Lies.drew {w : World} {g : Nat} {l : List Int} (h : Lies w g l) (q : Nat) : Lies (w.drewN q) g l := h
set_option maxRecDepth 100000 in
theorem Lies.far {w w' : World} {g : Nat} {l : List Int} {r : Option Nat} (h : Lies w g l) (hg : w.grownBy w' r) (hne : some g ≠ r) : Lies w' g l := fun j hj => by
  rw [hg.cell_far _ (lt_of_cellf (h j hj)) hne]; exact h j hj
set_option maxRecDepth 100000 in
theorem Lies.alloc {w : World} {g : Nat} {l : List Int} (h : Lies w g l) (o : Obj) : Lies (w.alloc o) g l := h.below ((Below.refl _ w).alloc (Nat.le_refl _) o)
set_option maxRecDepth 100000 in
/-- append of nothing, as one step of a region that draws. -/
theorem step_nothing {P : Program} {ops : Array Oper} {o : Oper} {a : Act} {w : World} {K : Act → World → Prop} {Q : Exit → Act → World → Prop} {E : Prop} (hgd : o.guard = none) (s x : Operand) (t : TypeId)
    (hop : o.op = .call { callee := .builtin .append, args := #[s, x], argTypes := #[t, t] }) (e : TypeId) (i : TypeInfo) (h1 : P.underlying t = some (.slice e)) (h2 : P.info? e = some i)
    (b : Nat) (n cap : Nat) (hs : a.eval s = .slice (some ⟨b, 0, none⟩) n cap) (ad : Addr) (c : Nat) (hx : a.eval x = .slice (some ad) 0 c) (hroom : n ≤ cap)
    (hK : K (a.put o.dst (.slice (some ⟨b, 0, none⟩) n cap)) w) : if Region.wanted o (yielded ops a.tmps) = true then Oper.wp P o a w K Q else E := by
  have hw : Region.wanted o (yielded ops a.tmps) = true := by simp [Region.wanted, hgd]
  rw [if_pos hw]
  have hrun := run_append_room_cells (P := P) w t o.type e i h1 h2 b 0 n cap ad 0 c [] (by simp) (fun j u hu => by simp at hu) (fun u hu => by simp at hu) (by omega) (fun j hj => by simp at hj) (fun j hj => by simp at hj)
  unfold Oper.wp
  simp [execOp, hop, resolve, invoke, builtin, hs, hx, hrun, Result.andThen]
  exact hK
set_option maxRecDepth 100000 in
theorem below_drew1 {B : Nat} {w w' : World} (h : Below B w w') : Below B w w'.drew := ⟨h.1, h.2, h.3, h.4, h.5⟩
set_option maxRecDepth 100000 in
theorem own_far {B : Nat} {w w' : World} {v : Value} {n : Nat} {xs : List Value} (h : w.ownsRow B 3 1 v n xs) (hg : w.grownBy w' none) : w'.ownsRow B 3 1 v n xs := by
  refine ⟨h.1, ?_⟩
  rcases h.2 with h2 | ⟨g, cap, cur, rfl, h3, hh, h4⟩
  · exact .inl h2
  · exact .inr ⟨g, cap, cur, rfl, h3, by rw [hg.block g (Array.getElem?_eq_some_iff.1 hh).1 (by simp)]; exact hh, h4⟩
set_option maxRecDepth 100000 in
theorem cell_heap {W W' : World} (h : W.heap = W'.heap) (a : Addr) : W.cell? a = W'.cell? a := by unfold World.cell?; rw [h]
set_option maxRecDepth 100000 in
theorem nears_len (x : Int) : (nears x).length = 7 := rfl
set_option maxRecDepth 100000 in
theorem take_app {I T : List Int} {i : Nat} (h : i ≤ I.length) : (I ++ T).take i = I.take i := by rw [List.take_append_of_le_length h]
set_option maxRecDepth 100000 in
theorem mem_take_succ {l : List Int} {i : Nat} (h : i < l.length) {x : Int} (hx : x ∈ l.take (i + 1)) : x ∈ l.take i ∨ x = l[i] := by
  rw [List.take_add_one, List.getElem?_eq_getElem h] at hx
  rcases List.mem_append.1 hx with hx | hx
  · exact .inl hx
  · simp at hx; exact .inr hx

set_option maxRecDepth 100000 in
set_option maxRecDepth 100000 in
set_option maxHeartbeats 3000000 in
theorem orbitOf_any (p : Int) (w : World) (h0 : 0 ≤ p) (h1 : p ≤ 1114111) : Calls Tryd.prog 21 #[.int .i64 p] w fun e w' => ∃ v, e = .returned v ∧ w'.ownsRow w.heap.size 3 1 v (orb p).length (i64s (orb p)) ∧ Below w.heap.size w w' := by
  obtain ⟨i0, hi, hz0, hz1, hz2⟩ := info_parts Tryd.info3
  go_enter Tryd.func21, Tryd.ntmps21
  go_wp2
  go_loopw [3, 4] (fun v c wr => ∃ (I : List Int) (ch : Bool), c = .bool ch ∧ wr.ownsRow w.heap.size 3 1 v I.length (i64s I) ∧ Part p I ∧ (ch = false → Closed I) ∧ Below w.heap.size w wr) (fun v c _ => mu v c)
  case atStart => exact ⟨[p], true, rfl, World.ownsRow_lit (base := w.heap.size) (e := 3) (size := 1) w #[.int .i64 p] 1 (Nat.le_refl _) (by unfold maxLen; omega) rfl, Part.start p, fun h => (by cases h), (Below.refl _ w).alloc (Nat.le_refl _) _⟩
  case round =>
    obtain ⟨I0, ch, rfl, ho, hpt, hcl, hb⟩ := hrel
    obtain ⟨l1, l3⟩ := hpt.len h0 h1
    obtain ⟨g0, c0, rfl⟩ := own_some ho l1
    cases ch with
    | true =>
      have HO := hide ho
      have HP := hide hpt
      have HB := hide hb
      obtain ⟨n0, hn0⟩ : ∃ n0, n0 = I0.length := ⟨_, rfl⟩
      have HN0 := hide hn0
      rw [← hn0] at l1 l3 HO ⊢
      clear ho hpt hcl hb hn0
      obtain ⟨w1, hw1⟩ : ∃ w1, w1 = wr := ⟨_, rfl⟩
      subst hw1
      go_wp2
      go_loopw [3, 4, 5] (fun v c i wr => ∃ (I : List Int) (ch : Bool) (k : Nat), c = .bool ch ∧ i = .int .i64 k ∧ k ≤ I.length ∧ wr.ownsRow w.heap.size 3 1 v I.length (i64s I) ∧ St p I0 I ch ∧ (ch = false → ∀ x ∈ I.take k, ∀ q ∈ besL x, q ∈ I) ∧ Below w.heap.size w wr) (fun _ _ i _ => 4 - (intOf i).toNat)
      case atStart => exact ⟨I0, false, 0, rfl, rfl, Nat.zero_le _, by rw [← HN0.out]; exact HO.out, ⟨HP.out, ⟨[], by simp⟩, fun _ => rfl, fun h => (by cases h)⟩, fun _ x hx => (by simp at hx), HB.out⟩
      case round =>
        obtain ⟨I, ch, k, rfl, rfl, hk, ho, hst, hcl, hb⟩ := hrel
        obtain ⟨m1, m3⟩ := hst.part.len h0 h1
        obtain ⟨g, c0', rfl⟩ := own_some ho m1
        have HO2 := hide ho
        have HSt := hide hst
        have HCl := hide hcl
        have HB2 := hide hb
        obtain ⟨n, hn⟩ : ∃ n, n = I.length := ⟨_, rfl⟩
        have HN := hide hn
        rw [← hn] at m1 m3 hk HO2 ⊢
        have hli := own_lies HO2.out hn
        clear ho hst hcl hn
        obtain ⟨w2, hw2⟩ : ∃ w2, w2 = wr := ⟨_, rfl⟩
        subst hw2
        by_cases hlt : k < n
        · have hkI : k < I.length := by have := HN.out; omega
          have ck := hli k hkI
          obtain ⟨x, hx⟩ : ∃ x, x = I[k] := ⟨_, rfl⟩
          rw [← hx] at ck
          have HX := hide hx
          have hxo : Hid (x ∈ orb p) := HSt.out.part.sub x (by rw [hx]; exact List.getElem_mem _)
          have e1 : (k : Int) < (n : Int) := by omega
          have e0 : (0 : Int) ≤ (k : Int) := by omega
          have HBes := hide (beside_any x w2)
          have hbl := bes_len x
          have hbes := hide (fun q hq => orb_bes p x q hxo.out hq)
          have hB2s : Hid (w.heap.size ≤ w2.heap.size) := hb.size
          have hgw : Hid (g < w2.heap.size) := (HO2.out.lt g rfl).2
          obtain ⟨bl, hbl'⟩ : ∃ bl, bl = besL x := ⟨_, rfl⟩
          rw [← hbl'] at HBes hbl hbes
          have HBL := hide hbl'
          clear hx hli hb hbl'
          have hcases : bl = [] ∨ ∃ q, bl = [q] := by
            match bl, hbl with
            | [], _ => exact .inl rfl
            | [q], _ => exact .inr ⟨q, rfl⟩
          clear hbl
          go_wp2_with fail
          refine HBes.out.mono ?_
          rintro e w3 ⟨vb, rfl, ho3, hb3⟩
          have HO3 := hide (own_below HO2.out hb3)
          have HB3 := hide (HB2.out.trans (hb3.mono hB2s.out))
          rcases hcases with rfl | ⟨q, rfl⟩
          · obtain ⟨bo, bc, rfl⟩ := own_shape ho3
            have hnx : Hid (ch = false → ∀ x ∈ I.take (k + 1), ∀ q ∈ besL x, q ∈ I) := fun hc y hy q hq => by
              rcases mem_take_succ hkI hy with hy | hy
              · exact HCl.out hc y hy q hq
              · rw [hy, ← HX.out, ← HBL.out] at hq; cases hq
            clear ho3 hb3 HBes
            go_wp2
            go_loopw [3, 4, 7] (fun v c i wr => v = .slice (some ⟨g, 0, none⟩) n c0' ∧ c = .bool ch ∧ i = .int .i64 0 ∧ w3 = wr) (fun _ _ i _ => 0)
            case atStart => exact ⟨rfl, rfl, rfl, rfl⟩
            case round =>
              obtain ⟨rfl, rfl, rfl, rfl⟩ := hrel
              go_wp2
              go_roundw
              case rel => exact ⟨I, ch, k + 1, rfl, by go_num, by have := HN.out; omega, by rw [← HN.out]; exact HO3.out, HSt.out, hnx.out, HB3.out⟩
              case measure => simp [intOf]; omega
          · have ho3' : w3.ownsRow w2.heap.size 3 1 vb 1 (i64s [q]) := ho3
            obtain ⟨gb, cb, rfl⟩ := own_some ho3' (by omega)
            have cq : w3.cell? ⟨gb, 0, none⟩ = some (.int .i64 q) := own_lies ho3' rfl 0 (by simp)
            have hqo := hide (hbes.out q (by simp))
            have HI := hide (hasInt_own (B := w.heap.size) (.slice (some ⟨g, 0, none⟩) n c0') I q w3 (by have := HN.out; omega) (by rw [← HN.out]; exact HO3.out))
            have hs3 : Hid (w.heap.size ≤ w3.heap.size) := HB3.out.size
            clear ho3 ho3' hb3 HBes
            go_wp2
            go_loopw [3, 4, 7] (fun v c i wr => (v = .slice (some ⟨g, 0, none⟩) n c0' ∧ c = .bool ch ∧ i = .int .i64 0 ∧ w3 = wr) ∨ (∃ (J : List Int) (ch' : Bool), c = .bool ch' ∧ i = .int .i64 1 ∧ wr.ownsRow w.heap.size 3 1 v J.length (i64s J) ∧ St p I0 J ch' ∧ (∃ T, J = I ++ T) ∧ q ∈ J ∧ (ch' = false → ch = false ∧ J = I) ∧ Below w.heap.size w wr)) (fun _ _ i _ => 1 - (intOf i).toNat)
            case atStart => exact .inl ⟨rfl, rfl, rfl, rfl⟩
            case round =>
              rcases hrel with ⟨rfl, rfl, rfl, rfl⟩ | ⟨J, ch', rfl, rfl, hoJ, hstJ, hext, hqJ, hch', hbJ⟩
              · obtain ⟨hc, hhc⟩ : ∃ hc, hc = I.contains q := ⟨_, rfl⟩
                rw [← hhc] at HI
                have HHC := hide hhc
                clear hhc
                cases hc with
                | true =>
                  go_wp2_with (first | (go_at_call 42; refine HI.out.mono ?_; rintro e w' ⟨rfl, rfl⟩))
                  go_roundw
                  case rel => exact .inr ⟨I, ch, rfl, by go_num, by rw [← HN.out]; exact HO3.out, HSt.out, ⟨[], by simp⟩, by have := HHC.out; simpa using this.symm, fun h => ⟨h, rfl⟩, HB3.out⟩
                  case measure => simp [intOf]
                | false =>
                  go_wp2_with (first | (go_at_call 42; refine HI.out.mono ?_; rintro e w' ⟨rfl, rfl⟩) | (at_builtin; refine wpList_append_own _ rfl _ _ 37 rfl w.heap.size 3 i0 (.int .i64 0) 1 8 Tryd.underlying37 hi hz0 hz1 hz2 rfl (by decide) _ n (i64s I) rfl (HO3.out.alloc _) ⟨w3.heap.size, 0, none⟩ 1 1 [.int .i64 q] rfl rfl (cells_one3 _ _ rfl q) (one3 q) (by unfold maxLen; omega) (by omega) (by have := hs3.out; simp; omega) ?_; intro v' w4 hown' hgrow _))
                  have HO4 := hide hown'
                  have hb4 := hide (HB3.out.trans (below_app3 HO3.out hs3.out hgrow))
                  clear hown' hgrow
                  go_wp2
                  go_roundw
                  case rel => exact .inr ⟨I ++ [q], true, rfl, by go_num, by rw [List.length_append, i64s_append, ← HN.out]; exact HO4.out, HSt.out.add hqo.out HHC.out.symm, ⟨[q], rfl⟩, by simp, fun h => (by cases h), hb4.out⟩
                  case measure => simp [intOf]
              · have HOJ := hide hoJ
                have HStJ := hide hstJ
                obtain ⟨vo, vc, hvv⟩ := own_shape hoJ
                rw [hvv] at HOJ ⊢
                obtain ⟨T, hT⟩ := hext
                have hnx : Hid (ch' = false → ∀ x ∈ J.take (k + 1), ∀ q ∈ besL x, q ∈ J) := fun hc y hy q' hq' => by
                  obtain ⟨c1, c2⟩ := hch' hc
                  rw [c2] at hy ⊢
                  rcases mem_take_succ hkI hy with hy | hy
                  · exact HCl.out c1 y hy q' hq'
                  · rw [hy, ← HX.out, ← HBL.out] at hq'
                    simp at hq'
                    rw [hq', ← c2]; exact hqJ
                have hlJ : Hid (k + 1 ≤ J.length) := by show _ ≤ _; rw [hT, List.length_append]; omega
                clear hoJ hstJ hvv hT hch' hqJ
                go_wp2
                go_roundw
                case rel => exact ⟨J, ch', k + 1, rfl, by go_num, hlJ.out, HOJ.out, HStJ.out, hnx.out, hbJ⟩
                case measure => simp [intOf]; omega
        · have hkn : k = n := by omega
          have hcl2 : Hid (ch = false → ∀ x ∈ I, ∀ q ∈ besL x, q ∈ I) := fun hc y hy => HCl.out hc y (by rw [hkn, HN.out, List.take_length]; exact hy)
          clear hli
          go_wp2
          go_loopw [3, 4, 8] (fun v c i wr => ∃ (I : List Int) (ch : Bool) (k : Nat), c = .bool ch ∧ i = .int .i64 k ∧ k ≤ I.length ∧ wr.ownsRow w.heap.size 3 1 v I.length (i64s I) ∧ St p I0 I ch ∧ (ch = false → (∀ x ∈ I, ∀ q ∈ besL x, q ∈ I) ∧ ∀ x ∈ I.take k, ∀ q ∈ nears x, x ∈ besL q → q ∈ I) ∧ Below w.heap.size w wr) (fun _ _ i _ => 4 - (intOf i).toNat)
          case atStart => exact ⟨I, ch, 0, rfl, rfl, Nat.zero_le _, by rw [← HN.out]; exact HO2.out, HSt.out, fun hc => ⟨hcl2.out hc, fun x hx => (by simp at hx)⟩, HB2.out⟩
          case round =>
            clear HO2 HSt HCl HB2 HN hcl2 hkn hlt hk m1 m3 hb
            obtain ⟨I, ch, k, rfl, rfl, hk, ho, hst, hcl, hb⟩ := hrel
            obtain ⟨m1, m3⟩ := hst.part.len h0 h1
            obtain ⟨g, cg, rfl⟩ := own_some ho m1
            have HO2 := hide ho
            have HSt := hide hst
            have HCl := hide hcl
            have HB2 := hide hb
            obtain ⟨n, hn⟩ : ∃ n, n = I.length := ⟨_, rfl⟩
            have HN := hide hn
            rw [← hn] at m1 m3 hk HO2 ⊢
            have hli := own_lies HO2.out hn
            obtain ⟨w3, hw3⟩ : ∃ w3, w3 = wr := ⟨_, rfl⟩
            subst hw3
            by_cases hlt : k < n
            · have hkI : k < I.length := by have := HN.out; omega
              have ck := hli k hkI
              have hxr := orb_range p h0 h1 I[k] (hst.part.sub _ (List.getElem_mem _))
              have hxo : Hid (I[k] ∈ orb p) := hst.part.sub _ (List.getElem_mem _)
              obtain ⟨x, hx⟩ : ∃ x, x = I[k] := ⟨_, rfl⟩
              rw [← hx] at ck hxr hxo
              have HX := hide hx
              obtain ⟨x0, x1⟩ := hxr
              have e1 : (k : Int) < (n : Int) := by omega
              have e0 : (0 : Int) ≤ (k : Int) := by omega
              have wa : IntKind.i64.wrap (x - 32) = x - 32 := by rw [IntKind.wrap_i64]; omega
              have wb : IntKind.i64.wrap (x - 1) = x - 1 := by rw [IntKind.wrap_i64]; omega
              have wc : IntKind.i64.wrap (x - 80) = x - 80 := by rw [IntKind.wrap_i64]; omega
              have hgw : Hid (g < w3.heap.size) := (HO2.out.lt g rfl).2
              have hs3 : Hid (w.heap.size ≤ w3.heap.size) := hb.size
              clear hx hli hb ho hst hcl hn
              go_wp2
              go_region_held3 (fun w' => w'.cell? ⟨g, k, none⟩ = some (.int .i64 x)) (go_keep) (fail)
              have hLn : Hid (Lies (w3.alloc (.cells #[.int .i64 (x - 32), .int .i64 (x - 1), .int .i64 (x - 80), .int .i64 181, .int .i64 8490, .int .i64 8491, .int .i64 7838] 3)).drew w3.heap.size (nears x)) := nears_lies w3.heap.size rfl
              have hOn : Hid ((w3.alloc (.cells #[.int .i64 (x - 32), .int .i64 (x - 1), .int .i64 (x - 80), .int .i64 181, .int .i64 8490, .int .i64 8491, .int .i64 7838] 3)).drew.ownsRow w.heap.size 3 1 (.slice (some ⟨g, 0, none⟩) n cg) n (i64s I)) := HO2.out.alloc _
              have hBn : Hid (Below w.heap.size w (w3.alloc (.cells #[.int .i64 (x - 32), .int .i64 (x - 1), .int .i64 (x - 80), .int .i64 181, .int .i64 8490, .int .i64 8491, .int .i64 7838] 3)).drew) := below_drewN (HB2.out.alloc hs3.out _) 1
              obtain ⟨w4, hw4⟩ : ∃ w4, w4 = (w3.alloc (.cells #[.int .i64 (x - 32), .int .i64 (x - 1), .int .i64 (x - 80), .int .i64 181, .int .i64 8490, .int .i64 8491, .int .i64 7838] 3)).drew := ⟨_, rfl⟩
              rw [← hw4] at hLn hOn hBn ⊢
              obtain ⟨nb, hnb⟩ : ∃ nb, nb = w3.heap.size := ⟨_, rfl⟩
              rw [← hnb] at hLn hgw ⊢
              have hgn : Hid (g ≠ nb) := fun e => by have := hgw.out; omega
              clear hw4 hnb ck wa wb wc HO2 hs3 hgw
              go_wp2
              go_loopw [3, 4, 10] (fun v c i wr => ∃ (J : List Int) (ch5 : Bool) (t gj cj : Nat), v = .slice (some ⟨gj, 0, none⟩) J.length cj ∧ c = .bool ch5 ∧ i = .int .i64 t ∧ t ≤ 7 ∧ wr.ownsRow w.heap.size 3 1 (.slice (some ⟨gj, 0, none⟩) J.length cj) J.length (i64s J) ∧ gj ≠ nb ∧ Lies wr nb (nears x) ∧ St p I0 J ch5 ∧ (∃ T, J = I ++ T) ∧ (ch5 = false → ch = false ∧ J = I ∧ ∀ q ∈ (nears x).take t, x ∈ besL q → q ∈ J) ∧ Below w.heap.size w wr) (fun _ _ i _ => 7 - (intOf i).toNat)
              case atStart => exact ⟨I, ch, 0, g, cg, by rw [← HN.out], rfl, rfl, by omega, by rw [← HN.out]; exact hOn.out, hgn.out, hLn.out, HSt.out, ⟨[], by simp⟩, fun h => ⟨h, rfl, fun q hq => (by simp at hq)⟩, hBn.out⟩
              case round =>
                clear hLn hOn hBn hgn
                obtain ⟨J, ch5, t, gj, cj, rfl, rfl, rfl, ht, hoJ, hgj, hLn, hstJ, ⟨T, hT⟩, hchJ, hbJ⟩ := hrel
                obtain ⟨j1, j3⟩ := hstJ.part.len h0 h1
                have hJk : k < J.length := by rw [hT, List.length_append]; omega
                have hJx : J[k] = x := by subst hT; rw [ext_get hkI]; exact HX.out.symm
                have cx := own_lies hoJ rfl k hJk
                rw [hJx] at cx
                have HOJ := hide hoJ
                have HStJ := hide hstJ
                have HLn := hide hLn
                have HChJ := hide hchJ
                have HBJ := hide hbJ
                obtain ⟨nj, hnj⟩ : ∃ nj, nj = J.length := ⟨_, rfl⟩
                have HNJ := hide hnj
                have HT := hide hT
                rw [← hnj] at j1 j3 hJk HOJ ⊢
                have f1 : (k : Int) < (nj : Int) := by omega
                obtain ⟨w5, hw5⟩ : ∃ w5, w5 = wr := ⟨_, rfl⟩
                subst hw5
                by_cases ht7 : t < 7
                · have ht' : t < (nears x).length := ht7
                  have cy := hLn t ht'
                  obtain ⟨y, hy⟩ : ∃ y, y = (nears x)[t] := ⟨_, rfl⟩
                  rw [← hy] at cy
                  have HY := hide hy
                  have t0 : (0 : Int) ≤ (t : Int) := by omega
                  have t1 : (t : Int) < 7 := by omega
                  have HBes := hide (beside_any y w5)
                  have hs5 : Hid (w.heap.size ≤ w5.heap.size) := hbJ.size
                  have hbly := bes_len y
                  have hgjw : Hid (gj < w5.heap.size) := (HOJ.out.lt gj rfl).2
                  have hnbw : Hid (nb < w5.heap.size) := lt_of_cellf cy
                  clear hy hoJ hLn hstJ hchJ hbJ hT hnj hJx cx
                  go_wp2_with fail
                  refine HBes.out.mono ?_
                  rintro e w6 ⟨vb, rfl, ho6, hb6⟩
                  have HL6 := hide (own_lies (own_below HOJ.out hb6) HNJ.out)
                  have cx6 : w6.cell? ⟨gj, k, none⟩ = some (.int .i64 x) := by
                    have hk' : k < J.length := by have := HNJ.out; omega
                    have := HL6.out k hk'
                    rw [show J[k] = x from by have hT := HT.out; subst hT; rw [ext_get hkI]; exact HX.out.symm] at this
                    exact this
                  have cy6 : w6.cell? ⟨nb, t, none⟩ = some (.int .i64 y) := by
                    have := (HLn.out.below hb6) t ht'
                    rw [← HY.out] at this
                    exact this
                  have HO6 := hide (own_below HOJ.out hb6)
                  have HB6 := hide (HBJ.out.trans (hb6.mono hs5.out))
                  have HLn6 := hide (HLn.out.below hb6)
                  have hs6 : Hid (w.heap.size ≤ w6.heap.size) := Nat.le_trans hs5.out hb6.size
                  have hnb6 : Hid (nb < w6.heap.size) := Nat.lt_of_lt_of_le hnbw.out hb6.size
                  have HI1 := hide (hasInt_own vb (besL y) x w6 (by omega) ho6)
                  have HI2 := hide (hasInt_own (B := w.heap.size) (.slice (some ⟨gj, 0, none⟩) nj cj) J y w6 (by have := HNJ.out; omega) (by rw [← HNJ.out]; exact HO6.out))
                  obtain ⟨bo, bc, hvb⟩ := own_shape ho6
                  rw [hvb] at HI1 ⊢
                  clear hvb ho6 hb6 HBes hbly
                  obtain ⟨c1, hc1⟩ : ∃ c1, c1 = (besL y).contains x := ⟨_, rfl⟩
                  rw [← hc1] at HI1
                  have HC1 := hide hc1
                  clear hc1
                  have hsucc : Hid (∀ J' : List Int, (∀ q ∈ (nears x).take t, x ∈ besL q → q ∈ J') → (x ∈ besL y → y ∈ J') → ∀ q ∈ (nears x).take (t + 1), x ∈ besL q → q ∈ J') := fun J' a1 a2 q hq hxq => by
                    rcases mem_take_succ ht' hq with hq | hq
                    · exact a1 q hq hxq
                    · rw [hq, ← HY.out] at hxq ⊢; exact a2 hxq
                  have HSt6 := HStJ
                  cases c1 with
                  | false =>
                    have hno : Hid (¬ x ∈ besL y) := fun h => by have := HC1.out; simp at this; exact this h
                    go_wp2_with fail
                    refine HI1.out.mono ?_
                    rintro e w' ⟨rfl, rfl⟩
                    go_wp2
                    go_roundw
                    case rel => exact ⟨J, ch5, t + 1, gj, cj, by rw [← HNJ.out], rfl, by go_num, by omega, by rw [← HNJ.out]; exact HO6.out, hgj, HLn6.out, HStJ.out, ⟨T, HT.out⟩, fun h => ⟨(HChJ.out h).1, (HChJ.out h).2.1, hsucc.out J (HChJ.out h).2.2 (fun h' => absurd h' hno.out)⟩, HB6.out⟩
                    case measure => simp [intOf]; omega
                  | true =>
                    have hyes : Hid (x ∈ besL y) := by show _ ∈ _; have := HC1.out; simpa using this.symm
                    have hyo : Hid (y ∈ orb p) := orb_sbes p x y hxo.out hyes.out
                    obtain ⟨c2, hc2⟩ : ∃ c2, c2 = J.contains y := ⟨_, rfl⟩
                    rw [← hc2] at HI2
                    have HC2 := hide hc2
                    clear hc2
                    cases c2 with
                    | true =>
                      go_wp2_with fail
                      refine HI1.out.mono ?_
                      rintro e w' ⟨rfl, rfl⟩
                      go_wp2_with fail
                      refine HI2.out.mono ?_
                      rintro e w' ⟨rfl, rfl⟩
                      go_wp2
                      go_roundw
                      case rel => exact ⟨J, ch5, t + 1, gj, cj, by rw [← HNJ.out], rfl, by go_num, by omega, by rw [← HNJ.out]; exact HO6.out, hgj, HLn6.out, HStJ.out, ⟨T, HT.out⟩, fun h => ⟨(HChJ.out h).1, (HChJ.out h).2.1, hsucc.out J (HChJ.out h).2.2 (fun _ => by have := HC2.out; simpa using this.symm)⟩, HB6.out⟩
                      case measure => simp [intOf]; omega
                    | false =>
                      go_wp2_with fail
                      refine HI1.out.mono ?_
                      rintro e w' ⟨rfl, rfl⟩
                      go_wp2_with fail
                      refine HI2.out.mono ?_
                      rintro e w' ⟨rfl, rfl⟩
                      go_wp2_with (first | (at_builtin; refine wpList_append_lies _ rfl _ _ 37 rfl w.heap.size 3 i0 (.int .i64 0) 1 8 Tryd.underlying37 hi hz0 hz1 hz2 rfl (by decide) (.slice (some ⟨gj, 0, none⟩) nj cj) nj (i64s J) rfl (HO6.out.alloc _) ⟨w6.heap.size, 0, none⟩ 1 1 [.int .i64 y] rfl rfl (cells_one3 _ _ rfl y) (one3 y) (by decide) (by unfold maxLen; omega) (by omega) (by have := hs6.out; simp; omega) (w6.heap.size + 1) (by simp) ?_; intro g7 c7 w7 hown7 hgrow7 hat7 hlt7))
                      have HO7 := hide hown7
                      have hb7 := hide (HB6.out.trans (below_app3 HO6.out hs6.out hgrow7))
                      have hL7 := hide ((HLn6.out.alloc (.cells #[.int .i64 y] 3)).far hgrow7 (by simp [Value.ownBlock]; exact fun e => hgj e.symm))
                      have hg7 : Hid (g7 ≠ nb) := by
                        rcases hat7 with h | h
                        · simp [Value.ownBlock] at h; show g7 ≠ nb; rw [← h]; exact hgj
                        · have := hnb6.out; show g7 ≠ nb; omega
                      clear hown7 hgrow7 hat7 hlt7
                      go_wp2
                      go_roundw
                      case rel => exact ⟨J ++ [y], true, t + 1, g7, c7, by rw [List.length_append, ← HNJ.out]; rfl, rfl, by go_num, by omega, by rw [List.length_append, i64s_append, ← HNJ.out]; exact HO7.out, hg7.out, hL7.out, HStJ.out.add hyo.out HC2.out.symm, ⟨T ++ [y], by rw [HT.out, List.append_assoc]⟩, fun h => (by cases h), hb7.out⟩
                      case measure => simp [intOf]; omega
                · have ht8 : t = 7 := by omega
                  have hnx : Hid (ch5 = false → (∀ x ∈ J, ∀ q ∈ besL x, q ∈ J) ∧ ∀ x ∈ J.take (k + 1), ∀ q ∈ nears x, x ∈ besL q → q ∈ J) := fun h => by
                    obtain ⟨d1, d2, d3⟩ := HChJ.out h
                    obtain ⟨d4, d5⟩ := HCl.out d1
                    refine ⟨by rw [d2]; exact d4, fun z hz q hq hzq => ?_⟩
                    rw [d2] at hz
                    rcases mem_take_succ hkI hz with hz | hz
                    · rw [d2]; exact d5 z hz q hq hzq
                    · rw [hz, ← HX.out] at hq hzq
                      exact d3 q (by rw [ht8, List.take_of_length_le (by rw [nears_len]; omega)]; exact hq) hzq
                  clear hoJ hLn hstJ hchJ hbJ hT hnj hJx cx
                  go_wp2
                  go_roundw
                  case rel => exact ⟨J, ch5, k + 1, rfl, by go_num, by have := HNJ.out; omega, by rw [← HNJ.out]; exact HOJ.out, HStJ.out, hnx.out, HBJ.out⟩
                  case measure => simp [intOf]; omega
            · have hkn : k = n := by omega
              have hclo : Hid (ch = false → Closed I) := fun h => by
                obtain ⟨d1, d2⟩ := HCl.out h
                refine ⟨d1, fun z hz => d2 z ?_⟩
                rw [hkn, HN.out, List.take_length]; exact hz
              clear hli hb ho hst hcl
              have hmu : Hid (mu (.slice (some ⟨g, 0, none⟩) n cg) (.bool ch) < mu (.slice (some ⟨g0, 0, none⟩) n0 c0) (.bool true)) := by
                show _ < _
                cases ch with
                | false => simp only [mu, lenV]; omega
                | true =>
                  have := HSt.out.more rfl
                  have h1 := HN.out
                  have h2 := HN0.out
                  simp only [mu, lenV]; omega
              go_wp2
              go_roundw
              case rel => exact ⟨I, ch, rfl, by rw [← HN.out]; exact HO2.out, HSt.out.part, hclo.out, HB2.out⟩
              case measure => exact hmu.out
    | false =>
      have HP := hide hpt
      have hsel := hide (Sel.start hpt (hcl rfl))
      have hli0 := hide (own_lies ho rfl)
      have hcap : I0.length ≤ c0 := by
        rcases ho.2 with ⟨hh, _⟩ | ⟨g', cap', cur, hv, _, _, hn', _⟩
        · cases hh
        · cases hv; exact hn'
      have hg0w : Hid (g0 < wr.heap.size) := (ho.lt g0 rfl).2
      have HB := hide hb
      obtain ⟨w1, hw1⟩ : ∃ w1, w1 = wr := ⟨_, rfl⟩
      subst hw1
      clear ho hpt hcl hb
      go_wp2
      go_loopw [3, 12] (fun v o wr => ∃ (I O : List Int) (g c : Nat), v = .slice (some ⟨g, 0, none⟩) I.length c ∧ I.length ≤ c ∧ Lies wr g I ∧ g < wr.heap.size ∧ o.ownBlock ≠ some g ∧ wr.ownsRow w1.heap.size 3 1 o O.length (i64s O) ∧ O.length + I.length ≤ 3 ∧ Sel p I O ∧ Below w1.heap.size w1 wr) (fun v _ _ => lenV v)
      case atStart => exact ⟨I0, [], g0, c0, rfl, hcap, hli0.out, hg0w.out, (by simp [Value.ownBlock]), World.ownsRow_nil _ _ _ _, (by simp; omega), hsel.out, Below.refl _ _⟩
      case round =>
        clear hsel hli0 hg0w hcap HP
        obtain ⟨I, O, g, c, rfl, hc, hL, hg, hne, ho, hlen, hsel, hb1⟩ := hrel
        have HL := hide hL
        have HO := hide ho
        have HSel := hide hsel
        have HB1 := hide hb1
        obtain ⟨oo, oc, hov⟩ := own_shape ho
        obtain ⟨n, hn⟩ : ∃ n, n = I.length := ⟨_, rfl⟩
        have HN := hide hn
        obtain ⟨w2, hw2⟩ : ∃ w2, w2 = wr := ⟨_, rfl⟩
        subst hw2
        by_cases hz : n = 0
        · have hI : I = [] := List.eq_nil_of_length_eq_zero (by rw [← hn]; exact hz)
          subst hI
          have hO := HSel.out.done
          rw [hO] at HO hov
          rw [hov] at HO ⊢
          clear hL ho hsel hb1 hov hO hn hz hc hg hne hlen
          go_wp2
          go_ret
          exact ⟨_, rfl, own_base HO.out HB.out.size, HB.out.trans (HB1.out.mono HB.out.size)⟩
        · rw [← hn] at hc hlen ⊢
          rw [hov] at HO hne ⊢
          have hpos : 0 < n := by omega
          have hposI : (0 : Int) < (n : Int) := by omega
          have hsz : Hid (w1.heap.size ≤ w2.heap.size) := hb1.size
          clear ho hsel hb1 hov hz
          go_wp2
          go_loopw [13, 14] (fun a b wr => ∃ x y q : Nat, a = .int .i64 x ∧ b = .int .i64 y ∧ x < n ∧ 1 ≤ y ∧ y ≤ n ∧ (∀ t (ht : t < I.length) (hx : x < I.length), t < y → I[x] ≤ I[t]) ∧ wr = w2.drewN q) (fun _ b _ => n - (intOf b).toNat)
          case atStart => exact ⟨0, 1, 0, rfl, rfl, hpos, Nat.le_refl _, hpos, fun t ht hx h => (by have h0 : t = 0 := (by omega); subst h0; exact Int.le_refl _), rfl⟩
          case round =>
            obtain ⟨x, y, q, rfl, rfl, hx, hy1, hyn, hmin, hw⟩ := hrel
            have HW := hide hw
            have HMin := hide hmin
            have hLw : Lies wr g I := by rw [hw]; exact hL.drew q
            have hxI : x < I.length := by rw [← hn]; exact hx
            have cx := hLw x hxI
            obtain ⟨ix, hix⟩ : ∃ ix, ix = I[x] := ⟨_, rfl⟩
            rw [← hix] at cx
            have HIX := hide hix
            have x0 : (0 : Int) ≤ (x : Int) := by omega
            have x1 : (x : Int) < (n : Int) := by omega
            by_cases hlt : y < n
            · have hyI : y < I.length := by rw [← hn]; exact hlt
              have cy := hLw y hyI
              obtain ⟨iy, hiy⟩ : ∃ iy, iy = I[y] := ⟨_, rfl⟩
              rw [← hiy] at cy
              have HIY := hide hiy
              have y0 : (0 : Int) ≤ (y : Int) := by omega
              have y1 : (y : Int) < (n : Int) := by omega
              clear hw hmin hLw hix hiy hn hL
              by_cases hless : iy < ix
              · have hmn : Hid (∀ t (ht : t < I.length) (hx : y < I.length), t < y + 1 → I[y] ≤ I[t]) := fun t ht _ h => by
                  by_cases hty : t = y
                  · subst hty; exact Int.le_refl _
                  · have := HMin.out t ht hxI (by omega)
                    rw [← HIX.out] at this
                    rw [← HIY.out]; omega
                go_wp2
                go_quiet (fail)
                go_wp2
                go_roundw
                case rel => obtain ⟨q2, hq2⟩ := drewN_more HW.out nq; exact ⟨y, y + 1, q2, rfl, by go_num, hlt, by omega, by omega, hmn.out, hq2⟩
                case measure => simp [intOf]; omega
              · have hmn : Hid (∀ t (ht : t < I.length) (hx : x < I.length), t < y + 1 → I[x] ≤ I[t]) := fun t ht hx' h => by
                  by_cases hty : t = y
                  · subst hty; rw [← HIX.out, ← HIY.out]; omega
                  · exact HMin.out t ht hx' (by omega)
                have hd : decide (iy < ix) = false := by simpa using hless
                clear hless
                go_wp2
                go_quiet (fail)
                go_wp2
                go_roundw
                case rel => obtain ⟨q2, hq2⟩ := drewN_more HW.out nq; exact ⟨x, y + 1, q2, rfl, by go_num, hx, by omega, by omega, hmn.out, hq2⟩
                case measure => simp [intOf]; omega
            · have hpick := hide (HSel.out.pick hxI (fun t ht => hmin t ht hxI (by omega)))
              rw [← hix] at hpick
              have HO2 : Hid (wr.ownsRow w1.heap.size 3 1 (.slice oo O.length oc) O.length (i64s O)) := by show World.ownsRow _ _ _ _ _ _ _; rw [hw]; exact own_drewN HO.out q
              have HB2 : Hid (Below w1.heap.size w1 wr) := by show Below _ _ _; rw [hw]; exact below_drewN HB1.out q
              have hg2 : Hid (g < wr.heap.size) := by show _ < _; rw [hw]; exact hg
              have hsz2 : Hid (w1.heap.size ≤ wr.heap.size) := by show _ ≤ _; rw [hw]; exact hsz.out
              have HLw := hide hLw
              obtain ⟨w3, hw3⟩ : ∃ w3, w3 = wr := ⟨_, rfl⟩
              subst hw3
              clear hw hmin hix hL hLw HL HO HB1 hsz HW hn
              go_wp2_with (first | (at_builtin; refine wpList_append_lies _ rfl _ _ 37 rfl w1.heap.size 3 i0 (.int .i64 0) 1 8 Tryd.underlying37 hi hz0 hz1 hz2 rfl (by decide) (.slice oo O.length oc) O.length (i64s O) rfl (HO2.out.alloc _) ⟨w3.heap.size, 0, none⟩ 1 1 [.int .i64 ix] rfl rfl (cells_one3 _ _ rfl ix) (one3 ix) (by decide) (by unfold maxLen; omega) (by omega) (by have := hsz2.out; simp; omega) (w3.heap.size + 1) (by simp) ?_; intro g4 c4 w4 hown4 hgrow4 hat4 hlt4))
              have HO4 := hide hown4
              have HB4 := hide (HB2.out.trans (below_app3 HO2.out hsz2.out hgrow4))
              have HL4 := hide ((HLw.out.alloc (.cells #[.int .i64 ix] 3)).far hgrow4 (Ne.symm hne))
              have hg4 : Hid (g4 ≠ g) := by
                rcases hat4 with h | h
                · show g4 ≠ g; intro e; rw [e] at h; exact hne h
                · have := hg2.out; show g4 ≠ g; omega
              have hgw4 : Hid (g < w4.heap.size) := by
                have := hgrow4.size
                have h2 := hg2.out
                rw [World.size_alloc] at this
                show g < _
                omega
              have hsz4 : Hid (w1.heap.size ≤ w4.heap.size) := HB4.out.size
              clear hown4 hgrow4 hat4 HO2 HLw cx
              have x2 : (x : Int) + 1 ≤ (n : Int) := by omega
              have x3 : (n : Int) ≤ (c : Int) := by omega
              have x4 : (x : Int) ≤ (c : Int) := by omega
              have x5 : (x : Int) + 1 ≤ (c : Int) := by omega
              have x6 : (x : Int) ≤ (x : Int) + 1 := by omega
              have x7 : (0 : Int) ≤ (x : Int) + 1 := by omega
              have wx : IntKind.i64.wrap ((x : Int) + 1) = (x : Int) + 1 := by rw [IntKind.wrap_i64]; omega
              by_cases hlast : n = x + 1
              · subst hlast
                have hdrop : Hid (I.take x ++ I.drop (x + 1) = I.take x) := by show _ = _; rw [List.drop_of_length_le (by have := HN.out; omega), List.append_nil]
                have hltx : Hid ((I.take x).length = x) := by show _ = _; rw [List.length_take]; have := HN.out; omega
                have HL5 : Hid (Lies w4 g (I.take x)) := fun t ht => by
                  have h1 := HL4.out t (by rw [List.length_take] at ht; omega)
                  rw [h1, List.getElem_take]
                by_cases hcx : c = x + 1
                · subst hcx
                  go_wp2
                  go_region_law (fail)
                  go_simp
                  refine ⟨?_, ?meas⟩
                  repeat' apply Exists.intro
                  refine And.intro ?rela ?fr
                  case fr => rfl
                  case rela => exact ⟨I.take x, O ++ [ix], g, x, by rw [hltx.out], by rw [hltx.out]; exact Nat.le_refl _, HL5.out, hgw4.out, (by simp [Value.ownBlock]; exact hg4.out), by rw [List.length_append, i64s_append]; exact HO4.out, (by rw [List.length_append, hltx.out]; simp; omega), (by rw [← hdrop.out]; exact hpick.out), below_drew1 HB4.out⟩
                  case meas => exact Nat.lt_succ_self x
                · go_wp2
                  go_region_law (fail)
                  go_simp
                  refine ⟨?_, ?meas⟩
                  repeat' apply Exists.intro
                  refine And.intro ?rela ?fr
                  case fr => rfl
                  case rela => exact ⟨I.take x, O ++ [ix], g, x, by rw [hltx.out], by rw [hltx.out]; exact Nat.le_refl _, HL5.out, hgw4.out, (by simp [Value.ownBlock]; exact hg4.out), by rw [List.length_append, i64s_append]; exact HO4.out, (by rw [List.length_append, hltx.out]; simp; omega), (by rw [← hdrop.out]; exact hpick.out), below_drew1 HB4.out⟩
                  case meas => exact Nat.lt_succ_self x
              · have hcx : ¬ c = x + 1 := by omega
                have hxn : (x : Int) + 1 < (n : Int) := by omega
                have hlt5 : Hid ((i64s (I.take x)).length = x * 1) := by show _ = _; rw [i64s_len, List.length_take]; have := HN.out; omega
                have hld5 : Hid ((i64s (I.drop (x + 1))).length = (n - (x + 1)) * 1) := by show _ = _; rw [i64s_len, List.length_drop, ← HN.out]; omega
                have holds : Hid (∀ t u, (i64s (I.take x))[t]? = some u → ∀ W : World, W.heap = w4.heap → W.cell? ((⟨g, 0, none⟩ : Addr).add t) = some u) := fun t u hu W hW => by
                  obtain ⟨ht, rfl⟩ := i64s_at hu
                  have h1 := HL4.out t (by rw [List.length_take] at ht; omega)
                  rw [add_lit0, List.getElem_take, ← h1]
                  exact cell_heap hW _
                have hnews : Hid (∀ t u, (i64s (I.drop (x + 1)))[t]? = some u → ∀ W : World, W.heap = w4.heap → W.cell? ((⟨g, x + 1, none⟩ : Addr).add t) = some u) := fun t u hu W hW => by
                  obtain ⟨ht, rfl⟩ := i64s_at hu
                  have h1 := HL4.out (x + 1 + t) (by rw [List.length_drop] at ht; omega)
                  rw [add_lit, List.getElem_drop, ← h1]
                  exact cell_heap hW _
                go_wp2
                go_region_law (refine step_grows (by rfl) _ _ _ (by rfl) 3 i0 _ 1 8 Tryd.underlying37 hi hz0 hz1 hz2 rfl (by decide) ⟨g, 0, none⟩ x x (i64s (I.take x)) (by kernel_rfl) hlt5.out (fun t u hu => holds.out t u hu _ rfl) ⟨g, x + 1, none⟩ (n - (x + 1)) (c - (x + 1)) (i64s (I.drop (x + 1))) (by kernel_rfl) hld5.out (fun t u hu => hnews.out t u hu _ rfl) (by omega) (by unfold maxLen; omega) (by omega) ?_; intro v5 w5 ho5 hg5)
                obtain ⟨g5, c5, hv5⟩ := own_some ho5 (by omega)
                rw [hv5] at ho5 ⊢
                have hrow : w5.ownsRow w4.heap.size 3 1 (.slice (some ⟨g5, 0, none⟩) (x + (n - (x + 1))) c5) (x + (n - (x + 1))) (i64s (I.take x ++ I.drop (x + 1))) := by rw [i64s_append]; exact ho5
                have hln5 : (I.take x ++ I.drop (x + 1)).length = x + (n - (x + 1)) := by rw [List.length_append, List.length_take, List.length_drop]; have := HN.out; omega
                have HL5 := hide (own_lies hrow hln5.symm)
                have hg5w : Hid (g5 < w5.heap.size) := (hrow.lt g5 rfl).2
                have hg5b : Hid (g4 ≠ g5) := by
                  have h1 := (hrow.lt g5 rfl).1
                  have h2 := (HO4.out.lt g4 rfl).2
                  show g4 ≠ g5
                  omega
                have hc5 : Hid ((I.take x ++ I.drop (x + 1)).length ≤ c5) := by
                  rcases hrow.2 with ⟨hh, _⟩ | ⟨g', cap', cur, hv, _, _, hn', _⟩
                  · cases hh
                  · cases hv; rw [hln5]; exact hn'
                have HB5 := hide ((below_drew1 HB4.out).grown hg5 hsz4.out (fun k hk => by cases hk))
                have HO5 := hide (own_far (show w4.drew.ownsRow w1.heap.size 3 1 _ _ _ from HO4.out) hg5)
                have HLN5 := hide hln5
                have hms : Hid (x + (n - (x + 1)) < n) := by show _ < _; omega
                clear ho5 hrow hln5 hg5 hv5
                go_simp
                refine ⟨?_, ?meas⟩
                repeat' apply Exists.intro
                refine And.intro ?rela ?fr
                case fr => rfl
                case rela => exact ⟨I.take x ++ I.drop (x + 1), O ++ [ix], g5, c5, by rw [HLN5.out], hc5.out, HL5.out, hg5w.out, (by simp [Value.ownBlock]; exact hg5b.out), by rw [List.length_append, i64s_append]; exact HO5.out, (by rw [HLN5.out]; simp; omega), hpick.out, HB5.out⟩
                case meas => exact hms.out

end Go.Proofs.YtojjfmnbpfpanaaDoor.Fo
