/- What the reference's SetOf answers: the ends are put in their order. -/
import Derived.Test.YtojjfmnbpfpanaaDoorSends2
import Derived.Test.YtojjfmnbpfpanaaDoorSchkb
import Derived.Deep.RegionLaw
namespace Go.Proofs.YtojjfmnbpfpanaaDoor
open Go.RowKit
set_option linter.unusedVariables false

/-- a slice of numbers that can be read. -/
def CellsI (w : World) (x : Addr) (l : List Int) : Prop := ∀ j (h : j < l.length), w.cell? (x.add j) = some (.int .i64 l[j])
def ReadsI (w : World) (v : Value) (l : List Int) : Prop := (v = .slice none 0 0 ∧ l = []) ∨ ∃ x c, v = .slice (some x) l.length c ∧ CellsI w x l
theorem CellsI.below {w w' : World} {x : Addr} {l : List Int} (h : CellsI w x l) (hb : Below w.heap.size w w') : CellsI w' x l := fun j hj => below_cell hb (lt_of_cell (h j hj)) (h j hj)
theorem ReadsI.below {w w' : World} {v : Value} {l : List Int} (h : ReadsI w v l) (hb : Below w.heap.size w w') : ReadsI w' v l := by
  rcases h with h | ⟨x, c, h1, h2⟩
  · exact .inl h
  · exact .inr ⟨x, c, h1, h2.below hb⟩
theorem ReadsI.shape {w : World} {v : Value} {l : List Int} (h : ReadsI w v l) : ∃ ao c, v = .slice ao l.length c := by
  rcases h with ⟨rfl, rfl⟩ | ⟨x, c, h1, h2⟩
  · exact ⟨none, 0, rfl⟩
  · exact ⟨some x, c, h1⟩
theorem ReadsI.some {w : World} {v : Value} {l : List Int} (h : ReadsI w v l) (hl : 0 < l.length) : ∃ x c, v = .slice (some x) l.length c ∧ CellsI w x l := by
  rcases h with ⟨rfl, rfl⟩ | h
  · simp at hl
  · exact h
theorem add_lit0 (g j : Nat) : ((⟨g, 0, none⟩ : Addr).add j) = ⟨g, j, none⟩ := by unfold Addr.add; split <;> simp_all
theorem i64s_get (l : List Int) (j : Nat) (h : j < l.length) : (i64s l)[j]? = some (.int .i64 l[j]) := by simp [i64s, h]
theorem own_readsI {B : Nat} {w : World} {v : Value} {l : List Int} (h : w.ownsRow B 3 1 v l.length (i64s l)) : ReadsI w v l := by
  rcases h.2 with ⟨rfl, h0⟩ | ⟨g, cap, cur, rfl, h3⟩
  · exact .inl ⟨rfl, List.eq_nil_of_length_eq_zero h0⟩
  · refine .inr ⟨⟨g, 0, none⟩, cap, rfl, fun j hj => ?_⟩
    rw [add_lit0, h.cellAt j (by omega)]
    exact i64s_get l j hj

/-- append to a row of the call's own, as one step of a region that draws. -/
theorem step_own {P : Program} {ops : Array Oper} {o : Oper} {a : Act} {w : World} {K : Act → World → Prop} {Q : Exit → Act → World → Prop} {E : Prop} (hgd : o.guard = none) (s x : Operand) (t : TypeId)
    (ho : o.op = .call { callee := .builtin .append, args := #[s, x], argTypes := #[t, t] })
    (base : Nat) (e : TypeId) (i : TypeInfo) (z : Value) (size bytes : Nat) (ht : P.underlying t = some (.slice e)) (hi : P.info? e = some i) (hz : i.zero = some z)
    (hsize : i.size = size) (hby : i.bytes = bytes) (hzs : z.cells.size = size) (hsz : 0 < size)
    (v : Value) (n : Nat) (xs : List Value) (hs : a.eval s = v) (hown : w.ownsRow base e size v n xs)
    (ad : Addr) (m c : Nat) (news : List Value) (hx : a.eval x = .slice (some ad) m c) (hl : news.length = m * size) (hnews : ∀ j u, news[j]? = some u → w.cell? (ad.add j) = some u) (h1 : ∀ u ∈ news, u.oneCell' = true)
    (h63 : n + m ≤ maxLen) (hbytes : (n + m) * bytes ≤ 140737488355328) (hbase : base ≤ w.heap.size)
    (h : ∀ v' w', w'.ownsRow base e size v' (n + m) (xs ++ news) → w.grownBy w' v.ownBlock → K (a.put o.dst v') w') :
    if Region.wanted o (yielded ops a.tmps) = true then Oper.wp P o a w K Q else E := by
  have hw : Region.wanted o (yielded ops a.tmps) = true := by simp [Region.wanted, hgd]
  rw [if_pos hw]
  exact wp_append_own w s x t ho base e i z size bytes ht hi hz hsize hby hzs hsz v n xs hs hown ad m c news hx hl hnews h1 h63 hbytes hbase fun v' w' h2 h3 _ => h v' w' h2 h3
/-- append to what has no room, as one step of a region that draws. -/
theorem step_grows {P : Program} {ops : Array Oper} {o : Oper} {a : Act} {w : World} {K : Act → World → Prop} {Q : Exit → Act → World → Prop} {E : Prop} (hgd : o.guard = none) (s x : Operand) (t : TypeId)
    (hop : o.op = .call { callee := .builtin .append, args := #[s, x], argTypes := #[t, t] })
    (e : TypeId) (i : TypeInfo) (z : Value) (size bytes : Nat) (h1 : P.underlying t = some (.slice e)) (h2 : P.info? e = some i) (h3 : i.zero = some z) (h4 : i.size = size) (h5 : i.bytes = bytes) (h6 : z.cells.size = size) (h7 : 0 < size)
    (b : Addr) (n cap : Nat) (olds : List Value) (hs : a.eval s = .slice (some b) n cap) (hlo : olds.length = n * size) (holds : ∀ j u, olds[j]? = some u → w.cell? (b.add j) = some u)
    (ad : Addr) (m c : Nat) (news : List Value) (hx : a.eval x = .slice (some ad) m c) (hn : news.length = m * size) (hc : ∀ j u, news[j]? = some u → w.cell? (ad.add j) = some u)
    (hfull : cap < n + m) (b1 : n + m ≤ maxLen) (b2 : (n + m) * bytes ≤ 140737488355328)
    (hK : ∀ v' w', w'.ownsRow w.heap.size e size v' (n + m) (olds ++ news) → w.grownBy w' none → K (a.put o.dst v') w') :
    if Region.wanted o (yielded ops a.tmps) = true then Oper.wp P o a w K Q else E := by
  have hw : Region.wanted o (yielded ops a.tmps) = true := by simp [Region.wanted, hgd]
  rw [if_pos hw]
  obtain ⟨v', w', hrun, r1, r2⟩ := run_append_arg_grows (P := P) w t o.type e i z size bytes h1 h2 h3 h4 h5 h6 h7 b n cap olds hlo holds ad m c news hn hc hfull b1 b2
  unfold Oper.wp
  simp [execOp, hop, resolve, invoke, builtin, hs, hx, hrun, Result.andThen]
  exact hK v' w' r1 r2

theorem i64s_one (l : List Int) : ∀ u ∈ i64s l, u.oneCell' = true := by
  intro u hu
  simp [i64s] at hu
  obtain ⟨z, _, rfl⟩ := hu
  rfl
theorem i64s_at {l : List Int} {t : Nat} {u : Value} (h : (i64s l)[t]? = some u) : ∃ ht : t < l.length, u = .int .i64 l[t] := by
  have ht : t < (i64s l).length := (List.getElem?_eq_some_iff.1 h).1
  rw [i64s_len] at ht
  rw [i64s_get l t ht] at h
  exact ⟨ht, (Option.some.inj h).symm⟩
theorem add_lit (g j t : Nat) : ((⟨g, j, none⟩ : Addr).add t) = ⟨g, j + t, none⟩ := by unfold Addr.add; split <;> simp_all
theorem own_at {B : Nat} {w : World} {g c n : Nat} {l : List Int} (h : w.ownsRow B 3 1 (.slice (some ⟨g, 0, none⟩) n c) n (i64s l)) (hn : n = l.length) (t : Nat) (ht : t < l.length) : w.cell? ⟨g, t, none⟩ = some (.int .i64 l[t]) := by
  rw [h.cellAt t (by omega)]
  exact i64s_get l t ht
theorem own_one {B : Nat} (w : World) (hB : B ≤ w.heap.size) (q : Nat) (e : Int) : ((w.drewN q).alloc (.cells #[.int .i64 e] 3)).ownsRow B 3 1 (.slice (some ⟨w.heap.size, 0, none⟩) 1 1) 1 (i64s [e]) := by
  have h := World.ownsRow_lit (base := B) (e := 3) (size := 1) (w.drewN q) #[.int .i64 e] 1 hB (by unfold maxLen; omega) (by simp)
  exact h
theorem ins_news {B : Nat} {w : World} {g c n : Nat} {l : List Int} (h : w.ownsRow B 3 1 (.slice (some ⟨g, 0, none⟩) n c) n (i64s l)) (hn : n = l.length) (q : Nat) (o : Obj) (j : Nat) : ∀ t u, (i64s (l.drop j))[t]? = some u → ((w.drewN q).alloc o).cell? ((⟨g, j, none⟩ : Addr).add t) = some u := by
  intro t u hu
  obtain ⟨ht, rfl⟩ := i64s_at hu
  have hlt : j + t < l.length := by rw [List.length_drop] at ht; omega
  rw [add_lit, List.getElem_drop]
  exact own_at ((own_drewN h q).alloc o) hn (j + t) hlt
theorem ins_olds {B : Nat} {w w4 : World} {g c n : Nat} {l : List Int} (h : w.ownsRow B 3 1 (.slice (some ⟨g, 0, none⟩) n c) n (i64s l)) (hn : n = l.length) (q : Nat) (o : Obj) (j : Nat) (hg : ((w.drewN q).alloc o).grownBy w4 (some w.heap.size)) (hne : g < w.heap.size) : ∀ t u, (i64s (l.take j))[t]? = some u → w4.cell? ((⟨g, 0, none⟩ : Addr).add t) = some u := by
  intro t u hu
  obtain ⟨ht, rfl⟩ := i64s_at hu
  have hlt : t < l.length := by rw [List.length_take] at ht; omega
  rw [add_lit0, List.getElem_take, hg.cell_far _ (by show g < ((w.drewN q).alloc o).heap.size; rw [World.size_alloc]; show g < w.heap.size + 1; omega) (by simp; omega)]
  exact own_at ((own_drewN h q).alloc o) hn t hlt
theorem own_news {B : Nat} {w : World} {g c n : Nat} {l : List Int} (h : w.ownsRow B 3 1 (.slice (some ⟨g, 0, none⟩) n c) n (i64s l)) (hn : n = l.length) : ∀ t u, (i64s l)[t]? = some u → w.cell? ((⟨g, 0, none⟩ : Addr).add t) = some u := by
  intro t u hu
  obtain ⟨ht, rfl⟩ := i64s_at hu
  rw [add_lit0]
  exact own_at h hn t ht
theorem ins_below {B : Nat} {w0 w w4 w5 : World} {q : Nat} {o : Obj} (hb : Below B w0 w) (hB : B ≤ w.heap.size) (hg : ((w.drewN q).alloc o).grownBy w4 (some w.heap.size)) (hg5 : w4.grownBy w5 none) : Below B w0 w5 := by
  have h1 : Below B w0 ((w.drewN q).alloc o) := (below_drewN hb q).alloc hB o
  have h2 := h1.grown hg (by rw [World.size_alloc]; show B ≤ w.heap.size + 1; omega) (fun k hk => by cases hk; exact hB)
  exact h2.grown hg5 (Nat.le_trans (by rw [World.size_alloc]; show B ≤ w.heap.size + 1; omega) hg.size) (fun k hk => by cases hk)

theorem ins_own {B : Nat} {w4 w5 : World} {v : Value} {l : List Int} {e : Int} {j ln : Nat} (hB : B ≤ w4.heap.size) (hn : ln = l.length) (hj : j ≤ ln) (hnew : endIns l e = l.take j ++ e :: l.drop j) (h : w5.ownsRow w4.heap.size 3 1 v (j + (1 + (ln - j))) (i64s (l.take j) ++ i64s (e :: l.drop j))) : w5.ownsRow B 3 1 v (endIns l e).length (i64s (endIns l e)) := by
  rw [hnew, i64s_append]
  have : (l.take j ++ e :: l.drop j).length = j + (1 + (ln - j)) := by simp; omega
  rw [this]
  exact own_base h hB

theorem ins_own2 {B : Nat} {w4 w5 : World} {v : Value} {l : List Int} {e : Int} {j : Nat} (hB : B ≤ w4.heap.size) (hn : j = l.length) (hnew : endIns l e = l.take j ++ e :: l.drop j) (h : w5.ownsRow w4.heap.size 3 1 v (j + 1) (i64s (l.take j) ++ i64s [e])) : w5.ownsRow B 3 1 v (endIns l e).length (i64s (endIns l e)) := by
  rw [hnew, i64s_append, List.drop_of_length_le (by omega)]
  have : (l.take j ++ [e]).length = j + 1 := by simp; omega
  rw [this]
  exact own_base h hB

theorem app_below {B : Nat} {w1 w2 w4 : World} {v : Value} {n q : Nat} {xs : List Value} {o : Obj} (ho : w2.ownsRow B 35 2 v n xs) (hb : Below B w1 w2) (hB : B ≤ w2.heap.size) (hg : ((w2.drewN q).alloc o).grownBy w4 v.ownBlock) : Below B w1 w4 :=
  ((below_drewN hb q).alloc hB o).grown hg (by rw [World.size_alloc]; show B ≤ w2.heap.size + 1; omega) (fun k hk => (ho.lt k hk).1)
theorem own_turn0 {B : Nat} {w : World} {g cap m : Nat} {O : List (Int × Int)} {a b : Int} (h : w.ownsRow B 35 2 (.slice (some ⟨g, 0, none⟩) (m + 1) cap) (m + 1) (cells2 (O ++ [(a, b)]))) (hm : m = O.length) (M : Int) (q : Nat) : ((w.drewN q).setCell ⟨g, m * 2 + 1, none⟩ (.int .i64 M)).ownsRow B 35 2 (.slice (some ⟨g, 0, none⟩) (m + 1) cap) (m + 1) (cells2 (O ++ [(a, M)])) := by
  have := ((own_drewN h q).stored (m * 2 + 1) (.int .i64 M)).1
  subst hm
  rw [cells2_turn] at this
  exact this

theorem endIns_out {l : List Int} {e : Int} (h : ¬ (0 ≤ e ∧ e ≤ 1114111)) : endIns l e = l := by unfold endIns; rw [if_neg fun hc => h hc.1]
theorem endIns_has {l : List Int} {e : Int} {j : Nat} (hj : atL l e = j) (h : j < l.length) (he : l[j] = e) : endIns l e = l := by
  unfold endIns
  rw [if_neg]
  rintro ⟨_, hc⟩
  rw [hj, List.getElem?_eq_getElem h, he] at hc
  exact hc rfl
theorem endIns_new {l : List Int} {e : Int} {j : Nat} (hj : atL l e = j) (hp : 0 ≤ e ∧ e ≤ 1114111) (h : ∀ h : j < l.length, l[j] ≠ e) : endIns l e = l.take j ++ e :: l.drop j := by
  unfold endIns
  rw [if_pos, hj]
  refine ⟨hp, ?_⟩
  rw [hj]
  by_cases hlt : j < l.length
  · rw [List.getElem?_eq_getElem hlt]; simp; exact h hlt
  · rw [List.getElem?_eq_none (by omega)]; simp
theorem foldl_ends_take (E : List Int) (k : Nat) (hk : k < E.length) : (E.take (k + 1)).foldl endIns [0] = endIns ((E.take k).foldl endIns [0]) E[k] := by
  rw [List.take_add_one, List.getElem?_eq_getElem hk, List.foldl_append]
  rfl

/-- a function of a number that only answers. -/
def Tells (g : Nat) (cb : Array Value) (f : Int → Bool) (w : World) : Prop := ∀ p w', Below w.heap.size w w' → Calls Tryd.prog g (#[.int .i64 p] ++ cb) w' fun e w'' => e = .returned (.bool (f p)) ∧ ∃ q, w'' = w'.drewN q

set_option maxRecDepth 100000 in
set_option maxHeartbeats 8000000 in
theorem setOf_any (g : Nat) (cb : Array Value) (f : Int → Bool) (ve : Value) (E : List Int) (w : World) (eg : ∀ args w, (callFunc g args).run Tryd.prog w = .ok (.enter g args) w) (hE : ReadsI w ve E) (lE : E.length ≤ 200000) (hT : Tells g cb f w) (hS : Stays f (E.foldl endIns [0])) :
    Calls Tryd.prog 43 #[ve, .func (.func g) #[] cb] w fun e w' => ∃ v' O, e = .returned v' ∧ w'.ownsRow w.heap.size 35 2 v' O.length (cells2 O) ∧ IsSet f O ∧ O.length ≤ 1 + E.length ∧ Below w.heap.size w w' := by
  obtain ⟨i0, hi, hz0, hz1, hz2⟩ := info_parts info3
  obtain ⟨j0, gi, gz0, gz1, gz2⟩ := info_parts infoR
  have HE := hide hE
  have HT := hide hT
  have HS := hide hS
  obtain ⟨eo, ce, hve⟩ := hE.shape
  obtain ⟨n, hn⟩ : ∃ n, n = E.length := ⟨_, rfl⟩
  have HN := hide hn
  rw [← hn] at lE hve
  rw [hve] at HE ⊢
  clear hE hT hS hve hn
  go_enter Tryd.func43, Tryd.ntmps43
  go_wp2
  go_loopw [5, 6] (fun v i wr => ∃ (k : Nat) (l : List Int), k ≤ n ∧ i = .int .i64 k ∧ l = (E.take k).foldl endIns [0] ∧ wr.ownsRow w.heap.size 3 1 v l.length (i64s l) ∧ Below w.heap.size w wr) (fun _ i _ => n - (intOf i).toNat)
  case atStart => exact ⟨0, [0], Nat.zero_le _, rfl, rfl, own_one w (Nat.le_refl _) 0 0, (Below.refl _ w).alloc (Nat.le_refl _) _⟩
  case round =>
    obtain ⟨k, l, hk, rfl, hl, ho, hb⟩ := hrel
    have hlen : l.length ≤ 1 + k := by rw [hl]; have := ends_len (E.take k) [0]; simp at this; omega
    have hends : Ends l := by rw [hl]; exact (ends_fold (E.take k) [0] ends_zero).1
    have hpos : 0 < l.length := by
      have := hends.2.1
      rcases Nat.eq_zero_or_pos l.length with h | h
      · rw [List.getElem?_eq_none (by omega)] at this; cases this
      · exact h
    obtain ⟨lg, lc, rfl⟩ := own_some ho hpos
    have HL := hide hl
    have HO := hide ho
    have HB := hide hb
    have HEnds := hide hends
    have hcl := hide (own_readsI ho)
    clear hl ho hends
    by_cases hlt : k < n
    · have hkE : k < E.length := by have := HN.out; omega
      obtain ⟨x, cx, hx, hcx⟩ := HE.out.some (by omega)
      obtain ⟨rfl⟩ : eo = some x := by cases hx; rfl
      have ce1 := (hcx.below hb) k hkE
      have hnext := hide (foldl_ends_take E k hkE)
      obtain ⟨ee, hee⟩ : ∃ ee, ee = E[k] := ⟨_, rfl⟩
      rw [← hee] at ce1 hnext
      rw [← HL.out] at hnext
      have e1 : (k : Int) < (n : Int) := by omega
      have e0 : (0 : Int) ≤ (k : Int) := by omega
      have HX := hide hcx
      clear hx hcx hee hb
      obtain ⟨ln, hln⟩ : ∃ ln, ln = l.length := ⟨_, rfl⟩
      have HLN := hide hln
      rw [← hln] at hlen hpos HO hcl ⊢
      clear hln
      obtain ⟨w1, hw1⟩ : ∃ w1, w1 = wr := ⟨_, rfl⟩
      subst hw1
      go_wp2
      go_loopw [7] (fun a w2 => ∃ j q : Nat, j ≤ ln ∧ a = .int .i64 j ∧ w2 = w1.drewN q ∧ ∀ t (h : t < l.length), t < j → l[t] < ee) (fun a _ => ln - (intOf a).toNat)
      case atStart => exact ⟨0, 0, Nat.zero_le _, rfl, rfl, fun t _ h => by omega⟩
      case round =>
        obtain ⟨j, q, hj, rfl, hw, hbel⟩ := hrel
        obtain ⟨w2, hw2⟩ : ∃ w2, w2 = wr := ⟨_, rfl⟩
        subst hw2
        have HW := hide hw
        have HBel := hide hbel
        have ce2 : w2.cell? (x.add k) = some (.int .i64 ee) := by rw [hw]; exact ce1
        have ho2 : Hid (w2.ownsRow w.heap.size 3 1 (.slice (some ⟨lg, 0, none⟩) ln lc) ln (i64s l)) := by show World.ownsRow _ _ _ _ _ _ _; rw [hw]; exact HO.out
        have hb2 : Hid (Below w.heap.size w w2) := by show Below _ _ _; rw [hw]; exact below_drewN HB.out q
        have hcl2 : Hid (ReadsI w2 (.slice (some ⟨lg, 0, none⟩) ln lc) l) := by show ReadsI _ _ _; rw [hw]; exact hcl.out
        have j0' : (0 : Int) ≤ (j : Int) := by omega
        clear hw hbel ce1
        by_cases hjl : j < ln
        · have hjl' : j < l.length := by have := HLN.out; omega
          have cj : w2.cell? ⟨lg, j, none⟩ = some (.int .i64 l[j]) := by
            obtain ⟨y, cy, hy, hcy⟩ := hcl2.out.some (by omega)
            cases hy
            have := hcy j hjl'
            rw [add_lit0] at this
            exact this
          obtain ⟨lj, hlj⟩ : ∃ lj, lj = l[j] := ⟨_, rfl⟩
          rw [← hlj] at cj
          have HLJ := hide hlj
          have j1 : (j : Int) < (ln : Int) := by omega
          clear hlj
          by_cases hgo : lj < ee
          · have hd : decide (lj < ee) = true := by simpa using hgo
            have hnx : Hid (∀ t (h : t < l.length), t < j + 1 → l[t] < ee) := fun t h ht => by
              by_cases htj : t = j
              · subst htj; rw [← HLJ.out]; exact hgo
              · exact HBel.out t h (by omega)
            clear hgo
            go_wp2
            go_quiet (fail)
            go_wp2
            go_roundw
            case rel => obtain ⟨q2, hq2⟩ := drewN_more HW.out nq; exact ⟨j + 1, q2, by omega, by go_num, hq2, hnx.out⟩
            case measure => simp [intOf]; omega
          · have hd : decide (lj < ee) = false := by simpa using hgo
            have hat : Hid (atL l ee = j) := atL_is (by omega) (fun t h => HBel.out t (by omega) h) (fun h => by rw [← HLJ.out]; exact hgo)
            clear hgo
            by_cases hp : 0 ≤ ee ∧ ee ≤ 1114111
            · have HA := hide (fun w => isR_yes ee w hp.1 hp.2)
              by_cases hne : lj = ee
              · have hd2 : (lj == ee) = true := by simpa using hne
                have hsame : Hid (endIns l ee = l) := endIns_has hat.out hjl' (by rw [← HLJ.out]; exact hne)
                clear hne hp
                go_wp2
                go_quiet (fail)
                obtain ⟨w3, hw3⟩ : ∃ w3, w3 = w2.drewN nq := ⟨_, rfl⟩
                rw [← hw3]
                have ce3 : w3.cell? (x.add k) = some (.int .i64 ee) := by rw [hw3]; exact ce2
                have cj3 : w3.cell? ⟨lg, j, none⟩ = some (.int .i64 lj) := by rw [hw3]; exact cj
                have ho3 : Hid (w3.ownsRow w.heap.size 3 1 (.slice (some ⟨lg, 0, none⟩) ln lc) ln (i64s l)) := by show World.ownsRow _ _ _ _ _ _ _; rw [hw3]; exact ho2.out
                have hb3 : Hid (Below w.heap.size w w3) := by show Below _ _ _; rw [hw3]; exact below_drewN hb2.out nq
                clear ce2 cj ho2 hb2 hw3
                have j2 : ((j : Int) == (ln : Int)) = false := by simp; omega
                go_wp2
                go_quiet (first | (go_at_call 40; refine Calls.quiet_of_same (HA.out _)))
                go_wp2
                go_roundw
                case rel => exact ⟨k + 1, l, by omega, by go_num, by rw [hnext.out]; exact hsame.out.symm, by rw [← HLN.out]; exact own_drewN ho3.out _, below_drewN hb3.out _⟩
                case measure => simp [intOf]; omega
              · have hd2 : (lj == ee) = false := by simpa using hne
                have hnew : Hid (endIns l ee = l.take j ++ ee :: l.drop j) := endIns_new hat.out hp (fun h => by rw [← HLJ.out]; exact hne)
                clear hne hp
                have j2 : ((j : Int) == (ln : Int)) = false := by simp; omega
                have hlc : (ln : Int) ≤ (lc : Int) := by
                  rcases ho2.out.2 with ⟨h0, _⟩ | ⟨g', cap', cur, hv, _, _, hn', _⟩
                  · cases h0
                  · cases hv; omega
                have j3 : (j : Int) ≤ (lc : Int) := by omega
                have hcj : ¬ lc = j := by omega
                have j4 : (j : Int) ≤ (ln : Int) := by omega
                go_wp2
                go_quiet (fail)
                obtain ⟨w3, hw3⟩ : ∃ w3, w3 = w2.drewN nq := ⟨_, rfl⟩
                rw [← hw3]
                have ce3 : w3.cell? (x.add k) = some (.int .i64 ee) := by rw [hw3]; exact ce2
                have cj3 : w3.cell? ⟨lg, j, none⟩ = some (.int .i64 lj) := by rw [hw3]; exact cj
                have ho3 : Hid (w3.ownsRow w.heap.size 3 1 (.slice (some ⟨lg, 0, none⟩) ln lc) ln (i64s l)) := by show World.ownsRow _ _ _ _ _ _ _; rw [hw3]; exact ho2.out
                have hb3 : Hid (Below w.heap.size w w3) := by show Below _ _ _; rw [hw3]; exact below_drewN hb2.out nq
                clear ce2 cj ho2 hb2 hw3
                go_wp2
                go_quiet (first | (go_at_call 40; refine Calls.quiet_of_same (HA.out _)))
                go_wp2
                have hB3 : Hid (w.heap.size ≤ w3.heap.size) := hb3.out.size
                have hg3 : Hid (lg < w3.heap.size) := (ho3.out.lt lg rfl).2
                have hnl : Hid (ln = l.length) := HLN.out
                have hld : Hid ((i64s (l.drop j)).length = (ln - j) * 1) := by show _ = _; rw [i64s_len, List.length_drop, hnl.out]; omega
                have hlt' : Hid ((i64s (l.take j)).length = j * 1) := by show _ = _; rw [i64s_len, List.length_take]; omega
                have hl2 : Hid ((i64s (ee :: l.drop j)).length = (1 + (ln - j)) * 1) := by show _ = _; rw [i64s_len, List.length_cons, List.length_drop, hnl.out]; omega
                go_region_law (first | (refine step_grows (by rfl) _ _ _ (by rfl) 3 i0 _ 1 8 Tryd.underlying37 hi hz0 hz1 hz2 rfl (by decide) ⟨lg, 0, none⟩ j j (i64s (l.take j)) (by rfl) hlt'.out (ins_olds ho3.out hnl.out _ _ j hg4 hg3.out) ⟨g1, 0, none⟩ (1 + (ln - j)) c1 (i64s (ee :: l.drop j)) (by rfl) hl2.out (own_news ho4 (by have := hl2.out; rw [i64s_len] at this; omega)) (by omega) (by unfold maxLen; omega) (by omega) ?_; intro v2 w5 ho5 hg5) | (refine step_own (by rfl) _ _ _ (by rfl) w.heap.size 3 i0 _ 1 8 Tryd.underlying37 hi hz0 hz1 hz2 rfl (by decide) (.slice (some ⟨w3.heap.size, 0, none⟩) 1 1) 1 (i64s [ee]) (by rfl) (own_one w3 hB3.out _ ee) ⟨lg, j, none⟩ (ln - j) (lc - j) (i64s (l.drop j)) (by rfl) hld.out (ins_news ho3.out hnl.out _ _ j) (i64s_one _) (by unfold maxLen; omega) (by omega) (by have := hB3.out; rw [World.size_alloc]; show _ ≤ w3.heap.size + 1; omega) ?_; intro v1 w4 ho4 hg4; rw [← i64s_append] at ho4; obtain ⟨g1, c1, rfl⟩ := own_some ho4 (by omega)))
                go_wp2
                go_roundw
                case rel => exact ⟨k + 1, endIns l ee, by omega, by go_num, hnext.out.symm, ins_own (Nat.le_trans hB3.out (Nat.le_trans (by rw [World.size_alloc]; exact Nat.le_succ _) hg4.size)) hnl.out (by omega) hnew.out ho5, ins_below hb3.out hB3.out hg4 hg5⟩
                case measure => simp [intOf]; omega
            · have HA := hide (fun w => isR_no ee w hp)
              have hsame : Hid (endIns l ee = l) := endIns_out hp
              clear hp
              go_wp2
              go_quiet (fail)
              obtain ⟨w3, hw3⟩ : ∃ w3, w3 = w2.drewN nq := ⟨_, rfl⟩
              rw [← hw3]
              have ce3 : w3.cell? (x.add k) = some (.int .i64 ee) := by rw [hw3]; exact ce2
              have cj3 : w3.cell? ⟨lg, j, none⟩ = some (.int .i64 lj) := by rw [hw3]; exact cj
              have ho3 : Hid (w3.ownsRow w.heap.size 3 1 (.slice (some ⟨lg, 0, none⟩) ln lc) ln (i64s l)) := by show World.ownsRow _ _ _ _ _ _ _; rw [hw3]; exact ho2.out
              have hb3 : Hid (Below w.heap.size w w3) := by show Below _ _ _; rw [hw3]; exact below_drewN hb2.out nq
              clear ce2 cj ho2 hb2 hw3
              have j2 : ((j : Int) == (ln : Int)) = false := by simp; omega
              go_wp2
              go_quiet (first | (go_at_call 40; refine Calls.quiet_of_same (HA.out _)))
              go_wp2
              go_roundw
              case rel => exact ⟨k + 1, l, by omega, by go_num, by rw [hnext.out]; exact hsame.out.symm, by rw [← HLN.out]; exact own_drewN ho3.out _, below_drewN hb3.out _⟩
              case measure => simp [intOf]; omega
        · have hjn : ln = j := by omega
          subst hjn
          obtain ⟨j, hjj⟩ : ∃ j, j = ln := ⟨_, rfl⟩
          subst hjj
          have hat : Hid (atL l ee = j) := atL_is (by have := HLN.out; omega) (fun t h => HBel.out t (by have := HLN.out; omega) h) (fun h => by have := HLN.out; omega)
          clear hjl
          by_cases hp : 0 ≤ ee ∧ ee ≤ 1114111
          · have HA := hide (fun w => isR_yes ee w hp.1 hp.2)
            have hnew : Hid (endIns l ee = l.take j ++ ee :: l.drop j) := endIns_new hat.out hp (fun h => by have := HLN.out; omega)
            clear hp
            have hlc : (j : Int) ≤ (lc : Int) := by
              rcases ho2.out.2 with ⟨h0, _⟩ | ⟨g', cap', cur, hv, _, _, hn', _⟩
              · cases h0
              · cases hv; omega
            by_cases hcj : lc = j
            · subst hcj
              obtain ⟨j, hjj⟩ : ∃ j, j = lc := ⟨_, rfl⟩
              subst hjj
              have hB2 : Hid (w.heap.size ≤ w2.heap.size) := hb2.out.size
              go_wp2
              go_quiet (fail)
              obtain ⟨w3, hw3⟩ : ∃ w3, w3 = w2.drewN nq := ⟨_, rfl⟩
              rw [← hw3]
              have ce3 : w3.cell? (x.add k) = some (.int .i64 ee) := by rw [hw3]; exact ce2
              have ho3 : Hid (w3.ownsRow w.heap.size 3 1 (.slice (some ⟨lg, 0, none⟩) j j) j (i64s l)) := by show World.ownsRow _ _ _ _ _ _ _; rw [hw3]; exact ho2.out
              have hb3 : Hid (Below w.heap.size w w3) := by show Below _ _ _; rw [hw3]; exact below_drewN hb2.out nq
              have hB3 : Hid (w.heap.size ≤ w3.heap.size) := hb3.out.size
              have hg3 : Hid (lg < w3.heap.size) := (ho3.out.lt lg rfl).2
              have hlt' : Hid ((i64s (l.take j)).length = j * 1) := by show _ = _; rw [i64s_len, List.length_take, ← HLN.out]; omega
              clear ce2 ho2 hb2 hw3
              go_wp2
              go_quiet (first | (go_at_call 40; refine Calls.quiet_of_same (HA.out _)))
              go_wp2
              go_region_law (first | (refine step_grows (by rfl) _ _ _ (by rfl) 3 i0 _ 1 8 Tryd.underlying37 hi hz0 hz1 hz2 rfl (by decide) ⟨lg, 0, none⟩ j j (i64s (l.take j)) (by rfl) hlt'.out (ins_olds ho3.out HLN.out _ _ j hg4 hg3.out) ⟨g1, 0, none⟩ 1 c1 (i64s [ee]) (by rfl) rfl (own_news ho4' rfl) (by omega) (by unfold maxLen; omega) (by omega) ?_; intro v2 w5 ho5 hg5) | (refine step_own (by rfl) _ _ _ (by rfl) w.heap.size 3 i0 _ 1 8 Tryd.underlying37 hi hz0 hz1 hz2 rfl (by decide) (.slice (some ⟨w3.heap.size, 0, none⟩) 1 1) 1 (i64s [ee]) (by rfl) (own_one w3 hB3.out _ ee) ⟨lg, 0, none⟩ 0 0 (i64s []) (by rfl) rfl (fun t u hu => by simp [i64s] at hu) (i64s_one _) (by unfold maxLen; omega) (by omega) (by have := hB3.out; rw [World.size_alloc]; show _ ≤ w3.heap.size + 1; omega) ?_; intro v1 w4 ho4 hg4; have ho4' : w4.ownsRow w.heap.size 3 1 v1 1 (i64s [ee]) := ho4; obtain ⟨g1, c1, rfl⟩ := own_some ho4' (by omega)))
              go_wp2
              go_roundw
              case rel => exact ⟨k + 1, endIns l ee, by omega, by go_num, hnext.out.symm, ins_own2 (Nat.le_trans hB3.out (Nat.le_trans (by rw [World.size_alloc]; exact Nat.le_succ _) hg4.size)) HLN.out hnew.out ho5, ins_below hb3.out hB3.out hg4 hg5⟩
              case measure => simp [intOf]; omega
            · have hB2 : Hid (w.heap.size ≤ w2.heap.size) := hb2.out.size
              go_wp2
              go_quiet (fail)
              obtain ⟨w3, hw3⟩ : ∃ w3, w3 = w2.drewN nq := ⟨_, rfl⟩
              rw [← hw3]
              have ce3 : w3.cell? (x.add k) = some (.int .i64 ee) := by rw [hw3]; exact ce2
              have ho3 : Hid (w3.ownsRow w.heap.size 3 1 (.slice (some ⟨lg, 0, none⟩) j lc) j (i64s l)) := by show World.ownsRow _ _ _ _ _ _ _; rw [hw3]; exact ho2.out
              have hb3 : Hid (Below w.heap.size w w3) := by show Below _ _ _; rw [hw3]; exact below_drewN hb2.out nq
              have hB3 : Hid (w.heap.size ≤ w3.heap.size) := hb3.out.size
              have hg3 : Hid (lg < w3.heap.size) := (ho3.out.lt lg rfl).2
              have hlt' : Hid ((i64s (l.take j)).length = j * 1) := by show _ = _; rw [i64s_len, List.length_take, ← HLN.out]; omega
              clear ce2 ho2 hb2 hw3
              go_wp2
              go_quiet (first | (go_at_call 40; refine Calls.quiet_of_same (HA.out _)))
              go_wp2
              go_region_law (first | (refine step_grows (by rfl) _ _ _ (by rfl) 3 i0 _ 1 8 Tryd.underlying37 hi hz0 hz1 hz2 rfl (by decide) ⟨lg, 0, none⟩ j j (i64s (l.take j)) (by rfl) hlt'.out (ins_olds ho3.out HLN.out _ _ j hg4 hg3.out) ⟨g1, 0, none⟩ 1 c1 (i64s [ee]) (by rfl) rfl (own_news ho4' rfl) (by omega) (by unfold maxLen; omega) (by omega) ?_; intro v2 w5 ho5 hg5) | (refine step_own (by rfl) _ _ _ (by rfl) w.heap.size 3 i0 _ 1 8 Tryd.underlying37 hi hz0 hz1 hz2 rfl (by decide) (.slice (some ⟨w3.heap.size, 0, none⟩) 1 1) 1 (i64s [ee]) (by rfl) (own_one w3 hB3.out _ ee) ⟨lg, j, none⟩ 0 (lc - j) (i64s []) (by rfl) rfl (fun t u hu => by simp [i64s] at hu) (i64s_one _) (by unfold maxLen; omega) (by omega) (by have := hB3.out; rw [World.size_alloc]; show _ ≤ w3.heap.size + 1; omega) ?_; intro v1 w4 ho4 hg4; have ho4' : w4.ownsRow w.heap.size 3 1 v1 1 (i64s [ee]) := ho4; obtain ⟨g1, c1, rfl⟩ := own_some ho4' (by omega)))
              go_wp2
              go_roundw
              case rel => exact ⟨k + 1, endIns l ee, by omega, by go_num, hnext.out.symm, ins_own2 (Nat.le_trans hB3.out (Nat.le_trans (by rw [World.size_alloc]; exact Nat.le_succ _) hg4.size)) HLN.out hnew.out ho5, ins_below hb3.out hB3.out hg4 hg5⟩
              case measure => simp [intOf]; omega
          · have HA := hide (fun w => isR_no ee w hp)
            have hsame : Hid (endIns l ee = l) := endIns_out hp
            clear hp
            go_wp2
            go_quiet (fail)
            obtain ⟨w3, hw3⟩ : ∃ w3, w3 = w2.drewN nq := ⟨_, rfl⟩
            rw [← hw3]
            have ce3 : w3.cell? (x.add k) = some (.int .i64 ee) := by rw [hw3]; exact ce2
            have ho3 : Hid (w3.ownsRow w.heap.size 3 1 (.slice (some ⟨lg, 0, none⟩) j lc) j (i64s l)) := by show World.ownsRow _ _ _ _ _ _ _; rw [hw3]; exact ho2.out
            have hb3 : Hid (Below w.heap.size w w3) := by show Below _ _ _; rw [hw3]; exact below_drewN hb2.out nq
            clear ce2 ho2 hb2 hw3
            go_wp2
            go_quiet (first | (go_at_call 40; refine Calls.quiet_of_same (HA.out _)))
            go_wp2
            go_roundw
            case rel => exact ⟨k + 1, l, by omega, by go_num, by rw [hnext.out]; exact hsame.out.symm, by rw [← HLN.out]; exact own_drewN ho3.out _, below_drewN hb3.out _⟩
            case measure => simp [intOf]; omega
    · have hkn : k = n := by omega
      subst hkn
      have hfull : E.take k = E := List.take_of_length_le (by have := HN.out; omega)
      rw [hfull] at HL
      have HSt : Hid (Stays f l) := by show Stays _ _; rw [HL.out]; exact HS.out
      have hlen4 : l.length ≤ 200001 := by omega
      obtain ⟨ln, hln⟩ : ∃ ln, ln = l.length := ⟨_, rfl⟩
      have HLN := hide hln
      rw [← hln] at hlen4 hpos HO hcl ⊢
      obtain ⟨w1, hw1⟩ : ∃ w1, w1 = wr := ⟨_, rfl⟩
      subst hw1
      have hend0 : Hid (endAt l 0 = 0) := endAt_zero HEnds.out
      clear hln hlen hfull hb hlt hk
      go_wp2
      go_loopw [8, 9] (fun v i wr => ∃ (k : Nat) (O : RL), k ≤ ln ∧ i = .int .i64 k ∧ wr.ownsRow w1.heap.size 35 2 v O.length (cells2 O) ∧ Upto f O (endAt l k) ∧ O.length ≤ k ∧ Below w1.heap.size w1 wr) (fun _ i _ => ln - (intOf i).toNat)
      case atStart => exact ⟨0, [], Nat.zero_le _, rfl, World.ownsRow_nil _ _ _ _, by rw [hend0.out]; exact upto_zero f, Nat.zero_le _, Below.refl _ _⟩
      case round =>
        obtain ⟨k, O, hk, rfl, ho, hu, hOk, hb1⟩ := hrel
        obtain ⟨w2, hw2⟩ : ∃ w2, w2 = wr := ⟨_, rfl⟩
        subst hw2
        have HO2 := hide ho
        have HU := hide hu
        have HB1 := hide hb1
        obtain ⟨ao, oc, hv⟩ := own_shape ho
        by_cases hlt : k < ln
        · have hkL : k < l.length := by have := HLN.out; omega
          have hcells : ∀ t (h : t < l.length), w2.cell? ⟨lg, t, none⟩ = some (.int .i64 l[t]) := fun t h => by
            obtain ⟨y, cy, hy, hcy⟩ := (hcl.out.below hb1).some (by omega)
            cases hy
            have := hcy t h
            rw [add_lit0] at this
            exact this
          have ck := hcells k hkL
          have hp := HEnds.out.2.2 l[k] (List.getElem_mem _)
          have hnx := nextE_gt HEnds.out hkL
          have hstep := hide (upto_step HEnds.out HSt.out hkL hu)
          rw [endAt_in hkL] at HU
          obtain ⟨p, hpp⟩ : ∃ p, p = l[k] := ⟨_, rfl⟩
          rw [← hpp] at ck hp hnx hstep HU
          obtain ⟨p0, p1⟩ := hp
          obtain ⟨nx0, nx1⟩ := hnx
          have HTp := hide (HT.out p w2 (HB.out.trans (hb1.mono HB.out.size)))
          have k1 : (k : Int) < (ln : Int) := by omega
          have k0 : (0 : Int) ≤ (k : Int) := by omega
          have wp : IntKind.i64.wrap (p - 1) = p - 1 := by rw [IntKind.wrap_i64]; omega
          have hsz : Hid (w1.heap.size ≤ w2.heap.size) := hb1.size
          have hOlen : O.length ≤ 1114112 := (upto_rng HU.out p0 (by omega)).2
          obtain ⟨yes, hyes⟩ : ∃ y, y = f p := ⟨_, rfl⟩
          rw [← hyes] at HTp hstep
          have HYes := hide hyes
          clear hpp hu hb1 hyes ho
          cases yes with
          | false =>
            rw [if_neg (by simp)] at hstep
            rw [hv] at HO2 ⊢
            clear hv hcells
            go_wp2_with (go_at_fn g; refine HTp.out.mono ?_; rintro e w' ⟨rfl, q, rfl⟩)
            go_roundw
            case rel => exact ⟨k + 1, O, by omega, by go_num, own_drewN HO2.out _, hstep.out, by omega, below_drewN HB1.out _⟩
            case measure => simp [intOf]; omega
          | true =>
            rw [if_pos rfl] at hstep
            obtain ⟨to, hto⟩ : ∃ to, to = nextE l k - 1 := ⟨_, rfl⟩
            rw [← hto] at hstep
            have to0 : p ≤ to := by omega
            have to1 : to ≤ 1114111 := by omega
            have HKeep : Hid (∀ q : Nat, (w2.drewN q).ownsRow w1.heap.size 35 2 _ O.length (cells2 O)) := fun q => own_drewN HO2.out q
            by_cases hk1 : k + 1 < ln
            · have hkL1 : k + 1 < l.length := by have := HLN.out; omega
              have ck1 := hcells (k + 1) hkL1
              rw [nextE_in hkL1] at hto
              have e2 : l[k + 1] = to + 1 := by omega
              rw [e2] at ck1
              have k2 : (k : Int) + 1 < (ln : Int) := by omega
              have wt : IntKind.i64.wrap (to + 1 - 1) = to := by rw [IntKind.wrap_i64]; omega
              clear hto hcells e2
              rcases List.eq_nil_or_concat O with rfl | ⟨O', y, rfl⟩
              · rw [hv] at HO2 ⊢
                clear hv HKeep
                go_wp2_with (go_at_fn g; refine HTp.out.mono ?_; rintro e w' ⟨rfl, q, rfl⟩)
                go_quiet (fail)
                go_wp2_with (at_builtin; refine wpList_append_own _ rfl _ _ 22 rfl w1.heap.size 35 j0 (.agg #[.int .i64 0, .int .i64 0]) 2 16 Tryd.underlying22 gi gz0 gz1 gz2 rfl (by decide) _ 0 (cells2 []) rfl ((own_drewN HO2.out (q + nq)).alloc _) ⟨w2.heap.size, 0, none⟩ 1 1 [.int .i64 p, .int .i64 to] rfl rfl (cells_twoR _ _ rfl p to) (two_one p to) (by unfold maxLen; omega) (by omega) (by have := hsz.out; rw [World.size_alloc]; show _ ≤ w2.heap.size + 1; omega) ?_)
                intro v' w4 hown' hgrow _
                have HO4 := hide hown'
                have hb4 := hide (app_below HO2.out HB1.out hsz.out hgrow)
                clear hown' hgrow
                go_wp2
                go_roundw
                case rel => exact ⟨k + 1, [(p, to)], by omega, by go_num, HO4.out, hstep.out, by simp, hb4.out⟩
                case measure => simp [intOf]; omega
              · obtain ⟨ya, yb⟩ := y
                rw [List.concat_eq_append] at HO2 HU hstep hOlen hv hOk
                obtain ⟨m, hm⟩ : ∃ m, m = O'.length := ⟨_, rfl⟩
                have hlen : (O' ++ [(ya, yb)]).length = m + 1 := by simp [hm]
                have HM := hide hm
                rw [hlen] at HO2 hOlen hv hOk
                obtain ⟨g', c, hv'⟩ := own_some HO2.out (by omega)
                rw [hv'] at HO2 ⊢
                obtain ⟨e1, e2⟩ := own_last HO2.out hm
                have ef := HO2.out.frozenAt (m * 2 + 1)
                have hgw : g' < w2.heap.size := (HO2.out.lt g' rfl).2
                have hjs := hide (joinStep_eq HU.out to0)
                have m0 : (0 : Int) ≤ (m : Int) := by omega
                have m1 : (m : Int) < (m : Int) + 1 := by omega
                clear hv hv' hm hlen HKeep
                by_cases hyp : yb = p - 1
                · have hd : (yb == p - 1) = true := by simpa using hyp
                  rw [if_pos hyp] at hjs
                  subst hyp
                  go_wp2_with (go_at_fn g; refine HTp.out.mono ?_; rintro e w' ⟨rfl, q, rfl⟩)
                  go_quiet (fail)
                  go_wp2
                  go_roundw
                  case rel => exact ⟨k + 1, O' ++ [(ya, to)], by omega, by go_num, by rw [show (O' ++ [(ya, to)]).length = m + 1 from by simp [HM.out]]; exact own_turn0 HO2.out HM.out _ _, by rw [← hjs.out]; exact hstep.out, by simp; have := HM.out; omega, (below_drewN HB1.out _).setCell (HO2.out.lt g' rfl).1 _⟩
                  case measure => simp [intOf]; omega
                · have hd : (yb == p - 1) = false := by simpa using hyp
                  rw [if_neg hyp] at hjs
                  clear hyp
                  go_wp2_with (go_at_fn g; refine HTp.out.mono ?_; rintro e w' ⟨rfl, q, rfl⟩)
                  go_quiet (fail)
                  go_wp2_with (at_builtin; refine wpList_append_own _ rfl _ _ 22 rfl w1.heap.size 35 j0 (.agg #[.int .i64 0, .int .i64 0]) 2 16 Tryd.underlying22 gi gz0 gz1 gz2 rfl (by decide) _ (m + 1) (cells2 (O' ++ [(ya, yb)])) rfl ((own_drewN HO2.out (q + nq)).alloc _) ⟨w2.heap.size, 0, none⟩ 1 1 [.int .i64 p, .int .i64 to] rfl rfl (cells_twoR _ _ rfl p to) (two_one p to) (by unfold maxLen; omega) (by omega) (by have := hsz.out; rw [World.size_alloc]; show _ ≤ w2.heap.size + 1; omega) ?_)
                  intro v' w4 hown' hgrow _
                  have HO4 := hide hown'
                  have hb4 := hide (app_below HO2.out HB1.out hsz.out hgrow)
                  clear hown' hgrow
                  go_wp2
                  go_roundw
                  case rel => exact ⟨k + 1, O' ++ [(ya, yb)] ++ [(p, to)], by omega, by go_num, by rw [show (O' ++ [(ya, yb)] ++ [(p, to)]).length = m + 1 + 1 from by simp [HM.out], cells2_append]; exact HO4.out, by rw [← hjs.out]; exact hstep.out, by simp; have := HM.out; omega, hb4.out⟩
                  case measure => simp [intOf]; omega
            · rw [nextE_out (by have := HLN.out; omega)] at hto
              have k2 : ¬ (k : Int) + 1 < (ln : Int) := by omega
              obtain rfl : to = 1114111 := by omega
              clear hto hcells
              rcases List.eq_nil_or_concat O with rfl | ⟨O', y, rfl⟩
              · rw [hv] at HO2 ⊢
                clear hv HKeep
                go_wp2_with (go_at_fn g; refine HTp.out.mono ?_; rintro e w' ⟨rfl, q, rfl⟩)
                go_quiet (fail)
                go_wp2_with (at_builtin; refine wpList_append_own _ rfl _ _ 22 rfl w1.heap.size 35 j0 (.agg #[.int .i64 0, .int .i64 0]) 2 16 Tryd.underlying22 gi gz0 gz1 gz2 rfl (by decide) _ 0 (cells2 []) rfl ((own_drewN HO2.out (q + nq)).alloc _) ⟨w2.heap.size, 0, none⟩ 1 1 [.int .i64 p, .int .i64 1114111] rfl rfl (cells_twoR _ _ rfl p 1114111) (two_one p 1114111) (by unfold maxLen; omega) (by omega) (by have := hsz.out; rw [World.size_alloc]; show _ ≤ w2.heap.size + 1; omega) ?_)
                intro v' w4 hown' hgrow _
                have HO4 := hide hown'
                have hb4 := hide (app_below HO2.out HB1.out hsz.out hgrow)
                clear hown' hgrow
                go_wp2
                go_roundw
                case rel => exact ⟨k + 1, [(p, 1114111)], by omega, by go_num, HO4.out, hstep.out, by simp, hb4.out⟩
                case measure => simp [intOf]; omega
              · obtain ⟨ya, yb⟩ := y
                rw [List.concat_eq_append] at HO2 HU hstep hOlen hv hOk
                obtain ⟨m, hm⟩ : ∃ m, m = O'.length := ⟨_, rfl⟩
                have hlen : (O' ++ [(ya, yb)]).length = m + 1 := by simp [hm]
                have HM := hide hm
                rw [hlen] at HO2 hOlen hv hOk
                obtain ⟨g', c, hv'⟩ := own_some HO2.out (by omega)
                rw [hv'] at HO2 ⊢
                obtain ⟨e1, e2⟩ := own_last HO2.out hm
                have ef := HO2.out.frozenAt (m * 2 + 1)
                have hgw : g' < w2.heap.size := (HO2.out.lt g' rfl).2
                have hjs := hide (joinStep_eq HU.out to0)
                have m0 : (0 : Int) ≤ (m : Int) := by omega
                have m1 : (m : Int) < (m : Int) + 1 := by omega
                clear hv hv' hm hlen HKeep
                by_cases hyp : yb = p - 1
                · have hd : (yb == p - 1) = true := by simpa using hyp
                  rw [if_pos hyp] at hjs
                  subst hyp
                  go_wp2_with (go_at_fn g; refine HTp.out.mono ?_; rintro e w' ⟨rfl, q, rfl⟩)
                  go_quiet (fail)
                  go_wp2
                  go_roundw
                  case rel => exact ⟨k + 1, O' ++ [(ya, 1114111)], by omega, by go_num, by rw [show List.length (O' ++ [(ya, (1114111 : Int))]) = m + 1 from by simp [HM.out]]; exact own_turn0 HO2.out HM.out _ _, by rw [← hjs.out]; exact hstep.out, by simp; have := HM.out; omega, (below_drewN HB1.out _).setCell (HO2.out.lt g' rfl).1 _⟩
                  case measure => simp [intOf]; omega
                · have hd : (yb == p - 1) = false := by simpa using hyp
                  rw [if_neg hyp] at hjs
                  clear hyp
                  go_wp2_with (go_at_fn g; refine HTp.out.mono ?_; rintro e w' ⟨rfl, q, rfl⟩)
                  go_quiet (fail)
                  go_wp2_with (at_builtin; refine wpList_append_own _ rfl _ _ 22 rfl w1.heap.size 35 j0 (.agg #[.int .i64 0, .int .i64 0]) 2 16 Tryd.underlying22 gi gz0 gz1 gz2 rfl (by decide) _ (m + 1) (cells2 (O' ++ [(ya, yb)])) rfl ((own_drewN HO2.out (q + nq)).alloc _) ⟨w2.heap.size, 0, none⟩ 1 1 [.int .i64 p, .int .i64 1114111] rfl rfl (cells_twoR _ _ rfl p 1114111) (two_one p 1114111) (by unfold maxLen; omega) (by omega) (by have := hsz.out; rw [World.size_alloc]; show _ ≤ w2.heap.size + 1; omega) ?_)
                  intro v' w4 hown' hgrow _
                  have HO4 := hide hown'
                  have hb4 := hide (app_below HO2.out HB1.out hsz.out hgrow)
                  clear hown' hgrow
                  go_wp2
                  go_roundw
                  case rel => exact ⟨k + 1, O' ++ [(ya, yb)] ++ [(p, 1114111)], by omega, by go_num, by rw [show List.length (O' ++ [(ya, yb)] ++ [(p, (1114111 : Int))]) = m + 1 + 1 from by simp [HM.out], cells2_append]; exact HO4.out, by rw [← hjs.out]; exact hstep.out, by simp; have := HM.out; omega, hb4.out⟩
                  case measure => simp [intOf]; omega
        · have hkn : k = ln := by omega
          have hset : Hid (IsSet f O) := upto_all hu (by unfold endAt; rw [List.getElem?_eq_none (by have := HLN.out; omega)])
          rw [hv] at HO2 ⊢
          clear hv hu ho
          go_wp2
          go_ret
          exact ⟨_, O, rfl, own_base HO2.out HB.out.size, hset.out, by have h1 := ends_len E [0]; have h2 := HLN.out; rw [← HL.out] at h1; have h4 : ([0] : List Int).length = 1 := rfl; omega, HB.out.trans (HB1.out.mono HB.out.size)⟩

end Go.Proofs.YtojjfmnbpfpanaaDoor
