import Derived.Test.YtaccofiegkdlgaaGreatDoorKC
import Derived.Shelf.SlSortCmp.WholeK
import Derived.Test.YtaccofiegkdlgaaGreatDoorProg
import Derived.Shelf.SlSortCmp.NoneTotal
namespace Go.Proofs.YtaccofiegkdlgaaGreatDoor
set_option maxHeartbeats 4000000
open Go.RowKit
set_option linter.unusedVariables false
def encR (x : Int × Int) : List Value := [.int .i64 x.1, .int .i64 x.2]
def cells2 (L : List (Int × Int)) : List Value := L.flatMap encR
theorem cells2_len (ps : List (Int × Int)) : (cells2 ps).length = ps.length * 2 := by
 induction ps with
 | nil => rfl
 | cons x xs ih => simp [cells2, encR] at ih ⊢; omega
theorem cells2_get (ps : List (Int × Int)) (k : Nat) (h : k < ps.length) : (cells2 ps)[k * 2]? = some (.int .i64 ps[k].1) ∧ (cells2 ps)[k * 2 + 1]? = some (.int .i64 ps[k].2) := by
 induction ps generalizing k with
 | nil => simp at h
 | cons x xs ih =>
  have e : cells2 (x :: xs) = .int .i64 x.1 :: .int .i64 x.2 :: cells2 xs := rfl
  match k with
  | 0 => rw [e]; simp
  | k + 1 =>
   have := ih k (by simpa using h)
   rw [e, show (k + 1) * 2 = k * 2 + 1 + 1 from by omega]
   simpa using this
theorem cells2_append (a b : List (Int × Int)) : cells2 (a ++ b) = cells2 a ++ cells2 b := by simp [cells2]
theorem own_shape {B e : Nat} {w : World} {v : Value} {n k : Nat} {xs : List Value} (h : w.ownsRow B e k v n xs) : ∃ ao cap, v = .slice ao n cap := by
 rcases h.2 with ⟨rfl, rfl⟩ | ⟨g, cap, cur, rfl, _⟩
 ·exact ⟨_, _, rfl⟩
 ·exact ⟨_, _, rfl⟩
theorem own_some {B e : Nat} {w : World} {v : Value} {n k : Nat} {xs : List Value} (h : w.ownsRow B e k v n xs) (hn : 1 ≤ n) : ∃ g cap, v = .slice (some ⟨g, 0, none⟩) n cap := by
 rcases h.2 with ⟨rfl, rfl⟩ | ⟨g, cap, cur, rfl, _⟩
 ·omega
 ·exact ⟨_, _, rfl⟩
theorem own_below {B e : Nat} {w w' : World} {v : Value} {n k : Nat} {xs : List Value} (h : w.ownsRow B e k v n xs) (hb : Below w.heap.size w w') : w'.ownsRow B e k v n xs := by
 refine ⟨h.1, ?_⟩
 rcases h.2 with h2 | ⟨g, cap, cur, rfl, h3, hg, h4⟩
 ·exact Or.inl h2
 ·exact Or.inr ⟨g, cap, cur, rfl, h3, by rw [hb.block g (Array.getElem?_eq_some_iff.1 hg).1]; exact hg, h4⟩
theorem own_base {B B' e : Nat} {w : World} {v : Value} {n k : Nat} {xs : List Value} (h : w.ownsRow B' e k v n xs) (hb : B ≤ B') : w.ownsRow B e k v n xs := by
 refine ⟨h.1, ?_⟩
 rcases h.2 with h2 | ⟨g, cap, cur, rfl, h3, h4⟩
 ·exact Or.inl h2
 ·exact Or.inr ⟨g, cap, cur, rfl, by omega, h4⟩
theorem infoR : (Tryz.prog.info? 66).map (fun i => (i.zero, i.size, i.bytes)) = some (some (.agg #[.int .i64 0, .int .i64 0]), 2, 16) := by kernel_rfl
theorem info_parts {o : Option TypeInfo} {z : Option Value} {s b : Nat} (h : o.map (fun i => (i.zero, i.size, i.bytes)) = some (z, s, b)) : ∃ i, o = some i ∧ i.zero = z ∧ i.size = s ∧ i.bytes = b := by
 cases o with
 | none => simp at h
 | some i => simp at h; exact ⟨i, rfl, h.1, h.2.1, h.2.2⟩
theorem cells_twoR (X : World) (g : Nat) (hg : g = X.heap.size) (z u : Int) : ∀ j v, [Value.int .i64 z, .int .i64 u][j]? = some v → (X.alloc (.cells #[.int .i64 z, .int .i64 u] 66)).cell? ((⟨g, 0, none⟩ : Addr).add j) = some v := by
 subst hg
 intro j v hj
 match j, hj with
 | 0, hj => simp at hj; subst hj; exact World.cell?_alloc_at _ _ _ _ rfl
 | 1, hj => simp at hj; subst hj; exact World.cell?_alloc_at _ _ _ _ rfl
 | (j + 2), hj => simp at hj
theorem two_one (z u : Int) : ∀ v ∈ [Value.int .i64 z, .int .i64 u], v.oneCell' = true := by
 intro v hv; simp at hv; rcases hv with rfl | rfl <;> rfl
theorem own_drewN {B e k : Nat} {w : World} {v : Value} {n : Nat} {xs : List Value} (h : w.ownsRow B e k v n xs) (q : Nat) : (w.drewN q).ownsRow B e k v n xs := h
theorem own_last {B : Nat} {w : World} {g cap m : Nat} {O : List (Int × Int)} {a b : Int} (h : w.ownsRow B 66 2 (.slice (some ⟨g, 0, none⟩) (m + 1) cap) (m + 1) (cells2 (O ++ [(a, b)]))) (hm : m = O.length) : w.cell? ⟨g, m * 2, none⟩ = some (.int .i64 a) ∧ w.cell? ⟨g, m * 2 + 1, none⟩ = some (.int .i64 b) := by
 obtain ⟨h1, h2⟩ := cells2_get (O ++ [(a, b)]) m (by simp [hm])
 rw [h.cellAt (m * 2) (by omega), h.cellAt (m * 2 + 1) (by omega)]
 subst hm
 simpa using And.intro h1 h2
theorem cells2_turn (O : List (Int × Int)) (a b M : Int) : (cells2 (O ++ [(a, b)])).set (O.length * 2 + 1) (.int .i64 M) = cells2 (O ++ [(a, M)]) := by
 rw [cells2_append, cells2_append]
 have e : (cells2 O).length = O.length * 2 := cells2_len O
 rw [← e, List.set_append_right _ _ (by omega)]
 simp [cells2, encR]
theorem own_turn {B : Nat} {w : World} {g cap m : Nat} {O : List (Int × Int)} {a b : Int} (h : w.ownsRow B 66 2 (.slice (some ⟨g, 0, none⟩) (m + 1) cap) (m + 1) (cells2 (O ++ [(a, b)]))) (hm : m = O.length) (M : Int) (o : Obj) (q : Nat) : (((w.alloc o).drewN q).setCell ⟨g, m * 2 + 1, none⟩ (.int .i64 M)).ownsRow B 66 2 (.slice (some ⟨g, 0, none⟩) (m + 1) cap) (m + 1) (cells2 (O ++ [(a, M)])) := by
 have := ((own_drewN (h.alloc o) q).stored (m * 2 + 1) (.int .i64 M)).1
 subst hm
 rw [cells2_turn] at this
 exact this
theorem size_da (w : World) (o : Obj) (q : Nat) : w.heap.size + 1 = ((w.alloc o).drewN q).heap.size := by show _ = (w.alloc o).heap.size; simp
theorem size_dB {B : Nat} {w : World} (h : B ≤ w.heap.size) (o : Obj) (q : Nat) (o' : Obj) : B ≤ (((w.alloc o).drewN q).alloc o').heap.size := by rw [World.size_alloc]; rw [← size_da]; omega
theorem below_appd {B : Nat} {w w' : World} {v : Value} {n : Nat} {xs : List Value} (hown : w.ownsRow B 66 2 v n xs) (hB : B ≤ w.heap.size) {o o' : Obj} {q : Nat} (hg : (((w.alloc o).drewN q).alloc o').grownBy w' v.ownBlock) : Below B w w' :=
 ((below_drewN ((Below.refl B w).alloc hB o) q).alloc (by rw [← size_da]; omega) o').grown hg (size_dB hB o q o') (fun k hk => (hown.lt k hk).1)
theorem add_any (B : Nat) (v : Value) (O : RL) (p t : Int) (w : World) (hB : B ≤ w.heap.size) (hO : ∀ x ∈ O, 0 ≤ x.2 ∧ x.2 ≤ 1114111) (hl : O.length ≤ 1114112) (ho : w.ownsRow B 66 2 v O.length (cells2 O)) :
  Calls Tryz.prog 108 #[v, .agg #[.int .i64 p, .int .i64 t]] w fun e w' => ∃ v', e = .returned v' ∧ w'.ownsRow B 66 2 v' (joinStep O (p, t)).length (cells2 (joinStep O (p, t))) ∧ Below B w w' := by
 obtain ⟨i0, hi, hz0, hz1, hz2⟩ := info_parts infoR
 rcases List.eq_nil_or_concat O with rfl | ⟨O', y, rfl⟩
 ·have HOw := hide ho
  obtain ⟨ao, c, rfl⟩ := own_shape ho
  clear ho
  go_enter Tryz.func108, Tryz.ntmps108
  go_wp2
  go_quiet (fail)
  go_wp2_with (at_builtin; refine wpList_append_own _ rfl _ _ 25 rfl B 66 i0 (.agg #[.int .i64 0, .int .i64 0]) 2 16 Tryz.underlying25 hi hz0 hz1 hz2 rfl (by decide) _ _ _ rfl ((own_drewN (HOw.out.alloc _) nq).alloc _) ⟨w.heap.size + 1, 0, none⟩ 1 1 [.int .i64 p, .int .i64 t] rfl rfl (cells_twoR _ _ (size_da _ _ _) p t) (two_one p t) (by decide) (by decide) (size_dB hB _ _ _) ?_)
  intro v' w3 hown' hgrow _
  have HO3 := hide hown'
  have hb3 := below_appd HOw.out hB hgrow
  clear hown' hgrow
  go_wp2
  go_ret
  exact ⟨_, rfl, HO3.out, hb3⟩
 ·obtain ⟨ya, yb⟩ := y
  rw [List.concat_eq_append] at ho hl hO ⊢
  obtain ⟨y0, y1⟩ := hO (ya, yb) (by simp)
  simp only at y0 y1
  obtain ⟨m, hm⟩ : ∃ m, m = O'.length := ⟨_, rfl⟩
  have hlen : (O' ++ [(ya, yb)]).length = m + 1 := by simp [hm]
  have HM := hide hm
  rw [hlen] at ho hl
  obtain ⟨g', c, rfl⟩ := own_some ho (by omega)
  obtain ⟨e1, e2⟩ := own_last ho hm
  have HOw := hide ho
  have ef := ho.frozenAt (m * 2 + 1)
  clear ho hlen hm hO
  have hgw : g' < w.heap.size := (HOw.out.lt g' rfl).2
  have m0 : (0 : Int) ≤ (m : Int) := by omega
  have m1 : (m : Int) < (m : Int) + 1 := by omega
  have m2 : m < m + 1 := by omega
  have m3 : ((m : Int) < 0) = False := by simp
  have wy : IntKind.i64.wrap (yb + 1) = yb + 1 := by rw [IntKind.wrap_i64]; omega
  by_cases hin : p ≤ yb + 1
  ·have hJ := hide (joinStep_in O' ya yb (p, t) hin)
   have hd : decide (yb + 1 < p) = false := by simp; omega
   clear hin
   by_cases hmx : t ≤ yb
   ·have hE : Hid (max yb t = yb) := by show _ = _; omega
    go_enter Tryz.func108, Tryz.ntmps108
    go_wp2
    go_quiet (fail)
    go_wp2
    go_region
    all_goals go_wp2
    go_ret
    exact ⟨_, rfl, by rw [hJ.out, show (O' ++ [(ya, max yb (p, t).2)]).length = m + 1 from by simp [HM.out]]; simp only; rw [hE.out]; exact own_turn HOw.out HM.out _ _ _, (below_drewN ((Below.refl B w).alloc hB _) _).setCell (HOw.out.lt g' rfl).1 _⟩
   ·have hE : Hid (max yb t = t) := by show _ = _; omega
    go_enter Tryz.func108, Tryz.ntmps108
    go_wp2
    go_quiet (fail)
    go_wp2
    go_region
    all_goals go_wp2
    go_ret
    exact ⟨_, rfl, by rw [hJ.out, show (O' ++ [(ya, max yb (p, t).2)]).length = m + 1 from by simp [HM.out]]; simp only; rw [hE.out]; exact own_turn HOw.out HM.out _ _ _, (below_drewN ((Below.refl B w).alloc hB _) _).setCell (HOw.out.lt g' rfl).1 _⟩
  ·have hJ := hide (joinStep_out O' ya yb (p, t) hin)
   have hd : yb + 1 < p := by omega
   clear hin
   go_enter Tryz.func108, Tryz.ntmps108
   go_wp2
   go_quiet (fail)
   go_wp2_with (at_builtin; refine wpList_append_own _ rfl _ _ 25 rfl B 66 i0 (.agg #[.int .i64 0, .int .i64 0]) 2 16 Tryz.underlying25 hi hz0 hz1 hz2 rfl (by decide) _ _ _ rfl ((own_drewN (HOw.out.alloc _) nq).alloc _) ⟨w.heap.size + 1, 0, none⟩ 1 1 [.int .i64 p, .int .i64 t] rfl rfl (cells_twoR _ _ (size_da _ _ _) p t) (two_one p t) (by unfold maxLen; omega) (by omega) (size_dB hB _ _ _) ?_)
   intro v' w3 hown' hgrow _
   have HO3 := hide hown'
   have hb3 := below_appd HOw.out hB hgrow
   clear hown' hgrow
   go_wp2
   go_ret
   exact ⟨_, rfl, by rw [hJ.out, show (O' ++ [(ya, yb)] ++ [(p, t)]).length = m + 1 + 1 from by simp [HM.out], cells2_append]; exact HO3.out, hb3⟩
end Go.Proofs.YtaccofiegkdlgaaGreatDoor
namespace Go.Proofs
open Go.Shelf
def Tryz.sortR_ren : Go.Shelf.Ren := ⟨fun | 6 => 106 | 15 => 123 | 14 => 124 | 28 => 140 | 29 => 141 | 20 => 142 | 21 => 143 | 22 => 144 | 23 => 145 | 24 => 146 | 25 => 147 | 26 => 148 | 27 => 149 | 46 => 160 | 47 => 155 | 48 => 156 | 49 => 161 | 50 => 162 | 57 => 173 | n => n, fun | 22 => 25 | 24 => 66 | 25 => 125 | 3 => 3 | 39 => 142 | 0 => 0 | 53 => 156 | 55 => 158 | 4 => 4 | 46 => 149 | 45 => 148 | 50 => 46 | 5 => 5 | 9 => 9 | 66 => 164 | 70 => 168 | 76 => 173 | 77 => 100 | n => n, fun | n => n⟩
theorem Tryz.sortR : Go.Proofs.SlLaysF0.n6 Tryz.prog Tryz.sortR_ren := {
 mixed := by kernel_rfl
 f6 := ⟨Tryz.f106.name, by decide, Tryz.func106.trans (congrArg some (by kernel_rfl))⟩
 f14 := ⟨Tryz.f124.name, by decide, Tryz.func124.trans (congrArg some (by kernel_rfl))⟩
 f15 := Tryz.func123.trans (congrArg some (by kernel_rfl))
 f20 := ⟨Tryz.f142.name, by decide, Tryz.func142.trans (congrArg some (by kernel_rfl))⟩
 f21 := ⟨Tryz.f143.name, by decide, Tryz.func143.trans (congrArg some (by kernel_rfl))⟩
 f22 := ⟨Tryz.f144.name, by decide, Tryz.func144.trans (congrArg some (by kernel_rfl))⟩
 f23 := ⟨Tryz.f145.name, by decide, Tryz.func145.trans (congrArg some (by kernel_rfl))⟩
 f24 := ⟨Tryz.f146.name, by decide, Tryz.func146.trans (congrArg some (by kernel_rfl))⟩
 f25 := ⟨Tryz.f147.name, by decide, Tryz.func147.trans (congrArg some (by kernel_rfl))⟩
 f26 := ⟨Tryz.f148.name, by decide, Tryz.func148.trans (congrArg some (by kernel_rfl))⟩
 f27 := ⟨Tryz.f149.name, by decide, Tryz.func149.trans (congrArg some (by kernel_rfl))⟩
 f28 := Tryz.func140.trans (congrArg some (by kernel_rfl))
 f29 := Tryz.func141.trans (congrArg some (by kernel_rfl))
 f46 := ⟨Tryz.f160.name, by decide, Tryz.func160.trans (congrArg some (by kernel_rfl))⟩
 f47 := Tryz.func155.trans (congrArg some (by kernel_rfl))
 f48 := Tryz.func156.trans (congrArg some (by kernel_rfl))
 f49 := ⟨Tryz.f161.name, by decide, Tryz.func161.trans (congrArg some (by kernel_rfl))⟩
 f50 := ⟨Tryz.f162.name, by decide, Tryz.func162.trans (congrArg some (by kernel_rfl))⟩
 f57 := ⟨Tryz.f173.name, by decide, Tryz.func173.trans (congrArg some (by kernel_rfl))⟩
 t0 := Tryz.underlying0
 a0 := Tryz.isAgg0
 z0 := Tryz.sizeOf0
 v0 := Tryz.zeroValue0
 t3 := Tryz.underlying3
 a3 := Tryz.isAgg3
 z3 := Tryz.sizeOf3
 v3 := Tryz.zeroValue3
 t4 := Tryz.underlying4
 a4 := Tryz.isAgg4
 z4 := Tryz.sizeOf4
 v4 := Tryz.zeroValue4
 t5 := Tryz.underlying5
 a5 := Tryz.isAgg5
 z5 := Tryz.sizeOf5
 v5 := Tryz.zeroValue5
 t9 := Tryz.underlying9
 a9 := Tryz.isAgg9
 z9 := Tryz.sizeOf9
 v9 := Tryz.zeroValue9
 t22 := Tryz.underlying25
 a22 := Tryz.isAgg25
 z22 := Tryz.sizeOf25
 v22 := Tryz.zeroValue25
 t25 := Tryz.underlying125
 a25 := Tryz.isAgg125
 z25 := Tryz.sizeOf125
 v25 := Tryz.zeroValue125
 t39 := Tryz.underlying142
 a39 := Tryz.isAgg142
 z39 := Tryz.sizeOf142
 v39 := Tryz.zeroValue142
 t45 := Tryz.underlying148
 a45 := Tryz.isAgg148
 z45 := Tryz.sizeOf148
 v45 := Tryz.zeroValue148
 t46 := Tryz.underlying149
 a46 := Tryz.isAgg149
 z46 := Tryz.sizeOf149
 v46 := Tryz.zeroValue149
 t50 := Tryz.underlying46
 a50 := Tryz.isAgg46
 z50 := Tryz.sizeOf46
 v50 := Tryz.zeroValue46
 t53 := Tryz.underlying156
 a53 := Tryz.isAgg156
 z53 := Tryz.sizeOf156
 v53 := Tryz.zeroValue156
 t55 := Tryz.underlying158
 a55 := Tryz.isAgg158
 z55 := Tryz.sizeOf158
 v55 := Tryz.zeroValue158
 t66 := Tryz.underlying164
 a66 := Tryz.isAgg164
 z66 := Tryz.sizeOf164
 v66 := Tryz.zeroValue164
 t70 := Tryz.underlying168
 a70 := Tryz.isAgg168
 z70 := Tryz.sizeOf168
 v70 := Tryz.zeroValue168
 t76 := Tryz.underlying173
 a76 := Tryz.isAgg173
 z76 := Tryz.sizeOf173
 v76 := Tryz.zeroValue173
 t77 := Tryz.underlying100
 a77 := Tryz.isAgg100
 z77 := Tryz.sizeOf100
 v77 := Tryz.zeroValue100 }
end Go.Proofs
namespace Go.Proofs.YtaccofiegkdlgaaGreatDoor
set_option maxHeartbeats 1000000
open Go.RowKit Go.Sort Go.Lib Go.Shelf
set_option linter.unusedVariables false
theorem lt_of_block {w : World} {g : Nat} {o : Obj} (h : w.heap[g]? = some o) : g < w.heap.size := (Array.getElem?_eq_some_iff.1 h).1
abbrev Rg : Type := Fin 1114112 × Int
def rv (x : Rg) : Int × Int := ((x.1.val : Int), x.2)
theorem rv_ok (x : Rg) : 0 ≤ (rv x).1 ∧ (rv x).1 ≤ 1114111 := by
 have := x.1.isLt
 simp only [rv]; omega
def encS (x : Rg) : List Value := encR (rv x)
theorem flatK_eq (d : Array Rg) : flatK encS 2 d = (cells2 (d.toList.map rv)).toArray := by
 refine ext_get! (by simp [cells2_len]) fun t ht => ?_
 have ht' : t < d.size * 2 := by simpa using ht
 rw [get_flatK _ _ _ t ht']
 have hk : t / 2 < d.size := by omega
 have hk2 : t / 2 < (d.toList.map rv).length := by simpa using hk
 obtain ⟨h1, h2⟩ := cells2_get (d.toList.map rv) (t / 2) hk2
 have hd : rv (d[t / 2]!) = (d.toList.map rv)[t / 2] := by rw [getElem!_pos d (t / 2) hk]; simp
 have hsz : t < (cells2 (d.toList.map rv)).length := by rw [cells2_len]; simpa using ht'
 rw [getElem!_pos (cells2 (d.toList.map rv)).toArray t (by simpa using hsz)]
 unfold encS
 rw [hd]
 rcases (show t % 2 = 0 ∨ t % 2 = 1 from by omega) with hm | hm
 ·have e : t / 2 * 2 = t := by omega
  rw [e, List.getElem?_eq_getElem hsz] at h1
  simp only [Option.some.injEq] at h1
  rw [hm]; simp [encR, h1]
 ·have e : t / 2 * 2 + 1 = t := by omega
  rw [e, List.getElem?_eq_getElem hsz] at h2
  simp only [Option.some.injEq] at h2
  rw [hm]; simp [encR, h2]
theorem holds_of_blockV {w : World} {g : Nat} {cur : Array Value} {e : TypeId} {vs : List Value} (hb : w.heap[g]? = some (.cells cur e (0, 0))) (ht : cur.toList.take vs.length = vs) : Holds id w g 0 vs.toArray := by
 intro j hj
 have hj' : j < vs.length := by simpa using hj
 refine ⟨?_, by simp [World.frozen?, hb]⟩
 have h1 : (cur.toList.take vs.length)[j]? = vs[j]? := by rw [ht]
 rw [List.getElem?_take_of_lt hj'] at h1
 simp only [World.cell?, hb, Nat.zero_add]
 simp only [Option.isSome_none, Bool.false_eq_true, if_false]
 rw [← Array.getElem?_toList, h1]
 simp [hj']
theorem heap_sortedV {w : World} {g n : Nat} {os : Array Obj} {cur : Array Value} {e : TypeId} {fr : Nat × Nat} (F : Array Value) (hb : w.heap[g]? = some (.cells cur e fr)) :
  (grow (putRow id (Sort.ahead w n) g 0 F) os).heap[g]? = some (.cells (putCells id 0 F cur) e fr) := by
 have hg : g < w.heap.size := (Array.getElem?_eq_some_iff.1 hb).1
 rw [heap_grow_old _ _ (by simpa using hg)]
 simp [putRow, mapBlock, Sort.ahead, Array.getElem?_modify, hb, onCells]
theorem grownBy_sortedV {w : World} {g n : Nat} {os : Array Obj} (F : Array Value) : w.grownBy (grow (putRow id (Sort.ahead w n) g 0 F) os) (some g) := by
 refine ⟨rfl, rfl, rfl, by simp, fun k hk hne => ?_⟩
 rw [heap_grow_old _ _ (by simpa using hk)]
 have : g ≠ k := fun e => hne (by rw [e])
 simp [putRow, mapBlock, Sort.ahead, Array.getElem?_modify, this]
theorem take_putCellsV (cur : Array Value) (ts : List Value) (h : ts.length ≤ cur.size) : (putCells id 0 ts.toArray cur).toList.take ts.length = ts := by
 apply List.ext_getElem?
 intro j
 by_cases hj : j < ts.length
 ·rw [List.getElem?_take_of_lt hj, Array.getElem?_toList]
  simp [putCells, hj, show j < cur.size by omega]
 ·rw [List.getElem?_take_eq_none (by omega), List.getElem?_eq_none (by omega)]
def cfR (x y : Rg) : Int := (rv x).1 - (rv y).1
theorem ltR (x y : Rg) : ltOf cfR x y = decide ((rv x).1 < (rv y).1) := by
 unfold ltOf cfR
 rw [Bool.eq_iff_iff]; simp; omega
theorem swoR : SWO (ltOf cfR) where
 irrefl x := by rw [ltR]; simp
 trans x y z h1 h2 := by rw [ltR] at *; simp at *; omega
 ntrans x y z h1 h2 := by rw [ltR] at *; simp at *; omega
theorem cmp_any (a b c d : Int) (h1 : 0 ≤ a) (h2 : a ≤ 1114111) (h3 : 0 ≤ c) (h4 : c ≤ 1114111) (W : World) : Calls Tryz.prog 107 #[.agg #[.int .i64 a, .int .i64 b], .agg #[.int .i64 c, .int .i64 d]] W fun e w' => e = .returned (.int .i64 (a - c)) ∧ ∃ q os', w' = grow (W.drewN q) os' := by
 go_enter Tryz.func107, Tryz.ntmps107
 go_wp2
 go_ret
 exact ⟨rfl, 0, _, by rw [alloc_eq_grow, alloc_eq_grow, grow_grow]; rfl⟩
theorem cmpLays107 (blk off size : Nat) (w : World) : CmpLays Tryz.prog 107 #[] encS 2 cfR blk off size w :=
 fun _ _ _ _ x y => cmp_any (rv x).1 (rv x).2 (rv y).1 (rv y).2 (rv_ok x).1 (rv_ok x).2 (rv_ok y).1 (rv_ok y).2 _
theorem enters107 (args : Array Value) (w : World) : (callFunc 107 args).run Tryz.prog w = .ok (.enter 107 args) w := enters_of Tryz.func107 (by kernel_rfl) rfl args w
theorem sorted_is {d d' : Array Rg} (hp : PermIn 0 d.size d d') (hs : SortedIn (ltOf cfR) 0 d.size d') : (d'.toList.map rv).Perm (d.toList.map rv) ∧ (d'.toList.map rv).Pairwise (fun a b => a.1 ≤ b.1) := by
 have hperm : d'.toList.Perm d.toList := by
  have := hp.2.2
  rw [← hp.1] at this
  have e1 : d'.extract 0 d'.size = d' := by simp
  have e2 : d.extract 0 d'.size = d := by rw [hp.1]; simp
  rw [e1, e2] at this
  exact this
 refine ⟨hperm.map rv, ?_⟩
 rw [List.pairwise_iff_getElem]
 intro i j hi hj hij
 have hi' : i < d'.size := by simpa using hi
 have hj' : j < d'.size := by simpa using hj
 have := hs i j (Nat.zero_le _) hij (by rw [← hp.1]; exact hj')
 rw [ltR, getElem!_pos d' j hj', getElem!_pos d' i hi'] at this
 simp at this
 simpa using this
theorem toRg (l : List (Int × Int)) (h : ∀ x ∈ l, 0 ≤ x.1 ∧ x.1 ≤ 1114111) : ∃ r : List Rg, r.map rv = l := by
 induction l with
 | nil => exact ⟨[], rfl⟩
 | cons x xs ih =>
  obtain ⟨r, hr⟩ := ih (fun y hy => h y (by simp [hy]))
  have hx := h x (by simp)
  exact ⟨(⟨x.1.toNat, by omega⟩, x.2) :: r, by simp only [List.map_cons, hr, rv]; rw [Int.toNat_of_nonneg hx.1]⟩
theorem sortR_any (B : Nat) (v : Value) (l : List (Int × Int)) (w : World) (hl : l.length ≤ 400000000) (hrg : ∀ x ∈ l, 0 ≤ x.1 ∧ x.1 ≤ 1114111) (hown : w.ownsRow B 66 2 v l.length (cells2 l)) (hB : B ≤ w.heap.size) :
  Calls Tryz.prog 106 #[v, .func (.func 107) #[] #[]] w fun e w' => e = .returned (.tuple #[]) ∧ ∃ S : RL, S.Perm l ∧ S.Pairwise (fun a b => a.1 ≤ b.1) ∧ w'.ownsRow B 66 2 v S.length (cells2 S) ∧ Below B w w' := by
 by_cases h0 : l.length = 0
 ·have hnil : l = [] := List.eq_nil_of_length_eq_zero h0
  subst hnil
  obtain ⟨ao, c, rfl⟩ := own_shape hown
  have hc := AnyF.slices_SortFunc_none Tryz.sortR ao c (.func (.func 107) #[] #[]) w
  change Calls Tryz.prog 106 _ _ _ at hc
  refine hc.mono ?_
  rintro e w' ⟨rfl, rfl⟩
  exact ⟨rfl, [], List.Perm.refl _, List.Pairwise.nil, hown, Below.refl _ _⟩
 obtain ⟨g, cap, rfl⟩ := own_some hown (by omega)
 obtain ⟨r, hr⟩ := toRg l hrg
 rcases hown.2 with ⟨h0, _⟩ | ⟨g', cap', cur, hv, hg, hh, hn, hm, hs, ht⟩
 ·cases h0
 cases hv
 have hlen : r.length = l.length := by rw [← hr]; simp
 have hF : flatK encS 2 r.toArray = (cells2 l).toArray := by rw [flatK_eq]; simp [hr]
 have hH : HoldsK encS 2 w g 0 r.toArray := by
  unfold HoldsK
  rw [hF]
  exact holds_of_blockV hh (by rw [cells2_len]; exact ht)
 have hc := AnyQ.slices_SortFunc Tryz.sortR 2 Tryz.isAgg66 Tryz.sizeOf66 encS (fun _ => rfl) (fun x v hv => by simp [encS, encR] at hv; rcases hv with rfl | rfl <;> rfl) cfR swoR 107 #[] g 0 cap r.toArray w enters107 (cmpLays107 g 0 _ w) hH (lt_of_block hh) (by simp; omega)
 change Calls Tryz.prog 106 _ _ _ at hc
 rw [List.size_toArray, hlen] at hc
 refine hc.mono ?_
 rintro e w' ⟨rfl, d', n, os, hp, hs', rfl⟩
 obtain ⟨hd1, hd2⟩ : (d'.toList.map rv).Perm l ∧ (d'.toList.map rv).Pairwise (fun a b => a.1 ≤ b.1) := by
  have hp' : PermIn 0 r.toArray.size r.toArray d' := by rw [List.size_toArray, hlen]; exact hp
  have hs2 : SortedIn (ltOf cfR) 0 r.toArray.size d' := by rw [List.size_toArray, hlen]; exact hs'
  have := sorted_is (d := r.toArray) (d' := d') hp' hs2
  simpa [hr] using this
 obtain ⟨S, hS⟩ : ∃ S, S = d'.toList.map rv := ⟨_, rfl⟩
 rw [← hS] at hd1 hd2
 have hF' : flatK encS 2 d' = (cells2 S).toArray := by rw [flatK_eq, hS]
 have hSl : S.length = l.length := hd1.length_eq
 have hlen' : (cells2 S).length = l.length * 2 := by rw [cells2_len, hSl]
 refine ⟨rfl, S, hd1, hd2, ?_, ?_⟩
 ·unfold sortWorldK putRowK
  rw [hF', hSl]
  refine ⟨hlen', .inr ⟨g, cap, _, rfl, hg, heap_sortedV _ hh, hn, hm, by simp [putCells, hs], ?_⟩⟩
  rw [← hlen']
  exact take_putCellsV cur _ (by rw [hlen', hs]; omega)
 ·unfold sortWorldK putRowK
  exact (Below.refl B w).grown (grownBy_sortedV _) hB (fun k hk => by cases hk; exact hg)
end Go.Proofs.YtaccofiegkdlgaaGreatDoor
