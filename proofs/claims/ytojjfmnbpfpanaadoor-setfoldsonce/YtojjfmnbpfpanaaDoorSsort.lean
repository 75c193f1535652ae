/- What slices.SortFunc does to ranges in a row of the call's own: they rise, and are those that they were. -/
import Derived.Test.YtojjfmnbpfpanaaDoorSadd
import Derived.Test.YtojjfmnbpfpanaaDoorSshelf
import Derived.Shelf.SlSortCmp.NoneTotal
namespace Go.Proofs.YtojjfmnbpfpanaaDoor
open Go.RowKit Go.Sort Go.Lib Go.Shelf
set_option linter.unusedVariables false

theorem lt_of_block {w : World} {g : Nat} {o : Obj} (h : w.heap[g]? = some o) : g < w.heap.size := (Array.getElem?_eq_some_iff.1 h).1
/-- ranges of points. -/
abbrev Rg : Type := Fin 1114112 × Int
def rv (x : Rg) : Int × Int := ((x.1.val : Int), x.2)
theorem rv_ok (x : Rg) : 0 ≤ (rv x).1 ∧ (rv x).1 ≤ 1114111 := by
  have := x.1.isLt
  simp only [rv]; omega
def encS (x : Rg) : List Value := encR (rv x)

theorem flatK_eq (d : Array Rg) : flatK encS 2 d = (cells2 (d.toList.map rv)).toArray := by
  refine ext_get! (by simp [cells2_len]) fun t ht => ?_
  have ht' : t < d.size * 2 := by simpa using ht
  rw [get_flatK _ _ _ t ht']
  have hk : t / 2 < d.size := by omega
  have hk2 : t / 2 < (d.toList.map rv).length := by simpa using hk
  obtain ⟨h1, h2⟩ := cells2_get (d.toList.map rv) (t / 2) hk2
  have hd : rv (d[t / 2]!) = (d.toList.map rv)[t / 2] := by rw [getElem!_pos d (t / 2) hk]; simp
  have hsz : t < (cells2 (d.toList.map rv)).length := by rw [cells2_len]; simpa using ht'
  rw [getElem!_pos (cells2 (d.toList.map rv)).toArray t (by simpa using hsz)]
  unfold encS
  rw [hd]
  rcases (show t % 2 = 0 ∨ t % 2 = 1 from by omega) with hm | hm
  · have e : t / 2 * 2 = t := by omega
    rw [e, List.getElem?_eq_getElem hsz] at h1
    simp only [Option.some.injEq] at h1
    rw [hm]; simp [encR, h1]
  · have e : t / 2 * 2 + 1 = t := by omega
    rw [e, List.getElem?_eq_getElem hsz] at h2
    simp only [Option.some.injEq] at h2
    rw [hm]; simp [encR, h2]

theorem holds_of_blockV {w : World} {g : Nat} {cur : Array Value} {e : TypeId} {vs : List Value} (hb : w.heap[g]? = some (.cells cur e (0, 0))) (ht : cur.toList.take vs.length = vs) : Holds id w g 0 vs.toArray := by
  intro j hj
  have hj' : j < vs.length := by simpa using hj
  refine ⟨?_, by simp [World.frozen?, hb]⟩
  have h1 : (cur.toList.take vs.length)[j]? = vs[j]? := by rw [ht]
  rw [List.getElem?_take_of_lt hj'] at h1
  simp only [World.cell?, hb, Nat.zero_add]
  simp only [Option.isSome_none, Bool.false_eq_true, if_false]
  rw [← Array.getElem?_toList, h1]
  simp [hj']
theorem heap_sortedV {w : World} {g n : Nat} {os : Array Obj} {cur : Array Value} {e : TypeId} {fr : Nat × Nat} (F : Array Value) (hb : w.heap[g]? = some (.cells cur e fr)) :
    (grow (putRow id (Sort.ahead w n) g 0 F) os).heap[g]? = some (.cells (putCells id 0 F cur) e fr) := by
  have hg : g < w.heap.size := (Array.getElem?_eq_some_iff.1 hb).1
  rw [heap_grow_old _ _ (by simpa using hg)]
  simp [putRow, mapBlock, Sort.ahead, Array.getElem?_modify, hb, onCells]
theorem grownBy_sortedV {w : World} {g n : Nat} {os : Array Obj} (F : Array Value) : w.grownBy (grow (putRow id (Sort.ahead w n) g 0 F) os) (some g) := by
  refine ⟨rfl, rfl, rfl, by simp, fun k hk hne => ?_⟩
  rw [heap_grow_old _ _ (by simpa using hk)]
  have : g ≠ k := fun e => hne (by rw [e])
  simp [putRow, mapBlock, Sort.ahead, Array.getElem?_modify, this]
theorem take_putCellsV (cur : Array Value) (ts : List Value) (h : ts.length ≤ cur.size) : (putCells id 0 ts.toArray cur).toList.take ts.length = ts := by
  apply List.ext_getElem?
  intro j
  by_cases hj : j < ts.length
  · rw [List.getElem?_take_of_lt hj, Array.getElem?_toList]
    simp [putCells, hj, show j < cur.size by omega]
  · rw [List.getElem?_take_eq_none (by omega), List.getElem?_eq_none (by omega)]

/-- the order. -/
def cfR (x y : Rg) : Int := (rv x).1 - (rv y).1
theorem ltR (x y : Rg) : ltOf cfR x y = decide ((rv x).1 < (rv y).1) := by
  unfold ltOf cfR
  rw [Bool.eq_iff_iff]; simp; omega
theorem swoR : SWO (ltOf cfR) where
  irrefl x := by rw [ltR]; simp
  trans x y z h1 h2 := by rw [ltR] at *; simp at *; omega
  ntrans x y z h1 h2 := by rw [ltR] at *; simp at *; omega

set_option maxHeartbeats 1000000 in
theorem cmp_any (a b c d : Int) (h1 : 0 ≤ a) (h2 : a ≤ 1114111) (h3 : 0 ≤ c) (h4 : c ≤ 1114111) (W : World) : Calls Tryd.prog 38 #[.agg #[.int .i64 a, .int .i64 b], .agg #[.int .i64 c, .int .i64 d]] W fun e w' => e = .returned (.int .i64 (a - c)) ∧ ∃ q os', w' = grow (W.drewN q) os' := by
  go_enter Tryd.func38, Tryd.ntmps38
  go_wp2
  go_ret
  exact ⟨rfl, 0, _, by rw [alloc_eq_grow, alloc_eq_grow, grow_grow]; rfl⟩
theorem cmpLays38 (blk off size : Nat) (w : World) : CmpLays Tryd.prog 38 #[] encS 2 cfR blk off size w :=
  fun _ _ _ _ x y => cmp_any (rv x).1 (rv x).2 (rv y).1 (rv y).2 (rv_ok x).1 (rv_ok x).2 (rv_ok y).1 (rv_ok y).2 _

theorem enters38 (args : Array Value) (w : World) : (callFunc 38 args).run Tryd.prog w = .ok (.enter 38 args) w := enters_of Tryd.func38 (by kernel_rfl) rfl args w


theorem sorted_is {d d' : Array Rg} (hp : PermIn 0 d.size d d') (hs : SortedIn (ltOf cfR) 0 d.size d') : (d'.toList.map rv).Perm (d.toList.map rv) ∧ (d'.toList.map rv).Pairwise (fun a b => a.1 ≤ b.1) := by
  have hperm : d'.toList.Perm d.toList := by
    have := hp.2.2
    rw [← hp.1] at this
    have e1 : d'.extract 0 d'.size = d' := by simp
    have e2 : d.extract 0 d'.size = d := by rw [hp.1]; simp
    rw [e1, e2] at this
    exact this
  refine ⟨hperm.map rv, ?_⟩
  rw [List.pairwise_iff_getElem]
  intro i j hi hj hij
  have hi' : i < d'.size := by simpa using hi
  have hj' : j < d'.size := by simpa using hj
  have := hs i j (Nat.zero_le _) hij (by rw [← hp.1]; exact hj')
  rw [ltR, getElem!_pos d' j hj', getElem!_pos d' i hi'] at this
  simp at this
  simpa using this
theorem toRg (l : List (Int × Int)) (h : ∀ x ∈ l, 0 ≤ x.1 ∧ x.1 ≤ 1114111) : ∃ r : List Rg, r.map rv = l := by
  induction l with
  | nil => exact ⟨[], rfl⟩
  | cons x xs ih =>
    obtain ⟨r, hr⟩ := ih (fun y hy => h y (by simp [hy]))
    have hx := h x (by simp)
    exact ⟨(⟨x.1.toNat, by omega⟩, x.2) :: r, by simp only [List.map_cons, hr, rv]; rw [Int.toNat_of_nonneg hx.1]⟩


/-- slices.SortFunc of ranges in a row of the call's own. -/
theorem sortR_any (B : Nat) (v : Value) (l : List (Int × Int)) (w : World) (hl : l.length ≤ 3000) (hrg : ∀ x ∈ l, 0 ≤ x.1 ∧ x.1 ≤ 1114111) (hown : w.ownsRow B 35 2 v l.length (cells2 l)) (hB : B ≤ w.heap.size) :
    Calls Tryd.prog 37 #[v, .func (.func 38) #[] #[]] w fun e w' => e = .returned (.tuple #[]) ∧ ∃ S : RL, S.Perm l ∧ S.Pairwise (fun a b => a.1 ≤ b.1) ∧ w'.ownsRow B 35 2 v S.length (cells2 S) ∧ Below B w w' := by
  by_cases h0 : l.length = 0
  · have hnil : l = [] := List.eq_nil_of_length_eq_zero h0
    subst hnil
    obtain ⟨ao, c, rfl⟩ := own_shape hown
    have hc := AnyF.slices_SortFunc_none Tryd.sortR ao c (.func (.func 38) #[] #[]) w
    change Calls Tryd.prog 37 _ _ _ at hc
    refine hc.mono ?_
    rintro e w' ⟨rfl, rfl⟩
    exact ⟨rfl, [], List.Perm.refl _, List.Pairwise.nil, hown, Below.refl _ _⟩
  obtain ⟨g, cap, rfl⟩ := own_some hown (by omega)
  obtain ⟨r, hr⟩ := toRg l hrg
  rcases hown.2 with ⟨h0, _⟩ | ⟨g', cap', cur, hv, hg, hh, hn, hm, hs, ht⟩
  · cases h0
  cases hv
  have hlen : r.length = l.length := by rw [← hr]; simp
  have hF : flatK encS 2 r.toArray = (cells2 l).toArray := by rw [flatK_eq]; simp [hr]
  have hH : HoldsK encS 2 w g 0 r.toArray := by
    unfold HoldsK
    rw [hF]
    exact holds_of_blockV hh (by rw [cells2_len]; exact ht)
  have hc := AnyQ.slices_SortFunc Tryd.sortR 2 Tryd.isAgg35 Tryd.sizeOf35 encS (fun _ => rfl) (fun x v hv => by simp [encS, encR] at hv; rcases hv with rfl | rfl <;> rfl) cfR swoR 38 #[] g 0 cap r.toArray w enters38 (cmpLays38 g 0 _ w) hH (lt_of_block hh) (by simp; omega)
  change Calls Tryd.prog 37 _ _ _ at hc
  rw [List.size_toArray, hlen] at hc
  refine hc.mono ?_
  rintro e w' ⟨rfl, d', n, os, hp, hs', rfl⟩
  obtain ⟨hd1, hd2⟩ : (d'.toList.map rv).Perm l ∧ (d'.toList.map rv).Pairwise (fun a b => a.1 ≤ b.1) := by
    have hp' : PermIn 0 r.toArray.size r.toArray d' := by rw [List.size_toArray, hlen]; exact hp
    have hs2 : SortedIn (ltOf cfR) 0 r.toArray.size d' := by rw [List.size_toArray, hlen]; exact hs'
    have := sorted_is (d := r.toArray) (d' := d') hp' hs2
    simpa [hr] using this
  obtain ⟨S, hS⟩ : ∃ S, S = d'.toList.map rv := ⟨_, rfl⟩
  rw [← hS] at hd1 hd2
  have hF' : flatK encS 2 d' = (cells2 S).toArray := by rw [flatK_eq, hS]
  have hSl : S.length = l.length := hd1.length_eq
  have hlen' : (cells2 S).length = l.length * 2 := by rw [cells2_len, hSl]
  refine ⟨rfl, S, hd1, hd2, ?_, ?_⟩
  · unfold sortWorldK putRowK
    rw [hF', hSl]
    refine ⟨hlen', .inr ⟨g, cap, _, rfl, hg, heap_sortedV _ hh, hn, hm, by simp [putCells, hs], ?_⟩⟩
    rw [← hlen']
    exact take_putCellsV cur _ (by rw [hlen', hs]; omega)
  · unfold sortWorldK putRowK
    exact (Below.refl B w).grown (grownBy_sortedV _) hB (fun k hk => by cases hk; exact hg)

end Go.Proofs.YtojjfmnbpfpanaaDoor
