/-
  The law ParseNumbers of the program holds, as a card: whatever pattern and name it is handed, Number answers the number of the first name that is this one, errors too, and the arguments are left as they were; fold's table lies as its text lays it.
-/
import Derived.Test.YtklbbbldalmnbaaGreatDoorGtabl
import Derived.Test.YtklbbbldalmnbaaGreatDoorSopen
import Derived.Test.YtklbbbldalmnbaaGreatDoorMQ
import Derived.Test.YtklbbbldalmnbaaGreatDoorCards
import Derived.Test.YtklbbbldalmnbaaGreatDoorTie
import Derived.SizedLaws
import Derived.JoinedCond
import Derived.Below
import Derived.ChangeMaps5
namespace Go.Proofs.YtklbbbldalmnbaaGreatDoor.parseNumbers
open Go.ChangeShapes Go.WideShapes Go.ChangeAt Go.RowKit
set_option linter.unusedVariables false

theorem cellsNm : Tryz.prog.cellsOf 33 = 2 := by kernel_rfl
theorem cellsNs : Tryz.prog.cellsOf 26 = 1 := by kernel_rfl
theorem cellsPt : Tryz.prog.cellsOf 28 = 10 := by kernel_rfl
theorem cells9 : Tryz.prog.cellsOf 9 = 1 := by kernel_rfl
theorem cells3 : Tryz.prog.cellsOf 3 = 1 := by kernel_rfl
theorem cellsNd : Tryz.prog.cellsOf 25 = 8 := by kernel_rfl
theorem ten {α : Type} {cs : List α} (h : cs.length = 10) : ∃ a b c d e f g i j k, cs = [a, b, c, d, e, f, g, i, j, k] := by
  match cs, h with
  | [a, b, c, d, e, f, g, i, j, k], _ => exact ⟨a, b, c, d, e, f, g, i, j, k, rfl⟩
theorem list_of' {α : Type} {n : Nat} {P : Nat → α → Prop} (h : ∀ i, i < n → ∃ r, P i r) : ∃ L : List α, L.length = n ∧ ∀ i (hi : i < L.length), P i L[i] := by
  induction n with
  | zero => exact ⟨[], rfl, fun i hi => by simp at hi⟩
  | succ n ih =>
    obtain ⟨L, hl, hL⟩ := ih (fun i hi => h i (by omega))
    obtain ⟨r, hr⟩ := h n (by omega)
    refine ⟨L ++ [r], by simp [hl], fun i hi => ?_⟩
    by_cases hin : i < L.length
    · rw [List.getElem_append_left hin]; exact hL i hin
    · have : i = L.length := by simp at hi; omega
      subst this
      simp only [List.getElem_append_right (Nat.le_refl _), Nat.sub_self, List.getElem_cons_zero]
      rw [hl]; exact hr
theorem name_cells {H : Type} {enc : TypeId × Value → H} {w : World} {base : Nat} {sp : Nat → Bool} {held : Bool} {fuel : Nat} {cs : List Value} {x : DataW H × List MemPlace}
    (h : DataW.trod enc Tryz.prog w base sp held fuel 33 cs = some x) : ∃ (a : ByteArray) (b : Int), cs[0]? = some (.string a) ∧ cs[1]? = some (.int .i64 b) := by
  obtain ⟨xs, n, rfl, hx, hl, hxl, hall⟩ := DataW.trod_struct Tryz.underlying33 h
  have hxl' : xs.length = 2 := hxl
  obtain ⟨x0, x1, rfl⟩ : ∃ x0 x1, xs = [x0, x1] := by
    match xs, hxl' with
    | [x0, x1], _ => exact ⟨x0, x1, rfl⟩
  obtain ⟨b, hb⟩ := one_cell (hall 1 _ rfl)
  have h0 : DataW.trod enc Tryz.prog w base sp held n 9 ((cs.drop 0).take (Tryz.prog.cellsOf 9)) = some x0 := hall 0 _ rfl
  rw [cells9] at h0
  obtain ⟨z, hz, hx0, _⟩ := DataW.trod_string Tryz.underlying9 h0
  exact ⟨z, b, at_of_take hz, hb⟩
/-- names that came in can be read. -/
theorem open_names {H : Type} {enc : TypeId × Value → H} {w : World} {base : Nat} {sp : Nat → Bool} {held : Bool} {fuel : Nat} {v : Value} {x : DataW H × List MemPlace}
    (h : DataW.trod enc Tryz.prog w base sp held fuel 26 [v] = some x) : ∃ N, Pa.NamesC w v N := by
  rcases DataW.trod_slice Tryz.underlying26 h with ⟨hcs, _⟩ | ⟨a, len, cap, elems, rest, n, _, hcs, hx, _, hl, hm, hlen, hel, _⟩
  · cases hcs
    exact ⟨[], .inl ⟨rfl, rfl⟩⟩
  · cases hcs
    obtain ⟨L, h1, h2⟩ := list_of' (α := ByteArray × Int) (n := len) (P := fun i r => w.cell? (a.add (i * 2)) = some (.string r.1) ∧ w.cell? ⟨(a.add (i * 2)).block, (a.add (i * 2)).off + 1, none⟩ = some (.int .i64 r.2)) (fun i hi => by
      have hE := hel i hi
      rw [cellsNm, List.getElem?_eq_getElem (by omega)] at hE
      simp only [Option.bind_eq_some_iff] at hE
      obtain ⟨cs, hcs, ht⟩ := hE
      obtain ⟨u, v, rfl, hu, hv⟩ := cells_two hcs
      obtain ⟨p, q, hp, hq⟩ := name_cells ht
      simp at hp hq
      exact ⟨(p, q), by rw [hu, hp], by rw [hv, hq]⟩)
    exact ⟨L, .inr ⟨a, cap, by rw [h1], ⟨by omega, by have := hm; unfold maxLen at this; omega⟩, fun j hj => h2 j hj⟩⟩
theorem open_pat {H : Type} {enc : TypeId × Value → H} {w : World} {base : Nat} {sp : Nat → Bool} {held : Bool} {fuel : Nat} {cs : List Value} {x : DataW H × List MemPlace}
    (h : DataW.trod enc Tryz.prog w base sp held fuel 28 cs = some x) : ∃ p0 p1 p2 p3 p4 p5 p6 p7 p8 v N, cs = [p0, p1, p2, p3, p4, p5, p6, p7, p8, v] ∧ Pa.NamesC w v N := by
  obtain ⟨xs, m, rfl, hx, hl, hxl, hall⟩ := DataW.trod_struct Tryz.underlying28 h
  rw [cellsPt] at hl
  obtain ⟨v0, v1, v2, v3, v4, v5, v6, v7, v8, v9, rfl⟩ := ten hl
  have hxl' : xs.length = 3 := hxl
  obtain ⟨x0, x1, x2, rfl⟩ : ∃ x0 x1 x2, xs = [x0, x1, x2] := by
    match xs, hxl' with
    | [x0, x1, x2], _ => exact ⟨x0, x1, x2, rfl⟩
  have h2 : DataW.trod enc Tryz.prog w base sp held m 26 [v9] = some x2 := by
    have := hall 2 _ rfl
    simpa [cellsNs] using this
  obtain ⟨N, hN⟩ := open_names h2
  exact ⟨v0, v1, v2, v3, v4, v5, v6, v7, v8, v9, N, rfl, hN⟩

set_option maxRecDepth 100000 in
/-- What the walk gives, for every argument and every world that holds the table. -/
theorem contract (H : Type) (enc : TypeId × Value → H) (W : World) (base : Nat) (args : Array Value) (ds gs : List (DataW H)) (before : List MemPlace)
    (hval : ∀ (j : Nat) t v, Tryz.f3.params[j]? = some t → args[j]? = some v → Value.okWide Tryz.prog W .any base t v)
    (hW : DataW.Whole enc Tryz.prog Tryz.f3.params.toList Rows.parseNumbersSpec.vars false W args.toList ds gs before)
    (hTab : Fo.Tab W ∧ 3 < W.heap.size) :
    Calls Tryz.prog 3 args W fun e W' => ∃ v, e = .returned v ∧ Rows.parseNumbersSpec.post enc Tryz.prog Tryz.f3 false true false false W args v W' := by
  have hW' := hW
  obtain ⟨p, q, hA0, hV, rfl, hfz, hnd⟩ := hW
  have hA : DataW.TrodAll enc Tryz.prog W 0 (fun _ => true) true Tryz.f3.params.toList args.toList ds p := hA0
  rw [Tryz.params3] at hA hval
  obtain ⟨v0, vs0, d0, ds0, p0, q0, hargs, rfl, rfl, h0, r0⟩ := trodAll_cons hA
  obtain ⟨v1, vs1, d1, ds1, p1, q1, rfl, rfl, rfl, h1, r1⟩ := trodAll_cons r0
  obtain ⟨rfl, rfl, rfl⟩ := trodAll_nil r1
  obtain rfl : args = #[v0, v1] := by cases args; simp_all
  obtain ⟨rfl, rfl⟩ := trodVars_none hV
  obtain ⟨c0, rfl, hs0⟩ := okWide_struct Tryz.underlying28 (hval 0 28 v0 rfl rfl)
  have k0 := h0
  have lt0 : ∀ x ∈ p0, x.block < W.heap.size := by obtain ⟨m, hm⟩ := k0; exact DataW.trod_lt m _ _ _ hm
  have k1 := h1
  have lt1 : ∀ x ∈ p1, x.block < W.heap.size := by obtain ⟨m, hm⟩ := k1; exact DataW.trod_lt m _ _ _ hm
  obtain ⟨s, rfl⟩ := okWide_string Tryz.underlying9 (hval 1 9 v1 rfl rfl)
  obtain ⟨a0, a1, a2, a3, a4, a5, a6, a7, a8, v, N, hc0, hN⟩ : ∃ p0 p1 p2 p3 p4 p5 p6 p7 p8 v N, c0.toList = [p0, p1, p2, p3, p4, p5, p6, p7, p8, v] ∧ Pa.NamesC W v N := by obtain ⟨fuel, hf⟩ := h0; exact open_pat hf
  obtain rfl : c0 = #[a0, a1, a2, a3, a4, a5, a6, a7, a8, v] := by cases c0; simp_all
  clear hA0
  refine (Pa.numbers_walk a0 a1 a2 a3 a4 a5 a6 a7 a8 v N s W hN (fun w' hb => Pa.parseBegun_fn w' (hTab.1.below hb hTab.2) (Nat.lt_of_lt_of_le hTab.2 hb.size))).mono fun e W' ⟨he, bel⟩ => ?_
  subst he
  exact ⟨_, rfl, _, _, _, [], _, [], hW', trodAll_mk1 (shut_bool Tryz.underlying4 _), (trodAll_cons_mk (Below.trod laidOut (by kernel_rfl) (of_decide_eq_true (by kernel_rfl)) k0 bel lt0) (trodAll_cons_mk (Below.trod laidOut (by kernel_rfl) (of_decide_eq_true (by kernel_rfl)) k1 bel lt1) trodAll_mk0)), rfl, bel.frame _, fun h => by cases h⟩

abbrev w0 : Array Value := #[.agg #[.int .i64 0, .slice none 0 0, .slice none 0 0, .int .i64 0, .int .i64 0, .int .i64 0, .int .i64 0, .bool false, .int .i64 0, .slice none 0 0], .string ⟨#[]⟩]
theorem laid_met (os : Os) : laidMet Tryz.prog Rows.parseNumbersRow.laid ((Fo.laidWorld os).forCall (fun _ _ => 0) ⟨#[], w0, []⟩).memory :=
  laidMet_of_run' 8 (by kernel_rfl) (by kernel_rfl)
theorem reads (os : Os) {H : Type} (enc : TypeId × Value → H) : ∃ places, DataW.whole enc Tryz.prog ((Fo.laidWorld os).forCall (fun _ _ => 0) ⟨#[], w0, []⟩).memory Tryz.f3.params.toList Rows.parseNumbersSpec.vars false w0.toList 8 = some ([.agg [.agg [.lit (.int .i64 0), .nil, .nil, .lit (.int .i64 0), .lit (.int .i64 0), .lit (.int .i64 0), .lit (.int .i64 0), .lit (.bool false)], .lit (.int .i64 0), .nil], .lit (.string [])], [], places) :=
  ⟨[], by kernel_rfl⟩

set_option maxRecDepth 100000 in
/-- The row's step. -/
theorem lifted (os : Os) (started : os.Started) (H : Type) (enc : TypeId × Value → H) (F : Stop.Interp) :
    ReturnsInHanded {} Tryz.checked os 3 .any ((OpenSpec.ofChange Rows.parseNumbersSpec).preRow enc Tryz.prog Tryz.f3 Rows.parseNumbersRow.domain false Rows.parseNumbersRow.laid) (((OpenSpec.ofChange Rows.parseNumbersSpec).at F).post enc Tryz.prog Tryz.f3 false true false false) := by
  obtain ⟨places, hx⟩ := reads os enc
  refine returnsInHanded_of_row (C := Tryz.checked) (s := OpenSpec.ofChange Rows.parseNumbersSpec) own started (by kernel_rfl) Tryz.func3
    (witness_row_at (enc := enc) (C := Tryz.checked) false (Fo.laidWorld os) w0 rfl (by kernel_rfl) (by kernel_rfl) (by kernel_rfl)
      (OpenSpec.preRow_of_cond 8 hx (by kernel_rfl) (fun k hk => by cases hk) (by kernel_rfl) (laid_met os))) ?_
  intro W base args ds gs before hval hW _ _ _ hl _ _
  exact contract H enc W base args ds gs before hval hW (Fo.table hl)

theorem said : Rows.ParseNumbersSaid :=
  OpenClaim.holds_of_cond 3 Tryz.f3 rfl rfl rfl rfl rfl rfl rfl ⟨rfl, rfl, rfl, rfl, rfl⟩ rfl rfl rfl rfl rfl (by kernel_rfl) Tryz.func3 (by kernel_rfl)
    (of_decide_eq_true (by kernel_rfl)) (by unfold Func.isWrapper; first | (rw [if_pos (by decide +kernel)]; kernel_rfl) | (rw [if_neg (by decide +kernel)]; exact ⟨rfl, rfl⟩))
    (fun os started H enc _ F => by rw [OpenClaim.pre_eq_preRow]; exact lifted os started H enc F)

/-- No parameter wants a stand-in; the program's own looks. -/
theorem plain (f : FuncId) (fn : Func) (hf : Tryz.pinned.checked.prog.funcNamed "thicket/thicketlaw.ParseNumbers" = some f) (hfn : Tryz.pinned.checked.prog.funcs[f]? = some fn) :
    true = Tryz.pinned.checked.prog.looks [] ∧ ∀ (j : Nat) t, fn.params[j]? = some t → Tryz.pinned.checked.prog.wantsStandIn t = false := by
  obtain rfl : f = 3 := Option.some.inj ((show Tryz.prog.funcNamed "thicket/thicketlaw.ParseNumbers" = some 3 by kernel_rfl).symm.trans hf) |>.symm
  obtain rfl : fn = Tryz.f3 := (Option.some.inj (Tryz.func3.symm.trans hfn)).symm
  refine ⟨by kernel_rfl, fun j t ht => ?_⟩
  rw [Tryz.params3] at ht
  have hm : t = 28 ∨ t = 9 := by
    have := Array.mem_of_getElem? ht
    simp at this
    rcases this with rfl | rfl <;> simp
  rcases hm with rfl | rfl
  · exact (show Tryz.prog.wantsStandIn 28 = false by kernel_rfl)
  · exact (show Tryz.prog.wantsStandIn 9 = false by kernel_rfl)

theorem card : Rows.ParseNumbersCardSaid :=
  Claim7.holds_tied_plain_at .later [] _ _ _ _ said (fun _ h => by cases h) (by kernel_rfl) (fun _ h => by cases h) parseNumbers_row_tie rfl ⟨rfl, rfl⟩ (by kernel_rfl) rfl plain (by kernel_rfl)

end Go.Proofs.YtklbbbldalmnbaaGreatDoor.parseNumbers
namespace Go.Proofs.YtklbbbldalmnbaaGreatDoor
/-- The statement. -/
theorem ParseNumbers_holds : Rows.ParseNumbersCardSaid := parseNumbers.card
#print axioms ParseNumbers_holds
end Go.Proofs.YtklbbbldalmnbaaGreatDoor
