/- The map of classes. -/
import Derived.Test.YtlapnhjkhpgklaaTby
import Derived.Maps.Keyed
namespace Go.Proofs.Ytlapnhjkhpgklaa
open Go.RowKit
set_option linter.unusedVariables false

def clsV (n : ByteArray) (g : Bool) : Value := .agg #[.string n, .bool g]
def clsE : Array MapEntry := #[⟨.int .i64 100, clsV bDigit false, 0⟩, ⟨.int .i64 68, clsV bDigit true, 1⟩, ⟨.int .i64 119, clsV bWord false, 2⟩, ⟨.int .i64 87, clsV bWord true, 3⟩, ⟨.int .i64 115, clsV bSpace false, 4⟩, ⟨.int .i64 83, clsV bSpace true, 5⟩, ⟨.int .i64 104, clsV bXdigit false, 6⟩, ⟨.int .i64 72, clsV bXdigit true, 7⟩]

theorem upd_step {w : World} {r : Nat} {es : Array MapEntry} {cl : Nat} (hr : w.heap[r]? = some (.map es cl)) (k : Int) (v : Value) (hf : Instr.findNow (.int .i64) (.int .i64 k) es.toList 0 = some none) :
    ∃ w', (Instr.mapUpdate 73 (.map (some r)) (.int .i64 k) v).run Try.prog w = .ok () w' ∧ w'.heap[r]? = some (.map (es.push ⟨.int .i64 k, v, cl⟩) (cl + 1)) ∧ ∀ B, B ≤ r → Below B w w' := by
  have hlt := lt_of_block hr
  refine ⟨{ w with heap := w.heap.setIfInBounds r (.map (es.push ⟨.int .i64 k, v, cl⟩) (cl + 1)) }, ?_, ?_, ?_⟩
  · simp [Instr.mapUpdate, run_underlying Try.underlying73, MapKept.run_getObj_map hr, MapKept.run_checkKey Try.underlying3 (k := .int .i64 k) (by simp [MapKept.IsKey]), Instr.findKey, run_underlying Try.underlying3, hf, MapKept.run_setObj_map _ hr, Result.andThen]
  · simp [hlt]
  · intro B hB
    refine ⟨rfl, rfl, rfl, by simp, fun j hj => ?_⟩
    show (w.heap.setIfInBounds r _)[j]? = _
    rw [Array.getElem?_setIfInBounds_ne (by omega)]
theorem mk_map (w : World) : (Instr.makeMap 73 none).run Try.prog w = .ok (.map (some w.heap.size)) (w.alloc (.map #[] 0)) := by
  simp [Instr.makeMap, Result.andThen]

set_option maxHeartbeats 2000000 in
theorem classes_any (w : World) : Calls Try.prog 51 #[] w fun e w' => e = .returned (.map (some w.heap.size)) ∧ w'.heap[w.heap.size]? = some (.map clsE 8) ∧ Below w.heap.size w w' := by
  have hmk := mk_map w
  have b0 : Below w.heap.size w (w.alloc (.map #[] 0)) := (Below.refl _ w).alloc (Nat.le_refl _) _
  obtain ⟨w1, e1, h1, b1⟩ := upd_step (at_new w (.map #[] 0)) 100 (.agg #[.string ⟨#[100, 105, 103, 105, 116]⟩, .bool false]) rfl
  obtain ⟨w2, e2, h2, b2⟩ := upd_step h1 68 (.agg #[.string ⟨#[100, 105, 103, 105, 116]⟩, .bool true]) (by kernel_rfl)
  obtain ⟨w3, e3, h3, b3⟩ := upd_step h2 119 (.agg #[.string ⟨#[119, 111, 114, 100]⟩, .bool false]) (by kernel_rfl)
  obtain ⟨w4, e4, h4, b4⟩ := upd_step h3 87 (.agg #[.string ⟨#[119, 111, 114, 100]⟩, .bool true]) (by kernel_rfl)
  obtain ⟨w5, e5, h5, b5⟩ := upd_step h4 115 (.agg #[.string ⟨#[115, 112, 97, 99, 101]⟩, .bool false]) (by kernel_rfl)
  obtain ⟨w6, e6, h6, b6⟩ := upd_step h5 83 (.agg #[.string ⟨#[115, 112, 97, 99, 101]⟩, .bool true]) (by kernel_rfl)
  obtain ⟨w7, e7, h7, b7⟩ := upd_step h6 104 (.agg #[.string ⟨#[120, 100, 105, 103, 105, 116]⟩, .bool false]) (by kernel_rfl)
  obtain ⟨w8, e8, h8, b8⟩ := upd_step h7 72 (.agg #[.string ⟨#[120, 100, 105, 103, 105, 116]⟩, .bool true]) (by kernel_rfl)
  have HB : Hid (Below w.heap.size w w8) := ((((((((b0).trans (b1 _ (Nat.le_refl _))).trans (b2 _ (Nat.le_refl _))).trans (b3 _ (Nat.le_refl _))).trans (b4 _ (Nat.le_refl _))).trans (b5 _ (Nat.le_refl _))).trans (b6 _ (Nat.le_refl _))).trans (b7 _ (Nat.le_refl _))).trans (b8 _ (Nat.le_refl _))
  have H8 : Hid (w8.heap[w.heap.size]? = some (.map clsE 8)) := h8
  clear b0 h1 h2 h3 h4 h5 h6 h7 h8 b1 b2 b3 b4 b5 b6 b7 b8
  go_enter Try.func51, Try.ntmps51
  go_wp2
  go_ret
  exact ⟨rfl, H8.out, HB.out⟩

theorem look_any2 {w : World} {r : Nat} (hr : w.heap[r]? = some (.map clsE 8)) (p : Int) : (Instr.lookup 73 (.map (some r)) (.int .i64 p) true).run Try.prog w = .ok (.tuple #[clsV (match clsT p with | some c => c.1 | none => ⟨#[]⟩) (match clsT p with | some c => c.2 | none => false), .bool (clsT p).isSome]) w := by
  have hf : Instr.findNow (.int .i64) (.int .i64 p) clsE.toList 0 = some ((clsT p).map fun c => (if p = 100 then 0 else if p = 68 then 1 else if p = 119 then 2 else if p = 87 then 3 else if p = 115 then 4 else if p = 83 then 5 else if p = 104 then 6 else 7, clsV c.1 c.2)) := by
    by_cases h100 : p = 100
    · subst h100; rfl
    by_cases h68 : p = 68
    · subst h68; rfl
    by_cases h119 : p = 119
    · subst h119; rfl
    by_cases h87 : p = 87
    · subst h87; rfl
    by_cases h115 : p = 115
    · subst h115; rfl
    by_cases h83 : p = 83
    · subst h83; rfl
    by_cases h104 : p = 104
    · subst h104; rfl
    by_cases h72 : p = 72
    · subst h72; rfl
    have hn : clsT p = none := by simp [clsT, h100, h68, h119, h87, h115, h83, h104, h72]
    rw [hn]
    have g100 : (p == 100) = false := by simpa using h100
    have g68 : (p == 68) = false := by simpa using h68
    have g119 : (p == 119) = false := by simpa using h119
    have g87 : (p == 87) = false := by simpa using h87
    have g115 : (p == 115) = false := by simpa using h115
    have g83 : (p == 83) = false := by simpa using h83
    have g104 : (p == 104) = false := by simpa using h104
    have g72 : (p == 72) = false := by simpa using h72
    simp [clsE, Instr.findNow, Instr.sameNow, g100, g68, g119, g87, g115, g83, g104, g72]
  have hz : ∀ W, (zeroValue 71).run Try.prog W = .ok (clsV ⟨#[]⟩ false) W := fun W => by kernel_rfl
  simp only [Instr.lookup, Sem.run_bind, run_underlying Try.underlying73, MapKept.run_getObj_map hr, MapKept.run_checkKey Try.underlying3 (k := .int .i64 p) (by simp [MapKept.IsKey]), Instr.findKey, run_underlying Try.underlying3, hf, Result.andThen, Sem.run_pure]
  cases clsT p with
  | none => simp [hz, Result.andThen]
  | some c => simp
theorem look_w {w : World} {r : Nat} (hr : w.heap[r]? = some (.map clsE 8)) (p : Int) (g : Bool) (hp : p = 119 ∧ g = false ∨ p = 87 ∧ g = true) : (Instr.lookup 73 (.map (some r)) (.int .i64 p) false).run Try.prog w = .ok (clsV bWord g) w := by
  rcases hp with ⟨rfl, rfl⟩ | ⟨rfl, rfl⟩
  all_goals
    simp only [Instr.lookup, Sem.run_bind, run_underlying Try.underlying73, MapKept.run_getObj_map hr, MapKept.run_checkKey Try.underlying3 (k := .int .i64 _) (by simp [MapKept.IsKey]), Instr.findKey, run_underlying Try.underlying3, Result.andThen, Sem.run_pure]
    rfl

end Go.Proofs.Ytlapnhjkhpgklaa
