/- The reference's Says. -/
import Derived.Test.YtlapnhjkhpgklaaRb1
namespace Go.Proofs.Ytlapnhjkhpgklaa
open Go.RowKit
set_option linter.unusedVariables false

theorem byte_at (u : UInt8) : wrap64 (((⟨#[u]⟩ : ByteArray)[0]'(by show 0 < 1; omega)).toNat : Int) = (u.toNat : Int) := by
  have h := u.toNat_lt
  show wrap64 (u.toNat : Int) = _
  unfold wrap64
  omega
theorem ReadsI.heap {w w' : World} {x : Addr} {l : List Int} (h : ReadsI w x l) (e : w'.heap = w.heap) : ReadsI w' x l := fun j hj => by
  have := h j hj
  unfold World.cell? at this ⊢
  rw [e]
  exact this
set_option maxHeartbeats 1000000 in
theorem says1_any (x : Addr) (c : Nat) (l : List Int) (i : Nat) (u : UInt8) (w : World) (h : ReadsI w x l) (hi : i ≤ 1000) (hl : l.length ≤ 1000) : Calls Try.prog 18 #[.slice (some x) l.length c, .int .i64 i, .string ⟨#[u]⟩] w fun e w' => e = .returned (.bool (says l i [(u.toNat : Int)])) ∧ ∃ q, w' = w.drewN q := by
  rw [says_pt l i _ (by omega)]
  have HP := hide (fun q => pointAt_any x c l i (w.drewN q) h)
  obtain ⟨p, hp⟩ : ∃ p, p = ptA l i := ⟨_, rfl⟩
  obtain ⟨n, hn⟩ : ∃ n, n = l.length := ⟨_, rfl⟩
  rw [← hp] at HP ⊢
  rw [← hn] at HP ⊢
  clear h hp hn hl
  have wi2 : IntKind.i64.wrap (i : Int) = (i : Int) := by rw [IntKind.wrap_i64]; omega
  have wi : IntKind.i64.wrap ((i : Int) + 0) = (i : Int) := by rw [IntKind.wrap_i64]; omega
  go_enter Try.func18, Try.ntmps18
  go_wp2
  go_loopw [7] (fun v wr => (v = .int .i64 0 ∧ wr = w) ∨ (v = .int .i64 1 ∧ p = (u.toNat : Int) ∧ ∃ q, wr = w.drewN q)) (fun v _ => 1 - (intOf v).toNat)
  case atStart => exact .inl ⟨rfl, rfl⟩
  case round =>
    rcases hrel with ⟨rfl, rfl⟩ | ⟨rfl, he, q, rfl⟩
    · by_cases hpu : p = (u.toNat : Int)
      · have hb : (p != wrap64 (((⟨#[u]⟩ : ByteArray)[0]'(by show 0 < 1; omega)).toNat : Int)) = false := by rw [byte_at]; simpa using hpu
        have HE := hide hpu
        clear hpu
        go_wp2
        go_quiet (first | (go_at_call 29; refine Calls.quiet_of_same (HP.out _)))
        go_wp2
        go_roundw
        case rel => exact .inr ⟨by go_num, HE.out, _, rfl⟩
        case measure => simp [intOf]
      · have hb : (p != wrap64 (((⟨#[u]⟩ : ByteArray)[0]'(by show 0 < 1; omega)).toNat : Int)) = true := by rw [byte_at]; simpa using hpu
        have HE := hide hpu
        clear hpu
        go_wp2
        go_quiet (first | (go_at_call 29; refine Calls.quiet_of_same (HP.out _)))
        go_wp2
        go_ret
        exact ⟨ret_bool (by have := HE.out; simpa using this), _, rfl⟩
    · have HE := hide he
      clear he
      go_wp2
      go_ret
      exact ⟨ret_bool (by have := HE.out; simpa using this), q, rfl⟩

end Go.Proofs.Ytlapnhjkhpgklaa
