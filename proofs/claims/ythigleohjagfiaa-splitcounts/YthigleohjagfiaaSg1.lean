/- What goes answers, of one road. -/
import Derived.Test.YthigleohjagfiaaSp3
import Derived.Deep.QuietTactic
import Derived.BigQuiet
namespace Go.Proofs.Ythigleohjagfiaa
open Go.RowKit Go.PlainAid
set_option linter.unusedVariables false

/-- the bytes are those of a road. -/
def InR (L : RL) (t : ByteArray) (k : Nat) : Prop := ∀ i (h : i < L.length), i < k → L[i].1 ≤ bt t i ∧ bt t i ≤ L[i].2
def GoN (L : RL) (t : ByteArray) (e : Ending) : Prop := ∃ n : Int, e = .returned (.int .i64 n) ∧ ((n = 1 ∧ InR L t L.length) ∨ (n = 0 ∧ ¬ InR L t L.length))
theorem below_dN {B : Nat} {w w' : World} (h : Below B w w') (q : Nat) : Below B w (w'.drewN q) := ⟨h.1, h.2, h.3, h.4, h.5⟩
set_option maxRecDepth 100000 in
set_option maxHeartbeats 8000000 in
theorem goes_any (y : Addr) (c : Nat) (u : Value) (L : RL) (t : ByteArray) (w : World) (hy : w.cell? y = some u) (hr : Reads w u L) (hl : 1 ≤ L.length ∧ L.length ≤ 4) (hts : t.size = L.length) : Calls Try.prog 8 #[.slice (some y) 1 c, .string t] w fun e w' => GoN L t e ∧ Below w.heap.size w w' := by
  have hg := get_bt t
  obtain ⟨ux, uc, rfl, hcl⟩ := hr.some (by omega)
  obtain ⟨m, hm⟩ : ∃ m, m = L.length := ⟨_, rfl⟩
  have HM := hide hm
  have HCl := hide hcl
  have HY : Hid (∀ W, Below w.heap.size w W → W.cell? y = some (.slice (some ux) m uc)) := fun W hW => by rw [hm]; exact below_cell hW (lt_of_cell hy) hy
  rw [← hm] at hl hts
  have htI : (t.size : Int) = (m : Int) := by omega
  have hy0 := HY.out w (Below.refl _ _)
  clear hy hr hcl hm
  go_enter Try.func8, Try.ntmps8
  go_wp2
  go_loopw [5, 6] (fun a b wr => ((a = .int .i64 0 ∧ b = .int .i64 0) ∨ (b = .int .i64 1 ∧ ∃ n : Int, a = .int .i64 n ∧ ((n = 1 ∧ InR L t L.length) ∨ (n = 0 ∧ ¬ InR L t L.length)))) ∧ Below w.heap.size w wr) (fun _ b _ => 1 - (intOf b).toNat)
  case atStart => exact ⟨.inl ⟨rfl, rfl⟩, Below.refl _ _⟩
  case round =>
    obtain ⟨hst, hbw⟩ := hrel
    obtain ⟨w3, hw3⟩ : ∃ w3, w3 = wr := ⟨_, rfl⟩
    subst hw3
    have HBw := hide hbw
    clear hbw hy0
    rcases hst with ⟨rfl, rfl⟩ | ⟨rfl, n, rfl, hn⟩
    · have y3 := HY.out _ HBw.out
      go_wp2
      go_loopw [7, 8] (fun a b wr => ∃ (z : Bool) (k : Nat), k ≤ m ∧ a = .bool z ∧ b = .int .i64 k ∧ ((z = true ∧ InR L t k) ∨ (z = false ∧ ¬ InR L t L.length)) ∧ Below w.heap.size w wr) (fun _ b _ => m - (intOf b).toNat)
      case atStart => exact ⟨true, 0, Nat.zero_le _, by first | rfl | (simp; done) | (congr 1; simp), rfl, .inl ⟨rfl, fun i _ h => absurd h (by omega)⟩, HBw.out⟩
      case round =>
        obtain ⟨z, k, hk, rfl, rfl, hz, hb4⟩ := hrel
        obtain ⟨w4, hw4⟩ : ∃ w4, w4 = wr := ⟨_, rfl⟩
        subst hw4
        have HB4 := hide hb4
        clear hb4 y3 HBw
        rcases hz with ⟨rfl, hin⟩ | ⟨rfl, hnin⟩
        · have HIn := hide hin
          clear hin
          by_cases hlt : k < m
          · have hkL : k < L.length := by have := HM.out; omega
            have hkt : k < t.size := by omega
            have y4 := HY.out _ HB4.out
            obtain ⟨m0, m1⟩ := HCl.out.below HB4.out k hkL
            have HYe : Hid ((L[k].1 ≤ bt t k ∧ bt t k ≤ L[k].2) → InR L t (k + 1)) := fun hh i hi hik => by
              by_cases e : i = k
              · subst e; exact hh
              · exact HIn.out i hi (by omega)
            have HNo : Hid (¬ (L[k].1 ≤ bt t k ∧ bt t k ≤ L[k].2) → ¬ InR L t L.length) := fun hh hg' => hh (hg' k hkL hkL)
            obtain ⟨r, hr⟩ : ∃ r, r = L[k] := ⟨_, rfl⟩
            rw [← hr] at m0 m1 HYe HNo
            obtain ⟨lo, hi⟩ := r
            simp only at m0 m1 HYe HNo
            obtain ⟨by1, hby⟩ : ∃ by1, by1 = bt t k := ⟨_, rfl⟩
            rw [← hby] at HYe HNo
            have hbb : (0 : Int) ≤ by1 ∧ by1 ≤ 255 := by rw [hby]; unfold bt; rw [dif_pos hkt]; have := (t[k]'hkt).toNat_lt; omega
            have hgk : ∀ h, ((t[k]'h).toNat : Int) = by1 := fun h => by rw [hby]; exact hg k h
            have e5 : (k : Int) < (m : Int) := by omega
            have e6 : (0 : Int) ≤ (k : Int) := by omega
            have e7 : (k : Int) < (t.size : Int) := by omega
            have e8 : k < t.size := hkt
            have hkw : IntKind.i64.wrap ((k : Int) + 1) = (k : Int) + 1 := by rw [IntKind.wrap_i64]; omega
            clear hr hby hkL HIn hg
            go_upto_region 9 with fail
            by_cases c1 : lo ≤ by1
            · have b1 : decide (lo ≤ by1) = true := decide_eq_true c1
              by_cases c2 : by1 ≤ hi
              · have b2 : decide (by1 ≤ hi) = true := decide_eq_true c2
                have HF := hide (HYe.out ⟨c1, c2⟩)
                clear HYe HNo
                go_quiet (fail)
                go_wp2
                go_roundw
                case rel => exact ⟨true, k + 1, by omega, by first | rfl | simp [*], by go_num, .inl ⟨rfl, HF.out⟩, below_dN HB4.out _⟩
                case measure => simp [intOf]; omega
              · have b2 : decide (by1 ≤ hi) = false := decide_eq_false c2
                have HF := hide (HNo.out (fun hh => c2 hh.2))
                clear HYe HNo
                go_quiet (fail)
                go_wp2
                go_roundw
                case rel => exact ⟨false, k + 1, by omega, by first | rfl | simp [*], by go_num, .inr ⟨rfl, HF.out⟩, below_dN HB4.out _⟩
                case measure => simp [intOf]; omega
            · have b1 : decide (lo ≤ by1) = false := decide_eq_false c1
              have HF := hide (HNo.out (fun hh => c1 hh.1))
              clear HYe HNo
              go_quiet (fail)
              go_wp2
              go_roundw
              case rel => exact ⟨false, k + 1, by omega, by first | rfl | simp [*], by go_num, .inr ⟨rfl, HF.out⟩, below_dN HB4.out _⟩
              case measure => simp [intOf]; omega
          · have e5 : ¬ (k : Int) < (m : Int) := by omega
            have e6 : ¬ k < m := hlt
            have HF : Hid (InR L t L.length) := fun i hi _ => HIn.out i hi (by have := HM.out; omega)
            clear HIn
            go_wp2
            go_roundw
            case rel => exact ⟨.inr ⟨by go_num, 1, by go_num, .inl ⟨rfl, HF.out⟩⟩, HB4.out⟩
            case measure => simp [intOf]
        · have HNn := hide hnin
          clear hnin
          by_cases hlt : k < m
          · have e5 : (k : Int) < (m : Int) := by omega
            go_wp2
            go_roundw
            case rel => exact ⟨.inr ⟨by go_num, 0, by go_num, .inr ⟨rfl, HNn.out⟩⟩, HB4.out⟩
            case measure => simp [intOf]
          · have e5 : ¬ (k : Int) < (m : Int) := by omega
            have e6 : ¬ k < m := hlt
            go_wp2
            go_roundw
            case rel => exact ⟨.inr ⟨by go_num, 0, by go_num, .inr ⟨rfl, HNn.out⟩⟩, HB4.out⟩
            case measure => simp [intOf]
    · have HN := hide hn
      clear hn
      go_wp2
      go_ret
      exact ⟨⟨n, rfl, HN.out⟩, HBw.out⟩

end Go.Proofs.Ythigleohjagfiaa
