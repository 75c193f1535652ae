/- What goes and rises answer, of any roads. -/
import Derived.Test.YthigleohjagfiaaSg1
import Derived.Test.YthigleohjagfiaaSr8
import Derived.Test.YthigleohjagfiaaSrb
namespace Go.Proofs.Ythigleohjagfiaa
open Go.RowKit Go.PlainAid
set_option linter.unusedVariables false

/-- the bytes of a text. -/
def tl (t : ByteArray) : List Int := (List.range t.size).map (bt t)
theorem tl_len (t : ByteArray) : (tl t).length = t.size := by simp [tl]
theorem tl_get (t : ByteArray) (i : Nat) (h : i < (tl t).length) : (tl t)[i] = bt t i := by simp [tl]
theorem goesB_iff : ∀ (L : RL) (t : List Int), goesB L t = true ↔ L.length = t.length ∧ ∀ i (h : i < L.length) (h' : i < t.length), L[i].1 ≤ t[i] ∧ t[i] ≤ L[i].2
  | [], [] => by simp [goesB]
  | [], _ :: _ => by simp [goesB]
  | _ :: _, [] => by simp [goesB]
  | r :: L, x :: t => by
    have ih := goesB_iff L t
    simp only [goesB, Bool.and_eq_true, decide_eq_true_eq, ih]
    constructor
    · rintro ⟨⟨h1, h2⟩, h3, h4⟩
      refine ⟨by simp [h3], fun i hi hi' => ?_⟩
      cases i with
      | zero => exact ⟨h1, h2⟩
      | succ i => exact h4 i (by simpa using hi) (by simpa using hi')
    · rintro ⟨h1, h2⟩
      have h0 := h2 0 (by simp) (by simp)
      exact ⟨h0, by simpa using h1, fun i hi hi' => h2 (i + 1) (by simpa using hi) (by simpa using hi')⟩
theorem goesB_in {L : RL} {t : ByteArray} (h : L.length = t.size) : goesB L (tl t) = true ↔ InR L t L.length := by
  rw [goesB_iff]
  constructor
  · rintro ⟨_, h2⟩ i hi _
    have := h2 i hi (by rw [tl_len]; omega)
    rw [tl_get] at this
    exact this
  · intro h2
    refine ⟨by rw [tl_len]; exact h, fun i hi hi' => ?_⟩
    rw [tl_get]
    exact h2 i hi hi
theorem goesB_no {L : RL} {t : ByteArray} (h : L.length ≠ t.size) : goesB L (tl t) = false := by
  rw [Bool.eq_false_iff]
  intro hh
  have := ((goesB_iff _ _).1 hh).1
  rw [tl_len] at this
  exact h this
theorem count_take {α : Type} (f : α → Bool) (L : List α) (i : Nat) (h : i < L.length) : (L.take (i + 1)).countP f = (L.take i).countP f + if f L[i] = true then 1 else 0 := by
  rw [List.take_add_one, List.getElem?_eq_getElem h, List.countP_append]
  simp [List.countP_cons]
theorem RowR.rdC {B : Nat} {w : World} {v : Value} {LL : List RL} {us : List Value} (h : RowR B w v LL us) (hk : ∀ L ∈ LL, okRoad L) : RdC w v LL := by
  rcases id h.own.2 with ⟨rfl, hz⟩ | ⟨g, cap, cur, rfl, hg, hh, hnc, hcm, hcs, ht⟩
  · exact .inl ⟨rfl, List.eq_nil_of_length_eq_zero hz⟩
  · refine .inr ⟨⟨g, 0, none⟩, cap, rfl, ⟨hnc, by unfold maxLen at hcm; omega⟩, fun j hj => ?_⟩
    obtain ⟨g', h1, h2, h3⟩ := h.rds j hj
    refine ⟨_, ?_, rdReads h3, by have := (hk _ (List.getElem_mem hj)).1; omega⟩
    rw [Nat.mul_one]
    exact h.own.cells (g := g) rfl j _ h2
set_option maxRecDepth 100000 in
set_option maxHeartbeats 8000000 in
theorem goes_g (v : Value) (LL : List RL) (t : ByteArray) (w : World) (hR : RdC w v LL) (hk : ∀ L ∈ LL, okRoad L) (hts : t.size ≤ 4) (hll : LL.length ≤ 10000000000) : Calls Try.prog 8 #[v, .string t] w fun e w' => e = .returned (.int .i64 (LL.countP (goesB · (tl t)))) ∧ Below w.heap.size w w' := by
  have hg := get_bt t
  have HRd := hide hR
  have HK : Hid (∀ i (h : i < LL.length), okRoad LL[i]) := fun i h => hk _ (List.getElem_mem h)
  obtain ⟨ao, c, rfl, hl⟩ := hR.shape
  obtain ⟨m, hm⟩ : ∃ m, m = LL.length := ⟨_, rfl⟩
  have HM := hide hm
  rw [← hm] at HRd hl hll ⊢
  clear hR hm hk
  go_enter Try.func8, Try.ntmps8
  go_wp2
  go_loopw [5, 6] (fun a b wr => ∃ (i n : Nat), i ≤ m ∧ n ≤ i ∧ a = .int .i64 n ∧ b = .int .i64 i ∧ n = (LL.take i).countP (goesB · (tl t)) ∧ Below w.heap.size w wr) (fun _ b _ => m - (intOf b).toNat)
  case atStart => exact ⟨0, 0, Nat.zero_le _, Nat.zero_le _, rfl, rfl, by simp, Below.refl _ _⟩
  case round =>
    obtain ⟨i, n, hi, hni, rfl, rfl, hn, hbw⟩ := hrel
    obtain ⟨w3, hw3⟩ : ∃ w3, w3 = wr := ⟨_, rfl⟩
    subst hw3
    have HBw := hide hbw
    have HN := hide hn
    clear hbw hn
    by_cases hlt : i < m
    · have hiL : i < LL.length := by have := HM.out; omega
      have hnext := count_take (goesB · (tl t)) LL i hiL
      obtain ⟨x, u, hao, hcc, hu, hru⟩ : ∃ x u, ao = some x ∧ (m ≤ c ∧ c ≤ 9223372036854775807) ∧ (∀ W, Below w3.heap.size w3 W → W.cell? (x.add (i * 1)) = some u) ∧ Reads w3 u LL[i] := by
        rcases HRd.out.below HBw.out with ⟨_, h0⟩ | ⟨x, c', h1, h2, h3⟩
        · rw [h0] at hiL; simp at hiL
        · injection h1 with h1 h4 h5
          obtain ⟨u, a1, a2, a3⟩ := h3 i hiL
          exact ⟨x, u, h1, by rw [h4, h5]; exact h2, fun W hW => below_cell hW (lt_of_cell a1) a1, a2⟩
      subst hao
      have hok := HK.out i hiL
      obtain ⟨L, hL⟩ : ∃ L, L = LL[i] := ⟨_, rfl⟩
      rw [← hL] at hnext hru hok
      obtain ⟨ux, uc, rfl, hcl⟩ := hru.some (by have := hok.1; omega)
      obtain ⟨um, hum⟩ : ∃ um, um = L.length := ⟨_, rfl⟩
      have HUm := hide hum
      have hum4 : 1 ≤ um ∧ um ≤ 4 := by rw [hum]; exact hok.1
      rw [← hum] at hu
      simp only [Nat.mul_one] at hu
      have hu3 := hu w3 (Below.refl _ _)
      have HU := hide hu
      have HCl := hide hcl
      have HNy : Hid (goesB L (tl t) = true → n + 1 = (LL.take (i + 1)).countP (goesB · (tl t))) := fun h => by rw [hnext, HN.out, if_pos h]
      have HNn : Hid (goesB L (tl t) = false → n = (LL.take (i + 1)).countP (goesB · (tl t))) := fun h => by rw [hnext, HN.out, if_neg (by rw [h]; decide)]; rfl
      have e5 : (i : Int) < (m : Int) := by omega
      have e6 : (0 : Int) ≤ (i : Int) := by omega
      have hkw : IntKind.i64.wrap ((i : Int) + 1) = (i : Int) + 1 := by rw [IntKind.wrap_i64]; omega
      have hkn : IntKind.i64.wrap ((n : Int) + 1) = (n : Int) + 1 := by rw [IntKind.wrap_i64]; omega
      clear hnext hiL hL hum hru hu hok hcl HN
      by_cases hlen : um = t.size
      · have hlI : ((um : Int) == (t.size : Int)) = true := by simp [hlen]
        have hleni : (um : Int) = (t.size : Int) := by omega
        have HGi : Hid (goesB L (tl t) = true ↔ InR L t L.length) := goesB_in (by rw [← HUm.out]; exact hlen)
        obtain ⟨ts, hts0⟩ : ∃ ts, ts = t.size := ⟨_, rfl⟩
        go_wp2
        go_loopw [7, 8] (fun a b wr => ∃ (z : Bool) (k : Nat), k ≤ um ∧ a = .bool z ∧ b = .int .i64 k ∧ ((z = true ∧ InR L t k) ∨ (z = false ∧ ¬ InR L t L.length)) ∧ Below w3.heap.size w3 wr) (fun _ b _ => um - (intOf b).toNat)
        case atStart => exact ⟨true, 0, Nat.zero_le _, by first | rfl | (simp; done) | (congr 1; simp; omega) | (congr 1; simp [hlen]), rfl, .inl ⟨rfl, fun i _ h => absurd h (by omega)⟩, Below.refl _ _⟩
        case round =>
          obtain ⟨z, k, hk, rfl, rfl, hz, hb4⟩ := hrel
          obtain ⟨w4, hw4⟩ : ∃ w4, w4 = wr := ⟨_, rfl⟩
          subst hw4
          have HB4 := hide hb4
          have HB4w : Hid (Below w.heap.size w w4) := HBw.out.trans (hb4.mono HBw.out.size)
          clear hb4 hu3
          rcases hz with ⟨rfl, hin⟩ | ⟨rfl, hnin⟩
          · have HIn := hide hin
            clear hin
            by_cases hlt2 : k < um
            · have hkL : k < L.length := by have := HUm.out; omega
              have hkt : k < t.size := by omega
              have y4 := HU.out _ HB4.out
              obtain ⟨m0, m1⟩ := HCl.out.below HB4.out k hkL
              have HYe : Hid ((L[k].1 ≤ bt t k ∧ bt t k ≤ L[k].2) → InR L t (k + 1)) := fun hh i hi hik => by
                by_cases e : i = k
                · subst e; exact hh
                · exact HIn.out i hi (by omega)
              have HNo : Hid (¬ (L[k].1 ≤ bt t k ∧ bt t k ≤ L[k].2) → ¬ InR L t L.length) := fun hh hg' => hh (hg' k hkL hkL)
              obtain ⟨r, hr⟩ : ∃ r, r = L[k] := ⟨_, rfl⟩
              rw [← hr] at m0 m1 HYe HNo
              obtain ⟨lo, hi2⟩ := r
              simp only at m0 m1 HYe HNo
              obtain ⟨by1, hby⟩ : ∃ by1, by1 = bt t k := ⟨_, rfl⟩
              rw [← hby] at HYe HNo
              have hbb : (0 : Int) ≤ by1 ∧ by1 ≤ 255 := by rw [hby]; unfold bt; rw [dif_pos hkt]; have := (t[k]'hkt).toNat_lt; omega
              have hgk : ∀ h, ((t[k]'h).toNat : Int) = by1 := fun h => by rw [hby]; exact hg k h
              have e7 : (k : Int) < (um : Int) := by omega
              have e8 : (0 : Int) ≤ (k : Int) := by omega
              have e9 : (k : Int) < (t.size : Int) := by omega
              have hkw2 : IntKind.i64.wrap ((k : Int) + 1) = (k : Int) + 1 := by rw [IntKind.wrap_i64]; omega
              clear hr hby hkL HIn hleni hlI hlen hts0 hg
              go_upto_region 9 with fail
              by_cases c1 : lo ≤ by1
              · have b1 : decide (lo ≤ by1) = true := decide_eq_true c1
                by_cases c2 : by1 ≤ hi2
                · have b2 : decide (by1 ≤ hi2) = true := decide_eq_true c2
                  have HF := hide (HYe.out ⟨c1, c2⟩)
                  clear HYe HNo
                  go_quiet (fail)
                  go_wp2
                  go_roundw
                  case rel => exact ⟨true, k + 1, by omega, by first | rfl | simp [*], by go_num, .inl ⟨rfl, HF.out⟩, below_dN HB4.out _⟩
                  case measure => simp [intOf]; omega
                · have b2 : decide (by1 ≤ hi2) = false := decide_eq_false c2
                  have HF := hide (HNo.out (fun hh => c2 hh.2))
                  clear HYe HNo
                  go_quiet (fail)
                  go_wp2
                  go_roundw
                  case rel => exact ⟨false, k + 1, by omega, by first | rfl | simp [*], by go_num, .inr ⟨rfl, HF.out⟩, below_dN HB4.out _⟩
                  case measure => simp [intOf]; omega
              · have b1 : decide (lo ≤ by1) = false := decide_eq_false c1
                have HF := hide (HNo.out (fun hh => c1 hh.1))
                clear HYe HNo
                go_quiet (fail)
                go_wp2
                go_roundw
                case rel => exact ⟨false, k + 1, by omega, by first | rfl | simp [*], by go_num, .inr ⟨rfl, HF.out⟩, below_dN HB4.out _⟩
                case measure => simp [intOf]; omega
            · have e7 : ¬ (k : Int) < (t.size : Int) := by omega
              have HF := hide (HNy.out (HGi.out.2 (fun i hi _ => HIn.out i hi (by have := HUm.out; omega))))
              clear HIn HNy HNn HGi hleni hlI hlen hts0
              go_wp2
              go_roundw
              case rel => exact ⟨i + 1, n + 1, by omega, by omega, by go_num, by go_num, HF.out, HB4w.out⟩
              case measure => simp [intOf]; omega
          · have HF := hide (HNn.out (by rw [Bool.eq_false_iff]; exact fun hh => hnin (HGi.out.1 hh)))
            clear hnin HNy HNn HGi
            by_cases hlt2 : k < um
            · have e7 : (k : Int) < (t.size : Int) := by omega
              clear hleni hlI hlen hts0
              go_wp2
              go_roundw
              case rel => exact ⟨i + 1, n, by omega, by omega, by go_num, by go_num, HF.out, HB4w.out⟩
              case measure => simp [intOf]; omega
            · have e7 : ¬ (k : Int) < (t.size : Int) := by omega
              clear hleni hlI hlen hts0
              go_wp2
              go_roundw
              case rel => exact ⟨i + 1, n, by omega, by omega, by go_num, by go_num, HF.out, HB4w.out⟩
              case measure => simp [intOf]; omega
      · have hlI : ((um : Int) == (t.size : Int)) = false := by simp; omega
        have HF := hide (HNn.out (goesB_no (by rw [← HUm.out]; exact hlen)))
        clear HNy HNn
        go_wp2
        go_loopw [7, 8] (fun a b wr => a = .bool false ∧ b = .int .i64 0 ∧ wr = w3) (fun _ _ _ => 0)
        case atStart => exact ⟨by first | rfl | (simp; done) | (congr 1; simp; omega) | (congr 1; simp [hlen]), rfl, rfl⟩
        case round =>
          obtain ⟨rfl, rfl, hwr⟩ := hrel
          have hwr2 := hwr.symm
          subst hwr2
          clear hlI hlen
          by_cases ht0 : 0 < t.size
          · have e7 : (0 : Int) < (t.size : Int) := by omega
            go_wp2
            go_roundw
            case rel => exact ⟨i + 1, n, by omega, by omega, by go_num, by go_num, HF.out, HBw.out⟩
            case measure => simp [intOf]; omega
          · have e7 : ¬ (0 : Int) < (t.size : Int) := by omega
            go_wp2
            go_roundw
            case rel => exact ⟨i + 1, n, by omega, by omega, by go_num, by go_num, HF.out, HBw.out⟩
            case measure => simp [intOf]; omega
    · have e5 : ¬ (i : Int) < (m : Int) := by omega
      have HF : Hid (n = LL.countP (goesB · (tl t))) := by
        have := HN.out
        rw [List.take_of_length_le (by have := HM.out; omega)] at this
        exact this
      clear HN
      go_wp2
      go_ret
      exact ⟨by rw [← HF.out]; rfl, HBw.out⟩

end Go.Proofs.Ythigleohjagfiaa
