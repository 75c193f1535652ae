/- What show.sign and show.way answer. -/
import Derived.Test.YtpcohmbipbiglaaDoorMallh
import Derived.Lib.ItoaNum
import Derived.Laws.BytesArg
import Derived.Lib.QuoteBits
import Derived.Test.YtpcohmbipbiglaaDoorNa1

namespace Go.Proofs.YtpcohmbipbiglaaDoor
open Go.RowKit
set_option linter.unusedVariables false

/-- the sign of a kind that has nothing but itself. -/
def signS (k : Int) : ByteArray :=
  if k = 3 then ⟨#[94]⟩ else if k = 4 then ⟨#[36]⟩ else if k = 5 then ⟨#[92, 65]⟩ else if k = 6 then ⟨#[92, 122]⟩
  else if k = 7 then ⟨#[92, 98]⟩ else if k = 8 then ⟨#[92, 66]⟩ else ⟨#[40, 63, 58, 41]⟩
def wayS (v : Int) : ByteArray := if v = 2 then ⟨#[63]⟩ else if v = 3 then ⟨#[43]⟩ else ⟨#[]⟩

set_option maxRecDepth 100000 in
set_option maxHeartbeats 2000000 in
theorem sign_any (k : Int) (w : World) : Calls Tryd.prog 41 #[.int .i64 k] w fun e w' => e = .returned (.string (signS k)) ∧ w' = w := by
  by_cases h : 3 ≤ k ∧ k ≤ 8
  · rcases (by omega : k = 3 ∨ k = 4 ∨ k = 5 ∨ k = 6 ∨ k = 7 ∨ k = 8) with rfl | rfl | rfl | rfl | rfl | rfl <;>
      (clear h; go_enter Tryd.func41, Tryd.ntmps41; go_wp2; go_ret; exact ⟨rfl, rfl⟩)
  · have hS : Hid (signS k = ⟨#[40, 63, 58, 41]⟩) := by
      show _ = _
      unfold signS
      rw [if_neg (by omega), if_neg (by omega), if_neg (by omega), if_neg (by omega), if_neg (by omega), if_neg (by omega)]
    have b3 : (k == 3) = false := by simp; omega
    have b4 : (k == 4) = false := by simp; omega
    have b5 : (k == 5) = false := by simp; omega
    have b6 : (k == 6) = false := by simp; omega
    have b7 : (k == 7) = false := by simp; omega
    have b8 : (k == 8) = false := by simp; omega
    clear h
    go_enter Tryd.func41, Tryd.ntmps41
    go_wp2
    go_ret
    exact ⟨by rw [hS.out]; rfl, rfl⟩
set_option maxRecDepth 100000 in
theorem way_any (k : Int) (w : World) : Calls Tryd.prog 56 #[.int .i64 k] w fun e w' => e = .returned (.string (wayS k)) ∧ w' = w := by
  by_cases h2 : k = 2
  · subst h2
    go_enter Tryd.func56, Tryd.ntmps56
    go_wp2
    go_ret
    exact ⟨rfl, rfl⟩
  · by_cases h3 : k = 3
    · subst h3
      clear h2
      go_enter Tryd.func56, Tryd.ntmps56
      go_wp2
      go_ret
      exact ⟨rfl, rfl⟩
    · have hS : Hid (wayS k = ⟨#[]⟩) := by show _ = _; unfold wayS; rw [if_neg h2, if_neg h3]
      have b2 : (k == 2) = false := by simpa using h2
      have b3 : (k == 3) = false := by simpa using h3
      clear h2 h3
      go_enter Tryd.func56, Tryd.ntmps56
      go_wp2
      go_ret
      exact ⟨by rw [hS.out]; rfl, rfl⟩

end Go.Proofs.YtpcohmbipbiglaaDoor

namespace Go.Proofs.YtpcohmbipbiglaaDoor
open Go.RowKit Go.Lib
set_option linter.unusedVariables false

theorem nDig_le (u : Nat) : nDigits u ≤ u + 1 := by
  induction u using Nat.strongRecOn with
  | _ u ih =>
    by_cases h : u < 10
    · rw [nDigits_small h]; omega
    · rw [nDigits_big h]; have := ih (u / 10) (by omega); omega
theorem wconv_one (w : World) (p : Int) : (convert 49 9 (.slice (some ⟨w.heap.size, 0, none⟩) 1 1)).run Tryd.prog (w.alloc (.cells #[.int .u8 p] 5)) = .ok (.string (strOfNums [p])) (w.alloc (.cells #[.int .u8 p] 5)) := by
  refine run_convert_bytes_arg _ 49 5 Tryd.underlying49 Tryd.underlying5 w.heap.size 0 1 1 [p] rfl ?_ 9 Tryd.underlying9
  intro i hi
  have : i = 0 := by omega
  subst this
  simp only [World.cell?, Nat.add_zero]
  rw [at_new]
  rfl
/-- the digits that are left, ahead of those that are laid. -/
def DecI (n m : Nat) (B : ByteArray) : Prop := decDigits n = decDigits m ++ B.data.toList ∧ m ≤ n
theorem decI_size {n m : Nat} {B : ByteArray} (h : DecI n m B) : B.size ≤ n + 1 := by
  have := congrArg List.length h.1
  rw [List.length_append, decDigits_length] at this
  have h2 := nDig_le n
  have h3 : B.data.toList.length = B.size := Array.length_toList
  omega
theorem decI_next {n m : Nat} {B : ByteArray} (h : DecI n m B) (hm : ¬ m < 10) : DecI n (m / 10) (strOfNums [((48 + m % 10 : Nat) : Int)] ++ B) := by
  refine ⟨?_, by have := h.2; omega⟩
  rw [h.1, decDigits, dif_neg hm, List.append_assoc, ByteArray.data_append, Array.toList_append]
  rfl
theorem decI_end {n m : Nat} {B : ByteArray} (h : DecI n m B) (hm : m < 10) : strOfNums [((48 + m % 10 : Nat) : Int)] ++ B = ⟨(decDigits n).toArray⟩ := by
  apply ByteArray.ext
  rw [h.1, decDigits, dif_pos hm, ByteArray.data_append, Nat.mod_eq_of_lt hm]
  apply Array.ext'
  rw [Array.toList_append]
  rfl

set_option maxRecDepth 100000 in
set_option maxHeartbeats 2000000 in
theorem decimal_any (n : Nat) (hn : n ≤ 1000000000) (w : World) : Calls Tryd.prog 24 #[.int .i64 (n : Int)] w fun e w' => e = .returned (.string ⟨(decDigits n).toArray⟩) ∧ Below w.heap.size w w' := by
  obtain ⟨R, hR⟩ : ∃ R : ByteArray, R = ⟨(decDigits n).toArray⟩ := ⟨_, rfl⟩
  have HR := hide hR
  rw [← hR]
  clear hR
  go_enter Tryd.func24, Tryd.ntmps24
  go_wp2
  go_loopw [0, 3] (fun a u wr => ∃ (m : Nat) (B : ByteArray), a = .int .i64 (m : Int) ∧ u = .string B ∧ DecI n m B ∧ Below w.heap.size w wr) (fun a _ _ => (intOf a).toNat)
  case atStart => exact ⟨n, ⟨#[]⟩, rfl, rfl, ⟨by simp, Nat.le_refl _⟩, Below.refl _ _⟩
  case round =>
    obtain ⟨m, B, rfl, rfl, hD, hb⟩ := hrel
    obtain ⟨w2, hw2⟩ : ∃ w2, w2 = wr := ⟨_, rfl⟩
    subst hw2
    have HD := hide hD
    have HB := hide hb
    have hsz := decI_size hD
    have hmn := hD.2
    have hcv := wconv_one w2 (48 + (m : Int) % 10)
    have hde : (48 + (m : Int) % 10) = ((48 + m % 10 : Nat) : Int) := by omega
    obtain ⟨P1, hP1⟩ : ∃ P1, P1 = strOfNums [(48 + (m : Int) % 10)] := ⟨_, rfl⟩
    have hP1s : P1.size = 1 := by rw [hP1]; rfl
    rw [← hP1] at hcv
    have hc1 : P1.size + B.size ≤ 9223372036854775807 := by omega
    have hc2 : ¬ (9223372036854775807 < P1.size + B.size) := by omega
    have hB2 : Hid (Below w.heap.size w (w2.alloc (.cells #[.int .u8 (48 + (m : Int) % 10)] 5))) := HB.out.alloc HB.out.size _
    have HNx : Hid (¬ m < 10 → DecI n (m / 10) (P1 ++ B)) := fun h => by rw [hP1, hde]; exact decI_next HD.out h
    have HEn : Hid (m < 10 → P1 ++ B = R) := fun h => by rw [hP1, hde, HR.out]; exact decI_end HD.out h
    have hm0 : (0 : Int) ≤ (m : Int) := by omega
    have hm1 : (m : Int) ≤ 1000000000 := by omega
    clear hD hb hsz hmn hP1 hP1s hde
    by_cases h0 : m < 10
    · have HE := hide (HEn.out h0)
      have b0 : (((m : Int) / 10) == 0) = true := by simp; omega
      have b1 : ((m : Int) / 10) = 0 := by omega
      clear HNx HEn
      go_wp2
      go_ret
      exact ⟨by rw [HE.out]; rfl, hB2.out⟩
    · have HN := hide (HNx.out h0)
      have b0 : (((m : Int) / 10) == 0) = false := by simp; omega
      clear HNx HEn
      go_wp2
      go_roundw
      case rel => exact ⟨m / 10, _, by go_num, rfl, HN.out, hB2.out⟩
      case measure => simp [intOf]; omega

end Go.Proofs.YtpcohmbipbiglaaDoor

namespace Go.Proofs.YtpcohmbipbiglaaDoor
open Go.RowKit Go.Lib
set_option linter.unusedVariables false

/-- a digit at base 16. -/
def hexD (d : Nat) : UInt8 := if d < 10 then UInt8.ofNat (48 + d) else UInt8.ofNat (87 + d)
/-- the digits of u at base 16, the first ahead; "0" for 0. -/
def hexDigits (u : Nat) : List UInt8 :=
  if h : u < 16 then [hexD u] else hexDigits (u / 16) ++ [hexD (u % 16)]
termination_by u
decreasing_by omega
theorem hexDigits_len (u : Nat) : (hexDigits u).length ≤ u + 1 := by
  induction u using Nat.strongRecOn with
  | _ u ih =>
    by_cases h : u < 16
    · rw [hexDigits, dif_pos h]; simp
    · rw [hexDigits, dif_neg h, List.length_append]; have := ih (u / 16) (by omega); simp; omega
theorem hexD_num (d : Nat) (h : d < 16) : strOfNums [((hexD d).toNat : Int)] = ⟨#[hexD d]⟩ := by
  rcases (by omega : d = 0 ∨ d = 1 ∨ d = 2 ∨ d = 3 ∨ d = 4 ∨ d = 5 ∨ d = 6 ∨ d = 7 ∨ d = 8 ∨ d = 9 ∨ d = 10 ∨ d = 11 ∨ d = 12 ∨ d = 13 ∨ d = 14 ∨ d = 15) with rfl | rfl | rfl | rfl | rfl | rfl | rfl | rfl | rfl | rfl | rfl | rfl | rfl | rfl | rfl | rfl <;> rfl
theorem hex_at (m : Nat) (W : World) : (Instr.index 9 (.string ⟨#[48, 49, 50, 51, 52, 53, 54, 55, 56, 57, 97, 98, 99, 100, 101, 102]⟩) (.int .i64 ((m : Int) % 16))).run Tryd.prog W = .ok (.int .u8 ((hexD (m % 16)).toNat : Int)) W := by
  rw [show (m : Int) % 16 = ((m % 16 : Nat) : Int) by omega]
  have h : m % 16 < 16 := by omega
  generalize m % 16 = d at h
  have hs : (⟨#[48, 49, 50, 51, 52, 53, 54, 55, 56, 57, 97, 98, 99, 100, 101, 102]⟩ : ByteArray).size = 16 := rfl
  rw [run_index_string W 9 _ .i64 _ Tryd.underlying9, dif_pos ⟨by omega, by rw [hs]; omega⟩]
  rcases (by omega : d = 0 ∨ d = 1 ∨ d = 2 ∨ d = 3 ∨ d = 4 ∨ d = 5 ∨ d = 6 ∨ d = 7 ∨ d = 8 ∨ d = 9 ∨ d = 10 ∨ d = 11 ∨ d = 12 ∨ d = 13 ∨ d = 14 ∨ d = 15) with rfl | rfl | rfl | rfl | rfl | rfl | rfl | rfl | rfl | rfl | rfl | rfl | rfl | rfl | rfl | rfl <;> rfl
def HexI (n m : Nat) (B : ByteArray) : Prop := hexDigits n = hexDigits m ++ B.data.toList ∧ m ≤ n
theorem hexI_size {n m : Nat} {B : ByteArray} (h : HexI n m B) : B.size ≤ n + 1 := by
  have := congrArg List.length h.1
  rw [List.length_append] at this
  have h2 := hexDigits_len n
  have h3 : B.data.toList.length = B.size := Array.length_toList
  omega
theorem hexI_next {n m : Nat} {B : ByteArray} (h : HexI n m B) (hm : ¬ m < 16) : HexI n (m / 16) (⟨#[hexD (m % 16)]⟩ ++ B) := by
  refine ⟨?_, by have := h.2; omega⟩
  rw [h.1, hexDigits, dif_neg hm, List.append_assoc, ByteArray.data_append, Array.toList_append]
theorem hexI_end {n m : Nat} {B : ByteArray} (h : HexI n m B) (hm : m < 16) : ⟨#[hexD (m % 16)]⟩ ++ B = (⟨(hexDigits n).toArray⟩ : ByteArray) := by
  apply ByteArray.ext
  rw [h.1, hexDigits, dif_pos hm, ByteArray.data_append, Nat.mod_eq_of_lt hm]
  apply Array.ext'
  rw [Array.toList_append]
/-- a point, as it is shown. -/
def hexS (n : Nat) : ByteArray := ⟨#[92, 120, 123]⟩ ++ ⟨(hexDigits n).toArray⟩ ++ ⟨#[125]⟩

set_option maxRecDepth 100000 in
set_option maxHeartbeats 4000000 in
theorem hexPoint_any (n : Nat) (hn : n ≤ 1000000000) (w : World) : Calls Tryd.prog 23 #[.int .i64 (n : Int)] w fun e w' => e = .returned (.string (hexS n)) ∧ Below w.heap.size w w' := by
  obtain ⟨R, hR⟩ : ∃ R : ByteArray, R = ⟨(hexDigits n).toArray⟩ := ⟨_, rfl⟩
  have HR := hide hR
  have HS : Hid (hexS n = ⟨#[92, 120, 123]⟩ ++ R ++ ⟨#[125]⟩) := by show _ = _; rw [hR]; rfl
  obtain ⟨RS, hRS⟩ : ∃ RS, RS = hexS n := ⟨_, rfl⟩
  rw [← hRS] at HS ⊢
  clear hR hRS
  go_enter Tryd.func23, Tryd.ntmps23
  go_wp2
  go_loopw [0, 3] (fun a u wr => ∃ (m : Nat) (B : ByteArray), a = .int .i64 (m : Int) ∧ u = .string B ∧ HexI n m B ∧ Below w.heap.size w wr) (fun a _ _ => (intOf a).toNat)
  case atStart => exact ⟨n, ⟨#[]⟩, rfl, rfl, ⟨by simp, Nat.le_refl _⟩, Below.refl _ _⟩
  case round =>
    obtain ⟨m, B, rfl, rfl, hD, hb⟩ := hrel
    obtain ⟨w2, hw2⟩ : ∃ w2, w2 = wr := ⟨_, rfl⟩
    subst hw2
    have HD := hide hD
    have HB := hide hb
    have hsz := hexI_size hD
    have hmn := hD.2
    have hix := hex_at m
    obtain ⟨p, hp⟩ : ∃ p : Int, p = ((hexD (m % 16)).toNat : Int) := ⟨_, rfl⟩
    have hcv := wconv_one w2 p
    obtain ⟨P1, hP1⟩ : ∃ P1, P1 = strOfNums [p] := ⟨_, rfl⟩
    have hP1d : P1 = ⟨#[hexD (m % 16)]⟩ := by rw [hP1, hp]; exact hexD_num _ (by omega)
    have hP1s : P1.size = 1 := by rw [hP1d]; rfl
    rw [← hP1] at hcv
    rw [← hp] at hix
    have hc1 : P1.size + B.size ≤ 9223372036854775807 := by omega
    have hc2 : ¬ (9223372036854775807 < P1.size + B.size) := by omega
    have hB2 : Hid (Below w.heap.size w (w2.alloc (.cells #[.int .u8 p] 5))) := HB.out.alloc HB.out.size _
    have HNx : Hid (¬ m < 16 → HexI n (m / 16) (P1 ++ B)) := fun h => by rw [hP1d]; exact hexI_next HD.out h
    have HEn : Hid (m < 16 → P1 ++ B = R) := fun h => by rw [hP1d, HR.out]; exact hexI_end HD.out h
    have hm0 : (0 : Int) ≤ (m : Int) := by omega
    have hm1 : (m : Int) ≤ 1000000000 := by omega
    obtain ⟨Q, hQ⟩ : ∃ Q, Q = P1 ++ B := ⟨_, rfl⟩
    have hQs : Q.size ≤ 1000000002 := by rw [hQ, ByteArray.size_append, hP1s]; omega
    rw [← hQ] at HNx HEn
    have hc3 : ¬ (9223372036854775807 < ((⟨#[92, 120, 123]⟩ : ByteArray)).size + (P1 ++ B).size) := by rw [← hQ]; have : ((⟨#[92, 120, 123]⟩ : ByteArray)).size = 3 := rfl; omega
    have hc4 : ¬ (9223372036854775807 < ((⟨#[92, 120, 123]⟩ : ByteArray) ++ (P1 ++ B)).size + ((⟨#[125]⟩ : ByteArray)).size) := by rw [← hQ, ByteArray.size_append]; have : ((⟨#[92, 120, 123]⟩ : ByteArray)).size = 3 := rfl; have h2 : ((⟨#[125]⟩ : ByteArray)).size = 1 := rfl; omega
    have HQ := hide hQ
    clear hD hb hsz hmn hP1 hP1s hP1d hp hQ
    by_cases h0 : m < 16
    · have HE := hide (HEn.out h0)
      have b0 : (((m : Int) / 16) == 0) = true := by simp; omega
      have b1 : ((m : Int) / 16) = 0 := by omega
      clear HNx HEn
      go_wp2
      go_ret
      exact ⟨by rw [HS.out, ← HE.out, HQ.out]; rfl, hB2.out⟩
    · have HN := hide (HNx.out h0)
      have b0 : (((m : Int) / 16) == 0) = false := by simp; omega
      clear HNx HEn
      go_wp2
      go_roundw
      case rel => exact ⟨m / 16, _, by go_num, rfl, by rw [← HQ.out]; exact HN.out, hB2.out⟩
      case measure => simp [intOf]; omega

end Go.Proofs.YtpcohmbipbiglaaDoor

namespace Go.Proofs.YtpcohmbipbiglaaDoor
open Go.RowKit Go.Lib
set_option linter.unusedVariables false

set_option maxRecDepth 100000 in
theorem isPow16 (w : World) : Calls Tryd.prog 78 #[.int .i64 16] w fun e w' => e = .returned (.bool true) ∧ w' = w := by
  go_enter Tryd.func78, Tryd.ntmps78
  go_wp2
  go_ret
  exact ⟨rfl, rfl⟩
set_option maxRecDepth 100000 in
theorem tz16' (w : World) (h : w.cell? ⟨2, 15, none⟩ = some (.int .u8 4)) : Calls Tryd.prog 81 #[.int .u64 16] w fun e w' => e = .returned (.int .i64 4) ∧ w' = w := by
  have hA : bits BinOp.and IntKind.u64 16 (IntKind.u64.wrap (-16)) = 16 := by decide +kernel
  have hB : IntKind.u64.wrap (bits BinOp.and IntKind.u64 16 (IntKind.u64.wrap (-16)) * 285870213051353865) / 288230376151711744 = 15 := by rw [hA]; decide +kernel
  have h' : w.cell? ⟨2, (IntKind.u64.wrap (bits BinOp.and IntKind.u64 16 (IntKind.u64.wrap (-16)) * 285870213051353865) / 288230376151711744).toNat, none⟩ = some (.int .u8 4) := by rw [hB]; exact h
  clear hA hB
  go_enter Tryd.func81, Tryd.ntmps81
  go_wp2
  go_ret
  exact ⟨rfl, rfl⟩
set_option maxRecDepth 100000 in
theorem tz16 (w : World) (h : w.cell? ⟨2, 15, none⟩ = some (.int .u8 4)) : Calls Tryd.prog 79 #[.int .u64 16] w fun e w' => e = .returned (.int .i64 4) ∧ w' = w := by
  have HC := hide (tz16' w h)
  clear h
  go_enter Tryd.func79, Tryd.ntmps79
  go_wp2_with fail
  refine HC.out.mono ?_
  rintro e w' ⟨rfl, rfl⟩
  go_wp2
  go_ret
  exact ⟨rfl, rfl⟩

end Go.Proofs.YtpcohmbipbiglaaDoor

namespace Go.Proofs.YtpcohmbipbiglaaDoor
open Go.RowKit Go.Lib
set_option linter.unusedVariables false

theorem and15_u64 (x : Nat) (h : x < 9223372036854775808) : bits .and .u64 (x : Int) 15 = ((x % 16 : Nat) : Int) := by
  show IntKind.u64.wrap ((BitVec.ofInt 64 (x : Int) &&& BitVec.ofInt 64 ((15 : Nat) : Int)).toNat : Int) = _
  rw [BitVec.toNat_and, BitVec.ofInt_natCast, BitVec.ofInt_natCast, BitVec.toNat_ofNat, BitVec.toNat_ofNat, Nat.mod_eq_of_lt (by omega : x < 2 ^ 64)]
  have e : x &&& (15 % 2 ^ 64) = x % 16 := Nat.and_two_pow_sub_one_eq_mod x 4
  rw [e, IntKind.wrap_u64]
  omega

end Go.Proofs.YtpcohmbipbiglaaDoor

namespace Go.Proofs.YtpcohmbipbiglaaDoor
open Go.RowKit Go.Lib
set_option linter.unusedVariables false

theorem hex36_at (d : Nat) (h : d < 16) (W : World) : (Instr.index 9 (.string ⟨#[48, 49, 50, 51, 52, 53, 54, 55, 56, 57, 97, 98, 99, 100, 101, 102, 103, 104, 105, 106, 107, 108, 109, 110, 111, 112, 113, 114, 115, 116, 117, 118, 119, 120, 121, 122]⟩) (.int .u64 (d : Int))).run Tryd.prog W = .ok (.int .u8 ((hexD d).toNat : Int)) W := by
  have hs : (⟨#[48, 49, 50, 51, 52, 53, 54, 55, 56, 57, 97, 98, 99, 100, 101, 102, 103, 104, 105, 106, 107, 108, 109, 110, 111, 112, 113, 114, 115, 116, 117, 118, 119, 120, 121, 122]⟩ : ByteArray).size = 36 := rfl
  rw [run_index_string W 9 _ .u64 _ Tryd.underlying9, dif_pos ⟨by omega, by rw [hs]; omega⟩]
  rcases (by omega : d = 0 ∨ d = 1 ∨ d = 2 ∨ d = 3 ∨ d = 4 ∨ d = 5 ∨ d = 6 ∨ d = 7 ∨ d = 8 ∨ d = 9 ∨ d = 10 ∨ d = 11 ∨ d = 12 ∨ d = 13 ∨ d = 14 ∨ d = 15) with rfl | rfl | rfl | rfl | rfl | rfl | rfl | rfl | rfl | rfl | rfl | rfl | rfl | rfl | rfl | rfl <;> rfl
theorem nums_back (l : List UInt8) : strOfNums (l.map fun b => (b.toNat : Int)) = ⟨l.toArray⟩ := by
  have e : ((fun n : Int => UInt8.ofNat n.toNat) ∘ fun b : UInt8 => (b.toNat : Int)) = id := by funext b; simp
  unfold strOfNums
  rw [List.map_map, e, List.map_id]
/-- the digits laid at the end of the row. -/
structure FmI (n : Nat) (w wr : World) (m i : Nat) : Prop where
  B : ∃ (B : ByteArray) (arr : Array Value), HexI n m B ∧ i + B.size = 65 ∧ wr.heap[w.heap.size]? = some (.cells arr 101) ∧ arr.size = 65 ∧ (∀ j, j < B.size → arr[i + j]? = (B.data[j]?).map (fun b => Value.int .u8 (b.toNat : Int)))
  few : 59 ≤ i ∧ m * 16 ^ (65 - i) ≤ n
  bel : Below w.heap.size w wr
theorem FmI.put {n : Nat} {w wr : World} {m i2 : Nat} (h : FmI n w wr m (i2 + 1)) (hm : ¬ m < 16) (hn : n ≤ 1114111) : FmI n w (wr.setCell ⟨w.heap.size, i2, none⟩ (.int .u8 ((hexD (m % 16)).toNat : Int))) (m / 16) i2 := by
  obtain ⟨⟨B, arr, hD, hs, hx, ha, hc⟩, hf, hb⟩ := h
  refine ⟨⟨⟨#[hexD (m % 16)]⟩ ++ B, arr.setIfInBounds i2 (.int .u8 ((hexD (m % 16)).toNat : Int)), hexI_next hD hm, by rw [ByteArray.size_append]; have : (⟨#[hexD (m % 16)]⟩ : ByteArray).size = 1 := rfl; omega, set_one hx _ _, by simpa using ha, ?_⟩, ?_, hb.setCell (p := ⟨w.heap.size, i2, none⟩) (Nat.le_refl _) _⟩
  · intro j hj
    rw [ByteArray.data_append]
    cases j with
    | zero =>
      rw [Nat.add_zero, Array.getElem?_setIfInBounds_self_of_lt (by omega), Array.getElem?_append_left (by simp)]
      rfl
    | succ j =>
      have hj2 : j < B.size := by
        rw [ByteArray.size_append] at hj
        have : (⟨#[hexD (m % 16)]⟩ : ByteArray).size = 1 := rfl
        omega
      have := hc j hj2
      rw [Array.getElem?_setIfInBounds_ne (by omega), show i2 + (j + 1) = i2 + 1 + j by omega, this, Array.getElem?_append_right (by simp)]
      simp
  · have h1 := hf.2
    have h2 : i2 + 1 ≠ 59 := fun e => by
      rw [e] at h1
      have : m * 16 ^ (65 - 59) = m * 16777216 := rfl
      omega
    refine ⟨by have := hf.1; omega, ?_⟩
    rw [show 65 - i2 = (65 - (i2 + 1)) + 1 by omega, Nat.pow_succ, Nat.mul_comm (16 ^ _) 16, ← Nat.mul_assoc]
    exact Nat.le_trans (Nat.mul_le_mul_right _ (Nat.div_mul_le_self m 16)) h1

theorem put_cells {B : ByteArray} {arr : Array Value} {i2 : Nat} (x : UInt8) (hs : i2 + 1 + B.size = 65) (ha : arr.size = 65) (hc : ∀ j, j < B.size → arr[i2 + 1 + j]? = (B.data[j]?).map (fun b => Value.int .u8 (b.toNat : Int))) : ∀ j, j < 65 - i2 → (arr.setIfInBounds i2 (.int .u8 (x.toNat : Int)))[i2 + j]? = ((#[x] ++ B.data)[j]?).map (fun b => Value.int .u8 (b.toNat : Int)) := by
  intro j hj
  cases j with
  | zero =>
    rw [Nat.add_zero, Array.getElem?_setIfInBounds_self_of_lt (by omega), Array.getElem?_append_left (by simp)]
    rfl
  | succ j =>
    have := hc j (by omega)
    rw [Array.getElem?_setIfInBounds_ne (by omega), show i2 + (j + 1) = i2 + 1 + j by omega, this, Array.getElem?_append_right (by simp)]
    simp
theorem FmI.fin {n : Nat} {w wr : World} {m i2 : Nat} (h : FmI n w wr m (i2 + 1)) (hm : m < 16) : (convert 49 9 (.slice (some ⟨w.heap.size, i2, none⟩) (65 - i2) (65 - i2))).run Tryd.prog (wr.setCell ⟨w.heap.size, i2, none⟩ (.int .u8 ((hexD m).toNat : Int))) = .ok (.string ⟨(hexDigits n).toArray⟩) (wr.setCell ⟨w.heap.size, i2, none⟩ (.int .u8 ((hexD m).toNat : Int))) := by
  obtain ⟨⟨B, arr, hD, hs, hx, ha, hc⟩, hf, hb⟩ := h
  have hE := hexI_end hD hm
  rw [Nat.mod_eq_of_lt hm] at hE
  have hP := put_cells (hexD m) hs ha hc
  have hl : (#[hexD m] ++ B.data).size = 65 - i2 := by
    have : B.data.size = B.size := rfl
    rw [Array.size_append, this]
    simp
    omega
  have hR := run_convert_bytes_arg (P := Tryd.prog) (wr.setCell ⟨w.heap.size, i2, none⟩ (.int .u8 ((hexD m).toNat : Int))) 49 5 Tryd.underlying49 Tryd.underlying5 w.heap.size i2 (65 - i2) (65 - i2) ((#[hexD m] ++ B.data).toList.map fun b => (b.toNat : Int)) (by rw [List.length_map, Array.length_toList, hl]) (fun j hj => by
    have := hP j hj
    simp only [World.cell?, set_one hx]
    rw [this, Array.getElem?_eq_getElem (by omega)]
    simp only [List.getD, List.getElem?_map, Array.getElem?_toList, Array.getElem?_eq_getElem (show j < (#[hexD m] ++ B.data).size by omega)]
    rfl) 9 Tryd.underlying9
  have e : (⟨(#[hexD m] ++ B.data).toList.toArray⟩ : ByteArray) = ⟨#[hexD m]⟩ ++ B := ByteArray.ext (by rw [ByteArray.data_append])
  rw [nums_back, e, hE] at hR
  exact hR

set_option maxRecDepth 100000 in
set_option maxHeartbeats 4000000 in
theorem formatBits16 (n : Nat) (hn : n ≤ 1114111) (w : World) (h : w.cell? ⟨2, 15, none⟩ = some (.int .u8 4)) : Calls Tryd.prog 74 #[.slice none 0 0, .int .u64 (n : Int), .int .i64 16, .bool false, .bool false] w fun e w' => e = .returned (.tuple #[.slice none 0 0, .string ⟨(hexDigits n).toArray⟩]) ∧ Below w.heap.size w w' := by
  have HT := hide (fun W (hW : Below w.heap.size w W) => tz16 W (below_cell hW (lt_of_cell h) h))
  have HI := hide (fun W => isPow16 W)
  have hb1 : Below w.heap.size w (w.alloc (.cells Tryd.zeroCells101 101)) := (Below.refl _ w).alloc (Nat.le_refl _) _
  obtain ⟨w1, hw1⟩ : ∃ w1, w1 = w.alloc (.cells Tryd.zeroCells101 101) := ⟨_, rfl⟩
  have HX1 : Hid (w1.heap[w.heap.size]? = some (.cells Tryd.zeroCells101 101)) := by show _ = _; rw [hw1]; exact at_new _ _
  rw [← hw1] at hb1
  have HB1 := hide hb1
  clear h hb1
  go_enter Tryd.func74, Tryd.ntmps74
  go_wp2_with fail
  rw [← hw1]
  clear hw1
  refine (HI.out _).mono ?_
  rintro e w2 ⟨rfl, hh⟩
  subst hh
  go_wp2_with fail
  refine (HT.out _ HB1.out).mono ?_
  rintro e w3 ⟨rfl, hh⟩
  subst hh
  go_wp2
  go_loopw [1, 13] (fun u iv wr => ∃ (m i : Nat), u = .int .u64 (m : Int) ∧ iv = .int .i64 (i : Int) ∧ FmI n w wr m i) (fun u _ _ => (intOf u).toNat)
  case atStart => exact ⟨n, 65, rfl, rfl, ⟨⟨⟨#[]⟩, _, ⟨by simp, Nat.le_refl _⟩, rfl, HX1.out, by kernel_rfl, fun j hj => absurd hj (Nat.not_lt_zero _)⟩, ⟨by omega, by simp⟩, HB1.out⟩⟩
  case round =>
    obtain ⟨m, i, rfl, rfl, hF⟩ := hrel
    obtain ⟨w4, hw4⟩ : ∃ w4, w4 = wr := ⟨_, rfl⟩
    subst hw4
    have HF := hide hF
    obtain ⟨⟨B, arr, hD, hs, hx, ha, hc⟩, hf, hb⟩ := hF
    have hmn := hD.2
    obtain ⟨i2, rfl⟩ : ∃ i2, i = i2 + 1 := ⟨i - 1, by omega⟩
    have hi2 : i2 < 65 := by omega
    have hie : ((i2 + 1 : Nat) : Int) - 1 = (i2 : Int) := by omega
    have hia : (0 : Int) ≤ (i2 : Int) := by omega
    have hib : (i2 : Int) < 65 := by omega
    have hil : (i2 : Int) ≤ 65 := by omega
    have hne : ¬ 65 = i2 := by omega
    obtain ⟨old, hold⟩ : ∃ old, w4.cell? ⟨w.heap.size, i2, none⟩ = some old := ⟨arr[i2]'(by omega), by simp [World.cell?, hx, ha, hi2]⟩
    have hfr : ∀ o, w4.frozen? ⟨w.heap.size, o, none⟩ = false := fun o => by simp [World.frozen?, hx]
    clear hD hs hx ha hc hf hb B arr
    by_cases h16 : 16 ≤ m
    · have e1 : (16 : Int) ≤ (m : Int) := by omega
      obtain ⟨r, hr⟩ : ∃ r, r = m % 16 := ⟨_, rfl⟩
      have hand := and15_u64 m (by omega)
      have hix := hex36_at r (by omega)
      rw [← hr] at hand
      have HN := hide (HF.out.put (by omega) hn)
      rw [← hr] at HN
      obtain ⟨p, hp⟩ : ∃ p : Int, p = ((hexD r).toNat : Int) := ⟨_, rfl⟩
      rw [← hp] at HN hix
      clear hr hp HF
      go_wp2
      go_roundw
      case rel => exact ⟨m / 16, i2, by go_num, rfl, HN.out⟩
      case measure => simp [intOf]; omega
    · have e1 : ¬ (16 : Int) ≤ (m : Int) := by omega
      have hix := hex36_at m (by omega)
      have hcv := HF.out.fin (by omega)
      have HBw : Hid (Below w.heap.size w (w4.setCell ⟨w.heap.size, i2, none⟩ (.int .u8 ((hexD m).toNat : Int)))) := HF.out.bel.setCell (p := ⟨w.heap.size, i2, none⟩) (Nat.le_refl _) _
      obtain ⟨p, hp⟩ : ∃ p : Int, p = ((hexD m).toNat : Int) := ⟨_, rfl⟩
      rw [← hp] at hix hcv HBw
      obtain ⟨RS, hRS⟩ : ∃ RS : ByteArray, RS = ⟨(hexDigits n).toArray⟩ := ⟨_, rfl⟩
      rw [← hRS] at hcv
      have HRS := hide hRS
      clear hp hRS HF
      go_wp2
      go_ret2
      exact ⟨by rw [← HRS.out]; rfl, HBw.out⟩

end Go.Proofs.YtpcohmbipbiglaaDoor

namespace Go.Proofs.YtpcohmbipbiglaaDoor
open Go.RowKit Go.Lib
set_option linter.unusedVariables false

set_option maxRecDepth 100000 in
set_option maxHeartbeats 2000000 in
theorem fmtInt16' (n : Nat) (hn : n ≤ 1114111) (w : World) (h : w.cell? ⟨2, 15, none⟩ = some (.int .u8 4)) : Calls Tryd.prog 68 #[.int .i64 (n : Int), .int .i64 16] w fun e w' => e = .returned (.string ⟨(hexDigits n).toArray⟩) ∧ Below w.heap.size w w' := by
  have HC := hide (formatBits16 n hn w h)
  have e1 : ¬ (n : Int) < 0 := by omega
  have e2 : IntKind.u64.wrap (n : Int) = (n : Int) := by rw [IntKind.wrap_u64]; omega
  have e3 : (n : Int) ≤ 1114111 := by omega
  clear h
  go_enter Tryd.func68, Tryd.ntmps68
  go_wp2_with fail
  refine HC.out.mono ?_
  rintro e w' ⟨rfl, hb⟩
  have HB := hide hb
  clear hb
  go_wp2
  go_ret
  exact ⟨rfl, HB.out⟩
set_option maxRecDepth 100000 in
theorem fmtInt16 (n : Nat) (hn : n ≤ 1114111) (w : World) (h : w.cell? ⟨2, 15, none⟩ = some (.int .u8 4)) : Calls Tryd.prog 62 #[.int .i64 (n : Int), .int .i64 16] w fun e w' => e = .returned (.string ⟨(hexDigits n).toArray⟩) ∧ Below w.heap.size w w' := by
  have HC := hide (fmtInt16' n hn w h)
  clear h
  go_enter Tryd.func62, Tryd.ntmps62
  go_wp2_with fail
  refine HC.out.mono ?_
  rintro e w' ⟨rfl, hb⟩
  have HB := hide hb
  clear hb
  go_wp2
  go_ret
  exact ⟨rfl, HB.out⟩
set_option maxRecDepth 100000 in
theorem hex_any (n : Nat) (hn : n ≤ 1114111) (w : World) (h : w.cell? ⟨2, 15, none⟩ = some (.int .u8 4)) : Calls Tryd.prog 53 #[.int .i64 (n : Int)] w fun e w' => e = .returned (.string ⟨(hexDigits n).toArray⟩) ∧ Below w.heap.size w w' := by
  have HC := hide (fmtInt16 n hn w h)
  clear h
  go_enter Tryd.func53, Tryd.ntmps53
  go_wp2_with fail
  refine HC.out.mono ?_
  rintro e w' ⟨rfl, hb⟩
  have HB := hide hb
  clear hb
  go_wp2
  go_ret
  exact ⟨rfl, HB.out⟩

end Go.Proofs.YtpcohmbipbiglaaDoor
