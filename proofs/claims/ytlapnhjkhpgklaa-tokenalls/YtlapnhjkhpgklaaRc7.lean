/- The reference's Escaped: x, without braces. -/
import Derived.Test.YtlapnhjkhpgklaaRc6
import Derived.Test.YtlapnhjkhpgklaaRg2
namespace Go.Proofs.Ytlapnhjkhpgklaa
open Go.RowKit
set_option linter.unusedVariables false

set_option maxRecDepth 100000 in
set_option maxHeartbeats 40000000 in
theorem esc_x0 (x : Addr) (c : Nat) (l : List Int) (i : Nat) (w : World) (h : ReadsI w x l) (hi : i < l.length) (hl : l.length ≤ 300) (hcap : l.length ≤ c) (hpts : ∀ p ∈ l, 0 ≤ p ∧ p ≤ 1114111) (hx : l[i] = 120) (hbr : says l (i + 1) [123] = false) : Calls Try.prog 20 #[.int .i64 1, .slice (some x) l.length c, .int .i64 i] w fun e w' => NextE (escT 1 l i) w e w' := by
  have hb3 := three_belowE w (.cells #[.slice (some x) l.length c] 22) (.cells #[.int .i64 i] 3) (tokO {})
  have hA := escA_first w x l.length c i (((i : Nat) : Int) + 1)
  obtain ⟨w0, hw0⟩ : ∃ w0, w0 = ((w.alloc (.cells #[.slice (some x) l.length c] 22)).alloc (.cells #[.int .i64 i] 3)).alloc (tokO {}) := ⟨_, rfl⟩
  have HB0 : Hid (Below w.heap.size w w0) := by show Below _ _ _; rw [hw0]; exact hb3
  have HZ0 : Hid (w0.heap.size = w.heap.size + 3) := by show _ = _; rw [hw0]; simp
  have C5 : w0.cell? ⟨w.heap.size + 1, 0, none⟩ = some (.int .i64 i) := by rw [hw0]; exact below_cellT ((Below.refl _ _).alloc (Nat.le_refl _) _) (World.cell?_alloc1 w _ _ 0 _ rfl)
  rw [← hw0] at hA
  have hC := escC_first w x l.length c i (((i : Nat) : Int) + 1) hA (by simp [HZ0.out])
  have HP := hide (pointAt_any x c l i w0 (h.belowB HB0.out))
  have hpi := hpts l[i] (List.getElem_mem _)
  have HCi : Hid (∀ W, Below w.heap.size w W → W.cell? (x.add i) = some (.int .i64 l[i])) := fun W hW => h.belowB hW i hi
  rw [ptA_in hi] at HP
  have HLi : Hid (l[i]? = some l[i]) := List.getElem?_eq_getElem hi
  have hs : ∀ z : Int, 0 ≤ z → says l i [z] = decide (l[i] = z) := fun z hz => by rw [says_pt l i z hz, ptA_in hi]
  have HRd := hide (fun W (hW : Below w.heap.size w W) => h.belowB hW)
  have HI : Hid (∀ (k : Int) W, EscC w x l.length c i k W → ∀ (u : UInt8) (z : Int), z = (u.toNat : Int) → Calls Try.prog 30 #[.string ⟨#[u]⟩, .pointer (some ⟨w.heap.size, 0, none⟩), .pointer (some ⟨w.heap.size + 1, 0, none⟩)] W fun e w' => e = .returned (.bool (decide (l[i] = z))) ∧ EscC w x l.length c i k w') := fun k W hW u z hz => by
    have := isE_any x c l i _ _ u z hz W (h.belowB hW.a.below) hW.a.sl hW.a.at_ (by omega) (by omega)
    rw [hs z (by omega)] at this
    exact this.mono (by rintro e w' ⟨rfl, hb⟩; exact ⟨rfl, hW.on hb⟩)
  have HLk : Hid (∀ (kk k : Int) W, EscC w x l.length c i k W → Calls Try.prog 31 #[.int .i64 kk, .pointer (some ⟨w.heap.size + 3, 0, none⟩)] W fun e w' => e = .returned (.tuple #[tokV (lookT kk), .int .i64 k, .int .i64 0]) ∧ EscC w x l.length c i k w') := fun kk k W hW => (lookE_any kk k _ W hW.a.next).mono (by rintro e w' ⟨rfl, hb⟩; exact ⟨rfl, hW.on hb⟩)
  have HPt : Hid (∀ (q k : Int) W, EscC w x l.length c i k W → Calls Try.prog 23 #[.int .i64 q] W fun e w' => e = .returned (tokV (pointT q)) ∧ EscC w x l.length c i k w') := fun q k W hW => (ptok_any q W).mono (by rintro e w' ⟨rfl, hb⟩; exact ⟨rfl, hW.on hb⟩)
  have HSs := hide (fun W (hW : Below w.heap.size w W) (j2 : Nat) (hj : j2 ≤ 900) (u : UInt8) (z : Int) (hz : z = (u.toNat : Int)) => says1_b x c l j2 u z hz W (h.belowB hW) (by omega) (by omega))
  have HI2 : Hid (∀ (k : Int) W, EscC w x l.length c i k W → Calls Try.prog 30 #[.string ⟨#[120, 123]⟩, .pointer (some ⟨w.heap.size, 0, none⟩), .pointer (some ⟨w.heap.size + 1, 0, none⟩)] W fun e w' => e = .returned (.bool (says l i [120, 123])) ∧ EscC w x l.length c i k w') := fun k W hW => (isE2_any x c l i _ _ 120 123 120 123 rfl rfl W (h.belowB hW.a.below) hW.a.sl hW.a.at_ (by omega) (by omega)).mono (by rintro e w' ⟨rfl, hb⟩; exact ⟨rfl, hW.on hb⟩)
  have HRg : Hid (∀ j, -1 ≤ ptA l j ∧ ptA l j ≤ 1114111) := fun j => by
    by_cases hj : j < l.length
    · rw [ptA_in hj]; have := hpts l[j] (List.getElem_mem _); omega
    · rw [ptA_out hj]; omega
  have HS2 : Hid (says l i [120, 123] = false) := by
    show _ = _
    rw [says_two, hs 120 (by omega), hx, hbr]; rfl
  have HBr := hide hbr
  obtain ⟨p, hp⟩ : ∃ p, p = l[i] := ⟨_, rfl⟩
  rw [← hp] at HP hpi HCi HLi HI hx
  obtain ⟨n, hn⟩ : ∃ n, n = l.length := ⟨_, rfl⟩
  have HN := hide hn
  rw [← hn] at HP hw0 hl hi hA hC hcap HI HLk HPt HSs HI2 ⊢
  simp only [tokO] at hw0
  clear h hb3 hp hpts hs
  clear hbr
  subst hx
  clear hn
  obtain ⟨w1, hw1⟩ : ∃ w1, w1 = (w0.alloc (.cells #[.int .i64 (((i : Nat) : Int) + 1)] 3)).alloc (.cells #[.string ⟨#[100]⟩, .string ⟨#[100, 105, 103, 105, 116]⟩, .string ⟨#[119]⟩, .string ⟨#[119, 111, 114, 100]⟩, .string ⟨#[115]⟩, .string ⟨#[115, 112, 97, 99, 101]⟩, .string ⟨#[104]⟩, .string ⟨#[120, 100, 105, 103, 105, 116]⟩] 9) := ⟨_, rfl⟩
  rw [show (w0.alloc (.cells #[.int .i64 (((i : Nat) : Int) + 1)] 3)).alloc clsO = w1 from hw1.symm] at hC
  have A1 := hide hC
  clear hA hC
  go_enter Try.func20, Try.ntmps20
  go_wp2_with fail
  rw [← hw0]
  clear hw0
  refine HP.out.mono ?_
  rintro e w2 ⟨rfl, rfl⟩
  have hz := HZ0.out
  skip
  go_wp2
  rw [← hw1]
  clear hw1 hz C5 HP HB0 HZ0
  go_loopw [13] (fun s wr => ∃ r : Nat, r ≤ 8 ∧ r % 2 = 0 ∧ s = .int .i64 r ∧ EscC w x n c i ((i : Int) + 1) wr) (fun s _ => 8 - (intOf s).toNat)
  case atStart => exact ⟨0, by omega, rfl, rfl, A1.out⟩
  case round =>
    obtain ⟨r, hr, he, rfl, hA⟩ := hrel
    have A3 := hide hA
    clear hA A1
    match r, hr, he with
    | 0, _, _ =>
      have ck := cls_cell A3.out.cls 0 _ rfl
      have A4 := hide (A3.out.alloc (.cells #[.int .u8 68] 5))
      have ck2 := cls_cell A4.out.cls 0 _ rfl
      have hX : (((((⟨#[100]⟩ : ByteArray)[0]'(by show 0 < 1; omega)).toNat : Int)) - 32) % 256 = 68 := rfl
      have hcv : (convert 57 9 (.slice (some ⟨wr.heap.size, 0, none⟩) 1 1)).run Try.prog (wr.alloc (.cells #[.int .u8 68] 5)) = .ok (.string ⟨#[68]⟩) (wr.alloc (.cells #[.int .u8 68] 5)) := conv_own (B := wr.heap.size) (n := 1) (l := [68]) (World.ownsRow_lit (base := wr.heap.size) (e := 5) (size := 1) wr #[.int .u8 68] 1 (Nat.le_refl _) (by unfold maxLen; omega) rfl)
      clear A3
      go_wp2_with fail
      refine (HI.out _ _ A4.out 100 100 rfl).mono ?_
      rintro e w5 ⟨rfl, A5⟩
      have A5 := hide A5
      clear A4 ck ck2 hX hcv
      rw [decide_eq_false (by decide)]
      go_wp2_with fail
      refine (HI.out _ _ A5.out 68 68 rfl).mono ?_
      rintro e w6 ⟨rfl, A6⟩
      have A6 := hide A6
      clear A5
      rw [decide_eq_false (by decide)]
      go_wp2
      go_roundw
      case rel => exact ⟨2, by omega, rfl, rfl, A6.out⟩
      case measure => simp [intOf]
    | 2, _, _ =>
      have ck := cls_cell A3.out.cls 2 _ rfl
      have A4 := hide (A3.out.alloc (.cells #[.int .u8 87] 5))
      have ck2 := cls_cell A4.out.cls 2 _ rfl
      have hX : (((((⟨#[119]⟩ : ByteArray)[0]'(by show 0 < 1; omega)).toNat : Int)) - 32) % 256 = 87 := rfl
      have hcv : (convert 57 9 (.slice (some ⟨wr.heap.size, 0, none⟩) 1 1)).run Try.prog (wr.alloc (.cells #[.int .u8 87] 5)) = .ok (.string ⟨#[87]⟩) (wr.alloc (.cells #[.int .u8 87] 5)) := conv_own (B := wr.heap.size) (n := 1) (l := [87]) (World.ownsRow_lit (base := wr.heap.size) (e := 5) (size := 1) wr #[.int .u8 87] 1 (Nat.le_refl _) (by unfold maxLen; omega) rfl)
      clear A3
      go_wp2_with fail
      refine (HI.out _ _ A4.out 119 119 rfl).mono ?_
      rintro e w5 ⟨rfl, A5⟩
      have A5 := hide A5
      clear A4 ck ck2 hX hcv
      rw [decide_eq_false (by decide)]
      go_wp2_with fail
      refine (HI.out _ _ A5.out 87 87 rfl).mono ?_
      rintro e w6 ⟨rfl, A6⟩
      have A6 := hide A6
      clear A5
      rw [decide_eq_false (by decide)]
      go_wp2
      go_roundw
      case rel => exact ⟨4, by omega, rfl, rfl, A6.out⟩
      case measure => simp [intOf]
    | 4, _, _ =>
      have ck := cls_cell A3.out.cls 4 _ rfl
      have A4 := hide (A3.out.alloc (.cells #[.int .u8 83] 5))
      have ck2 := cls_cell A4.out.cls 4 _ rfl
      have hX : (((((⟨#[115]⟩ : ByteArray)[0]'(by show 0 < 1; omega)).toNat : Int)) - 32) % 256 = 83 := rfl
      have hcv : (convert 57 9 (.slice (some ⟨wr.heap.size, 0, none⟩) 1 1)).run Try.prog (wr.alloc (.cells #[.int .u8 83] 5)) = .ok (.string ⟨#[83]⟩) (wr.alloc (.cells #[.int .u8 83] 5)) := conv_own (B := wr.heap.size) (n := 1) (l := [83]) (World.ownsRow_lit (base := wr.heap.size) (e := 5) (size := 1) wr #[.int .u8 83] 1 (Nat.le_refl _) (by unfold maxLen; omega) rfl)
      clear A3
      go_wp2_with fail
      refine (HI.out _ _ A4.out 115 115 rfl).mono ?_
      rintro e w5 ⟨rfl, A5⟩
      have A5 := hide A5
      clear A4 ck ck2 hX hcv
      rw [decide_eq_false (by decide)]
      go_wp2_with fail
      refine (HI.out _ _ A5.out 83 83 rfl).mono ?_
      rintro e w6 ⟨rfl, A6⟩
      have A6 := hide A6
      clear A5
      rw [decide_eq_false (by decide)]
      go_wp2
      go_roundw
      case rel => exact ⟨6, by omega, rfl, rfl, A6.out⟩
      case measure => simp [intOf]
    | 6, _, _ =>
      have ck := cls_cell A3.out.cls 6 _ rfl
      have A4 := hide (A3.out.alloc (.cells #[.int .u8 72] 5))
      have ck2 := cls_cell A4.out.cls 6 _ rfl
      have hX : (((((⟨#[104]⟩ : ByteArray)[0]'(by show 0 < 1; omega)).toNat : Int)) - 32) % 256 = 72 := rfl
      have hcv : (convert 57 9 (.slice (some ⟨wr.heap.size, 0, none⟩) 1 1)).run Try.prog (wr.alloc (.cells #[.int .u8 72] 5)) = .ok (.string ⟨#[72]⟩) (wr.alloc (.cells #[.int .u8 72] 5)) := conv_own (B := wr.heap.size) (n := 1) (l := [72]) (World.ownsRow_lit (base := wr.heap.size) (e := 5) (size := 1) wr #[.int .u8 72] 1 (Nat.le_refl _) (by unfold maxLen; omega) rfl)
      clear A3
      go_wp2_with fail
      refine (HI.out _ _ A4.out 104 104 rfl).mono ?_
      rintro e w5 ⟨rfl, A5⟩
      have A5 := hide A5
      clear A4 ck ck2 hX hcv
      rw [decide_eq_false (by decide)]
      go_wp2_with fail
      refine (HI.out _ _ A5.out 72 72 rfl).mono ?_
      rintro e w6 ⟨rfl, A6⟩
      have A6 := hide A6
      clear A5
      rw [decide_eq_false (by decide)]
      go_wp2
      go_roundw
      case rel => exact ⟨8, by omega, rfl, rfl, A6.out⟩
      case measure => simp [intOf]
    | 8, _, _ =>
      obtain ⟨w4, hw4⟩ : ∃ w4, w4 = wr := ⟨_, rfl⟩
      subst hw4
      have A4 := A3
      clear A3
      go_wp2_with fail
      refine (HI.out _ _ A4.out 98 98 rfl).mono ?_
      rintro e w5 ⟨rfl, A5⟩
      have A5 := hide A5
      clear A4
      rw [decide_eq_false (by decide)]
      go_wp2_with fail
      refine (HI.out _ _ A5.out 66 66 rfl).mono ?_
      rintro e w6 ⟨rfl, A6⟩
      have A6 := hide A6
      clear A5
      rw [decide_eq_false (by decide)]
      go_wp2_with fail
      refine (HI.out _ _ A6.out 65 65 rfl).mono ?_
      rintro e w7 ⟨rfl, A7⟩
      have A7 := hide A7
      clear A6
      rw [decide_eq_false (by decide)]
      go_wp2_with fail
      refine (HI.out _ _ A7.out 122 122 rfl).mono ?_
      rintro e w8 ⟨rfl, A8⟩
      have A8 := hide A8
      clear A7
      rw [decide_eq_false (by decide)]
      obtain ⟨w9, hw9⟩ : ∃ w', w' = w8.alloc (.cells #[.int .i64 110, .int .i64 10, .int .i64 116, .int .i64 9, .int .i64 114, .int .i64 13, .int .i64 102, .int .i64 12, .int .i64 118, .int .i64 11, .int .i64 97, .int .i64 7, .int .i64 101, .int .i64 27] 3) := ⟨_, rfl⟩
      have hK9 : w9.heap[w8.heap.size]? = some ctlO := by rw [hw9]; exact at_new _ _
      have A9 := hide (A8.out.alloc (.cells #[.int .i64 110, .int .i64 10, .int .i64 116, .int .i64 9, .int .i64 114, .int .i64 13, .int .i64 102, .int .i64 12, .int .i64 118, .int .i64 11, .int .i64 97, .int .i64 7, .int .i64 101, .int .i64 27] 3))
      rw [← hw9] at A9
      obtain ⟨M, hM⟩ : ∃ M, M = w8.heap.size := ⟨_, rfl⟩
      rw [← hM] at hK9
      have HM := hide hM
      have HK := hide hK9
      clear A8 hM hK9
      go_wp2
      rw [← hw9, ← HM.out]
      clear hw9 HM
      go_loopw [21] (fun s wr => ∃ r : Nat, r ≤ 14 ∧ r % 2 = 0 ∧ s = .int .i64 r ∧ noK 120 r ∧ wr = w9) (fun s _ => 14 - (intOf s).toNat)
      case atStart => exact ⟨0, by omega, rfl, rfl, noK_zero _, rfl⟩
      case round =>
        obtain ⟨r, hr, he, rfl, hnk, hwr⟩ := hrel
        have hwr2 := hwr.symm
        subst hwr2
        have HNk := hide hnk
        clear hnk
        match r, hr, he with
        | 0, _, _ =>
          have kc := ctl_cell HK.out 0 _ rfl
          go_wp2
          go_roundw
          case rel => exact ⟨2, by omega, rfl, rfl, noK_next0 HNk.out (by decide), by first | rfl | trivial⟩
          case measure => simp [intOf]
        | 2, _, _ =>
          have kc := ctl_cell HK.out 2 _ rfl
          go_wp2
          go_roundw
          case rel => exact ⟨4, by omega, rfl, rfl, noK_next2 HNk.out (by decide), by first | rfl | trivial⟩
          case measure => simp [intOf]
        | 4, _, _ =>
          have kc := ctl_cell HK.out 4 _ rfl
          go_wp2
          go_roundw
          case rel => exact ⟨6, by omega, rfl, rfl, noK_next4 HNk.out (by decide), by first | rfl | trivial⟩
          case measure => simp [intOf]
        | 6, _, _ =>
          have kc := ctl_cell HK.out 6 _ rfl
          go_wp2
          go_roundw
          case rel => exact ⟨8, by omega, rfl, rfl, noK_next6 HNk.out (by decide), by first | rfl | trivial⟩
          case measure => simp [intOf]
        | 8, _, _ =>
          have kc := ctl_cell HK.out 8 _ rfl
          go_wp2
          go_roundw
          case rel => exact ⟨10, by omega, rfl, rfl, noK_next8 HNk.out (by decide), by first | rfl | trivial⟩
          case measure => simp [intOf]
        | 10, _, _ =>
          have kc := ctl_cell HK.out 10 _ rfl
          go_wp2
          go_roundw
          case rel => exact ⟨12, by omega, rfl, rfl, noK_next10 HNk.out (by decide), by first | rfl | trivial⟩
          case measure => simp [intOf]
        | 12, _, _ =>
          have kc := ctl_cell HK.out 12 _ rfl
          go_wp2
          go_roundw
          case rel => exact ⟨14, by omega, rfl, rfl, noK_next12 HNk.out (by decide), by first | rfl | trivial⟩
          case measure => simp [intOf]
        | 14, _, _ =>
          have hE0 := hide (esc1_rest HLi.out rfl (by decide) (by decide) (by decide) (by decide))
          rw [if_pos rfl] at hE0
          have HBt := hide (betw_any 120 49 57 w9)
          rw [show (decide ((49 : Int) ≤ 120) && decide ((120 : Int) ≤ 57)) = false from by decide] at HBt
          go_wp2_with fail
          refine HBt.out.mono ?_
          rintro e w' ⟨rfl, rfl⟩
          clear HBt
          go_wp2_with fail
          refine (HI.out _ _ A9.out 120 120 rfl).mono ?_
          rintro e w10 ⟨rfl, A10⟩
          have A10 := hide A10
          clear A9
          rw [decide_eq_true rfl]
          go_wp2_with fail
          refine (HI2.out _ _ A10.out).mono ?_
          rintro e w11 ⟨rfl, A11⟩
          have A11 := hide A11
          clear A10
          rw [HS2.out]
          go_wp2_with fail
          refine (HI.out _ _ A11.out 117 117 rfl).mono ?_
          rintro e w12 ⟨rfl, A12⟩
          have A12 := hide A12
          clear A11
          rw [decide_eq_false (by decide)]
          go_wp2
          go_loopw [27, 28] (fun s t wr => ∃ (m : Nat) (v : Int), s = .int .i64 v ∧ t = .int .i64 m ∧ DigR 16 2 l (i + 1) m v ∧ EscC w x n c i ((i + 1 + m : Nat) : Int) wr) (fun _ t _ => 2 - (intOf t).toNat)
          case atStart => exact ⟨0, 0, rfl, rfl, digR_start 16 2 l (i + 1) (by have := HN.out; omega), by have := A12.out; rw [show (((i + 1 + 0 : Nat)) : Int) = (i : Int) + 1 from by omega]; exact this⟩
          case round =>
            obtain ⟨m, v, rfl, rfl, hd, hA⟩ := hrel
            have A20 := hide hA
            have HD := hide hd
            have hnb := digR_bound hd (by omega)
            have hn0 := hd.n0
            have hk1 := hd.k1
            have hk2 := hd.k2
            have hpw := hd.n1
            clear hA hd A12
            obtain ⟨j, hj⟩ : ∃ j, j = i + 1 + m := ⟨_, rfl⟩
            have HJ := hide hj
            rw [← hj] at A20 hk2
            have hjn : j ≤ n := by have := HN.out; omega
            clear hj hk2
            obtain ⟨w20, hw20⟩ : ∃ w20, w20 = wr := ⟨_, rfl⟩
            subst hw20
            by_cases hlt : m < 2
            · have e1 : (m : Int) < 2 := by omega
              have HP := hide (pointAt_any x c l j w20 (HRd.out w20 A20.out.a.below))
              rw [← HN.out] at HP
              have hrg := hide (HRg.out j)
              have HG := hide (hexOf_any (ptA l j) w20 hrg.out.1 hrg.out.2)
              have m4 := A20.out.a.sl
              have m5 := A20.out.a.next
              by_cases hx0 : 0 ≤ hexV (ptA l j)
              · obtain ⟨hjl, d1, d2⟩ := hexV_yes hx0
                have cj := HRd.out w20 A20.out.a.below j hjl
                have hnx : Hid (DigR 16 2 l (i + 1) (m + 1) (16 * v + hexV (ptA l j))) := by
                  have hJ := HJ.out
                  subst hJ
                  have h1 := digR_next HD.out (.inr rfl) hlt hjl d1
                  rw [show v * 16 + digV l[i + 1 + m] = 16 * v + hexV (ptA l (i + 1 + m)) from by rw [d2]; omega] at h1
                  exact h1
                have hhv : hexV (ptA l j) ≤ 16 := by rw [d2]; exact (digV_rng _).2
                have hpj : ptA l j = l[j] := ptA_in hjl
                rw [← hpj] at cj
                obtain ⟨q, hq⟩ : ∃ q, q = ptA l j := ⟨_, rfl⟩
                rw [← hq] at HP HG cj hnx hx0 hhv
                obtain ⟨hv, hhq⟩ : ∃ hv, hv = hexV q := ⟨_, rfl⟩
                rw [← hhq] at HG hnx hx0 hhv
                have e2 : (j : Int) < (n : Int) := by have := HN.out; omega
                have e0 : (0 : Int) ≤ (j : Int) := by omega
                have fr := A20.out.a.nfree
                have hw1 : IntKind.i64.wrap (16 * v) = 16 * v := by rw [IntKind.wrap_i64]; omega
                have hw2 : IntKind.i64.wrap (16 * v + hv) = 16 * v + hv := by rw [IntKind.wrap_i64]; omega
                have hA21 := hide (A20.out.store ((j : Int) + 1))
                clear d1 d2 hq hpj hjl hhq hlt hpw
                go_wp2_with fail
                refine HP.out.mono ?_
                rintro e w' ⟨rfl, hww⟩
                have hww2 := hww.symm
                subst hww2
                go_wp2_with fail
                refine HG.out.mono ?_
                rintro e w' ⟨rfl, rfl⟩
                go_wp2_with fail
                refine HG.out.mono ?_
                rintro e w' ⟨rfl, rfl⟩
                go_wp2
                go_roundw
                case rel => exact ⟨m + 1, _, rfl, by go_num, hnx.out, by rw [show (((i + 1 + (m + 1) : Nat)) : Int) = (j : Int) + 1 from by have := HJ.out; omega]; exact hA21.out⟩
                case measure => simp [intOf]; omega
              · have hE : Hid (digs 16 2 l (i + 1) = (v, m)) := digR_end HD.out (fun hh => hexV_no hx0 (by have := HJ.out; subst this; exact hh.2))
                obtain ⟨q, hq⟩ : ∃ q, q = ptA l j := ⟨_, rfl⟩
                rw [← hq] at HP HG hx0
                obtain ⟨hv, hhq⟩ : ∃ hv, hv = hexV q := ⟨_, rfl⟩
                rw [← hhq] at HG hx0
                clear hq hhq
                go_wp2_with fail
                refine HP.out.mono ?_
                rintro e w' ⟨rfl, hww⟩
                have hww2 := hww.symm
                subst hww2
                go_wp2_with fail
                refine HG.out.mono ?_
                rintro e w' ⟨rfl, rfl⟩
                have hbig : ¬ v > 1114111 := by have := pow_two HD.out.n1 HD.out.k1 (by omega); omega
                by_cases hm0 : m < 1
                · have hE2 : Hid (escT 1 l i = .error 1) := by
                    show _ = _
                    rw [hE0.out]; unfold hexT; rw [if_pos HBr.out, hE.out]; simp only; rw [if_pos hm0]
                  have e3 : (m : Int) < 1 := by omega
                  clear hm0 hE hE0
                  have zn := A20.out.a.next
                  obtain ⟨z0, z1, z2, z3, z4, z5, z6, z7⟩ := tok_cells A20.out.a.tok
                  have zf := tok_free A20.out.a.tok
                  go_wp2
                  exact ret_t2 (N := w.heap.size + 2) (t0 := {}) (W := w20) (t := {}) (k := 0) (z := 1) rfl rfl rfl rfl A20.out.a.tok (.inr ⟨_, hE2.out, rfl, tset_below A20.out.a.below (by omega) _⟩)
                · have e3 : ¬ (m : Int) < 1 := by omega
                  have hE2 : Hid (escT 1 l i = .ok (pointT v, j)) := by
                    show _ = _
                    rw [hE0.out]; unfold hexT; rw [if_pos HBr.out, hE.out]; simp only; rw [if_neg hm0, HJ.out]
                  clear hm0 hE hE0
                  have HG := hide (HPt.out v _ _ A20.out.drew)
                  go_upto_region 71 with fail
                  refine wp_after (reg71 (w := w) (by kernel_rfl) (by kernel_rfl) (by kernel_rfl) (by kernel_rfl) A20.out HG) ?_
                  rintro a99 w98 ⟨A9, w99, rfl, g6, g7, g8, hA99, rfl⟩
                  have HA99 := hide hA99
                  clear hA99
                  go_wp2
                  exact ret_t2 (N := w.heap.size + 2) (t0 := {}) (W := w99) (t := pointT v) (k := (j : Int)) (z := 0) rfl (g6.trans (by kernel_rfl)) g7 g8 HA99.out.a.tok (.inl ⟨_, _, hE2.out, rfl, tset_below HA99.out.a.below (by omega) _⟩)
            · have hE : Hid (digs 16 2 l (i + 1) = (v, m)) := digR_end HD.out (fun hh => hlt hh.1)
              have e1 : ¬ (m : Int) < 2 := by omega
              have hbig : ¬ v > 1114111 := by have := pow_two HD.out.n1 HD.out.k1 (by omega); omega
              have hm0 : ¬ m < 1 := by omega
              have e3 : ¬ (m : Int) < 1 := by omega
              have hE2 : Hid (escT 1 l i = .ok (pointT v, j)) := by
                show _ = _
                rw [hE0.out]; unfold hexT; rw [if_pos HBr.out, hE.out]; simp only; rw [if_neg hm0, HJ.out]
              clear hm0 hE hE0
              have HG := hide (HPt.out v _ _ A20.out.drew)
              go_upto_region 71 with fail
              refine wp_after (reg71 (w := w) (by kernel_rfl) (by kernel_rfl) (by kernel_rfl) (by kernel_rfl) A20.out HG) ?_
              rintro a99 w98 ⟨A9, w99, rfl, g6, g7, g8, hA99, rfl⟩
              have HA99 := hide hA99
              clear hA99
              go_wp2
              exact ret_t2 (N := w.heap.size + 2) (t0 := {}) (W := w99) (t := pointT v) (k := (j : Int)) (z := 0) rfl (g6.trans (by kernel_rfl)) g7 g8 HA99.out.a.tok (.inl ⟨_, _, hE2.out, rfl, tset_below HA99.out.a.below (by omega) _⟩)
        | 1, _, he => exact absurd he (by decide)
        | 3, _, he => exact absurd he (by decide)
        | 5, _, he => exact absurd he (by decide)
        | 7, _, he => exact absurd he (by decide)
        | 9, _, he => exact absurd he (by decide)
        | 11, _, he => exact absurd he (by decide)
        | 13, _, he => exact absurd he (by decide)
        | (r + 15), hr, _ => exact absurd hr (by omega)
    | 1, _, he => exact absurd he (by decide)
    | 3, _, he => exact absurd he (by decide)
    | 5, _, he => exact absurd he (by decide)
    | 7, _, he => exact absurd he (by decide)
    | (r + 9), hr, _ => exact absurd hr (by omega)

end Go.Proofs.Ytlapnhjkhpgklaa
