/- The reference's Escaped: k. -/
import Derived.Test.YtlapnhjkhpgklaaRc9
import Derived.Test.YtlapnhjkhpgklaaRg2
namespace Go.Proofs.Ytlapnhjkhpgklaa
open Go.RowKit
set_option linter.unusedVariables false

set_option maxRecDepth 100000 in
set_option maxHeartbeats 40000000 in
theorem esc_kB (x : Addr) (c : Nat) (l : List Int) (i : Nat) (w : World) (h : ReadsI w x l) (hi : i < l.length) (hl : l.length ≤ 300) (hcap : l.length ≤ c) (hpts : ∀ p ∈ l, 0 ≤ p ∧ p ≤ 1114111) (hx : l[i] = 107) (hcs : nameL l (i + 2) = [] ∧ says l (i + 2) [45] = false) : Calls Try.prog 20 #[.int .i64 1, .slice (some x) l.length c, .int .i64 i] w fun e w' => NextE (escT 1 l i) w e w' := by
  have HCs := hide hcs
  clear hcs
  have hb3 := three_belowE w (.cells #[.slice (some x) l.length c] 22) (.cells #[.int .i64 i] 3) (tokO {})
  have hA := escA_first w x l.length c i (((i : Nat) : Int) + 1)
  obtain ⟨w0, hw0⟩ : ∃ w0, w0 = ((w.alloc (.cells #[.slice (some x) l.length c] 22)).alloc (.cells #[.int .i64 i] 3)).alloc (tokO {}) := ⟨_, rfl⟩
  have HB0 : Hid (Below w.heap.size w w0) := by show Below _ _ _; rw [hw0]; exact hb3
  have HZ0 : Hid (w0.heap.size = w.heap.size + 3) := by show _ = _; rw [hw0]; simp
  have C5 : w0.cell? ⟨w.heap.size + 1, 0, none⟩ = some (.int .i64 i) := by rw [hw0]; exact below_cellT ((Below.refl _ _).alloc (Nat.le_refl _) _) (World.cell?_alloc1 w _ _ 0 _ rfl)
  rw [← hw0] at hA
  have hC := escC_first w x l.length c i (((i : Nat) : Int) + 1) hA (by simp [HZ0.out])
  have HP := hide (pointAt_any x c l i w0 (h.belowB HB0.out))
  have hpi := hpts l[i] (List.getElem_mem _)
  have HCi : Hid (∀ W, Below w.heap.size w W → W.cell? (x.add i) = some (.int .i64 l[i])) := fun W hW => h.belowB hW i hi
  rw [ptA_in hi] at HP
  have HLi : Hid (l[i]? = some l[i]) := List.getElem?_eq_getElem hi
  have hs : ∀ z : Int, 0 ≤ z → says l i [z] = decide (l[i] = z) := fun z hz => by rw [says_pt l i z hz, ptA_in hi]
  have HRd := hide (fun W (hW : Below w.heap.size w W) => h.belowB hW)
  have HI : Hid (∀ (k : Int) W, EscC w x l.length c i k W → ∀ (u : UInt8) (z : Int), z = (u.toNat : Int) → Calls Try.prog 30 #[.string ⟨#[u]⟩, .pointer (some ⟨w.heap.size, 0, none⟩), .pointer (some ⟨w.heap.size + 1, 0, none⟩)] W fun e w' => e = .returned (.bool (decide (l[i] = z))) ∧ EscC w x l.length c i k w') := fun k W hW u z hz => by
    have := isE_any x c l i _ _ u z hz W (h.belowB hW.a.below) hW.a.sl hW.a.at_ (by omega) (by omega)
    rw [hs z (by omega)] at this
    exact this.mono (by rintro e w' ⟨rfl, hb⟩; exact ⟨rfl, hW.on hb⟩)
  have HLk : Hid (∀ (kk k : Int) W, EscC w x l.length c i k W → Calls Try.prog 31 #[.int .i64 kk, .pointer (some ⟨w.heap.size + 3, 0, none⟩)] W fun e w' => e = .returned (.tuple #[tokV (lookT kk), .int .i64 k, .int .i64 0]) ∧ EscC w x l.length c i k w') := fun kk k W hW => (lookE_any kk k _ W hW.a.next).mono (by rintro e w' ⟨rfl, hb⟩; exact ⟨rfl, hW.on hb⟩)
  have HPt : Hid (∀ (q k : Int) W, EscC w x l.length c i k W → Calls Try.prog 23 #[.int .i64 q] W fun e w' => e = .returned (tokV (pointT q)) ∧ EscC w x l.length c i k w') := fun q k W hW => (ptok_any q W).mono (by rintro e w' ⟨rfl, hb⟩; exact ⟨rfl, hW.on hb⟩)
  have HSs := hide (fun W (hW : Below w.heap.size w W) (j2 : Nat) (hj : j2 ≤ 900) (u : UInt8) (z : Int) (hz : z = (u.toNat : Int)) => says1_b x c l j2 u z hz W (h.belowB hW) (by omega) (by omega))
  obtain ⟨p, hp⟩ : ∃ p, p = l[i] := ⟨_, rfl⟩
  rw [← hp] at HP hpi HCi HLi HI hx
  obtain ⟨n, hn⟩ : ∃ n, n = l.length := ⟨_, rfl⟩
  have HN := hide hn
  rw [← hn] at HP hw0 hl hi hA hC hcap HI HLk HPt HSs ⊢
  simp only [tokO] at hw0
  clear h hb3 hp hpts hs
  subst hx
  clear hn
  obtain ⟨w1, hw1⟩ : ∃ w1, w1 = (w0.alloc (.cells #[.int .i64 (((i : Nat) : Int) + 1)] 3)).alloc (.cells #[.string ⟨#[100]⟩, .string ⟨#[100, 105, 103, 105, 116]⟩, .string ⟨#[119]⟩, .string ⟨#[119, 111, 114, 100]⟩, .string ⟨#[115]⟩, .string ⟨#[115, 112, 97, 99, 101]⟩, .string ⟨#[104]⟩, .string ⟨#[120, 100, 105, 103, 105, 116]⟩] 9) := ⟨_, rfl⟩
  rw [show (w0.alloc (.cells #[.int .i64 (((i : Nat) : Int) + 1)] 3)).alloc clsO = w1 from hw1.symm] at hC
  have A1 := hide hC
  clear hA hC
  go_enter Try.func20, Try.ntmps20
  go_wp2_with fail
  rw [← hw0]
  clear hw0
  refine HP.out.mono ?_
  rintro e w2 ⟨rfl, rfl⟩
  have hz := HZ0.out
  skip
  go_wp2
  rw [← hw1]
  clear hw1 hz C5 HP HB0 HZ0
  go_loopw [13] (fun s wr => ∃ r : Nat, r ≤ 8 ∧ r % 2 = 0 ∧ s = .int .i64 r ∧ EscC w x n c i ((i : Int) + 1) wr) (fun s _ => 8 - (intOf s).toNat)
  case atStart => exact ⟨0, by omega, rfl, rfl, A1.out⟩
  case round =>
    obtain ⟨r, hr, he, rfl, hA⟩ := hrel
    have A3 := hide hA
    clear hA A1
    match r, hr, he with
    | 0, _, _ =>
      have ck := cls_cell A3.out.cls 0 _ rfl
      have A4 := hide (A3.out.alloc (.cells #[.int .u8 68] 5))
      have ck2 := cls_cell A4.out.cls 0 _ rfl
      have hX : (((((⟨#[100]⟩ : ByteArray)[0]'(by show 0 < 1; omega)).toNat : Int)) - 32) % 256 = 68 := rfl
      have hcv : (convert 57 9 (.slice (some ⟨wr.heap.size, 0, none⟩) 1 1)).run Try.prog (wr.alloc (.cells #[.int .u8 68] 5)) = .ok (.string ⟨#[68]⟩) (wr.alloc (.cells #[.int .u8 68] 5)) := conv_own (B := wr.heap.size) (n := 1) (l := [68]) (World.ownsRow_lit (base := wr.heap.size) (e := 5) (size := 1) wr #[.int .u8 68] 1 (Nat.le_refl _) (by unfold maxLen; omega) rfl)
      clear A3
      go_wp2_with fail
      refine (HI.out _ _ A4.out 100 100 rfl).mono ?_
      rintro e w5 ⟨rfl, A5⟩
      have A5 := hide A5
      clear A4 ck ck2 hX hcv
      rw [decide_eq_false (by decide)]
      go_wp2_with fail
      refine (HI.out _ _ A5.out 68 68 rfl).mono ?_
      rintro e w6 ⟨rfl, A6⟩
      have A6 := hide A6
      clear A5
      rw [decide_eq_false (by decide)]
      go_wp2
      go_roundw
      case rel => exact ⟨2, by omega, rfl, rfl, A6.out⟩
      case measure => simp [intOf]
    | 2, _, _ =>
      have ck := cls_cell A3.out.cls 2 _ rfl
      have A4 := hide (A3.out.alloc (.cells #[.int .u8 87] 5))
      have ck2 := cls_cell A4.out.cls 2 _ rfl
      have hX : (((((⟨#[119]⟩ : ByteArray)[0]'(by show 0 < 1; omega)).toNat : Int)) - 32) % 256 = 87 := rfl
      have hcv : (convert 57 9 (.slice (some ⟨wr.heap.size, 0, none⟩) 1 1)).run Try.prog (wr.alloc (.cells #[.int .u8 87] 5)) = .ok (.string ⟨#[87]⟩) (wr.alloc (.cells #[.int .u8 87] 5)) := conv_own (B := wr.heap.size) (n := 1) (l := [87]) (World.ownsRow_lit (base := wr.heap.size) (e := 5) (size := 1) wr #[.int .u8 87] 1 (Nat.le_refl _) (by unfold maxLen; omega) rfl)
      clear A3
      go_wp2_with fail
      refine (HI.out _ _ A4.out 119 119 rfl).mono ?_
      rintro e w5 ⟨rfl, A5⟩
      have A5 := hide A5
      clear A4 ck ck2 hX hcv
      rw [decide_eq_false (by decide)]
      go_wp2_with fail
      refine (HI.out _ _ A5.out 87 87 rfl).mono ?_
      rintro e w6 ⟨rfl, A6⟩
      have A6 := hide A6
      clear A5
      rw [decide_eq_false (by decide)]
      go_wp2
      go_roundw
      case rel => exact ⟨4, by omega, rfl, rfl, A6.out⟩
      case measure => simp [intOf]
    | 4, _, _ =>
      have ck := cls_cell A3.out.cls 4 _ rfl
      have A4 := hide (A3.out.alloc (.cells #[.int .u8 83] 5))
      have ck2 := cls_cell A4.out.cls 4 _ rfl
      have hX : (((((⟨#[115]⟩ : ByteArray)[0]'(by show 0 < 1; omega)).toNat : Int)) - 32) % 256 = 83 := rfl
      have hcv : (convert 57 9 (.slice (some ⟨wr.heap.size, 0, none⟩) 1 1)).run Try.prog (wr.alloc (.cells #[.int .u8 83] 5)) = .ok (.string ⟨#[83]⟩) (wr.alloc (.cells #[.int .u8 83] 5)) := conv_own (B := wr.heap.size) (n := 1) (l := [83]) (World.ownsRow_lit (base := wr.heap.size) (e := 5) (size := 1) wr #[.int .u8 83] 1 (Nat.le_refl _) (by unfold maxLen; omega) rfl)
      clear A3
      go_wp2_with fail
      refine (HI.out _ _ A4.out 115 115 rfl).mono ?_
      rintro e w5 ⟨rfl, A5⟩
      have A5 := hide A5
      clear A4 ck ck2 hX hcv
      rw [decide_eq_false (by decide)]
      go_wp2_with fail
      refine (HI.out _ _ A5.out 83 83 rfl).mono ?_
      rintro e w6 ⟨rfl, A6⟩
      have A6 := hide A6
      clear A5
      rw [decide_eq_false (by decide)]
      go_wp2
      go_roundw
      case rel => exact ⟨6, by omega, rfl, rfl, A6.out⟩
      case measure => simp [intOf]
    | 6, _, _ =>
      have ck := cls_cell A3.out.cls 6 _ rfl
      have A4 := hide (A3.out.alloc (.cells #[.int .u8 72] 5))
      have ck2 := cls_cell A4.out.cls 6 _ rfl
      have hX : (((((⟨#[104]⟩ : ByteArray)[0]'(by show 0 < 1; omega)).toNat : Int)) - 32) % 256 = 72 := rfl
      have hcv : (convert 57 9 (.slice (some ⟨wr.heap.size, 0, none⟩) 1 1)).run Try.prog (wr.alloc (.cells #[.int .u8 72] 5)) = .ok (.string ⟨#[72]⟩) (wr.alloc (.cells #[.int .u8 72] 5)) := conv_own (B := wr.heap.size) (n := 1) (l := [72]) (World.ownsRow_lit (base := wr.heap.size) (e := 5) (size := 1) wr #[.int .u8 72] 1 (Nat.le_refl _) (by unfold maxLen; omega) rfl)
      clear A3
      go_wp2_with fail
      refine (HI.out _ _ A4.out 104 104 rfl).mono ?_
      rintro e w5 ⟨rfl, A5⟩
      have A5 := hide A5
      clear A4 ck ck2 hX hcv
      rw [decide_eq_false (by decide)]
      go_wp2_with fail
      refine (HI.out _ _ A5.out 72 72 rfl).mono ?_
      rintro e w6 ⟨rfl, A6⟩
      have A6 := hide A6
      clear A5
      rw [decide_eq_false (by decide)]
      go_wp2
      go_roundw
      case rel => exact ⟨8, by omega, rfl, rfl, A6.out⟩
      case measure => simp [intOf]
    | 8, _, _ =>
      obtain ⟨w4, hw4⟩ : ∃ w4, w4 = wr := ⟨_, rfl⟩
      subst hw4
      have A4 := A3
      clear A3
      go_wp2_with fail
      refine (HI.out _ _ A4.out 98 98 rfl).mono ?_
      rintro e w5 ⟨rfl, A5⟩
      have A5 := hide A5
      clear A4
      rw [decide_eq_false (by decide)]
      go_wp2_with fail
      refine (HI.out _ _ A5.out 66 66 rfl).mono ?_
      rintro e w6 ⟨rfl, A6⟩
      have A6 := hide A6
      clear A5
      rw [decide_eq_false (by decide)]
      go_wp2_with fail
      refine (HI.out _ _ A6.out 65 65 rfl).mono ?_
      rintro e w7 ⟨rfl, A7⟩
      have A7 := hide A7
      clear A6
      rw [decide_eq_false (by decide)]
      go_wp2_with fail
      refine (HI.out _ _ A7.out 122 122 rfl).mono ?_
      rintro e w8 ⟨rfl, A8⟩
      have A8 := hide A8
      clear A7
      rw [decide_eq_false (by decide)]
      obtain ⟨w9, hw9⟩ : ∃ w', w' = w8.alloc (.cells #[.int .i64 110, .int .i64 10, .int .i64 116, .int .i64 9, .int .i64 114, .int .i64 13, .int .i64 102, .int .i64 12, .int .i64 118, .int .i64 11, .int .i64 97, .int .i64 7, .int .i64 101, .int .i64 27] 3) := ⟨_, rfl⟩
      have hK9 : w9.heap[w8.heap.size]? = some ctlO := by rw [hw9]; exact at_new _ _
      have A9 := hide (A8.out.alloc (.cells #[.int .i64 110, .int .i64 10, .int .i64 116, .int .i64 9, .int .i64 114, .int .i64 13, .int .i64 102, .int .i64 12, .int .i64 118, .int .i64 11, .int .i64 97, .int .i64 7, .int .i64 101, .int .i64 27] 3))
      rw [← hw9] at A9
      obtain ⟨M, hM⟩ : ∃ M, M = w8.heap.size := ⟨_, rfl⟩
      rw [← hM] at hK9
      have HM := hide hM
      have HK := hide hK9
      clear A8 hM hK9
      go_wp2
      rw [← hw9, ← HM.out]
      clear hw9 HM
      go_loopw [21] (fun s wr => ∃ r : Nat, r ≤ 14 ∧ r % 2 = 0 ∧ s = .int .i64 r ∧ noK 107 r ∧ wr = w9) (fun s _ => 14 - (intOf s).toNat)
      case atStart => exact ⟨0, by omega, rfl, rfl, noK_zero _, rfl⟩
      case round =>
        obtain ⟨r, hr, he, rfl, hnk, hwr⟩ := hrel
        have hwr2 := hwr.symm
        subst hwr2
        have HNk := hide hnk
        clear hnk
        match r, hr, he with
        | 0, _, _ =>
          have kc := ctl_cell HK.out 0 _ rfl
          go_wp2
          go_roundw
          case rel => exact ⟨2, by omega, rfl, rfl, noK_next0 HNk.out (by decide), by first | rfl | trivial⟩
          case measure => simp [intOf]
        | 2, _, _ =>
          have kc := ctl_cell HK.out 2 _ rfl
          go_wp2
          go_roundw
          case rel => exact ⟨4, by omega, rfl, rfl, noK_next2 HNk.out (by decide), by first | rfl | trivial⟩
          case measure => simp [intOf]
        | 4, _, _ =>
          have kc := ctl_cell HK.out 4 _ rfl
          go_wp2
          go_roundw
          case rel => exact ⟨6, by omega, rfl, rfl, noK_next4 HNk.out (by decide), by first | rfl | trivial⟩
          case measure => simp [intOf]
        | 6, _, _ =>
          have kc := ctl_cell HK.out 6 _ rfl
          go_wp2
          go_roundw
          case rel => exact ⟨8, by omega, rfl, rfl, noK_next6 HNk.out (by decide), by first | rfl | trivial⟩
          case measure => simp [intOf]
        | 8, _, _ =>
          have kc := ctl_cell HK.out 8 _ rfl
          go_wp2
          go_roundw
          case rel => exact ⟨10, by omega, rfl, rfl, noK_next8 HNk.out (by decide), by first | rfl | trivial⟩
          case measure => simp [intOf]
        | 10, _, _ =>
          have kc := ctl_cell HK.out 10 _ rfl
          go_wp2
          go_roundw
          case rel => exact ⟨12, by omega, rfl, rfl, noK_next10 HNk.out (by decide), by first | rfl | trivial⟩
          case measure => simp [intOf]
        | 12, _, _ =>
          have kc := ctl_cell HK.out 12 _ rfl
          go_wp2
          go_roundw
          case rel => exact ⟨14, by omega, rfl, rfl, noK_next12 HNk.out (by decide), by first | rfl | trivial⟩
          case measure => simp [intOf]
        | 14, _, _ =>
          have hE0 := hide (esc1_rest HLi.out rfl (by decide) (by decide) (by decide) (by decide))
          rw [if_neg (by decide), if_neg (by decide), if_pos rfl] at hE0
          have HBt := hide (betw_any 107 49 57 w9)
          rw [show (decide ((49 : Int) ≤ 107) && decide ((107 : Int) ≤ 57)) = false from by decide] at HBt
          go_wp2_with fail
          refine HBt.out.mono ?_
          rintro e w' ⟨rfl, rfl⟩
          clear HBt
          go_wp2_with fail
          refine (HI.out _ _ A9.out 120 120 rfl).mono ?_
          rintro e w10 ⟨rfl, A10⟩
          have A10 := hide A10
          clear A9
          rw [decide_eq_false (by decide)]
          go_wp2_with fail
          refine (HI.out _ _ A10.out 117 117 rfl).mono ?_
          rintro e w11 ⟨rfl, A11⟩
          have A11 := hide A11
          clear A10
          rw [decide_eq_false (by decide)]
          go_wp2_with fail
          refine (HI.out _ _ A11.out 107 107 rfl).mono ?_
          rintro e w12 ⟨rfl, A12⟩
          have A12 := hide A12
          clear A11
          rw [decide_eq_true rfl]
          go_upto_region 73 with fail
          refine wp_abs ?_
          intro A hA
          have g6 : A[6]? = some (.pointer (some ⟨w.heap.size + 2, 0, none⟩)) := by rw [hA]; kernel_rfl
          have d4 : A.getD 4 undef = .pointer (some ⟨w.heap.size, 0, none⟩) := by rw [hA]; kernel_rfl
          have d6 : A.getD 6 undef = .pointer (some ⟨w.heap.size + 2, 0, none⟩) := by rw [hA]; kernel_rfl
          have d10 : A.getD 10 undef = .pointer (some ⟨w.heap.size + 3, 0, none⟩) := by rw [hA]; kernel_rfl
          have hsz : A.size = 354 := by rw [hA]; kernel_rfl
          clear hA
          have rne := get_ne
          have req := get_eq
          have rne2 : ∀ (B : Array Value) (i j : Nat) (v : Value), i ≠ j → (B.setIfInBounds i v)[j]? = B[j]? := fun B i j v h => Array.getElem?_setIfInBounds_ne h
          have req2 : ∀ (B : Array Value) (i : Nat) (v : Value), i < B.size → (B.setIfInBounds i v)[i]? = some v := fun B i v h => by simp [h]
          have m4 := A12.out.a.sl
          have m5 := A12.out.a.next
          have HS0 := hide (HSs.out w12 A12.out.a.below (i + 1) (by omega) 60 60 rfl)
          rw [show (((i + 1 : Nat)) : Int) = (i : Int) + 1 from by omega] at HS0
          go_wp2_with fail
          refine HS0.out.mono ?_
          rintro e w13 ⟨rfl, hb13⟩
          have A13 := hide (A12.out.on hb13)
          clear hb13 A12 m4 m5 HS0
          cases h60 : says l (i + 1) [60] with
          | false =>
            have hE : Hid (escT 1 l i = .error 1) := by show _ = _; rw [hE0.out, agb_none h60]
            clear hE0 h60
            have zn := A13.out.a.next
            obtain ⟨z0, z1, z2, z3, z4, z5, z6, z7⟩ := tok_cells A13.out.a.tok
            have zf := tok_free A13.out.a.tok
            go_upto_if 290 with fail
            refine wp_cond_true (by simp [Act.eval, hsz]) ?_
            go_wp2
            exact ret_t2 (N := w.heap.size + 2) (t0 := {}) (W := w13) (t := {}) (k := 0) (z := 1) rfl (by simp [g6]) (by simp [hsz]) (by simp [hsz]) A13.out.a.tok (.inr ⟨_, hE.out, rfl, tset_below A13.out.a.below (by omega) _⟩)
          | true =>
            have H60 := hide h60
            have hi2 : i + 2 ≤ n := by have := says_len h60 (by simp); have := HN.out; simp at *; omega
            clear h60
            have HL13 : Hid (w.heap.size + 5 ≤ w13.heap.size) := by have := lt_of_block A13.out.cls; show _ ≤ _; omega
            have c5 := A13.out.a.next
            go_upto_if 290 with fail
            refine wp_cond_false (by simp [Act.eval, hsz]) ?_
            go_upto_region 76 with fail
            obtain ⟨w14, hw14⟩ : ∃ w', w' = w13.alloc (tokO { kind := 10 }) := ⟨_, rfl⟩
            have hT : w14.heap[w13.heap.size]? = some (tokO { kind := 10 }) := by rw [hw14]; exact at_new _ _
            have A14 := hide (A13.out.alloc (tokO { kind := 10 }))
            rw [← hw14] at A14
            simp only [tokO] at hw14
            rw [← hw14]
            clear hw14 A13 c5
            obtain ⟨M, hMe⟩ : ∃ M, M = w13.heap.size := ⟨_, rfl⟩
            have HMs := HL13
            rw [← hMe] at hT HMs ⊢
            have T14 := hide hT
            clear hT hMe HL13
            have HNa := hide (nameAt_any x c l (i + 2) w14 (HRd.out w14 A14.out.a.below) (by have := HN.out; omega) (by have := HN.out; omega))
            rw [← HN.out, show (((i + 2 : Nat)) : Int) = (i : Int) + 1 + 1 from by omega] at HNa
            have hnl := (name_len l (i + 2) (by have := HN.out; omega)).1
            rw [← HN.out] at hnl
            have hEa : Hid (nameL l (i + 2) ≠ [] → escT 1 l i = if says l (i + 2 + (nameL l (i + 2)).length) [62] = false then .error 1 else .ok ({ kind := 10, text := byteA (nameL l (i + 2)) }, i + 2 + (nameL l (i + 2)).length + 1)) := fun hn => by rw [hE0.out]; exact agb_name H60.out hn
            have hEb : Hid (nameL l (i + 2) = [] → ∀ (bb : Bool) (j : Nat), says l (i + 2) [45] = bb → j = (if bb then i + 3 else i + 2) → escT 1 l i = if (digs 10 3 l j).2 = 0 then .error 1 else if says l (j + (digs 10 3 l j).2) [62] = false then .error 1 else if (digs 10 3 l j).1 = 0 then .error 3 else .ok (againT (if bb then -(digs 10 3 l j).1 else (digs 10 3 l j).1), j + (digs 10 3 l j).2 + 1)) := fun hn bb j h1 h2 => by rw [hE0.out]; exact agb_num H60.out hn h1 h2
            clear hE0
            obtain ⟨nm, hnm⟩ : ∃ nm, nm = nameL l (i + 2) := ⟨_, rfl⟩
            rw [← hnm] at HNa hEa hEb hnl
            obtain ⟨j3, hj3⟩ : ∃ j3, j3 = i + 2 + nm.length := ⟨_, rfl⟩
            rw [← hj3] at HNa hEa hnl
            obtain ⟨S, hS⟩ : ∃ S, S = byteA nm := ⟨_, rfl⟩
            rw [← hS] at HNa hEa
            have HSS := hide hS
            have HCn : Hid (nm = []) := by show _ = _; rw [hnm]; exact HCs.out.1
            clear hnm hj3 hS
            have m4 := A14.out.a.sl
            have m5 := A14.out.a.next
            go_wp2_with fail
            refine HNa.out.mono ?_
            rintro e w15 ⟨rfl, hb15⟩
            have A15 := hide (A14.out.on hb15)
            have T15 := hide (below_atT hb15 T14.out)
            clear hb15 A14 T14 m4 m5 HNa
            by_cases hz : nm = []
            · have hSe : S = ⟨#[]⟩ := by rw [HSS.out, hz]; rfl
              have hE1 := hide (hEb.out hz)
              rw [hSe]
              clear hSe hz HSS hEa hEb hnl
              have m4 := A15.out.a.sl
              have m5 := A15.out.a.next
              have HS1 := hide (HSs.out w15 A15.out.a.below (i + 2) (by omega) 45 45 rfl)
              rw [show (((i + 2 : Nat)) : Int) = (i : Int) + 1 + 1 from by omega] at HS1
              go_upto_if 301 with fail
              refine wp_cond_true (by simp [Act.eval, hsz]) ?_
              go_wp2_with fail
              refine HS1.out.mono ?_
              rintro e w16 ⟨rfl, hb16⟩
              have A16 := hide (A15.out.on hb16)
              have T16 := hide (below_atT hb16 T15.out)
              clear hb16 A15 T15 m4 m5 HS1
              cases hmi : says l (i + 2) [45] with
              | true => exact absurd (hmi.symm.trans HCs.out.2) (by decide)
              | false =>
                have hJ : i + 2 ≤ n := hi2
                have hE2 := hide (hE1.out false (i + 2) hmi rfl)
                clear hmi hE1
                have HDg := hide (digitsR_any x c l (i + 2) 3 w16 (HRd.out w16 A16.out.a.below) (by have := HN.out; omega) (by have := HN.out; omega) (by omega))
                rw [← HN.out] at HDg
                have hdr := digs_rng (l := l) (i := i + 2) (by have := HN.out; omega)
                rw [← HN.out] at hdr
                obtain ⟨dq, hdq⟩ : ∃ dq, dq = digs 10 3 l (i + 2) := ⟨_, rfl⟩
                rw [← hdq] at HDg hE2 hdr
                clear hdq
                obtain ⟨dv, dk⟩ := dq
                simp only at HDg hE2 hdr
                obtain ⟨hd0, hd1, hd2⟩ := hdr
                obtain ⟨jj, hjj⟩ : ∃ jj, jj = i + 2 + dk := ⟨_, rfl⟩
                rw [← hjj] at HDg hE2 hd2
                rw [show (((i + 2 : Nat)) : Int) = (i : Int) + 1 + 1 from by omega] at HDg
                have hjI : (jj : Int) = (i : Int) + 1 + 1 + dk := by omega
                have HJ := hide hjI
                clear hjI hjj
                have m4 := A16.out.a.sl
                have m5 := A16.out.a.next
                obtain ⟨n0, n1, n2, n3, n4, n5, n6, n7⟩ := tok_cells T16.out
                have nf := tok_free T16.out
                go_upto_if 307 with fail
                refine wp_cond_false (by simp [Act.eval, hsz]) ?_
                go_wp2_with fail
                refine HDg.out.mono ?_
                rintro e w' ⟨rfl, hww⟩
                have hww2 := hww.symm
                subst hww2
                go_upto_region 83 with fail
                clear n0 n1 n2 n3 n4 n5 n6 n7 nf m4 m5 HDg
                obtain ⟨w17, hw17⟩ : ∃ w', w' = w16.setCell ⟨M, 1, none⟩ (.int .i64 dv) := ⟨_, rfl⟩
                have A17 := hide (A16.out.setAt HMs.out 1 (.int .i64 dv))
                have T17 : Hid (w17.heap[M]? = some (tokO { kind := 10, num := dv })) := by
                  show _ = _
                  rw [hw17]
                  have := set_one (show w16.heap[M]? = some (tokO { kind := 10 }) from T16.out) 1 (.int .i64 dv)
                  rw [this]; simp [tokO]
                rw [← hw17] at A17
                rw [← hw17]
                clear hw17 A16 T16
                by_cases hdk : dk = 0
                · have hE3 : Hid (escT 1 l i = .error 1) := by show _ = _; rw [hE2.out, if_pos hdk]
                  have heq : (jj : Int) = (i : Int) + 1 + 1 := by have := HJ.out; omega
                  have hbq : ((jj : Int) == (i : Int) + 1 + 1) = true := by simpa using heq
                  clear hE2 hdk HJ
                  have zn := A17.out.a.next
                  obtain ⟨z0, z1, z2, z3, z4, z5, z6, z7⟩ := tok_cells A17.out.a.tok
                  have zf := tok_free A17.out.a.tok
                  go_upto_if 319 with fail
                  refine wp_cond_true (by simp [Act.eval, hsz]) ?_
                  go_wp2
                  exact ret_t2 (N := w.heap.size + 2) (t0 := {}) (W := w17) (t := {}) (k := 0) (z := 1) rfl (by simp [g6]) (by simp [hsz]) (by simp [hsz]) A17.out.a.tok (.inr ⟨_, hE3.out, rfl, tset_below A17.out.a.below (by omega) _⟩)
                · have hbq : ((jj : Int) == (i : Int) + 1 + 1) = false := by simp only [beq_eq_false_iff_ne, ne_eq]; have := HJ.out; omega
                  have hbe : ¬ (jj : Int) = (i : Int) + 1 + 1 := by have := HJ.out; omega
                  obtain ⟨n0, n1, n2, n3, n4, n5, n6, n7⟩ := tok_cells T17.out
                  have nf := tok_free T17.out
                  have hwn : IntKind.i64.wrap (-dv) = -dv := by rw [IntKind.wrap_i64]; omega
                  go_upto_if 319 with fail
                  refine wp_cond_false (by simp [Act.eval, hsz]) ?_
                  go_upto_if 321 with fail
                  refine wp_cond_false (by simp [Act.eval, hsz]) ?_
                  go_upto_region 87 with fail
                  clear n0 n1 n2 n3 n4 n5 n6 n7 nf
                  obtain ⟨n0, n1, n2, n3, n4, n5, n6, n7⟩ := tok_cells T17.out
                  have nf := tok_free T17.out
                  go_upto_region 88 with fail
                  clear n0 n1 n2 n3 n4 n5 n6 n7 nf
                  obtain ⟨w18, hw18⟩ : ∃ w', w' = w17.setCell ⟨M, 2, none⟩ (.string ⟨#[]⟩) := ⟨_, rfl⟩
                  have A18 := hide (A17.out.setAt HMs.out 2 (.string ⟨#[]⟩))
                  have T18 : Hid (w18.heap[M]? = some (tokO { kind := 10, num := dv })) := by
                    show _ = _
                    rw [hw18]
                    have := set_one (show w17.heap[M]? = some (tokO { kind := 10, num := dv }) from T17.out) 2 (.string ⟨#[]⟩)
                    rw [this]; simp [tokO]
                  rw [← hw18] at A18
                  rw [← hw18]
                  clear hw18 A17 T17
                  have m4 := A18.out.a.sl
                  go_wp2_with fail
                  refine (HSs.out w18 A18.out.a.below jj (by omega) 62 62 rfl).mono ?_
                  rintro e w19 ⟨rfl, hb19⟩
                  have A19 := hide (A18.out.on hb19)
                  have T19 := hide (below_atT hb19 T18.out)
                  clear hb19 A18 T18 m4
                  cases h62 : says l jj [62] with
                  | false =>
                    have hE3 : Hid (escT 1 l i = .error 1) := by show _ = _; rw [hE2.out, if_neg hdk, if_pos h62]
                    clear hE2 h62
                    have zn := A19.out.a.next
                    obtain ⟨z0, z1, z2, z3, z4, z5, z6, z7⟩ := tok_cells A19.out.a.tok
                    have zf := tok_free A19.out.a.tok
                    go_upto_if 331 with fail
                    refine wp_cond_true (by simp [Act.eval, hsz]) ?_
                    go_wp2
                    exact ret_t2 (N := w.heap.size + 2) (t0 := {}) (W := w19) (t := {}) (k := 0) (z := 1) rfl (by simp [g6]) (by simp [hsz]) (by simp [hsz]) A19.out.a.tok (.inr ⟨_, hE3.out, rfl, tset_below A19.out.a.below (by omega) _⟩)
                  | true =>
                    obtain ⟨n0, n1, n2, n3, n4, n5, n6, n7⟩ := tok_cells T19.out
                    have nf := tok_free T19.out
                    by_cases hv0 : dv = 0
                    · have hE3 : Hid (escT 1 l i = .error 3) := by show _ = _; rw [hE2.out, if_neg hdk, if_neg (by rw [h62]; decide), if_pos hv0]
                      have hvb : (dv == 0) = true := by rw [hv0]; rfl
                      have hvz : dv = 0 := by omega
                      clear hE2 h62
                      have zn := A19.out.a.next
                      obtain ⟨z0, z1, z2, z3, z4, z5, z6, z7⟩ := tok_cells A19.out.a.tok
                      have zf := tok_free A19.out.a.tok
                      go_upto_if 331 with fail
                      refine wp_cond_false (by simp [Act.eval, hsz]) ?_
                      go_upto_if 339 with fail
                      refine wp_cond_true (by simp [Act.eval, hsz]) ?_
                      go_wp2
                      exact ret_t2 (N := w.heap.size + 2) (t0 := {}) (W := w19) (t := {}) (k := 0) (z := 3) rfl (by simp [g6]) (by simp [hsz]) (by simp [hsz]) A19.out.a.tok (.inr ⟨_, hE3.out, rfl, tset_below A19.out.a.below (by omega) _⟩)
                    · have hE3 : Hid (escT 1 l i = .ok (againT dv, jj + 1)) := by show _ = _; rw [hE2.out, if_neg hdk, if_neg (by rw [h62]; decide), if_neg hv0]; rfl
                      have hvb : (dv == 0) = false := by simp only [beq_eq_false_iff_ne, ne_eq]; omega
                      have hvz : ¬ dv = 0 := by omega
                      clear hE2 h62
                      have zn := A19.out.a.next
                      obtain ⟨z0, z1, z2, z3, z4, z5, z6, z7⟩ := tok_cells A19.out.a.tok
                      have zf := tok_free A19.out.a.tok
                      go_upto_if 331 with fail
                      refine wp_cond_false (by simp [Act.eval, hsz]) ?_
                      go_upto_if 339 with fail
                      refine wp_cond_false (by simp [Act.eval, hsz]) ?_
                      go_wp2
                      exact ret_t2 (N := w.heap.size + 2) (t0 := {}) (W := w19) (t := againT dv) (k := (jj : Int) + 1) (z := 0) rfl (by simp [g6]) (by simp [hsz]) (by simp [hsz]) A19.out.a.tok (.inl ⟨_, _, hE3.out, rfl, tset_below A19.out.a.below (by omega) _⟩)
            · exact absurd HCn.out hz
        | 1, _, he => exact absurd he (by decide)
        | 3, _, he => exact absurd he (by decide)
        | 5, _, he => exact absurd he (by decide)
        | 7, _, he => exact absurd he (by decide)
        | 9, _, he => exact absurd he (by decide)
        | 11, _, he => exact absurd he (by decide)
        | 13, _, he => exact absurd he (by decide)
        | (r + 15), hr, _ => exact absurd hr (by omega)
    | 1, _, he => exact absurd he (by decide)
    | 3, _, he => exact absurd he (by decide)
    | 5, _, he => exact absurd he (by decide)
    | 7, _, he => exact absurd he (by decide)
    | (r + 9), hr, _ => exact absurd hr (by omega)

end Go.Proofs.Ytlapnhjkhpgklaa
