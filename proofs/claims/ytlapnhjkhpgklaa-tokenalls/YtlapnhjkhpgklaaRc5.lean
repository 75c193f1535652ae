/- The reference's Escaped in the first dialect. -/
import Derived.Test.YtlapnhjkhpgklaaRg2
namespace Go.Proofs.Ytlapnhjkhpgklaa
open Go.RowKit
set_option linter.unusedVariables false

set_option maxRecDepth 100000 in
set_option maxHeartbeats 40000000 in
theorem esc_one (x : Addr) (c : Nat) (l : List Int) (i : Nat) (w : World) (h : ReadsI w x l) (hi : i < l.length) (hl : l.length ≤ 300) (hcap : l.length ≤ c) (hpts : ∀ p ∈ l, 0 ≤ p ∧ p ≤ 1114111) (hx : ¬ l[i] = 120) (hu : ¬ l[i] = 117) (hk : ¬ l[i] = 107) : Calls Try.prog 20 #[.int .i64 1, .slice (some x) l.length c, .int .i64 i] w fun e w' => NextE (escT 1 l i) w e w' := by
  have hb3 := three_belowE w (.cells #[.slice (some x) l.length c] 22) (.cells #[.int .i64 i] 3) (tokO {})
  have hA := escA_first w x l.length c i (((i : Nat) : Int) + 1)
  obtain ⟨w0, hw0⟩ : ∃ w0, w0 = ((w.alloc (.cells #[.slice (some x) l.length c] 22)).alloc (.cells #[.int .i64 i] 3)).alloc (tokO {}) := ⟨_, rfl⟩
  have HB0 : Hid (Below w.heap.size w w0) := by show Below _ _ _; rw [hw0]; exact hb3
  have HZ0 : Hid (w0.heap.size = w.heap.size + 3) := by show _ = _; rw [hw0]; simp
  have C5 : w0.cell? ⟨w.heap.size + 1, 0, none⟩ = some (.int .i64 i) := by rw [hw0]; exact below_cellT ((Below.refl _ _).alloc (Nat.le_refl _) _) (World.cell?_alloc1 w _ _ 0 _ rfl)
  rw [← hw0] at hA
  have hC := escC_first w x l.length c i (((i : Nat) : Int) + 1) hA (by simp [HZ0.out])
  have HP := hide (pointAt_any x c l i w0 (h.belowB HB0.out))
  have hpi := hpts l[i] (List.getElem_mem _)
  have HCi : Hid (∀ W, Below w.heap.size w W → W.cell? (x.add i) = some (.int .i64 l[i])) := fun W hW => h.belowB hW i hi
  rw [ptA_in hi] at HP
  have HLi : Hid (l[i]? = some l[i]) := List.getElem?_eq_getElem hi
  have hs : ∀ z : Int, 0 ≤ z → says l i [z] = decide (l[i] = z) := fun z hz => by rw [says_pt l i z hz, ptA_in hi]
  have HRd := hide (fun W (hW : Below w.heap.size w W) => h.belowB hW)
  have HI : Hid (∀ (k : Int) W, EscC w x l.length c i k W → ∀ (u : UInt8) (z : Int), z = (u.toNat : Int) → Calls Try.prog 30 #[.string ⟨#[u]⟩, .pointer (some ⟨w.heap.size, 0, none⟩), .pointer (some ⟨w.heap.size + 1, 0, none⟩)] W fun e w' => e = .returned (.bool (decide (l[i] = z))) ∧ EscC w x l.length c i k w') := fun k W hW u z hz => by
    have := isE_any x c l i _ _ u z hz W (h.belowB hW.a.below) hW.a.sl hW.a.at_ (by omega) (by omega)
    rw [hs z (by omega)] at this
    exact this.mono (by rintro e w' ⟨rfl, hb⟩; exact ⟨rfl, hW.on hb⟩)
  have HLk : Hid (∀ (kk k : Int) W, EscC w x l.length c i k W → Calls Try.prog 31 #[.int .i64 kk, .pointer (some ⟨w.heap.size + 3, 0, none⟩)] W fun e w' => e = .returned (.tuple #[tokV (lookT kk), .int .i64 k, .int .i64 0]) ∧ EscC w x l.length c i k w') := fun kk k W hW => (lookE_any kk k _ W hW.a.next).mono (by rintro e w' ⟨rfl, hb⟩; exact ⟨rfl, hW.on hb⟩)
  have HPt : Hid (∀ (q k : Int) W, EscC w x l.length c i k W → Calls Try.prog 23 #[.int .i64 q] W fun e w' => e = .returned (tokV (pointT q)) ∧ EscC w x l.length c i k w') := fun q k W hW => (ptok_any q W).mono (by rintro e w' ⟨rfl, hb⟩; exact ⟨rfl, hW.on hb⟩)
  have HDgs : Hid (∀ W, Below w.heap.size w W → Calls Try.prog 33 #[.slice (some x) l.length c, .int .i64 i, .int .i64 2] W fun e w' => e = .returned (.tuple #[.int .i64 (digs 10 2 l i).1, .int .i64 ((i + (digs 10 2 l i).2 : Nat) : Int)]) ∧ w' = W) := fun W hW => digitsR_any x c l i 2 W (h.belowB hW) (by omega) (by omega) (by omega)
  obtain ⟨p, hp⟩ : ∃ p, p = l[i] := ⟨_, rfl⟩
  rw [← hp] at HP hpi HCi HLi HI hx hu hk
  obtain ⟨n, hn⟩ : ∃ n, n = l.length := ⟨_, rfl⟩
  have HN := hide hn
  rw [← hn] at HP hw0 hl hi hA hC hcap HI HLk HPt HDgs ⊢
  simp only [tokO] at hw0
  clear h hb3 hp hpts hs
  clear hn
  obtain ⟨w1, hw1⟩ : ∃ w1, w1 = (w0.alloc (.cells #[.int .i64 (((i : Nat) : Int) + 1)] 3)).alloc (.cells #[.string ⟨#[100]⟩, .string ⟨#[100, 105, 103, 105, 116]⟩, .string ⟨#[119]⟩, .string ⟨#[119, 111, 114, 100]⟩, .string ⟨#[115]⟩, .string ⟨#[115, 112, 97, 99, 101]⟩, .string ⟨#[104]⟩, .string ⟨#[120, 100, 105, 103, 105, 116]⟩] 9) := ⟨_, rfl⟩
  rw [show (w0.alloc (.cells #[.int .i64 (((i : Nat) : Int) + 1)] 3)).alloc clsO = w1 from hw1.symm] at hC
  have A1 := hide hC
  clear hA hC
  go_enter Try.func20, Try.ntmps20
  go_wp2_with fail
  rw [← hw0]
  clear hw0
  refine HP.out.mono ?_
  rintro e w2 ⟨rfl, rfl⟩
  have hz := HZ0.out
  have hpn : ¬ p < 0 := by omega
  go_wp2
  rw [← hw1]
  clear hw1 hz C5 HP HB0 HZ0
  go_loopw [13] (fun s wr => ∃ r : Nat, r ≤ 8 ∧ r % 2 = 0 ∧ s = .int .i64 r ∧ noC p r ∧ EscC w x n c i ((i : Int) + 1) wr) (fun s _ => 8 - (intOf s).toNat)
  case atStart => exact ⟨0, by omega, rfl, rfl, noC_zero p, A1.out⟩
  case round =>
    obtain ⟨r, hr, he, rfl, hno, hA⟩ := hrel
    have A3 := hide hA
    have HNo := hide hno
    clear hA hno A1
    match r, hr, he with
    | 0, _, _ =>
      have ck := cls_cell A3.out.cls 0 _ rfl
      have A4 := hide (A3.out.alloc (.cells #[.int .u8 68] 5))
      have ck2 := cls_cell A4.out.cls 0 _ rfl
      have hX : (((((⟨#[100]⟩ : ByteArray)[0]'(by show 0 < 1; omega)).toNat : Int)) - 32) % 256 = 68 := rfl
      have hcv : (convert 57 9 (.slice (some ⟨wr.heap.size, 0, none⟩) 1 1)).run Try.prog (wr.alloc (.cells #[.int .u8 68] 5)) = .ok (.string ⟨#[68]⟩) (wr.alloc (.cells #[.int .u8 68] 5)) := conv_own (B := wr.heap.size) (n := 1) (l := [68]) (World.ownsRow_lit (base := wr.heap.size) (e := 5) (size := 1) wr #[.int .u8 68] 1 (Nat.le_refl _) (by unfold maxLen; omega) rfl)
      clear A3
      go_wp2_with fail
      refine (HI.out _ _ A4.out 100 100 rfl).mono ?_
      rintro e w5 ⟨rfl, A5⟩
      have A5 := hide A5
      clear A4 ck ck2 hX hcv
      by_cases hp100 : p = 100
      · rw [decide_eq_true hp100]
        subst hp100
        have hE : Hid (escT 1 l i = .ok (classT (bDigit, false), i + 1)) := by show _ = _; unfold escT; rw [HLi.out]; rfl
        have HG := hide (HI.out _ _ A5.out.drew 68 68 rfl)
        rw [show decide ((100 : Int) = 68) = false from by decide] at HG
        go_upto_region 14 with fail
        refine wp_after (reg14 (r := 0) (m := 1) (w := w) (by kernel_rfl) (by kernel_rfl) (by kernel_rfl) (by kernel_rfl) (by kernel_rfl) (by kernel_rfl) (by kernel_rfl) (by decide) (by decide) (by decide) (by decide) A5.out (fun W h => cls_cell h.cls 1 _ rfl) HG) ?_
        rintro a99 w98 ⟨A9, w99, rfl, g6, g7, g8, hA99, rfl⟩
        have HA99 := hide hA99
        clear hA99
        go_wp2
        exact ret_t2 (N := w.heap.size + 2) (t0 := {}) (W := w99) (t := classT (bDigit, false)) (k := (i : Int) + 1) (z := 0) rfl (g6.trans (by kernel_rfl)) g7 g8 HA99.out.a.tok (.inl ⟨_, _, hE.out, rfl, tset_below HA99.out.a.below (by omega) _⟩)
      · rw [decide_eq_false hp100]
        go_wp2_with fail
        refine (HI.out _ _ A5.out 68 68 rfl).mono ?_
        rintro e w6 ⟨rfl, A6⟩
        have A6 := hide A6
        clear A5
        by_cases hp68 : p = 68
        · rw [decide_eq_true hp68]
          subst hp68
          have hE : Hid (escT 1 l i = .ok (classT (bDigit, true), i + 1)) := by show _ = _; unfold escT; rw [HLi.out]; rfl
          have HG := hide (HI.out _ _ A6.out.drew 68 68 rfl)
          rw [show decide ((68 : Int) = 68) = true from by decide] at HG
          go_upto_region 14 with fail
          refine wp_after (reg14 (r := 0) (m := 1) (w := w) (by kernel_rfl) (by kernel_rfl) (by kernel_rfl) (by kernel_rfl) (by kernel_rfl) (by kernel_rfl) (by kernel_rfl) (by decide) (by decide) (by decide) (by decide) A6.out (fun W h => cls_cell h.cls 1 _ rfl) HG) ?_
          rintro a99 w98 ⟨A9, w99, rfl, g6, g7, g8, hA99, rfl⟩
          have HA99 := hide hA99
          clear hA99
          go_wp2
          exact ret_t2 (N := w.heap.size + 2) (t0 := {}) (W := w99) (t := classT (bDigit, true)) (k := (i : Int) + 1) (z := 0) rfl (g6.trans (by kernel_rfl)) g7 g8 HA99.out.a.tok (.inl ⟨_, _, hE.out, rfl, tset_below HA99.out.a.below (by omega) _⟩)
        · rw [decide_eq_false hp68]
          go_wp2
          go_roundw
          case rel => exact ⟨2, by omega, rfl, rfl, noC_next0 HNo.out hp100 hp68, A6.out⟩
          case measure => simp [intOf]
    | 2, _, _ =>
      have ck := cls_cell A3.out.cls 2 _ rfl
      have A4 := hide (A3.out.alloc (.cells #[.int .u8 87] 5))
      have ck2 := cls_cell A4.out.cls 2 _ rfl
      have hX : (((((⟨#[119]⟩ : ByteArray)[0]'(by show 0 < 1; omega)).toNat : Int)) - 32) % 256 = 87 := rfl
      have hcv : (convert 57 9 (.slice (some ⟨wr.heap.size, 0, none⟩) 1 1)).run Try.prog (wr.alloc (.cells #[.int .u8 87] 5)) = .ok (.string ⟨#[87]⟩) (wr.alloc (.cells #[.int .u8 87] 5)) := conv_own (B := wr.heap.size) (n := 1) (l := [87]) (World.ownsRow_lit (base := wr.heap.size) (e := 5) (size := 1) wr #[.int .u8 87] 1 (Nat.le_refl _) (by unfold maxLen; omega) rfl)
      clear A3
      go_wp2_with fail
      refine (HI.out _ _ A4.out 119 119 rfl).mono ?_
      rintro e w5 ⟨rfl, A5⟩
      have A5 := hide A5
      clear A4 ck ck2 hX hcv
      by_cases hp119 : p = 119
      · rw [decide_eq_true hp119]
        subst hp119
        have hE : Hid (escT 1 l i = .ok (classT (bWord, false), i + 1)) := by show _ = _; unfold escT; rw [HLi.out]; rfl
        have HG := hide (HI.out _ _ A5.out.drew 87 87 rfl)
        rw [show decide ((119 : Int) = 87) = false from by decide] at HG
        go_upto_region 14 with fail
        refine wp_after (reg14 (r := 2) (m := 3) (w := w) (by kernel_rfl) (by kernel_rfl) (by kernel_rfl) (by kernel_rfl) (by kernel_rfl) (by kernel_rfl) (by kernel_rfl) (by decide) (by decide) (by decide) (by decide) A5.out (fun W h => cls_cell h.cls 3 _ rfl) HG) ?_
        rintro a99 w98 ⟨A9, w99, rfl, g6, g7, g8, hA99, rfl⟩
        have HA99 := hide hA99
        clear hA99
        go_wp2
        exact ret_t2 (N := w.heap.size + 2) (t0 := {}) (W := w99) (t := classT (bWord, false)) (k := (i : Int) + 1) (z := 0) rfl (g6.trans (by kernel_rfl)) g7 g8 HA99.out.a.tok (.inl ⟨_, _, hE.out, rfl, tset_below HA99.out.a.below (by omega) _⟩)
      · rw [decide_eq_false hp119]
        go_wp2_with fail
        refine (HI.out _ _ A5.out 87 87 rfl).mono ?_
        rintro e w6 ⟨rfl, A6⟩
        have A6 := hide A6
        clear A5
        by_cases hp87 : p = 87
        · rw [decide_eq_true hp87]
          subst hp87
          have hE : Hid (escT 1 l i = .ok (classT (bWord, true), i + 1)) := by show _ = _; unfold escT; rw [HLi.out]; rfl
          have HG := hide (HI.out _ _ A6.out.drew 87 87 rfl)
          rw [show decide ((87 : Int) = 87) = true from by decide] at HG
          go_upto_region 14 with fail
          refine wp_after (reg14 (r := 2) (m := 3) (w := w) (by kernel_rfl) (by kernel_rfl) (by kernel_rfl) (by kernel_rfl) (by kernel_rfl) (by kernel_rfl) (by kernel_rfl) (by decide) (by decide) (by decide) (by decide) A6.out (fun W h => cls_cell h.cls 3 _ rfl) HG) ?_
          rintro a99 w98 ⟨A9, w99, rfl, g6, g7, g8, hA99, rfl⟩
          have HA99 := hide hA99
          clear hA99
          go_wp2
          exact ret_t2 (N := w.heap.size + 2) (t0 := {}) (W := w99) (t := classT (bWord, true)) (k := (i : Int) + 1) (z := 0) rfl (g6.trans (by kernel_rfl)) g7 g8 HA99.out.a.tok (.inl ⟨_, _, hE.out, rfl, tset_below HA99.out.a.below (by omega) _⟩)
        · rw [decide_eq_false hp87]
          go_wp2
          go_roundw
          case rel => exact ⟨4, by omega, rfl, rfl, noC_next2 HNo.out hp119 hp87, A6.out⟩
          case measure => simp [intOf]
    | 4, _, _ =>
      have ck := cls_cell A3.out.cls 4 _ rfl
      have A4 := hide (A3.out.alloc (.cells #[.int .u8 83] 5))
      have ck2 := cls_cell A4.out.cls 4 _ rfl
      have hX : (((((⟨#[115]⟩ : ByteArray)[0]'(by show 0 < 1; omega)).toNat : Int)) - 32) % 256 = 83 := rfl
      have hcv : (convert 57 9 (.slice (some ⟨wr.heap.size, 0, none⟩) 1 1)).run Try.prog (wr.alloc (.cells #[.int .u8 83] 5)) = .ok (.string ⟨#[83]⟩) (wr.alloc (.cells #[.int .u8 83] 5)) := conv_own (B := wr.heap.size) (n := 1) (l := [83]) (World.ownsRow_lit (base := wr.heap.size) (e := 5) (size := 1) wr #[.int .u8 83] 1 (Nat.le_refl _) (by unfold maxLen; omega) rfl)
      clear A3
      go_wp2_with fail
      refine (HI.out _ _ A4.out 115 115 rfl).mono ?_
      rintro e w5 ⟨rfl, A5⟩
      have A5 := hide A5
      clear A4 ck ck2 hX hcv
      by_cases hp115 : p = 115
      · rw [decide_eq_true hp115]
        subst hp115
        have hE : Hid (escT 1 l i = .ok (classT (bSpace, false), i + 1)) := by show _ = _; unfold escT; rw [HLi.out]; rfl
        have HG := hide (HI.out _ _ A5.out.drew 83 83 rfl)
        rw [show decide ((115 : Int) = 83) = false from by decide] at HG
        go_upto_region 14 with fail
        refine wp_after (reg14 (r := 4) (m := 5) (w := w) (by kernel_rfl) (by kernel_rfl) (by kernel_rfl) (by kernel_rfl) (by kernel_rfl) (by kernel_rfl) (by kernel_rfl) (by decide) (by decide) (by decide) (by decide) A5.out (fun W h => cls_cell h.cls 5 _ rfl) HG) ?_
        rintro a99 w98 ⟨A9, w99, rfl, g6, g7, g8, hA99, rfl⟩
        have HA99 := hide hA99
        clear hA99
        go_wp2
        exact ret_t2 (N := w.heap.size + 2) (t0 := {}) (W := w99) (t := classT (bSpace, false)) (k := (i : Int) + 1) (z := 0) rfl (g6.trans (by kernel_rfl)) g7 g8 HA99.out.a.tok (.inl ⟨_, _, hE.out, rfl, tset_below HA99.out.a.below (by omega) _⟩)
      · rw [decide_eq_false hp115]
        go_wp2_with fail
        refine (HI.out _ _ A5.out 83 83 rfl).mono ?_
        rintro e w6 ⟨rfl, A6⟩
        have A6 := hide A6
        clear A5
        by_cases hp83 : p = 83
        · rw [decide_eq_true hp83]
          subst hp83
          have hE : Hid (escT 1 l i = .ok (classT (bSpace, true), i + 1)) := by show _ = _; unfold escT; rw [HLi.out]; rfl
          have HG := hide (HI.out _ _ A6.out.drew 83 83 rfl)
          rw [show decide ((83 : Int) = 83) = true from by decide] at HG
          go_upto_region 14 with fail
          refine wp_after (reg14 (r := 4) (m := 5) (w := w) (by kernel_rfl) (by kernel_rfl) (by kernel_rfl) (by kernel_rfl) (by kernel_rfl) (by kernel_rfl) (by kernel_rfl) (by decide) (by decide) (by decide) (by decide) A6.out (fun W h => cls_cell h.cls 5 _ rfl) HG) ?_
          rintro a99 w98 ⟨A9, w99, rfl, g6, g7, g8, hA99, rfl⟩
          have HA99 := hide hA99
          clear hA99
          go_wp2
          exact ret_t2 (N := w.heap.size + 2) (t0 := {}) (W := w99) (t := classT (bSpace, true)) (k := (i : Int) + 1) (z := 0) rfl (g6.trans (by kernel_rfl)) g7 g8 HA99.out.a.tok (.inl ⟨_, _, hE.out, rfl, tset_below HA99.out.a.below (by omega) _⟩)
        · rw [decide_eq_false hp83]
          go_wp2
          go_roundw
          case rel => exact ⟨6, by omega, rfl, rfl, noC_next4 HNo.out hp115 hp83, A6.out⟩
          case measure => simp [intOf]
    | 6, _, _ =>
      have ck := cls_cell A3.out.cls 6 _ rfl
      have A4 := hide (A3.out.alloc (.cells #[.int .u8 72] 5))
      have ck2 := cls_cell A4.out.cls 6 _ rfl
      have hX : (((((⟨#[104]⟩ : ByteArray)[0]'(by show 0 < 1; omega)).toNat : Int)) - 32) % 256 = 72 := rfl
      have hcv : (convert 57 9 (.slice (some ⟨wr.heap.size, 0, none⟩) 1 1)).run Try.prog (wr.alloc (.cells #[.int .u8 72] 5)) = .ok (.string ⟨#[72]⟩) (wr.alloc (.cells #[.int .u8 72] 5)) := conv_own (B := wr.heap.size) (n := 1) (l := [72]) (World.ownsRow_lit (base := wr.heap.size) (e := 5) (size := 1) wr #[.int .u8 72] 1 (Nat.le_refl _) (by unfold maxLen; omega) rfl)
      clear A3
      go_wp2_with fail
      refine (HI.out _ _ A4.out 104 104 rfl).mono ?_
      rintro e w5 ⟨rfl, A5⟩
      have A5 := hide A5
      clear A4 ck ck2 hX hcv
      by_cases hp104 : p = 104
      · rw [decide_eq_true hp104]
        subst hp104
        have hE : Hid (escT 1 l i = .ok (classT (bXdigit, false), i + 1)) := by show _ = _; unfold escT; rw [HLi.out]; rfl
        have HG := hide (HI.out _ _ A5.out.drew 72 72 rfl)
        rw [show decide ((104 : Int) = 72) = false from by decide] at HG
        go_upto_region 14 with fail
        refine wp_after (reg14 (r := 6) (m := 7) (w := w) (by kernel_rfl) (by kernel_rfl) (by kernel_rfl) (by kernel_rfl) (by kernel_rfl) (by kernel_rfl) (by kernel_rfl) (by decide) (by decide) (by decide) (by decide) A5.out (fun W h => cls_cell h.cls 7 _ rfl) HG) ?_
        rintro a99 w98 ⟨A9, w99, rfl, g6, g7, g8, hA99, rfl⟩
        have HA99 := hide hA99
        clear hA99
        go_wp2
        exact ret_t2 (N := w.heap.size + 2) (t0 := {}) (W := w99) (t := classT (bXdigit, false)) (k := (i : Int) + 1) (z := 0) rfl (g6.trans (by kernel_rfl)) g7 g8 HA99.out.a.tok (.inl ⟨_, _, hE.out, rfl, tset_below HA99.out.a.below (by omega) _⟩)
      · rw [decide_eq_false hp104]
        go_wp2_with fail
        refine (HI.out _ _ A5.out 72 72 rfl).mono ?_
        rintro e w6 ⟨rfl, A6⟩
        have A6 := hide A6
        clear A5
        by_cases hp72 : p = 72
        · rw [decide_eq_true hp72]
          subst hp72
          have hE : Hid (escT 1 l i = .ok (classT (bXdigit, true), i + 1)) := by show _ = _; unfold escT; rw [HLi.out]; rfl
          have HG := hide (HI.out _ _ A6.out.drew 72 72 rfl)
          rw [show decide ((72 : Int) = 72) = true from by decide] at HG
          go_upto_region 14 with fail
          refine wp_after (reg14 (r := 6) (m := 7) (w := w) (by kernel_rfl) (by kernel_rfl) (by kernel_rfl) (by kernel_rfl) (by kernel_rfl) (by kernel_rfl) (by kernel_rfl) (by decide) (by decide) (by decide) (by decide) A6.out (fun W h => cls_cell h.cls 7 _ rfl) HG) ?_
          rintro a99 w98 ⟨A9, w99, rfl, g6, g7, g8, hA99, rfl⟩
          have HA99 := hide hA99
          clear hA99
          go_wp2
          exact ret_t2 (N := w.heap.size + 2) (t0 := {}) (W := w99) (t := classT (bXdigit, true)) (k := (i : Int) + 1) (z := 0) rfl (g6.trans (by kernel_rfl)) g7 g8 HA99.out.a.tok (.inl ⟨_, _, hE.out, rfl, tset_below HA99.out.a.below (by omega) _⟩)
        · rw [decide_eq_false hp72]
          go_wp2
          go_roundw
          case rel => exact ⟨8, by omega, rfl, rfl, noC_next6 HNo.out hp104 hp72, A6.out⟩
          case measure => simp [intOf]
    | 8, _, _ =>
      obtain ⟨w4, hw4⟩ : ∃ w4, w4 = wr := ⟨_, rfl⟩
      subst hw4
      have A4 := A3
      clear A3
      have HCn := hide (noC_none HNo.out)
      clear HNo
      go_wp2_with fail
      refine (HI.out _ _ A4.out 98 98 rfl).mono ?_
      rintro e w5 ⟨rfl, A5⟩
      have A5 := hide A5
      clear A4
      by_cases hp98 : p = 98
      · rw [decide_eq_true hp98]
        subst hp98
        have hE : Hid (escT 1 l i = .ok (lookT 7, i + 1)) := by show _ = _; unfold escT; rw [HLi.out]; rfl
        go_wp2_with fail
        refine (HLk.out 7 _ _ A5.out).mono ?_
        rintro e w6 ⟨rfl, A6⟩
        have A6 := hide A6
        clear A5
        have mn := A6.out.a.next
        obtain ⟨m0, m1, m2, m3, m4, m5, m6, m7⟩ := tok_cells A6.out.a.tok
        have mf := tok_free A6.out.a.tok
        simp only [tokV, lookT]
        go_wp2
        exact ret_t2 (N := w.heap.size + 2) (t0 := {}) (W := w6) (t := lookT 7) (k := (i : Int) + 1) (z := 0) rfl rfl rfl rfl A6.out.a.tok (.inl ⟨_, _, hE.out, rfl, tset_below A6.out.a.below (by omega) _⟩)
      · rw [decide_eq_false hp98]
        go_wp2_with fail
        refine (HI.out _ _ A5.out 66 66 rfl).mono ?_
        rintro e w6 ⟨rfl, A6⟩
        have A6 := hide A6
        clear A5
        by_cases hp66 : p = 66
        · rw [decide_eq_true hp66]
          subst hp66
          have hE : Hid (escT 1 l i = .ok (lookT 8, i + 1)) := by show _ = _; unfold escT; rw [HLi.out]; rfl
          go_wp2_with fail
          refine (HLk.out 8 _ _ A6.out).mono ?_
          rintro e w7 ⟨rfl, A7⟩
          have A7 := hide A7
          clear A6
          have mn := A7.out.a.next
          obtain ⟨m0, m1, m2, m3, m4, m5, m6, m7⟩ := tok_cells A7.out.a.tok
          have mf := tok_free A7.out.a.tok
          simp only [tokV, lookT]
          go_wp2
          exact ret_t2 (N := w.heap.size + 2) (t0 := {}) (W := w7) (t := lookT 8) (k := (i : Int) + 1) (z := 0) rfl rfl rfl rfl A7.out.a.tok (.inl ⟨_, _, hE.out, rfl, tset_below A7.out.a.below (by omega) _⟩)
        · rw [decide_eq_false hp66]
          go_wp2_with fail
          refine (HI.out _ _ A6.out 65 65 rfl).mono ?_
          rintro e w7 ⟨rfl, A7⟩
          have A7 := hide A7
          clear A6
          by_cases hp65 : p = 65
          · rw [decide_eq_true hp65]
            subst hp65
            have hE : Hid (escT 1 l i = .ok (lookT 5, i + 1)) := by show _ = _; unfold escT; rw [HLi.out]; rfl
            go_wp2_with fail
            refine (HLk.out 5 _ _ A7.out).mono ?_
            rintro e w8 ⟨rfl, A8⟩
            have A8 := hide A8
            clear A7
            have mn := A8.out.a.next
            obtain ⟨m0, m1, m2, m3, m4, m5, m6, m7⟩ := tok_cells A8.out.a.tok
            have mf := tok_free A8.out.a.tok
            simp only [tokV, lookT]
            go_wp2
            exact ret_t2 (N := w.heap.size + 2) (t0 := {}) (W := w8) (t := lookT 5) (k := (i : Int) + 1) (z := 0) rfl rfl rfl rfl A8.out.a.tok (.inl ⟨_, _, hE.out, rfl, tset_below A8.out.a.below (by omega) _⟩)
          · rw [decide_eq_false hp65]
            go_wp2_with fail
            refine (HI.out _ _ A7.out 122 122 rfl).mono ?_
            rintro e w8 ⟨rfl, A8⟩
            have A8 := hide A8
            clear A7
            by_cases hp122 : p = 122
            · rw [decide_eq_true hp122]
              subst hp122
              have hE : Hid (escT 1 l i = .ok (lookT 6, i + 1)) := by show _ = _; unfold escT; rw [HLi.out]; rfl
              go_wp2_with fail
              refine (HLk.out 6 _ _ A8.out).mono ?_
              rintro e w9 ⟨rfl, A9⟩
              have A9 := hide A9
              clear A8
              have mn := A9.out.a.next
              obtain ⟨m0, m1, m2, m3, m4, m5, m6, m7⟩ := tok_cells A9.out.a.tok
              have mf := tok_free A9.out.a.tok
              simp only [tokV, lookT]
              go_wp2
              exact ret_t2 (N := w.heap.size + 2) (t0 := {}) (W := w9) (t := lookT 6) (k := (i : Int) + 1) (z := 0) rfl rfl rfl rfl A9.out.a.tok (.inl ⟨_, _, hE.out, rfl, tset_below A9.out.a.below (by omega) _⟩)
            · rw [decide_eq_false hp122]
              obtain ⟨w9, hw9⟩ : ∃ w', w' = w8.alloc (.cells #[.int .i64 110, .int .i64 10, .int .i64 116, .int .i64 9, .int .i64 114, .int .i64 13, .int .i64 102, .int .i64 12, .int .i64 118, .int .i64 11, .int .i64 97, .int .i64 7, .int .i64 101, .int .i64 27] 3) := ⟨_, rfl⟩
              have hK9 : w9.heap[w8.heap.size]? = some ctlO := by rw [hw9]; exact at_new _ _
              have A9 := hide (A8.out.alloc (.cells #[.int .i64 110, .int .i64 10, .int .i64 116, .int .i64 9, .int .i64 114, .int .i64 13, .int .i64 102, .int .i64 12, .int .i64 118, .int .i64 11, .int .i64 97, .int .i64 7, .int .i64 101, .int .i64 27] 3))
              rw [← hw9] at A9
              obtain ⟨M, hM⟩ : ∃ M, M = w8.heap.size := ⟨_, rfl⟩
              rw [← hM] at hK9
              have HM := hide hM
              have HK := hide hK9
              clear A8 hM hK9
              go_wp2
              rw [← hw9, ← HM.out]
              clear hw9 HM
              go_loopw [21] (fun s wr => ∃ r : Nat, r ≤ 14 ∧ r % 2 = 0 ∧ s = .int .i64 r ∧ noK p r ∧ wr = w9) (fun s _ => 14 - (intOf s).toNat)
              case atStart => exact ⟨0, by omega, rfl, rfl, noK_zero _, rfl⟩
              case round =>
                obtain ⟨r, hr, he, rfl, hnk, hwr⟩ := hrel
                have hwr2 := hwr.symm
                subst hwr2
                have HNk := hide hnk
                clear hnk
                match r, hr, he with
                | 0, _, _ =>
                  have kc := ctl_cell HK.out 0 _ rfl
                  by_cases hp110 : p = 110
                  · subst hp110
                    have hE : Hid (escT 1 l i = .ok (pointT 10, i + 1)) := by show _ = _; unfold escT; rw [HLi.out]; rfl
                    have HG := hide (HPt.out 10 _ _ A9.out.drew)
                    have kv := ctl_cell HK.out 1 _ rfl
                    go_upto_region 48 with fail
                    refine wp_after (reg48 (r := 0) (m := 1) (w := w) (by kernel_rfl) (by kernel_rfl) (by kernel_rfl) (by kernel_rfl) (by kernel_rfl) (by decide) (by decide) (by decide) (by decide) A9.out kv HG) ?_
                    rintro a99 w98 ⟨A9, w99, rfl, g6, g7, g8, hA99, rfl⟩
                    have HA99 := hide hA99
                    clear hA99
                    go_wp2
                    exact ret_t2 (N := w.heap.size + 2) (t0 := {}) (W := w99) (t := pointT 10) (k := (i : Int) + 1) (z := 0) rfl (g6.trans (by kernel_rfl)) g7 g8 HA99.out.a.tok (.inl ⟨_, _, hE.out, rfl, tset_below HA99.out.a.below (by omega) _⟩)
                  · have hb110 : (p == 110) = false := by simpa using hp110
                    go_wp2
                    go_roundw
                    case rel => exact ⟨2, by omega, rfl, rfl, noK_next0 HNk.out hp110, by first | rfl | trivial⟩
                    case measure => simp [intOf]
                | 2, _, _ =>
                  have kc := ctl_cell HK.out 2 _ rfl
                  by_cases hp116 : p = 116
                  · subst hp116
                    have hE : Hid (escT 1 l i = .ok (pointT 9, i + 1)) := by show _ = _; unfold escT; rw [HLi.out]; rfl
                    have HG := hide (HPt.out 9 _ _ A9.out.drew)
                    have kv := ctl_cell HK.out 3 _ rfl
                    go_upto_region 48 with fail
                    refine wp_after (reg48 (r := 2) (m := 3) (w := w) (by kernel_rfl) (by kernel_rfl) (by kernel_rfl) (by kernel_rfl) (by kernel_rfl) (by decide) (by decide) (by decide) (by decide) A9.out kv HG) ?_
                    rintro a99 w98 ⟨A9, w99, rfl, g6, g7, g8, hA99, rfl⟩
                    have HA99 := hide hA99
                    clear hA99
                    go_wp2
                    exact ret_t2 (N := w.heap.size + 2) (t0 := {}) (W := w99) (t := pointT 9) (k := (i : Int) + 1) (z := 0) rfl (g6.trans (by kernel_rfl)) g7 g8 HA99.out.a.tok (.inl ⟨_, _, hE.out, rfl, tset_below HA99.out.a.below (by omega) _⟩)
                  · have hb116 : (p == 116) = false := by simpa using hp116
                    go_wp2
                    go_roundw
                    case rel => exact ⟨4, by omega, rfl, rfl, noK_next2 HNk.out hp116, by first | rfl | trivial⟩
                    case measure => simp [intOf]
                | 4, _, _ =>
                  have kc := ctl_cell HK.out 4 _ rfl
                  by_cases hp114 : p = 114
                  · subst hp114
                    have hE : Hid (escT 1 l i = .ok (pointT 13, i + 1)) := by show _ = _; unfold escT; rw [HLi.out]; rfl
                    have HG := hide (HPt.out 13 _ _ A9.out.drew)
                    have kv := ctl_cell HK.out 5 _ rfl
                    go_upto_region 48 with fail
                    refine wp_after (reg48 (r := 4) (m := 5) (w := w) (by kernel_rfl) (by kernel_rfl) (by kernel_rfl) (by kernel_rfl) (by kernel_rfl) (by decide) (by decide) (by decide) (by decide) A9.out kv HG) ?_
                    rintro a99 w98 ⟨A9, w99, rfl, g6, g7, g8, hA99, rfl⟩
                    have HA99 := hide hA99
                    clear hA99
                    go_wp2
                    exact ret_t2 (N := w.heap.size + 2) (t0 := {}) (W := w99) (t := pointT 13) (k := (i : Int) + 1) (z := 0) rfl (g6.trans (by kernel_rfl)) g7 g8 HA99.out.a.tok (.inl ⟨_, _, hE.out, rfl, tset_below HA99.out.a.below (by omega) _⟩)
                  · have hb114 : (p == 114) = false := by simpa using hp114
                    go_wp2
                    go_roundw
                    case rel => exact ⟨6, by omega, rfl, rfl, noK_next4 HNk.out hp114, by first | rfl | trivial⟩
                    case measure => simp [intOf]
                | 6, _, _ =>
                  have kc := ctl_cell HK.out 6 _ rfl
                  by_cases hp102 : p = 102
                  · subst hp102
                    have hE : Hid (escT 1 l i = .ok (pointT 12, i + 1)) := by show _ = _; unfold escT; rw [HLi.out]; rfl
                    have HG := hide (HPt.out 12 _ _ A9.out.drew)
                    have kv := ctl_cell HK.out 7 _ rfl
                    go_upto_region 48 with fail
                    refine wp_after (reg48 (r := 6) (m := 7) (w := w) (by kernel_rfl) (by kernel_rfl) (by kernel_rfl) (by kernel_rfl) (by kernel_rfl) (by decide) (by decide) (by decide) (by decide) A9.out kv HG) ?_
                    rintro a99 w98 ⟨A9, w99, rfl, g6, g7, g8, hA99, rfl⟩
                    have HA99 := hide hA99
                    clear hA99
                    go_wp2
                    exact ret_t2 (N := w.heap.size + 2) (t0 := {}) (W := w99) (t := pointT 12) (k := (i : Int) + 1) (z := 0) rfl (g6.trans (by kernel_rfl)) g7 g8 HA99.out.a.tok (.inl ⟨_, _, hE.out, rfl, tset_below HA99.out.a.below (by omega) _⟩)
                  · have hb102 : (p == 102) = false := by simpa using hp102
                    go_wp2
                    go_roundw
                    case rel => exact ⟨8, by omega, rfl, rfl, noK_next6 HNk.out hp102, by first | rfl | trivial⟩
                    case measure => simp [intOf]
                | 8, _, _ =>
                  have kc := ctl_cell HK.out 8 _ rfl
                  by_cases hp118 : p = 118
                  · subst hp118
                    have hE : Hid (escT 1 l i = .ok (pointT 11, i + 1)) := by show _ = _; unfold escT; rw [HLi.out]; rfl
                    have HG := hide (HPt.out 11 _ _ A9.out.drew)
                    have kv := ctl_cell HK.out 9 _ rfl
                    go_upto_region 48 with fail
                    refine wp_after (reg48 (r := 8) (m := 9) (w := w) (by kernel_rfl) (by kernel_rfl) (by kernel_rfl) (by kernel_rfl) (by kernel_rfl) (by decide) (by decide) (by decide) (by decide) A9.out kv HG) ?_
                    rintro a99 w98 ⟨A9, w99, rfl, g6, g7, g8, hA99, rfl⟩
                    have HA99 := hide hA99
                    clear hA99
                    go_wp2
                    exact ret_t2 (N := w.heap.size + 2) (t0 := {}) (W := w99) (t := pointT 11) (k := (i : Int) + 1) (z := 0) rfl (g6.trans (by kernel_rfl)) g7 g8 HA99.out.a.tok (.inl ⟨_, _, hE.out, rfl, tset_below HA99.out.a.below (by omega) _⟩)
                  · have hb118 : (p == 118) = false := by simpa using hp118
                    go_wp2
                    go_roundw
                    case rel => exact ⟨10, by omega, rfl, rfl, noK_next8 HNk.out hp118, by first | rfl | trivial⟩
                    case measure => simp [intOf]
                | 10, _, _ =>
                  have kc := ctl_cell HK.out 10 _ rfl
                  by_cases hp97 : p = 97
                  · subst hp97
                    have hE : Hid (escT 1 l i = .ok (pointT 7, i + 1)) := by show _ = _; unfold escT; rw [HLi.out]; rfl
                    have HG := hide (HPt.out 7 _ _ A9.out.drew)
                    have kv := ctl_cell HK.out 11 _ rfl
                    go_upto_region 48 with fail
                    refine wp_after (reg48 (r := 10) (m := 11) (w := w) (by kernel_rfl) (by kernel_rfl) (by kernel_rfl) (by kernel_rfl) (by kernel_rfl) (by decide) (by decide) (by decide) (by decide) A9.out kv HG) ?_
                    rintro a99 w98 ⟨A9, w99, rfl, g6, g7, g8, hA99, rfl⟩
                    have HA99 := hide hA99
                    clear hA99
                    go_wp2
                    exact ret_t2 (N := w.heap.size + 2) (t0 := {}) (W := w99) (t := pointT 7) (k := (i : Int) + 1) (z := 0) rfl (g6.trans (by kernel_rfl)) g7 g8 HA99.out.a.tok (.inl ⟨_, _, hE.out, rfl, tset_below HA99.out.a.below (by omega) _⟩)
                  · have hb97 : (p == 97) = false := by simpa using hp97
                    go_wp2
                    go_roundw
                    case rel => exact ⟨12, by omega, rfl, rfl, noK_next10 HNk.out hp97, by first | rfl | trivial⟩
                    case measure => simp [intOf]
                | 12, _, _ =>
                  have kc := ctl_cell HK.out 12 _ rfl
                  by_cases hp101 : p = 101
                  · subst hp101
                    have hE : Hid (escT 1 l i = .ok (pointT 27, i + 1)) := by show _ = _; unfold escT; rw [HLi.out]; rfl
                    have HG := hide (HPt.out 27 _ _ A9.out.drew)
                    have kv := ctl_cell HK.out 13 _ rfl
                    go_upto_region 48 with fail
                    refine wp_after (reg48 (r := 12) (m := 13) (w := w) (by kernel_rfl) (by kernel_rfl) (by kernel_rfl) (by kernel_rfl) (by kernel_rfl) (by decide) (by decide) (by decide) (by decide) A9.out kv HG) ?_
                    rintro a99 w98 ⟨A9, w99, rfl, g6, g7, g8, hA99, rfl⟩
                    have HA99 := hide hA99
                    clear hA99
                    go_wp2
                    exact ret_t2 (N := w.heap.size + 2) (t0 := {}) (W := w99) (t := pointT 27) (k := (i : Int) + 1) (z := 0) rfl (g6.trans (by kernel_rfl)) g7 g8 HA99.out.a.tok (.inl ⟨_, _, hE.out, rfl, tset_below HA99.out.a.below (by omega) _⟩)
                  · have hb101 : (p == 101) = false := by simpa using hp101
                    go_wp2
                    go_roundw
                    case rel => exact ⟨14, by omega, rfl, rfl, noK_next12 HNk.out hp101, by first | rfl | trivial⟩
                    case measure => simp [intOf]
                | 14, _, _ =>
                  have HBt := hide (betw_any p 49 57 w9)
                  by_cases hdg : 49 ≤ p ∧ p ≤ 57
                  · rw [decide_eq_true hdg.1, decide_eq_true hdg.2] at HBt
                    have hE : Hid (escT 1 l i = .ok (againT (digs 10 2 l i).1, i + (digs 10 2 l i).2)) := esc1_dig HLi.out HCn.out hdg.1 hdg.2
                    have HDg := hide (HDgs.out w9 A9.out.a.below)
                    clear hdg
                    obtain ⟨dq, hdq⟩ : ∃ dq, dq = digs 10 2 l i := ⟨_, rfl⟩
                    rw [← hdq] at HDg hE
                    clear hdq
                    obtain ⟨dv, dk⟩ := dq
                    simp only at HDg hE
                    have m4 := A9.out.a.sl
                    have m5 := A9.out.a.at_
                    go_wp2_with fail
                    refine HBt.out.mono ?_
                    rintro e w' ⟨rfl, rfl⟩
                    clear HBt
                    go_wp2_with fail
                    refine HDg.out.mono ?_
                    rintro e w' ⟨rfl, hww⟩
                    have hww2 := hww.symm
                    subst hww2
                    clear HDg m4 m5
                    have mn := A9.out.a.next
                    obtain ⟨m0, m1, m2, m3, m4, m5, m6, m7⟩ := tok_cells A9.out.a.tok
                    have mf := tok_free A9.out.a.tok
                    go_wp2
                    exact ret_t2 (N := w.heap.size + 2) (t0 := {}) (W := _) (t := againT dv) (k := ((i + dk : Nat) : Int)) (z := 0) rfl rfl rfl rfl A9.out.a.tok (.inl ⟨_, _, hE.out, rfl, tset_below A9.out.a.below (by omega) _⟩)
                  · have hbf : (decide (49 ≤ p) && decide (p ≤ 57)) = false := by rw [Bool.eq_false_iff]; simp only [ne_eq, Bool.and_eq_true, decide_eq_true_eq]; exact hdg
                    rw [hbf] at HBt
                    clear hbf
                    go_wp2_with fail
                    refine HBt.out.mono ?_
                    rintro e w' ⟨rfl, rfl⟩
                    clear HBt
                    go_wp2_with fail
                    refine (HI.out _ _ A9.out 120 120 rfl).mono ?_
                    rintro e w10 ⟨rfl, A10⟩
                    have A10 := hide A10
                    clear A9
                    rw [decide_eq_false hx]
                    go_wp2_with fail
                    refine (HI.out _ _ A10.out 117 117 rfl).mono ?_
                    rintro e w11 ⟨rfl, A11⟩
                    have A11 := hide A11
                    clear A10
                    rw [decide_eq_false hu]
                    go_wp2_with fail
                    refine (HI.out _ _ A11.out 107 107 rfl).mono ?_
                    rintro e w12 ⟨rfl, A12⟩
                    have A12 := hide A12
                    clear A11
                    rw [decide_eq_false hk]
                    have HLt := hide (isLetR_any p w12)
                    have hE0 := hide (esc1_last HLi.out HCn.out hp65 hp122 hp98 hp66 hx hu hk hdg HNk.out)
                    cases hlb : letB p with
                    | true =>
                      rw [hlb] at HLt
                      have hE : Hid (escT 1 l i = .error 1) := by show _ = _; rw [hE0.out, if_pos (.inl hlb)]
                      clear hlb hE0
                      go_wp2_with fail
                      refine HLt.out.mono ?_
                      rintro e w' ⟨rfl, rfl⟩
                      clear HLt
                      have mn := A12.out.a.next
                      obtain ⟨m0, m1, m2, m3, m4, m5, m6, m7⟩ := tok_cells A12.out.a.tok
                      have mf := tok_free A12.out.a.tok
                      go_wp2
                      exact ret_t2 (N := w.heap.size + 2) (t0 := {}) (W := _) (t := {}) (k := 0) (z := 1) rfl rfl rfl rfl A12.out.a.tok (.inr ⟨_, hE.out, rfl, tset_below A12.out.a.below (by omega) _⟩)
                    | false =>
                      rw [hlb] at HLt
                      by_cases hp48 : p = 48
                      · have hE : Hid (escT 1 l i = .error 1) := by show _ = _; rw [hE0.out, if_pos (.inr hp48)]
                        have hb48 : (p == 48) = true := by simpa using hp48
                        clear hlb hE0 hp48
                        go_wp2_with fail
                        refine HLt.out.mono ?_
                        rintro e w' ⟨rfl, rfl⟩
                        clear HLt
                        have mn := A12.out.a.next
                        obtain ⟨m0, m1, m2, m3, m4, m5, m6, m7⟩ := tok_cells A12.out.a.tok
                        have mf := tok_free A12.out.a.tok
                        go_wp2
                        exact ret_t2 (N := w.heap.size + 2) (t0 := {}) (W := _) (t := {}) (k := 0) (z := 1) rfl rfl rfl rfl A12.out.a.tok (.inr ⟨_, hE.out, rfl, tset_below A12.out.a.below (by omega) _⟩)
                      · have hE3 : Hid (escT 1 l i = .ok (pointT p, i + 1)) := by show _ = _; rw [hE0.out, if_neg (by rw [hlb]; simp; exact hp48)]
                        have hb48 : (p == 48) = false := by simpa using hp48
                        clear hlb hE0 hp48
                        go_wp2_with fail
                        refine HLt.out.mono ?_
                        rintro e w' ⟨rfl, rfl⟩
                        clear HLt
                        have hE : Hid (escT 1 l i = .ok (pointT p, i + 1)) := by show _ = _; exact hE3.out
                        have HG := hide (HPt.out p _ _ A12.out.drew)
                        go_upto_region 95 with fail
                        refine wp_after (reg95 (w := w) (by kernel_rfl) (by kernel_rfl) (by kernel_rfl) (by kernel_rfl) A12.out HG) ?_
                        rintro a99 w98 ⟨A9, w99, rfl, g6, g7, g8, hA99, rfl⟩
                        have HA99 := hide hA99
                        clear hA99
                        go_wp2
                        exact ret_t2 (N := w.heap.size + 2) (t0 := {}) (W := w99) (t := pointT p) (k := (i : Int) + 1) (z := 0) rfl (g6.trans (by kernel_rfl)) g7 g8 HA99.out.a.tok (.inl ⟨_, _, hE.out, rfl, tset_below HA99.out.a.below (by omega) _⟩)
                | 1, _, he => exact absurd he (by decide)
                | 3, _, he => exact absurd he (by decide)
                | 5, _, he => exact absurd he (by decide)
                | 7, _, he => exact absurd he (by decide)
                | 9, _, he => exact absurd he (by decide)
                | 11, _, he => exact absurd he (by decide)
                | 13, _, he => exact absurd he (by decide)
                | (r + 15), hr, _ => exact absurd hr (by omega)
    | 1, _, he => exact absurd he (by decide)
    | 3, _, he => exact absurd he (by decide)
    | 5, _, he => exact absurd he (by decide)
    | 7, _, he => exact absurd he (by decide)
    | (r + 9), hr, _ => exact absurd hr (by omega)

end Go.Proofs.Ytlapnhjkhpgklaa
