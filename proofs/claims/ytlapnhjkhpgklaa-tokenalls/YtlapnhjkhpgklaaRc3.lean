/- The reference's Escaped in the third dialect. -/
import Derived.Test.YtlapnhjkhpgklaaRg2
import Derived.Test.YtlapnhjkhpgklaaRb6
namespace Go.Proofs.Ytlapnhjkhpgklaa
open Go.RowKit
set_option linter.unusedVariables false

theorem times_noE {d : Int} {l : List Int} {i : Nat} (h : (ivlT d l i).1 = false) : timesT d l i = if d = 1 then .ok (pointT 123, i) else .error 1 := by
  unfold ivlT at h
  unfold timesT
  simp only at h ⊢
  split at h
  · rename_i h1; rw [if_pos h1]
  · cases h
theorem times_yesE {d : Int} {l : List Int} {i : Nat} {R : RT} (h : ivlT d l i = (true, R)) : timesT d l i = R := by
  unfold ivlT at h
  unfold timesT
  simp only at h ⊢
  split at h
  · cases h
  · rename_i h1
    rw [if_neg h1]
    exact (Prod.mk.inj h).2
theorem ivl_errE {d : Int} {l : List Int} {i : Nat} {z : Int} (h : ivlT d l i = (true, .error z)) : z = 3 ∨ z = 2 := by
  unfold ivlT at h
  simp only at h
  split at h
  · cases h
  · have h := (Prod.mk.inj h).2
    split at h
    · left; injection h with h; exact h.symm
    · split at h
      · right; injection h with h; exact h.symm
      · cases h
def noC3 (p : Int) (r : Nat) : Prop := 4 ≤ r → p ≠ 119 ∧ p ≠ 87
theorem noC3_zero (p : Int) : noC3 p 0 := fun h => absurd h (by omega)
theorem noC3_next0 {p : Int} (h : noC3 p 0) : noC3 p 2 := fun h => absurd h (by omega)
theorem noC3_next2 {p : Int} (h : noC3 p 2) (h1 : ¬ p = 119) (h2 : ¬ p = 87) : noC3 p 4 := fun _ => ⟨h1, h2⟩
theorem noC3_next4 {p : Int} (h : noC3 p 4) : noC3 p 6 := fun _ => h (by omega)
theorem noC3_next6 {p : Int} (h : noC3 p 6) : noC3 p 8 := fun _ => h (by omega)
theorem esc3_dig {l : List Int} {i : Nat} {p : Int} (h : l[i]? = some p) (h1 : 49 ≤ p) (h2 : p ≤ 57) : escT 3 l i = .ok (againT (p - 48), i + 1) := by
  unfold escT; rw [h]
  show (if (3 : Int) = 1 then rubyT l (i + 1) p else if (3 : Int) = 3 then emacsT l (i + 1) p else .ok (pointT p, i + 1)) = _
  rw [if_neg (by omega), if_pos rfl]
  unfold emacsT
  rw [if_neg (by omega), if_neg (by omega), if_neg (by omega), if_neg (by omega), if_neg (by omega), if_neg (by omega), if_neg (by omega), if_pos ⟨h1, h2⟩]
theorem esc3_pt {l : List Int} {i : Nat} {p : Int} (h : l[i]? = some p) (h1 : ¬ (49 ≤ p ∧ p ≤ 57)) (a1 : ¬ p = 40) (a2 : ¬ p = 41) (a3 : ¬ p = 124) (a4 : ¬ p = 123) (a5 : ¬ p = 119) (a6 : ¬ p = 87) (a7 : ¬ p = 98) (a8 : ¬ p = 66) (a9 : ¬ p = 96) (a10 : ¬ p = 39) : escT 3 l i = .ok (pointT p, i + 1) := by
  unfold escT; rw [h]
  show (if (3 : Int) = 1 then rubyT l (i + 1) p else if (3 : Int) = 3 then emacsT l (i + 1) p else .ok (pointT p, i + 1)) = _
  rw [if_neg (by omega), if_pos rfl]
  unfold emacsT
  rw [if_neg (by omega), if_neg a5, if_neg a6, if_neg a7, if_neg a8, if_neg a9, if_neg a10, if_neg h1]

set_option maxRecDepth 100000 in
set_option maxHeartbeats 40000000 in
theorem esc_three (x : Addr) (c : Nat) (l : List Int) (i : Nat) (w : World) (h : ReadsI w x l) (hi : i < l.length) (hl : l.length ≤ 300) (hcap : l.length ≤ c) (hpts : ∀ p ∈ l, 0 ≤ p ∧ p ≤ 1114111) : Calls Try.prog 20 #[.int .i64 3, .slice (some x) l.length c, .int .i64 i] w fun e w' => NextE (escT 3 l i) w e w' := by
  have hb3 := three_belowE w (.cells #[.slice (some x) l.length c] 22) (.cells #[.int .i64 i] 3) (tokO {})
  have hA := escA_first w x l.length c i (((i : Nat) : Int) + 1)
  obtain ⟨w0, hw0⟩ : ∃ w0, w0 = ((w.alloc (.cells #[.slice (some x) l.length c] 22)).alloc (.cells #[.int .i64 i] 3)).alloc (tokO {}) := ⟨_, rfl⟩
  have HB0 : Hid (Below w.heap.size w w0) := by show Below _ _ _; rw [hw0]; exact hb3
  have HZ0 : Hid (w0.heap.size = w.heap.size + 3) := by show _ = _; rw [hw0]; simp
  have C5 : w0.cell? ⟨w.heap.size + 1, 0, none⟩ = some (.int .i64 i) := by rw [hw0]; exact below_cellT ((Below.refl _ _).alloc (Nat.le_refl _) _) (World.cell?_alloc1 w _ _ 0 _ rfl)
  rw [← hw0] at hA
  have hC := escC_first w x l.length c i (((i : Nat) : Int) + 1) hA (by simp [HZ0.out])
  have HP := hide (pointAt_any x c l i w0 (h.belowB HB0.out))
  have hpi := hpts l[i] (List.getElem_mem _)
  have HCi : Hid (∀ W, Below w.heap.size w W → W.cell? (x.add i) = some (.int .i64 l[i])) := fun W hW => h.belowB hW i hi
  rw [ptA_in hi] at HP
  have HLi : Hid (l[i]? = some l[i]) := List.getElem?_eq_getElem hi
  have hs : ∀ z : Int, 0 ≤ z → says l i [z] = decide (l[i] = z) := fun z hz => by rw [says_pt l i z hz, ptA_in hi]
  have HRd := hide (fun W (hW : Below w.heap.size w W) => h.belowB hW)
  have HI : Hid (∀ (k : Int) W, EscC w x l.length c i k W → ∀ (u : UInt8) (z : Int), z = (u.toNat : Int) → Calls Try.prog 30 #[.string ⟨#[u]⟩, .pointer (some ⟨w.heap.size, 0, none⟩), .pointer (some ⟨w.heap.size + 1, 0, none⟩)] W fun e w' => e = .returned (.bool (decide (l[i] = z))) ∧ EscC w x l.length c i k w') := fun k W hW u z hz => by
    have := isE_any x c l i _ _ u z hz W (h.belowB hW.a.below) hW.a.sl hW.a.at_ (by omega) (by omega)
    rw [hs z (by omega)] at this
    exact this.mono (by rintro e w' ⟨rfl, hb⟩; exact ⟨rfl, hW.on hb⟩)
  have HLk : Hid (∀ (kk k : Int) W, EscC w x l.length c i k W → Calls Try.prog 31 #[.int .i64 kk, .pointer (some ⟨w.heap.size + 3, 0, none⟩)] W fun e w' => e = .returned (.tuple #[tokV (lookT kk), .int .i64 k, .int .i64 0]) ∧ EscC w x l.length c i k w') := fun kk k W hW => (lookE_any kk k _ W hW.a.next).mono (by rintro e w' ⟨rfl, hb⟩; exact ⟨rfl, hW.on hb⟩)
  have HPt : Hid (∀ (q k : Int) W, EscC w x l.length c i k W → Calls Try.prog 23 #[.int .i64 q] W fun e w' => e = .returned (tokV (pointT q)) ∧ EscC w x l.length c i k w') := fun q k W hW => (ptok_any q W).mono (by rintro e w' ⟨rfl, hb⟩; exact ⟨rfl, hW.on hb⟩)
  have HOp : Hid (∀ (k : Int) W, EscC w x l.length c i k W → Calls Try.prog 21 #[.int .i64 3, .slice (some x) l.length c, .int .i64 ((i : Int) + 1)] W fun e w' => NextE (openS 3 l (i + 1)) W e w') := fun k W hW => by
    have := openedR_any 3 x c l (i + 1) W (h.belowB hW.a.below) (by omega) hl
    rw [show (((i + 1 : Nat)) : Int) = (i : Int) + 1 from by omega] at this
    exact this
  have HIv : Hid (∀ (k : Int) W, EscC w x l.length c i k W → Calls Try.prog 22 #[.int .i64 3, .slice (some x) l.length c, .int .i64 ((i : Int) + 1)] W fun e w' => IvE (ivlT 3 l (i + 1)) W e w') := fun k W hW => by
    have := intervalR_any 3 x c l (i + 1) W (h.belowB hW.a.below) (by omega) hl
    rw [show (((i + 1 : Nat)) : Int) = (i : Int) + 1 from by omega] at this
    exact this
  obtain ⟨p, hp⟩ : ∃ p, p = l[i] := ⟨_, rfl⟩
  rw [← hp] at HP hpi HCi HLi HI
  obtain ⟨n, hn⟩ : ∃ n, n = l.length := ⟨_, rfl⟩
  have HN := hide hn
  rw [← hn] at HP hw0 hl hi hA hC hcap HI HLk HPt HOp HIv ⊢
  simp only [tokO] at hw0
  clear h hb3 hp hpts hs
  clear hn
  obtain ⟨w1, hw1⟩ : ∃ w1, w1 = (w0.alloc (.cells #[.int .i64 (((i : Nat) : Int) + 1)] 3)).alloc (.cells #[.string ⟨#[100]⟩, .string ⟨#[100, 105, 103, 105, 116]⟩, .string ⟨#[119]⟩, .string ⟨#[119, 111, 114, 100]⟩, .string ⟨#[115]⟩, .string ⟨#[115, 112, 97, 99, 101]⟩, .string ⟨#[104]⟩, .string ⟨#[120, 100, 105, 103, 105, 116]⟩] 9) := ⟨_, rfl⟩
  rw [show (w0.alloc (.cells #[.int .i64 (((i : Nat) : Int) + 1)] 3)).alloc clsO = w1 from hw1.symm] at hC
  have A1 := hide hC
  clear hA hC
  go_enter Try.func20, Try.ntmps20
  go_wp2_with fail
  rw [← hw0]
  clear hw0
  refine HP.out.mono ?_
  rintro e w2 ⟨rfl, rfl⟩
  have hz := HZ0.out
  have hpn : ¬ p < 0 := by omega
  go_wp2
  rw [← hw1]
  clear hw1 hz C5 HP HB0 HZ0
  go_loopw [13] (fun s wr => ∃ r : Nat, r ≤ 8 ∧ r % 2 = 0 ∧ s = .int .i64 r ∧ noC3 p r ∧ EscC w x n c i ((i : Int) + 1) wr) (fun s _ => 8 - (intOf s).toNat)
  case atStart => exact ⟨0, by omega, rfl, rfl, noC3_zero p, A1.out⟩
  case round =>
    obtain ⟨r, hr, he, rfl, hno, hA⟩ := hrel
    have A3 := hide hA
    have HNo := hide hno
    clear hA hno A1
    match r, hr, he with
    | 0, _, _ =>
      have ck := cls_cell A3.out.cls 0 _ rfl
      have A4 := hide (A3.out.alloc (.cells #[.int .u8 68] 5))
      have ck2 := cls_cell A4.out.cls 0 _ rfl
      have hX : (((((⟨#[100]⟩ : ByteArray)[0]'(by show 0 < 1; omega)).toNat : Int)) - 32) % 256 = 68 := rfl
      have hcv : (convert 57 9 (.slice (some ⟨wr.heap.size, 0, none⟩) 1 1)).run Try.prog (wr.alloc (.cells #[.int .u8 68] 5)) = .ok (.string ⟨#[68]⟩) (wr.alloc (.cells #[.int .u8 68] 5)) := conv_own (B := wr.heap.size) (n := 1) (l := [68]) (World.ownsRow_lit (base := wr.heap.size) (e := 5) (size := 1) wr #[.int .u8 68] 1 (Nat.le_refl _) (by unfold maxLen; omega) rfl)
      clear A3
      go_wp2_with fail
      refine (HI.out _ _ A4.out 100 100 rfl).mono ?_
      rintro e w5 ⟨rfl, A5⟩
      have A5 := hide A5
      clear A4 ck ck2 hX hcv
      by_cases hq : p = 100
      · rw [decide_eq_true hq]
        clear hq
        go_wp2
        go_roundw
        case rel => exact ⟨2, by omega, rfl, rfl, noC3_next0 HNo.out, A5.out⟩
        case measure => simp [intOf]
      · rw [decide_eq_false hq]
        clear hq
        go_wp2_with fail
        refine (HI.out _ _ A5.out 68 68 rfl).mono ?_
        rintro e w6 ⟨rfl, A6⟩
        have A6 := hide A6
        clear A5
        obtain ⟨bq, hbq⟩ : ∃ bq, bq = decide (p = 68) := ⟨_, rfl⟩
        rw [← hbq]
        clear hbq
        cases bq with
        | true =>
          go_wp2
          go_roundw
          case rel => exact ⟨2, by omega, rfl, rfl, noC3_next0 HNo.out, A6.out⟩
          case measure => simp [intOf]
        | false =>
          go_wp2
          go_roundw
          case rel => exact ⟨2, by omega, rfl, rfl, noC3_next0 HNo.out, A6.out⟩
          case measure => simp [intOf]
    | 2, _, _ =>
      have ck := cls_cell A3.out.cls 2 _ rfl
      have A4 := hide (A3.out.alloc (.cells #[.int .u8 87] 5))
      have ck2 := cls_cell A4.out.cls 2 _ rfl
      have hX : (((((⟨#[119]⟩ : ByteArray)[0]'(by show 0 < 1; omega)).toNat : Int)) - 32) % 256 = 87 := rfl
      have hcv : (convert 57 9 (.slice (some ⟨wr.heap.size, 0, none⟩) 1 1)).run Try.prog (wr.alloc (.cells #[.int .u8 87] 5)) = .ok (.string ⟨#[87]⟩) (wr.alloc (.cells #[.int .u8 87] 5)) := conv_own (B := wr.heap.size) (n := 1) (l := [87]) (World.ownsRow_lit (base := wr.heap.size) (e := 5) (size := 1) wr #[.int .u8 87] 1 (Nat.le_refl _) (by unfold maxLen; omega) rfl)
      clear A3
      go_wp2_with fail
      refine (HI.out _ _ A4.out 119 119 rfl).mono ?_
      rintro e w5 ⟨rfl, A5⟩
      have A5 := hide A5
      clear A4 ck ck2 hX hcv
      by_cases hp119 : p = 119
      · rw [decide_eq_true hp119]
        subst hp119
        have hE : Hid (escT 3 l i = .ok (classT (bWord, false), i + 1)) := by show _ = _; unfold escT; rw [HLi.out]; rfl
        have HG := hide (HI.out _ _ A5.out.drew 87 87 rfl)
        rw [show decide ((119 : Int) = 87) = false from by decide] at HG
        go_upto_region 14 with fail
        refine wp_after (reg14 (r := 2) (m := 3) (w := w) (by kernel_rfl) (by kernel_rfl) (by kernel_rfl) (by kernel_rfl) (by kernel_rfl) (by kernel_rfl) (by kernel_rfl) (by decide) (by decide) (by decide) (by decide) A5.out (fun W h => cls_cell h.cls 3 _ rfl) HG) ?_
        rintro a99 w98 ⟨A9, w99, rfl, g6, g7, g8, hA99, rfl⟩
        have HA99 := hide hA99
        clear hA99
        go_wp2
        exact ret_t2 (N := w.heap.size + 2) (t0 := {}) (W := w99) (t := classT (bWord, false)) (k := (i : Int) + 1) (z := 0) rfl (g6.trans (by kernel_rfl)) g7 g8 HA99.out.a.tok (.inl ⟨_, _, hE.out, rfl, tset_below HA99.out.a.below (by omega) _⟩)
      · rw [decide_eq_false hp119]
        go_wp2_with fail
        refine (HI.out _ _ A5.out 87 87 rfl).mono ?_
        rintro e w6 ⟨rfl, A6⟩
        have A6 := hide A6
        clear A5
        by_cases hp87 : p = 87
        · rw [decide_eq_true hp87]
          subst hp87
          have hE : Hid (escT 3 l i = .ok (classT (bWord, true), i + 1)) := by show _ = _; unfold escT; rw [HLi.out]; rfl
          have HG := hide (HI.out _ _ A6.out.drew 87 87 rfl)
          rw [show decide ((87 : Int) = 87) = true from by decide] at HG
          go_upto_region 14 with fail
          refine wp_after (reg14 (r := 2) (m := 3) (w := w) (by kernel_rfl) (by kernel_rfl) (by kernel_rfl) (by kernel_rfl) (by kernel_rfl) (by kernel_rfl) (by kernel_rfl) (by decide) (by decide) (by decide) (by decide) A6.out (fun W h => cls_cell h.cls 3 _ rfl) HG) ?_
          rintro a99 w98 ⟨A9, w99, rfl, g6, g7, g8, hA99, rfl⟩
          have HA99 := hide hA99
          clear hA99
          go_wp2
          exact ret_t2 (N := w.heap.size + 2) (t0 := {}) (W := w99) (t := classT (bWord, true)) (k := (i : Int) + 1) (z := 0) rfl (g6.trans (by kernel_rfl)) g7 g8 HA99.out.a.tok (.inl ⟨_, _, hE.out, rfl, tset_below HA99.out.a.below (by omega) _⟩)
        · rw [decide_eq_false hp87]
          go_wp2
          go_roundw
          case rel => exact ⟨4, by omega, rfl, rfl, noC3_next2 HNo.out hp119 hp87, A6.out⟩
          case measure => simp [intOf]
    | 4, _, _ =>
      have ck := cls_cell A3.out.cls 4 _ rfl
      have A4 := hide (A3.out.alloc (.cells #[.int .u8 83] 5))
      have ck2 := cls_cell A4.out.cls 4 _ rfl
      have hX : (((((⟨#[115]⟩ : ByteArray)[0]'(by show 0 < 1; omega)).toNat : Int)) - 32) % 256 = 83 := rfl
      have hcv : (convert 57 9 (.slice (some ⟨wr.heap.size, 0, none⟩) 1 1)).run Try.prog (wr.alloc (.cells #[.int .u8 83] 5)) = .ok (.string ⟨#[83]⟩) (wr.alloc (.cells #[.int .u8 83] 5)) := conv_own (B := wr.heap.size) (n := 1) (l := [83]) (World.ownsRow_lit (base := wr.heap.size) (e := 5) (size := 1) wr #[.int .u8 83] 1 (Nat.le_refl _) (by unfold maxLen; omega) rfl)
      clear A3
      go_wp2_with fail
      refine (HI.out _ _ A4.out 115 115 rfl).mono ?_
      rintro e w5 ⟨rfl, A5⟩
      have A5 := hide A5
      clear A4 ck ck2 hX hcv
      by_cases hq : p = 115
      · rw [decide_eq_true hq]
        clear hq
        go_wp2
        go_roundw
        case rel => exact ⟨6, by omega, rfl, rfl, noC3_next4 HNo.out, A5.out⟩
        case measure => simp [intOf]
      · rw [decide_eq_false hq]
        clear hq
        go_wp2_with fail
        refine (HI.out _ _ A5.out 83 83 rfl).mono ?_
        rintro e w6 ⟨rfl, A6⟩
        have A6 := hide A6
        clear A5
        obtain ⟨bq, hbq⟩ : ∃ bq, bq = decide (p = 83) := ⟨_, rfl⟩
        rw [← hbq]
        clear hbq
        cases bq with
        | true =>
          go_wp2
          go_roundw
          case rel => exact ⟨6, by omega, rfl, rfl, noC3_next4 HNo.out, A6.out⟩
          case measure => simp [intOf]
        | false =>
          go_wp2
          go_roundw
          case rel => exact ⟨6, by omega, rfl, rfl, noC3_next4 HNo.out, A6.out⟩
          case measure => simp [intOf]
    | 6, _, _ =>
      have ck := cls_cell A3.out.cls 6 _ rfl
      have A4 := hide (A3.out.alloc (.cells #[.int .u8 72] 5))
      have ck2 := cls_cell A4.out.cls 6 _ rfl
      have hX : (((((⟨#[104]⟩ : ByteArray)[0]'(by show 0 < 1; omega)).toNat : Int)) - 32) % 256 = 72 := rfl
      have hcv : (convert 57 9 (.slice (some ⟨wr.heap.size, 0, none⟩) 1 1)).run Try.prog (wr.alloc (.cells #[.int .u8 72] 5)) = .ok (.string ⟨#[72]⟩) (wr.alloc (.cells #[.int .u8 72] 5)) := conv_own (B := wr.heap.size) (n := 1) (l := [72]) (World.ownsRow_lit (base := wr.heap.size) (e := 5) (size := 1) wr #[.int .u8 72] 1 (Nat.le_refl _) (by unfold maxLen; omega) rfl)
      clear A3
      go_wp2_with fail
      refine (HI.out _ _ A4.out 104 104 rfl).mono ?_
      rintro e w5 ⟨rfl, A5⟩
      have A5 := hide A5
      clear A4 ck ck2 hX hcv
      by_cases hq : p = 104
      · rw [decide_eq_true hq]
        clear hq
        go_wp2
        go_roundw
        case rel => exact ⟨8, by omega, rfl, rfl, noC3_next6 HNo.out, A5.out⟩
        case measure => simp [intOf]
      · rw [decide_eq_false hq]
        clear hq
        go_wp2_with fail
        refine (HI.out _ _ A5.out 72 72 rfl).mono ?_
        rintro e w6 ⟨rfl, A6⟩
        have A6 := hide A6
        clear A5
        obtain ⟨bq, hbq⟩ : ∃ bq, bq = decide (p = 72) := ⟨_, rfl⟩
        rw [← hbq]
        clear hbq
        cases bq with
        | true =>
          go_wp2
          go_roundw
          case rel => exact ⟨8, by omega, rfl, rfl, noC3_next6 HNo.out, A6.out⟩
          case measure => simp [intOf]
        | false =>
          go_wp2
          go_roundw
          case rel => exact ⟨8, by omega, rfl, rfl, noC3_next6 HNo.out, A6.out⟩
          case measure => simp [intOf]
    | 8, _, _ =>
      obtain ⟨w4, hw4⟩ : ∃ w4, w4 = wr := ⟨_, rfl⟩
      subst hw4
      have A4 := A3
      clear A3
      go_wp2_with fail
      refine (HI.out _ _ A4.out 98 98 rfl).mono ?_
      rintro e w5 ⟨rfl, A5⟩
      have A5 := hide A5
      clear A4
      by_cases hp98 : p = 98
      · rw [decide_eq_true hp98]
        subst hp98
        have hE : Hid (escT 3 l i = .ok (lookT 7, i + 1)) := by show _ = _; unfold escT; rw [HLi.out]; rfl
        go_wp2_with fail
        refine (HLk.out 7 _ _ A5.out).mono ?_
        rintro e w6 ⟨rfl, A6⟩
        have A6 := hide A6
        clear A5
        have mn := A6.out.a.next
        obtain ⟨m0, m1, m2, m3, m4, m5, m6, m7⟩ := tok_cells A6.out.a.tok
        have mf := tok_free A6.out.a.tok
        simp only [tokV, lookT]
        go_wp2
        exact ret_t2 (N := w.heap.size + 2) (t0 := {}) (W := w6) (t := lookT 7) (k := (i : Int) + 1) (z := 0) rfl rfl rfl rfl A6.out.a.tok (.inl ⟨_, _, hE.out, rfl, tset_below A6.out.a.below (by omega) _⟩)
      · rw [decide_eq_false hp98]
        go_wp2_with fail
        refine (HI.out _ _ A5.out 66 66 rfl).mono ?_
        rintro e w6 ⟨rfl, A6⟩
        have A6 := hide A6
        clear A5
        by_cases hp66 : p = 66
        · rw [decide_eq_true hp66]
          subst hp66
          have hE : Hid (escT 3 l i = .ok (lookT 8, i + 1)) := by show _ = _; unfold escT; rw [HLi.out]; rfl
          go_wp2_with fail
          refine (HLk.out 8 _ _ A6.out).mono ?_
          rintro e w7 ⟨rfl, A7⟩
          have A7 := hide A7
          clear A6
          have mn := A7.out.a.next
          obtain ⟨m0, m1, m2, m3, m4, m5, m6, m7⟩ := tok_cells A7.out.a.tok
          have mf := tok_free A7.out.a.tok
          simp only [tokV, lookT]
          go_wp2
          exact ret_t2 (N := w.heap.size + 2) (t0 := {}) (W := w7) (t := lookT 8) (k := (i : Int) + 1) (z := 0) rfl rfl rfl rfl A7.out.a.tok (.inl ⟨_, _, hE.out, rfl, tset_below A7.out.a.below (by omega) _⟩)
        · rw [decide_eq_false hp66]
          by_cases hp96 : p = 96
          · subst hp96
            have hE : Hid (escT 3 l i = .ok (lookT 5, i + 1)) := by show _ = _; unfold escT; rw [HLi.out]; rfl
            go_wp2_with fail
            refine (HLk.out 5 _ _ A6.out).mono ?_
            rintro e w7 ⟨rfl, A7⟩
            have A7 := hide A7
            clear A6
            have mn := A7.out.a.next
            obtain ⟨m0, m1, m2, m3, m4, m5, m6, m7⟩ := tok_cells A7.out.a.tok
            have mf := tok_free A7.out.a.tok
            simp only [tokV, lookT]
            go_wp2
            exact ret_t2 (N := w.heap.size + 2) (t0 := {}) (W := w7) (t := lookT 5) (k := (i : Int) + 1) (z := 0) rfl rfl rfl rfl A7.out.a.tok (.inl ⟨_, _, hE.out, rfl, tset_below A7.out.a.below (by omega) _⟩)
          · have hb96 : (p == 96) = false := by simpa using hp96
            by_cases hp39 : p = 39
            · subst hp39
              have hE : Hid (escT 3 l i = .ok (lookT 6, i + 1)) := by show _ = _; unfold escT; rw [HLi.out]; rfl
              go_wp2_with fail
              refine (HLk.out 6 _ _ A6.out).mono ?_
              rintro e w7 ⟨rfl, A7⟩
              have A7 := hide A7
              clear A6
              have mn := A7.out.a.next
              obtain ⟨m0, m1, m2, m3, m4, m5, m6, m7⟩ := tok_cells A7.out.a.tok
              have mf := tok_free A7.out.a.tok
              simp only [tokV, lookT]
              go_wp2
              exact ret_t2 (N := w.heap.size + 2) (t0 := {}) (W := w7) (t := lookT 6) (k := (i : Int) + 1) (z := 0) rfl rfl rfl rfl A7.out.a.tok (.inl ⟨_, _, hE.out, rfl, tset_below A7.out.a.below (by omega) _⟩)
            · have hb39 : (p == 39) = false := by simpa using hp39
              go_wp2_with fail
              refine (HI.out _ _ A6.out 40 40 rfl).mono ?_
              rintro e w7 ⟨rfl, A7⟩
              have A7 := hide A7
              clear A6
              by_cases hp40 : p = 40
              · rw [decide_eq_true hp40]
                subst hp40
                have hE : Hid (escT 3 l i = openS 3 l (i + 1)) := by show _ = _; unfold escT; rw [HLi.out]; rfl
                have c4 := A7.out.a.sl
                have c5 := A7.out.a.next
                go_wp2_with fail
                refine (HOp.out _ _ A7.out).mono ?_
                rintro e w8 (⟨t, k, hR, rfl, hb8⟩ | ⟨z, hR, rfl, hb8⟩)
                · have hE2 := hide (hE.out.trans hR)
                  clear hR c4 c5
                  have A8 := hide (A7.out.on hb8)
                  clear hb8 A7
                  have mn := A8.out.a.next
                  obtain ⟨m0, m1, m2, m3, m4, m5, m6, m7⟩ := tok_cells A8.out.a.tok
                  have mf := tok_free A8.out.a.tok
                  simp only [tokV]
                  go_wp2
                  exact ret_t2 (N := w.heap.size + 2) (t0 := {}) (W := w8) (t := t) (k := (k : Int)) (z := 0) rfl rfl rfl rfl A8.out.a.tok (.inl ⟨_, _, hE2.out, rfl, tset_below A8.out.a.below (by omega) _⟩)
                · have hE2 := hide (hE.out.trans hR)
                  clear hR c4 c5
                  have A8 := hide (A7.out.on hb8)
                  clear hb8 A7
                  have mn := A8.out.a.next
                  obtain ⟨m0, m1, m2, m3, m4, m5, m6, m7⟩ := tok_cells A8.out.a.tok
                  have mf := tok_free A8.out.a.tok
                  simp only [tokV]
                  go_wp2
                  exact ret_t2 (N := w.heap.size + 2) (t0 := {}) (W := w8) (t := {}) (k := 0) (z := z) rfl rfl rfl rfl A8.out.a.tok (.inr ⟨_, hE2.out, rfl, tset_below A8.out.a.below (by omega) _⟩)
              · rw [decide_eq_false hp40]
                go_wp2_with fail
                refine (HI.out _ _ A7.out 41 41 rfl).mono ?_
                rintro e w8 ⟨rfl, A8⟩
                have A8 := hide A8
                clear A7
                by_cases hp41 : p = 41
                · rw [decide_eq_true hp41]
                  subst hp41
                  have hE : Hid (escT 3 l i = .ok ({ kind := 8 }, i + 1)) := by show _ = _; unfold escT; rw [HLi.out]; rfl
                  have mn := A8.out.a.next
                  obtain ⟨m0, m1, m2, m3, m4, m5, m6, m7⟩ := tok_cells A8.out.a.tok
                  have mf := tok_free A8.out.a.tok
                  go_upto_region 30 with fail
                  go_region
                  go_wp2
                  exact ret_t2d (N := w.heap.size + 2) (t0 := {}) (W := w8) (t := { kind := 8 }) (k := (i : Int) + 1) (z := 0) rfl rfl rfl rfl A8.out.a.tok (.inl ⟨_, _, hE.out, rfl, below_drewT (tset_below A8.out.a.below (by omega) _)⟩)
                · rw [decide_eq_false hp41]
                  go_wp2_with fail
                  refine (HI.out _ _ A8.out 124 124 rfl).mono ?_
                  rintro e w9 ⟨rfl, A9⟩
                  have A9 := hide A9
                  clear A8
                  by_cases hp124 : p = 124
                  · rw [decide_eq_true hp124]
                    subst hp124
                    have hE : Hid (escT 3 l i = .ok ({ kind := 9 }, i + 1)) := by show _ = _; unfold escT; rw [HLi.out]; rfl
                    have mn := A9.out.a.next
                    obtain ⟨m0, m1, m2, m3, m4, m5, m6, m7⟩ := tok_cells A9.out.a.tok
                    have mf := tok_free A9.out.a.tok
                    go_upto_region 32 with fail
                    go_region
                    go_wp2
                    exact ret_t2d (N := w.heap.size + 2) (t0 := {}) (W := w9) (t := { kind := 9 }) (k := (i : Int) + 1) (z := 0) rfl rfl rfl rfl A9.out.a.tok (.inl ⟨_, _, hE.out, rfl, below_drewT (tset_below A9.out.a.below (by omega) _)⟩)
                  · rw [decide_eq_false hp124]
                    go_wp2_with fail
                    refine (HI.out _ _ A9.out 123 123 rfl).mono ?_
                    rintro e w10 ⟨rfl, A10⟩
                    have A10 := hide A10
                    clear A9
                    by_cases hp123 : p = 123
                    · rw [decide_eq_true hp123]
                      subst hp123
                      have hE : Hid (escT 3 l i = timesT 3 l (i + 1)) := by show _ = _; unfold escT; rw [HLi.out]; rfl
                      have c4 := A10.out.a.sl
                      have c5 := A10.out.a.next
                      go_wp2_with fail
                      refine (HIv.out _ _ A10.out).mono ?_
                      rintro e w11 ⟨hb11, ⟨hR, rfl⟩ | ⟨z, hR, rfl⟩ | ⟨t, k, hR, rfl⟩⟩
                      · have hE2 : Hid (escT 3 l i = .error 1) := by show _ = _; rw [hE.out, times_noE hR, if_neg (by omega)]
                        clear hR c4 c5
                        have A11 := hide (A10.out.on hb11)
                        clear hb11 A10
                        simp only [tokV]
                        go_upto_region 35 with fail
                        obtain ⟨w12, hw12⟩ : ∃ w', w' = w11.alloc (tokO {}) := ⟨_, rfl⟩
                        have hM : w12.heap[w11.heap.size]? = some (tokO {}) := by rw [hw12]; exact at_new _ _
                        have hb12 : Below w11.heap.size w11 w12 := by rw [hw12]; exact (Below.refl _ _).alloc (Nat.le_refl _) _
                        simp only [tokO] at hw12
                        rw [← hw12]
                        clear hw12
                        obtain ⟨M, hMe⟩ : ∃ M, M = w11.heap.size := ⟨_, rfl⟩
                        rw [← hMe] at hM ⊢
                        obtain ⟨n0, n1, n2, n3, n4, n5, n6, n7⟩ := tok_cells hM
                        clear hM hMe
                        have A12 := hide (A11.out.on hb12)
                        clear hb12 A11
                        have mn := A12.out.a.next
                        obtain ⟨m0, m1, m2, m3, m4, m5, m6, m7⟩ := tok_cells A12.out.a.tok
                        have mf := tok_free A12.out.a.tok
                        go_wp2
                        exact ret_t2 (N := w.heap.size + 2) (t0 := {}) (W := w12) (t := {}) (k := 0) (z := 1) rfl rfl rfl rfl A12.out.a.tok (.inr ⟨_, hE2.out, rfl, tset_below A12.out.a.below (by omega) _⟩)
                      · have hz := ivl_errE hR
                        have hzb : (z != 0) = true := by rcases hz with rfl | rfl <;> rfl
                        have hE2 := hide (hE.out.trans (times_yesE hR))
                        clear hR c4 c5 hz
                        have A11 := hide (A10.out.on hb11)
                        clear hb11 A10
                        simp only [tokV]
                        go_upto_region 35 with fail
                        obtain ⟨w12, hw12⟩ : ∃ w', w' = w11.alloc (tokO {}) := ⟨_, rfl⟩
                        have hM : w12.heap[w11.heap.size]? = some (tokO {}) := by rw [hw12]; exact at_new _ _
                        have hb12 : Below w11.heap.size w11 w12 := by rw [hw12]; exact (Below.refl _ _).alloc (Nat.le_refl _) _
                        simp only [tokO] at hw12
                        rw [← hw12]
                        clear hw12
                        obtain ⟨M, hMe⟩ : ∃ M, M = w11.heap.size := ⟨_, rfl⟩
                        rw [← hMe] at hM ⊢
                        obtain ⟨n0, n1, n2, n3, n4, n5, n6, n7⟩ := tok_cells hM
                        clear hM hMe
                        have A12 := hide (A11.out.on hb12)
                        clear hb12 A11
                        have mn := A12.out.a.next
                        obtain ⟨m0, m1, m2, m3, m4, m5, m6, m7⟩ := tok_cells A12.out.a.tok
                        have mf := tok_free A12.out.a.tok
                        go_wp2
                        exact ret_t2 (N := w.heap.size + 2) (t0 := {}) (W := w12) (t := {}) (k := 0) (z := z) rfl rfl rfl rfl A12.out.a.tok (.inr ⟨_, hE2.out, rfl, tset_below A12.out.a.below (by omega) _⟩)
                      · have hE2 := hide (hE.out.trans (times_yesE hR))
                        clear hR c4 c5
                        have A11 := hide (A10.out.on hb11)
                        clear hb11 A10
                        simp only [tokV]
                        go_upto_region 35 with fail
                        obtain ⟨w12, hw12⟩ : ∃ w', w' = w11.alloc (tokO t) := ⟨_, rfl⟩
                        have hM : w12.heap[w11.heap.size]? = some (tokO t) := by rw [hw12]; exact at_new _ _
                        have hb12 : Below w11.heap.size w11 w12 := by rw [hw12]; exact (Below.refl _ _).alloc (Nat.le_refl _) _
                        simp only [tokO] at hw12
                        rw [← hw12]
                        clear hw12
                        obtain ⟨M, hMe⟩ : ∃ M, M = w11.heap.size := ⟨_, rfl⟩
                        rw [← hMe] at hM ⊢
                        obtain ⟨n0, n1, n2, n3, n4, n5, n6, n7⟩ := tok_cells hM
                        clear hM hMe
                        have A12 := hide (A11.out.on hb12)
                        clear hb12 A11
                        have mn := A12.out.a.next
                        obtain ⟨m0, m1, m2, m3, m4, m5, m6, m7⟩ := tok_cells A12.out.a.tok
                        have mf := tok_free A12.out.a.tok
                        go_wp2
                        exact ret_t2 (N := w.heap.size + 2) (t0 := {}) (W := w12) (t := t) (k := (k : Int)) (z := 0) rfl rfl rfl rfl A12.out.a.tok (.inl ⟨_, _, hE2.out, rfl, tset_below A12.out.a.below (by omega) _⟩)
                    · rw [decide_eq_false hp123]
                      have hbt := betw_any p 49 57 w10
                      by_cases hdg : 49 ≤ p ∧ p ≤ 57
                      · rw [decide_eq_true hdg.1, decide_eq_true hdg.2] at hbt
                        have hE : Hid (escT 3 l i = .ok (againT (p - 48), i + 1)) := esc3_dig HLi.out hdg.1 hdg.2
                        have hwr : IntKind.i64.wrap (p - 48) = p - 48 := by rw [IntKind.wrap_i64]; omega
                        have HBt := hide hbt
                        clear hbt hdg
                        go_wp2_with fail
                        refine HBt.out.mono ?_
                        rintro e w11 ⟨rfl, rfl⟩
                        clear HBt
                        have mn := A10.out.a.next
                        obtain ⟨m0, m1, m2, m3, m4, m5, m6, m7⟩ := tok_cells A10.out.a.tok
                        have mf := tok_free A10.out.a.tok
                        go_upto_region 41 with fail
                        go_region
                        go_wp2
                        exact ret_t2d (N := w.heap.size + 2) (t0 := {}) (W := w10) (t := againT (p - 48)) (k := (i : Int) + 1) (z := 0) rfl rfl rfl rfl A10.out.a.tok (.inl ⟨_, _, hE.out, rfl, below_drewT (tset_below A10.out.a.below (by omega) _)⟩)
                      · have hbf : (decide (49 ≤ p) && decide (p ≤ 57)) = false := by rw [Bool.eq_false_iff]; simp only [ne_eq, Bool.and_eq_true, decide_eq_true_eq]; exact hdg
                        rw [hbf] at hbt
                        have hno := HNo.out (by omega)
                        have hE3 : Hid (escT 3 l i = .ok (pointT p, i + 1)) := esc3_pt HLi.out hdg hp40 hp41 hp124 hp123 hno.1 hno.2 hp98 hp66 hp96 hp39
                        have HBt := hide hbt
                        clear hbt hdg hbf hno
                        go_wp2_with fail
                        refine HBt.out.mono ?_
                        rintro e w11 ⟨rfl, rfl⟩
                        clear HBt
                        have hE : Hid (escT 3 l i = .ok (pointT p, i + 1)) := by show _ = _; exact hE3.out
                        have HG := hide (HPt.out p _ _ A10.out.drew)
                        go_upto_region 42 with fail
                        refine wp_after (reg42 (w := w) (by kernel_rfl) (by kernel_rfl) (by kernel_rfl) (by kernel_rfl) A10.out HG) ?_
                        rintro a99 w98 ⟨A9, w99, rfl, g6, g7, g8, hA99, rfl⟩
                        have HA99 := hide hA99
                        clear hA99
                        go_wp2
                        exact ret_t2 (N := w.heap.size + 2) (t0 := {}) (W := w99) (t := pointT p) (k := (i : Int) + 1) (z := 0) rfl (g6.trans (by kernel_rfl)) g7 g8 HA99.out.a.tok (.inl ⟨_, _, hE.out, rfl, tset_below HA99.out.a.below (by omega) _⟩)
    | 1, _, he => exact absurd he (by decide)
    | 3, _, he => exact absurd he (by decide)
    | 5, _, he => exact absurd he (by decide)
    | 7, _, he => exact absurd he (by decide)
    | (r + 9), hr, _ => exact absurd hr (by omega)

end Go.Proofs.Ytlapnhjkhpgklaa
