/- What Encode answers: the text of points, or the error, in each encoding and beside them. -/
import Derived.Test.YtihnaihmpokiiaaText
namespace Go.Proofs.Ytihnaihmpokiiaa
open Go.RowKit
set_option linter.unusedVariables false

set_option maxHeartbeats 1000000 in
theorem Encode_kind (enc : Int) (v : Value) (w : World) (h : encB enc = false) :
    Calls Try.prog 4 #[.int .i64 enc, v] w fun e w' => e = .returned (.tuple #[.string ⟨#[]⟩, .int .i64 7]) ∧ w' = w := by
  go_enter Try.func4, Try.ntmps4
  go_wp2_with (go_at_call 7; refine (encodingOf_no _ _ h).mono ?_; rintro e w' ⟨rfl, rfl⟩)
  go_ret2
  exact ⟨rfl, rfl⟩

theorem holds_1 (p : Int) (w : World) : Calls Try.prog 32 #[.agg #[], .int .i64 p] w fun e w' => e = .returned (.bool (holdB 1 p)) ∧ Below w.heap.size w w' := holds8_any p w
theorem holds_2 (p : Int) (w : World) : Calls Try.prog 42 #[.agg #[.int .i64 0, .int .i64 1], .int .i64 p] w fun e w' => e = .returned (.bool (holdB 2 p)) ∧ Below w.heap.size w w' := holds16_any 0 1 p w
theorem holds_3 (p : Int) (w : World) : Calls Try.prog 42 #[.agg #[.int .i64 1, .int .i64 0], .int .i64 p] w fun e w' => e = .returned (.bool (holdB 3 p)) ∧ Below w.heap.size w w' := holds16_any 1 0 p w
theorem holds_4 (p : Int) (w : World) : Calls Try.prog 48 #[.agg #[], .int .i64 p] w fun e w' => e = .returned (.bool (holdB 4 p)) ∧ Below w.heap.size w w' := holdsL_any p w
theorem size_1 (p : Int) (w : World) (h : holdB 1 p = true) : Calls Try.prog 34 #[.agg #[], .int .i64 p] w fun e w' => e = .returned (.int .i64 ((bytesOf 1 p).length : Int)) ∧ Below w.heap.size w w' := by
  rw [bytesOf_one]; exact size8_any p w h
theorem size_2 (p : Int) (w : World) (h : holdB 2 p = true) : Calls Try.prog 44 #[.agg #[.int .i64 0, .int .i64 1], .int .i64 p] w fun e w' => e = .returned (.int .i64 ((bytesOf 2 p).length : Int)) ∧ Below w.heap.size w w' := by
  rw [bytesOf_16 2 p (by decide), bytes16_len]; exact size16_any 0 1 p w
theorem size_3 (p : Int) (w : World) (h : holdB 3 p = true) : Calls Try.prog 44 #[.agg #[.int .i64 1, .int .i64 0], .int .i64 p] w fun e w' => e = .returned (.int .i64 ((bytesOf 3 p).length : Int)) ∧ Below w.heap.size w w' := by
  rw [bytesOf_16 3 p (by decide), bytes16_len]; exact size16_any 1 0 p w
theorem size_4 (p : Int) (w : World) (h : holdB 4 p = true) : Calls Try.prog 50 #[.agg #[], .int .i64 p] w fun e w' => e = .returned (.int .i64 ((bytesOf 4 p).length : Int)) ∧ Below w.heap.size w w' := sizeL_any p w
theorem of_1 (w : World) : Calls Try.prog 7 #[.int .i64 1] w fun e w' => e = .returned (.tuple #[.iface 44 (.agg #[]), .bool true]) ∧ w = w' :=
  (encodingOf_yes 1 w rfl).mono fun e w' ⟨h1, h2⟩ => ⟨h1, h2.symm⟩
theorem write_1 (B : Nat) (v : Value) (n : Nat) (xs : List Value) (p : Int) (hs : holdB 1 p = true) (w : World) (hown : w.ownsRow B 5 1 v n xs) (hlen : n + 6 ≤ 140737488355328) (hBw : B ≤ w.heap.size) :
    Calls Try.prog 35 #[.agg #[], v, .int .i64 p] w fun e w' => ∃ v', e = .returned v' ∧ w'.ownsRow B 5 1 v' (n + (bytesOf 1 p).length) (xs ++ u8s (bytesOf 1 p)) ∧ Below B w w' := write8_any B v n xs p hs w hown (by omega) hBw

set_option maxHeartbeats 2000000 in
theorem Encode_nil_1 (w : World) :
    Calls Try.prog 4 #[.int .i64 1, .slice none 0 0] w fun e w' => e = .returned (.tuple #[.string (encS 1 []), .int .i64 (encE 1 [])]) ∧ Below w.heap.size w w' := by
  obtain ⟨i0, hi, hz0, hz1, hz2⟩ := info_parts Try.info5
  have hR := hide (enc_ok (enc := 1) rfl (l := []) rfl (by decide))
  go_enter Try.func4, Try.ntmps4
  go_wp2_with (go_at_call 7; refine (of_1 _).mono ?_; rintro e w' ⟨rfl, rfl⟩)
  refine wp_loop_rounds 1 ?_
  rw [rounds_succ]
  go_wp2_with (at_make; refine wpList_make_own _ rfl _ _ 34 rfl w.heap.size 5 i0 (.int .u8 0) 1 Try.underlying34 hi hz0 hz1 _ _ _ 0 rfl rfl rfl (by rw [hz2]; decide) (by decide) (Nat.le_refl _) ?_)
  intro w3 hown3 hgrow3
  have hb3 : Below w.heap.size w w3 := (Below.refl _ w).grown hgrow3 (Nat.le_refl _) (by simp)
  have hcv := conv_own (l := []) hown3
  clear hgrow3
  go_wp2_with fail
  refine wp_loop_rounds 1 ?_
  rw [rounds_succ]
  go_wp2
  go_ret2
  exact ⟨ret2s hR.out.2.symm hR.out.1.symm, hb3⟩

set_option maxHeartbeats 2000000 in
theorem Encode_1 (a : Addr) (cap : Nat) (l : List Int) (w : World) (hlen : l.length * 8 ≤ 140737488351232) (hc : ∀ j, j < l.length → w.cell? (a.add j) = some (.int .i64 (l.getD j 0))) :
    Calls Try.prog 4 #[.int .i64 1, .slice (some a) l.length cap] w fun e w' => e = .returned (.tuple #[.string (encS 1 l), .int .i64 (encE 1 l)]) ∧ Below w.heap.size w w' := by
  obtain ⟨i0, hi, hz0, hz1, hz2⟩ := info_parts Try.info5
  have hc' : Hid (∀ j, j < l.length → w.cell? (a.add j) = some (.int .i64 (l.getD j 0))) := hc
  clear hc
  go_enter Try.func4, Try.ntmps4
  go_wp2_with (go_at_call 7; refine (of_1 _).mono ?_; rintro e w' ⟨rfl, rfl⟩)
  go_loopw [8, 23] (fun s i wr => ∃ k : Nat, k ≤ l.length ∧ i = .int .i64 k ∧ s = .int .i64 ((flat 1 (l.take k)).length : Int) ∧ (l.take k).all (holdB 1) = true ∧ Below w.heap.size w wr) (fun _ i _ => l.length - (intOf i).toNat)
  case atStart => exact ⟨0, Nat.zero_le _, rfl, rfl, rfl, Below.refl _ _⟩
  case round =>
    obtain ⟨k, hk, rfl, rfl, hall, hb⟩ := hrel
    have hfl := flat_le 1 l k
    by_cases hlt : k < l.length
    · obtain ⟨x, hx⟩ : ∃ x, x = l.getD k 0 := ⟨_, rfl⟩
      have hcx : wr.cell? (a.add k) = some (.int .i64 x) := by rw [hx]; exact (hb.cell (World.block_lt_of_cell? w _ (hc'.out k hlt))).trans (hc'.out k hlt)
      have HX : Hid (x = l.getD k 0) := hx
      have HA : Hid ((l.take k).all (holdB 1) = true) := hall
      have hbl := bytesOf_len 1 x
      clear hx hall
      have hhold := holds_1 x
      by_cases hh : holdB 1 x = true
      · rw [hh] at hhold
        have HH : Hid (holdB 1 x = true) := hh
        have HHo := hide hhold
        clear hh hhold
        go_wp2_with (first | (go_at_call 32; refine (unhide HHo _).mono ?_; rintro e w1 ⟨rfl, hb1⟩) | (go_at_call 34; refine (size_1 x _ HH.out).mono ?_; rintro e w2 ⟨rfl, hb2⟩))
        go_roundw
        case rel => exact ⟨k + 1, by omega, by go_num, by rw [flat_len_succ _ _ _ hlt, ← HX.out]; go_num, by rw [all_succ _ _ _ hlt, HA.out, ← HX.out, HH.out]; rfl, (hb.trans (hb1.mono hb.size)).trans (hb2.mono (by have := hb.size; have := hb1.size; omega))⟩
        case measure => simp [intOf]; omega
      · have hh' : holdB 1 x = false := by simpa using hh
        rw [hh'] at hhold
        have HH : Hid (holdB 1 x = false) := hh'
        have HHo := hide hhold
        clear hh hh' hhold
        go_wp2_with (go_at_call 32; refine (unhide HHo _).mono ?_; rintro e w1 ⟨rfl, hb1⟩)
        go_ret2
        have hR := enc_range (enc := 1) rfl hlt (by rw [← HX.out]; exact HH.out)
        exact ⟨ret2s hR.2.symm hR.1.symm, hb.trans (hb1.mono hb.size)⟩
    · have hkl : k = l.length := by omega
      subst hkl
      rw [List.take_length] at hall hfl
      simp only [List.take_length]
      by_cases hbig : 4000 < (flat 1 l).length
      · have hR := enc_many (enc := 1) rfl hall hbig
        have HR := hide hR
        clear hR
        have hbig' : (4000 : Int) < ((flat 1 l).length : Int) := by omega
        go_wp2
        go_ret2
        exact ⟨ret2s HR.out.2.symm HR.out.1.symm, hb⟩
      · have hR := hide (enc_ok (enc := 1) rfl hall (by omega))
        have HA := hide hall
        clear hall
        obtain ⟨sz, hsz⟩ : ∃ sz, sz = (flat 1 l).length := ⟨_, rfl⟩
        rw [← hsz] at hbig hfl
        simp only [← hsz]
        have HS := hide hsz
        clear hsz
        go_wp2_with (at_make; refine wpList_make_own _ rfl _ _ 34 rfl w.heap.size 5 i0 (.int .u8 0) 1 Try.underlying34 hi hz0 hz1 _ _ _ sz rfl rfl rfl ?m1 ?m2 ?m3 ?_)
        case m1 => rw [hz2]; omega
        case m2 => unfold maxLen; omega
        case m3 => exact hb.size
        intro w3 hown3 hgrow3
        have hb3 : Below w.heap.size w w3 := hb.grown hgrow3 hb.size (by simp)
        clear hgrow3 hb
        go_wp2_with fail
        go_loopw [11, 43] (fun v i wr => ∃ k : Nat, k ≤ l.length ∧ i = .int .i64 k ∧ wr.ownsRow w.heap.size 5 1 v (flat 1 (l.take k)).length (u8s (flat 1 (l.take k))) ∧ Below w.heap.size w wr) (fun _ i _ => l.length - (intOf i).toNat)
        case atStart => exact ⟨0, Nat.zero_le _, rfl, hown3, hb3⟩
        case round =>
          obtain ⟨k, hk, rfl, hown, hb⟩ := hrel
          by_cases hlt : k < l.length
          · obtain ⟨x, hx⟩ : ∃ x, x = l.getD k 0 := ⟨_, rfl⟩
            have hcx : wr.cell? (a.add k) = some (.int .i64 x) := by rw [hx]; exact (hb.cell (World.block_lt_of_cell? w _ (hc'.out k hlt))).trans (hc'.out k hlt)
            have HX : Hid (x = l.getD k 0) := hx
            have hxh : holdB 1 x = true := by
              have := List.all_eq_true.1 HA.out x (by rw [hx]; simp [List.getD, List.getElem?_eq_getElem hlt])
              exact this
            have HH := hide hxh
            have hft := flat_take_le 1 l k
            have hfl2 : (flat 1 (l.take k)).length + 6 ≤ 140737488355328 := by have := HS.out; omega
            clear hx hxh hown3 hb3 hft
            have HO := hide hown
            clear hown
            go_wp2_with (go_at_call 35; refine (write_1 w.heap.size _ _ _ x HH.out _ HO.out hfl2 hb.size).mono ?_; rintro e w4 ⟨v4, rfl, ho4, hb4⟩)
            go_roundw
            case rel => exact ⟨k + 1, by omega, by go_num, by rw [flat_len_succ _ _ _ hlt, flat_succ _ _ _ hlt, u8s_append, ← HX.out]; exact ho4, hb.trans hb4⟩
            case measure => simp [intOf]; omega
          · have hkl : k = l.length := by omega
            subst hkl
            rw [List.take_length] at hown
            have hcv := conv_own hown
            go_wp2
            go_ret2
            exact ⟨ret2s hR.out.2.symm hR.out.1.symm, hb⟩

theorem of_2 (w : World) : Calls Try.prog 7 #[.int .i64 2] w fun e w' => e = .returned (.tuple #[.iface 46 (.agg #[.int .i64 0, .int .i64 1]), .bool true]) ∧ w = w' :=
  (encodingOf_yes 2 w rfl).mono fun e w' ⟨h1, h2⟩ => ⟨h1, h2.symm⟩
theorem write_2 (B : Nat) (v : Value) (n : Nat) (xs : List Value) (p : Int) (hs : holdB 2 p = true) (w : World) (hown : w.ownsRow B 5 1 v n xs) (hlen : n + 6 ≤ 140737488355328) (hBw : B ≤ w.heap.size) :
    Calls Try.prog 45 #[.agg #[.int .i64 0, .int .i64 1], v, .int .i64 p] w fun e w' => ∃ v', e = .returned v' ∧ w'.ownsRow B 5 1 v' (n + (bytesOf 2 p).length) (xs ++ u8s (bytesOf 2 p)) ∧ Below B w w' := write16_any 2 (by decide) B v n xs p hs w hown hlen hBw

set_option maxHeartbeats 2000000 in
theorem Encode_nil_2 (w : World) :
    Calls Try.prog 4 #[.int .i64 2, .slice none 0 0] w fun e w' => e = .returned (.tuple #[.string (encS 2 []), .int .i64 (encE 2 [])]) ∧ Below w.heap.size w w' := by
  obtain ⟨i0, hi, hz0, hz1, hz2⟩ := info_parts Try.info5
  have hR := hide (enc_ok (enc := 2) rfl (l := []) rfl (by decide))
  go_enter Try.func4, Try.ntmps4
  go_wp2_with (go_at_call 7; refine (of_2 _).mono ?_; rintro e w' ⟨rfl, rfl⟩)
  refine wp_loop_rounds 1 ?_
  rw [rounds_succ]
  go_wp2_with (at_make; refine wpList_make_own _ rfl _ _ 34 rfl w.heap.size 5 i0 (.int .u8 0) 1 Try.underlying34 hi hz0 hz1 _ _ _ 0 rfl rfl rfl (by rw [hz2]; decide) (by decide) (Nat.le_refl _) ?_)
  intro w3 hown3 hgrow3
  have hb3 : Below w.heap.size w w3 := (Below.refl _ w).grown hgrow3 (Nat.le_refl _) (by simp)
  have hcv := conv_own (l := []) hown3
  clear hgrow3
  go_wp2_with fail
  refine wp_loop_rounds 1 ?_
  rw [rounds_succ]
  go_wp2
  go_ret2
  exact ⟨ret2s hR.out.2.symm hR.out.1.symm, hb3⟩

set_option maxHeartbeats 2000000 in
theorem Encode_2 (a : Addr) (cap : Nat) (l : List Int) (w : World) (hlen : l.length * 8 ≤ 140737488351232) (hc : ∀ j, j < l.length → w.cell? (a.add j) = some (.int .i64 (l.getD j 0))) :
    Calls Try.prog 4 #[.int .i64 2, .slice (some a) l.length cap] w fun e w' => e = .returned (.tuple #[.string (encS 2 l), .int .i64 (encE 2 l)]) ∧ Below w.heap.size w w' := by
  obtain ⟨i0, hi, hz0, hz1, hz2⟩ := info_parts Try.info5
  have hc' : Hid (∀ j, j < l.length → w.cell? (a.add j) = some (.int .i64 (l.getD j 0))) := hc
  clear hc
  go_enter Try.func4, Try.ntmps4
  go_wp2_with (go_at_call 7; refine (of_2 _).mono ?_; rintro e w' ⟨rfl, rfl⟩)
  go_loopw [8, 23] (fun s i wr => ∃ k : Nat, k ≤ l.length ∧ i = .int .i64 k ∧ s = .int .i64 ((flat 2 (l.take k)).length : Int) ∧ (l.take k).all (holdB 2) = true ∧ Below w.heap.size w wr) (fun _ i _ => l.length - (intOf i).toNat)
  case atStart => exact ⟨0, Nat.zero_le _, rfl, rfl, rfl, Below.refl _ _⟩
  case round =>
    obtain ⟨k, hk, rfl, rfl, hall, hb⟩ := hrel
    have hfl := flat_le 2 l k
    by_cases hlt : k < l.length
    · obtain ⟨x, hx⟩ : ∃ x, x = l.getD k 0 := ⟨_, rfl⟩
      have hcx : wr.cell? (a.add k) = some (.int .i64 x) := by rw [hx]; exact (hb.cell (World.block_lt_of_cell? w _ (hc'.out k hlt))).trans (hc'.out k hlt)
      have HX : Hid (x = l.getD k 0) := hx
      have HA : Hid ((l.take k).all (holdB 2) = true) := hall
      have hbl := bytesOf_len 2 x
      clear hx hall
      have hhold := holds_2 x
      by_cases hh : holdB 2 x = true
      · rw [hh] at hhold
        have HH : Hid (holdB 2 x = true) := hh
        have HHo := hide hhold
        clear hh hhold
        go_wp2_with (first | (go_at_call 42; refine (unhide HHo _).mono ?_; rintro e w1 ⟨rfl, hb1⟩) | (go_at_call 44; refine (size_2 x _ HH.out).mono ?_; rintro e w2 ⟨rfl, hb2⟩))
        go_roundw
        case rel => exact ⟨k + 1, by omega, by go_num, by rw [flat_len_succ _ _ _ hlt, ← HX.out]; go_num, by rw [all_succ _ _ _ hlt, HA.out, ← HX.out, HH.out]; rfl, (hb.trans (hb1.mono hb.size)).trans (hb2.mono (by have := hb.size; have := hb1.size; omega))⟩
        case measure => simp [intOf]; omega
      · have hh' : holdB 2 x = false := by simpa using hh
        rw [hh'] at hhold
        have HH : Hid (holdB 2 x = false) := hh'
        have HHo := hide hhold
        clear hh hh' hhold
        go_wp2_with (go_at_call 42; refine (unhide HHo _).mono ?_; rintro e w1 ⟨rfl, hb1⟩)
        go_ret2
        have hR := enc_range (enc := 2) rfl hlt (by rw [← HX.out]; exact HH.out)
        exact ⟨ret2s hR.2.symm hR.1.symm, hb.trans (hb1.mono hb.size)⟩
    · have hkl : k = l.length := by omega
      subst hkl
      rw [List.take_length] at hall hfl
      simp only [List.take_length]
      by_cases hbig : 4000 < (flat 2 l).length
      · have hR := enc_many (enc := 2) rfl hall hbig
        have HR := hide hR
        clear hR
        have hbig' : (4000 : Int) < ((flat 2 l).length : Int) := by omega
        go_wp2
        go_ret2
        exact ⟨ret2s HR.out.2.symm HR.out.1.symm, hb⟩
      · have hR := hide (enc_ok (enc := 2) rfl hall (by omega))
        have HA := hide hall
        clear hall
        obtain ⟨sz, hsz⟩ : ∃ sz, sz = (flat 2 l).length := ⟨_, rfl⟩
        rw [← hsz] at hbig hfl
        simp only [← hsz]
        have HS := hide hsz
        clear hsz
        go_wp2_with (at_make; refine wpList_make_own _ rfl _ _ 34 rfl w.heap.size 5 i0 (.int .u8 0) 1 Try.underlying34 hi hz0 hz1 _ _ _ sz rfl rfl rfl ?m1 ?m2 ?m3 ?_)
        case m1 => rw [hz2]; omega
        case m2 => unfold maxLen; omega
        case m3 => exact hb.size
        intro w3 hown3 hgrow3
        have hb3 : Below w.heap.size w w3 := hb.grown hgrow3 hb.size (by simp)
        clear hgrow3 hb
        go_wp2_with fail
        go_loopw [11, 43] (fun v i wr => ∃ k : Nat, k ≤ l.length ∧ i = .int .i64 k ∧ wr.ownsRow w.heap.size 5 1 v (flat 2 (l.take k)).length (u8s (flat 2 (l.take k))) ∧ Below w.heap.size w wr) (fun _ i _ => l.length - (intOf i).toNat)
        case atStart => exact ⟨0, Nat.zero_le _, rfl, hown3, hb3⟩
        case round =>
          obtain ⟨k, hk, rfl, hown, hb⟩ := hrel
          by_cases hlt : k < l.length
          · obtain ⟨x, hx⟩ : ∃ x, x = l.getD k 0 := ⟨_, rfl⟩
            have hcx : wr.cell? (a.add k) = some (.int .i64 x) := by rw [hx]; exact (hb.cell (World.block_lt_of_cell? w _ (hc'.out k hlt))).trans (hc'.out k hlt)
            have HX : Hid (x = l.getD k 0) := hx
            have hxh : holdB 2 x = true := by
              have := List.all_eq_true.1 HA.out x (by rw [hx]; simp [List.getD, List.getElem?_eq_getElem hlt])
              exact this
            have HH := hide hxh
            have hft := flat_take_le 2 l k
            have hfl2 : (flat 2 (l.take k)).length + 6 ≤ 140737488355328 := by have := HS.out; omega
            clear hx hxh hown3 hb3 hft
            have HO := hide hown
            clear hown
            go_wp2_with (go_at_call 45; refine (write_2 w.heap.size _ _ _ x HH.out _ HO.out hfl2 hb.size).mono ?_; rintro e w4 ⟨v4, rfl, ho4, hb4⟩)
            go_roundw
            case rel => exact ⟨k + 1, by omega, by go_num, by rw [flat_len_succ _ _ _ hlt, flat_succ _ _ _ hlt, u8s_append, ← HX.out]; exact ho4, hb.trans hb4⟩
            case measure => simp [intOf]; omega
          · have hkl : k = l.length := by omega
            subst hkl
            rw [List.take_length] at hown
            have hcv := conv_own hown
            go_wp2
            go_ret2
            exact ⟨ret2s hR.out.2.symm hR.out.1.symm, hb⟩

theorem of_3 (w : World) : Calls Try.prog 7 #[.int .i64 3] w fun e w' => e = .returned (.tuple #[.iface 46 (.agg #[.int .i64 1, .int .i64 0]), .bool true]) ∧ w = w' :=
  (encodingOf_yes 3 w rfl).mono fun e w' ⟨h1, h2⟩ => ⟨h1, h2.symm⟩
theorem write_3 (B : Nat) (v : Value) (n : Nat) (xs : List Value) (p : Int) (hs : holdB 3 p = true) (w : World) (hown : w.ownsRow B 5 1 v n xs) (hlen : n + 6 ≤ 140737488355328) (hBw : B ≤ w.heap.size) :
    Calls Try.prog 45 #[.agg #[.int .i64 1, .int .i64 0], v, .int .i64 p] w fun e w' => ∃ v', e = .returned v' ∧ w'.ownsRow B 5 1 v' (n + (bytesOf 3 p).length) (xs ++ u8s (bytesOf 3 p)) ∧ Below B w w' := write16_any 3 (by decide) B v n xs p hs w hown hlen hBw

set_option maxHeartbeats 2000000 in
theorem Encode_nil_3 (w : World) :
    Calls Try.prog 4 #[.int .i64 3, .slice none 0 0] w fun e w' => e = .returned (.tuple #[.string (encS 3 []), .int .i64 (encE 3 [])]) ∧ Below w.heap.size w w' := by
  obtain ⟨i0, hi, hz0, hz1, hz2⟩ := info_parts Try.info5
  have hR := hide (enc_ok (enc := 3) rfl (l := []) rfl (by decide))
  go_enter Try.func4, Try.ntmps4
  go_wp2_with (go_at_call 7; refine (of_3 _).mono ?_; rintro e w' ⟨rfl, rfl⟩)
  refine wp_loop_rounds 1 ?_
  rw [rounds_succ]
  go_wp2_with (at_make; refine wpList_make_own _ rfl _ _ 34 rfl w.heap.size 5 i0 (.int .u8 0) 1 Try.underlying34 hi hz0 hz1 _ _ _ 0 rfl rfl rfl (by rw [hz2]; decide) (by decide) (Nat.le_refl _) ?_)
  intro w3 hown3 hgrow3
  have hb3 : Below w.heap.size w w3 := (Below.refl _ w).grown hgrow3 (Nat.le_refl _) (by simp)
  have hcv := conv_own (l := []) hown3
  clear hgrow3
  go_wp2_with fail
  refine wp_loop_rounds 1 ?_
  rw [rounds_succ]
  go_wp2
  go_ret2
  exact ⟨ret2s hR.out.2.symm hR.out.1.symm, hb3⟩

set_option maxHeartbeats 2000000 in
theorem Encode_3 (a : Addr) (cap : Nat) (l : List Int) (w : World) (hlen : l.length * 8 ≤ 140737488351232) (hc : ∀ j, j < l.length → w.cell? (a.add j) = some (.int .i64 (l.getD j 0))) :
    Calls Try.prog 4 #[.int .i64 3, .slice (some a) l.length cap] w fun e w' => e = .returned (.tuple #[.string (encS 3 l), .int .i64 (encE 3 l)]) ∧ Below w.heap.size w w' := by
  obtain ⟨i0, hi, hz0, hz1, hz2⟩ := info_parts Try.info5
  have hc' : Hid (∀ j, j < l.length → w.cell? (a.add j) = some (.int .i64 (l.getD j 0))) := hc
  clear hc
  go_enter Try.func4, Try.ntmps4
  go_wp2_with (go_at_call 7; refine (of_3 _).mono ?_; rintro e w' ⟨rfl, rfl⟩)
  go_loopw [8, 23] (fun s i wr => ∃ k : Nat, k ≤ l.length ∧ i = .int .i64 k ∧ s = .int .i64 ((flat 3 (l.take k)).length : Int) ∧ (l.take k).all (holdB 3) = true ∧ Below w.heap.size w wr) (fun _ i _ => l.length - (intOf i).toNat)
  case atStart => exact ⟨0, Nat.zero_le _, rfl, rfl, rfl, Below.refl _ _⟩
  case round =>
    obtain ⟨k, hk, rfl, rfl, hall, hb⟩ := hrel
    have hfl := flat_le 3 l k
    by_cases hlt : k < l.length
    · obtain ⟨x, hx⟩ : ∃ x, x = l.getD k 0 := ⟨_, rfl⟩
      have hcx : wr.cell? (a.add k) = some (.int .i64 x) := by rw [hx]; exact (hb.cell (World.block_lt_of_cell? w _ (hc'.out k hlt))).trans (hc'.out k hlt)
      have HX : Hid (x = l.getD k 0) := hx
      have HA : Hid ((l.take k).all (holdB 3) = true) := hall
      have hbl := bytesOf_len 3 x
      clear hx hall
      have hhold := holds_3 x
      by_cases hh : holdB 3 x = true
      · rw [hh] at hhold
        have HH : Hid (holdB 3 x = true) := hh
        have HHo := hide hhold
        clear hh hhold
        go_wp2_with (first | (go_at_call 42; refine (unhide HHo _).mono ?_; rintro e w1 ⟨rfl, hb1⟩) | (go_at_call 44; refine (size_3 x _ HH.out).mono ?_; rintro e w2 ⟨rfl, hb2⟩))
        go_roundw
        case rel => exact ⟨k + 1, by omega, by go_num, by rw [flat_len_succ _ _ _ hlt, ← HX.out]; go_num, by rw [all_succ _ _ _ hlt, HA.out, ← HX.out, HH.out]; rfl, (hb.trans (hb1.mono hb.size)).trans (hb2.mono (by have := hb.size; have := hb1.size; omega))⟩
        case measure => simp [intOf]; omega
      · have hh' : holdB 3 x = false := by simpa using hh
        rw [hh'] at hhold
        have HH : Hid (holdB 3 x = false) := hh'
        have HHo := hide hhold
        clear hh hh' hhold
        go_wp2_with (go_at_call 42; refine (unhide HHo _).mono ?_; rintro e w1 ⟨rfl, hb1⟩)
        go_ret2
        have hR := enc_range (enc := 3) rfl hlt (by rw [← HX.out]; exact HH.out)
        exact ⟨ret2s hR.2.symm hR.1.symm, hb.trans (hb1.mono hb.size)⟩
    · have hkl : k = l.length := by omega
      subst hkl
      rw [List.take_length] at hall hfl
      simp only [List.take_length]
      by_cases hbig : 4000 < (flat 3 l).length
      · have hR := enc_many (enc := 3) rfl hall hbig
        have HR := hide hR
        clear hR
        have hbig' : (4000 : Int) < ((flat 3 l).length : Int) := by omega
        go_wp2
        go_ret2
        exact ⟨ret2s HR.out.2.symm HR.out.1.symm, hb⟩
      · have hR := hide (enc_ok (enc := 3) rfl hall (by omega))
        have HA := hide hall
        clear hall
        obtain ⟨sz, hsz⟩ : ∃ sz, sz = (flat 3 l).length := ⟨_, rfl⟩
        rw [← hsz] at hbig hfl
        simp only [← hsz]
        have HS := hide hsz
        clear hsz
        go_wp2_with (at_make; refine wpList_make_own _ rfl _ _ 34 rfl w.heap.size 5 i0 (.int .u8 0) 1 Try.underlying34 hi hz0 hz1 _ _ _ sz rfl rfl rfl ?m1 ?m2 ?m3 ?_)
        case m1 => rw [hz2]; omega
        case m2 => unfold maxLen; omega
        case m3 => exact hb.size
        intro w3 hown3 hgrow3
        have hb3 : Below w.heap.size w w3 := hb.grown hgrow3 hb.size (by simp)
        clear hgrow3 hb
        go_wp2_with fail
        go_loopw [11, 43] (fun v i wr => ∃ k : Nat, k ≤ l.length ∧ i = .int .i64 k ∧ wr.ownsRow w.heap.size 5 1 v (flat 3 (l.take k)).length (u8s (flat 3 (l.take k))) ∧ Below w.heap.size w wr) (fun _ i _ => l.length - (intOf i).toNat)
        case atStart => exact ⟨0, Nat.zero_le _, rfl, hown3, hb3⟩
        case round =>
          obtain ⟨k, hk, rfl, hown, hb⟩ := hrel
          by_cases hlt : k < l.length
          · obtain ⟨x, hx⟩ : ∃ x, x = l.getD k 0 := ⟨_, rfl⟩
            have hcx : wr.cell? (a.add k) = some (.int .i64 x) := by rw [hx]; exact (hb.cell (World.block_lt_of_cell? w _ (hc'.out k hlt))).trans (hc'.out k hlt)
            have HX : Hid (x = l.getD k 0) := hx
            have hxh : holdB 3 x = true := by
              have := List.all_eq_true.1 HA.out x (by rw [hx]; simp [List.getD, List.getElem?_eq_getElem hlt])
              exact this
            have HH := hide hxh
            have hft := flat_take_le 3 l k
            have hfl2 : (flat 3 (l.take k)).length + 6 ≤ 140737488355328 := by have := HS.out; omega
            clear hx hxh hown3 hb3 hft
            have HO := hide hown
            clear hown
            go_wp2_with (go_at_call 45; refine (write_3 w.heap.size _ _ _ x HH.out _ HO.out hfl2 hb.size).mono ?_; rintro e w4 ⟨v4, rfl, ho4, hb4⟩)
            go_roundw
            case rel => exact ⟨k + 1, by omega, by go_num, by rw [flat_len_succ _ _ _ hlt, flat_succ _ _ _ hlt, u8s_append, ← HX.out]; exact ho4, hb.trans hb4⟩
            case measure => simp [intOf]; omega
          · have hkl : k = l.length := by omega
            subst hkl
            rw [List.take_length] at hown
            have hcv := conv_own hown
            go_wp2
            go_ret2
            exact ⟨ret2s hR.out.2.symm hR.out.1.symm, hb⟩

theorem of_4 (w : World) : Calls Try.prog 7 #[.int .i64 4] w fun e w' => e = .returned (.tuple #[.iface 47 (.agg #[]), .bool true]) ∧ w = w' :=
  (encodingOf_yes 4 w rfl).mono fun e w' ⟨h1, h2⟩ => ⟨h1, h2.symm⟩
theorem write_4 (B : Nat) (v : Value) (n : Nat) (xs : List Value) (p : Int) (hs : holdB 4 p = true) (w : World) (hown : w.ownsRow B 5 1 v n xs) (hlen : n + 6 ≤ 140737488355328) (hBw : B ≤ w.heap.size) :
    Calls Try.prog 51 #[.agg #[], v, .int .i64 p] w fun e w' => ∃ v', e = .returned v' ∧ w'.ownsRow B 5 1 v' (n + (bytesOf 4 p).length) (xs ++ u8s (bytesOf 4 p)) ∧ Below B w w' := writeL_any B v n xs p hs w hown (by omega) hBw

set_option maxHeartbeats 2000000 in
theorem Encode_nil_4 (w : World) :
    Calls Try.prog 4 #[.int .i64 4, .slice none 0 0] w fun e w' => e = .returned (.tuple #[.string (encS 4 []), .int .i64 (encE 4 [])]) ∧ Below w.heap.size w w' := by
  obtain ⟨i0, hi, hz0, hz1, hz2⟩ := info_parts Try.info5
  have hR := hide (enc_ok (enc := 4) rfl (l := []) rfl (by decide))
  go_enter Try.func4, Try.ntmps4
  go_wp2_with (go_at_call 7; refine (of_4 _).mono ?_; rintro e w' ⟨rfl, rfl⟩)
  refine wp_loop_rounds 1 ?_
  rw [rounds_succ]
  go_wp2_with (at_make; refine wpList_make_own _ rfl _ _ 34 rfl w.heap.size 5 i0 (.int .u8 0) 1 Try.underlying34 hi hz0 hz1 _ _ _ 0 rfl rfl rfl (by rw [hz2]; decide) (by decide) (Nat.le_refl _) ?_)
  intro w3 hown3 hgrow3
  have hb3 : Below w.heap.size w w3 := (Below.refl _ w).grown hgrow3 (Nat.le_refl _) (by simp)
  have hcv := conv_own (l := []) hown3
  clear hgrow3
  go_wp2_with fail
  refine wp_loop_rounds 1 ?_
  rw [rounds_succ]
  go_wp2
  go_ret2
  exact ⟨ret2s hR.out.2.symm hR.out.1.symm, hb3⟩

set_option maxHeartbeats 2000000 in
theorem Encode_4 (a : Addr) (cap : Nat) (l : List Int) (w : World) (hlen : l.length * 8 ≤ 140737488351232) (hc : ∀ j, j < l.length → w.cell? (a.add j) = some (.int .i64 (l.getD j 0))) :
    Calls Try.prog 4 #[.int .i64 4, .slice (some a) l.length cap] w fun e w' => e = .returned (.tuple #[.string (encS 4 l), .int .i64 (encE 4 l)]) ∧ Below w.heap.size w w' := by
  obtain ⟨i0, hi, hz0, hz1, hz2⟩ := info_parts Try.info5
  have hc' : Hid (∀ j, j < l.length → w.cell? (a.add j) = some (.int .i64 (l.getD j 0))) := hc
  clear hc
  go_enter Try.func4, Try.ntmps4
  go_wp2_with (go_at_call 7; refine (of_4 _).mono ?_; rintro e w' ⟨rfl, rfl⟩)
  go_loopw [8, 23] (fun s i wr => ∃ k : Nat, k ≤ l.length ∧ i = .int .i64 k ∧ s = .int .i64 ((flat 4 (l.take k)).length : Int) ∧ (l.take k).all (holdB 4) = true ∧ Below w.heap.size w wr) (fun _ i _ => l.length - (intOf i).toNat)
  case atStart => exact ⟨0, Nat.zero_le _, rfl, rfl, rfl, Below.refl _ _⟩
  case round =>
    obtain ⟨k, hk, rfl, rfl, hall, hb⟩ := hrel
    have hfl := flat_le 4 l k
    by_cases hlt : k < l.length
    · obtain ⟨x, hx⟩ : ∃ x, x = l.getD k 0 := ⟨_, rfl⟩
      have hcx : wr.cell? (a.add k) = some (.int .i64 x) := by rw [hx]; exact (hb.cell (World.block_lt_of_cell? w _ (hc'.out k hlt))).trans (hc'.out k hlt)
      have HX : Hid (x = l.getD k 0) := hx
      have HA : Hid ((l.take k).all (holdB 4) = true) := hall
      have hbl := bytesOf_len 4 x
      clear hx hall
      have hhold := holds_4 x
      by_cases hh : holdB 4 x = true
      · rw [hh] at hhold
        have HH : Hid (holdB 4 x = true) := hh
        have HHo := hide hhold
        clear hh hhold
        go_wp2_with (first | (go_at_call 48; refine (unhide HHo _).mono ?_; rintro e w1 ⟨rfl, hb1⟩) | (go_at_call 50; refine (size_4 x _ HH.out).mono ?_; rintro e w2 ⟨rfl, hb2⟩))
        go_roundw
        case rel => exact ⟨k + 1, by omega, by go_num, by rw [flat_len_succ _ _ _ hlt, ← HX.out]; go_num, by rw [all_succ _ _ _ hlt, HA.out, ← HX.out, HH.out]; rfl, (hb.trans (hb1.mono hb.size)).trans (hb2.mono (by have := hb.size; have := hb1.size; omega))⟩
        case measure => simp [intOf]; omega
      · have hh' : holdB 4 x = false := by simpa using hh
        rw [hh'] at hhold
        have HH : Hid (holdB 4 x = false) := hh'
        have HHo := hide hhold
        clear hh hh' hhold
        go_wp2_with (go_at_call 48; refine (unhide HHo _).mono ?_; rintro e w1 ⟨rfl, hb1⟩)
        go_ret2
        have hR := enc_range (enc := 4) rfl hlt (by rw [← HX.out]; exact HH.out)
        exact ⟨ret2s hR.2.symm hR.1.symm, hb.trans (hb1.mono hb.size)⟩
    · have hkl : k = l.length := by omega
      subst hkl
      rw [List.take_length] at hall hfl
      simp only [List.take_length]
      by_cases hbig : 4000 < (flat 4 l).length
      · have hR := enc_many (enc := 4) rfl hall hbig
        have HR := hide hR
        clear hR
        have hbig' : (4000 : Int) < ((flat 4 l).length : Int) := by omega
        go_wp2
        go_ret2
        exact ⟨ret2s HR.out.2.symm HR.out.1.symm, hb⟩
      · have hR := hide (enc_ok (enc := 4) rfl hall (by omega))
        have HA := hide hall
        clear hall
        obtain ⟨sz, hsz⟩ : ∃ sz, sz = (flat 4 l).length := ⟨_, rfl⟩
        rw [← hsz] at hbig hfl
        simp only [← hsz]
        have HS := hide hsz
        clear hsz
        go_wp2_with (at_make; refine wpList_make_own _ rfl _ _ 34 rfl w.heap.size 5 i0 (.int .u8 0) 1 Try.underlying34 hi hz0 hz1 _ _ _ sz rfl rfl rfl ?m1 ?m2 ?m3 ?_)
        case m1 => rw [hz2]; omega
        case m2 => unfold maxLen; omega
        case m3 => exact hb.size
        intro w3 hown3 hgrow3
        have hb3 : Below w.heap.size w w3 := hb.grown hgrow3 hb.size (by simp)
        clear hgrow3 hb
        go_wp2_with fail
        go_loopw [11, 43] (fun v i wr => ∃ k : Nat, k ≤ l.length ∧ i = .int .i64 k ∧ wr.ownsRow w.heap.size 5 1 v (flat 4 (l.take k)).length (u8s (flat 4 (l.take k))) ∧ Below w.heap.size w wr) (fun _ i _ => l.length - (intOf i).toNat)
        case atStart => exact ⟨0, Nat.zero_le _, rfl, hown3, hb3⟩
        case round =>
          obtain ⟨k, hk, rfl, hown, hb⟩ := hrel
          by_cases hlt : k < l.length
          · obtain ⟨x, hx⟩ : ∃ x, x = l.getD k 0 := ⟨_, rfl⟩
            have hcx : wr.cell? (a.add k) = some (.int .i64 x) := by rw [hx]; exact (hb.cell (World.block_lt_of_cell? w _ (hc'.out k hlt))).trans (hc'.out k hlt)
            have HX : Hid (x = l.getD k 0) := hx
            have hxh : holdB 4 x = true := by
              have := List.all_eq_true.1 HA.out x (by rw [hx]; simp [List.getD, List.getElem?_eq_getElem hlt])
              exact this
            have HH := hide hxh
            have hft := flat_take_le 4 l k
            have hfl2 : (flat 4 (l.take k)).length + 6 ≤ 140737488355328 := by have := HS.out; omega
            clear hx hxh hown3 hb3 hft
            have HO := hide hown
            clear hown
            go_wp2_with (go_at_call 51; refine (write_4 w.heap.size _ _ _ x HH.out _ HO.out hfl2 hb.size).mono ?_; rintro e w4 ⟨v4, rfl, ho4, hb4⟩)
            go_roundw
            case rel => exact ⟨k + 1, by omega, by go_num, by rw [flat_len_succ _ _ _ hlt, flat_succ _ _ _ hlt, u8s_append, ← HX.out]; exact ho4, hb.trans hb4⟩
            case measure => simp [intOf]; omega
          · have hkl : k = l.length := by omega
            subst hkl
            rw [List.take_length] at hown
            have hcv := conv_own hown
            go_wp2
            go_ret2
            exact ⟨ret2s hR.out.2.symm hR.out.1.symm, hb⟩

theorem nil_len0 {l : List Int} (h : l = []) : l.length = 0 := by rw [h]; rfl
theorem Encode_any (enc : Int) (v : Value) (l : List Int) (w : World) (hlen : l.length * 8 ≤ 140737488351232) (hr : RdI w v l) :
    Calls Try.prog 4 #[.int .i64 enc, v] w fun e w' => e = .returned (.tuple #[.string (encS enc l), .int .i64 (encE enc l)]) ∧ Below w.heap.size w w' := by
  cases he : encB enc with
  | false =>
    have hE : encE enc l = 7 := by simp [encE, he]
    have hS : encS enc l = ⟨#[]⟩ := by simp [encS, hE]
    rw [hE, hS]
    exact (Encode_kind enc v w he).mono fun e w' ⟨h1, h2⟩ => ⟨h1, h2 ▸ Below.refl _ _⟩
  | true =>
    have h' : enc = 1 ∨ enc = 2 ∨ enc = 3 ∨ enc = 4 := by simp [encB] at he; omega
    rcases hr with ⟨rfl, rfl⟩ | ⟨a, cap, rfl, hc⟩
    · rcases h' with rfl | rfl | rfl | rfl
      · exact Encode_nil_1 w
      · exact Encode_nil_2 w
      · exact Encode_nil_3 w
      · exact Encode_nil_4 w
    · rcases h' with rfl | rfl | rfl | rfl
      · exact Encode_1 a cap l w hlen hc
      · exact Encode_2 a cap l w hlen hc
      · exact Encode_3 a cap l w hlen hc
      · exact Encode_4 a cap l w hlen hc

end Go.Proofs.Ytihnaihmpokiiaa
