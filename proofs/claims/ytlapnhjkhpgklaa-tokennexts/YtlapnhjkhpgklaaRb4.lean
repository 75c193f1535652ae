/- The reference's NameAt. -/
import Derived.Test.YtlapnhjkhpgklaaRb3
namespace Go.Proofs.Ytlapnhjkhpgklaa
open Go.RowKit
set_option linter.unusedVariables false

def strLen : Value → Nat | .string b => b.size | _ => 0
theorem byteA_append (a b : List Int) : byteA (a ++ b) = byteA a ++ byteA b := by
  apply ByteArray.ext
  rw [ByteArray.data_append]
  simp [byteA]
theorem take_one {l : List Int} {i j k : Nat} (hj : j = i + k) (h : j < l.length) : (l.drop i).take (k + 1) = (l.drop i).take k ++ [ptA l j] := by
  subst hj
  rw [List.take_add_one, List.getElem?_drop, List.getElem?_eq_getElem h, ptA_in h]
  rfl
theorem nameA_in {l : List Int} {j : Nat} {p : Int} {f : Bool} (h : nameB p f = true) : True ∧ 48 ≤ p ∧ p ≤ 122 := ⟨trivial, nameB_rng h⟩

theorem ReadsI.belowB {w w' : World} {x : Addr} {l : List Int} (h : ReadsI w x l) (hb : Below w.heap.size w w') : ReadsI w' x l := fun j hj => (Mv.of_below (b := w.heap.size) hb).cell (fun e => by have h1 := World.block_lt_of_cell? _ _ (h j hj); rw [e] at h1; exact absurd h1 (Nat.lt_irrefl _)) (h j hj)
set_option maxRecDepth 100000 in
set_option maxHeartbeats 4000000 in
theorem nameAt_any (x : Addr) (c : Nat) (l : List Int) (i : Nat) (w : World) (h : ReadsI w x l) (hi : i ≤ l.length) (hl : l.length ≤ 1000) : Calls Try.prog 35 #[.slice (some x) l.length c, .int .i64 i] w fun e w' => e = .returned (.tuple #[.string (byteA (nameL l i)), .int .i64 ((i + (nameL l i).length : Nat) : Int)]) ∧ Below w.heap.size w w' := by
  have HR := hide h
  have HI := hide hi
  obtain ⟨n, hn⟩ : ∃ n, n = l.length := ⟨_, rfl⟩
  have HN := hide hn
  rw [← hn] at hl hi ⊢
  clear h hn
  go_enter Try.func35, Try.ntmps35
  go_wp2
  go_loopw [1, 6] (fun a u wr => ∃ (k : Nat), a = .int .i64 ((i + k : Nat) : Int) ∧ ∃ B, u = .string B ∧ B = byteA ((l.drop i).take k) ∧ NamR l i k ∧ Below w.heap.size w wr) (fun _ u _ => 20 - strLen u)
  case atStart => exact ⟨0, rfl, _, rfl, rfl, namR_start l i HI.out, Below.refl _ _⟩
  case round =>
    obtain ⟨k, rfl, B, rfl, hB, hr, hb⟩ := hrel
    have hk1 := hr.k1
    have hk2 := hr.k2
    have hsz : Hid (B.size = k) := by
      show B.size = k
      rw [hB]
      have := namR_len hr
      show ((List.map _ ((l.drop i).take k)).toArray).size = k
      simp only [List.size_toArray, List.length_map]
      exact this
    have HB := hide hB
    have HNr := hide hr
    have HBl := hide hb
    obtain ⟨j, hj⟩ : ∃ j, j = i + k := ⟨_, rfl⟩
    have HJ := hide hj
    rw [← hj] at hk2 ⊢
    have hjn : j ≤ n := by have := HN.out; omega
    have hRr := hide (HR.out.belowB hb)
    clear hr hb hj hk2 hB
    by_cases hlt : k < 20
    · have e1 : ((B.size : Nat) : Int) < 20 := by have := hsz.out; omega
      have HP := hide (pointAt_any x c l j wr hRr.out)
      rw [← HN.out] at HP
      obtain ⟨p, hp⟩ : ∃ p, p = ptA l j := ⟨_, rfl⟩
      rw [← hp] at HP
      have HPp := hide hp
      clear hp
      have HLt := hide (isLetR_any p wr)
      have HDg := hide (isDigit_any p wr)
      have hnb : Hid (nameB p (k == 0) = (letB p || p == 95 || (!(k == 0) && (decide (48 ≤ p) && decide (p ≤ 57))))) := by show _ = _; unfold nameB; rw [dig_ten]
      obtain ⟨a, ha⟩ : ∃ a, a = letB p := ⟨_, rfl⟩
      obtain ⟨dg, hdg⟩ : ∃ dg, dg = (decide (48 ≤ p) && decide (p ≤ 57)) := ⟨_, rfl⟩
      rw [← ha] at HLt hnb
      rw [← hdg] at HDg hnb
      clear ha hdg
      cases a with
      | true =>
        have HZ : Hid (nameB p (k == 0) = true) := by show _ = _; rw [hnb.out]; rfl
        clear hnb
        obtain ⟨p0, p1⟩ := nameB_rng HZ.out
        have hjl : j < n := by
          by_cases hh : j < l.length
          · have := HN.out; omega
          · exfalso
            have := HPp.out
            rw [ptA_out hh] at this
            omega
        have hcw : IntKind.u8.wrap p = p := by rw [IntKind.wrap_u8]; omega
        have hcv : (convert 57 9 (.slice (some ⟨wr.heap.size, 0, none⟩) 1 1)).run Try.prog (wr.alloc (.cells #[.int .u8 p] 5)) = .ok (.string (byteA [p])) (wr.alloc (.cells #[.int .u8 p] 5)) := conv_own (B := wr.heap.size) (n := 1) (l := [p]) (World.ownsRow_lit (base := wr.heap.size) (e := 5) (size := 1) wr #[.int .u8 p] 1 (Nat.le_refl _) (by unfold maxLen; omega) rfl)
        have hnx : Hid (NamR l i (k + 1)) := by
          have hJ := HJ.out
          subst hJ
          exact namR_next HNr.out hlt (by have := HN.out; omega) (by have := HZ.out; rw [HPp.out, ptA_in (by have := HN.out; omega)] at this; exact this)
        have hS : Hid (B ++ byteA [p] = byteA ((l.drop i).take (k + 1))) := by
          show _ = _
          rw [HB.out, take_one (j := j) HJ.out (by have := HN.out; omega), byteA_append, ← HPp.out]
        have hc1 : B.size + (byteA [p]).size ≤ 9223372036854775807 := by have h1 := hsz.out; have h2 : (byteA [p]).size = 1 := rfl; omega
        have hc2 : ¬ (9223372036854775807 < B.size + (byteA [p]).size) := by omega
        have hsz2 : Hid ((B ++ byteA [p]).size = k + 1) := by show _ = _; rw [ByteArray.size_append, hsz.out]; rfl
        have hB2 : Hid (Below w.heap.size w (wr.alloc (.cells #[.int .u8 p] 5))) := HBl.out.alloc HBl.out.size _
        go_wp2_with fail
        refine HP.out.mono ?_
        rintro e w' ⟨rfl, rfl⟩
        go_wp2_with fail
        refine HLt.out.mono ?_
        rintro e w' ⟨rfl, rfl⟩
        go_wp2
        go_roundw
        case rel => exact ⟨k + 1, by have := HJ.out; go_num, _, rfl, hS.out, hnx.out, hB2.out⟩
        case measure => show 20 - (B ++ byteA [p]).size < 20 - B.size; rw [hsz2.out, hsz.out]; omega
      | false =>
        by_cases h95 : p = 95
        · have HZ : Hid (nameB p (k == 0) = true) := by show _ = _; rw [hnb.out, h95]; rfl
          have hb95 : (p != 95) = false := by simpa using h95
          clear hnb h95
          obtain ⟨p0, p1⟩ := nameB_rng HZ.out
          have hjl : j < n := by
            by_cases hh : j < l.length
            · have := HN.out; omega
            · exfalso
              have := HPp.out
              rw [ptA_out hh] at this
              omega
          have hcw : IntKind.u8.wrap p = p := by rw [IntKind.wrap_u8]; omega
          have hcv : (convert 57 9 (.slice (some ⟨wr.heap.size, 0, none⟩) 1 1)).run Try.prog (wr.alloc (.cells #[.int .u8 p] 5)) = .ok (.string (byteA [p])) (wr.alloc (.cells #[.int .u8 p] 5)) := conv_own (B := wr.heap.size) (n := 1) (l := [p]) (World.ownsRow_lit (base := wr.heap.size) (e := 5) (size := 1) wr #[.int .u8 p] 1 (Nat.le_refl _) (by unfold maxLen; omega) rfl)
          have hnx : Hid (NamR l i (k + 1)) := by
            have hJ := HJ.out
            subst hJ
            exact namR_next HNr.out hlt (by have := HN.out; omega) (by have := HZ.out; rw [HPp.out, ptA_in (by have := HN.out; omega)] at this; exact this)
          have hS : Hid (B ++ byteA [p] = byteA ((l.drop i).take (k + 1))) := by
            show _ = _
            rw [HB.out, take_one (j := j) HJ.out (by have := HN.out; omega), byteA_append, ← HPp.out]
          have hc1 : B.size + (byteA [p]).size ≤ 9223372036854775807 := by have h1 := hsz.out; have h2 : (byteA [p]).size = 1 := rfl; omega
          have hc2 : ¬ (9223372036854775807 < B.size + (byteA [p]).size) := by omega
          have hsz2 : Hid ((B ++ byteA [p]).size = k + 1) := by show _ = _; rw [ByteArray.size_append, hsz.out]; rfl
          have hB2 : Hid (Below w.heap.size w (wr.alloc (.cells #[.int .u8 p] 5))) := HBl.out.alloc HBl.out.size _
          go_wp2_with fail
          refine HP.out.mono ?_
          rintro e w' ⟨rfl, rfl⟩
          go_wp2_with fail
          refine HLt.out.mono ?_
          rintro e w' ⟨rfl, rfl⟩
          go_wp2
          go_roundw
          case rel => exact ⟨k + 1, by have := HJ.out; go_num, _, rfl, hS.out, hnx.out, hB2.out⟩
          case measure => show 20 - (B ++ byteA [p]).size < 20 - B.size; rw [hsz2.out, hsz.out]; omega
        · have hb95 : (p != 95) = true := by simpa using h95
          have h95' : (p == 95) = false := by simpa using h95
          clear h95
          rw [h95'] at hnb
          by_cases hk0 : k = 0
          · have HZ : Hid (nameB p (k == 0) = false) := by show _ = _; rw [hnb.out, hk0]; rfl
            have hz0 : (((B.size : Nat) : Int) == 0) = true := by rw [hsz.out, hk0]; rfl
            clear hnb h95'
            have hE : Hid (nameL l i = (l.drop i).take k) := by
              have hJ := HJ.out
              subst hJ
              exact namR_end HNr.out (fun ⟨_, h2, h3⟩ => by have := HZ.out; rw [HPp.out, ptA_in h2, h3] at this; cases this)
            have hnl : Hid ((nameL l i).length = k) := by show _ = _; rw [hE.out]; exact namR_len HNr.out
            go_wp2_with fail
            refine HP.out.mono ?_
            rintro e w' ⟨rfl, rfl⟩
            go_wp2_with fail
            refine HLt.out.mono ?_
            rintro e w' ⟨rfl, rfl⟩
            go_wp2
            go_ret2
            exact ⟨by rw [hnl.out, hE.out, ← HB.out, HJ.out]; rfl, HBl.out⟩
          · have hz0 : (((B.size : Nat) : Int) == 0) = false := by rw [hsz.out, beq_eq_false_iff_ne]; omega
            have hkb : (k == 0) = false := by simpa using hk0
            cases dg with
            | true =>
              have HZ : Hid (nameB p (k == 0) = true) := by show _ = _; rw [hnb.out, hkb]; rfl
              clear hnb h95' hkb
              obtain ⟨p0, p1⟩ := nameB_rng HZ.out
              have hjl : j < n := by
                by_cases hh : j < l.length
                · have := HN.out; omega
                · exfalso
                  have := HPp.out
                  rw [ptA_out hh] at this
                  omega
              have hcw : IntKind.u8.wrap p = p := by rw [IntKind.wrap_u8]; omega
              have hcv : (convert 57 9 (.slice (some ⟨wr.heap.size, 0, none⟩) 1 1)).run Try.prog (wr.alloc (.cells #[.int .u8 p] 5)) = .ok (.string (byteA [p])) (wr.alloc (.cells #[.int .u8 p] 5)) := conv_own (B := wr.heap.size) (n := 1) (l := [p]) (World.ownsRow_lit (base := wr.heap.size) (e := 5) (size := 1) wr #[.int .u8 p] 1 (Nat.le_refl _) (by unfold maxLen; omega) rfl)
              have hnx : Hid (NamR l i (k + 1)) := by
                have hJ := HJ.out
                subst hJ
                exact namR_next HNr.out hlt (by have := HN.out; omega) (by have := HZ.out; rw [HPp.out, ptA_in (by have := HN.out; omega)] at this; exact this)
              have hS : Hid (B ++ byteA [p] = byteA ((l.drop i).take (k + 1))) := by
                show _ = _
                rw [HB.out, take_one (j := j) HJ.out (by have := HN.out; omega), byteA_append, ← HPp.out]
              have hc1 : B.size + (byteA [p]).size ≤ 9223372036854775807 := by have h1 := hsz.out; have h2 : (byteA [p]).size = 1 := rfl; omega
              have hc2 : ¬ (9223372036854775807 < B.size + (byteA [p]).size) := by omega
              have hsz2 : Hid ((B ++ byteA [p]).size = k + 1) := by show _ = _; rw [ByteArray.size_append, hsz.out]; rfl
              have hB2 : Hid (Below w.heap.size w (wr.alloc (.cells #[.int .u8 p] 5))) := HBl.out.alloc HBl.out.size _
              go_wp2_with fail
              refine HP.out.mono ?_
              rintro e w' ⟨rfl, rfl⟩
              go_wp2_with fail
              refine HLt.out.mono ?_
              rintro e w' ⟨rfl, rfl⟩
              go_wp2_with fail
              refine HDg.out.mono ?_
              rintro e w' ⟨rfl, rfl⟩
              go_wp2
              go_roundw
              case rel => exact ⟨k + 1, by have := HJ.out; go_num, _, rfl, hS.out, hnx.out, hB2.out⟩
              case measure => show 20 - (B ++ byteA [p]).size < 20 - B.size; rw [hsz2.out, hsz.out]; omega
            | false =>
              have HZ : Hid (nameB p (k == 0) = false) := by show _ = _; rw [hnb.out, hkb]; rfl
              clear hnb h95' hkb
              have hE : Hid (nameL l i = (l.drop i).take k) := by
                have hJ := HJ.out
                subst hJ
                exact namR_end HNr.out (fun ⟨_, h2, h3⟩ => by have := HZ.out; rw [HPp.out, ptA_in h2, h3] at this; cases this)
              have hnl : Hid ((nameL l i).length = k) := by show _ = _; rw [hE.out]; exact namR_len HNr.out
              go_wp2_with fail
              refine HP.out.mono ?_
              rintro e w' ⟨rfl, rfl⟩
              go_wp2_with fail
              refine HLt.out.mono ?_
              rintro e w' ⟨rfl, rfl⟩
              go_wp2_with fail
              refine HDg.out.mono ?_
              rintro e w' ⟨rfl, rfl⟩
              go_wp2
              go_ret2
              exact ⟨by rw [hnl.out, hE.out, ← HB.out, HJ.out]; rfl, HBl.out⟩
    · have e1 : ¬ ((B.size : Nat) : Int) < 20 := by have := hsz.out; omega
      have hE : Hid (nameL l i = (l.drop i).take k) := namR_end HNr.out (fun hh => hlt hh.1)
      have hnl : Hid ((nameL l i).length = k) := by show _ = _; rw [hE.out]; exact namR_len HNr.out
      go_wp2
      go_ret2
      exact ⟨by rw [hnl.out, hE.out, ← HB.out, HJ.out]; rfl, HBl.out⟩

end Go.Proofs.Ytlapnhjkhpgklaa
