/- What the reference answers as the text of points: the text, or the error. -/
import Derived.Test.YtihnaihmpokiiaaRef
namespace Go.Proofs.Ytihnaihmpokiiaa
open Go.RowKit
set_option linter.unusedVariables false

theorem ret2s {a c : ByteArray} {b d : Int} (h1 : a = c) (h2 : b = d) : Ending.returned (.tuple #[.string a, .int .i64 b]) = .returned (.tuple #[.string c, .int .i64 d]) := by rw [h1, h2]
theorem enc_range {enc : Int} (he : encB enc = true) {l : List Int} {k : Nat} (hk : k < l.length) (h : holdB enc (l.getD k 0) = false) : encE enc l = 3 ∧ encS enc l = ⟨#[]⟩ := by
  have hall : l.all (holdB enc) = false := by
    rw [List.all_eq_false]
    exact ⟨l.getD k 0, by simp [List.getD, List.getElem?_eq_getElem hk], by rw [h]; decide⟩
  have hE : encE enc l = 3 := by simp [encE, he, hall]
  exact ⟨hE, by simp [encS, hE]⟩
theorem enc_many {enc : Int} (he : encB enc = true) {l : List Int} (hall : l.all (holdB enc) = true) (h : 4000 < (flat enc l).length) : encE enc l = 2 ∧ encS enc l = ⟨#[]⟩ := by
  have hE : encE enc l = 2 := by unfold encE; rw [he, hall]; simp [h]
  exact ⟨hE, by simp [encS, hE]⟩
theorem enc_ok {enc : Int} (he : encB enc = true) {l : List Int} (hall : l.all (holdB enc) = true) (h : (flat enc l).length ≤ 4000) : encE enc l = 0 ∧ encS enc l = strOfNums (flat enc l) := by
  have hE : encE enc l = 0 := by unfold encE; rw [he, hall]; simp; omega
  exact ⟨hE, by simp [encS, hE]⟩

theorem bytesOf_byte {enc p : Int} (he : encB enc = true) (h : holdB enc p = true) : ∀ x ∈ bytesOf enc p, 0 ≤ x ∧ x < 256 := by
  have h' : enc = 1 ∨ enc = 2 ∨ enc = 3 ∨ enc = 4 := by simp [encB] at he; omega
  intro x hx
  rcases h' with rfl | rfl | rfl | rfl
  · have hs : sclB p = true := h
    simp [sclB] at hs
    simp only [bytesOf, bytes8, show ¬ (1 : Int) = 4 from by decide, if_false, if_true] at hx
    split at hx
    · simp at hx; omega
    · split at hx
      · simp at hx; omega
      · split at hx <;> (simp at hx; omega)
  · have hs : sclB p = true := h
    simp [sclB] at hs
    simp only [bytesOf, bytes16, unitL, show ¬ (2 : Int) = 4 from by decide, show ¬ (2 : Int) = 1 from by decide, if_false, if_true] at hx
    split at hx <;> (simp at hx; omega)
  · have hs : sclB p = true := h
    simp [sclB] at hs
    simp only [bytesOf, bytes16, unitL, show ¬ (3 : Int) = 4 from by decide, show ¬ (3 : Int) = 1 from by decide, show ¬ (3 : Int) = 2 from by decide, if_false] at hx
    split at hx <;> (simp at hx; omega)
  · have hs : latB p = true := h
    simp [latB] at hs
    simp only [bytesOf, if_true] at hx
    simp at hx; omega

theorem own_shape {B e : Nat} {w : World} {v : Value} {n : Nat} {xs : List Value} (h : w.ownsRow B e 1 v n xs) : ∃ ao cap, v = .slice ao n cap := by
  rcases h.2 with ⟨rfl, rfl⟩ | ⟨g, cap, cur, rfl, _⟩
  · exact ⟨_, _, rfl⟩
  · exact ⟨_, _, rfl⟩
theorem own_some {B e : Nat} {w : World} {v : Value} {n : Nat} {xs : List Value} (h : w.ownsRow B e 1 v n xs) (hn : 1 ≤ n) : ∃ g cap, v = .slice (some ⟨g, 0, none⟩) n cap := by
  rcases h.2 with ⟨rfl, rfl⟩ | ⟨g, cap, cur, rfl, _⟩
  · omega
  · exact ⟨_, _, rfl⟩
/-- rows of two kinds lie apart. -/
theorem own_apart {B B' : Nat} {w : World} {v u : Value} {a b : Nat} {xs ys : List Value} (h : w.ownsRow B 5 1 v a xs) (k : w.ownsRow B' 3 1 u b ys) : u.ownBlock = none ∨ u.ownBlock ≠ v.ownBlock := by
  rcases k.2 with ⟨rfl, rfl⟩ | ⟨g, cap, cur, rfl, _, hg, _⟩
  · exact Or.inl rfl
  · right
    rcases h.2 with ⟨rfl, rfl⟩ | ⟨g', cap', cur', rfl, _, hg', _⟩
    · simp [Value.ownBlock]
    · intro e
      simp [Value.ownBlock] at e
      subst e
      rw [hg] at hg'
      simp at hg'

theorem own_below {B e : Nat} {w w' : World} {v : Value} {n : Nat} {xs : List Value} (h : w.ownsRow B e 1 v n xs) (hb : Below w.heap.size w w') : w'.ownsRow B e 1 v n xs := by
  refine ⟨h.1, ?_⟩
  rcases h.2 with h2 | ⟨g, cap, cur, rfl, h3, hg, h4⟩
  · exact Or.inl h2
  · have hlt : g < w.heap.size := by
      have := Array.getElem?_eq_some_iff.1 hg
      exact this.1
    exact Or.inr ⟨g, cap, cur, rfl, h3, by rw [hb.block g hlt]; exact hg, h4⟩
theorem own_base {B B' e : Nat} {w : World} {v : Value} {n : Nat} {xs : List Value} (h : w.ownsRow B' e 1 v n xs) (hb : B ≤ B') : w.ownsRow B e 1 v n xs := by
  refine ⟨h.1, ?_⟩
  rcases h.2 with h2 | ⟨g, cap, cur, rfl, h3, h4⟩
  · exact Or.inl h2
  · exact Or.inr ⟨g, cap, cur, rfl, by omega, h4⟩

theorem cells_one8 (X : World) (g : Nat) (hg : g = X.heap.size) (z : Int) : ∀ j v, [Value.int .u8 z][j]? = some v → (X.alloc (.cells #[.int .u8 z] 5)).cell? ((⟨g, 0, none⟩ : Addr).add j) = some v := by
  subst hg
  intro j v hj
  match j, hj with
  | 0, hj => simp at hj; subst hj; exact World.cell?_alloc_at _ _ _ _ rfl
  | (j + 1), hj => simp at hj
theorem one8 (z : Int) : ∀ v ∈ [Value.int .u8 z], v.oneCell' = true := by
  intro v hv; simp at hv; subst hv; rfl

theorem bytesOf_shape (enc p : Int) (w : World) (he : encB enc = true) (h : holdB enc p = true) :
    Calls Try.prog 10 #[.int .i64 enc, .int .i64 p] w fun e w' => ∃ g cap, e = .returned (.slice (some ⟨g, 0, none⟩) (bytesOf enc p).length cap) ∧ w'.ownsRow w.heap.size 3 1 (.slice (some ⟨g, 0, none⟩) (bytesOf enc p).length cap) (bytesOf enc p).length (i64s (bytesOf enc p)) ∧ Below w.heap.size w w' :=
  (bytesOf_any enc p w he h).mono fun e w' ⟨v, h1, h2, h3⟩ => by
    obtain ⟨g, cap, rfl⟩ := own_some h2 (bytesOf_len enc p).1
    exact ⟨g, cap, h1, h2, h3⟩

set_option maxHeartbeats 1000000 in
theorem TextOf_kind (enc : Int) (v : Value) (w : World) (h : encB enc = false) :
    Calls Try.prog 5 #[.int .i64 enc, v] w fun e w' => e = .returned (.tuple #[.string ⟨#[]⟩, .int .i64 7]) ∧ w' = w := by
  go_enter Try.func5, Try.ntmps5
  go_wp2_with (go_at_call 8; refine (isEnc_any _ _).mono ?_; rintro e w' ⟨rfl, rfl⟩)
  go_ret2
  exact ⟨rfl, rfl⟩

set_option maxHeartbeats 2000000 in
theorem TextOf_some (enc : Int) (he : encB enc = true) (a : Addr) (cap : Nat) (l : List Int) (w : World) (hlen : l.length * 8 ≤ 140737488351232) (hc : ∀ j, j < l.length → w.cell? (a.add j) = some (.int .i64 (l.getD j 0))) :
    Calls Try.prog 5 #[.int .i64 enc, .slice (some a) l.length cap] w fun e w' => e = .returned (.tuple #[.string (encS enc l), .int .i64 (encE enc l)]) ∧ Below w.heap.size w w' := by
  obtain ⟨i0, hi, hz0, hz1, hz2⟩ := info_parts Try.info5
  have hc' : Hid (∀ j, j < l.length → w.cell? (a.add j) = some (.int .i64 (l.getD j 0))) := hc
  clear hc
  have HE := hide he
  have hisenc := isEnc_any enc
  rw [he] at hisenc
  have HI := hide hisenc
  clear he hisenc
  go_enter Try.func5, Try.ntmps5
  go_wp2_with (go_at_call 8; refine (HI.out _).mono ?_; rintro e w' ⟨rfl, hw⟩; have hw2 := hw.symm; clear hw; subst hw2)
  go_loop [7] (fun i => ∃ k : Nat, k ≤ l.length ∧ i = .int .i64 k ∧ (l.take k).all (holdB enc) = true) (fun i => l.length - (intOf i).toNat)
  case atStart => exact ⟨0, Nat.zero_le _, rfl, rfl⟩
  case round =>
    obtain ⟨k, hk, rfl, hall⟩ := hrel
    by_cases hlt : k < l.length
    · obtain ⟨x, hx⟩ : ∃ x, x = l.getD k 0 := ⟨_, rfl⟩
      have hcx : w.cell? (a.add k) = some (.int .i64 x) := by rw [hx]; exact hc'.out k hlt
      have HX : Hid (x = l.getD k 0) := hx
      have HA := hide hall
      clear hx hall
      have hhold := isScalarR_any enc x
      by_cases hh : holdB enc x = true
      · rw [hh] at hhold
        have HH := hide hh
        have HHo := hide hhold
        clear hh hhold
        go_wp2_with (go_at_call 9; refine (unhide HHo _).mono ?_; rintro e w1 ⟨rfl, hw⟩; have hw2 := hw.symm; clear hw; subst hw2)
        go_round
        case rel => exact ⟨k + 1, by omega, by go_num, by rw [all_succ _ _ _ hlt, HA.out, ← HX.out, HH.out]; rfl⟩
        case measure => simp [intOf]; omega
      · have hh' : holdB enc x = false := by simpa using hh
        rw [hh'] at hhold
        have HH := hide hh'
        have HHo := hide hhold
        clear hh hh' hhold
        go_wp2_with (go_at_call 9; refine (unhide HHo _).mono ?_; rintro e w1 ⟨rfl, hw⟩; have hw2 := hw.symm; clear hw; subst hw2)
        go_ret2
        have hR := enc_range HE.out hlt (by rw [← HX.out]; exact HH.out)
        exact ⟨ret2s hR.2.symm hR.1.symm, Below.refl _ _⟩
    · have hkl : k = l.length := by omega
      subst hkl
      rw [List.take_length] at hall
      have HA := hide hall
      clear hall
      go_wp2_with fail
      go_loopw [6, 8] (fun v i wr => ∃ k : Nat, k ≤ l.length ∧ i = .int .i64 k ∧ wr.ownsRow w.heap.size 5 1 v (flat enc (l.take k)).length (u8s (flat enc (l.take k))) ∧ (flat enc (l.take k)).length ≤ 4000 ∧ Below w.heap.size w wr) (fun _ i _ => l.length - (intOf i).toNat)
      case atStart => exact ⟨0, Nat.zero_le _, rfl, World.ownsRow_nil _ _ _ _, by simp [flat], Below.refl _ _⟩
      case round =>
        obtain ⟨k, hk, rfl, hown, hle, hb⟩ := hrel
        by_cases hlt : k < l.length
        · obtain ⟨x, hx⟩ : ∃ x, x = l.getD k 0 := ⟨_, rfl⟩
          have hcx : wr.cell? (a.add k) = some (.int .i64 x) := by rw [hx]; exact (hb.cell (World.block_lt_of_cell? w _ (hc'.out k hlt))).trans (hc'.out k hlt)
          have HX : Hid (x = l.getD k 0) := hx
          have hxh : holdB enc x = true := by
            have := List.all_eq_true.1 HA.out x (by rw [hx]; simp [List.getD, List.getElem?_eq_getElem hlt])
            exact this
          have HH := hide hxh
          have hbyte := hide (bytesOf_byte HE.out hxh)
          have hfs := hide (flat_succ enc l k hlt)
          rw [← hx] at hfs
          have hbl := bytesOf_len enc x
          have HO := hide hown
          have HB := hide (bytesOf_shape enc x wr HE.out hxh)
          clear hx hxh hown
          obtain ⟨bs, hbs⟩ : ∃ bs, bs = bytesOf enc x := ⟨_, rfl⟩
          obtain ⟨F, hF⟩ : ∃ F, F = flat enc (l.take k) := ⟨_, rfl⟩
          rw [← hbs] at hbyte hfs hbl HB
          rw [← hF] at hfs hle HO
          have HF := hide hF
          have HBS := hide hbs
          clear hF hbs
          go_wp2_with (go_at_call 10; refine HB.out.mono ?_; rintro e w1 ⟨g, cp, rfl, ho9, hb9⟩)
          have ho1 : w1.ownsRow w.heap.size 5 1 _ F.length (u8s F) := own_below HO.out hb9
          have hb1 : Below w.heap.size w w1 := hb.trans (hb9.mono hb.size)
          have ho9' := own_base ho9 hb.size
          clear HB ho9 hb9 hb hcx
          have HO1 := hide ho1
          have HO9 := hide ho9'
          clear ho1 ho9' HO
          go_wp2_with fail
          go_loopw [6, 10] (fun v i wi => ∃ m : Nat, m ≤ bs.length ∧ i = .int .i64 m ∧ wi.ownsRow w.heap.size 5 1 v (F.length + m) (u8s (F ++ bs.take m)) ∧ wi.ownsRow w.heap.size 3 1 (.slice (some ⟨g, 0, none⟩) bs.length cp) bs.length (i64s bs) ∧ Below w.heap.size w wi) (fun _ i _ => bs.length - (intOf i).toNat)
          case atStart => exact ⟨0, Nat.zero_le _, rfl, by simpa using HO1.out, HO9.out, hb1⟩
          case round =>
            obtain ⟨m, hm, rfl, hown, ho9, hb⟩ := hrel
            by_cases hmt : m < bs.length
            · obtain ⟨y, hy⟩ : ∃ y, y = bs.getD m 0 := ⟨_, rfl⟩
              have hcy : wr.cell? ⟨g, m, none⟩ = some (.int .i64 y) := by
                rw [ho9.cellAt m (by omega), hy]; simp [i64s, List.getD, hmt]
              have hyb := hbyte.out y (by rw [hy]; simp [List.getD, hmt])
              have HY := hide hy
              have HO := hide hown
              have HP := hide ho9
              have hsz := hb.size
              clear hy hown ho9 hb1
              go_wp2_with (at_builtin; refine wpList_append_own _ rfl _ _ 34 rfl w.heap.size 5 i0 (.int .u8 0) 1 1 Try.underlying34 hi hz0 hz1 hz2 rfl (by decide) _ _ _ rfl (HO.out.alloc _) ⟨wr.heap.size, 0, none⟩ 1 1 [.int .u8 y] rfl rfl (cells_one8 _ _ (by simp) y) (one8 y) (by unfold maxLen; omega) (by omega) (by simp; omega) ?_)
              intro v' w2 hown' hgrow _
              have ho9' := (HP.out.alloc _).kept hgrow (own_apart HO.out HP.out)
              have hb' := hb.trans (below_app HO.out hsz hgrow)
              clear hgrow
              have HO' := hide hown'
              have HP' := hide ho9'
              clear hown' ho9'
              go_wp2
              go_roundw
              case rel => exact ⟨m + 1, by omega, by go_num, by rw [take_succ bs m hmt, ← HY.out, ← List.append_assoc, u8s_append]; exact HO'.out, HP'.out, hb'⟩
              case measure => simp [intOf]; omega
            · have hml : m = bs.length := by omega
              subst hml
              rw [List.take_length] at hown
              rw [← List.length_append, ← hfs.out] at hown
              have hG := flat_take_le enc l (k + 1)
              obtain ⟨ao, c6, hv⟩ := own_shape hown
              have HO := hide hown
              clear hown ho9 hb1
              by_cases hbig : 4000 < (flat enc (l.take (k + 1))).length
              · have hR := hide (enc_many HE.out HA.out (by omega))
                have hbig' : (4000 : Int) < ((flat enc (l.take (k + 1))).length : Int) := by omega
                rw [hv]
                clear hv
                go_wp2
                go_ret2
                exact ⟨ret2s hR.out.2.symm hR.out.1.symm, hb⟩
              · have hbig' : ¬ (4000 : Int) < ((flat enc (l.take (k + 1))).length : Int) := by omega
                rw [hv] at HO
                rw [hv]
                clear hv
                go_wp2
                go_roundw
                case rel => exact ⟨k + 1, by omega, by go_num, HO.out, by omega, hb⟩
                case measure => simp [intOf]; omega
        · have hkl : k = l.length := by omega
          subst hkl
          rw [List.take_length] at hown hle
          have hcv := conv_own hown
          have hR := hide (enc_ok HE.out HA.out hle)
          go_wp2
          go_ret2
          exact ⟨ret2s hR.out.2.symm hR.out.1.symm, hb⟩
end Go.Proofs.Ytihnaihmpokiiaa
