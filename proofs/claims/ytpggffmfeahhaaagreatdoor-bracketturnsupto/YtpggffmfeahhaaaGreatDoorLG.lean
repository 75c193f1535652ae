/- The walk of BracketTurns: what begins so. -/
import Derived.Test.YtpggffmfeahhaaaGreatDoorBbg
namespace Go.Proofs.YtpggffmfeahhaaaGreatDoor.Br
open Go.RowKit
open TK (Mv PatV ReadsI byteA add_block peel)
set_option linter.unusedVariables false
set_option maxRecDepth 100000

set_option maxHeartbeats 16000000 in
theorem turns_beg (d p : Int) (fo : Bool) (v : Value) (l : List Int) (w : World) (hT : Fo.Tab w) (hpos : 0 < w.heap.size) (h : PatV w v l) (hl : l.length ≤ 2000000) (x : Addr) (c : Nat) (hv : v = .slice (some x) l.length c) (l2 : List Int) (hl0 : l = 94 :: l2) (hc1 : ¬ c = 1) : Calls Tryz.prog 3 #[.int .i64 d, v, .bool fo, .int .i64 p] w fun e w' => e = .returned (.bool true) ∧ Below w.heap.size w w' := by
  have HT := hide hT
  have HH := hide h
  have HBg := hide (bbegun_any w hT hpos)
  have hc0 : Hid (∀ W, PatV W v l → W.cell? x = some (.int .i64 94)) := by
    intro W hW
    obtain ⟨y, c', e', _, hr⟩ := hW.some (by rw [hl0]; simp)
    rw [hv] at e'
    cases e'
    have := hr 0 (by rw [hl0]; simp)
    rw [show x.add 0 = x by unfold Addr.add; split <;> simp_all] at this
    simpa [hl0] using this
  have hcap : l.length ≤ c := by
    obtain ⟨y, c', e', hcc, _⟩ := h.some (by rw [hl0]; simp)
    rw [hv] at e'
    cases e'
    exact hcc
  have HPd : Hid (∀ W, PatV W v l → PatV W (.slice (some ⟨x.block, x.off + 1, none⟩) l2.length (c - 1)) l2) := by
    intro W hW
    obtain ⟨y, c', e', hcc, hr⟩ := hW.some (by rw [hl0]; simp)
    rw [hv] at e'
    cases e'
    refine .inr ⟨_, _, rfl, by rw [hl0] at hcap; simp at hcap; omega, fun j hj => ?_⟩
    have := hr (1 + j) (by rw [hl0]; simp; omega)
    rw [show (⟨x.block, x.off + 1, none⟩ : Addr) = x.add 1 from rfl, Addr.add_add, this]
    simp [hl0, Nat.add_comm 1 j]
  have HL2 : Hid (l2.length ≤ 2000000) := by show _ ≤ _; rw [hl0] at hl; simp at hl; omega
  obtain ⟨n, hn⟩ : ∃ n, n = l.length := ⟨_, rfl⟩
  obtain ⟨m, hm⟩ : ∃ m, m = l2.length := ⟨_, rfl⟩
  have HM2 := hide hm
  have hnm : n = m + 1 := by rw [hn, hl0, hm]; simp
  rw [← hn] at hv hcap
  rw [hnm] at hv hcap
  rw [hv] at HH hc0 HPd ⊢
  rw [← hm] at HPd
  clear h hT hv hl hl0 hn hnm hm
  go_enter Tryz.func3, Tryz.ntmps3
  go_wp2_with fail
  refine HBg.out.mono ?_
  rintro e w1 ⟨rfl, hb1⟩
  have HB1 := hide hb1
  clear hb1 HBg
  go_wp2_with fail
  refine (begun_any w1).mono ?_
  rintro e w2 ⟨rfl, hb2'⟩
  have HB2 := hide (HB1.out.trans (hb2'.mono HB1.out.size))
  have HT2 := hide (HT.out.below HB2.out hpos)
  have hp2 : 0 < w2.heap.size := Nat.lt_of_lt_of_le hpos HB2.out.size
  have HPVl := hide (HH.out.below HB2.out)
  clear hb2' HB1 HT
  have cc0 := hc0.out w2 HPVl.out
  have HPV := hide (HPd.out w2 HPVl.out)
  have t1 : (0 : Int) < ((m + 1 : Nat) : Int) := by omega
  go_upto_region 5 with fail
  clear cc0 hc0 HPVl HH t1 HPd
  clear hcap hc1
  have HP1 := hide (parse_gen d 0 _ l2 fo w2 HPV.out HT2.out hp2)
  go_wp2_with fail
  refine HP1.out.mono ?_
  rintro e w3 ⟨so, ln, sc, k, er, at1, rfl, hb3', hg3⟩
  have hb3 := HB2.out.trans (hb3'.mono HB2.out.size)
  have HB3 := hide hb3
  have HT3 := hide (HT2.out.below hb3' hp2)
  have HPV3 := hide (HPV.out.below hb3')
  have HG3 := hide hg3
  clear hb3' hb3 hg3 HP1
  go_upto_region 6 with fail
  obtain ⟨w4, hw4⟩ : ∃ w4, w4 = w3.alloc (.cells #[.int .i64 er, .int .i64 at1] 27) := ⟨_, rfl⟩
  have hb4' : Below w3.heap.size w3 w4 := by rw [hw4]; exact (Below.refl _ w3).alloc (Nat.le_refl _) _
  have e0 : w4.cell? ⟨w3.heap.size, 0, none⟩ = some (.int .i64 er) := by rw [hw4, World.cell?_alloc_at _ _ _ _ (by simp)]; rfl
  have hlt4 : w3.heap.size < w4.heap.size := by rw [hw4]; simp
  rw [← hw4]
  have HB4 := hide (HB3.out.trans (hb4'.mono HB3.out.size))
  have hp3 : 0 < w3.heap.size := Nat.lt_of_lt_of_le hpos HB3.out.size
  have HT4 := hide (HT3.out.below hb4' hp3)
  have HPV4 := hide (HPV3.out.below hb4')
  have HG4 := hide (HG3.out.keep hb4')
  obtain ⟨M1, hM1⟩ : ∃ M1, M1 = w3.heap.size := ⟨_, rfl⟩
  rw [← hM1] at e0 hlt4 ⊢
  have HE0 := hide e0
  have HLT4 := hide hlt4
  have hp4 : 0 < w4.heap.size := by omega
  clear hw4 hb4' HB3 HT3 HPV3 HG3 e0 hlt4 hM1 hp3
  have HPV5 := hide (HPV4.out.below ((Below.refl _ w4).alloc (Nat.le_refl _) (.cells #[.int .i64 94] 3)))
  go_wp2_with (at_builtin; refine append_int _ rfl _ _ rfl w4.heap.size _ 1 [.int .i64 94] rfl (own_lit w4) _ l2 rfl HPV5.out (by have := HL2.out; omega) (by simp) ?_)
  intro v5 w5 hown5 hb5'
  have hb5 := ((Below.refl _ w4).alloc (Nat.le_refl _) (.cells #[.int .i64 94] 3)).trans hb5'
  have HPW : Hid (PatV w5 v5 (94 :: l2)) := own_patV (l := 94 :: l2) hown5 (by simp; omega)
  have HT5 := hide (HT4.out.below hb5 hp4)
  have HB5 := hide (HB4.out.trans (hb5.mono HB4.out.size))
  have HG5 := hide (HG4.out.keep hb5)
  have HPV6 := hide (HPV4.out.below hb5)
  have HE5 := hide (below_cell hb5 HLT4.out HE0.out)
  have hlt5 : M1 < w5.heap.size := Nat.lt_of_lt_of_le HLT4.out hb5.size
  have hp5 : 0 < w5.heap.size := by omega
  obtain ⟨vo5, vc5, hv5⟩ := own_shape hown5
  rw [hv5] at HPW ⊢
  have HP2 := hide (parse_gen d 0 _ (94 :: l2) fo w5 HPW.out HT5.out hp5)
  clear hown5 hb5' hb5 hv5 HT4 HB4 HG4 HPV4 HE0 HLT4 HPV5
  go_wp2_with fail
  refine HP2.out.mono ?_
  rintro e w6 ⟨so2, ln2, sc2, k2, er2, at2, rfl, hb6', hg6⟩
  have HB6 := hide (HB5.out.trans (hb6'.mono HB5.out.size))
  have HG6a := hide (HG5.out.keep hb6')
  have HG6b := hide hg6
  have HPV7 := hide (HPV6.out.below hb6')
  have HE6 := hide (below_cell hb6' hlt5 HE5.out)
  have hlt6 : M1 < w6.heap.size := Nat.lt_of_lt_of_le hlt5 hb6'.size
  clear hb6' hg6 HP2 HT5 HB5 HG5 HPV6 HE5 hlt5
  go_upto_region 7 with fail
  obtain ⟨w7, hw7⟩ : ∃ w7, w7 = w6.alloc (.cells #[.int .i64 er2, .int .i64 at2] 27) := ⟨_, rfl⟩
  have hb7' : Below w6.heap.size w6 w7 := by rw [hw7]; exact (Below.refl _ w6).alloc (Nat.le_refl _) _
  have f2 : w7.cell? ⟨w6.heap.size, 0, none⟩ = some (.int .i64 er2) := by rw [hw7, World.cell?_alloc_at _ _ _ _ (by simp)]; rfl
  have f1 : w7.cell? ⟨M1, 0, none⟩ = some (.int .i64 er) := below_cell hb7' hlt6 HE6.out
  rw [← hw7]
  have HB7 := hide (HB6.out.trans (hb7'.mono HB6.out.size))
  have HG7a := hide (HG6a.out.keep hb7')
  have HG7b := hide (HG6b.out.keep hb7')
  have HPV8 := hide (HPV7.out.below hb7')
  obtain ⟨M2, hM2⟩ : ∃ M2, M2 = w6.heap.size := ⟨_, rfl⟩
  rw [← hM2] at f2 ⊢
  clear hw7 hb7' HB6 HG6a HG6b HPV7 HE6 hlt6 hM2 HT2 HPV HB2
  by_cases h1 : er = 0
  case neg =>
    have q1 : (er != 0) = true := by simpa using h1
    clear h1
    go_wp2
    go_ret
    exact ⟨rfl, HB7.out⟩
  by_cases h2 : er2 = 0
  case neg =>
    have q1 : (er != 0) = false := by simp [h1]
    have q2 : (er2 != 0) = true := by simpa using h2
    clear h1 h2
    go_wp2
    go_ret
    exact ⟨rfl, HB7.out⟩
  obtain ⟨f, L, hR1, hr1, hs1, hl1, hk1⟩ : ∃ f L, parseM d fo l2 0 = .ok (f, k) ∧ Reads w7 (.slice so ln sc) L ∧ IsSet f L ∧ L.length ≤ 400 ∧ k ≤ l2.length := by
    rcases HG7a.out with h | ⟨_, h⟩
    · exact absurd h1 h
    · exact h
  obtain ⟨g, M, hR2, hr2, hs2, hl2, hk2⟩ : ∃ f L, parseM d fo (94 :: l2) 0 = .ok (f, k2) ∧ Reads w7 (.slice so2 ln2 sc2) L ∧ IsSet f L ∧ L.length ≤ 400 ∧ k2 ≤ (94 :: l2).length := by
    rcases HG7b.out with h | ⟨_, h⟩
    · exact absurd h2 h
    · exact h
  have q1 : (er != 0) = false := by simp [h1]
  have q2 : (er2 != 0) = false := by simp [h2]
  have hlen : l2.length < 300 := by have := (parse_expr hR2).2; simp at this; omega
  have hm3 : m < 300 := by rw [HM2.out]; exact hlen
  have q3 : decide ((300 : Int) ≤ (m : Int)) = false := by simp; omega
  have HR1 := hide hR1
  have HR2 := hide hR2
  have HRd1 := hide hr1
  have HRd2 := hide hr2
  have HS1 := hide hs1
  have HS2 := hide hs2
  have HL1 := hide hl1
  have HL2' := hide hl2
  have HK1 := hide hk1
  clear h1 h2 hR1 hR2 hr1 hr2 hs1 hs2 hl1 hl2 hk1 hk2 HG7a HG7b hlen
  by_cases hm0 : m = 0
  · have t0 : ¬ (0 : Int) < (m : Int) := by omega
    have HA : Hid (isAt l2 0 [94] = false) := by
      show _ = _
      rw [at_zero, List.getElem?_eq_none (by have := HM2.out; omega)]
      rfl
    clear hm0
    obtain ⟨hk2, hg, hll⟩ := turned HA.out HR1.out HR2.out
    have hkb : k ≤ 300 := by have := HK1.out; have := HM2.out; omega
    clear hll
    have HH1 := hide (has_set _ p w7 HRd1.out HS1.out HL1.out)
    obtain ⟨x, hx⟩ : ∃ x, x = (if 0 ≤ p ∧ p ≤ 1114111 then f p else false) := ⟨_, rfl⟩
    obtain ⟨ee, hee⟩ : ∃ ee : Int, ee = (if 0 ≤ p ∧ p ≤ 1114111 then 0 else 3) := ⟨_, rfl⟩
    have HH2 := hide (fun w8 (hb : Below w7.heap.size w7 w8) => has_set _ p w8 (HRd2.out.below hb) HS2.out HL2'.out)
    obtain ⟨y, hy⟩ : ∃ y, y = (if 0 ≤ p ∧ p ≤ 1114111 then g p else false) := ⟨_, rfl⟩
    rw [← hx, ← hee] at HH1
    rw [← hy, ← hee] at HH2
    have hxy : (ee ≠ 0) ∨ (ee = 0 ∧ (x != y) = true) := by
      by_cases hp : 0 ≤ p ∧ p ≤ 1114111
      · right
        rw [if_pos hp] at hee hx hy
        refine ⟨hee, ?_⟩
        rw [hx, hy, hg]
        show (f p != !f p) = true
        cases f p <;> rfl
      · left
        rw [if_neg hp] at hee
        rw [hee]; decide
    subst hk2
    clear hg hx hy hee HR1 HR2 HRd1 HRd2 HS1 HS2 HL1 HL2' HK1
    go_wp2_with fail
    refine HH1.out.mono ?_
    rintro e w8 ⟨rfl, hb8⟩
    have HB8 := hide (HB7.out.trans (hb8.mono HB7.out.size))
    have HH3 := hide (HH2.out w8 hb8)
    clear hb8 HH1 HH2
    go_wp2_with fail
    refine HH3.out.mono ?_
    rintro e w9 ⟨rfl, hb9⟩
    have HB9 := hide (HB8.out.trans (hb9.mono HB8.out.size))
    clear hb9 HH3
    rcases hxy with hne | ⟨h0, hxy⟩
    · have r2 : (ee != 0) = true := by simpa using hne
      clear hne
      go_wp2
      go_ret
      exact ⟨rfl, HB9.out⟩
    · subst h0
      cases x <;> cases y <;> first | (cases hxy; done) | skip
      all_goals
        clear hxy
        go_wp2
        go_ret
        exact ⟨rfl, HB9.out⟩
  · have t0 : (0 : Int) < (m : Int) := by omega
    have hlm : 0 < l2.length := by have := HM2.out; omega
    obtain ⟨l0, hl0⟩ : ∃ l0, l0 = l2[0] := ⟨_, rfl⟩
    have cc0 : w7.cell? ⟨x.block, x.off + 1, none⟩ = some (.int .i64 l0) := by
      obtain ⟨y, c', e', _, hr⟩ := HPV8.out.some hlm
      cases e'
      have := hr 0 hlm
      rw [show (⟨x.block, x.off + 1, none⟩ : Addr).add 0 = ⟨x.block, x.off + 1, none⟩ from rfl] at this
      rw [this, hl0]
    have HLz : Hid (l2[0]? = some l0) := by show _ = _; rw [List.getElem?_eq_getElem hlm, hl0]
    clear hl0 hlm hm0
    by_cases h94 : l0 = 94
    · have q0 : (l0 == 94) = true := by simpa using h94
      clear h94 HLz HR1 HR2 HRd1 HRd2 HS1 HS2 HL1 HL2' HK1
      go_wp2
      go_ret
      exact ⟨rfl, HB7.out⟩
    · have q0 : (l0 == 94) = false := by simpa using h94
      have HA : Hid (isAt l2 0 [94] = false) := by show _ = _; rw [at_zero, HLz.out]; simpa using h94
      clear h94 HLz
      obtain ⟨hk2, hg, hll⟩ := turned HA.out HR1.out HR2.out
      have hkb : k ≤ 300 := by have := HK1.out; have := HM2.out; omega
      clear hll
      have HH1 := hide (has_set _ p w7 HRd1.out HS1.out HL1.out)
      obtain ⟨x, hx⟩ : ∃ x, x = (if 0 ≤ p ∧ p ≤ 1114111 then f p else false) := ⟨_, rfl⟩
      obtain ⟨ee, hee⟩ : ∃ ee : Int, ee = (if 0 ≤ p ∧ p ≤ 1114111 then 0 else 3) := ⟨_, rfl⟩
      have HH2 := hide (fun w8 (hb : Below w7.heap.size w7 w8) => has_set _ p w8 (HRd2.out.below hb) HS2.out HL2'.out)
      obtain ⟨y, hy⟩ : ∃ y, y = (if 0 ≤ p ∧ p ≤ 1114111 then g p else false) := ⟨_, rfl⟩
      rw [← hx, ← hee] at HH1
      rw [← hy, ← hee] at HH2
      have hxy : (ee ≠ 0) ∨ (ee = 0 ∧ (x != y) = true) := by
        by_cases hp : 0 ≤ p ∧ p ≤ 1114111
        · right
          rw [if_pos hp] at hee hx hy
          refine ⟨hee, ?_⟩
          rw [hx, hy, hg]
          show (f p != !f p) = true
          cases f p <;> rfl
        · left
          rw [if_neg hp] at hee
          rw [hee]; decide
      subst hk2
      clear hg hx hy hee HR1 HR2 HRd1 HRd2 HS1 HS2 HL1 HL2' HK1
      go_wp2_with fail
      refine HH1.out.mono ?_
      rintro e w8 ⟨rfl, hb8⟩
      have HB8 := hide (HB7.out.trans (hb8.mono HB7.out.size))
      have HH3 := hide (HH2.out w8 hb8)
      clear hb8 HH1 HH2
      go_wp2_with fail
      refine HH3.out.mono ?_
      rintro e w9 ⟨rfl, hb9⟩
      have HB9 := hide (HB8.out.trans (hb9.mono HB8.out.size))
      clear hb9 HH3
      rcases hxy with hne | ⟨h0, hxy⟩
      · have r2 : (ee != 0) = true := by simpa using hne
        clear hne
        go_wp2
        go_ret
        exact ⟨rfl, HB9.out⟩
      · subst h0
        cases x <;> cases y <;> first | (cases hxy; done) | skip
        all_goals
          clear hxy
          go_wp2
          go_ret
          exact ⟨rfl, HB9.out⟩
end Go.Proofs.YtpggffmfeahhaaaGreatDoor.Br
/- The walk of BracketTurns: what begins so, with no room. -/
namespace Go.Proofs.YtpggffmfeahhaaaGreatDoor.Br
open Go.RowKit
open TK (Mv PatV ReadsI byteA add_block peel)
set_option linter.unusedVariables false
set_option maxRecDepth 100000

set_option maxHeartbeats 16000000 in
theorem turns_beg1 (d p : Int) (fo : Bool) (v : Value) (l : List Int) (w : World) (hT : Fo.Tab w) (hpos : 0 < w.heap.size) (h : PatV w v l) (hl : l.length ≤ 2000000) (x : Addr) (c : Nat) (hv : v = .slice (some x) l.length c) (l2 : List Int) (hl0 : l = 94 :: l2) (hc1 : c = 1) : Calls Tryz.prog 3 #[.int .i64 d, v, .bool fo, .int .i64 p] w fun e w' => e = .returned (.bool true) ∧ Below w.heap.size w w' := by
  have HT := hide hT
  have HH := hide h
  have HBg := hide (bbegun_any w hT hpos)
  have hc0 : Hid (∀ W, PatV W v l → W.cell? x = some (.int .i64 94)) := by
    intro W hW
    obtain ⟨y, c', e', _, hr⟩ := hW.some (by rw [hl0]; simp)
    rw [hv] at e'
    cases e'
    have := hr 0 (by rw [hl0]; simp)
    rw [show x.add 0 = x by unfold Addr.add; split <;> simp_all] at this
    simpa [hl0] using this
  have hcap : l.length ≤ c := by
    obtain ⟨y, c', e', hcc, _⟩ := h.some (by rw [hl0]; simp)
    rw [hv] at e'
    cases e'
    exact hcc
  have HPd : Hid (∀ W, PatV W v l → PatV W (.slice (some x) l2.length 0) l2) := by
    intro W hW
    obtain ⟨y, c', e', hcc, hr⟩ := hW.some (by rw [hl0]; simp)
    rw [hv] at e'
    cases e'
    refine .inr ⟨_, _, rfl, by rw [hl0] at hcap; simp at hcap; omega, fun j hj => ?_⟩
    rw [hl0] at hcap
    simp at hcap
    omega
  have HL2 : Hid (l2.length ≤ 2000000) := by show _ ≤ _; rw [hl0] at hl; simp at hl; omega
  obtain ⟨n, hn⟩ : ∃ n, n = l.length := ⟨_, rfl⟩
  obtain ⟨m, hm⟩ : ∃ m, m = l2.length := ⟨_, rfl⟩
  have HM2 := hide hm
  have hnm : n = m + 1 := by rw [hn, hl0, hm]; simp
  rw [← hn] at hv hcap
  rw [hnm] at hv hcap
  rw [hv] at HH hc0 HPd ⊢
  rw [← hm] at HPd
  clear h hT hv hl hl0 hn hnm hm
  go_enter Tryz.func3, Tryz.ntmps3
  go_wp2_with fail
  refine HBg.out.mono ?_
  rintro e w1 ⟨rfl, hb1⟩
  have HB1 := hide hb1
  clear hb1 HBg
  go_wp2_with fail
  refine (begun_any w1).mono ?_
  rintro e w2 ⟨rfl, hb2'⟩
  have HB2 := hide (HB1.out.trans (hb2'.mono HB1.out.size))
  have HT2 := hide (HT.out.below HB2.out hpos)
  have hp2 : 0 < w2.heap.size := Nat.lt_of_lt_of_le hpos HB2.out.size
  have HPVl := hide (HH.out.below HB2.out)
  clear hb2' HB1 HT
  have cc0 := hc0.out w2 HPVl.out
  have HPV := hide (HPd.out w2 HPVl.out)
  have t1 : (0 : Int) < ((m + 1 : Nat) : Int) := by omega
  go_upto_region 5 with fail
  clear cc0 hc0 HPVl HH t1 HPd
  have hm0 : m = 0 := by omega
  have HM0 := hide hm0
  clear hm0 hcap hc1
  have HP1 := hide (parse_gen d 0 _ l2 fo w2 HPV.out HT2.out hp2)
  go_wp2_with fail
  refine HP1.out.mono ?_
  rintro e w3 ⟨so, ln, sc, k, er, at1, rfl, hb3', hg3⟩
  have hb3 := HB2.out.trans (hb3'.mono HB2.out.size)
  have HB3 := hide hb3
  have HT3 := hide (HT2.out.below hb3' hp2)
  have HPV3 := hide (HPV.out.below hb3')
  have HG3 := hide hg3
  clear hb3' hb3 hg3 HP1
  go_upto_region 6 with fail
  obtain ⟨w4, hw4⟩ : ∃ w4, w4 = w3.alloc (.cells #[.int .i64 er, .int .i64 at1] 27) := ⟨_, rfl⟩
  have hb4' : Below w3.heap.size w3 w4 := by rw [hw4]; exact (Below.refl _ w3).alloc (Nat.le_refl _) _
  have e0 : w4.cell? ⟨w3.heap.size, 0, none⟩ = some (.int .i64 er) := by rw [hw4, World.cell?_alloc_at _ _ _ _ (by simp)]; rfl
  have hlt4 : w3.heap.size < w4.heap.size := by rw [hw4]; simp
  rw [← hw4]
  have HB4 := hide (HB3.out.trans (hb4'.mono HB3.out.size))
  have hp3 : 0 < w3.heap.size := Nat.lt_of_lt_of_le hpos HB3.out.size
  have HT4 := hide (HT3.out.below hb4' hp3)
  have HPV4 := hide (HPV3.out.below hb4')
  have HG4 := hide (HG3.out.keep hb4')
  obtain ⟨M1, hM1⟩ : ∃ M1, M1 = w3.heap.size := ⟨_, rfl⟩
  rw [← hM1] at e0 hlt4 ⊢
  have HE0 := hide e0
  have HLT4 := hide hlt4
  have hp4 : 0 < w4.heap.size := by omega
  clear hw4 hb4' HB3 HT3 HPV3 HG3 e0 hlt4 hM1 hp3
  have HPV5 := hide (HPV4.out.below ((Below.refl _ w4).alloc (Nat.le_refl _) (.cells #[.int .i64 94] 3)))
  go_wp2_with (at_builtin; refine append_int _ rfl _ _ rfl w4.heap.size _ 1 [.int .i64 94] rfl (own_lit w4) _ l2 rfl HPV5.out (by have := HL2.out; omega) (by simp) ?_)
  intro v5 w5 hown5 hb5'
  have hb5 := ((Below.refl _ w4).alloc (Nat.le_refl _) (.cells #[.int .i64 94] 3)).trans hb5'
  have HPW : Hid (PatV w5 v5 (94 :: l2)) := own_patV (l := 94 :: l2) hown5 (by simp; omega)
  have HT5 := hide (HT4.out.below hb5 hp4)
  have HB5 := hide (HB4.out.trans (hb5.mono HB4.out.size))
  have HG5 := hide (HG4.out.keep hb5)
  have HPV6 := hide (HPV4.out.below hb5)
  have HE5 := hide (below_cell hb5 HLT4.out HE0.out)
  have hlt5 : M1 < w5.heap.size := Nat.lt_of_lt_of_le HLT4.out hb5.size
  have hp5 : 0 < w5.heap.size := by omega
  obtain ⟨vo5, vc5, hv5⟩ := own_shape hown5
  rw [hv5] at HPW ⊢
  have HP2 := hide (parse_gen d 0 _ (94 :: l2) fo w5 HPW.out HT5.out hp5)
  clear hown5 hb5' hb5 hv5 HT4 HB4 HG4 HPV4 HE0 HLT4 HPV5
  go_wp2_with fail
  refine HP2.out.mono ?_
  rintro e w6 ⟨so2, ln2, sc2, k2, er2, at2, rfl, hb6', hg6⟩
  have HB6 := hide (HB5.out.trans (hb6'.mono HB5.out.size))
  have HG6a := hide (HG5.out.keep hb6')
  have HG6b := hide hg6
  have HPV7 := hide (HPV6.out.below hb6')
  have HE6 := hide (below_cell hb6' hlt5 HE5.out)
  have hlt6 : M1 < w6.heap.size := Nat.lt_of_lt_of_le hlt5 hb6'.size
  clear hb6' hg6 HP2 HT5 HB5 HG5 HPV6 HE5 hlt5
  go_upto_region 7 with fail
  obtain ⟨w7, hw7⟩ : ∃ w7, w7 = w6.alloc (.cells #[.int .i64 er2, .int .i64 at2] 27) := ⟨_, rfl⟩
  have hb7' : Below w6.heap.size w6 w7 := by rw [hw7]; exact (Below.refl _ w6).alloc (Nat.le_refl _) _
  have f2 : w7.cell? ⟨w6.heap.size, 0, none⟩ = some (.int .i64 er2) := by rw [hw7, World.cell?_alloc_at _ _ _ _ (by simp)]; rfl
  have f1 : w7.cell? ⟨M1, 0, none⟩ = some (.int .i64 er) := below_cell hb7' hlt6 HE6.out
  rw [← hw7]
  have HB7 := hide (HB6.out.trans (hb7'.mono HB6.out.size))
  have HG7a := hide (HG6a.out.keep hb7')
  have HG7b := hide (HG6b.out.keep hb7')
  have HPV8 := hide (HPV7.out.below hb7')
  obtain ⟨M2, hM2⟩ : ∃ M2, M2 = w6.heap.size := ⟨_, rfl⟩
  rw [← hM2] at f2 ⊢
  clear hw7 hb7' HB6 HG6a HG6b HPV7 HE6 hlt6 hM2 HT2 HPV HB2
  by_cases h1 : er = 0
  case neg =>
    have q1 : (er != 0) = true := by simpa using h1
    clear h1
    go_wp2
    go_ret
    exact ⟨rfl, HB7.out⟩
  by_cases h2 : er2 = 0
  case neg =>
    have q1 : (er != 0) = false := by simp [h1]
    have q2 : (er2 != 0) = true := by simpa using h2
    clear h1 h2
    go_wp2
    go_ret
    exact ⟨rfl, HB7.out⟩
  obtain ⟨f, L, hR1, hr1, hs1, hl1, hk1⟩ : ∃ f L, parseM d fo l2 0 = .ok (f, k) ∧ Reads w7 (.slice so ln sc) L ∧ IsSet f L ∧ L.length ≤ 400 ∧ k ≤ l2.length := by
    rcases HG7a.out with h | ⟨_, h⟩
    · exact absurd h1 h
    · exact h
  obtain ⟨g, M, hR2, hr2, hs2, hl2, hk2⟩ : ∃ f L, parseM d fo (94 :: l2) 0 = .ok (f, k2) ∧ Reads w7 (.slice so2 ln2 sc2) L ∧ IsSet f L ∧ L.length ≤ 400 ∧ k2 ≤ (94 :: l2).length := by
    rcases HG7b.out with h | ⟨_, h⟩
    · exact absurd h2 h
    · exact h
  have q1 : (er != 0) = false := by simp [h1]
  have q2 : (er2 != 0) = false := by simp [h2]
  have hlen : l2.length < 300 := by have := (parse_expr hR2).2; simp at this; omega
  have hm3 : m < 300 := by rw [HM2.out]; exact hlen
  have q3 : decide ((300 : Int) ≤ (m : Int)) = false := by simp; omega
  have HR1 := hide hR1
  have HR2 := hide hR2
  have HRd1 := hide hr1
  have HRd2 := hide hr2
  have HS1 := hide hs1
  have HS2 := hide hs2
  have HL1 := hide hl1
  have HL2' := hide hl2
  have HK1 := hide hk1
  clear h1 h2 hR1 hR2 hr1 hr2 hs1 hs2 hl1 hl2 hk1 hk2 HG7a HG7b hlen
  have t0 : ¬ (0 : Int) < (m : Int) := by have := HM0.out; omega
  have HA : Hid (isAt l2 0 [94] = false) := by
    show _ = _
    rw [at_zero, List.getElem?_eq_none (by have := HM0.out; have := HM2.out; omega)]
    rfl
  obtain ⟨hk2, hg, hll⟩ := turned HA.out HR1.out HR2.out
  have hkb : k ≤ 300 := by have := HK1.out; have := HM2.out; omega
  clear hll
  have HH1 := hide (has_set _ p w7 HRd1.out HS1.out HL1.out)
  obtain ⟨x, hx⟩ : ∃ x, x = (if 0 ≤ p ∧ p ≤ 1114111 then f p else false) := ⟨_, rfl⟩
  obtain ⟨ee, hee⟩ : ∃ ee : Int, ee = (if 0 ≤ p ∧ p ≤ 1114111 then 0 else 3) := ⟨_, rfl⟩
  have HH2 := hide (fun w8 (hb : Below w7.heap.size w7 w8) => has_set _ p w8 (HRd2.out.below hb) HS2.out HL2'.out)
  obtain ⟨y, hy⟩ : ∃ y, y = (if 0 ≤ p ∧ p ≤ 1114111 then g p else false) := ⟨_, rfl⟩
  rw [← hx, ← hee] at HH1
  rw [← hy, ← hee] at HH2
  have hxy : (ee ≠ 0) ∨ (ee = 0 ∧ (x != y) = true) := by
    by_cases hp : 0 ≤ p ∧ p ≤ 1114111
    · right
      rw [if_pos hp] at hee hx hy
      refine ⟨hee, ?_⟩
      rw [hx, hy, hg]
      show (f p != !f p) = true
      cases f p <;> rfl
    · left
      rw [if_neg hp] at hee
      rw [hee]; decide
  subst hk2
  clear hg hx hy hee HR1 HR2 HRd1 HRd2 HS1 HS2 HL1 HL2' HK1
  go_wp2_with fail
  refine HH1.out.mono ?_
  rintro e w8 ⟨rfl, hb8⟩
  have HB8 := hide (HB7.out.trans (hb8.mono HB7.out.size))
  have HH3 := hide (HH2.out w8 hb8)
  clear hb8 HH1 HH2
  go_wp2_with fail
  refine HH3.out.mono ?_
  rintro e w9 ⟨rfl, hb9⟩
  have HB9 := hide (HB8.out.trans (hb9.mono HB8.out.size))
  clear hb9 HH3
  rcases hxy with hne | ⟨h0, hxy⟩
  · have r2 : (ee != 0) = true := by simpa using hne
    clear hne
    go_wp2
    go_ret
    exact ⟨rfl, HB9.out⟩
  · subst h0
    cases x <;> cases y <;> first | (cases hxy; done) | skip
    all_goals
      clear hxy
      go_wp2
      go_ret
      exact ⟨rfl, HB9.out⟩
end Go.Proofs.YtpggffmfeahhaaaGreatDoor.Br
