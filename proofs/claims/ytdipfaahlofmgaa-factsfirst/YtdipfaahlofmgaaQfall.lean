/- What union, anyPoint and mayTakeNone answer. -/
import Derived.Test.YtdipfaahlofmgaaSFall
import Derived.Test.YtdipfaahlofmgaaNfacts

namespace Go.Proofs.Ytdipfaahlofmgaa
open Go.RowKit
set_option linter.unusedVariables false

theorem reads_shape {w : World} {v : Value} {L : RL} (h : Reads w v L) : ∃ ao c, v = .slice ao L.length c := by
  rcases h with ⟨rfl, rfl⟩ | ⟨x, c, rfl, _⟩
  · exact ⟨_, _, rfl⟩
  · exact ⟨_, _, rfl⟩
/-- a set that was made: it is right, and has nothing where nothing can be taken. -/
def SetE (P : RL → Prop) (w : World) (e : Ending) (w' : World) : Prop := ∃ v L, e = .returned v ∧ Reads w' v L ∧ checkE L = 0 ∧ P L ∧ Below w.heap.size w w'
theorem anyPoint_any (w : World) : Calls Try.prog 42 #[] w (SetE (fun _ => True) w) := by
  have hb : Below w.heap.size w (w.alloc (.cells #[.int .i64 0, .int .i64 1114111] 51)) := (Below.refl _ w).alloc (Nat.le_refl _) _
  have hr : Reads (w.alloc (.cells #[.int .i64 0, .int .i64 1114111] 51)) (.slice (some ⟨w.heap.size, 0, none⟩) 1 1) [(0, 1114111)] := by
    have hb : (w.alloc (.cells #[.int .i64 0, .int .i64 1114111] 51)).heap[w.heap.size]? = some (.cells #[.int .i64 0, .int .i64 1114111] 51) := at_new _ _
    obtain ⟨W, hW⟩ : ∃ W, W = w.alloc (.cells #[.int .i64 0, .int .i64 1114111] 51) := ⟨_, rfl⟩
    rw [← hW] at hb ⊢
    refine .inr ⟨⟨w.heap.size, 0, none⟩, 1, rfl, fun j hj => ?_⟩
    have : j = 0 := by simpa using hj
    subst this
    simp [World.cell?, hb, Addr.add]
  have HB := hide hb
  have HR := hide hr
  clear hb hr
  go_enter Try.func42, Try.ntmps42
  go_wp2
  go_ret
  exact ⟨_, _, rfl, HR.out, by decide, trivial, HB.out⟩
set_option maxHeartbeats 1000000 in
theorem unionF_any (va vb : Value) (A B : RL) (w : World) (hA : Reads w va A) (hB : Reads w vb B) (cA : checkE A = 0) (cB : checkE B = 0) : Calls Try.prog 56 #[va, vb] w (SetE (fun L => A = [] → B = [] → L = []) w) := by
  have HU := hide (SS.union_any va vb A B w hA hB)
  rw [show SS.chk2 A B = 0 by unfold SS.chk2; rw [if_pos cA]; exact cB] at HU
  obtain ⟨aa, ac, ha⟩ := reads_shape hA
  obtain ⟨ba, bc, hb⟩ := reads_shape hB
  have HP := hide (fun W => anyPoint_any W)
  have HN : Hid (∀ L, IsSet (fun q => ins A q || ins B q) L → A = [] → B = [] → L = []) := fun L h h1 h2 => by
    subst h1 h2
    exact isSet_one h ⟨canon_nil, fun q => by simp [ins]⟩
  subst ha hb
  obtain ⟨la, hla⟩ : ∃ la, la = A.length := ⟨_, rfl⟩
  obtain ⟨lb, hlb⟩ : ∃ lb, lb = B.length := ⟨_, rfl⟩
  rw [← hla, ← hlb] at HU ⊢
  clear hA hB cA cB hla hlb
  go_enter Try.func56, Try.ntmps56
  go_wp2_with fail
  refine HU.out.mono ?_
  rintro e w2 ⟨v', err, O, rfl, hr, hm, hb2⟩
  obtain ⟨oa, oc, ho⟩ := reads_shape hr
  rw [ho] at hr ⊢
  have HR := hide hr
  have HB2 := hide hb2
  obtain ⟨lo, hlo⟩ : ∃ lo, lo = O.length := ⟨_, rfl⟩
  rw [← hlo] at HR ⊢
  clear hr hb2 ho hlo HU
  rcases hm with ⟨h0, _, _⟩ | ⟨_, S, hS, ⟨hl, rfl, hO⟩ | ⟨hl, rfl, hO⟩⟩
  · exact absurd rfl h0
  · have HE : Hid (checkE O = 0) := by show _ = _; rw [hO]; exact checkE_ok.2 ⟨hl, hS.1⟩
    have HN2 := hide (HN.out S hS)
    rw [← hO] at HN2
    clear hS hl hO
    go_wp2
    go_ret
    exact ⟨_, O, rfl, HR.out, HE.out, HN2.out, HB2.out⟩
  · have HN2 : Hid (A = [] → B = [] → ∀ L : RL, L = []) := fun h1 h2 => by
      have := HN.out S hS h1 h2
      subst this
      simp at hl
    clear hS hl hO
    go_wp2_with fail
    refine (HP.out w2).mono ?_
    rintro e w3 ⟨v, L, rfl, hr3, hc3, _, hb3⟩
    obtain ⟨oa, oc, ho⟩ := reads_shape hr3
    rw [ho] at hr3 ⊢
    have HR3 := hide hr3
    have HB3 := hide (HB2.out.trans (hb3.mono HB2.out.size))
    have HC3 := hide hc3
    obtain ⟨lo, hlo⟩ : ∃ lo, lo = L.length := ⟨_, rfl⟩
    rw [← hlo] at HR3 ⊢
    clear hr3 hb3 ho hlo hc3
    go_wp2
    go_ret
    exact ⟨_, L, rfl, HR3.out, HC3.out, fun h1 h2 => HN2.out h1 h2 L, HB3.out⟩
set_option maxRecDepth 100000 in
set_option maxHeartbeats 1000000 in
theorem mayNone_any {w0 : World} {n : NV} {t : Tr} (h : NodeC w0 n t) (hg : good t) (w : World) (hw0 : Below w0.heap.size w0 w) : Calls Try.prog 28 #[nvV n] w fun e w' => e = .returned (.bool (decide ((factT t).least = 0))) ∧ Below w.heap.size w w' := by
  have hb1 : Below w.heap.size w (w.alloc (nvO n)) := (Below.refl _ w).alloc (Nat.le_refl _) _
  obtain ⟨w1, hw1⟩ : ∃ w1, w1 = w.alloc (nvO n) := ⟨_, rfl⟩
  have hX1 : w1.heap[w.heap.size]? = some (nvO n) := by rw [hw1]; exact at_new _ _
  rw [← hw1] at hb1
  have HC := hide (facts_any h hg w1 (hw0.trans (hb1.mono hw0.size)))
  have HB1 := hide hb1
  obtain ⟨d0, d1, d2, d3, d4, d5, d6, d7⟩ := nv_cells hX1
  obtain ⟨F, hF⟩ : ∃ F, F = factT t := ⟨_, rfl⟩
  rw [← hF] at HC ⊢
  obtain ⟨fl, fm, fp⟩ := F
  simp only [nvO] at hw1
  simp only [ftV] at HC
  clear h hg hw0 hb1 hX1 hF
  go_enter Try.func28, Try.ntmps28
  go_wp2_with fail
  rw [← hw1]
  clear hw1
  refine HC.out.mono ?_
  rintro e w2 ⟨rfl, hb2⟩
  have HB2 := hide (HB1.out.trans (hb2.mono HB1.out.size))
  clear hb2 HC HB1 d0 d1 d2 d3 d4 d5 d6 d7
  have hfd : ∀ W, (Instr.field 27 (.agg #[.int .i64 fl, .int .i64 fm, .bool fp]) 0).run Try.prog W = .ok (.int .i64 fl) W := fun W => by first | rfl | kernel_rfl
  go_wp2
  go_ret
  exact ⟨rfl, HB2.out⟩

end Go.Proofs.Ytdipfaahlofmgaa

namespace Go.Proofs.Ytdipfaahlofmgaa
open Go.RowKit
set_option linter.unusedVariables false

set_option maxRecDepth 100000 in
set_option maxHeartbeats 4000000 in
theorem firstAny_any {w0 : World} {x : Addr} {m kc : Nat} {vs : Nat → NV} (hmk : m ≤ 9223372036854775807) (hcl : ∀ j, j < m → NCells w0 (x.add (j * 8)) (vs j)) (ms : Nat → Int)
    (ih : ∀ j, j < m → ∀ W : World, Below w0.heap.size w0 W → Calls Try.prog 27 #[nvV (vs j)] W (SetE (fun L => ms j = 0 → L = []) W)) (w : World) (hw0 : Below w0.heap.size w0 w) :
    Calls Try.prog 40 #[.slice (some x) m kc] w (SetE (fun L => (∀ j, j < m → ms j = 0) → L = []) w) := by
  have HIH := hide ih
  have HCL := hide hcl
  have HW0 := hide hw0
  clear ih hcl hw0
  go_enter Try.func40, Try.ntmps40
  go_wp2
  go_loopw [3, 8] (fun a c wr => ∃ (j : Nat) (L : RL), j ≤ m ∧ c = .int .i64 j ∧ Reads wr a L ∧ checkE L = 0 ∧ ((∀ i, i < j → ms i = 0) → L = []) ∧ Below w.heap.size w wr) (fun _ c _ => m - (intOf c).toNat)
  case atStart => exact ⟨0, [], Nat.zero_le _, rfl, reads_nil w, by decide, fun _ => rfl, Below.refl _ _⟩
  case round =>
    obtain ⟨j, L, hj, rfl, hr, hc, hn, hb⟩ := hrel
    obtain ⟨w2, hw2⟩ : ∃ w2, w2 = wr := ⟨_, rfl⟩
    subst hw2
    obtain ⟨oa, oc, rfl⟩ := reads_shape hr
    have HR := hide hr
    have HC := hide hc
    have HN := hide hn
    have HB := hide hb
    obtain ⟨ll, hll⟩ : ∃ ll, ll = L.length := ⟨_, rfl⟩
    rw [← hll] at HR ⊢
    have HLL := hide hll
    clear hr hc hn hb hll
    by_cases hlt : j < m
    · have hB0 : Below w0.heap.size w0 w2 := HW0.out.trans (HB.out.mono HW0.out.size)
      obtain ⟨c0, c1, c2, c3, c4, c5, c6, c7⟩ := (HCL.out j hlt).below hB0
      have HIj := hide (HIH.out j hlt)
      obtain ⟨k, hk⟩ : ∃ k, k = vs j := ⟨_, rfl⟩
      rw [← hk] at HIj c0 c1 c2 c3 c4 c5 c6 c7
      obtain ⟨w3, hw3⟩ : ∃ w3, w3 = w2.alloc (nvO k) := ⟨_, rfl⟩
      have hX3 : w3.heap[w2.heap.size]? = some (nvO k) := by rw [hw3]; exact at_new _ _
      have hb3 : Below w2.heap.size w2 w3 := by rw [hw3]; exact (Below.refl _ _).alloc (Nat.le_refl _) _
      have HR3 := hide (HR.out.below hb3)
      have HB3 := hide (HB.out.trans (hb3.mono HB.out.size))
      have HC3 := hide (HIj.out w3 (hB0.trans (hb3.mono hB0.size)))
      have e1 : (j : Int) < (m : Int) := by omega
      have e2 : (0 : Int) ≤ (j : Int) := by omega
      have e3 : IntKind.i64.wrap ((j : Int) + 1) = (j : Int) + 1 := by rw [IntKind.wrap_i64]; omega
      simp only [nvO] at hw3
      clear hb3 hB0 hk HIj HR HB
      go_upto_region 5 with fail
      rw [← hw3]
      obtain ⟨d0, d1, d2, d3, d4, d5, d6, d7⟩ := nv_cells hX3
      obtain ⟨bx, hbx⟩ : ∃ bx, bx = w2.heap.size := ⟨_, rfl⟩
      rw [← hbx] at d0 d1 d2 d3 d4 d5 d6 d7 ⊢
      clear hw3 hX3 hbx c0 c1 c2 c3 c4 c5 c6 c7
      go_wp2_with fail
      refine HC3.out.mono ?_
      rintro e w4 ⟨v, M, rfl, hr4, hc4, hn4, hb4⟩
      obtain ⟨va, vc, hv⟩ := reads_shape hr4
      have HU := hide (unionF_any _ _ L M w4 (HR3.out.below hb4) hr4 HC.out hc4)
      rw [hv] at HU ⊢
      obtain ⟨lm, hlm⟩ : ∃ lm, lm = M.length := ⟨_, rfl⟩
      rw [← hlm] at HU ⊢
      have HN4 := hide hn4
      have HB4 := hide (HB3.out.trans (hb4.mono HB3.out.size))
      clear hr4 hc4 hn4 hb4 hv hlm HC3 HR3 HB3 d0 d1 d2 d3 d4 d5 d6 d7
      go_wp2_with fail
      refine HU.out.mono ?_
      rintro e w5 ⟨v5, K, rfl, hr5, hc5, hn5, hb5⟩
      obtain ⟨a5, k5, hv5⟩ := reads_shape hr5
      rw [hv5] at hr5 ⊢
      have HR5 := hide hr5
      have HC5 := hide hc5
      have HB5 := hide (HB4.out.trans (hb5.mono HB4.out.size))
      have HN5 : Hid ((∀ i, i < j + 1 → ms i = 0) → K = []) := fun hh => hn5 (HN.out (fun i hi => hh i (by omega))) (HN4.out (hh j (by omega)))
      obtain ⟨lk, hlk⟩ : ∃ lk, lk = K.length := ⟨_, rfl⟩
      rw [← hlk] at HR5 ⊢
      clear hr5 hc5 hn5 hb5 hv5 hlk HU HB4 HN4
      go_wp2
      go_roundw
      case rel => exact ⟨j + 1, K, by omega, by go_num, HR5.out, HC5.out, HN5.out, HB5.out⟩
      case measure => simp [intOf]; omega
    · have e1 : ¬ (j : Int) < (m : Int) := by omega
      have hjm : j = m := by omega
      have HN2 : Hid ((∀ i, i < m → ms i = 0) → L = []) := by have := HN.out; rw [hjm] at this; exact this
      clear hjm
      go_wp2
      go_ret
      exact ⟨_, L, rfl, HR.out, HC.out, HN2.out, HB.out⟩

set_option maxRecDepth 100000 in
set_option maxHeartbeats 4000000 in
theorem firstRow_any {w0 : World} {x : Addr} {m kc : Nat} {vs : Nat → NV} {ks : List Tr} (hm : m = ks.length) (hmk : m ≤ kc ∧ kc ≤ 9223372036854775807) (hcl : ∀ j, j < m → NCells w0 (x.add (j * 8)) (vs j)) (ms : Nat → Int) (hnd : ∀ j (hj : j < ks.length), NodeC w0 (vs j) ks[j]) (hgd : ∀ j (hj : j < ks.length), good ks[j])
    (ih : ∀ j, j < m → ∀ W : World, Below w0.heap.size w0 W → Calls Try.prog 27 #[nvV (vs j)] W (SetE (fun L => ms j = 0 → L = []) W)) (w : World) (hw0 : Below w0.heap.size w0 w) :
    Calls Try.prog 39 #[.slice (some x) m kc] w (SetE (fun L => (∀ j, j < m → ms j = 0) → L = []) w) := by
  have HA := hide (fun k (hk : k ≤ m) W (hW : Below w0.heap.size w0 W) => firstAny_any (kc := kc) (m := k) (by omega) (fun j hj => hcl j (by omega)) ms (fun j hj => ih j (by omega)) W hW)
  have HM := hide (fun j (hj : j < ks.length) W (hW : Below w0.heap.size w0 W) => mayNone_any (hnd j hj) (hgd j hj) W hW)
  have HCL := hide hcl
  have HW0 := hide hw0
  have HMk := hide hm
  clear ih hcl hw0 hnd hgd hm
  go_enter Try.func39, Try.ntmps39
  go_wp2
  go_loopw [7] (fun c wr => ∃ (j : Nat), j ≤ m ∧ c = .int .i64 j ∧ Below w.heap.size w wr) (fun c _ => m - (intOf c).toNat)
  case atStart => exact ⟨0, Nat.zero_le _, rfl, Below.refl _ _⟩
  case round =>
    obtain ⟨j, hj, rfl, hb⟩ := hrel
    obtain ⟨w2, hw2⟩ : ∃ w2, w2 = wr := ⟨_, rfl⟩
    subst hw2
    have HB := hide hb
    clear hb
    by_cases hlt : j < m
    · have hB0 : Below w0.heap.size w0 w2 := HW0.out.trans (HB.out.mono HW0.out.size)
      obtain ⟨c0, c1, c2, c3, c4, c5, c6, c7⟩ := (HCL.out j hlt).below hB0
      have hjk : j < ks.length := by have := HMk.out; omega
      have HMj := hide (HM.out j hjk)
      obtain ⟨k, hk⟩ : ∃ k, k = vs j := ⟨_, rfl⟩
      obtain ⟨z, hz⟩ : ∃ z, z = decide ((factT ks[j]).least = 0) := ⟨_, rfl⟩
      rw [← hk, ← hz] at HMj
      rw [← hk] at c0 c1 c2 c3 c4 c5 c6 c7
      obtain ⟨w3, hw3⟩ : ∃ w3, w3 = w2.alloc (nvO k) := ⟨_, rfl⟩
      have hX3 : w3.heap[w2.heap.size]? = some (nvO k) := by rw [hw3]; exact at_new _ _
      have hb3 : Below w2.heap.size w2 w3 := by rw [hw3]; exact (Below.refl _ _).alloc (Nat.le_refl _) _
      have HB3 := hide (HB.out.trans (hb3.mono HB.out.size))
      have HC3 := hide (HMj.out w3 (hB0.trans (hb3.mono hB0.size)))
      have e1 : (j : Int) < (m : Int) := by omega
      have e2 : (0 : Int) ≤ (j : Int) := by omega
      have e3 : IntKind.i64.wrap ((j : Int) + 1) = (j : Int) + 1 := by rw [IntKind.wrap_i64]; omega
      simp only [nvO] at hw3
      clear hb3 hB0 hk hz HMj HB
      go_upto_region 4 with fail
      rw [← hw3]
      obtain ⟨d0, d1, d2, d3, d4, d5, d6, d7⟩ := nv_cells hX3
      obtain ⟨bx, hbx⟩ : ∃ bx, bx = w2.heap.size := ⟨_, rfl⟩
      rw [← hbx] at d0 d1 d2 d3 d4 d5 d6 d7 ⊢
      clear hw3 hX3 hbx c0 c1 c2 c3 c4 c5 c6 c7
      go_wp2_with fail
      refine HC3.out.mono ?_
      rintro e w4 ⟨rfl, hb4⟩
      have HB4 := hide (HB3.out.trans (hb4.mono HB3.out.size))
      clear hb4 HC3 HB3 d0 d1 d2 d3 d4 d5 d6 d7
      cases z with
      | true =>
        go_wp2
        go_roundw
        case rel => exact ⟨j + 1, by omega, by go_num, HB4.out⟩
        case measure => simp [intOf]; omega
      | false =>
        have e4 : (j : Int) + 1 ≤ (kc : Int) := by omega
        have e5 : (0 : Int) ≤ (j : Int) + 1 := by omega
        have HAj := hide (HA.out (j + 1) (by omega) w4 (HW0.out.trans (HB4.out.mono HW0.out.size)))
        go_wp2_with fail
        refine HAj.out.mono ?_
        rintro e w5 ⟨v5, K, rfl, hr5, hc5, hn5, hb5⟩
        obtain ⟨a5, k5, hv5⟩ := reads_shape hr5
        rw [hv5] at hr5 ⊢
        have HR5 := hide hr5
        have HC5 := hide hc5
        have HB5 := hide (HB4.out.trans (hb5.mono HB4.out.size))
        have HN5 : Hid ((∀ i, i < m → ms i = 0) → K = []) := fun hh => hn5 (fun i hi => hh i (by omega))
        obtain ⟨lk, hlk⟩ : ∃ lk, lk = K.length := ⟨_, rfl⟩
        rw [← hlk] at HR5 ⊢
        clear hr5 hc5 hn5 hb5 hv5 hlk HAj HB4
        go_wp2
        go_ret
        exact ⟨_, K, rfl, HR5.out, HC5.out, HN5.out, HB5.out⟩
    · have e1 : ¬ (j : Int) < (m : Int) := by omega
      have HAj := hide (HA.out m (Nat.le_refl _) w2 (HW0.out.trans (HB.out.mono HW0.out.size)))
      go_wp2_with fail
      refine HAj.out.mono ?_
      rintro e w5 ⟨v5, K, rfl, hr5, hc5, hn5, hb5⟩
      obtain ⟨a5, k5, hv5⟩ := reads_shape hr5
      rw [hv5] at hr5 ⊢
      have HR5 := hide hr5
      have HC5 := hide hc5
      have HB5 := hide (HB.out.trans (hb5.mono HB.out.size))
      have HN5 := hide hn5
      obtain ⟨lk, hlk⟩ : ∃ lk, lk = K.length := ⟨_, rfl⟩
      rw [← hlk] at HR5 ⊢
      clear hr5 hc5 hn5 hb5 hv5 hlk HAj HB
      go_wp2
      go_ret
      exact ⟨_, K, rfl, HR5.out, HC5.out, HN5.out, HB5.out⟩

end Go.Proofs.Ytdipfaahlofmgaa

namespace Go.Proofs.Ytdipfaahlofmgaa
open Go.RowKit
set_option linter.unusedVariables false

theorem good_set {t : Tr} (h : good t) : checkE t.set = 0 := by
  obtain ⟨s, s', h⟩ := h
  rw [chkT_kids] at h
  cases hn : nodeS t s with
  | error z => rw [hn] at h; cases h
  | ok s1 =>
    unfold nodeS at hn
    split at hn
    · cases hn
    · split at hn
      · cases hn
      · split at hn
        · cases hn
        · rename_i h3; simpa using h3
theorem foldl_most {op : FT → FT → FT} (hop : ∀ a b, okF a → okF b → okF (op a b)) (hz : ∀ a b, okF a → okF b → (op a b).most = 0 → a.most = 0 ∧ b.most = 0) : ∀ (l : List FT) (a : FT), okF a → (∀ f ∈ l, okF f) → (l.foldl op a).most = 0 → a.most = 0 ∧ ∀ f ∈ l, f.most = 0
  | [], a, ha, hl, h => ⟨h, by simp⟩
  | b :: l, a, ha, hl, h => by
    obtain ⟨h1, h2⟩ := foldl_most hop hz l (op a b) (hop a b ha (hl b (by simp))) (fun f hf => hl f (by simp [hf])) h
    obtain ⟨h3, h4⟩ := hz a b ha (hl b (by simp)) h1
    exact ⟨h3, fun f hf => by rcases List.mem_cons.1 hf with rfl | hf; exact h4; exact h2 f hf⟩
theorem add_most {a b : FT} (ha : okF a) (hb : okF b) (h : (addF a b).most = 0) : a.most = 0 ∧ b.most = 0 := by
  unfold okF at ha hb
  simp only [addF, addM, mostF] at h
  split at h
  · omega
  · split at h <;> omega
theorem or_most {a b : FT} (ha : okF a) (hb : okF b) (h : (orF a b).most = 0) : a.most = 0 ∧ b.most = 0 := by
  unfold okF at ha hb
  simp only [orF, maxM] at h
  split at h
  · omega
  · split at h <;> omega
theorem fold_most {op : FT → FT → FT} (hop : ∀ a b, okF a → okF b → okF (op a b)) (hz : ∀ a b, okF a → okF b → (op a b).most = 0 → a.most = 0 ∧ b.most = 0) {ks : List Tr} (hok : ∀ j (hj : j < ks.length), okF (factT ks[j])) (h : (foldF op (factL ks)).most = 0) : ∀ j (hj : j < ks.length), (factT ks[j]).most = 0 := by
  have hall : ∀ f ∈ factL ks, okF f := fun f hf => by
    obtain ⟨j, hj, rfl⟩ := List.getElem_of_mem hf
    rw [factL_len] at hj
    have h2 := factL_get ks j hj
    rw [List.getElem?_eq_getElem (by rw [factL_len]; exact hj)] at h2
    rw [Option.some.inj h2]
    exact hok j hj
  intro j hj
  have hm : factT ks[j] ∈ factL ks := List.mem_of_getElem? (factL_get ks j hj)
  cases hq : factL ks with
  | nil => rw [hq] at hm; cases hm
  | cons a l =>
    rw [hq] at h hm hall
    obtain ⟨h1, h2⟩ := foldl_most hop hz l a (hall a (by simp)) (fun f hf => hall f (by simp [hf])) h
    rcases List.mem_cons.1 hm with e | hm
    · rw [e]; exact h1
    · exact h2 _ hm
theorem rep_most {f : FT} {l m : Int} (hm : m ≠ 0) (h : (repF f l m).most = 0) : f.most = 0 := by
  simp only [repF, timM, mostF] at h
  split at h
  · omega
  · split at h
    · omega
    · rename_i h1 h2
      have : f.most * m ≠ 0 := Int.mul_ne_zero (by omega) (by omega)
      split at h <;> omega
set_option maxRecDepth 100000 in
set_option maxHeartbeats 4000000 in
theorem firstRep_any {w0 : World} (n m : NV) {x : Addr} (hka : n.ka = some x) (hkl : n.kl = 1) (hc0 : NCells w0 x m) (P : RL → Prop) (ih : ∀ W : World, Below w0.heap.size w0 W → Calls Try.prog 27 #[nvV m] W (SetE P W)) (w : World) (hw0 : Below w0.heap.size w0 w) :
    Calls Try.prog 41 #[nvV n] w (SetE (fun L => (n.most = 0 → L = []) ∧ (n.most ≠ 0 → P L)) w) := by
  have hb1 : Below w.heap.size w (w.alloc (nvO n)) := (Below.refl _ w).alloc (Nat.le_refl _) _
  obtain ⟨w1, hw1⟩ : ∃ w1, w1 = w.alloc (nvO n) := ⟨_, rfl⟩
  have hX1 : w1.heap[w.heap.size]? = some (nvO n) := by rw [hw1]; exact at_new _ _
  rw [← hw1] at hb1
  have hB0 := hw0.trans (hb1.mono hw0.size)
  have HC := hide (ih w1 hB0)
  obtain ⟨c0, c1, c2, c3, c4, c5, c6, c7⟩ := hc0.below hB0
  have HB1 := hide hb1
  obtain ⟨d0, d1, d2, d3, d4, d5, d6, d7⟩ := nv_cells hX1
  rw [hka, hkl] at d2
  simp only [nvO] at hw1
  clear ih hw0 hb1 hX1 hB0 hc0 hka hkl
  by_cases hz : n.most = 0
  · have y : (n.most == 0) = true := by simpa using hz
    have HZ := hide hz
    clear hz
    go_enter Try.func41, Try.ntmps41
    go_upto_region 1 with fail
    rw [← hw1]
    clear hw1
    go_wp2
    go_ret
    exact ⟨_, [], rfl, reads_nil _, by decide, ⟨fun _ => rfl, fun hh => absurd HZ.out hh⟩, HB1.out⟩
  · have y : (n.most == 0) = false := by simpa using hz
    have HZ := hide hz
    clear hz
    go_enter Try.func41, Try.ntmps41
    go_upto_region 1 with fail
    rw [← hw1]
    clear hw1
    go_wp2_with fail
    refine HC.out.mono ?_
    rintro e w5 ⟨v5, K, rfl, hr5, hc5, hn5, hb5⟩
    obtain ⟨a5, k5, hv5⟩ := reads_shape hr5
    rw [hv5] at hr5 ⊢
    have HR5 := hide hr5
    have HC5 := hide hc5
    have HN5 := hide hn5
    have HB5 := hide (HB1.out.trans (hb5.mono HB1.out.size))
    obtain ⟨lk, hlk⟩ : ∃ lk, lk = K.length := ⟨_, rfl⟩
    rw [← hlk] at HR5 ⊢
    clear hr5 hc5 hn5 hb5 hv5 hlk c0 c1 c2 c3 c4 c5 c6 c7 d0 d1 d2 d3 d4 d5 d6 d7
    go_wp2
    go_ret
    exact ⟨_, K, rfl, HR5.out, HC5.out, ⟨fun hh => absurd hh HZ.out, fun _ => HN5.out⟩, HB5.out⟩

set_option maxRecDepth 100000 in
set_option maxHeartbeats 8000000 in
theorem firstOf_any {w0 : World} {n : NV} {t : Tr} (h : NodeC w0 n t) : good t → ∀ w : World, Below w0.heap.size w0 w → Calls Try.prog 27 #[nvV n] w (SetE (fun L => ((factT t).most = 0 → L = []) ∧ (t.kind = 2 → L = t.set)) w) := by
  induction h with
  | mk n set ks vs hs hk hkids ih =>
    intro hg w hw0
    have hgn := good_node hg
    have hgk := good_kids hg
    have hgs := good_set hg
    have hkind : (Tr.mk n.kind n.num n.least n.most n.way n.fold set ks).kind = n.kind := rfl
    have hkb := hgn.2.1
    unfold kidsB at hkb
    rw [hkind] at hkb
    have HIH : Hid (∀ j (hj : j < ks.length) (W : World), Below w0.heap.size w0 W → Calls Try.prog 27 #[nvV (vs j)] W (SetE (fun L => (factT ks[j]).most = 0 → L = []) W)) := fun j hj W hW => (ih j hj (hgk j hj) W hW).mono fun e w' ⟨v, L, h1, h2, h3, h4, h5⟩ => ⟨v, L, h1, h2, h3, h4.1, h5⟩
    have HOk := hide (fun j (hj : j < ks.length) => factT_ok ks[j] (hgk j hj))
    have HK := hide hk
    have HNd := hide hkids
    have HGd := hide hgk
    have HS := hide hs
    have HGs : Hid (checkE set = 0) := hgs
    have HGet := hide (factL_get ks)
    have hb1 : Below w.heap.size w (w.alloc (nvO n)) := (Below.refl _ w).alloc (Nat.le_refl _) _
    obtain ⟨w1, hw1⟩ : ∃ w1, w1 = w.alloc (nvO n) := ⟨_, rfl⟩
    have hX1 : w1.heap[w.heap.size]? = some (nvO n) := by rw [hw1]; exact at_new _ _
    rw [← hw1] at hb1
    have hB1' := hw0.trans (hb1.mono hw0.size)
    have HB1' := hide hB1'
    have HB1 := hide hb1
    obtain ⟨d0, d1, d2, d3, d4, d5, d6, d7⟩ := nv_cells hX1
    simp only [nvO] at hw1
    obtain ⟨PP, hPP⟩ : ∃ PP : RL → Prop, PP = fun L => ((factT (.mk n.kind n.num n.least n.most n.way n.fold set ks)).most = 0 → L = []) ∧ ((Tr.mk n.kind n.num n.least n.most n.way n.fold set ks).kind = 2 → L = (Tr.mk n.kind n.num n.least n.most n.way n.fold set ks).set) := ⟨_, rfl⟩
    have HPP : Hid (∀ L, ((factK n.kind n.least n.most (factL ks)).most = 0 → L = []) → (n.kind = 2 → L = set) → PP L) := fun L h1 h2 => by rw [hPP]; exact ⟨h1, h2⟩
    rw [← hPP]
    clear hs hk hkids ih hg hgn hgk hkind hb1 hX1 hB1' hw0 hPP hgs
    by_cases h2 : n.kind = 2
    · have b2 : (n.kind == 2) = true := by simpa using h2
      have HQ : Hid (∀ L : RL, L = set → PP L) := fun L hL => HPP.out L (fun hh => by unfold factK at hh; simp [h2] at hh) (fun _ => hL)
      have hlen := (checkE_ok.1 HGs.out).1
      have HC := hide (SS.clone_any _ set w1 (HS.out.below HB1'.out) (by omega))
      clear hkb h2
      go_enter Try.func27, Try.ntmps27
      go_upto_region 1 with fail
      rw [← hw1]
      clear hw1
      go_wp2_with fail
      refine HC.out.mono ?_
      rintro e w5 ⟨v5, rfl, ho5, hb5⟩
      have hr5 := SS.own_reads ho5
      obtain ⟨a5, k5, hv5⟩ := reads_shape hr5
      rw [hv5] at hr5 ⊢
      have HR5 := hide hr5
      have HB5 := hide (HB1.out.trans (hb5.mono HB1.out.size))
      obtain ⟨lk, hlk⟩ : ∃ lk, lk = set.length := ⟨_, rfl⟩
      rw [← hlk] at HR5 ⊢
      clear hr5 hb5 hv5 hlk ho5 d0 d1 d2 d3 d4 d5 d6 d7
      go_wp2
      go_ret
      exact ⟨_, set, rfl, HR5.out, HGs.out, HQ.out set rfl, HB5.out⟩
    · by_cases h9 : n.kind = 9
      · have b2 : (n.kind == 2) = false := by simp only [beq_eq_false_iff_ne, ne_eq]; omega
        have b9 : (n.kind == 9) = true := by simpa using h9
        have hl2 : 2 ≤ ks.length := by
          rw [if_pos h9] at hkb
          simp only [Bool.and_eq_true, decide_eq_true_eq] at hkb
          exact hkb.1.1
        obtain ⟨ms, hms⟩ : ∃ ms : Nat → Int, ∀ j (hj : j < ks.length), ms j = (factT ks[j]).most := ⟨fun j => if h : j < ks.length then (factT ks[j]).most else 0, fun j hj => by simp only [dif_pos hj]⟩
        have HQ : Hid (∀ L : RL, ((∀ j, j < ks.length → ms j = 0) → L = []) → PP L) := fun L hL => HPP.out L (fun hh => hL (fun j hj => by
          unfold factK at hh
          simp [h9] at hh
          rw [hms j hj]
          exact fold_most (fun a b => addF_ok) (fun a b => add_most) HOk.out hh j hj)) (fun h2' => absurd h2' (by omega))
        rcases HK.out with ⟨_, _, _, h00⟩ | ⟨x, hx, hkk, hmx, hcl⟩
        · exact absurd h00 (by omega)
        · have HC := hide (firstRow_any (kc := n.kc) (ks := ks) rfl hmx hcl ms HNd.out HGd.out (fun j hj W hW => by rw [hms j hj]; exact HIH.out j hj W hW) w1 HB1'.out)
          rw [hx, hkk] at d2
          obtain ⟨q, hq⟩ : ∃ q, q = ks.length := ⟨_, rfl⟩
          rw [← hq] at d2 HC HQ
          clear hkb hl2 hcl hx hkk hmx hq hms h2 h9
          go_enter Try.func27, Try.ntmps27
          go_upto_region 1 with fail
          rw [← hw1]
          clear hw1
          go_wp2_with fail
          refine HC.out.mono ?_
          rintro e w5 ⟨v5, K, rfl, hr5, hc5, hn5, hb5⟩
          obtain ⟨a5, k5, hv5⟩ := reads_shape hr5
          rw [hv5] at hr5 ⊢
          have HR5 := hide hr5
          have HC5 := hide hc5
          have HB5 := hide (HB1.out.trans (hb5.mono HB1.out.size))
          have HN5 : Hid (PP K) := HQ.out K hn5
          obtain ⟨lk, hlk⟩ : ∃ lk, lk = K.length := ⟨_, rfl⟩
          rw [← hlk] at HR5 ⊢
          clear hr5 hc5 hn5 hb5 hv5 hlk d0 d1 d2 d3 d4 d5 d6 d7
          go_wp2
          go_ret
          exact ⟨_, K, rfl, HR5.out, HC5.out, HN5.out, HB5.out⟩
      · by_cases h10 : n.kind = 10
        · have b2 : (n.kind == 2) = false := by simp only [beq_eq_false_iff_ne, ne_eq]; omega
          have b9 : (n.kind == 9) = false := by simp only [beq_eq_false_iff_ne, ne_eq]; omega
          have b10 : (n.kind == 10) = true := by simpa using h10
          have hl2 : 2 ≤ ks.length := by
            rw [if_neg (by omega), if_pos h10] at hkb
            simp only [Bool.and_eq_true, decide_eq_true_eq] at hkb
            exact hkb.1
          obtain ⟨ms, hms⟩ : ∃ ms : Nat → Int, ∀ j (hj : j < ks.length), ms j = (factT ks[j]).most := ⟨fun j => if h : j < ks.length then (factT ks[j]).most else 0, fun j hj => by simp only [dif_pos hj]⟩
          have HQ : Hid (∀ L : RL, ((∀ j, j < ks.length → ms j = 0) → L = []) → PP L) := fun L hL => HPP.out L (fun hh => hL (fun j hj => by
            unfold factK at hh
            simp [h10] at hh
            rw [hms j hj]
            exact fold_most (fun a b => orF_ok) (fun a b => or_most) HOk.out hh j hj)) (fun h2' => absurd h2' (by omega))
          rcases HK.out with ⟨_, _, _, h00⟩ | ⟨x, hx, hkk, hmx, hcl⟩
          · exact absurd h00 (by omega)
          · have HC := hide (firstAny_any (kc := n.kc) (m := ks.length) (by omega) hcl ms (fun j hj W hW => by rw [hms j hj]; exact HIH.out j hj W hW) w1 HB1'.out)
            rw [hx, hkk] at d2
            obtain ⟨q, hq⟩ : ∃ q, q = ks.length := ⟨_, rfl⟩
            rw [← hq] at d2 HC HQ
            clear hkb hl2 hcl hx hkk hmx hq hms h2 h9 h10
            go_enter Try.func27, Try.ntmps27
            go_upto_region 1 with fail
            rw [← hw1]
            clear hw1
            go_wp2_with fail
            refine HC.out.mono ?_
            rintro e w5 ⟨v5, K, rfl, hr5, hc5, hn5, hb5⟩
            obtain ⟨a5, k5, hv5⟩ := reads_shape hr5
            rw [hv5] at hr5 ⊢
            have HR5 := hide hr5
            have HC5 := hide hc5
            have HB5 := hide (HB1.out.trans (hb5.mono HB1.out.size))
            have HN5 : Hid (PP K) := HQ.out K hn5
            obtain ⟨lk, hlk⟩ : ∃ lk, lk = K.length := ⟨_, rfl⟩
            rw [← hlk] at HR5 ⊢
            clear hr5 hc5 hn5 hb5 hv5 hlk d0 d1 d2 d3 d4 d5 d6 d7
            go_wp2
            go_ret
            exact ⟨_, K, rfl, HR5.out, HC5.out, HN5.out, HB5.out⟩
        · by_cases h11 : n.kind = 11
          · have b2 : (n.kind == 2) = false := by simp only [beq_eq_false_iff_ne, ne_eq]; omega
            have b9 : (n.kind == 9) = false := by simp only [beq_eq_false_iff_ne, ne_eq]; omega
            have b10 : (n.kind == 10) = false := by simp only [beq_eq_false_iff_ne, ne_eq]; omega
            have b11 : (n.kind == 11) = true := by simpa using h11
            have hl1 : ks.length = 1 := by
              rw [if_neg (by omega), if_neg (by omega), if_pos (by omega)] at hkb
              exact of_decide_eq_true hkb
            have hhd : headF (factL ks) = factT (ks[0]'(by omega)) := by
              have h1 := HGet.out 0 (by omega)
              cases hq : factL ks with
              | nil => rw [hq] at h1; cases h1
              | cons f fs => rw [hq] at h1; exact Option.some.inj h1
            have HQ : Hid (∀ L : RL, ((factT (ks[0]'(by omega))).most = 0 → L = []) → PP L) := fun L hL => HPP.out L (fun hh => hL (by
              unfold factK at hh
              simp [h11, hhd] at hh
              exact hh)) (fun h2' => absurd h2' (by omega))
            rcases HK.out with ⟨_, _, _, h00⟩ | ⟨x, hx, hkk, hmx, hcl⟩
            · exact absurd h00 (by omega)
            · have hcx : NCells w0 x (vs 0) := by have := hcl 0 (by omega); simpa [add_zero'] using this
              have HC := hide (HIH.out 0 (by omega) w1 HB1'.out)
              obtain ⟨c0, c1, c2, c3, c4, c5, c6, c7⟩ := hcx.below HB1'.out
              rw [hx, hkk, hl1] at d2
              clear hkb hcl hx hkk hmx hhd hcx h2 h9 h10 h11
              go_enter Try.func27, Try.ntmps27
              go_upto_region 1 with fail
              rw [← hw1]
              clear hw1
              go_wp2_with fail
              refine HC.out.mono ?_
              rintro e w5 ⟨v5, K, rfl, hr5, hc5, hn5, hb5⟩
              obtain ⟨a5, k5, hv5⟩ := reads_shape hr5
              rw [hv5] at hr5 ⊢
              have HR5 := hide hr5
              have HC5 := hide hc5
              have HB5 := hide (HB1.out.trans (hb5.mono HB1.out.size))
              have HN5 : Hid (PP K) := HQ.out K hn5
              obtain ⟨lk, hlk⟩ : ∃ lk, lk = K.length := ⟨_, rfl⟩
              rw [← hlk] at HR5 ⊢
              clear hr5 hc5 hn5 hb5 hv5 hlk d0 d1 d2 d3 d4 d5 d6 d7
              go_wp2
              go_ret
              exact ⟨_, K, rfl, HR5.out, HC5.out, HN5.out, HB5.out⟩
          · by_cases h13 : n.kind = 13
            · have b2 : (n.kind == 2) = false := by simp only [beq_eq_false_iff_ne, ne_eq]; omega
              have b9 : (n.kind == 9) = false := by simp only [beq_eq_false_iff_ne, ne_eq]; omega
              have b10 : (n.kind == 10) = false := by simp only [beq_eq_false_iff_ne, ne_eq]; omega
              have b11 : (n.kind == 11) = false := by simp only [beq_eq_false_iff_ne, ne_eq]; omega
              have b13 : (n.kind == 13) = true := by simpa using h13
              have hl1 : ks.length = 1 := by
                rw [if_neg (by omega), if_neg (by omega), if_pos (by omega)] at hkb
                exact of_decide_eq_true hkb
              have hhd : headF (factL ks) = factT (ks[0]'(by omega)) := by
                have h1 := HGet.out 0 (by omega)
                cases hq : factL ks with
                | nil => rw [hq] at h1; cases h1
                | cons f fs => rw [hq] at h1; exact Option.some.inj h1
              have HQ : Hid (∀ L : RL, ((factT (ks[0]'(by omega))).most = 0 → L = []) → PP L) := fun L hL => HPP.out L (fun hh => hL (by
                unfold factK at hh
                simp [h13, hhd] at hh
                exact hh)) (fun h2' => absurd h2' (by omega))
              rcases HK.out with ⟨_, _, _, h00⟩ | ⟨x, hx, hkk, hmx, hcl⟩
              · exact absurd h00 (by omega)
              · have hcx : NCells w0 x (vs 0) := by have := hcl 0 (by omega); simpa [add_zero'] using this
                have HC := hide (HIH.out 0 (by omega) w1 HB1'.out)
                obtain ⟨c0, c1, c2, c3, c4, c5, c6, c7⟩ := hcx.below HB1'.out
                rw [hx, hkk, hl1] at d2
                clear hkb hcl hx hkk hmx hhd hcx h2 h9 h10 h11 h13
                go_enter Try.func27, Try.ntmps27
                go_upto_region 1 with fail
                rw [← hw1]
                clear hw1
                go_wp2_with fail
                refine HC.out.mono ?_
                rintro e w5 ⟨v5, K, rfl, hr5, hc5, hn5, hb5⟩
                obtain ⟨a5, k5, hv5⟩ := reads_shape hr5
                rw [hv5] at hr5 ⊢
                have HR5 := hide hr5
                have HC5 := hide hc5
                have HB5 := hide (HB1.out.trans (hb5.mono HB1.out.size))
                have HN5 : Hid (PP K) := HQ.out K hn5
                obtain ⟨lk, hlk⟩ : ∃ lk, lk = K.length := ⟨_, rfl⟩
                rw [← hlk] at HR5 ⊢
                clear hr5 hc5 hn5 hb5 hv5 hlk d0 d1 d2 d3 d4 d5 d6 d7
                go_wp2
                go_ret
                exact ⟨_, K, rfl, HR5.out, HC5.out, HN5.out, HB5.out⟩
            · by_cases h12 : n.kind = 12
              · have b2 : (n.kind == 2) = false := by simp only [beq_eq_false_iff_ne, ne_eq]; omega
                have b9 : (n.kind == 9) = false := by simp only [beq_eq_false_iff_ne, ne_eq]; omega
                have b10 : (n.kind == 10) = false := by simp only [beq_eq_false_iff_ne, ne_eq]; omega
                have b11 : (n.kind == 11) = false := by simp only [beq_eq_false_iff_ne, ne_eq]; omega
                have b13 : (n.kind == 13) = false := by simp only [beq_eq_false_iff_ne, ne_eq]; omega
                have b12 : (n.kind == 12) = true := by simpa using h12
                have hl1 : ks.length = 1 := by
                  rw [if_neg (by omega), if_neg (by omega), if_pos (by omega)] at hkb
                  exact of_decide_eq_true hkb
                have hhd : headF (factL ks) = factT (ks[0]'(by omega)) := by
                  have h1 := HGet.out 0 (by omega)
                  cases hq : factL ks with
                  | nil => rw [hq] at h1; cases h1
                  | cons f fs => rw [hq] at h1; exact Option.some.inj h1
                have HQ : Hid (∀ L : RL, (n.most = 0 → L = []) ∧ (n.most ≠ 0 → (factT (ks[0]'(by omega))).most = 0 → L = []) → PP L) := fun L hL => HPP.out L (fun hh => by
                  by_cases hm : n.most = 0
                  · exact hL.1 hm
                  · refine hL.2 hm ?_
                    unfold factK at hh
                    simp [h12, hhd] at hh
                    exact rep_most hm hh) (fun h2' => absurd h2' (by omega))
                rcases HK.out with ⟨_, _, _, h00⟩ | ⟨x, hx, hkk, hmx, hcl⟩
                · exact absurd h00 (by omega)
                · have hcx : NCells w0 x (vs 0) := by have := hcl 0 (by omega); simpa [add_zero'] using this
                  have HC := hide (firstRep_any n (vs 0) hx (by omega) hcx _ (fun W hW => HIH.out 0 (by omega) W hW) w1 HB1'.out)
                  clear hkb hcl hx hkk hmx hhd hcx h2 h9 h10 h11 h13 h12
                  go_enter Try.func27, Try.ntmps27
                  go_upto_region 1 with fail
                  rw [← hw1]
                  clear hw1
                  go_wp2_with fail
                  refine HC.out.mono ?_
                  rintro e w5 ⟨v5, K, rfl, hr5, hc5, hn5, hb5⟩
                  obtain ⟨a5, k5, hv5⟩ := reads_shape hr5
                  rw [hv5] at hr5 ⊢
                  have HR5 := hide hr5
                  have HC5 := hide hc5
                  have HB5 := hide (HB1.out.trans (hb5.mono HB1.out.size))
                  have HN5 : Hid (PP K) := HQ.out K hn5
                  obtain ⟨lk, hlk⟩ : ∃ lk, lk = K.length := ⟨_, rfl⟩
                  rw [← hlk] at HR5 ⊢
                  clear hr5 hc5 hn5 hb5 hv5 hlk d0 d1 d2 d3 d4 d5 d6 d7
                  go_wp2
                  go_ret
                  exact ⟨_, K, rfl, HR5.out, HC5.out, HN5.out, HB5.out⟩
              · by_cases h18 : n.kind = 18
                · have b2 : (n.kind == 2) = false := by simp only [beq_eq_false_iff_ne, ne_eq]; omega
                  have b9 : (n.kind == 9) = false := by simp only [beq_eq_false_iff_ne, ne_eq]; omega
                  have b10 : (n.kind == 10) = false := by simp only [beq_eq_false_iff_ne, ne_eq]; omega
                  have b11 : (n.kind == 11) = false := by simp only [beq_eq_false_iff_ne, ne_eq]; omega
                  have b13 : (n.kind == 13) = false := by simp only [beq_eq_false_iff_ne, ne_eq]; omega
                  have b12 : (n.kind == 12) = false := by simp only [beq_eq_false_iff_ne, ne_eq]; omega
                  have b18 : (n.kind == 18) = true := by simpa using h18
                  have HQ : Hid (∀ L : RL, PP L) := fun L => HPP.out L (fun hh => by unfold factK at hh; simp [h18] at hh) (fun h2' => absurd h2' (by omega))
                  have HC := hide (anyPoint_any w1)
                  clear hkb h2 h9 h10 h11 h13 h12 h18
                  go_enter Try.func27, Try.ntmps27
                  go_upto_region 1 with fail
                  rw [← hw1]
                  clear hw1
                  go_wp2_with fail
                  refine HC.out.mono ?_
                  rintro e w5 ⟨v5, K, rfl, hr5, hc5, hn5, hb5⟩
                  obtain ⟨a5, k5, hv5⟩ := reads_shape hr5
                  rw [hv5] at hr5 ⊢
                  have HR5 := hide hr5
                  have HC5 := hide hc5
                  have HB5 := hide (HB1.out.trans (hb5.mono HB1.out.size))
                  have HN5 : Hid (PP K) := HQ.out K
                  obtain ⟨lk, hlk⟩ : ∃ lk, lk = K.length := ⟨_, rfl⟩
                  rw [← hlk] at HR5 ⊢
                  clear hr5 hc5 hn5 hb5 hv5 hlk d0 d1 d2 d3 d4 d5 d6 d7
                  go_wp2
                  go_ret
                  exact ⟨_, K, rfl, HR5.out, HC5.out, HN5.out, HB5.out⟩
                · have b2 : (n.kind == 2) = false := by simp only [beq_eq_false_iff_ne, ne_eq]; omega
                  have b9 : (n.kind == 9) = false := by simp only [beq_eq_false_iff_ne, ne_eq]; omega
                  have b10 : (n.kind == 10) = false := by simp only [beq_eq_false_iff_ne, ne_eq]; omega
                  have b11 : (n.kind == 11) = false := by simp only [beq_eq_false_iff_ne, ne_eq]; omega
                  have b13 : (n.kind == 13) = false := by simp only [beq_eq_false_iff_ne, ne_eq]; omega
                  have b12 : (n.kind == 12) = false := by simp only [beq_eq_false_iff_ne, ne_eq]; omega
                  have b18 : (n.kind == 18) = false := by simp only [beq_eq_false_iff_ne, ne_eq]; omega
                  have HQ : Hid (PP []) := HPP.out [] (fun _ => rfl) (fun h2' => absurd h2' (by omega))
                  clear hkb h2 h9 h10 h11 h13 h12 h18
                  go_enter Try.func27, Try.ntmps27
                  go_upto_region 1 with fail
                  rw [← hw1]
                  clear hw1
                  go_wp2
                  go_ret
                  exact ⟨_, [], rfl, reads_nil _, by decide, HQ.out, HB1.out⟩

end Go.Proofs.Ytdipfaahlofmgaa
