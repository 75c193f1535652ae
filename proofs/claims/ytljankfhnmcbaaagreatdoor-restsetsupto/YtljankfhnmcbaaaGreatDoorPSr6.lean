/- Roads: what divide does, in general. -/
import Derived.Test.YtljankfhnmcbaaaGreatDoorPSr5
import Derived.Test.YtljankfhnmcbaaaGreatDoorPSr3
import Derived.Test.YtljankfhnmcbaaaGreatDoorKb
namespace Go.Proofs.YtljankfhnmcbaaaGreatDoor.SP
open Go.RowKit Go.PlainAid
set_option linter.unusedVariables false

def ptsO (ps : List Pt) : Obj := .cells (ps.flatMap fun p => [Value.int .i64 p.lead, Value.int .i64 p.shift, Value.int .i64 p.bits]).toArray 80 (0, 0)
theorem pts_get : ∀ (ps : List Pt) (j : Nat) (h : j < ps.length), (ps.flatMap fun p => [Value.int .i64 p.lead, Value.int .i64 p.shift, Value.int .i64 p.bits])[j * 3]? = some (.int .i64 ps[j].lead) ∧ (ps.flatMap fun p => [Value.int .i64 p.lead, Value.int .i64 p.shift, Value.int .i64 p.bits])[j * 3 + 1]? = some (.int .i64 ps[j].shift) ∧ (ps.flatMap fun p => [Value.int .i64 p.lead, Value.int .i64 p.shift, Value.int .i64 p.bits])[j * 3 + 2]? = some (.int .i64 ps[j].bits)
  | [], j, h => absurd h (by simp)
  | p :: ps, 0, h => by simp [List.flatMap_cons]
  | p :: ps, j + 1, h => by
    have := pts_get ps j (by simpa using h)
    rw [List.flatMap_cons, show (j + 1) * 3 = j * 3 + 3 by omega]
    simpa using this
theorem pts_C {w : World} {g : Nat} {ps : List Pt} (h : w.heap[g]? = some (ptsO ps)) : PtC w ⟨g, 0, none⟩ ps := fun j hj => by
  have hadd : (⟨g, 0, none⟩ : Addr).add (j * 3) = ⟨g, j * 3, none⟩ := by unfold Addr.add; split <;> simp_all
  rw [hadd]
  obtain ⟨h1, h2, h3⟩ := pts_get ps j hj
  refine ⟨?_, ?_, ?_⟩
  · simp only [World.cell?, h, ptsO]; simpa using h1
  · simp only [World.cell?, h, ptsO]; simpa using h2
  · simp only [World.cell?, h, ptsO]; simpa using h3
/-- a shape in memory. -/
abbrev shpOf (S : ShP) (g : Nat) : Shp := ⟨S.first, S.last, S.less, some ⟨g, 0, none⟩, S.ps.length, S.ps.length⟩
structure DSt (B : Nat) (w : World) (bR bS g : Nat) (S : ShP) (LL : List RL) : Prop where
  rbx : ∃ v us, RBx B w bR LL v us
  shp : w.heap[bS]? = some (shpO (shpOf S g))
  pts : w.heap[g]? = some (ptsO S.ps)
  lo : B ≤ w.heap.size
theorem DSt.keep {B : Nat} {w w' : World} {bR bS g : Nat} {S : ShP} {LL : List RL} (h : DSt B w bR bS g S LL) (hb : Below w.heap.size w w') : DSt B w' bR bS g S LL := by
  obtain ⟨⟨v, us, h1⟩, h2, h3, h4⟩ := h
  exact ⟨⟨v, us, h1.keep hb⟩, rdO_keep h2 hb, rdO_keep h3 hb, Nat.le_trans h4 hb.size⟩
theorem RBx.ne {B : Nat} {w : World} {bR : Nat} {LL : List RL} {v : Value} {us : List Value} (h : RBx B w bR LL v us) {k : Nat} {cs : Array Value} {T : TypeId} {fr : Nat × Nat} (hk : w.heap[k]? = some (.cells cs T fr)) (hT : T ≠ 30) : k ≠ bR := fun e => by
  subst e
  rw [h.box] at hk
  have := Option.some.inj hk
  injection this with _ h2 _
  exact hT h2.symm
theorem DSt.kr {B : Nat} {w w' : World} {bR bS g : Nat} {S : ShP} {LL MM : List RL} (h : DSt B w bR bS g S LL) (hr : ∃ v us, RBx B w' bR MM v us) (hb : Below B w w') (hk : Kr bR w w') : DSt B w' bR bS g S MM := by
  obtain ⟨⟨v, us, h1⟩, h2, h3, h4⟩ := h
  exact ⟨hr, hk _ _ _ _ (h1.ne h2 (by decide)) (by decide) h2, hk _ _ _ _ (h1.ne h3 (by decide)) (by decide) h3, Nat.le_trans h4 hb.size⟩
def DivE (B bR : Nat) (S : ShP) (LL : List RL) (a b : Int) (w : World) (e : Ending) (w' : World) : Prop := e = .returned (.tuple #[]) ∧ ∃ L, Blk S.ps a b L ∧ (∃ v us, RBx B w' bR (LL ++ L.map fun x => roadP S.ps x.1 x.2) v us) ∧ Below B w w' ∧ Kr bR w w'
theorem DivE.front {B bR : Nat} {S : ShP} {LL : List RL} {a b : Int} {w w1 w' : World} {e : Ending} (hb : Below w.heap.size w w1) (hB : B ≤ w.heap.size) (h : DivE B bR S LL a b w1 e w') : DivE B bR S LL a b w e w' := by
  obtain ⟨h1, L, h2, h3, h4, h5⟩ := h
  exact ⟨h1, L, h2, h3, (hb.mono hB).trans h4, (Kr.below hb).trans h5⟩
theorem DivE.join {B bR : Nat} {S : ShP} {LL : List RL} {a m b : Int} {w w1 w2 w' : World} {e e' : Ending} (hB : B ≤ w1.heap.size) (h : DivE B bR S LL a m w e w1) (hb : Below w1.heap.size w1 w2) (h' : ∀ L : RL, Blk S.ps a m L → (∃ v us, RBx B w1 bR (LL ++ L.map fun x => roadP S.ps x.1 x.2) v us) → DivE B bR S (LL ++ L.map fun x => roadP S.ps x.1 x.2) (m + 1) b w2 e' w') : DivE B bR S LL a b w e' w' := by
  obtain ⟨h1, L, h2, h3, h4, h5⟩ := h
  obtain ⟨g1, M, g2, g3, g4, g5⟩ := h' L h2 h3
  refine ⟨g1, L ++ M, .app h2 g2, ?_, h4.trans ((hb.mono hB).trans g4), h5.trans ((Kr.below hb).trans g5)⟩
  rw [List.map_append, ← List.append_assoc]
  exact g3
theorem boxy_snoc {ps : List Pt} {j : Nat} (hj : j < ps.length) {a b : Int} (h : Boxy (ps.take j) a b) (hp : a / 2 ^ ps[j].shift.toNat = b / 2 ^ ps[j].shift.toNat ∨ (a % 2 ^ ps[j].shift.toNat = 0 ∧ b % 2 ^ ps[j].shift.toNat = 2 ^ ps[j].shift.toNat - 1)) : Boxy (ps.take (j + 1)) a b := fun p hp' => by
  rw [List.take_add_one, List.getElem?_eq_getElem hj] at hp'
  rcases List.mem_append.1 hp' with h1 | h1
  · exact h p h1
  · simp at h1; subst h1; exact hp
set_option maxRecDepth 100000 in
set_option maxHeartbeats 16000000 in
theorem divide_any (B bR bS g : Nat) (S : ShP) (hPt : ∀ p ∈ S.ps, okPt p) (hLen : 1 ≤ S.ps.length ∧ S.ps.length ≤ 4) (hLo : 0 ≤ S.first - S.less) (hHi : S.last - S.less < 2097152) : ∀ (k : Nat) (a b : Int), (b - a).toNat = k → S.first - S.less ≤ a → a ≤ b → b ≤ S.last - S.less → ∀ (LL : List RL) (w : World), DSt B w bR bS g S LL → (LL.length : Int) + (b - a + 1) ≤ 10000000000 →
    Calls Tryz.prog 63 #[shpV (shpOf S g), .int .i64 a, .int .i64 b, takeF bR bS] w fun e w' => DivE B bR S LL a b w e w' := by
  intro k
  induction k using Nat.strongRecOn with
  | ind k ih =>
  intro a b hk ha hab hb LL w hD hl
  have ha0 : 0 ≤ a := by omega
  have hb1 : b < 2097152 := by omega
  obtain ⟨x, hx⟩ : ∃ x : Addr, x = ⟨g, 0, none⟩ := ⟨_, rfl⟩
  obtain ⟨n, hn⟩ : ∃ n, n = S.ps.length := ⟨_, rfl⟩
  obtain ⟨s, hs⟩ : ∃ s : Shp, s = shpOf S g := ⟨_, rfl⟩
  have hspa : s.pa = some x := by rw [hs, hx]
  have hspl : s.pl = n := by rw [hs, hn]
  have HP : Hid (∀ W, Below w.heap.size w W → PtC W x S.ps) := fun W hW => by rw [hx]; exact pts_C (rdO_keep hD.pts hW)
  -- the two calls of itself
  have HL1 : Hid (∀ (m : Int), a ≤ m → m < b → ∀ W, Below w.heap.size w W → Calls Tryz.prog 63 #[shpV s, .int .i64 a, .int .i64 m, takeF bR bS] W fun e w' => DivE B bR S LL a m W e w') := fun m m1 m2 W hW => by
    rw [hs]; exact ih (m - a).toNat (by omega) a m rfl ha m1 (by omega) LL W (hD.keep hW) (by omega)
  have HL2 : Hid (∀ (m : Int), a ≤ m → m < b → ∀ W W1, Below w.heap.size w W → DivE B bR S LL a m W (.returned (.tuple #[])) W1 → Calls Tryz.prog 63 #[shpV s, .int .i64 (m + 1), .int .i64 b, takeF bR bS] W1 fun e w' => DivE B bR S LL a b w e w') := fun m m1 m2 W W1 hW hE => by
    rw [hs]
    obtain ⟨_, L, hB, hr, h4, h5⟩ := id hE
    have hlen := hB.len
    have hC := ih (b - (m + 1)).toNat (by omega) (m + 1) b rfl (by omega) (by omega) hb (LL ++ L.map fun x => roadP S.ps x.1 x.2) W1 ((hD.keep hW).kr hr h4 h5) (by rw [List.length_append, List.length_map]; omega)
    refine hC.mono ?_
    intro e w' hE'
    obtain ⟨g1, M, g2, g3, g4, g5⟩ := hE'
    refine DivE.front hW hD.lo ⟨g1, L ++ M, .app hB g2, ?_, h4.trans g4, h5.trans g5⟩
    rw [List.map_append, ← List.append_assoc]
    exact g3
  have HTk : Hid (Boxy S.ps a b → ∀ W, Below w.heap.size w W → Calls Tryz.prog 34 #[.int .i64 a, .int .i64 b, .pointer (some ⟨bR, 0, none⟩), .pointer (some ⟨bS, 0, none⟩)] W fun e w' => DivE B bR S LL a b w e w') := fun hBx W hW => by
    obtain ⟨⟨v, us, h1⟩, h2, h3, h4⟩ := hD.keep hW
    refine (take_any B bR bS LL v us (shpOf S g) (roadP S.ps a b) a b W h1 h2 h4 (by omega) (fun W2 hW2 => road_of (shpOf S g) ⟨g, 0, none⟩ S.ps a b W2 rfl rfl hLen (pts_C (rdO_keep h3 hW2)) hPt ⟨ha0, by omega⟩ ⟨by omega, hb1⟩)).mono ?_
    rintro e w' ⟨t1, t2, t3, t4⟩
    exact DivE.front hW hD.lo ⟨t1, [(a, b)], .one hab hBx, t2, t3, t4⟩
  have HPt : Hid (∀ j (h : j < S.ps.length), okPt S.ps[j]) := fun j h => hPt _ (List.getElem_mem h)
  obtain ⟨w1, hw1⟩ : ∃ w1, w1 = w.alloc (shpO s) := ⟨_, rfl⟩
  have hX1 : w1.heap[w.heap.size]? = some (shpO s) := by rw [hw1]; exact at_newS _ _
  have hB1 : Below w.heap.size w w1 := by rw [hw1]; exact (Below.refl _ w).alloc (Nat.le_refl _) _
  obtain ⟨b0, hb0⟩ : ∃ b0, b0 = w.heap.size := ⟨_, rfl⟩
  have hneR : b0 ≠ bR := by
    obtain ⟨⟨v, us, h1⟩, _, _, _⟩ := hD
    have := lt_blockS h1.box
    omega
  rw [← hb0] at hX1
  have HXk : Hid (∀ W W1, Below w1.heap.size w1 W → (∃ L : Int × RL, Blk S.ps a L.1 L.2 ∧ (∃ v us, RBx B W1 bR (LL ++ L.2.map fun x => roadP S.ps x.1 x.2) v us) ∧ Below B W W1 ∧ Kr bR W W1) → W1.cell? ⟨b0, 0, none⟩ = some (.int .i64 s.first) ∧ W1.cell? ⟨b0, 1, none⟩ = some (.int .i64 s.last) ∧ W1.cell? ⟨b0, 2, none⟩ = some (.int .i64 s.less) ∧ W1.cell? ⟨b0, 3, none⟩ = some (.slice s.pa s.pl s.pc)) := fun W W1 hW hE => by
    obtain ⟨L, _, _, _, hk⟩ := hE
    exact shp_cells (hk _ _ _ _ hneR (by decide) (rdO_keep hX1 hW))
  have HX : Hid (∀ W, Below w1.heap.size w1 W → W.cell? ⟨b0, 0, none⟩ = some (.int .i64 s.first) ∧ W.cell? ⟨b0, 1, none⟩ = some (.int .i64 s.last) ∧ W.cell? ⟨b0, 2, none⟩ = some (.int .i64 s.less) ∧ W.cell? ⟨b0, 3, none⟩ = some (.slice s.pa s.pl s.pc)) := fun W hW => shp_cells (rdO_keep hX1 hW)
  have HBw : Hid (∀ W, Below w1.heap.size w1 W → Below w.heap.size w W) := fun W hW => hB1.trans (hW.mono hB1.size)
  obtain ⟨d0, d1, d2, d3⟩ := HX.out w1 (Below.refl _ _)
  have hnI : n ≤ 4 := by omega
  have HN := hide hn
  have HAll : Hid (Boxy (S.ps.take S.ps.length) a b → Boxy S.ps a b) := fun h => by rwa [List.take_length] at h
  obtain ⟨pc, hpc⟩ : ∃ pc, pc = s.pc := ⟨_, rfl⟩
  obtain ⟨s1, hs1⟩ : ∃ s1, s1 = s.first := ⟨_, rfl⟩
  obtain ⟨s2, hs2⟩ : ∃ s2, s2 = s.last := ⟨_, rfl⟩
  obtain ⟨s3, hs3⟩ : ∃ s3, s3 = s.less := ⟨_, rfl⟩
  simp only [shpV, shpO] at HL1 HL2 hw1
  rw [← hs]
  simp only [shpV, takeF] at HL1 HL2 ⊢
  rw [hspa, hspl, ← hpc, ← hs1, ← hs2, ← hs3] at HL1 HL2 HX HXk hw1 ⊢
  rw [hspa, hspl, ← hpc] at d3
  rw [← hs1] at d0
  rw [← hs2] at d1
  rw [← hs3] at d2
  clear hspa hspl hpc hs1 hs2 hs3 hs hx hn hX1 hneR hD hPt hLen ih hk hl hB1
  go_enter Tryz.func63, Tryz.ntmps63
  go_upto_region 1 with fail
  rw [← hw1, ← hb0]
  clear hw1 hb0
  go_wp2
  go_loopw [14] (fun q wr => ∃ (j : Nat), j ≤ n ∧ q = .int .i64 j ∧ Boxy (S.ps.take j) a b ∧ Below w1.heap.size w1 wr) (fun q _ => n - (intOf q).toNat)
  case atStart => exact ⟨0, Nat.zero_le _, rfl, (fun p hp => absurd hp (by simp)), Below.refl _ _⟩
  case round =>
    obtain ⟨j, hj, rfl, hbx, hbw⟩ := hrel
    obtain ⟨w3, hw3⟩ : ∃ w3, w3 = wr := ⟨_, rfl⟩
    subst hw3
    have HB3 := hide hbw
    have HBx := hide hbx
    clear hbw hbx d0 d1 d2 d3
    by_cases hlt : j < n
    · have hjp : j < S.ps.length := by have := HN.out; omega
      obtain ⟨m0, m1, m2⟩ := HP.out _ (HBw.out _ HB3.out) j hjp
      have hok := HPt.out j hjp
      have HSn : Hid ((a / 2 ^ S.ps[j].shift.toNat = b / 2 ^ S.ps[j].shift.toNat ∨ (a % 2 ^ S.ps[j].shift.toNat = 0 ∧ b % 2 ^ S.ps[j].shift.toNat = 2 ^ S.ps[j].shift.toNat - 1)) → Boxy (S.ps.take (j + 1)) a b) := fun h => boxy_snoc hjp HBx.out h
      obtain ⟨p, hp⟩ : ∃ p, p = S.ps[j] := ⟨_, rfl⟩
      rw [← hp] at m0 m1 m2 hok HSn
      obtain ⟨lead, shift, bts⟩ := p
      have hsh : shift = 0 ∨ shift = 6 ∨ shift = 8 ∨ shift = 10 ∨ shift = 12 ∨ shift = 18 := by
        have := hok.2
        simp only at this
        omega
      simp only at m0 m1 m2 HSn
      clear hp hok hjp HBx
      obtain ⟨w4, hw4⟩ : ∃ w4, w4 = w3.alloc (ptO ⟨lead, shift, bts⟩) := ⟨_, rfl⟩
      have hX4 : w4.heap[w3.heap.size]? = some (ptO ⟨lead, shift, bts⟩) := by rw [hw4]; exact at_newS _ _
      have hB4 : Below w3.heap.size w3 w4 := by rw [hw4]; exact (Below.refl _ w3).alloc (Nat.le_refl _) _
      have HB4 : Hid (Below w1.heap.size w1 w4.drew) := (HB3.out.trans (hB4.mono HB3.out.size)).trans ⟨rfl, rfl, rfl, Nat.le_refl _, fun _ _ => rfl⟩
      obtain ⟨bx, hbx⟩ : ∃ bx, bx = w3.heap.size := ⟨_, rfl⟩
      rw [← hbx] at hX4
      obtain ⟨f0, f1, f2⟩ := pt_cells hX4
      obtain ⟨d0, d1, d2, d3⟩ := HX.out _ HB4.out
      have e5 : (j : Int) < (n : Int) := by omega
      have e6 : (0 : Int) ≤ (j : Int) := by omega
      have hkw : IntKind.i64.wrap ((j : Int) + 1) = (j : Int) + 1 := by rw [IntKind.wrap_i64]; omega
      simp only [ptO] at hw4
      simp only at f0 f1 f2
      clear hX4 hB4 HB3
      go_upto_region 4 with fail
      rw [← hw4, ← hbx]
      clear hw4 hbx m0 m1 m2
      rcases hsh with rfl | rfl | rfl | rfl | rfl | rfl
      · have HF : Hid (Boxy (S.ps.take (j + 1)) a b) := HSn.out (.inr ⟨by simp <;> omega, by simp <;> omega⟩)
        have a1 : bits BinOp.and IntKind.i64 a 0 = 0 := by have := and_low 0 (by decide) a ha0 (by omega); simpa using this
        have a2 : bits BinOp.and IntKind.i64 b 0 = 0 := by have := and_low 0 (by decide) b (by omega) (by omega); simpa using this
        clear HSn
        go_wp2
        by_cases c1 : a = b
        · go_region
          all_goals go_wp2
          all_goals go_roundw
          all_goals first | exact ⟨j + 1, by omega, by go_num, HF.out, HB4.out⟩ | (simp [intOf]; omega)
        · go_region
          all_goals go_wp2
          all_goals go_roundw
          all_goals first | exact ⟨j + 1, by omega, by go_num, HF.out, HB4.out⟩ | (simp [intOf]; omega)
      · have HSe : Hid ((a / 64 = b / 64 ∨ (a % 64 = 0 ∧ b % 64 = 63)) → Boxy (S.ps.take (j + 1)) a b) := HSn.out
        have a1 : bits BinOp.and IntKind.i64 a 63 = a % 64 := and_low 6 (by decide) a ha0 (by omega)
        have a2 : bits BinOp.and IntKind.i64 b 63 = b % 64 := and_low 6 (by decide) b (by omega) (by omega)
        clear HSn
        go_wp2
        by_cases c1 : a / 64 = b / 64
        · have HF := hide (HSe.out (.inl c1))
          clear HSe
          go_region
          all_goals go_wp2
          all_goals go_roundw
          all_goals first | exact ⟨j + 1, by omega, by go_num, HF.out, HB4.out⟩ | (simp [intOf]; omega)
        · by_cases c2 : a % 64 = 0
          · by_cases c3 : b % 64 = 63
            · have HF := hide (HSe.out (.inr ⟨c2, c3⟩))
              clear HSe
              go_region
              all_goals go_wp2
              all_goals go_roundw
              all_goals first | exact ⟨j + 1, by omega, by go_num, HF.out, HB4.out⟩ | (simp [intOf]; omega)
            · obtain ⟨q, hq⟩ : ∃ q, q = b / 64 * 64 := ⟨_, rfl⟩
              have o1 : bits BinOp.andNot IntKind.i64 b 63 = q := by have := andNot_low 6 (by decide) b (by omega) (by omega); rw [hq]; simp at this; omega
              have hw : IntKind.i64.wrap (q - 1) = q - 1 := by rw [IntKind.wrap_i64]; omega
              have HI1 := hide (HL1.out (q - 1) (by omega) (by omega))
              have HI2 := hide (HL2.out (q - 1) (by omega) (by omega))
              rw [Int.sub_add_cancel] at HI2
              clear hq HL1 HL2 HSe
              go_region
              all_goals go_wp2_with fail
              all_goals refine (HI1.out _ (HBw.out _ HB4.out)).mono ?_
              all_goals rintro e w5 hE5
              all_goals have he5 := hE5.1
              all_goals subst he5
              all_goals obtain ⟨c0, c1q, c2q, c3q⟩ := HXk.out _ _ HB4.out ⟨(_, _), hE5.2.choose_spec.1, hE5.2.choose_spec.2.1, hE5.2.choose_spec.2.2⟩
              all_goals have HE5 := hide hE5
              all_goals clear hE5 d0 d1 d2 d3 f0 f1 f2
              all_goals go_wp2_with fail
              all_goals refine (HI2.out _ _ (HBw.out _ HB4.out) HE5.out).mono ?_
              all_goals rintro e w6 hE6
              all_goals have he6 := hE6.1
              all_goals subst he6
              all_goals have HE6 := hide hE6
              all_goals clear hE6 c0 c1q c2q c3q
              all_goals go_wp2
              all_goals go_end0
              all_goals exact HE6.out
          · obtain ⟨m, hm⟩ : ∃ m, m = a / 64 * 64 + 63 := ⟨_, rfl⟩
            have o1 : bits BinOp.or IntKind.i64 a 63 = m := by have := or_low 6 (by decide) a ha0 (by omega); rw [hm]; simp at this; omega
            have hw : IntKind.i64.wrap (m + 1) = m + 1 := by rw [IntKind.wrap_i64]; omega
            have HI1 := hide (HL1.out m (by omega) (by omega))
            have HI2 := hide (HL2.out m (by omega) (by omega))
            clear hm
            go_region
            all_goals go_wp2_with fail
            all_goals refine (HI1.out _ (HBw.out _ HB4.out)).mono ?_
            all_goals rintro e w5 hE5
            all_goals have he5 := hE5.1
            all_goals subst he5
            all_goals obtain ⟨c0, c1q, c2q, c3q⟩ := HXk.out _ _ HB4.out ⟨(_, _), hE5.2.choose_spec.1, hE5.2.choose_spec.2.1, hE5.2.choose_spec.2.2⟩
            all_goals have HE5 := hide hE5
            all_goals clear hE5 d0 d1 d2 d3 f0 f1 f2
            all_goals go_wp2_with fail
            all_goals refine (HI2.out _ _ (HBw.out _ HB4.out) HE5.out).mono ?_
            all_goals rintro e w6 hE6
            all_goals have he6 := hE6.1
            all_goals subst he6
            all_goals have HE6 := hide hE6
            all_goals clear hE6 c0 c1q c2q c3q
            all_goals go_wp2
            all_goals go_end0
            all_goals exact HE6.out
      · have HSe : Hid ((a / 256 = b / 256 ∨ (a % 256 = 0 ∧ b % 256 = 255)) → Boxy (S.ps.take (j + 1)) a b) := HSn.out
        have a1 : bits BinOp.and IntKind.i64 a 255 = a % 256 := and_low 8 (by decide) a ha0 (by omega)
        have a2 : bits BinOp.and IntKind.i64 b 255 = b % 256 := and_low 8 (by decide) b (by omega) (by omega)
        clear HSn
        go_wp2
        by_cases c1 : a / 256 = b / 256
        · have HF := hide (HSe.out (.inl c1))
          clear HSe
          go_region
          all_goals go_wp2
          all_goals go_roundw
          all_goals first | exact ⟨j + 1, by omega, by go_num, HF.out, HB4.out⟩ | (simp [intOf]; omega)
        · by_cases c2 : a % 256 = 0
          · by_cases c3 : b % 256 = 255
            · have HF := hide (HSe.out (.inr ⟨c2, c3⟩))
              clear HSe
              go_region
              all_goals go_wp2
              all_goals go_roundw
              all_goals first | exact ⟨j + 1, by omega, by go_num, HF.out, HB4.out⟩ | (simp [intOf]; omega)
            · obtain ⟨q, hq⟩ : ∃ q, q = b / 256 * 256 := ⟨_, rfl⟩
              have o1 : bits BinOp.andNot IntKind.i64 b 255 = q := by have := andNot_low 8 (by decide) b (by omega) (by omega); rw [hq]; simp at this; omega
              have hw : IntKind.i64.wrap (q - 1) = q - 1 := by rw [IntKind.wrap_i64]; omega
              have HI1 := hide (HL1.out (q - 1) (by omega) (by omega))
              have HI2 := hide (HL2.out (q - 1) (by omega) (by omega))
              rw [Int.sub_add_cancel] at HI2
              clear hq HL1 HL2 HSe
              go_region
              all_goals go_wp2_with fail
              all_goals refine (HI1.out _ (HBw.out _ HB4.out)).mono ?_
              all_goals rintro e w5 hE5
              all_goals have he5 := hE5.1
              all_goals subst he5
              all_goals obtain ⟨c0, c1q, c2q, c3q⟩ := HXk.out _ _ HB4.out ⟨(_, _), hE5.2.choose_spec.1, hE5.2.choose_spec.2.1, hE5.2.choose_spec.2.2⟩
              all_goals have HE5 := hide hE5
              all_goals clear hE5 d0 d1 d2 d3 f0 f1 f2
              all_goals go_wp2_with fail
              all_goals refine (HI2.out _ _ (HBw.out _ HB4.out) HE5.out).mono ?_
              all_goals rintro e w6 hE6
              all_goals have he6 := hE6.1
              all_goals subst he6
              all_goals have HE6 := hide hE6
              all_goals clear hE6 c0 c1q c2q c3q
              all_goals go_wp2
              all_goals go_end0
              all_goals exact HE6.out
          · obtain ⟨m, hm⟩ : ∃ m, m = a / 256 * 256 + 255 := ⟨_, rfl⟩
            have o1 : bits BinOp.or IntKind.i64 a 255 = m := by have := or_low 8 (by decide) a ha0 (by omega); rw [hm]; simp at this; omega
            have hw : IntKind.i64.wrap (m + 1) = m + 1 := by rw [IntKind.wrap_i64]; omega
            have HI1 := hide (HL1.out m (by omega) (by omega))
            have HI2 := hide (HL2.out m (by omega) (by omega))
            clear hm
            go_region
            all_goals go_wp2_with fail
            all_goals refine (HI1.out _ (HBw.out _ HB4.out)).mono ?_
            all_goals rintro e w5 hE5
            all_goals have he5 := hE5.1
            all_goals subst he5
            all_goals obtain ⟨c0, c1q, c2q, c3q⟩ := HXk.out _ _ HB4.out ⟨(_, _), hE5.2.choose_spec.1, hE5.2.choose_spec.2.1, hE5.2.choose_spec.2.2⟩
            all_goals have HE5 := hide hE5
            all_goals clear hE5 d0 d1 d2 d3 f0 f1 f2
            all_goals go_wp2_with fail
            all_goals refine (HI2.out _ _ (HBw.out _ HB4.out) HE5.out).mono ?_
            all_goals rintro e w6 hE6
            all_goals have he6 := hE6.1
            all_goals subst he6
            all_goals have HE6 := hide hE6
            all_goals clear hE6 c0 c1q c2q c3q
            all_goals go_wp2
            all_goals go_end0
            all_goals exact HE6.out
      · have HSe : Hid ((a / 1024 = b / 1024 ∨ (a % 1024 = 0 ∧ b % 1024 = 1023)) → Boxy (S.ps.take (j + 1)) a b) := HSn.out
        have a1 : bits BinOp.and IntKind.i64 a 1023 = a % 1024 := and_low 10 (by decide) a ha0 (by omega)
        have a2 : bits BinOp.and IntKind.i64 b 1023 = b % 1024 := and_low 10 (by decide) b (by omega) (by omega)
        clear HSn
        go_wp2
        by_cases c1 : a / 1024 = b / 1024
        · have HF := hide (HSe.out (.inl c1))
          clear HSe
          go_region
          all_goals go_wp2
          all_goals go_roundw
          all_goals first | exact ⟨j + 1, by omega, by go_num, HF.out, HB4.out⟩ | (simp [intOf]; omega)
        · by_cases c2 : a % 1024 = 0
          · by_cases c3 : b % 1024 = 1023
            · have HF := hide (HSe.out (.inr ⟨c2, c3⟩))
              clear HSe
              go_region
              all_goals go_wp2
              all_goals go_roundw
              all_goals first | exact ⟨j + 1, by omega, by go_num, HF.out, HB4.out⟩ | (simp [intOf]; omega)
            · obtain ⟨q, hq⟩ : ∃ q, q = b / 1024 * 1024 := ⟨_, rfl⟩
              have o1 : bits BinOp.andNot IntKind.i64 b 1023 = q := by have := andNot_low 10 (by decide) b (by omega) (by omega); rw [hq]; simp at this; omega
              have hw : IntKind.i64.wrap (q - 1) = q - 1 := by rw [IntKind.wrap_i64]; omega
              have HI1 := hide (HL1.out (q - 1) (by omega) (by omega))
              have HI2 := hide (HL2.out (q - 1) (by omega) (by omega))
              rw [Int.sub_add_cancel] at HI2
              clear hq HL1 HL2 HSe
              go_region
              all_goals go_wp2_with fail
              all_goals refine (HI1.out _ (HBw.out _ HB4.out)).mono ?_
              all_goals rintro e w5 hE5
              all_goals have he5 := hE5.1
              all_goals subst he5
              all_goals obtain ⟨c0, c1q, c2q, c3q⟩ := HXk.out _ _ HB4.out ⟨(_, _), hE5.2.choose_spec.1, hE5.2.choose_spec.2.1, hE5.2.choose_spec.2.2⟩
              all_goals have HE5 := hide hE5
              all_goals clear hE5 d0 d1 d2 d3 f0 f1 f2
              all_goals go_wp2_with fail
              all_goals refine (HI2.out _ _ (HBw.out _ HB4.out) HE5.out).mono ?_
              all_goals rintro e w6 hE6
              all_goals have he6 := hE6.1
              all_goals subst he6
              all_goals have HE6 := hide hE6
              all_goals clear hE6 c0 c1q c2q c3q
              all_goals go_wp2
              all_goals go_end0
              all_goals exact HE6.out
          · obtain ⟨m, hm⟩ : ∃ m, m = a / 1024 * 1024 + 1023 := ⟨_, rfl⟩
            have o1 : bits BinOp.or IntKind.i64 a 1023 = m := by have := or_low 10 (by decide) a ha0 (by omega); rw [hm]; simp at this; omega
            have hw : IntKind.i64.wrap (m + 1) = m + 1 := by rw [IntKind.wrap_i64]; omega
            have HI1 := hide (HL1.out m (by omega) (by omega))
            have HI2 := hide (HL2.out m (by omega) (by omega))
            clear hm
            go_region
            all_goals go_wp2_with fail
            all_goals refine (HI1.out _ (HBw.out _ HB4.out)).mono ?_
            all_goals rintro e w5 hE5
            all_goals have he5 := hE5.1
            all_goals subst he5
            all_goals obtain ⟨c0, c1q, c2q, c3q⟩ := HXk.out _ _ HB4.out ⟨(_, _), hE5.2.choose_spec.1, hE5.2.choose_spec.2.1, hE5.2.choose_spec.2.2⟩
            all_goals have HE5 := hide hE5
            all_goals clear hE5 d0 d1 d2 d3 f0 f1 f2
            all_goals go_wp2_with fail
            all_goals refine (HI2.out _ _ (HBw.out _ HB4.out) HE5.out).mono ?_
            all_goals rintro e w6 hE6
            all_goals have he6 := hE6.1
            all_goals subst he6
            all_goals have HE6 := hide hE6
            all_goals clear hE6 c0 c1q c2q c3q
            all_goals go_wp2
            all_goals go_end0
            all_goals exact HE6.out
      · have HSe : Hid ((a / 4096 = b / 4096 ∨ (a % 4096 = 0 ∧ b % 4096 = 4095)) → Boxy (S.ps.take (j + 1)) a b) := HSn.out
        have a1 : bits BinOp.and IntKind.i64 a 4095 = a % 4096 := and_low 12 (by decide) a ha0 (by omega)
        have a2 : bits BinOp.and IntKind.i64 b 4095 = b % 4096 := and_low 12 (by decide) b (by omega) (by omega)
        clear HSn
        go_wp2
        by_cases c1 : a / 4096 = b / 4096
        · have HF := hide (HSe.out (.inl c1))
          clear HSe
          go_region
          all_goals go_wp2
          all_goals go_roundw
          all_goals first | exact ⟨j + 1, by omega, by go_num, HF.out, HB4.out⟩ | (simp [intOf]; omega)
        · by_cases c2 : a % 4096 = 0
          · by_cases c3 : b % 4096 = 4095
            · have HF := hide (HSe.out (.inr ⟨c2, c3⟩))
              clear HSe
              go_region
              all_goals go_wp2
              all_goals go_roundw
              all_goals first | exact ⟨j + 1, by omega, by go_num, HF.out, HB4.out⟩ | (simp [intOf]; omega)
            · obtain ⟨q, hq⟩ : ∃ q, q = b / 4096 * 4096 := ⟨_, rfl⟩
              have o1 : bits BinOp.andNot IntKind.i64 b 4095 = q := by have := andNot_low 12 (by decide) b (by omega) (by omega); rw [hq]; simp at this; omega
              have hw : IntKind.i64.wrap (q - 1) = q - 1 := by rw [IntKind.wrap_i64]; omega
              have HI1 := hide (HL1.out (q - 1) (by omega) (by omega))
              have HI2 := hide (HL2.out (q - 1) (by omega) (by omega))
              rw [Int.sub_add_cancel] at HI2
              clear hq HL1 HL2 HSe
              go_region
              all_goals go_wp2_with fail
              all_goals refine (HI1.out _ (HBw.out _ HB4.out)).mono ?_
              all_goals rintro e w5 hE5
              all_goals have he5 := hE5.1
              all_goals subst he5
              all_goals obtain ⟨c0, c1q, c2q, c3q⟩ := HXk.out _ _ HB4.out ⟨(_, _), hE5.2.choose_spec.1, hE5.2.choose_spec.2.1, hE5.2.choose_spec.2.2⟩
              all_goals have HE5 := hide hE5
              all_goals clear hE5 d0 d1 d2 d3 f0 f1 f2
              all_goals go_wp2_with fail
              all_goals refine (HI2.out _ _ (HBw.out _ HB4.out) HE5.out).mono ?_
              all_goals rintro e w6 hE6
              all_goals have he6 := hE6.1
              all_goals subst he6
              all_goals have HE6 := hide hE6
              all_goals clear hE6 c0 c1q c2q c3q
              all_goals go_wp2
              all_goals go_end0
              all_goals exact HE6.out
          · obtain ⟨m, hm⟩ : ∃ m, m = a / 4096 * 4096 + 4095 := ⟨_, rfl⟩
            have o1 : bits BinOp.or IntKind.i64 a 4095 = m := by have := or_low 12 (by decide) a ha0 (by omega); rw [hm]; simp at this; omega
            have hw : IntKind.i64.wrap (m + 1) = m + 1 := by rw [IntKind.wrap_i64]; omega
            have HI1 := hide (HL1.out m (by omega) (by omega))
            have HI2 := hide (HL2.out m (by omega) (by omega))
            clear hm
            go_region
            all_goals go_wp2_with fail
            all_goals refine (HI1.out _ (HBw.out _ HB4.out)).mono ?_
            all_goals rintro e w5 hE5
            all_goals have he5 := hE5.1
            all_goals subst he5
            all_goals obtain ⟨c0, c1q, c2q, c3q⟩ := HXk.out _ _ HB4.out ⟨(_, _), hE5.2.choose_spec.1, hE5.2.choose_spec.2.1, hE5.2.choose_spec.2.2⟩
            all_goals have HE5 := hide hE5
            all_goals clear hE5 d0 d1 d2 d3 f0 f1 f2
            all_goals go_wp2_with fail
            all_goals refine (HI2.out _ _ (HBw.out _ HB4.out) HE5.out).mono ?_
            all_goals rintro e w6 hE6
            all_goals have he6 := hE6.1
            all_goals subst he6
            all_goals have HE6 := hide hE6
            all_goals clear hE6 c0 c1q c2q c3q
            all_goals go_wp2
            all_goals go_end0
            all_goals exact HE6.out
      · have HSe : Hid ((a / 262144 = b / 262144 ∨ (a % 262144 = 0 ∧ b % 262144 = 262143)) → Boxy (S.ps.take (j + 1)) a b) := HSn.out
        have a1 : bits BinOp.and IntKind.i64 a 262143 = a % 262144 := and_low 18 (by decide) a ha0 (by omega)
        have a2 : bits BinOp.and IntKind.i64 b 262143 = b % 262144 := and_low 18 (by decide) b (by omega) (by omega)
        clear HSn
        go_wp2
        by_cases c1 : a / 262144 = b / 262144
        · have HF := hide (HSe.out (.inl c1))
          clear HSe
          go_region
          all_goals go_wp2
          all_goals go_roundw
          all_goals first | exact ⟨j + 1, by omega, by go_num, HF.out, HB4.out⟩ | (simp [intOf]; omega)
        · by_cases c2 : a % 262144 = 0
          · by_cases c3 : b % 262144 = 262143
            · have HF := hide (HSe.out (.inr ⟨c2, c3⟩))
              clear HSe
              go_region
              all_goals go_wp2
              all_goals go_roundw
              all_goals first | exact ⟨j + 1, by omega, by go_num, HF.out, HB4.out⟩ | (simp [intOf]; omega)
            · obtain ⟨q, hq⟩ : ∃ q, q = b / 262144 * 262144 := ⟨_, rfl⟩
              have o1 : bits BinOp.andNot IntKind.i64 b 262143 = q := by have := andNot_low 18 (by decide) b (by omega) (by omega); rw [hq]; simp at this; omega
              have hw : IntKind.i64.wrap (q - 1) = q - 1 := by rw [IntKind.wrap_i64]; omega
              have HI1 := hide (HL1.out (q - 1) (by omega) (by omega))
              have HI2 := hide (HL2.out (q - 1) (by omega) (by omega))
              rw [Int.sub_add_cancel] at HI2
              clear hq HL1 HL2 HSe
              go_region
              all_goals go_wp2_with fail
              all_goals refine (HI1.out _ (HBw.out _ HB4.out)).mono ?_
              all_goals rintro e w5 hE5
              all_goals have he5 := hE5.1
              all_goals subst he5
              all_goals obtain ⟨c0, c1q, c2q, c3q⟩ := HXk.out _ _ HB4.out ⟨(_, _), hE5.2.choose_spec.1, hE5.2.choose_spec.2.1, hE5.2.choose_spec.2.2⟩
              all_goals have HE5 := hide hE5
              all_goals clear hE5 d0 d1 d2 d3 f0 f1 f2
              all_goals go_wp2_with fail
              all_goals refine (HI2.out _ _ (HBw.out _ HB4.out) HE5.out).mono ?_
              all_goals rintro e w6 hE6
              all_goals have he6 := hE6.1
              all_goals subst he6
              all_goals have HE6 := hide hE6
              all_goals clear hE6 c0 c1q c2q c3q
              all_goals go_wp2
              all_goals go_end0
              all_goals exact HE6.out
          · obtain ⟨m, hm⟩ : ∃ m, m = a / 262144 * 262144 + 262143 := ⟨_, rfl⟩
            have o1 : bits BinOp.or IntKind.i64 a 262143 = m := by have := or_low 18 (by decide) a ha0 (by omega); rw [hm]; simp at this; omega
            have hw : IntKind.i64.wrap (m + 1) = m + 1 := by rw [IntKind.wrap_i64]; omega
            have HI1 := hide (HL1.out m (by omega) (by omega))
            have HI2 := hide (HL2.out m (by omega) (by omega))
            clear hm
            go_region
            all_goals go_wp2_with fail
            all_goals refine (HI1.out _ (HBw.out _ HB4.out)).mono ?_
            all_goals rintro e w5 hE5
            all_goals have he5 := hE5.1
            all_goals subst he5
            all_goals obtain ⟨c0, c1q, c2q, c3q⟩ := HXk.out _ _ HB4.out ⟨(_, _), hE5.2.choose_spec.1, hE5.2.choose_spec.2.1, hE5.2.choose_spec.2.2⟩
            all_goals have HE5 := hide hE5
            all_goals clear hE5 d0 d1 d2 d3 f0 f1 f2
            all_goals go_wp2_with fail
            all_goals refine (HI2.out _ _ (HBw.out _ HB4.out) HE5.out).mono ?_
            all_goals rintro e w6 hE6
            all_goals have he6 := hE6.1
            all_goals subst he6
            all_goals have HE6 := hide hE6
            all_goals clear hE6 c0 c1q c2q c3q
            all_goals go_wp2
            all_goals go_end0
            all_goals exact HE6.out
    · have e5 : ¬ (j : Int) < (n : Int) := by omega
      have hjn : j = n := by omega
      have HC : Hid (Calls Tryz.prog 34 #[.int .i64 a, .int .i64 b, .pointer (some ⟨bR, 0, none⟩), .pointer (some ⟨bS, 0, none⟩)] w3 fun e w' => DivE B bR S LL a b w e w') := HTk.out (HAll.out (by rw [← HN.out, ← hjn]; exact HBx.out)) w3 (HBw.out _ HB3.out)
      clear hjn
      go_wp2_with fail
      refine HC.out.mono ?_
      rintro e w5 hT5
      have he := hT5.1
      subst he
      have HF := hide hT5
      clear hT5 HC
      go_wp2
      go_end0
      exact HF.out

end Go.Proofs.YtljankfhnmcbaaaGreatDoor.SP
