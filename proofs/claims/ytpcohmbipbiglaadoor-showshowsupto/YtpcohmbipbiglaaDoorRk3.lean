/- What the reference's ShowNode answers: sets. -/
import Derived.Test.YtpcohmbipbiglaaDoorRs1
import Derived.Test.YtpcohmbipbiglaaDoorWs2
namespace Go.Proofs.YtpcohmbipbiglaaDoor
open Go.RowKit
open Go.Lib (decDigits)
set_option linter.unusedVariables false

theorem hexS_bA (p : Nat) : hexS p = bA ([92, 120, 123] ++ (hexDigits p ++ [125])) := by
  unfold hexS
  apply ByteArray.ext
  simp only [ByteArray.data_append]
  apply Array.ext'
  simp
theorem hexPoint_T (p : Int) (h0 : 0 ≤ p) (h1 : p ≤ 1114111) (w : World) : Calls Tryd.prog 23 #[.int .i64 p] w fun e w' => e = .returned (.string ⟨([92, 120, 123] ++ (hexDigits p.toNat ++ [125])).toArray⟩) ∧ Below w.heap.size w w' := by
  have := hexPoint_any p.toNat (by omega) w
  rw [show ((p.toNat : Nat) : Int) = p by omega, hexS_bA] at this
  exact this
/-- a point, as the reference shows it. -/
def hxB (p : Int) : ByteArray := ⟨([92, 120, 123] ++ (hexDigits p.toNat ++ [125])).toArray⟩
theorem hexPoint_B (p : Int) (h : 0 ≤ p ∧ p ≤ 1114111) (w : World) : Calls Tryd.prog 23 #[.int .i64 p] w fun e w' => e = .returned (.string (hxB p)) ∧ Below w.heap.size w w' := hexPoint_T p h.1 h.2 w
theorem hex0 : hexDigits 0 = [48] := by rw [hexDigits]; rfl
theorem hexMax : hexDigits 1114111 = [49, 48, 102, 102, 102, 102] := by
  rw [hexDigits, dif_neg (by omega), hexDigits, dif_neg (by omega), hexDigits, dif_neg (by omega), hexDigits, dif_neg (by omega), hexDigits, dif_neg (by omega), hexDigits, dif_pos (by omega)]
  rfl
set_option maxHeartbeats 8000000 in
set_option maxRecDepth 100000 in
theorem ref_noset (w0 : World) (n : NV) (na : Option Addr) (nl nc : Nat) (T : List UInt8) (w : World) (hw0 : Below w0.heap.size w0 w) (hs0 : n.sl = 0) (hT : T = noneT) (hk : n.kind = 2) : Calls Tryd.prog 13 #[nvV n, .slice na nl nc] w fun e w' => e = .returned (.string ⟨T.toArray⟩) ∧ Below w.heap.size w w' := by
  have hmf : ∀ (fn : Fn) (first cap : Array Value) (w : World), (Instr.makeFunc fn first cap).run Tryd.prog w = .ok (.func fn first cap) w := fun _ _ _ _ => rfl
  obtain ⟨w2, hw2⟩ : ∃ w2, w2 = (w.alloc (nvO n)).alloc (.cells #[.slice na nl nc] 32) := ⟨_, rfl⟩
  have hB := Boxes.mk2 n (.slice na nl nc) w
  rw [← hw2] at hB
  obtain ⟨bn, hbn⟩ : ∃ bn, bn = w.heap.size := ⟨_, rfl⟩
  obtain ⟨bm, hbm⟩ : ∃ bm, bm = w.heap.size + 1 := ⟨_, rfl⟩
  rw [← hbm] at hB
  have hB' : Boxes n (.slice na nl nc) w w2 bn bm := by rw [hbn]; exact hB
  clear hB
  have HB := hide hB'
  have HB0 : Hid (Below w0.heap.size w0 w2) := hw0.trans (hB'.bel.mono hw0.size)
  obtain ⟨d0, d1, d2, d3, d4, d5, d6, d7⟩ := nv_cells hB'.bn
  have qm := one_cellW hB'.bm
  rw [hk] at d0
  simp only [nvO] at hw2
  rw [hs0] at d1
  have HH0 := hide (fun W => hexPoint_T 0 (by omega) (by omega) W)
  have HH1 := hide (fun W => hexPoint_T 1114111 (by omega) (by omega) W)
  rw [show (0 : Int).toNat = 0 from rfl, hex0] at HH0
  rw [show (1114111 : Int).toNat = 1114111 from rfl, hexMax] at HH1
  simp only [List.cons_append, List.nil_append] at HH0 HH1
  subst hT
  simp only [noneT]
  clear hs0
  clear hB' hw0 hk
  go_enter Tryd.func13, Tryd.ntmps13
  go_upto_region 1 with fail
  rw [← hw2, ← hbm, ← hbn]
  clear hw2 hbm hbn
  go_wp2_with fail
  refine (HH0.out w2).mono ?_
  rintro e w3 ⟨rfl, hb3⟩
  have HB3 := hide (HB.out.keep hb3)
  clear d0 d1 d2 d3 d4 d5 d6 d7 qm hb3 HH0
  go_wp2_with fail
  refine (HH1.out w3).mono ?_
  rintro e w4 ⟨rfl, hb4⟩
  have HB4 := hide (HB3.out.keep hb4)
  clear hb4 HH1
  go_wp2
  go_ret
  exact ⟨rfl, HB4.out.bel⟩
set_option maxHeartbeats 8000000 in
set_option maxRecDepth 100000 in
theorem ref_set (w0 : World) (n : NV) (na : Option Addr) (nl nc : Nat) (T : List UInt8) (w : World) (hw0 : Below w0.heap.size w0 w) (x : Addr) (S : RL) (hsa : n.sa = some x) (hsl : n.sl = S.length) (h0 : S.length ≠ 0) (h4 : S.length ≤ 400) (hc : Cells2 w0 x S) (hok : ∀ r ∈ S, okR r) (hT : T = [91] ++ (upT (rngAt S) S.length ++ [93])) (hk : n.kind = 2) : Calls Tryd.prog 13 #[nvV n, .slice na nl nc] w fun e w' => e = .returned (.string ⟨T.toArray⟩) ∧ Below w.heap.size w w' := by
  have hmf : ∀ (fn : Fn) (first cap : Array Value) (w : World), (Instr.makeFunc fn first cap).run Tryd.prog w = .ok (.func fn first cap) w := fun _ _ _ _ => rfl
  obtain ⟨w2, hw2⟩ : ∃ w2, w2 = (w.alloc (nvO n)).alloc (.cells #[.slice na nl nc] 32) := ⟨_, rfl⟩
  have hB := Boxes.mk2 n (.slice na nl nc) w
  rw [← hw2] at hB
  obtain ⟨bn, hbn⟩ : ∃ bn, bn = w.heap.size := ⟨_, rfl⟩
  obtain ⟨bm, hbm⟩ : ∃ bm, bm = w.heap.size + 1 := ⟨_, rfl⟩
  rw [← hbm] at hB
  have hB' : Boxes n (.slice na nl nc) w w2 bn bm := by rw [hbn]; exact hB
  clear hB
  have HB := hide hB'
  have HB0 : Hid (Below w0.heap.size w0 w2) := hw0.trans (hB'.bel.mono hw0.size)
  obtain ⟨d0, d1, d2, d3, d4, d5, d6, d7⟩ := nv_cells hB'.bn
  have qm := one_cellW hB'.bm
  rw [hk] at d0
  simp only [nvO] at hw2
  rw [hsa, hsl] at d1
  have hbig : (upT (rngAt S) S.length).length ≤ 1000000000 := by
    have h1 := setT_len h4 hok
    have h2 : setT S = [91] ++ (upT (rngAt S) S.length ++ [93]) := by unfold setT; rw [if_neg h0]
    rw [h2] at h1
    simp at h1
    omega
  have HBig := hide hbig
  have HOk := hide hok
  have HCl : Hid (∀ W, Below w0.heap.size w0 W → ∀ j (hj : j < S.length), W.cell? (x.add (j * 2)) = some (.int .i64 S[j].1) ∧ W.cell? ⟨(x.add (j * 2)).block, (x.add (j * 2)).off + 1, none⟩ = some (.int .i64 S[j].2)) := fun W hW j hj =>
    ⟨below_cell hW (lt_of_cell (hc j hj).1) (hc j hj).1, below_cell hW (lt_of_cell (hc j hj).2) (hc j hj).2⟩
  have HD1 : Hid (∀ W, Boxes n (.slice na nl nc) w W bn bm → W.cell? ⟨bn, 1, none⟩ = some (.slice (some x) S.length n.sc)) := fun W hW => by
    have := (nv_cells hW.bn).c1
    rw [hsa, hsl] at this
    exact this
  obtain ⟨m, hm⟩ : ∃ m, m = S.length := ⟨_, rfl⟩
  have HM := hide hm
  rw [← hm] at d1 h0 h4 hT HD1 HBig
  have hm0 : ¬ (m : Int) = 0 := by omega
  have hmb : ((m : Int) == 0) = false := by simpa using hm0
  have HTT := hide hT
  clear hsa hsl hc hok hT hbig hm h0
  clear hB' hw0 hk
  go_enter Tryd.func13, Tryd.ntmps13
  go_upto_region 1 with fail
  rw [← hw2, ← hbm, ← hbn]
  clear hw2 hbm hbn
  go_wp2
  go_loopw [6, 7] (fun s c wr => ∃ (j : Nat), j ≤ m ∧ c = .int .i64 j ∧ s = .string ⟨(upT (rngAt S) j).toArray⟩ ∧ Boxes n (.slice na nl nc) w wr bn bm ∧ Below w0.heap.size w0 wr) (fun _ c _ => m - (intOf c).toNat)
  case atStart => exact ⟨0, Nat.zero_le _, rfl, rfl, HB.out, HB0.out⟩
  case round =>
    obtain ⟨j, hj, rfl, rfl, hB, hb0⟩ := hrel
    obtain ⟨w3, hw3⟩ : ∃ w3, w3 = wr := ⟨_, rfl⟩
    subst hw3
    have HB3 := hide hB
    have HB03 := hide hb0
    clear d0 d1 d2 d3 d4 d5 d6 d7 qm HB HB0
    have c1 := HD1.out _ hB
    clear hB hb0
    by_cases hlt : j < m
    · have hjS : j < S.length := by have := HM.out; omega
      have hokj := HOk.out S[j] (List.getElem_mem hjS)
      have hup : upT (rngAt S) (j + 1) = upT (rngAt S) j ++ rngT S[j] := by rw [upT, rngAt_at _ _ hjS]
      have hl1 := upT_le (rngAt S) (j := j + 1) (n := m) (by omega)
      have hbg := HBig.out
      have HCj : Hid (∀ W, Below w0.heap.size w0 W → W.cell? (x.add (j * 2)) = some (.int .i64 S[j].1) ∧ W.cell? ⟨(x.add (j * 2)).block, (x.add (j * 2)).off + 1, none⟩ = some (.int .i64 S[j].2)) := fun W hW => HCl.out W hW j hjS
      obtain ⟨r, hr⟩ : ∃ r, r = S[j] := ⟨_, rfl⟩
      rw [← hr] at HCj hokj hup
      obtain ⟨p, q⟩ := r
      obtain ⟨o1, o2, o3⟩ := hokj
      simp only at HCj o1 o2 o3
      obtain ⟨Hp, hHp⟩ : ∃ Hp, Hp = [92, 120, 123] ++ (hexDigits p.toNat ++ [125]) := ⟨_, rfl⟩
      obtain ⟨Hq, hHq⟩ : ∃ Hq, Hq = [92, 120, 123] ++ (hexDigits q.toNat ++ [125]) := ⟨_, rfl⟩
      have hrng : rngT (p, q) = Hp ++ ([45] ++ Hq) := by rw [hHp, hHq]; simp [rngT]
      rw [hrng] at hup
      have hlen := congrArg List.length hup
      simp only [List.length_append, List.length_cons, List.length_nil] at hlen
      obtain ⟨P1, hP1'⟩ : ∃ P1 : ByteArray, P1 = hxB p := ⟨_, rfl⟩
      obtain ⟨P2, hP2'⟩ : ∃ P2 : ByteArray, P2 = hxB q := ⟨_, rfl⟩
      have hP1 : P1 = ⟨Hp.toArray⟩ := by rw [hP1', hHp]; rfl
      have hP2 : P2 = ⟨Hq.toArray⟩ := by rw [hP2', hHq]; rfl
      obtain ⟨SS, hSS⟩ : ∃ SS : ByteArray, SS = ⟨(upT (rngAt S) j).toArray⟩ := ⟨_, rfl⟩
      have s1 : P1.size ≤ 1000000000 := by rw [hP1, bA_size]; omega
      have s2 : P2.size ≤ 1000000000 := by rw [hP2, bA_size]; omega
      have s3 : SS.size ≤ 1000000000 := by rw [hSS, bA_size]; omega
      have HH : Hid (∀ (r : Int) W, 0 ≤ r ∧ r ≤ 1114111 → Calls Tryd.prog 23 #[.int .i64 r] W fun e w' => e = .returned (.string (hxB r)) ∧ Below W.heap.size W w') := fun r W h => hexPoint_B r h W
      have oq : 0 ≤ q := by omega
      have op : p ≤ 1114111 := by omega
      have z1 : ¬ (9223372036854775807 < P1.size + ((⟨#[45]⟩ : ByteArray)).size) := by have : ((⟨#[45]⟩ : ByteArray)).size = 1 := rfl; omega
      have z2 : ¬ (9223372036854775807 < (P1 ++ (⟨#[45]⟩ : ByteArray)).size + P2.size) := by rw [ByteArray.size_append]; have : ((⟨#[45]⟩ : ByteArray)).size = 1 := rfl; omega
      have z3 : ¬ (9223372036854775807 < SS.size + (P1 ++ (⟨#[45]⟩ : ByteArray) ++ P2).size) := by rw [ByteArray.size_append, ByteArray.size_append]; have : ((⟨#[45]⟩ : ByteArray)).size = 1 := rfl; omega
      have HNx : Hid (SS ++ (P1 ++ (⟨#[45]⟩ : ByteArray) ++ P2) = ⟨(upT (rngAt S) (j + 1)).toArray⟩) := by
        show _ = _
        rw [hup, hSS, hP1, hP2]
        apply ByteArray.ext
        simp only [ByteArray.data_append]
        apply Array.ext'
        simp
      have za : ¬ (9223372036854775807 < P1.size + 1 + P2.size) := by omega
      have zb : ¬ (9223372036854775807 < P1.size + ((⟨#[45]⟩ : ByteArray)).size + P2.size) := by have : ((⟨#[45]⟩ : ByteArray)).size = 1 := rfl; omega
      have zc : ¬ (9223372036854775807 < SS.size + (P1.size + 1 + P2.size)) := by omega
      have zd : ¬ (9223372036854775807 < SS.size + (P1.size + ((⟨#[45]⟩ : ByteArray)).size + P2.size)) := by have : ((⟨#[45]⟩ : ByteArray)).size = 1 := rfl; omega
      rw [hP1', hP2'] at z2 z3 HNx za zb zc zd
      rw [hP1'] at z1
      rw [← hSS]
      have e5 : (j : Int) < (m : Int) := by omega
      have e6 : (0 : Int) ≤ (j : Int) := by omega
      have hkw : IntKind.i64.wrap ((j : Int) + 1) = (j : Int) + 1 := by rw [IntKind.wrap_i64]; omega
      have HBc : Hid (Boxes n (.slice na nl nc) w w3.drew bn bm) := HB3.out.keep ⟨rfl, rfl, rfl, Nat.le_refl _, fun _ _ => rfl⟩
      have HBc0 : Hid (Below w0.heap.size w0 w3.drew) := HB03.out.trans ⟨rfl, rfl, rfl, Nat.le_refl _, fun _ _ => rfl⟩
      clear hup hl1 hbg hr hrng hlen hHp hHq hP1 hP2 hP1' hP2' hSS s1 s2 s3 o2 hjS
      go_upto_region 12 with fail
      have g1 : w3.drew.cell? ⟨bn, 1, none⟩ = some (.slice (some x) m n.sc) := HD1.out _ HBc.out
      obtain ⟨f0, f1⟩ := HCj.out _ HBc0.out
      clear c1 HB3 HB03
      go_region_with (go_at_call 23; refine (HH.out _ _ (by constructor <;> assumption)).mono ?_; rintro e w4 ⟨rfl, hb4⟩; replace HBc := hide (HBc.out.keep hb4); replace HBc0 := hide (HBc0.out.trans (hb4.mono HBc0.out.size)); clear hb4 f0 f1 g1; obtain ⟨f0, f1⟩ := HCj.out _ HBc0.out; have g1 := HD1.out _ HBc.out)
      all_goals clear f0 f1 g1
      all_goals go_wp2
      all_goals go_roundw
      all_goals first | exact ⟨j + 1, by omega, by go_num, by rw [HNx.out], HBc.out, HBc0.out⟩ | (simp [intOf]; omega)
    · have e5 : ¬ (j : Int) < (m : Int) := by omega
      have hjm : j = m := by omega
      subst hjm
      obtain ⟨SS, hSS⟩ : ∃ SS : ByteArray, SS = ⟨(upT (rngAt S) j).toArray⟩ := ⟨_, rfl⟩
      have s3 : SS.size ≤ 1000000000 := by rw [hSS, bA_size]; exact HBig.out
      have z1 : ¬ (9223372036854775807 < ((⟨#[91]⟩ : ByteArray)).size + SS.size) := by have : ((⟨#[91]⟩ : ByteArray)).size = 1 := rfl; omega
      have z2 : ¬ (9223372036854775807 < ((⟨#[91]⟩ : ByteArray) ++ SS).size + ((⟨#[93]⟩ : ByteArray)).size) := by rw [ByteArray.size_append]; have : ((⟨#[91]⟩ : ByteArray)).size = 1 := rfl; have h2 : ((⟨#[93]⟩ : ByteArray)).size = 1 := rfl; omega
      have HR : Hid ((⟨T.toArray⟩ : ByteArray) = (⟨#[91]⟩ : ByteArray) ++ SS ++ ⟨#[93]⟩) := by
        show _ = _
        rw [HTT.out, hSS]
        apply ByteArray.ext
        simp only [ByteArray.data_append]
        apply Array.ext'
        simp
      rw [← hSS]
      clear hSS s3
      go_wp2
      go_ret
      exact ⟨by rw [HR.out]; rfl, HB3.out.bel⟩

end Go.Proofs.YtpcohmbipbiglaaDoor
