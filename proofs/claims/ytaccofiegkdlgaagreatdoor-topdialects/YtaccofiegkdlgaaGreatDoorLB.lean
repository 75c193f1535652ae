import Derived.Test.YtaccofiegkdlgaaGreatDoorLA
import Derived.Defers
import Derived.Recover
import Derived.RegionTactic
namespace Go.Proofs.YtaccofiegkdlgaaGreatDoor.Br
set_option maxHeartbeats 16000000
open Go.RowKit
open TK (Mv PatV ReadsI byteA add_block)
set_option linter.unusedVariables false
set_option maxRecDepth 100000
variable {w w' : World} {b : Nat} {v : Value} {l : List Int} {i : Nat} {d : Int} {fo : Bool}
structure AndR (rec : Rec) (l : List Int) (first deep k : Nat) (f : PS) (d : Int) (fo : Bool) (m : Nat) (g : PS) : Prop where
 rest : ∃ n, andsE (par d fo) rec l first deep (l.length + 2 - k) k f = andsE (par d fo) rec l first deep n m g ∧ l.length + 2 ≤ n + m
 km : k ≤ m
theorem andR_start (rec : Rec) (l : List Int) (first deep k : Nat) (f : PS) (d : Int) (fo : Bool) (hk : k ≤ l.length) : AndR rec l first deep k f d fo k f := ⟨⟨_, rfl, by omega⟩, Nat.le_refl _⟩
theorem andR_end {rec : Rec} {first deep k m : Nat} {f g : PS} (h : AndR rec l first deep k f d fo m g) (hm : m ≤ l.length) (ha : ((d == 1) && isAt l m [38, 38]) = false) : andsE (par d fo) rec l first deep (l.length + 2 - k) k f = .ok (g, m) := by
 obtain ⟨⟨n, h1, h2⟩, h3⟩ := h
 obtain ⟨n, rfl⟩ : ∃ n', n = n' + 1 := ⟨n - 1, by omega⟩
 rw [h1]
 unfold andsE
 exact if_neg (by rw [show isAnd (par d fo) l m = false from ha]; simp)
theorem andR_step {rec : Rec} {first deep k m : Nat} {f g : PS} (h : AndR rec l first deep k f d fo m g) (hm : m ≤ l.length) (ha : ((d == 1) && isAt l m [38, 38]) = true) : ∃ n, l.length + 2 ≤ n + 1 + m ∧ andsE (par d fo) rec l first deep (l.length + 2 - k) k f = (match partE (par d fo) rec l first deep (m + 2) with
   | .error e => .error e
   | .ok (f, k) => match meetE (par d fo) g f with
    | .error e => .error e
    | .ok g => andsE (par d fo) rec l first deep n k g) := by
 obtain ⟨⟨n, h1, h2⟩, h3⟩ := h
 obtain ⟨n, rfl⟩ : ∃ n', n = n' + 1 := ⟨n - 1, by omega⟩
 refine ⟨n, h2, ?_⟩
 rw [h1]
 conv => lhs; unfold andsE
 exact if_pos ha
theorem andR_next {rec : Rec} {first deep k m k2 : Nat} {f g f2 g2 : PS} (h : AndR rec l first deep k f d fo m g) (hm : m ≤ l.length) (ha : ((d == 1) && isAt l m [38, 38]) = true) (hp : partE (par d fo) rec l first deep (m + 2) = .ok (f2, k2)) (hk2 : m + 2 < k2) (hme : meetE (par d fo) g f2 = .ok g2) : AndR rec l first deep k f d fo k2 g2 := by
 obtain ⟨n, h1, h2⟩ := andR_step h hm ha
 rw [hp] at h2
 simp only [hme] at h2
 exact ⟨⟨n, h2, by omega⟩, by have := h.km; omega⟩
theorem andR_part {rec : Rec} {first deep k m : Nat} {f g : PS} {z : BE} (h : AndR rec l first deep k f d fo m g) (hm : m ≤ l.length) (ha : ((d == 1) && isAt l m [38, 38]) = true) (hp : partE (par d fo) rec l first deep (m + 2) = .error z) : andsE (par d fo) rec l first deep (l.length + 2 - k) k f = .error z := by
 obtain ⟨n, h1, h2⟩ := andR_step h hm ha
 rw [hp] at h2
 exact h2
theorem andR_meet {rec : Rec} {first deep k m k2 : Nat} {f g f2 : PS} {z : BE} (h : AndR rec l first deep k f d fo m g) (hm : m ≤ l.length) (ha : ((d == 1) && isAt l m [38, 38]) = true) (hp : partE (par d fo) rec l first deep (m + 2) = .ok (f2, k2)) (hme : meetE (par d fo) g f2 = .error z) : andsE (par d fo) rec l first deep (l.length + 2 - k) k f = .error z := by
 obtain ⟨n, h1, h2⟩ := andR_step h hm ha
 rw [hp] at h2
 simp only [hme] at h2
 exact h2
theorem body_part {rec : Rec} {deep : Nat} {z : BE} (hp : partE (par d fo) rec l i deep i = .error z) : bodyE (par d fo) rec l i deep = .error z := by unfold bodyE; rw [hp]
theorem body_ands {rec : Rec} {deep k : Nat} {f : PS} {z : BE} (hp : partE (par d fo) rec l i deep i = .ok (f, k)) (ha : andsE (par d fo) rec l i deep (l.length + 2 - k) k f = .error z) : bodyE (par d fo) rec l i deep = .error z := by unfold bodyE; rw [hp]; simp only [ha]
theorem body_ok {rec : Rec} {deep k m : Nat} {f g : PS} (hp : partE (par d fo) rec l i deep i = .ok (f, k)) (ha : andsE (par d fo) rec l i deep (l.length + 2 - k) k f = .ok (g, m)) : bodyE (par d fo) rec l i deep = .ok (g, if isAt l m [93] then m + 1 else m) := by unfold bodyE; rw [hp]; simp only [ha]
theorem expr_no {rec : Rec} {deep : Nat} (h : isAt l i [94] = false) : exprG (par d fo) rec l i deep = bodyE (par d fo) rec l i deep := by unfold exprG; exact if_neg (by rw [h]; simp)
theorem expr_yes {rec : Rec} {deep : Nat} (h : isAt l i [94] = true) : exprG (par d fo) rec l i deep = match bodyE (par d fo) rec l (i + 1) deep with
  | .error e => .error e
  | .ok (f, k) => match notE (par d fo) f with
   | .error e => .error e
   | .ok g => .ok (g, k) := by unfold exprG; exact if_pos h
noncomputable def turnE (d : Int) (fo turned : Bool) (B : Except BE (PS × Nat)) : Except BE (PS × Nat) := if turned then (match B with
  | .error e => .error e
  | .ok (f, k) => match notE (par d fo) f with
   | .error e => .error e
   | .ok g => .ok (g, k)) else B
theorem expr_turned {rec : Rec} {deep : Nat} : exprG (par d fo) rec l i deep = turnE d fo (isAt l i [94]) (bodyE (par d fo) rec l (if isAt l i [94] then i + 1 else i) deep) := by
 cases h : isAt l i [94] with
 | true => rw [expr_yes h]; rfl
 | false => rw [expr_no h]; rfl
theorem turn_err {z : BE} (t : Bool) : turnE d fo t (.error z) = .error z := by cases t <;> rfl
theorem expr_any (rec : Rec) (deep : Nat) (hdp : deep ≤ 20) (hrec : deep < 20 → RecOk rec b v l d fo (deep + 1)) (h : BB w b v l i d fo) : Calls Tryz.prog 116 #[.pointer (some ⟨b, 0, none⟩), .int .i64 deep] w fun e w' => OutS (exprG (par d fo) rec l i deep) b v l i d fo w e w' := by
 have hat := h.at'
 have hsm := h.small
 have hbw := h.lt
 have HPa := hide (fun w1 first k (hr : BB w1 b v l k d fo) => part_any rec first deep hdp hrec hr)
 have HS := hide (skip1 h 94)
 have hE := expr_turned (d := d) (fo := fo) (l := l) (i := i) (rec := rec) (deep := deep)
 obtain ⟨R, hRR⟩ : ∃ R : Except BE (PS × Nat), R = exprG (par d fo) rec l i deep := ⟨_, rfl⟩
 rw [← hRR] at hE ⊢
 obtain ⟨T, hT⟩ : ∃ T, T = isAt l i [94] := ⟨_, rfl⟩
 rw [← hT] at HS hE
 obtain ⟨j, hj⟩ : ∃ j, j = if T = true then i + 1 else i := ⟨_, rfl⟩
 rw [← hj] at HS hE
 have HE := hide hE
 have HIJ : Hid (i ≤ j) := by show _ ≤ _; rw [hj]; split <;> omega
 clear h hrec hRR hE hT hj
 go_enter Tryz.func116, Tryz.ntmps116
 go_wp2_with fail
 refine HS.out.mono ?_
 rintro e w1 ⟨rfl, hr1, hm1⟩
 have HR1 := hide hr1
 have HM1 := hide hm1
 obtain ⟨c0, c1, c2, c3, f1⟩ := hr1.cells
 have HX := hide (HPa.out w1 j j hr1)
 clear hr1 hm1 HS c0 c2 c3 f1
 go_wp2_with fail
 refine HX.out.mono ?_
 rintro e w2 (⟨f, k, sv, L, hp, rfl, ho2, hs2, hr2, hjk, hm2⟩ | ⟨z, a, hp, rfl, hm2⟩)
 case inr =>
  have HEz : Hid (R = .error (z, a)) := HE.out.trans (by rw [body_part hp]; exact turn_err T)
  have HM2 := hide (HM1.out.trans hm2)
  clear hp hm2 HX HPa
  simp only [givesF]
  go_wp2
  exact ⟨rfl, .inr ⟨z, a, HEz.out, rfl, HM2.out⟩⟩
 have HP := hide hp
 have HM2 := hide (HM1.out.trans hm2)
 have HO2 := hide (ho2.low HM1.out.size)
 have HS2 := hide hs2
 have HR2 := hide hr2
 have HJK := hide hjk
 have HA0 := hide (andR_start rec l j deep k f d fo hr2.at')
 obtain ⟨ao, ca, hsv⟩ := ho2.shape
 rw [hsv] at HO2 ⊢
 clear hp ho2 hs2 hr2 hjk hm2 hsv HX HR1 HM1 c1
 go_wp2
 go_loopw [7] (fun u wr => ∃ (m : Nat) (g : PS) (G : RL), AndR rec l j deep k f d fo m g ∧ OR wr w.heap.size u G ∧ IsSet g G ∧ BB wr b v l m d fo ∧ Mv b w wr) (fun _ wr => 300 - atOf wr b)
 case atStart => exact ⟨k, f, L, HA0.out, HO2.out, HS2.out, HR2.out, HM2.out⟩
 case round =>
  obtain ⟨m, g, G, hA, ho, hg, hr, hv⟩ := hrel
  have HA := hide hA
  have HO := hide ho
  have HG := hide hg
  have HR := hide hr
  have HV := hide hv
  have hml := hr.at'
  have hAt := hide hr.atOf
  obtain ⟨uo, uc, hu⟩ := ho.shape
  obtain ⟨n, hn⟩ : ∃ n, n = G.length := ⟨_, rfl⟩
  rw [← hn] at hu
  have HU := hide hu
  rw [hu]
  clear hA ho hg hr hv hn hu HA0 HO2 HS2 HR2 HM2
  cases hd : (d == 1) with
  | false =>
   have HEa := hide (body_ok HP.out (andR_end HA.out hml (by rw [hd]; rfl)))
   go_wp2_with fail
   refine (ruby_is HR.out hd).mono ?_
   rintro e w3' ⟨rfl, rfl⟩
   clear hAt HPa
   obtain ⟨m', hm'⟩ : ∃ m', m' = if isAt l m [93] = true then m + 1 else m := ⟨_, rfl⟩
   have HIM : Hid (i < m') := by
    show _ < _
    have h1 := HIJ.out
    have h2 := HJK.out
    have h3 := HA.out.km
    rw [hm']
    split <;> omega
   have HSk := hide (skip1 HR.out 93)
   rw [← hm'] at HSk HEa
   obtain ⟨zz, hzz⟩ : ∃ zz, zz = isAt l m [93] := ⟨_, rfl⟩
   rw [← hzz] at HSk
   have HOx := hide HO.out
   rw [HU.out] at HOx
   clear hm' hzz HU HA HP
   go_wp2_with fail
   refine HSk.out.mono ?_
   rintro e w5 ⟨rfl, hr5, hm5⟩
   have HR5 := hide hr5
   have HV5 := hide (HV.out.trans hm5)
   have HO5 := hide (HOx.out.mv hm5 hbw)
   clear hr5 hm5 HSk HOx HR HV
   cases T with
   | false =>
    have HEr : Hid (R = .ok (g, m')) := HE.out.trans (by rw [HEa.out]; rfl)
    have HF := hide (OutS.inl' (i := i) HEr.out HO5.out HG.out HR5.out HIM.out HV5.out)
    clear HEa HE
    go_wp2
    go_ret
    exact HF.out
   | true =>
    have HEr : Hid (R = match notE (par d fo) g with | .error e => .error e | .ok g => .ok (g, m')) := HE.out.trans (by rw [HEa.out]; rfl)
    have HN := hide (not_any _ G w5 HO5.out.reads)
    clear HEa HE
    go_wp2_with fail
    refine HN.out.mono ?_
    rintro e w6 ⟨v6, err, O6, rfl, ho6, hmd6, hb6⟩
    have HV6 := hide (Mv.then HV5.out hb6)
    have HR6 := hide (HR5.out.keep hb6)
    have HO6 : Hid (OR w6 w.heap.size v6 O6) := own_low ho6 HV5.out.size
    obtain ⟨ao6, c6, hv6⟩ := own_shape ho6
    obtain ⟨n6, hn6⟩ : ∃ n6, n6 = O6.length := ⟨_, rfl⟩
    rw [← hn6] at hv6
    rw [hv6] at HO6 ⊢
    rcases bridge_not (d := d) (fo := fo) HG.out hmd6 with ⟨h1, h2⟩ | ⟨h1, h2, h3⟩
    ·have HE2 : Hid (R = .error (2, 0)) := HEr.out.trans (by rw [h1])
     rw [h2]
     have HM := hide (made_no ao6 n6 c6 2 (by decide) w6)
     simp only [givesF] at HM
     clear h1 h2 hmd6 ho6 hv6 hb6 hn6 HN HEr HO6
     go_wp2_with fail
     refine HM.out.mono ?_
     rintro e w7 ⟨rfl, rfl⟩
     go_wp2
     exact ⟨rfl, .inr ⟨2, 0, HE2.out, rfl, HV6.out⟩⟩
    ·have HE2 : Hid (R = .ok (fun q => !g q, m')) := HEr.out.trans (by rw [h1])
     rw [h2]
     have HM := hide (made_ok ao6 n6 c6 w6)
     have HF := hide (OutS.inl' (i := i) HE2.out HO6.out h3 HR6.out HIM.out HV6.out)
     clear h1 h2 hmd6 ho6 hv6 hb6 hn6 HN HEr h3 HO6
     go_wp2_with fail
     refine HM.out.mono ?_
     rintro e w7 ⟨rfl, rfl⟩
     go_wp2
     go_ret
     exact HF.out
  | true =>
   cases h38 : isAt l m [38, 38] with
   | false =>
    have HEa := hide (body_ok HP.out (andR_end HA.out hml (by rw [hd, h38]; rfl)))
    have HS4 := hide (skip2_no HR.out 38 38 h38)
    go_wp2_with fail
    refine (ruby_is HR.out hd).mono ?_
    rintro e w3' ⟨rfl, rfl⟩
    go_wp2_with fail
    refine HS4.out.mono ?_
    rintro e w4 ⟨rfl, hr4, hm4⟩
    have HR4 := hide hr4
    have HV4 := hide (HV.out.trans hm4)
    have HO4 := hide (HO.out.mv hm4 hbw)
    clear hr4 hm4 HS4 HR HV HO h38 hAt HPa
    obtain ⟨m', hm'⟩ : ∃ m', m' = if isAt l m [93] = true then m + 1 else m := ⟨_, rfl⟩
    have HIM : Hid (i < m') := by
     show _ < _
     have h1 := HIJ.out
     have h2 := HJK.out
     have h3 := HA.out.km
     rw [hm']
     split <;> omega
    have HSk := hide (skip1 HR4.out 93)
    rw [← hm'] at HSk HEa
    obtain ⟨zz, hzz⟩ : ∃ zz, zz = isAt l m [93] := ⟨_, rfl⟩
    rw [← hzz] at HSk
    have HOx := hide HO4.out
    rw [HU.out] at HOx
    clear hm' hzz HU HA HP
    go_wp2_with fail
    refine HSk.out.mono ?_
    rintro e w5 ⟨rfl, hr5, hm5⟩
    have HR5 := hide hr5
    have HV5 := hide (HV4.out.trans hm5)
    have HO5 := hide (HOx.out.mv hm5 hbw)
    clear hr5 hm5 HSk HOx HR4 HV4
    cases T with
    | false =>
     have HEr : Hid (R = .ok (g, m')) := HE.out.trans (by rw [HEa.out]; rfl)
     have HF := hide (OutS.inl' (i := i) HEr.out HO5.out HG.out HR5.out HIM.out HV5.out)
     clear HEa HE
     go_wp2
     go_ret
     exact HF.out
    | true =>
     have HEr : Hid (R = match notE (par d fo) g with | .error e => .error e | .ok g => .ok (g, m')) := HE.out.trans (by rw [HEa.out]; rfl)
     have HN := hide (not_any _ G w5 HO5.out.reads)
     clear HEa HE
     go_wp2_with fail
     refine HN.out.mono ?_
     rintro e w6 ⟨v6, err, O6, rfl, ho6, hmd6, hb6⟩
     have HV6 := hide (Mv.then HV5.out hb6)
     have HR6 := hide (HR5.out.keep hb6)
     have HO6 : Hid (OR w6 w.heap.size v6 O6) := own_low ho6 HV5.out.size
     obtain ⟨ao6, c6, hv6⟩ := own_shape ho6
     obtain ⟨n6, hn6⟩ : ∃ n6, n6 = O6.length := ⟨_, rfl⟩
     rw [← hn6] at hv6
     rw [hv6] at HO6 ⊢
     rcases bridge_not (d := d) (fo := fo) HG.out hmd6 with ⟨h1, h2⟩ | ⟨h1, h2, h3⟩
     ·have HE2 : Hid (R = .error (2, 0)) := HEr.out.trans (by rw [h1])
      rw [h2]
      have HM := hide (made_no ao6 n6 c6 2 (by decide) w6)
      simp only [givesF] at HM
      clear h1 h2 hmd6 ho6 hv6 hb6 hn6 HN HEr HO6
      go_wp2_with fail
      refine HM.out.mono ?_
      rintro e w7 ⟨rfl, rfl⟩
      go_wp2
      exact ⟨rfl, .inr ⟨2, 0, HE2.out, rfl, HV6.out⟩⟩
     ·have HE2 : Hid (R = .ok (fun q => !g q, m')) := HEr.out.trans (by rw [h1])
      rw [h2]
      have HM := hide (made_ok ao6 n6 c6 w6)
      have HF := hide (OutS.inl' (i := i) HE2.out HO6.out h3 HR6.out HIM.out HV6.out)
      clear h1 h2 hmd6 ho6 hv6 hb6 hn6 HN HEr h3 HO6
      go_wp2_with fail
      refine HM.out.mono ?_
      rintro e w7 ⟨rfl, rfl⟩
      go_wp2
      go_ret
      exact HF.out
   | true =>
    have HDA : Hid (((d == 1) && isAt l m [38, 38]) = true) := by show _ = _; rw [hd, h38]; rfl
    have HS4 := hide (skip2_yes HR.out 38 38 h38)
    go_wp2_with fail
    refine (ruby_is HR.out hd).mono ?_
    rintro e w3' ⟨rfl, rfl⟩
    go_wp2_with fail
    refine HS4.out.mono ?_
    rintro e w4 ⟨rfl, hr4, hm4⟩
    have HV4 := hide (HV.out.trans hm4)
    have HO4 := hide (HO.out.mv hm4 hbw)
    have HX := hide (HPa.out w4 j (m + 2) hr4)
    clear hr4 hm4 HS4 HR HV HO h38
    go_wp2_with fail
    refine HX.out.mono ?_
    rintro e w5 (⟨f2, k2, sv2, L2, hp2, rfl, ho5, hs5, hr5, hjk5, hm5⟩ | ⟨z, a, hp2, rfl, hm5⟩)
    case inr =>
     have HEz : Hid (R = .error (z, a)) := HE.out.trans (by rw [body_ands HP.out (andR_part HA.out hml HDA.out hp2)]; exact turn_err T)
     have HM5 := hide (HV4.out.trans hm5)
     clear hp2 hm5 HX HPa
     simp only [givesF]
     go_wp2
     exact ⟨rfl, .inr ⟨z, a, HEz.out, rfl, HM5.out⟩⟩
    have HV5 := hide (HV4.out.trans hm5)
    have HR5 := hide hr5
    have HS5 := hide hs5
    have HP2 := hide hp2
    have HMK := hide hjk5
    have HOa := hide (HO4.out.mv hm5 hbw)
    have HOb := hide ho5
    have HMt := hide (meet_any _ sv2 G L2 w5 HOa.out.reads HOb.out.reads)
    rw [HU.out] at HMt
    obtain ⟨bo, bc, hsv2⟩ := ho5.shape
    obtain ⟨n2, hn2⟩ : ∃ n2, n2 = L2.length := ⟨_, rfl⟩
    rw [← hn2] at hsv2
    rw [hsv2] at HMt ⊢
    clear hp2 ho5 hs5 hr5 hjk5 hm5 hsv2 hn2 HX HV4 HO4 HOa HOb
    go_wp2_with fail
    refine HMt.out.mono ?_
    rintro e w6 ⟨v6, err, O6, rfl, ho6, hmd6, hb6⟩
    have HV6 := hide (Mv.then HV5.out hb6)
    have HR6 := hide (HR5.out.keep hb6)
    have HO6 : Hid (OR w6 w.heap.size v6 O6) := own_low ho6 HV5.out.size
    obtain ⟨ao6, c6, hv6⟩ := own_shape ho6
    obtain ⟨n6, hn6⟩ : ∃ n6, n6 = O6.length := ⟨_, rfl⟩
    rw [← hn6] at hv6
    rw [hv6] at HO6 ⊢
    rcases bridge_meet (d := d) (fo := fo) HG.out HS5.out hmd6 with ⟨h1, h2⟩ | ⟨h1, h2, h3⟩
    ·have HE2 : Hid (R = .error (2, 0)) := HE.out.trans (by rw [body_ands HP.out (andR_meet HA.out hml HDA.out HP2.out h1)]; exact turn_err T)
     rw [h2]
     have HM := hide (made_no ao6 n6 c6 2 (by decide) w6)
     simp only [givesF] at HM
     clear h1 h2 hmd6 ho6 hv6 hb6 hn6 HMt HO6 HPa
     go_wp2_with fail
     refine HM.out.mono ?_
     rintro e w7 ⟨rfl, rfl⟩
     go_wp2
     exact ⟨rfl, .inr ⟨2, 0, HE2.out, rfl, HV6.out⟩⟩
    ·have HAn := hide (andR_next HA.out hml HDA.out HP2.out HMK.out h1)
     rw [h2]
     have HM := hide (made_ok ao6 n6 c6 w6)
     have H3 := hide h3
     clear h1 h2 hmd6 ho6 hv6 hb6 hn6 HMt h3
     go_wp2_with fail
     refine HM.out.mono ?_
     rintro e w7 ⟨rfl, rfl⟩
     go_wp2
     go_roundw
     case rel => exact ⟨k2, _, O6, HAn.out, HO6.out, H3.out, HR6.out, HV6.out⟩
     case measure => rw [HR6.out.atOf, hAt.out]; have := HMK.out; have := HR6.out.at'; have := HR6.out.small; omega
theorem expr_all : ∀ (n deep : Nat), deep + n = 21 → 1 ≤ n → RecOk (exprF (par d fo) n) b v l d fo deep
 | 0, deep, h1, h2 => by omega
 | n + 1, deep, h1, h2 => fun w i h => expr_any (exprF (par d fo) n) deep (by omega) (fun hd => expr_all n (deep + 1) (by omega) (by omega)) h
end Go.Proofs.YtaccofiegkdlgaaGreatDoor.Br
namespace Go.Proofs.YtaccofiegkdlgaaGreatDoor.Br
set_option maxHeartbeats 2000000
open Go.RowKit
open TK (Mv PatV ReadsI byteA add_block heap_hit peel)
set_option linter.unusedVariables false
set_option maxRecDepth 100000
variable {w w' : World} {b : Nat} {v : Value} {l : List Int} {i : Nat} {d : Int} {fo : Bool}
def slO (sv : Value) : Obj := .cells #[sv] 25 (0, 0)
def inO (k : Int) : Obj := .cells #[.int .i64 k] 3 (0, 0)
def fauO (e a : Int) : Obj := .cells #[.int .i64 e, .int .i64 a] 34 (0, 0)
theorem fau_cells {N : Nat} {e a : Int} (h : w.heap[N]? = some (fauO e a)) : w.cell? ⟨N, 0, none⟩ = some (.int .i64 e) ∧ w.cell? ⟨N, 1, none⟩ = some (.int .i64 a) ∧ ∀ o, w.frozen? ⟨N, o, none⟩ = false := by
 unfold fauO at h
 refine ⟨?_, ?_, fun o => ?_⟩ <;> simp [World.cell?, World.frozen?, h]
theorem sl_cells {N : Nat} {sv : Value} (h : w.heap[N]? = some (slO sv)) : w.cell? ⟨N, 0, none⟩ = some sv ∧ w.frozen? ⟨N, 0, none⟩ = false := by
 unfold slO at h
 refine ⟨?_, ?_⟩ <;> simp [World.cell?, World.frozen?, h]
theorem in_cells {N : Nat} {k : Int} (h : w.heap[N]? = some (inO k)) : w.cell? ⟨N, 0, none⟩ = some (.int .i64 k) ∧ w.frozen? ⟨N, 0, none⟩ = false := by
 unfold inO at h
 refine ⟨?_, ?_⟩ <;> simp [World.cell?, World.frozen?, h]
theorem catch_idle (p q r : Addr) (w : World) :
  CallsD Tryz.prog 115 #[.pointer (some p), .pointer (some q), .pointer (some r)] .returning w fun e u' w' => e = .returned (.tuple #[]) ∧ u' = .returning ∧ w' = w := by
 have hnn : ∀ w, (binOp .neq 20 .nilIface .nilIface).run Tryz.prog w = .ok (.bool false) w := fun w => by kernel_rfl
 refine callsD_of_wpS Tryz.func115 rfl fun c₀ cs hu => ?_
 apply wpS_seq
 apply wpS_region
 simp [wpOpsS, go_sem, recoverD, hu, Tryz.ntmps115, Exit.thenS]
 apply wpS_seq
 apply wpS_region
 simp [wpOpsS, go_sem, hnn, Exit.thenS]
 refine wpS_cond (t := false) (by simp [Act.eval, Array.replicate]) ?_
 simp only [Bool.false_eq_true, if_false]
 refine wpS_of_wp (wp_skip ?_)
 cases c₀
 simp_all [bodyPostS, results, Tryz.results115]
theorem catch_some (n m k : Nat) (z c : Int) (w : World) (h1 : n < m) (h2 : m < k) {sv : Value} {a e e2 : Int} (ht : w.heap[n]? = some (slO sv)) (hm : w.heap[m]? = some (inO a)) (hk : w.heap[k]? = some (fauO e e2)) :
  CallsD Tryz.prog 115 #[.pointer (some ⟨n, 0, none⟩), .pointer (some ⟨m, 0, none⟩), .pointer (some ⟨k, 0, none⟩)] (.panicking [{ v := .iface 34 (.agg #[.int .i64 z, .int .i64 c]), recovered := false }]) w fun e u' w' => e = .returned (.tuple #[]) ∧ u' = .panicking [{ v := .iface 34 (.agg #[.int .i64 z, .int .i64 c]), recovered := true }] ∧ w'.heap[n]? = some (slO (.slice none 0 0)) ∧ w'.heap[m]? = some (inO 0) ∧ w'.heap[k]? = some (fauO z c) ∧ Below n w w' := by
 have hta : ∀ w, (Instr.typeAssert (.iface 34 (.agg #[.int .i64 z, .int .i64 c])) 20 34 false).run Tryz.prog w = .ok (.agg #[.int .i64 z, .int .i64 c]) w := fun w => by kernel_rfl
 have hnn : ∀ x w, (binOp .neq 20 (.iface 34 x) .nilIface).run Tryz.prog w = .ok (.bool true) w := fun x w => by rfl
 refine callsD_of_wpS Tryz.func115 rfl fun c₀ cs hu => ?_
 apply wpS_seq
 apply wpS_region
 simp [wpOpsS, go_sem, recoverD, hu, Tryz.ntmps115, Exit.thenS]
 apply wpS_seq
 apply wpS_region
 simp [wpOpsS, go_sem, hnn, Exit.thenS]
 refine wpS_cond (t := true) (by simp [Act.eval, Array.replicate]) ?_
 simp only [if_true]
 refine wpS_of_wp ?_
 obtain ⟨m0, fr0⟩ := sl_cells ht
 obtain ⟨cm, fm⟩ := in_cells hm
 obtain ⟨ck, ck2, fk⟩ := fau_cells hk
 have q1 : ¬ n = m := by omega
 have q2 : ¬ m = n := by omega
 have q3 : ¬ n = k := by omega
 have q4 : ¬ k = n := by omega
 have q5 : ¬ m = k := by omega
 have q6 : ¬ k = m := by omega
 have ne_nm : ∀ (X : World) u, (X.setCell ⟨m, 0, none⟩ u).heap[n]? = X.heap[n]? := fun X u => Below.heap_setCell _ _ _ _ q1
 have ne_nk : ∀ (X : World) o u, (X.setCell ⟨k, o, none⟩ u).heap[n]? = X.heap[n]? := fun X o u => Below.heap_setCell _ _ _ _ q3
 have ne_mn : ∀ (X : World) u, (X.setCell ⟨n, 0, none⟩ u).heap[m]? = X.heap[m]? := fun X u => Below.heap_setCell _ _ _ _ q2
 have ne_mk : ∀ (X : World) o u, (X.setCell ⟨k, o, none⟩ u).heap[m]? = X.heap[m]? := fun X o u => Below.heap_setCell _ _ _ _ q5
 have ne_kn : ∀ (X : World) u, (X.setCell ⟨n, 0, none⟩ u).heap[k]? = X.heap[k]? := fun X u => Below.heap_setCell _ _ _ _ q4
 have ne_km : ∀ (X : World) u, (X.setCell ⟨m, 0, none⟩ u).heap[k]? = X.heap[k]? := fun X u => Below.heap_setCell _ _ _ _ q6
 have dr : ∀ (X : World), X.drew.heap = X.heap := fun X => rfl
 unfold slO at ht
 unfold inO at hm
 unfold fauO at hk
 go_region
 all_goals
  refine ⟨rfl, _, rfl, .tuple #[], by simp [results, Tryz.results115], rfl, rfl, ?_, ?_, ?_, ?_⟩
  ·simp only [dr, ne_nm, ne_nk, heap_hit, ht, Option.map_some, slO]
   simp
  ·simp only [dr, ne_mn, ne_mk, heap_hit, hm, Option.map_some, inO]
   simp
  ·simp only [dr, ne_kn, ne_km, heap_hit, hk, Option.map_some, fauO]
   simp
  ·refine Below.drew ?_
   repeat refine Below.setCell ?_ (by first | exact Nat.le_refl _ | exact Nat.le_of_lt h1 | exact Nat.le_of_lt (Nat.lt_trans h1 h2)) _
   exact Below.refl _ _
abbrev dfr (N : Nat) : List Deferred := [{ target := Target.fn (Fn.func 115) #[.pointer (some ⟨N, 0, none⟩), .pointer (some ⟨N + 1, 0, none⟩), .pointer (some ⟨N + 1 + 1, 0, none⟩)], args := #[] }]
theorem leave_ok {tmps : Array Value} {W : World} {N : Nat} {sv : Value} {k e a : Int} {R : Ending → World → Prop} (h8 : tmps[8]? = some (.pointer (some ⟨N, 0, none⟩))) (h9 : tmps[9]? = some (.pointer (some ⟨N + 1, 0, none⟩))) (h10 : tmps[10]? = some (.pointer (some ⟨N + 1 + 1, 0, none⟩)))
  (q0 : W.heap[N]? = some (slO sv)) (q1 : W.heap[N + 1]? = some (inO k)) (q2 : W.heap[N + 1 + 1]? = some (fauO e a)) (hF : R (.returned (.tuple #[sv, .int .i64 k, .agg #[.int .i64 e, .int .i64 a]])) W) :
  bodyPostD Tryz.prog Tryz.f95 R Exit.ret { tmps := tmps, defers := dfr N } W := by
 obtain ⟨m0, -⟩ := sl_cells q0
 obtain ⟨c1, -⟩ := in_cells q1
 obtain ⟨c2, c3, -⟩ := fau_cells q2
 refine leaves_cons (f := 115) (args := #[.pointer (some ⟨N, 0, none⟩), .pointer (some ⟨N + 1, 0, none⟩), .pointer (some ⟨N + 1 + 1, 0, none⟩)]) (by simp) (by simp [go_sem]) ?_
 refine (catch_idle _ _ _ _).mono ?_
 rintro e u' w2 ⟨rfl, rfl, rfl⟩
 simp [Leaves, settle, results, Tryz.results95, go_sem, h8, h9, h10, m0, c1, c2, c3]
 exact hF
theorem leave_bad {tmps : Array Value} {W : World} {N : Nat} {sv : Value} {k e a z c : Int} {R : Ending → World → Prop} (h8 : tmps[8]? = some (.pointer (some ⟨N, 0, none⟩))) (h9 : tmps[9]? = some (.pointer (some ⟨N + 1, 0, none⟩))) (h10 : tmps[10]? = some (.pointer (some ⟨N + 1 + 1, 0, none⟩)))
  (q0 : W.heap[N]? = some (slO sv)) (q1 : W.heap[N + 1]? = some (inO k)) (q2 : W.heap[N + 1 + 1]? = some (fauO e a)) (hF : ∀ W', Below N W W' → R (.returned (.tuple #[.slice none 0 0, .int .i64 0, .agg #[.int .i64 z, .int .i64 c]])) W') :
  bodyPostD Tryz.prog Tryz.f95 R (Exit.panic [{ v := .iface 34 (.agg #[.int .i64 z, .int .i64 c]), recovered := false }]) { tmps := tmps, defers := dfr N } W := by
 refine leaves_cons (f := 115) (args := #[.pointer (some ⟨N, 0, none⟩), .pointer (some ⟨N + 1, 0, none⟩), .pointer (some ⟨N + 1 + 1, 0, none⟩)]) (by simp) (by simp [go_sem]) ?_
 refine (catch_some N (N + 1) (N + 1 + 1) z c W (by omega) (by omega) q0 q1 q2).mono ?_
 rintro e u' w2 ⟨rfl, rfl, k0, k1, k2, hb⟩
 obtain ⟨m0, -⟩ := sl_cells k0
 obtain ⟨c1, -⟩ := in_cells k1
 obtain ⟨c2, c3, -⟩ := fau_cells k2
 have hG := hF w2 hb
 simp [Leaves, settle, results, Tryz.results95, go_sem, h8, h9, h10, m0, c1, c2, c3]
 exact hG
end Go.Proofs.YtaccofiegkdlgaaGreatDoor.Br
