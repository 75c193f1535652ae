/- The writer: what WriteString and add do, and what they leave. -/
import Derived.Test.YtpcohmbipbiglaaDoorWbeg
namespace Go.Proofs.YtpcohmbipbiglaaDoor
open Go.RowKit
open Go.Lib (byteCells byteCells_append byteCells_length)
set_option linter.unusedVariables false

/-- all that is neither the writer's block nor a row of bytes stays. -/
def Kp (b : Nat) (w w' : World) : Prop := ∀ k cs T fr, k ≠ b → T ≠ 5 → w.heap[k]? = some (.cells cs T fr) → w'.heap[k]? = some (.cells cs T fr)
theorem Kp.refl (b : Nat) (w : World) : Kp b w w := fun _ _ _ _ _ _ h => h
theorem Kp.trans {b : Nat} {w w' w'' : World} (h : Kp b w w') (h' : Kp b w' w'') : Kp b w w'' := fun k cs T fr a c d => h' k cs T fr a c (h k cs T fr a c d)
theorem Kp.below {b : Nat} {w w' : World} (h : Below w.heap.size w w') : Kp b w w' := fun k cs T fr _ _ d => by rw [h.block _ (lt_of_block d)]; exact d
theorem Kp.set {b o : Nat} {w : World} {v : Value} : Kp b w (w.setCell ⟨b, o, none⟩ v) := fun k cs T fr a _ d => by rw [Below.heap_setCell _ _ _ _ a]; exact d
/-- a writer that has written so much. -/
def Wr (B b : Nat) (l : List UInt8) (nm : Value) (w : World) : Prop := WBs B b (byteCells l) nm w
theorem Wr.keep {B b : Nat} {l : List UInt8} {nm : Value} {w w' : World} (h : Wr B b l nm w) (hb : Below w.heap.size w w') : Wr B b l nm w' := WBs.keep h hb
theorem Wr.lt {B b : Nat} {l : List UInt8} {nm : Value} {w : World} (h : Wr B b l nm w) : B ≤ b ∧ b < w.heap.size := by
  rcases h with ⟨h1, v, h2, _⟩ | ⟨h1, v, h2, _⟩ <;> exact ⟨h1, lt_of_block h2⟩
/-- what a call of the writer does. -/
def Wto (B b : Nat) (l : List UInt8) (nm : Value) (w w' : World) : Prop := Wr B b l nm w' ∧ Below B w w' ∧ Kp b w w'
theorem Wto.trans {B b : Nat} {l l' : List UInt8} {nm : Value} {w w' w'' : World} (h : Wto B b l nm w w') (h' : Wto B b l' nm w' w'') : Wto B b l' nm w w'' := ⟨h'.1, h.2.1.trans h'.2.1, h.2.2.trans h'.2.2⟩
theorem Wto.nil {B b : Nat} {l : List UInt8} {nm : Value} {w : World} (h : Wr B b l nm w) : Wto B b l nm w w := ⟨h, Below.refl _ _, Kp.refl _ _⟩
theorem Wto.put {B b : Nat} {l : List UInt8} {nm : Value} {w w' : World} (h : Wr B b l nm w) (hb : Below w.heap.size w w') : Wto B b l nm w w' := ⟨h.keep hb, hb.mono (by have := h.lt; omega), Kp.below hb⟩
theorem Wto.then {B b : Nat} {l : List UInt8} {nm : Value} {w w' w'' : World} (h : Wto B b l nm w w') (hb : Below w'.heap.size w' w'') : Wto B b l nm w w'' := h.trans (Wto.put h.1 hb)

theorem wcopy_kp (B b : Nat) (bs : List Value) (nm : Value) (w : World) (h : WBs B b bs nm w) :
    Calls Tryd.prog 65 #[.pointer (some ⟨b, 0, none⟩)] w fun e w' => e = .returned (.tuple #[]) ∧ WB B b (.pointer (some ⟨b, 0, none⟩)) bs nm w' ∧ Below B w w' ∧ Kp b w w' := by
  rcases h with ⟨hB, v, hbk, hown, hne⟩ | ⟨hB, v, hbk, hown, hne⟩
  · obtain ⟨c0, c1, c2, cf⟩ := wcell hbk
    refine (wcopy_fresh b w c0 (by simp [World.shape?, hbk]) (cf 0)).mono ?_
    rintro e w' ⟨rfl, rfl⟩
    exact ⟨rfl, ⟨hB, v, by rw [wset hbk]; rfl, wother hown hne, hne⟩, (Below.refl B w).setCell (p := ⟨b, 0, none⟩) hB _, Kp.set⟩
  · obtain ⟨c0, c1, c2, cf⟩ := wcell hbk
    refine (wcopy_used b w c0).mono ?_
    rintro e w' ⟨rfl, rfl⟩
    exact ⟨rfl, ⟨hB, v, hbk, hown, hne⟩, Below.refl B _, Kp.refl _ _⟩

theorem own_elem {B e k n : Nat} {w : World} {v : Value} {xs : List Value} (h : w.ownsRow B e k v n xs) {g : Nat} (hg : v.ownBlock = some g) : ∃ cur, w.heap[g]? = some (.cells cur e (0, 0)) := by
  rcases h.2 with ⟨rfl, _⟩ | ⟨g', cap, cur, rfl, _, hh, _⟩
  · cases hg
  · have : g' = g := Option.some.inj hg
    subst this
    exact ⟨_, hh⟩

set_option maxHeartbeats 2000000 in
set_option maxRecDepth 100000 in
theorem wstr_kp (B b : Nat) (l : List UInt8) (nm : Value) (s : List UInt8) (w : World) (h : Wr B b l nm w) (hlen : l.length + s.length ≤ 140737488355328) (hBw : B ≤ w.heap.size) :
    Calls Tryd.prog 57 #[.pointer (some ⟨b, 0, none⟩), .string ⟨s.toArray⟩] w fun e w' => e = .returned (.tuple #[.int .i64 s.length, .nilIface]) ∧ Wto B b (l ++ s) nm w w' := by
  obtain ⟨i0, hi, hz0, hz1, hz2⟩ := w_parts infoByte
  have HC := hide (wcopy_kp B b (byteCells l) nm w h)
  obtain ⟨S, hS⟩ : ∃ S : ByteArray, S = ⟨s.toArray⟩ := ⟨_, rfl⟩
  have hSs : S.size = s.length := by rw [hS]; exact List.size_toArray
  have HSc : Hid (byteCells l ++ Lib.strCells S = byteCells (l ++ s)) := by show _ = _; rw [hS, byteCells_append]; rfl
  have HL : Hid ((byteCells l).length = l.length) := byteCells_length l
  have hSl : (s.length : Int) = (S.size : Int) := by omega
  have hSl2 : s.length = S.size := hSs.symm
  rw [← hS, hSl]
  rw [hSl2] at hlen
  have hlen2 : (byteCells l).length + S.size ≤ 140737488355328 := by rw [HL.out]; exact hlen
  obtain ⟨bs, hbs⟩ : ∃ bs, bs = byteCells l := ⟨_, rfl⟩
  rw [← hbs] at HC HSc hlen2
  clear h hS hSs hSl hSl2 HL hbs hlen
  go_enter Tryd.func57, Tryd.ntmps57
  go_wp2_with fail
  refine HC.out.mono ?_
  rintro e w1 ⟨rfl, ⟨hB, v, hbk, hown, hne⟩, hb1, hkp1⟩
  obtain ⟨c0, c1, c2, cf⟩ := wcell hbk
  have hs1 := hb1.size
  have HB1 := hide hb1
  have HO := hide hown
  have HK := hide hbk
  have HNe := hide hne
  have HKP := hide hkp1
  clear hb1 hown hbk hne HC hkp1
  go_wp2_with (at_builtin; refine Lib.wpList_append_own_string _ rfl _ _ 49 9 rfl B 5 i0 Tryd.underlying49 Tryd.underlying9 hi hz0 hz1 hz2 _ _ _ rfl HO.out S rfl (by unfold maxLen; omega) (by omega) (by omega) ?_)
  intro v' w2 hown' hgrow _
  have hlt : b < w1.heap.size := lt_of_block HK.out
  have hb2 : w2.heap[b]? = some (.cells #[.pointer (some ⟨b, 0, none⟩), v, nm] 53 (0, 0)) := by
    rw [hgrow.block b hlt (fun e => HNe.out e.symm)]
    exact HK.out
  obtain ⟨d0, d1, d2, df⟩ := wcell hb2
  obtain ⟨ao, n', cap, rfl⟩ : ∃ ao n' cap, v' = .slice ao n' cap := by
    rcases hown'.2 with ⟨hv, _⟩ | ⟨g, cap, cur, hv, _⟩
    · exact ⟨_, _, _, hv⟩
    · exact ⟨_, _, _, hv⟩
  have HO2 := hide hown'
  have HK2 := hide hb2
  have HB2 := hide (HB1.out.grown hgrow (by omega) (fun k hk => (HO.out.lt k hk).1))
  have hne2 : Hid ((Value.slice ao n' cap).ownBlock ≠ some b) := fun e => by
    rcases hown'.2 with ⟨hv, _⟩ | ⟨g, cap', cur, hv, _, hh, _⟩
    · rw [hv] at e; simp [Value.ownBlock] at e
    · rw [hv] at e
      simp [Value.ownBlock] at e
      rw [e, hb2] at hh
      simp at hh
  have HKP2 : Hid (Kp b w1 w2) := fun k cs T fr hk hT hc => by
    rw [hgrow.block k (lt_of_block hc) (fun e => ?_)]
    · exact hc
    · obtain ⟨cur, hcur⟩ := own_elem HO.out e.symm
      rw [hc] at hcur
      have := Option.some.inj hcur
      injection this with _ h2 _
      exact hT h2
  clear hown' hgrow hb2 c0 c1 c2 cf
  go_wp2
  go_ret2
  refine ⟨rfl, ?_, HB2.out.setCell (p := ⟨b, 1, none⟩) hB _, HKP.out.trans (HKP2.out.trans Kp.set)⟩
  show WBs B b (byteCells (l ++ s)) nm _
  rw [← HSc.out]
  refine .inr ⟨hB, _, by rw [wset HK2.out]; rfl, ?_, hne2.out⟩
  have := wother (o := 1) (u := .slice ao n' cap) HO2.out hne2.out
  simpa [Lib.strCells_length] using this

/-- texts, laid to be added. -/
def Txt (w : World) (g : Nat) (L : List (List UInt8)) : Prop := ∃ cs fr, w.heap[g]? = some (.cells cs 9 fr) ∧ ∀ j (h : j < L.length), cs[j]? = some (.string ⟨L[j].toArray⟩)
set_option maxHeartbeats 2000000 in
set_option maxRecDepth 100000 in
theorem add_any (B b : Nat) (l : List UInt8) (nm : Value) (L : List (List UInt8)) (m g : Nat) (w : World) (hm : m = L.length) (h : Wr B b l nm w) (hg : Txt w g L) (hgb : g ≠ b) (hlen : l.length + L.flatten.length ≤ 140737488355328) (hBw : B ≤ w.heap.size) (hmx : m ≤ 1000) :
    Calls Tryd.prog 39 #[.pointer (some ⟨b, 0, none⟩), .slice (some ⟨g, 0, none⟩) m m] w fun e w' => e = .returned (.tuple #[]) ∧ Wto B b (l ++ L.flatten) nm w w' := by
  obtain ⟨cs, fr, hcs, hcj⟩ := hg
  have HM := hide hm
  have HW := hide h
  have HG := hide hcs
  have HCJ := hide hcj
  have HLn := hide hlen
  have HGB := hide hgb
  clear hm h hcs hcj hlen hgb
  go_enter Tryd.func39, Tryd.ntmps39
  go_wp2
  go_loopw [8] (fun c wr => ∃ (j : Nat), j ≤ m ∧ c = .int .i64 j ∧ Wto B b (l ++ (L.take j).flatten) nm w wr) (fun c _ => m - (intOf c).toNat)
  case atStart => exact ⟨0, Nat.zero_le _, rfl, by simpa using Wto.nil HW.out⟩
  case round =>
    obtain ⟨j, hj, rfl, hto⟩ := hrel
    obtain ⟨w2, hw2⟩ : ∃ w2, w2 = wr := ⟨_, rfl⟩
    subst hw2
    have HT := hide hto
    clear hto
    by_cases hlt : j < m
    · have hjL : j < L.length := by have := HM.out; omega
      have e1 : (j : Int) < (m : Int) := by omega
      have e0 : (0 : Int) ≤ (j : Int) := by omega
      have hfl : (L.take (j + 1)).flatten = (L.take j).flatten ++ L[j] := by rw [List.take_add_one, List.getElem?_eq_getElem hjL, List.flatten_append]; simp
      have hle : l.length + ((L.take j).flatten.length + L[j].length) ≤ 140737488355328 := by
        have h1 : (L.take (j + 1)).flatten.length ≤ L.flatten.length := by
          have h3 := congrArg (fun x => x.flatten.length) (List.take_append_drop (j + 1) L)
          simp only [List.flatten_append, List.length_append] at h3
          omega
        have h2 := congrArg List.length hfl
        rw [List.length_append] at h2
        have := HLn.out
        omega
      have HC := hide (wstr_kp B b (l ++ (L.take j).flatten) nm L[j] w2 HT.out.1 (by rw [List.length_append]; omega) (by have := HT.out.2.1.size; omega))
      have hcell : w2.cell? ⟨g, j, none⟩ = some (.string ⟨L[j].toArray⟩) := by
        have := HT.out.2.2 g cs 9 fr HGB.out (by decide) HG.out
        simp [World.cell?, this, HCJ.out j hjL]
      have HFl : Hid (l ++ (L.take j).flatten ++ L[j] = l ++ (L.take (j + 1)).flatten) := by show _ = _; rw [hfl, List.append_assoc]
      have hjw : IntKind.i64.wrap ((j : Int) + 1) = (j : Int) + 1 := by rw [IntKind.wrap_i64]; omega
      obtain ⟨S, hS⟩ : ∃ S, S = L[j] := ⟨_, rfl⟩
      rw [← hS] at HC hcell HFl
      obtain ⟨SS, hSS⟩ : ∃ SS : ByteArray, SS = ⟨S.toArray⟩ := ⟨_, rfl⟩
      rw [← hSS] at HC hcell
      clear hfl hle hS hSS hjL
      go_wp2_with fail
      refine HC.out.mono ?_
      rintro e w3 ⟨rfl, hto3⟩
      rw [HFl.out] at hto3
      have HT3 := hide (HT.out.trans hto3)
      clear hto3 HC HT HFl hcell
      go_wp2
      go_roundw
      case rel => exact ⟨j + 1, by omega, by go_num, HT3.out⟩
      case measure => simp [intOf]; omega
    · have e1 : ¬ (j : Int) < (m : Int) := by omega
      have hjm : j = L.length := by have := HM.out; omega
      have HF : Hid (Wto B b (l ++ L.flatten) nm w w2) := by
        have := HT.out
        rw [hjm, List.take_length] at this
        exact this
      clear HT hjm
      go_wp2
      go_end0
      exact ⟨rfl, HF.out⟩

end Go.Proofs.YtpcohmbipbiglaaDoor
