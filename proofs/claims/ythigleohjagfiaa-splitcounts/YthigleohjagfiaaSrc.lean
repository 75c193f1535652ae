/- What Roads answers, whatever it is handed; bytes of one point as a text. -/
import Derived.Test.YthigleohjagfiaaSrb
import Derived.Test.YthigleohjagfiaaSrv
import Derived.Test.YthigleohjagfiaaSrt
namespace Go.Proofs.Ythigleohjagfiaa
open Go.RowKit Go.PlainAid
set_option linter.unusedVariables false

theorem encB_isEnc {enc : Int} : encB enc = true ↔ isEnc enc := by simp [encB, isEnc]; omega
set_option maxRecDepth 100000 in
set_option maxHeartbeats 2000000 in
theorem roads_kind (enc : Int) (he : ¬ isEnc enc) (v : Value) (w : World) : Calls Try.prog 10 #[.int .i64 enc, v] w fun e w' => e = .returned (.tuple #[.slice none 0 0, .int .i64 7]) ∧ Below w.heap.size w w' := by
  have h := shapesOf_any enc w
  have hf : encB enc = false := by rw [Bool.eq_false_iff]; exact fun hh => he (encB_isEnc.1 hh)
  rw [hf] at h
  have HSh := hide h
  clear h hf he
  go_enter Try.func10, Try.ntmps10
  go_wp2_with fail
  refine HSh.out.mono ?_
  rintro e w1 ⟨⟨ao, n, c, rfl⟩, hb1⟩
  have HB1 := hide hb1
  clear hb1 HSh
  go_wp2
  go_ret2
  exact ⟨rfl, HB1.out⟩
set_option maxRecDepth 100000 in
set_option maxHeartbeats 2000000 in
theorem roads_bad (enc : Int) (he : isEnc enc) (v : Value) (z : Int) (hz : z ≠ 0) (w : World) (hck : ∀ W, Below w.heap.size w W → Calls Try.prog 24 #[v] W fun e w' => e = .returned (.int .i64 z) ∧ Below W.heap.size W w') : Calls Try.prog 10 #[.int .i64 enc, v] w fun e w' => e = .returned (.tuple #[.slice none 0 0, .int .i64 z]) ∧ Below w.heap.size w w' := by
  have h := shapesOf_any enc w
  rw [encB_isEnc.2 he] at h
  have HSh := hide h
  have HCk := hide hck
  clear h he hck
  go_enter Try.func10, Try.ntmps10
  go_wp2_with fail
  refine HSh.out.mono ?_
  rintro e w1 ⟨⟨ao, n, c, rfl⟩, hb1⟩
  have HB1 := hide hb1
  clear hb1 HSh
  go_wp2_with fail
  refine (HCk.out _ HB1.out).mono ?_
  rintro e w2 ⟨rfl, hb2⟩
  have HB2 := hide (below_tr HB1.out hb2)
  clear hb2 HCk
  go_wp2
  go_ret2
  exact ⟨rfl, HB2.out⟩
/-- Roads. -/
theorem roads_g (enc : Int) (v : Value) (A : RL) (w : World) (hv : Reads w v A) : Calls Try.prog 10 #[.int .i64 enc, v] w fun e w' => RoadsG enc A w e w' := by
  by_cases he : isEnc enc
  · have hck : ∀ W, Below w.heap.size w W → Calls Try.prog 24 #[v] W fun e w' => e = .returned (.int .i64 (checkE A)) ∧ Below W.heap.size W w' := fun W hW => check_any v A W (hv.below hW)
    by_cases hz : checkE A = 0
    · have hC := checkE_ok.1 hz
      rw [hz] at hck
      obtain ⟨ao, c, rfl⟩ := hv.shape
      refine (roads_main enc he ao A.length c A rfl w (fun h => ?_) hck hC).mono ?_
      · obtain ⟨x, c', e, hc⟩ := hv.some h
        injection e with e _ _
        exact ⟨x, e, hc⟩
      · rintro e w' ⟨hb, h⟩
        exact ⟨hb, .inr (.inr ⟨he, hz, h⟩)⟩
    · refine (roads_bad enc he v (checkE A) hz w hck).mono ?_
      rintro e w' ⟨h, hb⟩
      exact ⟨hb, .inr (.inl ⟨he, hz, h⟩)⟩
  · refine (roads_kind enc he v w).mono ?_
    rintro e w' ⟨h, hb⟩
    exact ⟨hb, .inl ⟨he, h⟩⟩
theorem tl_nums (l : List Int) (h : ∀ x ∈ l, 0 ≤ x ∧ x < 256) : tl (strOfNums l) = l := by
  apply List.ext_getElem
  · rw [tl_len, strOfNums_size]
  · intro i h1 h2
    rw [tl_get]
    have hi : i < (strOfNums l).size := by rw [strOfNums_size]; exact h2
    unfold bt
    rw [dif_pos hi]
    have hb := h _ (List.getElem_mem h2)
    have e : (strOfNums l)[i]'hi = UInt8.ofNat (l[i]).toNat := by
      show (strOfNums l).data[i]'hi = _
      simp [strOfNums]
    rw [e]
    simp
    omega
/-- the text of one point. -/
theorem textOf_one (enc p : Int) (he : isEnc enc) (hp : Scal enc p) (a : Addr) (w : World) (hc : w.cell? a = some (.int .i64 p)) : Calls Try.prog 14 #[.int .i64 enc, .slice (some a) 1 1] w fun e w' => (∃ T : ByteArray, e = .returned (.tuple #[.string T, .int .i64 0]) ∧ T.size ≤ 4 ∧ tl T = bytesR enc p) ∧ Below w.heap.size w w' := by
  have h := EE.TextOf_some enc (EE.encB_iff.2 he) a 1 [p] w (by simp) (fun j hj => by
    have : j = 0 := by simp at hj; omega
    subst this
    rw [addr0]
    exact hc)
  refine h.mono ?_
  rintro e w' ⟨rfl, hb⟩
  refine ⟨?_, hb⟩
  have hfl : EE.flat enc [p] = bytesR enc p := by simp [EE.flat, EE.bytesOf_R he]
  have hlen : (bytesR enc p).length ≤ 4 := by rw [← EE.bytesOf_R he]; exact (EE.bytesOf_len enc p).2
  obtain ⟨e1, e2⟩ := EE.enc_ok (EE.encB_iff.2 he) (l := [p]) (by simp [EE.holdB_iff.2 hp]) (by rw [hfl]; omega)
  refine ⟨strOfNums (bytesR enc p), by rw [e1, e2, hfl], by rw [strOfNums_size]; exact hlen, tl_nums _ (fun x hx => ?_)⟩
  rw [← EE.bytesOf_R he] at hx
  exact EE.bytesOf_byte (EE.encB_iff.2 he) (EE.holdB_iff.2 hp) x hx

end Go.Proofs.Ythigleohjagfiaa
