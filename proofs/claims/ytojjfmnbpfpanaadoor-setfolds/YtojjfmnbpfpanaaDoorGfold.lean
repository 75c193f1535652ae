/- What set.Fold answers. -/
import Derived.Test.YtojjfmnbpfpanaaDoorGlt
import Derived.Test.YtojjfmnbpfpanaaDoorSopsg
namespace Go.Proofs.YtojjfmnbpfpanaaDoor
open Go.RowKit
set_option linter.unusedVariables false

/-- the points of a folded set. -/
def foldF (A : RL) (q : Int) : Bool := ins A q || (pts A).any fun p => ins Fo.ps_alpha p && decide (q ∈ Fo.orb p)
theorem ins_rowQ (l : List Int) (q : Int) : ins (rowQ l) q = decide (q ∈ l) := by
  rw [Bool.eq_iff_iff, decide_eq_true_iff]
  simp only [ins, rowQ, List.any_map, List.any_eq_true, Function.comp, Bool.and_eq_true, decide_eq_true_eq]
  constructor
  · rintro ⟨x, hx, h1, h2⟩; rw [show q = x from by omega]; exact hx
  · intro h; exact ⟨q, h, Int.le_refl _, Int.le_refl _⟩
theorem ins_adds (P : List Int) (q : Int) : ins (adds P) q = P.any fun p => decide (q ∈ Fo.orb p) := by
  induction P with
  | nil => rfl
  | cons p P ih => rw [show p :: P = [p] ++ P from rfl, adds_append, adds_one, ins_append, ins_rowQ, ih, List.any_append]; simp
theorem fold_is {A O : RL} (hA : Canon A) (h : IsSet (fun q => ins A q && ins Fo.ps_alpha q) O) (q : Int) : ins (A ++ adds (pts O)) q = foldF A q := by
  rw [ins_append, ins_adds]
  unfold foldF
  congr 1
  rw [Bool.eq_iff_iff]
  simp only [List.any_eq_true, Bool.and_eq_true, decide_eq_true_eq]
  constructor
  · rintro ⟨p, hp, hq⟩
    rw [mem_pts, h.2 p] at hp
    simp only [Bool.and_eq_true] at hp
    exact ⟨p, mem_pts.2 hp.2.1, hp.2.2, hq⟩
  · rintro ⟨p, hp, ha, hq⟩
    obtain ⟨p0, p1⟩ := pts_ok hA p hp
    refine ⟨p, ?_, hq⟩
    rw [mem_pts, h.2 p]
    simp only [Bool.and_eq_true, decide_eq_true_eq]
    exact ⟨⟨p0, p1⟩, mem_pts.1 hp, ha⟩
theorem orb_ok {p q : Int} (h0 : 0 ≤ p) (h1 : p ≤ 1114111) (h : q ∈ Fo.orb p) : 0 ≤ q ∧ q ≤ 1114111 := by
  refine (Fo.orbS_ok p h0 h1 3 (by omega)).2.2 q ?_
  have := (Fo.srt_both (Fo.orbS p 3) [] List.Pairwise.nil).2
  rw [List.append_nil] at this
  exact this.mem_iff.1 h
theorem all_ok {A O : RL} (hA : Canon A) (hO : Canon O) : ∀ r ∈ A ++ adds (pts O), okR r := by
  intro r hr
  rcases List.mem_append.1 hr with hr | hr
  · exact hA.1 r hr
  · simp only [adds, List.mem_flatMap, rowQ, List.mem_map] at hr
    obtain ⟨p, hp, q, hq, rfl⟩ := hr
    obtain ⟨p0, p1⟩ := pts_ok hO p hp
    have := orb_ok p0 p1 hq
    unfold okR
    simp only
    omega
theorem all_len {A O : RL} (lA : A.length ≤ 400) (h : IsSet (fun q => ins A q && ins Fo.ps_alpha q) O) : (A ++ adds (pts O)).length ≤ 3000 := by
  have h1 := pts_647 O h.1 (set_sub h)
  have h2 := adds_len (pts O) (pts_ok h.1)
  rw [List.length_append]
  omega
theorem set_congr {f g : Int → Bool} {O : RL} (h : IsSet f O) (e : ∀ q, f q = g q) : IsSet g O := ⟨h.1, fun q => by rw [h.2 q, e q]⟩
theorem entersFold1 (args : Array Value) (w : World) : (callFunc 13 args).run Tryd.prog w = .ok (.enter 13 args) w := enters_of Tryd.func13 (by kernel_rfl) rfl args w

set_option maxHeartbeats 2000000 in
theorem makesFold (bx : Addr) (va : Value) (A : RL) (w : World) (hT : Fo.Tab w) (hpos : 0 < w.heap.size) (hbx : w.cell? bx = some va) (hA : Reads w va A) (cA : Canon A) (lA : A.length ≤ 400) : Makes 13 #[.pointer (some bx)] (foldF A) w := by
  have HC := hide (clone_any va A w hA (by omega))
  obtain ⟨aa, ca, hva⟩ := hA.shape
  have hlb := lt_of_cell hbx
  have hmf : ∀ (fn : Fn) (first cap : Array Value) (w : World), (Instr.makeFunc fn first cap).run Tryd.prog w = .ok (.func fn first cap) w := fun _ _ _ _ => rfl
  obtain ⟨na, hna⟩ : ∃ na, na = A.length := ⟨_, rfl⟩
  have HNA := hide hna
  rw [← hna] at hva lA
  have HA := hide hA
  have CA := hide cA
  have HT := hide hT
  rw [hva] at hbx HC HA
  clear hA cA hT hna hva
  unfold Makes
  go_enter Tryd.func13, Tryd.ntmps13
  go_wp2_with fail
  refine HC.out.mono ?_
  rintro e w1 ⟨v1, rfl, ho1, hb1⟩
  have hbx1 := below_cell hb1 hlb hbx
  have hsz := hb1.size
  have hall : Below w.heap.size w1 (w1.alloc (.cells #[v1] 22)) := (Below.refl _ w1).alloc hsz _
  have hbW := hide (hb1.trans hall)
  have hbxW := below_cell hbW.out hlb hbx
  have HL := hide (letter_any w.heap.size w1.heap.size hpos hsz _ A v1 A (w1.alloc (.cells #[v1] 22)) (HT.out.below hbW.out hpos) (HA.out.below hbW.out) CA.out (by have := HNA.out; omega) (heap_alloc_new _ _) (ho1.alloc _) (by have := HNA.out; omega) hbW.out.size)
  obtain ⟨a1, c1, hv1⟩ := own_shape ho1
  rw [hv1] at HL hbxW hbW ⊢
  clear HC ho1 hb1 hv1 hall
  go_wp2_with fail
  refine HL.out.mono ?_
  rintro e w2 ⟨O, v2, rfl, hs, hb, ho, hbl⟩
  have hsz2 := Nat.le_trans hbW.out.size hbl.size
  have hML := all_len (A := A) (by have := HNA.out; omega) hs
  have hMO := all_ok (A := A) CA.out hs.1
  have hMI := hide (fold_is CA.out hs)
  obtain ⟨M, hM⟩ : ∃ M, M = A ++ adds (pts O) := ⟨_, rfl⟩
  rw [← hM] at ho hML hMO hMI
  have HJ := hide (join_any w.heap.size v2 M w2 hML hMO ho hsz2)
  have HS := hide hs
  have HB2 := hide (hbW.out.trans hbl)
  have hcb := cell_of_one hb
  obtain ⟨a2, c2, hv2⟩ := own_shape ho
  rw [hv2] at HJ hcb
  clear HL hs hb ho hbl hv2 hbxW hM hML hMO
  go_wp2_with fail
  refine HJ.out.mono ?_
  rintro e w3 ⟨v3, O3, rfl, ho3, hs3, hl3, hb3⟩
  have HS3 := hide hs3
  have HB3 := hide hb3
  have HO3 := hide ho3
  obtain ⟨a3, c3, hv3⟩ := own_shape ho3
  rw [hv3] at HO3 ⊢
  clear HJ hcb ho3 hs3 hl3 hb3 hv3
  go_wp2
  go_ret
  exact ⟨_, _, O3, rfl, HO3.out, set_congr HS3.out hMI.out, HB2.out.trans HB3.out⟩
set_option maxHeartbeats 1000000 in
set_option maxRecDepth 100000 in
theorem fold_any (va : Value) (A : RL) (w : World) (hT : Fo.Tab w) (hpos : 0 < w.heap.size) (hA : Reads w va A) : Calls Tryd.prog 5 #[va] w fun e w' => Res (foldF A) (checkE A) w e w' := by
  obtain ⟨ao, ca, hva⟩ := hA.shape
  have hb2 := below_two w (.cells #[va] 22) (.cells #[va] 22)
  have HM := hide (made_any 13 #[.pointer (some ⟨w.heap.size, 0, none⟩)] (foldF A) (w.heap.size + 1) [(va, A)] ((w.alloc (.cells #[va] 22)).alloc (.cells #[va] 22)) entersFold1 (by simp)
    (fun j hj => by
      obtain rfl : j = 0 := by simpa using hj
      exact ⟨by have := reads_one (w := w.alloc (.cells #[va] 22)) va 22; simp, hA.below hb2⟩)
    (fun h0 w' hb' => by
      rw [chkL_one] at h0
      obtain ⟨l, c⟩ := checkE_ok.1 h0
      exact makesFold _ va A w' ((hT.below hb2 hpos).below hb' (by simp)) (by have := hb'.size; simp at this; omega) (below_cell hb' (by simp; omega) (box_two w va _)) ((hA.below hb2).below hb') c (by omega)))
  rw [chkL_one] at HM
  have HB2 := hide hb2
  clear hA hb2 hT
  rw [hva] at HM HB2 ⊢
  clear hva
  go_enter Tryd.func5, Tryd.ntmps5
  go_wp2_with fail
  refine HM.out.mono ?_
  rintro e w1 ⟨v, err, O, rfl, hr, hm, hb⟩
  go_wp2
  go_ret2
  exact ⟨_, _, O, rfl, hr, hm, HB2.out.trans (hb.mono HB2.out.size)⟩

end Go.Proofs.YtojjfmnbpfpanaaDoor
