/- Roads: how many roads a row of bytes goes along. -/
import Derived.Test.YtljankfhnmcbaaaGreatDoorPSr2
namespace Go.Proofs.YtljankfhnmcbaaaGreatDoor.SP
set_option linter.unusedVariables false

--BEGIN
/-- what eachBlock makes of a range. -/
def EB (S : ShP) (r : Int × Int) (M : List RL) : Prop :=
  (max r.1 S.first ≤ min r.2 S.last ∧ ∃ L, Blk S.ps (max r.1 S.first - S.less) (min r.2 S.last - S.less) L ∧ M = L.map fun x => roadP S.ps x.1 x.2) ∨ (¬ max r.1 S.first ≤ min r.2 S.last ∧ M = [])
/-- what is made of all ranges, of one shape. -/
inductive RRow (S : ShP) : RL → List RL → Prop
  | nil : RRow S [] []
  | snoc {A : RL} {LL M : List RL} {r : Int × Int} : RRow S A LL → EB S r M → RRow S (A ++ [r]) (LL ++ M)
/-- and of all shapes. -/
inductive RAll (A : RL) : List ShP → List RL → Prop
  | nil : RAll A [] []
  | snoc {Ss : List ShP} {LL M : List RL} {S : ShP} : RAll A Ss LL → RRow S A M → RAll A (Ss ++ [S]) (LL ++ M)
open Classical in
theorem Blk.count {enc : Int} {S : ShP} (he : isEnc enc) (hS : GoodS enc S) (t : List Int) {a b : Int} {L : RL} (h : Blk S.ps a b L) (ha : S.first - S.less ≤ a) (hb : b ≤ S.last - S.less) :
    (L.map fun x => roadP S.ps x.1 x.2).countP (goesB · t) = if ∃ n, a ≤ n ∧ n ≤ b ∧ t = rowP S.ps n then 1 else 0 := by
  induction h with
  | one hab hB =>
    rename_i a b
    have := hS.box a b t ha hab hb hB
    by_cases hc : ∃ n, a ≤ n ∧ n ≤ b ∧ t = rowP S.ps n
    · rw [if_pos hc]
      simp [this.2 hc]
    · rw [if_neg hc]
      have hf : ¬ goesB (roadP S.ps a b) t = true := fun hh => hc (this.1 hh)
      simp [hf]
  | app g1 g2 h1 h2 =>
    rename_i a m b L M
    have l1 := g1.le
    have l2 := g2.le
    rw [List.map_append, List.countP_append, h1 ha (by omega), h2 (by omega) hb]
    by_cases c1 : ∃ n, a ≤ n ∧ n ≤ m ∧ t = rowP S.ps n
    · have c2 : ¬ ∃ n, m + 1 ≤ n ∧ n ≤ b ∧ t = rowP S.ps n := by
        rintro ⟨n, n1, n2, n3⟩
        obtain ⟨k, k1, k2, k3⟩ := c1
        have f1 := hS.fits (n + S.less) (by omega) (by omega)
        have f2 := hS.fits (k + S.less) (by omega) (by omega)
        rw [Int.add_sub_cancel] at f1 f2
        have := bytesR_inj he f1.1 f2.1 (by rw [← f1.2, ← f2.2, ← n3, ← k3])
        omega
      rw [if_pos c1, if_neg c2, if_pos (by obtain ⟨n, n1, n2, n3⟩ := c1; exact ⟨n, n1, by omega, n3⟩)]
    · rw [if_neg c1]
      by_cases c2 : ∃ n, m + 1 ≤ n ∧ n ≤ b ∧ t = rowP S.ps n
      · rw [if_pos c2, if_pos (by obtain ⟨n, n1, n2, n3⟩ := c2; exact ⟨n, by omega, n2, n3⟩)]
      · rw [if_neg c2, if_neg]
        rintro ⟨n, n1, n2, n3⟩
        by_cases hn : n ≤ m
        · exact c1 ⟨n, n1, hn, n3⟩
        · exact c2 ⟨n, by omega, n2, n3⟩
/-- t is what a point of the set is written as, by this shape. -/
def OfS (enc : Int) (S : ShP) (A : RL) (t : List Int) : Prop := ∃ p, S.first ≤ p ∧ p ≤ S.last ∧ ins A p = true ∧ t = bytesR enc p
open Classical in
theorem EB.count {enc : Int} {S : ShP} (he : isEnc enc) (hS : GoodS enc S) (t : List Int) {r : Int × Int} {M : List RL} (h : EB S r M) : M.countP (goesB · t) = if OfS enc S [r] t then 1 else 0 := by
  rcases h with ⟨hle, L, hL, rfl⟩ | ⟨hle, rfl⟩
  · rw [hL.count he hS t (by omega) (by omega)]
    have : (∃ n, max r.1 S.first - S.less ≤ n ∧ n ≤ min r.2 S.last - S.less ∧ t = rowP S.ps n) ↔ OfS enc S [r] t := by
      constructor
      · rintro ⟨n, n1, n2, n3⟩
        have f1 := hS.fits (n + S.less) (by omega) (by omega)
        rw [Int.add_sub_cancel] at f1
        exact ⟨n + S.less, by omega, by omega, by simp [ins]; omega, by rw [n3, f1.2]⟩
      · rintro ⟨p, p1, p2, p3, p4⟩
        have f1 := hS.fits p p1 p2
        simp [ins] at p3
        exact ⟨p - S.less, by omega, by omega, by rw [p4, f1.2]⟩
    by_cases hc : OfS enc S [r] t
    · rw [if_pos hc, if_pos (this.2 hc)]
    · rw [if_neg hc, if_neg (fun hh => hc (this.1 hh))]
  · rw [if_neg]
    · rfl
    · rintro ⟨p, p1, p2, p3, p4⟩
      simp [ins] at p3
      omega
open Classical in
theorem RRow.count {enc : Int} {S : ShP} (he : isEnc enc) (hS : GoodS enc S) (t : List Int) {A : RL} {LL : List RL} (h : RRow S A LL) : Canon A → LL.countP (goesB · t) = if OfS enc S A t then 1 else 0 := by
  induction h with
  | nil =>
    intro _
    rw [if_neg]
    · rfl
    · rintro ⟨p, p1, p2, p3, p4⟩
      simp [ins] at p3
  | snoc h1 h2 ih =>
    rename_i A LL M r
    intro hA
    obtain ⟨c1, c2, c3⟩ := canon_snoc.1 hA
    rw [List.countP_append, ih c1, h2.count he hS t]
    by_cases o1 : OfS enc S A t
    · have o2 : ¬ OfS enc S [r] t := by
        rintro ⟨p, p1, p2, p3, p4⟩
        obtain ⟨q, q1, q2, q3, q4⟩ := o1
        have := bytesR_inj he (hS.fits p p1 p2).1 (hS.fits q q1 q2).1 (by rw [← p4, ← q4])
        subst this
        obtain ⟨x, hx, x1, x2⟩ := (ins_iff _ _).1 q3
        have := c3 x hx
        simp [ins] at p3
        omega
      rw [if_pos o1, if_neg o2, if_pos]
      obtain ⟨p, p1, p2, p3, p4⟩ := o1
      exact ⟨p, p1, p2, by rw [ins_append, p3]; rfl, p4⟩
    · rw [if_neg o1]
      by_cases o2 : OfS enc S [r] t
      · rw [if_pos o2, if_pos]
        obtain ⟨p, p1, p2, p3, p4⟩ := o2
        exact ⟨p, p1, p2, by rw [ins_append, p3]; simp, p4⟩
      · rw [if_neg o2, if_neg]
        rintro ⟨p, p1, p2, p3, p4⟩
        rw [ins_append, Bool.or_eq_true] at p3
        rcases p3 with p3 | p3
        · exact o1 ⟨p, p1, p2, p3, p4⟩
        · exact o2 ⟨p, p1, p2, p3, p4⟩
open Classical in
theorem RAll.count {enc : Int} (he : isEnc enc) (t : List Int) {A : RL} (hA : Canon A) {Ss : List ShP} {LL : List RL} (h : RAll A Ss LL) : (∀ S ∈ Ss, GoodS enc S) → Ss.Pairwise (fun S T => S.last < T.first) → LL.countP (goesB · t) = if ∃ S ∈ Ss, OfS enc S A t then 1 else 0 := by
  induction h with
  | nil => intro _ _; simp
  | snoc h1 h2 ih =>
    rename_i Ss LL M S
    intro hG hP
    obtain ⟨q1, _, q2⟩ := List.pairwise_append.1 hP
    have gS := hG S (by simp)
    rw [List.countP_append, ih (fun T hT => hG T (by simp [hT])) q1, h2.count he gS t hA]
    by_cases o1 : ∃ S ∈ Ss, OfS enc S A t
    · have o2 : ¬ OfS enc S A t := by
        rintro ⟨p, p1, p2, p3, p4⟩
        obtain ⟨T, hT, q, t1, t2, t3, t4⟩ := o1
        have := bytesR_inj he (gS.fits p p1 p2).1 ((hG T (by simp [hT])).fits q t1 t2).1 (by rw [← p4, ← t4])
        subst this
        have := q2 T hT S (by simp)
        omega
      rw [if_pos o1, if_neg o2, if_pos]
      obtain ⟨T, hT, hh⟩ := o1
      exact ⟨T, by simp [hT], hh⟩
    · rw [if_neg o1]
      by_cases o2 : OfS enc S A t
      · rw [if_pos o2, if_pos ⟨S, by simp, o2⟩]
      · rw [if_neg o2, if_neg]
        rintro ⟨T, hT, hh⟩
        rcases List.mem_append.1 hT with hT | hT
        · exact o1 ⟨T, hT, hh⟩
        · simp at hT; subst hT; exact o2 hh
open Classical in
/-- along one road, and one alone, goes what is a point of the set. -/
theorem roads_count {enc : Int} (he : isEnc enc) (t : List Int) {A : RL} (hA : Canon A) {LL : List RL} (h : RAll A (shapesP enc) LL) : LL.countP (goesB · t) = if ∃ p, Scal enc p ∧ ins A p = true ∧ t = bytesR enc p then 1 else 0 := by
  rw [h.count he t hA (good_all he) (shapes_part he).1]
  have : (∃ S ∈ shapesP enc, OfS enc S A t) ↔ ∃ p, Scal enc p ∧ ins A p = true ∧ t = bytesR enc p := by
    constructor
    · rintro ⟨S, hS, p, p1, p2, p3, p4⟩
      exact ⟨p, ((good_all he S hS).fits p p1 p2).1, p3, p4⟩
    · rintro ⟨p, p1, p2, p3⟩
      obtain ⟨S, hS, s1, s2⟩ := (shapes_part he).2 p p1
      exact ⟨S, hS, p, s1, s2, p2, p3⟩
  by_cases hc : ∃ p, Scal enc p ∧ ins A p = true ∧ t = bytesR enc p
  · rw [if_pos hc, if_pos (this.2 hc)]
  · rw [if_neg hc, if_neg (fun hh => hc (this.1 hh))]
/-- a road as it must be. -/
def okRoad (L : RL) : Prop := (1 ≤ L.length ∧ L.length ≤ 4) ∧ ∀ r ∈ L, 0 ≤ r.1 ∧ r.2 ≤ 255 ∧ r.1 ≤ r.2
theorem goesB_le : ∀ (L : RL) (t : List Int), goesB L t = true → ∀ r ∈ L, r.1 ≤ r.2
  | [], _, _ => by simp
  | r :: L, [], h => by simp [goesB] at h
  | r :: L, x :: t, h => by
    simp [goesB] at h
    intro y hy
    rcases List.mem_cons.1 hy with rfl | hy
    · omega
    · exact goesB_le L t h.2 y hy
theorem goesB_fst : ∀ (L : RL), (∀ r ∈ L, r.1 ≤ r.2) → goesB L (L.map (·.1)) = true
  | [], _ => rfl
  | r :: L, h => by
    simp [goesB]
    exact ⟨h r (by simp), goesB_fst L (fun y hy => h y (by simp [hy]))⟩
theorem EB.ok {enc : Int} {S : ShP} (hS : GoodS enc S) {r : Int × Int} {M : List RL} (h : EB S r M) : ∀ L ∈ M, okRoad L := by
  rcases h with ⟨hle, L, hL, rfl⟩ | ⟨hle, rfl⟩
  · intro R hR
    obtain ⟨x, hx, rfl⟩ := List.mem_map.1 hR
    obtain ⟨h1, h2, h3, h4⟩ := hL.each x hx
    refine ⟨by simp only [roadP, List.length_map]; exact hS.len, fun y hy => ?_⟩
    have hg := (hS.box x.1 x.2 (rowP S.ps x.1) (by omega) h2 (by omega) h4).2 ⟨x.1, Int.le_refl _, h2, rfl⟩
    have h5 := goesB_le _ _ hg y hy
    obtain ⟨p, hp, rfl⟩ := List.mem_map.1 hy
    exact ⟨(hS.byte x.1 (by omega) (by omega) p hp).1, (hS.byte x.2 (by omega) (by omega) p hp).2, h5⟩
  · simp
theorem RRow.ok {enc : Int} {S : ShP} (hS : GoodS enc S) {A : RL} {LL : List RL} (h : RRow S A LL) : ∀ L ∈ LL, okRoad L := by
  induction h with
  | nil => simp
  | snoc h1 h2 ih =>
    intro L hL
    rcases List.mem_append.1 hL with hL | hL
    · exact ih L hL
    · exact h2.ok hS L hL
theorem RAll.ok {enc : Int} {A : RL} {Ss : List ShP} {LL : List RL} (h : RAll A Ss LL) : (∀ S ∈ Ss, GoodS enc S) → ∀ L ∈ LL, okRoad L := by
  induction h with
  | nil => simp
  | snoc h1 h2 ih =>
    intro hG L hL
    rcases List.mem_append.1 hL with hL | hL
    · exact ih (fun T hT => hG T (by simp [hT])) L hL
    · exact h2.ok (hG _ (by simp)) L hL
--END
end Go.Proofs.YtljankfhnmcbaaaGreatDoor.SP
