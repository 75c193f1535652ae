/- How many rows of bytes go along roads: no program. -/
import Derived.Test.YthigleohjagfiaaSr3
import Derived.Test.YthigleohjagfiaaScnt
namespace Go.Proofs.Ythigleohjagfiaa
set_option linter.unusedVariables false

def sumP (LL : List RL) : Int := (LL.map prodR).sum
theorem sumP_nil : sumP [] = 0 := rfl
theorem sumP_cons (L : RL) (LL : List RL) : sumP (L :: LL) = prodR L + sumP LL := by simp [sumP]
theorem sumP_append (LL MM : List RL) : sumP (LL ++ MM) = sumP LL + sumP MM := by simp [sumP]
theorem sumP_perm {LL MM : List RL} (h : LL.Perm MM) : sumP LL = sumP MM := by
  induction h with
  | nil => rfl
  | cons x _ ih => rw [sumP_cons, sumP_cons, ih]
  | swap x y l => simp only [sumP_cons]; omega
  | trans _ _ h1 h2 => rw [h1, h2]
theorem Blk.sum {enc : Int} {S : ShP} (hS : GoodS enc S) {a b : Int} {L : RL} (h : Blk S.ps a b L) (ha : S.first - S.less ≤ a) (hb : b ≤ S.last - S.less) : sumP (L.map fun x => roadP S.ps x.1 x.2) = b - a + 1 := by
  induction h with
  | one hab hB =>
    rename_i a b
    rw [List.map_cons, List.map_nil, sumP_cons, sumP_nil, hS.prod a b ha hab hb hB]
    omega
  | app g1 g2 h1 h2 =>
    have := g1.le
    have := g2.le
    rw [List.map_append, sumP_append, h1 ha (by omega), h2 (by omega) hb]
    omega
/-- the points of a shape that are in some ranges. -/
def inS (S : ShP) (A : RL) (q : Int) : Bool := ins A q && (decide (S.first ≤ q) && decide (q ≤ S.last))
theorem card_zero {f : Int → Bool} (h : ∀ q, 0 ≤ q → q ≤ 1114111 → f q = false) : card f = 0 := by
  rw [card_congr (g := fun _ => false) h]
  simp [card]
theorem card_rng (a b : Int) (h0 : 0 ≤ a) (h1 : a ≤ b) (h2 : b ≤ 1114111) : (card (fun q => decide (a ≤ q) && decide (q ≤ b)) : Int) = b - a + 1 := by
  have := countP_between a b h0 h1 NP
  unfold card
  rw [this, NP_eq]
  omega
theorem EB.sum {enc : Int} {S : ShP} (hS : GoodS enc S) (hs : 0 ≤ S.first ∧ S.last ≤ 1114111) {r : Int × Int} {M : List RL} (h : EB S r M) : sumP M = card (inS S [r]) := by
  rcases h with ⟨hle, L, hL, rfl⟩ | ⟨hle, rfl⟩
  · rw [hL.sum hS (by omega) (by omega)]
    have e : card (inS S [r]) = card (fun q => decide (max r.1 S.first ≤ q) && decide (q ≤ min r.2 S.last)) := card_congr fun q _ _ => by
      rw [Bool.eq_iff_iff]
      simp [inS, ins]
      omega
    rw [e, card_rng _ _ (by omega) hle (by omega)]
    omega
  · rw [sumP_nil, card_zero]
    · rfl
    · intro q _ _
      rw [Bool.eq_false_iff]
      intro hh
      simp [inS, ins] at hh
      omega
theorem card_part {f g h : Int → Bool} (hor : ∀ q, h q = (f q || g q)) (hand : ∀ q, (f q && g q) = false) : card h = card f + card g := by
  have h1 := card_or_and f g
  have h2 : card (fun q => f q && g q) = 0 := card_zero fun q _ _ => hand q
  have h3 : card h = card (fun q => f q || g q) := card_congr fun q _ _ => hor q
  omega
theorem RRow.sum {enc : Int} {S : ShP} (hS : GoodS enc S) (hs : 0 ≤ S.first ∧ S.last ≤ 1114111) {A : RL} {LL : List RL} (h : RRow S A LL) : Canon A → sumP LL = card (inS S A) := by
  induction h with
  | nil =>
    intro _
    rw [sumP_nil, card_zero]
    · rfl
    · intro q _ _; rfl
  | snoc h1 h2 ih =>
    rename_i A LL M r
    intro hA
    obtain ⟨c1, c2, c3⟩ := canon_snoc.1 hA
    rw [sumP_append, ih c1, h2.sum hS hs, card_part (f := inS S A) (g := inS S [r]) (h := inS S (A ++ [r]))]
    · omega
    · intro q
      unfold inS
      rw [ins_append]
      cases ins A q <;> cases ins [r] q <;> simp
    · intro q
      rw [Bool.eq_false_iff]
      intro hh
      simp only [inS, Bool.and_eq_true] at hh
      obtain ⟨x, hx, x1, x2⟩ := (ins_iff _ _).1 hh.1.1
      have := c3 x hx
      have h3 := hh.2.1
      simp [ins] at h3
      omega
/-- the points of some shapes. -/
def inSs (Ss : List ShP) (q : Int) : Bool := Ss.any fun S => decide (S.first ≤ q) && decide (q ≤ S.last)
theorem RAll.sum {enc : Int} {A : RL} (hA : Canon A) {Ss : List ShP} {LL : List RL} (h : RAll A Ss LL) : (∀ S ∈ Ss, GoodS enc S ∧ 0 ≤ S.first ∧ S.last ≤ 1114111) → Ss.Pairwise (fun S T => S.last < T.first) → sumP LL = card (fun q => ins A q && inSs Ss q) := by
  induction h with
  | nil =>
    intro _ _
    rw [sumP_nil, card_zero]
    · rfl
    · intro q _ _; simp [inSs]
  | snoc h1 h2 ih =>
    rename_i Ss LL M S
    intro hG hP
    obtain ⟨q1, _, q2⟩ := List.pairwise_append.1 hP
    have gS := hG S (by simp)
    rw [sumP_append, ih (fun T hT => hG T (by simp [hT])) q1, h2.sum gS.1 gS.2 hA, card_part (f := fun q => ins A q && inSs Ss q) (g := inS S A) (h := fun q => ins A q && inSs (Ss ++ [S]) q)]
    · omega
    · intro q
      unfold inS inSs
      rw [List.any_append]
      cases ins A q <;> simp
    · intro q
      rw [Bool.eq_false_iff]
      intro hh
      simp only [inS, inSs, Bool.and_eq_true, List.any_eq_true, decide_eq_true_eq] at hh
      obtain ⟨⟨_, T, hT, t1, t2⟩, _, s1, s2⟩ := hh
      have := q2 T hT S (by simp)
      omega
def mayL (enc : Int) : RL := if enc = 4 then [(0, 255)] else [(0, 55295), (57344, 1114111)]
theorem inSs_may {enc : Int} (he : isEnc enc) (q : Int) (h0 : 0 ≤ q) (h1 : q ≤ 1114111) : inSs (shapesP enc) q = ins (mayL enc) q := by
  rw [Bool.eq_iff_iff]
  rcases he with rfl | rfl | rfl | rfl <;> simp [inSs, shapesP, paired, mayL, ins] <;> omega
/-- as many rows of bytes as scalars. -/
theorem roads_sum {enc : Int} (he : isEnc enc) {A : RL} (hA : Canon A) {LL : List RL} (h : RAll A (shapesP enc) LL) : sumP LL = card (fun q => ins A q && ins (mayL enc) q) := by
  have hrg : ∀ S ∈ shapesP enc, 0 ≤ S.first ∧ S.last ≤ 1114111 := fun S hS => by
    rcases he with rfl | rfl | rfl | rfl <;> simp [shapesP, paired] at hS
    · rcases hS with rfl | rfl | rfl | rfl | rfl <;> simp
    · rcases hS with rfl | rfl | rfl <;> simp
    · rcases hS with rfl | rfl | rfl <;> simp
    · subst hS; simp
  have h1 := h.sum (enc := enc) hA (fun S hS => ⟨good_all he S hS, hrg S hS⟩) (shapes_part he).1
  have h2 : card (fun q => ins A q && inSs (shapesP enc) q) = card (fun q => ins A q && ins (mayL enc) q) := card_congr fun q h0 h1 => by rw [inSs_may he q h0 h1]
  rw [h1, h2]
theorem prodR_snoc (L : RL) (r : Int × Int) : prodR (L ++ [r]) = prodR L * (r.2 - r.1 + 1) := by simp [prodR]
theorem prodR_take {L : RL} {k : Nat} (h : k < L.length) : prodR (L.take (k + 1)) = prodR (L.take k) * (L[k].2 - L[k].1 + 1) := by
  rw [List.take_add_one, List.getElem?_eq_getElem h]
  exact prodR_snoc _ _
theorem prodR_rng {L : RL} (hL : ∀ r ∈ L, 0 ≤ r.1 ∧ r.2 ≤ 255 ∧ r.1 ≤ r.2) : ∀ k, k ≤ 4 → 1 ≤ prodR (L.take k) ∧ prodR (L.take k) ≤ 256 ^ k
  | 0, _ => by simp [prodR]
  | k + 1, hk => by
    have ih := prodR_rng hL k (by omega)
    by_cases h : k < L.length
    · rw [prodR_take h]
      have hr := hL _ (List.getElem_mem h)
      obtain ⟨d, hd⟩ : ∃ d, d = L[k].2 - L[k].1 + 1 := ⟨_, rfl⟩
      rw [← hd]
      have hd1 : 1 ≤ d ∧ d ≤ 256 := by omega
      obtain ⟨x, hx⟩ : ∃ x, x = prodR (L.take k) := ⟨_, rfl⟩
      rw [← hx] at ih ⊢
      constructor
      · have := Int.mul_le_mul ih.1 hd1.1 (by decide) (by omega)
        simpa using this
      · rw [Int.pow_succ]
        exact Int.mul_le_mul ih.2 hd1.2 (by omega) (by have : (0 : Int) < 256 ^ k := Int.pow_pos (by decide); omega)
    · rw [List.take_of_length_le (by omega)]
      rw [List.take_of_length_le (by omega)] at ih
      refine ⟨ih.1, Int.le_trans ih.2 ?_⟩
      rw [Int.pow_succ]
      have : (0 : Int) < 256 ^ k := Int.pow_pos (by decide)
      omega
theorem sumP_take {LL : List RL} {k : Nat} (h : k < LL.length) : sumP (LL.take (k + 1)) = sumP (LL.take k) + prodR LL[k] := by
  rw [List.take_add_one, List.getElem?_eq_getElem h, sumP_append]
  simp [sumP]
theorem sumP_pos {LL : List RL} (h : ∀ L ∈ LL, 0 ≤ prodR L) : 0 ≤ sumP LL := by
  induction LL with
  | nil => exact Int.le_refl _
  | cons L LL ih =>
    rw [sumP_cons]
    have := ih (fun M hM => h M (by simp [hM]))
    have := h L (by simp)
    omega
theorem sumP_le {LL : List RL} (h : ∀ L ∈ LL, 0 ≤ prodR L) (k : Nat) : 0 ≤ sumP (LL.take k) ∧ sumP (LL.take k) ≤ sumP LL := by
  have e : sumP LL = sumP (LL.take k) + sumP (LL.drop k) := by rw [← sumP_append, List.take_append_drop]
  have h1 := sumP_pos (LL := LL.take k) (fun L hL => h L (List.mem_of_mem_take hL))
  have h2 := sumP_pos (LL := LL.drop k) (fun L hL => h L (List.mem_of_mem_drop hL))
  omega

end Go.Proofs.Ythigleohjagfiaa
