/- How deep a tree is; what is too great, as the reference goes about it. -/
import Derived.Test.YtpcohmbipbiglaaDoorQpure
namespace Go.Proofs.YtpcohmbipbiglaaDoor
open Go.RowKit
set_option linter.unusedVariables false

mutual
/-- how deep a tree is. -/
def dpT : Tr → Nat
  | .mk _ _ _ _ _ _ _ kids => dpL kids
def dpL : List Tr → Nat
  | [] => 0
  | t :: ts => Nat.max (dpT t + 1) (dpL ts)
end
theorem dpT_kids (t : Tr) : dpT t = dpL t.kids := by cases t; rfl
theorem dpL_le : ∀ (ts : List Tr) (f : Nat), dpL ts ≤ f ↔ ∀ t ∈ ts, dpT t + 1 ≤ f
  | [], f => by simp [dpL]
  | t :: ts, f => by
    rw [dpL]
    have := dpL_le ts f
    simp only [List.mem_cons, forall_eq_or_imp, ← this]
    exact Nat.max_le
theorem cntL_iff {f : Nat} (hs : ∀ t c, c ≤ 1000 → (cntT f t c < 1001 ↔ c + szT t ≤ 1000 ∧ dpT t < f)) : ∀ (ts : List Tr) (c : Nat), c ≤ 1000 → (cntL (cntT f) ts c < 1001 ↔ c + szL ts ≤ 1000 ∧ dpL ts ≤ f)
  | [], c, hc => by simp [cntL, szL, dpL]; omega
  | t :: ts, c, hc => by
    have h1 := hs t c hc
    unfold cntL
    rw [if_pos (by omega), dpL, szL]
    by_cases h : cntT f t c < 1001
    · have h2 := cntT_sz f t c (by omega) h
      have h3 := cntL_iff hs ts (cntT f t c) (by omega)
      rw [h3, h2]
      have h4 := h1.1 h
      have h5 : Nat.max (dpT t + 1) (dpL ts) ≤ f ↔ dpT t + 1 ≤ f ∧ dpL ts ≤ f := Nat.max_le
      rw [h5]
      constructor <;> intro h <;> omega
    · rw [cntL_stop h]
      have h5 : Nat.max (dpT t + 1) (dpL ts) ≤ f ↔ dpT t + 1 ≤ f ∧ dpL ts ≤ f := Nat.max_le
      rw [h5]
      constructor
      · intro h'; exact absurd h' h
      · intro ⟨ha, hb, _⟩; exact absurd (h1.2 ⟨by omega, by omega⟩) h
theorem cntT_iff : ∀ (f : Nat) (t : Tr) (c : Nat), c ≤ 1000 → (cntT f t c < 1001 ↔ c + szT t ≤ 1000 ∧ dpT t < f) := by
  intro f
  induction f with
  | zero => intro t c hc; unfold cntT; constructor <;> intro h <;> omega
  | succ f ih =>
    intro t c hc
    unfold cntT
    by_cases h : c + 1 ≤ 1000
    · rw [cntL_iff ih _ _ h, szT_kids, dpT_kids]
      constructor <;> intro h <;> omega
    · have h2 := szT_pos t
      rw [cntL_stop (by omega)]
      constructor <;> intro h <;> omega
theorem cntA_iff (t : Tr) : cntA t < 1001 ↔ szT t ≤ 1000 ∧ dpT t ≤ 200 := by
  unfold cntA
  rw [cntT_iff 201 t 0 (by omega)]
  constructor <;> intro h <;> omega

mutual
/-- no slice of kids is beyond what a machine can hold. -/
def smT : Tr → Prop
  | .mk _ _ _ _ _ _ _ kids => kids.length ≤ 4611686018427387904 ∧ smL kids
def smL : List Tr → Prop
  | [] => True
  | t :: ts => smT t ∧ smL ts
end
theorem smT_kids (t : Tr) : smT t = (t.kids.length ≤ 4611686018427387904 ∧ smL t.kids) := by cases t; rfl
theorem smL_mem : ∀ {ts : List Tr}, smL ts → ∀ t ∈ ts, smT t
  | u :: ts, h, t, ht => by
    rcases List.mem_cons.1 ht with rfl | ht
    · exact h.1
    · exact smL_mem h.2 t ht
theorem smL_of : ∀ {ts : List Tr}, (∀ t ∈ ts, smT t) → smL ts
  | [], _ => trivial
  | u :: ts, h => ⟨h u (by simp), smL_of (fun t ht => h t (by simp [ht]))⟩
abbrev ZL : Type := List ((NV × Tr) × Nat)
def szZ : ZL → Nat
  | [] => 0
  | z :: Z => szT z.1.2 + szZ Z
theorem szZ_append : ∀ a b : ZL, szZ (a ++ b) = szZ a + szZ b
  | [], b => by simp [szZ]
  | z :: a, b => by rw [List.cons_append, szZ, szZ, szZ_append a b]; omega
theorem szZ_len : ∀ Z : ZL, Z.length ≤ szZ Z
  | [] => Nat.le_refl _
  | z :: Z => by rw [szZ, List.length_cons]; have := szZ_len Z; have := szT_pos z.1.2; omega
/-- what is known of a tree of which so many nodes were seen, and these are left. -/
structure Todo (w0 : World) (t : Tr) (many : Nat) (Z : ZL) : Prop where
  sz : many + szZ Z = szT t
  dp : dpT t ≤ 200 ↔ ∀ z ∈ Z, z.2 + dpT z.1.2 ≤ 200
  len : many + Z.length ≤ 1000
  nd : ∀ z ∈ Z, NodeC w0 z.1.1 z.1.2
  sm : ∀ z ∈ Z, smT z.1.2
theorem Todo.start {w0 : World} {n : NV} {t : Tr} (h : NodeC w0 n t) (hs : smT t) : Todo w0 t 0 [((n, t), 0)] :=
  ⟨by simp [szZ], by simp, by simp, fun z hz => by simp at hz; subst hz; exact h, fun z hz => by simp at hz; subst hz; exact hs⟩
theorem Todo.done {w0 : World} {t : Tr} {many : Nat} (h : Todo w0 t many []) : cntA t < 1001 := by
  rw [cntA_iff]
  have h1 := h.sz
  have h2 := h.len
  simp [szZ] at h1 h2
  exact ⟨by omega, h.dp.2 (by simp)⟩
theorem Todo.many {w0 : World} {t : Tr} {many : Nat} {Z : ZL} {z : (NV × Tr) × Nat} (h : Todo w0 t many (Z ++ [z])) (hm : 1000 < many + 1 + Z.length + z.1.2.kids.length) : ¬ cntA t < 1001 := by
  rw [cntA_iff]
  have h1 := h.sz
  have h2 := szZ_len Z
  have h3 : z.1.2.kids.length ≤ szL z.1.2.kids := by
    generalize z.1.2.kids = l
    induction l with
    | nil => simp
    | cons t ts ih => rw [szL, List.length_cons]; have := szT_pos t; omega
  rw [szZ_append] at h1
  simp [szZ] at h1
  rw [szT_kids] at h1
  omega
theorem Todo.deep {w0 : World} {t : Tr} {many : Nat} {Z : ZL} {z : (NV × Tr) × Nat} (h : Todo w0 t many (Z ++ [z])) (hd : 200 < z.2) : ¬ cntA t < 1001 := by
  rw [cntA_iff]
  intro ⟨_, h2⟩
  have := h.dp.1 h2 z (by simp)
  omega
theorem szZ_map (d : Nat) : ∀ K : List (NV × Tr), szZ (K.map (fun k => (k, d))) = szL (K.map (·.2))
  | [] => rfl
  | k :: K => by rw [List.map_cons, List.map_cons, szZ, szL, szZ_map d K]
theorem Todo.next {w0 : World} {t : Tr} {many : Nat} {Z : ZL} {z : (NV × Tr) × Nat} (h : Todo w0 t many (Z ++ [z])) (hm : many + 1 + Z.length + z.1.2.kids.length ≤ 1000) (hd : z.2 ≤ 200) {K : List (NV × Tr)} (hK : K.map (·.2) = z.1.2.kids) (hN : ∀ k ∈ K, NodeC w0 k.1 k.2) : Todo w0 t (many + 1) (Z ++ K.map (fun k => (k, z.2 + 1))) := by
  have hl : K.length = z.1.2.kids.length := by rw [← hK, List.length_map]
  refine ⟨?_, ?_, ?_, ?_, ?_⟩
  · have h1 := h.sz
    rw [szZ_append] at h1 ⊢
    rw [szZ_map, hK]
    simp [szZ] at h1
    rw [szT_kids] at h1
    omega
  · rw [h.dp]
    have h2 := dpL_le z.1.2.kids (200 - z.2)
    rw [← dpT_kids, ← hK] at h2
    constructor
    · intro ha y hy
      rcases List.mem_append.1 hy with hy | hy
      · exact ha y (by simp [hy])
      · obtain ⟨k, hk, rfl⟩ := List.mem_map.1 hy
        have h3 := ha z (by simp)
        have h4 := h2.1 (by omega) k.2 (List.mem_map.2 ⟨k, hk, rfl⟩)
        show z.2 + 1 + dpT k.2 ≤ 200
        omega
    · intro ha y hy
      rcases List.mem_append.1 hy with hy | hy
      · exact ha y (by simp [hy])
      · simp at hy
        subst hy
        have : dpT y.1.2 ≤ 200 - y.2 := h2.2 (fun u hu => by
          obtain ⟨k, hk, rfl⟩ := List.mem_map.1 hu
          have := ha (k, y.2 + 1) (by simp; exact .inr hk)
          simp at this
          omega)
        omega
  · simp; omega
  · intro y hy
    rcases List.mem_append.1 hy with hy | hy
    · exact h.nd y (by simp [hy])
    · obtain ⟨k, hk, rfl⟩ := List.mem_map.1 hy
      exact hN k hk
  · intro y hy
    rcases List.mem_append.1 hy with hy | hy
    · exact h.sm y (by simp [hy])
    · obtain ⟨k, hk, rfl⟩ := List.mem_map.1 hy
      have h1 := h.sm z (by simp)
      rw [smT_kids] at h1
      exact smL_mem h1.2 _ (by rw [← hK]; exact List.mem_map.2 ⟨k, hk, rfl⟩)

end Go.Proofs.YtpcohmbipbiglaaDoor
