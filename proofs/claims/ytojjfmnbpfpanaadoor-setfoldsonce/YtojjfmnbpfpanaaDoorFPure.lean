/- The orbits of points as lists of numbers: plain mathematics, of no program. -/
namespace Go.Proofs.YtojjfmnbpfpanaaDoor.Fo

structure Pr where
  first : Int
  last : Int
  step : Int
  shift : Int

def lets : List Pr := [⟨65, 90, 1, 32⟩, ⟨192, 214, 1, 32⟩, ⟨216, 222, 1, 32⟩, ⟨256, 302, 2, 1⟩, ⟨913, 929, 1, 32⟩, ⟨931, 939, 1, 32⟩, ⟨1024, 1039, 1, 80⟩, ⟨1040, 1071, 1, 32⟩, ⟨962, 962, 1, 1⟩, ⟨181, 181, 1, 775⟩, ⟨8490, 8490, 1, -8383⟩, ⟨8491, 8491, 1, -8262⟩, ⟨7838, 7838, 1, -7615⟩]

def hasB (r : Pr) (x : Int) : Bool := decide (r.first ≤ x) && decide (x ≤ r.last) && ((x - r.first) % r.step == 0)
def stepP (pts : List Int) (q : Int) : List Int := if pts.contains q then pts else pts ++ [q]
def visit1 (p : Int) (pts : List Int) (r : Pr) : List Int :=
  let a := if hasB r p then stepP pts (p + r.shift) else pts
  if hasB r (p - r.shift) then stepP a (p - r.shift) else a
def visit (p : Int) (pts : List Int) : List Int := lets.foldl (visit1 p) pts
def grow1 (i : Nat) (l : List Int) : List Int := match l[i]? with
  | some q => visit q l
  | none => l
def orbS (p : Int) : Nat → List Int
  | 0 => [p]
  | i + 1 => grow1 i (orbS p i)
def ins (x : Int) : List Int → List Int
  | [] => [x]
  | y :: ys => if x < y then x :: y :: ys else y :: ins x ys
def srt (l : List Int) : List Int := l.foldl (fun acc x => ins x acc) []
def orb (p : Int) : List Int := srt (orbS p 3)

/-- points that may have others beside them. -/
def relB (p : Int) : Bool := (decide (65 ≤ p) && decide (p ≤ 122)) || (decide (181 ≤ p) && decide (p ≤ 303)) || (decide (913 ≤ p) && decide (p ≤ 971)) || (decide (1024 ≤ p) && decide (p ≤ 1119)) || (p == 7838) || (p == 8490) || (p == 8491)
def rels : List Int := ((List.range 58).map fun (i : Nat) => (65 + (i : Int))) ++ ((List.range 123).map fun (i : Nat) => (181 + (i : Int))) ++ ((List.range 59).map fun (i : Nat) => (913 + (i : Int))) ++ ((List.range 96).map fun (i : Nat) => (1024 + (i : Int))) ++ [7838, 8490, 8491]

theorem mem_rels {p : Int} (h : relB p = true) : p ∈ rels := by
  simp [relB] at h
  simp only [rels, List.mem_append, List.mem_map, List.mem_range]
  rcases h with (((((h | h) | h) | h) | h) | h) | h
  · exact Or.inl (Or.inl (Or.inl (Or.inl ⟨(p - 65).toNat, by omega, by omega⟩)))
  · exact Or.inl (Or.inl (Or.inl (Or.inr ⟨(p - 181).toNat, by omega, by omega⟩)))
  · exact Or.inl (Or.inl (Or.inr ⟨(p - 913).toNat, by omega, by omega⟩))
  · exact Or.inl (Or.inr ⟨(p - 1024).toNat, by omega, by omega⟩)
  · subst h; exact Or.inr (by decide)
  · subst h; exact Or.inr (by decide)
  · subst h; exact Or.inr (by decide)

theorem no_partner {p : Int} (h : relB p = false) : ∀ r ∈ lets, hasB r p = false ∧ hasB r (p - r.shift) = false := by
  simp [relB] at h
  intro r hr
  simp only [lets, List.mem_cons, List.not_mem_nil, or_false] at hr
  rcases hr with rfl | rfl | rfl | rfl | rfl | rfl | rfl | rfl | rfl | rfl | rfl | rfl | rfl <;> (constructor <;> (simp [hasB]; omega))

theorem visit_none {p : Int} (h : relB p = false) (pts : List Int) : visit p pts = pts := by
  have H := no_partner h
  unfold visit
  have : ∀ (l : List Pr), (∀ r ∈ l, hasB r p = false ∧ hasB r (p - r.shift) = false) → ∀ q, l.foldl (visit1 p) q = q := by
    intro l
    induction l with
    | nil => intros; rfl
    | cons r rs ih =>
      intro hl q
      have h1 := hl r (by simp)
      rw [List.foldl_cons]
      have e : visit1 p q r = q := by simp [visit1, h1.1, h1.2]
      rw [e]
      exact ih (fun r' hr' => hl r' (by simp [hr'])) q
  exact this lets H pts

theorem orbS_none {p : Int} (h : relB p = false) : ∀ i, orbS p i = [p] := by
  intro i
  induction i with
  | zero => rfl
  | succ i ih =>
    show grow1 i (orbS p i) = _
    rw [ih]
    unfold grow1
    match i with
    | 0 => exact visit_none h [p]
    | i + 1 => rfl
theorem orb_none {p : Int} (h : relB p = false) : orb p = [p] := by
  unfold orb; rw [orbS_none h]; rfl

/-- what is looked at, point by point. -/
def chkS (p : Int) (i : Nat) : Bool := decide (1 ≤ (orbS p i).length) && decide ((orbS p i).length ≤ 3) && (orbS p i).all (fun x => decide (0 ≤ x) && decide (x ≤ 8491))
def chk (p : Int) : Bool := chkS p 1 && chkS p 2 && chkS p 3 && (orb p).contains p && (orb p).all (fun x => decide (orb x = orb p)) && (match orb p with | [] => false | a :: _ => decide (a ≤ p))
theorem chk_all : rels.all chk = true := by decide +kernel

theorem chk_rel {p : Int} (h : relB p = true) : chk p = true := List.all_eq_true.1 chk_all p (mem_rels h)
theorem rel_range {p : Int} (h : relB p = true) : 0 ≤ p ∧ p ≤ 8491 := by
  simp [relB] at h; omega

/-- the rounds of Orbit. -/
theorem orbS_ok (p : Int) (h0 : 0 ≤ p) (h1 : p ≤ 1114111) (i : Nat) (hi : i ≤ 3) : 1 ≤ (orbS p i).length ∧ (orbS p i).length ≤ 3 ∧ ∀ x ∈ orbS p i, 0 ≤ x ∧ x ≤ 1114111 := by
  cases h : relB p with
  | false => rw [orbS_none h]; simp; omega
  | true =>
    have hc := chk_rel h
    simp only [chk, Bool.and_eq_true] at hc
    have key : ∀ j, chkS p j = true → 1 ≤ (orbS p j).length ∧ (orbS p j).length ≤ 3 ∧ ∀ x ∈ orbS p j, 0 ≤ x ∧ x ≤ 1114111 := by
      intro j hj
      simp only [chkS, Bool.and_eq_true, decide_eq_true_eq, List.all_eq_true] at hj
      exact ⟨hj.1.1, hj.1.2, fun x hx => by have := hj.2 x hx; omega⟩
    have hi' : i = 0 ∨ i = 1 ∨ i = 2 ∨ i = 3 := by omega
    rcases hi' with rfl | rfl | rfl | rfl
    · simp [orbS]; omega
    · exact key 1 hc.1.1.1.1.1
    · exact key 2 hc.1.1.1.1.2
    · exact key 3 hc.1.1.1.2
theorem grow1_end {i : Nat} {l : List Int} (h : l.length ≤ i) : grow1 i l = l := by
  unfold grow1; rw [List.getElem?_eq_none h]
theorem orbS_end {p : Int} {k : Nat} (h : (orbS p k).length ≤ k) : ∀ d, orbS p (k + d) = orbS p k := by
  intro d
  induction d with
  | zero => rfl
  | succ d ih => show grow1 (k + d) (orbS p (k + d)) = _; rw [ih]; exact grow1_end (by omega)
theorem orbS_fin {p : Int} {k : Nat} (hk : k ≤ 3) (h : (orbS p k).length ≤ k) : orbS p 3 = orbS p k := by
  have := orbS_end h (3 - k)
  rwa [show k + (3 - k) = 3 from by omega] at this
theorem orbS_succ {p : Int} {k : Nat} (h : k < (orbS p k).length) : orbS p (k + 1) = visit ((orbS p k).getD k 0) (orbS p k) := by
  show grow1 k (orbS p k) = _
  unfold grow1
  rw [List.getElem?_eq_getElem h]
  simp [List.getD, List.getElem?_eq_getElem h]

theorem ins_len (x : Int) (l : List Int) : (ins x l).length = l.length + 1 := by
  induction l with
  | nil => rfl
  | cons y ys ih => unfold ins; split <;> simp [ih]
theorem srt_len (l : List Int) : (srt l).length = l.length := by
  have : ∀ (l acc : List Int), (l.foldl (fun acc x => ins x acc) acc).length = acc.length + l.length := by
    intro l
    induction l with
    | nil => intro acc; simp
    | cons y ys ih => intro acc; rw [List.foldl_cons, ih, ins_len]; simp; omega
  have := this l []
  simpa [srt] using this
/-- orbits. -/
theorem orb_len (p : Int) (h0 : 0 ≤ p) (h1 : p ≤ 1114111) : 1 ≤ (orb p).length ∧ (orb p).length ≤ 3 := by
  have := orbS_ok p h0 h1 3 (by decide)
  unfold orb; rw [srt_len]; exact ⟨this.1, this.2.1⟩
theorem mem_ins (x z : Int) (l : List Int) : z ∈ ins x l ↔ z = x ∨ z ∈ l := by
  induction l with
  | nil => simp [ins]
  | cons y ys ih =>
    unfold ins
    split
    · simp
    · simp only [List.mem_cons, ih]
      constructor
      · rintro (h | h | h) <;> simp [h]
      · rintro (h | h | h) <;> simp [h]
theorem mem_srt (z : Int) (l : List Int) : z ∈ srt l ↔ z ∈ l := by
  have : ∀ (l acc : List Int), z ∈ l.foldl (fun acc x => ins x acc) acc ↔ z ∈ acc ∨ z ∈ l := by
    intro l
    induction l with
    | nil => intro acc; simp
    | cons y ys ih =>
      intro acc
      rw [List.foldl_cons, ih, mem_ins]
      simp only [List.mem_cons]
      constructor
      · rintro ((h | h) | h) <;> simp [h]
      · rintro (h | h | h) <;> simp [h]
  simpa [srt] using this l []
theorem orb_range (p : Int) (h0 : 0 ≤ p) (h1 : p ≤ 1114111) : ∀ x ∈ orb p, 0 ≤ x ∧ x ≤ 1114111 := fun x hx =>
  (orbS_ok p h0 h1 3 (by decide)).2.2 x ((mem_srt x _).1 hx)
theorem orb_self (p : Int) : p ∈ orb p := by
  cases h : relB p with
  | false => rw [orb_none h]; simp
  | true =>
    have hc := chk_rel h
    simp only [chk, Bool.and_eq_true] at hc
    simpa using hc.1.1.2
theorem orb_same (p x : Int) (hx : x ∈ orb p) : orb x = orb p := by
  cases h : relB p with
  | false => rw [orb_none h] at hx; simp at hx; rw [hx]
  | true =>
    have hc := chk_rel h
    simp only [chk, Bool.and_eq_true] at hc
    have := List.all_eq_true.1 hc.1.2 x hx
    simpa using this
theorem orb_head (p : Int) : (orb p).getD 0 0 ≤ p := by
  cases h : relB p with
  | false => rw [orb_none h]; simp
  | true =>
    have hc := chk_rel h
    simp only [chk, Bool.and_eq_true] at hc
    have := hc.2
    split at this
    · cases this
    · rename_i a t e
      rw [e]; simpa using this
/-- the least of an orbit. -/
def least (p : Int) : Int := (orb p).getD 0 0
theorem least_mem (p : Int) : least p ∈ orb p := by
  unfold least
  have h := orb_self p
  match orb p, h with
  | a :: t, _ => simp
theorem orb_least (p : Int) : orb (least p) = orb p := orb_same p _ (least_mem p)
theorem least_least (p : Int) : least (least p) = least p := by
  show (orb (least p)).getD 0 0 = least p
  rw [orb_least]; rfl
theorem least_iff (p q : Int) : least p = least q ↔ q ∈ orb p := by
  constructor
  · intro h
    have h1 := orb_least p
    have h2 := orb_least q
    rw [h] at h1
    rw [← h1, h2]
    exact orb_self q
  · intro h
    have := orb_same p q h
    unfold least
    rw [this]

end Go.Proofs.YtojjfmnbpfpanaaDoor.Fo
