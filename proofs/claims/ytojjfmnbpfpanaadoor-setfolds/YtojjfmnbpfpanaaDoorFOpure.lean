/- What the reference's orbits are made of: what stands beside a point; that an orbit is what hangs together. -/
import Derived.Test.YtojjfmnbpfpanaaDoorFOrbit
namespace Go.Proofs.YtojjfmnbpfpanaaDoor.Fo
set_option linter.unusedVariables false

def b32 (p : Int) : Bool := (decide (65 ≤ p) && decide (p ≤ 90)) || (decide (192 ≤ p) && decide (p ≤ 214)) || (decide (216 ≤ p) && decide (p ≤ 222)) || (decide (913 ≤ p) && decide (p ≤ 929)) || (decide (931 ≤ p) && decide (p ≤ 939)) || (decide (1040 ≤ p) && decide (p ≤ 1071))
def b1 (p : Int) : Bool := (decide (256 ≤ p) && decide (p ≤ 302) && p % 2 == 0) || p == 962
def b80 (p : Int) : Bool := decide (1024 ≤ p) && decide (p ≤ 1039)
/-- what stands beside a point. -/
def besL (p : Int) : List Int :=
  if b32 p then [p + 32] else if b1 p then [p + 1] else if b80 p then [p + 80] else if p == 181 then [956] else if p == 8490 then [107] else if p == 8491 then [229] else if p == 7838 then [223] else []
def nears (x : Int) : List Int := [x - 32, x - 1, x - 80, 181, 8490, 8491, 7838]
def adjB (a b : Int) : Bool := (besL a).contains b || ((nears a).contains b && (besL b).contains a)

def chkO (p : Int) : Bool := ((besL p).all fun x => (orb p).contains x) && ((orb p).all fun x => x == p || adjB p x || (orb p).any fun y => adjB p y && adjB y x) && decide ((orb p).Pairwise (· < ·))
theorem chkO_all : rels.all chkO = true := by decide +kernel

theorem bes_no {p : Int} (h : relB p = false) : besL p = [] := by
  simp [relB] at h
  have h1 : b32 p = false := by simp [b32]; omega
  have h2 : b1 p = false := by simp [b1]; omega
  have h3 : b80 p = false := by simp [b80]; omega
  have h4 : (p == 181) = false := by simp; omega
  have h5 : (p == 8490) = false := by simp; omega
  have h6 : (p == 8491) = false := by simp; omega
  have h7 : (p == 7838) = false := by simp; omega
  simp only [besL, h1, h2, h3, h4, h5, h6, h7, Bool.false_eq_true, if_false]

theorem bes_len (p : Int) : (besL p).length ≤ 1 := by
  unfold besL
  split
  · simp
  split
  · simp
  split
  · simp
  split
  · simp
  split
  · simp
  split
  · simp
  split <;> simp

theorem bes_sub (p x : Int) (h : x ∈ besL p) : x ∈ orb p := by
  cases hr : relB p with
  | true =>
    have := List.all_eq_true.1 chkO_all p (mem_rels hr)
    simp only [chkO, Bool.and_eq_true] at this
    simpa using List.all_eq_true.1 this.1.1 x h
  | false => rw [bes_no hr] at h; cases h
theorem orb_sorted (p : Int) : (orb p).Pairwise (· < ·) := by
  cases hr : relB p with
  | true =>
    have := List.all_eq_true.1 chkO_all p (mem_rels hr)
    simp only [chkO, Bool.and_eq_true] at this
    simpa using this.2
  | false => rw [orb_none hr]; simp
theorem orb_path (p x : Int) (h : x ∈ orb p) : x = p ∨ adjB p x = true ∨ ∃ y, adjB p y = true ∧ adjB y x = true := by
  cases hr : relB p with
  | true =>
    have := List.all_eq_true.1 chkO_all p (mem_rels hr)
    simp only [chkO, Bool.and_eq_true] at this
    have := List.all_eq_true.1 this.1.2 x h
    simp only [Bool.or_eq_true, beq_iff_eq, List.any_eq_true, Bool.and_eq_true] at this
    rcases this with (h1 | h1) | ⟨y, _, h1⟩
    · exact Or.inl h1
    · exact Or.inr (Or.inl h1)
    · exact Or.inr (Or.inr ⟨y, h1⟩)
  | false => rw [orb_none hr] at h; simp at h; exact Or.inl h

/-- what stands beside a point of an orbit is of it; so is whatever a point of it stands beside. -/
theorem orb_bes (p x q : Int) (hx : x ∈ orb p) (hq : q ∈ besL x) : q ∈ orb p := by
  have := bes_sub x q hq
  rw [orb_same p x hx] at this
  exact this
theorem orb_sbes (p x q : Int) (hx : x ∈ orb p) (hq : x ∈ besL q) : q ∈ orb p := by
  have h1 := orb_same q x (bes_sub q x hq)
  rw [← orb_same p x hx, h1]
  exact orb_self q

def Closed (I : List Int) : Prop := (∀ x ∈ I, ∀ q ∈ besL x, q ∈ I) ∧ (∀ x ∈ I, ∀ q ∈ nears x, x ∈ besL q → q ∈ I)
theorem closed_adj {I : List Int} (h : Closed I) {a b : Int} (ha : a ∈ I) (hab : adjB a b = true) : b ∈ I := by
  simp only [adjB, Bool.or_eq_true, Bool.and_eq_true, List.contains_iff_mem] at hab
  rcases hab with hab | ⟨h1, h2⟩
  · exact h.1 a ha b hab
  · exact h.2 a ha b h1 h2
theorem closed_all {p : Int} {I : List Int} (h : Closed I) (hp : p ∈ I) (x : Int) (hx : x ∈ orb p) : x ∈ I := by
  rcases orb_path p x hx with rfl | h1 | ⟨y, h1, h2⟩
  · exact hp
  · exact closed_adj h hp h1
  · exact closed_adj h (closed_adj h hp h1) h2

/-- what is carried along: points of the orbit, each once, the point itself among them. -/
structure Part (p : Int) (I : List Int) : Prop where
  self : p ∈ I
  once : I.Nodup
  sub : ∀ x ∈ I, x ∈ orb p

theorem len_sub : ∀ (I O : List Int), I.Nodup → (∀ x ∈ I, x ∈ O) → I.length ≤ O.length
  | [], _, _, _ => Nat.zero_le _
  | x :: I, O, hn, hs => by
    rw [List.nodup_cons] at hn
    have hx := hs x (List.mem_cons_self ..)
    have h := len_sub I (O.erase x) hn.2 fun y hy => by
      have hyx : y ≠ x := fun e => hn.1 (e ▸ hy)
      exact (List.mem_erase_of_ne hyx).2 (hs y (List.mem_cons_of_mem _ hy))
    rw [List.length_erase_of_mem hx] at h
    have := List.length_pos_of_mem hx
    simp
    omega
theorem Part.len {p : Int} {I : List Int} (h : Part p I) (h0 : 0 ≤ p) (h1 : p ≤ 1114111) : 1 ≤ I.length ∧ I.length ≤ 3 := by
  have := len_sub I (orb p) h.once h.sub
  have := orb_len p h0 h1
  have := List.length_pos_of_mem h.self
  omega
theorem Part.start (p : Int) : Part p [p] := ⟨by simp, by simp, fun x hx => by simp at hx; rw [hx]; exact orb_self p⟩
theorem Part.more {p : Int} {I : List Int} (h : Part p I) {q : Int} (hq : q ∈ orb p) (hn : I.contains q = false) : Part p (I ++ [q]) :=
  ⟨List.mem_append.2 (Or.inl h.self), List.nodup_append.2 ⟨h.once, by simp, fun a ha b hb e => by simp at hb; subst hb; subst e; simp at hn; exact hn ha⟩, fun x hx => by
    rcases List.mem_append.1 hx with hx | hx
    · exact h.sub x hx
    · simp at hx; rw [hx]; exact hq⟩

/-- rising lists that have the same points are the same. -/
theorem sorted_ext : ∀ (a b : List Int), a.Pairwise (· < ·) → b.Pairwise (· < ·) → (∀ x, x ∈ a ↔ x ∈ b) → a = b
  | [], [], _, _, _ => rfl
  | [], y :: b, _, _, h => by have := (h y).2 (List.mem_cons_self ..); cases this
  | x :: a, [], _, _, h => by have := (h x).1 (List.mem_cons_self ..); cases this
  | x :: a, y :: b, ha, hb, h => by
    rw [List.pairwise_cons] at ha hb
    have hxy : x = y := by
      rcases List.mem_cons.1 ((h x).1 (List.mem_cons_self ..)) with e | e
      · exact e
      · rcases List.mem_cons.1 ((h y).2 (List.mem_cons_self ..)) with e2 | e2
        · exact e2.symm
        · have := hb.1 x e; have := ha.1 y e2; omega
    subst hxy
    rw [sorted_ext a b ha.2 hb.2 fun z => ⟨fun hz => by
      rcases List.mem_cons.1 ((h z).1 (List.mem_cons_of_mem _ hz)) with e | e
      · have := ha.1 z hz; omega
      · exact e, fun hz => by
      rcases List.mem_cons.1 ((h z).2 (List.mem_cons_of_mem _ hz)) with e | e
      · have := hb.1 z hz; omega
      · exact e⟩]

end Go.Proofs.YtojjfmnbpfpanaaDoor.Fo
