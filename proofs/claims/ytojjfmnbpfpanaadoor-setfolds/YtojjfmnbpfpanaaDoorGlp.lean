/- Letters of a set: what eachLetter hands on, and how many there can be. -/
import Derived.Test.YtojjfmnbpfpanaaDoorGtk
namespace Go.Proofs.YtojjfmnbpfpanaaDoor
set_option linter.unusedVariables false

/-- n points from a. -/
def seqI (a : Int) (n : Nat) : List Int := (List.range n).map fun (i : Nat) => a + (i : Int)
theorem seqI_succ (a : Int) (n : Nat) : seqI a (n + 1) = seqI a n ++ [a + (n : Int)] := by simp [seqI, List.range_succ]
theorem seqI_len (a : Int) (n : Nat) : (seqI a n).length = n := by simp [seqI]
theorem mem_seqI {a : Int} {n : Nat} {q : Int} : q ∈ seqI a n ↔ a ≤ q ∧ q < a + (n : Int) := by
  simp only [seqI, List.mem_map, List.mem_range]
  constructor
  · rintro ⟨i, hi, rfl⟩; omega
  · rintro ⟨h1, h2⟩; exact ⟨(q - a).toNat, by omega, by omega⟩
def lenR (r : Int × Int) : Nat := (r.2 - r.1 + 1).toNat
/-- the points of ranges. -/
def pts : RL → List Int
  | [] => []
  | r :: L => seqI r.1 (lenR r) ++ pts L
theorem pts_append (a b : RL) : pts (a ++ b) = pts a ++ pts b := by
  induction a with
  | nil => rfl
  | cons r a ih => simp only [List.cons_append, pts, ih, List.append_assoc]
theorem pts_take (O : RL) (k : Nat) (h : k < O.length) : pts (O.take (k + 1)) = pts (O.take k) ++ seqI O[k].1 (lenR O[k]) := by
  rw [List.take_add_one, List.getElem?_eq_getElem h, pts_append]
  show _ ++ (_ ++ []) = _
  rw [List.append_nil]
theorem mem_pts {O : RL} {q : Int} : q ∈ pts O ↔ ins O q = true := by
  induction O with
  | nil => simp [pts, ins]
  | cons r O ih =>
    rw [pts, List.mem_append, ih, mem_seqI]
    simp only [ins, List.any_cons, Bool.or_eq_true, Bool.and_eq_true, decide_eq_true_eq]
    unfold lenR
    constructor
    · rintro (⟨h1, h2⟩ | h)
      · exact .inl ⟨h1, by omega⟩
      · exact .inr h
    · rintro (⟨h1, h2⟩ | h)
      · exact .inl ⟨h1, by omega⟩
      · exact .inr h
/-- how many points of a range are before x. -/
def clip (r : Int × Int) (x : Int) : Nat := min (x - r.1).toNat (lenR r)
def rank : RL → Int → Nat
  | [], _ => 0
  | r :: L, x => clip r x + rank L x
theorem clip_mono (r : Int × Int) {x y : Int} (h : x ≤ y) : clip r x ≤ clip r y := by unfold clip; omega
theorem rank_mono (L : RL) {x y : Int} (h : x ≤ y) : rank L x ≤ rank L y := by
  induction L with
  | nil => exact Nat.le_refl _
  | cons r L ih => have := clip_mono r h; simp only [rank]; omega
theorem rank_in (L : RL) (x : Int) (h : ins L x = true) : rank L x + 1 ≤ rank L (x + 1) := by
  induction L with
  | nil => simp [ins] at h
  | cons r L ih =>
    simp only [ins, List.any_cons, Bool.or_eq_true, Bool.and_eq_true, decide_eq_true_eq] at h
    simp only [rank]
    rcases h with ⟨h1, h2⟩ | h
    · have := rank_mono L (show x ≤ x + 1 by omega)
      have : clip r x + 1 ≤ clip r (x + 1) := by unfold clip lenR; omega
      omega
    · have := ih h
      have := clip_mono r (show x ≤ x + 1 by omega)
      omega
theorem rank_seq (L : RL) (a : Int) (n : Nat) (h : ∀ q, a ≤ q → q < a + n → ins L q = true) : rank L a + n ≤ rank L (a + n) := by
  induction n with
  | zero => simp
  | succ n ih =>
    have h1 := ih (fun q h1 h2 => h q h1 (by omega))
    have h2 := rank_in L (a + n) (h _ (by omega) (by omega))
    rw [show a + ((n + 1 : Nat) : Int) = a + n + 1 from by omega]
    omega
def total : RL → Nat
  | [] => 0
  | r :: L => lenR r + total L
theorem rank_total (L : RL) (x : Int) : rank L x ≤ total L := by
  induction L with
  | nil => exact Nat.le_refl _
  | cons r L ih => have : clip r x ≤ lenR r := by unfold clip; omega
                   simp only [rank, total]; omega
theorem pts_rank (L : RL) : ∀ (O : RL) (x : Int), Canon O → (∀ q, ins O q = true → ins L q = true) → (∀ r ∈ O, x ≤ r.1) → rank L x + (pts O).length ≤ total L
  | [], x, _, _, _ => by have := rank_total L x; simpa [pts] using this
  | r :: O, x, hc, hs, hx => by
    obtain ⟨h1, h2, h3⟩ := canon_cons.1 hc
    unfold okR at h1
    have hx1 := hx r (List.mem_cons_self ..)
    have m := rank_mono L hx1
    have e := rank_seq L r.1 (lenR r) (fun q q1 q2 => hs q (mem_pts.1 (by rw [pts, List.mem_append, mem_seqI]; exact .inl ⟨q1, q2⟩)))
    have ih := pts_rank L O (r.1 + (lenR r : Int)) h3 (fun q hq => hs q (by rw [← mem_pts] at hq ⊢; rw [pts, List.mem_append]; exact .inr hq)) (fun r' hr' => by have := h2 r' hr'; unfold lenR; omega)
    rw [pts, List.length_append, seqI_len]
    omega
theorem alpha_total : total Fo.ps_alpha = 647 := by decide +kernel
theorem pts_647 (O : RL) (hc : Canon O) (hs : ∀ q, ins O q = true → ins Fo.ps_alpha q = true) : (pts O).length ≤ 647 := by
  have := pts_rank Fo.ps_alpha O 0 hc hs (fun r hr => (hc.1 r hr).1)
  rw [alpha_total] at this
  omega
/-- what letters add. -/
def adds (P : List Int) : RL := P.flatMap fun p => rowQ (Fo.orb p)
theorem adds_append (a b : List Int) : adds (a ++ b) = adds a ++ adds b := by simp [adds]
theorem adds_one (p : Int) : adds [p] = rowQ (Fo.orb p) := by simp [adds]
theorem adds_len : ∀ (P : List Int), (∀ p ∈ P, 0 ≤ p ∧ p ≤ 1114111) → (adds P).length ≤ 3 * P.length
  | [], _ => Nat.le_refl _
  | p :: P, h => by
    have ih := adds_len P (fun q hq => h q (List.mem_cons_of_mem _ hq))
    have h1 := h p (List.mem_cons_self ..)
    have := orb_len p h1.1 h1.2
    rw [show p :: P = [p] ++ P from rfl, adds_append, adds_one, List.length_append, rowQ_len, List.length_append]
    simp only [List.length_singleton]
    omega
theorem pts_ok {O : RL} (hc : Canon O) : ∀ p ∈ pts O, 0 ≤ p ∧ p ≤ 1114111 := fun p hp => by
  rw [mem_pts] at hp
  simp only [ins, List.any_eq_true, Bool.and_eq_true, decide_eq_true_eq] at hp
  obtain ⟨r, hr, h1, h2⟩ := hp
  have := hc.1 r hr
  unfold okR at this
  omega
/-- as far as it has come: never more than there is room for. -/
theorem adds_room {O : RL} (hc : Canon O) (hs : ∀ q, ins O q = true → ins Fo.ps_alpha q = true) (k : Nat) (hk : k < O.length) (m : Nat) (hm : m ≤ lenR O[k]) : (adds (pts (O.take k) ++ seqI O[k].1 m)).length ≤ 1941 := by
  have h6 := pts_647 O hc hs
  have hlen : (pts (O.take k) ++ seqI O[k].1 m).length ≤ (pts O).length := by
    have e : pts O = pts (O.take (k + 1)) ++ pts (O.drop (k + 1)) := by rw [← pts_append, List.take_append_drop]
    rw [e, pts_take O k hk]
    simp only [List.length_append, seqI_len]
    omega
  have hok := pts_ok hc
  refine Nat.le_trans (adds_len _ fun p hp => ?_) (by omega)
  rcases List.mem_append.1 hp with hp | hp
  · refine hok p ?_
    rw [← List.take_append_drop k O, pts_append]
    exact List.mem_append.2 (.inl hp)
  · rw [mem_seqI] at hp
    have := hc.1 O[k] (List.getElem_mem _)
    unfold okR at this
    unfold lenR at hm
    omega

end Go.Proofs.YtojjfmnbpfpanaaDoor
