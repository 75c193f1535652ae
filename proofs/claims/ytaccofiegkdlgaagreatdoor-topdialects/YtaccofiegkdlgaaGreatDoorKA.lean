import Derived.Test.YtaccofiegkdlgaaGreatDoorProg
import Derived.WalkKit
import Derived.WalkLawsBesides
import Derived.Handy
import Derived.PlainAid
import Derived.BigQuiet
import Derived.Deep.QuietTactic
import Derived.OneCell
namespace Go.Proofs.YtaccofiegkdlgaaGreatDoor.Fo
structure Pr where
 first : Int
 last : Int
 step : Int
 shift : Int
def lets : List Pr := [⟨65, 90, 1, 32⟩, ⟨192, 214, 1, 32⟩, ⟨216, 222, 1, 32⟩, ⟨256, 302, 2, 1⟩, ⟨913, 929, 1, 32⟩, ⟨931, 939, 1, 32⟩, ⟨1024, 1039, 1, 80⟩, ⟨1040, 1071, 1, 32⟩, ⟨962, 962, 1, 1⟩, ⟨181, 181, 1, 775⟩, ⟨8490, 8490, 1, -8383⟩, ⟨8491, 8491, 1, -8262⟩, ⟨7838, 7838, 1, -7615⟩]
def hasB (r : Pr) (x : Int) : Bool := decide (r.first ≤ x) && decide (x ≤ r.last) && ((x - r.first) % r.step == 0)
def stepP (pts : List Int) (q : Int) : List Int := if pts.contains q then pts else pts ++ [q]
def visit1 (p : Int) (pts : List Int) (r : Pr) : List Int :=
 let a := if hasB r p then stepP pts (p + r.shift) else pts
 if hasB r (p - r.shift) then stepP a (p - r.shift) else a
def visit (p : Int) (pts : List Int) : List Int := lets.foldl (visit1 p) pts
def grow1 (i : Nat) (l : List Int) : List Int := match l[i]? with
 | some q => visit q l
 | none => l
def orbS (p : Int) : Nat → List Int
 | 0 => [p]
 | i + 1 => grow1 i (orbS p i)
def ins (x : Int) : List Int → List Int
 | [] => [x]
 | y :: ys => if x < y then x :: y :: ys else y :: ins x ys
def srt (l : List Int) : List Int := l.foldl (fun acc x => ins x acc) []
def orb (p : Int) : List Int := srt (orbS p 3)
def relB (p : Int) : Bool := (decide (65 ≤ p) && decide (p ≤ 122)) || (decide (181 ≤ p) && decide (p ≤ 303)) || (decide (913 ≤ p) && decide (p ≤ 971)) || (decide (1024 ≤ p) && decide (p ≤ 1119)) || (p == 7838) || (p == 8490) || (p == 8491)
def rels : List Int := ((List.range 58).map fun (i : Nat) => (65 + (i : Int))) ++ ((List.range 123).map fun (i : Nat) => (181 + (i : Int))) ++ ((List.range 59).map fun (i : Nat) => (913 + (i : Int))) ++ ((List.range 96).map fun (i : Nat) => (1024 + (i : Int))) ++ [7838, 8490, 8491]
theorem mem_rels {p : Int} (h : relB p = true) : p ∈ rels := by
 simp [relB] at h
 simp only [rels, List.mem_append, List.mem_map, List.mem_range]
 rcases h with (((((h | h) | h) | h) | h) | h) | h
 ·exact Or.inl (Or.inl (Or.inl (Or.inl ⟨(p - 65).toNat, by omega, by omega⟩)))
 ·exact Or.inl (Or.inl (Or.inl (Or.inr ⟨(p - 181).toNat, by omega, by omega⟩)))
 ·exact Or.inl (Or.inl (Or.inr ⟨(p - 913).toNat, by omega, by omega⟩))
 ·exact Or.inl (Or.inr ⟨(p - 1024).toNat, by omega, by omega⟩)
 ·subst h; exact Or.inr (by decide)
 ·subst h; exact Or.inr (by decide)
 ·subst h; exact Or.inr (by decide)
theorem no_partner {p : Int} (h : relB p = false) : ∀ r ∈ lets, hasB r p = false ∧ hasB r (p - r.shift) = false := by
 simp [relB] at h
 intro r hr
 simp only [lets, List.mem_cons, List.not_mem_nil, or_false] at hr
 rcases hr with rfl | rfl | rfl | rfl | rfl | rfl | rfl | rfl | rfl | rfl | rfl | rfl | rfl <;> (constructor <;> (simp [hasB]; omega))
theorem visit_none {p : Int} (h : relB p = false) (pts : List Int) : visit p pts = pts := by
 have H := no_partner h
 unfold visit
 have : ∀ (l : List Pr), (∀ r ∈ l, hasB r p = false ∧ hasB r (p - r.shift) = false) → ∀ q, l.foldl (visit1 p) q = q := by
  intro l
  induction l with
  | nil => intros; rfl
  | cons r rs ih =>
   intro hl q
   have h1 := hl r (by simp)
   rw [List.foldl_cons]
   have e : visit1 p q r = q := by simp [visit1, h1.1, h1.2]
   rw [e]
   exact ih (fun r' hr' => hl r' (by simp [hr'])) q
 exact this lets H pts
theorem orbS_none {p : Int} (h : relB p = false) : ∀ i, orbS p i = [p] := by
 intro i
 induction i with
 | zero => rfl
 | succ i ih =>
  show grow1 i (orbS p i) = _
  rw [ih]
  unfold grow1
  match i with
  | 0 => exact visit_none h [p]
  | i + 1 => rfl
theorem orb_none {p : Int} (h : relB p = false) : orb p = [p] := by
 unfold orb; rw [orbS_none h]; rfl
def chkS (p : Int) (i : Nat) : Bool := decide (1 ≤ (orbS p i).length) && decide ((orbS p i).length ≤ 3) && (orbS p i).all (fun x => decide (0 ≤ x) && decide (x ≤ 8491))
def chk (p : Int) : Bool := chkS p 1 && chkS p 2 && chkS p 3 && (orb p).contains p && (orb p).all (fun x => decide (orb x = orb p)) && (match orb p with | [] => false | a :: _ => decide (a ≤ p))
theorem chk_all : rels.all chk = true := by decide +kernel
theorem chk_rel {p : Int} (h : relB p = true) : chk p = true := List.all_eq_true.1 chk_all p (mem_rels h)
theorem rel_range {p : Int} (h : relB p = true) : 0 ≤ p ∧ p ≤ 8491 := by
 simp [relB] at h; omega
theorem orbS_ok (p : Int) (h0 : 0 ≤ p) (h1 : p ≤ 1114111) (i : Nat) (hi : i ≤ 3) : 1 ≤ (orbS p i).length ∧ (orbS p i).length ≤ 3 ∧ ∀ x ∈ orbS p i, 0 ≤ x ∧ x ≤ 1114111 := by
 cases h : relB p with
 | false => rw [orbS_none h]; simp; omega
 | true =>
  have hc := chk_rel h
  simp only [chk, Bool.and_eq_true] at hc
  have key : ∀ j, chkS p j = true → 1 ≤ (orbS p j).length ∧ (orbS p j).length ≤ 3 ∧ ∀ x ∈ orbS p j, 0 ≤ x ∧ x ≤ 1114111 := by
   intro j hj
   simp only [chkS, Bool.and_eq_true, decide_eq_true_eq, List.all_eq_true] at hj
   exact ⟨hj.1.1, hj.1.2, fun x hx => by have := hj.2 x hx; omega⟩
  have hi' : i = 0 ∨ i = 1 ∨ i = 2 ∨ i = 3 := by omega
  rcases hi' with rfl | rfl | rfl | rfl
  ·simp [orbS]; omega
  ·exact key 1 hc.1.1.1.1.1
  ·exact key 2 hc.1.1.1.1.2
  ·exact key 3 hc.1.1.1.2
theorem grow1_end {i : Nat} {l : List Int} (h : l.length ≤ i) : grow1 i l = l := by
 unfold grow1; rw [List.getElem?_eq_none h]
theorem orbS_end {p : Int} {k : Nat} (h : (orbS p k).length ≤ k) : ∀ d, orbS p (k + d) = orbS p k := by
 intro d
 induction d with
 | zero => rfl
 | succ d ih => show grow1 (k + d) (orbS p (k + d)) = _; rw [ih]; exact grow1_end (by omega)
theorem orbS_fin {p : Int} {k : Nat} (hk : k ≤ 3) (h : (orbS p k).length ≤ k) : orbS p 3 = orbS p k := by
 have := orbS_end h (3 - k)
 rwa [show k + (3 - k) = 3 from by omega] at this
theorem orbS_succ {p : Int} {k : Nat} (h : k < (orbS p k).length) : orbS p (k + 1) = visit ((orbS p k).getD k 0) (orbS p k) := by
 show grow1 k (orbS p k) = _
 unfold grow1
 rw [List.getElem?_eq_getElem h]
 simp [List.getD, List.getElem?_eq_getElem h]
theorem ins_len (x : Int) (l : List Int) : (ins x l).length = l.length + 1 := by
 induction l with
 | nil => rfl
 | cons y ys ih => unfold ins; split <;> simp [ih]
theorem srt_len (l : List Int) : (srt l).length = l.length := by
 have : ∀ (l acc : List Int), (l.foldl (fun acc x => ins x acc) acc).length = acc.length + l.length := by
  intro l
  induction l with
  | nil => intro acc; simp
  | cons y ys ih => intro acc; rw [List.foldl_cons, ih, ins_len]; simp; omega
 have := this l []
 simpa [srt] using this
theorem mem_ins (x z : Int) (l : List Int) : z ∈ ins x l ↔ z = x ∨ z ∈ l := by
 induction l with
 | nil => simp [ins]
 | cons y ys ih =>
  unfold ins
  split
  ·simp
  ·simp only [List.mem_cons, ih]
   constructor
   ·rintro (h | h | h) <;> simp [h]
   ·rintro (h | h | h) <;> simp [h]
theorem orb_self (p : Int) : p ∈ orb p := by
 cases h : relB p with
 | false => rw [orb_none h]; simp
 | true =>
  have hc := chk_rel h
  simp only [chk, Bool.and_eq_true] at hc
  simpa using hc.1.1.2
theorem orb_same (p x : Int) (hx : x ∈ orb p) : orb x = orb p := by
 cases h : relB p with
 | false => rw [orb_none h] at hx; simp at hx; rw [hx]
 | true =>
  have hc := chk_rel h
  simp only [chk, Bool.and_eq_true] at hc
  have := List.all_eq_true.1 hc.1.2 x hx
  simpa using this
def least (p : Int) : Int := (orb p).getD 0 0
theorem least_mem (p : Int) : least p ∈ orb p := by
 unfold least
 have h := orb_self p
 match orb p, h with
 | a :: t, _ => simp
theorem orb_least (p : Int) : orb (least p) = orb p := orb_same p _ (least_mem p)
theorem least_iff (p q : Int) : least p = least q ↔ q ∈ orb p := by
 constructor
 ·intro h
  have h1 := orb_least p
  have h2 := orb_least q
  rw [h] at h1
  rw [← h1, h2]
  exact orb_self q
 ·intro h
  have := orb_same p q h
  unfold least
  rw [this]
end Go.Proofs.YtaccofiegkdlgaaGreatDoor.Fo
namespace Go.Proofs.YtaccofiegkdlgaaGreatDoor.Fo
set_option maxHeartbeats 1000000
open Go.RowKit
set_option linter.unusedVariables false
theorem hide {p : Prop} (h : p) : Hid p := h
theorem ret_bool {a b : Bool} (h : a = b) : Ending.returned (.bool a) = .returned (.bool b) := by rw [h]
def i64s (l : List Int) : List Value := l.map (Value.int .i64)
theorem isPoint_any (p : Int) (w : World) : Calls Tryz.prog 16 #[.int .i64 p] w fun e w' => e = .returned (.bool (decide (0 ≤ p ∧ p ≤ 1114111))) ∧ w' = w := by
 go_enter Tryz.func16, Tryz.ntmps16
 go_wp2
 all_goals go_ret
 all_goals exact ⟨ret_bool (by rw [Bool.eq_iff_iff]; simp <;> omega), rfl⟩
theorem has_any (f l st sh x : Int) (hf : 0 ≤ f) (hl : l ≤ 10000) (hs : st = 1 ∨ st = 2) (hx0 : -20000 ≤ x) (hx1 : x ≤ 2000000) (w : World) :
  Calls Tryz.prog 120 #[.agg #[.int .i64 f, .int .i64 l, .int .i64 st, .int .i64 sh], .int .i64 x] w fun e w' => e = .returned (.bool (hasB ⟨f, l, st, sh⟩ x)) ∧ Below w.heap.size w w' := by
 by_cases h1 : f ≤ x
 ·by_cases h2 : x ≤ l
  ·rcases hs with rfl | rfl
   all_goals
    go_enter Tryz.func120, Tryz.ntmps120
    go_wp2
    go_ret
    exact ⟨ret_bool (by rw [Bool.eq_iff_iff]; simp [hasB, h1, h2]), by go_grown⟩
  ·go_enter Tryz.func120, Tryz.ntmps120
   go_wp2
   go_ret
   exact ⟨ret_bool (by simp [hasB]; omega), by go_grown⟩
 ·go_enter Tryz.func120, Tryz.ntmps120
  go_wp2
  go_ret
  exact ⟨ret_bool (by simp [hasB]; omega), by go_grown⟩
theorem index_any (l : List Int) (a : Addr) (cap : Nat) (x : Int) (hl : l.length ≤ 4000) (w : World) (hc : ∀ j, j < l.length → w.cell? (a.add j) = some (.int .i64 (l.getD j 0))) :
  Calls Tryz.prog 121 #[.slice (some a) l.length cap, .int .i64 x] w fun e w' => ∃ z : Int, e = .returned (.int .i64 z) ∧ (0 ≤ z ↔ x ∈ l) ∧ w = w' := by
 have HC := hide hc
 clear hc
 go_enter Tryz.func121, Tryz.ntmps121
 go_wp2
 go_loop [8] (fun i => ∃ k : Nat, k ≤ l.length ∧ i = .int .i64 k ∧ x ∉ l.take k) (fun i => l.length - (intOf i).toNat)
 case atStart => exact ⟨0, Nat.zero_le _, rfl, by simp⟩
 case round =>
  obtain ⟨k, hk, rfl, hn⟩ := hrel
  by_cases hlt : k < l.length
  ·obtain ⟨y, hy⟩ : ∃ y, y = l.getD k 0 := ⟨_, rfl⟩
   have hcy : w.cell? (a.add k) = some (.int .i64 y) := by rw [hy]; exact HC.out k hlt
   have HY := hide hy
   have HN := hide hn
   clear hy hn
   have hmem : y ∈ l := by rw [HY.out]; simp [List.getD, hlt]
   by_cases hxy : x = y
   ·subst hxy
    go_wp2
    go_ret
    refine ⟨(k : Int), rfl, ?_, rfl⟩
    exact Int.natCast_nonneg k
   ·have hb : (x == y) = false := by simpa using hxy
    have HXY := hide hxy
    clear hxy hmem
    go_wp2
    go_round
    case rel => exact ⟨k + 1, by omega, by go_num, by
     rw [List.take_add_one]
     simp only [List.mem_append, not_or]
     refine ⟨HN.out, ?_⟩
     have := HY.out
     simp [List.getD, List.getElem?_eq_getElem hlt] at this ⊢
     rw [← this]; exact HXY.out⟩
    case measure => simp [intOf]; omega
  ·have hkl : k = l.length := by omega
   subst hkl
   rw [List.take_length] at hn
   go_wp2
   go_ret
   refine ⟨-1, rfl, ?_, rfl⟩
   decide
theorem contains_any (l : List Int) (a : Addr) (cap : Nat) (x : Int) (hl : l.length ≤ 4000) (w : World) (hc : ∀ j, j < l.length → w.cell? (a.add j) = some (.int .i64 (l.getD j 0))) :
  Calls Tryz.prog 104 #[.slice (some a) l.length cap, .int .i64 x] w fun e w' => e = .returned (.bool (l.contains x)) ∧ w = w' := by
 have H := hide (index_any l a cap x hl w hc)
 clear hc
 go_enter Tryz.func104, Tryz.ntmps104
 go_wp2_with (go_at_call 121; refine H.out.mono ?_; rintro e w' ⟨z, rfl, hz, rfl⟩)
 go_ret
 exact ⟨ret_bool (by rw [Bool.eq_iff_iff]; simp), rfl⟩
theorem own_shape {B e : Nat} {w : World} {v : Value} {n k : Nat} {xs : List Value} (h : w.ownsRow B e k v n xs) : ∃ ao cap, v = .slice ao n cap := by
 rcases h.2 with ⟨rfl, rfl⟩ | ⟨g, cap, cur, rfl, _⟩
 ·exact ⟨_, _, rfl⟩
 ·exact ⟨_, _, rfl⟩
theorem own_some {B e : Nat} {w : World} {v : Value} {n k : Nat} {xs : List Value} (h : w.ownsRow B e k v n xs) (hn : 1 ≤ n) : ∃ g cap, v = .slice (some ⟨g, 0, none⟩) n cap := by
 rcases h.2 with ⟨rfl, rfl⟩ | ⟨g, cap, cur, rfl, _⟩
 ·omega
 ·exact ⟨_, _, rfl⟩
theorem own_below {B e : Nat} {w w' : World} {v : Value} {n k : Nat} {xs : List Value} (h : w.ownsRow B e k v n xs) (hb : Below w.heap.size w w') : w'.ownsRow B e k v n xs := by
 refine ⟨h.1, ?_⟩
 rcases h.2 with h2 | ⟨g, cap, cur, rfl, h3, hg, h4⟩
 ·exact Or.inl h2
 ·exact Or.inr ⟨g, cap, cur, rfl, h3, by rw [hb.block g (Array.getElem?_eq_some_iff.1 hg).1]; exact hg, h4⟩
theorem cells_one3 (X : World) (g : Nat) (hg : g = X.heap.size) (z : Int) : ∀ j v, [Value.int .i64 z][j]? = some v → (X.alloc (.cells #[.int .i64 z] 3)).cell? ((⟨g, 0, none⟩ : Addr).add j) = some v := by
 subst hg
 intro j v hj
 match j, hj with
 | 0, hj => simp at hj; subst hj; exact World.cell?_alloc_at _ _ _ _ rfl
 | (j + 1), hj => simp at hj
theorem one3 (z : Int) : ∀ v ∈ [Value.int .i64 z], v.oneCell' = true := by
 intro v hv; simp at hv; subst hv; rfl
def Keeps (b : Nat) (w w' : World) : Prop := ∀ k o, k ≠ b → w.heap[k]? = some o → (∀ cs fr, o ≠ .cells cs 3 fr) → w'.heap[k]? = some o
theorem Keeps.trans {b : Nat} {w w1 w2 : World} (h : Keeps b w w1) (k : Keeps b w1 w2) : Keeps b w w2 := fun i o h1 h2 h3 => k i o h1 (h i o h1 h2 h3) h3
theorem Keeps.below {b : Nat} {w w1 : World} (h : Below w.heap.size w w1) : Keeps b w w1 := fun i o _ h2 _ => by rw [h.block i (Array.getElem?_eq_some_iff.1 h2).1]; exact h2
theorem own_block3 {B : Nat} {w : World} {v : Value} {n : Nat} {xs : List Value} (h : w.ownsRow B 3 1 v n xs) {k : Nat} {o : Obj} (hk : w.heap[k]? = some o) (ho : ∀ cs fr, o ≠ .cells cs 3 fr) : some k ≠ v.ownBlock := by
 intro e
 rcases h.2 with ⟨rfl, _⟩ | ⟨g, cap, cur, rfl, _, hg, _⟩
 ·simp [Value.ownBlock] at e
 ·simp [Value.ownBlock] at e
  subst e
  rw [hk] at hg
  simp at hg
  exact ho _ _ hg
theorem below_app3 {B : Nat} {w w' : World} {v : Value} {n : Nat} {xs : List Value} (hown : w.ownsRow B 3 1 v n xs) (hB : B ≤ w.heap.size) {o : Obj} (hg : (w.alloc o).grownBy w' v.ownBlock) : Below B w w' :=
 ((Below.refl B w).alloc hB o).grown hg (by simp; omega) (fun k hk => (hown.lt k hk).1)
theorem own_cells {B : Nat} {w : World} {g cap : Nat} {l : List Int} (h : w.ownsRow B 3 1 (.slice (some ⟨g, 0, none⟩) l.length cap) l.length (i64s l)) : ∀ j, j < l.length → w.cell? ((⟨g, 0, none⟩ : Addr).add j) = some (.int .i64 (l.getD j 0)) := by
 intro j hj
 have h2 := h.cellAt j (by omega)
 rw [Addr.add_lit, Nat.zero_add, h2]
 simp [i64s, List.getD, hj]
theorem Tryz.info3 : (Tryz.prog.info? 3).map (fun i => (i.zero, i.size, i.bytes)) = some (some (.int .i64 0), 1, 8) := by kernel_rfl
theorem stepP_len (l : List Int) (q : Int) : l.length ≤ (stepP l q).length ∧ (stepP l q).length ≤ l.length + 1 := by
 unfold stepP; split <;> simp
theorem step_any (B b : Nat) (hBb : B ≤ b) (v : Value) (l : List Int) (q : Int) (w : World) (hbox : w.heap[b]? = some (.cells #[v] 22 (0, 0))) (hown : w.ownsRow B 3 1 v l.length (i64s l)) (hn : l.length ≤ 3000) (h1 : 1 ≤ l.length) (hB : B ≤ w.heap.size) :
  Calls Tryz.prog 103 #[.int .i64 q, .pointer (some ⟨b, 0, none⟩)] w fun e w' => e = .returned (.tuple #[]) ∧ (∃ v', w'.heap[b]? = some (.cells #[v'] 22 (0, 0)) ∧ w'.ownsRow B 3 1 v' (stepP l q).length (i64s (stepP l q))) ∧ Below B w w' ∧ Keeps b w w' := by
 obtain ⟨i0, hi, hz0, hz1, hz2⟩ := info_parts Tryz.info3
 have hlt : b < w.heap.size := lt_of_block hbox
 have hcb := cell_of_one hbox
 have hfb := free_of_one hbox
 have HB := hide hbox
 have HO := hide hown
 clear hbox
 obtain ⟨g, c, rfl⟩ := own_some hown h1
 have HC := hide (contains_any l ⟨g, 0, none⟩ c q (by omega) w (own_cells hown))
 clear hown
 by_cases hq : l.contains q = true
 ·have E : stepP l q = l := by simp only [stepP, hq, if_true]
  rw [E]
  rw [hq] at HC
  clear E hq
  go_enter Tryz.func103, Tryz.ntmps103
  go_wp2_with (go_at_call 104; refine HC.out.mono ?_; rintro e w' ⟨rfl, rfl⟩)
  go_end0
  exact ⟨rfl, ⟨_, HB.out, HO.out⟩, Below.refl _ _, fun k o _ h _ => h⟩
 ·have hq' : l.contains q = false := by simpa using hq
  have E : stepP l q = l ++ [q] := by simp only [stepP, hq', Bool.false_eq_true, if_false]
  rw [E, List.length_append, List.length_singleton]
  simp only [i64s, List.map_append, List.map_cons, List.map_nil]
  rw [hq'] at HC
  clear E hq hq'
  go_enter Tryz.func103, Tryz.ntmps103
  go_wp2_with (first | (go_at_call 104; refine HC.out.mono ?_; rintro e w' ⟨rfl, rfl⟩) | (at_builtin; refine wpList_append_own _ rfl _ _ 22 rfl B 3 i0 (.int .i64 0) 1 8 Tryz.underlying22 hi hz0 hz1 hz2 rfl (by decide) _ _ _ rfl (HO.out.alloc _) ⟨w.heap.size, 0, none⟩ 1 1 [.int .i64 q] rfl rfl (cells_one3 _ _ (by simp) q) (one3 q) (by unfold maxLen; omega) (by omega) (by simp; omega) ?_))
  intro v' w2 hown' hgrow _
  have hob := own_block3 HO.out HB.out (by simp)
  have hb2 : w2.heap[b]? = some (.cells #[.slice (some ⟨g, 0, none⟩) l.length c] 22 (0, 0)) := by
   rw [hgrow.block b (by simp; omega) hob, Below.heap_alloc _ _ _ hlt]; exact HB.out
  have hc2 := cell_of_one hb2
  have hf2 := free_of_one hb2
  obtain ⟨ao', c', hv'⟩ := own_shape hown'
  have HG := hide hgrow
  have HO2 := hide hown'
  have HB2 := hide hb2
  clear hgrow hown' hb2 hcb hfb
  rw [hv'] at HO2
  rw [hv']
  clear hv'
  go_wp2
  go_end0
  have hb3 := one_setCell (u := .slice ao' (l.length + 1) c') HB2.out
  have hne : (Value.slice ao' (l.length + 1) c').ownBlock ≠ some b := fun e => own_block3 HO2.out HB2.out (by simp) e.symm
  refine ⟨rfl, ⟨_, hb3, ownsRow_setCell_other HO2.out hne _⟩, (below_app3 HO.out hB HG.out).setCell hBb _, ?_⟩
  intro k o hkb hk ho
  rw [Below.heap_setCell _ _ _ _ hkb, HG.out.block k (by have := lt_of_block hk; simp; omega) (own_block3 HO.out hk ho), Below.heap_alloc _ _ _ (lt_of_block hk)]
  exact hk
end Go.Proofs.YtaccofiegkdlgaaGreatDoor.Fo
namespace Go.Proofs.YtaccofiegkdlgaaGreatDoor.Fo
open Go.RowKit
set_option linter.unusedVariables false
def Tab (w : World) : Prop := ∀ i (h : i < 13), w.cell? ⟨0, i * 4, none⟩ = some (.int .i64 (lets[i]'h).first) ∧ w.cell? ⟨0, i * 4 + 1, none⟩ = some (.int .i64 (lets[i]'h).last) ∧ w.cell? ⟨0, i * 4 + 2, none⟩ = some (.int .i64 (lets[i]'h).step) ∧ w.cell? ⟨0, i * 4 + 3, none⟩ = some (.int .i64 (lets[i]'h).shift)
theorem Tab.below {w w' : World} {B : Nat} (h : Tab w) (hb : Below B w w') (hB : 0 < B) : Tab w' := fun i hi => by
 obtain ⟨h0, h1, h2, h3⟩ := h i hi
 exact ⟨by rw [hb.cell (by exact hB)]; exact h0, by rw [hb.cell (by exact hB)]; exact h1, by rw [hb.cell (by exact hB)]; exact h2, by rw [hb.cell (by exact hB)]; exact h3⟩
end Go.Proofs.YtaccofiegkdlgaaGreatDoor.Fo
