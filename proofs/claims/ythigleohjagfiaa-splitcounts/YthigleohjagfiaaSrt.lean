/- What the reference answers as the bytes of points (of texts: TextOf). -/
import Derived.Test.YthigleohjagfiaaSr1
import Derived.Test.YthigleohjagfiaaSbase
import Derived.WalkLawsBesides
import Derived.Handy
import Derived.PlainAid
import Derived.BigQuiet
import Derived.Deep.QuietTactic
import Derived.Laws.BytesArg
import Derived.Laws.AppendOwn
namespace Go.Proofs.Ythigleohjagfiaa.EE
open Go.RowKit
set_option linter.unusedVariables false

def sclB (p : Int) : Bool := decide (0 ≤ p ∧ p ≤ 1114111 ∧ (p < 55296 ∨ 57343 < p))
def latB (p : Int) : Bool := decide (0 ≤ p ∧ p ≤ 255)
def encB (e : Int) : Bool := decide (1 ≤ e ∧ e ≤ 4)
def holdB (enc p : Int) : Bool := if enc = 4 then latB p else sclB p

set_option maxRecDepth 100000 in
set_option maxHeartbeats 400000 in
theorem isPoint_any (p : Int) (w : World) : Calls Try.prog 33 #[.int .i64 p] w fun e w' => e = .returned (.bool (decide (0 ≤ p ∧ p ≤ 1114111))) ∧ w' = w := by
  go_enter Try.func33, Try.ntmps33
  go_wp2
  all_goals go_ret
  all_goals exact ⟨ret_bool (by rw [Bool.eq_iff_iff]; simp <;> omega), rfl⟩

set_option maxRecDepth 100000 in
set_option maxHeartbeats 400000 in
theorem isEnc_any (p : Int) (w : World) : Calls Try.prog 7 #[.int .i64 p] w fun e w' => e = .returned (.bool (encB p)) ∧ w' = w := by
  go_enter Try.func7, Try.ntmps7
  go_wp2
  all_goals go_ret
  all_goals exact ⟨ret_bool (by rw [Bool.eq_iff_iff]; simp [encB] <;> omega), rfl⟩

set_option maxRecDepth 100000 in
set_option maxHeartbeats 400000 in
theorem isScalarR_any (enc p : Int) (w : World) : Calls Try.prog 13 #[.int .i64 enc, .int .i64 p] w fun e w' => e = .returned (.bool (holdB enc p)) ∧ w' = w := by
  by_cases h4 : enc = 4
  · subst h4
    go_enter Try.func13, Try.ntmps13
    go_wp2
    all_goals go_ret
    all_goals exact ⟨ret_bool (by rw [Bool.eq_iff_iff]; simp [holdB, latB] <;> omega), rfl⟩
  · have h4' : (enc == 4) = false := by simpa using h4
    go_enter Try.func13, Try.ntmps13
    go_wp2
    all_goals go_ret
    all_goals exact ⟨ret_bool (by rw [Bool.eq_iff_iff]; simp [holdB, sclB, h4] <;> omega), rfl⟩

theorem info5 : (Try.prog.info? 5).map (fun i => (i.zero, i.size, i.bytes)) = some (some (.int .u8 0), 1, 1) := by kernel_rfl
theorem info3 : (Try.prog.info? 3).map (fun i => (i.zero, i.size, i.bytes)) = some (some (.int .i64 0), 1, 8) := by kernel_rfl
def bytes8 (p : Int) : List Int :=
  if p ≤ 127 then [p] else if p ≤ 2047 then [192 + p / 64, 128 + p % 64]
  else if p ≤ 65535 then [224 + p / 4096, 128 + p / 64 % 64, 128 + p % 64]
  else [240 + p / 262144, 128 + p / 4096 % 64, 128 + p / 64 % 64, 128 + p % 64]
def unitL (enc u : Int) : List Int := if enc = 2 then [u % 256, u / 256] else [u / 256, u % 256]
def bytes16 (enc p : Int) : List Int := if p < 65536 then unitL enc p else unitL enc (55296 + (p - 65536) / 1024) ++ unitL enc (56320 + (p - 65536) % 1024)
def bytesOf (enc p : Int) : List Int := if enc = 4 then [p] else if enc = 1 then bytes8 p else bytes16 enc p
/-- as cells. -/
def u8s (l : List Int) : List Value := l.map (Value.int .u8)

theorem below_app {B : Nat} {w w' : World} {v : Value} {n : Nat} {xs : List Value} (hown : w.ownsRow B 5 1 v n xs) (hB : B ≤ w.heap.size) {o : Obj} (hg : (w.alloc o).grownBy w' v.ownBlock) : Below B w w' :=
  ((Below.refl B w).alloc hB o).grown hg (by simp; omega) (fun k hk => (hown.lt k hk).1)

theorem unitL_length (enc u : Int) : (unitL enc u).length = 2 := by unfold unitL; split <;> rfl
theorem u8s_append (a b : List Int) : u8s (a ++ b) = u8s a ++ u8s b := by simp [u8s]
def flat (enc : Int) (l : List Int) : List Int := l.flatMap (bytesOf enc)
def encE (enc : Int) (l : List Int) : Int := if encB enc = false then 7 else if l.all (holdB enc) = false then 3 else if 4000 < (flat enc l).length then 2 else 0
def encS (enc : Int) (l : List Int) : ByteArray := if encE enc l = 0 then strOfNums (flat enc l) else ⟨#[]⟩

theorem bytesOf_len (enc p : Int) : 1 ≤ (bytesOf enc p).length ∧ (bytesOf enc p).length ≤ 4 := by
  unfold bytesOf bytes8 bytes16 unitL
  split
  · simp
  · split
    · split
      · simp
      · split
        · simp
        · split <;> simp
    · split
      · split <;> simp
      · split <;> simp
theorem flat_nil (enc : Int) : flat enc [] = [] := rfl
theorem take_succ (l : List Int) (k : Nat) (h : k < l.length) : l.take (k + 1) = l.take k ++ [l.getD k 0] := by
  rw [List.take_add_one]; simp [List.getD, List.getElem?_eq_getElem h]
theorem flat_succ (enc : Int) (l : List Int) (k : Nat) (h : k < l.length) : flat enc (l.take (k + 1)) = flat enc (l.take k) ++ bytesOf enc (l.getD k 0) := by
  rw [take_succ l k h]; simp [flat]
theorem flat_len_succ (enc : Int) (l : List Int) (k : Nat) (h : k < l.length) : (flat enc (l.take (k + 1))).length = (flat enc (l.take k)).length + (bytesOf enc (l.getD k 0)).length := by
  rw [flat_succ enc l k h, List.length_append]
theorem all_succ (f : Int → Bool) (l : List Int) (k : Nat) (h : k < l.length) : (l.take (k + 1)).all f = ((l.take k).all f && f (l.getD k 0)) := by
  rw [take_succ l k h, List.all_append]; simp
theorem flat_le (enc : Int) (l : List Int) (k : Nat) : (flat enc (l.take k)).length ≤ 4 * k := by
  induction k with
  | zero => simp [flat]
  | succ k ih =>
    by_cases h : k < l.length
    · rw [flat_len_succ enc l k h]; have := bytesOf_len enc (l.getD k 0); omega
    · rw [List.take_of_length_le (by omega)]; rw [List.take_of_length_le (by omega)] at ih; omega
theorem flat_append (enc : Int) (a b : List Int) : flat enc (a ++ b) = flat enc a ++ flat enc b := by simp [flat]
theorem flat_take_le (enc : Int) (l : List Int) (k : Nat) : (flat enc (l.take k)).length ≤ (flat enc l).length := by
  have h : flat enc l = flat enc (l.take k) ++ flat enc (l.drop k) := by rw [← flat_append, List.take_append_drop]
  rw [h, List.length_append]; omega

/-- the bytes that a row owns, as a string. -/
theorem conv_own {B n : Nat} {v : Value} {w : World} {l : List Int} (hown : w.ownsRow B 5 1 v n (u8s l)) : (convert 65 9 v).run Try.prog w = .ok (.string (strOfNums l)) w := by
  obtain ⟨hl, h⟩ := hown
  rcases h with ⟨rfl, rfl⟩ | ⟨g, cap, cur, rfl, hb, hh, hn, hm, hs, ht⟩
  · have : l = [] := by simpa [u8s] using hl
    subst this
    exact run_convert_bytes_nil w 65 5 Try.underlying65 Try.underlying5 0 0 9 Try.underlying9
  · have hl' : l.length = n := by simpa [u8s] using hl
    refine run_convert_bytes_arg w 65 5 Try.underlying65 Try.underlying5 g 0 n cap l hl' ?_ 9 Try.underlying9
    intro i hi
    have := World.ownsRow.cellAt (w := w) (base := B) (e := 5) (size := 1) (g := g) (n := n) (cap := cap) (xs := u8s l) ⟨hl, Or.inr ⟨g, cap, cur, rfl, hb, hh, hn, hm, hs, ht⟩⟩ i (by omega)
    rw [Nat.zero_add, this]
    simp [u8s, List.getD, hl', hi]

theorem own_lit (w : World) (o : Obj) (l : List Int) (n : Nat) (hn : l.length = n) (hm : n ≤ 4) :
    ((w.alloc o).alloc (.cells (i64s l).toArray 3)).ownsRow w.heap.size 3 1 (.slice (some ⟨w.heap.size + 1, 0, none⟩) n n) n (i64s l) := by
  have h := World.ownsRow_lit (base := w.heap.size) (e := 3) (size := 1) (w.alloc o) (i64s l).toArray n (by simp) (by unfold maxLen; omega) (by simp [i64s, hn])
  simpa using h

theorem cells_two (X : World) (g : Nat) (hg : g = X.heap.size) (z u : Int) : ∀ j v, [Value.int .i64 z, .int .i64 u][j]? = some v → (X.alloc (.cells #[.int .i64 z, .int .i64 u] 3)).cell? ((⟨g, 0, none⟩ : Addr).add j) = some v := by
  subst hg
  intro j v hj
  match j, hj with
  | 0, hj => simp at hj; subst hj; exact World.cell?_alloc_at _ _ _ _ rfl
  | 1, hj => simp at hj; subst hj; exact World.cell?_alloc_at _ _ _ _ rfl
  | (j + 2), hj => simp at hj
theorem two_one (z u : Int) : ∀ v ∈ [Value.int .i64 z, .int .i64 u], v.oneCell' = true := by
  intro v hv; simp at hv; rcases hv with rfl | rfl <;> rfl

set_option maxRecDepth 100000 in
set_option maxHeartbeats 1000000 in
theorem unitR_any (enc u : Int) (a : Addr) (w : World) (he : enc = 2 ∨ enc = 3) (h0 : 0 ≤ u) (h1 : u < 65536) (hc : w.cell? a = some (.int .i64 enc)) :
    Calls Try.prog 53 #[.int .i64 u, .pointer (some a)] w fun e w' => ∃ x y, unitL enc u = [x, y] ∧ e = .returned (.slice (some ⟨w.heap.size, 0, none⟩) 2 2) ∧ w' = w.alloc (.cells #[.int .i64 x, .int .i64 y] 3) := by
  rcases he with rfl | rfl
  all_goals
    go_enter Try.func53, Try.ntmps53
    go_wp2
    go_ret
    exact ⟨_, _, rfl, rfl, rfl⟩

set_option maxRecDepth 100000 in
set_option maxHeartbeats 2000000 in
theorem bytesOf_4 (p : Int) (w : World) (h : holdB 4 p = true) :
    Calls Try.prog 34 #[.int .i64 4, .int .i64 p] w fun e w' => ∃ v, e = .returned v ∧ w'.ownsRow w.heap.size 3 1 v (bytesOf 4 p).length (i64s (bytesOf 4 p)) ∧ Below w.heap.size w w' := by
  go_enter Try.func34, Try.ntmps34
  go_wp2
  go_ret
  exact ⟨_, rfl, own_lit w _ [p] 1 rfl (by decide), by go_grown⟩

set_option maxRecDepth 100000 in
set_option maxHeartbeats 2000000 in
theorem bytesOf_1 (p : Int) (w : World) (h : holdB 1 p = true) :
    Calls Try.prog 34 #[.int .i64 1, .int .i64 p] w fun e w' => ∃ v, e = .returned v ∧ w'.ownsRow w.heap.size 3 1 v (bytesOf 1 p).length (i64s (bytesOf 1 p)) ∧ Below w.heap.size w w' := by
  have h' : sclB p = true := h
  simp [sclB] at h'
  obtain ⟨h1, h2, h3⟩ := h'
  have E : bytesOf 1 p = bytes8 p := rfl
  rw [E]
  clear h h3 E
  by_cases q1 : p ≤ 127
  · have E : bytes8 p = [p] := by simp [bytes8, q1]
    rw [E]; clear E
    go_enter Try.func34, Try.ntmps34
    go_wp2
    go_ret
    exact ⟨_, rfl, own_lit w _ [p] 1 rfl (by decide), by go_grown⟩
  by_cases q2 : p ≤ 2047
  · have E : bytes8 p = [192 + p / 64, 128 + p % 64] := by simp [bytes8, q1, q2]
    rw [E]; clear E
    go_enter Try.func34, Try.ntmps34
    go_wp2
    go_ret
    exact ⟨_, rfl, own_lit w _ [192 + p / 64, 128 + p % 64] 2 rfl (by decide), by go_grown⟩
  by_cases q3 : p ≤ 65535
  · have E : bytes8 p = [224 + p / 4096, 128 + p / 64 % 64, 128 + p % 64] := by simp [bytes8, q1, q2, q3]
    rw [E]; clear E
    go_enter Try.func34, Try.ntmps34
    go_wp2
    go_ret
    exact ⟨_, rfl, own_lit w _ [224 + p / 4096, 128 + p / 64 % 64, 128 + p % 64] 3 rfl (by decide), by go_grown⟩
  · have E : bytes8 p = [240 + p / 262144, 128 + p / 4096 % 64, 128 + p / 64 % 64, 128 + p % 64] := by simp [bytes8, q1, q2, q3]
    rw [E]; clear E
    go_enter Try.func34, Try.ntmps34
    go_wp2
    go_ret
    exact ⟨_, rfl, own_lit w _ [240 + p / 262144, 128 + p / 4096 % 64, 128 + p / 64 % 64, 128 + p % 64] 4 rfl (by decide), by go_grown⟩

set_option maxRecDepth 100000 in
set_option maxHeartbeats 2000000 in
theorem bytesOf_u (enc : Int) (he : enc = 2 ∨ enc = 3) (p : Int) (w : World) (h : sclB p = true) (hlt : p < 65536) :
    Calls Try.prog 34 #[.int .i64 enc, .int .i64 p] w fun e w' => ∃ v, e = .returned v ∧ w'.ownsRow w.heap.size 3 1 v 2 (i64s (unitL enc p)) ∧ Below w.heap.size w w' := by
  simp [sclB] at h
  obtain ⟨h1, h2, h3⟩ := h
  have H : Hid (∀ (a : Addr) (w : World), w.cell? a = some (.int .i64 enc) → Calls Try.prog 53 #[.int .i64 p, .pointer (some a)] w fun e w' => ∃ x y, unitL enc p = [x, y] ∧ e = .returned (.slice (some ⟨w.heap.size, 0, none⟩) 2 2) ∧ w' = w.alloc (.cells #[.int .i64 x, .int .i64 y] 3)) := fun a w hc => unitR_any enc p a w he h1 hlt hc
  rcases he with rfl | rfl
  all_goals
    go_enter Try.func34, Try.ntmps34
    go_wp2_with (go_at_call 53; refine (H.out _ _ (by exact World.cell?_alloc_at _ _ _ _ rfl)).mono ?_; rintro e w' ⟨x, y, hxy, rfl, rfl⟩)
    go_ret
    refine ⟨_, rfl, ?_, by go_grown⟩
    rw [hxy]
    exact own_lit w _ [x, y] 2 rfl (by decide)

set_option maxRecDepth 100000 in
set_option maxHeartbeats 2000000 in
theorem bytesOf_p (enc : Int) (he : enc = 2 ∨ enc = 3) (p : Int) (w : World) (h : sclB p = true) (hge : 65536 ≤ p) :
    Calls Try.prog 34 #[.int .i64 enc, .int .i64 p] w fun e w' => ∃ v, e = .returned v ∧ w'.ownsRow w.heap.size 3 1 v 4 (i64s (unitL enc (55296 + (p - 65536) / 1024)) ++ i64s (unitL enc (56320 + (p - 65536) % 1024))) ∧ Below w.heap.size w w' := by
  obtain ⟨i0, hi, hz0, hz1, hz2⟩ := info_parts info3
  simp [sclB] at h
  obtain ⟨h1, h2, h3⟩ := h
  clear h3
  have H : Hid (∀ (u : Int), 0 ≤ u → u < 65536 → ∀ (a : Addr) (w : World), w.cell? a = some (.int .i64 enc) → Calls Try.prog 53 #[.int .i64 u, .pointer (some a)] w fun e w' => ∃ x y, unitL enc u = [x, y] ∧ e = .returned (.slice (some ⟨w.heap.size, 0, none⟩) 2 2) ∧ w' = w.alloc (.cells #[.int .i64 x, .int .i64 y] 3)) := fun u g0 g1 a w hc => unitR_any enc u a w he g0 g1 hc
  rcases he with rfl | rfl
  all_goals
    go_enter Try.func34, Try.ntmps34
    go_wp2_with fail
    refine (H.out (55296 + (p - 65536) / 1024) (by omega) (by omega) _ _ (by exact World.cell?_alloc_at _ _ _ _ rfl)).mono ?_
    rintro e w' ⟨x, y, hxy, rfl, rfl⟩
    have HXY := hide hxy
    clear hxy
    go_wp2_with fail
    refine (H.out (56320 + (p - 65536) % 1024) (by omega) (by omega) _ _ (by rw [World.cell?_alloc_past _ _ _ (by simp)]; exact World.cell?_alloc_at _ _ _ _ rfl)).mono ?_
    rintro e w' ⟨z, u, hzu, rfl, rfl⟩
    have HZU := hide hzu
    clear hzu
    go_wp2_with (at_builtin; refine wpList_append_own _ rfl _ _ 40 rfl w.heap.size 3 i0 (.int .i64 0) 1 8 Try.underlying40 hi hz0 hz1 hz2 rfl (by decide) _ _ _ rfl ((own_lit w _ [x, y] 2 rfl (by decide)).alloc _) ⟨w.heap.size + 1 + 1, 0, none⟩ 2 2 [.int .i64 z, .int .i64 u] rfl rfl (cells_two _ _ (by simp) z u) (two_one z u) (by decide) (by decide) (by simp; omega) ?_)
    intro v' w2 hown' hgrow _
    go_wp2
    go_ret
    refine ⟨_, rfl, by rw [HXY.out, HZU.out]; exact hown', ?_⟩
    exact (((((Below.refl w.heap.size w).alloc (Nat.le_refl _) _).alloc (by simp <;> omega) _).alloc (by simp <;> omega) _).grown hgrow (by simp <;> omega) (by intro k hk; simp [Value.ownBlock] at hk; omega))

theorem bytesOf_any (enc p : Int) (w : World) (he : encB enc = true) (h : holdB enc p = true) :
    Calls Try.prog 34 #[.int .i64 enc, .int .i64 p] w fun e w' => ∃ v, e = .returned v ∧ w'.ownsRow w.heap.size 3 1 v (bytesOf enc p).length (i64s (bytesOf enc p)) ∧ Below w.heap.size w w' := by
  have h' : enc = 1 ∨ enc = 2 ∨ enc = 3 ∨ enc = 4 := by simp [encB] at he; omega
  rcases h' with rfl | h' | h' | rfl
  · exact bytesOf_1 p w h
  · subst h'
    have hs : sclB p = true := h
    by_cases hlt : p < 65536
    · have E : bytesOf 2 p = unitL 2 p := by simp [bytesOf, bytes16, hlt]
      rw [E]; exact bytesOf_u 2 (by decide) p w hs hlt
    · have E : bytesOf 2 p = unitL 2 (55296 + (p - 65536) / 1024) ++ unitL 2 (56320 + (p - 65536) % 1024) := by simp [bytesOf, bytes16, hlt]
      rw [E]; simp only [i64s, List.map_append]; exact bytesOf_p 2 (by decide) p w hs (by omega)
  · subst h'
    have hs : sclB p = true := h
    by_cases hlt : p < 65536
    · have E : bytesOf 3 p = unitL 3 p := by simp [bytesOf, bytes16, hlt]
      rw [E]; exact bytesOf_u 3 (by decide) p w hs hlt
    · have E : bytesOf 3 p = unitL 3 (55296 + (p - 65536) / 1024) ++ unitL 3 (56320 + (p - 65536) % 1024) := by simp [bytesOf, bytes16, hlt]
      rw [E]; simp only [i64s, List.map_append]; exact bytesOf_p 3 (by decide) p w hs (by omega)
  · exact bytesOf_4 p w h

theorem ret2s {a c : ByteArray} {b d : Int} (h1 : a = c) (h2 : b = d) : Ending.returned (.tuple #[.string a, .int .i64 b]) = .returned (.tuple #[.string c, .int .i64 d]) := by rw [h1, h2]
theorem enc_range {enc : Int} (he : encB enc = true) {l : List Int} {k : Nat} (hk : k < l.length) (h : holdB enc (l.getD k 0) = false) : encE enc l = 3 ∧ encS enc l = ⟨#[]⟩ := by
  have hall : l.all (holdB enc) = false := by
    rw [List.all_eq_false]
    exact ⟨l.getD k 0, by simp [List.getD, List.getElem?_eq_getElem hk], by rw [h]; decide⟩
  have hE : encE enc l = 3 := by simp [encE, he, hall]
  exact ⟨hE, by simp [encS, hE]⟩
theorem enc_many {enc : Int} (he : encB enc = true) {l : List Int} (hall : l.all (holdB enc) = true) (h : 4000 < (flat enc l).length) : encE enc l = 2 ∧ encS enc l = ⟨#[]⟩ := by
  have hE : encE enc l = 2 := by unfold encE; rw [he, hall]; simp [h]
  exact ⟨hE, by simp [encS, hE]⟩
theorem enc_ok {enc : Int} (he : encB enc = true) {l : List Int} (hall : l.all (holdB enc) = true) (h : (flat enc l).length ≤ 4000) : encE enc l = 0 ∧ encS enc l = strOfNums (flat enc l) := by
  have hE : encE enc l = 0 := by unfold encE; rw [he, hall]; simp; omega
  exact ⟨hE, by simp [encS, hE]⟩

theorem bytesOf_byte {enc p : Int} (he : encB enc = true) (h : holdB enc p = true) : ∀ x ∈ bytesOf enc p, 0 ≤ x ∧ x < 256 := by
  have h' : enc = 1 ∨ enc = 2 ∨ enc = 3 ∨ enc = 4 := by simp [encB] at he; omega
  intro x hx
  rcases h' with rfl | rfl | rfl | rfl
  · have hs : sclB p = true := h
    simp [sclB] at hs
    simp only [bytesOf, bytes8, show ¬ (1 : Int) = 4 from by decide, if_false, if_true] at hx
    split at hx
    · simp at hx; omega
    · split at hx
      · simp at hx; omega
      · split at hx <;> (simp at hx; omega)
  · have hs : sclB p = true := h
    simp [sclB] at hs
    simp only [bytesOf, bytes16, unitL, show ¬ (2 : Int) = 4 from by decide, show ¬ (2 : Int) = 1 from by decide, if_false, if_true] at hx
    split at hx <;> (simp at hx; omega)
  · have hs : sclB p = true := h
    simp [sclB] at hs
    simp only [bytesOf, bytes16, unitL, show ¬ (3 : Int) = 4 from by decide, show ¬ (3 : Int) = 1 from by decide, show ¬ (3 : Int) = 2 from by decide, if_false] at hx
    split at hx <;> (simp at hx; omega)
  · have hs : latB p = true := h
    simp [latB] at hs
    simp only [bytesOf, if_true] at hx
    simp at hx; omega

theorem own_shape {B e : Nat} {w : World} {v : Value} {n : Nat} {xs : List Value} (h : w.ownsRow B e 1 v n xs) : ∃ ao cap, v = .slice ao n cap := by
  rcases h.2 with ⟨rfl, rfl⟩ | ⟨g, cap, cur, rfl, _⟩
  · exact ⟨_, _, rfl⟩
  · exact ⟨_, _, rfl⟩
theorem own_some {B e : Nat} {w : World} {v : Value} {n : Nat} {xs : List Value} (h : w.ownsRow B e 1 v n xs) (hn : 1 ≤ n) : ∃ g cap, v = .slice (some ⟨g, 0, none⟩) n cap := by
  rcases h.2 with ⟨rfl, rfl⟩ | ⟨g, cap, cur, rfl, _⟩
  · omega
  · exact ⟨_, _, rfl⟩
/-- rows of two kinds lie apart. -/
theorem own_apart {B B' : Nat} {w : World} {v u : Value} {a b : Nat} {xs ys : List Value} (h : w.ownsRow B 5 1 v a xs) (k : w.ownsRow B' 3 1 u b ys) : u.ownBlock = none ∨ u.ownBlock ≠ v.ownBlock := by
  rcases k.2 with ⟨rfl, rfl⟩ | ⟨g, cap, cur, rfl, _, hg, _⟩
  · exact Or.inl rfl
  · right
    rcases h.2 with ⟨rfl, rfl⟩ | ⟨g', cap', cur', rfl, _, hg', _⟩
    · simp [Value.ownBlock]
    · intro e
      simp [Value.ownBlock] at e
      subst e
      rw [hg] at hg'
      simp at hg'

theorem own_below {B e : Nat} {w w' : World} {v : Value} {n : Nat} {xs : List Value} (h : w.ownsRow B e 1 v n xs) (hb : Below w.heap.size w w') : w'.ownsRow B e 1 v n xs := by
  refine ⟨h.1, ?_⟩
  rcases h.2 with h2 | ⟨g, cap, cur, rfl, h3, hg, h4⟩
  · exact Or.inl h2
  · have hlt : g < w.heap.size := by
      have := Array.getElem?_eq_some_iff.1 hg
      exact this.1
    exact Or.inr ⟨g, cap, cur, rfl, h3, by rw [hb.block g hlt]; exact hg, h4⟩
theorem own_base {B B' e : Nat} {w : World} {v : Value} {n : Nat} {xs : List Value} (h : w.ownsRow B' e 1 v n xs) (hb : B ≤ B') : w.ownsRow B e 1 v n xs := by
  refine ⟨h.1, ?_⟩
  rcases h.2 with h2 | ⟨g, cap, cur, rfl, h3, h4⟩
  · exact Or.inl h2
  · exact Or.inr ⟨g, cap, cur, rfl, by omega, h4⟩

theorem cells_one8 (X : World) (g : Nat) (hg : g = X.heap.size) (z : Int) : ∀ j v, [Value.int .u8 z][j]? = some v → (X.alloc (.cells #[.int .u8 z] 5)).cell? ((⟨g, 0, none⟩ : Addr).add j) = some v := by
  subst hg
  intro j v hj
  match j, hj with
  | 0, hj => simp at hj; subst hj; exact World.cell?_alloc_at _ _ _ _ rfl
  | (j + 1), hj => simp at hj
theorem one8 (z : Int) : ∀ v ∈ [Value.int .u8 z], v.oneCell' = true := by
  intro v hv; simp at hv; subst hv; rfl

theorem bytesOf_shape (enc p : Int) (w : World) (he : encB enc = true) (h : holdB enc p = true) :
    Calls Try.prog 34 #[.int .i64 enc, .int .i64 p] w fun e w' => ∃ g cap, e = .returned (.slice (some ⟨g, 0, none⟩) (bytesOf enc p).length cap) ∧ w'.ownsRow w.heap.size 3 1 (.slice (some ⟨g, 0, none⟩) (bytesOf enc p).length cap) (bytesOf enc p).length (i64s (bytesOf enc p)) ∧ Below w.heap.size w w' :=
  (bytesOf_any enc p w he h).mono fun e w' ⟨v, h1, h2, h3⟩ => by
    obtain ⟨g, cap, rfl⟩ := own_some h2 (bytesOf_len enc p).1
    exact ⟨g, cap, h1, h2, h3⟩

set_option maxRecDepth 100000 in
set_option maxHeartbeats 1000000 in
theorem TextOf_kind (enc : Int) (v : Value) (w : World) (h : encB enc = false) :
    Calls Try.prog 14 #[.int .i64 enc, v] w fun e w' => e = .returned (.tuple #[.string ⟨#[]⟩, .int .i64 7]) ∧ w' = w := by
  go_enter Try.func14, Try.ntmps14
  go_wp2_with (go_at_call 7; refine (isEnc_any _ _).mono ?_; rintro e w' ⟨rfl, rfl⟩)
  go_ret2
  exact ⟨rfl, rfl⟩

set_option maxRecDepth 100000 in
set_option maxHeartbeats 2000000 in
theorem TextOf_some (enc : Int) (he : encB enc = true) (a : Addr) (cap : Nat) (l : List Int) (w : World) (hlen : l.length * 8 ≤ 140737488351232) (hc : ∀ j, j < l.length → w.cell? (a.add j) = some (.int .i64 (l.getD j 0))) :
    Calls Try.prog 14 #[.int .i64 enc, .slice (some a) l.length cap] w fun e w' => e = .returned (.tuple #[.string (encS enc l), .int .i64 (encE enc l)]) ∧ Below w.heap.size w w' := by
  obtain ⟨i0, hi, hz0, hz1, hz2⟩ := info_parts info5
  have hc' : Hid (∀ j, j < l.length → w.cell? (a.add j) = some (.int .i64 (l.getD j 0))) := hc
  clear hc
  have HE := hide he
  have hisenc := isEnc_any enc
  rw [he] at hisenc
  have HI := hide hisenc
  clear he hisenc
  go_enter Try.func14, Try.ntmps14
  go_wp2_with (go_at_call 7; refine (HI.out _).mono ?_; rintro e w' ⟨rfl, hw⟩; have hw2 := hw.symm; clear hw; subst hw2)
  go_loop [7] (fun i => ∃ k : Nat, k ≤ l.length ∧ i = .int .i64 k ∧ (l.take k).all (holdB enc) = true) (fun i => l.length - (intOf i).toNat)
  case atStart => exact ⟨0, Nat.zero_le _, rfl, rfl⟩
  case round =>
    obtain ⟨k, hk, rfl, hall⟩ := hrel
    by_cases hlt : k < l.length
    · obtain ⟨x, hx⟩ : ∃ x, x = l.getD k 0 := ⟨_, rfl⟩
      have hcx : w.cell? (a.add k) = some (.int .i64 x) := by rw [hx]; exact hc'.out k hlt
      have HX : Hid (x = l.getD k 0) := hx
      have HA := hide hall
      clear hx hall
      have hhold := isScalarR_any enc x
      by_cases hh : holdB enc x = true
      · rw [hh] at hhold
        have HH := hide hh
        have HHo := hide hhold
        clear hh hhold
        go_wp2_with (go_at_call 13; refine (unhide HHo _).mono ?_; rintro e w1 ⟨rfl, hw⟩; have hw2 := hw.symm; clear hw; subst hw2)
        go_round
        case rel => exact ⟨k + 1, by omega, by go_num, by rw [all_succ _ _ _ hlt, HA.out, ← HX.out, HH.out]; rfl⟩
        case measure => simp [intOf]; omega
      · have hh' : holdB enc x = false := by simpa using hh
        rw [hh'] at hhold
        have HH := hide hh'
        have HHo := hide hhold
        clear hh hh' hhold
        go_wp2_with (go_at_call 13; refine (unhide HHo _).mono ?_; rintro e w1 ⟨rfl, hw⟩; have hw2 := hw.symm; clear hw; subst hw2)
        go_ret2
        have hR := enc_range HE.out hlt (by rw [← HX.out]; exact HH.out)
        exact ⟨ret2s hR.2.symm hR.1.symm, Below.refl _ _⟩
    · have hkl : k = l.length := by omega
      subst hkl
      rw [List.take_length] at hall
      have HA := hide hall
      clear hall
      go_wp2_with fail
      go_loopw [6, 8] (fun v i wr => ∃ k : Nat, k ≤ l.length ∧ i = .int .i64 k ∧ wr.ownsRow w.heap.size 5 1 v (flat enc (l.take k)).length (u8s (flat enc (l.take k))) ∧ (flat enc (l.take k)).length ≤ 4000 ∧ Below w.heap.size w wr) (fun _ i _ => l.length - (intOf i).toNat)
      case atStart => exact ⟨0, Nat.zero_le _, rfl, World.ownsRow_nil _ _ _ _, by simp [flat], Below.refl _ _⟩
      case round =>
        obtain ⟨k, hk, rfl, hown, hle, hb⟩ := hrel
        by_cases hlt : k < l.length
        · obtain ⟨x, hx⟩ : ∃ x, x = l.getD k 0 := ⟨_, rfl⟩
          have hcx : wr.cell? (a.add k) = some (.int .i64 x) := by rw [hx]; exact (hb.cell (World.block_lt_of_cell? w _ (hc'.out k hlt))).trans (hc'.out k hlt)
          have HX : Hid (x = l.getD k 0) := hx
          have hxh : holdB enc x = true := by
            have := List.all_eq_true.1 HA.out x (by rw [hx]; simp [List.getD, List.getElem?_eq_getElem hlt])
            exact this
          have HH := hide hxh
          have hbyte := hide (bytesOf_byte HE.out hxh)
          have hfs := hide (flat_succ enc l k hlt)
          rw [← hx] at hfs
          have hbl := bytesOf_len enc x
          have HO := hide hown
          have HB := hide (bytesOf_shape enc x wr HE.out hxh)
          clear hx hxh hown
          obtain ⟨bs, hbs⟩ : ∃ bs, bs = bytesOf enc x := ⟨_, rfl⟩
          obtain ⟨F, hF⟩ : ∃ F, F = flat enc (l.take k) := ⟨_, rfl⟩
          rw [← hbs] at hbyte hfs hbl HB
          rw [← hF] at hfs hle HO
          have HF := hide hF
          have HBS := hide hbs
          clear hF hbs
          go_wp2_with (go_at_call 34; refine HB.out.mono ?_; rintro e w1 ⟨g, cp, rfl, ho9, hb9⟩)
          have ho1 : w1.ownsRow w.heap.size 5 1 _ F.length (u8s F) := own_below HO.out hb9
          have hb1 : Below w.heap.size w w1 := hb.trans (hb9.mono hb.size)
          have ho9' := own_base ho9 hb.size
          clear HB ho9 hb9 hb hcx
          have HO1 := hide ho1
          have HO9 := hide ho9'
          clear ho1 ho9' HO
          go_wp2_with fail
          go_loopw [6, 10] (fun v i wi => ∃ m : Nat, m ≤ bs.length ∧ i = .int .i64 m ∧ wi.ownsRow w.heap.size 5 1 v (F.length + m) (u8s (F ++ bs.take m)) ∧ wi.ownsRow w.heap.size 3 1 (.slice (some ⟨g, 0, none⟩) bs.length cp) bs.length (i64s bs) ∧ Below w.heap.size w wi) (fun _ i _ => bs.length - (intOf i).toNat)
          case atStart => exact ⟨0, Nat.zero_le _, rfl, by simpa using HO1.out, HO9.out, hb1⟩
          case round =>
            obtain ⟨m, hm, rfl, hown, ho9, hb⟩ := hrel
            by_cases hmt : m < bs.length
            · obtain ⟨y, hy⟩ : ∃ y, y = bs.getD m 0 := ⟨_, rfl⟩
              have hcy : wr.cell? ⟨g, m, none⟩ = some (.int .i64 y) := by
                rw [ho9.cellAt m (by omega), hy]; simp [i64s, List.getD, hmt]
              have hyb := hbyte.out y (by rw [hy]; simp [List.getD, hmt])
              have HY := hide hy
              have HO := hide hown
              have HP := hide ho9
              have hsz := hb.size
              clear hy hown ho9 hb1
              go_wp2_with (at_builtin; refine wpList_append_own _ rfl _ _ 65 rfl w.heap.size 5 i0 (.int .u8 0) 1 1 Try.underlying65 hi hz0 hz1 hz2 rfl (by decide) _ _ _ rfl (HO.out.alloc _) ⟨wr.heap.size, 0, none⟩ 1 1 [.int .u8 y] rfl rfl (cells_one8 _ _ (by simp) y) (one8 y) (by unfold maxLen; omega) (by omega) (by simp; omega) ?_)
              intro v' w2 hown' hgrow _
              have ho9' := (HP.out.alloc _).kept hgrow (own_apart HO.out HP.out)
              have hb' := hb.trans (below_app HO.out hsz hgrow)
              clear hgrow
              have HO' := hide hown'
              have HP' := hide ho9'
              clear hown' ho9'
              go_wp2
              go_roundw
              case rel => exact ⟨m + 1, by omega, by go_num, by rw [take_succ bs m hmt, ← HY.out, ← List.append_assoc, u8s_append]; exact HO'.out, HP'.out, hb'⟩
              case measure => simp [intOf]; omega
            · have hml : m = bs.length := by omega
              subst hml
              rw [List.take_length] at hown
              rw [← List.length_append, ← hfs.out] at hown
              have hG := flat_take_le enc l (k + 1)
              obtain ⟨ao, c6, hv⟩ := own_shape hown
              have HO := hide hown
              clear hown ho9 hb1
              by_cases hbig : 4000 < (flat enc (l.take (k + 1))).length
              · have hR := hide (enc_many HE.out HA.out (by omega))
                have hbig' : (4000 : Int) < ((flat enc (l.take (k + 1))).length : Int) := by omega
                rw [hv]
                clear hv
                go_wp2
                go_ret2
                exact ⟨ret2s hR.out.2.symm hR.out.1.symm, hb⟩
              · have hbig' : ¬ (4000 : Int) < ((flat enc (l.take (k + 1))).length : Int) := by omega
                rw [hv] at HO
                rw [hv]
                clear hv
                go_wp2
                go_roundw
                case rel => exact ⟨k + 1, by omega, by go_num, HO.out, by omega, hb⟩
                case measure => simp [intOf]; omega
        · have hkl : k = l.length := by omega
          subst hkl
          rw [List.take_length] at hown hle
          have hcv := conv_own hown
          have hR := hide (enc_ok HE.out HA.out hle)
          go_wp2
          go_ret2
          exact ⟨ret2s hR.out.2.symm hR.out.1.symm, hb⟩
theorem encB_iff {enc : Int} : encB enc = true ↔ isEnc enc := by simp [encB, isEnc]; omega
theorem holdB_iff {enc p : Int} : holdB enc p = true ↔ Scal enc p := by
  unfold holdB latB sclB Scal
  split <;> simp_all
theorem bytesOf_R {enc p : Int} (he : isEnc enc) : bytesOf enc p = bytesR enc p := by
  rcases he with rfl | rfl | rfl | rfl
  · simp only [bytesOf, bytesR, bytes8, show ¬ (1 : Int) = 4 by decide, if_false, if_true]
    by_cases h1 : p < 128
    · rw [if_pos h1, if_pos (by omega)]
    rw [if_neg h1, if_neg (by omega)]
    by_cases h2 : p < 2048
    · rw [if_pos h2, if_pos (by omega)]
    rw [if_neg h2, if_neg (by omega)]
    by_cases h3 : p < 65536
    · rw [if_pos h3, if_pos (by omega)]
    rw [if_neg h3, if_neg (by omega)]
  · simp [bytesOf, bytesR, bytes16, unitL]
  · simp [bytesOf, bytesR, bytes16, unitL]
  · simp [bytesOf, bytesR]
end Go.Proofs.Ythigleohjagfiaa.EE
