/- What the reference answers as the bytes of one point. -/
import Derived.Test.YtihnaihmpokiiaaPure
namespace Go.Proofs.Ytihnaihmpokiiaa
open Go.RowKit
set_option linter.unusedVariables false

def i64s (l : List Int) : List Value := l.map (Value.int .i64)

theorem own_lit (w : World) (o : Obj) (l : List Int) (n : Nat) (hn : l.length = n) (hm : n ≤ 4) :
    ((w.alloc o).alloc (.cells (i64s l).toArray 3)).ownsRow w.heap.size 3 1 (.slice (some ⟨w.heap.size + 1, 0, none⟩) n n) n (i64s l) := by
  have h := World.ownsRow_lit (base := w.heap.size) (e := 3) (size := 1) (w.alloc o) (i64s l).toArray n (by simp) (by unfold maxLen; omega) (by simp [i64s, hn])
  simpa using h

theorem hide {p : Prop} (h : p) : Hid p := h
theorem unhide {p : Prop} (h : Hid p) : p := h
theorem cells_two (X : World) (g : Nat) (hg : g = X.heap.size) (z u : Int) : ∀ j v, [Value.int .i64 z, .int .i64 u][j]? = some v → (X.alloc (.cells #[.int .i64 z, .int .i64 u] 3)).cell? ((⟨g, 0, none⟩ : Addr).add j) = some v := by
  subst hg
  intro j v hj
  match j, hj with
  | 0, hj => simp at hj; subst hj; exact World.cell?_alloc_at _ _ _ _ rfl
  | 1, hj => simp at hj; subst hj; exact World.cell?_alloc_at _ _ _ _ rfl
  | (j + 2), hj => simp at hj
theorem two_one (z u : Int) : ∀ v ∈ [Value.int .i64 z, .int .i64 u], v.oneCell' = true := by
  intro v hv; simp at hv; rcases hv with rfl | rfl <;> rfl

set_option maxHeartbeats 1000000 in
theorem unitR_any (enc u : Int) (a : Addr) (w : World) (he : enc = 2 ∨ enc = 3) (h0 : 0 ≤ u) (h1 : u < 65536) (hc : w.cell? a = some (.int .i64 enc)) :
    Calls Try.prog 14 #[.int .i64 u, .pointer (some a)] w fun e w' => ∃ x y, unitL enc u = [x, y] ∧ e = .returned (.slice (some ⟨w.heap.size, 0, none⟩) 2 2) ∧ w' = w.alloc (.cells #[.int .i64 x, .int .i64 y] 3) := by
  rcases he with rfl | rfl
  all_goals
    go_enter Try.func14, Try.ntmps14
    go_wp2
    go_ret
    exact ⟨_, _, rfl, rfl, rfl⟩

set_option maxHeartbeats 2000000 in
theorem bytesOf_4 (p : Int) (w : World) (h : holdB 4 p = true) :
    Calls Try.prog 10 #[.int .i64 4, .int .i64 p] w fun e w' => ∃ v, e = .returned v ∧ w'.ownsRow w.heap.size 3 1 v (bytesOf 4 p).length (i64s (bytesOf 4 p)) ∧ Below w.heap.size w w' := by
  go_enter Try.func10, Try.ntmps10
  go_wp2
  go_ret
  exact ⟨_, rfl, own_lit w _ [p] 1 rfl (by decide), by go_grown⟩

set_option maxHeartbeats 2000000 in
theorem bytesOf_1 (p : Int) (w : World) (h : holdB 1 p = true) :
    Calls Try.prog 10 #[.int .i64 1, .int .i64 p] w fun e w' => ∃ v, e = .returned v ∧ w'.ownsRow w.heap.size 3 1 v (bytesOf 1 p).length (i64s (bytesOf 1 p)) ∧ Below w.heap.size w w' := by
  have h' : sclB p = true := h
  simp [sclB] at h'
  obtain ⟨h1, h2, h3⟩ := h'
  have E : bytesOf 1 p = bytes8 p := rfl
  rw [E]
  clear h h3 E
  by_cases q1 : p ≤ 127
  · have E : bytes8 p = [p] := by simp [bytes8, q1]
    rw [E]; clear E
    go_enter Try.func10, Try.ntmps10
    go_wp2
    go_ret
    exact ⟨_, rfl, own_lit w _ [p] 1 rfl (by decide), by go_grown⟩
  by_cases q2 : p ≤ 2047
  · have E : bytes8 p = [192 + p / 64, 128 + p % 64] := by simp [bytes8, q1, q2]
    rw [E]; clear E
    go_enter Try.func10, Try.ntmps10
    go_wp2
    go_ret
    exact ⟨_, rfl, own_lit w _ [192 + p / 64, 128 + p % 64] 2 rfl (by decide), by go_grown⟩
  by_cases q3 : p ≤ 65535
  · have E : bytes8 p = [224 + p / 4096, 128 + p / 64 % 64, 128 + p % 64] := by simp [bytes8, q1, q2, q3]
    rw [E]; clear E
    go_enter Try.func10, Try.ntmps10
    go_wp2
    go_ret
    exact ⟨_, rfl, own_lit w _ [224 + p / 4096, 128 + p / 64 % 64, 128 + p % 64] 3 rfl (by decide), by go_grown⟩
  · have E : bytes8 p = [240 + p / 262144, 128 + p / 4096 % 64, 128 + p / 64 % 64, 128 + p % 64] := by simp [bytes8, q1, q2, q3]
    rw [E]; clear E
    go_enter Try.func10, Try.ntmps10
    go_wp2
    go_ret
    exact ⟨_, rfl, own_lit w _ [240 + p / 262144, 128 + p / 4096 % 64, 128 + p / 64 % 64, 128 + p % 64] 4 rfl (by decide), by go_grown⟩

set_option maxHeartbeats 2000000 in
theorem bytesOf_u (enc : Int) (he : enc = 2 ∨ enc = 3) (p : Int) (w : World) (h : sclB p = true) (hlt : p < 65536) :
    Calls Try.prog 10 #[.int .i64 enc, .int .i64 p] w fun e w' => ∃ v, e = .returned v ∧ w'.ownsRow w.heap.size 3 1 v 2 (i64s (unitL enc p)) ∧ Below w.heap.size w w' := by
  simp [sclB] at h
  obtain ⟨h1, h2, h3⟩ := h
  have H : Hid (∀ (a : Addr) (w : World), w.cell? a = some (.int .i64 enc) → Calls Try.prog 14 #[.int .i64 p, .pointer (some a)] w fun e w' => ∃ x y, unitL enc p = [x, y] ∧ e = .returned (.slice (some ⟨w.heap.size, 0, none⟩) 2 2) ∧ w' = w.alloc (.cells #[.int .i64 x, .int .i64 y] 3)) := fun a w hc => unitR_any enc p a w he h1 hlt hc
  rcases he with rfl | rfl
  all_goals
    go_enter Try.func10, Try.ntmps10
    go_wp2_with (go_at_call 14; refine (H.out _ _ (by exact World.cell?_alloc_at _ _ _ _ rfl)).mono ?_; rintro e w' ⟨x, y, hxy, rfl, rfl⟩)
    go_ret
    refine ⟨_, rfl, ?_, by go_grown⟩
    rw [hxy]
    exact own_lit w _ [x, y] 2 rfl (by decide)

set_option maxHeartbeats 2000000 in
theorem bytesOf_p (enc : Int) (he : enc = 2 ∨ enc = 3) (p : Int) (w : World) (h : sclB p = true) (hge : 65536 ≤ p) :
    Calls Try.prog 10 #[.int .i64 enc, .int .i64 p] w fun e w' => ∃ v, e = .returned v ∧ w'.ownsRow w.heap.size 3 1 v 4 (i64s (unitL enc (55296 + (p - 65536) / 1024)) ++ i64s (unitL enc (56320 + (p - 65536) % 1024))) ∧ Below w.heap.size w w' := by
  obtain ⟨i0, hi, hz0, hz1, hz2⟩ := info_parts Try.info3
  simp [sclB] at h
  obtain ⟨h1, h2, h3⟩ := h
  clear h3
  have H : Hid (∀ (u : Int), 0 ≤ u → u < 65536 → ∀ (a : Addr) (w : World), w.cell? a = some (.int .i64 enc) → Calls Try.prog 14 #[.int .i64 u, .pointer (some a)] w fun e w' => ∃ x y, unitL enc u = [x, y] ∧ e = .returned (.slice (some ⟨w.heap.size, 0, none⟩) 2 2) ∧ w' = w.alloc (.cells #[.int .i64 x, .int .i64 y] 3)) := fun u g0 g1 a w hc => unitR_any enc u a w he g0 g1 hc
  rcases he with rfl | rfl
  all_goals
    go_enter Try.func10, Try.ntmps10
    go_wp2_with fail
    refine (H.out (55296 + (p - 65536) / 1024) (by omega) (by omega) _ _ (by exact World.cell?_alloc_at _ _ _ _ rfl)).mono ?_
    rintro e w' ⟨x, y, hxy, rfl, rfl⟩
    have HXY := hide hxy
    clear hxy
    go_wp2_with fail
    refine (H.out (56320 + (p - 65536) % 1024) (by omega) (by omega) _ _ (by rw [World.cell?_alloc_past _ _ _ (by simp)]; exact World.cell?_alloc_at _ _ _ _ rfl)).mono ?_
    rintro e w' ⟨z, u, hzu, rfl, rfl⟩
    have HZU := hide hzu
    clear hzu
    go_wp2_with (at_builtin; refine wpList_append_own _ rfl _ _ 22 rfl w.heap.size 3 i0 (.int .i64 0) 1 8 Try.underlying22 hi hz0 hz1 hz2 rfl (by decide) _ _ _ rfl ((own_lit w _ [x, y] 2 rfl (by decide)).alloc _) ⟨w.heap.size + 1 + 1, 0, none⟩ 2 2 [.int .i64 z, .int .i64 u] rfl rfl (cells_two _ _ (by simp) z u) (two_one z u) (by decide) (by decide) (by simp; omega) ?_)
    intro v' w2 hown' hgrow _
    go_wp2
    go_ret
    refine ⟨_, rfl, by rw [HXY.out, HZU.out]; exact hown', ?_⟩
    exact (((((Below.refl w.heap.size w).alloc (Nat.le_refl _) _).alloc (by simp <;> omega) _).alloc (by simp <;> omega) _).grown hgrow (by simp <;> omega) (by intro k hk; simp [Value.ownBlock] at hk; omega))

theorem bytesOf_any (enc p : Int) (w : World) (he : encB enc = true) (h : holdB enc p = true) :
    Calls Try.prog 10 #[.int .i64 enc, .int .i64 p] w fun e w' => ∃ v, e = .returned v ∧ w'.ownsRow w.heap.size 3 1 v (bytesOf enc p).length (i64s (bytesOf enc p)) ∧ Below w.heap.size w w' := by
  have h' : enc = 1 ∨ enc = 2 ∨ enc = 3 ∨ enc = 4 := by simp [encB] at he; omega
  rcases h' with rfl | h' | h' | rfl
  · exact bytesOf_1 p w h
  · subst h'
    have hs : sclB p = true := h
    by_cases hlt : p < 65536
    · have E : bytesOf 2 p = unitL 2 p := by simp [bytesOf, bytes16, hlt]
      rw [E]; exact bytesOf_u 2 (by decide) p w hs hlt
    · have E : bytesOf 2 p = unitL 2 (55296 + (p - 65536) / 1024) ++ unitL 2 (56320 + (p - 65536) % 1024) := by simp [bytesOf, bytes16, hlt]
      rw [E]; simp only [i64s, List.map_append]; exact bytesOf_p 2 (by decide) p w hs (by omega)
  · subst h'
    have hs : sclB p = true := h
    by_cases hlt : p < 65536
    · have E : bytesOf 3 p = unitL 3 p := by simp [bytesOf, bytes16, hlt]
      rw [E]; exact bytesOf_u 3 (by decide) p w hs hlt
    · have E : bytesOf 3 p = unitL 3 (55296 + (p - 65536) / 1024) ++ unitL 3 (56320 + (p - 65536) % 1024) := by simp [bytesOf, bytes16, hlt]
      rw [E]; simp only [i64s, List.map_append]; exact bytesOf_p 3 (by decide) p w hs (by omega)
  · exact bytesOf_4 p w h

end Go.Proofs.Ytihnaihmpokiiaa
