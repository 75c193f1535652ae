/- The reference's Escaped: its closures, and the world that they are called in. -/
import Derived.Test.YtlapnhjkhpgklaaRc1
import Derived.BigRegion
import Derived.Deep.RegionHeld
namespace Go.Proofs.Ytlapnhjkhpgklaa
open Go.RowKit
set_option linter.unusedVariables false

abbrev clsO : Obj := .cells #[.string ⟨#[100]⟩, .string ⟨#[100, 105, 103, 105, 116]⟩, .string ⟨#[119]⟩, .string ⟨#[119, 111, 114, 100]⟩, .string ⟨#[115]⟩, .string ⟨#[115, 112, 97, 99, 101]⟩, .string ⟨#[104]⟩, .string ⟨#[120, 100, 105, 103, 105, 116]⟩] 9
/-- the boxes, and the table of classes. -/
structure EscC (w : World) (x : Addr) (n c : Nat) (i k : Int) (W : World) : Prop where
  a : EscA w x n c i k W
  cls : W.heap[w.heap.size + 4]? = some clsO
theorem EscC.on {w : World} {x : Addr} {n c : Nat} {i k : Int} {W W' : World} (h : EscC w x n c i k W) (hb : Below W.heap.size W W') : EscC w x n c i k W' := ⟨h.a.on hb, below_atT hb h.cls⟩
theorem EscC.drew {w : World} {x : Addr} {n c : Nat} {i k : Int} {W : World} (h : EscC w x n c i k W) : EscC w x n c i k W.drew := h.on ⟨rfl, rfl, rfl, Nat.le_refl _, fun _ _ => rfl⟩
theorem EscC.alloc {w : World} {x : Addr} {n c : Nat} {i k : Int} {W : World} (h : EscC w x n c i k W) (o : Obj) : EscC w x n c i k (W.alloc o) := h.on ((Below.refl _ _).alloc (Nat.le_refl _) _)
theorem escC_first (w : World) (x : Addr) (n c : Nat) (i k : Int) {W : World} (hA : EscA w x n c i k W) (hz : W.heap.size = w.heap.size + 4) : EscC w x n c i k (W.alloc clsO) := ⟨hA.on ((Below.refl _ _).alloc (Nat.le_refl _) _), at_new' _ _ hz.symm⟩
/-- the next place is stored. -/
theorem EscC.store {w : World} {x : Addr} {n c : Nat} {i k : Int} {W : World} (h : EscC w x n c i k W) (k' : Int) : EscC w x n c i k' (W.setCell ⟨w.heap.size + 3, 0, none⟩ (.int .i64 k')) := by
  have hne : ∀ b, b ≠ w.heap.size + 3 → (W.setCell ⟨w.heap.size + 3, 0, none⟩ (.int .i64 k')).heap[b]? = W.heap[b]? := fun b hb => Below.heap_setCell _ _ _ _ (fun e => hb e)
  refine ⟨⟨h.a.below.setCell (by simp) _, ?_, ?_, ?_, ?_⟩, ?_⟩
  · rw [World.cell?, hne _ (by show w.heap.size ≠ _; omega)]; exact h.a.sl
  · rw [World.cell?, hne _ (by show w.heap.size + 1 ≠ _; omega)]; exact h.a.at_
  · rw [hne _ (by omega)]; exact h.a.tok
  · rw [set_one h.a.nxt]; rfl
  · rw [hne _ (by omega)]; exact h.cls

set_option maxHeartbeats 1000000 in
theorem isE_any (x : Addr) (c : Nat) (l : List Int) (i : Nat) (b4 b5 : Nat) (u : UInt8) (z : Int) (hz : z = (u.toNat : Int)) (W : World) (h : ReadsI W x l) (h4 : W.cell? ⟨b4, 0, none⟩ = some (.slice (some x) l.length c)) (h5 : W.cell? ⟨b5, 0, none⟩ = some (.int .i64 i)) (hi : i ≤ 1000) (hl : l.length ≤ 1000) : Calls Try.prog 30 #[.string ⟨#[u]⟩, .pointer (some ⟨b4, 0, none⟩), .pointer (some ⟨b5, 0, none⟩)] W fun e w' => e = .returned (.bool (says l i [z])) ∧ Below W.heap.size W w' := by
  have HS := hide (says1_b x c l i u z hz W h hi hl)
  obtain ⟨s, hs⟩ : ∃ s, s = says l i [z] := ⟨_, rfl⟩
  rw [← hs] at HS ⊢
  clear h hs
  go_enter Try.func30, Try.ntmps30
  go_wp2_with fail
  refine HS.out.mono ?_
  rintro e w1 ⟨rfl, hb⟩
  have HB := hide hb
  clear hb
  go_wp2
  go_ret
  exact ⟨rfl, HB.out⟩
set_option maxHeartbeats 1000000 in
theorem isE2_any (x : Addr) (c : Nat) (l : List Int) (i : Nat) (b4 b5 : Nat) (u v : UInt8) (z y : Int) (hz : z = (u.toNat : Int)) (hy : y = (v.toNat : Int)) (W : World) (h : ReadsI W x l) (h4 : W.cell? ⟨b4, 0, none⟩ = some (.slice (some x) l.length c)) (h5 : W.cell? ⟨b5, 0, none⟩ = some (.int .i64 i)) (hi : i ≤ 1000) (hl : l.length ≤ 1000) : Calls Try.prog 30 #[.string ⟨#[u, v]⟩, .pointer (some ⟨b4, 0, none⟩), .pointer (some ⟨b5, 0, none⟩)] W fun e w' => e = .returned (.bool (says l i [z, y])) ∧ Below W.heap.size W w' := by
  have HS := hide (says2_b x c l i u v z y hz hy W h hi hl)
  obtain ⟨s, hs⟩ : ∃ s, s = says l i [z, y] := ⟨_, rfl⟩
  rw [← hs] at HS ⊢
  clear h hs
  go_enter Try.func30, Try.ntmps30
  go_wp2_with fail
  refine HS.out.mono ?_
  rintro e w1 ⟨rfl, hb⟩
  have HB := hide hb
  clear hb
  go_wp2
  go_ret
  exact ⟨rfl, HB.out⟩
set_option maxHeartbeats 2000000 in
theorem lookE_any (kk k : Int) (b : Nat) (W : World) (h : W.cell? ⟨b, 0, none⟩ = some (.int .i64 k)) : Calls Try.prog 31 #[.int .i64 kk, .pointer (some ⟨b, 0, none⟩)] W fun e w' => e = .returned (.tuple #[tokV (lookT kk), .int .i64 k, .int .i64 0]) ∧ Below W.heap.size W w' := by
  have hA : (W.alloc (tokO {})).heap[W.heap.size]? = some (tokO {}) := at_new _ _
  have hb : Below W.heap.size W (W.alloc (tokO {})) := (Below.refl _ _).alloc (Nat.le_refl _) _
  have hc := below_cellT hb h
  obtain ⟨W1, hW1⟩ : ∃ W1, W1 = W.alloc (tokO {}) := ⟨_, rfl⟩
  rw [← hW1] at hA hb hc
  have HA := hide hA
  have HB := hide hb
  have hlt : b < W.heap.size := World.block_lt_of_cell? _ _ h
  have hn1 : ¬ b = W.heap.size := by omega
  have hn2 : ¬ W.heap.size = b := by omega
  simp only [tokO] at hW1
  clear h hA hb
  go_enter Try.func31, Try.ntmps31
  go_wp2
  rw [← hW1]
  clear hW1
  obtain ⟨m0, m1, m2, m3, m4, m5, m6, m7⟩ := tok_cells HA.out
  have fr0 := tok_free HA.out
  go_region
  go_wp2
  exact ret_t2d (N := W.heap.size) (t0 := {}) (W := W1) (t := lookT kk) (k := k) (z := 0) rfl rfl rfl rfl HA.out ⟨rfl, below_drewT (tset_below HB.out (Nat.le_refl _) _)⟩

theorem cls_cell {W : World} {k : Nat} (h : W.heap[k]? = some clsO) (j : Nat) (v : Value) (hv : (#[.string ⟨#[100]⟩, .string ⟨#[100, 105, 103, 105, 116]⟩, .string ⟨#[119]⟩, .string ⟨#[119, 111, 114, 100]⟩, .string ⟨#[115]⟩, .string ⟨#[115, 112, 97, 99, 101]⟩, .string ⟨#[104]⟩, .string ⟨#[120, 100, 105, 103, 105, 116]⟩] : Array Value)[j]? = some v) : W.cell? ⟨k, j, none⟩ = some v := by
  unfold World.cell?
  simp only [h]
  exact hv

theorem set8_cell {W : World} {N b o : Nat} {v0 v1 v2 v3 v4 v5 v6 v7 v : Value} (h : W.cell? ⟨b, o, none⟩ = some v) (hb : b ≠ N) : ((((((((W.setCell ⟨N, 0, none⟩ v0).setCell ⟨N, 1, none⟩ v1).setCell ⟨N, 2, none⟩ v2).setCell ⟨N, 3, none⟩ v3).setCell ⟨N, 4, none⟩ v4).setCell ⟨N, 5, none⟩ v5).setCell ⟨N, 6, none⟩ v6).setCell ⟨N, 7, none⟩ v7).cell? ⟨b, o, none⟩ = some v := by
  have hne : ∀ (W : World) (o : Nat) (v : Value), (W.setCell ⟨N, o, none⟩ v).heap[b]? = W.heap[b]? := fun W o v => Below.heap_setCell _ _ _ _ (fun e => hb e)
  rw [← h]
  unfold World.cell?
  simp only [hne]

/-! what is escaped, by its point. -/
theorem esc_cls {l : List Int} {i : Nat} {p : Int} {cc : ByteArray × Bool} (h : l[i]? = some p) (hc : clsT p = some cc) : escT 1 l i = .ok (classT cc, i + 1) := by
  unfold escT; rw [h]; simp only [if_true]; unfold rubyT; rw [hc]

end Go.Proofs.Ytlapnhjkhpgklaa
