/- What Class answers of alpha, as a set. -/
import Derived.Test.YtojjfmnbpfpanaaDoorFEachC
import Derived.Test.YtojjfmnbpfpanaaDoorFOrbit
import Derived.Test.YtojjfmnbpfpanaaDoorSmake
namespace Go.Proofs.YtojjfmnbpfpanaaDoor
open Go.RowKit
set_option linter.unusedVariables false

theorem own_blockR {B : Nat} {w : World} {v : Value} {n : Nat} {xs : List Value} (h : w.ownsRow B 35 2 v n xs) {k : Nat} {o : Obj} (hk : w.heap[k]? = some o) (ho : ∀ cs fr, o ≠ .cells cs 35 fr) : some k ≠ v.ownBlock := by
  intro e
  rcases h.2 with ⟨rfl, _⟩ | ⟨g, cap, cur, rfl, _, hh, _⟩
  · simp [Value.ownBlock] at e
  · simp [Value.ownBlock] at e
    rw [← e, hk] at hh
    exact ho _ _ (by simpa using hh)
theorem below_appR {B : Nat} {w w' : World} {v : Value} {n : Nat} {xs : List Value} (hown : w.ownsRow B 35 2 v n xs) (hB : B ≤ w.heap.size) {o : Obj} (hg : (w.alloc o).grownBy w' v.ownBlock) : Below B w w' :=
  ((Below.refl B w).alloc hB o).grown hg (by simp; omega) (fun k hk => (hown.lt k hk).1)

set_option maxHeartbeats 1000000 in
/-- the function literal of Class. -/
theorem takeC (B b : Nat) (hBb : B ≤ b) (v : Value) (L : List (Int × Int)) (p q : Int) (w : World) (hbox : w.heap[b]? = some (.cells #[v] 22 (0, 0))) (hown : w.ownsRow B 35 2 v L.length (cells2 L)) (hn : L.length ≤ 3000) (hB : B ≤ w.heap.size) :
    Calls Tryd.prog 51 #[.int .i64 p, .int .i64 q, .pointer (some ⟨b, 0, none⟩)] w fun e w' => e = .returned (.tuple #[]) ∧ (∃ v', w'.heap[b]? = some (.cells #[v'] 22 (0, 0)) ∧ w'.ownsRow B 35 2 v' (L.length + 1) (cells2 (L ++ [(p, q)]))) ∧ Below B w w' ∧ Fo.Keep3 w w' := by
  obtain ⟨i0, hi, hz0, hz1, hz2⟩ := info_parts infoR
  have hlt : b < w.heap.size := lt_of_block hbox
  have hcb := cell_of_one hbox
  have hfb := free_of_one hbox
  have HB := hide hbox
  have HO := hide hown
  have hE : Hid (cells2 (L ++ [(p, q)]) = cells2 L ++ [.int .i64 p, .int .i64 q]) := by show _ = _; rw [cells2_append]; rfl
  clear hbox
  obtain ⟨ao, c, rfl⟩ := own_shape hown
  clear hown
  go_enter Tryd.func51, Tryd.ntmps51
  go_wp2_with (at_builtin; refine wpList_append_own _ rfl _ _ 22 rfl B 35 i0 (.agg #[.int .i64 0, .int .i64 0]) 2 16 Tryd.underlying22 hi hz0 hz1 hz2 rfl (by decide) _ _ _ rfl (HO.out.alloc _) ⟨w.heap.size, 0, none⟩ 1 1 [.int .i64 p, .int .i64 q] rfl rfl (cells_twoR _ _ (by simp) p q) (two_one p q) (by unfold maxLen; omega) (by omega) (by simp; omega) ?_)
  intro v' w2 hown' hgrow _
  have hob := own_blockR HO.out HB.out (by simp)
  have hb2 : w2.heap[b]? = some (.cells #[.slice ao L.length c] 22 (0, 0)) := by
    rw [hgrow.block b (by simp; omega) hob, Below.heap_alloc _ _ _ hlt]; exact HB.out
  have hc2 := cell_of_one hb2
  have hf2 := free_of_one hb2
  obtain ⟨ao', c', hv'⟩ := own_shape hown'
  have HG := hide hgrow
  have HO2 := hide hown'
  have HB2 := hide hb2
  clear hgrow hown' hb2 hcb hfb
  rw [hv'] at HO2
  rw [hv']
  clear hv'
  go_wp2
  go_end0
  have hb3 := one_setCell (u := .slice ao' (L.length + 1) c') HB2.out
  have hne : (Value.slice ao' (L.length + 1) c').ownBlock ≠ some b := fun e => own_blockR HO2.out HB2.out (by simp) e.symm
  refine ⟨rfl, ⟨_, hb3, by rw [hE.out]; exact ownsRow_setCell_other HO2.out hne _⟩, (below_appR HO.out hB HG.out).setCell hBb _, ?_⟩
  intro k cs hk
  have hkb : k ≠ b := fun e => by
    subst e
    have := HB.out
    rw [hk] at this
    simp at this
  rw [Below.heap_setCell _ _ _ _ hkb, HG.out.block k (by have := lt_of_block hk; simp; omega) (own_blockR HO.out hk (by simp)), Below.heap_alloc _ _ _ (lt_of_block hk)]
  exact hk
/-- what Class keeps while ranges come. -/
def InvC (w0 : World) (L : List (Int × Int)) (w : World) : Prop :=
  (∃ v, w.heap[w0.heap.size]? = some (.cells #[v] 22 (0, 0)) ∧ w.ownsRow w0.heap.size 35 2 v L.length (cells2 L)) ∧ Below w0.heap.size w0 w
theorem entersC1 (args : Array Value) (w : World) : (callFunc 51 args).run Tryd.prog w = .ok (.enter 51 args) w := enters_of Tryd.func51 (by kernel_rfl) rfl args w
theorem takerC (w0 : World) : Fo.Taker 51 #[.pointer (some ⟨w0.heap.size, 0, none⟩)] (InvC w0) where
  enters := fun args w => entersC1 args w
  take := fun L a b w hl h => by
    obtain ⟨⟨v, h1, h2⟩, h3⟩ := h
    refine (takeC w0.heap.size w0.heap.size (Nat.le_refl _) v L a b w h1 h2 (by omega) h3.size).mono ?_
    rintro e w' ⟨rfl, ⟨v', g1, g2⟩, hb, hk⟩
    exact ⟨rfl, ⟨⟨v', g1, by rw [List.length_append, List.length_singleton]; exact g2⟩, h3.trans hb⟩, hb.size, hk⟩
  below := fun L w w' h hb => by
    obtain ⟨⟨v, h1, h2⟩, h3⟩ := h
    exact ⟨⟨v, by rw [hb.block _ (lt_of_block h1)]; exact h1, own_below h2 hb⟩, h3.trans (hb.mono h3.size)⟩
theorem invC_start (w : World) : InvC w [] (w.alloc (.cells #[.slice none 0 0] 22)) :=
  ⟨⟨_, heap_alloc_new w _, World.ownsRow_nil _ _ _ _⟩, (Below.refl _ w).alloc (Nat.le_refl _) _⟩
theorem alpha_ok : ∀ r ∈ Fo.ps_alpha, okR r := by
  have : Fo.ps_alpha.all okB = true := by decide +kernel
  intro r hr
  exact (okB_iff r).1 (List.all_eq_true.1 this r hr)
theorem alpha_len : Fo.ps_alpha.length = 13 := by decide +kernel

set_option maxHeartbeats 1000000 in
theorem class_alpha (w : World) : Calls Tryd.prog 30 #[.string ⟨#[97, 108, 112, 104, 97]⟩] w fun e w' => ∃ v O, e = .returned (.tuple #[v, .int .i64 0]) ∧ w'.ownsRow w.heap.size 35 2 v O.length (cells2 O) ∧ IsSet (ins Fo.ps_alpha) O ∧ O.length ≤ 13 ∧ Below w.heap.size w w' := by
  have H := hide (Fo.eachC_alpha (takerC w) _ (invC_start w))
  have hmf : ∀ (fn : Fn) (first cap : Array Value) (w : World), (Instr.makeFunc fn first cap).run Tryd.prog w = .ok (.func fn first cap) w := fun _ _ _ _ => rfl
  go_enter Tryd.func30, Tryd.ntmps30
  go_wp2_with fail
  refine H.out.mono ?_
  rintro e w1 ⟨rfl, ⟨⟨v, i1, i2⟩, i3⟩, hs, hk⟩
  have HJ := hide (join_any w.heap.size v Fo.ps_alpha w1 (by rw [alpha_len]; omega) alpha_ok i2 i3.size)
  have c1 := cell_of_one i1
  have I3 := hide i3
  obtain ⟨ao0, c0, hv0⟩ := own_shape i2
  rw [hv0] at HJ c1
  clear hk i1 i2 i3 hs H hv0
  go_wp2_with fail
  refine HJ.out.mono ?_
  rintro e w2 ⟨v2, O, rfl, ho, hset, hle, hb⟩
  obtain ⟨ao, cc, hv⟩ := own_shape ho
  have HO := hide ho
  have HB := hide hb
  have HS := hide hset
  have HL := hide hle
  clear ho hb hset hle
  rw [hv] at HO
  rw [hv]
  clear hv
  go_wp2
  go_ret2
  exact ⟨_, _, rfl, HO.out, HS.out, by have := HL.out; rw [alpha_len] at this; exact this, I3.out.trans HB.out⟩

end Go.Proofs.YtojjfmnbpfpanaaDoor
