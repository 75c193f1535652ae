import Derived.Test.YtaccofiegkdlgaaGreatDoorKC
namespace Go.Proofs.YtaccofiegkdlgaaGreatDoor.TR
open Go.RowKit
set_option linter.unusedVariables false
theorem at_new (w : World) (o : Obj) : (w.alloc o).heap[w.heap.size]? = some o := heap_alloc_new w o
theorem lt_of_block {w : World} {g : Nat} {o : Obj} (h : w.heap[g]? = some o) : g < w.heap.size := (Array.getElem?_eq_some_iff.1 h).1
inductive Tr where
 | mk (kind num least most way : Int) (fold : Bool) (set : RL) (kids : List Tr)
def Tr.kind : Tr → Int | .mk k _ _ _ _ _ _ _ => k
def Tr.num : Tr → Int | .mk _ k _ _ _ _ _ _ => k
def Tr.least : Tr → Int | .mk _ _ k _ _ _ _ _ => k
def Tr.most : Tr → Int | .mk _ _ _ k _ _ _ _ => k
def Tr.way : Tr → Int | .mk _ _ _ _ k _ _ _ => k
def Tr.fold : Tr → Bool | .mk _ _ _ _ _ k _ _ => k
def Tr.set : Tr → RL | .mk _ _ _ _ _ _ k _ => k
def Tr.kids : Tr → List Tr | .mk _ _ _ _ _ _ _ k => k
structure NV where
 kind : Int
 sa : Option Addr
 sl : Nat
 sc : Nat
 ka : Option Addr
 kl : Nat
 kc : Nat
 num : Int
 least : Int
 most : Int
 way : Int
 fold : Bool
abbrev nvV (n : NV) : Value := .agg #[.int .i64 n.kind, .slice n.sa n.sl n.sc, .slice n.ka n.kl n.kc, .int .i64 n.num, .int .i64 n.least, .int .i64 n.most, .int .i64 n.way, .bool n.fold]
abbrev nvO (n : NV) : Obj := .cells #[.int .i64 n.kind, .slice n.sa n.sl n.sc, .slice n.ka n.kl n.kc, .int .i64 n.num, .int .i64 n.least, .int .i64 n.most, .int .i64 n.way, .bool n.fold] 28
structure NCells (w : World) (a : Addr) (n : NV) : Prop where
 c0 : w.cell? a = some (.int .i64 n.kind)
 c1 : w.cell? ⟨a.block, a.off + 1, none⟩ = some (.slice n.sa n.sl n.sc)
 c2 : w.cell? ⟨a.block, a.off + 2, none⟩ = some (.slice n.ka n.kl n.kc)
 c3 : w.cell? ⟨a.block, a.off + 3, none⟩ = some (.int .i64 n.num)
 c4 : w.cell? ⟨a.block, a.off + 4, none⟩ = some (.int .i64 n.least)
 c5 : w.cell? ⟨a.block, a.off + 5, none⟩ = some (.int .i64 n.most)
 c6 : w.cell? ⟨a.block, a.off + 6, none⟩ = some (.int .i64 n.way)
 c7 : w.cell? ⟨a.block, a.off + 7, none⟩ = some (.bool n.fold)
def KidsC (w : World) (ka : Option Addr) (kl kc : Nat) (len : Nat) (vs : Nat → NV) : Prop :=
 (ka = none ∧ kl = 0 ∧ kc = 0 ∧ len = 0) ∨ ∃ x, ka = some x ∧ kl = len ∧ (len ≤ kc ∧ kc ≤ 9223372036854775807) ∧ ∀ j, j < len → NCells w (x.add (j * 8)) (vs j)
inductive NodeC (w : World) : NV → Tr → Prop
 | mk (n : NV) (set : RL) (kids : List Tr) (vs : Nat → NV) (hs : Reads w (.slice n.sa n.sl n.sc) set) (hk : KidsC w n.ka n.kl n.kc kids.length vs) (h : ∀ j (hj : j < kids.length), NodeC w (vs j) kids[j]) : NodeC w n (.mk n.kind n.num n.least n.most n.way n.fold set kids)
theorem NCells.below {w w' : World} {a : Addr} {n : NV} (h : NCells w a n) (hb : Below w.heap.size w w') : NCells w' a n :=
 ⟨below_cell hb (lt_of_cell h.c0) h.c0, below_cell hb (lt_of_cell h.c1) h.c1, below_cell hb (lt_of_cell h.c2) h.c2, below_cell hb (lt_of_cell h.c3) h.c3, below_cell hb (lt_of_cell h.c4) h.c4, below_cell hb (lt_of_cell h.c5) h.c5, below_cell hb (lt_of_cell h.c6) h.c6, below_cell hb (lt_of_cell h.c7) h.c7⟩
theorem KidsC.below {w w' : World} {ka : Option Addr} {kl kc len : Nat} {vs : Nat → NV} (h : KidsC w ka kl kc len vs) (hb : Below w.heap.size w w') : KidsC w' ka kl kc len vs := by
 rcases h with h | ⟨x, h1, h2, hm, h3⟩
 ·exact .inl h
 ·exact .inr ⟨x, h1, h2, hm, fun j hj => (h3 j hj).below hb⟩
theorem NodeC.keep {w w' : World} {n : NV} {t : Tr} (h : NodeC w n t) (hb : Below w.heap.size w w') : NodeC w' n t := by
 induction h with
 | mk n set kids vs hs hk h ih => exact .mk n set kids vs (hs.below hb) (hk.below hb) ih
theorem KidsC.len {w : World} {ka : Option Addr} {kl kc len : Nat} {vs : Nat → NV} (h : KidsC w ka kl kc len vs) : kl = len := by
 rcases h with ⟨_, h1, _, h2⟩ | ⟨x, h1, h2, _, h3⟩
 ·omega
 ·exact h2
theorem NodeC.open {w : World} {n : NV} {t : Tr} (h : NodeC w n t) : t.kind = n.kind ∧ t.num = n.num ∧ t.least = n.least ∧ t.most = n.most ∧ t.way = n.way ∧ t.fold = n.fold ∧ Reads w (.slice n.sa n.sl n.sc) t.set ∧ ∃ vs, KidsC w n.ka n.kl n.kc t.kids.length vs ∧ ∀ j (hj : j < t.kids.length), NodeC w (vs j) t.kids[j] := by
 cases h with
 | mk _ set kids vs hs hk h => exact ⟨rfl, rfl, rfl, rfl, rfl, rfl, hs, vs, hk, h⟩
theorem nv_cells {w : World} {k : Nat} {n : NV} (h : w.heap[k]? = some (nvO n)) : NCells w ⟨k, 0, none⟩ n := by
 refine ⟨?_, ?_, ?_, ?_, ?_, ?_, ?_, ?_⟩ <;> simp [World.cell?, h]
end Go.Proofs.YtaccofiegkdlgaaGreatDoor.TR
namespace Go.Proofs.YtaccofiegkdlgaaGreatDoor.TR
set_option maxHeartbeats 2000000
set_option maxRecDepth 100000
open Go.RowKit
set_option linter.unusedVariables false
def cntL (step : Tr → Nat → Nat) : List Tr → Nat → Nat
 | [], c => c
 | t :: ts, c => if c < 1001 then cntL step ts (step t c) else c
def cntT : Nat → Tr → Nat → Nat
 | 0, _, _ => 1001
 | f + 1, t, c => cntL (cntT f) t.kids (c + 1)
theorem cntL_le {step : Tr → Nat → Nat} (hs : ∀ t c, c ≤ 1000 → step t c ≤ 1001) : ∀ (ts : List Tr) (c : Nat), c ≤ 1001 → cntL step ts c ≤ 1001 := by
 intro ts
 induction ts with
 | nil => intro c h; exact h
 | cons t ts ih =>
  intro c h
  unfold cntL
  split
  ·rename_i h1; exact ih _ (hs t c (by omega))
  ·exact h
theorem cntT_le : ∀ (f : Nat) (t : Tr) (c : Nat), c ≤ 1000 → cntT f t c ≤ 1001 := by
 intro f
 induction f with
 | zero => intro t c _; exact Nat.le_refl _
 | succ f ih => intro t c h; exact cntL_le ih _ _ (by omega)
theorem cntL_drop {step : Tr → Nat → Nat} {ts : List Tr} {j c : Nat} (hj : j < ts.length) (hc : c < 1001) : cntL step (ts.drop j) c = cntL step (ts.drop (j + 1)) (step ts[j] c) := by
 rw [List.drop_eq_getElem_cons hj]
 conv => lhs; unfold cntL
 rw [if_pos hc]
theorem cntL_stop {step : Tr → Nat → Nat} {ts : List Tr} {c : Nat} (hc : ¬ c < 1001) : cntL step ts c = c := by
 cases ts with
 | nil => rfl
 | cons t ts => unfold cntL; rw [if_neg hc]
theorem countOn_any : ∀ (f : Nat) (n : NV) (t : Tr) (c : Nat) (deep : Int) (w : World), NodeC w n t → c ≤ 1000 → deep = 201 - (f : Int) → f ≤ 201 → Calls Tryz.prog 30 #[.int .i64 c, nvV n, .int .i64 deep] w fun e w' => e = .returned (.int .i64 (cntT f t c : Nat)) ∧ Below w.heap.size w w' := by
 intro f
 induction f with
 | zero =>
  intro n t c deep w h hc hd hf
  have e1 : (200 : Int) < deep := by omega
  have hb : Below w.heap.size w (w.alloc (nvO n)) := (Below.refl _ _).alloc (Nat.le_refl _) _
  have HB := hide hb
  clear h hd hb
  go_enter Tryz.func30, Tryz.ntmps30
  go_wp2
  go_ret
  exact ⟨rfl, HB.out⟩
 | succ f ih =>
  intro n t c deep w h hc hd hf
  have e1 : ¬ (200 : Int) < deep := by omega
  have hdw : IntKind.i64.wrap (deep + 1) = deep + 1 := by rw [IntKind.wrap_i64]; omega
  have hdr : -9223372036854775808 ≤ deep ∧ deep ≤ 1000 := by omega
  have hb : Below w.heap.size w (w.alloc (nvO n)) := (Below.refl _ _).alloc (Nat.le_refl _) _
  have HB := hide hb
  obtain ⟨-, -, -, -, -, -, -, vs, hk, hkids⟩ := h.open
  have HKd := hide hkids
  have HKc := hide hk
  have hkl := hk.len
  have HIH := hide (fun (n : NV) (t : Tr) (c : Nat) (w : World) (h : NodeC w n t) (hc : c ≤ 1000) => ih n t c (deep + 1) w h hc (by omega) (by omega))
  obtain ⟨w1, hw1⟩ : ∃ w1, w1 = w.alloc (nvO n) := ⟨_, rfl⟩
  have hbox : w1.heap[w.heap.size]? = some (nvO n) := by rw [hw1]; exact at_new _ _
  have HBx := hide hbox
  rw [← hw1] at HB
  simp only [nvO] at hw1
  obtain ⟨ks, hks⟩ : ∃ ks, ks = t.kids := ⟨_, rfl⟩
  have HE : Hid (cntT (f + 1) t c = cntL (cntT f) ks (c + 1)) := by show _ = _; rw [hks]; rfl
  have HLe : Hid (∀ t c, c ≤ 1000 → cntT f t c ≤ 1001) := cntT_le f
  rw [← hks] at HKc hkl
  have HKd2 : Hid (∀ j (hj : j < ks.length), NodeC w (vs j) ks[j]) := by subst hks; exact HKd.out
  clear h hd hb hbox hkids hk ih hf HKd hks
  have HKL := hide hkl
  clear hkl
  go_enter Tryz.func30, Tryz.ntmps30
  go_wp2
  rw [← hw1]
  clear hw1
  go_loopw [0, 7] (fun s t wr => ∃ (j cc : Nat), j ≤ ks.length ∧ cc ≤ 1001 ∧ s = .int .i64 cc ∧ t = .int .i64 j ∧ cntL (cntT f) ks (c + 1) = cntL (cntT f) (ks.drop j) cc ∧ wr.heap[w.heap.size]? = some (nvO n) ∧ Below w.heap.size w wr) (fun _ t _ => ks.length - (intOf t).toNat)
  case atStart => exact ⟨0, c + 1, Nat.zero_le _, by omega, by go_num, rfl, rfl, HBx.out, HB.out⟩
  case round =>
   obtain ⟨j, cc, hj, hcc, rfl, rfl, hE, hx, hb⟩ := hrel
   have HE2 := hide hE
   have HX := hide hx
   have HB2 := hide hb
   have hnc := nv_cells hx
   have m2 := hnc.c2
   obtain ⟨w2, hw2⟩ : ∃ w2, w2 = wr := ⟨_, rfl⟩
   subst hw2
   clear hE hx hb hnc HB HBx
   by_cases hlt : j < ks.length
   ·have e2 : (j : Int) < (n.kl : Int) := by have := HKL.out; omega
    by_cases hst : cc < 1001
    ·have e3 : (cc : Int) < 1001 := by omega
     have e4 : (0 : Int) ≤ (j : Int) := by omega
     rcases HKc.out with ⟨_, _, _, h0⟩ | ⟨x, hx, hkk, hmx, hcl⟩
     ·exact absurd h0 (by omega)
     ·have hcj := (hcl j hlt).below HB2.out
      have hN := (HKd2.out j hlt).keep HB2.out
      obtain ⟨d0, d1, d2, d3, d4, d5, d6, d7⟩ := hcj
      have HC := hide (HIH.out (vs j) ks[j] cc w2 hN (by omega))
      have hjm : (j : Int) + 1 ≤ 9223372036854775807 := by omega
      have hjw : IntKind.i64.wrap ((j : Int) + 1) = (j : Int) + 1 := by rw [IntKind.wrap_i64]; omega
      rw [hx] at m2
      clear hcl hN hx
      go_wp2_with fail
      refine HC.out.mono ?_
      rintro e w3 ⟨rfl, hb3⟩
      have HB3 := hide (HB2.out.trans (hb3.mono HB2.out.size))
      have HX3 := hide (show w3.heap[w.heap.size]? = some (nvO n) by rw [hb3.block _ (lt_of_block HX.out)]; exact HX.out)
      have hle := HLe.out ks[j] cc (by omega)
      have HNx : Hid (cntL (cntT f) ks (c + 1) = cntL (cntT f) (ks.drop (j + 1)) (cntT f ks[j] cc)) := by show _ = _; rw [HE2.out, cntL_drop hlt hst]
      clear hb3 HC HB2 HX
      go_wp2
      go_roundw
      case rel => exact ⟨j + 1, _, by omega, hle, rfl, by go_num, HNx.out, HX3.out, HB3.out⟩
      case measure => simp [intOf]; omega
    ·have e3 : ¬ (cc : Int) < 1001 := by omega
     have hF : Hid (cntT (f + 1) t c = cc) := by show _ = _; rw [HE.out, HE2.out, cntL_stop hst]
     go_wp2
     go_ret
     exact ⟨by rw [hF.out]; rfl, HB2.out⟩
   ·have e2 : ¬ (j : Int) < (n.kl : Int) := by have := HKL.out; omega
    have hF : Hid (cntT (f + 1) t c = cc) := by
     show _ = _
     rw [HE.out, HE2.out, List.drop_eq_nil_of_le (by omega)]; rfl
    go_wp2
    go_ret
    exact ⟨by rw [hF.out]; rfl, HB2.out⟩
def cntA (t : Tr) : Nat := cntT 201 t 0
theorem count_any (n : NV) (t : Tr) (w : World) (h : NodeC w n t) : Calls Tryz.prog 26 #[nvV n] w fun e w' => e = .returned (.tuple #[.int .i64 (if cntA t < 1001 then (cntA t : Int) else 0), .int .i64 (if cntA t < 1001 then 0 else 2)]) ∧ Below w.heap.size w w' := by
 have hb : Below w.heap.size w (w.alloc (nvO n)) := (Below.refl _ _).alloc (Nat.le_refl _) _
 have hN := h.keep hb
 obtain ⟨w1, hw1⟩ : ∃ w1, w1 = w.alloc (nvO n) := ⟨_, rfl⟩
 have hbox : w1.heap[w.heap.size]? = some (nvO n) := by rw [hw1]; exact at_new _ _
 rw [← hw1] at hN hb
 have HC := hide (countOn_any 201 n t 0 0 w1 hN (by omega) (by omega) (by omega))
 have HB := hide hb
 obtain ⟨d0, d1, d2, d3, d4, d5, d6, d7⟩ := nv_cells hbox
 obtain ⟨q, hq⟩ : ∃ q, q = cntA t := ⟨_, rfl⟩
 rw [show cntT 201 t 0 = q from hq.symm] at HC
 rw [← hq]
 simp only [nvO] at hw1
 clear h hN hb hbox hq
 by_cases hlt : q < 1001
 ·have e1 : (q : Int) < 1001 := by omega
  rw [if_pos hlt, if_pos hlt]
  clear hlt
  go_enter Tryz.func26, Tryz.ntmps26
  go_wp2_with fail
  rw [← hw1]
  clear hw1
  refine HC.out.mono ?_
  rintro e w2 ⟨rfl, hb2⟩
  have HB2 := hide (HB.out.trans (hb2.mono HB.out.size))
  clear hb2 HC
  go_wp2
  go_ret2
  exact ⟨rfl, HB2.out⟩
 ·have e1 : ¬ (q : Int) < 1001 := by omega
  rw [if_neg hlt, if_neg hlt]
  clear hlt
  go_enter Tryz.func26, Tryz.ntmps26
  go_wp2_with fail
  rw [← hw1]
  clear hw1
  refine HC.out.mono ?_
  rintro e w2 ⟨rfl, hb2⟩
  have HB2 := hide (HB.out.trans (hb2.mono HB.out.size))
  clear hb2 HC
  go_wp2
  go_ret2
  exact ⟨rfl, HB2.out⟩
end Go.Proofs.YtaccofiegkdlgaaGreatDoor.TR
