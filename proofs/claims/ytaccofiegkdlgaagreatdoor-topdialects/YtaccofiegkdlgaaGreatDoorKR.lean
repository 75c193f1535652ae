import Derived.Test.YtaccofiegkdlgaaGreatDoorKO
import Derived.Test.YtaccofiegkdlgaaGreatDoorKQ
import Derived.Test.YtaccofiegkdlgaaGreatDoorKN
import Derived.Test.YtaccofiegkdlgaaGreatDoorKB
namespace Go.Proofs.YtaccofiegkdlgaaGreatDoor
set_option maxHeartbeats 2000000
set_option maxRecDepth 100000
open Go.RowKit
set_option linter.unusedVariables false
theorem cells_of {w : World} {x : Addr} {L : RL} (h : Cells2 w x L) : ∀ j u, (cells2 L)[j]? = some u → w.cell? (x.add j) = some u := by
 intro j u hj
 have hlt : j < (cells2 L).length := (List.getElem?_eq_some_iff.1 hj).1
 rw [cells2_len] at hlt
 obtain ⟨c1, c2⟩ := h (j / 2) (by omega)
 obtain ⟨d1, d2⟩ := cells2_get L (j / 2) (by omega)
 rcases (show j % 2 = 0 ∨ j % 2 = 1 from by omega) with hm | hm
 ·have e : j / 2 * 2 = j := by omega
  rw [e] at c1 d1
  rw [hj] at d1
  rw [c1, ← d1]
 ·have e : j / 2 * 2 + 1 = j := by omega
  rw [e, hj] at d2
  have e2 : x.add j = ⟨(x.add (j / 2 * 2)).block, (x.add (j / 2 * 2)).off + 1, none⟩ := by
   unfold Addr.add
   rw [if_neg (by omega)]
   split
   ·rename_i h0; first | (simp; omega) | simp_all
   ·first | (simp; omega) | simp
  rw [e2, c2, ← d2]
theorem cells2_one (L : RL) : ∀ u ∈ cells2 L, u.oneCell' = true := by
 intro u hu
 unfold cells2 at hu
 rw [List.mem_flatMap] at hu
 obtain ⟨r, _, hu⟩ := hu
 simp [encR] at hu
 rcases hu with rfl | rfl <;> rfl
theorem own_empty (w : World) : (w.alloc (.cells #[] 66)).ownsRow w.heap.size 66 2 (.slice (some ⟨w.heap.size, 0, none⟩) 0 0) 0 [] := by
 have h := World.ownsRow_lit (base := w.heap.size) (e := 66) (size := 2) w #[] 0 (by simp) (by unfold maxLen; omega) (by simp)
 simpa using h
theorem clone_any (v : Value) (L : RL) (w : World) (hv : Reads w v L) (hl : L.length ≤ 400000000) : Calls Tryz.prog 88 #[v] w fun e w' => ∃ v', e = .returned v' ∧ w'.ownsRow w.heap.size 66 2 v' L.length (cells2 L) ∧ Below w.heap.size w w' := by
 obtain ⟨i0, hi, hz0, hz1, hz2⟩ := info_parts infoR
 have nil0 : ∀ W, (binOp .eql 25 (.slice none 0 0) (.slice none 0 0)).run Tryz.prog W = .ok (.bool true) W := fun W => rfl
 have nil1 : ∀ a n c W, (binOp .eql 25 (.slice (some a) n c) (.slice none 0 0)).run Tryz.prog W = .ok (.bool false) W := fun a n c W => rfl
 rcases hv with ⟨rfl, rfl⟩ | ⟨x, c, rfl, hc⟩
 ·go_enter Tryz.func88, Tryz.ntmps88
  go_wp2
  go_ret
  exact ⟨_, rfl, World.ownsRow_nil _ _ _ _, Below.refl _ _⟩
 ·have HC := hide hc
  clear hc
  obtain ⟨n, hn⟩ : ∃ n, n = L.length := ⟨_, rfl⟩
  have hcl := cells2_len L
  rw [← hn] at hl hcl ⊢
  have HCL := hide hcl
  clear hn hcl
  have hb0 : Hid (Below w.heap.size w (w.alloc (.cells #[] 66))) := (Below.refl _ w).alloc (Nat.le_refl _) _
  go_enter Tryz.func88, Tryz.ntmps88
  go_wp2_with (at_builtin; refine wpList_append_own _ rfl _ _ 25 rfl w.heap.size 66 i0 (.agg #[.int .i64 0, .int .i64 0]) 2 16 Tryz.underlying25 hi hz0 hz1 hz2 rfl (by decide) _ 0 [] rfl (own_empty w) x n c (cells2 L) rfl HCL.out (cells_of (HC.out.below hb0.out)) (cells2_one L) (by unfold maxLen; omega) (by omega) (by simp) ?_)
  intro v' w3 hown' hgrow _
  have HO3 := hide hown'
  have hb3 := hide (hb0.out.grown hgrow (by simp) (fun k hk => by simp [Value.ownBlock] at hk; omega))
  clear hown' hgrow
  go_wp2
  go_ret
  exact ⟨_, rfl, HO3.out, hb3.out⟩
theorem foldl_take (S : RL) (k : Nat) (hk : k < S.length) : (S.take (k + 1)).foldl joinStep [] = joinStep ((S.take k).foldl joinStep []) S[k] := by
 rw [List.take_add_one, List.getElem?_eq_getElem hk, List.foldl_append]
 rfl
theorem foldl_join_len (S : RL) (k : Nat) : ((S.take k).foldl joinStep []).length ≤ k := by
 induction k with
 | zero => simp
 | succ k ih =>
  by_cases h : k < S.length
  ·rw [foldl_take S k h]
   have := joinStep_len ((S.take k).foldl joinStep []) S[k]
   omega
  ·rw [List.take_of_length_le (by omega)] at ih ⊢
   omega
theorem foldl_canon {S : RL} (hok : ∀ r ∈ S, okR r) (hs : S.Pairwise (fun a b => a.1 ≤ b.1)) (k : Nat) : Canon ((S.take k).foldl joinStep []) := by
 have := join_spec (S := S.take k) (fun r hr => hok r (List.mem_of_mem_take hr)) (hs.sublist (List.take_sublist k S))
 exact this.1
theorem join_any (B : Nat) (v : Value) (l : RL) (w : World) (hl : l.length ≤ 400000000) (hok : ∀ r ∈ l, okR r) (hown : w.ownsRow B 66 2 v l.length (cells2 l)) (hB : B ≤ w.heap.size) :
  Calls Tryz.prog 92 #[v] w fun e w' => ∃ v' O, e = .returned v' ∧ w'.ownsRow B 66 2 v' O.length (cells2 O) ∧ IsSet (ins l) O ∧ O.length ≤ l.length ∧ Below B w w' := by
 have HS := hide (sortR_any B v l w hl (fun x hx => by have := hok x hx; unfold okR at this; omega) hown hB)
 have HOK := hide hok
 obtain ⟨ao, c, hvs⟩ := own_shape hown
 obtain ⟨n, hn⟩ : ∃ n, n = l.length := ⟨_, rfl⟩
 have HN := hide hn
 rw [← hn] at hvs hl
 rw [hvs] at HS ⊢
 clear hok hown hn hvs
 go_enter Tryz.func92, Tryz.ntmps92
 go_wp2_with fail
 refine HS.out.mono ?_
 rintro e w2 ⟨rfl, S, hp, hs, ho2, hb2⟩
 have hSl : S.length = n := by rw [hp.length_eq]; exact HN.out.symm
 have hokS : ∀ r ∈ S, okR r := fun r hr => HOK.out r (hp.mem_iff.1 hr)
 have HSP := hide hp
 have HSS := hide hs
 have HO2 := hide ho2
 have HKS := hide hokS
 have HSL := hide hSl
 have HB2 := hide hb2
 clear HS hp hs ho2 hokS hSl hb2
 go_wp2
 go_loopw [3, 10] (fun v i wr => ∃ k : Nat, k ≤ n ∧ i = .int .i64 k ∧ wr.ownsRow w2.heap.size 66 2 v ((S.take k).foldl joinStep []).length (cells2 ((S.take k).foldl joinStep [])) ∧ Below w2.heap.size w2 wr) (fun _ i _ => n - (intOf i).toNat)
 case atStart => exact ⟨0, Nat.zero_le _, rfl, World.ownsRow_nil _ _ _ _, Below.refl _ _⟩
 case round =>
  obtain ⟨k, hk, rfl, ho, hbl⟩ := hrel
  by_cases hlt : k < n
  ·have hkS : k < S.length := by have := HSL.out; omega
   have hsrc := own_reads (own_below HO2.out hbl)
   obtain ⟨x, cx, hx, hcx⟩ := hsrc.some (by omega)
   obtain ⟨rfl⟩ : ao = some x := by cases hx; rfl
   obtain ⟨c1, c2⟩ := hcx k hkS
   have hfs := hide (foldl_take S k hkS)
   have hcan := foldl_canon HKS.out HSS.out k
   have hOlen := foldl_join_len S k
   have hr := HKS.out S[k] (List.getElem_mem _)
   obtain ⟨r, hr'⟩ : ∃ r, r = S[k] := ⟨_, rfl⟩
   rw [← hr'] at c1 c2 hfs hr
   obtain ⟨O, hO⟩ : ∃ O, O = (S.take k).foldl joinStep [] := ⟨_, rfl⟩
   rw [← hO] at ho hOlen hcan hfs
   obtain ⟨a, b⟩ := r
   simp only at c1 c2
   obtain ⟨ao', c', rfl⟩ := own_shape ho
   have hBw : w2.heap.size ≤ wr.heap.size := hbl.size
   have HAdd := hide (add_any w2.heap.size _ O a b (wr.alloc (.cells #[.int .i64 a, .int .i64 b] 66)) (by simp; omega) (fun x hx => by have := hcan.1 x hx; unfold okR at this; omega) (by have hOc := canon_len hcan 1114112 (by omega) (fun x hx => by have := hcan.1 x hx; unfold okR at this; omega); omega) (ho.alloc _))
   have HBL := hide hbl
   clear hcan hr hr' hO ho hx hcx hsrc hbl hOlen
   go_wp2_with fail
   refine HAdd.out.mono ?_
   rintro e w3 ⟨v', rfl, ho3, hb3⟩
   have HO3 := hide ho3
   obtain ⟨ao'', c'', hv''⟩ := own_shape ho3
   rw [hv''] at HO3 ⊢
   clear ho3 hv''
   go_wp2
   go_roundw
   case rel => exact ⟨k + 1, by omega, by go_num, by rw [hfs.out]; exact HO3.out, (HBL.out.alloc hBw _).trans hb3⟩
   case measure => simp [intOf]; omega
  ·have hkn : k = n := by omega
   subst hkn
   have hfull : S.take k = S := List.take_of_length_le (by have := HSL.out; omega)
   rw [hfull] at ho
   have HO := hide ho
   obtain ⟨j1, j2⟩ := join_spec HKS.out HSS.out
   have hset : Hid (IsSet (ins l) (joinL S)) := isSet_congr (isSet_self j1) fun q _ _ => by rw [j2, ins_perm HSP.out]
   have hlen : Hid ((joinL S).length ≤ l.length) := by
    have := foldl_join_len S k
    rw [hfull] at this
    show (S.foldl joinStep []).length ≤ _
    have := HN.out
    omega
   obtain ⟨ao', c', rfl⟩ := own_shape ho
   have HBL := hide hbl
   clear ho j1 j2 hbl
   go_wp2
   go_ret
   exact ⟨_, joinL S, rfl, own_base HO.out (Nat.le_trans hB HB2.out.size), hset.out, hlen.out, HB2.out.trans (HBL.out.mono (Nat.le_trans hB HB2.out.size))⟩
end Go.Proofs.YtaccofiegkdlgaaGreatDoor
namespace Go.Proofs.YtaccofiegkdlgaaGreatDoor
set_option maxHeartbeats 1000000
open Go.RowKit
set_option linter.unusedVariables false
theorem own_blockR {B : Nat} {w : World} {v : Value} {n : Nat} {xs : List Value} (h : w.ownsRow B 66 2 v n xs) {k : Nat} {o : Obj} (hk : w.heap[k]? = some o) (ho : ∀ cs fr, o ≠ .cells cs 66 fr) : some k ≠ v.ownBlock := by
 intro e
 rcases h.2 with ⟨rfl, _⟩ | ⟨g, cap, cur, rfl, _, hh, _⟩
 ·simp [Value.ownBlock] at e
 ·simp [Value.ownBlock] at e
  rw [← e, hk] at hh
  exact ho _ _ (by simpa using hh)
theorem below_appR {B : Nat} {w w' : World} {v : Value} {n : Nat} {xs : List Value} (hown : w.ownsRow B 66 2 v n xs) (hB : B ≤ w.heap.size) {o : Obj} (hg : (w.alloc o).grownBy w' v.ownBlock) : Below B w w' :=
 ((Below.refl B w).alloc hB o).grown hg (by simp; omega) (fun k hk => (hown.lt k hk).1)
theorem takeC (B b : Nat) (hBb : B ≤ b) (v : Value) (L : List (Int × Int)) (p q : Int) (w : World) (hbox : w.heap[b]? = some (.cells #[v] 25 (0, 0))) (hown : w.ownsRow B 66 2 v L.length (cells2 L)) (hn : L.length ≤ 3000) (hB : B ≤ w.heap.size) :
  Calls Tryz.prog 94 #[.int .i64 p, .int .i64 q, .pointer (some ⟨b, 0, none⟩)] w fun e w' => e = .returned (.tuple #[]) ∧ (∃ v', w'.heap[b]? = some (.cells #[v'] 25 (0, 0)) ∧ w'.ownsRow B 66 2 v' (L.length + 1) (cells2 (L ++ [(p, q)]))) ∧ Below B w w' ∧ Fo.Keep3 w w' := by
 obtain ⟨i0, hi, hz0, hz1, hz2⟩ := info_parts infoR
 have hlt : b < w.heap.size := lt_of_block hbox
 have hcb := cell_of_one hbox
 have hfb := free_of_one hbox
 have HB := hide hbox
 have HO := hide hown
 have hE : Hid (cells2 (L ++ [(p, q)]) = cells2 L ++ [.int .i64 p, .int .i64 q]) := by show _ = _; rw [cells2_append]; rfl
 clear hbox
 obtain ⟨ao, c, rfl⟩ := own_shape hown
 clear hown
 go_enter Tryz.func94, Tryz.ntmps94
 go_wp2_with (at_builtin; refine wpList_append_own _ rfl _ _ 25 rfl B 66 i0 (.agg #[.int .i64 0, .int .i64 0]) 2 16 Tryz.underlying25 hi hz0 hz1 hz2 rfl (by decide) _ _ _ rfl (HO.out.alloc _) ⟨w.heap.size, 0, none⟩ 1 1 [.int .i64 p, .int .i64 q] rfl rfl (cells_twoR _ _ (by simp) p q) (two_one p q) (by unfold maxLen; omega) (by omega) (by simp; omega) ?_)
 intro v' w2 hown' hgrow _
 have hob := own_blockR HO.out HB.out (by simp)
 have hb2 : w2.heap[b]? = some (.cells #[.slice ao L.length c] 25 (0, 0)) := by
  rw [hgrow.block b (by simp; omega) hob, Below.heap_alloc _ _ _ hlt]; exact HB.out
 have hc2 := cell_of_one hb2
 have hf2 := free_of_one hb2
 obtain ⟨ao', c', hv'⟩ := own_shape hown'
 have HG := hide hgrow
 have HO2 := hide hown'
 have HB2 := hide hb2
 clear hgrow hown' hb2 hcb hfb
 rw [hv'] at HO2
 rw [hv']
 clear hv'
 go_wp2
 go_end0
 have hb3 := one_setCell (u := .slice ao' (L.length + 1) c') HB2.out
 have hne : (Value.slice ao' (L.length + 1) c').ownBlock ≠ some b := fun e => own_blockR HO2.out HB2.out (by simp) e.symm
 refine ⟨rfl, ⟨_, hb3, by rw [hE.out]; exact ownsRow_setCell_other HO2.out hne _⟩, (below_appR HO.out hB HG.out).setCell hBb _, ?_⟩
 intro k cs hk
 have hkb : k ≠ b := fun e => by
  subst e
  have := HB.out
  rw [hk] at this
  simp at this
 rw [Below.heap_setCell _ _ _ _ hkb, HG.out.block k (by have := lt_of_block hk; simp; omega) (own_blockR HO.out hk (by simp)), Below.heap_alloc _ _ _ (lt_of_block hk)]
 exact hk
def InvC (w0 : World) (L : List (Int × Int)) (w : World) : Prop :=
 (∃ v, w.heap[w0.heap.size]? = some (.cells #[v] 25 (0, 0)) ∧ w.ownsRow w0.heap.size 66 2 v L.length (cells2 L)) ∧ Below w0.heap.size w0 w
theorem entersC1 (args : Array Value) (w : World) : (callFunc 94 args).run Tryz.prog w = .ok (.enter 94 args) w := enters_of Tryz.func94 (by kernel_rfl) rfl args w
theorem takerC (w0 : World) : Fo.Taker 94 #[.pointer (some ⟨w0.heap.size, 0, none⟩)] (InvC w0) where
 enters := fun args w => entersC1 args w
 take := fun L a b w hl h => by
  obtain ⟨⟨v, h1, h2⟩, h3⟩ := h
  refine (takeC w0.heap.size w0.heap.size (Nat.le_refl _) v L a b w h1 h2 (by omega) h3.size).mono ?_
  rintro e w' ⟨rfl, ⟨v', g1, g2⟩, hb, hk⟩
  exact ⟨rfl, ⟨⟨v', g1, by rw [List.length_append, List.length_singleton]; exact g2⟩, h3.trans hb⟩, hb.size, hk⟩
 below := fun L w w' h hb => by
  obtain ⟨⟨v, h1, h2⟩, h3⟩ := h
  exact ⟨⟨v, by rw [hb.block _ (lt_of_block h1)]; exact h1, own_below h2 hb⟩, h3.trans (hb.mono h3.size)⟩
theorem invC_start (w : World) : InvC w [] (w.alloc (.cells #[.slice none 0 0] 25)) :=
 ⟨⟨_, heap_alloc_new w _, World.ownsRow_nil _ _ _ _⟩, (Below.refl _ w).alloc (Nat.le_refl _) _⟩
theorem alpha_ok : ∀ r ∈ Fo.ps_alpha, okR r := by
 have : Fo.ps_alpha.all okB = true := by decide +kernel
 intro r hr
 exact (okB_iff r).1 (List.all_eq_true.1 this r hr)
theorem alpha_len : Fo.ps_alpha.length = 13 := by decide +kernel
theorem class_alpha (w : World) : Calls Tryz.prog 81 #[.string ⟨#[97, 108, 112, 104, 97]⟩] w fun e w' => ∃ v O, e = .returned (.tuple #[v, .int .i64 0]) ∧ w'.ownsRow w.heap.size 66 2 v O.length (cells2 O) ∧ IsSet (ins Fo.ps_alpha) O ∧ O.length ≤ 13 ∧ Below w.heap.size w w' := by
 have H := hide (Fo.eachC_alpha (takerC w) _ (invC_start w))
 have hmf : ∀ (fn : Fn) (first cap : Array Value) (w : World), (Instr.makeFunc fn first cap).run Tryz.prog w = .ok (.func fn first cap) w := fun _ _ _ _ => rfl
 go_enter Tryz.func81, Tryz.ntmps81
 go_wp2_with fail
 refine H.out.mono ?_
 rintro e w1 ⟨rfl, ⟨⟨v, i1, i2⟩, i3⟩, hs, hk⟩
 have HJ := hide (join_any w.heap.size v Fo.ps_alpha w1 (by rw [alpha_len]; omega) alpha_ok i2 i3.size)
 have c1 := cell_of_one i1
 have I3 := hide i3
 obtain ⟨ao0, c0, hv0⟩ := own_shape i2
 rw [hv0] at HJ c1
 clear hk i1 i2 i3 hs H hv0
 go_wp2_with fail
 refine HJ.out.mono ?_
 rintro e w2 ⟨v2, O, rfl, ho, hset, hle, hb⟩
 obtain ⟨ao, cc, hv⟩ := own_shape ho
 have HO := hide ho
 have HB := hide hb
 have HS := hide hset
 have HL := hide hle
 clear ho hb hset hle
 rw [hv] at HO
 rw [hv]
 clear hv
 go_wp2
 go_ret2
 exact ⟨_, _, rfl, HO.out, HS.out, by have := HL.out; rw [alpha_len] at this; exact this, I3.out.trans HB.out⟩
end Go.Proofs.YtaccofiegkdlgaaGreatDoor
namespace Go.Proofs.YtaccofiegkdlgaaGreatDoor.Br
set_option maxHeartbeats 1000000
open Go.RowKit
set_option linter.unusedVariables false
def names : List ByteArray := [Fo.nm_any, Fo.nm_ascii, Fo.nm_cntrl, Fo.nm_digit, Fo.nm_xdigit, Fo.nm_blank, Fo.nm_space, Fo.nm_punct, Fo.nm_alpha, Fo.nm_upper, Fo.nm_lower, Fo.nm_alnum, Fo.nm_word, Fo.nm_graph]
theorem ne_bytes {s : ByteArray} {l : List UInt8} (h : s ≠ ⟨l.toArray⟩) : (s.toList == l) = false := by
 rw [ByteArray.toList_eq]
 simp only [beq_eq_false_iff_ne, ne_eq]
 intro e
 apply h
 cases s
 rename_i d
 simp only at e
 rw [← e]
theorem each_none (s : ByteArray) (f : Value) (w : World) (h : s ∉ names) :
  Calls Tryz.prog 93 #[.string s, f] w fun e w' => e = .returned (.bool false) ∧ w = w' := by
 have n0 : (s.toList == [97, 110, 121]) = false := ne_bytes (fun e => h (by rw [e]; simp [names, Fo.nm_any]))
 have n1 : (s.toList == [97, 115, 99, 105, 105]) = false := ne_bytes (fun e => h (by rw [e]; simp [names, Fo.nm_ascii]))
 have n2 : (s.toList == [99, 110, 116, 114, 108]) = false := ne_bytes (fun e => h (by rw [e]; simp [names, Fo.nm_cntrl]))
 have n3 : (s.toList == [100, 105, 103, 105, 116]) = false := ne_bytes (fun e => h (by rw [e]; simp [names, Fo.nm_digit]))
 have n4 : (s.toList == [120, 100, 105, 103, 105, 116]) = false := ne_bytes (fun e => h (by rw [e]; simp [names, Fo.nm_xdigit]))
 have n5 : (s.toList == [98, 108, 97, 110, 107]) = false := ne_bytes (fun e => h (by rw [e]; simp [names, Fo.nm_blank]))
 have n6 : (s.toList == [115, 112, 97, 99, 101]) = false := ne_bytes (fun e => h (by rw [e]; simp [names, Fo.nm_space]))
 have n7 : (s.toList == [112, 117, 110, 99, 116]) = false := ne_bytes (fun e => h (by rw [e]; simp [names, Fo.nm_punct]))
 have n8 : (s.toList == [97, 108, 112, 104, 97]) = false := ne_bytes (fun e => h (by rw [e]; simp [names, Fo.nm_alpha]))
 have n9 : (s.toList == [117, 112, 112, 101, 114]) = false := ne_bytes (fun e => h (by rw [e]; simp [names, Fo.nm_upper]))
 have n10 : (s.toList == [108, 111, 119, 101, 114]) = false := ne_bytes (fun e => h (by rw [e]; simp [names, Fo.nm_lower]))
 have n11 : (s.toList == [97, 108, 110, 117, 109]) = false := ne_bytes (fun e => h (by rw [e]; simp [names, Fo.nm_alnum]))
 have n12 : (s.toList == [119, 111, 114, 100]) = false := ne_bytes (fun e => h (by rw [e]; simp [names, Fo.nm_word]))
 have n13 : (s.toList == [103, 114, 97, 112, 104]) = false := ne_bytes (fun e => h (by rw [e]; simp [names, Fo.nm_graph]))
 clear h
 go_enter Tryz.func93, Tryz.ntmps93
 go_wp2
 go_ret
 exact ⟨rfl, rfl⟩
def rngOf (s : ByteArray) : List (Int × Int) :=
 if s = Fo.nm_any then Fo.ps_any else
 if s = Fo.nm_ascii then Fo.ps_ascii else
 if s = Fo.nm_cntrl then Fo.ps_cntrl else
 if s = Fo.nm_digit then Fo.ps_digit else
 if s = Fo.nm_xdigit then Fo.ps_xdigit else
 if s = Fo.nm_blank then Fo.ps_blank else
 if s = Fo.nm_space then Fo.ps_space else
 if s = Fo.nm_punct then Fo.ps_punct else
 if s = Fo.nm_alpha then Fo.ps_alpha else
 if s = Fo.nm_upper then Fo.ps_upper else
 if s = Fo.nm_lower then Fo.ps_lower else
 if s = Fo.nm_alnum then Fo.ps_alnum else
 if s = Fo.nm_word then Fo.ps_word else
 if s = Fo.nm_graph then Fo.ps_graph else
 []
theorem eachC_some (s : ByteArray) (hs : s ∈ names) {caps : Array Value} {Inv : List (Int × Int) → World → Prop} (T : Fo.Taker 94 caps Inv) (w : World) (hI : Inv [] w) :
  Calls Tryz.prog 93 #[.string s, .func (.func 94) #[] caps] w fun e w' => e = .returned (.bool true) ∧ Inv (rngOf s) w' ∧ w.heap.size ≤ w'.heap.size := by
 simp only [names, List.mem_cons, List.not_mem_nil, or_false] at hs
 rcases hs with rfl | rfl | rfl | rfl | rfl | rfl | rfl | rfl | rfl | rfl | rfl | rfl | rfl | rfl
 ·exact (Fo.eachC_any T w hI).mono fun e w' h => ⟨h.1, h.2.1, h.2.2.1⟩
 ·exact (Fo.eachC_ascii T w hI).mono fun e w' h => ⟨h.1, h.2.1, h.2.2.1⟩
 ·exact (Fo.eachC_cntrl T w hI).mono fun e w' h => ⟨h.1, h.2.1, h.2.2.1⟩
 ·exact (Fo.eachC_digit T w hI).mono fun e w' h => ⟨h.1, h.2.1, h.2.2.1⟩
 ·exact (Fo.eachC_xdigit T w hI).mono fun e w' h => ⟨h.1, h.2.1, h.2.2.1⟩
 ·exact (Fo.eachC_blank T w hI).mono fun e w' h => ⟨h.1, h.2.1, h.2.2.1⟩
 ·exact (Fo.eachC_space T w hI).mono fun e w' h => ⟨h.1, h.2.1, h.2.2.1⟩
 ·exact (Fo.eachC_punct T w hI).mono fun e w' h => ⟨h.1, h.2.1, h.2.2.1⟩
 ·exact (Fo.eachC_alpha T w hI).mono fun e w' h => ⟨h.1, h.2.1, h.2.2.1⟩
 ·exact (Fo.eachC_upper T w hI).mono fun e w' h => ⟨h.1, h.2.1, h.2.2.1⟩
 ·exact (Fo.eachC_lower T w hI).mono fun e w' h => ⟨h.1, h.2.1, h.2.2.1⟩
 ·exact (Fo.eachC_alnum T w hI).mono fun e w' h => ⟨h.1, h.2.1, h.2.2.1⟩
 ·exact (Fo.eachC_word T w hI).mono fun e w' h => ⟨h.1, h.2.1, h.2.2.1⟩
 ·exact (Fo.eachC_graph T w hI).mono fun e w' h => ⟨h.1, h.2.1, h.2.2.1⟩
theorem names_chk : ∀ s ∈ names, (decide ((rngOf s).length ≤ 1000) && (rngOf s).all okB) = true := by
 intro s hs
 simp only [names, List.mem_cons, List.not_mem_nil, or_false] at hs
 rcases hs with rfl | rfl | rfl | rfl | rfl | rfl | rfl | rfl | rfl | rfl | rfl | rfl | rfl | rfl <;> decide +kernel
theorem names_ok {s : ByteArray} (hs : s ∈ names) : (rngOf s).length ≤ 1000 ∧ ∀ r ∈ rngOf s, okR r := by
 have := names_chk s hs
 simp only [Bool.and_eq_true, decide_eq_true_eq] at this
 exact ⟨this.1, fun r hr => (okB_iff r).1 (List.all_eq_true.1 this.2 r hr)⟩
theorem class_none (s : ByteArray) (w : World) (h : s ∉ names) :
  Calls Tryz.prog 81 #[.string s] w fun e w' => e = .returned (.tuple #[.slice none 0 0, .int .i64 5]) ∧ Below w.heap.size w w' := by
 have H := hide (fun f w => each_none s f w h)
 have hmf : ∀ (fn : Fn) (first cap : Array Value) (w : World), (Instr.makeFunc fn first cap).run Tryz.prog w = .ok (.func fn first cap) w := fun _ _ _ _ => rfl
 clear h
 go_enter Tryz.func81, Tryz.ntmps81
 go_wp2_with (go_at_call 93; refine (H.out _ _).mono ?_; rintro e w' ⟨rfl, rfl⟩)
 go_ret2
 exact ⟨rfl, by go_grown⟩
theorem class_some (s : ByteArray) (w : World) (h : s ∈ names) : Calls Tryz.prog 81 #[.string s] w fun e w' => ∃ v O, e = .returned (.tuple #[v, .int .i64 0]) ∧ w'.ownsRow w.heap.size 66 2 v O.length (cells2 O) ∧ IsSet (ins (rngOf s)) O ∧ Below w.heap.size w w' := by
 have H := hide (eachC_some s h (takerC w) _ (invC_start w))
 have hmf : ∀ (fn : Fn) (first cap : Array Value) (w : World), (Instr.makeFunc fn first cap).run Tryz.prog w = .ok (.func fn first cap) w := fun _ _ _ _ => rfl
 obtain ⟨hl, hk⟩ := names_ok h
 have HK := hide hk
 obtain ⟨L, hL⟩ : ∃ L, L = rngOf s := ⟨_, rfl⟩
 rw [← hL] at H hl HK ⊢
 clear hk hL h
 go_enter Tryz.func81, Tryz.ntmps81
 go_wp2_with fail
 refine H.out.mono ?_
 rintro e w1 ⟨rfl, ⟨⟨v, i1, i2⟩, i3⟩, hs⟩
 have HJ := hide (join_any w.heap.size v L w1 (by omega) HK.out i2 i3.size)
 have c1 := cell_of_one i1
 have I3 := hide i3
 obtain ⟨ao0, c0, hv0⟩ := own_shape i2
 obtain ⟨n, hn⟩ : ∃ n, n = L.length := ⟨_, rfl⟩
 rw [← hn] at hv0
 rw [hv0] at HJ c1
 clear i1 i2 i3 hs H hv0 hn hl
 go_wp2_with fail
 refine HJ.out.mono ?_
 rintro e w2 ⟨v2, O, rfl, ho, hset, hle, hb⟩
 obtain ⟨ao, cc, hv⟩ := own_shape ho
 have HO := hide ho
 have HB := hide hb
 have HS := hide hset
 clear ho hb hset hle
 rw [hv] at HO
 rw [hv]
 clear hv
 go_wp2
 go_ret2
 exact ⟨_, _, rfl, HO.out, HS.out, I3.out.trans HB.out⟩
end Go.Proofs.YtaccofiegkdlgaaGreatDoor.Br
