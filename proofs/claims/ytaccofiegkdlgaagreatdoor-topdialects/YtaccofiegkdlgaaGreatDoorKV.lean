import Derived.Test.YtaccofiegkdlgaaGreatDoorKM
import Derived.Test.YtaccofiegkdlgaaGreatDoorKQ
namespace Go.Proofs.YtaccofiegkdlgaaGreatDoor.Br
set_option maxHeartbeats 1000000
open Go.RowKit
open TK (Mv PatV ReadsI)
set_option linter.unusedVariables false
variable {w w' : World} {b : Nat} {v : Value} {l : List Int} {i : Nat} {d : Int} {fo : Bool}
theorem is1 (h : BB w b v l i d fo) (p : Int) :
  Calls Tryz.prog 65 #[.pointer (some ⟨b, 0, none⟩), .slice (some ⟨w.heap.size, 0, none⟩) 1 1] (w.alloc (.cells #[.int .i64 p] 3)) fun e w' => e = .returned (.bool (isAt l i [p])) ∧ Below w.heap.size w w' :=
 (cis_any _ 1 [p] (h.alloc (.cells #[.int .i64 p] 3)) (TK.readsI_one w p 3) (by simp) (by simp)).mono fun e w' ⟨h1, q, h2⟩ => ⟨h1, by rw [h2]; exact below_drewN ((Below.refl _ w).alloc (Nat.le_refl _) _) q⟩
theorem is2 (h : BB w b v l i d fo) (p q : Int) :
  Calls Tryz.prog 65 #[.pointer (some ⟨b, 0, none⟩), .slice (some ⟨w.heap.size, 0, none⟩) 2 2] (w.alloc (.cells #[.int .i64 p, .int .i64 q] 3)) fun e w' => e = .returned (.bool (isAt l i [p, q])) ∧ Below w.heap.size w w' :=
 (cis_any _ 2 [p, q] (h.alloc (.cells #[.int .i64 p, .int .i64 q] 3)) (TK.readsI_two w p q 3) (by simp) (by simp)).mono fun e w' ⟨h1, q, h2⟩ => ⟨h1, by rw [h2]; exact below_drewN ((Below.refl _ w).alloc (Nat.le_refl _) _) q⟩
theorem skip1 (h : BB w b v l i d fo) (p : Int) :
  Calls Tryz.prog 50 #[.pointer (some ⟨b, 0, none⟩), .slice (some ⟨w.heap.size, 0, none⟩) 1 1] (w.alloc (.cells #[.int .i64 p] 3)) fun e w' => e = .returned (.bool (isAt l i [p])) ∧ BB w' b v l (if isAt l i [p] then i + 1 else i) d fo ∧ Mv b w w' :=
 (cskip_any _ 1 [p] (h.alloc (.cells #[.int .i64 p] 3)) (TK.readsI_one w p 3) (by simp) (by simp)).mono fun e w' ⟨h1, h2, h3⟩ => ⟨h1, h2, ((Mv.refl b w).alloc _).trans h3⟩
theorem skip2 (h : BB w b v l i d fo) (p q : Int) :
  Calls Tryz.prog 50 #[.pointer (some ⟨b, 0, none⟩), .slice (some ⟨w.heap.size, 0, none⟩) 2 2] (w.alloc (.cells #[.int .i64 p, .int .i64 q] 3)) fun e w' => e = .returned (.bool (isAt l i [p, q])) ∧ BB w' b v l (if isAt l i [p, q] then i + 2 else i) d fo ∧ Mv b w w' :=
 (cskip_any _ 2 [p, q] (h.alloc (.cells #[.int .i64 p, .int .i64 q] 3)) (TK.readsI_two w p q 3) (by simp) (by simp)).mono fun e w' ⟨h1, h2, h3⟩ => ⟨h1, h2, ((Mv.refl b w).alloc _).trans h3⟩
theorem skip1_yes (h : BB w b v l i d fo) (p : Int) (hs : isAt l i [p] = true) :
  Calls Tryz.prog 50 #[.pointer (some ⟨b, 0, none⟩), .slice (some ⟨w.heap.size, 0, none⟩) 1 1] (w.alloc (.cells #[.int .i64 p] 3)) fun e w' => e = .returned (.bool true) ∧ BB w' b v l (i + 1) d fo ∧ Mv b w w' := by
 have := skip1 h p
 rw [hs, if_pos rfl] at this
 exact this
theorem skip1_no (h : BB w b v l i d fo) (p : Int) (hs : isAt l i [p] = false) :
  Calls Tryz.prog 50 #[.pointer (some ⟨b, 0, none⟩), .slice (some ⟨w.heap.size, 0, none⟩) 1 1] (w.alloc (.cells #[.int .i64 p] 3)) fun e w' => e = .returned (.bool false) ∧ BB w' b v l i d fo ∧ Mv b w w' := by
 have := skip1 h p
 rw [hs, if_neg (by simp)] at this
 exact this
theorem skip2_yes (h : BB w b v l i d fo) (p q : Int) (hs : isAt l i [p, q] = true) :
  Calls Tryz.prog 50 #[.pointer (some ⟨b, 0, none⟩), .slice (some ⟨w.heap.size, 0, none⟩) 2 2] (w.alloc (.cells #[.int .i64 p, .int .i64 q] 3)) fun e w' => e = .returned (.bool true) ∧ BB w' b v l (i + 2) d fo ∧ Mv b w w' := by
 have := skip2 h p q
 rw [hs, if_pos rfl] at this
 exact this
theorem skip2_no (h : BB w b v l i d fo) (p q : Int) (hs : isAt l i [p, q] = false) :
  Calls Tryz.prog 50 #[.pointer (some ⟨b, 0, none⟩), .slice (some ⟨w.heap.size, 0, none⟩) 2 2] (w.alloc (.cells #[.int .i64 p, .int .i64 q] 3)) fun e w' => e = .returned (.bool false) ∧ BB w' b v l i d fo ∧ Mv b w w' := by
 have := skip2 h p q
 rw [hs, if_neg (by simp)] at this
 exact this
theorem isRuby_any (h : BB w b v l i d fo) : Calls Tryz.prog 126 #[.pointer (some ⟨b, 0, none⟩)] w fun e w' => e = .returned (.bool (d == 1)) ∧ w = w' := by
 obtain ⟨c0, c1, c2, c3, f1⟩ := h.cells
 clear h
 go_enter Tryz.func126, Tryz.ntmps126
 go_wp2
 go_ret
 exact ⟨rfl, rfl⟩
theorem ruby_is (h : BB w b v l i d fo) {z : Bool} (hz : (d == 1) = z) : Calls Tryz.prog 126 #[.pointer (some ⟨b, 0, none⟩)] w fun e w' => e = .returned (.bool z) ∧ w = w' := by
 have := isRuby_any h
 rw [hz] at this
 exact this
theorem isClass_any (h : BB w b v l i d fo) : Calls Tryz.prog 164 #[.pointer (some ⟨b, 0, none⟩)] w fun e w' => e = .returned (.bool (isCls l i)) ∧ Below w.heap.size w w' := by
 have HI := hide (is2 h 91 58)
 obtain ⟨z, hz⟩ : ∃ z, z = isCls l i := ⟨_, rfl⟩
 rw [show isAt l i [91, 58] = isCls l i from rfl, ← hz] at HI
 rw [← hz]
 clear h hz
 go_enter Tryz.func164, Tryz.ntmps164
 go_wp2_with fail
 refine HI.out.mono ?_
 rintro e w1 ⟨rfl, hb⟩
 go_wp2
 go_ret
 exact ⟨rfl, hb⟩
theorem isAnd_any (h : BB w b v l i d fo) : Calls Tryz.prog 163 #[.pointer (some ⟨b, 0, none⟩)] w fun e w' => e = .returned (.bool ((d == 1) && isAt l i [38, 38])) ∧ Below w.heap.size w w' := by
 have HR := hide (isRuby_any h)
 have HI := hide (is2 h 38 38)
 obtain ⟨z, hz⟩ : ∃ z, z = isAt l i [38, 38] := ⟨_, rfl⟩
 rw [← hz] at HI ⊢
 clear h hz
 cases hr : (d == 1) with
 | true =>
  rw [hr] at HR
  clear hr
  go_enter Tryz.func163, Tryz.ntmps163
  go_wp2_with fail
  refine HR.out.mono ?_
  rintro e w1 ⟨rfl, rfl⟩
  go_wp2_with fail
  refine HI.out.mono ?_
  rintro e w2 ⟨rfl, hb⟩
  go_wp2
  go_ret
  exact ⟨rfl, hb⟩
 | false =>
  rw [hr] at HR
  clear hr
  go_enter Tryz.func163, Tryz.ntmps163
  go_wp2_with fail
  refine HR.out.mono ?_
  rintro e w1 ⟨rfl, rfl⟩
  go_wp2
  go_ret
  exact ⟨rfl, Below.refl _ _⟩
theorem isRange_any (h : BB w b v l i d fo) : Calls Tryz.prog 170 #[.pointer (some ⟨b, 0, none⟩)] w fun e w' => e = .returned (.bool (isRng l i)) ∧ Below w.heap.size w w' := by
 have HI := hide (is1 h 45)
 have HJ := hide (fun w1 (hb : Below w.heap.size w w1) => is2 (h.keep hb) 45 93)
 have hE : isRng l i = (isAt l i [45] && !isAt l i [45, 93]) := rfl
 rw [hE]
 obtain ⟨z, hz⟩ : ∃ z, z = isAt l i [45, 93] := ⟨_, rfl⟩
 rw [← hz] at HJ ⊢
 clear h hz hE
 cases hr : isAt l i [45] with
 | true =>
  rw [hr] at HI
  clear hr
  go_enter Tryz.func170, Tryz.ntmps170
  go_wp2_with fail
  refine HI.out.mono ?_
  rintro e w1 ⟨rfl, hb1⟩
  go_wp2_with fail
  refine (HJ.out w1 hb1).mono ?_
  rintro e w2 ⟨rfl, hb⟩
  go_wp2
  go_ret
  exact ⟨rfl, hb1.trans (hb.mono hb1.size)⟩
 | false =>
  rw [hr] at HI
  clear hr
  go_enter Tryz.func170, Tryz.ntmps170
  go_wp2_with fail
  refine HI.out.mono ?_
  rintro e w1 ⟨rfl, hb1⟩
  go_wp2
  go_ret
  exact ⟨rfl, hb1⟩
theorem isWithin_any (h : BB w b v l i d fo) : Calls Tryz.prog 166 #[.pointer (some ⟨b, 0, none⟩)] w fun e w' => e = .returned (.bool ((d == 1) && isAt l i [91] && !isCls l i)) ∧ Below w.heap.size w w' := by
 have HR := hide (isRuby_any h)
 have HI := hide (is1 h 91)
 have HJ := hide (fun w1 (hb : Below w.heap.size w w1) => isClass_any (h.keep hb))
 obtain ⟨z, hz⟩ : ∃ z, z = isCls l i := ⟨_, rfl⟩
 rw [← hz] at HJ ⊢
 clear h hz
 cases hr : (d == 1) with
 | true =>
  rw [hr] at HR
  clear hr
  cases hs : isAt l i [91] with
  | true =>
   rw [hs] at HI
   clear hs
   go_enter Tryz.func166, Tryz.ntmps166
   go_wp2_with fail
   refine HR.out.mono ?_
   rintro e w1 ⟨rfl, rfl⟩
   go_wp2_with fail
   refine HI.out.mono ?_
   rintro e w1 ⟨rfl, hb1⟩
   go_wp2_with fail
   refine (HJ.out w1 hb1).mono ?_
   rintro e w2 ⟨rfl, hb⟩
   go_wp2
   go_ret
   exact ⟨rfl, hb1.trans (hb.mono hb1.size)⟩
  | false =>
   rw [hs] at HI
   clear hs
   go_enter Tryz.func166, Tryz.ntmps166
   go_wp2_with fail
   refine HR.out.mono ?_
   rintro e w1 ⟨rfl, rfl⟩
   go_wp2_with fail
   refine HI.out.mono ?_
   rintro e w1 ⟨rfl, hb1⟩
   go_wp2
   go_ret
   exact ⟨rfl, hb1⟩
 | false =>
  rw [hr] at HR
  clear hr
  go_enter Tryz.func166, Tryz.ntmps166
  go_wp2_with fail
  refine HR.out.mono ?_
  rintro e w1 ⟨rfl, rfl⟩
  go_wp2
  go_ret
  exact ⟨rfl, Below.refl _ _⟩
theorem isPartEnd_any (first : Nat) (h : BB w b v l i d fo) : Calls Tryz.prog 150 #[.pointer (some ⟨b, 0, none⟩), .int .i64 first] w fun e w' => e = .returned (.bool ((decide (i ≠ first) && isAt l i [93]) || ((d == 1) && isAt l i [38, 38]))) ∧ Below w.heap.size w w' := by
 obtain ⟨c0, c1, c2, c3, f1⟩ := h.cells
 have HI := hide (is1 h 93)
 have HJ := hide (fun w1 (hb : Below w.heap.size w w1) => isAnd_any (h.keep hb))
 have HA := hide (isAnd_any h)
 obtain ⟨z, hz⟩ : ∃ z, z = ((d == 1) && isAt l i [38, 38]) := ⟨_, rfl⟩
 rw [← hz] at HJ HA ⊢
 clear h hz c0 c2 c3
 by_cases hif : i = first
 ·have e0 : (decide (i ≠ first)) = false := by simp [hif]
  rw [e0]
  have e1 : ((i : Int) != (first : Int)) = false := by simp [hif]
  have e2 : (i : Int) = (first : Int) := by omega
  clear e0 hif
  go_enter Tryz.func150, Tryz.ntmps150
  go_wp2_with fail
  refine HA.out.mono ?_
  rintro e w2 ⟨rfl, hb⟩
  go_wp2
  go_ret
  exact ⟨rfl, hb⟩
 ·have e0 : (decide (i ≠ first)) = true := by simp [hif]
  rw [e0]
  have e1 : ((i : Int) != (first : Int)) = true := by simp; omega
  have e2 : ¬ (i : Int) = (first : Int) := by omega
  clear e0 hif
  cases hs : isAt l i [93] with
  | true =>
   rw [hs] at HI
   clear hs
   go_enter Tryz.func150, Tryz.ntmps150
   go_wp2_with fail
   refine HI.out.mono ?_
   rintro e w1 ⟨rfl, hb1⟩
   go_wp2
   go_ret
   exact ⟨rfl, hb1⟩
  | false =>
   rw [hs] at HI
   clear hs
   go_enter Tryz.func150, Tryz.ntmps150
   go_wp2_with fail
   refine HI.out.mono ?_
   rintro e w1 ⟨rfl, hb1⟩
   go_wp2_with fail
   refine (HJ.out w1 hb1).mono ?_
   rintro e w2 ⟨rfl, hb⟩
   go_wp2
   go_ret
   exact ⟨rfl, hb1.trans (hb.mono hb1.size)⟩
def givesF (e a : Int) : Ending := .panicked [{ v := .iface 34 (.agg #[.int .i64 e, .int .i64 a]), recovered := false }]
theorem giveUp_any (e a : Int) (w : World) : Calls Tryz.prog 128 #[.int .i64 e, .int .i64 a] w fun r w' => r = givesF e a ∧ w = w' := by
 go_enter Tryz.func128, Tryz.ntmps128
 go_wp2
 exact ⟨rfl, rfl, rfl⟩
theorem made_ok (ao : Option Addr) (n c : Nat) (w : World) : Calls Tryz.prog 117 #[.slice ao n c, .int .i64 0] w fun r w' => r = .returned (.slice ao n c) ∧ w = w' := by
 go_enter Tryz.func117, Tryz.ntmps117
 go_wp2
 go_ret
 exact ⟨rfl, rfl⟩
theorem made_no (ao : Option Addr) (n c : Nat) (e : Int) (he : e ≠ 0) (w : World) : Calls Tryz.prog 117 #[.slice ao n c, .int .i64 e] w fun r w' => r = givesF e 0 ∧ w = w' := by
 have HG := hide (giveUp_any e 0 w)
 simp only [givesF] at HG
 have hz : (e != 0) = true := by simpa using he
 clear he
 go_enter Tryz.func117, Tryz.ntmps117
 go_wp2_with fail
 refine HG.out.mono ?_
 rintro r w1 ⟨rfl, rfl⟩
 go_wp2
 exact ⟨rfl, rfl, rfl⟩
end Go.Proofs.YtaccofiegkdlgaaGreatDoor.Br
namespace Go.Proofs.YtaccofiegkdlgaaGreatDoor.Br
set_option maxHeartbeats 4000000
set_option maxRecDepth 100000
open Go.RowKit
open TK (Mv PatV ReadsI add_block u8s byteA)
set_option linter.unusedVariables false
variable {w w' : World} {b : Nat} {v : Value} {l : List Int} {i : Nat} {d : Int} {fo : Bool}
def smallB (c : Int) : Bool := decide (97 ≤ c) && decide (c ≤ 122)
structure LetR (l : List Int) (i k : Nat) : Prop where
 k2 : i + k ≤ l.length
 rest : lettersL l i = (l.drop i).take k ++ (l.drop (i + k)).takeWhile smallB
theorem letR_start (l : List Int) (i : Nat) (h : i ≤ l.length) : LetR l i 0 := ⟨h, rfl⟩
theorem letR_next {l : List Int} {i k : Nat} (h : LetR l i k) (h2 : i + k < l.length) (h3 : smallB l[i + k] = true) : LetR l i (k + 1) := by
 refine ⟨by omega, ?_⟩
 rw [h.rest, List.drop_eq_getElem_cons h2, List.takeWhile_cons, if_pos h3, List.take_add_one]
 have : (l.drop i)[k]? = some l[i + k] := by rw [List.getElem?_drop, List.getElem?_eq_getElem h2]
 rw [this]
 simp [Nat.add_assoc]
theorem letR_end {l : List Int} {i k : Nat} (h : LetR l i k) (he : ¬ ∃ h2 : i + k < l.length, smallB l[i + k] = true) : lettersL l i = (l.drop i).take k := by
 rw [h.rest]
 have : (l.drop (i + k)).takeWhile smallB = [] := by
  by_cases h2 : i + k < l.length
  ·rw [List.drop_eq_getElem_cons h2, List.takeWhile_cons, if_neg (fun h3 => he ⟨h2, h3⟩)]
  ·rw [List.drop_eq_nil_of_le (by omega)]; rfl
 rw [this, List.append_nil]
theorem letR_len {l : List Int} {i k : Nat} (h : LetR l i k) : ((l.drop i).take k).length = k := by
 rw [List.length_take, List.length_drop]; have := h.k2; omega
theorem BB.keepB {B : Nat} (h : BB w b v l i d fo) (hb : Below B w w') (h1 : b < B) (hx : ∀ x c, 0 < l.length → v = .slice (some x) l.length c → x.block < B) : BB w' b v l i d fo := by
 refine ⟨by rw [hb.block b h1]; exact h.box, ?_, h.ne, h.small, h.at', h.pts, h.dia, h.tab.below hb (Nat.lt_of_le_of_lt (Nat.zero_le _) h1), h.pos⟩
 rcases h.pat with ⟨e1, e2⟩ | ⟨x, c, e1, e2, e3⟩
 ·exact .inl ⟨e1, e2⟩
 ·refine .inr ⟨x, c, e1, e2, fun j hj => ?_⟩
  rw [← e3 j hj]
  unfold World.cell?
  rw [hb.block _ (by rw [add_block]; exact hx x c (by omega) e1)]
theorem BB.xlt (h : BB w b v l i d fo) : ∀ x c, 0 < l.length → v = .slice (some x) l.length c → x.block < w.heap.size := by
 intro x c hl e
 obtain ⟨y, c', e', _, hr⟩ := h.pat.some hl
 rw [e'] at e
 cases e
 have := World.block_lt_of_cell? _ _ (hr 0 hl)
 rw [add_block] at this
 exact this
def LetE (b : Nat) (v : Value) (l : List Int) (i : Nat) (d : Int) (fo : Bool) (w : World) (e : Ending) (w' : World) : Prop :=
 e = .returned (.string (byteA (lettersL l i))) ∧ BB w' b v l (i + (lettersL l i).length) d fo ∧ Mv b w w'
theorem letters_any (h : BB w b v l i d fo) :
  Calls Tryz.prog 174 #[.pointer (some ⟨b, 0, none⟩)] w fun e w' => LetE b v l i d fo w e w' := by
 obtain ⟨i0, hi, hz0, hz1, hz2⟩ := TK.info_parts TK.info5
 have hat := h.at'
 have hsm := h.small
 have HP := hide h.pts
 have HR0 := hide h
 have hbw := h.lt
 obtain ⟨vo, vc, hvs⟩ := h.pat.shape
 clear h
 go_enter Tryz.func174, Tryz.ntmps174
 go_wp2
 go_loopw [3] (fun u wr => ∃ k : Nat, LetR l i k ∧ wr.ownsRow w.heap.size 5 1 u k (u8s ((l.drop i).take k)) ∧ BB wr b v l (i + k) d fo ∧ Mv b w wr) (fun u _ => 300 - TK.lenV u)
 case atStart => exact ⟨0, letR_start l i hat, World.ownsRow_nil _ _ _ _, HR0.out, Mv.refl b w⟩
 case round =>
  obtain ⟨k, hn, ho, hr, hv⟩ := hrel
  have HN := hide hn
  have HO := hide ho
  have HV := hide hv
  have hk1 := hn.k2
  have hk3 : k ≤ 300 := by omega
  obtain ⟨ao, ca, rfl⟩ := TK.own_shape ho
  have hob : (Value.slice ao k ca).ownBlock ≠ some b := fun e => by
   have h1 := (ho.lt _ e).1
   omega
  obtain ⟨j, hj⟩ : ∃ j, j = i + k := ⟨_, rfl⟩
  have HJ := hide hj
  rw [← hj] at hr
  have HRr := hide hr
  obtain ⟨c0, c1, c2, c3, f1⟩ := hr.cells
  have HE := hide (fun q => cended_any (hr.drewN q))
  obtain ⟨len, hlen⟩ : ∃ len, len = l.length := ⟨_, rfl⟩
  have HL := hide hlen
  rw [← hlen] at HE hsm
  have hjl : j ≤ len := by rw [hlen]; exact hr.at'
  have hsz : w.heap.size ≤ wr.heap.size := hv.size
  by_cases h2 : j < len
  ·have h2' : j < l.length := by omega
   obtain ⟨x, c, hvx, hcap, hpat'⟩ := hr.pat.some (by omega)
   have hpat := hpat' j h2'
   have hxw : Hid (x.block < w.heap.size) := HR0.out.xlt x c (by omega) hvx
   have hpt := HP.out l[j] (List.getElem_mem _)
   have e1 : decide (len ≤ j) = false := by simp; omega
   rw [e1] at HE
   rw [← hlen] at hvx hcap
   by_cases h3 : smallB l[j] = true
   ·have hnx : Hid (LetR l i (k + 1)) := by
     subst hj
     exact letR_next hn h2' h3
    have hrg : 97 ≤ l[j] ∧ l[j] ≤ 122 := by simpa [smallB] using h3
    have htk : Hid ((l.drop i).take (k + 1) = (l.drop i).take k ++ [l[j]]) := by
     show _ = _
     rw [List.take_add_one, List.getElem?_drop]
     subst hj
     rw [List.getElem?_eq_getElem h2']
     rfl
    obtain ⟨p, hp⟩ : ∃ p, p = l[j] := ⟨_, rfl⟩
    rw [← hp] at hpat htk hrg
    obtain ⟨r0, r1⟩ := hrg
    have wp : IntKind.u8.wrap p = p := by unfold IntKind.wrap; simp [IntKind.bits, IntKind.signed]; omega
    have hne : (Value.slice ao k ca).ownBlock ≠ some x.block := fun e => by
     have h1 := (HO.out.lt _ e).1
     have h2 := hxw.out
     omega
    have hk4 : k < 300 := by omega
    have t1 : decide (97 ≤ p) = true := by simpa using r0
    have t2 : decide (p ≤ 122) = true := by simpa using r1
    have t3 : (j : Int) < (len : Int) := by omega
    have t4 : (0 : Int) ≤ (j : Int) := by omega
    have HXV := hide hvx
    rw [hvx] at c0
    clear e1 hp hn hr hv hlen hpt h2' hj hat ho h3 hpat' hvs hvx
    go_wp2
    go_quiet (first | (go_at_call 47; refine Calls.quiet_of (HE.out _)))
    obtain ⟨q1, rfl⟩ : ∃ q1, q1 = nq := ⟨_, rfl⟩
    go_wp2
    obtain ⟨w3, hw3⟩ : ∃ w3, w3 = wr.drewN q1 := ⟨_, rfl⟩
    have d0 : w3.cell? ⟨b, 0, none⟩ = some (.slice (some x) len c) := by rw [hw3]; exact c0
    have d1 : w3.cell? ⟨b, 1, none⟩ = some (.int .i64 j) := by rw [hw3]; exact c1
    have d2 : w3.cell? (x.add j) = some (.int .i64 p) := by rw [hw3]; exact hpat
    have HO3 : Hid (w3.ownsRow w.heap.size 5 1 (.slice ao k ca) k (u8s ((l.drop i).take k))) := by show World.ownsRow _ _ _ _ _ _ _; rw [hw3]; exact HO.out
    have HR3 : Hid (BB w3 b v l j d fo) := by show BB _ _ _ _ _ _ _; rw [hw3]; exact HRr.out.drewN q1
    have HV3 : Hid (Mv b w w3) := by show Mv _ _ _; rw [hw3]; exact HV.out.drewN q1
    have hsz3 : w.heap.size ≤ w3.heap.size := HV3.out.size
    have hb3 : b < w3.heap.size := by omega
    have hx3 : x.block < w3.heap.size := Nat.lt_of_lt_of_le hxw.out hsz3
    rw [← hw3]
    clear c0 c1 c2 c3 f1 hpat hw3 hsz
    have g1 : (j : Int) < (len : Int) := by omega
    have g0 : (0 : Int) ≤ (j : Int) := by omega
    go_region_held3 (fun w' => w'.cell? ⟨b, 0, none⟩ = some (.slice (some x) len c) ∧ w'.cell? ⟨b, 1, none⟩ = some (.int .i64 j) ∧ w'.cell? (x.add j) = some (.int .i64 p))
     (first | go_keep | (go_split_ands; refine ⟨?_, ?_, ?_⟩ <;> (rw [hgrow.cell_far _ (by simp [add_block]; omega) (by first | (simpa [add_block] using Ne.symm hne) | (simpa using Ne.symm hob))]; assumption)))
     ((refine step_append_lies _ (by rfl) _ _ _ (by rfl) w.heap.size 5 i0 _ 1 1 Tryz.underlying117 hi hz0 hz1 hz2 rfl (by omega) (.slice ao k ca) k (u8s ((l.drop i).take k)) (by rfl) ((HO3.out.alloc _).drew) ⟨w3.heap.size, 0, none⟩ 1 1 [.int .u8 p] (by rfl) (by rfl) (World.news_of_block (cs := #[.int .u8 p]) (t := 5) (fr := (0, 0)) (heap_alloc_new w3 _)) (by simp [Value.oneCell']) (by omega) (by unfold maxLen; omega) (by omega) (by simp; omega) (w3.heap.size + 1) (by simp) ?_; intro gg cap w1 hown1 hgrow hat1 hltt))
    have hbw1 : Hid (Below w.heap.size w3 w1) := ((Below.refl w.heap.size w3).alloc hsz3 _).drew.grown hgrow (by show w.heap.size ≤ (w3.alloc _).heap.size; simp; omega) (fun k' hk => (HO3.out.lt k' hk).1)
    have hr1 := HR3.out.keepB hbw1.out hbw HR0.out.xlt
    have HR1 := hide hr1
    have hv1 : Hid (Mv b w w1) := ⟨hbw1.out.os.trans HV3.out.os, hbw1.out.tape.trans HV3.out.tape, hbw1.out.output.trans HV3.out.output, Nat.le_trans HV3.out.size hbw1.out.size, fun k' h1' h2' => (hbw1.out.block k' h1').trans (HV3.out.block k' h1' h2')⟩
    have HO1 := hide hown1
    have hob1 : Hid ((Value.slice (some ⟨gg, 0, none⟩) (k + 1) cap).ownBlock ≠ some b) := fun e => by
     have h1' := (hown1.lt _ e).1
     omega
    obtain ⟨c0, c1, c2, c3, f1⟩ := hr1.cells
    rw [HXV.out] at c0
    clear hr1 hown1 hgrow hat1 hltt d0 d1 d2
    go_wp2
    go_roundw
    case rel => exact ⟨k + 1, hnx.out, by rw [htk.out, TK.u8s_append]; exact ownsRow_setCell_other HO1.out hob1.out _, by
      have := HR1.out.go (j + 1) (by have := HL.out; omega)
      have e : i + (k + 1) = j + 1 := by have := HJ.out; omega
      rw [e]; simpa using this, by have := hv1.out.setCell 1 (.int .i64 ((j + 1 : Nat) : Int)); simpa using this⟩
    case measure => simp [TK.lenV]; omega
   ·have hE : Hid (lettersL l i = (l.drop i).take k) := by
     subst hj
     exact letR_end hn (fun ⟨_, hh⟩ => h3 hh)
    obtain ⟨p, hp⟩ : ∃ p, p = l[j] := ⟨_, rfl⟩
    have hrg : ¬ 97 ≤ p ∨ (97 ≤ p ∧ ¬ p ≤ 122) := by
     have : ¬ (97 ≤ p ∧ p ≤ 122) := fun hh => h3 (by rw [← hp]; simpa [smallB] using hh)
     omega
    rw [← hp] at hpat
    have hnl : Hid ((lettersL l i).length = k) := by show _ = _; rw [hE.out]; exact letR_len HN.out
    have hcv : ∀ q, (convert 117 9 (.slice ao k ca)).run Tryz.prog (wr.drewN q) = .ok (.string (byteA ((l.drop i).take k))) (wr.drewN q) := fun q => TK.conv_own (w := wr.drewN q) HO.out
    obtain ⟨S, hS⟩ : ∃ S, S = byteA ((l.drop i).take k) := ⟨_, rfl⟩
    rw [← hS] at hcv
    have HSS := hide hS
    have t3 : (j : Int) < (len : Int) := by omega
    have t4 : (0 : Int) ≤ (j : Int) := by omega
    rw [hvx] at c0
    clear hS e1 hp hn hr hv hlen hpt h2' hj hat ho h3 hpat' hvs hvx
    rcases hrg with r0 | ⟨r0, r1⟩
    ·have t1 : decide (97 ≤ p) = false := by simpa using r0
     go_wp2
     go_quiet (first | (go_at_call 47; refine Calls.quiet_of (HE.out _)))
     go_wp2
     go_ret
     exact ⟨(by rw [HSS.out, hE.out]; first | rfl | skip), by
      have := HRr.out.drewN nq
      rw [HJ.out] at this
      rw [hnl.out]; exact this, HV.out.drewN nq⟩
    ·have t1 : decide (97 ≤ p) = true := by simpa using r0
     have t2 : decide (p ≤ 122) = false := by simpa using r1
     go_wp2
     go_quiet (first | (go_at_call 47; refine Calls.quiet_of (HE.out _)))
     go_wp2
     go_ret
     exact ⟨(by rw [HSS.out, hE.out]; first | rfl | skip), by
      have := HRr.out.drewN nq
      rw [HJ.out] at this
      rw [hnl.out]; exact this, HV.out.drewN nq⟩
  ·have hE : Hid (lettersL l i = (l.drop i).take k) := by
    subst hj
    exact letR_end hn (fun ⟨hh, _⟩ => h2 (by omega))
   have e1 : decide (len ≤ j) = true := by simp; omega
   rw [e1] at HE
   rw [hvs] at c0
   clear e1 hn hr hv hlen hj hat ho hvs
   have hnl : Hid ((lettersL l i).length = k) := by show _ = _; rw [hE.out]; exact letR_len HN.out
   have hcv : ∀ q, (convert 117 9 (.slice ao k ca)).run Tryz.prog (wr.drewN q) = .ok (.string (byteA ((l.drop i).take k))) (wr.drewN q) := fun q => TK.conv_own (w := wr.drewN q) HO.out
   obtain ⟨S, hS⟩ : ∃ S, S = byteA ((l.drop i).take k) := ⟨_, rfl⟩
   rw [← hS] at hcv
   have HSS := hide hS
   clear hS
   go_wp2
   go_quiet (first | (go_at_call 47; refine Calls.quiet_of (HE.out _)))
   go_wp2
   go_ret
   exact ⟨(by rw [HSS.out, hE.out]; first | rfl | skip), by
    have := HRr.out.drewN nq
    rw [HJ.out] at this
    rw [hnl.out]; exact this, HV.out.drewN nq⟩
end Go.Proofs.YtaccofiegkdlgaaGreatDoor.Br
