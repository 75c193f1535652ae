import Derived.Test.YtaccofiegkdlgaaGreatDoorKD
import Derived.Laws.BytesArg
import Derived.Deep.RegionHeld3
import Derived.Deep.AppendLies
namespace Go.Proofs.YtaccofiegkdlgaaGreatDoor.TK
set_option maxHeartbeats 4000000
set_option maxRecDepth 100000
open Go.RowKit
set_option linter.unusedVariables false
def u8s (l : List Int) : List Value := l.map (Value.int .u8)
theorem u8s_append (a b : List Int) : u8s (a ++ b) = u8s a ++ u8s b := by simp [u8s]
theorem info5 : (Tryz.prog.info? 5).map (fun i => (i.zero, i.size, i.bytes)) = some (some (.int .u8 0), 1, 1) := by kernel_rfl
theorem info_parts {o : Option TypeInfo} {z : Option Value} {s b : Nat} (h : o.map (fun i => (i.zero, i.size, i.bytes)) = some (z, s, b)) : ∃ i, o = some i ∧ i.zero = z ∧ i.size = s ∧ i.bytes = b := by
 cases o with
 | none => simp at h
 | some i => simp at h; exact ⟨i, rfl, h.1, h.2.1, h.2.2⟩
theorem own_shape {B e : Nat} {w : World} {v : Value} {n k : Nat} {xs : List Value} (h : w.ownsRow B e k v n xs) : ∃ ao cap, v = .slice ao n cap := by
 rcases h.2 with ⟨rfl, h0⟩ | ⟨g, cap, cur, rfl, _⟩
 ·exact ⟨none, 0, by rw [h0]⟩
 ·exact ⟨_, cap, rfl⟩
theorem conv_own {B n : Nat} {v : Value} {w : World} {l : List Int} (hown : w.ownsRow B 5 1 v n (u8s l)) : (convert 117 9 v).run Tryz.prog w = .ok (.string (byteA l)) w := by
 obtain ⟨hl, h⟩ := hown
 rcases h with ⟨rfl, rfl⟩ | ⟨g, cap, cur, rfl, hb, hh, hn, hm, hs, ht⟩
 ·have : l = [] := by simpa [u8s] using hl
  subst this
  exact run_convert_bytes_nil w 117 5 Tryz.underlying117 Tryz.underlying5 0 0 9 Tryz.underlying9
 ·have hl' : l.length = n := by simpa [u8s] using hl
  refine run_convert_bytes_arg w 117 5 Tryz.underlying117 Tryz.underlying5 g 0 n cap l hl' ?_ 9 Tryz.underlying9
  intro i hi
  have := World.ownsRow.cellAt (w := w) (base := B) (e := 5) (size := 1) (g := g) (n := n) (cap := cap) (xs := u8s l) ⟨hl, Or.inr ⟨g, cap, cur, rfl, hb, hh, hn, hm, hs, ht⟩⟩ i (by omega)
  rw [Nat.zero_add, this]
  simp [u8s, List.getD, hl', hi]
theorem RB.keepB {w w' : World} {b B : Nat} {x : Addr} {c : Nat} {l : List Int} {i : Nat} {d : Int} (h : RB w b x c l i d) (hb : Below B w w') (h1 : b < B) (h2 : x.block < B) : RB w' b x c l i d :=
 ⟨by rw [hb.block b h1]; exact h.box, fun j hj => by
  rw [← h.pat j hj]
  unfold World.cell?
  rw [hb.block _ (by rw [add_block]; exact h2)], h.ne, h.cap, h.small, h.at', h.pts, Nat.lt_of_lt_of_le h.xw hb.size⟩
structure NamR (l : List Int) (i k : Nat) : Prop where
 k1 : k ≤ 20
 k2 : i + k ≤ l.length
 rest : nameL l i = (l.drop i).take k ++ takeN (20 - k) (l.drop (i + k)) (k == 0)
theorem namR_start (l : List Int) (i : Nat) (h : i ≤ l.length) : NamR l i 0 := ⟨by omega, h, rfl⟩
theorem namR_next {l : List Int} {i k : Nat} (h : NamR l i k) (h1 : k < 20) (h2 : i + k < l.length) (h3 : nameB l[i + k] (k == 0) = true) : NamR l i (k + 1) := by
 refine ⟨h1, by omega, ?_⟩
 rw [h.rest, List.drop_eq_getElem_cons h2, show 20 - k = (20 - (k + 1)) + 1 from by omega, takeN, if_pos h3, List.take_add_one]
 have : (l.drop i)[k]? = some l[i + k] := by rw [List.getElem?_drop, List.getElem?_eq_getElem h2]
 rw [this]
 have e0 : ((k + 1 == 0) = false) := by simp
 rw [e0]
 simp [Nat.add_assoc]
theorem namR_end {l : List Int} {i k : Nat} (h : NamR l i k) (he : ¬ (k < 20 ∧ ∃ h2 : i + k < l.length, nameB l[i + k] (k == 0) = true)) : nameL l i = (l.drop i).take k := by
 rw [h.rest]
 have : takeN (20 - k) (l.drop (i + k)) (k == 0) = [] := by
  by_cases h1 : k < 20
  ·rw [show 20 - k = (20 - (k + 1)) + 1 from by omega]
   by_cases h2 : i + k < l.length
   ·rw [List.drop_eq_getElem_cons h2, takeN, if_neg (fun h3 => he ⟨h1, h2, h3⟩)]
   ·rw [List.drop_eq_nil_of_le (by omega), takeN]
  ·rw [show 20 - k = 0 from by omega, takeN]
 rw [this, List.append_nil]
theorem namR_len {l : List Int} {i k : Nat} (h : NamR l i k) : ((l.drop i).take k).length = k := by
 rw [List.length_take, List.length_drop]; have := h.k2; omega
theorem nameB_rng {p : Int} {f : Bool} (h : nameB p f = true) : 48 ≤ p ∧ p ≤ 122 := by
 unfold nameB letB digV at h
 simp at h
 rcases h with (h | h) | h
 ·omega
 ·omega
 ·obtain ⟨_, h⟩ := h
  split at h
  ·omega
  ·split at h
   ·omega
   ·split at h
    ·omega
    ·simp at h
theorem name_len (l : List Int) (i : Nat) (h : i ≤ l.length) : i + (nameL l i).length ≤ l.length ∧ (nameL l i).length ≤ 20 := by
 have key : ∀ f k, NamR l i k → 20 - k ≤ f → i + (nameL l i).length ≤ l.length ∧ (nameL l i).length ≤ 20 := by
  intro f
  induction f with
  | zero =>
   intro k hr hf
   rw [namR_end hr (fun hh => by omega), namR_len hr]
   exact ⟨hr.k2, hr.k1⟩
  | succ f ih =>
   intro k hr hf
   by_cases hc : k < 20 ∧ ∃ h2 : i + k < l.length, nameB l[i + k] (k == 0) = true
   ·obtain ⟨h1, h2, h3⟩ := hc
    exact ih _ (namR_next hr h1 h2 h3) (by omega)
   ·rw [namR_end hr hc, namR_len hr]
    exact ⟨hr.k2, hr.k1⟩
 exact key 20 0 (namR_start l i h) (by omega)
def lenV : Value → Nat | .slice _ n _ => n | _ => 0
def NamC (b : Nat) (x : Addr) (c : Nat) (l : List Int) (i : Nat) (d : Int) (w : World) (e : Ending) (w' : World) : Prop :=
 e = .returned (.string (byteA (nameL l i))) ∧ RB w' b x c l (i + (nameL l i).length) d ∧ Mv b w w'
def NamE (b : Nat) (x : Addr) (c : Nat) (l : List Int) (i : Nat) (d : Int) (w : World) (e : Ending) (w' : World) : Prop :=
 (nameL l i = [] ∧ e = gives 1 ∧ Mv b w w') ∨ (nameL l i ≠ [] ∧ e = .returned (.string (byteA (nameL l i))) ∧ RB w' b x c l (i + (nameL l i).length) d ∧ Mv b w w')
theorem cname_any {b : Nat} {x : Addr} {c : Nat} {l : List Int} {i : Nat} {d : Int} (w : World) (h : RB w b x c l i d) :
  Calls Tryz.prog 85 #[.pointer (some ⟨b, 0, none⟩)] w fun e w' => NamC b x c l i d w e w' := by
 obtain ⟨i0, hi, hz0, hz1, hz2⟩ := info_parts info5
 have hat := h.at'
 have hsm := h.small
 have HP := hide h.pts
 have HR0 := hide h
 have hbw := h.lt
 clear h
 go_enter Tryz.func85, Tryz.ntmps85
 go_wp2
 go_loopw [3] (fun v wr => ∃ k : Nat, NamR l i k ∧ wr.ownsRow w.heap.size 5 1 v k (u8s ((l.drop i).take k)) ∧ RB wr b x c l (i + k) d ∧ Mv b w wr) (fun v _ => 20 - lenV v)
 case atStart => exact ⟨0, namR_start l i hat, World.ownsRow_nil _ _ _ _, HR0.out, Mv.refl b w⟩
 case round =>
  obtain ⟨k, hn, ho, hr, hv⟩ := hrel
  have HN := hide hn
  have HO := hide ho
  have HV := hide hv
  have hk1 := hn.k1
  obtain ⟨ao, ca, rfl⟩ := own_shape ho
  have hob : (Value.slice ao k ca).ownBlock ≠ some b := fun e => by
   have h1 := (ho.lt _ e).1
   omega
  obtain ⟨j, hj⟩ : ∃ j, j = i + k := ⟨_, rfl⟩
  have HJ := hide hj
  rw [← hj] at hr
  have HRr := hide hr
  obtain ⟨c0, c1, c2, f1⟩ := hr.cells
  have HE := hide (fun q => ended_any (wr.drewN q) (hr.drewN q))
  obtain ⟨len, hlen⟩ : ∃ len, len = l.length := ⟨_, rfl⟩
  have HL := hide hlen
  rw [← hlen] at HE c0 hsm
  have hjl : j ≤ len := by rw [hlen]; exact hr.at'
  have hsz : w.heap.size ≤ wr.heap.size := hv.size
  by_cases h1 : k < 20
  ·have t1 : (decide ((k : Int) < 20)) = true := by simp; omega
   by_cases h2 : j < len
   ·have h2' : j < l.length := by omega
    have hpat := hr.pat j h2'
    have hxw : Hid (x.block < w.heap.size) := by
     have := HR0.out.pat j h2'
     have := World.block_lt_of_cell? _ _ this
     rw [add_block] at this
     exact this
    have hpt := HP.out l[j] (List.getElem_mem _)
    have e1 : decide (len ≤ j) = false := by simp; omega
    rw [e1] at HE
    have HG := hide (fun w' => mayName_any l[j] (decide ((k : Int) = 0)) w' hpt.1 hpt.2)
    have hk0 : (k == 0) = decide ((k : Int) = 0) := by rw [Bool.eq_iff_iff]; simp
    by_cases h3 : nameB l[j] (decide ((k : Int) = 0)) = true
    ·have hnx : Hid (NamR l i (k + 1)) := by
      subst hj
      exact namR_next hn h1 h2' (by rw [hk0]; exact h3)
     have hrg := nameB_rng h3
     have htk : Hid ((l.drop i).take (k + 1) = (l.drop i).take k ++ [l[j]]) := by
      show _ = _
      rw [List.take_add_one, List.getElem?_drop]
      subst hj
      rw [List.getElem?_eq_getElem h2']
      rfl
     rw [h3] at HG
     obtain ⟨p, hp⟩ : ∃ p, p = l[j] := ⟨_, rfl⟩
     rw [← hp] at hpat HG htk hrg
     obtain ⟨r0, r1⟩ := hrg
     have wp : IntKind.u8.wrap p = p := by unfold IntKind.wrap; simp [IntKind.bits, IntKind.signed]; omega
     have hne : (Value.slice ao k ca).ownBlock ≠ some x.block := fun e => by
      have h1 := (HO.out.lt _ e).1
      have h2 := hxw.out
      omega
     clear e1 hp hn hr hv hlen hpt h2' hj hat ho h3 hk0
     go_wp2
     go_quiet (first | (go_at_call 47; refine Calls.quiet_of (HE.out _)) | (go_at_call 99; refine Calls.quiet_of_same (HG.out _)))
     obtain ⟨q1, rfl⟩ : ∃ q1, q1 = nq := ⟨_, rfl⟩
     go_wp2
     obtain ⟨w3, hw3⟩ : ∃ w3, w3 = wr.drewN q1 := ⟨_, rfl⟩
     have d0 : w3.cell? ⟨b, 0, none⟩ = some (.slice (some x) len c) := by rw [hw3]; exact c0
     have d1 : w3.cell? ⟨b, 1, none⟩ = some (.int .i64 j) := by rw [hw3]; exact c1
     have d2 : w3.cell? (x.add j) = some (.int .i64 p) := by rw [hw3]; exact hpat
     have HO3 : Hid (w3.ownsRow w.heap.size 5 1 (.slice ao k ca) k (u8s ((l.drop i).take k))) := by show World.ownsRow _ _ _ _ _ _ _; rw [hw3]; exact HO.out
     have HR3 : Hid (RB w3 b x c l j d) := by show RB _ _ _ _ _ _ _; rw [hw3]; exact HRr.out.drewN q1
     have HV3 : Hid (Mv b w w3) := by show Mv _ _ _; rw [hw3]; exact HV.out.drewN q1
     have hsz3 : w.heap.size ≤ w3.heap.size := HV3.out.size
     have hb3 : b < w3.heap.size := by omega
     have hx3 : x.block < w3.heap.size := Nat.lt_of_lt_of_le hxw.out hsz3
     rw [← hw3]
     clear c0 c1 c2 f1 hpat hw3 hsz
     have g1 : (j : Int) < (len : Int) := by omega
     have g0 : (0 : Int) ≤ (j : Int) := by omega
     go_region_held3 (fun w' => w'.cell? ⟨b, 0, none⟩ = some (.slice (some x) len c) ∧ w'.cell? ⟨b, 1, none⟩ = some (.int .i64 j) ∧ w'.cell? (x.add j) = some (.int .i64 p))
      (first | go_keep | (go_split_ands; refine ⟨?_, ?_, ?_⟩ <;> (rw [hgrow.cell_far _ (by simp [add_block]; omega) (by first | (simpa [add_block] using Ne.symm hne) | (simpa using Ne.symm hob))]; assumption)))
      ((refine step_append_lies _ (by rfl) _ _ _ (by rfl) w.heap.size 5 i0 _ 1 1 Tryz.underlying117 hi hz0 hz1 hz2 rfl (by omega) (.slice ao k ca) k (u8s ((l.drop i).take k)) (by rfl) ((HO3.out.alloc _).drew) ⟨w3.heap.size, 0, none⟩ 1 1 [.int .u8 p] (by rfl) (by rfl) (World.news_of_block (cs := #[.int .u8 p]) (t := 5) (fr := (0, 0)) (heap_alloc_new w3 _)) (by simp [Value.oneCell']) (by omega) (by unfold maxLen; omega) (by omega) (by simp; omega) (w3.heap.size + 1) (by simp) ?_; intro gg cap w1 hown1 hgrow hat1 hltt))
     have hbw1 : Hid (Below w.heap.size w3 w1) := ((Below.refl w.heap.size w3).alloc hsz3 _).drew.grown hgrow (by show w.heap.size ≤ (w3.alloc _).heap.size; simp; omega) (fun k' hk => (HO3.out.lt k' hk).1)
     have hr1 := HR3.out.keepB hbw1.out hbw hxw.out
     have HR1 := hide hr1
     have hv1 : Hid (Mv b w w1) := ⟨hbw1.out.os.trans HV3.out.os, hbw1.out.tape.trans HV3.out.tape, hbw1.out.output.trans HV3.out.output, Nat.le_trans HV3.out.size hbw1.out.size, fun k' h1' h2' => (hbw1.out.block k' h1').trans (HV3.out.block k' h1' h2')⟩
     have HO1 := hide hown1
     have hob1 : Hid ((Value.slice (some ⟨gg, 0, none⟩) (k + 1) cap).ownBlock ≠ some b) := fun e => by
      have h1' := (hown1.lt _ e).1
      omega
     obtain ⟨c0, c1, c2, f1⟩ := hr1.cells
     rw [← HL.out] at c0
     clear hr1 hown1 hgrow hat1 hltt d0 d1 d2
     go_wp2
     go_roundw
     case rel => exact ⟨k + 1, hnx.out, by rw [htk.out, u8s_append]; exact ownsRow_setCell_other HO1.out hob1.out _, by
       have := HR1.out.go (j + 1) (by have := HL.out; omega)
       have e : i + (k + 1) = j + 1 := by have := HJ.out; omega
       rw [e]; simpa using this, by have := hv1.out.setCell 1 (.int .i64 ((j + 1 : Nat) : Int)); simpa using this⟩
     case measure => simp [lenV]; omega
    ·have h3' : nameB l[j] (decide ((k : Int) = 0)) = false := by simpa using h3
     have hE : Hid (nameL l i = (l.drop i).take k) := by
      subst hj
      exact namR_end hn (fun ⟨_, _, hh⟩ => h3 (by rw [← hk0]; exact hh))
     rw [h3'] at HG
     obtain ⟨p, hp⟩ : ∃ p, p = l[j] := ⟨_, rfl⟩
     rw [← hp] at hpat HG
     clear e1 hp hn hr hv hlen hpt h2' hj hat ho h3 h3' hk0
     have hnl : Hid ((nameL l i).length = k) := by show _ = _; rw [hE.out]; exact namR_len HN.out
     have HO4 := hide (conv_own (w := wr) HO.out)
     have hcv : ∀ q, (convert 117 9 (.slice ao k ca)).run Tryz.prog (wr.drewN q) = .ok (.string (byteA ((l.drop i).take k))) (wr.drewN q) := fun q => conv_own (w := wr.drewN q) HO.out
     obtain ⟨S, hS⟩ : ∃ S, S = byteA ((l.drop i).take k) := ⟨_, rfl⟩
     rw [← hS] at hcv
     have HSS := hide hS
     clear hS
     go_wp2
     go_quiet (first | (go_at_call 47; refine Calls.quiet_of (HE.out _)) | (go_at_call 99; refine Calls.quiet_of_same (HG.out _)))
     go_wp2
     go_ret
     exact ⟨(by rw [HSS.out, hE.out]; first | rfl | skip), by
      have := HRr.out.drewN nq
      rw [HJ.out] at this
      rw [hnl.out]; exact this, HV.out.drewN nq⟩
   ·have hE : Hid (nameL l i = (l.drop i).take k) := by
     subst hj
     exact namR_end hn (fun ⟨_, hh, _⟩ => h2 (by omega))
    have e1 : decide (len ≤ j) = true := by simp; omega
    rw [e1] at HE
    clear e1 hn hr hv hlen hj hat ho
    have hnl : Hid ((nameL l i).length = k) := by show _ = _; rw [hE.out]; exact namR_len HN.out
    have HO4 := hide (conv_own (w := wr) HO.out)
    have hcv : ∀ q, (convert 117 9 (.slice ao k ca)).run Tryz.prog (wr.drewN q) = .ok (.string (byteA ((l.drop i).take k))) (wr.drewN q) := fun q => conv_own (w := wr.drewN q) HO.out
    obtain ⟨S, hS⟩ : ∃ S, S = byteA ((l.drop i).take k) := ⟨_, rfl⟩
    rw [← hS] at hcv
    have HSS := hide hS
    clear hS
    go_wp2
    go_quiet (first | (go_at_call 47; refine Calls.quiet_of (HE.out _)))
    go_wp2
    go_ret
    exact ⟨(by rw [HSS.out, hE.out]; first | rfl | skip), by
     have := HRr.out.drewN nq
     rw [HJ.out] at this
     rw [hnl.out]; exact this, HV.out.drewN nq⟩
  ·have t1 : (decide ((k : Int) < 20)) = false := by simp; omega
   have hE : Hid (nameL l i = (l.drop i).take k) := namR_end hn (fun ⟨hh, _⟩ => h1 hh)
   clear hn hr hv hlen hj hat ho
   have hnl : Hid ((nameL l i).length = k) := by show _ = _; rw [hE.out]; exact namR_len HN.out
   have HO4 := hide (conv_own (w := wr) HO.out)
   have hcv : ∀ q, (convert 117 9 (.slice ao k ca)).run Tryz.prog (wr.drewN q) = .ok (.string (byteA ((l.drop i).take k))) (wr.drewN q) := fun q => conv_own (w := wr.drewN q) HO.out
   obtain ⟨S, hS⟩ : ∃ S, S = byteA ((l.drop i).take k) := ⟨_, rfl⟩
   rw [← hS] at hcv
   have HSS := hide hS
   clear hS
   go_wp2
   go_quiet (fail)
   go_wp2
   go_ret
   exact ⟨(by rw [HSS.out, hE.out]; first | rfl | skip), by
    have := HRr.out.drewN nq
    rw [HJ.out] at this
    rw [hnl.out]; exact this, HV.out.drewN nq⟩
theorem byteA_isE (l : List Int) : (byteA l).toList = l.map (fun p => UInt8.ofNat p.toNat) := by
 rw [ByteArray.toList_eq]
 rfl
theorem name_any {b : Nat} {x : Addr} {c : Nat} {l : List Int} {i : Nat} {d : Int} (w : World) (h : RB w b x c l i d) :
  Calls Tryz.prog 77 #[.pointer (some ⟨b, 0, none⟩)] w fun e w' => NamE b x c l i d w e w' := by
 have hC := cname_any w h
 unfold NamC at hC
 clear h
 obtain ⟨S, hS⟩ : ∃ S, S = byteA (nameL l i) := ⟨_, rfl⟩
 rw [← hS] at hC
 have HC := hide hC
 clear hC
 have HSS := hide hS
 by_cases hn : nameL l i = []
 ·have h1 : S.toList = [] := by rw [hS, hn, byteA_isE]; rfl
  have h2 : S.toList.isEmpty = true := by rw [h1]; rfl
  have HN := hide hn
  clear hS hn
  go_enter Tryz.func77, Tryz.ntmps77
  go_wp2_with fail
  refine HC.out.mono ?_
  rintro e w1 ⟨rfl, hr1, hv1⟩
  have HV := hide hv1
  clear hr1 hv1 HC
  go_wp2
  exact ⟨rfl, .inl ⟨HN.out, rfl, HV.out⟩⟩
 ·have h1 : ¬ S.toList = [] := by rw [hS, byteA_isE]; simpa using hn
  have h2 : S.toList.isEmpty = false := by
   cases hh : S.toList with
   | nil => exact absurd hh h1
   | cons _ _ => rfl
  have HN := hide hn
  clear hS hn
  go_enter Tryz.func77, Tryz.ntmps77
  go_wp2_with fail
  refine HC.out.mono ?_
  rintro e w1 ⟨rfl, hr1, hv1⟩
  have HV := hide hv1
  have HR := hide hr1
  clear hr1 hv1 HC
  go_wp2
  go_ret
  exact .inr ⟨HN.out, by rw [HSS.out]; rfl, HR.out, HV.out⟩
end Go.Proofs.YtaccofiegkdlgaaGreatDoor.TK
namespace Go.Proofs.YtaccofiegkdlgaaGreatDoor.TK
set_option maxHeartbeats 4000000
open Go.RowKit
set_option linter.unusedVariables false
def tokV (t : Tok) : Value := .agg #[.int .i64 t.kind, .int .i64 t.num, .string t.text, .bool t.neg, .int .i64 t.least, .int .i64 t.most, .int .i64 t.way, .int .i64 t.fold]
def tokO (t : Tok) : Obj := .cells #[.int .i64 t.kind, .int .i64 t.num, .string t.text, .bool t.neg, .int .i64 t.least, .int .i64 t.most, .int .i64 t.way, .int .i64 t.fold] 52 (0, 0)
theorem tok_cells {w : World} {k : Nat} {t : Tok} (h : w.heap[k]? = some (tokO t)) :
  w.cell? ⟨k, 0, none⟩ = some (.int .i64 t.kind) ∧ w.cell? ⟨k, 1, none⟩ = some (.int .i64 t.num) ∧ w.cell? ⟨k, 2, none⟩ = some (.string t.text) ∧ w.cell? ⟨k, 3, none⟩ = some (.bool t.neg) ∧ w.cell? ⟨k, 4, none⟩ = some (.int .i64 t.least) ∧ w.cell? ⟨k, 5, none⟩ = some (.int .i64 t.most) ∧ w.cell? ⟨k, 6, none⟩ = some (.int .i64 t.way) ∧ w.cell? ⟨k, 7, none⟩ = some (.int .i64 t.fold) := by
 unfold tokO at h
 refine ⟨?_, ?_, ?_, ?_, ?_, ?_, ?_, ?_⟩ <;> simp [World.cell?, h]
theorem tok_free {w : World} {k : Nat} {t : Tok} (h : w.heap[k]? = some (tokO t)) (o : Nat) : w.frozen? ⟨k, o, none⟩ = false := by
 unfold tokO at h
 simp [World.frozen?, h]
theorem point_any (p : Int) (w : World) : Calls Tryz.prog 43 #[.int .i64 p] w fun e w' => e = .returned (tokV (pointT p)) ∧ Below w.heap.size w w' := by
 go_enter Tryz.func43, Tryz.ntmps43
 go_wp2
 exact bodyPost_ret (v := tokV (pointT p)) (by simp [results, Tryz.results43, go_sem, tokV, pointT]) rfl ⟨rfl, (Below.refl _ _).alloc (Nat.le_refl _) _⟩
theorem look_any (p : Int) (w : World) : Calls Tryz.prog 41 #[.int .i64 p] w fun e w' => e = .returned (tokV (lookT p)) ∧ Below w.heap.size w w' := by
 go_enter Tryz.func41, Tryz.ntmps41
 go_wp2
 exact bodyPost_ret (v := tokV (lookT p)) (by simp [results, Tryz.results41, go_sem, tokV, lookT]) rfl ⟨rfl, (Below.refl _ _).alloc (Nat.le_refl _) _⟩
theorem again_any (p : Int) (w : World) : Calls Tryz.prog 64 #[.int .i64 p] w fun e w' => e = .returned (tokV (againT p)) ∧ Below w.heap.size w w' := by
 go_enter Tryz.func64, Tryz.ntmps64
 go_wp2
 exact bodyPost_ret (v := tokV (againT p)) (by simp [results, Tryz.results64, go_sem, tokV, againT]) rfl ⟨rfl, (Below.refl _ _).alloc (Nat.le_refl _) _⟩
theorem open_any (p : Int) (w : World) : Calls Tryz.prog 66 #[.int .i64 p] w fun e w' => e = .returned (tokV (openT p)) ∧ Below w.heap.size w w' := by
 go_enter Tryz.func66, Tryz.ntmps66
 go_wp2
 exact bodyPost_ret (v := tokV (openT p)) (by simp [results, Tryz.results66, go_sem, tokV, openT]) rfl ⟨rfl, (Below.refl _ _).alloc (Nat.le_refl _) _⟩
theorem Mv.blockAt {b : Nat} {w w1 : World} (h : Mv b w w1) {k : Nat} {o : Obj} (hk : w.heap[k]? = some o) (hb : k ≠ b) : w1.heap[k]? = some o := by rw [h.block k (lt_of_block hk) hb]; exact hk
theorem RB.tok {w : World} {b : Nat} {x : Addr} {c : Nat} {l : List Int} {i : Nat} {d : Int} (h : RB w b x c l i d) {k : Nat} (hk : k ≠ b) (hx : k ≠ x.block) (v0 v1 v2 v3 v4 v5 v6 v7 : Value) :
  RB ((((((((w.setCell ⟨k, 0, none⟩ v0).setCell ⟨k, 1, none⟩ v1).setCell ⟨k, 2, none⟩ v2).setCell ⟨k, 3, none⟩ v3).setCell ⟨k, 4, none⟩ v4).setCell ⟨k, 5, none⟩ v5).setCell ⟨k, 6, none⟩ v6).setCell ⟨k, 7, none⟩ v7) b x c l i d :=
 (((((((h.other hk hx v0).other hk hx v1).other hk hx v2).other hk hx v3).other hk hx v4).other hk hx v5).other hk hx v6).other hk hx v7
theorem Mv.tok {b : Nat} {w w1 : World} (h : Mv b w w1) {k : Nat} (hk : w.heap.size ≤ k) (v0 v1 v2 v3 v4 v5 v6 v7 : Value) :
  Mv b w ((((((((w1.setCell ⟨k, 0, none⟩ v0).setCell ⟨k, 1, none⟩ v1).setCell ⟨k, 2, none⟩ v2).setCell ⟨k, 3, none⟩ v3).setCell ⟨k, 4, none⟩ v4).setCell ⟨k, 5, none⟩ v5).setCell ⟨k, 6, none⟩ v6).setCell ⟨k, 7, none⟩ v7) :=
 (((((((h.setNew (p := ⟨k, 0, none⟩) hk v0).setNew (p := ⟨k, 1, none⟩) hk v1).setNew (p := ⟨k, 2, none⟩) hk v2).setNew (p := ⟨k, 3, none⟩) hk v3).setNew (p := ⟨k, 4, none⟩) hk v4).setNew (p := ⟨k, 5, none⟩) hk v5).setNew (p := ⟨k, 6, none⟩) hk v6).setNew (p := ⟨k, 7, none⟩) hk v7
theorem at_old {w : World} {k : Nat} {o o' : Obj} (h : w.heap[k]? = some o) : (w.alloc o').heap[k]? = some o := by rw [Below.heap_alloc _ _ _ (lt_of_block h)]; exact h
theorem at_new' (w : World) (o : Obj) {k : Nat} (h : k = w.heap.size) : (w.alloc o).heap[k]? = some o := by rw [h]; exact heap_alloc_new w o
theorem at_new (w : World) (o : Obj) : (w.alloc o).heap[w.heap.size]? = some o := heap_alloc_new w o
theorem skip_yes {b : Nat} {x : Addr} {c : Nat} {l : List Int} {i : Nat} {d : Int} (w : World) (h : RB w b x c l i d) (p : Int) (hs : says l i [p] = true) :
  Calls Tryz.prog 50 #[.pointer (some ⟨b, 0, none⟩), .slice (some ⟨w.heap.size, 0, none⟩) 1 1] (w.alloc (.cells #[.int .i64 p] 3)) fun e w' => e = .returned (.bool true) ∧ RB w' b x c l (i + 1) d ∧ Mv b w w' := by
 have := skip_any _ 1 [p] _ (h.alloc (.cells #[.int .i64 p] 3)) (readsI_one w p 3) (by simp) (by simp)
 rw [hs, if_pos rfl] at this
 exact this.mono fun e w' ⟨h1, h2, h3⟩ => ⟨h1, h2, ((Mv.refl b w).alloc _).trans h3⟩
theorem skip_no {b : Nat} {x : Addr} {c : Nat} {l : List Int} {i : Nat} {d : Int} (w : World) (h : RB w b x c l i d) (p : Int) (hs : says l i [p] = false) :
  Calls Tryz.prog 50 #[.pointer (some ⟨b, 0, none⟩), .slice (some ⟨w.heap.size, 0, none⟩) 1 1] (w.alloc (.cells #[.int .i64 p] 3)) fun e w' => e = .returned (.bool false) ∧ RB w' b x c l i d ∧ Mv b w w' := by
 have := skip_any _ 1 [p] _ (h.alloc (.cells #[.int .i64 p] 3)) (readsI_one w p 3) (by simp) (by simp)
 rw [hs, if_neg (by simp)] at this
 exact this.mono fun e w' ⟨h1, h2, h3⟩ => ⟨h1, h2, ((Mv.refl b w).alloc _).trans h3⟩
theorem repeat_any {b : Nat} {x : Addr} {c : Nat} {l : List Int} {i : Nat} {d : Int} (least most : Int) (w : World) (h : RB w b x c l i d) :
  Calls Tryz.prog 42 #[.pointer (some ⟨b, 0, none⟩), .int .i64 least, .int .i64 most] w fun e w' => e = .returned (tokV (repT d l i least most).1) ∧ RB w' b x c l (repT d l i least most).2 d ∧ Mv b w w' := by
 have HR := hide h
 obtain ⟨c0, c1, c2, f1⟩ := h.cells
 have hlt := h.lt
 have hxw := h.xw
 by_cases hd : d = 1
 ·subst hd
  have h2 := (h.alloc (tokO {})).alloc (tokO { kind := 6, least := least, most := most, way := 1 })
  cases hs : says l i [63] with
  | true =>
   have HS := hide (skip_yes _ h2 63 hs)
   have hE : Hid (repT 1 l i least most = ({ kind := 6, least := least, most := most, way := 2 }, i + 1)) := by show _ = _; unfold repT; rw [if_pos rfl, if_pos hs]
   clear hs h2 h
   go_enter Tryz.func42, Tryz.ntmps42
   go_wp2_with fail
   simp only [tokO, World.size_alloc] at HS
   refine HS.out.mono ?_
   rintro e w1 ⟨rfl, hr, hm⟩
   have hN : w1.heap[w.heap.size]? = some (tokO {}) := hm.blockAt (at_old (at_new _ _)) (by omega)
   have hN1 : w1.heap[w.heap.size + 1]? = some (tokO { kind := 6, least := least, most := most, way := 1 }) := hm.blockAt (at_new' (w.alloc (tokO {})) _ (by simp)) (by omega)
   obtain ⟨n0, n1, n2, n3, n4, n5, n6, n7⟩ := tok_cells hN1
   obtain ⟨m0, m1, m2, m3, m4, m5, m6, m7⟩ := tok_cells hN
   have fr1 := tok_free hN1
   have fr0 := tok_free hN
   have HRR := hide hr
   have HMM := hide hm
   clear hr hm c0 c1 c2 f1 HS
   go_wp2
   rw [hE.out]
   refine bodyPost_ret (v := tokV { kind := 6, least := least, most := most, way := 2 }) (by simp [results, Tryz.results42, go_sem, tokV, m0, m1, m2, m3, m4, m5, m6, m7]) rfl ⟨rfl, ?_, ?_⟩
   ·exact (HRR.out.other (by simp; omega) (by simp; omega) _).tok (by omega) (by omega) _ _ _ _ _ _ _ _
   ·exact Mv.tok (Mv.setNew ((((Mv.refl b w).alloc _).alloc _).trans HMM.out) (by simp) _) (Nat.le_refl _) _ _ _ _ _ _ _ _
  | false =>
   have HS := hide (skip_no _ h2 63 hs)
   cases hs2 : says l i [43] with
   | true =>
    have hE : Hid (repT 1 l i least most = ({ kind := 6, least := least, most := most, way := 3 }, i + 1)) := by show _ = _; unfold repT; rw [if_pos rfl, if_neg (by rw [hs]; simp), if_pos hs2]
    have HS2 : Hid (∀ w1, RB w1 b x c l i 1 → _) := fun w1 h1 => skip_yes w1 h1 43 hs2
    clear hs hs2 h2 h
    go_enter Tryz.func42, Tryz.ntmps42
    go_wp2_with fail
    simp only [tokO, World.size_alloc] at HS
    refine HS.out.mono ?_
    rintro e w1 ⟨rfl, hr, hm⟩
    go_wp2_with fail
    refine (HS2.out w1 hr).mono ?_
    rintro e w2 ⟨rfl, hr2, hm2⟩
    have hm3 := hm.trans hm2
    have hN : w2.heap[w.heap.size]? = some (tokO {}) := hm3.blockAt (at_old (at_new _ _)) (by omega)
    have hN1 : w2.heap[w.heap.size + 1]? = some (tokO { kind := 6, least := least, most := most, way := 1 }) := hm3.blockAt (at_new' (w.alloc (tokO {})) _ (by simp)) (by omega)
    obtain ⟨n0, n1, n2, n3, n4, n5, n6, n7⟩ := tok_cells hN1
    obtain ⟨m0, m1, m2, m3, m4, m5, m6, m7⟩ := tok_cells hN
    have fr1 := tok_free hN1
    have fr0 := tok_free hN
    have HRR := hide hr2
    have HMM := hide hm3
    clear hr hm hr2 hm2 hm3 c0 c1 c2 f1 HS HS2
    go_wp2
    rw [hE.out]
    refine bodyPost_ret (v := tokV { kind := 6, least := least, most := most, way := 3 }) (by simp [results, Tryz.results42, go_sem, tokV, m0, m1, m2, m3, m4, m5, m6, m7]) rfl ⟨rfl, ?_, ?_⟩
    ·exact (HRR.out.other (by simp; omega) (by simp; omega) _).tok (by omega) (by omega) _ _ _ _ _ _ _ _
    ·exact Mv.tok (Mv.setNew ((((Mv.refl b w).alloc _).alloc _).trans HMM.out) (by simp) _) (Nat.le_refl _) _ _ _ _ _ _ _ _
   | false =>
    have hE : Hid (repT 1 l i least most = ({ kind := 6, least := least, most := most, way := 1 }, i)) := by show _ = _; unfold repT; rw [if_pos rfl, if_neg (by rw [hs]; simp), if_neg (by rw [hs2]; simp)]
    have HS2 : Hid (∀ w1, RB w1 b x c l i 1 → _) := fun w1 h1 => skip_no w1 h1 43 hs2
    clear hs hs2 h2 h
    go_enter Tryz.func42, Tryz.ntmps42
    go_wp2_with fail
    simp only [tokO, World.size_alloc] at HS
    refine HS.out.mono ?_
    rintro e w1 ⟨rfl, hr, hm⟩
    go_wp2_with fail
    refine (HS2.out w1 hr).mono ?_
    rintro e w2 ⟨rfl, hr2, hm2⟩
    have hm3 := hm.trans hm2
    have hN : w2.heap[w.heap.size]? = some (tokO {}) := hm3.blockAt (at_old (at_new _ _)) (by omega)
    have hN1 : w2.heap[w.heap.size + 1]? = some (tokO { kind := 6, least := least, most := most, way := 1 }) := hm3.blockAt (at_new' (w.alloc (tokO {})) _ (by simp)) (by omega)
    obtain ⟨n0, n1, n2, n3, n4, n5, n6, n7⟩ := tok_cells hN1
    obtain ⟨m0, m1, m2, m3, m4, m5, m6, m7⟩ := tok_cells hN
    have fr0 := tok_free hN
    have HRR := hide hr2
    have HMM := hide hm3
    clear hr hm hr2 hm2 hm3 c0 c1 c2 f1 HS HS2
    go_wp2
    rw [hE.out]
    refine bodyPost_ret (v := tokV { kind := 6, least := least, most := most, way := 1 }) (by simp [results, Tryz.results42, go_sem, tokV, m0, m1, m2, m3, m4, m5, m6, m7]) rfl ⟨rfl, ?_, ?_⟩
    ·exact HRR.out.tok (by omega) (by omega) _ _ _ _ _ _ _ _
    ·exact Mv.tok ((((Mv.refl b w).alloc _).alloc _).trans HMM.out) (Nat.le_refl _) _ _ _ _ _ _ _ _
 ·have hE : Hid (repT d l i least most = ({ kind := 6, least := least, most := most, way := 1 }, i)) := by show _ = _; unfold repT; rw [if_neg hd]
  have hdb : (d == 1) = false := by simpa using hd
  clear h
  go_enter Tryz.func42, Tryz.ntmps42
  go_wp2
  rw [hE.out]
  exact bodyPost_ret (v := tokV { kind := 6, least := least, most := most, way := 1 }) (by simp [results, Tryz.results42, go_sem, tokV]) rfl ⟨rfl, (HR.out.alloc _).alloc _, ((Mv.refl b w).alloc _).alloc _⟩
end Go.Proofs.YtaccofiegkdlgaaGreatDoor.TK
namespace Go.Proofs.YtaccofiegkdlgaaGreatDoor.TK
open Go.RowKit
set_option linter.unusedVariables false
theorem set_one {w : World} {N : Nat} {cs : Array Value} {e : TypeId} {fr : Nat × Nat} (h : w.heap[N]? = some (.cells cs e fr)) (o : Nat) (v : Value) : (w.setCell ⟨N, o, none⟩ v).heap[N]? = some (.cells (cs.setIfInBounds o v) e fr) := by
 have hlt := lt_of_block h
 have h' : w.heap[N] = .cells cs e fr := by simpa [Array.getElem?_eq_getElem hlt] using h
 show (w.heap.modify N _)[N]? = _
 rw [Array.getElem?_eq_getElem (by simpa using hlt), Array.getElem_modify_self, h']
 rfl
theorem tok_set {w : World} {N : Nat} {t0 : Tok} (h : w.heap[N]? = some (tokO t0)) (t : Tok) :
  ((((((((w.setCell ⟨N, 0, none⟩ (.int .i64 t.kind)).setCell ⟨N, 1, none⟩ (.int .i64 t.num)).setCell ⟨N, 2, none⟩ (.string t.text)).setCell ⟨N, 3, none⟩ (.bool t.neg)).setCell ⟨N, 4, none⟩ (.int .i64 t.least)).setCell ⟨N, 5, none⟩ (.int .i64 t.most)).setCell ⟨N, 6, none⟩ (.int .i64 t.way)).setCell ⟨N, 7, none⟩ (.int .i64 t.fold)).heap[N]? = some (tokO t) := by
 unfold tokO at h
 rw [set_one (set_one (set_one (set_one (set_one (set_one (set_one (set_one h _ _) _ _) _ _) _ _) _ _) _ _) _ _) _ _]
 simp [tokO]
theorem ret_tok {f : Func} {s : Nat} {R : Ending → World → Prop} {tmps : Array Value} {W : World} {t : Tok} {N : Nat} (hres : f.results = #[ResultVar.cell s 52]) (hs : tmps[s]? = some (.pointer (some ⟨N, 0, none⟩))) (hW : W.heap[N]? = some (tokO t)) (h : R (.returned (tokV t)) W) :
  bodyPost Tryz.prog f R Exit.ret { tmps := tmps, defers := [] } W := by
 obtain ⟨r0, r1, r2, r3, r4, r5, r6, r7⟩ := tok_cells hW
 refine bodyPost_ret (v := tokV t) ?_ rfl h
 simp [results, hres, go_sem, hs, r0, r1, r2, r3, r4, r5, r6, r7, tokV]
end Go.Proofs.YtaccofiegkdlgaaGreatDoor.TK
