import Derived.Test.YtaccofiegkdlgaaGreatDoorMC
import Derived.Test.YtaccofiegkdlgaaGreatDoorMP
namespace Go.Proofs.YtaccofiegkdlgaaGreatDoor.Pa
open Go.RowKit
set_option linter.unusedVariables false
end Go.Proofs.YtaccofiegkdlgaaGreatDoor.Pa
namespace Go.Proofs.YtaccofiegkdlgaaGreatDoor.Pa
set_option maxHeartbeats 4000000
open Go.RowKit Go.PlainAid
open TR (Tr NV NCells nvV nvO NodeC KidsC)
open TK (Mv PatV)
open Br (BE PS givesF fauO fau_cells)
set_option linter.unusedVariables false
set_option maxRecDepth 100000
variable {w w' : World} {v : Value} {l : List Int} {d : Int}
def ptsOf (s : ByteArray) (k : Nat) : List Int := (List.range k).map fun i => bt s i
theorem ptsOf_succ (s : ByteArray) (k : Nat) : ptsOf s (k + 1) = ptsOf s k ++ [bt s k] := by simp [ptsOf, List.range_succ]
theorem ptsOf_len (s : ByteArray) (k : Nat) : (ptsOf s k).length = k := by simp [ptsOf]
theorem own_patQ {B : Nat} {W : World} {u : Value} {L : List Int} (h : W.ownsRow B 3 1 u L.length (i64s L)) : PatV W u L := by
 rcases h.2 with ⟨rfl, h0⟩ | ⟨g, cap, cur, h1, _, h3, h4, _⟩
 ·exact .inl ⟨rfl, List.eq_nil_of_length_eq_zero h0⟩
 ·refine .inr ⟨⟨g, 0, none⟩, cap, h1, h4, fun j hj => ?_⟩
  rw [h1] at h
  rw [zadd, World.ownsRow.cellAt h j (by omega)]
  simp [i64s, List.getElem?_eq_getElem hj]
theorem pointsOf_fn (s : ByteArray) (hs : s.size ≤ 1000000000) (w : World) : Calls Tryz.prog 8 #[.string s] w fun e w' => ∃ u, e = .returned u ∧ w'.ownsRow w.heap.size 3 1 u (ptsOf s s.size).length (i64s (ptsOf s s.size)) ∧ Below w.heap.size w w' := by
 obtain ⟨i0, hi0, hz0, hz1, hz2⟩ := info_parts infoI
 have hg := get_bt s
 go_enter Tryz.func8, Tryz.ntmps8
 go_wp2
 go_loopw [3, 4] (fun kv u wr => ∃ j : Nat, j ≤ s.size ∧ u = .int .i64 j ∧ wr.ownsRow w.heap.size 3 1 kv j (i64s (ptsOf s j)) ∧ Below w.heap.size w wr) (fun _ u _ => s.size - (intOf u).toNat)
 case atStart => exact ⟨0, Nat.zero_le _, rfl, World.ownsRow_nil _ _ _ _, Below.refl _ _⟩
 case round =>
  obtain ⟨j, hj, rfl, ho, hb⟩ := hrel
  obtain ⟨wq, hwq⟩ : ∃ wq, wq = wr := ⟨_, rfl⟩
  subst hwq
  have HO := hide ho
  have HB := hide hb
  have hbz := hb.size
  obtain ⟨ko, kc, hkv⟩ := own_shape ho
  rw [hkv] at HO ⊢
  clear ho hb hkv
  by_cases hlt : j < s.size
  ·have q1 : (j : Int) < (s.size : Int) := by omega
   have q2 : (0 : Int) ≤ (j : Int) := by omega
   have hjw : IntKind.i64.wrap ((j : Int) + 1) = (j : Int) + 1 := by rw [IntKind.wrap_i64]; omega
   have hb0 := bt_nonneg s j
   have hb1 := bt_le s j
   have hbw : IntKind.i64.wrap (bt s j) = bt s j := by rw [IntKind.wrap_i64]; omega
   go_wp2_with (at_builtin; refine wpList_append_own_at _ rfl _ _ 22 rfl w.heap.size 3 i0 (.int .i64 0) 1 8 Tryz.underlying22 hi0 hz0 hz1 hz2 rfl (by decide) _ _ _ rfl (HO.out.alloc _) ⟨wq.heap.size, 0, none⟩ 1 1 [.int .i64 (bt s j)] rfl rfl (cell_one_new _ _ _) (by simp [Value.oneCell']) (by unfold maxLen; omega) (by omega) (by simp; omega) ?_)
   intro v' w4 hown' hgrow _ _
   have HO4 : Hid (w4.ownsRow w.heap.size 3 1 v' (j + 1) (i64s (ptsOf s (j + 1)))) := by
    show World.ownsRow _ _ _ _ _ _ _
    rw [ptsOf_succ, show i64s (ptsOf s j ++ [bt s j]) = i64s (ptsOf s j) ++ [.int .i64 (bt s j)] from by simp [i64s]]
    exact hown'
   have HB4 : Hid (Below w.heap.size w w4) := (HB.out.alloc HB.out.size _).grown hgrow (by have := HB.out.size; simp; omega) (fun k hk => (HO.out.lt k hk).1)
   obtain ⟨vo, vc, hv4⟩ := own_shape hown'
   rw [hv4] at HO4 ⊢
   clear hown' hgrow hv4
   go_wp2
   go_roundw
   case rel => exact ⟨j + 1, by omega, by go_num, HO4.out, HB4.out⟩
   case measure => simp [intOf]; omega
  ·have q1 : ¬ (j : Int) < (s.size : Int) := by omega
   have hjm : j = s.size := by omega
   go_wp2
   go_ret
   refine ⟨_, rfl, ?_, HB.out⟩
   have := HO.out
   rw [ptsOf_len, ← hjm]
   exact this
/-! ### the pattern that must be read in any case -/
def begS : ByteArray := ⟨#[97, 40, 63, 60, 120, 62, 98, 124, 99, 41, 42]⟩
def begL : List Int := [97, 40, 63, 60, 120, 62, 98, 124, 99, 41, 42]
theorem beg_pts : ptsOf begS begS.size = begL := by decide +kernel
def bx : ByteArray := ⟨#[120]⟩
def tokG : TK.Tok := { kind := 7, num := 11, text := bx }
def tokR : TK.Tok := { kind := 6, least := 0, most := -1, way := 1 }
theorem beg0 : TK.nextT 1 begL 0 = .ok (TK.pointT 97, 1) := by rfl
theorem beg1 : TK.nextT 1 begL 1 = .ok (tokG, 6) := by rfl
theorem beg6 : TK.nextT 1 begL 6 = .ok (TK.pointT 98, 7) := by rfl
theorem beg7 : TK.nextT 1 begL 7 = .ok ({ kind := 9 }, 8) := by rfl
theorem beg8 : TK.nextT 1 begL 8 = .ok (TK.pointT 99, 9) := by rfl
theorem beg9 : TK.nextT 1 begL 9 = .ok ({ kind := 8 }, 10) := by rfl
theorem beg10 : TK.nextT 1 begL 10 = .ok (tokR, 11) := by rfl
theorem adv_at {s : St} {i k : Nat} {t : TK.Tok} (hs : s.next = i) (hi : i ≠ begL.length) (h : TK.nextT 1 begL i = .ok (t, k)) : advM 1 begL s = .ok { s with pos := i, tok := t, next := k } := by
 unfold advM
 rw [hs, if_neg hi, h]
theorem adv_end {s : St} (hs : s.next = begL.length) : advM 1 begL s = .ok { s with pos := s.next, tok := {} } := by
 unfold advM
 rw [if_pos hs]
theorem atom_pt {rec : Rd} {s s' : St} {p : Int} (hk : s.tok = TK.pointT p) (hf : s.folded = false) (ha : advM 1 begL s = .ok s') : atomM 1 begL rec s = .ok (setT (listOf (oneF p)), s') := by
 unfold atomM
 rw [if_neg (by rw [hk]; show ¬ (1 : Int) = 6; decide), if_neg (by rw [hk]; show ¬ (1 : Int) = 7; decide)]
 have hset : setM 1 begL s = .ok (oneF p, s.next) := by
  unfold setM
  rw [if_pos (by rw [hk]; rfl), hf]
  rw [hk]
  rfl
 have hs : singleM 1 begL s = .ok (setT (listOf (oneF p)), s) := by
  unfold singleM
  rw [if_neg (by rw [hk]; show ¬ (1 : Int) = 3; decide), if_neg (by rw [hk]; show ¬ (1 : Int) = 10; decide), if_neg (by rw [hk]; show ¬ (1 : Int) = 11; decide), hset]
 rw [hs]
 simp only [ha]
theorem piece_pt {rec : Rd} {s s' : St} {p : Int} (hk : s.tok = TK.pointT p) (hf : s.folded = false) (ha : advM 1 begL s = .ok s') (h6 : s'.tok.kind ≠ 6) : pieceM 1 begL rec s = .ok (setT (listOf (oneF p)), s') := by
 unfold pieceM
 rw [atom_pt hk hf ha]
 simp only
 exact reps_stop h6
theorem pieces_on {rec : Rd} {n : Nat} {ps : List Tr} {s s' : St} {t : Tr} (he : endM begL s = false) (hp : pieceM 1 begL rec s = .ok (t, s')) : piecesM 1 begL rec (n + 1) ps s = piecesM 1 begL rec n (ps ++ [t]) s' := by
 rw [pieces_step he, hp]
noncomputable def B0 : Tr := setT (listOf (oneF 97))
noncomputable def B1 : Tr := setT (listOf (oneF 98))
noncomputable def B2 : Tr := setT (listOf (oneF 99))
noncomputable def gT : Tr := .mk 11 1 0 0 0 false [] [.mk 10 0 0 0 0 false [] [B1, B2]]
noncomputable def rT : Tr := .mk 12 0 0 (-1) 1 false [] [gT]
noncomputable def bT : Tr := .mk 9 0 0 0 0 false [] [B0, rT]
def sA : St := { tok := TK.pointT 97, pos := 0, next := 1 }
def sB : St := { tok := tokG, pos := 1, next := 6 }
def sB' : St := { sB with groups := 1, names := [(bx, 1)] }
def sC : St := { sB' with tok := TK.pointT 98, pos := 6, next := 7 }
def sC1 : St := { sC with deep := 1 }
def sD : St := { sC1 with tok := { kind := 9 }, pos := 7, next := 8 }
def sE : St := { sC1 with tok := TK.pointT 99, pos := 8, next := 9 }
def sF : St := { sC1 with tok := { kind := 8 }, pos := 9, next := 10 }
def sG : St := { sB' with tok := tokR, pos := 10, next := 11 }
def sH : St := { sB' with tok := {}, pos := 11, next := 11 }
theorem open_eval {rec : Rd} {s s1 s2 s3 s4 : St} {t : Tr} (hd : s.deep ≠ 20) (hn : s.tok.num = 11) (h1 : beginM s s.tok.text = .ok s1) (h2 : advM 1 begL s1 = .ok s2) (h3 : rec (foldedBy s2 s.tok.fold) { s2 with deep := s2.deep + 1 } = .ok (t, s3)) (h8 : s3.tok.kind = 8) (h4 : advM 1 begL { s3 with deep := s3.deep - 1 } = .ok s4) : openM 1 begL rec s = .ok (.mk 11 (s1.groups : Nat) 0 0 0 false [] [t], s4) := by
 unfold openM
 rw [if_neg hd, if_pos hn, h1]
 simp only [h2, h3, h4]
 rw [if_neg (by rw [h8]; simp), if_neg (by rw [hn]; decide), hn]
 rfl
theorem br_eval {rec : Rd} {fo : Bool} {s s1 s2 : St} {t : Tr} {bs : List Tr} (h1 : branchM 1 begL rec { s with folded := fo } = .ok (t, s1)) (h2 : barsM 1 begL rec (begL.length + 1) [t] s1 = .ok (bs, s2)) : branchesG 1 begL rec fo s = .ok (eitherT bs, { s2 with folded := s.folded }) := by
 unfold branchesG
 rw [h1]
 simp only [h2]
theorem bars_on {rec : Rd} {n : Nat} {bs : List Tr} {s s1 s2 : St} {t : Tr} (he : s.tok.kind = 9) (h1 : advM 1 begL s = .ok s1) (h2 : branchM 1 begL rec s1 = .ok (t, s2)) : barsM 1 begL rec (n + 1) bs s = barsM 1 begL rec n (bs ++ [t]) s2 := by
 rw [bars_step he, h1]
 simp only [h2]
theorem branch_eval {rec : Rd} {s s1 : St} {ps : List Tr} (h : piecesM 1 begL rec (begL.length + 1) [] s = .ok (ps, s1)) : branchM 1 begL rec s = .ok (rowT ps, s1) := by
 unfold branchM
 rw [h]
theorem rep_eval {rec : Rd} {s s1 s2 : St} {t : Tr} (h1 : atomM 1 begL rec s = .ok (t, s1)) (h11 : s.tok.kind ≠ 11) (h6 : s1.tok.kind = 6) (h2 : advM 1 begL s1 = .ok s2) (h3 : s2.tok.kind ≠ 6) : pieceM 1 begL rec s = .ok (repT t s1.tok, s2) := by
 unfold pieceM
 rw [h1]
 simp only
 rw [show decide (s.tok.kind ≠ 11) = true by simpa using h11, show (6 : Nat) = 5 + 1 from rfl, reps_on h6, if_neg (by simp), if_neg (by omega), h2]
 simp only
 exact reps_stop h3
theorem beg_in (n : Nat) : branchesF 1 begL (n + 1) false sC1 = .ok (.mk 10 0 0 0 0 false [] [B1, B2], sF) := by
 have h1 : branchM 1 begL (branchesF 1 begL n) sC1 = .ok (B1, sD) := by
  refine branch_eval (ps := [B1]) ?_
  rw [show begL.length + 1 = 11 + 1 from rfl, pieces_on (s := sC1) (s' := sD) rfl (piece_pt (s := sC1) (p := 98) rfl rfl (adv_at (s := sC1) rfl (by decide) beg7) (by decide)), pieces_stop rfl]
  rfl
 have h2 : branchM 1 begL (branchesF 1 begL n) sE = .ok (B2, sF) := by
  refine branch_eval (ps := [B2]) ?_
  rw [show begL.length + 1 = 11 + 1 from rfl, pieces_on (s := sE) (s' := sF) rfl (piece_pt (s := sE) (p := 99) rfl rfl (adv_at (s := sE) rfl (by decide) beg9) (by decide)), pieces_stop rfl]
  rfl
 have h3 : barsM 1 begL (branchesF 1 begL n) (begL.length + 1) [B1] sD = .ok ([B1, B2], sF) := by
  rw [show begL.length + 1 = 11 + 1 from rfl, bars_on (s := sD) (s1 := sE) rfl (adv_at (s := sD) rfl (by decide) beg8) h2, bars_stop (by decide)]
  rfl
 exact br_eval (s := sC1) (fo := false) h1 h3
theorem bx_ne : ¬ bx.toList = [] := by rw [ByteArray.toList_eq]; simp [bx]
theorem beg_begin : beginM sB sB.tok.text = .ok sB' := by
 unfold beginM
 rw [if_neg (by decide), if_neg (show ¬ sB.tok.text.toList = [] from bx_ne), if_neg (by decide)]
 rfl
theorem beg_group (n : Nat) : atomM 1 begL (branchesF 1 begL (n + 1)) sB = .ok (gT, sG) := by
 unfold atomM
 rw [if_neg (by decide), if_pos (by decide)]
 exact open_eval (s := sB) (s1 := sB') (s2 := sC) (s3 := sF) (s4 := sG) (by decide) (by decide) beg_begin (adv_at (s := sB') rfl (by decide) beg6) (beg_in n) rfl (adv_at (s := { sF with deep := sF.deep - 1 }) rfl (by decide) beg10)
theorem beg_all (n : Nat) : branchesF 1 begL (n + 2) false sA = .ok (bT, sH) := by
 have h1 : pieceM 1 begL (branchesF 1 begL (n + 1)) sB = .ok (rT, sH) := rep_eval (s := sB) (s1 := sG) (s2 := sH) (beg_group n) (by decide) rfl (adv_end (s := sG) rfl) (by decide)
 have h2 : branchM 1 begL (branchesF 1 begL (n + 1)) sA = .ok (bT, sH) := by
  refine branch_eval (ps := [B0, rT]) ?_
  rw [show begL.length + 1 = 10 + 1 + 1 from rfl, pieces_on (s := sA) (s' := sB) rfl (piece_pt (s := sA) (p := 97) rfl rfl (adv_at (s := sA) rfl (by decide) beg1) (by decide)), pieces_on (s := sB) (s' := sH) rfl h1, pieces_stop rfl]
  rfl
 exact br_eval (s := sA) (fo := false) (bs := [bT]) h2 (bars_stop (by decide))
theorem whole_eval {s0 s : St} {t : Tr} (h0 : advM 1 begL {} = .ok s0) (h1 : branchesF 1 begL 21 false s0 = .ok (t, s)) (h8 : s.tok.kind ≠ 8) (ha : s.agains = []) (hb : bigB (settleT [] t) = false) : wholeM bigB 1 false begL = .ok ⟨settleT [] t, s.groups, s.names⟩ := by
 unfold wholeM
 rw [h0]
 simp only [h1]
 rw [if_neg h8, ha]
 show (if bigB (settleT [] t) = true then _ else _) = _
 rw [hb]
 rfl
theorem beg_whole : patM bigB 1 false begL = .ok ⟨bT, 1, [(bx, 1)]⟩ := by
 unfold patM
 rw [if_neg (by decide)]
 exact whole_eval (s0 := sA) (s := sH) (t := bT) (adv_at (s := {}) rfl (by decide) beg0) (beg_all 19) (by decide) rfl (by rfl)
end Go.Proofs.YtaccofiegkdlgaaGreatDoor.Pa
namespace Go.Proofs.YtaccofiegkdlgaaGreatDoor.Pa
set_option maxHeartbeats 8000000
open Go.RowKit Go.PlainAid
open TR (Tr NV NCells nvV nvO NodeC KidsC)
open TK (Mv PatV)
open Br (BE PS givesF fauO fau_cells)
set_option linter.unusedVariables false
set_option maxRecDepth 100000
variable {w w' : World} {v : Value} {l : List Int} {d : Int}
theorem beg_num : numIn [(bx, 1)] bx = some 1 := by decide +kernel
theorem parseBegun_fn (w : World) (hT : Fo.Tab w) (hpos : 0 < w.heap.size) : Calls Tryz.prog 4 #[] w fun e w' => e = .returned (.bool true) ∧ Below w.heap.size w w' := by
 have HP := hide (pointsOf_fn begS (by decide) w)
 rw [beg_pts] at HP
 have HT := hide hT
 have HPos := hide hpos
 simp only [begS] at HP
 clear hT hpos
 go_enter Tryz.func4, Tryz.ntmps4
 go_wp2_with fail
 refine HP.out.mono ?_
 rintro e w1 ⟨u, rfl, hou, hb1⟩
 have HX := hide (parse_fn (d := 1) false (own_patQ hou) (HT.out.below hb1 HPos.out) (Nat.lt_of_lt_of_le HPos.out hb1.size))
 rw [beg_whole] at HX
 have HB1 := hide hb1
 obtain ⟨uo, uc, huv⟩ := own_shape hou
 rw [huv] at HX ⊢
 clear hou hb1 huv HP
 go_wp2_with fail
 refine HX.out.mono ?_
 rintro e w2 (⟨p, n, x, hR, rfl, hnc, hb2⟩ | ⟨z, a, hR, rfl, hb2⟩)
 case inr => cases hR
 cases hR
 obtain ⟨hn, hm⟩ := hnc w2 (fun _ _ _ => rfl)
 have hkind : n.kind = 9 := by have := hn.open.1; exact this.symm
 have hkl : n.kl = 2 := by
  obtain ⟨-, -, -, -, -, -, -, vs, hk, -⟩ := hn.open
  exact hk.len
 obtain ⟨xo, xc, hxv⟩ := hm.shape
 simp only [List.length_singleton] at hxv
 subst hxv
 obtain ⟨w3, hw3⟩ : ∃ w3, w3 = (w2.alloc (pnO n 1 (.slice xo 1 xc))).alloc (fauO 0 0) := ⟨_, rfl⟩
 have hb3 : Below w2.heap.size w2 w3 := by rw [hw3]; exact ((Below.refl _ w2).alloc (Nat.le_refl _) _).alloc (by simp) _
 have hN3 : w3.heap[w2.heap.size]? = some (pnO n 1 (.slice xo 1 xc)) := by rw [hw3]; exact TK.at_old (TK.at_new _ _)
 have hF3 : w3.heap[w2.heap.size + 1]? = some (fauO 0 0) := by rw [hw3]; exact TK.at_new' _ _ (by simp)
 have HNu := hide (number_any (.int .i64 n.kind) (.slice n.sa n.sl n.sc) (.slice n.ka n.kl n.kc) (.int .i64 n.num) (.int .i64 n.least) (.int .i64 n.most) (.int .i64 n.way) (.bool n.fold) (.int .i64 1) (.slice xo 1 xc) [(bx, 1)] bx w3 (hm.below hb3))
 rw [beg_num] at HNu
 simp only [Option.getD_some, numE, bx] at HNu
 have HB3 := hide ((HB1.out.trans (hb2.mono HB1.out.size)).trans (hb3.mono (Nat.le_trans HB1.out.size hb2.size)))
 have HN3 := hide hN3
 have HF3 := hide hF3
 simp only [pnO, fauO, hkind, hkl] at hw3 HNu
 obtain ⟨y0, y1, y2, y3, y4, y5, y6, y7, y8, y9⟩ := pn_cells hN3
 obtain ⟨ck, ck2, fk⟩ := fau_cells hF3
 rw [hkind] at y0
 rw [hkl] at y2
 simp only [pnV, hkind, hkl]
 rw [show (((1 : Nat) : Nat) : Int) = 1 from rfl]
 have HK := hide hkind
 have HKL := hide hkl
 clear hnc hn hm hb2 hb3 HX hN3 hF3 hkind hkl HT HPos
 go_upto_region 2 with fail
 rw [← hw3]
 clear hw3
 go_wp2_with fail
 refine HNu.out.mono ?_
 rintro e w4 ⟨rfl, hb4⟩
 have hN4 : w4.heap[w2.heap.size]? = some (pnO n 1 (.slice xo 1 xc)) := by rw [hb4.block _ (TR.lt_of_block HN3.out)]; exact HN3.out
 have hF4 : w4.heap[w2.heap.size + 1]? = some (fauO 0 0) := by rw [hb4.block _ (TR.lt_of_block HF3.out)]; exact HF3.out
 clear y0 y1 y2 y3 y4 y5 y6 y7 y8 y9 ck ck2 fk
 obtain ⟨y0, y1, y2, y3, y4, y5, y6, y7, y8, y9⟩ := pn_cells hN4
 obtain ⟨ck, ck2, fk⟩ := fau_cells hF4
 rw [HK.out] at y0
 rw [HKL.out] at y2
 have HB4 := hide (HB3.out.trans (hb4.mono HB3.out.size))
 clear hN4 hF4 hb4 HNu
 go_wp2
 go_ret
 exact ⟨rfl, HB4.out⟩
end Go.Proofs.YtaccofiegkdlgaaGreatDoor.Pa
