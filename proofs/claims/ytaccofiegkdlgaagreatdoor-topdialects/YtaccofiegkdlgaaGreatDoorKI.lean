import Derived.Test.YtaccofiegkdlgaaGreatDoorKH
namespace Go.Proofs.YtaccofiegkdlgaaGreatDoor.TK
set_option maxHeartbeats 16000000
open Go.RowKit
set_option linter.unusedVariables false
set_option maxRecDepth 100000
theorem ruby_cls {b : Nat} {x : Addr} {c : Nat} {l : List Int} {i : Nat} {d : Int} (p : Int) (c9 : ByteArray × Bool) (w : World) (h : RB w b x c l i d) (hcl : clsT p = some c9) : Calls Tryz.prog 48 #[.pointer (some ⟨b, 0, none⟩), .int .i64 p] w fun e w' => OutT b x c l d w (rubyT l i p) e w' := by
 have hlt := h.lt
 have hxw := h.xw
 have hat := h.at'
 have hw0 := h.alloc (tokO {})
 have HR0 := hide hw0
 have hE : Hid (rubyT l i p = .ok (classT c9, i)) := by show _ = _; unfold rubyT; rw [hcl]
 obtain ⟨cn, cg⟩ := c9
 clear h hw0
 go_enter Tryz.func48, Tryz.ntmps48
 go_wp2_with fail
 refine (classes_any _).mono ?_
 rintro e w1 ⟨rfl, hmap, hb1⟩
 have hl1 := look_any2 hmap p
 have hr1 := HR0.out.keep hb1
 have hm1 : Mv b (w.alloc (tokO {})) w1 := Mv.of_below hb1
 have hlt1 := hr1.lt
 have hxw1 := hr1.xw
 have hz1 : w.heap.size + 1 ≤ w1.heap.size := by have := hm1.size; simpa using this
 clear hmap hb1
 simp only [hcl, clsV, Option.isSome_some, World.size_alloc] at hl1
 clear hcl HR0
 have hr2 := hr1.alloc (.cells #[.string cn, .bool cg] 89)
 have hm2 := hm1.alloc (.cells #[.string cn, .bool cg] 89)
 go_wp2_with fail
 refine (classTok_any cn cg _).mono ?_
 rintro e w3 ⟨rfl, hb3⟩
 have hr := hr2.keep hb3
 have hm := hm2.trans (Mv.of_below hb3)
 have hN : w3.heap[w.heap.size]? = some (tokO {}) := hm.blockAt (at_new _ _) (by omega)
 obtain ⟨m0, m1, m2, m3, m4, m5, m6, m7⟩ := tok_cells hN
 have fr0 := tok_free hN
 have hq0 : w.heap.size < w3.heap.size := lt_of_block hN
 have hq1 : ¬ w.heap.size = w3.heap.size := by omega
 have hq2 : ¬ w3.heap.size = w.heap.size := by omega
 have HRR := hide hr
 have HMM := hide hm
 clear hr hm hr1 hm1 hr2 hm2 hb3 hl1
 simp only [tokV, classT]
 go_wp21
 go_wp21
 go_wp21
 exact ret_tok (N := w.heap.size) rfl rfl (tok_set hN (classT (cn, cg))) (.inl ⟨(classT (cn, cg)), i, hE.out, rfl, HRR.out.tok (by omega) (by omega) _ _ _ _ _ _ _ _, Mv.tok (((Mv.refl b w).alloc _).trans HMM.out) (Nat.le_refl _) _ _ _ _ _ _ _ _⟩)
theorem ruby_no {b : Nat} {x : Addr} {c : Nat} {l : List Int} {i : Nat} {d : Int} (p : Int) (w : World) (h : RB w b x c l i d) (hcl : clsT p = none) : Calls Tryz.prog 48 #[.pointer (some ⟨b, 0, none⟩), .int .i64 p] w fun e w' => OutT b x c l d w (rubyT l i p) e w' := by
 have hlt := h.lt
 have hxw := h.xw
 have hat := h.at'
 have hw0 := h.alloc (tokO {})
 have HR0 := hide hw0
 have hE0 : Hid (rubyT l i p = (if p = 65 then .ok (lookT 5, i) else if p = 122 then .ok (lookT 6, i) else if p = 98 then .ok (lookT 7, i) else if p = 66 then .ok (lookT 8, i) else if p = 120 then hexT l i else if p = 117 then uniT l i else if p = 107 then agbT l i else if 49 ≤ p ∧ p ≤ 57 then .ok (agdT l i (p - 48)) else match ctlT p with | .ok q => .ok (pointT q, i) | .error e => .error e)) := by show _ = _; unfold rubyT; simp only [hcl]; rfl
 clear h hw0
 by_cases hp65 : p = 65
 ·subst hp65
  have hE : Hid (rubyT l i 65 = .ok (lookT 5, i)) := by show _ = _; rw [hE0.out]; simp
  clear hcl hE0
  go_enter Tryz.func48, Tryz.ntmps48
  go_wp2_with fail
  refine (classes_any _).mono ?_
  rintro e w1 ⟨rfl, hmap, hb1⟩
  have hl1 := look_any2 hmap 65
  have hr1 := HR0.out.keep hb1
  have hm1 : Mv b (w.alloc (tokO {})) w1 := Mv.of_below hb1
  have hlt1 := hr1.lt
  have hxw1 := hr1.xw
  have hz1 : w.heap.size + 1 ≤ w1.heap.size := by have := hm1.size; simpa using this
  clear hmap hb1
  have hcl : clsT 65 = none := by decide +kernel
  simp only [hcl, clsV, Option.isSome_none, World.size_alloc] at hl1
  clear hcl
  clear HR0
  have hr2 := hr1.alloc (.cells #[.string ⟨#[]⟩, .bool false] 89)
  have hm2 := hm1.alloc (.cells #[.string ⟨#[]⟩, .bool false] 89)
  go_wp2_with fail
  refine (look_any 5 _).mono ?_
  rintro e w3 ⟨rfl, hb3⟩
  have hr := hr2.keep hb3
  have hm := hm2.trans (Mv.of_below hb3)
  have hN : w3.heap[w.heap.size]? = some (tokO {}) := hm.blockAt (at_new _ _) (by omega)
  obtain ⟨m0, m1, m2, m3, m4, m5, m6, m7⟩ := tok_cells hN
  have fr0 := tok_free hN
  have hq0 : w.heap.size < w3.heap.size := lt_of_block hN
  have hq1 : ¬ w.heap.size = w3.heap.size := by omega
  have hq2 : ¬ w3.heap.size = w.heap.size := by omega
  have HRR := hide hr
  have HMM := hide hm
  clear hr hm hr1 hm1 hr2 hm2 hb3 hl1
  simp only [tokV, lookT]
  go_wp21
  go_wp21
  go_wp21
  exact ret_tok (N := w.heap.size) rfl rfl (tok_set hN (lookT 5)) (.inl ⟨(lookT 5), i, hE.out, rfl, HRR.out.tok (by omega) (by omega) _ _ _ _ _ _ _ _, Mv.tok (((Mv.refl b w).alloc _).trans HMM.out) (Nat.le_refl _) _ _ _ _ _ _ _ _⟩)
 by_cases hp122 : p = 122
 ·subst hp122
  have hE : Hid (rubyT l i 122 = .ok (lookT 6, i)) := by show _ = _; rw [hE0.out]; simp
  clear hcl hE0
  go_enter Tryz.func48, Tryz.ntmps48
  go_wp2_with fail
  refine (classes_any _).mono ?_
  rintro e w1 ⟨rfl, hmap, hb1⟩
  have hl1 := look_any2 hmap 122
  have hr1 := HR0.out.keep hb1
  have hm1 : Mv b (w.alloc (tokO {})) w1 := Mv.of_below hb1
  have hlt1 := hr1.lt
  have hxw1 := hr1.xw
  have hz1 : w.heap.size + 1 ≤ w1.heap.size := by have := hm1.size; simpa using this
  clear hmap hb1
  have hcl : clsT 122 = none := by decide +kernel
  simp only [hcl, clsV, Option.isSome_none, World.size_alloc] at hl1
  clear hcl
  clear HR0
  have hr2 := hr1.alloc (.cells #[.string ⟨#[]⟩, .bool false] 89)
  have hm2 := hm1.alloc (.cells #[.string ⟨#[]⟩, .bool false] 89)
  go_wp2_with fail
  refine (look_any 6 _).mono ?_
  rintro e w3 ⟨rfl, hb3⟩
  have hr := hr2.keep hb3
  have hm := hm2.trans (Mv.of_below hb3)
  have hN : w3.heap[w.heap.size]? = some (tokO {}) := hm.blockAt (at_new _ _) (by omega)
  obtain ⟨m0, m1, m2, m3, m4, m5, m6, m7⟩ := tok_cells hN
  have fr0 := tok_free hN
  have hq0 : w.heap.size < w3.heap.size := lt_of_block hN
  have hq1 : ¬ w.heap.size = w3.heap.size := by omega
  have hq2 : ¬ w3.heap.size = w.heap.size := by omega
  have HRR := hide hr
  have HMM := hide hm
  clear hr hm hr1 hm1 hr2 hm2 hb3 hl1
  simp only [tokV, lookT]
  go_wp21
  go_wp21
  go_wp21
  exact ret_tok (N := w.heap.size) rfl rfl (tok_set hN (lookT 6)) (.inl ⟨(lookT 6), i, hE.out, rfl, HRR.out.tok (by omega) (by omega) _ _ _ _ _ _ _ _, Mv.tok (((Mv.refl b w).alloc _).trans HMM.out) (Nat.le_refl _) _ _ _ _ _ _ _ _⟩)
 by_cases hp98 : p = 98
 ·subst hp98
  have hE : Hid (rubyT l i 98 = .ok (lookT 7, i)) := by show _ = _; rw [hE0.out]; simp
  clear hcl hE0
  go_enter Tryz.func48, Tryz.ntmps48
  go_wp2_with fail
  refine (classes_any _).mono ?_
  rintro e w1 ⟨rfl, hmap, hb1⟩
  have hl1 := look_any2 hmap 98
  have hr1 := HR0.out.keep hb1
  have hm1 : Mv b (w.alloc (tokO {})) w1 := Mv.of_below hb1
  have hlt1 := hr1.lt
  have hxw1 := hr1.xw
  have hz1 : w.heap.size + 1 ≤ w1.heap.size := by have := hm1.size; simpa using this
  clear hmap hb1
  have hcl : clsT 98 = none := by decide +kernel
  simp only [hcl, clsV, Option.isSome_none, World.size_alloc] at hl1
  clear hcl
  clear HR0
  have hr2 := hr1.alloc (.cells #[.string ⟨#[]⟩, .bool false] 89)
  have hm2 := hm1.alloc (.cells #[.string ⟨#[]⟩, .bool false] 89)
  go_wp2_with fail
  refine (look_any 7 _).mono ?_
  rintro e w3 ⟨rfl, hb3⟩
  have hr := hr2.keep hb3
  have hm := hm2.trans (Mv.of_below hb3)
  have hN : w3.heap[w.heap.size]? = some (tokO {}) := hm.blockAt (at_new _ _) (by omega)
  obtain ⟨m0, m1, m2, m3, m4, m5, m6, m7⟩ := tok_cells hN
  have fr0 := tok_free hN
  have hq0 : w.heap.size < w3.heap.size := lt_of_block hN
  have hq1 : ¬ w.heap.size = w3.heap.size := by omega
  have hq2 : ¬ w3.heap.size = w.heap.size := by omega
  have HRR := hide hr
  have HMM := hide hm
  clear hr hm hr1 hm1 hr2 hm2 hb3 hl1
  simp only [tokV, lookT]
  go_wp21
  go_wp21
  go_wp21
  exact ret_tok (N := w.heap.size) rfl rfl (tok_set hN (lookT 7)) (.inl ⟨(lookT 7), i, hE.out, rfl, HRR.out.tok (by omega) (by omega) _ _ _ _ _ _ _ _, Mv.tok (((Mv.refl b w).alloc _).trans HMM.out) (Nat.le_refl _) _ _ _ _ _ _ _ _⟩)
 by_cases hp66 : p = 66
 ·subst hp66
  have hE : Hid (rubyT l i 66 = .ok (lookT 8, i)) := by show _ = _; rw [hE0.out]; simp
  clear hcl hE0
  go_enter Tryz.func48, Tryz.ntmps48
  go_wp2_with fail
  refine (classes_any _).mono ?_
  rintro e w1 ⟨rfl, hmap, hb1⟩
  have hl1 := look_any2 hmap 66
  have hr1 := HR0.out.keep hb1
  have hm1 : Mv b (w.alloc (tokO {})) w1 := Mv.of_below hb1
  have hlt1 := hr1.lt
  have hxw1 := hr1.xw
  have hz1 : w.heap.size + 1 ≤ w1.heap.size := by have := hm1.size; simpa using this
  clear hmap hb1
  have hcl : clsT 66 = none := by decide +kernel
  simp only [hcl, clsV, Option.isSome_none, World.size_alloc] at hl1
  clear hcl
  clear HR0
  have hr2 := hr1.alloc (.cells #[.string ⟨#[]⟩, .bool false] 89)
  have hm2 := hm1.alloc (.cells #[.string ⟨#[]⟩, .bool false] 89)
  go_wp2_with fail
  refine (look_any 8 _).mono ?_
  rintro e w3 ⟨rfl, hb3⟩
  have hr := hr2.keep hb3
  have hm := hm2.trans (Mv.of_below hb3)
  have hN : w3.heap[w.heap.size]? = some (tokO {}) := hm.blockAt (at_new _ _) (by omega)
  obtain ⟨m0, m1, m2, m3, m4, m5, m6, m7⟩ := tok_cells hN
  have fr0 := tok_free hN
  have hq0 : w.heap.size < w3.heap.size := lt_of_block hN
  have hq1 : ¬ w.heap.size = w3.heap.size := by omega
  have hq2 : ¬ w3.heap.size = w.heap.size := by omega
  have HRR := hide hr
  have HMM := hide hm
  clear hr hm hr1 hm1 hr2 hm2 hb3 hl1
  simp only [tokV, lookT]
  go_wp21
  go_wp21
  go_wp21
  exact ret_tok (N := w.heap.size) rfl rfl (tok_set hN (lookT 8)) (.inl ⟨(lookT 8), i, hE.out, rfl, HRR.out.tok (by omega) (by omega) _ _ _ _ _ _ _ _, Mv.tok (((Mv.refl b w).alloc _).trans HMM.out) (Nat.le_refl _) _ _ _ _ _ _ _ _⟩)
 by_cases hp120 : p = 120
 ·subst hp120
  have HR : Hid (rubyT l i 120 = hexT l i) := by show _ = _; rw [hE0.out]; simp
  clear hcl hE0
  go_enter Tryz.func48, Tryz.ntmps48
  go_wp2_with fail
  refine (classes_any _).mono ?_
  rintro e w1 ⟨rfl, hmap, hb1⟩
  have hl1 := look_any2 hmap 120
  have hr1 := HR0.out.keep hb1
  have hm1 : Mv b (w.alloc (tokO {})) w1 := Mv.of_below hb1
  have hlt1 := hr1.lt
  have hxw1 := hr1.xw
  have hz1 : w.heap.size + 1 ≤ w1.heap.size := by have := hm1.size; simpa using this
  clear hmap hb1
  have hcl : clsT 120 = none := by decide +kernel
  simp only [hcl, clsV, Option.isSome_none, World.size_alloc] at hl1
  clear hcl
  clear HR0
  have hr2 := hr1.alloc (.cells #[.string ⟨#[]⟩, .bool false] 89)
  have hm2 := hm1.alloc (.cells #[.string ⟨#[]⟩, .bool false] 89)
  go_wp2_with fail
  refine (hexPoint_any _ hr2).mono ?_
  rintro e w3 (⟨t, k, hR, rfl, hr, hm9⟩ | ⟨z, hR, rfl, hm9⟩)
  ·have hE := hide (HR.out.trans hR)
   have hm := hm2.trans hm9
   have hN : w3.heap[w.heap.size]? = some (tokO {}) := hm.blockAt (at_new _ _) (by omega)
   obtain ⟨m0, m1, m2, m3, m4, m5, m6, m7⟩ := tok_cells hN
   have fr0 := tok_free hN
   have hq0 : w.heap.size < w3.heap.size := lt_of_block hN
   have hq1 : ¬ w.heap.size = w3.heap.size := by omega
   have hq2 : ¬ w3.heap.size = w.heap.size := by omega
   have HRR := hide hr
   have HMM := hide hm
   clear hr hm hm9 hR HR hr1 hm1 hr2 hm2 hl1
   simp only [tokV]
   go_wp21
   go_wp21
   exact ret_tok (N := w.heap.size) rfl rfl (tok_set hN t) (.inl ⟨t, k, hE.out, rfl, HRR.out.tok (by omega) (by omega) _ _ _ _ _ _ _ _, Mv.tok (((Mv.refl b w).alloc _).trans HMM.out) (Nat.le_refl _) _ _ _ _ _ _ _ _⟩)
  ·have hE := hide (HR.out.trans hR)
   have hm := hm2.trans hm9
   have HMM := hide hm
   clear hm hm9 hR HR hr1 hm1 hr2 hm2 hl1
   simp only [gives]
   go_wp2
   exact ⟨rfl, .inr ⟨z, hE.out, rfl, ((Mv.refl b w).alloc _).trans HMM.out⟩⟩
 by_cases hp107 : p = 107
 ·subst hp107
  have HR : Hid (rubyT l i 107 = agbT l i) := by show _ = _; rw [hE0.out]; simp
  clear hcl hE0
  go_enter Tryz.func48, Tryz.ntmps48
  go_wp2_with fail
  refine (classes_any _).mono ?_
  rintro e w1 ⟨rfl, hmap, hb1⟩
  have hl1 := look_any2 hmap 107
  have hr1 := HR0.out.keep hb1
  have hm1 : Mv b (w.alloc (tokO {})) w1 := Mv.of_below hb1
  have hlt1 := hr1.lt
  have hxw1 := hr1.xw
  have hz1 : w.heap.size + 1 ≤ w1.heap.size := by have := hm1.size; simpa using this
  clear hmap hb1
  have hcl : clsT 107 = none := by decide +kernel
  simp only [hcl, clsV, Option.isSome_none, World.size_alloc] at hl1
  clear hcl
  clear HR0
  have hr2 := hr1.alloc (.cells #[.string ⟨#[]⟩, .bool false] 89)
  have hm2 := hm1.alloc (.cells #[.string ⟨#[]⟩, .bool false] 89)
  go_wp2_with fail
  refine (againBy_any _ hr2).mono ?_
  rintro e w3 (⟨t, k, hR, rfl, hr, hm9⟩ | ⟨z, hR, rfl, hm9⟩)
  ·have hE := hide (HR.out.trans hR)
   have hm := hm2.trans hm9
   have hN : w3.heap[w.heap.size]? = some (tokO {}) := hm.blockAt (at_new _ _) (by omega)
   obtain ⟨m0, m1, m2, m3, m4, m5, m6, m7⟩ := tok_cells hN
   have fr0 := tok_free hN
   have hq0 : w.heap.size < w3.heap.size := lt_of_block hN
   have hq1 : ¬ w.heap.size = w3.heap.size := by omega
   have hq2 : ¬ w3.heap.size = w.heap.size := by omega
   have HRR := hide hr
   have HMM := hide hm
   clear hr hm hm9 hR HR hr1 hm1 hr2 hm2 hl1
   simp only [tokV]
   go_wp21
   go_wp21
   exact ret_tok (N := w.heap.size) rfl rfl (tok_set hN t) (.inl ⟨t, k, hE.out, rfl, HRR.out.tok (by omega) (by omega) _ _ _ _ _ _ _ _, Mv.tok (((Mv.refl b w).alloc _).trans HMM.out) (Nat.le_refl _) _ _ _ _ _ _ _ _⟩)
  ·have hE := hide (HR.out.trans hR)
   have hm := hm2.trans hm9
   have HMM := hide hm
   clear hm hm9 hR HR hr1 hm1 hr2 hm2 hl1
   simp only [gives]
   go_wp2
   exact ⟨rfl, .inr ⟨z, hE.out, rfl, ((Mv.refl b w).alloc _).trans HMM.out⟩⟩
 by_cases hp117 : p = 117
 ·subst hp117
  have HR : Hid (rubyT l i 117 = uniT l i) := by show _ = _; rw [hE0.out]; simp
  obtain ⟨n, k, he, hr0⟩ := digs_spec 16 4 l i hat (Or.inr rfl)
  by_cases hk : k < 4
  ·have hE : Hid (rubyT l i 117 = .error 1) := by show _ = _; rw [HR.out]; unfold uniT; simp only [he]; rw [if_pos hk]
   have HX := hide (fun w1 (h1 : RB w1 b x c l i d) => hex_not (least := 4) w1 h1 (by omega) (by omega) he hk)
   clear hcl hE0 he hr0 HR
   go_enter Tryz.func48, Tryz.ntmps48
   go_wp2_with fail
   refine (classes_any _).mono ?_
   rintro e w1 ⟨rfl, hmap, hb1⟩
   have hl1 := look_any2 hmap 117
   have hr1 := HR0.out.keep hb1
   have hm1 : Mv b (w.alloc (tokO {})) w1 := Mv.of_below hb1
   have hlt1 := hr1.lt
   have hxw1 := hr1.xw
   have hz1 : w.heap.size + 1 ≤ w1.heap.size := by have := hm1.size; simpa using this
   clear hmap hb1
   have hcl : clsT 117 = none := by decide +kernel
   simp only [hcl, clsV, Option.isSome_none, World.size_alloc] at hl1
   clear hcl
   clear HR0
   have hr2 := hr1.alloc (.cells #[.string ⟨#[]⟩, .bool false] 89)
   have hm2 := hm1.alloc (.cells #[.string ⟨#[]⟩, .bool false] 89)
   go_wp2_with fail
   refine (HX.out _ hr2).mono ?_
   rintro e w3 ⟨rfl, hm3⟩
   have hm := hm2.trans hm3
   have HMM := hide hm
   clear hm hr1 hm1 hr2 hm2 hm3 HX hl1
   simp only [gives]
   go_wp2
   exact ⟨rfl, .inr ⟨1, hE.out, rfl, ((Mv.refl b w).alloc _).trans HMM.out⟩⟩
  ·have hE : Hid (rubyT l i 117 = .ok (pointT n, i + k)) := by show _ = _; rw [HR.out]; unfold uniT; simp only [he]; rw [if_neg hk]
   have HX := hide (fun w1 (h1 : RB w1 b x c l i d) => hex_is (least := 4) w1 h1 (by omega) (by omega) he (by omega))
   clear hcl hE0 he hr0 HR
   go_enter Tryz.func48, Tryz.ntmps48
   go_wp2_with fail
   refine (classes_any _).mono ?_
   rintro e w1 ⟨rfl, hmap, hb1⟩
   have hl1 := look_any2 hmap 117
   have hr1 := HR0.out.keep hb1
   have hm1 : Mv b (w.alloc (tokO {})) w1 := Mv.of_below hb1
   have hlt1 := hr1.lt
   have hxw1 := hr1.xw
   have hz1 : w.heap.size + 1 ≤ w1.heap.size := by have := hm1.size; simpa using this
   clear hmap hb1
   have hcl : clsT 117 = none := by decide +kernel
   simp only [hcl, clsV, Option.isSome_none, World.size_alloc] at hl1
   clear hcl
   clear HR0
   have hr2 := hr1.alloc (.cells #[.string ⟨#[]⟩, .bool false] 89)
   have hm2 := hm1.alloc (.cells #[.string ⟨#[]⟩, .bool false] 89)
   go_wp2_with fail
   refine (HX.out _ hr2).mono ?_
   rintro e w3 ⟨rfl, hr3, hm3⟩
   go_wp2_with fail
   refine (point_any n w3).mono ?_
   rintro e w4 ⟨rfl, hb4⟩
   have hr := hr3.keep hb4
   have hm := (hm2.trans hm3).trans (Mv.of_below hb4)
   have hN : w4.heap[w.heap.size]? = some (tokO {}) := hm.blockAt (at_new _ _) (by omega)
   obtain ⟨m0, m1, m2, m3, m4, m5, m6, m7⟩ := tok_cells hN
   have fr0 := tok_free hN
   have hq0 : w.heap.size < w4.heap.size := lt_of_block hN
   have hq1 : ¬ w.heap.size = w4.heap.size := by omega
   have hq2 : ¬ w4.heap.size = w.heap.size := by omega
   have HRR := hide hr
   have HMM := hide hm
   clear hr hm hr1 hm1 hr2 hm2 hr3 hm3 hb4 HX hl1
   simp only [tokV, pointT]
   go_wp21
   go_wp21
   go_wp21
   exact ret_tok (N := w.heap.size) rfl rfl (tok_set hN (pointT n)) (.inl ⟨(pointT n), (i + k), hE.out, rfl, HRR.out.tok (by omega) (by omega) _ _ _ _ _ _ _ _, Mv.tok (((Mv.refl b w).alloc _).trans HMM.out) (Nat.le_refl _) _ _ _ _ _ _ _ _⟩)
 have hq65 : (p == 65) = false := by simpa using hp65
 have hq122 : (p == 122) = false := by simpa using hp122
 have hq98 : (p == 98) = false := by simpa using hp98
 have hq66 : (p == 66) = false := by simpa using hp66
 have hq120 : (p == 120) = false := by simpa using hp120
 have hq117 : (p == 117) = false := by simpa using hp117
 have hq107 : (p == 107) = false := by simpa using hp107
 by_cases hdg : 49 ≤ p ∧ p ≤ 57
 ·have HR : Hid (rubyT l i p = .ok (agdT l i (p - 48))) := by show _ = _; rw [hE0.out]; simp [hp65, hp122, hp98, hp66, hp120, hp117, hp107, hdg]
  obtain ⟨hd1, hd2⟩ := hdg
  clear hE0 hp65 hp122 hp98 hp66 hp120 hp117 hp107
  go_enter Tryz.func48, Tryz.ntmps48
  go_wp2_with fail
  refine (classes_any _).mono ?_
  rintro e w1 ⟨rfl, hmap, hb1⟩
  have hl1 := look_any2 hmap p
  have hr1 := HR0.out.keep hb1
  have hm1 : Mv b (w.alloc (tokO {})) w1 := Mv.of_below hb1
  have hlt1 := hr1.lt
  have hxw1 := hr1.xw
  have hz1 : w.heap.size + 1 ≤ w1.heap.size := by have := hm1.size; simpa using this
  clear hmap hb1
  simp only [hcl, clsV, Option.isSome_none, World.size_alloc] at hl1
  clear HR0 hcl
  have hr2 := hr1.alloc (.cells #[.string ⟨#[]⟩, .bool false] 89)
  have hm2 := hm1.alloc (.cells #[.string ⟨#[]⟩, .bool false] 89)
  go_wp2_with fail
  refine (againDigits_any (p - 48) _ hr2 (by omega) (by omega)).mono ?_
  rintro e w3 (⟨t, k, hR, rfl, hr, hm9⟩ | ⟨z, hR, rfl, hm9⟩)
  ·have hE := hide (HR.out.trans hR)
   have hm := hm2.trans hm9
   have hN : w3.heap[w.heap.size]? = some (tokO {}) := hm.blockAt (at_new _ _) (by omega)
   obtain ⟨m0, m1, m2, m3, m4, m5, m6, m7⟩ := tok_cells hN
   have fr0 := tok_free hN
   have hq0 : w.heap.size < w3.heap.size := lt_of_block hN
   have hq1 : ¬ w.heap.size = w3.heap.size := by omega
   have hq2 : ¬ w3.heap.size = w.heap.size := by omega
   have HRR := hide hr
   have HMM := hide hm
   clear hr hm hm9 hR HR hr1 hm1 hr2 hm2 hl1
   simp only [tokV]
   go_wp21
   go_wp21
   exact ret_tok (N := w.heap.size) rfl rfl (tok_set hN t) (.inl ⟨t, k, hE.out, rfl, HRR.out.tok (by omega) (by omega) _ _ _ _ _ _ _ _, Mv.tok (((Mv.refl b w).alloc _).trans HMM.out) (Nat.le_refl _) _ _ _ _ _ _ _ _⟩)
  ·have hE := hide (HR.out.trans hR)
   have hm := hm2.trans hm9
   have HMM := hide hm
   clear hm hm9 hR HR hr1 hm1 hr2 hm2 hl1
   simp only [gives]
   go_wp2
   exact ⟨rfl, .inr ⟨z, hE.out, rfl, ((Mv.refl b w).alloc _).trans HMM.out⟩⟩
 ·have HR : Hid (rubyT l i p = (match ctlT p with | .ok q => .ok (pointT q, i) | .error e => .error e)) := by show _ = _; rw [hE0.out, if_neg hp65, if_neg hp122, if_neg hp98, if_neg hp66, if_neg hp120, if_neg hp117, if_neg hp107, if_neg hdg]
  have hCT := hide (control_any p)
  have hnd : ¬ (49 ≤ p ∧ p ≤ 57) := hdg
  clear hE0 hp65 hp122 hp98 hp66 hp120 hp117 hp107
  by_cases h49 : 49 ≤ p
  ·have h57 : ¬ p ≤ 57 := by omega
   clear hdg hnd
   go_enter Tryz.func48, Tryz.ntmps48
   go_wp2_with fail
   refine (classes_any _).mono ?_
   rintro e w1 ⟨rfl, hmap, hb1⟩
   have hl1 := look_any2 hmap p
   have hr1 := HR0.out.keep hb1
   have hm1 : Mv b (w.alloc (tokO {})) w1 := Mv.of_below hb1
   have hlt1 := hr1.lt
   have hxw1 := hr1.xw
   have hz1 : w.heap.size + 1 ≤ w1.heap.size := by have := hm1.size; simpa using this
   clear hmap hb1
   simp only [hcl, clsV, Option.isSome_none, World.size_alloc] at hl1
   clear HR0 hcl
   have hr2 := hr1.alloc (.cells #[.string ⟨#[]⟩, .bool false] 89)
   have hm2 := hm1.alloc (.cells #[.string ⟨#[]⟩, .bool false] 89)
   go_wp2_with fail
   refine (hCT.out _).mono ?_
   rintro e w3 (⟨q, hq, rfl, rfl⟩ | ⟨hq, rfl, rfl⟩)
   ·have hE : Hid (rubyT l i p = .ok (pointT q, i)) := by show _ = _; rw [HR.out, hq]
    go_wp2_with fail
    refine (point_any q _).mono ?_
    rintro e w4 ⟨rfl, hb4⟩
    have hr := hr2.keep hb4
    have hm := hm2.trans (Mv.of_below hb4)
    have hN : w4.heap[w.heap.size]? = some (tokO {}) := hm.blockAt (at_new _ _) (by omega)
    obtain ⟨m0, m1, m2, m3, m4, m5, m6, m7⟩ := tok_cells hN
    have fr0 := tok_free hN
    have hq0 : w.heap.size < w4.heap.size := lt_of_block hN
    have hq1 : ¬ w.heap.size = w4.heap.size := by omega
    have hq2 : ¬ w4.heap.size = w.heap.size := by omega
    have HRR := hide hr
    have HMM := hide hm
    clear hr hm hr1 hm1 hr2 hm2 hb4 hl1 hq HR
    simp only [tokV, pointT]
    go_wp21
    go_wp21
    go_wp21
    exact ret_tok (N := w.heap.size) rfl rfl (tok_set hN (pointT q)) (.inl ⟨(pointT q), i, hE.out, rfl, HRR.out.tok (by omega) (by omega) _ _ _ _ _ _ _ _, Mv.tok (((Mv.refl b w).alloc _).trans HMM.out) (Nat.le_refl _) _ _ _ _ _ _ _ _⟩)
   ·have hE : Hid (rubyT l i p = .error 1) := by show _ = _; rw [HR.out, hq]
    have hm := hm2
    have HMM := hide hm
    clear hm hr1 hm1 hr2 hm2 hl1 hq HR
    simp only [gives]
    go_wp2
    exact ⟨rfl, .inr ⟨1, hE.out, rfl, ((Mv.refl b w).alloc _).trans HMM.out⟩⟩
  ·clear hdg hnd
   go_enter Tryz.func48, Tryz.ntmps48
   go_wp2_with fail
   refine (classes_any _).mono ?_
   rintro e w1 ⟨rfl, hmap, hb1⟩
   have hl1 := look_any2 hmap p
   have hr1 := HR0.out.keep hb1
   have hm1 : Mv b (w.alloc (tokO {})) w1 := Mv.of_below hb1
   have hlt1 := hr1.lt
   have hxw1 := hr1.xw
   have hz1 : w.heap.size + 1 ≤ w1.heap.size := by have := hm1.size; simpa using this
   clear hmap hb1
   simp only [hcl, clsV, Option.isSome_none, World.size_alloc] at hl1
   clear HR0 hcl
   have hr2 := hr1.alloc (.cells #[.string ⟨#[]⟩, .bool false] 89)
   have hm2 := hm1.alloc (.cells #[.string ⟨#[]⟩, .bool false] 89)
   go_wp2_with fail
   refine (hCT.out _).mono ?_
   rintro e w3 (⟨q, hq, rfl, rfl⟩ | ⟨hq, rfl, rfl⟩)
   ·have hE : Hid (rubyT l i p = .ok (pointT q, i)) := by show _ = _; rw [HR.out, hq]
    go_wp2_with fail
    refine (point_any q _).mono ?_
    rintro e w4 ⟨rfl, hb4⟩
    have hr := hr2.keep hb4
    have hm := hm2.trans (Mv.of_below hb4)
    have hN : w4.heap[w.heap.size]? = some (tokO {}) := hm.blockAt (at_new _ _) (by omega)
    obtain ⟨m0, m1, m2, m3, m4, m5, m6, m7⟩ := tok_cells hN
    have fr0 := tok_free hN
    have hq0 : w.heap.size < w4.heap.size := lt_of_block hN
    have hq1 : ¬ w.heap.size = w4.heap.size := by omega
    have hq2 : ¬ w4.heap.size = w.heap.size := by omega
    have HRR := hide hr
    have HMM := hide hm
    clear hr hm hr1 hm1 hr2 hm2 hb4 hl1 hq HR
    simp only [tokV, pointT]
    go_wp21
    go_wp21
    go_wp21
    exact ret_tok (N := w.heap.size) rfl rfl (tok_set hN (pointT q)) (.inl ⟨(pointT q), i, hE.out, rfl, HRR.out.tok (by omega) (by omega) _ _ _ _ _ _ _ _, Mv.tok (((Mv.refl b w).alloc _).trans HMM.out) (Nat.le_refl _) _ _ _ _ _ _ _ _⟩)
   ·have hE : Hid (rubyT l i p = .error 1) := by show _ = _; rw [HR.out, hq]
    have hm := hm2
    have HMM := hide hm
    clear hm hr1 hm1 hr2 hm2 hl1 hq HR
    simp only [gives]
    go_wp2
    exact ⟨rfl, .inr ⟨1, hE.out, rfl, ((Mv.refl b w).alloc _).trans HMM.out⟩⟩
theorem ruby_any {b : Nat} {x : Addr} {c : Nat} {l : List Int} {i : Nat} {d : Int} (p : Int) (w : World) (h : RB w b x c l i d) : Calls Tryz.prog 48 #[.pointer (some ⟨b, 0, none⟩), .int .i64 p] w fun e w' => OutT b x c l d w (rubyT l i p) e w' := by
 cases hcl : clsT p with
 | none => exact ruby_no p w h hcl
 | some c9 => exact ruby_cls p c9 w h hcl
end Go.Proofs.YtaccofiegkdlgaaGreatDoor.TK
namespace Go.Proofs.YtaccofiegkdlgaaGreatDoor.TK
set_option maxHeartbeats 16000000
open Go.RowKit
set_option linter.unusedVariables false
set_option maxRecDepth 100000
theorem emacs_any {b : Nat} {x : Addr} {c : Nat} {l : List Int} {i : Nat} {d : Int} (p : Int) (w : World) (h : RB w b x c l i d) (hd3 : d = 3) : Calls Tryz.prog 49 #[.pointer (some ⟨b, 0, none⟩), .int .i64 p] w fun e w' => OutT b x c l d w (emacsT l i p) e w' := by
 have hlt := h.lt
 have hxw := h.xw
 have hat := h.at'
 have hw0 := h.alloc (tokO {})
 have HR0 := hide hw0
 have hm0 := (Mv.refl b (w.alloc (tokO {})))
 subst hd3
 by_cases hp40 : p = 40
 ·subst hp40
  have HR : Hid (emacsT l i 40 = partT 3 l 40 i) := by show _ = _; unfold emacsT; simp
  have HC := hide (parting_any 40 _ hw0)
  clear h hw0 hm0 HR0
  go_enter Tryz.func49, Tryz.ntmps49
  go_wp2_with fail
  simp only [tokO] at HC
  refine HC.out.mono ?_
  rintro e w1 (⟨t, k, hR, rfl, hr, hm⟩ | ⟨z, hR, rfl, hm⟩)
  ·have hE := hide (HR.out.trans hR)
   have hN : w1.heap[w.heap.size]? = some (tokO {}) := hm.blockAt (at_new _ _) (by omega)
   obtain ⟨m0, m1, m2, m3, m4, m5, m6, m7⟩ := tok_cells hN
   have fr0 := tok_free hN
   have hq0 : w.heap.size < w1.heap.size := lt_of_block hN
   have hq1 : ¬ w.heap.size = w1.heap.size := by omega
   have hq2 : ¬ w1.heap.size = w.heap.size := by omega
   have HRR := hide hr
   have HMM := hide hm
   clear hr hm hR HR HC
   simp only [tokV]
   go_wp21
   go_wp21
   exact ret_tok (N := w.heap.size) rfl rfl (tok_set hN t) (.inl ⟨t, k, hE.out, rfl, HRR.out.tok (by omega) (by omega) _ _ _ _ _ _ _ _, Mv.tok (((Mv.refl b w).alloc _).trans HMM.out) (Nat.le_refl _) _ _ _ _ _ _ _ _⟩)
  ·have hE := hide (HR.out.trans hR)
   have HMM := hide hm
   clear hm hR HR HC
   simp only [gives]
   go_wp2
   exact ⟨rfl, .inr ⟨z, hE.out, rfl, ((Mv.refl b w).alloc _).trans HMM.out⟩⟩
 by_cases hp41 : p = 41
 ·subst hp41
  have HR : Hid (emacsT l i 41 = partT 3 l 41 i) := by show _ = _; unfold emacsT; simp
  have HC := hide (parting_any 41 _ hw0)
  clear h hw0 hm0 HR0
  go_enter Tryz.func49, Tryz.ntmps49
  go_wp2_with fail
  simp only [tokO] at HC
  refine HC.out.mono ?_
  rintro e w1 (⟨t, k, hR, rfl, hr, hm⟩ | ⟨z, hR, rfl, hm⟩)
  ·have hE := hide (HR.out.trans hR)
   have hN : w1.heap[w.heap.size]? = some (tokO {}) := hm.blockAt (at_new _ _) (by omega)
   obtain ⟨m0, m1, m2, m3, m4, m5, m6, m7⟩ := tok_cells hN
   have fr0 := tok_free hN
   have hq0 : w.heap.size < w1.heap.size := lt_of_block hN
   have hq1 : ¬ w.heap.size = w1.heap.size := by omega
   have hq2 : ¬ w1.heap.size = w.heap.size := by omega
   have HRR := hide hr
   have HMM := hide hm
   clear hr hm hR HR HC
   simp only [tokV]
   go_wp21
   go_wp21
   exact ret_tok (N := w.heap.size) rfl rfl (tok_set hN t) (.inl ⟨t, k, hE.out, rfl, HRR.out.tok (by omega) (by omega) _ _ _ _ _ _ _ _, Mv.tok (((Mv.refl b w).alloc _).trans HMM.out) (Nat.le_refl _) _ _ _ _ _ _ _ _⟩)
  ·have hE := hide (HR.out.trans hR)
   have HMM := hide hm
   clear hm hR HR HC
   simp only [gives]
   go_wp2
   exact ⟨rfl, .inr ⟨z, hE.out, rfl, ((Mv.refl b w).alloc _).trans HMM.out⟩⟩
 by_cases hp124 : p = 124
 ·subst hp124
  have HR : Hid (emacsT l i 124 = partT 3 l 124 i) := by show _ = _; unfold emacsT; simp
  have HC := hide (parting_any 124 _ hw0)
  clear h hw0 hm0 HR0
  go_enter Tryz.func49, Tryz.ntmps49
  go_wp2_with fail
  simp only [tokO] at HC
  refine HC.out.mono ?_
  rintro e w1 (⟨t, k, hR, rfl, hr, hm⟩ | ⟨z, hR, rfl, hm⟩)
  ·have hE := hide (HR.out.trans hR)
   have hN : w1.heap[w.heap.size]? = some (tokO {}) := hm.blockAt (at_new _ _) (by omega)
   obtain ⟨m0, m1, m2, m3, m4, m5, m6, m7⟩ := tok_cells hN
   have fr0 := tok_free hN
   have hq0 : w.heap.size < w1.heap.size := lt_of_block hN
   have hq1 : ¬ w.heap.size = w1.heap.size := by omega
   have hq2 : ¬ w1.heap.size = w.heap.size := by omega
   have HRR := hide hr
   have HMM := hide hm
   clear hr hm hR HR HC
   simp only [tokV]
   go_wp21
   go_wp21
   exact ret_tok (N := w.heap.size) rfl rfl (tok_set hN t) (.inl ⟨t, k, hE.out, rfl, HRR.out.tok (by omega) (by omega) _ _ _ _ _ _ _ _, Mv.tok (((Mv.refl b w).alloc _).trans HMM.out) (Nat.le_refl _) _ _ _ _ _ _ _ _⟩)
  ·have hE := hide (HR.out.trans hR)
   have HMM := hide hm
   clear hm hR HR HC
   simp only [gives]
   go_wp2
   exact ⟨rfl, .inr ⟨z, hE.out, rfl, ((Mv.refl b w).alloc _).trans HMM.out⟩⟩
 by_cases hp123 : p = 123
 ·subst hp123
  have HR : Hid (emacsT l i 123 = partT 3 l 123 i) := by show _ = _; unfold emacsT; simp
  have HC := hide (parting_any 123 _ hw0)
  clear h hw0 hm0 HR0
  go_enter Tryz.func49, Tryz.ntmps49
  go_wp2_with fail
  simp only [tokO] at HC
  refine HC.out.mono ?_
  rintro e w1 (⟨t, k, hR, rfl, hr, hm⟩ | ⟨z, hR, rfl, hm⟩)
  ·have hE := hide (HR.out.trans hR)
   have hN : w1.heap[w.heap.size]? = some (tokO {}) := hm.blockAt (at_new _ _) (by omega)
   obtain ⟨m0, m1, m2, m3, m4, m5, m6, m7⟩ := tok_cells hN
   have fr0 := tok_free hN
   have hq0 : w.heap.size < w1.heap.size := lt_of_block hN
   have hq1 : ¬ w.heap.size = w1.heap.size := by omega
   have hq2 : ¬ w1.heap.size = w.heap.size := by omega
   have HRR := hide hr
   have HMM := hide hm
   clear hr hm hR HR HC
   simp only [tokV]
   go_wp21
   go_wp21
   exact ret_tok (N := w.heap.size) rfl rfl (tok_set hN t) (.inl ⟨t, k, hE.out, rfl, HRR.out.tok (by omega) (by omega) _ _ _ _ _ _ _ _, Mv.tok (((Mv.refl b w).alloc _).trans HMM.out) (Nat.le_refl _) _ _ _ _ _ _ _ _⟩)
  ·have hE := hide (HR.out.trans hR)
   have HMM := hide hm
   clear hm hR HR HC
   simp only [gives]
   go_wp2
   exact ⟨rfl, .inr ⟨z, hE.out, rfl, ((Mv.refl b w).alloc _).trans HMM.out⟩⟩
 by_cases hp119 : p = 119
 ·subst hp119
  have hE : Hid (emacsT l i 119 = .ok (classT (bWord, false), i)) := by show _ = _; unfold emacsT; simp
  clear h hw0
  go_enter Tryz.func49, Tryz.ntmps49
  go_wp2_with fail
  refine (classes_any _).mono ?_
  rintro e w1 ⟨rfl, hmap, hb1⟩
  have hl1 := look_w hmap 119 false (by simp)
  have hr1 := HR0.out.keep hb1
  have hm1 : Mv b (w.alloc (tokO {})) w1 := Mv.of_below hb1
  have hlt1 := hr1.lt
  have hxw1 := hr1.xw
  clear hmap hb1
  simp only [clsV, World.size_alloc] at hl1
  go_wp2_with fail
  refine (classTok_any bWord false _).mono ?_
  rintro e w3 ⟨rfl, hb3⟩
  have hr := hr1.keep hb3
  have hm := hm1.trans (Mv.of_below hb3)
  have hN : w3.heap[w.heap.size]? = some (tokO {}) := hm.blockAt (at_new _ _) (by omega)
  obtain ⟨m0, m1, m2, m3, m4, m5, m6, m7⟩ := tok_cells hN
  have fr0 := tok_free hN
  have hq0 : w.heap.size < w3.heap.size := lt_of_block hN
  have hq1 : ¬ w.heap.size = w3.heap.size := by omega
  have hq2 : ¬ w3.heap.size = w.heap.size := by omega
  have HRR := hide hr
  have HMM := hide hm
  clear hr hm hr1 hm1 hb3 hl1 HR0 hm0
  simp only [tokV, classT]
  go_wp21
  go_wp21
  go_wp21
  exact ret_tok (N := w.heap.size) rfl rfl (tok_set hN (classT (bWord, false))) (.inl ⟨(classT (bWord, false)), i, hE.out, rfl, HRR.out.tok (by omega) (by omega) _ _ _ _ _ _ _ _, Mv.tok (((Mv.refl b w).alloc _).trans HMM.out) (Nat.le_refl _) _ _ _ _ _ _ _ _⟩)
 by_cases hp87 : p = 87
 ·subst hp87
  have hE : Hid (emacsT l i 87 = .ok (classT (bWord, true), i)) := by show _ = _; unfold emacsT; simp
  clear h hw0
  go_enter Tryz.func49, Tryz.ntmps49
  go_wp2_with fail
  refine (classes_any _).mono ?_
  rintro e w1 ⟨rfl, hmap, hb1⟩
  have hl1 := look_w hmap 87 true (by simp)
  have hr1 := HR0.out.keep hb1
  have hm1 : Mv b (w.alloc (tokO {})) w1 := Mv.of_below hb1
  have hlt1 := hr1.lt
  have hxw1 := hr1.xw
  clear hmap hb1
  simp only [clsV, World.size_alloc] at hl1
  go_wp2_with fail
  refine (classTok_any bWord true _).mono ?_
  rintro e w3 ⟨rfl, hb3⟩
  have hr := hr1.keep hb3
  have hm := hm1.trans (Mv.of_below hb3)
  have hN : w3.heap[w.heap.size]? = some (tokO {}) := hm.blockAt (at_new _ _) (by omega)
  obtain ⟨m0, m1, m2, m3, m4, m5, m6, m7⟩ := tok_cells hN
  have fr0 := tok_free hN
  have hq0 : w.heap.size < w3.heap.size := lt_of_block hN
  have hq1 : ¬ w.heap.size = w3.heap.size := by omega
  have hq2 : ¬ w3.heap.size = w.heap.size := by omega
  have HRR := hide hr
  have HMM := hide hm
  clear hr hm hr1 hm1 hb3 hl1 HR0 hm0
  simp only [tokV, classT]
  go_wp21
  go_wp21
  go_wp21
  exact ret_tok (N := w.heap.size) rfl rfl (tok_set hN (classT (bWord, true))) (.inl ⟨(classT (bWord, true)), i, hE.out, rfl, HRR.out.tok (by omega) (by omega) _ _ _ _ _ _ _ _, Mv.tok (((Mv.refl b w).alloc _).trans HMM.out) (Nat.le_refl _) _ _ _ _ _ _ _ _⟩)
 by_cases hp98 : p = 98
 ·subst hp98
  have hE : Hid (emacsT l i 98 = .ok (lookT 7, i)) := by show _ = _; unfold emacsT; simp
  clear h hw0
  go_enter Tryz.func49, Tryz.ntmps49
  go_wp2_with fail
  refine (look_any 7 _).mono ?_
  rintro e w2 ⟨rfl, hb2⟩
  have hr := HR0.out.keep hb2
  have hm := hm0.trans (Mv.of_below hb2)
  have hN : w2.heap[w.heap.size]? = some (tokO {}) := hm.blockAt (at_new _ _) (by omega)
  obtain ⟨m0, m1, m2, m3, m4, m5, m6, m7⟩ := tok_cells hN
  have fr0 := tok_free hN
  have hq0 : w.heap.size < w2.heap.size := lt_of_block hN
  have hq1 : ¬ w.heap.size = w2.heap.size := by omega
  have hq2 : ¬ w2.heap.size = w.heap.size := by omega
  have HRR := hide hr
  have HMM := hide hm
  clear hr hm HR0 hm0 hb2
  simp only [tokV, lookT]
  go_wp21
  go_wp21
  exact ret_tok (N := w.heap.size) rfl rfl (tok_set hN (lookT 7)) (.inl ⟨(lookT 7), i, hE.out, rfl, HRR.out.tok (by omega) (by omega) _ _ _ _ _ _ _ _, Mv.tok (((Mv.refl b w).alloc _).trans HMM.out) (Nat.le_refl _) _ _ _ _ _ _ _ _⟩)
 by_cases hp66 : p = 66
 ·subst hp66
  have hE : Hid (emacsT l i 66 = .ok (lookT 8, i)) := by show _ = _; unfold emacsT; simp
  clear h hw0
  go_enter Tryz.func49, Tryz.ntmps49
  go_wp2_with fail
  refine (look_any 8 _).mono ?_
  rintro e w2 ⟨rfl, hb2⟩
  have hr := HR0.out.keep hb2
  have hm := hm0.trans (Mv.of_below hb2)
  have hN : w2.heap[w.heap.size]? = some (tokO {}) := hm.blockAt (at_new _ _) (by omega)
  obtain ⟨m0, m1, m2, m3, m4, m5, m6, m7⟩ := tok_cells hN
  have fr0 := tok_free hN
  have hq0 : w.heap.size < w2.heap.size := lt_of_block hN
  have hq1 : ¬ w.heap.size = w2.heap.size := by omega
  have hq2 : ¬ w2.heap.size = w.heap.size := by omega
  have HRR := hide hr
  have HMM := hide hm
  clear hr hm HR0 hm0 hb2
  simp only [tokV, lookT]
  go_wp21
  go_wp21
  exact ret_tok (N := w.heap.size) rfl rfl (tok_set hN (lookT 8)) (.inl ⟨(lookT 8), i, hE.out, rfl, HRR.out.tok (by omega) (by omega) _ _ _ _ _ _ _ _, Mv.tok (((Mv.refl b w).alloc _).trans HMM.out) (Nat.le_refl _) _ _ _ _ _ _ _ _⟩)
 by_cases hp96 : p = 96
 ·subst hp96
  have hE : Hid (emacsT l i 96 = .ok (lookT 5, i)) := by show _ = _; unfold emacsT; simp
  clear h hw0
  go_enter Tryz.func49, Tryz.ntmps49
  go_wp2_with fail
  refine (look_any 5 _).mono ?_
  rintro e w2 ⟨rfl, hb2⟩
  have hr := HR0.out.keep hb2
  have hm := hm0.trans (Mv.of_below hb2)
  have hN : w2.heap[w.heap.size]? = some (tokO {}) := hm.blockAt (at_new _ _) (by omega)
  obtain ⟨m0, m1, m2, m3, m4, m5, m6, m7⟩ := tok_cells hN
  have fr0 := tok_free hN
  have hq0 : w.heap.size < w2.heap.size := lt_of_block hN
  have hq1 : ¬ w.heap.size = w2.heap.size := by omega
  have hq2 : ¬ w2.heap.size = w.heap.size := by omega
  have HRR := hide hr
  have HMM := hide hm
  clear hr hm HR0 hm0 hb2
  simp only [tokV, lookT]
  go_wp21
  go_wp21
  exact ret_tok (N := w.heap.size) rfl rfl (tok_set hN (lookT 5)) (.inl ⟨(lookT 5), i, hE.out, rfl, HRR.out.tok (by omega) (by omega) _ _ _ _ _ _ _ _, Mv.tok (((Mv.refl b w).alloc _).trans HMM.out) (Nat.le_refl _) _ _ _ _ _ _ _ _⟩)
 by_cases hp39 : p = 39
 ·subst hp39
  have hE : Hid (emacsT l i 39 = .ok (lookT 6, i)) := by show _ = _; unfold emacsT; simp
  clear h hw0
  go_enter Tryz.func49, Tryz.ntmps49
  go_wp2_with fail
  refine (look_any 6 _).mono ?_
  rintro e w2 ⟨rfl, hb2⟩
  have hr := HR0.out.keep hb2
  have hm := hm0.trans (Mv.of_below hb2)
  have hN : w2.heap[w.heap.size]? = some (tokO {}) := hm.blockAt (at_new _ _) (by omega)
  obtain ⟨m0, m1, m2, m3, m4, m5, m6, m7⟩ := tok_cells hN
  have fr0 := tok_free hN
  have hq0 : w.heap.size < w2.heap.size := lt_of_block hN
  have hq1 : ¬ w.heap.size = w2.heap.size := by omega
  have hq2 : ¬ w2.heap.size = w.heap.size := by omega
  have HRR := hide hr
  have HMM := hide hm
  clear hr hm HR0 hm0 hb2
  simp only [tokV, lookT]
  go_wp21
  go_wp21
  exact ret_tok (N := w.heap.size) rfl rfl (tok_set hN (lookT 6)) (.inl ⟨(lookT 6), i, hE.out, rfl, HRR.out.tok (by omega) (by omega) _ _ _ _ _ _ _ _, Mv.tok (((Mv.refl b w).alloc _).trans HMM.out) (Nat.le_refl _) _ _ _ _ _ _ _ _⟩)
 have hq40 : (p == 40) = false := by simpa using hp40
 have hq41 : (p == 41) = false := by simpa using hp41
 have hq124 : (p == 124) = false := by simpa using hp124
 have hq123 : (p == 123) = false := by simpa using hp123
 have hq119 : (p == 119) = false := by simpa using hp119
 have hq87 : (p == 87) = false := by simpa using hp87
 have hq98 : (p == 98) = false := by simpa using hp98
 have hq66 : (p == 66) = false := by simpa using hp66
 have hq96 : (p == 96) = false := by simpa using hp96
 have hq39 : (p == 39) = false := by simpa using hp39
 by_cases hdg : 49 ≤ p ∧ p ≤ 57
 ·have hE : Hid (emacsT l i p = .ok (againT (p - 48), i)) := by show _ = _; unfold emacsT; simp [hp40, hp41, hp124, hp123, hp119, hp87, hp98, hp66, hp96, hp39, hdg]
  obtain ⟨hd1, hd2⟩ := hdg
  clear hp40 hp41 hp124 hp123 hp119 hp87 hp98 hp66 hp96 hp39 h hw0
  go_enter Tryz.func49, Tryz.ntmps49
  go_wp2_with fail
  refine (again_any (p - 48) _).mono ?_
  rintro e w2 ⟨rfl, hb2⟩
  have hr := HR0.out.keep hb2
  have hm := hm0.trans (Mv.of_below hb2)
  have hN : w2.heap[w.heap.size]? = some (tokO {}) := hm.blockAt (at_new _ _) (by omega)
  obtain ⟨m0, m1, m2, m3, m4, m5, m6, m7⟩ := tok_cells hN
  have fr0 := tok_free hN
  have hq0 : w.heap.size < w2.heap.size := lt_of_block hN
  have hq1 : ¬ w.heap.size = w2.heap.size := by omega
  have hq2 : ¬ w2.heap.size = w.heap.size := by omega
  have HRR := hide hr
  have HMM := hide hm
  clear hr hm HR0 hm0 hb2
  simp only [tokV, againT]
  go_wp21
  go_wp21
  exact ret_tok (N := w.heap.size) rfl rfl (tok_set hN (againT (p - 48))) (.inl ⟨(againT (p - 48)), i, hE.out, rfl, HRR.out.tok (by omega) (by omega) _ _ _ _ _ _ _ _, Mv.tok (((Mv.refl b w).alloc _).trans HMM.out) (Nat.le_refl _) _ _ _ _ _ _ _ _⟩)
 ·have hE : Hid (emacsT l i p = .ok (pointT p, i)) := by show _ = _; unfold emacsT; simp [hp40, hp41, hp124, hp123, hp119, hp87, hp98, hp66, hp96, hp39]; intro h1 h2; exact absurd ⟨h1, h2⟩ hdg
  clear hp40 hp41 hp124 hp123 hp119 hp87 hp98 hp66 hp96 hp39 h hw0
  by_cases h49 : 49 ≤ p
  ·have h57 : ¬ p ≤ 57 := by omega
   clear hdg
   go_enter Tryz.func49, Tryz.ntmps49
   go_wp2_with fail
   refine (point_any p _).mono ?_
   rintro e w2 ⟨rfl, hb2⟩
   have hr := HR0.out.keep hb2
   have hm := hm0.trans (Mv.of_below hb2)
   have hN : w2.heap[w.heap.size]? = some (tokO {}) := hm.blockAt (at_new _ _) (by omega)
   obtain ⟨m0, m1, m2, m3, m4, m5, m6, m7⟩ := tok_cells hN
   have fr0 := tok_free hN
   have hq0 : w.heap.size < w2.heap.size := lt_of_block hN
   have hq1 : ¬ w.heap.size = w2.heap.size := by omega
   have hq2 : ¬ w2.heap.size = w.heap.size := by omega
   have HRR := hide hr
   have HMM := hide hm
   clear hr hm HR0 hm0 hb2
   simp only [tokV, pointT]
   go_wp21
   go_wp21
   exact ret_tok (N := w.heap.size) rfl rfl (tok_set hN (pointT p)) (.inl ⟨(pointT p), i, hE.out, rfl, HRR.out.tok (by omega) (by omega) _ _ _ _ _ _ _ _, Mv.tok (((Mv.refl b w).alloc _).trans HMM.out) (Nat.le_refl _) _ _ _ _ _ _ _ _⟩)
  ·clear hdg
   go_enter Tryz.func49, Tryz.ntmps49
   go_wp2_with fail
   refine (point_any p _).mono ?_
   rintro e w2 ⟨rfl, hb2⟩
   have hr := HR0.out.keep hb2
   have hm := hm0.trans (Mv.of_below hb2)
   have hN : w2.heap[w.heap.size]? = some (tokO {}) := hm.blockAt (at_new _ _) (by omega)
   obtain ⟨m0, m1, m2, m3, m4, m5, m6, m7⟩ := tok_cells hN
   have fr0 := tok_free hN
   have hq0 : w.heap.size < w2.heap.size := lt_of_block hN
   have hq1 : ¬ w.heap.size = w2.heap.size := by omega
   have hq2 : ¬ w2.heap.size = w.heap.size := by omega
   have HRR := hide hr
   have HMM := hide hm
   clear hr hm HR0 hm0 hb2
   simp only [tokV, pointT]
   go_wp21
   go_wp21
   exact ret_tok (N := w.heap.size) rfl rfl (tok_set hN (pointT p)) (.inl ⟨(pointT p), i, hE.out, rfl, HRR.out.tok (by omega) (by omega) _ _ _ _ _ _ _ _, Mv.tok (((Mv.refl b w).alloc _).trans HMM.out) (Nat.le_refl _) _ _ _ _ _ _ _ _⟩)
theorem escape_any {b : Nat} {x : Addr} {c : Nat} {l : List Int} {i : Nat} {d : Int} (w : World) (h : RB w b x c l i d) : Calls Tryz.prog 40 #[.pointer (some ⟨b, 0, none⟩)] w fun e w' => OutT b x c l d w (escT d l i) e w' := by
 have hlt := h.lt
 have hxw := h.xw
 have hat := h.at'
 have hw0 := h.alloc (tokO {})
 by_cases hi : i < l.length
 ·have HT := hide (take_yes _ hw0 hi)
  have hE0 : Hid (escT d l i = (if d = 1 then rubyT l (i + 1) l[i] else if d = 3 then emacsT l (i + 1) l[i] else .ok (pointT l[i], i + 1))) := by show _ = _; unfold escT; rw [List.getElem?_eq_getElem hi]
  obtain ⟨p, hp⟩ : ∃ p, p = l[i] := ⟨_, rfl⟩
  rw [← hp] at HT hE0
  clear h hw0 hp
  by_cases hd1 : d = 1
  ·subst hd1
   have HR : Hid (escT 1 l i = rubyT l (i + 1) p) := by show _ = _; rw [hE0.out, if_pos rfl]
   clear hE0
   go_enter Tryz.func40, Tryz.ntmps40
   go_wp2_with fail
   simp only [tokO] at HT
   refine HT.out.mono ?_
   rintro e w1 ⟨rfl, hr1, hm1⟩
   obtain ⟨c0, c1, c2, f1⟩ := hr1.cells
   go_wp2_with fail
   refine (ruby_any p w1 hr1).mono ?_
   rintro e w3 (⟨t, k, hR, rfl, hr, hm9⟩ | ⟨z, hR, rfl, hm9⟩)
   ·have hE := hide (HR.out.trans hR)
    have hm := hm1.trans hm9
    have hN : w3.heap[w.heap.size]? = some (tokO {}) := hm.blockAt (at_new _ _) (by omega)
    obtain ⟨m0, m1, m2, m3, m4, m5, m6, m7⟩ := tok_cells hN
    have fr0 := tok_free hN
    have hq0 : w.heap.size < w3.heap.size := lt_of_block hN
    have hq1 : ¬ w.heap.size = w3.heap.size := by omega
    have hq2 : ¬ w3.heap.size = w.heap.size := by omega
    have HRR := hide hr
    have HMM := hide hm
    clear hr hm hm9 hR HR hr1 hm1 HT c0 c1 c2 f1
    simp only [tokV]
    go_wp21
    go_wp21
    exact ret_tok (N := w.heap.size) rfl rfl (tok_set hN t) (.inl ⟨t, k, hE.out, rfl, HRR.out.tok (by omega) (by omega) _ _ _ _ _ _ _ _, Mv.tok (((Mv.refl b w).alloc _).trans HMM.out) (Nat.le_refl _) _ _ _ _ _ _ _ _⟩)
   ·have hE := hide (HR.out.trans hR)
    have hm := hm1.trans hm9
    have HMM := hide hm
    clear hm hm9 hR HR hr1 hm1 HT c0 c1 c2 f1
    simp only [gives]
    go_wp2
    exact ⟨rfl, .inr ⟨z, hE.out, rfl, ((Mv.refl b w).alloc _).trans HMM.out⟩⟩
  ·by_cases hd3 : d = 3
   ·subst hd3
    have HR : Hid (escT 3 l i = emacsT l (i + 1) p) := by show _ = _; rw [hE0.out, if_neg (by omega), if_pos rfl]
    clear hE0
    go_enter Tryz.func40, Tryz.ntmps40
    go_wp2_with fail
    simp only [tokO] at HT
    refine HT.out.mono ?_
    rintro e w1 ⟨rfl, hr1, hm1⟩
    obtain ⟨c0, c1, c2, f1⟩ := hr1.cells
    go_wp2_with fail
    refine (emacs_any p w1 hr1 rfl).mono ?_
    rintro e w3 (⟨t, k, hR, rfl, hr, hm9⟩ | ⟨z, hR, rfl, hm9⟩)
    ·have hE := hide (HR.out.trans hR)
     have hm := hm1.trans hm9
     have hN : w3.heap[w.heap.size]? = some (tokO {}) := hm.blockAt (at_new _ _) (by omega)
     obtain ⟨m0, m1, m2, m3, m4, m5, m6, m7⟩ := tok_cells hN
     have fr0 := tok_free hN
     have hq0 : w.heap.size < w3.heap.size := lt_of_block hN
     have hq1 : ¬ w.heap.size = w3.heap.size := by omega
     have hq2 : ¬ w3.heap.size = w.heap.size := by omega
     have HRR := hide hr
     have HMM := hide hm
     clear hr hm hm9 hR HR hr1 hm1 HT c0 c1 c2 f1
     simp only [tokV]
     go_wp21
     go_wp21
     exact ret_tok (N := w.heap.size) rfl rfl (tok_set hN t) (.inl ⟨t, k, hE.out, rfl, HRR.out.tok (by omega) (by omega) _ _ _ _ _ _ _ _, Mv.tok (((Mv.refl b w).alloc _).trans HMM.out) (Nat.le_refl _) _ _ _ _ _ _ _ _⟩)
    ·have hE := hide (HR.out.trans hR)
     have hm := hm1.trans hm9
     have HMM := hide hm
     clear hm hm9 hR HR hr1 hm1 HT c0 c1 c2 f1
     simp only [gives]
     go_wp2
     exact ⟨rfl, .inr ⟨z, hE.out, rfl, ((Mv.refl b w).alloc _).trans HMM.out⟩⟩
   ·have hE : Hid (escT d l i = .ok (pointT p, i + 1)) := by show _ = _; rw [hE0.out, if_neg hd1, if_neg hd3]
    have hq1 : (d == 1) = false := by simpa using hd1
    have hq3 : (d == 3) = false := by simpa using hd3
    clear hE0 hd1 hd3
    go_enter Tryz.func40, Tryz.ntmps40
    go_wp2_with fail
    simp only [tokO] at HT
    refine HT.out.mono ?_
    rintro e w1 ⟨rfl, hr1, hm1⟩
    obtain ⟨c0, c1, c2, f1⟩ := hr1.cells
    go_wp2_with fail
    refine (point_any p w1).mono ?_
    rintro e w2 ⟨rfl, hb2⟩
    have hr := hr1.keep hb2
    have hm := hm1.trans (Mv.of_below hb2)
    have hN : w2.heap[w.heap.size]? = some (tokO {}) := hm.blockAt (at_new _ _) (by omega)
    obtain ⟨m0, m1, m2, m3, m4, m5, m6, m7⟩ := tok_cells hN
    have fr0 := tok_free hN
    have hq0 : w.heap.size < w2.heap.size := lt_of_block hN
    have hq7 : ¬ w.heap.size = w2.heap.size := by omega
    have hq8 : ¬ w2.heap.size = w.heap.size := by omega
    have HRR := hide hr
    have HMM := hide hm
    clear hr hm hr1 hm1 hb2 HT c0 c1 c2 f1
    simp only [tokV, pointT]
    go_wp21
    go_wp21
    go_wp21
    exact ret_tok (N := w.heap.size) rfl rfl (tok_set hN (pointT p)) (.inl ⟨(pointT p), (i + 1), hE.out, rfl, HRR.out.tok (by omega) (by omega) _ _ _ _ _ _ _ _, Mv.tok (((Mv.refl b w).alloc _).trans HMM.out) (Nat.le_refl _) _ _ _ _ _ _ _ _⟩)
 ·have HT := hide (take_no _ hw0 hi)
  have hE : Hid (escT d l i = .error 1) := by show _ = _; unfold escT; rw [List.getElem?_eq_none (by omega)]
  clear h hw0
  go_enter Tryz.func40, Tryz.ntmps40
  go_wp2_with fail
  simp only [tokO] at HT
  refine HT.out.mono ?_
  rintro e w1 ⟨rfl, hm⟩
  have HMM := hide hm
  clear hm HT
  simp only [gives]
  go_wp2
  exact ⟨rfl, .inr ⟨1, hE.out, rfl, ((Mv.refl b w).alloc _).trans HMM.out⟩⟩
end Go.Proofs.YtaccofiegkdlgaaGreatDoor.TK
