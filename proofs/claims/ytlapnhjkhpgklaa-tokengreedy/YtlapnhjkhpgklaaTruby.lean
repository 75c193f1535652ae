/- What rubyEscape answers. -/
import Derived.Test.YtlapnhjkhpgklaaTcls
namespace Go.Proofs.Ytlapnhjkhpgklaa
open Go.RowKit
set_option linter.unusedVariables false

set_option maxHeartbeats 8000000 in
theorem ruby_cls {b : Nat} {x : Addr} {c : Nat} {l : List Int} {i : Nat} {d : Int} (p : Int) (c9 : ByteArray × Bool) (w : World) (h : RB w b x c l i d) (hcl : clsT p = some c9) : Calls Try.prog 46 #[.pointer (some ⟨b, 0, none⟩), .int .i64 p] w fun e w' => OutT b x c l d w (rubyT l i p) e w' := by
  have hlt := h.lt
  have hxw := h.xw
  have hat := h.at'
  have hw0 := h.alloc (tokO {})
  have HR0 := hide hw0
  have hE : Hid (rubyT l i p = .ok (classT c9, i)) := by show _ = _; unfold rubyT; rw [hcl]
  obtain ⟨cn, cg⟩ := c9
  clear h hw0
  go_enter Try.func46, Try.ntmps46
  go_wp2_with fail
  refine (classes_any _).mono ?_
  rintro e w1 ⟨rfl, hmap, hb1⟩
  have hl1 := look_any2 hmap p
  have hr1 := HR0.out.keep hb1
  have hm1 : Mv b (w.alloc (tokO {})) w1 := Mv.of_below hb1
  have hlt1 := hr1.lt
  have hxw1 := hr1.xw
  have hz1 : w.heap.size + 1 ≤ w1.heap.size := by have := hm1.size; simpa using this
  clear hmap hb1
  simp only [hcl, clsV, Option.isSome_some, World.size_alloc] at hl1
  clear hcl HR0
  have hr2 := hr1.alloc (.cells #[.string cn, .bool cg] 71)
  have hm2 := hm1.alloc (.cells #[.string cn, .bool cg] 71)
  go_wp2_with fail
  refine (classTok_any cn cg _).mono ?_
  rintro e w3 ⟨rfl, hb3⟩
  have hr := hr2.keep hb3
  have hm := hm2.trans (Mv.of_below hb3)
  have hN : w3.heap[w.heap.size]? = some (tokO {}) := hm.blockAt (at_new _ _) (by omega)
  obtain ⟨m0, m1, m2, m3, m4, m5, m6, m7⟩ := tok_cells hN
  have fr0 := tok_free hN
  have hq0 : w.heap.size < w3.heap.size := lt_of_block hN
  have hq1 : ¬ w.heap.size = w3.heap.size := by omega
  have hq2 : ¬ w3.heap.size = w.heap.size := by omega
  have HRR := hide hr
  have HMM := hide hm
  clear hr hm hr1 hm1 hr2 hm2 hb3 hl1
  simp only [tokV, classT]
  go_wp21
  go_wp21
  go_wp21
  exact ret_tok (N := w.heap.size) rfl rfl (tok_set hN (classT (cn, cg))) (.inl ⟨(classT (cn, cg)), i, hE.out, rfl, HRR.out.tok (by omega) (by omega) _ _ _ _ _ _ _ _, Mv.tok (((Mv.refl b w).alloc _).trans HMM.out) (Nat.le_refl _) _ _ _ _ _ _ _ _⟩)

set_option maxHeartbeats 16000000 in
theorem ruby_no {b : Nat} {x : Addr} {c : Nat} {l : List Int} {i : Nat} {d : Int} (p : Int) (w : World) (h : RB w b x c l i d) (hcl : clsT p = none) : Calls Try.prog 46 #[.pointer (some ⟨b, 0, none⟩), .int .i64 p] w fun e w' => OutT b x c l d w (rubyT l i p) e w' := by
  have hlt := h.lt
  have hxw := h.xw
  have hat := h.at'
  have hw0 := h.alloc (tokO {})
  have HR0 := hide hw0
  have hE0 : Hid (rubyT l i p = (if p = 65 then .ok (lookT 5, i) else if p = 122 then .ok (lookT 6, i) else if p = 98 then .ok (lookT 7, i) else if p = 66 then .ok (lookT 8, i) else if p = 120 then hexT l i else if p = 117 then uniT l i else if p = 107 then agbT l i else if 49 ≤ p ∧ p ≤ 57 then .ok (agdT l i (p - 48)) else match ctlT p with | .ok q => .ok (pointT q, i) | .error e => .error e)) := by show _ = _; unfold rubyT; simp only [hcl]; rfl
  clear h hw0
  by_cases hp65 : p = 65
  · subst hp65
    have hE : Hid (rubyT l i 65 = .ok (lookT 5, i)) := by show _ = _; rw [hE0.out]; simp
    clear hcl hE0
    go_enter Try.func46, Try.ntmps46
    go_wp2_with fail
    refine (classes_any _).mono ?_
    rintro e w1 ⟨rfl, hmap, hb1⟩
    have hl1 := look_any2 hmap 65
    have hr1 := HR0.out.keep hb1
    have hm1 : Mv b (w.alloc (tokO {})) w1 := Mv.of_below hb1
    have hlt1 := hr1.lt
    have hxw1 := hr1.xw
    have hz1 : w.heap.size + 1 ≤ w1.heap.size := by have := hm1.size; simpa using this
    clear hmap hb1
    have hcl : clsT 65 = none := by decide +kernel
    simp only [hcl, clsV, Option.isSome_none, World.size_alloc] at hl1
    clear hcl
    clear HR0
    have hr2 := hr1.alloc (.cells #[.string ⟨#[]⟩, .bool false] 71)
    have hm2 := hm1.alloc (.cells #[.string ⟨#[]⟩, .bool false] 71)
    go_wp2_with fail
    refine (look_any 5 _).mono ?_
    rintro e w3 ⟨rfl, hb3⟩
    have hr := hr2.keep hb3
    have hm := hm2.trans (Mv.of_below hb3)
    have hN : w3.heap[w.heap.size]? = some (tokO {}) := hm.blockAt (at_new _ _) (by omega)
    obtain ⟨m0, m1, m2, m3, m4, m5, m6, m7⟩ := tok_cells hN
    have fr0 := tok_free hN
    have hq0 : w.heap.size < w3.heap.size := lt_of_block hN
    have hq1 : ¬ w.heap.size = w3.heap.size := by omega
    have hq2 : ¬ w3.heap.size = w.heap.size := by omega
    have HRR := hide hr
    have HMM := hide hm
    clear hr hm hr1 hm1 hr2 hm2 hb3 hl1
    simp only [tokV, lookT]
    go_wp21
    go_wp21
    go_wp21
    exact ret_tok (N := w.heap.size) rfl rfl (tok_set hN (lookT 5)) (.inl ⟨(lookT 5), i, hE.out, rfl, HRR.out.tok (by omega) (by omega) _ _ _ _ _ _ _ _, Mv.tok (((Mv.refl b w).alloc _).trans HMM.out) (Nat.le_refl _) _ _ _ _ _ _ _ _⟩)
  by_cases hp122 : p = 122
  · subst hp122
    have hE : Hid (rubyT l i 122 = .ok (lookT 6, i)) := by show _ = _; rw [hE0.out]; simp
    clear hcl hE0
    go_enter Try.func46, Try.ntmps46
    go_wp2_with fail
    refine (classes_any _).mono ?_
    rintro e w1 ⟨rfl, hmap, hb1⟩
    have hl1 := look_any2 hmap 122
    have hr1 := HR0.out.keep hb1
    have hm1 : Mv b (w.alloc (tokO {})) w1 := Mv.of_below hb1
    have hlt1 := hr1.lt
    have hxw1 := hr1.xw
    have hz1 : w.heap.size + 1 ≤ w1.heap.size := by have := hm1.size; simpa using this
    clear hmap hb1
    have hcl : clsT 122 = none := by decide +kernel
    simp only [hcl, clsV, Option.isSome_none, World.size_alloc] at hl1
    clear hcl
    clear HR0
    have hr2 := hr1.alloc (.cells #[.string ⟨#[]⟩, .bool false] 71)
    have hm2 := hm1.alloc (.cells #[.string ⟨#[]⟩, .bool false] 71)
    go_wp2_with fail
    refine (look_any 6 _).mono ?_
    rintro e w3 ⟨rfl, hb3⟩
    have hr := hr2.keep hb3
    have hm := hm2.trans (Mv.of_below hb3)
    have hN : w3.heap[w.heap.size]? = some (tokO {}) := hm.blockAt (at_new _ _) (by omega)
    obtain ⟨m0, m1, m2, m3, m4, m5, m6, m7⟩ := tok_cells hN
    have fr0 := tok_free hN
    have hq0 : w.heap.size < w3.heap.size := lt_of_block hN
    have hq1 : ¬ w.heap.size = w3.heap.size := by omega
    have hq2 : ¬ w3.heap.size = w.heap.size := by omega
    have HRR := hide hr
    have HMM := hide hm
    clear hr hm hr1 hm1 hr2 hm2 hb3 hl1
    simp only [tokV, lookT]
    go_wp21
    go_wp21
    go_wp21
    exact ret_tok (N := w.heap.size) rfl rfl (tok_set hN (lookT 6)) (.inl ⟨(lookT 6), i, hE.out, rfl, HRR.out.tok (by omega) (by omega) _ _ _ _ _ _ _ _, Mv.tok (((Mv.refl b w).alloc _).trans HMM.out) (Nat.le_refl _) _ _ _ _ _ _ _ _⟩)
  by_cases hp98 : p = 98
  · subst hp98
    have hE : Hid (rubyT l i 98 = .ok (lookT 7, i)) := by show _ = _; rw [hE0.out]; simp
    clear hcl hE0
    go_enter Try.func46, Try.ntmps46
    go_wp2_with fail
    refine (classes_any _).mono ?_
    rintro e w1 ⟨rfl, hmap, hb1⟩
    have hl1 := look_any2 hmap 98
    have hr1 := HR0.out.keep hb1
    have hm1 : Mv b (w.alloc (tokO {})) w1 := Mv.of_below hb1
    have hlt1 := hr1.lt
    have hxw1 := hr1.xw
    have hz1 : w.heap.size + 1 ≤ w1.heap.size := by have := hm1.size; simpa using this
    clear hmap hb1
    have hcl : clsT 98 = none := by decide +kernel
    simp only [hcl, clsV, Option.isSome_none, World.size_alloc] at hl1
    clear hcl
    clear HR0
    have hr2 := hr1.alloc (.cells #[.string ⟨#[]⟩, .bool false] 71)
    have hm2 := hm1.alloc (.cells #[.string ⟨#[]⟩, .bool false] 71)
    go_wp2_with fail
    refine (look_any 7 _).mono ?_
    rintro e w3 ⟨rfl, hb3⟩
    have hr := hr2.keep hb3
    have hm := hm2.trans (Mv.of_below hb3)
    have hN : w3.heap[w.heap.size]? = some (tokO {}) := hm.blockAt (at_new _ _) (by omega)
    obtain ⟨m0, m1, m2, m3, m4, m5, m6, m7⟩ := tok_cells hN
    have fr0 := tok_free hN
    have hq0 : w.heap.size < w3.heap.size := lt_of_block hN
    have hq1 : ¬ w.heap.size = w3.heap.size := by omega
    have hq2 : ¬ w3.heap.size = w.heap.size := by omega
    have HRR := hide hr
    have HMM := hide hm
    clear hr hm hr1 hm1 hr2 hm2 hb3 hl1
    simp only [tokV, lookT]
    go_wp21
    go_wp21
    go_wp21
    exact ret_tok (N := w.heap.size) rfl rfl (tok_set hN (lookT 7)) (.inl ⟨(lookT 7), i, hE.out, rfl, HRR.out.tok (by omega) (by omega) _ _ _ _ _ _ _ _, Mv.tok (((Mv.refl b w).alloc _).trans HMM.out) (Nat.le_refl _) _ _ _ _ _ _ _ _⟩)
  by_cases hp66 : p = 66
  · subst hp66
    have hE : Hid (rubyT l i 66 = .ok (lookT 8, i)) := by show _ = _; rw [hE0.out]; simp
    clear hcl hE0
    go_enter Try.func46, Try.ntmps46
    go_wp2_with fail
    refine (classes_any _).mono ?_
    rintro e w1 ⟨rfl, hmap, hb1⟩
    have hl1 := look_any2 hmap 66
    have hr1 := HR0.out.keep hb1
    have hm1 : Mv b (w.alloc (tokO {})) w1 := Mv.of_below hb1
    have hlt1 := hr1.lt
    have hxw1 := hr1.xw
    have hz1 : w.heap.size + 1 ≤ w1.heap.size := by have := hm1.size; simpa using this
    clear hmap hb1
    have hcl : clsT 66 = none := by decide +kernel
    simp only [hcl, clsV, Option.isSome_none, World.size_alloc] at hl1
    clear hcl
    clear HR0
    have hr2 := hr1.alloc (.cells #[.string ⟨#[]⟩, .bool false] 71)
    have hm2 := hm1.alloc (.cells #[.string ⟨#[]⟩, .bool false] 71)
    go_wp2_with fail
    refine (look_any 8 _).mono ?_
    rintro e w3 ⟨rfl, hb3⟩
    have hr := hr2.keep hb3
    have hm := hm2.trans (Mv.of_below hb3)
    have hN : w3.heap[w.heap.size]? = some (tokO {}) := hm.blockAt (at_new _ _) (by omega)
    obtain ⟨m0, m1, m2, m3, m4, m5, m6, m7⟩ := tok_cells hN
    have fr0 := tok_free hN
    have hq0 : w.heap.size < w3.heap.size := lt_of_block hN
    have hq1 : ¬ w.heap.size = w3.heap.size := by omega
    have hq2 : ¬ w3.heap.size = w.heap.size := by omega
    have HRR := hide hr
    have HMM := hide hm
    clear hr hm hr1 hm1 hr2 hm2 hb3 hl1
    simp only [tokV, lookT]
    go_wp21
    go_wp21
    go_wp21
    exact ret_tok (N := w.heap.size) rfl rfl (tok_set hN (lookT 8)) (.inl ⟨(lookT 8), i, hE.out, rfl, HRR.out.tok (by omega) (by omega) _ _ _ _ _ _ _ _, Mv.tok (((Mv.refl b w).alloc _).trans HMM.out) (Nat.le_refl _) _ _ _ _ _ _ _ _⟩)
  by_cases hp120 : p = 120
  · subst hp120
    have HR : Hid (rubyT l i 120 = hexT l i) := by show _ = _; rw [hE0.out]; simp
    clear hcl hE0
    go_enter Try.func46, Try.ntmps46
    go_wp2_with fail
    refine (classes_any _).mono ?_
    rintro e w1 ⟨rfl, hmap, hb1⟩
    have hl1 := look_any2 hmap 120
    have hr1 := HR0.out.keep hb1
    have hm1 : Mv b (w.alloc (tokO {})) w1 := Mv.of_below hb1
    have hlt1 := hr1.lt
    have hxw1 := hr1.xw
    have hz1 : w.heap.size + 1 ≤ w1.heap.size := by have := hm1.size; simpa using this
    clear hmap hb1
    have hcl : clsT 120 = none := by decide +kernel
    simp only [hcl, clsV, Option.isSome_none, World.size_alloc] at hl1
    clear hcl
    clear HR0
    have hr2 := hr1.alloc (.cells #[.string ⟨#[]⟩, .bool false] 71)
    have hm2 := hm1.alloc (.cells #[.string ⟨#[]⟩, .bool false] 71)
    go_wp2_with fail
    refine (hexPoint_any _ hr2).mono ?_
    rintro e w3 (⟨t, k, hR, rfl, hr, hm9⟩ | ⟨z, hR, rfl, hm9⟩)
    · have hE := hide (HR.out.trans hR)
      have hm := hm2.trans hm9
      have hN : w3.heap[w.heap.size]? = some (tokO {}) := hm.blockAt (at_new _ _) (by omega)
      obtain ⟨m0, m1, m2, m3, m4, m5, m6, m7⟩ := tok_cells hN
      have fr0 := tok_free hN
      have hq0 : w.heap.size < w3.heap.size := lt_of_block hN
      have hq1 : ¬ w.heap.size = w3.heap.size := by omega
      have hq2 : ¬ w3.heap.size = w.heap.size := by omega
      have HRR := hide hr
      have HMM := hide hm
      clear hr hm hm9 hR HR hr1 hm1 hr2 hm2 hl1
      simp only [tokV]
      go_wp21
      go_wp21
      exact ret_tok (N := w.heap.size) rfl rfl (tok_set hN t) (.inl ⟨t, k, hE.out, rfl, HRR.out.tok (by omega) (by omega) _ _ _ _ _ _ _ _, Mv.tok (((Mv.refl b w).alloc _).trans HMM.out) (Nat.le_refl _) _ _ _ _ _ _ _ _⟩)
    · have hE := hide (HR.out.trans hR)
      have hm := hm2.trans hm9
      have HMM := hide hm
      clear hm hm9 hR HR hr1 hm1 hr2 hm2 hl1
      simp only [gives]
      go_wp2
      exact ⟨rfl, .inr ⟨z, hE.out, rfl, ((Mv.refl b w).alloc _).trans HMM.out⟩⟩
  by_cases hp107 : p = 107
  · subst hp107
    have HR : Hid (rubyT l i 107 = agbT l i) := by show _ = _; rw [hE0.out]; simp
    clear hcl hE0
    go_enter Try.func46, Try.ntmps46
    go_wp2_with fail
    refine (classes_any _).mono ?_
    rintro e w1 ⟨rfl, hmap, hb1⟩
    have hl1 := look_any2 hmap 107
    have hr1 := HR0.out.keep hb1
    have hm1 : Mv b (w.alloc (tokO {})) w1 := Mv.of_below hb1
    have hlt1 := hr1.lt
    have hxw1 := hr1.xw
    have hz1 : w.heap.size + 1 ≤ w1.heap.size := by have := hm1.size; simpa using this
    clear hmap hb1
    have hcl : clsT 107 = none := by decide +kernel
    simp only [hcl, clsV, Option.isSome_none, World.size_alloc] at hl1
    clear hcl
    clear HR0
    have hr2 := hr1.alloc (.cells #[.string ⟨#[]⟩, .bool false] 71)
    have hm2 := hm1.alloc (.cells #[.string ⟨#[]⟩, .bool false] 71)
    go_wp2_with fail
    refine (againBy_any _ hr2).mono ?_
    rintro e w3 (⟨t, k, hR, rfl, hr, hm9⟩ | ⟨z, hR, rfl, hm9⟩)
    · have hE := hide (HR.out.trans hR)
      have hm := hm2.trans hm9
      have hN : w3.heap[w.heap.size]? = some (tokO {}) := hm.blockAt (at_new _ _) (by omega)
      obtain ⟨m0, m1, m2, m3, m4, m5, m6, m7⟩ := tok_cells hN
      have fr0 := tok_free hN
      have hq0 : w.heap.size < w3.heap.size := lt_of_block hN
      have hq1 : ¬ w.heap.size = w3.heap.size := by omega
      have hq2 : ¬ w3.heap.size = w.heap.size := by omega
      have HRR := hide hr
      have HMM := hide hm
      clear hr hm hm9 hR HR hr1 hm1 hr2 hm2 hl1
      simp only [tokV]
      go_wp21
      go_wp21
      exact ret_tok (N := w.heap.size) rfl rfl (tok_set hN t) (.inl ⟨t, k, hE.out, rfl, HRR.out.tok (by omega) (by omega) _ _ _ _ _ _ _ _, Mv.tok (((Mv.refl b w).alloc _).trans HMM.out) (Nat.le_refl _) _ _ _ _ _ _ _ _⟩)
    · have hE := hide (HR.out.trans hR)
      have hm := hm2.trans hm9
      have HMM := hide hm
      clear hm hm9 hR HR hr1 hm1 hr2 hm2 hl1
      simp only [gives]
      go_wp2
      exact ⟨rfl, .inr ⟨z, hE.out, rfl, ((Mv.refl b w).alloc _).trans HMM.out⟩⟩
  by_cases hp117 : p = 117
  · subst hp117
    have HR : Hid (rubyT l i 117 = uniT l i) := by show _ = _; rw [hE0.out]; simp
    obtain ⟨n, k, he, hr0⟩ := digs_spec 16 4 l i hat (Or.inr rfl)
    by_cases hk : k < 4
    · have hE : Hid (rubyT l i 117 = .error 1) := by show _ = _; rw [HR.out]; unfold uniT; simp only [he]; rw [if_pos hk]
      have HX := hide (fun w1 (h1 : RB w1 b x c l i d) => hex_not (least := 4) w1 h1 (by omega) (by omega) he hk)
      clear hcl hE0 he hr0 HR
      go_enter Try.func46, Try.ntmps46
      go_wp2_with fail
      refine (classes_any _).mono ?_
      rintro e w1 ⟨rfl, hmap, hb1⟩
      have hl1 := look_any2 hmap 117
      have hr1 := HR0.out.keep hb1
      have hm1 : Mv b (w.alloc (tokO {})) w1 := Mv.of_below hb1
      have hlt1 := hr1.lt
      have hxw1 := hr1.xw
      have hz1 : w.heap.size + 1 ≤ w1.heap.size := by have := hm1.size; simpa using this
      clear hmap hb1
      have hcl : clsT 117 = none := by decide +kernel
      simp only [hcl, clsV, Option.isSome_none, World.size_alloc] at hl1
      clear hcl
      clear HR0
      have hr2 := hr1.alloc (.cells #[.string ⟨#[]⟩, .bool false] 71)
      have hm2 := hm1.alloc (.cells #[.string ⟨#[]⟩, .bool false] 71)
      go_wp2_with fail
      refine (HX.out _ hr2).mono ?_
      rintro e w3 ⟨rfl, hm3⟩
      have hm := hm2.trans hm3
      have HMM := hide hm
      clear hm hr1 hm1 hr2 hm2 hm3 HX hl1
      simp only [gives]
      go_wp2
      exact ⟨rfl, .inr ⟨1, hE.out, rfl, ((Mv.refl b w).alloc _).trans HMM.out⟩⟩
    · have hE : Hid (rubyT l i 117 = .ok (pointT n, i + k)) := by show _ = _; rw [HR.out]; unfold uniT; simp only [he]; rw [if_neg hk]
      have HX := hide (fun w1 (h1 : RB w1 b x c l i d) => hex_is (least := 4) w1 h1 (by omega) (by omega) he (by omega))
      clear hcl hE0 he hr0 HR
      go_enter Try.func46, Try.ntmps46
      go_wp2_with fail
      refine (classes_any _).mono ?_
      rintro e w1 ⟨rfl, hmap, hb1⟩
      have hl1 := look_any2 hmap 117
      have hr1 := HR0.out.keep hb1
      have hm1 : Mv b (w.alloc (tokO {})) w1 := Mv.of_below hb1
      have hlt1 := hr1.lt
      have hxw1 := hr1.xw
      have hz1 : w.heap.size + 1 ≤ w1.heap.size := by have := hm1.size; simpa using this
      clear hmap hb1
      have hcl : clsT 117 = none := by decide +kernel
      simp only [hcl, clsV, Option.isSome_none, World.size_alloc] at hl1
      clear hcl
      clear HR0
      have hr2 := hr1.alloc (.cells #[.string ⟨#[]⟩, .bool false] 71)
      have hm2 := hm1.alloc (.cells #[.string ⟨#[]⟩, .bool false] 71)
      go_wp2_with fail
      refine (HX.out _ hr2).mono ?_
      rintro e w3 ⟨rfl, hr3, hm3⟩
      go_wp2_with fail
      refine (point_any n w3).mono ?_
      rintro e w4 ⟨rfl, hb4⟩
      have hr := hr3.keep hb4
      have hm := (hm2.trans hm3).trans (Mv.of_below hb4)
      have hN : w4.heap[w.heap.size]? = some (tokO {}) := hm.blockAt (at_new _ _) (by omega)
      obtain ⟨m0, m1, m2, m3, m4, m5, m6, m7⟩ := tok_cells hN
      have fr0 := tok_free hN
      have hq0 : w.heap.size < w4.heap.size := lt_of_block hN
      have hq1 : ¬ w.heap.size = w4.heap.size := by omega
      have hq2 : ¬ w4.heap.size = w.heap.size := by omega
      have HRR := hide hr
      have HMM := hide hm
      clear hr hm hr1 hm1 hr2 hm2 hr3 hm3 hb4 HX hl1
      simp only [tokV, pointT]
      go_wp21
      go_wp21
      go_wp21
      exact ret_tok (N := w.heap.size) rfl rfl (tok_set hN (pointT n)) (.inl ⟨(pointT n), (i + k), hE.out, rfl, HRR.out.tok (by omega) (by omega) _ _ _ _ _ _ _ _, Mv.tok (((Mv.refl b w).alloc _).trans HMM.out) (Nat.le_refl _) _ _ _ _ _ _ _ _⟩)
  have hq65 : (p == 65) = false := by simpa using hp65
  have hq122 : (p == 122) = false := by simpa using hp122
  have hq98 : (p == 98) = false := by simpa using hp98
  have hq66 : (p == 66) = false := by simpa using hp66
  have hq120 : (p == 120) = false := by simpa using hp120
  have hq117 : (p == 117) = false := by simpa using hp117
  have hq107 : (p == 107) = false := by simpa using hp107
  by_cases hdg : 49 ≤ p ∧ p ≤ 57
  · have HR : Hid (rubyT l i p = .ok (agdT l i (p - 48))) := by show _ = _; rw [hE0.out]; simp [hp65, hp122, hp98, hp66, hp120, hp117, hp107, hdg]
    obtain ⟨hd1, hd2⟩ := hdg
    clear hE0 hp65 hp122 hp98 hp66 hp120 hp117 hp107
    go_enter Try.func46, Try.ntmps46
    go_wp2_with fail
    refine (classes_any _).mono ?_
    rintro e w1 ⟨rfl, hmap, hb1⟩
    have hl1 := look_any2 hmap p
    have hr1 := HR0.out.keep hb1
    have hm1 : Mv b (w.alloc (tokO {})) w1 := Mv.of_below hb1
    have hlt1 := hr1.lt
    have hxw1 := hr1.xw
    have hz1 : w.heap.size + 1 ≤ w1.heap.size := by have := hm1.size; simpa using this
    clear hmap hb1
    simp only [hcl, clsV, Option.isSome_none, World.size_alloc] at hl1
    clear HR0 hcl
    have hr2 := hr1.alloc (.cells #[.string ⟨#[]⟩, .bool false] 71)
    have hm2 := hm1.alloc (.cells #[.string ⟨#[]⟩, .bool false] 71)
    go_wp2_with fail
    refine (againDigits_any (p - 48) _ hr2 (by omega) (by omega)).mono ?_
    rintro e w3 (⟨t, k, hR, rfl, hr, hm9⟩ | ⟨z, hR, rfl, hm9⟩)
    · have hE := hide (HR.out.trans hR)
      have hm := hm2.trans hm9
      have hN : w3.heap[w.heap.size]? = some (tokO {}) := hm.blockAt (at_new _ _) (by omega)
      obtain ⟨m0, m1, m2, m3, m4, m5, m6, m7⟩ := tok_cells hN
      have fr0 := tok_free hN
      have hq0 : w.heap.size < w3.heap.size := lt_of_block hN
      have hq1 : ¬ w.heap.size = w3.heap.size := by omega
      have hq2 : ¬ w3.heap.size = w.heap.size := by omega
      have HRR := hide hr
      have HMM := hide hm
      clear hr hm hm9 hR HR hr1 hm1 hr2 hm2 hl1
      simp only [tokV]
      go_wp21
      go_wp21
      exact ret_tok (N := w.heap.size) rfl rfl (tok_set hN t) (.inl ⟨t, k, hE.out, rfl, HRR.out.tok (by omega) (by omega) _ _ _ _ _ _ _ _, Mv.tok (((Mv.refl b w).alloc _).trans HMM.out) (Nat.le_refl _) _ _ _ _ _ _ _ _⟩)
    · have hE := hide (HR.out.trans hR)
      have hm := hm2.trans hm9
      have HMM := hide hm
      clear hm hm9 hR HR hr1 hm1 hr2 hm2 hl1
      simp only [gives]
      go_wp2
      exact ⟨rfl, .inr ⟨z, hE.out, rfl, ((Mv.refl b w).alloc _).trans HMM.out⟩⟩
  · have HR : Hid (rubyT l i p = (match ctlT p with | .ok q => .ok (pointT q, i) | .error e => .error e)) := by show _ = _; rw [hE0.out, if_neg hp65, if_neg hp122, if_neg hp98, if_neg hp66, if_neg hp120, if_neg hp117, if_neg hp107, if_neg hdg]
    have hCT := hide (control_any p)
    have hnd : ¬ (49 ≤ p ∧ p ≤ 57) := hdg
    clear hE0 hp65 hp122 hp98 hp66 hp120 hp117 hp107
    by_cases h49 : 49 ≤ p
    · have h57 : ¬ p ≤ 57 := by omega
      clear hdg hnd
      go_enter Try.func46, Try.ntmps46
      go_wp2_with fail
      refine (classes_any _).mono ?_
      rintro e w1 ⟨rfl, hmap, hb1⟩
      have hl1 := look_any2 hmap p
      have hr1 := HR0.out.keep hb1
      have hm1 : Mv b (w.alloc (tokO {})) w1 := Mv.of_below hb1
      have hlt1 := hr1.lt
      have hxw1 := hr1.xw
      have hz1 : w.heap.size + 1 ≤ w1.heap.size := by have := hm1.size; simpa using this
      clear hmap hb1
      simp only [hcl, clsV, Option.isSome_none, World.size_alloc] at hl1
      clear HR0 hcl
      have hr2 := hr1.alloc (.cells #[.string ⟨#[]⟩, .bool false] 71)
      have hm2 := hm1.alloc (.cells #[.string ⟨#[]⟩, .bool false] 71)
      go_wp2_with fail
      refine (hCT.out _).mono ?_
      rintro e w3 (⟨q, hq, rfl, rfl⟩ | ⟨hq, rfl, rfl⟩)
      · have hE : Hid (rubyT l i p = .ok (pointT q, i)) := by show _ = _; rw [HR.out, hq]
        go_wp2_with fail
        refine (point_any q _).mono ?_
        rintro e w4 ⟨rfl, hb4⟩
        have hr := hr2.keep hb4
        have hm := hm2.trans (Mv.of_below hb4)
        have hN : w4.heap[w.heap.size]? = some (tokO {}) := hm.blockAt (at_new _ _) (by omega)
        obtain ⟨m0, m1, m2, m3, m4, m5, m6, m7⟩ := tok_cells hN
        have fr0 := tok_free hN
        have hq0 : w.heap.size < w4.heap.size := lt_of_block hN
        have hq1 : ¬ w.heap.size = w4.heap.size := by omega
        have hq2 : ¬ w4.heap.size = w.heap.size := by omega
        have HRR := hide hr
        have HMM := hide hm
        clear hr hm hr1 hm1 hr2 hm2 hb4 hl1 hq HR
        simp only [tokV, pointT]
        go_wp21
        go_wp21
        go_wp21
        exact ret_tok (N := w.heap.size) rfl rfl (tok_set hN (pointT q)) (.inl ⟨(pointT q), i, hE.out, rfl, HRR.out.tok (by omega) (by omega) _ _ _ _ _ _ _ _, Mv.tok (((Mv.refl b w).alloc _).trans HMM.out) (Nat.le_refl _) _ _ _ _ _ _ _ _⟩)
      · have hE : Hid (rubyT l i p = .error 1) := by show _ = _; rw [HR.out, hq]
        have hm := hm2
        have HMM := hide hm
        clear hm hr1 hm1 hr2 hm2 hl1 hq HR
        simp only [gives]
        go_wp2
        exact ⟨rfl, .inr ⟨1, hE.out, rfl, ((Mv.refl b w).alloc _).trans HMM.out⟩⟩
    · clear hdg hnd
      go_enter Try.func46, Try.ntmps46
      go_wp2_with fail
      refine (classes_any _).mono ?_
      rintro e w1 ⟨rfl, hmap, hb1⟩
      have hl1 := look_any2 hmap p
      have hr1 := HR0.out.keep hb1
      have hm1 : Mv b (w.alloc (tokO {})) w1 := Mv.of_below hb1
      have hlt1 := hr1.lt
      have hxw1 := hr1.xw
      have hz1 : w.heap.size + 1 ≤ w1.heap.size := by have := hm1.size; simpa using this
      clear hmap hb1
      simp only [hcl, clsV, Option.isSome_none, World.size_alloc] at hl1
      clear HR0 hcl
      have hr2 := hr1.alloc (.cells #[.string ⟨#[]⟩, .bool false] 71)
      have hm2 := hm1.alloc (.cells #[.string ⟨#[]⟩, .bool false] 71)
      go_wp2_with fail
      refine (hCT.out _).mono ?_
      rintro e w3 (⟨q, hq, rfl, rfl⟩ | ⟨hq, rfl, rfl⟩)
      · have hE : Hid (rubyT l i p = .ok (pointT q, i)) := by show _ = _; rw [HR.out, hq]
        go_wp2_with fail
        refine (point_any q _).mono ?_
        rintro e w4 ⟨rfl, hb4⟩
        have hr := hr2.keep hb4
        have hm := hm2.trans (Mv.of_below hb4)
        have hN : w4.heap[w.heap.size]? = some (tokO {}) := hm.blockAt (at_new _ _) (by omega)
        obtain ⟨m0, m1, m2, m3, m4, m5, m6, m7⟩ := tok_cells hN
        have fr0 := tok_free hN
        have hq0 : w.heap.size < w4.heap.size := lt_of_block hN
        have hq1 : ¬ w.heap.size = w4.heap.size := by omega
        have hq2 : ¬ w4.heap.size = w.heap.size := by omega
        have HRR := hide hr
        have HMM := hide hm
        clear hr hm hr1 hm1 hr2 hm2 hb4 hl1 hq HR
        simp only [tokV, pointT]
        go_wp21
        go_wp21
        go_wp21
        exact ret_tok (N := w.heap.size) rfl rfl (tok_set hN (pointT q)) (.inl ⟨(pointT q), i, hE.out, rfl, HRR.out.tok (by omega) (by omega) _ _ _ _ _ _ _ _, Mv.tok (((Mv.refl b w).alloc _).trans HMM.out) (Nat.le_refl _) _ _ _ _ _ _ _ _⟩)
      · have hE : Hid (rubyT l i p = .error 1) := by show _ = _; rw [HR.out, hq]
        have hm := hm2
        have HMM := hide hm
        clear hm hr1 hm1 hr2 hm2 hl1 hq HR
        simp only [gives]
        go_wp2
        exact ⟨rfl, .inr ⟨1, hE.out, rfl, ((Mv.refl b w).alloc _).trans HMM.out⟩⟩

theorem ruby_any {b : Nat} {x : Addr} {c : Nat} {l : List Int} {i : Nat} {d : Int} (p : Int) (w : World) (h : RB w b x c l i d) : Calls Try.prog 46 #[.pointer (some ⟨b, 0, none⟩), .int .i64 p] w fun e w' => OutT b x c l d w (rubyT l i p) e w' := by
  cases hcl : clsT p with
  | none => exact ruby_no p w h hcl
  | some c9 => exact ruby_cls p c9 w h hcl

end Go.Proofs.Ytlapnhjkhpgklaa
