/- Roads: one road more. -/
import Derived.Test.YtljankfhnmcbaaaGreatDoorPSq3
import Derived.Laws.AppendOwn
namespace Go.Proofs.YtljankfhnmcbaaaGreatDoor.SP
open Go.RowKit Go.PlainAid
set_option linter.unusedVariables false

theorem lt_blockS {w : World} {g : Nat} {o : Obj} (h : w.heap[g]? = some o) : g < w.heap.size := (Array.getElem?_eq_some_iff.1 h).1
theorem wsetS {w : World} {N : Nat} {cs : Array Value} {e : TypeId} {fr : Nat × Nat} (h : w.heap[N]? = some (.cells cs e fr)) (o : Nat) (v : Value) : (w.setCell ⟨N, o, none⟩ v).heap[N]? = some (.cells (cs.setIfInBounds o v) e fr) := by
  have hlt := lt_blockS h
  have h' : w.heap[N] = .cells cs e fr := by simpa [Array.getElem?_eq_getElem hlt] using h
  show (w.heap.modify N _)[N]? = _
  rw [Array.getElem?_eq_getElem (by simpa using hlt), Array.getElem_modify_self, h']
  rfl
theorem wotherS {w : World} {B e k n : Nat} {v : Value} {xs : List Value} {b o : Nat} {u : Value} (h : w.ownsRow B e k v n xs) (hb : v.ownBlock ≠ some b) : (w.setCell ⟨b, o, none⟩ u).ownsRow B e k v n xs := by
  obtain ⟨h1, h2⟩ := h
  refine ⟨h1, ?_⟩
  rcases h2 with h2 | ⟨g, cap, cur, hv, hg, hh, r⟩
  · exact .inl h2
  · refine .inr ⟨g, cap, cur, hv, hg, ?_, r⟩
    rw [Below.heap_setCell _ _ _ _ (fun e => hb (by rw [hv]; simp [Value.ownBlock]; exact e))]
    exact hh
theorem own_elemS {B e k n : Nat} {w : World} {v : Value} {xs : List Value} (h : w.ownsRow B e k v n xs) {g : Nat} (hg : v.ownBlock = some g) : ∃ cur, w.heap[g]? = some (.cells cur e (0, 0)) := by
  rcases h.2 with ⟨rfl, _⟩ | ⟨g', cap, cur, rfl, _, hh, _⟩
  · cases hg
  · have : g' = g := Option.some.inj hg
    subst this
    exact ⟨_, hh⟩
theorem own_keepS {B e k n : Nat} {w w' : World} {v : Value} {xs : List Value} (h : w.ownsRow B e k v n xs) (hb : Below w.heap.size w w') : w'.ownsRow B e k v n xs := by
  obtain ⟨h1, h2⟩ := h
  refine ⟨h1, ?_⟩
  rcases h2 with h2 | ⟨g, cap, cur, hv, hg, hh, r⟩
  · exact .inl h2
  · exact .inr ⟨g, cap, cur, hv, hg, rdO_keep hh hb, r⟩
/-- roads in a box, all of them of one's own. -/
structure RBx (B : Nat) (w : World) (bR : Nat) (LL : List RL) (v : Value) (us : List Value) : Prop where
  lo : B ≤ bR
  box : w.heap[bR]? = some (.cells #[v] 30 (0, 0))
  own : w.ownsRow B 22 1 v LL.length us
  len : us.length = LL.length
  rds : ∀ j (h : j < LL.length), ∃ g, B ≤ g ∧ us[j]? = some (.slice (some ⟨g, 0, none⟩) LL[j].length LL[j].length) ∧ w.heap[g]? = some (rdO LL[j] 0)
/-- all that is neither the box nor a row of roads stays. -/
def Kr (b : Nat) (w w' : World) : Prop := ∀ k cs T fr, k ≠ b → T ≠ 22 → w.heap[k]? = some (.cells cs T fr) → w'.heap[k]? = some (.cells cs T fr)
theorem Kr.refl (b : Nat) (w : World) : Kr b w w := fun _ _ _ _ _ _ h => h
theorem Kr.trans {b : Nat} {w w' w'' : World} (h : Kr b w w') (h' : Kr b w' w'') : Kr b w w'' := fun k cs T fr a c d => h' k cs T fr a c (h k cs T fr a c d)
theorem Kr.below {b : Nat} {w w' : World} (h : Below w.heap.size w w') : Kr b w w' := fun k cs T fr _ _ d => rdO_keep d h
theorem RBx.keep {B bR : Nat} {w w' : World} {LL : List RL} {v : Value} {us : List Value} (h : RBx B w bR LL v us) (hb : Below w.heap.size w w') : RBx B w' bR LL v us :=
  ⟨h.lo, rdO_keep h.box hb, own_keepS h.own hb, h.len, fun j hj => by obtain ⟨g, h1, h2, h3⟩ := h.rds j hj; exact ⟨g, h1, h2, rdO_keep h3 hb⟩⟩
theorem infoSl : (Tryz.prog.info? 22).map (fun i => (i.zero, i.size, i.bytes)) = some (some (.slice none 0 0), 1, 24) := by kernel_rfl
/-- a row of roads with one more. -/
theorem RBx.more {B bR : Nat} {w : World} {LL : List RL} {v : Value} {us : List Value} (h : RBx B w bR LL v us) {L : RL} {g : Nat} (hg : B ≤ g) (hL : w.heap[g]? = some (rdO L 0)) (hB : B ≤ w.heap.size) (hl : LL.length ≤ 10000000000) :
    ∃ v' w', (Builtin.append_ #[30, 30] 30 #[v, .slice (some ⟨w.heap.size, 0, none⟩) 1 1]).run Tryz.prog (w.alloc (.cells #[.slice (some ⟨g, 0, none⟩) L.length L.length] 22)) = .ok v' w' ∧
      w'.cell? ⟨bR, 0, none⟩ = some v ∧ w'.frozen? ⟨bR, 0, none⟩ = false ∧ RBx B (w'.setCell ⟨bR, 0, none⟩ v') bR (LL ++ [L]) v' (us ++ [.slice (some ⟨g, 0, none⟩) L.length L.length]) ∧ Below B w (w'.setCell ⟨bR, 0, none⟩ v') ∧ Kr bR w (w'.setCell ⟨bR, 0, none⟩ v') := by
  obtain ⟨i, hi, hz, hs, hb⟩ := parts_of infoSl
  have hbw : Below w.heap.size w (w.alloc (.cells #[.slice (some ⟨g, 0, none⟩) L.length L.length] 22)) := (Below.refl _ w).alloc (Nat.le_refl _) _
  have hk := h.keep hbw
  obtain ⟨W, hW⟩ : ∃ W, W = w.alloc (.cells #[.slice (some ⟨g, 0, none⟩) L.length L.length] 22) := ⟨_, rfl⟩
  have hnew : W.heap[w.heap.size]? = some (.cells #[.slice (some ⟨g, 0, none⟩) L.length L.length] 22) := by rw [hW]; exact at_newS _ _
  rw [← hW] at hbw hk ⊢
  have hsz := hbw.size
  obtain ⟨v', w', hr, ho, hgr, _⟩ := run_append_own (P := Tryz.prog) W B 30 30 22 i _ 1 24 Tryz.underlying30 hi hz hs hb rfl (by omega) v LL.length us hk.own ⟨w.heap.size, 0, none⟩ 1 1 [.slice (some ⟨g, 0, none⟩) L.length L.length] rfl
    (fun j u hu => by
      have : j = 0 := by
        cases j with
        | zero => rfl
        | succ j => simp at hu
      subst this
      simp at hu
      subst hu
      show W.cell? ⟨w.heap.size, 0, none⟩ = _
      simp [World.cell?, hnew]) (by intro u hu; simp at hu; subst hu; rfl) (by unfold maxLen; omega) (by omega) (by omega)
  have hne : v.ownBlock ≠ some bR := fun e => by
    obtain ⟨cur, hc⟩ := own_elemS hk.own e
    rw [hk.box] at hc
    have := Option.some.inj hc
    injection this with _ h2 _
    exact absurd h2 (by decide)
  have hbox' : w'.heap[bR]? = some (.cells #[v] 30 (0, 0)) := by rw [hgr.block bR (lt_blockS hk.box) (fun e => hne e.symm)]; exact hk.box
  have hne' : v'.ownBlock ≠ some bR := fun e => by
    obtain ⟨cur, hc⟩ := own_elemS ho e
    rw [hbox'] at hc
    have := Option.some.inj hc
    injection this with _ h2 _
    exact absurd h2 (by decide)
  have hkr : Kr bR W w' := fun k cs T fr hk1 hT hc => by
    rw [hgr.block k (lt_blockS hc) (fun e => ?_)]
    · exact hc
    · obtain ⟨cur, hcur⟩ := own_elemS hk.own e.symm
      rw [hc] at hcur
      have := Option.some.inj hcur
      injection this with _ h2 _
      exact hT h2
  have hks : Kr bR w' (w'.setCell ⟨bR, 0, none⟩ v') := fun k cs T fr hk1 _ hc => by rw [Below.heap_setCell _ _ _ _ hk1]; exact hc
  have hkall : Kr bR w (w'.setCell ⟨bR, 0, none⟩ v') := (Kr.below hbw).trans (hkr.trans hks)
  have hrd : ∀ (g : Nat) (L : RL), w.heap[g]? = some (rdO L 0) → (w'.setCell ⟨bR, 0, none⟩ v').heap[g]? = some (rdO L 0) := fun g L hh => hkall g _ _ _ (fun e => by
      subst e
      rw [h.box] at hh
      have := Option.some.inj hh
      unfold rdO at this
      injection this with _ h2 _
      exact absurd h2 (by decide)) (by decide) hh
  refine ⟨v', w', hr, by simp [World.cell?, hbox'], by simp [World.frozen?, hbox'], ⟨h.lo, by rw [wsetS hbox']; rfl, ?_, ?_, ?_⟩, ?_, hkall⟩
  · have := wotherS (o := 0) (u := v') ho hne'
    simpa using this
  · simp [h.len]
  · intro j hj
    by_cases hjl : j < LL.length
    · obtain ⟨g', h1, h2, h3⟩ := h.rds j hjl
      refine ⟨g', h1, ?_, ?_⟩
      · rw [List.getElem?_append_left (by rw [h.len]; exact hjl), List.getElem_append_left hjl]; exact h2
      · rw [List.getElem_append_left hjl]; exact hrd g' _ h3
    · have hje : j = LL.length := by simp at hj; omega
      subst hje
      refine ⟨g, hg, ?_, ?_⟩
      · rw [List.getElem?_append_right (by rw [h.len]; exact Nat.le_refl _), h.len]; simp
      · simp only [List.getElem_append_right (Nat.le_refl _), Nat.sub_self, List.getElem_cons_zero]
        exact hrd g _ hL
  · have h1 : Below B W w' := (Below.refl B W).grown hgr (by omega) (fun k hk1 => (hk.own.lt k hk1).1)
    exact (hbw.mono hB).trans (h1.setCell (p := ⟨bR, 0, none⟩) h.lo _)
theorem step_run {P : Program} {ops : Array Oper} {o : Oper} {a : Act} {w : World} {K : Act → World → Prop} {Q : Exit → Act → World → Prop} {E : Prop} (hgd : o.guard = none) (s x : Operand) (t : TypeId)
    (ho : o.op = .call { callee := .builtin .append, args := #[s, x], argTypes := #[t, t] }) (v v2 v' : Value) (w' : World) (hs : a.eval s = v) (hx : a.eval x = v2) (hr : (Builtin.append_ #[t, t] o.type #[v, v2]).run P w = .ok v' w') (h : K (a.put o.dst v') w') :
    if Region.wanted o (yielded ops a.tmps) = true then Oper.wp P o a w K Q else E := by
  have hw : Region.wanted o (yielded ops a.tmps) = true := by simp [Region.wanted, hgd]
  rw [if_pos hw]
  unfold Oper.wp execOp
  simp only [ho, resolve, invoke, builtin, Sem.run_bind, Sem.run_pure, Result.andThen_ok, List.map_toArray, List.map_cons, List.map_nil, hs, hx, hr]
  exact h
/-- what one road more comes to. -/
def TakeE (B bR : Nat) (LL : List RL) (w : World) (e : Ending) (w' : World) : Prop := e = .returned (.tuple #[]) ∧ (∃ v us, RBx B w' bR LL v us) ∧ Below B w w' ∧ Kr bR w w'
set_option maxRecDepth 100000 in
set_option maxHeartbeats 4000000 in
theorem take_any (B bR bS : Nat) (LL : List RL) (v : Value) (us : List Value) (s : Shp) (L : RL) (a b : Int) (w : World) (h : RBx B w bR LL v us) (hS : w.heap[bS]? = some (shpO s)) (hB : B ≤ w.heap.size) (hl : LL.length ≤ 10000000000)
    (hR : ∀ W, Below w.heap.size w W → Calls Tryz.prog 35 #[shpV s, .int .i64 a, .int .i64 b] W fun e w' => RoadE L W e w') :
    Calls Tryz.prog 34 #[.int .i64 a, .int .i64 b, .pointer (some ⟨bR, 0, none⟩), .pointer (some ⟨bS, 0, none⟩)] w fun e w' => TakeE B bR (LL ++ [L]) w e w' := by
  have HBc : Hid (Below w.heap.size w w.drew) := ⟨rfl, rfl, rfl, Nat.le_refl _, fun _ _ => rfl⟩
  have HX : Hid (∀ W, Below w.heap.size w W → W.cell? ⟨bR, 0, none⟩ = some v ∧ (W.cell? ⟨bS, 0, none⟩ = some (.int .i64 s.first) ∧ W.cell? ⟨bS, 1, none⟩ = some (.int .i64 s.last) ∧ W.cell? ⟨bS, 2, none⟩ = some (.int .i64 s.less) ∧ W.cell? ⟨bS, 3, none⟩ = some (.slice s.pa s.pl s.pc))) := fun W hW => ⟨by
      have := rdO_keep h.box hW
      simp [World.cell?, this], shp_cells (rdO_keep hS hW)⟩
  have HM : Hid (∀ W, Below w.heap.size w W → ∀ g, w.heap.size ≤ g → W.heap[g]? = some (rdO L 0) → ∃ zo zn zc w', (Builtin.append_ #[30, 30] 30 #[v, .slice (some ⟨W.heap.size, 0, none⟩) 1 1]).run Tryz.prog (W.alloc (.cells #[.slice (some ⟨g, 0, none⟩) L.length L.length] 22)) = .ok (.slice zo zn zc) w' ∧
      w'.cell? ⟨bR, 0, none⟩ = some v ∧ w'.frozen? ⟨bR, 0, none⟩ = false ∧ TakeE B bR (LL ++ [L]) w (.returned (.tuple #[])) (w'.setCell ⟨bR, 0, none⟩ (.slice zo zn zc))) := fun W hW g hg hL => by
    obtain ⟨v', w', h1, h2, h3, h4, h5, h6⟩ := (h.keep hW).more (show B ≤ g by omega) hL (by have := hW.size; omega) hl
    obtain ⟨zo, zn, zc, rfl⟩ : ∃ zo zn zc, v' = .slice zo zn zc := by
      rcases h4.own.2 with ⟨hv, _⟩ | ⟨g', cap, cur, hv, _⟩
      · exact ⟨_, _, _, hv⟩
      · exact ⟨_, _, _, hv⟩
    exact ⟨zo, zn, zc, w', h1, h2, h3, rfl, ⟨_, _, h4⟩, (hW.mono hB).trans h5, (Kr.below hW).trans h6⟩
  have HR : Hid (∀ W, Below w.heap.size w W → Calls Tryz.prog 35 #[shpV s, .int .i64 a, .int .i64 b] W fun e w' => RoadE L W e w') := hR
  have HA : Hid (∀ W, Below w.heap.size w W → ∀ o, (W.alloc o).cell? ⟨bR, 0, none⟩ = some v) := fun W hW o => (HX.out _ (hW.trans (((Below.refl _ W).alloc (Nat.le_refl _) o).mono hW.size))).1
  simp only [shpV] at HR
  obtain ⟨n, hn⟩ : ∃ n, n = L.length := ⟨_, rfl⟩
  have HN := hide hn
  have hvs : ∃ vo vn vc, v = .slice vo vn vc := by
    rcases h.own.2 with ⟨hv, _⟩ | ⟨g', cap, cur, hv, _⟩
    · exact ⟨_, _, _, hv⟩
    · exact ⟨_, _, _, hv⟩
  obtain ⟨vo, vn, vc, rfl⟩ := hvs
  clear h hS hR hl
  go_enter Tryz.func34, Tryz.ntmps34
  obtain ⟨f0, k0, k1, k2, k3⟩ := HX.out _ HBc.out
  refine wp_region_any (by kernel_rfl) ?_
  change wpAny _ _ _ _ _ _ _ (World.drew _)
  refine wpAny_take (i := 2) (v := .int .i64 a) rfl (by kernel_rfl) (by kernel_rfl) (by kernel_rfl) (fun _ _ _ h => h) (Or.inl ⟨by kernel_rfl, fun w => ?_⟩) ?_
  · go_simp
  refine wpAny_take (i := 3) (v := .int .i64 b) rfl (by kernel_rfl) (by kernel_rfl) (by kernel_rfl) (fun _ _ _ h => h) (Or.inl ⟨by kernel_rfl, fun w => ?_⟩) ?_
  · go_simp
  refine wpAny_ready (rs := [0, 1]) (by kernel_rfl) (by simp) ?_
  refine AllReady.cons rfl (fun K hK => ?_) (AllReady.cons rfl (fun K hK => ?_) AllReady.nil)
  · go_simp
    try (refine hK _ _ ?_; clear hK K)
    refine wpAny_ready (rs := [1]) (by kernel_rfl) (by simp) ?_
    refine AllReady.cons rfl (fun K hK => ?_) AllReady.nil
    · go_simp
      try (refine hK _ _ ?_; clear hK K)
      refine wpAny_ready (rs := [4]) (by kernel_rfl) (by simp) ?_
      refine AllReady.cons rfl (fun K hK => ?_) AllReady.nil
      · go_simp
        go_wp2_with (go_at_call 35; refine (HR.out _ HBc.out).mono ?_; rintro e w5 ⟨g, hg, rfl, hLg, hb5⟩; obtain ⟨zo, zn, zc, w6, hap, hc6, hf6, hT6⟩ := HM.out w5 (HBc.out.trans (hb5.mono HBc.out.size)) g (by have := HBc.out.size; omega) hLg; replace HBc := hide (HBc.out.trans (hb5.mono HBc.out.size)); have HT6 := hide hT6; have HAp := hide hap; have ka := HA.out _ HBc.out; clear hT6 hLg hb5 hg hap f0 k0 k1 k2 k3; obtain ⟨f0, k0, k1, k2, k3⟩ := HX.out _ HBc.out)
        try (refine hK _ _ ?_; clear hK K)
        refine wpAny_ready (rs := [5]) (by kernel_rfl) (by simp) ?_
        refine AllReady.cons rfl (fun K hK => ?_) AllReady.nil
        · go_simp
          try (refine hK _ _ ?_; clear hK K)
          refine wpAny_ready (rs := [6]) (by kernel_rfl) (by simp) ?_
          refine AllReady.cons rfl (fun K hK => ?_) AllReady.nil
          · refine step_run rfl _ _ _ rfl _ _ (.slice zo zn zc) w6 rfl rfl HAp.out (hK _ _ ?_)
            clear hK K
            refine wpAny_ready (rs := [7]) (by kernel_rfl) (by simp) ?_
            refine AllReady.cons rfl (fun K hK => ?_) AllReady.nil
            · go_simp
              try (refine hK _ _ ?_; clear hK K)
              refine wpAny_done (by kernel_rfl) ?_ _
              try go_wp2
              go_end0
              exact HT6.out
  · go_simp
    try (refine hK _ _ ?_; clear hK K)
    refine wpAny_ready (rs := [0, 4]) (by kernel_rfl) (by simp) ?_
    refine AllReady.cons rfl (fun K hK => ?_) (AllReady.cons rfl (fun K hK => ?_) AllReady.nil)
    · go_simp
      try (refine hK _ _ ?_; clear hK K)
      refine wpAny_ready (rs := [4]) (by kernel_rfl) (by simp) ?_
      refine AllReady.cons rfl (fun K hK => ?_) AllReady.nil
      · go_simp
        go_wp2_with (go_at_call 35; refine (HR.out _ HBc.out).mono ?_; rintro e w5 ⟨g, hg, rfl, hLg, hb5⟩; obtain ⟨zo, zn, zc, w6, hap, hc6, hf6, hT6⟩ := HM.out w5 (HBc.out.trans (hb5.mono HBc.out.size)) g (by have := HBc.out.size; omega) hLg; replace HBc := hide (HBc.out.trans (hb5.mono HBc.out.size)); have HT6 := hide hT6; have HAp := hide hap; have ka := HA.out _ HBc.out; clear hT6 hLg hb5 hg hap f0 k0 k1 k2 k3; obtain ⟨f0, k0, k1, k2, k3⟩ := HX.out _ HBc.out)
        try (refine hK _ _ ?_; clear hK K)
        refine wpAny_ready (rs := [5]) (by kernel_rfl) (by simp) ?_
        refine AllReady.cons rfl (fun K hK => ?_) AllReady.nil
        · go_simp
          try (refine hK _ _ ?_; clear hK K)
          refine wpAny_ready (rs := [6]) (by kernel_rfl) (by simp) ?_
          refine AllReady.cons rfl (fun K hK => ?_) AllReady.nil
          · refine step_run rfl _ _ _ rfl _ _ (.slice zo zn zc) w6 rfl rfl HAp.out (hK _ _ ?_)
            clear hK K
            refine wpAny_ready (rs := [7]) (by kernel_rfl) (by simp) ?_
            refine AllReady.cons rfl (fun K hK => ?_) AllReady.nil
            · go_simp
              try (refine hK _ _ ?_; clear hK K)
              refine wpAny_done (by kernel_rfl) ?_ _
              try go_wp2
              go_end0
              exact HT6.out
    · go_simp
      go_wp2_with (go_at_call 35; refine (HR.out _ HBc.out).mono ?_; rintro e w5 ⟨g, hg, rfl, hLg, hb5⟩; obtain ⟨zo, zn, zc, w6, hap, hc6, hf6, hT6⟩ := HM.out w5 (HBc.out.trans (hb5.mono HBc.out.size)) g (by have := HBc.out.size; omega) hLg; replace HBc := hide (HBc.out.trans (hb5.mono HBc.out.size)); have HT6 := hide hT6; have HAp := hide hap; have ka := HA.out _ HBc.out; clear hT6 hLg hb5 hg hap f0 k0 k1 k2 k3; obtain ⟨f0, k0, k1, k2, k3⟩ := HX.out _ HBc.out)
      try (refine hK _ _ ?_; clear hK K)
      refine wpAny_ready (rs := [0, 5]) (by kernel_rfl) (by simp) ?_
      refine AllReady.cons rfl (fun K hK => ?_) (AllReady.cons rfl (fun K hK => ?_) AllReady.nil)
      · go_simp
        try (refine hK _ _ ?_; clear hK K)
        refine wpAny_ready (rs := [5]) (by kernel_rfl) (by simp) ?_
        refine AllReady.cons rfl (fun K hK => ?_) AllReady.nil
        · go_simp
          try (refine hK _ _ ?_; clear hK K)
          refine wpAny_ready (rs := [6]) (by kernel_rfl) (by simp) ?_
          refine AllReady.cons rfl (fun K hK => ?_) AllReady.nil
          · refine step_run rfl _ _ _ rfl _ _ (.slice zo zn zc) w6 rfl rfl HAp.out (hK _ _ ?_)
            clear hK K
            refine wpAny_ready (rs := [7]) (by kernel_rfl) (by simp) ?_
            refine AllReady.cons rfl (fun K hK => ?_) AllReady.nil
            · go_simp
              try (refine hK _ _ ?_; clear hK K)
              refine wpAny_done (by kernel_rfl) ?_ _
              try go_wp2
              go_end0
              exact HT6.out
      · go_simp
        try (refine hK _ _ ?_; clear hK K)
        refine wpAny_ready (rs := [0]) (by kernel_rfl) (by simp) ?_
        refine AllReady.cons rfl (fun K hK => ?_) AllReady.nil
        · go_simp
          try (refine hK _ _ ?_; clear hK K)
          refine wpAny_ready (rs := [6]) (by kernel_rfl) (by simp) ?_
          refine AllReady.cons rfl (fun K hK => ?_) AllReady.nil
          · refine step_run rfl _ _ _ rfl _ _ (.slice zo zn zc) w6 rfl rfl HAp.out (hK _ _ ?_)
            clear hK K
            refine wpAny_ready (rs := [7]) (by kernel_rfl) (by simp) ?_
            refine AllReady.cons rfl (fun K hK => ?_) AllReady.nil
            · go_simp
              try (refine hK _ _ ?_; clear hK K)
              refine wpAny_done (by kernel_rfl) ?_ _
              try go_wp2
              go_end0
              exact HT6.out

end Go.Proofs.YtljankfhnmcbaaaGreatDoor.SP
