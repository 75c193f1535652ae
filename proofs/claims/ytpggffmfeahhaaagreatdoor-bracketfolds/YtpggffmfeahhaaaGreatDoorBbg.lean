/- BracketTurns: what its walk needs. -/
import Derived.Test.YtpggffmfeahhaaaGreatDoorLD
import Derived.Test.YtpggffmfeahhaaaGreatDoorLE
import Derived.Test.YtpggffmfeahhaaaGreatDoorKL
namespace Go.Proofs.YtpggffmfeahhaaaGreatDoor.Br
open Go.RowKit
open TK (Mv PatV ReadsI byteA add_block peel)
set_option linter.unusedVariables false
set_option maxRecDepth 100000
variable {w w' : World}

theorem infoI : (Tryz.prog.info? 3).map (fun i => (i.zero, i.size, i.bytes)) = some (some (.int .i64 0), 1, 8) := by kernel_rfl
theorem i64s_one (l : List Int) : ∀ u ∈ i64s l, u.oneCell' = true := by
  intro u hu
  simp [i64s] at hu
  obtain ⟨_, _, rfl⟩ := hu
  rfl
theorem own_patV {B n : Nat} {v : Value} {l : List Int} (h : w.ownsRow B 3 1 v n (i64s l)) (hn : n = l.length) : PatV w v l := by
  subst hn
  rcases h.2 with ⟨rfl, h0⟩ | ⟨g, cap, cur, rfl, hg, hh, hc, r⟩
  · exact .inl ⟨rfl, List.eq_nil_of_length_eq_zero h0⟩
  · refine .inr ⟨⟨g, 0, none⟩, cap, rfl, hc, fun j hj => ?_⟩
    have e1 : ((⟨g, 0, none⟩ : Addr).add j) = ⟨g, j, none⟩ := by unfold Addr.add; split <;> simp_all
    rw [e1, h.cellAt j (by omega)]
    simp [i64s, hj]
/-- append of a slice that came in to a row of one's own. -/
theorem append_int {ops : Array Oper} {rest : List Oper} {o : Oper} {a : Act} {Q : Exit → Act → World → Prop} (w : World) (hgd : o.guard = none) (s x : Operand) (ho : o.op = .call { callee := .builtin .append, args := #[s, x], argTypes := #[22, 22] })
    (base : Nat) (v : Value) (n : Nat) (xs : List Value) (hs : a.eval s = v) (hown : w.ownsRow base 3 1 v n xs) (u : Value) (l : List Int) (hx : a.eval x = u) (hp : PatV w u l) (hr : n + l.length ≤ 3000000) (hbase : base ≤ w.heap.size)
    (h : ∀ v' w', w'.ownsRow base 3 1 v' (n + l.length) (xs ++ i64s l) → Below base w w' → wpList Tryz.prog ops Q rest (a.put o.dst v') w') : wpList Tryz.prog ops Q (o :: rest) a w := by
  obtain ⟨j0, hj, hy0, hy1, hy2⟩ := info_parts infoI
  rcases hp with ⟨rfl, rfl⟩ | ⟨ad, c, rfl, hcap, hrd⟩
  · refine wpList_append_own_none hgd s x 22 ho base 3 j0 1 Tryz.underlying22 hj v n xs hs hown hx (h v w ?_ (Below.refl _ _))
    simpa [i64s] using hown
  · refine wpList_append_own w hgd s x 22 ho base 3 j0 _ 1 8 Tryz.underlying22 hj hy0 hy1 hy2 rfl (by decide) v n xs hs hown ad l.length c (i64s l) hx (by simp [i64s]) ?_ (i64s_one l) (by unfold maxLen; omega) (by omega) hbase ?_
    · intro j u hu
      have hlt : j < l.length := by have := (List.getElem?_eq_some_iff.1 hu).1; simpa [i64s] using this
      rw [hrd j hlt]
      simp [i64s, hlt] at hu
      rw [← hu]
    · intro v' w' h1 h2 _
      exact h v' w' h1 ((Below.refl base w).grown h2 hbase (fun g hg => (hown.lt g hg).1))
theorem own_lit (W : World) : (W.alloc (.cells #[.int .i64 94] 3)).ownsRow W.heap.size 3 1 (.slice (some ⟨W.heap.size, 0, none⟩) 1 1) 1 [.int .i64 94] := by
  have h := World.ownsRow_lit (base := W.heap.size) (e := 3) (size := 1) W #[.int .i64 94] 1 (Nat.le_refl _) (by unfold maxLen; omega) (by simp)
  simpa using h
/-- what a call of Parse came to: an error, or a set. -/
def Good (er : Int) (R : Except BE (PS × Nat)) (w : World) (sv : Value) (k : Nat) (l : List Int) : Prop := er ≠ 0 ∨ (er = 0 ∧ ∃ f L, R = .ok (f, k) ∧ Reads w sv L ∧ IsSet f L ∧ L.length ≤ 400 ∧ k ≤ l.length)
theorem Good.keep {er : Int} {R : Except BE (PS × Nat)} {sv : Value} {k : Nat} {l : List Int} (h : Good er R w sv k l) (hb : Below w.heap.size w w') : Good er R w' sv k l := by
  rcases h with h | ⟨h, f, L, h1, h2, h3⟩
  · exact .inl h
  · exact .inr ⟨h, f, L, h1, h2.below hb, h3⟩
theorem parse_gen (d a : Int) (v : Value) (l : List Int) (fo : Bool) (w : World) (h : PatV w v l) (hT : Fo.Tab w) (hpos : 0 < w.heap.size) : Calls Tryz.prog 8 #[.int .i64 d, v, .int .i64 a, .bool fo] w fun e w' => ∃ so ln sc, ∃ (k : Nat) (er at_ : Int), e = .returned (.tuple #[.slice so ln sc, .int .i64 (k : Nat), .agg #[.int .i64 er, .int .i64 at_]]) ∧ Below w.heap.size w w' ∧ Good er (parseM d fo l a) w' (.slice so ln sc) k l := by
  refine (parse_any d a v l fo w h hT hpos).mono ?_
  rintro e w1 (⟨f, k, sv, L, hR, rfl, ho, hs, hL, hkl, hb1⟩ | ⟨z, c, hR, hz, rfl, hb1⟩)
  · obtain ⟨so, sc, rfl⟩ := ho.shape
    exact ⟨so, _, sc, k, 0, 0, rfl, hb1, .inr ⟨rfl, f, L, hR, ho.reads, hs, hL, hkl⟩⟩
  · exact ⟨none, 0, 0, 0, z, c, rfl, hb1, .inl hz⟩
theorem sh_par (d : Int) (fo : Bool) : ShN (par d fo) := by
  intro c l i x k h
  simp only [par] at h ⊢
  have := TK.next_sh (a := [c]) (l := l) 1 i
  simp only [List.singleton_append, List.length_singleton] at this
  rw [this]
  cases hn : TK.nextT 1 l i with
  | error e => rw [hn] at h; cases h
  | ok y =>
    rw [hn] at h
    obtain ⟨t, j⟩ := y
    simp only [wordOf] at h
    simp only [TK.shR, wordOf]
    split at h
    · rename_i h1
      rw [if_pos h1]
      cases h
      rfl
    · rename_i h1
      rw [if_neg h1]
      split at h
      · rename_i h2
        rw [if_pos h2]
        cases h
        rfl
      · cases h
theorem parse_expr {d : Int} {fo : Bool} {l : List Int} {f : PS} {k : Nat} (h : parseM d fo l 0 = .ok (f, k)) : exprF (par d fo) 21 l 0 0 = .ok (f, k) ∧ l.length ≤ 300 := by
  unfold parseM at h
  split at h
  · cases h
  · rename_i hp
    split at h
    · cases h
    · obtain ⟨_, hl, _⟩ := TK.patE_ok (d := d) (l := l) (by simpa using hp)
      refine ⟨?_, hl⟩
      unfold readM at h
      rw [show (0 : Int).toNat = 0 from rfl] at h
      split at h
      · cases h
      · rename_i f' k' heq
        split at h
        · cases h
        · cases h
          exact heq
/-- what is turned over. -/
theorem turned {d : Int} {fo : Bool} {l : List Int} {f g : PS} {k m : Nat} (hl : isAt l 0 [94] = false) (h : parseM d fo l 0 = .ok (f, k)) (h' : parseM d fo (94 :: l) 0 = .ok (g, m)) : m = k + 1 ∧ (g = fun q => !f q) ∧ l.length < 300 := by
  obtain ⟨a, _⟩ := parse_expr h
  obtain ⟨b, hb⟩ := parse_expr h'
  obtain ⟨h1, h2⟩ := expr_turn (sh_par d fo) hl a b
  refine ⟨h1, h2, ?_⟩
  simp at hb
  omega
theorem has_set {f : PS} {L : RL} (sv : Value) (p : Int) (w : World) (hv : Reads w sv L) (hs : IsSet f L) (hL : L.length ≤ 400) : Calls Tryz.prog 9 #[sv, .int .i64 p] w fun e w' => e = .returned (.tuple #[.bool (if 0 ≤ p ∧ p ≤ 1114111 then f p else false), .int .i64 (if 0 ≤ p ∧ p ≤ 1114111 then 0 else 3)]) ∧ Below w.heap.size w w' := by
  have hc : checkE L = 0 := checkE_ok.2 ⟨hL, hs.1⟩
  by_cases hp : 0 ≤ p ∧ p ≤ 1114111
  · rw [if_pos hp, if_pos hp]
    have := has_in sv L p w hv hc hp.1 hp.2
    rw [ins_of_set hs hp.1 hp.2] at this
    exact this
  · rw [if_neg hp, if_neg hp]
    exact has_out sv L p w hv hc hp
theorem at_zero (l : List Int) : isAt l 0 [94] = (l[0]? == some 94) := by rw [isAt_says, TK.says_one]
end Go.Proofs.YtpggffmfeahhaaaGreatDoor.Br
