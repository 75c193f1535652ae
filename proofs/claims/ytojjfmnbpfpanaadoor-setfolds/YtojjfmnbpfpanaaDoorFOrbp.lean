/- The reference's OrbitOf: what it goes through. -/
import Derived.Test.YtojjfmnbpfpanaaDoorFBes
import Derived.Deep.RegionLaw
import Derived.Deep.AppendLies
namespace Go.Proofs.YtojjfmnbpfpanaaDoor.Fo
open Go.RowKit
set_option linter.unusedVariables false


set_option maxHeartbeats 1000000 in
theorem hasInt_any (l : List Int) (a : Addr) (cap : Nat) (x : Int) (hl : l.length ≤ 4000) (w : World) (hc : ∀ j, j < l.length → w.cell? (a.add j) = some (.int .i64 (l.getD j 0))) :
    Calls Tryd.prog 42 #[.slice (some a) l.length cap, .int .i64 x] w fun e w' => e = .returned (.bool (l.contains x)) ∧ w = w' := by
  have HC := hide hc
  clear hc
  go_enter Tryd.func42, Tryd.ntmps42
  go_wp2
  go_loop [5] (fun i => ∃ k : Nat, k ≤ l.length ∧ i = .int .i64 k ∧ x ∉ l.take k) (fun i => l.length - (intOf i).toNat)
  case atStart => exact ⟨0, Nat.zero_le _, rfl, by simp⟩
  case round =>
    obtain ⟨k, hk, rfl, hn⟩ := hrel
    by_cases hlt : k < l.length
    · obtain ⟨y, hy⟩ : ∃ y, y = l.getD k 0 := ⟨_, rfl⟩
      have hcy : w.cell? (a.add k) = some (.int .i64 y) := by rw [hy]; exact HC.out k hlt
      have HY := hide hy
      have HN := hide hn
      have hmem : Hid (y ∈ l) := by show _ ∈ _; rw [hy]; simp [List.getD, hlt]
      clear hy hn
      by_cases hxy : y = x
      · have hb : (y == x) = true := by simpa using hxy
        have HXY := hide hxy
        clear hxy
        go_wp2
        go_ret
        exact ⟨ret_bool (by have h := hmem.out; rw [HXY.out] at h; simp [h]), rfl⟩
      · have hb : (y == x) = false := by simpa using hxy
        have HXY := hide hxy
        clear hxy
        go_wp2
        go_round
        case rel => exact ⟨k + 1, by omega, by go_num, by
          rw [List.take_add_one]
          simp only [List.mem_append, not_or]
          refine ⟨HN.out, ?_⟩
          have := HY.out
          simp [List.getD, List.getElem?_eq_getElem hlt] at this ⊢
          rw [← this]; exact fun e => HXY.out e.symm⟩
        case measure => simp [intOf]; omega
    · have hkl : k = l.length := by omega
      subst hkl
      rw [List.take_length] at hn
      have HN := hide hn
      clear hn
      go_wp2
      go_ret
      exact ⟨ret_bool (by have h := HN.out; simp [h]), rfl⟩

/-- append to a row of the call's own, as one step of a region that draws. -/
theorem step_own {P : Program} {ops : Array Oper} {o : Oper} {a : Act} {w : World} {K : Act → World → Prop} {Q : Exit → Act → World → Prop} {E : Prop} (hgd : o.guard = none) (s x : Operand) (t : TypeId)
    (ho : o.op = .call { callee := .builtin .append, args := #[s, x], argTypes := #[t, t] })
    (base : Nat) (e : TypeId) (i : TypeInfo) (z : Value) (size bytes : Nat) (ht : P.underlying t = some (.slice e)) (hi : P.info? e = some i) (hz : i.zero = some z)
    (hsize : i.size = size) (hby : i.bytes = bytes) (hzs : z.cells.size = size) (hsz : 0 < size)
    (v : Value) (n : Nat) (xs : List Value) (hs : a.eval s = v) (hown : w.ownsRow base e size v n xs)
    (ad : Addr) (m c : Nat) (news : List Value) (hx : a.eval x = .slice (some ad) m c) (hl : news.length = m * size) (hnews : ∀ j u, news[j]? = some u → w.cell? (ad.add j) = some u) (h1 : ∀ u ∈ news, u.oneCell' = true)
    (h63 : n + m ≤ maxLen) (hbytes : (n + m) * bytes ≤ 140737488355328) (hbase : base ≤ w.heap.size)
    (h : ∀ v' w', w'.ownsRow base e size v' (n + m) (xs ++ news) → w.grownBy w' v.ownBlock → K (a.put o.dst v') w') :
    if Region.wanted o (yielded ops a.tmps) = true then Oper.wp P o a w K Q else E := by
  have hw : Region.wanted o (yielded ops a.tmps) = true := by simp [Region.wanted, hgd]
  rw [if_pos hw]
  exact wp_append_own w s x t ho base e i z size bytes ht hi hz hsize hby hzs hsz v n xs hs hown ad m c news hx hl hnews h1 h63 hbytes hbase fun v' w' h2 h3 _ => h v' w' h2 h3
/-- append to what has no room, as one step of a region that draws. -/
theorem step_grows {P : Program} {ops : Array Oper} {o : Oper} {a : Act} {w : World} {K : Act → World → Prop} {Q : Exit → Act → World → Prop} {E : Prop} (hgd : o.guard = none) (s x : Operand) (t : TypeId)
    (hop : o.op = .call { callee := .builtin .append, args := #[s, x], argTypes := #[t, t] })
    (e : TypeId) (i : TypeInfo) (z : Value) (size bytes : Nat) (h1 : P.underlying t = some (.slice e)) (h2 : P.info? e = some i) (h3 : i.zero = some z) (h4 : i.size = size) (h5 : i.bytes = bytes) (h6 : z.cells.size = size) (h7 : 0 < size)
    (b : Addr) (n cap : Nat) (olds : List Value) (hs : a.eval s = .slice (some b) n cap) (hlo : olds.length = n * size) (holds : ∀ j u, olds[j]? = some u → w.cell? (b.add j) = some u)
    (ad : Addr) (m c : Nat) (news : List Value) (hx : a.eval x = .slice (some ad) m c) (hn : news.length = m * size) (hc : ∀ j u, news[j]? = some u → w.cell? (ad.add j) = some u)
    (hfull : cap < n + m) (b1 : n + m ≤ maxLen) (b2 : (n + m) * bytes ≤ 140737488355328)
    (hK : ∀ v' w', w'.ownsRow w.heap.size e size v' (n + m) (olds ++ news) → w.grownBy w' none → K (a.put o.dst v') w') :
    if Region.wanted o (yielded ops a.tmps) = true then Oper.wp P o a w K Q else E := by
  have hw : Region.wanted o (yielded ops a.tmps) = true := by simp [Region.wanted, hgd]
  rw [if_pos hw]
  obtain ⟨v', w', hrun, r1, r2⟩ := run_append_arg_grows (P := P) w t o.type e i z size bytes h1 h2 h3 h4 h5 h6 h7 b n cap olds hlo holds ad m c news hn hc hfull b1 b2
  unfold Oper.wp
  simp [execOp, hop, resolve, invoke, builtin, hs, hx, hrun, Result.andThen]
  exact hK v' w' r1 r2


theorem i64s_len (l : List Int) : (i64s l).length = l.length := by simp [i64s]
theorem i64s_append (a b : List Int) : i64s (a ++ b) = i64s a ++ i64s b := by simp [i64s]
theorem i64s_get (l : List Int) (j : Nat) (h : j < l.length) : (i64s l)[j]? = some (.int .i64 l[j]) := by simp [i64s, h]
theorem i64s_one (l : List Int) : ∀ u ∈ i64s l, u.oneCell' = true := by
  intro u hu
  simp [i64s] at hu
  obtain ⟨z, _, rfl⟩ := hu
  rfl
theorem i64s_at {l : List Int} {t : Nat} {u : Value} (h : (i64s l)[t]? = some u) : ∃ ht : t < l.length, u = .int .i64 l[t] := by
  have ht : t < (i64s l).length := (List.getElem?_eq_some_iff.1 h).1
  rw [i64s_len] at ht
  rw [i64s_get l t ht] at h
  exact ⟨ht, (Option.some.inj h).symm⟩
theorem add_lit (g j t : Nat) : ((⟨g, j, none⟩ : Addr).add t) = ⟨g, j + t, none⟩ := by unfold Addr.add; split <;> simp_all
theorem add_lit0 (g j : Nat) : ((⟨g, 0, none⟩ : Addr).add j) = ⟨g, j, none⟩ := by rw [add_lit, Nat.zero_add]
/-- numbers in a block. -/
def Lies (w : World) (g : Nat) (l : List Int) : Prop := ∀ j (h : j < l.length), w.cell? ⟨g, j, none⟩ = some (.int .i64 l[j])
theorem below_cellf {B : Nat} {w w' : World} (hb : Below B w w') {a : Addr} {v : Value} (ha : a.block < B) (h : w.cell? a = some v) : w'.cell? a = some v := by
  rw [← h]
  unfold World.cell?
  rw [hb.block a.block ha]
theorem lt_of_cellf {w : World} {a : Addr} {v : Value} (h : w.cell? a = some v) : a.block < w.heap.size := World.block_lt_of_cell? _ _ h
theorem Lies.below {w w' : World} {g : Nat} {l : List Int} (h : Lies w g l) (hb : Below w.heap.size w w') : Lies w' g l := fun j hj => below_cellf hb (lt_of_cellf (h j hj)) (h j hj)
theorem own_lies {B : Nat} {w : World} {g c n : Nat} {l : List Int} (h : w.ownsRow B 3 1 (.slice (some ⟨g, 0, none⟩) n c) n (i64s l)) (hn : n = l.length) : Lies w g l := fun t ht => by
  rw [h.cellAt t (by omega)]
  exact i64s_get l t ht
theorem Lies.news {w : World} {g : Nat} {l : List Int} (h : Lies w g l) : ∀ t u, (i64s l)[t]? = some u → w.cell? ((⟨g, 0, none⟩ : Addr).add t) = some u := by
  intro t u hu
  obtain ⟨ht, rfl⟩ := i64s_at hu
  rw [add_lit0]
  exact h t ht

set_option maxHeartbeats 1000000 in
theorem hasInt_nil (c : Nat) (x : Int) (w : World) : Calls Tryd.prog 42 #[.slice none 0 c, .int .i64 x] w fun e w' => e = .returned (.bool false) ∧ w = w' := by
  go_enter Tryd.func42, Tryd.ntmps42
  go_wp2
  go_loop [5] (fun i => i = .int .i64 0) (fun i => 0)
  case atStart => exact rfl
  case round =>
    subst hrel
    go_wp2
    go_ret
    exact ⟨rfl, rfl⟩
theorem hasInt_own {B : Nat} (v : Value) (l : List Int) (x : Int) (w : World) (hl : l.length ≤ 4000) (h : w.ownsRow B 3 1 v l.length (i64s l)) : Calls Tryd.prog 42 #[v, .int .i64 x] w fun e w' => e = .returned (.bool (l.contains x)) ∧ w = w' := by
  rcases h.2 with ⟨rfl, h0⟩ | ⟨g, cap, cur, rfl, h3⟩
  · obtain rfl : l = [] := List.eq_nil_of_length_eq_zero h0
    exact hasInt_nil 0 x w
  · exact hasInt_any l ⟨g, 0, none⟩ cap x hl w (fun j hj => by rw [add_lit0, own_lies h rfl j hj]; simp [List.getD, hj])

/-- what is carried through a round: points of the orbit; nothing new, or something. -/
structure St (p : Int) (I0 I : List Int) (ch : Bool) : Prop where
  part : Part p I
  ext : ∃ T, I = I0 ++ T
  same : ch = false → I = I0
  more : ch = true → I0.length < I.length
theorem St.add {p : Int} {I0 I : List Int} {ch : Bool} (h : St p I0 I ch) {q : Int} (hq : q ∈ orb p) (hn : I.contains q = false) : St p I0 (I ++ [q]) true := by
  obtain ⟨T, hT⟩ := h.ext
  exact ⟨h.part.more hq hn, ⟨T ++ [q], by rw [hT, List.append_assoc]⟩, fun h => (by cases h), fun _ => by rw [hT]; simp⟩
def lenV : Value → Nat
  | .slice _ n _ => n
  | _ => 0

end Go.Proofs.YtojjfmnbpfpanaaDoor.Fo
