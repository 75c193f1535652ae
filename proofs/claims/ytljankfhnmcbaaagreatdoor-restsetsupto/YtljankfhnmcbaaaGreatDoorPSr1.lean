/- Roads: shapes of how points are written, blocks, and what goes along a road: no program. -/
import Derived.Test.YtljankfhnmcbaaaGreatDoorKa
namespace Go.Proofs.YtljankfhnmcbaaaGreatDoor.SP
set_option linter.unusedVariables false

--BEGIN
def byteN (p : Pt) (n : Int) : Int := p.lead + n / 2 ^ p.shift.toNat % 2 ^ p.bits.toNat
/-- a shape: points from first to last, less something, a byte for each part. -/
structure ShP where
  first : Int
  last : Int
  less : Int
  ps : List Pt
def three : List Pt := [⟨224, 12, 4⟩, ⟨128, 6, 6⟩, ⟨128, 0, 6⟩]
def paired (one two : List Pt) : List ShP := [⟨0, 55295, 0, one⟩, ⟨57344, 65535, 0, one⟩, ⟨65536, 1114111, 65536, two⟩]
def shapesP (enc : Int) : List ShP :=
  if enc = 1 then [⟨0, 127, 0, [⟨0, 0, 7⟩]⟩, ⟨128, 2047, 0, [⟨192, 6, 5⟩, ⟨128, 0, 6⟩]⟩, ⟨2048, 55295, 0, three⟩, ⟨57344, 65535, 0, three⟩, ⟨65536, 1114111, 0, [⟨240, 18, 3⟩, ⟨128, 12, 6⟩, ⟨128, 6, 6⟩, ⟨128, 0, 6⟩]⟩]
  else if enc = 2 then paired [⟨0, 0, 8⟩, ⟨0, 8, 8⟩] [⟨0, 10, 8⟩, ⟨216, 18, 2⟩, ⟨0, 0, 8⟩, ⟨220, 8, 2⟩]
  else if enc = 3 then paired [⟨0, 8, 8⟩, ⟨0, 0, 8⟩] [⟨216, 18, 2⟩, ⟨0, 10, 8⟩, ⟨220, 8, 2⟩, ⟨0, 0, 8⟩]
  else [⟨0, 255, 0, [⟨0, 0, 8⟩]⟩]
def isEnc (enc : Int) : Prop := enc = 1 ∨ enc = 2 ∨ enc = 3 ∨ enc = 4
/-- may a point stand in a text. -/
def Scal (enc p : Int) : Prop := (enc = 4 ∧ 0 ≤ p ∧ p ≤ 255) ∨ (enc ≠ 4 ∧ 0 ≤ p ∧ p ≤ 1114111 ∧ (p < 55296 ∨ 57343 < p))
/-- the bytes of a point. -/
def bytesR (enc p : Int) : List Int :=
  if enc = 4 then [p]
  else if enc = 1 then (if p < 128 then [p] else if p < 2048 then [192 + p / 64, 128 + p % 64] else if p < 65536 then [224 + p / 4096, 128 + p / 64 % 64, 128 + p % 64] else [240 + p / 262144, 128 + p / 4096 % 64, 128 + p / 64 % 64, 128 + p % 64])
  else if enc = 2 then (if p < 65536 then [p % 256, p / 256] else [(55296 + (p - 65536) / 1024) % 256, (55296 + (p - 65536) / 1024) / 256, (56320 + (p - 65536) % 1024) % 256, (56320 + (p - 65536) % 1024) / 256])
  else (if p < 65536 then [p / 256, p % 256] else [(55296 + (p - 65536) / 1024) / 256, (55296 + (p - 65536) / 1024) % 256, (56320 + (p - 65536) % 1024) / 256, (56320 + (p - 65536) % 1024) % 256])
theorem bytesR_inj {enc p q : Int} (he : isEnc enc) (hp : Scal enc p) (hq : Scal enc q) (h : bytesR enc p = bytesR enc q) : p = q := by
  unfold Scal at hp hq
  rcases he with rfl | rfl | rfl | rfl
  · simp only [bytesR, show ¬ (1 : Int) = 4 by decide, if_false, if_true] at h
    repeat' split at h
    all_goals simp at h
    all_goals omega
  · simp only [bytesR, show ¬ (2 : Int) = 4 by decide, show ¬ (2 : Int) = 1 by decide, if_false, if_true] at h
    repeat' split at h
    all_goals simp at h
    all_goals omega
  · simp only [bytesR, show ¬ (3 : Int) = 4 by decide, show ¬ (3 : Int) = 1 by decide, show ¬ (3 : Int) = 2 by decide, if_false] at h
    repeat' split at h
    all_goals simp at h
    all_goals omega
  · simp only [bytesR, if_true] at h
    simpa using h
/-- the row of bytes of a number in a shape. -/
def rowP (ps : List Pt) (n : Int) : List Int := ps.map fun p => byteN p n
def roadP (ps : List Pt) (a b : Int) : RL := ps.map fun p => (byteN p a, byteN p b)
/-- does a row of bytes go along a road, all of it. -/
def goesB : RL → List Int → Bool
  | [], [] => true
  | r :: L, x :: t => decide (r.1 ≤ x) && decide (x ≤ r.2) && goesB L t
  | _, _ => false
def Boxy (ps : List Pt) (a b : Int) : Prop := ∀ p ∈ ps, a / 2 ^ p.shift.toNat = b / 2 ^ p.shift.toNat ∨ (a % 2 ^ p.shift.toNat = 0 ∧ b % 2 ^ p.shift.toNat = 2 ^ p.shift.toNat - 1)
/-- blocks of numbers, one behind the other. -/
inductive Blk (ps : List Pt) : Int → Int → RL → Prop
  | one {a b : Int} : a ≤ b → Boxy ps a b → Blk ps a b [(a, b)]
  | app {a m b : Int} {L M : RL} : Blk ps a m L → Blk ps (m + 1) b M → Blk ps a b (L ++ M)
theorem Blk.le {ps : List Pt} {a b : Int} {L : RL} (h : Blk ps a b L) : a ≤ b := by
  induction h with
  | one h _ => exact h
  | app _ _ h1 h2 => omega
theorem Blk.len {ps : List Pt} {a b : Int} {L : RL} (h : Blk ps a b L) : (L.length : Int) ≤ b - a + 1 := by
  induction h with
  | one h _ => simp; omega
  | app _ _ h1 h2 => rw [List.length_append]; omega
theorem Blk.each {ps : List Pt} {a b : Int} {L : RL} (h : Blk ps a b L) : ∀ x ∈ L, a ≤ x.1 ∧ x.1 ≤ x.2 ∧ x.2 ≤ b ∧ Boxy ps x.1 x.2 := by
  induction h with
  | one h hb => intro x hx; simp at hx; subst hx; exact ⟨Int.le_refl _, h, Int.le_refl _, hb⟩
  | app g1 g2 h1 h2 =>
    have := g1.le
    have := g2.le
    intro x hx
    rcases List.mem_append.1 hx with hx | hx
    · have := h1 x hx; exact ⟨this.1, this.2.1, by omega, this.2.2.2⟩
    · have := h2 x hx; exact ⟨by omega, this.2.1, this.2.2.1, this.2.2.2⟩
def prodR (L : RL) : Int := (L.map fun r => r.2 - r.1 + 1).foldl (· * ·) 1
/-- what is asked of a shape. -/
structure GoodS (enc : Int) (S : ShP) : Prop where
  fits : ∀ p, S.first ≤ p → p ≤ S.last → Scal enc p ∧ rowP S.ps (p - S.less) = bytesR enc p
  box : ∀ a b t, S.first - S.less ≤ a → a ≤ b → b ≤ S.last - S.less → Boxy S.ps a b → (goesB (roadP S.ps a b) t = true ↔ ∃ n, a ≤ n ∧ n ≤ b ∧ t = rowP S.ps n)
  len : 1 ≤ S.ps.length ∧ S.ps.length ≤ 4
  byte : ∀ n, S.first - S.less ≤ n → n ≤ S.last - S.less → ∀ p ∈ S.ps, 0 ≤ byteN p n ∧ byteN p n ≤ 255
  prod : ∀ a b, S.first - S.less ≤ a → a ≤ b → b ≤ S.last - S.less → Boxy S.ps a b → prodR (roadP S.ps a b) = b - a + 1
theorem goesB_1 (r : Int × Int) (t : List Int) : goesB [r] t = true ↔ ∃ x, t = [x] ∧ r.1 ≤ x ∧ x ≤ r.2 := by
  rcases t with _ | ⟨x, _ | ⟨y, t⟩⟩ <;> simp [goesB]
theorem goesB_2 (r s : Int × Int) (t : List Int) : goesB [r, s] t = true ↔ ∃ x y, t = [x, y] ∧ (r.1 ≤ x ∧ x ≤ r.2) ∧ (s.1 ≤ y ∧ y ≤ s.2) := by
  rcases t with _ | ⟨x, _ | ⟨y, _ | ⟨z, t⟩⟩⟩ <;> simp [goesB]
  constructor
  · intro h; exact ⟨_, _, ⟨rfl, rfl⟩, h⟩
  · rintro ⟨_, _, ⟨rfl, rfl⟩, h⟩; exact h
theorem goesB_3 (r s u : Int × Int) (t : List Int) : goesB [r, s, u] t = true ↔ ∃ x y z, t = [x, y, z] ∧ (r.1 ≤ x ∧ x ≤ r.2) ∧ (s.1 ≤ y ∧ y ≤ s.2) ∧ (u.1 ≤ z ∧ z ≤ u.2) := by
  rcases t with _ | ⟨x, _ | ⟨y, _ | ⟨z, _ | ⟨v, t⟩⟩⟩⟩ <;> simp [goesB]
  constructor
  · intro h; exact ⟨_, _, _, ⟨rfl, rfl, rfl⟩, h⟩
  · rintro ⟨_, _, _, ⟨rfl, rfl, rfl⟩, h⟩; exact h
theorem goesB_4 (r s u o : Int × Int) (t : List Int) : goesB [r, s, u, o] t = true ↔ ∃ x y z v, t = [x, y, z, v] ∧ (r.1 ≤ x ∧ x ≤ r.2) ∧ (s.1 ≤ y ∧ y ≤ s.2) ∧ (u.1 ≤ z ∧ z ≤ u.2) ∧ (o.1 ≤ v ∧ v ≤ o.2) := by
  rcases t with _ | ⟨x, _ | ⟨y, _ | ⟨z, _ | ⟨v, _ | ⟨k, t⟩⟩⟩⟩⟩ <;> simp [goesB]
  constructor
  · intro h; exact ⟨_, _, _, _, ⟨rfl, rfl, rfl, rfl⟩, h⟩
  · rintro ⟨_, _, _, _, ⟨rfl, rfl, rfl, rfl⟩, h⟩; exact h
theorem prodR_1 (r : Int × Int) : prodR [r] = r.2 - r.1 + 1 := by simp [prodR]
theorem prodR_2 (r s : Int × Int) : prodR [r, s] = (r.2 - r.1 + 1) * (s.2 - s.1 + 1) := by simp [prodR]
theorem prodR_3 (r s u : Int × Int) : prodR [r, s, u] = (r.2 - r.1 + 1) * (s.2 - s.1 + 1) * (u.2 - u.1 + 1) := by simp [prodR]
theorem prodR_4 (r s u o : Int × Int) : prodR [r, s, u, o] = (r.2 - r.1 + 1) * (s.2 - s.1 + 1) * (u.2 - u.1 + 1) * (o.2 - o.1 + 1) := by simp [prodR]
/-- one digit. -/
theorem good_1 (enc lo hi lead bits k : Int) (hb : (2 : Int) ^ bits.toNat = k) (hk : 0 ≤ lo) (hhi : hi < k) (h1 : 0 ≤ lead) (h2 : lead + k ≤ 256) (hf : ∀ p, lo ≤ p → p ≤ hi → Scal enc p ∧ bytesR enc p = [lead + p]) : GoodS enc ⟨lo, hi, 0, [⟨lead, 0, bits⟩]⟩ where
  fits p h3 h4 := by
    simp only at h3 h4
    refine ⟨(hf p h3 h4).1, ?_⟩
    rw [(hf p h3 h4).2]
    simp only [rowP, byteN, List.map_cons, List.map_nil, hb]
    simp
    exact Int.emod_eq_of_lt (by omega) (by omega)
  box a b t h3 h4 h5 hB := by
    simp only at h3 h5
    have e : ∀ n, lo ≤ n → n ≤ hi → byteN ⟨lead, 0, bits⟩ n = lead + n := fun n g1 g2 => by
      simp only [byteN, hb]
      simp
      exact Int.emod_eq_of_lt (by omega) (by omega)
    simp only [roadP, rowP, List.map_cons, List.map_nil]
    rw [goesB_1, e a (by omega) (by omega), e b (by omega) (by omega)]
    constructor
    · rintro ⟨x, rfl, g1, g2⟩
      simp only at g1 g2
      refine ⟨x - lead, by omega, by omega, ?_⟩
      rw [e _ (by omega) (by omega)]
      simp; omega
    · rintro ⟨n, g1, g2, rfl⟩
      exact ⟨_, rfl, by rw [e n (by omega) (by omega)]; simp only; omega, by rw [e n (by omega) (by omega)]; simp only; omega⟩
  len := by simp
  byte n h3 h4 p hp := by
    simp only [List.mem_singleton] at hp h3 h4
    subst hp
    simp only [byteN, hb]
    simp
    have : n % k = n := Int.emod_eq_of_lt (by omega) (by omega)
    omega
  prod a b h3 h4 h5 hB := by
    simp only at h3 h5
    have e : ∀ n, lo ≤ n → n ≤ hi → byteN ⟨lead, 0, bits⟩ n = lead + n := fun n g1 g2 => by
      simp only [byteN, hb]
      simp
      exact Int.emod_eq_of_lt (by omega) (by omega)
    simp only [roadP, List.map_cons, List.map_nil]
    rw [prodR_1, e a (by omega) (by omega), e b (by omega) (by omega)]
    simp only
    omega
--END
end Go.Proofs.YtljankfhnmcbaaaGreatDoor.SP
