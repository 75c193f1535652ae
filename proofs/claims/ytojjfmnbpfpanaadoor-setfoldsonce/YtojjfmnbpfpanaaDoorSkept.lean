/- What kept answers: the set of all points of which the function handed in says yes. -/
import Derived.Test.YtojjfmnbpfpanaaDoorSadd
import Derived.Test.YtojjfmnbpfpanaaDoorSstr
namespace Go.Proofs.YtojjfmnbpfpanaaDoor
open Go.RowKit
set_option linter.unusedVariables false

/-- a function of two bools that only answers. -/
def Says (g : Nat) (kf : Bool → Bool → Bool) : Prop := ∀ a b w, Calls Tryd.prog g #[.bool a, .bool b] w fun e w' => e = .returned (.bool (kf a b)) ∧ w = w'
theorem upto_rng {f : Int → Bool} {O : RL} {p : Int} (h : Upto f O p) (h0 : 0 ≤ p) (h1 : p ≤ 1114112) : (∀ x ∈ O, 0 ≤ x.2 ∧ x.2 ≤ 1114111) ∧ O.length ≤ 1114112 := by
  refine ⟨fun x hx => ?_, ?_⟩
  · have := h.1.1 x hx
    unfold okR at this
    omega
  · have := canon_len h.1 p h0 h.2.1
    omega

set_option maxHeartbeats 4000000 in
theorem kept_any (g : Nat) (kf : Bool → Bool → Bool) (hk : Says g kf) (eg : ∀ args w, (callFunc g args).run Tryd.prog w = .ok (.enter g args) w) (va vb : Value) (A B : RL) (w : World) (hA : Reads w va A) (hB : Reads w vb B) (cA : Canon A) (cB : Canon B) (lA : A.length ≤ 2000) (lB : B.length ≤ 2000) :
    Calls Tryd.prog 27 #[va, vb, .func (.func g) #[] #[]] w fun e w' => ∃ v' O, e = .returned v' ∧ w'.ownsRow w.heap.size 35 2 v' O.length (cells2 O) ∧ IsSet (fun q => kf (ins A q) (ins B q)) O ∧ Below w.heap.size w w' := by
  have HS := hide (fun p w' (hb : Below w.heap.size w w') => stretch_any va A p w' (hA.below hb) cA lA)
  have HT := hide (fun p w' (hb : Below w.heap.size w w') => stretch_any vb B p w' (hB.below hb) cB lB)
  have HK := hide hk
  have CA := hide cA
  have CB := hide cB
  clear hk hA hB cA cB lA lB
  go_enter Tryd.func27, Tryd.ntmps27
  go_wp2
  go_loopw [7, 8] (fun v i wr => ∃ (O : RL) (p : Int), i = .int .i64 p ∧ 0 ≤ p ∧ p ≤ 1114112 ∧ wr.ownsRow w.heap.size 35 2 v O.length (cells2 O) ∧ Upto (fun q => kf (ins A q) (ins B q)) O p ∧ Below w.heap.size w wr) (fun _ i _ => 1114112 - (intOf i).toNat)
  case atStart => exact ⟨[], 0, rfl, by omega, by omega, World.ownsRow_nil _ _ _ _, upto_zero _, Below.refl _ _⟩
  case round =>
    obtain ⟨O, p, rfl, p0, p1, ho, hu, hb⟩ := hrel
    have HO := hide ho
    have HU := hide hu
    have HB := hide hb
    obtain ⟨ao, c, rfl⟩ := own_shape ho
    clear ho
    by_cases hp : p ≤ 1114111
    · obtain ⟨sa1, sa2, sa3⟩ := stretch_spec CA.out p0 hp
      obtain ⟨sb1, sb2, sb3⟩ := stretch_spec CB.out p0 hp
      have ia := stretch_ins CA.out p0 hp
      have ib := stretch_ins CB.out p0 hp
      have HS1 := hide (HS.out p wr hb)
      have HT1 := hide (fun w' hb' => HT.out p w' hb')
      obtain ⟨xa, la, hx⟩ : ∃ xa la, stretchL A p = (xa, la) := ⟨_, _, rfl⟩
      obtain ⟨xb, lb, hy⟩ : ∃ xb lb, stretchL B p = (xb, lb) := ⟨_, _, rfl⟩
      rw [hx] at HS1 sa1 sa2 sa3 ia
      rw [hy] at HT1 sb1 sb2 sb3 ib
      simp only at HS1 HT1 sa1 sa2 sa3 ia sb1 sb2 sb3 ib
      have l0 : p ≤ min la lb := by omega
      have l1 : min la lb ≤ 1114111 := by omega
      have hconst : Hid (∀ q, p ≤ q → q ≤ min la lb → kf (ins A q) (ins B q) = kf xa xb) := fun q h1 h2 => by rw [sa3 q h1 (by omega), sb3 q h1 (by omega)]
      have HK1 := hide (HK.out xa xb)
      obtain ⟨yes, hyes⟩ : ∃ y, y = kf xa xb := ⟨_, rfl⟩
      rw [← hyes] at HK1 hconst
      have wl : IntKind.i64.wrap (min la lb + 1) = min la lb + 1 := by rw [IntKind.wrap_i64]; omega
      clear sa3 sb3 ia ib hx hy hu hyes hb
      have key : ∀ w2, Below wr.heap.size wr w2 → w2.ownsRow w.heap.size 35 2 (.slice ao O.length c) O.length (cells2 O) := fun w2 h => own_below HO.out h
      have KEY := hide key
      have hsz : Hid (w.heap.size ≤ wr.heap.size) := HB.out.size
      obtain ⟨hrg, hln⟩ := upto_rng HU.out p0 p1
      have HAdd := hide (fun w2 (h : Below wr.heap.size wr w2) => add_any w.heap.size (.slice ao O.length c) O p (min la lb) w2 (Nat.le_trans hsz.out h.size) hrg hln (KEY.out w2 h))
      clear key hrg hln
      cases yes with
      | true =>
        have hup := hide (upto_yes HU.out p0 l0 l1 hconst.out)
        go_wp2_with fail
        refine HS1.out.mono ?_
        rintro e w1 ⟨rfl, hb1⟩
        go_wp2_with fail
        refine (HT1.out w1 (HB.out.trans (hb1.mono hsz.out))).mono ?_
        rintro e w2 ⟨rfl, hb2⟩
        have hb3 := hide (hb1.trans (hb2.mono hb1.size))
        clear hb1 hb2
        go_wp2_with (go_at_fn g; refine (HK1.out _).mono ?_; rintro e w' ⟨rfl, rfl⟩)
        refine (HAdd.out w2 hb3.out).mono ?_
        rintro e w3 ⟨v', rfl, ho3, hb4⟩
        have HO3 := hide ho3
        obtain ⟨ao', c', hv'⟩ := own_shape ho3
        rw [hv'] at HO3 ⊢
        clear ho3 hv'
        go_wp2
        go_roundw
        case rel => exact ⟨_, _, rfl, by omega, by omega, HO3.out, hup.out, HB.out.trans ((hb3.out.mono hsz.out).trans hb4)⟩
        case measure => simp [intOf]; omega
      | false =>
        have hup := hide (upto_no HU.out l0 hconst.out)
        go_wp2_with fail
        refine HS1.out.mono ?_
        rintro e w1 ⟨rfl, hb1⟩
        go_wp2_with fail
        refine (HT1.out w1 (HB.out.trans (hb1.mono hsz.out))).mono ?_
        rintro e w2 ⟨rfl, hb2⟩
        have hb3 := hide (hb1.trans (hb2.mono hb1.size))
        clear hb1 hb2
        go_wp2_with (go_at_fn g; refine (HK1.out _).mono ?_; rintro e w' ⟨rfl, rfl⟩)
        go_roundw
        case rel => exact ⟨_, _, rfl, by omega, by omega, KEY.out _ hb3.out, hup.out, HB.out.trans (hb3.out.mono hsz.out)⟩
        case measure => simp [intOf]; omega
    · have hE : Hid (IsSet (fun q => kf (ins A q) (ins B q)) O) := upto_all hu (by omega)
      clear hu hb
      go_wp2
      go_ret
      exact ⟨_, rfl, O, HO.out, hE.out, HB.out⟩

end Go.Proofs.YtojjfmnbpfpanaaDoor
