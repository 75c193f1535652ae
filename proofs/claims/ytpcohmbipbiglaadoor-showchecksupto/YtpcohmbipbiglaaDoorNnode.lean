/- What node answers, whatever tree it is handed. -/
import Derived.Test.YtpcohmbipbiglaaDoorNnod2
import Derived.Test.YtpcohmbipbiglaaDoorNnod4
import Derived.Test.YtpcohmbipbiglaaDoorNnod5
import Derived.Test.YtpcohmbipbiglaaDoorNnod6
namespace Go.Proofs.YtpcohmbipbiglaaDoor
open Go.RowKit
set_option linter.unusedVariables false

theorem node_any {w0 : World} {n : NV} {t : Tr} (h : NodeC w0 n t) : ∀ (cb : Nat) (w : World) (s : St), Below w0.heap.size w0 w → CK w0.heap.size w cb s → 0 ≤ s.1 ∧ s.1 + szT t ≤ 1000000 ∧ s.2.length + szT t ≤ 1000000 → Calls Tryd.prog 27 #[.pointer (some ⟨cb, 0, none⟩), nvV n] w fun e w' => NodeE w0.heap.size (chkT t s) cb w e w' := by
  induction h with
  | mk n set ks vs hs hk hkids ih =>
    intro cb w s hw0 hck hsz
    have h0 : NodeC w0 n (.mk n.kind n.num n.least n.most n.way n.fold set ks) := .mk n set ks vs hs hk hkids
    have hN := h0.keep hw0
    have hB := hw0.size
    rw [szT] at hsz
    obtain ⟨z1, z2, z3⟩ := hsz
    have hsz' : 0 ≤ s.1 ∧ s.1 + szL ks + 1 ≤ 1000000 ∧ s.2.length + szL ks + 1 ≤ 1000000 := ⟨z1, by omega, by omega⟩
    have hih : ∀ j (hj : j < ks.length) (W : World) (s : St), Below w0.heap.size w0 W → CK w0.heap.size W cb s → 0 ≤ s.1 ∧ s.1 + szT ks[j] ≤ 1000000 ∧ s.2.length + szT ks[j] ≤ 1000000 → Calls Tryd.prog 27 #[.pointer (some ⟨cb, 0, none⟩), nvV (vs j)] W fun e w' => NodeE w0.heap.size (chkT ks[j] s) cb W e w' := fun j hj W s => ih j hj cb W s
    have err : ∀ z, nodeS (.mk n.kind n.num n.least n.most n.way n.fold set ks) s = .error z → chkT (.mk n.kind n.num n.least n.most n.way n.fold set ks) s = .error z := fun z hz => by rw [chkT_kids, hz]
    by_cases hkd : 1 ≤ n.kind ∧ n.kind ≤ 18
    · by_cases hok : (kidsB (.mk n.kind n.num n.least n.most n.way n.fold set ks) && fieldsB (.mk n.kind n.num n.least n.most n.way n.fold set ks)) = true
      · by_cases hzs : checkE set = 0
        · by_cases h12 : n.kind = 12
          · by_cases hrep : repE (.mk n.kind n.num n.least n.most n.way n.fold set ks) = 0
            · exact node_rep w0 n set ks vs h0 hk w hw0 cb s hck hkd hok hzs h12 hrep hsz' hih
            · refine (node_repbad w0 n set ks vs h0 hk w hw0 cb s hck hkd hok hzs h12 hrep).mono ?_
              rintro e w' ⟨rfl, hb⟩
              refine ⟨hb.mono hB, .inr ⟨_, err _ ?_, rfl⟩⟩
              unfold nodeS
              rw [if_neg (by show ¬ ¬ (1 ≤ n.kind ∧ n.kind ≤ 18); omega), if_neg (by rw [hok]; decide), if_neg (by show ¬ checkE set ≠ 0; omega), if_pos (show (Tr.mk n.kind n.num n.least n.most n.way n.fold set ks).kind = 12 from h12), if_neg hrep]
          · by_cases h11 : n.kind = 11
            · by_cases hnum : n.num = s.1 + 1
              · exact node_group w0 n set ks vs h0 hk w hw0 cb s hck hkd hok hzs h11 hnum hsz' hih
              · refine (node_groupbad w0 n set ks vs h0 hk w hw0 cb s hck hkd hok hzs h11 hnum ⟨hsz'.1, hsz'.2.1⟩).mono ?_
                rintro e w' ⟨rfl, hb⟩
                refine ⟨hb, .inr ⟨_, err _ ?_, rfl⟩⟩
                unfold nodeS
                rw [if_neg (by show ¬ ¬ (1 ≤ n.kind ∧ n.kind ≤ 18); omega), if_neg (by rw [hok]; decide), if_neg (by show ¬ checkE set ≠ 0; omega), if_neg (show ¬ (Tr.mk n.kind n.num n.least n.most n.way n.fold set ks).kind = 12 from h12), if_pos (show (Tr.mk n.kind n.num n.least n.most n.way n.fold set ks).kind = 11 from h11), if_neg (show ¬ (Tr.mk n.kind n.num n.least n.most n.way n.fold set ks).num = s.1 + 1 from hnum)]
            · by_cases h18 : n.kind = 18
              · exact node_again w0 n set ks vs h0 hk w hw0 cb s hck hkd hok hzs h18 hsz' hih
              · exact node_other w0 n set ks vs h0 hk w hw0 cb s hck hkd hok hzs ⟨h12, h11, h18⟩ hsz' hih
        · refine (node_set w0.heap.size n _ w cb s hN hB hck hkd hok hzs).mono ?_
          rintro e w' ⟨rfl, hb⟩
          refine ⟨hb.mono hB, .inr ⟨_, err _ ?_, rfl⟩⟩
          unfold nodeS
          rw [if_neg (by show ¬ ¬ (1 ≤ n.kind ∧ n.kind ≤ 18); omega), if_neg (by rw [hok]; decide), if_pos (show checkE (Tr.mk n.kind n.num n.least n.most n.way n.fold set ks).set ≠ 0 from hzs)]
      · have hok' : (kidsB (.mk n.kind n.num n.least n.most n.way n.fold set ks) && fieldsB (.mk n.kind n.num n.least n.most n.way n.fold set ks)) = false := by simpa using hok
        refine (node_form w0.heap.size n _ w cb s hN hB hck hkd hok').mono ?_
        rintro e w' ⟨rfl, hb⟩
        refine ⟨hb.mono hB, .inr ⟨_, err _ ?_, rfl⟩⟩
        unfold nodeS
        rw [if_neg (by show ¬ ¬ (1 ≤ n.kind ∧ n.kind ≤ 18); omega), if_pos hok']
    · refine (node_kind w0.heap.size n _ w cb s hN hB hck hkd).mono ?_
      rintro e w' ⟨rfl, hb⟩
      refine ⟨hb.mono hB, .inr ⟨_, err _ ?_, rfl⟩⟩
      unfold nodeS
      rw [if_pos (show ¬ (1 ≤ (Tr.mk n.kind n.num n.least n.most n.way n.fold set ks).kind ∧ (Tr.mk n.kind n.num n.least n.most n.way n.fold set ks).kind ≤ 18) from hkd)]

end Go.Proofs.YtpcohmbipbiglaaDoor
