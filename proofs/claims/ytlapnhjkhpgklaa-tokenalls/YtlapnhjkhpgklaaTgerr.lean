/- Which errors a token may have. No program. -/
import Derived.Test.YtlapnhjkhpgklaaTgpure
namespace Go.Proofs.Ytlapnhjkhpgklaa
set_option linter.unusedVariables false

def eOk (z : Int) : Prop := z = 1 ∨ z = 2 ∨ z = 3
theorem times_err {d : Int} {l : List Int} {i : Nat} {z : Int} (h : timesT d l i = .error z) : eOk z := by
  unfold timesT at h
  simp only at h
  unfold eOk
  repeat' (split at h)
  all_goals first | (cases h; done) | (injection h with h; omega)
theorem opt_err {l : List Int} {i : Nat} {f z : Int} (h : optT l i f = .error z) : eOk z := by
  unfold optT at h
  unfold eOk
  repeat' (split at h)
  all_goals first | (cases h; done) | (injection h with h; omega)
theorem beh_err {l : List Int} {i : Nat} {z : Int} (h : behT l i = .error z) : eOk z := by
  unfold behT at h
  unfold eOk
  repeat' (split at h)
  all_goals first | (cases h; done) | (injection h with h; omega)
theorem open_err {d : Int} {l : List Int} {i : Nat} {z : Int} (h : openS d l i = .error z) : eOk z := by
  unfold openS at h
  repeat' (split at h)
  all_goals first | (cases h; done) | exact beh_err h | exact opt_err h | (unfold eOk; injection h with h; omega)
theorem part_err {d : Int} {l : List Int} {p : Int} {i : Nat} {z : Int} (h : partT d l p i = .error z) : eOk z := by
  unfold partT at h
  repeat' (split at h)
  all_goals first | (cases h; done) | exact open_err h | exact times_err h
theorem hex_err {l : List Int} {i : Nat} {z : Int} (h : hexT l i = .error z) : eOk z := by
  unfold hexT at h
  simp only at h
  unfold eOk
  repeat' (split at h)
  all_goals first | (cases h; done) | (injection h with h; omega)
theorem uni_err {l : List Int} {i : Nat} {z : Int} (h : uniT l i = .error z) : eOk z := by
  unfold uniT at h
  simp only at h
  unfold eOk
  repeat' (split at h)
  all_goals first | (cases h; done) | (injection h with h; omega)
theorem agb_err {l : List Int} {i : Nat} {z : Int} (h : agbT l i = .error z) : eOk z := by
  unfold agbT at h
  simp only at h
  unfold eOk
  repeat' (split at h)
  all_goals first | (cases h; done) | (injection h with h; omega)
theorem ctl_err {p z : Int} (h : ctlT p = .error z) : eOk z := by
  unfold ctlT at h
  unfold eOk
  repeat' (split at h)
  all_goals first | (cases h; done) | (injection h with h; omega)
theorem ruby_err {l : List Int} {i : Nat} {p z : Int} (h : rubyT l i p = .error z) : eOk z := by
  unfold rubyT at h
  split at h
  · cases h
  · repeat' (split at h)
    all_goals first | (cases h; done) | exact hex_err h | exact uni_err h | exact agb_err h | (rename_i e he; injection h with h; subst h; exact ctl_err he)
theorem emacs_err {l : List Int} {i : Nat} {p z : Int} (h : emacsT l i p = .error z) : eOk z := by
  unfold emacsT at h
  split at h
  · exact part_err h
  · repeat' (split at h)
    all_goals cases h
theorem next_err {d : Int} {l : List Int} {i : Nat} {z : Int} (h : nextT d l i = .error z) : eOk z := by
  unfold nextT at h
  split at h
  · unfold eOk; injection h with h; omega
  · unfold tokT at h
    split at h
    · unfold escT at h
      split at h
      · unfold eOk; injection h with h; omega
      · split at h
        · exact ruby_err h
        · split at h
          · exact emacs_err h
          · cases h
    · repeat' (split at h)
      all_goals first | (cases h; done) | exact part_err h

end Go.Proofs.Ytlapnhjkhpgklaa
