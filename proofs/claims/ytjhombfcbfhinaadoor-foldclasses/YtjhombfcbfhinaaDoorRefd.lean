/- What the reference answers of the classes that are made of others; and of all of them. -/
import Derived.Test.YtjhombfcbfhinaaDoorRefc
namespace Go.Proofs.YtjhombfcbfhinaaDoor
open Go.RowKit
set_option linter.unusedVariables false

set_option maxHeartbeats 4000000 in
set_option maxRecDepth 100000 in
theorem inR_alnum (p : Int) (w : World) : Calls Tryd.prog 20 #[.string ⟨#[97, 108, 110, 117, 109]⟩, .int .i64 p] w fun e w' => e = .returned (.bool (inP p ps_alnum)) ∧ w = w' := by
  have HA := hide (inR_alpha p)
  have HD := hide (inR_digit p)
  have hx : Hid (inP p ps_alnum = (inP p ps_alpha || inP p ps_digit)) := inP_append _ _ _
  obtain ⟨r, hr⟩ : ∃ r, r = inP p ps_alnum := ⟨_, rfl⟩
  obtain ⟨a, ha⟩ : ∃ a, a = inP p ps_alpha := ⟨_, rfl⟩
  obtain ⟨d, hd⟩ : ∃ d, d = inP p ps_digit := ⟨_, rfl⟩
  rw [← hr, ← ha, ← hd] at hx
  rw [← ha] at HA
  rw [← hd] at HD
  rw [← hr]
  clear hr ha hd
  cases a
  · go_enter Tryd.func20, Tryd.ntmps20
    go_wp2_with fail
    refine (HA.out _).mono ?_
    rintro e w' ⟨rfl, rfl⟩
    go_wp2_with fail
    refine (HD.out _).mono ?_
    rintro e w' ⟨rfl, rfl⟩
    go_wp2
    go_ret
    exact ⟨ret_bool (by rw [hx.out]; rfl), rfl⟩
  · go_enter Tryd.func20, Tryd.ntmps20
    go_wp2_with fail
    refine (HA.out _).mono ?_
    rintro e w' ⟨rfl, rfl⟩
    go_wp2
    go_ret
    exact ⟨ret_bool (by rw [hx.out]; rfl), rfl⟩

set_option maxHeartbeats 4000000 in
set_option maxRecDepth 100000 in
theorem inR_word (p : Int) (w : World) : Calls Tryd.prog 20 #[.string ⟨#[119, 111, 114, 100]⟩, .int .i64 p] w fun e w' => e = .returned (.bool (inP p ps_word)) ∧ w = w' := by
  have HA := hide (inR_alnum p)
  have hx : Hid (inP p ps_word = (inP p ps_alnum || p == 95)) := by
    show _ = _
    rw [show ps_word = ps_alnum ++ [(95, 95)] from rfl, inP_append]
    congr 1
    rw [Bool.eq_iff_iff]; simp [inP]; omega
  obtain ⟨r, hr⟩ : ∃ r, r = inP p ps_word := ⟨_, rfl⟩
  obtain ⟨a, ha⟩ : ∃ a, a = inP p ps_alnum := ⟨_, rfl⟩
  rw [← hr, ← ha] at hx
  rw [← ha] at HA
  rw [← hr]
  clear hr ha
  cases a
  · go_enter Tryd.func20, Tryd.ntmps20
    go_wp2_with fail
    refine (HA.out _).mono ?_
    rintro e w' ⟨rfl, rfl⟩
    go_wp2
    all_goals go_ret
    all_goals exact ⟨ret_bool (by rw [hx.out]; simp), rfl⟩
  · go_enter Tryd.func20, Tryd.ntmps20
    go_wp2_with fail
    refine (HA.out _).mono ?_
    rintro e w' ⟨rfl, rfl⟩
    go_wp2
    all_goals go_ret
    all_goals exact ⟨ret_bool (by rw [hx.out]; rfl), rfl⟩

set_option maxHeartbeats 4000000 in
set_option maxRecDepth 100000 in
theorem inR_graph (p : Int) (w : World) : Calls Tryd.prog 20 #[.string ⟨#[103, 114, 97, 112, 104]⟩, .int .i64 p] w fun e w' => e = .returned (.bool (inP p ps_graph)) ∧ w = w' := by
  have HA := hide (inR_alnum p)
  have HD := hide (inR_punct p)
  have hx : Hid (inP p ps_graph = (inP p ps_alnum || inP p ps_punct)) := inP_append _ _ _
  obtain ⟨r, hr⟩ : ∃ r, r = inP p ps_graph := ⟨_, rfl⟩
  obtain ⟨a, ha⟩ : ∃ a, a = inP p ps_alnum := ⟨_, rfl⟩
  obtain ⟨d, hd⟩ : ∃ d, d = inP p ps_punct := ⟨_, rfl⟩
  rw [← hr, ← ha, ← hd] at hx
  rw [← ha] at HA
  rw [← hd] at HD
  rw [← hr]
  clear hr ha hd
  cases a
  · go_enter Tryd.func20, Tryd.ntmps20
    go_wp2_with fail
    refine (HA.out _).mono ?_
    rintro e w' ⟨rfl, rfl⟩
    go_wp2_with fail
    refine (HD.out _).mono ?_
    rintro e w' ⟨rfl, rfl⟩
    go_wp2
    go_ret
    exact ⟨ret_bool (by rw [hx.out]; rfl), rfl⟩
  · go_enter Tryd.func20, Tryd.ntmps20
    go_wp2_with fail
    refine (HA.out _).mono ?_
    rintro e w' ⟨rfl, rfl⟩
    go_wp2
    go_ret
    exact ⟨ret_bool (by rw [hx.out]; rfl), rfl⟩

theorem inR_some (s : ByteArray) (hs : s ∈ names) (p : Int) (w : World) : Calls Tryd.prog 20 #[.string s, .int .i64 p] w fun e w' => e = .returned (.bool (inP p (rngOf s))) ∧ w = w' := by
  simp only [names, List.mem_cons, List.not_mem_nil, or_false] at hs
  rcases hs with rfl | rfl | rfl | rfl | rfl | rfl | rfl | rfl | rfl | rfl | rfl | rfl | rfl | rfl
  · exact inR_any p w
  · exact inR_ascii p w
  · exact inR_cntrl p w
  · exact inR_digit p w
  · exact inR_xdigit p w
  · exact inR_blank p w
  · exact inR_space p w
  · exact inR_punct p w
  · exact inR_alpha p w
  · exact inR_upper p w
  · exact inR_lower p w
  · exact inR_alnum p w
  · exact inR_word p w
  · exact inR_graph p w

end Go.Proofs.YtjhombfcbfhinaaDoor
