/- A region of the reference's ShowNode that draws its order: over whatever frame. -/
import Derived.Test.YtpcohmbipbiglaaDoorRs1
import Derived.Test.YtpcohmbipbiglaaDoorWs2
import Derived.Deep.RegionWith

namespace Go.Proofs.YtpcohmbipbiglaaDoor
open Go.RowKit
open Go.Lib (decDigits)
set_option linter.unusedVariables false

abbrev R30 : Code :=
    (Code.region 30 #[{ dst := some 105, op := Op.move (Operand.tmp 5), type := 56, pos := "match.go:219", after := #[], guard := none },
      { dst := some 106, op := Op.move (Operand.tmp 10), type := 3, pos := "match.go:219", after := #[], guard := none },
      { dst := some 107, op := Op.binOp BinOp.eql 3 (Operand.tmp 106) (Operand.const (Value.int IntKind.i64 9)) 3, type := 4, pos := "match.go:219", after := #[{ on := 1, ground := Ground.data }], guard := none },
      { dst := some 108, op := Op.move (Operand.tmp 107), type := 4, pos := "match.go:219", after := #[{ on := 2, ground := Ground.data }], guard := none },
      { dst := some 109, op := Op.move (Operand.tmp 10), type := 3, pos := "match.go:219", after := #[{ on := 3, ground := Ground.guard }], guard := some (3, false) },
      { dst := some 110, op := Op.binOp BinOp.eql 3 (Operand.tmp 109) (Operand.const (Value.int IntKind.i64 10)) 3, type := 4, pos := "match.go:219", after := #[{ on := 4, ground := Ground.data }, { on := 3, ground := Ground.guard }], guard := some (3, false) },
      { dst := some 111, op := Op.pick (Operand.tmp 108) (Operand.const (Value.bool true)) (Operand.tmp 110), type := 4, pos := "match.go:219", after := #[{ on := 3, ground := Ground.data }, { on := 5, ground := Ground.data }], guard := none },
      { dst := some 112, op := Op.move (Operand.tmp 111), type := 4, pos := "match.go:219", after := #[{ on := 6, ground := Ground.data }, { on := 3, ground := Ground.chain }], guard := none },
      { dst := some 113, op := Op.move (Operand.tmp 10), type := 3, pos := "match.go:219", after := #[{ on := 7, ground := Ground.guard }], guard := some (7, false) },
      { dst := some 114, op := Op.binOp BinOp.eql 3 (Operand.tmp 113) (Operand.const (Value.int IntKind.i64 12)) 3, type := 4, pos := "match.go:219", after := #[{ on := 8, ground := Ground.data }, { on := 7, ground := Ground.guard }], guard := some (7, false) },
      { dst := some 115, op := Op.pick (Operand.tmp 112) (Operand.const (Value.bool true)) (Operand.tmp 114), type := 4, pos := "match.go:219", after := #[{ on := 7, ground := Ground.data }, { on := 9, ground := Ground.data }], guard := none },
      { dst := some 116, op := Op.call { callee := Callee.value (Operand.tmp 105), args := #[Operand.const (Value.int IntKind.i64 0), Operand.tmp 115], argTypes := #[3, 4] }, type := 9, pos := "match.go:219", after := #[{ on := 0, ground := Ground.data }, { on := 10, ground := Ground.data }, { on := 7, ground := Ground.chain }], guard := none },
      { dst := some 117, op := Op.binOp BinOp.add 9 (Operand.tmp 116) (Operand.const (Value.string { data := #[123] })) 9, type := 9, pos := "match.go:219", after := #[{ on := 11, ground := Ground.data }], guard := none },
      { dst := some 118, op := Op.fieldAddr 25 (Operand.tmp 2) 4, type := 0, pos := "match.go:219", after := #[], guard := none },
      { dst := some 119, op := Op.load 3 (Operand.tmp 118), type := 3, pos := "match.go:219", after := #[{ on := 13, ground := Ground.data }], guard := none },
      { dst := some 120, op := Op.call { callee := Callee.value (Operand.func 24), args := #[Operand.tmp 119], argTypes := #[3] }, type := 9, pos := "match.go:219", after := #[{ on := 14, ground := Ground.data }, { on := 11, ground := Ground.chain }], guard := none },
      { dst := some 121, op := Op.binOp BinOp.add 9 (Operand.tmp 117) (Operand.tmp 120) 9, type := 9, pos := "match.go:219", after := #[{ on := 12, ground := Ground.data }, { on := 15, ground := Ground.data }], guard := none },
      { dst := some 122, op := Op.binOp BinOp.add 9 (Operand.tmp 121) (Operand.const (Value.string { data := #[44] })) 9, type := 9, pos := "match.go:219", after := #[{ on := 16, ground := Ground.data }], guard := none },
      { dst := some 6, op := Op.assign (Operand.tmp 122), type := 9, pos := "match.go:219", after := #[{ on := 17, ground := Ground.data }, { on := 15, ground := Ground.chain }, { on := 0, ground := Ground.phase }, { on := 1, ground := Ground.phase }, { on := 2, ground := Ground.phase }, { on := 3, ground := Ground.phase }, { on := 4, ground := Ground.phase }, { on := 5, ground := Ground.phase }, { on := 6, ground := Ground.phase }, { on := 7, ground := Ground.phase }, { on := 8, ground := Ground.phase }, { on := 9, ground := Ground.phase }, { on := 10, ground := Ground.phase }, { on := 11, ground := Ground.phase }, { on := 12, ground := Ground.phase }, { on := 13, ground := Ground.phase }, { on := 14, ground := Ground.phase }, { on := 15, ground := Ground.phase }, { on := 16, ground := Ground.phase }, { on := 17, ground := Ground.phase }], guard := none }] true)

theorem get_neW (B : Array Value) (i j : Nat) (v : Value) (h : i ≠ j) : (B.setIfInBounds i v).getD j undef = B.getD j undef := by simp [Array.getD_eq_getD_getElem?, Array.getElem?_setIfInBounds_ne h]
theorem get_eqW (B : Array Value) (i : Nat) (v : Value) (h : i < B.size) : (B.setIfInBounds i v).getD i undef = v := by simp [Array.getD_eq_getD_getElem?, h]
/-- behind a statement that comes to its end. -/
def PostW (F : Act → World → Prop) : Exit → Act → World → Prop
  | .normal, a, w => F a w
  | _, _, _ => False
theorem wp_afterW {P : Program} {c : Code} {Q : Exit → Act → World → Prop} {F : Act → World → Prop} {a : Act} {w : World} (h : c.wp P (PostW F) a w) (hK : ∀ a' w', F a' w' → Q .normal a' w') : c.wp P Q a w := by
  refine wp_mono h ?_
  intro e a' w' hq
  cases e with
  | normal => exact hK _ _ hq
  | _ => exact hq.elim
/-- what the statement leaves. -/
def Rep30 (w0 : World) (n : NV) (nm : Value) (w : World) (bn bm : Nat) (S : ByteArray) (a' : Act) (w' : World) : Prop :=
  ∃ A' : Array Value, a' = ⟨A', []⟩ ∧ A'.size = 199 ∧ A'.getD 2 undef = .pointer (some ⟨bn, 0, none⟩) ∧ A'.getD 6 undef = .string S ∧ Boxes n nm w w' bn bm ∧ Below w0.heap.size w0 w'

end Go.Proofs.YtpcohmbipbiglaaDoor

namespace Go.Proofs.YtpcohmbipbiglaaDoor
open Go.RowKit
open Go.Lib (decDigits)
set_option linter.unusedVariables false


set_option maxRecDepth 100000 in
set_option maxHeartbeats 8000000 in
theorem reg30_9 {W w0 w : World} {n : NV} {nm : Value} {bn bm : Nat} {least : Int} {KS S1 : ByteArray} {u0 u1 u3 u4 u6 u7 u8 u9 u11 u12 u13 u14 u15 u16 u17 u18 u19 u20 u21 u22 u23 u24 u25 u26 u27 u28 u29 u30 u31 u32 u33 u34 u35 u36 u37 u38 u39 u40 u41 u42 u43 u44 u45 u46 u47 u48 u49 u50 u51 u52 u53 u54 u55 u56 u57 u58 u59 u60 u61 u62 u63 u64 u65 u66 u67 u68 u69 u70 u71 u72 u73 u74 u75 u76 u77 u78 u79 u80 u81 u82 u83 u84 u85 u86 u87 u88 u89 u90 u91 u92 u93 u94 u95 u96 u97 u98 u99 u100 u101 u102 u103 u104 u105 u106 u107 u108 u109 u110 u111 u112 u113 u114 u115 u116 u117 u118 u119 u120 u121 u122 u123 u124 u125 u126 u127 u128 u129 u130 u131 u132 u133 u134 u135 u136 u137 u138 u139 u140 u141 u142 u143 u144 u145 u146 u147 u148 u149 u150 u151 u152 u153 u154 u155 u156 u157 u158 u159 u160 u161 u162 u163 u164 u165 u166 u167 u168 u169 u170 u171 u172 u173 u174 u175 u176 u177 u178 u179 u180 u181 u182 u183 u184 u185 u186 u187 u188 u189 u190 u191 u192 u193 u194 u195 u196 u197 u198 : Value} 
    (hB : Boxes n nm w W bn bm) (hB0 : Below w0.heap.size w0 W) (hX : ∀ W, Boxes n nm w W bn bm → W.cell? ⟨bn, 4, none⟩ = some (.int .i64 least))
    (HKid : Hid (∀ W, Below w0.heap.size w0 W → Boxes n nm w W bn bm → Calls Tryd.prog 22 #[.int .i64 0, .bool true, .pointer (some ⟨bn, 0, none⟩), .pointer (some ⟨bm, 0, none⟩)] W fun e w' => e = .returned (.string KS) ∧ Below W.heap.size W w'))
    (HD1 : Hid (∀ W, Calls Tryd.prog 24 #[.int .i64 least] W fun e w' => e = .returned (.string S1) ∧ Below W.heap.size W w'))
    (z1 : ¬ (9223372036854775807 < KS.size + ((⟨#[123]⟩ : ByteArray)).size))
    (z2 : ¬ (9223372036854775807 < (KS ++ (⟨#[123]⟩ : ByteArray)).size + S1.size))
    (z3 : ¬ (9223372036854775807 < (KS ++ (⟨#[123]⟩ : ByteArray) ++ S1).size + ((⟨#[44]⟩ : ByteArray)).size))
    (z2a : ¬ (9223372036854775807 < KS.size + 1 + S1.size)) (z3a : ¬ (9223372036854775807 < KS.size + 1 + S1.size + 1)) (z2b : ¬ (9223372036854775807 < KS.size + ((⟨#[123]⟩ : ByteArray)).size + S1.size)) (z3b : ¬ (9223372036854775807 < KS.size + ((⟨#[123]⟩ : ByteArray)).size + S1.size + ((⟨#[44]⟩ : ByteArray)).size)) :
    R30.wp Tryd.prog (PostW (Rep30 w0 n nm w bn bm (KS ++ (⟨#[123]⟩ : ByteArray) ++ S1 ++ (⟨#[44]⟩ : ByteArray)))) ⟨#[u0, u1, .pointer (some ⟨bn, 0, none⟩), u3, u4, .func (.func 22) #[] #[.pointer (some ⟨bn, 0, none⟩), .pointer (some ⟨bm, 0, none⟩)], u6, u7, u8, u9, .int .i64 9, u11, u12, u13, u14, u15, u16, u17, u18, u19, u20, u21, u22, u23, u24, u25, u26, u27, u28, u29, u30, u31, u32, u33, u34, u35, u36, u37, u38, u39, u40, u41, u42, u43, u44, u45, u46, u47, u48, u49, u50, u51, u52, u53, u54, u55, u56, u57, u58, u59, u60, u61, u62, u63, u64, u65, u66, u67, u68, u69, u70, u71, u72, u73, u74, u75, u76, u77, u78, u79, u80, u81, u82, u83, u84, u85, u86, u87, u88, u89, u90, u91, u92, u93, u94, u95, u96, u97, u98, u99, u100, u101, u102, u103, u104, u105, u106, u107, u108, u109, u110, u111, u112, u113, u114, u115, u116, u117, u118, u119, u120, u121, u122, u123, u124, u125, u126, u127, u128, u129, u130, u131, u132, u133, u134, u135, u136, u137, u138, u139, u140, u141, u142, u143, u144, u145, u146, u147, u148, u149, u150, u151, u152, u153, u154, u155, u156, u157, u158, u159, u160, u161, u162, u163, u164, u165, u166, u167, u168, u169, u170, u171, u172, u173, u174, u175, u176, u177, u178, u179, u180, u181, u182, u183, u184, u185, u186, u187, u188, u189, u190, u191, u192, u193, u194, u195, u196, u197, u198], []⟩ W := by
  have HBc : Hid (Boxes n nm w W.drew bn bm) := hB.keep ⟨rfl, rfl, rfl, Nat.le_refl _, fun _ _ => rfl⟩
  have HBc0 : Hid (Below w0.heap.size w0 W.drew) := hB0.trans ⟨rfl, rfl, rfl, Nat.le_refl _, fun _ _ => rfl⟩
  have g4 := hX _ HBc.out
  have HX := hide hX
  clear hB hB0 hX
  unfold R30
  refine wp_region_any (by kernel_rfl) ?_
  change wpAny _ _ _ _ _ _ _ (World.drew _)
  refine wpAny_take (i := 0) (v := .func (.func 22) #[] #[.pointer (some ⟨bn, 0, none⟩), .pointer (some ⟨bm, 0, none⟩)]) rfl (by kernel_rfl) (by kernel_rfl) (by kernel_rfl) (fun _ _ _ h => h) (Or.inl ⟨by kernel_rfl, fun w => ?_⟩) ?_
  · (go_simp <;> omega)
  refine wpAny_take (i := 1) (v := .int .i64 9) rfl (by kernel_rfl) (by kernel_rfl) (by kernel_rfl) (fun _ _ _ h => h) (Or.inl ⟨by kernel_rfl, fun w => ?_⟩) ?_
  · (go_simp <;> omega)
  refine wpAny_take (i := 2) (v := .bool true) rfl (by kernel_rfl) (by kernel_rfl) (by kernel_rfl) (fun _ _ _ h => h) (Or.inl ⟨by kernel_rfl, fun w => ?_⟩) ?_
  · (go_simp <;> omega)
  refine wpAny_take (i := 3) (v := .bool true) rfl (by kernel_rfl) (by kernel_rfl) (by kernel_rfl) (fun _ _ _ h => h) (Or.inl ⟨by kernel_rfl, fun w => ?_⟩) ?_
  · (go_simp <;> omega)
  refine wpAny_take (i := 4) (v := undef) rfl (by kernel_rfl) (by kernel_rfl) (by kernel_rfl) (fun _ _ _ h => h) (Or.inr ⟨by kernel_rfl, rfl⟩) ?_
  refine wpAny_take (i := 5) (v := undef) rfl (by kernel_rfl) (by kernel_rfl) (by kernel_rfl) (fun _ _ _ h => h) (Or.inr ⟨by kernel_rfl, rfl⟩) ?_
  refine wpAny_take (i := 6) (v := .bool true) rfl (by kernel_rfl) (by kernel_rfl) (by kernel_rfl) (fun _ _ _ h => h) (Or.inl ⟨by kernel_rfl, fun w => ?_⟩) ?_
  · (go_simp <;> omega)
  refine wpAny_take (i := 7) (v := .bool true) rfl (by kernel_rfl) (by kernel_rfl) (by kernel_rfl) (fun _ _ _ h => h) (Or.inl ⟨by kernel_rfl, fun w => ?_⟩) ?_
  · (go_simp <;> omega)
  refine wpAny_take (i := 8) (v := undef) rfl (by kernel_rfl) (by kernel_rfl) (by kernel_rfl) (fun _ _ _ h => h) (Or.inr ⟨by kernel_rfl, rfl⟩) ?_
  refine wpAny_take (i := 9) (v := undef) rfl (by kernel_rfl) (by kernel_rfl) (by kernel_rfl) (fun _ _ _ h => h) (Or.inr ⟨by kernel_rfl, rfl⟩) ?_
  refine wpAny_take (i := 10) (v := .bool true) rfl (by kernel_rfl) (by kernel_rfl) (by kernel_rfl) (fun _ _ _ h => h) (Or.inl ⟨by kernel_rfl, fun w => ?_⟩) ?_
  · (go_simp <;> omega)
  refine wpAny_take (i := 13) (v := .pointer (some ⟨bn, 4, none⟩)) rfl (by kernel_rfl) (by kernel_rfl) (by kernel_rfl) (fun _ _ _ h => h) (Or.inl ⟨by kernel_rfl, fun w => ?_⟩) ?_
  · (go_simp <;> omega)
  refine wpAny_ready (rs := [11, 14]) (by kernel_rfl) (by simp) ?_
  refine AllReady.cons rfl (fun K hK => ?_) (AllReady.cons rfl (fun K hK => ?_) AllReady.nil)
  · go_simp
    go_wp2_with (go_at_call 22; refine (HKid.out _ HBc0.out HBc.out).mono ?_; rintro e w4 ⟨rfl, hb4⟩; replace HBc := hide (HBc.out.keep hb4); replace HBc0 := hide (HBc0.out.trans (hb4.mono HBc0.out.size)); clear hb4 g4; have g4 := HX.out _ HBc.out)
    try (refine hK _ _ ?_; clear hK K)
    refine wpAny_take (i := 12) (v := .string (KS ++ (⟨#[123]⟩ : ByteArray))) rfl (by kernel_rfl) (by kernel_rfl) (by kernel_rfl) (fun _ _ _ h => h) (Or.inl ⟨by kernel_rfl, fun w => ?_⟩) ?_
    · (go_simp <;> omega)
    refine wpAny_ready (rs := [14]) (by kernel_rfl) (by simp) ?_
    refine AllReady.cons rfl (fun K hK => ?_) AllReady.nil
    go_simp
    try (refine hK _ _ ?_; clear hK K)
    refine wpAny_ready (rs := [15]) (by kernel_rfl) (by simp) ?_
    refine AllReady.cons rfl (fun K hK => ?_) AllReady.nil
    go_simp
    go_wp2_with (go_at_call 24; refine (HD1.out _).mono ?_; rintro e w5 ⟨rfl, hb5⟩; replace HBc := hide (HBc.out.keep hb5); replace HBc0 := hide (HBc0.out.trans (hb5.mono HBc0.out.size)); clear hb5 g4; have g4 := HX.out _ HBc.out)
    try (refine hK _ _ ?_; clear hK K)
    refine wpAny_take (i := 16) (v := .string (KS ++ (⟨#[123]⟩ : ByteArray) ++ S1)) rfl (by kernel_rfl) (by kernel_rfl) (by kernel_rfl) (fun _ _ _ h => h) (Or.inl ⟨by kernel_rfl, fun w => ?_⟩) ?_
    · (go_simp <;> omega)
    refine wpAny_take (i := 17) (v := .string (KS ++ (⟨#[123]⟩ : ByteArray) ++ S1 ++ (⟨#[44]⟩ : ByteArray))) rfl (by kernel_rfl) (by kernel_rfl) (by kernel_rfl) (fun _ _ _ h => h) (Or.inl ⟨by kernel_rfl, fun w => ?_⟩) ?_
    · (go_simp <;> omega)
    refine wpAny_take (i := 18) (v := .string (KS ++ (⟨#[123]⟩ : ByteArray) ++ S1 ++ (⟨#[44]⟩ : ByteArray))) rfl (by kernel_rfl) (by kernel_rfl) (by kernel_rfl) (fun _ _ _ h => h) (Or.inl ⟨by kernel_rfl, fun w => ?_⟩) ?_
    · (go_simp <;> omega)
    refine wpAny_done (by kernel_rfl) ?_ _
    exact ⟨_, rfl, rfl, rfl, rfl, HBc.out, HBc0.out⟩
  · go_simp
    try (refine hK _ _ ?_; clear hK K)
    refine wpAny_ready (rs := [11]) (by kernel_rfl) (by simp) ?_
    refine AllReady.cons rfl (fun K hK => ?_) AllReady.nil
    go_simp
    go_wp2_with (go_at_call 22; refine (HKid.out _ HBc0.out HBc.out).mono ?_; rintro e w4 ⟨rfl, hb4⟩; replace HBc := hide (HBc.out.keep hb4); replace HBc0 := hide (HBc0.out.trans (hb4.mono HBc0.out.size)); clear hb4 g4; have g4 := HX.out _ HBc.out)
    try (refine hK _ _ ?_; clear hK K)
    refine wpAny_take (i := 12) (v := .string (KS ++ (⟨#[123]⟩ : ByteArray))) rfl (by kernel_rfl) (by kernel_rfl) (by kernel_rfl) (fun _ _ _ h => h) (Or.inl ⟨by kernel_rfl, fun w => ?_⟩) ?_
    · (go_simp <;> omega)
    refine wpAny_ready (rs := [15]) (by kernel_rfl) (by simp) ?_
    refine AllReady.cons rfl (fun K hK => ?_) AllReady.nil
    go_simp
    go_wp2_with (go_at_call 24; refine (HD1.out _).mono ?_; rintro e w5 ⟨rfl, hb5⟩; replace HBc := hide (HBc.out.keep hb5); replace HBc0 := hide (HBc0.out.trans (hb5.mono HBc0.out.size)); clear hb5 g4; have g4 := HX.out _ HBc.out)
    try (refine hK _ _ ?_; clear hK K)
    refine wpAny_take (i := 16) (v := .string (KS ++ (⟨#[123]⟩ : ByteArray) ++ S1)) rfl (by kernel_rfl) (by kernel_rfl) (by kernel_rfl) (fun _ _ _ h => h) (Or.inl ⟨by kernel_rfl, fun w => ?_⟩) ?_
    · (go_simp <;> omega)
    refine wpAny_take (i := 17) (v := .string (KS ++ (⟨#[123]⟩ : ByteArray) ++ S1 ++ (⟨#[44]⟩ : ByteArray))) rfl (by kernel_rfl) (by kernel_rfl) (by kernel_rfl) (fun _ _ _ h => h) (Or.inl ⟨by kernel_rfl, fun w => ?_⟩) ?_
    · (go_simp <;> omega)
    refine wpAny_take (i := 18) (v := .string (KS ++ (⟨#[123]⟩ : ByteArray) ++ S1 ++ (⟨#[44]⟩ : ByteArray))) rfl (by kernel_rfl) (by kernel_rfl) (by kernel_rfl) (fun _ _ _ h => h) (Or.inl ⟨by kernel_rfl, fun w => ?_⟩) ?_
    · (go_simp <;> omega)
    refine wpAny_done (by kernel_rfl) ?_ _
    exact ⟨_, rfl, rfl, rfl, rfl, HBc.out, HBc0.out⟩

end Go.Proofs.YtpcohmbipbiglaaDoor

namespace Go.Proofs.YtpcohmbipbiglaaDoor
open Go.RowKit
open Go.Lib (decDigits)
set_option linter.unusedVariables false


set_option maxRecDepth 100000 in
set_option maxHeartbeats 8000000 in
theorem reg30_10 {W w0 w : World} {n : NV} {nm : Value} {bn bm : Nat} {least : Int} {KS S1 : ByteArray} {u0 u1 u3 u4 u6 u7 u8 u9 u11 u12 u13 u14 u15 u16 u17 u18 u19 u20 u21 u22 u23 u24 u25 u26 u27 u28 u29 u30 u31 u32 u33 u34 u35 u36 u37 u38 u39 u40 u41 u42 u43 u44 u45 u46 u47 u48 u49 u50 u51 u52 u53 u54 u55 u56 u57 u58 u59 u60 u61 u62 u63 u64 u65 u66 u67 u68 u69 u70 u71 u72 u73 u74 u75 u76 u77 u78 u79 u80 u81 u82 u83 u84 u85 u86 u87 u88 u89 u90 u91 u92 u93 u94 u95 u96 u97 u98 u99 u100 u101 u102 u103 u104 u105 u106 u107 u108 u109 u110 u111 u112 u113 u114 u115 u116 u117 u118 u119 u120 u121 u122 u123 u124 u125 u126 u127 u128 u129 u130 u131 u132 u133 u134 u135 u136 u137 u138 u139 u140 u141 u142 u143 u144 u145 u146 u147 u148 u149 u150 u151 u152 u153 u154 u155 u156 u157 u158 u159 u160 u161 u162 u163 u164 u165 u166 u167 u168 u169 u170 u171 u172 u173 u174 u175 u176 u177 u178 u179 u180 u181 u182 u183 u184 u185 u186 u187 u188 u189 u190 u191 u192 u193 u194 u195 u196 u197 u198 : Value} 
    (hB : Boxes n nm w W bn bm) (hB0 : Below w0.heap.size w0 W) (hX : ∀ W, Boxes n nm w W bn bm → W.cell? ⟨bn, 4, none⟩ = some (.int .i64 least))
    (HKid : Hid (∀ W, Below w0.heap.size w0 W → Boxes n nm w W bn bm → Calls Tryd.prog 22 #[.int .i64 0, .bool true, .pointer (some ⟨bn, 0, none⟩), .pointer (some ⟨bm, 0, none⟩)] W fun e w' => e = .returned (.string KS) ∧ Below W.heap.size W w'))
    (HD1 : Hid (∀ W, Calls Tryd.prog 24 #[.int .i64 least] W fun e w' => e = .returned (.string S1) ∧ Below W.heap.size W w'))
    (z1 : ¬ (9223372036854775807 < KS.size + ((⟨#[123]⟩ : ByteArray)).size))
    (z2 : ¬ (9223372036854775807 < (KS ++ (⟨#[123]⟩ : ByteArray)).size + S1.size))
    (z3 : ¬ (9223372036854775807 < (KS ++ (⟨#[123]⟩ : ByteArray) ++ S1).size + ((⟨#[44]⟩ : ByteArray)).size))
    (z2a : ¬ (9223372036854775807 < KS.size + 1 + S1.size)) (z3a : ¬ (9223372036854775807 < KS.size + 1 + S1.size + 1)) (z2b : ¬ (9223372036854775807 < KS.size + ((⟨#[123]⟩ : ByteArray)).size + S1.size)) (z3b : ¬ (9223372036854775807 < KS.size + ((⟨#[123]⟩ : ByteArray)).size + S1.size + ((⟨#[44]⟩ : ByteArray)).size)) :
    R30.wp Tryd.prog (PostW (Rep30 w0 n nm w bn bm (KS ++ (⟨#[123]⟩ : ByteArray) ++ S1 ++ (⟨#[44]⟩ : ByteArray)))) ⟨#[u0, u1, .pointer (some ⟨bn, 0, none⟩), u3, u4, .func (.func 22) #[] #[.pointer (some ⟨bn, 0, none⟩), .pointer (some ⟨bm, 0, none⟩)], u6, u7, u8, u9, .int .i64 10, u11, u12, u13, u14, u15, u16, u17, u18, u19, u20, u21, u22, u23, u24, u25, u26, u27, u28, u29, u30, u31, u32, u33, u34, u35, u36, u37, u38, u39, u40, u41, u42, u43, u44, u45, u46, u47, u48, u49, u50, u51, u52, u53, u54, u55, u56, u57, u58, u59, u60, u61, u62, u63, u64, u65, u66, u67, u68, u69, u70, u71, u72, u73, u74, u75, u76, u77, u78, u79, u80, u81, u82, u83, u84, u85, u86, u87, u88, u89, u90, u91, u92, u93, u94, u95, u96, u97, u98, u99, u100, u101, u102, u103, u104, u105, u106, u107, u108, u109, u110, u111, u112, u113, u114, u115, u116, u117, u118, u119, u120, u121, u122, u123, u124, u125, u126, u127, u128, u129, u130, u131, u132, u133, u134, u135, u136, u137, u138, u139, u140, u141, u142, u143, u144, u145, u146, u147, u148, u149, u150, u151, u152, u153, u154, u155, u156, u157, u158, u159, u160, u161, u162, u163, u164, u165, u166, u167, u168, u169, u170, u171, u172, u173, u174, u175, u176, u177, u178, u179, u180, u181, u182, u183, u184, u185, u186, u187, u188, u189, u190, u191, u192, u193, u194, u195, u196, u197, u198], []⟩ W := by
  have HBc : Hid (Boxes n nm w W.drew bn bm) := hB.keep ⟨rfl, rfl, rfl, Nat.le_refl _, fun _ _ => rfl⟩
  have HBc0 : Hid (Below w0.heap.size w0 W.drew) := hB0.trans ⟨rfl, rfl, rfl, Nat.le_refl _, fun _ _ => rfl⟩
  have g4 := hX _ HBc.out
  have HX := hide hX
  clear hB hB0 hX
  unfold R30
  refine wp_region_any (by kernel_rfl) ?_
  change wpAny _ _ _ _ _ _ _ (World.drew _)
  refine wpAny_take (i := 0) (v := .func (.func 22) #[] #[.pointer (some ⟨bn, 0, none⟩), .pointer (some ⟨bm, 0, none⟩)]) rfl (by kernel_rfl) (by kernel_rfl) (by kernel_rfl) (fun _ _ _ h => h) (Or.inl ⟨by kernel_rfl, fun w => ?_⟩) ?_
  · (go_simp <;> omega)
  refine wpAny_take (i := 1) (v := .int .i64 10) rfl (by kernel_rfl) (by kernel_rfl) (by kernel_rfl) (fun _ _ _ h => h) (Or.inl ⟨by kernel_rfl, fun w => ?_⟩) ?_
  · (go_simp <;> omega)
  refine wpAny_take (i := 2) (v := .bool false) rfl (by kernel_rfl) (by kernel_rfl) (by kernel_rfl) (fun _ _ _ h => h) (Or.inl ⟨by kernel_rfl, fun w => ?_⟩) ?_
  · (go_simp <;> omega)
  refine wpAny_take (i := 3) (v := .bool false) rfl (by kernel_rfl) (by kernel_rfl) (by kernel_rfl) (fun _ _ _ h => h) (Or.inl ⟨by kernel_rfl, fun w => ?_⟩) ?_
  · (go_simp <;> omega)
  refine wpAny_take (i := 4) (v := .int .i64 10) rfl (by kernel_rfl) (by kernel_rfl) (by kernel_rfl) (fun _ _ _ h => h) (Or.inl ⟨by kernel_rfl, fun w => ?_⟩) ?_
  · (go_simp <;> omega)
  refine wpAny_take (i := 5) (v := .bool true) rfl (by kernel_rfl) (by kernel_rfl) (by kernel_rfl) (fun _ _ _ h => h) (Or.inl ⟨by kernel_rfl, fun w => ?_⟩) ?_
  · (go_simp <;> omega)
  refine wpAny_take (i := 6) (v := .bool true) rfl (by kernel_rfl) (by kernel_rfl) (by kernel_rfl) (fun _ _ _ h => h) (Or.inl ⟨by kernel_rfl, fun w => ?_⟩) ?_
  · (go_simp <;> omega)
  refine wpAny_take (i := 7) (v := .bool true) rfl (by kernel_rfl) (by kernel_rfl) (by kernel_rfl) (fun _ _ _ h => h) (Or.inl ⟨by kernel_rfl, fun w => ?_⟩) ?_
  · (go_simp <;> omega)
  refine wpAny_take (i := 8) (v := undef) rfl (by kernel_rfl) (by kernel_rfl) (by kernel_rfl) (fun _ _ _ h => h) (Or.inr ⟨by kernel_rfl, rfl⟩) ?_
  refine wpAny_take (i := 9) (v := undef) rfl (by kernel_rfl) (by kernel_rfl) (by kernel_rfl) (fun _ _ _ h => h) (Or.inr ⟨by kernel_rfl, rfl⟩) ?_
  refine wpAny_take (i := 10) (v := .bool true) rfl (by kernel_rfl) (by kernel_rfl) (by kernel_rfl) (fun _ _ _ h => h) (Or.inl ⟨by kernel_rfl, fun w => ?_⟩) ?_
  · (go_simp <;> omega)
  refine wpAny_take (i := 13) (v := .pointer (some ⟨bn, 4, none⟩)) rfl (by kernel_rfl) (by kernel_rfl) (by kernel_rfl) (fun _ _ _ h => h) (Or.inl ⟨by kernel_rfl, fun w => ?_⟩) ?_
  · (go_simp <;> omega)
  refine wpAny_ready (rs := [11, 14]) (by kernel_rfl) (by simp) ?_
  refine AllReady.cons rfl (fun K hK => ?_) (AllReady.cons rfl (fun K hK => ?_) AllReady.nil)
  · go_simp
    go_wp2_with (go_at_call 22; refine (HKid.out _ HBc0.out HBc.out).mono ?_; rintro e w4 ⟨rfl, hb4⟩; replace HBc := hide (HBc.out.keep hb4); replace HBc0 := hide (HBc0.out.trans (hb4.mono HBc0.out.size)); clear hb4 g4; have g4 := HX.out _ HBc.out)
    try (refine hK _ _ ?_; clear hK K)
    refine wpAny_take (i := 12) (v := .string (KS ++ (⟨#[123]⟩ : ByteArray))) rfl (by kernel_rfl) (by kernel_rfl) (by kernel_rfl) (fun _ _ _ h => h) (Or.inl ⟨by kernel_rfl, fun w => ?_⟩) ?_
    · (go_simp <;> omega)
    refine wpAny_ready (rs := [14]) (by kernel_rfl) (by simp) ?_
    refine AllReady.cons rfl (fun K hK => ?_) AllReady.nil
    go_simp
    try (refine hK _ _ ?_; clear hK K)
    refine wpAny_ready (rs := [15]) (by kernel_rfl) (by simp) ?_
    refine AllReady.cons rfl (fun K hK => ?_) AllReady.nil
    go_simp
    go_wp2_with (go_at_call 24; refine (HD1.out _).mono ?_; rintro e w5 ⟨rfl, hb5⟩; replace HBc := hide (HBc.out.keep hb5); replace HBc0 := hide (HBc0.out.trans (hb5.mono HBc0.out.size)); clear hb5 g4; have g4 := HX.out _ HBc.out)
    try (refine hK _ _ ?_; clear hK K)
    refine wpAny_take (i := 16) (v := .string (KS ++ (⟨#[123]⟩ : ByteArray) ++ S1)) rfl (by kernel_rfl) (by kernel_rfl) (by kernel_rfl) (fun _ _ _ h => h) (Or.inl ⟨by kernel_rfl, fun w => ?_⟩) ?_
    · (go_simp <;> omega)
    refine wpAny_take (i := 17) (v := .string (KS ++ (⟨#[123]⟩ : ByteArray) ++ S1 ++ (⟨#[44]⟩ : ByteArray))) rfl (by kernel_rfl) (by kernel_rfl) (by kernel_rfl) (fun _ _ _ h => h) (Or.inl ⟨by kernel_rfl, fun w => ?_⟩) ?_
    · (go_simp <;> omega)
    refine wpAny_take (i := 18) (v := .string (KS ++ (⟨#[123]⟩ : ByteArray) ++ S1 ++ (⟨#[44]⟩ : ByteArray))) rfl (by kernel_rfl) (by kernel_rfl) (by kernel_rfl) (fun _ _ _ h => h) (Or.inl ⟨by kernel_rfl, fun w => ?_⟩) ?_
    · (go_simp <;> omega)
    refine wpAny_done (by kernel_rfl) ?_ _
    exact ⟨_, rfl, rfl, rfl, rfl, HBc.out, HBc0.out⟩
  · go_simp
    try (refine hK _ _ ?_; clear hK K)
    refine wpAny_ready (rs := [11]) (by kernel_rfl) (by simp) ?_
    refine AllReady.cons rfl (fun K hK => ?_) AllReady.nil
    go_simp
    go_wp2_with (go_at_call 22; refine (HKid.out _ HBc0.out HBc.out).mono ?_; rintro e w4 ⟨rfl, hb4⟩; replace HBc := hide (HBc.out.keep hb4); replace HBc0 := hide (HBc0.out.trans (hb4.mono HBc0.out.size)); clear hb4 g4; have g4 := HX.out _ HBc.out)
    try (refine hK _ _ ?_; clear hK K)
    refine wpAny_take (i := 12) (v := .string (KS ++ (⟨#[123]⟩ : ByteArray))) rfl (by kernel_rfl) (by kernel_rfl) (by kernel_rfl) (fun _ _ _ h => h) (Or.inl ⟨by kernel_rfl, fun w => ?_⟩) ?_
    · (go_simp <;> omega)
    refine wpAny_ready (rs := [15]) (by kernel_rfl) (by simp) ?_
    refine AllReady.cons rfl (fun K hK => ?_) AllReady.nil
    go_simp
    go_wp2_with (go_at_call 24; refine (HD1.out _).mono ?_; rintro e w5 ⟨rfl, hb5⟩; replace HBc := hide (HBc.out.keep hb5); replace HBc0 := hide (HBc0.out.trans (hb5.mono HBc0.out.size)); clear hb5 g4; have g4 := HX.out _ HBc.out)
    try (refine hK _ _ ?_; clear hK K)
    refine wpAny_take (i := 16) (v := .string (KS ++ (⟨#[123]⟩ : ByteArray) ++ S1)) rfl (by kernel_rfl) (by kernel_rfl) (by kernel_rfl) (fun _ _ _ h => h) (Or.inl ⟨by kernel_rfl, fun w => ?_⟩) ?_
    · (go_simp <;> omega)
    refine wpAny_take (i := 17) (v := .string (KS ++ (⟨#[123]⟩ : ByteArray) ++ S1 ++ (⟨#[44]⟩ : ByteArray))) rfl (by kernel_rfl) (by kernel_rfl) (by kernel_rfl) (fun _ _ _ h => h) (Or.inl ⟨by kernel_rfl, fun w => ?_⟩) ?_
    · (go_simp <;> omega)
    refine wpAny_take (i := 18) (v := .string (KS ++ (⟨#[123]⟩ : ByteArray) ++ S1 ++ (⟨#[44]⟩ : ByteArray))) rfl (by kernel_rfl) (by kernel_rfl) (by kernel_rfl) (fun _ _ _ h => h) (Or.inl ⟨by kernel_rfl, fun w => ?_⟩) ?_
    · (go_simp <;> omega)
    refine wpAny_done (by kernel_rfl) ?_ _
    exact ⟨_, rfl, rfl, rfl, rfl, HBc.out, HBc0.out⟩

end Go.Proofs.YtpcohmbipbiglaaDoor

namespace Go.Proofs.YtpcohmbipbiglaaDoor
open Go.RowKit
open Go.Lib (decDigits)
set_option linter.unusedVariables false


set_option maxRecDepth 100000 in
set_option maxHeartbeats 8000000 in
theorem reg30_12 {W w0 w : World} {n : NV} {nm : Value} {bn bm : Nat} {least : Int} {KS S1 : ByteArray} {u0 u1 u3 u4 u6 u7 u8 u9 u11 u12 u13 u14 u15 u16 u17 u18 u19 u20 u21 u22 u23 u24 u25 u26 u27 u28 u29 u30 u31 u32 u33 u34 u35 u36 u37 u38 u39 u40 u41 u42 u43 u44 u45 u46 u47 u48 u49 u50 u51 u52 u53 u54 u55 u56 u57 u58 u59 u60 u61 u62 u63 u64 u65 u66 u67 u68 u69 u70 u71 u72 u73 u74 u75 u76 u77 u78 u79 u80 u81 u82 u83 u84 u85 u86 u87 u88 u89 u90 u91 u92 u93 u94 u95 u96 u97 u98 u99 u100 u101 u102 u103 u104 u105 u106 u107 u108 u109 u110 u111 u112 u113 u114 u115 u116 u117 u118 u119 u120 u121 u122 u123 u124 u125 u126 u127 u128 u129 u130 u131 u132 u133 u134 u135 u136 u137 u138 u139 u140 u141 u142 u143 u144 u145 u146 u147 u148 u149 u150 u151 u152 u153 u154 u155 u156 u157 u158 u159 u160 u161 u162 u163 u164 u165 u166 u167 u168 u169 u170 u171 u172 u173 u174 u175 u176 u177 u178 u179 u180 u181 u182 u183 u184 u185 u186 u187 u188 u189 u190 u191 u192 u193 u194 u195 u196 u197 u198 : Value} 
    (hB : Boxes n nm w W bn bm) (hB0 : Below w0.heap.size w0 W) (hX : ∀ W, Boxes n nm w W bn bm → W.cell? ⟨bn, 4, none⟩ = some (.int .i64 least))
    (HKid : Hid (∀ W, Below w0.heap.size w0 W → Boxes n nm w W bn bm → Calls Tryd.prog 22 #[.int .i64 0, .bool true, .pointer (some ⟨bn, 0, none⟩), .pointer (some ⟨bm, 0, none⟩)] W fun e w' => e = .returned (.string KS) ∧ Below W.heap.size W w'))
    (HD1 : Hid (∀ W, Calls Tryd.prog 24 #[.int .i64 least] W fun e w' => e = .returned (.string S1) ∧ Below W.heap.size W w'))
    (z1 : ¬ (9223372036854775807 < KS.size + ((⟨#[123]⟩ : ByteArray)).size))
    (z2 : ¬ (9223372036854775807 < (KS ++ (⟨#[123]⟩ : ByteArray)).size + S1.size))
    (z3 : ¬ (9223372036854775807 < (KS ++ (⟨#[123]⟩ : ByteArray) ++ S1).size + ((⟨#[44]⟩ : ByteArray)).size))
    (z2a : ¬ (9223372036854775807 < KS.size + 1 + S1.size)) (z3a : ¬ (9223372036854775807 < KS.size + 1 + S1.size + 1)) (z2b : ¬ (9223372036854775807 < KS.size + ((⟨#[123]⟩ : ByteArray)).size + S1.size)) (z3b : ¬ (9223372036854775807 < KS.size + ((⟨#[123]⟩ : ByteArray)).size + S1.size + ((⟨#[44]⟩ : ByteArray)).size)) :
    R30.wp Tryd.prog (PostW (Rep30 w0 n nm w bn bm (KS ++ (⟨#[123]⟩ : ByteArray) ++ S1 ++ (⟨#[44]⟩ : ByteArray)))) ⟨#[u0, u1, .pointer (some ⟨bn, 0, none⟩), u3, u4, .func (.func 22) #[] #[.pointer (some ⟨bn, 0, none⟩), .pointer (some ⟨bm, 0, none⟩)], u6, u7, u8, u9, .int .i64 12, u11, u12, u13, u14, u15, u16, u17, u18, u19, u20, u21, u22, u23, u24, u25, u26, u27, u28, u29, u30, u31, u32, u33, u34, u35, u36, u37, u38, u39, u40, u41, u42, u43, u44, u45, u46, u47, u48, u49, u50, u51, u52, u53, u54, u55, u56, u57, u58, u59, u60, u61, u62, u63, u64, u65, u66, u67, u68, u69, u70, u71, u72, u73, u74, u75, u76, u77, u78, u79, u80, u81, u82, u83, u84, u85, u86, u87, u88, u89, u90, u91, u92, u93, u94, u95, u96, u97, u98, u99, u100, u101, u102, u103, u104, u105, u106, u107, u108, u109, u110, u111, u112, u113, u114, u115, u116, u117, u118, u119, u120, u121, u122, u123, u124, u125, u126, u127, u128, u129, u130, u131, u132, u133, u134, u135, u136, u137, u138, u139, u140, u141, u142, u143, u144, u145, u146, u147, u148, u149, u150, u151, u152, u153, u154, u155, u156, u157, u158, u159, u160, u161, u162, u163, u164, u165, u166, u167, u168, u169, u170, u171, u172, u173, u174, u175, u176, u177, u178, u179, u180, u181, u182, u183, u184, u185, u186, u187, u188, u189, u190, u191, u192, u193, u194, u195, u196, u197, u198], []⟩ W := by
  have HBc : Hid (Boxes n nm w W.drew bn bm) := hB.keep ⟨rfl, rfl, rfl, Nat.le_refl _, fun _ _ => rfl⟩
  have HBc0 : Hid (Below w0.heap.size w0 W.drew) := hB0.trans ⟨rfl, rfl, rfl, Nat.le_refl _, fun _ _ => rfl⟩
  have g4 := hX _ HBc.out
  have HX := hide hX
  clear hB hB0 hX
  unfold R30
  refine wp_region_any (by kernel_rfl) ?_
  change wpAny _ _ _ _ _ _ _ (World.drew _)
  refine wpAny_take (i := 0) (v := .func (.func 22) #[] #[.pointer (some ⟨bn, 0, none⟩), .pointer (some ⟨bm, 0, none⟩)]) rfl (by kernel_rfl) (by kernel_rfl) (by kernel_rfl) (fun _ _ _ h => h) (Or.inl ⟨by kernel_rfl, fun w => ?_⟩) ?_
  · (go_simp <;> omega)
  refine wpAny_take (i := 1) (v := .int .i64 12) rfl (by kernel_rfl) (by kernel_rfl) (by kernel_rfl) (fun _ _ _ h => h) (Or.inl ⟨by kernel_rfl, fun w => ?_⟩) ?_
  · (go_simp <;> omega)
  refine wpAny_take (i := 2) (v := .bool false) rfl (by kernel_rfl) (by kernel_rfl) (by kernel_rfl) (fun _ _ _ h => h) (Or.inl ⟨by kernel_rfl, fun w => ?_⟩) ?_
  · (go_simp <;> omega)
  refine wpAny_take (i := 3) (v := .bool false) rfl (by kernel_rfl) (by kernel_rfl) (by kernel_rfl) (fun _ _ _ h => h) (Or.inl ⟨by kernel_rfl, fun w => ?_⟩) ?_
  · (go_simp <;> omega)
  refine wpAny_take (i := 4) (v := .int .i64 12) rfl (by kernel_rfl) (by kernel_rfl) (by kernel_rfl) (fun _ _ _ h => h) (Or.inl ⟨by kernel_rfl, fun w => ?_⟩) ?_
  · (go_simp <;> omega)
  refine wpAny_take (i := 5) (v := .bool false) rfl (by kernel_rfl) (by kernel_rfl) (by kernel_rfl) (fun _ _ _ h => h) (Or.inl ⟨by kernel_rfl, fun w => ?_⟩) ?_
  · (go_simp <;> omega)
  refine wpAny_take (i := 6) (v := .bool false) rfl (by kernel_rfl) (by kernel_rfl) (by kernel_rfl) (fun _ _ _ h => h) (Or.inl ⟨by kernel_rfl, fun w => ?_⟩) ?_
  · (go_simp <;> omega)
  refine wpAny_take (i := 7) (v := .bool false) rfl (by kernel_rfl) (by kernel_rfl) (by kernel_rfl) (fun _ _ _ h => h) (Or.inl ⟨by kernel_rfl, fun w => ?_⟩) ?_
  · (go_simp <;> omega)
  refine wpAny_take (i := 8) (v := .int .i64 12) rfl (by kernel_rfl) (by kernel_rfl) (by kernel_rfl) (fun _ _ _ h => h) (Or.inl ⟨by kernel_rfl, fun w => ?_⟩) ?_
  · (go_simp <;> omega)
  refine wpAny_take (i := 9) (v := .bool true) rfl (by kernel_rfl) (by kernel_rfl) (by kernel_rfl) (fun _ _ _ h => h) (Or.inl ⟨by kernel_rfl, fun w => ?_⟩) ?_
  · (go_simp <;> omega)
  refine wpAny_take (i := 10) (v := .bool true) rfl (by kernel_rfl) (by kernel_rfl) (by kernel_rfl) (fun _ _ _ h => h) (Or.inl ⟨by kernel_rfl, fun w => ?_⟩) ?_
  · (go_simp <;> omega)
  refine wpAny_take (i := 13) (v := .pointer (some ⟨bn, 4, none⟩)) rfl (by kernel_rfl) (by kernel_rfl) (by kernel_rfl) (fun _ _ _ h => h) (Or.inl ⟨by kernel_rfl, fun w => ?_⟩) ?_
  · (go_simp <;> omega)
  refine wpAny_ready (rs := [11, 14]) (by kernel_rfl) (by simp) ?_
  refine AllReady.cons rfl (fun K hK => ?_) (AllReady.cons rfl (fun K hK => ?_) AllReady.nil)
  · go_simp
    go_wp2_with (go_at_call 22; refine (HKid.out _ HBc0.out HBc.out).mono ?_; rintro e w4 ⟨rfl, hb4⟩; replace HBc := hide (HBc.out.keep hb4); replace HBc0 := hide (HBc0.out.trans (hb4.mono HBc0.out.size)); clear hb4 g4; have g4 := HX.out _ HBc.out)
    try (refine hK _ _ ?_; clear hK K)
    refine wpAny_take (i := 12) (v := .string (KS ++ (⟨#[123]⟩ : ByteArray))) rfl (by kernel_rfl) (by kernel_rfl) (by kernel_rfl) (fun _ _ _ h => h) (Or.inl ⟨by kernel_rfl, fun w => ?_⟩) ?_
    · (go_simp <;> omega)
    refine wpAny_ready (rs := [14]) (by kernel_rfl) (by simp) ?_
    refine AllReady.cons rfl (fun K hK => ?_) AllReady.nil
    go_simp
    try (refine hK _ _ ?_; clear hK K)
    refine wpAny_ready (rs := [15]) (by kernel_rfl) (by simp) ?_
    refine AllReady.cons rfl (fun K hK => ?_) AllReady.nil
    go_simp
    go_wp2_with (go_at_call 24; refine (HD1.out _).mono ?_; rintro e w5 ⟨rfl, hb5⟩; replace HBc := hide (HBc.out.keep hb5); replace HBc0 := hide (HBc0.out.trans (hb5.mono HBc0.out.size)); clear hb5 g4; have g4 := HX.out _ HBc.out)
    try (refine hK _ _ ?_; clear hK K)
    refine wpAny_take (i := 16) (v := .string (KS ++ (⟨#[123]⟩ : ByteArray) ++ S1)) rfl (by kernel_rfl) (by kernel_rfl) (by kernel_rfl) (fun _ _ _ h => h) (Or.inl ⟨by kernel_rfl, fun w => ?_⟩) ?_
    · (go_simp <;> omega)
    refine wpAny_take (i := 17) (v := .string (KS ++ (⟨#[123]⟩ : ByteArray) ++ S1 ++ (⟨#[44]⟩ : ByteArray))) rfl (by kernel_rfl) (by kernel_rfl) (by kernel_rfl) (fun _ _ _ h => h) (Or.inl ⟨by kernel_rfl, fun w => ?_⟩) ?_
    · (go_simp <;> omega)
    refine wpAny_take (i := 18) (v := .string (KS ++ (⟨#[123]⟩ : ByteArray) ++ S1 ++ (⟨#[44]⟩ : ByteArray))) rfl (by kernel_rfl) (by kernel_rfl) (by kernel_rfl) (fun _ _ _ h => h) (Or.inl ⟨by kernel_rfl, fun w => ?_⟩) ?_
    · (go_simp <;> omega)
    refine wpAny_done (by kernel_rfl) ?_ _
    exact ⟨_, rfl, rfl, rfl, rfl, HBc.out, HBc0.out⟩
  · go_simp
    try (refine hK _ _ ?_; clear hK K)
    refine wpAny_ready (rs := [11]) (by kernel_rfl) (by simp) ?_
    refine AllReady.cons rfl (fun K hK => ?_) AllReady.nil
    go_simp
    go_wp2_with (go_at_call 22; refine (HKid.out _ HBc0.out HBc.out).mono ?_; rintro e w4 ⟨rfl, hb4⟩; replace HBc := hide (HBc.out.keep hb4); replace HBc0 := hide (HBc0.out.trans (hb4.mono HBc0.out.size)); clear hb4 g4; have g4 := HX.out _ HBc.out)
    try (refine hK _ _ ?_; clear hK K)
    refine wpAny_take (i := 12) (v := .string (KS ++ (⟨#[123]⟩ : ByteArray))) rfl (by kernel_rfl) (by kernel_rfl) (by kernel_rfl) (fun _ _ _ h => h) (Or.inl ⟨by kernel_rfl, fun w => ?_⟩) ?_
    · (go_simp <;> omega)
    refine wpAny_ready (rs := [15]) (by kernel_rfl) (by simp) ?_
    refine AllReady.cons rfl (fun K hK => ?_) AllReady.nil
    go_simp
    go_wp2_with (go_at_call 24; refine (HD1.out _).mono ?_; rintro e w5 ⟨rfl, hb5⟩; replace HBc := hide (HBc.out.keep hb5); replace HBc0 := hide (HBc0.out.trans (hb5.mono HBc0.out.size)); clear hb5 g4; have g4 := HX.out _ HBc.out)
    try (refine hK _ _ ?_; clear hK K)
    refine wpAny_take (i := 16) (v := .string (KS ++ (⟨#[123]⟩ : ByteArray) ++ S1)) rfl (by kernel_rfl) (by kernel_rfl) (by kernel_rfl) (fun _ _ _ h => h) (Or.inl ⟨by kernel_rfl, fun w => ?_⟩) ?_
    · (go_simp <;> omega)
    refine wpAny_take (i := 17) (v := .string (KS ++ (⟨#[123]⟩ : ByteArray) ++ S1 ++ (⟨#[44]⟩ : ByteArray))) rfl (by kernel_rfl) (by kernel_rfl) (by kernel_rfl) (fun _ _ _ h => h) (Or.inl ⟨by kernel_rfl, fun w => ?_⟩) ?_
    · (go_simp <;> omega)
    refine wpAny_take (i := 18) (v := .string (KS ++ (⟨#[123]⟩ : ByteArray) ++ S1 ++ (⟨#[44]⟩ : ByteArray))) rfl (by kernel_rfl) (by kernel_rfl) (by kernel_rfl) (fun _ _ _ h => h) (Or.inl ⟨by kernel_rfl, fun w => ?_⟩) ?_
    · (go_simp <;> omega)
    refine wpAny_done (by kernel_rfl) ?_ _
    exact ⟨_, rfl, rfl, rfl, rfl, HBc.out, HBc0.out⟩

end Go.Proofs.YtpcohmbipbiglaaDoor

namespace Go.Proofs.YtpcohmbipbiglaaDoor
open Go.RowKit
open Go.Lib (decDigits)
set_option linter.unusedVariables false


set_option maxRecDepth 100000 in
set_option maxHeartbeats 8000000 in
theorem reg30_n {W w0 w : World} {n : NV} {nm : Value} {bn bm : Nat} {least : Int} {KS S1 : ByteArray} {u0 u1 u3 u4 u6 u7 u8 u9 u11 u12 u13 u14 u15 u16 u17 u18 u19 u20 u21 u22 u23 u24 u25 u26 u27 u28 u29 u30 u31 u32 u33 u34 u35 u36 u37 u38 u39 u40 u41 u42 u43 u44 u45 u46 u47 u48 u49 u50 u51 u52 u53 u54 u55 u56 u57 u58 u59 u60 u61 u62 u63 u64 u65 u66 u67 u68 u69 u70 u71 u72 u73 u74 u75 u76 u77 u78 u79 u80 u81 u82 u83 u84 u85 u86 u87 u88 u89 u90 u91 u92 u93 u94 u95 u96 u97 u98 u99 u100 u101 u102 u103 u104 u105 u106 u107 u108 u109 u110 u111 u112 u113 u114 u115 u116 u117 u118 u119 u120 u121 u122 u123 u124 u125 u126 u127 u128 u129 u130 u131 u132 u133 u134 u135 u136 u137 u138 u139 u140 u141 u142 u143 u144 u145 u146 u147 u148 u149 u150 u151 u152 u153 u154 u155 u156 u157 u158 u159 u160 u161 u162 u163 u164 u165 u166 u167 u168 u169 u170 u171 u172 u173 u174 u175 u176 u177 u178 u179 u180 u181 u182 u183 u184 u185 u186 u187 u188 u189 u190 u191 u192 u193 u194 u195 u196 u197 u198 : Value} {kd : Int}  (b9 : (kd == 9) = false) (b10 : (kd == 10) = false) (b12 : (kd == 12) = false)
    (hB : Boxes n nm w W bn bm) (hB0 : Below w0.heap.size w0 W) (hX : ∀ W, Boxes n nm w W bn bm → W.cell? ⟨bn, 4, none⟩ = some (.int .i64 least))
    (HKid : Hid (∀ W, Below w0.heap.size w0 W → Boxes n nm w W bn bm → Calls Tryd.prog 22 #[.int .i64 0, .bool false, .pointer (some ⟨bn, 0, none⟩), .pointer (some ⟨bm, 0, none⟩)] W fun e w' => e = .returned (.string KS) ∧ Below W.heap.size W w'))
    (HD1 : Hid (∀ W, Calls Tryd.prog 24 #[.int .i64 least] W fun e w' => e = .returned (.string S1) ∧ Below W.heap.size W w'))
    (z1 : ¬ (9223372036854775807 < KS.size + ((⟨#[123]⟩ : ByteArray)).size))
    (z2 : ¬ (9223372036854775807 < (KS ++ (⟨#[123]⟩ : ByteArray)).size + S1.size))
    (z3 : ¬ (9223372036854775807 < (KS ++ (⟨#[123]⟩ : ByteArray) ++ S1).size + ((⟨#[44]⟩ : ByteArray)).size))
    (z2a : ¬ (9223372036854775807 < KS.size + 1 + S1.size)) (z3a : ¬ (9223372036854775807 < KS.size + 1 + S1.size + 1)) (z2b : ¬ (9223372036854775807 < KS.size + ((⟨#[123]⟩ : ByteArray)).size + S1.size)) (z3b : ¬ (9223372036854775807 < KS.size + ((⟨#[123]⟩ : ByteArray)).size + S1.size + ((⟨#[44]⟩ : ByteArray)).size)) :
    R30.wp Tryd.prog (PostW (Rep30 w0 n nm w bn bm (KS ++ (⟨#[123]⟩ : ByteArray) ++ S1 ++ (⟨#[44]⟩ : ByteArray)))) ⟨#[u0, u1, .pointer (some ⟨bn, 0, none⟩), u3, u4, .func (.func 22) #[] #[.pointer (some ⟨bn, 0, none⟩), .pointer (some ⟨bm, 0, none⟩)], u6, u7, u8, u9, .int .i64 kd, u11, u12, u13, u14, u15, u16, u17, u18, u19, u20, u21, u22, u23, u24, u25, u26, u27, u28, u29, u30, u31, u32, u33, u34, u35, u36, u37, u38, u39, u40, u41, u42, u43, u44, u45, u46, u47, u48, u49, u50, u51, u52, u53, u54, u55, u56, u57, u58, u59, u60, u61, u62, u63, u64, u65, u66, u67, u68, u69, u70, u71, u72, u73, u74, u75, u76, u77, u78, u79, u80, u81, u82, u83, u84, u85, u86, u87, u88, u89, u90, u91, u92, u93, u94, u95, u96, u97, u98, u99, u100, u101, u102, u103, u104, u105, u106, u107, u108, u109, u110, u111, u112, u113, u114, u115, u116, u117, u118, u119, u120, u121, u122, u123, u124, u125, u126, u127, u128, u129, u130, u131, u132, u133, u134, u135, u136, u137, u138, u139, u140, u141, u142, u143, u144, u145, u146, u147, u148, u149, u150, u151, u152, u153, u154, u155, u156, u157, u158, u159, u160, u161, u162, u163, u164, u165, u166, u167, u168, u169, u170, u171, u172, u173, u174, u175, u176, u177, u178, u179, u180, u181, u182, u183, u184, u185, u186, u187, u188, u189, u190, u191, u192, u193, u194, u195, u196, u197, u198], []⟩ W := by
  have HBc : Hid (Boxes n nm w W.drew bn bm) := hB.keep ⟨rfl, rfl, rfl, Nat.le_refl _, fun _ _ => rfl⟩
  have HBc0 : Hid (Below w0.heap.size w0 W.drew) := hB0.trans ⟨rfl, rfl, rfl, Nat.le_refl _, fun _ _ => rfl⟩
  have g4 := hX _ HBc.out
  have HX := hide hX
  clear hB hB0 hX
  unfold R30
  refine wp_region_any (by kernel_rfl) ?_
  change wpAny _ _ _ _ _ _ _ (World.drew _)
  refine wpAny_take (i := 0) (v := .func (.func 22) #[] #[.pointer (some ⟨bn, 0, none⟩), .pointer (some ⟨bm, 0, none⟩)]) rfl (by kernel_rfl) (by kernel_rfl) (by kernel_rfl) (fun _ _ _ h => h) (Or.inl ⟨by kernel_rfl, fun w => ?_⟩) ?_
  · (go_simp <;> omega)
  refine wpAny_take (i := 1) (v := .int .i64 kd) rfl (by kernel_rfl) (by kernel_rfl) (by kernel_rfl) (fun _ _ _ h => h) (Or.inl ⟨by kernel_rfl, fun w => ?_⟩) ?_
  · (go_simp <;> omega)
  refine wpAny_take (i := 2) (v := .bool false) rfl (by kernel_rfl) (by kernel_rfl) (by kernel_rfl) (fun _ _ _ h => h) (Or.inl ⟨by kernel_rfl, fun w => ?_⟩) ?_
  · (go_simp <;> omega)
  refine wpAny_take (i := 3) (v := .bool false) rfl (by kernel_rfl) (by kernel_rfl) (by kernel_rfl) (fun _ _ _ h => h) (Or.inl ⟨by kernel_rfl, fun w => ?_⟩) ?_
  · (go_simp <;> omega)
  refine wpAny_take (i := 4) (v := .int .i64 kd) rfl (by kernel_rfl) (by kernel_rfl) (by kernel_rfl) (fun _ _ _ h => h) (Or.inl ⟨by kernel_rfl, fun w => ?_⟩) ?_
  · (go_simp <;> omega)
  refine wpAny_take (i := 5) (v := .bool false) rfl (by kernel_rfl) (by kernel_rfl) (by kernel_rfl) (fun _ _ _ h => h) (Or.inl ⟨by kernel_rfl, fun w => ?_⟩) ?_
  · (go_simp <;> omega)
  refine wpAny_take (i := 6) (v := .bool false) rfl (by kernel_rfl) (by kernel_rfl) (by kernel_rfl) (fun _ _ _ h => h) (Or.inl ⟨by kernel_rfl, fun w => ?_⟩) ?_
  · (go_simp <;> omega)
  refine wpAny_take (i := 7) (v := .bool false) rfl (by kernel_rfl) (by kernel_rfl) (by kernel_rfl) (fun _ _ _ h => h) (Or.inl ⟨by kernel_rfl, fun w => ?_⟩) ?_
  · (go_simp <;> omega)
  refine wpAny_take (i := 8) (v := .int .i64 kd) rfl (by kernel_rfl) (by kernel_rfl) (by kernel_rfl) (fun _ _ _ h => h) (Or.inl ⟨by kernel_rfl, fun w => ?_⟩) ?_
  · (go_simp <;> omega)
  refine wpAny_take (i := 9) (v := .bool false) rfl (by kernel_rfl) (by kernel_rfl) (by kernel_rfl) (fun _ _ _ h => h) (Or.inl ⟨by kernel_rfl, fun w => ?_⟩) ?_
  · (go_simp <;> omega)
  refine wpAny_take (i := 10) (v := .bool false) rfl (by kernel_rfl) (by kernel_rfl) (by kernel_rfl) (fun _ _ _ h => h) (Or.inl ⟨by kernel_rfl, fun w => ?_⟩) ?_
  · (go_simp <;> omega)
  refine wpAny_take (i := 13) (v := .pointer (some ⟨bn, 4, none⟩)) rfl (by kernel_rfl) (by kernel_rfl) (by kernel_rfl) (fun _ _ _ h => h) (Or.inl ⟨by kernel_rfl, fun w => ?_⟩) ?_
  · (go_simp <;> omega)
  refine wpAny_ready (rs := [11, 14]) (by kernel_rfl) (by simp) ?_
  refine AllReady.cons rfl (fun K hK => ?_) (AllReady.cons rfl (fun K hK => ?_) AllReady.nil)
  · go_simp
    go_wp2_with (go_at_call 22; refine (HKid.out _ HBc0.out HBc.out).mono ?_; rintro e w4 ⟨rfl, hb4⟩; replace HBc := hide (HBc.out.keep hb4); replace HBc0 := hide (HBc0.out.trans (hb4.mono HBc0.out.size)); clear hb4 g4; have g4 := HX.out _ HBc.out)
    try (refine hK _ _ ?_; clear hK K)
    refine wpAny_take (i := 12) (v := .string (KS ++ (⟨#[123]⟩ : ByteArray))) rfl (by kernel_rfl) (by kernel_rfl) (by kernel_rfl) (fun _ _ _ h => h) (Or.inl ⟨by kernel_rfl, fun w => ?_⟩) ?_
    · (go_simp <;> omega)
    refine wpAny_ready (rs := [14]) (by kernel_rfl) (by simp) ?_
    refine AllReady.cons rfl (fun K hK => ?_) AllReady.nil
    go_simp
    try (refine hK _ _ ?_; clear hK K)
    refine wpAny_ready (rs := [15]) (by kernel_rfl) (by simp) ?_
    refine AllReady.cons rfl (fun K hK => ?_) AllReady.nil
    go_simp
    go_wp2_with (go_at_call 24; refine (HD1.out _).mono ?_; rintro e w5 ⟨rfl, hb5⟩; replace HBc := hide (HBc.out.keep hb5); replace HBc0 := hide (HBc0.out.trans (hb5.mono HBc0.out.size)); clear hb5 g4; have g4 := HX.out _ HBc.out)
    try (refine hK _ _ ?_; clear hK K)
    refine wpAny_take (i := 16) (v := .string (KS ++ (⟨#[123]⟩ : ByteArray) ++ S1)) rfl (by kernel_rfl) (by kernel_rfl) (by kernel_rfl) (fun _ _ _ h => h) (Or.inl ⟨by kernel_rfl, fun w => ?_⟩) ?_
    · (go_simp <;> omega)
    refine wpAny_take (i := 17) (v := .string (KS ++ (⟨#[123]⟩ : ByteArray) ++ S1 ++ (⟨#[44]⟩ : ByteArray))) rfl (by kernel_rfl) (by kernel_rfl) (by kernel_rfl) (fun _ _ _ h => h) (Or.inl ⟨by kernel_rfl, fun w => ?_⟩) ?_
    · (go_simp <;> omega)
    refine wpAny_take (i := 18) (v := .string (KS ++ (⟨#[123]⟩ : ByteArray) ++ S1 ++ (⟨#[44]⟩ : ByteArray))) rfl (by kernel_rfl) (by kernel_rfl) (by kernel_rfl) (fun _ _ _ h => h) (Or.inl ⟨by kernel_rfl, fun w => ?_⟩) ?_
    · (go_simp <;> omega)
    refine wpAny_done (by kernel_rfl) ?_ _
    exact ⟨_, rfl, rfl, rfl, rfl, HBc.out, HBc0.out⟩
  · go_simp
    try (refine hK _ _ ?_; clear hK K)
    refine wpAny_ready (rs := [11]) (by kernel_rfl) (by simp) ?_
    refine AllReady.cons rfl (fun K hK => ?_) AllReady.nil
    go_simp
    go_wp2_with (go_at_call 22; refine (HKid.out _ HBc0.out HBc.out).mono ?_; rintro e w4 ⟨rfl, hb4⟩; replace HBc := hide (HBc.out.keep hb4); replace HBc0 := hide (HBc0.out.trans (hb4.mono HBc0.out.size)); clear hb4 g4; have g4 := HX.out _ HBc.out)
    try (refine hK _ _ ?_; clear hK K)
    refine wpAny_take (i := 12) (v := .string (KS ++ (⟨#[123]⟩ : ByteArray))) rfl (by kernel_rfl) (by kernel_rfl) (by kernel_rfl) (fun _ _ _ h => h) (Or.inl ⟨by kernel_rfl, fun w => ?_⟩) ?_
    · (go_simp <;> omega)
    refine wpAny_ready (rs := [15]) (by kernel_rfl) (by simp) ?_
    refine AllReady.cons rfl (fun K hK => ?_) AllReady.nil
    go_simp
    go_wp2_with (go_at_call 24; refine (HD1.out _).mono ?_; rintro e w5 ⟨rfl, hb5⟩; replace HBc := hide (HBc.out.keep hb5); replace HBc0 := hide (HBc0.out.trans (hb5.mono HBc0.out.size)); clear hb5 g4; have g4 := HX.out _ HBc.out)
    try (refine hK _ _ ?_; clear hK K)
    refine wpAny_take (i := 16) (v := .string (KS ++ (⟨#[123]⟩ : ByteArray) ++ S1)) rfl (by kernel_rfl) (by kernel_rfl) (by kernel_rfl) (fun _ _ _ h => h) (Or.inl ⟨by kernel_rfl, fun w => ?_⟩) ?_
    · (go_simp <;> omega)
    refine wpAny_take (i := 17) (v := .string (KS ++ (⟨#[123]⟩ : ByteArray) ++ S1 ++ (⟨#[44]⟩ : ByteArray))) rfl (by kernel_rfl) (by kernel_rfl) (by kernel_rfl) (fun _ _ _ h => h) (Or.inl ⟨by kernel_rfl, fun w => ?_⟩) ?_
    · (go_simp <;> omega)
    refine wpAny_take (i := 18) (v := .string (KS ++ (⟨#[123]⟩ : ByteArray) ++ S1 ++ (⟨#[44]⟩ : ByteArray))) rfl (by kernel_rfl) (by kernel_rfl) (by kernel_rfl) (fun _ _ _ h => h) (Or.inl ⟨by kernel_rfl, fun w => ?_⟩) ?_
    · (go_simp <;> omega)
    refine wpAny_done (by kernel_rfl) ?_ _
    exact ⟨_, rfl, rfl, rfl, rfl, HBc.out, HBc0.out⟩

end Go.Proofs.YtpcohmbipbiglaaDoor

namespace Go.Proofs.YtpcohmbipbiglaaDoor
open Go.RowKit
open Go.Lib (decDigits)
set_option linter.unusedVariables false

set_option maxHeartbeats 8000000 in
set_option maxRecDepth 100000 in
theorem ref_rep_9 (w0 : World) (n : NV) (na : Option Addr) (nl nc : Nat) (T : List UInt8) (w : World) (hw0 : Below w0.heap.size w0 w) (v : NV) (x : Addr) (K : List UInt8) (hka : n.ka = some x) (hkl : n.kl = 1) (hc : NCells w0 x v) (hG : RefG w0 (.slice na nl nc) v K) (hle : 0 ≤ n.least ∧ n.least ≤ 100) (hmo : n.most = -1 ∨ (0 ≤ n.most ∧ n.most ≤ 100)) (hwy : 1 ≤ n.way ∧ n.way ≤ 3) (hlen : T.length ≤ 10000000000000) (hT : T = wrapT true K ++ repT n.least n.most n.way) (hvk : v.kind = 9) (hk : n.kind = 12) : Calls Tryd.prog 13 #[nvV n, .slice na nl nc] w fun e w' => e = .returned (.string ⟨T.toArray⟩) ∧ Below w.heap.size w w' := by
  have hmf : ∀ (fn : Fn) (first cap : Array Value) (w : World), (Instr.makeFunc fn first cap).run Tryd.prog w = .ok (.func fn first cap) w := fun _ _ _ _ => rfl
  obtain ⟨w2, hw2⟩ : ∃ w2, w2 = (w.alloc (nvO n)).alloc (.cells #[.slice na nl nc] 32) := ⟨_, rfl⟩
  have hB := Boxes.mk2 n (.slice na nl nc) w
  rw [← hw2] at hB
  obtain ⟨bn, hbn⟩ : ∃ bn, bn = w.heap.size := ⟨_, rfl⟩
  obtain ⟨bm, hbm⟩ : ∃ bm, bm = w.heap.size + 1 := ⟨_, rfl⟩
  rw [← hbm] at hB
  have hB' : Boxes n (.slice na nl nc) w w2 bn bm := by rw [hbn]; exact hB
  clear hB
  have HB := hide hB'
  have HB0 : Hid (Below w0.heap.size w0 w2) := hw0.trans (hB'.bel.mono hw0.size)
  obtain ⟨d0, d1, d2, d3, d4, d5, d6, d7⟩ := nv_cells hB'.bn
  have qm := one_cellW hB'.bm
  rw [hk] at d0
  simp only [nvO] at hw2
  have hKl : (wrapT true K).length ≤ 10000000000000 := by rw [hT, List.length_append] at hlen; omega
  have hK2 : K.length ≤ 10000000000000 := by
    have : K.length ≤ (wrapT true K).length := by unfold wrapT; split <;> simp <;> omega
    omega
  have HKid : Hid (∀ W, Below w0.heap.size w0 W → Boxes n (.slice na nl nc) w W bn bm → Calls Tryd.prog 22 #[.int .i64 0, .bool true, .pointer (some ⟨bn, 0, none⟩), .pointer (some ⟨bm, 0, none⟩)] W fun e w' => e = .returned (.string ⟨(wrapT true K).toArray⟩) ∧ Below W.heap.size W w') := fun W hW hBo => by
    have := kid_any w0 _ n v x 0 (by omega) hka (by rw [Nat.zero_mul, show x.add 0 = x from by cases x; rename_i a b c; cases c <;> rfl]; exact hc) _ hG hK2 true bn bm W hW hBo.bn hBo.bm
    exact this
  obtain ⟨A, hA⟩ : ∃ A, A = wrapT true K := ⟨_, rfl⟩
  rw [← hA] at hT hKl HKid
  obtain ⟨KS, hKS⟩ : ∃ KS : ByteArray, KS = ⟨A.toArray⟩ := ⟨_, rfl⟩
  rw [← hKS] at HKid
  have sK : KS.size ≤ 10000000000000 := by rw [hKS, bA_size]; exact hKl
  obtain ⟨least, hleast⟩ : ∃ q, q = n.least := ⟨_, rfl⟩
  obtain ⟨most, hmost⟩ : ∃ q, q = n.most := ⟨_, rfl⟩
  obtain ⟨way, hway⟩ : ∃ q, q = n.way := ⟨_, rfl⟩
  have HD : Hid (∀ (p : Int) W, 0 ≤ p → p ≤ 100 → Calls Tryd.prog 24 #[.int .i64 p] W fun e w' => e = .returned (.string ⟨(decDigits p.toNat).toArray⟩) ∧ Below W.heap.size W w') := fun p W h0 h1 => by
    have := decimal_any p.toNat (by omega) W
    rw [show ((p.toNat : Nat) : Int) = p by omega] at this
    exact this
  rw [← hleast] at hle hT
  rw [← hmost] at hmo hT
  rw [← hway] at hwy hT
  obtain ⟨S1, hS1⟩ : ∃ S1 : ByteArray, S1 = ⟨(decDigits least.toNat).toArray⟩ := ⟨_, rfl⟩
  obtain ⟨S2, hS2⟩ : ∃ S2 : ByteArray, S2 = ⟨(decDigits most.toNat).toArray⟩ := ⟨_, rfl⟩
  have s1 : S1.size ≤ 101 := by rw [hS1, bA_size]; exact decDigits_small (by omega)
  have s2 : S2.size ≤ 101 := by rw [hS2, bA_size]; exact decDigits_small (by omega)
  have HD1 : Hid (∀ W, Calls Tryd.prog 24 #[.int .i64 least] W fun e w' => e = .returned (.string S1) ∧ Below W.heap.size W w') := fun W => by rw [hS1]; exact HD.out least W hle.1 hle.2
  have HD2 : Hid (0 ≤ most → ∀ W, Calls Tryd.prog 24 #[.int .i64 most] W fun e w' => e = .returned (.string S2) ∧ Below W.heap.size W w') := fun h0 W => by rw [hS2]; exact HD.out most W h0 (by omega)
  have HX : Hid (∀ W, Boxes n (.slice na nl nc) w W bn bm → W.cell? ⟨bn, 2, none⟩ = some (.slice (some x) 1 n.kc) ∧ W.cell? ⟨bn, 4, none⟩ = some (.int .i64 least) ∧ W.cell? ⟨bn, 5, none⟩ = some (.int .i64 most) ∧ W.cell? ⟨bn, 6, none⟩ = some (.int .i64 way)) := fun W hW => by
    have := nv_cells hW.bn
    rw [hleast, hmost, hway]
    refine ⟨?_, this.c4, this.c5, this.c6⟩
    have h2 := this.c2
    rw [hka, hkl] at h2
    exact h2
  have HXa : Hid (∀ W, Boxes n (.slice na nl nc) w W bn bm → ∀ o, (W.alloc o).cell? ⟨bn, 6, none⟩ = some (.int .i64 way)) := fun W hW o => by rw [hway]; exact (nv_cells (at_old hW.bn)).c6
  have k0 := (hc.below HB0.out).c0
  obtain ⟨c2, c4, c5, c6⟩ := HX.out w2 hB'
  clear d1 d2 d3 d4 d5 d6 d7 qm
  have o1 : ((⟨#[123]⟩ : ByteArray)).size = 1 := rfl
  have o2 : ((⟨#[44]⟩ : ByteArray)).size = 1 := rfl
  have o3 : ((⟨#[125]⟩ : ByteArray)).size = 1 := rfl
  obtain ⟨Q1, hQ1⟩ : ∃ Q1, Q1 = KS ++ (⟨#[123]⟩ : ByteArray) ++ S1 ++ (⟨#[44]⟩ : ByteArray) := ⟨_, rfl⟩
  have sQ1 : Q1.size ≤ 10000000001000 := by rw [hQ1]; simp only [ByteArray.size_append]; omega
  have z1 : ¬ (9223372036854775807 < KS.size + ((⟨#[123]⟩ : ByteArray)).size) := by omega
  have z2 : ¬ (9223372036854775807 < (KS ++ (⟨#[123]⟩ : ByteArray)).size + S1.size) := by simp only [ByteArray.size_append]; omega
  have z3 : ¬ (9223372036854775807 < (KS ++ (⟨#[123]⟩ : ByteArray) ++ S1).size + ((⟨#[44]⟩ : ByteArray)).size) := by simp only [ByteArray.size_append]; omega
  have HRs : Hid (∀ (M : List UInt8) (SM : ByteArray) (V : ByteArray), mostT most = M → SM = ⟨M.toArray⟩ → wayS way = V → (⟨T.toArray⟩ : ByteArray) = Q1 ++ SM ++ (⟨#[125]⟩ : ByteArray) ++ V) := fun M SM V h1 h2 h3 => by
    rw [hT, hQ1, h2, hKS, hS1]
    unfold repT
    rw [h1, h3]
    apply ByteArray.ext
    simp only [ByteArray.data_append]
    apply Array.ext'
    simp
  have HQ1 := hide hQ1
  rw [hvk] at k0
  clear hvk
  have HX4 : Hid (∀ W, Boxes n (.slice na nl nc) w W bn bm → W.cell? ⟨bn, 4, none⟩ = some (.int .i64 least)) := fun W hW => (HX.out W hW).2.1
  have z2a : ¬ (9223372036854775807 < KS.size + 1 + S1.size) := by omega
  have z3a : ¬ (9223372036854775807 < KS.size + 1 + S1.size + 1) := by omega
  have z2b : ¬ (9223372036854775807 < KS.size + ((⟨#[123]⟩ : ByteArray)).size + S1.size) := by omega
  have z3b : ¬ (9223372036854775807 < KS.size + ((⟨#[123]⟩ : ByteArray)).size + S1.size + ((⟨#[44]⟩ : ByteArray)).size) := by omega
  have y1 : ¬ (9223372036854775807 < Q1.size + S2.size) := by omega
  have y2 : ¬ (9223372036854775807 < (Q1 ++ S2).size + ((⟨#[125]⟩ : ByteArray)).size) := by rw [ByteArray.size_append]; omega
  have y3 : ¬ (9223372036854775807 < Q1.size + ((⟨#[125]⟩ : ByteArray)).size) := by omega
  have y4 : ¬ (9223372036854775807 < Q1.size + S2.size + 1) := by omega
  have y5 : ¬ (9223372036854775807 < Q1.size + S2.size + 1 + 1) := by omega
  have y6 : ¬ (9223372036854775807 < Q1.size + S2.size + 2) := by omega
  have y7 : ¬ (9223372036854775807 < Q1.size + 1) := by omega
  have y8 : ¬ (9223372036854775807 < Q1.size + 1 + 1) := by omega
  have y9 : ¬ (9223372036854775807 < Q1.size + 2) := by omega
  have HRm : Hid (0 ≤ most → ∀ V, wayS way = V → (⟨T.toArray⟩ : ByteArray) = Q1 ++ S2 ++ (⟨#[125]⟩ : ByteArray) ++ V) := fun h0 V hV => HRs.out _ S2 V (by unfold mostT; rw [if_pos h0]) hS2 hV
  have HRn : Hid (¬ 0 ≤ most → ∀ V, wayS way = V → (⟨T.toArray⟩ : ByteArray) = Q1 ++ (⟨#[125]⟩ : ByteArray) ++ V) := fun h0 V hV => by
    have := HRs.out [] ⟨#[]⟩ V (by unfold mostT; rw [if_neg h0]) rfl hV
    rw [this]
    apply ByteArray.ext
    simp only [ByteArray.data_append]
    apply Array.ext'
    simp
  obtain ⟨RT, hRT⟩ : ∃ RT : ByteArray, RT = ⟨T.toArray⟩ := ⟨_, rfl⟩
  rw [← hRT] at HRm HRn ⊢
  have HWy := hide hwy
  have HSz : Hid (Q1.size ≤ 10000000001000 ∧ S2.size ≤ 101) := ⟨sQ1, s2⟩
  clear hka hkl hc hG hle hmo hwy hlen hT hKl hK2 hA hKS hleast hmost hway hS1 hS2 hQ1 HD HRs hRT sK s1 s2 sQ1 o1 o2 o3
  clear hB' hw0 hk
  go_enter Tryd.func13, Tryd.ntmps13
  go_upto_region 1 with fail
  rw [← hw2, ← hbm, ← hbn]
  clear hw2 hbm hbn
  go_upto_region 30 with fail
  refine wp_afterW (reg30_9 HB.out HB0.out HX4.out HKid HD1 z1 z2 z3 z2a z3a z2b z3b) ?_
  rintro a4 w4 ⟨A', rfl, hsz, h2, h6, hB4, hB04⟩
  rw [← HQ1.out] at h6
  have HB4 := hide hB4
  have HB04 := hide hB04
  have rne := get_neW
  have req := get_eqW
  obtain ⟨g2, g4, g5, g6⟩ := HX.out _ hB4
  clear hB4 hB04 c2 c4 c5 c6 k0 d0 HB HB0 z1 z2 z3 z2a z3a z2b z3b HKid HD1 HX4 HQ1
  by_cases hm0 : 0 ≤ most
  · have HDm := hide (HD2.out hm0)
    have HRR := hide (HRm.out hm0)
    clear HD2 HRm HRn
    go_upto_if 31 with fail
    refine wp_cond (t := true) (by simp [Act.eval, hsz]) ?_
    simp only [if_true]
    go_wp2_with fail
    refine (HDm.out w4).mono ?_
    rintro e w5 ⟨rfl, hb5⟩
    have HB5 := hide (HB4.out.keep hb5)
    have a6 := HXa.out _ HB5.out
    clear hb5 g2 g4 g5 g6 HDm
    have p0 : ¬ (9223372036854775807 < (Q1 ++ S2 ++ (⟨#[125]⟩ : ByteArray)).size + ((⟨#[]⟩ : ByteArray)).size) := by simp only [ByteArray.size_append]; have h1 := HSz.out; have h3 : ((⟨#[125]⟩ : ByteArray)).size = 1 := rfl; have h2 : ((⟨#[]⟩ : ByteArray)).size = 0 := rfl; omega
    have p1 : ¬ (9223372036854775807 < (Q1 ++ S2 ++ (⟨#[125]⟩ : ByteArray)).size + ((⟨#[63]⟩ : ByteArray)).size) := by simp only [ByteArray.size_append]; have h1 := HSz.out; have h3 : ((⟨#[125]⟩ : ByteArray)).size = 1 := rfl; have h2 : ((⟨#[63]⟩ : ByteArray)).size = 1 := rfl; omega
    have p2 : ¬ (9223372036854775807 < (Q1 ++ S2 ++ (⟨#[125]⟩ : ByteArray)).size + ((⟨#[43]⟩ : ByteArray)).size) := by simp only [ByteArray.size_append]; have h1 := HSz.out; have h3 : ((⟨#[125]⟩ : ByteArray)).size = 1 := rfl; have h2 : ((⟨#[43]⟩ : ByteArray)).size = 1 := rfl; omega
    have hw3 := HWy.out
    rcases (by omega : way = 1 ∨ way = 2 ∨ way = 3) with rfl | rfl | rfl
    · have HV := hide (HRR.out ⟨#[]⟩ rfl)
      clear hw3 HRR HWy HSz
      go_wp2
      go_ret
      refine ⟨?_, HB5.out.bel.alloc HB5.out.bel.size _⟩
      rw [HV.out]
      simp [hsz, req]
    · have HV := hide (HRR.out ⟨#[63]⟩ rfl)
      clear hw3 HRR HWy HSz
      go_wp2
      go_ret
      refine ⟨?_, HB5.out.bel.alloc HB5.out.bel.size _⟩
      rw [HV.out]
      simp [hsz, req]
    · have HV := hide (HRR.out ⟨#[43]⟩ rfl)
      clear hw3 HRR HWy HSz
      go_wp2
      go_ret
      refine ⟨?_, HB5.out.bel.alloc HB5.out.bel.size _⟩
      rw [HV.out]
      simp [hsz, req]
  · have HRR := hide (HRn.out hm0)
    have hm1 : most < 0 := by omega
    have a6 := HXa.out _ HB4.out
    clear HD2 HRm HRn
    go_upto_if 31 with fail
    refine wp_cond (t := false) (by simp [Act.eval, hsz]; try omega) ?_
    simp only [Bool.false_eq_true, if_false]
    clear g2 g4 g5 g6
    have p0 : ¬ (9223372036854775807 < (Q1 ++ (⟨#[125]⟩ : ByteArray)).size + ((⟨#[]⟩ : ByteArray)).size) := by simp only [ByteArray.size_append]; have h1 := HSz.out; have h3 : ((⟨#[125]⟩ : ByteArray)).size = 1 := rfl; have h2 : ((⟨#[]⟩ : ByteArray)).size = 0 := rfl; omega
    have p1 : ¬ (9223372036854775807 < (Q1 ++ (⟨#[125]⟩ : ByteArray)).size + ((⟨#[63]⟩ : ByteArray)).size) := by simp only [ByteArray.size_append]; have h1 := HSz.out; have h3 : ((⟨#[125]⟩ : ByteArray)).size = 1 := rfl; have h2 : ((⟨#[63]⟩ : ByteArray)).size = 1 := rfl; omega
    have p2 : ¬ (9223372036854775807 < (Q1 ++ (⟨#[125]⟩ : ByteArray)).size + ((⟨#[43]⟩ : ByteArray)).size) := by simp only [ByteArray.size_append]; have h1 := HSz.out; have h3 : ((⟨#[125]⟩ : ByteArray)).size = 1 := rfl; have h2 : ((⟨#[43]⟩ : ByteArray)).size = 1 := rfl; omega
    have hw3 := HWy.out
    rcases (by omega : way = 1 ∨ way = 2 ∨ way = 3) with rfl | rfl | rfl
    · have HV := hide (HRR.out ⟨#[]⟩ rfl)
      clear hw3 HRR HWy HSz
      go_wp2
      go_ret
      refine ⟨?_, HB4.out.bel.alloc HB4.out.bel.size _⟩
      rw [HV.out]
      simp [hsz, req]
    · have HV := hide (HRR.out ⟨#[63]⟩ rfl)
      clear hw3 HRR HWy HSz
      go_wp2
      go_ret
      refine ⟨?_, HB4.out.bel.alloc HB4.out.bel.size _⟩
      rw [HV.out]
      simp [hsz, req]
    · have HV := hide (HRR.out ⟨#[43]⟩ rfl)
      clear hw3 HRR HWy HSz
      go_wp2
      go_ret
      refine ⟨?_, HB4.out.bel.alloc HB4.out.bel.size _⟩
      rw [HV.out]
      simp [hsz, req]
set_option maxHeartbeats 8000000 in
set_option maxRecDepth 100000 in
theorem ref_rep_10 (w0 : World) (n : NV) (na : Option Addr) (nl nc : Nat) (T : List UInt8) (w : World) (hw0 : Below w0.heap.size w0 w) (v : NV) (x : Addr) (K : List UInt8) (hka : n.ka = some x) (hkl : n.kl = 1) (hc : NCells w0 x v) (hG : RefG w0 (.slice na nl nc) v K) (hle : 0 ≤ n.least ∧ n.least ≤ 100) (hmo : n.most = -1 ∨ (0 ≤ n.most ∧ n.most ≤ 100)) (hwy : 1 ≤ n.way ∧ n.way ≤ 3) (hlen : T.length ≤ 10000000000000) (hT : T = wrapT true K ++ repT n.least n.most n.way) (hvk : v.kind = 10) (hk : n.kind = 12) : Calls Tryd.prog 13 #[nvV n, .slice na nl nc] w fun e w' => e = .returned (.string ⟨T.toArray⟩) ∧ Below w.heap.size w w' := by
  have hmf : ∀ (fn : Fn) (first cap : Array Value) (w : World), (Instr.makeFunc fn first cap).run Tryd.prog w = .ok (.func fn first cap) w := fun _ _ _ _ => rfl
  obtain ⟨w2, hw2⟩ : ∃ w2, w2 = (w.alloc (nvO n)).alloc (.cells #[.slice na nl nc] 32) := ⟨_, rfl⟩
  have hB := Boxes.mk2 n (.slice na nl nc) w
  rw [← hw2] at hB
  obtain ⟨bn, hbn⟩ : ∃ bn, bn = w.heap.size := ⟨_, rfl⟩
  obtain ⟨bm, hbm⟩ : ∃ bm, bm = w.heap.size + 1 := ⟨_, rfl⟩
  rw [← hbm] at hB
  have hB' : Boxes n (.slice na nl nc) w w2 bn bm := by rw [hbn]; exact hB
  clear hB
  have HB := hide hB'
  have HB0 : Hid (Below w0.heap.size w0 w2) := hw0.trans (hB'.bel.mono hw0.size)
  obtain ⟨d0, d1, d2, d3, d4, d5, d6, d7⟩ := nv_cells hB'.bn
  have qm := one_cellW hB'.bm
  rw [hk] at d0
  simp only [nvO] at hw2
  have hKl : (wrapT true K).length ≤ 10000000000000 := by rw [hT, List.length_append] at hlen; omega
  have hK2 : K.length ≤ 10000000000000 := by
    have : K.length ≤ (wrapT true K).length := by unfold wrapT; split <;> simp <;> omega
    omega
  have HKid : Hid (∀ W, Below w0.heap.size w0 W → Boxes n (.slice na nl nc) w W bn bm → Calls Tryd.prog 22 #[.int .i64 0, .bool true, .pointer (some ⟨bn, 0, none⟩), .pointer (some ⟨bm, 0, none⟩)] W fun e w' => e = .returned (.string ⟨(wrapT true K).toArray⟩) ∧ Below W.heap.size W w') := fun W hW hBo => by
    have := kid_any w0 _ n v x 0 (by omega) hka (by rw [Nat.zero_mul, show x.add 0 = x from by cases x; rename_i a b c; cases c <;> rfl]; exact hc) _ hG hK2 true bn bm W hW hBo.bn hBo.bm
    exact this
  obtain ⟨A, hA⟩ : ∃ A, A = wrapT true K := ⟨_, rfl⟩
  rw [← hA] at hT hKl HKid
  obtain ⟨KS, hKS⟩ : ∃ KS : ByteArray, KS = ⟨A.toArray⟩ := ⟨_, rfl⟩
  rw [← hKS] at HKid
  have sK : KS.size ≤ 10000000000000 := by rw [hKS, bA_size]; exact hKl
  obtain ⟨least, hleast⟩ : ∃ q, q = n.least := ⟨_, rfl⟩
  obtain ⟨most, hmost⟩ : ∃ q, q = n.most := ⟨_, rfl⟩
  obtain ⟨way, hway⟩ : ∃ q, q = n.way := ⟨_, rfl⟩
  have HD : Hid (∀ (p : Int) W, 0 ≤ p → p ≤ 100 → Calls Tryd.prog 24 #[.int .i64 p] W fun e w' => e = .returned (.string ⟨(decDigits p.toNat).toArray⟩) ∧ Below W.heap.size W w') := fun p W h0 h1 => by
    have := decimal_any p.toNat (by omega) W
    rw [show ((p.toNat : Nat) : Int) = p by omega] at this
    exact this
  rw [← hleast] at hle hT
  rw [← hmost] at hmo hT
  rw [← hway] at hwy hT
  obtain ⟨S1, hS1⟩ : ∃ S1 : ByteArray, S1 = ⟨(decDigits least.toNat).toArray⟩ := ⟨_, rfl⟩
  obtain ⟨S2, hS2⟩ : ∃ S2 : ByteArray, S2 = ⟨(decDigits most.toNat).toArray⟩ := ⟨_, rfl⟩
  have s1 : S1.size ≤ 101 := by rw [hS1, bA_size]; exact decDigits_small (by omega)
  have s2 : S2.size ≤ 101 := by rw [hS2, bA_size]; exact decDigits_small (by omega)
  have HD1 : Hid (∀ W, Calls Tryd.prog 24 #[.int .i64 least] W fun e w' => e = .returned (.string S1) ∧ Below W.heap.size W w') := fun W => by rw [hS1]; exact HD.out least W hle.1 hle.2
  have HD2 : Hid (0 ≤ most → ∀ W, Calls Tryd.prog 24 #[.int .i64 most] W fun e w' => e = .returned (.string S2) ∧ Below W.heap.size W w') := fun h0 W => by rw [hS2]; exact HD.out most W h0 (by omega)
  have HX : Hid (∀ W, Boxes n (.slice na nl nc) w W bn bm → W.cell? ⟨bn, 2, none⟩ = some (.slice (some x) 1 n.kc) ∧ W.cell? ⟨bn, 4, none⟩ = some (.int .i64 least) ∧ W.cell? ⟨bn, 5, none⟩ = some (.int .i64 most) ∧ W.cell? ⟨bn, 6, none⟩ = some (.int .i64 way)) := fun W hW => by
    have := nv_cells hW.bn
    rw [hleast, hmost, hway]
    refine ⟨?_, this.c4, this.c5, this.c6⟩
    have h2 := this.c2
    rw [hka, hkl] at h2
    exact h2
  have HXa : Hid (∀ W, Boxes n (.slice na nl nc) w W bn bm → ∀ o, (W.alloc o).cell? ⟨bn, 6, none⟩ = some (.int .i64 way)) := fun W hW o => by rw [hway]; exact (nv_cells (at_old hW.bn)).c6
  have k0 := (hc.below HB0.out).c0
  obtain ⟨c2, c4, c5, c6⟩ := HX.out w2 hB'
  clear d1 d2 d3 d4 d5 d6 d7 qm
  have o1 : ((⟨#[123]⟩ : ByteArray)).size = 1 := rfl
  have o2 : ((⟨#[44]⟩ : ByteArray)).size = 1 := rfl
  have o3 : ((⟨#[125]⟩ : ByteArray)).size = 1 := rfl
  obtain ⟨Q1, hQ1⟩ : ∃ Q1, Q1 = KS ++ (⟨#[123]⟩ : ByteArray) ++ S1 ++ (⟨#[44]⟩ : ByteArray) := ⟨_, rfl⟩
  have sQ1 : Q1.size ≤ 10000000001000 := by rw [hQ1]; simp only [ByteArray.size_append]; omega
  have z1 : ¬ (9223372036854775807 < KS.size + ((⟨#[123]⟩ : ByteArray)).size) := by omega
  have z2 : ¬ (9223372036854775807 < (KS ++ (⟨#[123]⟩ : ByteArray)).size + S1.size) := by simp only [ByteArray.size_append]; omega
  have z3 : ¬ (9223372036854775807 < (KS ++ (⟨#[123]⟩ : ByteArray) ++ S1).size + ((⟨#[44]⟩ : ByteArray)).size) := by simp only [ByteArray.size_append]; omega
  have HRs : Hid (∀ (M : List UInt8) (SM : ByteArray) (V : ByteArray), mostT most = M → SM = ⟨M.toArray⟩ → wayS way = V → (⟨T.toArray⟩ : ByteArray) = Q1 ++ SM ++ (⟨#[125]⟩ : ByteArray) ++ V) := fun M SM V h1 h2 h3 => by
    rw [hT, hQ1, h2, hKS, hS1]
    unfold repT
    rw [h1, h3]
    apply ByteArray.ext
    simp only [ByteArray.data_append]
    apply Array.ext'
    simp
  have HQ1 := hide hQ1
  rw [hvk] at k0
  clear hvk
  have HX4 : Hid (∀ W, Boxes n (.slice na nl nc) w W bn bm → W.cell? ⟨bn, 4, none⟩ = some (.int .i64 least)) := fun W hW => (HX.out W hW).2.1
  have z2a : ¬ (9223372036854775807 < KS.size + 1 + S1.size) := by omega
  have z3a : ¬ (9223372036854775807 < KS.size + 1 + S1.size + 1) := by omega
  have z2b : ¬ (9223372036854775807 < KS.size + ((⟨#[123]⟩ : ByteArray)).size + S1.size) := by omega
  have z3b : ¬ (9223372036854775807 < KS.size + ((⟨#[123]⟩ : ByteArray)).size + S1.size + ((⟨#[44]⟩ : ByteArray)).size) := by omega
  have y1 : ¬ (9223372036854775807 < Q1.size + S2.size) := by omega
  have y2 : ¬ (9223372036854775807 < (Q1 ++ S2).size + ((⟨#[125]⟩ : ByteArray)).size) := by rw [ByteArray.size_append]; omega
  have y3 : ¬ (9223372036854775807 < Q1.size + ((⟨#[125]⟩ : ByteArray)).size) := by omega
  have y4 : ¬ (9223372036854775807 < Q1.size + S2.size + 1) := by omega
  have y5 : ¬ (9223372036854775807 < Q1.size + S2.size + 1 + 1) := by omega
  have y6 : ¬ (9223372036854775807 < Q1.size + S2.size + 2) := by omega
  have y7 : ¬ (9223372036854775807 < Q1.size + 1) := by omega
  have y8 : ¬ (9223372036854775807 < Q1.size + 1 + 1) := by omega
  have y9 : ¬ (9223372036854775807 < Q1.size + 2) := by omega
  have HRm : Hid (0 ≤ most → ∀ V, wayS way = V → (⟨T.toArray⟩ : ByteArray) = Q1 ++ S2 ++ (⟨#[125]⟩ : ByteArray) ++ V) := fun h0 V hV => HRs.out _ S2 V (by unfold mostT; rw [if_pos h0]) hS2 hV
  have HRn : Hid (¬ 0 ≤ most → ∀ V, wayS way = V → (⟨T.toArray⟩ : ByteArray) = Q1 ++ (⟨#[125]⟩ : ByteArray) ++ V) := fun h0 V hV => by
    have := HRs.out [] ⟨#[]⟩ V (by unfold mostT; rw [if_neg h0]) rfl hV
    rw [this]
    apply ByteArray.ext
    simp only [ByteArray.data_append]
    apply Array.ext'
    simp
  obtain ⟨RT, hRT⟩ : ∃ RT : ByteArray, RT = ⟨T.toArray⟩ := ⟨_, rfl⟩
  rw [← hRT] at HRm HRn ⊢
  have HWy := hide hwy
  have HSz : Hid (Q1.size ≤ 10000000001000 ∧ S2.size ≤ 101) := ⟨sQ1, s2⟩
  clear hka hkl hc hG hle hmo hwy hlen hT hKl hK2 hA hKS hleast hmost hway hS1 hS2 hQ1 HD HRs hRT sK s1 s2 sQ1 o1 o2 o3
  clear hB' hw0 hk
  go_enter Tryd.func13, Tryd.ntmps13
  go_upto_region 1 with fail
  rw [← hw2, ← hbm, ← hbn]
  clear hw2 hbm hbn
  go_upto_region 30 with fail
  refine wp_afterW (reg30_10 HB.out HB0.out HX4.out HKid HD1 z1 z2 z3 z2a z3a z2b z3b) ?_
  rintro a4 w4 ⟨A', rfl, hsz, h2, h6, hB4, hB04⟩
  rw [← HQ1.out] at h6
  have HB4 := hide hB4
  have HB04 := hide hB04
  have rne := get_neW
  have req := get_eqW
  obtain ⟨g2, g4, g5, g6⟩ := HX.out _ hB4
  clear hB4 hB04 c2 c4 c5 c6 k0 d0 HB HB0 z1 z2 z3 z2a z3a z2b z3b HKid HD1 HX4 HQ1
  by_cases hm0 : 0 ≤ most
  · have HDm := hide (HD2.out hm0)
    have HRR := hide (HRm.out hm0)
    clear HD2 HRm HRn
    go_upto_if 31 with fail
    refine wp_cond (t := true) (by simp [Act.eval, hsz]) ?_
    simp only [if_true]
    go_wp2_with fail
    refine (HDm.out w4).mono ?_
    rintro e w5 ⟨rfl, hb5⟩
    have HB5 := hide (HB4.out.keep hb5)
    have a6 := HXa.out _ HB5.out
    clear hb5 g2 g4 g5 g6 HDm
    have p0 : ¬ (9223372036854775807 < (Q1 ++ S2 ++ (⟨#[125]⟩ : ByteArray)).size + ((⟨#[]⟩ : ByteArray)).size) := by simp only [ByteArray.size_append]; have h1 := HSz.out; have h3 : ((⟨#[125]⟩ : ByteArray)).size = 1 := rfl; have h2 : ((⟨#[]⟩ : ByteArray)).size = 0 := rfl; omega
    have p1 : ¬ (9223372036854775807 < (Q1 ++ S2 ++ (⟨#[125]⟩ : ByteArray)).size + ((⟨#[63]⟩ : ByteArray)).size) := by simp only [ByteArray.size_append]; have h1 := HSz.out; have h3 : ((⟨#[125]⟩ : ByteArray)).size = 1 := rfl; have h2 : ((⟨#[63]⟩ : ByteArray)).size = 1 := rfl; omega
    have p2 : ¬ (9223372036854775807 < (Q1 ++ S2 ++ (⟨#[125]⟩ : ByteArray)).size + ((⟨#[43]⟩ : ByteArray)).size) := by simp only [ByteArray.size_append]; have h1 := HSz.out; have h3 : ((⟨#[125]⟩ : ByteArray)).size = 1 := rfl; have h2 : ((⟨#[43]⟩ : ByteArray)).size = 1 := rfl; omega
    have hw3 := HWy.out
    rcases (by omega : way = 1 ∨ way = 2 ∨ way = 3) with rfl | rfl | rfl
    · have HV := hide (HRR.out ⟨#[]⟩ rfl)
      clear hw3 HRR HWy HSz
      go_wp2
      go_ret
      refine ⟨?_, HB5.out.bel.alloc HB5.out.bel.size _⟩
      rw [HV.out]
      simp [hsz, req]
    · have HV := hide (HRR.out ⟨#[63]⟩ rfl)
      clear hw3 HRR HWy HSz
      go_wp2
      go_ret
      refine ⟨?_, HB5.out.bel.alloc HB5.out.bel.size _⟩
      rw [HV.out]
      simp [hsz, req]
    · have HV := hide (HRR.out ⟨#[43]⟩ rfl)
      clear hw3 HRR HWy HSz
      go_wp2
      go_ret
      refine ⟨?_, HB5.out.bel.alloc HB5.out.bel.size _⟩
      rw [HV.out]
      simp [hsz, req]
  · have HRR := hide (HRn.out hm0)
    have hm1 : most < 0 := by omega
    have a6 := HXa.out _ HB4.out
    clear HD2 HRm HRn
    go_upto_if 31 with fail
    refine wp_cond (t := false) (by simp [Act.eval, hsz]; try omega) ?_
    simp only [Bool.false_eq_true, if_false]
    clear g2 g4 g5 g6
    have p0 : ¬ (9223372036854775807 < (Q1 ++ (⟨#[125]⟩ : ByteArray)).size + ((⟨#[]⟩ : ByteArray)).size) := by simp only [ByteArray.size_append]; have h1 := HSz.out; have h3 : ((⟨#[125]⟩ : ByteArray)).size = 1 := rfl; have h2 : ((⟨#[]⟩ : ByteArray)).size = 0 := rfl; omega
    have p1 : ¬ (9223372036854775807 < (Q1 ++ (⟨#[125]⟩ : ByteArray)).size + ((⟨#[63]⟩ : ByteArray)).size) := by simp only [ByteArray.size_append]; have h1 := HSz.out; have h3 : ((⟨#[125]⟩ : ByteArray)).size = 1 := rfl; have h2 : ((⟨#[63]⟩ : ByteArray)).size = 1 := rfl; omega
    have p2 : ¬ (9223372036854775807 < (Q1 ++ (⟨#[125]⟩ : ByteArray)).size + ((⟨#[43]⟩ : ByteArray)).size) := by simp only [ByteArray.size_append]; have h1 := HSz.out; have h3 : ((⟨#[125]⟩ : ByteArray)).size = 1 := rfl; have h2 : ((⟨#[43]⟩ : ByteArray)).size = 1 := rfl; omega
    have hw3 := HWy.out
    rcases (by omega : way = 1 ∨ way = 2 ∨ way = 3) with rfl | rfl | rfl
    · have HV := hide (HRR.out ⟨#[]⟩ rfl)
      clear hw3 HRR HWy HSz
      go_wp2
      go_ret
      refine ⟨?_, HB4.out.bel.alloc HB4.out.bel.size _⟩
      rw [HV.out]
      simp [hsz, req]
    · have HV := hide (HRR.out ⟨#[63]⟩ rfl)
      clear hw3 HRR HWy HSz
      go_wp2
      go_ret
      refine ⟨?_, HB4.out.bel.alloc HB4.out.bel.size _⟩
      rw [HV.out]
      simp [hsz, req]
    · have HV := hide (HRR.out ⟨#[43]⟩ rfl)
      clear hw3 HRR HWy HSz
      go_wp2
      go_ret
      refine ⟨?_, HB4.out.bel.alloc HB4.out.bel.size _⟩
      rw [HV.out]
      simp [hsz, req]
set_option maxHeartbeats 8000000 in
set_option maxRecDepth 100000 in
theorem ref_rep_12 (w0 : World) (n : NV) (na : Option Addr) (nl nc : Nat) (T : List UInt8) (w : World) (hw0 : Below w0.heap.size w0 w) (v : NV) (x : Addr) (K : List UInt8) (hka : n.ka = some x) (hkl : n.kl = 1) (hc : NCells w0 x v) (hG : RefG w0 (.slice na nl nc) v K) (hle : 0 ≤ n.least ∧ n.least ≤ 100) (hmo : n.most = -1 ∨ (0 ≤ n.most ∧ n.most ≤ 100)) (hwy : 1 ≤ n.way ∧ n.way ≤ 3) (hlen : T.length ≤ 10000000000000) (hT : T = wrapT true K ++ repT n.least n.most n.way) (hvk : v.kind = 12) (hk : n.kind = 12) : Calls Tryd.prog 13 #[nvV n, .slice na nl nc] w fun e w' => e = .returned (.string ⟨T.toArray⟩) ∧ Below w.heap.size w w' := by
  have hmf : ∀ (fn : Fn) (first cap : Array Value) (w : World), (Instr.makeFunc fn first cap).run Tryd.prog w = .ok (.func fn first cap) w := fun _ _ _ _ => rfl
  obtain ⟨w2, hw2⟩ : ∃ w2, w2 = (w.alloc (nvO n)).alloc (.cells #[.slice na nl nc] 32) := ⟨_, rfl⟩
  have hB := Boxes.mk2 n (.slice na nl nc) w
  rw [← hw2] at hB
  obtain ⟨bn, hbn⟩ : ∃ bn, bn = w.heap.size := ⟨_, rfl⟩
  obtain ⟨bm, hbm⟩ : ∃ bm, bm = w.heap.size + 1 := ⟨_, rfl⟩
  rw [← hbm] at hB
  have hB' : Boxes n (.slice na nl nc) w w2 bn bm := by rw [hbn]; exact hB
  clear hB
  have HB := hide hB'
  have HB0 : Hid (Below w0.heap.size w0 w2) := hw0.trans (hB'.bel.mono hw0.size)
  obtain ⟨d0, d1, d2, d3, d4, d5, d6, d7⟩ := nv_cells hB'.bn
  have qm := one_cellW hB'.bm
  rw [hk] at d0
  simp only [nvO] at hw2
  have hKl : (wrapT true K).length ≤ 10000000000000 := by rw [hT, List.length_append] at hlen; omega
  have hK2 : K.length ≤ 10000000000000 := by
    have : K.length ≤ (wrapT true K).length := by unfold wrapT; split <;> simp <;> omega
    omega
  have HKid : Hid (∀ W, Below w0.heap.size w0 W → Boxes n (.slice na nl nc) w W bn bm → Calls Tryd.prog 22 #[.int .i64 0, .bool true, .pointer (some ⟨bn, 0, none⟩), .pointer (some ⟨bm, 0, none⟩)] W fun e w' => e = .returned (.string ⟨(wrapT true K).toArray⟩) ∧ Below W.heap.size W w') := fun W hW hBo => by
    have := kid_any w0 _ n v x 0 (by omega) hka (by rw [Nat.zero_mul, show x.add 0 = x from by cases x; rename_i a b c; cases c <;> rfl]; exact hc) _ hG hK2 true bn bm W hW hBo.bn hBo.bm
    exact this
  obtain ⟨A, hA⟩ : ∃ A, A = wrapT true K := ⟨_, rfl⟩
  rw [← hA] at hT hKl HKid
  obtain ⟨KS, hKS⟩ : ∃ KS : ByteArray, KS = ⟨A.toArray⟩ := ⟨_, rfl⟩
  rw [← hKS] at HKid
  have sK : KS.size ≤ 10000000000000 := by rw [hKS, bA_size]; exact hKl
  obtain ⟨least, hleast⟩ : ∃ q, q = n.least := ⟨_, rfl⟩
  obtain ⟨most, hmost⟩ : ∃ q, q = n.most := ⟨_, rfl⟩
  obtain ⟨way, hway⟩ : ∃ q, q = n.way := ⟨_, rfl⟩
  have HD : Hid (∀ (p : Int) W, 0 ≤ p → p ≤ 100 → Calls Tryd.prog 24 #[.int .i64 p] W fun e w' => e = .returned (.string ⟨(decDigits p.toNat).toArray⟩) ∧ Below W.heap.size W w') := fun p W h0 h1 => by
    have := decimal_any p.toNat (by omega) W
    rw [show ((p.toNat : Nat) : Int) = p by omega] at this
    exact this
  rw [← hleast] at hle hT
  rw [← hmost] at hmo hT
  rw [← hway] at hwy hT
  obtain ⟨S1, hS1⟩ : ∃ S1 : ByteArray, S1 = ⟨(decDigits least.toNat).toArray⟩ := ⟨_, rfl⟩
  obtain ⟨S2, hS2⟩ : ∃ S2 : ByteArray, S2 = ⟨(decDigits most.toNat).toArray⟩ := ⟨_, rfl⟩
  have s1 : S1.size ≤ 101 := by rw [hS1, bA_size]; exact decDigits_small (by omega)
  have s2 : S2.size ≤ 101 := by rw [hS2, bA_size]; exact decDigits_small (by omega)
  have HD1 : Hid (∀ W, Calls Tryd.prog 24 #[.int .i64 least] W fun e w' => e = .returned (.string S1) ∧ Below W.heap.size W w') := fun W => by rw [hS1]; exact HD.out least W hle.1 hle.2
  have HD2 : Hid (0 ≤ most → ∀ W, Calls Tryd.prog 24 #[.int .i64 most] W fun e w' => e = .returned (.string S2) ∧ Below W.heap.size W w') := fun h0 W => by rw [hS2]; exact HD.out most W h0 (by omega)
  have HX : Hid (∀ W, Boxes n (.slice na nl nc) w W bn bm → W.cell? ⟨bn, 2, none⟩ = some (.slice (some x) 1 n.kc) ∧ W.cell? ⟨bn, 4, none⟩ = some (.int .i64 least) ∧ W.cell? ⟨bn, 5, none⟩ = some (.int .i64 most) ∧ W.cell? ⟨bn, 6, none⟩ = some (.int .i64 way)) := fun W hW => by
    have := nv_cells hW.bn
    rw [hleast, hmost, hway]
    refine ⟨?_, this.c4, this.c5, this.c6⟩
    have h2 := this.c2
    rw [hka, hkl] at h2
    exact h2
  have HXa : Hid (∀ W, Boxes n (.slice na nl nc) w W bn bm → ∀ o, (W.alloc o).cell? ⟨bn, 6, none⟩ = some (.int .i64 way)) := fun W hW o => by rw [hway]; exact (nv_cells (at_old hW.bn)).c6
  have k0 := (hc.below HB0.out).c0
  obtain ⟨c2, c4, c5, c6⟩ := HX.out w2 hB'
  clear d1 d2 d3 d4 d5 d6 d7 qm
  have o1 : ((⟨#[123]⟩ : ByteArray)).size = 1 := rfl
  have o2 : ((⟨#[44]⟩ : ByteArray)).size = 1 := rfl
  have o3 : ((⟨#[125]⟩ : ByteArray)).size = 1 := rfl
  obtain ⟨Q1, hQ1⟩ : ∃ Q1, Q1 = KS ++ (⟨#[123]⟩ : ByteArray) ++ S1 ++ (⟨#[44]⟩ : ByteArray) := ⟨_, rfl⟩
  have sQ1 : Q1.size ≤ 10000000001000 := by rw [hQ1]; simp only [ByteArray.size_append]; omega
  have z1 : ¬ (9223372036854775807 < KS.size + ((⟨#[123]⟩ : ByteArray)).size) := by omega
  have z2 : ¬ (9223372036854775807 < (KS ++ (⟨#[123]⟩ : ByteArray)).size + S1.size) := by simp only [ByteArray.size_append]; omega
  have z3 : ¬ (9223372036854775807 < (KS ++ (⟨#[123]⟩ : ByteArray) ++ S1).size + ((⟨#[44]⟩ : ByteArray)).size) := by simp only [ByteArray.size_append]; omega
  have HRs : Hid (∀ (M : List UInt8) (SM : ByteArray) (V : ByteArray), mostT most = M → SM = ⟨M.toArray⟩ → wayS way = V → (⟨T.toArray⟩ : ByteArray) = Q1 ++ SM ++ (⟨#[125]⟩ : ByteArray) ++ V) := fun M SM V h1 h2 h3 => by
    rw [hT, hQ1, h2, hKS, hS1]
    unfold repT
    rw [h1, h3]
    apply ByteArray.ext
    simp only [ByteArray.data_append]
    apply Array.ext'
    simp
  have HQ1 := hide hQ1
  rw [hvk] at k0
  clear hvk
  have HX4 : Hid (∀ W, Boxes n (.slice na nl nc) w W bn bm → W.cell? ⟨bn, 4, none⟩ = some (.int .i64 least)) := fun W hW => (HX.out W hW).2.1
  have z2a : ¬ (9223372036854775807 < KS.size + 1 + S1.size) := by omega
  have z3a : ¬ (9223372036854775807 < KS.size + 1 + S1.size + 1) := by omega
  have z2b : ¬ (9223372036854775807 < KS.size + ((⟨#[123]⟩ : ByteArray)).size + S1.size) := by omega
  have z3b : ¬ (9223372036854775807 < KS.size + ((⟨#[123]⟩ : ByteArray)).size + S1.size + ((⟨#[44]⟩ : ByteArray)).size) := by omega
  have y1 : ¬ (9223372036854775807 < Q1.size + S2.size) := by omega
  have y2 : ¬ (9223372036854775807 < (Q1 ++ S2).size + ((⟨#[125]⟩ : ByteArray)).size) := by rw [ByteArray.size_append]; omega
  have y3 : ¬ (9223372036854775807 < Q1.size + ((⟨#[125]⟩ : ByteArray)).size) := by omega
  have y4 : ¬ (9223372036854775807 < Q1.size + S2.size + 1) := by omega
  have y5 : ¬ (9223372036854775807 < Q1.size + S2.size + 1 + 1) := by omega
  have y6 : ¬ (9223372036854775807 < Q1.size + S2.size + 2) := by omega
  have y7 : ¬ (9223372036854775807 < Q1.size + 1) := by omega
  have y8 : ¬ (9223372036854775807 < Q1.size + 1 + 1) := by omega
  have y9 : ¬ (9223372036854775807 < Q1.size + 2) := by omega
  have HRm : Hid (0 ≤ most → ∀ V, wayS way = V → (⟨T.toArray⟩ : ByteArray) = Q1 ++ S2 ++ (⟨#[125]⟩ : ByteArray) ++ V) := fun h0 V hV => HRs.out _ S2 V (by unfold mostT; rw [if_pos h0]) hS2 hV
  have HRn : Hid (¬ 0 ≤ most → ∀ V, wayS way = V → (⟨T.toArray⟩ : ByteArray) = Q1 ++ (⟨#[125]⟩ : ByteArray) ++ V) := fun h0 V hV => by
    have := HRs.out [] ⟨#[]⟩ V (by unfold mostT; rw [if_neg h0]) rfl hV
    rw [this]
    apply ByteArray.ext
    simp only [ByteArray.data_append]
    apply Array.ext'
    simp
  obtain ⟨RT, hRT⟩ : ∃ RT : ByteArray, RT = ⟨T.toArray⟩ := ⟨_, rfl⟩
  rw [← hRT] at HRm HRn ⊢
  have HWy := hide hwy
  have HSz : Hid (Q1.size ≤ 10000000001000 ∧ S2.size ≤ 101) := ⟨sQ1, s2⟩
  clear hka hkl hc hG hle hmo hwy hlen hT hKl hK2 hA hKS hleast hmost hway hS1 hS2 hQ1 HD HRs hRT sK s1 s2 sQ1 o1 o2 o3
  clear hB' hw0 hk
  go_enter Tryd.func13, Tryd.ntmps13
  go_upto_region 1 with fail
  rw [← hw2, ← hbm, ← hbn]
  clear hw2 hbm hbn
  go_upto_region 30 with fail
  refine wp_afterW (reg30_12 HB.out HB0.out HX4.out HKid HD1 z1 z2 z3 z2a z3a z2b z3b) ?_
  rintro a4 w4 ⟨A', rfl, hsz, h2, h6, hB4, hB04⟩
  rw [← HQ1.out] at h6
  have HB4 := hide hB4
  have HB04 := hide hB04
  have rne := get_neW
  have req := get_eqW
  obtain ⟨g2, g4, g5, g6⟩ := HX.out _ hB4
  clear hB4 hB04 c2 c4 c5 c6 k0 d0 HB HB0 z1 z2 z3 z2a z3a z2b z3b HKid HD1 HX4 HQ1
  by_cases hm0 : 0 ≤ most
  · have HDm := hide (HD2.out hm0)
    have HRR := hide (HRm.out hm0)
    clear HD2 HRm HRn
    go_upto_if 31 with fail
    refine wp_cond (t := true) (by simp [Act.eval, hsz]) ?_
    simp only [if_true]
    go_wp2_with fail
    refine (HDm.out w4).mono ?_
    rintro e w5 ⟨rfl, hb5⟩
    have HB5 := hide (HB4.out.keep hb5)
    have a6 := HXa.out _ HB5.out
    clear hb5 g2 g4 g5 g6 HDm
    have p0 : ¬ (9223372036854775807 < (Q1 ++ S2 ++ (⟨#[125]⟩ : ByteArray)).size + ((⟨#[]⟩ : ByteArray)).size) := by simp only [ByteArray.size_append]; have h1 := HSz.out; have h3 : ((⟨#[125]⟩ : ByteArray)).size = 1 := rfl; have h2 : ((⟨#[]⟩ : ByteArray)).size = 0 := rfl; omega
    have p1 : ¬ (9223372036854775807 < (Q1 ++ S2 ++ (⟨#[125]⟩ : ByteArray)).size + ((⟨#[63]⟩ : ByteArray)).size) := by simp only [ByteArray.size_append]; have h1 := HSz.out; have h3 : ((⟨#[125]⟩ : ByteArray)).size = 1 := rfl; have h2 : ((⟨#[63]⟩ : ByteArray)).size = 1 := rfl; omega
    have p2 : ¬ (9223372036854775807 < (Q1 ++ S2 ++ (⟨#[125]⟩ : ByteArray)).size + ((⟨#[43]⟩ : ByteArray)).size) := by simp only [ByteArray.size_append]; have h1 := HSz.out; have h3 : ((⟨#[125]⟩ : ByteArray)).size = 1 := rfl; have h2 : ((⟨#[43]⟩ : ByteArray)).size = 1 := rfl; omega
    have hw3 := HWy.out
    rcases (by omega : way = 1 ∨ way = 2 ∨ way = 3) with rfl | rfl | rfl
    · have HV := hide (HRR.out ⟨#[]⟩ rfl)
      clear hw3 HRR HWy HSz
      go_wp2
      go_ret
      refine ⟨?_, HB5.out.bel.alloc HB5.out.bel.size _⟩
      rw [HV.out]
      simp [hsz, req]
    · have HV := hide (HRR.out ⟨#[63]⟩ rfl)
      clear hw3 HRR HWy HSz
      go_wp2
      go_ret
      refine ⟨?_, HB5.out.bel.alloc HB5.out.bel.size _⟩
      rw [HV.out]
      simp [hsz, req]
    · have HV := hide (HRR.out ⟨#[43]⟩ rfl)
      clear hw3 HRR HWy HSz
      go_wp2
      go_ret
      refine ⟨?_, HB5.out.bel.alloc HB5.out.bel.size _⟩
      rw [HV.out]
      simp [hsz, req]
  · have HRR := hide (HRn.out hm0)
    have hm1 : most < 0 := by omega
    have a6 := HXa.out _ HB4.out
    clear HD2 HRm HRn
    go_upto_if 31 with fail
    refine wp_cond (t := false) (by simp [Act.eval, hsz]; try omega) ?_
    simp only [Bool.false_eq_true, if_false]
    clear g2 g4 g5 g6
    have p0 : ¬ (9223372036854775807 < (Q1 ++ (⟨#[125]⟩ : ByteArray)).size + ((⟨#[]⟩ : ByteArray)).size) := by simp only [ByteArray.size_append]; have h1 := HSz.out; have h3 : ((⟨#[125]⟩ : ByteArray)).size = 1 := rfl; have h2 : ((⟨#[]⟩ : ByteArray)).size = 0 := rfl; omega
    have p1 : ¬ (9223372036854775807 < (Q1 ++ (⟨#[125]⟩ : ByteArray)).size + ((⟨#[63]⟩ : ByteArray)).size) := by simp only [ByteArray.size_append]; have h1 := HSz.out; have h3 : ((⟨#[125]⟩ : ByteArray)).size = 1 := rfl; have h2 : ((⟨#[63]⟩ : ByteArray)).size = 1 := rfl; omega
    have p2 : ¬ (9223372036854775807 < (Q1 ++ (⟨#[125]⟩ : ByteArray)).size + ((⟨#[43]⟩ : ByteArray)).size) := by simp only [ByteArray.size_append]; have h1 := HSz.out; have h3 : ((⟨#[125]⟩ : ByteArray)).size = 1 := rfl; have h2 : ((⟨#[43]⟩ : ByteArray)).size = 1 := rfl; omega
    have hw3 := HWy.out
    rcases (by omega : way = 1 ∨ way = 2 ∨ way = 3) with rfl | rfl | rfl
    · have HV := hide (HRR.out ⟨#[]⟩ rfl)
      clear hw3 HRR HWy HSz
      go_wp2
      go_ret
      refine ⟨?_, HB4.out.bel.alloc HB4.out.bel.size _⟩
      rw [HV.out]
      simp [hsz, req]
    · have HV := hide (HRR.out ⟨#[63]⟩ rfl)
      clear hw3 HRR HWy HSz
      go_wp2
      go_ret
      refine ⟨?_, HB4.out.bel.alloc HB4.out.bel.size _⟩
      rw [HV.out]
      simp [hsz, req]
    · have HV := hide (HRR.out ⟨#[43]⟩ rfl)
      clear hw3 HRR HWy HSz
      go_wp2
      go_ret
      refine ⟨?_, HB4.out.bel.alloc HB4.out.bel.size _⟩
      rw [HV.out]
      simp [hsz, req]
set_option maxHeartbeats 8000000 in
set_option maxRecDepth 100000 in
theorem ref_rep_n (w0 : World) (n : NV) (na : Option Addr) (nl nc : Nat) (T : List UInt8) (w : World) (hw0 : Below w0.heap.size w0 w) (v : NV) (x : Addr) (K : List UInt8) (hka : n.ka = some x) (hkl : n.kl = 1) (hc : NCells w0 x v) (hG : RefG w0 (.slice na nl nc) v K) (hle : 0 ≤ n.least ∧ n.least ≤ 100) (hmo : n.most = -1 ∨ (0 ≤ n.most ∧ n.most ≤ 100)) (hwy : 1 ≤ n.way ∧ n.way ≤ 3) (hlen : T.length ≤ 10000000000000) (hT : T = wrapT false K ++ repT n.least n.most n.way) (hv9 : v.kind ≠ 9) (hv10 : v.kind ≠ 10) (hv12 : v.kind ≠ 12) (hk : n.kind = 12) : Calls Tryd.prog 13 #[nvV n, .slice na nl nc] w fun e w' => e = .returned (.string ⟨T.toArray⟩) ∧ Below w.heap.size w w' := by
  have hmf : ∀ (fn : Fn) (first cap : Array Value) (w : World), (Instr.makeFunc fn first cap).run Tryd.prog w = .ok (.func fn first cap) w := fun _ _ _ _ => rfl
  obtain ⟨w2, hw2⟩ : ∃ w2, w2 = (w.alloc (nvO n)).alloc (.cells #[.slice na nl nc] 32) := ⟨_, rfl⟩
  have hB := Boxes.mk2 n (.slice na nl nc) w
  rw [← hw2] at hB
  obtain ⟨bn, hbn⟩ : ∃ bn, bn = w.heap.size := ⟨_, rfl⟩
  obtain ⟨bm, hbm⟩ : ∃ bm, bm = w.heap.size + 1 := ⟨_, rfl⟩
  rw [← hbm] at hB
  have hB' : Boxes n (.slice na nl nc) w w2 bn bm := by rw [hbn]; exact hB
  clear hB
  have HB := hide hB'
  have HB0 : Hid (Below w0.heap.size w0 w2) := hw0.trans (hB'.bel.mono hw0.size)
  obtain ⟨d0, d1, d2, d3, d4, d5, d6, d7⟩ := nv_cells hB'.bn
  have qm := one_cellW hB'.bm
  rw [hk] at d0
  simp only [nvO] at hw2
  have hKl : (wrapT false K).length ≤ 10000000000000 := by rw [hT, List.length_append] at hlen; omega
  have hK2 : K.length ≤ 10000000000000 := by
    have : K.length ≤ (wrapT false K).length := by unfold wrapT; split <;> simp <;> omega
    omega
  have HKid : Hid (∀ W, Below w0.heap.size w0 W → Boxes n (.slice na nl nc) w W bn bm → Calls Tryd.prog 22 #[.int .i64 0, .bool false, .pointer (some ⟨bn, 0, none⟩), .pointer (some ⟨bm, 0, none⟩)] W fun e w' => e = .returned (.string ⟨(wrapT false K).toArray⟩) ∧ Below W.heap.size W w') := fun W hW hBo => by
    have := kid_any w0 _ n v x 0 (by omega) hka (by rw [Nat.zero_mul, show x.add 0 = x from by cases x; rename_i a b c; cases c <;> rfl]; exact hc) _ hG hK2 false bn bm W hW hBo.bn hBo.bm
    exact this
  obtain ⟨A, hA⟩ : ∃ A, A = wrapT false K := ⟨_, rfl⟩
  rw [← hA] at hT hKl HKid
  obtain ⟨KS, hKS⟩ : ∃ KS : ByteArray, KS = ⟨A.toArray⟩ := ⟨_, rfl⟩
  rw [← hKS] at HKid
  have sK : KS.size ≤ 10000000000000 := by rw [hKS, bA_size]; exact hKl
  obtain ⟨least, hleast⟩ : ∃ q, q = n.least := ⟨_, rfl⟩
  obtain ⟨most, hmost⟩ : ∃ q, q = n.most := ⟨_, rfl⟩
  obtain ⟨way, hway⟩ : ∃ q, q = n.way := ⟨_, rfl⟩
  have HD : Hid (∀ (p : Int) W, 0 ≤ p → p ≤ 100 → Calls Tryd.prog 24 #[.int .i64 p] W fun e w' => e = .returned (.string ⟨(decDigits p.toNat).toArray⟩) ∧ Below W.heap.size W w') := fun p W h0 h1 => by
    have := decimal_any p.toNat (by omega) W
    rw [show ((p.toNat : Nat) : Int) = p by omega] at this
    exact this
  rw [← hleast] at hle hT
  rw [← hmost] at hmo hT
  rw [← hway] at hwy hT
  obtain ⟨S1, hS1⟩ : ∃ S1 : ByteArray, S1 = ⟨(decDigits least.toNat).toArray⟩ := ⟨_, rfl⟩
  obtain ⟨S2, hS2⟩ : ∃ S2 : ByteArray, S2 = ⟨(decDigits most.toNat).toArray⟩ := ⟨_, rfl⟩
  have s1 : S1.size ≤ 101 := by rw [hS1, bA_size]; exact decDigits_small (by omega)
  have s2 : S2.size ≤ 101 := by rw [hS2, bA_size]; exact decDigits_small (by omega)
  have HD1 : Hid (∀ W, Calls Tryd.prog 24 #[.int .i64 least] W fun e w' => e = .returned (.string S1) ∧ Below W.heap.size W w') := fun W => by rw [hS1]; exact HD.out least W hle.1 hle.2
  have HD2 : Hid (0 ≤ most → ∀ W, Calls Tryd.prog 24 #[.int .i64 most] W fun e w' => e = .returned (.string S2) ∧ Below W.heap.size W w') := fun h0 W => by rw [hS2]; exact HD.out most W h0 (by omega)
  have HX : Hid (∀ W, Boxes n (.slice na nl nc) w W bn bm → W.cell? ⟨bn, 2, none⟩ = some (.slice (some x) 1 n.kc) ∧ W.cell? ⟨bn, 4, none⟩ = some (.int .i64 least) ∧ W.cell? ⟨bn, 5, none⟩ = some (.int .i64 most) ∧ W.cell? ⟨bn, 6, none⟩ = some (.int .i64 way)) := fun W hW => by
    have := nv_cells hW.bn
    rw [hleast, hmost, hway]
    refine ⟨?_, this.c4, this.c5, this.c6⟩
    have h2 := this.c2
    rw [hka, hkl] at h2
    exact h2
  have HXa : Hid (∀ W, Boxes n (.slice na nl nc) w W bn bm → ∀ o, (W.alloc o).cell? ⟨bn, 6, none⟩ = some (.int .i64 way)) := fun W hW o => by rw [hway]; exact (nv_cells (at_old hW.bn)).c6
  have k0 := (hc.below HB0.out).c0
  obtain ⟨c2, c4, c5, c6⟩ := HX.out w2 hB'
  clear d1 d2 d3 d4 d5 d6 d7 qm
  have o1 : ((⟨#[123]⟩ : ByteArray)).size = 1 := rfl
  have o2 : ((⟨#[44]⟩ : ByteArray)).size = 1 := rfl
  have o3 : ((⟨#[125]⟩ : ByteArray)).size = 1 := rfl
  obtain ⟨Q1, hQ1⟩ : ∃ Q1, Q1 = KS ++ (⟨#[123]⟩ : ByteArray) ++ S1 ++ (⟨#[44]⟩ : ByteArray) := ⟨_, rfl⟩
  have sQ1 : Q1.size ≤ 10000000001000 := by rw [hQ1]; simp only [ByteArray.size_append]; omega
  have z1 : ¬ (9223372036854775807 < KS.size + ((⟨#[123]⟩ : ByteArray)).size) := by omega
  have z2 : ¬ (9223372036854775807 < (KS ++ (⟨#[123]⟩ : ByteArray)).size + S1.size) := by simp only [ByteArray.size_append]; omega
  have z3 : ¬ (9223372036854775807 < (KS ++ (⟨#[123]⟩ : ByteArray) ++ S1).size + ((⟨#[44]⟩ : ByteArray)).size) := by simp only [ByteArray.size_append]; omega
  have HRs : Hid (∀ (M : List UInt8) (SM : ByteArray) (V : ByteArray), mostT most = M → SM = ⟨M.toArray⟩ → wayS way = V → (⟨T.toArray⟩ : ByteArray) = Q1 ++ SM ++ (⟨#[125]⟩ : ByteArray) ++ V) := fun M SM V h1 h2 h3 => by
    rw [hT, hQ1, h2, hKS, hS1]
    unfold repT
    rw [h1, h3]
    apply ByteArray.ext
    simp only [ByteArray.data_append]
    apply Array.ext'
    simp
  have HQ1 := hide hQ1
  obtain ⟨kd, hkd⟩ : ∃ kd, kd = v.kind := ⟨_, rfl⟩
  rw [← hkd] at k0 hv9 hv10 hv12
  have b9 : (kd == 9) = false := by simpa using hv9
  have b10 : (kd == 10) = false := by simpa using hv10
  have b12 : (kd == 12) = false := by simpa using hv12
  clear hkd hv9 hv10 hv12
  have HX4 : Hid (∀ W, Boxes n (.slice na nl nc) w W bn bm → W.cell? ⟨bn, 4, none⟩ = some (.int .i64 least)) := fun W hW => (HX.out W hW).2.1
  have z2a : ¬ (9223372036854775807 < KS.size + 1 + S1.size) := by omega
  have z3a : ¬ (9223372036854775807 < KS.size + 1 + S1.size + 1) := by omega
  have z2b : ¬ (9223372036854775807 < KS.size + ((⟨#[123]⟩ : ByteArray)).size + S1.size) := by omega
  have z3b : ¬ (9223372036854775807 < KS.size + ((⟨#[123]⟩ : ByteArray)).size + S1.size + ((⟨#[44]⟩ : ByteArray)).size) := by omega
  have y1 : ¬ (9223372036854775807 < Q1.size + S2.size) := by omega
  have y2 : ¬ (9223372036854775807 < (Q1 ++ S2).size + ((⟨#[125]⟩ : ByteArray)).size) := by rw [ByteArray.size_append]; omega
  have y3 : ¬ (9223372036854775807 < Q1.size + ((⟨#[125]⟩ : ByteArray)).size) := by omega
  have y4 : ¬ (9223372036854775807 < Q1.size + S2.size + 1) := by omega
  have y5 : ¬ (9223372036854775807 < Q1.size + S2.size + 1 + 1) := by omega
  have y6 : ¬ (9223372036854775807 < Q1.size + S2.size + 2) := by omega
  have y7 : ¬ (9223372036854775807 < Q1.size + 1) := by omega
  have y8 : ¬ (9223372036854775807 < Q1.size + 1 + 1) := by omega
  have y9 : ¬ (9223372036854775807 < Q1.size + 2) := by omega
  have HRm : Hid (0 ≤ most → ∀ V, wayS way = V → (⟨T.toArray⟩ : ByteArray) = Q1 ++ S2 ++ (⟨#[125]⟩ : ByteArray) ++ V) := fun h0 V hV => HRs.out _ S2 V (by unfold mostT; rw [if_pos h0]) hS2 hV
  have HRn : Hid (¬ 0 ≤ most → ∀ V, wayS way = V → (⟨T.toArray⟩ : ByteArray) = Q1 ++ (⟨#[125]⟩ : ByteArray) ++ V) := fun h0 V hV => by
    have := HRs.out [] ⟨#[]⟩ V (by unfold mostT; rw [if_neg h0]) rfl hV
    rw [this]
    apply ByteArray.ext
    simp only [ByteArray.data_append]
    apply Array.ext'
    simp
  obtain ⟨RT, hRT⟩ : ∃ RT : ByteArray, RT = ⟨T.toArray⟩ := ⟨_, rfl⟩
  rw [← hRT] at HRm HRn ⊢
  have HWy := hide hwy
  have HSz : Hid (Q1.size ≤ 10000000001000 ∧ S2.size ≤ 101) := ⟨sQ1, s2⟩
  clear hka hkl hc hG hle hmo hwy hlen hT hKl hK2 hA hKS hleast hmost hway hS1 hS2 hQ1 HD HRs hRT sK s1 s2 sQ1 o1 o2 o3
  clear hB' hw0 hk
  go_enter Tryd.func13, Tryd.ntmps13
  go_upto_region 1 with fail
  rw [← hw2, ← hbm, ← hbn]
  clear hw2 hbm hbn
  go_upto_region 30 with fail
  refine wp_afterW (reg30_n b9 b10 b12 HB.out HB0.out HX4.out HKid HD1 z1 z2 z3 z2a z3a z2b z3b) ?_
  rintro a4 w4 ⟨A', rfl, hsz, h2, h6, hB4, hB04⟩
  rw [← HQ1.out] at h6
  have HB4 := hide hB4
  have HB04 := hide hB04
  have rne := get_neW
  have req := get_eqW
  obtain ⟨g2, g4, g5, g6⟩ := HX.out _ hB4
  clear hB4 hB04 c2 c4 c5 c6 k0 d0 HB HB0 z1 z2 z3 z2a z3a z2b z3b HKid HD1 HX4 HQ1
  by_cases hm0 : 0 ≤ most
  · have HDm := hide (HD2.out hm0)
    have HRR := hide (HRm.out hm0)
    clear HD2 HRm HRn
    go_upto_if 31 with fail
    refine wp_cond (t := true) (by simp [Act.eval, hsz]) ?_
    simp only [if_true]
    go_wp2_with fail
    refine (HDm.out w4).mono ?_
    rintro e w5 ⟨rfl, hb5⟩
    have HB5 := hide (HB4.out.keep hb5)
    have a6 := HXa.out _ HB5.out
    clear hb5 g2 g4 g5 g6 HDm
    have p0 : ¬ (9223372036854775807 < (Q1 ++ S2 ++ (⟨#[125]⟩ : ByteArray)).size + ((⟨#[]⟩ : ByteArray)).size) := by simp only [ByteArray.size_append]; have h1 := HSz.out; have h3 : ((⟨#[125]⟩ : ByteArray)).size = 1 := rfl; have h2 : ((⟨#[]⟩ : ByteArray)).size = 0 := rfl; omega
    have p1 : ¬ (9223372036854775807 < (Q1 ++ S2 ++ (⟨#[125]⟩ : ByteArray)).size + ((⟨#[63]⟩ : ByteArray)).size) := by simp only [ByteArray.size_append]; have h1 := HSz.out; have h3 : ((⟨#[125]⟩ : ByteArray)).size = 1 := rfl; have h2 : ((⟨#[63]⟩ : ByteArray)).size = 1 := rfl; omega
    have p2 : ¬ (9223372036854775807 < (Q1 ++ S2 ++ (⟨#[125]⟩ : ByteArray)).size + ((⟨#[43]⟩ : ByteArray)).size) := by simp only [ByteArray.size_append]; have h1 := HSz.out; have h3 : ((⟨#[125]⟩ : ByteArray)).size = 1 := rfl; have h2 : ((⟨#[43]⟩ : ByteArray)).size = 1 := rfl; omega
    have hw3 := HWy.out
    rcases (by omega : way = 1 ∨ way = 2 ∨ way = 3) with rfl | rfl | rfl
    · have HV := hide (HRR.out ⟨#[]⟩ rfl)
      clear hw3 HRR HWy HSz
      go_wp2
      go_ret
      refine ⟨?_, HB5.out.bel.alloc HB5.out.bel.size _⟩
      rw [HV.out]
      simp [hsz, req]
    · have HV := hide (HRR.out ⟨#[63]⟩ rfl)
      clear hw3 HRR HWy HSz
      go_wp2
      go_ret
      refine ⟨?_, HB5.out.bel.alloc HB5.out.bel.size _⟩
      rw [HV.out]
      simp [hsz, req]
    · have HV := hide (HRR.out ⟨#[43]⟩ rfl)
      clear hw3 HRR HWy HSz
      go_wp2
      go_ret
      refine ⟨?_, HB5.out.bel.alloc HB5.out.bel.size _⟩
      rw [HV.out]
      simp [hsz, req]
  · have HRR := hide (HRn.out hm0)
    have hm1 : most < 0 := by omega
    have a6 := HXa.out _ HB4.out
    clear HD2 HRm HRn
    go_upto_if 31 with fail
    refine wp_cond (t := false) (by simp [Act.eval, hsz]; try omega) ?_
    simp only [Bool.false_eq_true, if_false]
    clear g2 g4 g5 g6
    have p0 : ¬ (9223372036854775807 < (Q1 ++ (⟨#[125]⟩ : ByteArray)).size + ((⟨#[]⟩ : ByteArray)).size) := by simp only [ByteArray.size_append]; have h1 := HSz.out; have h3 : ((⟨#[125]⟩ : ByteArray)).size = 1 := rfl; have h2 : ((⟨#[]⟩ : ByteArray)).size = 0 := rfl; omega
    have p1 : ¬ (9223372036854775807 < (Q1 ++ (⟨#[125]⟩ : ByteArray)).size + ((⟨#[63]⟩ : ByteArray)).size) := by simp only [ByteArray.size_append]; have h1 := HSz.out; have h3 : ((⟨#[125]⟩ : ByteArray)).size = 1 := rfl; have h2 : ((⟨#[63]⟩ : ByteArray)).size = 1 := rfl; omega
    have p2 : ¬ (9223372036854775807 < (Q1 ++ (⟨#[125]⟩ : ByteArray)).size + ((⟨#[43]⟩ : ByteArray)).size) := by simp only [ByteArray.size_append]; have h1 := HSz.out; have h3 : ((⟨#[125]⟩ : ByteArray)).size = 1 := rfl; have h2 : ((⟨#[43]⟩ : ByteArray)).size = 1 := rfl; omega
    have hw3 := HWy.out
    rcases (by omega : way = 1 ∨ way = 2 ∨ way = 3) with rfl | rfl | rfl
    · have HV := hide (HRR.out ⟨#[]⟩ rfl)
      clear hw3 HRR HWy HSz
      go_wp2
      go_ret
      refine ⟨?_, HB4.out.bel.alloc HB4.out.bel.size _⟩
      rw [HV.out]
      simp [hsz, req]
    · have HV := hide (HRR.out ⟨#[63]⟩ rfl)
      clear hw3 HRR HWy HSz
      go_wp2
      go_ret
      refine ⟨?_, HB4.out.bel.alloc HB4.out.bel.size _⟩
      rw [HV.out]
      simp [hsz, req]
    · have HV := hide (HRR.out ⟨#[43]⟩ rfl)
      clear hw3 HRR HWy HSz
      go_wp2
      go_ret
      refine ⟨?_, HB4.out.bel.alloc HB4.out.bel.size _⟩
      rw [HV.out]
      simp [hsz, req]
theorem ref_repeat (w0 : World) (n : NV) (na : Option Addr) (nl nc : Nat) (T : List UInt8) (w : World) (hw0 : Below w0.heap.size w0 w) (v : NV) (x : Addr) (K : List UInt8) (hka : n.ka = some x) (hkl : n.kl = 1) (hc : NCells w0 x v) (hG : RefG w0 (.slice na nl nc) v K) (hle : 0 ≤ n.least ∧ n.least ≤ 100) (hmo : n.most = -1 ∨ (0 ≤ n.most ∧ n.most ≤ 100)) (hwy : 1 ≤ n.way ∧ n.way ≤ 3) (hlen : T.length ≤ 10000000000000) (hT : T = wrapT (aloneB v.kind) K ++ repT n.least n.most n.way) (hk : n.kind = 12) : Calls Tryd.prog 13 #[nvV n, .slice na nl nc] w fun e w' => e = .returned (.string ⟨T.toArray⟩) ∧ Below w.heap.size w w' := by
  by_cases h9 : v.kind = 9
  · rw [show aloneB v.kind = true by rw [h9]; rfl] at hT
    exact ref_rep_9 w0 n na nl nc T w hw0 v x K hka hkl hc hG hle hmo hwy hlen hT h9 hk
  by_cases h10 : v.kind = 10
  · rw [show aloneB v.kind = true by rw [h10]; rfl] at hT
    exact ref_rep_10 w0 n na nl nc T w hw0 v x K hka hkl hc hG hle hmo hwy hlen hT h10 hk
  by_cases h12 : v.kind = 12
  · rw [show aloneB v.kind = true by rw [h12]; rfl] at hT
    exact ref_rep_12 w0 n na nl nc T w hw0 v x K hka hkl hc hG hle hmo hwy hlen hT h12 hk
  rw [show aloneB v.kind = false by unfold aloneB; simp [h9, h10, h12]] at hT
  exact ref_rep_n w0 n na nl nc T w hw0 v x K hka hkl hc hG hle hmo hwy hlen hT h9 h10 h12 hk

end Go.Proofs.YtpcohmbipbiglaaDoor
