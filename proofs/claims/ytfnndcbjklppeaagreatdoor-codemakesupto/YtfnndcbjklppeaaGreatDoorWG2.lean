import Derived.Test.YtfnndcbjklppeaaGreatDoorWC2
import Derived.Test.YtfnndcbjklppeaaGreatDoorWD2
import Derived.Test.YtfnndcbjklppeaaGreatDoorWE2
import Derived.Test.YtfnndcbjklppeaaGreatDoorWF2
import Derived.LoopN
set_option maxHeartbeats 8000000
set_option maxRecDepth 1000000
set_option linter.unusedVariables false
open Go.Proofs.Tryz
namespace Go.Proofs.YtfnndcbjklppeaaGreatDoor
open Go.RowKit Go.PlainAid
variable {K' K : Act → World → Prop} {x : Addr} {ol oc : Nat} {g c : Int} {kb : Nat} {w : World} {R : Int} {o : OpV} {S : RL} {j : Nat} {w5 : World} {c9 c10 c11 c12 c13 c14 c15 c16 c17 c18 c19 c20 c21 c22 c23 c24 c25 c26 c27 c28 c29 c30 c31 c184 c185 c186 c187 c188 c189 c190 c191 c192 c193 c194 c195 c196 c197 c198 c199 c200 c201 c202 u2 u4 u5 u6 u7 u8 u32 u33 u34 u35 u36 u37 u38 u39 u40 u41 u42 u43 u44 u45 u46 u47 u48 u49 u50 u51 u52 u53 u54 u55 u56 u57 u58 u59 u60 u61 u62 u63 u64 u65 u66 u67 u68 u69 u70 u71 u72 u73 u74 u75 u76 u77 u78 u79 u80 u81 u82 u83 u84 u85 u86 u87 u88 u89 u90 u91 u92 u93 u94 u95 u96 u97 u98 u99 u100 u101 u102 u103 u104 u105 u106 u107 u108 u109 u110 u111 u112 u113 u114 u115 u116 u117 u118 u119 u120 u121 u122 u123 u124 u125 u126 u127 u128 u129 u130 u131 u132 u133 u134 u135 u136 u137 u138 u139 u140 u141 u142 u143 u144 u145 u146 u147 u148 u149 u150 u151 u152 u153 u154 u155 u156 u157 u158 u159 u160 u161 u162 u163 u164 u165 u166 u167 u168 u169 u170 u171 u172 u173 u174 u175 u176 u177 u178 u179 u180 u181 u182 u183 : Value}
theorem rnd_none(hd:¬(1≤o.dn∧o.dn≤15))(hX:w5.heap[kb]? =some (prO (some x) ol oc g c))(hB:Below w.heap.size w w5)(hO:OCells w5 (x.add (j*8)) o)(hS:Reads w5 (.slice o.sa o.sl o.sc) S)(hj:(j:Int)<(ol:Int))(hoc:ol≤9223372036854775807)(hK:CpK K' x ol oc g c kb j w w5 o S c9 c10 c11 c12 c13 c14 c15 c16 c17 c18 c19 c20 c21 c22 c23 c24 c25 c26 c27 c28 c29 c30 c31 c184 c185 c186 c187 c188 c189 c190 c191 c192 c193 c194 c195 c196 c197 c198 c199 c200 c201 c202)(hR:opE ol g c (o,S)≠0→R=opE ol g c (o,S)):CpW K' K w R (cpF (some x) ol oc g c kb j c9 c10 c11 c12 c13 c14 c15 c16 c17 c18 c19 c20 c21 c22 c23 c24 c25 c26 c27 c28 c29 c30 c31 c184 c185 c186 c187 c188 c189 c190 c191 c192 c193 c194 c195 c196 c197 c198 c199 c200 c201 c202 u2 u4 u5 u6 u7 u8 u32 u33 u34 u35 u36 u37 u38 u39 u40 u41 u42 u43 u44 u45 u46 u47 u48 u49 u50 u51 u52 u53 u54 u55 u56 u57 u58 u59 u60 u61 u62 u63 u64 u65 u66 u67 u68 u69 u70 u71 u72 u73 u74 u75 u76 u77 u78 u79 u80 u81 u82 u83 u84 u85 u86 u87 u88 u89 u90 u91 u92 u93 u94 u95 u96 u97 u98 u99 u100 u101 u102 u103 u104 u105 u106 u107 u108 u109 u110 u111 u112 u113 u114 u115 u116 u117 u118 u119 u120 u121 u122 u123 u124 u125 u126 u127 u128 u129 u130 u131 u132 u133 u134 u135 u136 u137 u138 u139 u140 u141 u142 u143 u144 u145 u146 u147 u148 u149 u150 u151 u152 u153 u154 u155 u156 u157 u158 u159 u160 u161 u162 u163 u164 u165 u166 u167 u168 u169 u170 u171 u172 u173 u174 u175 u176 u177 u178 u179 u180 u181 u182 u183) w5:=by
 obtain⟨dn,sa,sl,sc,to,other,kind,least,fold,back⟩:=o
 simp only at hd hS
 obtain⟨d0,d1,d2,d3,d4,d5,d6,d7⟩:=hO
 simp only at d0 d1 d2 d3 d4 d5 d6 d7
 obtain⟨p0,p1,p2⟩:=pr_cells hX
 have hjw:IntKind.i64.wrap ((j:Int)+1)=(j:Int)+1:=by rw[IntKind.wrap_i64];omega
 have e4:(0:Int)≤(j:Int):=by omega
 obtain⟨w6,hw6,hB6,hbx⟩:=newOp w5 ⟨dn,sa,sl,sc,to,other,kind,least,fold,back⟩
 have H6:=hide (RK.mk hB6 (hB.andT hB6) hbx ((hB6.block _ (lt_of_block hX)).trans hX) (hS.below hB6))
 have HK:=hide hK
 have HR:=hide hR
 simp only[opO]at hw6
 clear hK hR hB hX hB6 hbx hS
 unfold CpW cpF
 conv=>arg 2;whnf
 simp only[List.append_eq,List.cons_append,List.nil_append]
 go_upto_region 9 with fail
 rw[← hw6]
 clear hw6 d0 d1 d2 d3 d4 d5 d6 d7 p0 p1 p2
 obtain⟨⟨b0,b1,b2,b3,b4,b5,b6,b7⟩,p0,p1,p2⟩:=RK.cells H6
 have HE:Hid (R=7):=rE HR (opE_none (fvOf_none hd)) (by decide)
 have HC:Hid (Calls prog 15 #[.int .i64 dn] w6 fun e w'=>e=.returned (.string ⟨#[45]⟩)∧Below w6.heap.size w6 w'):=by
  have:=uses_any dn w6
  unfold usesB at this
  rw[if_neg hd]at this
  exact this
 clear hd
 go_wp2_with fail
 refine HC.out.mono ?_
 rintro e w7 ⟨rfl,hb⟩
 have H7:=RK.next H6 hb
 clear HC b0 b1 b2 b3 b4 b5 b6 b7 p0 p1 p2 hb H6
 have hcmp:((⟨#[45]⟩:ByteArray).toList==(⟨#[45]⟩:ByteArray).toList)=true:=by simp
 go_wp2
 go_ret
 exact rF HE rfl H7.out.bb
theorem rnd_any(hX:w5.heap[kb]? =some (prO (some x) ol oc g c))(hB:Below w.heap.size w w5)(hO:OCells w5 (x.add (j*8)) o)(hS:Reads w5 (.slice o.sa o.sl o.sc) S)(hj:(j:Int)<(ol:Int))(hoc:ol≤9223372036854775807)(hK:CpK K' x ol oc g c kb j w w5 o S c9 c10 c11 c12 c13 c14 c15 c16 c17 c18 c19 c20 c21 c22 c23 c24 c25 c26 c27 c28 c29 c30 c31 c184 c185 c186 c187 c188 c189 c190 c191 c192 c193 c194 c195 c196 c197 c198 c199 c200 c201 c202)(hR:opE ol g c (o,S)≠0→R=opE ol g c (o,S)):CpW K' K w R (cpF (some x) ol oc g c kb j c9 c10 c11 c12 c13 c14 c15 c16 c17 c18 c19 c20 c21 c22 c23 c24 c25 c26 c27 c28 c29 c30 c31 c184 c185 c186 c187 c188 c189 c190 c191 c192 c193 c194 c195 c196 c197 c198 c199 c200 c201 c202 u2 u4 u5 u6 u7 u8 u32 u33 u34 u35 u36 u37 u38 u39 u40 u41 u42 u43 u44 u45 u46 u47 u48 u49 u50 u51 u52 u53 u54 u55 u56 u57 u58 u59 u60 u61 u62 u63 u64 u65 u66 u67 u68 u69 u70 u71 u72 u73 u74 u75 u76 u77 u78 u79 u80 u81 u82 u83 u84 u85 u86 u87 u88 u89 u90 u91 u92 u93 u94 u95 u96 u97 u98 u99 u100 u101 u102 u103 u104 u105 u106 u107 u108 u109 u110 u111 u112 u113 u114 u115 u116 u117 u118 u119 u120 u121 u122 u123 u124 u125 u126 u127 u128 u129 u130 u131 u132 u133 u134 u135 u136 u137 u138 u139 u140 u141 u142 u143 u144 u145 u146 u147 u148 u149 u150 u151 u152 u153 u154 u155 u156 u157 u158 u159 u160 u161 u162 u163 u164 u165 u166 u167 u168 u169 u170 u171 u172 u173 u174 u175 u176 u177 u178 u179 u180 u181 u182 u183) w5:=by
 by_cases hd:1≤o.dn∧o.dn≤15
 ·have hdd:o.dn=1∨o.dn=2∨o.dn=3∨o.dn=4∨o.dn=5∨o.dn=6∨o.dn=7∨o.dn=8∨o.dn=9∨o.dn=10∨o.dn=11∨o.dn=12∨o.dn=13∨o.dn=14∨o.dn=15:=by omega
  rcases hdd with h|h|h|h|h|h|h|h|h|h|h|h|h|h|h
  ·exact rnd_x1 h hX hB hO hS hj hoc hK hR
  ·exact rnd_x2 h hX hB hO hS hj hoc hK hR
  ·exact rnd_x3 h hX hB hO hS hj hoc hK hR
  ·exact rnd_x4 h hX hB hO hS hj hoc hK hR
  ·exact rnd_x5 h hX hB hO hS hj hoc hK hR
  ·exact rnd_x6 h hX hB hO hS hj hoc hK hR
  ·exact rnd_x7 h hX hB hO hS hj hoc hK hR
  ·exact rnd_x8 h hX hB hO hS hj hoc hK hR
  ·exact rnd_x9 h hX hB hO hS hj hoc hK hR
  ·exact rnd_x10 h hX hB hO hS hj hoc hK hR
  ·exact rnd_x11 h hX hB hO hS hj hoc hK hR
  ·exact rnd_x12 h hX hB hO hS hj hoc hK hR
  ·exact rnd_x13 h hX hB hO hS hj hoc hK hR
  ·exact rnd_x14 h hX hB hO hS hj hoc hK hR
  ·exact rnd_x15 h hX hB hO hS hj hoc hK hR
 ·exact rnd_none hd hX hB hO hS hj hoc hK hR
def CpX(K:Act→World→Prop)(oa:Option Addr)(ol oc:Nat)(g c:Int)(kb:Nat)(w5:World)(c9 c10 c11 c12 c13 c14 c15 c16 c17 c18 c19 c20 c21 c22 c23 c24 c25 c26 c27 c28 c29 c30 c31 c184 c185 c186 c187 c188 c189 c190 c191 c192 c193 c194 c195 c196 c197 c198 c199 c200 c201 c202:Value):Prop:=True→∀{u2 u4 u5 u6 u7 u8 u32 u33 u34 u35 u36 u37 u38 u39 u40 u41 u42 u43 u44 u45 u46 u47 u48 u49 u50 u51 u52 u53 u54 u55 u56 u57 u58 u59 u60 u61 u62 u63 u64 u65 u66 u67 u68 u69 u70 u71 u72 u73 u74 u75 u76 u77 u78 u79 u80 u81 u82 u83 u84 u85 u86 u87 u88 u89 u90 u91 u92 u93 u94 u95 u96 u97 u98 u99 u100 u101 u102 u103 u104 u105 u106 u107 u108 u109 u110 u111 u112 u113 u114 u115 u116 u117 u118 u119 u120 u121 u122 u123 u124 u125 u126 u127 u128 u129 u130 u131 u132 u133 u134 u135 u136 u137 u138 u139 u140 u141 u142 u143 u144 u145 u146 u147 u148 u149 u150 u151 u152 u153 u154 u155 u156 u157 u158 u159 u160 u161 u162 u163 u164 u165 u166 u167 u168 u169 u170 u171 u172 u173 u174 u175 u176 u177 u178 u179 u180 u181 u182 u183:Value},K (cpF oa ol oc g c kb ol c9 c10 c11 c12 c13 c14 c15 c16 c17 c18 c19 c20 c21 c22 c23 c24 c25 c26 c27 c28 c29 c30 c31 c184 c185 c186 c187 c188 c189 c190 c191 c192 c193 c194 c195 c196 c197 c198 c199 c200 c201 c202 u2 u4 u5 u6 u7 u8 u32 u33 u34 u35 u36 u37 u38 u39 u40 u41 u42 u43 u44 u45 u46 u47 u48 u49 u50 u51 u52 u53 u54 u55 u56 u57 u58 u59 u60 u61 u62 u63 u64 u65 u66 u67 u68 u69 u70 u71 u72 u73 u74 u75 u76 u77 u78 u79 u80 u81 u82 u83 u84 u85 u86 u87 u88 u89 u90 u91 u92 u93 u94 u95 u96 u97 u98 u99 u100 u101 u102 u103 u104 u105 u106 u107 u108 u109 u110 u111 u112 u113 u114 u115 u116 u117 u118 u119 u120 u121 u122 u123 u124 u125 u126 u127 u128 u129 u130 u131 u132 u133 u134 u135 u136 u137 u138 u139 u140 u141 u142 u143 u144 u145 u146 u147 u148 u149 u150 u151 u152 u153 u154 u155 u156 u157 u158 u159 u160 u161 u162 u163 u164 u165 u166 u167 u168 u169 u170 u171 u172 u173 u174 u175 u176 u177 u178 u179 u180 u181 u182 u183) w5
theorem rnd_end{oa:Option Addr}{Q:Ending→World→Prop}(hX:w5.heap[kb]? =some (prO oa ol oc g c))(hK:CpX K oa ol oc g c kb w5 c9 c10 c11 c12 c13 c14 c15 c16 c17 c18 c19 c20 c21 c22 c23 c24 c25 c26 c27 c28 c29 c30 c31 c184 c185 c186 c187 c188 c189 c190 c191 c192 c193 c194 c195 c196 c197 c198 c199 c200 c201 c202):Code.wp prog cpBody (Exit.then K' (Exit.inBlock 0 (Exit.then K (bodyPost prog Tryz.f7 Q)))) (cpF oa ol oc g c kb ol c9 c10 c11 c12 c13 c14 c15 c16 c17 c18 c19 c20 c21 c22 c23 c24 c25 c26 c27 c28 c29 c30 c31 c184 c185 c186 c187 c188 c189 c190 c191 c192 c193 c194 c195 c196 c197 c198 c199 c200 c201 c202 u2 u4 u5 u6 u7 u8 u32 u33 u34 u35 u36 u37 u38 u39 u40 u41 u42 u43 u44 u45 u46 u47 u48 u49 u50 u51 u52 u53 u54 u55 u56 u57 u58 u59 u60 u61 u62 u63 u64 u65 u66 u67 u68 u69 u70 u71 u72 u73 u74 u75 u76 u77 u78 u79 u80 u81 u82 u83 u84 u85 u86 u87 u88 u89 u90 u91 u92 u93 u94 u95 u96 u97 u98 u99 u100 u101 u102 u103 u104 u105 u106 u107 u108 u109 u110 u111 u112 u113 u114 u115 u116 u117 u118 u119 u120 u121 u122 u123 u124 u125 u126 u127 u128 u129 u130 u131 u132 u133 u134 u135 u136 u137 u138 u139 u140 u141 u142 u143 u144 u145 u146 u147 u148 u149 u150 u151 u152 u153 u154 u155 u156 u157 u158 u159 u160 u161 u162 u163 u164 u165 u166 u167 u168 u169 u170 u171 u172 u173 u174 u175 u176 u177 u178 u179 u180 u181 u182 u183) w5:=by
 obtain⟨p0,p1,p2⟩:=pr_cells hX
 have HK:=hide hK
 clear hK hX
 unfold cpF
 conv=>arg 2;whnf
 simp only[List.append_eq,List.cons_append,List.nil_append]
 go_wp2
 exact HK.out trivial
end Go.Proofs.YtfnndcbjklppeaaGreatDoor
namespace Go.Proofs.YtfnndcbjklppeaaGreatDoor
open Go.PlainAid Go.RowKit
variable {K : Act → World → Prop} {oa : Option Addr} {ol oc : Nat} {g c : Int} {kb : Nat} {w : World} {R : Int} {L : OpL} {w1 : World} {c9 c10 c11 c12 c13 c14 c15 c16 c17 c18 c19 c20 c21 c22 c23 c24 c25 c26 c27 c28 c29 c30 c31 c184 c185 c186 c187 c188 c189 c190 c191 c192 c193 c194 c195 c196 c197 c198 c199 c200 c201 c202 u2 u4 u5 u6 u7 u8 u32 u33 u34 u35 u36 u37 u38 u39 u40 u41 u42 u43 u44 u45 u46 u47 u48 u49 u50 u51 u52 u53 u54 u55 u56 u57 u58 u59 u60 u61 u62 u63 u64 u65 u66 u67 u68 u69 u70 u71 u72 u73 u74 u75 u76 u77 u78 u79 u80 u81 u82 u83 u84 u85 u86 u87 u88 u89 u90 u91 u92 u93 u94 u95 u96 u97 u98 u99 u100 u101 u102 u103 u104 u105 u106 u107 u108 u109 u110 u111 u112 u113 u114 u115 u116 u117 u118 u119 u120 u121 u122 u123 u124 u125 u126 u127 u128 u129 u130 u131 u132 u133 u134 u135 u136 u137 u138 u139 u140 u141 u142 u143 u144 u145 u146 u147 u148 u149 u150 u151 u152 u153 u154 u155 u156 u157 u158 u159 u160 u161 u162 u163 u164 u165 u166 u167 u168 u169 u170 u171 u172 u173 u174 u175 u176 u177 u178 u179 u180 u181 u182 u183 : Value}
def CpR(ol:Nat)(g c:Int)(L:OpL)(R:Int):Prop:=∀j (hj:j<L.length),(∀i (hi:i<L.length),i<j→opE ol g c L[i]=0)→opE ol g c L[j]≠0→R=opE ol g c L[j]
def CpE(K:Act→World→Prop)(oa:Option Addr)(ol oc:Nat)(g c:Int)(kb:Nat)(L:OpL)(w1:World)(c9 c10 c11 c12 c13 c14 c15 c16 c17 c18 c19 c20 c21 c22 c23 c24 c25 c26 c27 c28 c29 c30 c31 c184 c185 c186 c187 c188 c189 c190 c191 c192 c193 c194 c195 c196 c197 c198 c199 c200 c201 c202:Value):Prop:=∀{u2 u4 u5 u6 u7 u8 u32 u33 u34 u35 u36 u37 u38 u39 u40 u41 u42 u43 u44 u45 u46 u47 u48 u49 u50 u51 u52 u53 u54 u55 u56 u57 u58 u59 u60 u61 u62 u63 u64 u65 u66 u67 u68 u69 u70 u71 u72 u73 u74 u75 u76 u77 u78 u79 u80 u81 u82 u83 u84 u85 u86 u87 u88 u89 u90 u91 u92 u93 u94 u95 u96 u97 u98 u99 u100 u101 u102 u103 u104 u105 u106 u107 u108 u109 u110 u111 u112 u113 u114 u115 u116 u117 u118 u119 u120 u121 u122 u123 u124 u125 u126 u127 u128 u129 u130 u131 u132 u133 u134 u135 u136 u137 u138 u139 u140 u141 u142 u143 u144 u145 u146 u147 u148 u149 u150 u151 u152 u153 u154 u155 u156 u157 u158 u159 u160 u161 u162 u163 u164 u165 u166 u167 u168 u169 u170 u171 u172 u173 u174 u175 u176 u177 u178 u179 u180 u181 u182 u183:Value} {w':World},Below w1.heap.size w1 w'→(∀i (hi:i<L.length),opE ol g c L[i]=0)→K (cpF oa ol oc g c kb ol c9 c10 c11 c12 c13 c14 c15 c16 c17 c18 c19 c20 c21 c22 c23 c24 c25 c26 c27 c28 c29 c30 c31 c184 c185 c186 c187 c188 c189 c190 c191 c192 c193 c194 c195 c196 c197 c198 c199 c200 c201 c202 u2 u4 u5 u6 u7 u8 u32 u33 u34 u35 u36 u37 u38 u39 u40 u41 u42 u43 u44 u45 u46 u47 u48 u49 u50 u51 u52 u53 u54 u55 u56 u57 u58 u59 u60 u61 u62 u63 u64 u65 u66 u67 u68 u69 u70 u71 u72 u73 u74 u75 u76 u77 u78 u79 u80 u81 u82 u83 u84 u85 u86 u87 u88 u89 u90 u91 u92 u93 u94 u95 u96 u97 u98 u99 u100 u101 u102 u103 u104 u105 u106 u107 u108 u109 u110 u111 u112 u113 u114 u115 u116 u117 u118 u119 u120 u121 u122 u123 u124 u125 u126 u127 u128 u129 u130 u131 u132 u133 u134 u135 u136 u137 u138 u139 u140 u141 u142 u143 u144 u145 u146 u147 u148 u149 u150 u151 u152 u153 u154 u155 u156 u157 u158 u159 u160 u161 u162 u163 u164 u165 u166 u167 u168 u169 u170 u171 u172 u173 u174 u175 u176 u177 u178 u179 u180 u181 u182 u183) w'
theorem cp_rounds(hOp:OpsC w1 oa ol oc L)(hX:w1.heap[kb]? =some (prO oa ol oc g c))(hBw:Below w.heap.size w w1)(hR:CpR ol g c L R)(hK:CpE K oa ol oc g c kb L w1 c9 c10 c11 c12 c13 c14 c15 c16 c17 c18 c19 c20 c21 c22 c23 c24 c25 c26 c27 c28 c29 c30 c31 c184 c185 c186 c187 c188 c189 c190 c191 c192 c193 c194 c195 c196 c197 c198 c199 c200 c201 c202):
  ∀ (m:Nat) {j:Nat} {w5:World} {u2 u4 u5 u6 u7 u8 u32 u33 u34 u35 u36 u37 u38 u39 u40 u41 u42 u43 u44 u45 u46 u47 u48 u49 u50 u51 u52 u53 u54 u55 u56 u57 u58 u59 u60 u61 u62 u63 u64 u65 u66 u67 u68 u69 u70 u71 u72 u73 u74 u75 u76 u77 u78 u79 u80 u81 u82 u83 u84 u85 u86 u87 u88 u89 u90 u91 u92 u93 u94 u95 u96 u97 u98 u99 u100 u101 u102 u103 u104 u105 u106 u107 u108 u109 u110 u111 u112 u113 u114 u115 u116 u117 u118 u119 u120 u121 u122 u123 u124 u125 u126 u127 u128 u129 u130 u131 u132 u133 u134 u135 u136 u137 u138 u139 u140 u141 u142 u143 u144 u145 u146 u147 u148 u149 u150 u151 u152 u153 u154 u155 u156 u157 u158 u159 u160 u161 u162 u163 u164 u165 u166 u167 u168 u169 u170 u171 u172 u173 u174 u175 u176 u177 u178 u179 u180 u181 u182 u183:Value},j+m=L.length→(∀i (hi:i<L.length),i<j→opE ol g c L[i]=0)→Below w1.heap.size w1 w5→
   Code.rounds prog cpBody (Exit.inBlock 0 (Exit.then K (bodyPost prog Tryz.f7 (fun e w'=>e=.returned (.int .i64 R)∧Below w.heap.size w w')))) (m+1) (cpF oa ol oc g c kb j c9 c10 c11 c12 c13 c14 c15 c16 c17 c18 c19 c20 c21 c22 c23 c24 c25 c26 c27 c28 c29 c30 c31 c184 c185 c186 c187 c188 c189 c190 c191 c192 c193 c194 c195 c196 c197 c198 c199 c200 c201 c202 u2 u4 u5 u6 u7 u8 u32 u33 u34 u35 u36 u37 u38 u39 u40 u41 u42 u43 u44 u45 u46 u47 u48 u49 u50 u51 u52 u53 u54 u55 u56 u57 u58 u59 u60 u61 u62 u63 u64 u65 u66 u67 u68 u69 u70 u71 u72 u73 u74 u75 u76 u77 u78 u79 u80 u81 u82 u83 u84 u85 u86 u87 u88 u89 u90 u91 u92 u93 u94 u95 u96 u97 u98 u99 u100 u101 u102 u103 u104 u105 u106 u107 u108 u109 u110 u111 u112 u113 u114 u115 u116 u117 u118 u119 u120 u121 u122 u123 u124 u125 u126 u127 u128 u129 u130 u131 u132 u133 u134 u135 u136 u137 u138 u139 u140 u141 u142 u143 u144 u145 u146 u147 u148 u149 u150 u151 u152 u153 u154 u155 u156 u157 u158 u159 u160 u161 u162 u163 u164 u165 u166 u167 u168 u169 u170 u171 u172 u173 u174 u175 u176 u177 u178 u179 u180 u181 u182 u183) w5:=by
 have hlen:=hOp.len
 intro m
 induction m with
 |zero=>
  intro j w5 u2 u4 u5 u6 u7 u8 u32 u33 u34 u35 u36 u37 u38 u39 u40 u41 u42 u43 u44 u45 u46 u47 u48 u49 u50 u51 u52 u53 u54 u55 u56 u57 u58 u59 u60 u61 u62 u63 u64 u65 u66 u67 u68 u69 u70 u71 u72 u73 u74 u75 u76 u77 u78 u79 u80 u81 u82 u83 u84 u85 u86 u87 u88 u89 u90 u91 u92 u93 u94 u95 u96 u97 u98 u99 u100 u101 u102 u103 u104 u105 u106 u107 u108 u109 u110 u111 u112 u113 u114 u115 u116 u117 u118 u119 u120 u121 u122 u123 u124 u125 u126 u127 u128 u129 u130 u131 u132 u133 u134 u135 u136 u137 u138 u139 u140 u141 u142 u143 u144 u145 u146 u147 u148 u149 u150 u151 u152 u153 u154 u155 u156 u157 u158 u159 u160 u161 u162 u163 u164 u165 u166 u167 u168 u169 u170 u171 u172 u173 u174 u175 u176 u177 u178 u179 u180 u181 u182 u183 hj hA hb
  rw[rounds_succ]
  have hjl:j=ol:=by omega
  subst hjl
  exact rnd_end ((hb.block _ (lt_of_block hX)).trans hX) (by unfold CpX;intros;exact hK hb (fun i hi=>hA i hi (by omega)))
 |succ m ih=>
  intro j w5 u2 u4 u5 u6 u7 u8 u32 u33 u34 u35 u36 u37 u38 u39 u40 u41 u42 u43 u44 u45 u46 u47 u48 u49 u50 u51 u52 u53 u54 u55 u56 u57 u58 u59 u60 u61 u62 u63 u64 u65 u66 u67 u68 u69 u70 u71 u72 u73 u74 u75 u76 u77 u78 u79 u80 u81 u82 u83 u84 u85 u86 u87 u88 u89 u90 u91 u92 u93 u94 u95 u96 u97 u98 u99 u100 u101 u102 u103 u104 u105 u106 u107 u108 u109 u110 u111 u112 u113 u114 u115 u116 u117 u118 u119 u120 u121 u122 u123 u124 u125 u126 u127 u128 u129 u130 u131 u132 u133 u134 u135 u136 u137 u138 u139 u140 u141 u142 u143 u144 u145 u146 u147 u148 u149 u150 u151 u152 u153 u154 u155 u156 u157 u158 u159 u160 u161 u162 u163 u164 u165 u166 u167 u168 u169 u170 u171 u172 u173 u174 u175 u176 u177 u178 u179 u180 u181 u182 u183 hj hA hb
  rw[rounds_succ]
  have hlt:j<L.length:=by omega
  rcases hOp.below hb with⟨_,_,_,h0⟩|⟨x,hx,hkk,hmx,hcl⟩
  ·exact absurd hlt (by rw[h0];simp)
  ·subst hx
   obtain⟨o,S,hoS⟩:∃o S,L[j]=(o,S):=⟨_,_,rfl⟩
   have hc:=hcl j hlt
   rw[hoS]at hc
   have hRj:=hR j hlt hA
   rw[hoS]at hRj
   refine rnd_any (o:=o) (S:=S) (j:=j) ((hb.block _ (lt_of_block hX)).trans hX) (hBw.andT hb) hc.1 hc.2 (by omega) (by omega) ?_ hRj
   intro h0 u2 u4 u5 u6 u7 u8 u32 u33 u34 u35 u36 u37 u38 u39 u40 u41 u42 u43 u44 u45 u46 u47 u48 u49 u50 u51 u52 u53 u54 u55 u56 u57 u58 u59 u60 u61 u62 u63 u64 u65 u66 u67 u68 u69 u70 u71 u72 u73 u74 u75 u76 u77 u78 u79 u80 u81 u82 u83 u84 u85 u86 u87 u88 u89 u90 u91 u92 u93 u94 u95 u96 u97 u98 u99 u100 u101 u102 u103 u104 u105 u106 u107 u108 u109 u110 u111 u112 u113 u114 u115 u116 u117 u118 u119 u120 u121 u122 u123 u124 u125 u126 u127 u128 u129 u130 u131 u132 u133 u134 u135 u136 u137 u138 u139 u140 u141 u142 u143 u144 u145 u146 u147 u148 u149 u150 u151 u152 u153 u154 u155 u156 u157 u158 u159 u160 u161 u162 u163 u164 u165 u166 u167 u168 u169 u170 u171 u172 u173 u174 u175 u176 u177 u178 u179 u180 u181 u182 u183 w' hw' hb'
   have hA':∀i (hi:i<L.length),i<j+1→opE ol g c L[i]=0:=fun i hi hij=>by
    by_cases hh:i=j
    ·subst hh;rw[hoS];exact h0
    ·exact hA i hi (by omega)
   exact ih (j:=j+1) (by omega) hA' (hb.andT hb')
theorem cp_loop(hOp:OpsC w1 oa ol oc L)(hX:w1.heap[kb]? =some (prO oa ol oc g c))(hBw:Below w.heap.size w w1)(hR:CpR ol g c L R)(hK:CpE K oa ol oc g c kb L w1 c9 c10 c11 c12 c13 c14 c15 c16 c17 c18 c19 c20 c21 c22 c23 c24 c25 c26 c27 c28 c29 c30 c31 c184 c185 c186 c187 c188 c189 c190 c191 c192 c193 c194 c195 c196 c197 c198 c199 c200 c201 c202):
  Code.wp prog (Code.loop cpBody) (Exit.inBlock 0 (Exit.then K (bodyPost prog Tryz.f7 (fun e w'=>e=.returned (.int .i64 R)∧Below w.heap.size w w')))) ⟨#[prV oa ol oc g c,.pointer (some ⟨kb,0,none⟩),u2,.int .i64 0,u4,u5,u6,u7,u8,c9,c10,c11,c12,c13,c14,c15,c16,c17,c18,c19,c20,c21,c22,c23,c24,c25,c26,c27,c28,c29,c30,c31,u32,u33,u34,u35,u36,u37,u38,u39,u40,u41,u42,u43,u44,u45,u46,u47,u48,u49,u50,u51,u52,u53,u54,u55,u56,u57,u58,u59,u60,u61,u62,u63,u64,u65,u66,u67,u68,u69,u70,u71,u72,u73,u74,u75,u76,u77,u78,u79,u80,u81,u82,u83,u84,u85,u86,u87,u88,u89,u90,u91,u92,u93,u94,u95,u96,u97,u98,u99,u100,u101,u102,u103,u104,u105,u106,u107,u108,u109,u110,u111,u112,u113,u114,u115,u116,u117,u118,u119,u120,u121,u122,u123,u124,u125,u126,u127,u128,u129,u130,u131,u132,u133,u134,u135,u136,u137,u138,u139,u140,u141,u142,u143,u144,u145,u146,u147,u148,u149,u150,u151,u152,u153,u154,u155,u156,u157,u158,u159,u160,u161,u162,u163,u164,u165,u166,u167,u168,u169,u170,u171,u172,u173,u174,u175,u176,u177,u178,u179,u180,u181,u182,u183,c184,c185,c186,c187,c188,c189,c190,c191,c192,c193,c194,c195,c196,c197,c198,c199,c200,c201,c202],[]⟩ w1:=
 wp_loop_rounds (L.length+1) (cp_rounds hOp hX hBw hR hK L.length (j:=0) (by omega) (fun i hi h0=>by omega) (belR _ _))
theorem endD_iff{d:Int}(h:1≤d∧d≤15):endD d=!(!decide (d=2)&&decide (d<14)):=by
 unfold endD
 by_cases h2:d=2
 ·simp[h2]
 ·by_cases h3:d<14
  ·simp[h2,h3];omega
  ·simp[h2,h3];omega
theorem opE_do{n:Nat}{g c:Int}{x:OpV×RL}(h:opE n g c x=0):1≤x.1.dn∧x.1.dn≤15:=by
 by_cases hd:1≤x.1.dn∧x.1.dn≤15
 ·exact hd
 ·rw[opE_none (fvOf_none hd)]at h;omega
theorem checkProgram_any(oa:Option Addr)(ol oc:Nat)(g c:Int)(L:OpL)(w:World)(h:OpsC w oa ol oc L):Calls prog 7 #[prV oa ol oc g c] w fun e w'=>e=.returned (.int .i64 (progE ol g c L))∧Below w.heap.size w w':=by
 have hb1:Below w.heap.size w (w.alloc (prO oa ol oc g c)):=allocB _ _
 obtain⟨w1,hw1⟩:=named (w.alloc (prO oa ol oc g c))
 have hx1:w1.heap[w.heap.size]? =some (prO oa ol oc g c):=by rw[hw1];exact at_new _ _
 rw[← hw1]at hb1
 simp only[prO]at hw1
 have HX1:=hide hx1
 have HB1:=hide hb1
 have HO:=hide (h.below hb1)
 have HL:=hide h.len
 have HE:Hid (progE ol g c L=if 12000<(ol:Int)∨2000<c∨20<g then 2 else if g<0∨c<0 then 3 else if opsE ol g c L≠0 then opsE ol g c L else if endB L then 0 else 4):=rfl
 obtain⟨R,hR⟩:=named (progE ol g c L)
 rw[← hR]at HE ⊢
 clear h hb1 hx1 hR
 obtain⟨p0,p1,p2⟩:=pr_cells HX1.out
 by_cases h1:12000<(ol:Int)
 ·have HF:Hid (R=2):=by show _=_;rw[HE.out];simp[h1]
  clear HE
  go_enter func7,ntmps7
  go_upto_region 1 with fail
  rw[← hw1]
  clear hw1
  go_wp2
  go_ret
  exact⟨by rw[HF.out];rfl,HB1.out⟩
 ·skip
  by_cases h2:2000<c
  ·have HF:Hid (R=2):=by show _=_;rw[HE.out];simp[h2]
   clear HE
   go_enter func7,ntmps7
   go_upto_region 1 with fail
   rw[← hw1]
   clear hw1
   go_wp2
   go_ret
   exact⟨by rw[HF.out];rfl,HB1.out⟩
  ·skip
   by_cases h3:20<g
   ·have HF:Hid (R=2):=by show _=_;rw[HE.out];simp[h3]
    clear HE
    go_enter func7,ntmps7
    go_upto_region 1 with fail
    rw[← hw1]
    clear hw1
    go_wp2
    go_ret
    exact⟨by rw[HF.out];rfl,HB1.out⟩
   ·skip
    by_cases h4:g<0
    ·have HF:Hid (R=3):=by show _=_;rw[HE.out];simp[h1,h2,h3,h4]
     clear HE
     go_enter func7,ntmps7
     go_upto_region 1 with fail
     rw[← hw1]
     clear hw1
     go_wp2
     go_ret
     exact⟨by rw[HF.out];rfl,HB1.out⟩
    ·skip
     by_cases h5:c<0
     ·have HF:Hid (R=3):=by show _=_;rw[HE.out];simp[h1,h2,h3,h5]
      clear HE
      go_enter func7,ntmps7
      go_upto_region 1 with fail
      rw[← hw1]
      clear hw1
      go_wp2
      go_ret
      exact⟨by rw[HF.out];rfl,HB1.out⟩
     ·skip
      have HF:Hid (R=if opsE ol g c L≠0 then opsE ol g c L else if endB L then 0 else 4):=by show _=_;rw[HE.out];simp[h1,h2,h3,h4,h5]
      clear HE
      have HRj:Hid (∀j (hj:j<L.length),(∀i (hi:i<L.length),i<j→opE ol g c L[i]=0)→opE ol g c L[j]≠0→R=opE ol g c L[j]):=fun j hj h1 h2=>by
       have:=opsE_at hj h1 h2
       rw[HF.out,this,if_pos h2]
      have HRe:Hid ((∀i (hi:i<L.length),opE ol g c L[i]=0)→R=if endB L then 0 else 4):=fun h1=>by
       have:=opsE_all h1
       rw[HF.out,if_neg (by rw[this];simp)]
      clear HF
      go_enter func7,ntmps7
      go_upto_region 1 with fail
      rw[← hw1]
      clear hw1
      go_wp2
      refine cp_loop HO.out HX1.out HB1.out HRj.out ?_
      intro u2 u4 u5 u6 u7 u8 u32 u33 u34 u35 u36 u37 u38 u39 u40 u41 u42 u43 u44 u45 u46 u47 u48 u49 u50 u51 u52 u53 u54 u55 u56 u57 u58 u59 u60 u61 u62 u63 u64 u65 u66 u67 u68 u69 u70 u71 u72 u73 u74 u75 u76 u77 u78 u79 u80 u81 u82 u83 u84 u85 u86 u87 u88 u89 u90 u91 u92 u93 u94 u95 u96 u97 u98 u99 u100 u101 u102 u103 u104 u105 u106 u107 u108 u109 u110 u111 u112 u113 u114 u115 u116 u117 u118 u119 u120 u121 u122 u123 u124 u125 u126 u127 u128 u129 u130 u131 u132 u133 u134 u135 u136 u137 u138 u139 u140 u141 u142 u143 u144 u145 u146 u147 u148 u149 u150 u151 u152 u153 u154 u155 u156 u157 u158 u159 u160 u161 u162 u163 u164 u165 u166 u167 u168 u169 u170 u171 u172 u173 u174 u175 u176 u177 u178 u179 u180 u181 u182 u183 w2 hb2 hall
      have HB2:=hide (HB1.out.andT hb2)
      have HO2:=hide (HO.out.below hb2)
      have HX2:=hide ((hb2.block _ (lt_of_block HX1.out)).trans HX1.out)
      have HRf:=hide (HRe.out hall)
      have HAll:=hide hall
      unfold cpF
      clear hb2 hall HRj HRe HO HX1 HB1 p0 p1 p2
      obtain⟨p0,p1,p2⟩:=pr_cells HX2.out
      by_cases h0:L.length=0
      ·have HG:Hid (R=4):=by
        have:endB L=false:=by unfold endB;rw[List.getElem?_eq_none (by omega)]
        show _=_
        rw[HRf.out,this];rfl
       have hol:ol=0:=by have:=HL.out;omega
       subst hol
       clear h0 HRf
       go_at_K
       go_wp2
       go_ret
       exact⟨by rw[HG.out];rfl,HB2.out⟩
      ·rcases HO2.out with⟨_,_,_,hn⟩|⟨x,hx,hkk,hmx,hcl⟩
       ·exact absurd h0 (by rw[hn];simp)
       ·subst hx
        have hj:L.length - 1<L.length:=by omega
        have cd:=(hcl (L.length - 1) hj).1.c0
        have hdd:=opE_do (HAll.out (L.length - 1) hj)
        have hEB:endB L=endD L[L.length - 1].1.dn:=by unfold endB;rw[List.getElem?_eq_getElem hj]
        have HRg:Hid (R=if endD L[L.length - 1].1.dn then 0 else 4):=by show _=_;rw[HRf.out,hEB]
        obtain⟨d,hd⟩:=named (L[L.length - 1].1.dn)
        obtain⟨k,hk⟩:=named (L.length - 1)
        rw[← hd]at cd HRg hdd
        rw[← hk]at cd
        have HRh:Hid (R=if (!(!decide (d=2)&&decide (d<14)))then 0 else 4):=by show _=_;rw[HRg.out,endD_iff hdd]
        have hol:ol=k+1:=by omega
        subst hol
        have hkm:k+1≤9223372036854775807:=by omega
        have bk:(((k+1:Nat):Int)==0)=false:=by simp;omega
        clear HRf HRg hcl hmx hkk hj hdd hEB hd hk h0 h1 HL HO2 HAll
        by_cases d2:d=2
        ·subst d2
         have HG:Hid (R=0):=HRh.out
         clear HRh
         go_at_K
         go_wp2
         go_ret
         exact⟨by rw[HG.out];rfl,HB2.out⟩
        ·have b2:(d==2)=false:=by simpa using d2
         by_cases d14:d<14
         ·have HG:Hid (R=4):=by show _=_;rw[HRh.out];simp[d2,d14]
          clear HRh b2
          go_at_K
          go_wp2
          go_ret
          exact⟨by rw[HG.out];rfl,HB2.out⟩
         ·have HG:Hid (R=0):=by show _=_;rw[HRh.out];simp[d2,d14]
          clear HRh b2
          go_at_K
          go_wp2
          go_ret
          exact⟨by rw[HG.out];rfl,HB2.out⟩
end Go.Proofs.YtfnndcbjklppeaaGreatDoor
