import Derived.Test.YtfnndcbjklppeaaGreatDoorVZ2
import Derived.Test.YtfnndcbjklppeaaGreatDoorWA2
import Derived.Test.YtfnndcbjklppeaaGreatDoorVO2
set_option maxRecDepth 1000000
set_option linter.unusedVariables false
open Go.Proofs.Tryz
namespace Go.Proofs.YtfnndcbjklppeaaGreatDoor
open Go.RowKit Go.PlainAid
theorem bne_list{a b:ByteArray}(h:a≠b):(a.toList==b.toList)=false:=by
 rw[Bool.eq_false_iff]
 intro hh
 exact h (ba_ext (by simpa using hh))
theorem hasB_0(n:Nat)(g c z:Int):hasB 0 n g c z=true:=rfl
theorem and_true{a b:Bool}(h:(a&&b)=true):a=true∧b=true:=by cases a<;>cases b<;>simp_all
def firstLoop:Code→Option Code
 | .loop c=>some c
 | .seq a b=>match firstLoop a with
  |some c=>some c
  |none=>firstLoop b
 | .block _ c=>firstLoop c
 | .scope c=>firstLoop c
 | .cond _ a b=>match firstLoop a with
  |some c=>some c
  |none=>firstLoop b
 |_=>none
noncomputable def cpBody:Code:=((Tryz.f7.body.bind firstLoop).getD .skip)
def cpF(oa:Option Addr)(ol oc:Nat)(g c:Int)(kb:Nat)(j:Int)(c9 c10 c11 c12 c13 c14 c15 c16 c17 c18 c19 c20 c21 c22 c23 c24 c25 c26 c27 c28 c29 c30 c31 c184 c185 c186 c187 c188 c189 c190 c191 c192 c193 c194 c195 c196 c197 c198 c199 c200 c201 c202 u2 u4 u5 u6 u7 u8 u32 u33 u34 u35 u36 u37 u38 u39 u40 u41 u42 u43 u44 u45 u46 u47 u48 u49 u50 u51 u52 u53 u54 u55 u56 u57 u58 u59 u60 u61 u62 u63 u64 u65 u66 u67 u68 u69 u70 u71 u72 u73 u74 u75 u76 u77 u78 u79 u80 u81 u82 u83 u84 u85 u86 u87 u88 u89 u90 u91 u92 u93 u94 u95 u96 u97 u98 u99 u100 u101 u102 u103 u104 u105 u106 u107 u108 u109 u110 u111 u112 u113 u114 u115 u116 u117 u118 u119 u120 u121 u122 u123 u124 u125 u126 u127 u128 u129 u130 u131 u132 u133 u134 u135 u136 u137 u138 u139 u140 u141 u142 u143 u144 u145 u146 u147 u148 u149 u150 u151 u152 u153 u154 u155 u156 u157 u158 u159 u160 u161 u162 u163 u164 u165 u166 u167 u168 u169 u170 u171 u172 u173 u174 u175 u176 u177 u178 u179 u180 u181 u182 u183:Value):Act:=⟨#[prV oa ol oc g c,.pointer (some ⟨kb,0,none⟩),u2,.int .i64 j,u4,u5,u6,u7,u8,c9,c10,c11,c12,c13,c14,c15,c16,c17,c18,c19,c20,c21,c22,c23,c24,c25,c26,c27,c28,c29,c30,c31,u32,u33,u34,u35,u36,u37,u38,u39,u40,u41,u42,u43,u44,u45,u46,u47,u48,u49,u50,u51,u52,u53,u54,u55,u56,u57,u58,u59,u60,u61,u62,u63,u64,u65,u66,u67,u68,u69,u70,u71,u72,u73,u74,u75,u76,u77,u78,u79,u80,u81,u82,u83,u84,u85,u86,u87,u88,u89,u90,u91,u92,u93,u94,u95,u96,u97,u98,u99,u100,u101,u102,u103,u104,u105,u106,u107,u108,u109,u110,u111,u112,u113,u114,u115,u116,u117,u118,u119,u120,u121,u122,u123,u124,u125,u126,u127,u128,u129,u130,u131,u132,u133,u134,u135,u136,u137,u138,u139,u140,u141,u142,u143,u144,u145,u146,u147,u148,u149,u150,u151,u152,u153,u154,u155,u156,u157,u158,u159,u160,u161,u162,u163,u164,u165,u166,u167,u168,u169,u170,u171,u172,u173,u174,u175,u176,u177,u178,u179,u180,u181,u182,u183,c184,c185,c186,c187,c188,c189,c190,c191,c192,c193,c194,c195,c196,c197,c198,c199,c200,c201,c202],[]⟩
def CpW(K' K:Act→World→Prop)(w:World)(R:Int)(A:Act)(W:World):Prop:=Code.wp prog cpBody (Exit.then K' (Exit.inBlock 0 (Exit.then K (bodyPost prog Tryz.f7 (fun e w'=>e=.returned (.int .i64 R)∧Below w.heap.size w w'))))) A W
def CpK(K':Act→World→Prop)(x:Addr)(ol oc:Nat)(g c:Int)(kb j:Nat)(w w5:World)(o:OpV)(S:RL)(c9 c10 c11 c12 c13 c14 c15 c16 c17 c18 c19 c20 c21 c22 c23 c24 c25 c26 c27 c28 c29 c30 c31 c184 c185 c186 c187 c188 c189 c190 c191 c192 c193 c194 c195 c196 c197 c198 c199 c200 c201 c202:Value):Prop:=opE ol g c (o,S)=0→∀{u2 u4 u5 u6 u7 u8 u32 u33 u34 u35 u36 u37 u38 u39 u40 u41 u42 u43 u44 u45 u46 u47 u48 u49 u50 u51 u52 u53 u54 u55 u56 u57 u58 u59 u60 u61 u62 u63 u64 u65 u66 u67 u68 u69 u70 u71 u72 u73 u74 u75 u76 u77 u78 u79 u80 u81 u82 u83 u84 u85 u86 u87 u88 u89 u90 u91 u92 u93 u94 u95 u96 u97 u98 u99 u100 u101 u102 u103 u104 u105 u106 u107 u108 u109 u110 u111 u112 u113 u114 u115 u116 u117 u118 u119 u120 u121 u122 u123 u124 u125 u126 u127 u128 u129 u130 u131 u132 u133 u134 u135 u136 u137 u138 u139 u140 u141 u142 u143 u144 u145 u146 u147 u148 u149 u150 u151 u152 u153 u154 u155 u156 u157 u158 u159 u160 u161 u162 u163 u164 u165 u166 u167 u168 u169 u170 u171 u172 u173 u174 u175 u176 u177 u178 u179 u180 u181 u182 u183:Value} {w':World},Below w.heap.size w w'→Below w5.heap.size w5 w'→K' (cpF (some x) ol oc g c kb ((j:Int)+1) c9 c10 c11 c12 c13 c14 c15 c16 c17 c18 c19 c20 c21 c22 c23 c24 c25 c26 c27 c28 c29 c30 c31 c184 c185 c186 c187 c188 c189 c190 c191 c192 c193 c194 c195 c196 c197 c198 c199 c200 c201 c202 u2 u4 u5 u6 u7 u8 u32 u33 u34 u35 u36 u37 u38 u39 u40 u41 u42 u43 u44 u45 u46 u47 u48 u49 u50 u51 u52 u53 u54 u55 u56 u57 u58 u59 u60 u61 u62 u63 u64 u65 u66 u67 u68 u69 u70 u71 u72 u73 u74 u75 u76 u77 u78 u79 u80 u81 u82 u83 u84 u85 u86 u87 u88 u89 u90 u91 u92 u93 u94 u95 u96 u97 u98 u99 u100 u101 u102 u103 u104 u105 u106 u107 u108 u109 u110 u111 u112 u113 u114 u115 u116 u117 u118 u119 u120 u121 u122 u123 u124 u125 u126 u127 u128 u129 u130 u131 u132 u133 u134 u135 u136 u137 u138 u139 u140 u141 u142 u143 u144 u145 u146 u147 u148 u149 u150 u151 u152 u153 u154 u155 u156 u157 u158 u159 u160 u161 u162 u163 u164 u165 u166 u167 u168 u169 u170 u171 u172 u173 u174 u175 u176 u177 u178 u179 u180 u181 u182 u183) w'
structure RK(w w5 W:World)(kb:Nat)(p q:Obj)(v:Value)(S:RL):Prop where
 b:Below w5.heap.size w5 W
 bb:Below w.heap.size w W
 x:W.heap[w5.heap.size]? =some q
 p:W.heap[kb]? =some p
 s:Reads W v S
theorem RK.next{w w5 W W':World}{kb:Nat}{p q:Obj}{v:Value}{S:RL}(h:Hid (RK w w5 W kb p q v S))(hb:Below W.heap.size W W'):Hid (RK w w5 W' kb p q v S):=
 ⟨h.out.b.andT hb,h.out.bb.andT hb,(hb.block _ (lt_of_block h.out.x)).trans h.out.x,(hb.block _ (lt_of_block h.out.p)).trans h.out.p,h.out.s.below hb⟩
theorem RK.cells{w w5 W:World}{kb:Nat}{oa:Option Addr}{ol oc:Nat}{g c:Int}{o:OpV}{v:Value}{S:RL}(h:Hid (RK w w5 W kb (prO oa ol oc g c) (opO o) v S)):OCells W ⟨w5.heap.size,0,none⟩ o∧W.cell? ⟨kb,0,none⟩=some (.slice oa ol oc)∧W.cell? ⟨kb,1,none⟩=some (.int .i64 g)∧W.cell? ⟨kb,2,none⟩=some (.int .i64 c):=⟨op_cells h.out.x,pr_cells h.out.p⟩
theorem hasX(s t:ByteArray)(r:Bool)(W:World)(hs:s.size<1000)(ht:t.size<1000)(h:hasOneB s t=r):Hid (Calls prog 16 #[.string s,.string t] W fun e w'=>e=.returned (.bool r)∧Below W.heap.size W w'):=by subst h;exact hasOne_any s t hs ht W
theorem rE{E R z:Int}(h:Hid (E≠0→R=E))(e:E=z)(hz:z≠0):Hid (R=z):=by subst e;exact h.out hz
theorem rF{e:Ending}{R z:Int}{P:Prop}(h:Hid (R=z))(he:e=.returned (.int .i64 z))(hp:P):e=.returned (.int .i64 R)∧P:=by subst he;exact⟨by rw[h.out],hp⟩
theorem newOp(w5:World)(o:OpV):∃w6,w6=w5.alloc (opO o)∧Below w5.heap.size w5 w6∧w6.heap[w5.heap.size]? =some (opO o):=⟨_,rfl,allocB _ _,at_new _ _⟩
end Go.Proofs.YtfnndcbjklppeaaGreatDoor
