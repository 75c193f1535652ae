import Derived.Test.YtfnndcbjklppeaaGreatDoorYD2
set_option maxHeartbeats 8000000
set_option maxRecDepth 1000000
set_option linter.unusedVariables false
open Go.Proofs.Tryz
namespace Go.Proofs.YtfnndcbjklppeaaGreatDoor
open Go.RowKit Go.PlainAid
variable {K' K : Act → World → Prop} {x : Addr} {ol oc : Nat} {g c : Int} {kb : Nat} {w : World} {R : Int} {o : OpV} {S : RL} {j : Nat} {w5 : World} {c9 c10 c11 c12 c13 c14 c15 c16 c17 c18 c19 c20 c21 c22 c23 c24 c25 c26 c27 c28 c29 c30 c31 c184 c185 c186 c187 c188 c189 c190 c191 c192 c193 c194 c195 c196 c197 c198 c199 c200 c201 c202 u2 u4 u5 u6 u7 u8 u32 u33 u34 u35 u36 u37 u38 u39 u40 u41 u42 u43 u44 u45 u46 u47 u48 u49 u50 u51 u52 u53 u54 u55 u56 u57 u58 u59 u60 u61 u62 u63 u64 u65 u66 u67 u68 u69 u70 u71 u72 u73 u74 u75 u76 u77 u78 u79 u80 u81 u82 u83 u84 u85 u86 u87 u88 u89 u90 u91 u92 u93 u94 u95 u96 u97 u98 u99 u100 u101 u102 u103 u104 u105 u106 u107 u108 u109 u110 u111 u112 u113 u114 u115 u116 u117 u118 u119 u120 u121 u122 u123 u124 u125 u126 u127 u128 u129 u130 u131 u132 u133 u134 u135 u136 u137 u138 u139 u140 u141 u142 u143 u144 u145 u146 u147 u148 u149 u150 u151 u152 u153 u154 u155 u156 u157 u158 u159 u160 u161 u162 u163 u164 u165 u166 u167 u168 u169 u170 u171 u172 u173 u174 u175 u176 u177 u178 u179 u180 u181 u182 u183 : Value}
theorem rnd_x5(hd:o.dn=5)(hX:w5.heap[kb]? =some (prO (some x) ol oc g c))(hB:Below w.heap.size w w5)(hO:OCells w5 (x.add (j*8)) o)(hS:Reads w5 (.slice o.sa o.sl o.sc) S)(hj:(j:Int)<(ol:Int))(hoc:ol≤9223372036854775807)(hK:CpK K' x ol oc g c kb j w w5 o S c9 c10 c11 c12 c13 c14 c15 c16 c17 c18 c19 c20 c21 c22 c23 c24 c25 c26 c27 c28 c29 c30 c31 c184 c185 c186 c187 c188 c189 c190 c191 c192 c193 c194 c195 c196 c197 c198 c199 c200 c201 c202)(hR:opE ol g c (o,S)≠0→R=opE ol g c (o,S)):CpW K' K w R (cpF (some x) ol oc g c kb j c9 c10 c11 c12 c13 c14 c15 c16 c17 c18 c19 c20 c21 c22 c23 c24 c25 c26 c27 c28 c29 c30 c31 c184 c185 c186 c187 c188 c189 c190 c191 c192 c193 c194 c195 c196 c197 c198 c199 c200 c201 c202 u2 u4 u5 u6 u7 u8 u32 u33 u34 u35 u36 u37 u38 u39 u40 u41 u42 u43 u44 u45 u46 u47 u48 u49 u50 u51 u52 u53 u54 u55 u56 u57 u58 u59 u60 u61 u62 u63 u64 u65 u66 u67 u68 u69 u70 u71 u72 u73 u74 u75 u76 u77 u78 u79 u80 u81 u82 u83 u84 u85 u86 u87 u88 u89 u90 u91 u92 u93 u94 u95 u96 u97 u98 u99 u100 u101 u102 u103 u104 u105 u106 u107 u108 u109 u110 u111 u112 u113 u114 u115 u116 u117 u118 u119 u120 u121 u122 u123 u124 u125 u126 u127 u128 u129 u130 u131 u132 u133 u134 u135 u136 u137 u138 u139 u140 u141 u142 u143 u144 u145 u146 u147 u148 u149 u150 u151 u152 u153 u154 u155 u156 u157 u158 u159 u160 u161 u162 u163 u164 u165 u166 u167 u168 u169 u170 u171 u172 u173 u174 u175 u176 u177 u178 u179 u180 u181 u182 u183) w5:=by
 obtain⟨dn,sa,sl,sc,to,other,kind,least,fold,back⟩:=o
 simp only at hd hS
 subst hd
 obtain⟨d0,d1,d2,d3,d4,d5,d6,d7⟩:=hO
 simp only at d0 d1 d2 d3 d4 d5 d6 d7
 obtain⟨p0,p1,p2⟩:=pr_cells hX
 have hjw:IntKind.i64.wrap ((j:Int)+1)=(j:Int)+1:=by rw[IntKind.wrap_i64];omega
 have e4:(0:Int)≤(j:Int):=by omega
 obtain⟨w6,hw6,hB6,hbx⟩:=newOp w5 ⟨5,sa,sl,sc,to,other,kind,least,fold,back⟩
 have H6:=hide (RK.mk hB6 (hB.andT hB6) hbx ((hB6.block _ (lt_of_block hX)).trans hX) (hS.below hB6))
 have HK:=hide hK
 have HR:=hide hR
 simp only[opO]at hw6
 clear hK hR hB hX hB6 hbx hS
 unfold CpW cpF
 conv=>arg 2;whnf
 simp only[List.append_eq,List.cons_append,List.nil_append]
 go_upto_region 9 with fail
 rw[← hw6]
 clear hw6 d0 d1 d2 d3 d4 d5 d6 d7 p0 p1 p2
 obtain⟨⟨b0,b1,b2,b3,b4,b5,b6,b7⟩,p0,p1,p2⟩:=RK.cells H6
 have HC:Hid (Calls prog 15 #[.int .i64 5] w6 fun e w'=>e=.returned (.string ⟨#[107]⟩)∧Below w6.heap.size w6 w'):=uses_any 5 w6
 go_wp2_with fail
 refine HC.out.mono ?_
 rintro e w7 ⟨rfl,hb⟩
 have H7:=RK.next H6 hb
 clear HC b0 b1 b2 b3 b4 b5 b6 b7 p0 p1 p2 hb H6
 have hcmp:((⟨#[107]⟩:ByteArray).toList==(⟨#[45]⟩:ByteArray).toList)=false:=bne_list (by decide)
 obtain⟨⟨b0,b1,b2,b3,b4,b5,b6,b7⟩,p0,p1,p2⟩:=RK.cells H7
 have HC:=hasX ⟨#[107]⟩ ⟨#[116,103,99]⟩ false w7 (by decide) (by decide) rfl
 go_wp2_with fail
 refine HC.out.mono ?_
 rintro e w8 ⟨rfl,hb⟩
 have H8:=RK.next H7 hb
 clear HC b0 b1 b2 b3 b4 b5 b6 b7 p0 p1 p2 hb H7
 clear hcmp
 obtain⟨⟨b0,b1,b2,b3,b4,b5,b6,b7⟩,p0,p1,p2⟩:=RK.cells H8
 by_cases hto:to=0
 rotate_left
 ·have hn2:(to==0)=false:=by simpa using hto
  have HE:=rE HR (opE_form (f:=⟨0,0,false,true,false,false,false⟩) rfl (by simp[formB,hto])) (by decide:(1:Int)≠0)
  clear hto
  go_wp2
  go_ret
  exact rF HE rfl H8.out.bb
 subst hto
 clear b0 b1 b2 b3 b4 b5 b6 b7 p0 p1 p2
 obtain⟨⟨b0,b1,b2,b3,b4,b5,b6,b7⟩,p0,p1,p2⟩:=RK.cells H8
 have HC:=hasX ⟨#[107]⟩ ⟨#[111,100]⟩ false w8 (by decide) (by decide) rfl
 go_wp2_with fail
 refine HC.out.mono ?_
 rintro e w9 ⟨rfl,hb⟩
 have H9:=RK.next H8 hb
 clear HC b0 b1 b2 b3 b4 b5 b6 b7 p0 p1 p2 hb H8
 obtain⟨⟨b0,b1,b2,b3,b4,b5,b6,b7⟩,p0,p1,p2⟩:=RK.cells H9
 by_cases hother:other=0
 rotate_left
 ·have hn2:(other==0)=false:=by simpa using hother
  have HE:=rE HR (opE_form (f:=⟨0,0,false,true,false,false,false⟩) rfl (by simp[formB,hother])) (by decide:(1:Int)≠0)
  clear hother
  go_wp2
  go_ret
  exact rF HE rfl H9.out.bb
 subst hother
 clear b0 b1 b2 b3 b4 b5 b6 b7 p0 p1 p2
 obtain⟨⟨b0,b1,b2,b3,b4,b5,b6,b7⟩,p0,p1,p2⟩:=RK.cells H9
 have HC:=hasX ⟨#[107]⟩ ⟨#[108]⟩ false w9 (by decide) (by decide) rfl
 go_wp2_with fail
 refine HC.out.mono ?_
 rintro e w10 ⟨rfl,hb⟩
 have H10:=RK.next H9 hb
 clear HC b0 b1 b2 b3 b4 b5 b6 b7 p0 p1 p2 hb H9
 obtain⟨⟨b0,b1,b2,b3,b4,b5,b6,b7⟩,p0,p1,p2⟩:=RK.cells H10
 by_cases hleast:least=0
 rotate_left
 ·have hn2:(least==0)=false:=by simpa using hleast
  have HE:=rE HR (opE_form (f:=⟨0,0,false,true,false,false,false⟩) rfl (by simp[formB,hleast])) (by decide:(1:Int)≠0)
  clear hleast
  go_wp2
  go_ret
  exact rF HE rfl H10.out.bb
 subst hleast
 clear b0 b1 b2 b3 b4 b5 b6 b7 p0 p1 p2
 obtain⟨⟨b0,b1,b2,b3,b4,b5,b6,b7⟩,p0,p1,p2⟩:=RK.cells H10
 have HC:=hasX ⟨#[107]⟩ ⟨#[107]⟩ true w10 (by decide) (by decide) rfl
 go_wp2_with fail
 refine HC.out.mono ?_
 rintro e w11 ⟨rfl,hb⟩
 have H11:=RK.next H10 hb
 clear HC b0 b1 b2 b3 b4 b5 b6 b7 p0 p1 p2 hb H10
 obtain⟨⟨b0,b1,b2,b3,b4,b5,b6,b7⟩,p0,p1,p2⟩:=RK.cells H11
 have HC:=hasX ⟨#[107]⟩ ⟨#[115]⟩ false w11 (by decide) (by decide) rfl
 go_wp2_with fail
 refine HC.out.mono ?_
 rintro e w12 ⟨rfl,hb⟩
 have H12:=RK.next H11 hb
 clear HC b0 b1 b2 b3 b4 b5 b6 b7 p0 p1 p2 hb H11
 obtain⟨⟨b0,b1,b2,b3,b4,b5,b6,b7⟩,p0,p1,p2⟩:=RK.cells H12
 by_cases hsl:sl=0
 rotate_left
 ·have hn2:((sl:Int)==0)=false:=by simpa using hsl
  have HE:=rE HR (opE_form (f:=⟨0,0,false,true,false,false,false⟩) rfl (by simp[formB,hsl])) (by decide:(1:Int)≠0)
  have h0sl:(0:Int)<(sl:Int):=by omega
  clear hsl
  go_wp2
  go_ret
  exact rF HE rfl H12.out.bb
 subst hsl
 clear b0 b1 b2 b3 b4 b5 b6 b7 p0 p1 p2
 obtain⟨⟨b0,b1,b2,b3,b4,b5,b6,b7⟩,p0,p1,p2⟩:=RK.cells H12
 have HC:=hasX ⟨#[107]⟩ ⟨#[102]⟩ false w12 (by decide) (by decide) rfl
 go_wp2_with fail
 refine HC.out.mono ?_
 rintro e w13 ⟨rfl,hb⟩
 have H13:=RK.next H12 hb
 clear HC b0 b1 b2 b3 b4 b5 b6 b7 p0 p1 p2 hb H12
 obtain⟨⟨b0,b1,b2,b3,b4,b5,b6,b7⟩,p0,p1,p2⟩:=RK.cells H13
 cases fold
 rotate_left
 ·have HE:=rE HR (opE_form (f:=⟨0,0,false,true,false,false,false⟩) rfl (by simp[formB])) (by decide:(1:Int)≠0)
  go_wp2
  go_ret
  exact rF HE rfl H13.out.bb
 clear b0 b1 b2 b3 b4 b5 b6 b7 p0 p1 p2
 obtain⟨⟨b0,b1,b2,b3,b4,b5,b6,b7⟩,p0,p1,p2⟩:=RK.cells H13
 have HC:=hasX ⟨#[107]⟩ ⟨#[98]⟩ false w13 (by decide) (by decide) rfl
 go_wp2_with fail
 refine HC.out.mono ?_
 rintro e w14 ⟨rfl,hb⟩
 have H14:=RK.next H13 hb
 clear HC b0 b1 b2 b3 b4 b5 b6 b7 p0 p1 p2 hb H13
 obtain⟨⟨b0,b1,b2,b3,b4,b5,b6,b7⟩,p0,p1,p2⟩:=RK.cells H14
 cases back
 rotate_left
 ·have HE:=rE HR (opE_form (f:=⟨0,0,false,true,false,false,false⟩) rfl (by simp[formB])) (by decide:(1:Int)≠0)
  go_wp2
  go_ret
  exact rF HE rfl H14.out.bb
 clear b0 b1 b2 b3 b4 b5 b6 b7 p0 p1 p2
 obtain⟨⟨b0,b1,b2,b3,b4,b5,b6,b7⟩,p0,p1,p2⟩:=RK.cells H14
 have HC:=hide (checkSet_any _ S w14 H14.out.s)
 obtain⟨z,hz⟩:=named (checkE S)
 rw[← hz]at HC
 have HZ:=hide hz
 clear hz
 go_wp2_with fail
 refine HC.out.mono ?_
 rintro e w15 ⟨rfl,hb⟩
 have H15:=RK.next H14 hb
 clear HC b0 b1 b2 b3 b4 b5 b6 b7 p0 p1 p2 hb H14
 by_cases hz0:z=0
 rotate_left
 ·have HE:Hid (R=z):=rE HR ((opE_set (f:=⟨0,0,false,true,false,false,false⟩) rfl (by simp[formB]) (by show checkE S≠0;rw[← HZ.out];exact hz0)).trans HZ.out.symm) hz0
  have bz:(z==0)=false:=by simpa using hz0
  have bz2:(z !=0)=true:=by simpa using hz0
  clear hz0
  go_wp2
  go_ret
  exact rF HE rfl H15.out.bb
 subst hz0
 have HEr:Hid (opE ol g c (⟨5,sa,0,sc,0,0,kind,0,false,false⟩,S)=if rangeB ⟨0,0,false,true,false,false,false⟩ ol g c ⟨5,sa,0,sc,0,0,kind,0,false,false⟩then 0 else 3):=opE_range (f:=⟨0,0,false,true,false,false,false⟩) rfl (by simp[formB]) HZ.out.symm
 obtain⟨⟨b0,b1,b2,b3,b4,b5,b6,b7⟩,p0,p1,p2⟩:=RK.cells H15
 have HC:=hasX ⟨#[107]⟩ ⟨#[116]⟩ false w15 (by decide) (by decide) rfl
 go_wp2_with fail
 refine HC.out.mono ?_
 rintro e w16 ⟨rfl,hb⟩
 have H16:=RK.next H15 hb
 clear HC b0 b1 b2 b3 b4 b5 b6 b7 p0 p1 p2 hb H15
 obtain⟨⟨b0,b1,b2,b3,b4,b5,b6,b7⟩,p0,p1,p2⟩:=RK.cells H16
 have HC:=hasX ⟨#[107]⟩ ⟨#[111]⟩ false w16 (by decide) (by decide) rfl
 go_wp2_with fail
 refine HC.out.mono ?_
 rintro e w17 ⟨rfl,hb⟩
 have H17:=RK.next H16 hb
 clear HC b0 b1 b2 b3 b4 b5 b6 b7 p0 p1 p2 hb H16
 obtain⟨⟨b0,b1,b2,b3,b4,b5,b6,b7⟩,p0,p1,p2⟩:=RK.cells H17
 have HC:=hasX ⟨#[107]⟩ ⟨#[103]⟩ false w17 (by decide) (by decide) rfl
 go_wp2_with fail
 refine HC.out.mono ?_
 rintro e w18 ⟨rfl,hb⟩
 have H18:=RK.next H17 hb
 clear HC b0 b1 b2 b3 b4 b5 b6 b7 p0 p1 p2 hb H17
 obtain⟨⟨b0,b1,b2,b3,b4,b5,b6,b7⟩,p0,p1,p2⟩:=RK.cells H18
 have HC:=hasX ⟨#[107]⟩ ⟨#[99]⟩ false w18 (by decide) (by decide) rfl
 go_wp2_with fail
 refine HC.out.mono ?_
 rintro e w19 ⟨rfl,hb⟩
 have H19:=RK.next H18 hb
 clear HC b0 b1 b2 b3 b4 b5 b6 b7 p0 p1 p2 hb H18
 obtain⟨⟨b0,b1,b2,b3,b4,b5,b6,b7⟩,p0,p1,p2⟩:=RK.cells H19
 have HC:=hasX ⟨#[107]⟩ ⟨#[100]⟩ false w19 (by decide) (by decide) rfl
 go_wp2_with fail
 refine HC.out.mono ?_
 rintro e w20 ⟨rfl,hb⟩
 have H20:=RK.next H19 hb
 clear HC b0 b1 b2 b3 b4 b5 b6 b7 p0 p1 p2 hb H19
 obtain⟨⟨b0,b1,b2,b3,b4,b5,b6,b7⟩,p0,p1,p2⟩:=RK.cells H20
 have HC:Hid (Calls prog 20 #[.int .i64 0,.int .i64 0,.int .i64 1000] w20 fun e w'=>e=.returned (.bool (true))∧w'=w20):=betw_any 0 0 1000 w20
 go_wp2_with fail
 refine HC.out.mono ?_
 rintro e w' ⟨rfl,hw'⟩
 have hw2:=hw'.symm
 subst hw2
 clear HC
 clear b0 b1 b2 b3 b4 b5 b6 b7 p0 p1 p2
 obtain⟨⟨b0,b1,b2,b3,b4,b5,b6,b7⟩,p0,p1,p2⟩:=RK.cells H20
 have HC:=hasX ⟨#[107]⟩ ⟨#[107]⟩ true w20 (by decide) (by decide) rfl
 go_wp2_with fail
 refine HC.out.mono ?_
 rintro e w21 ⟨rfl,hb⟩
 have H21:=RK.next H20 hb
 clear HC b0 b1 b2 b3 b4 b5 b6 b7 p0 p1 p2 hb H20
 obtain⟨⟨b0,b1,b2,b3,b4,b5,b6,b7⟩,p0,p1,p2⟩:=RK.cells H21
 have HC:Hid (Calls prog 20 #[.int .i64 kind,.int .i64 3,.int .i64 8] w21 fun e w'=>e=.returned (.bool (decide (3≤kind)&&decide (kind≤8)))∧w'=w21):=betw_any kind 3 8 w21
 obtain⟨q,hq⟩:=named ((decide (3≤kind)&&decide (kind≤8)))
 rw[← hq]at HC
 have HQ7:=hide hq.symm
 clear hq
 go_wp2_with fail
 refine HC.out.mono ?_
 rintro e w' ⟨rfl,hw'⟩
 have hw2:=hw'.symm
 subst hw2
 clear HC
 cases q
 ·have HE:Hid (R=3):=rE HR (by rw[HEr.out];simp[rangeB,HQ7.out,hasB_0]) (by decide)
  go_wp2
  go_ret
  exact rF HE rfl H21.out.bb
 clear b0 b1 b2 b3 b4 b5 b6 b7 p0 p1 p2
 have HL2:=hide (and_true HQ7.out)
 have HE0:Hid (opE ol g c (⟨5,sa,0,sc,0,0,kind,0,false,false⟩,S)=0):=by show _=_;rw[HEr.out];simp[rangeB,hasB_0,HL2.out.1,HL2.out.2]
 obtain⟨⟨b0,b1,b2,b3,b4,b5,b6,b7⟩,p0,p1,p2⟩:=RK.cells H21
 go_wp2
 exact HK.out HE0.out H21.out.bb H21.out.b
theorem rnd_x6(hd:o.dn=6)(hX:w5.heap[kb]? =some (prO (some x) ol oc g c))(hB:Below w.heap.size w w5)(hO:OCells w5 (x.add (j*8)) o)(hS:Reads w5 (.slice o.sa o.sl o.sc) S)(hj:(j:Int)<(ol:Int))(hoc:ol≤9223372036854775807)(hK:CpK K' x ol oc g c kb j w w5 o S c9 c10 c11 c12 c13 c14 c15 c16 c17 c18 c19 c20 c21 c22 c23 c24 c25 c26 c27 c28 c29 c30 c31 c184 c185 c186 c187 c188 c189 c190 c191 c192 c193 c194 c195 c196 c197 c198 c199 c200 c201 c202)(hR:opE ol g c (o,S)≠0→R=opE ol g c (o,S)):CpW K' K w R (cpF (some x) ol oc g c kb j c9 c10 c11 c12 c13 c14 c15 c16 c17 c18 c19 c20 c21 c22 c23 c24 c25 c26 c27 c28 c29 c30 c31 c184 c185 c186 c187 c188 c189 c190 c191 c192 c193 c194 c195 c196 c197 c198 c199 c200 c201 c202 u2 u4 u5 u6 u7 u8 u32 u33 u34 u35 u36 u37 u38 u39 u40 u41 u42 u43 u44 u45 u46 u47 u48 u49 u50 u51 u52 u53 u54 u55 u56 u57 u58 u59 u60 u61 u62 u63 u64 u65 u66 u67 u68 u69 u70 u71 u72 u73 u74 u75 u76 u77 u78 u79 u80 u81 u82 u83 u84 u85 u86 u87 u88 u89 u90 u91 u92 u93 u94 u95 u96 u97 u98 u99 u100 u101 u102 u103 u104 u105 u106 u107 u108 u109 u110 u111 u112 u113 u114 u115 u116 u117 u118 u119 u120 u121 u122 u123 u124 u125 u126 u127 u128 u129 u130 u131 u132 u133 u134 u135 u136 u137 u138 u139 u140 u141 u142 u143 u144 u145 u146 u147 u148 u149 u150 u151 u152 u153 u154 u155 u156 u157 u158 u159 u160 u161 u162 u163 u164 u165 u166 u167 u168 u169 u170 u171 u172 u173 u174 u175 u176 u177 u178 u179 u180 u181 u182 u183) w5:=by
 obtain⟨dn,sa,sl,sc,to,other,kind,least,fold,back⟩:=o
 simp only at hd hS
 subst hd
 obtain⟨d0,d1,d2,d3,d4,d5,d6,d7⟩:=hO
 simp only at d0 d1 d2 d3 d4 d5 d6 d7
 obtain⟨p0,p1,p2⟩:=pr_cells hX
 have hjw:IntKind.i64.wrap ((j:Int)+1)=(j:Int)+1:=by rw[IntKind.wrap_i64];omega
 have e4:(0:Int)≤(j:Int):=by omega
 obtain⟨w6,hw6,hB6,hbx⟩:=newOp w5 ⟨6,sa,sl,sc,to,other,kind,least,fold,back⟩
 have H6:=hide (RK.mk hB6 (hB.andT hB6) hbx ((hB6.block _ (lt_of_block hX)).trans hX) (hS.below hB6))
 have HK:=hide hK
 have HR:=hide hR
 simp only[opO]at hw6
 clear hK hR hB hX hB6 hbx hS
 unfold CpW cpF
 conv=>arg 2;whnf
 simp only[List.append_eq,List.cons_append,List.nil_append]
 go_upto_region 9 with fail
 rw[← hw6]
 clear hw6 d0 d1 d2 d3 d4 d5 d6 d7 p0 p1 p2
 obtain⟨⟨b0,b1,b2,b3,b4,b5,b6,b7⟩,p0,p1,p2⟩:=RK.cells H6
 have HC:Hid (Calls prog 15 #[.int .i64 6] w6 fun e w'=>e=.returned (.string ⟨#[103,102]⟩)∧Below w6.heap.size w6 w'):=uses_any 6 w6
 go_wp2_with fail
 refine HC.out.mono ?_
 rintro e w7 ⟨rfl,hb⟩
 have H7:=RK.next H6 hb
 clear HC b0 b1 b2 b3 b4 b5 b6 b7 p0 p1 p2 hb H6
 have hcmp:((⟨#[103,102]⟩:ByteArray).toList==(⟨#[45]⟩:ByteArray).toList)=false:=bne_list (by decide)
 obtain⟨⟨b0,b1,b2,b3,b4,b5,b6,b7⟩,p0,p1,p2⟩:=RK.cells H7
 have HC:=hasX ⟨#[103,102]⟩ ⟨#[116,103,99]⟩ true w7 (by decide) (by decide) rfl
 go_wp2_with fail
 refine HC.out.mono ?_
 rintro e w8 ⟨rfl,hb⟩
 have H8:=RK.next H7 hb
 clear HC b0 b1 b2 b3 b4 b5 b6 b7 p0 p1 p2 hb H7
 clear hcmp
 obtain⟨⟨b0,b1,b2,b3,b4,b5,b6,b7⟩,p0,p1,p2⟩:=RK.cells H8
 have HC:=hasX ⟨#[103,102]⟩ ⟨#[111,100]⟩ false w8 (by decide) (by decide) rfl
 go_wp2_with fail
 refine HC.out.mono ?_
 rintro e w9 ⟨rfl,hb⟩
 have H9:=RK.next H8 hb
 clear HC b0 b1 b2 b3 b4 b5 b6 b7 p0 p1 p2 hb H8
 obtain⟨⟨b0,b1,b2,b3,b4,b5,b6,b7⟩,p0,p1,p2⟩:=RK.cells H9
 by_cases hother:other=0
 rotate_left
 ·have hn2:(other==0)=false:=by simpa using hother
  have HE:=rE HR (opE_form (f:=⟨2,0,false,false,false,true,false⟩) rfl (by simp[formB,hother])) (by decide:(1:Int)≠0)
  clear hother
  go_wp2
  go_ret
  exact rF HE rfl H9.out.bb
 subst hother
 clear b0 b1 b2 b3 b4 b5 b6 b7 p0 p1 p2
 obtain⟨⟨b0,b1,b2,b3,b4,b5,b6,b7⟩,p0,p1,p2⟩:=RK.cells H9
 have HC:=hasX ⟨#[103,102]⟩ ⟨#[108]⟩ false w9 (by decide) (by decide) rfl
 go_wp2_with fail
 refine HC.out.mono ?_
 rintro e w10 ⟨rfl,hb⟩
 have H10:=RK.next H9 hb
 clear HC b0 b1 b2 b3 b4 b5 b6 b7 p0 p1 p2 hb H9
 obtain⟨⟨b0,b1,b2,b3,b4,b5,b6,b7⟩,p0,p1,p2⟩:=RK.cells H10
 by_cases hleast:least=0
 rotate_left
 ·have hn2:(least==0)=false:=by simpa using hleast
  have HE:=rE HR (opE_form (f:=⟨2,0,false,false,false,true,false⟩) rfl (by simp[formB,hleast])) (by decide:(1:Int)≠0)
  clear hleast
  go_wp2
  go_ret
  exact rF HE rfl H10.out.bb
 subst hleast
 clear b0 b1 b2 b3 b4 b5 b6 b7 p0 p1 p2
 obtain⟨⟨b0,b1,b2,b3,b4,b5,b6,b7⟩,p0,p1,p2⟩:=RK.cells H10
 have HC:=hasX ⟨#[103,102]⟩ ⟨#[107]⟩ false w10 (by decide) (by decide) rfl
 go_wp2_with fail
 refine HC.out.mono ?_
 rintro e w11 ⟨rfl,hb⟩
 have H11:=RK.next H10 hb
 clear HC b0 b1 b2 b3 b4 b5 b6 b7 p0 p1 p2 hb H10
 obtain⟨⟨b0,b1,b2,b3,b4,b5,b6,b7⟩,p0,p1,p2⟩:=RK.cells H11
 by_cases hkind:kind=0
 rotate_left
 ·have hn2:(kind==0)=false:=by simpa using hkind
  have HE:=rE HR (opE_form (f:=⟨2,0,false,false,false,true,false⟩) rfl (by simp[formB,hkind])) (by decide:(1:Int)≠0)
  clear hkind
  go_wp2
  go_ret
  exact rF HE rfl H11.out.bb
 subst hkind
 clear b0 b1 b2 b3 b4 b5 b6 b7 p0 p1 p2
 obtain⟨⟨b0,b1,b2,b3,b4,b5,b6,b7⟩,p0,p1,p2⟩:=RK.cells H11
 have HC:=hasX ⟨#[103,102]⟩ ⟨#[115]⟩ false w11 (by decide) (by decide) rfl
 go_wp2_with fail
 refine HC.out.mono ?_
 rintro e w12 ⟨rfl,hb⟩
 have H12:=RK.next H11 hb
 clear HC b0 b1 b2 b3 b4 b5 b6 b7 p0 p1 p2 hb H11
 obtain⟨⟨b0,b1,b2,b3,b4,b5,b6,b7⟩,p0,p1,p2⟩:=RK.cells H12
 by_cases hsl:sl=0
 rotate_left
 ·have hn2:((sl:Int)==0)=false:=by simpa using hsl
  have HE:=rE HR (opE_form (f:=⟨2,0,false,false,false,true,false⟩) rfl (by simp[formB,hsl])) (by decide:(1:Int)≠0)
  have h0sl:(0:Int)<(sl:Int):=by omega
  clear hsl
  go_wp2
  go_ret
  exact rF HE rfl H12.out.bb
 subst hsl
 clear b0 b1 b2 b3 b4 b5 b6 b7 p0 p1 p2
 obtain⟨⟨b0,b1,b2,b3,b4,b5,b6,b7⟩,p0,p1,p2⟩:=RK.cells H12
 have HC:=hasX ⟨#[103,102]⟩ ⟨#[102]⟩ true w12 (by decide) (by decide) rfl
 go_wp2_with fail
 refine HC.out.mono ?_
 rintro e w13 ⟨rfl,hb⟩
 have H13:=RK.next H12 hb
 clear HC b0 b1 b2 b3 b4 b5 b6 b7 p0 p1 p2 hb H12
 obtain⟨⟨b0,b1,b2,b3,b4,b5,b6,b7⟩,p0,p1,p2⟩:=RK.cells H13
 have HC:=hasX ⟨#[103,102]⟩ ⟨#[98]⟩ false w13 (by decide) (by decide) rfl
 go_wp2_with fail
 refine HC.out.mono ?_
 rintro e w14 ⟨rfl,hb⟩
 have H14:=RK.next H13 hb
 clear HC b0 b1 b2 b3 b4 b5 b6 b7 p0 p1 p2 hb H13
 obtain⟨⟨b0,b1,b2,b3,b4,b5,b6,b7⟩,p0,p1,p2⟩:=RK.cells H14
 cases back
 rotate_left
 ·have HE:=rE HR (opE_form (f:=⟨2,0,false,false,false,true,false⟩) rfl (by simp[formB])) (by decide:(1:Int)≠0)
  go_wp2
  go_ret
  exact rF HE rfl H14.out.bb
 clear b0 b1 b2 b3 b4 b5 b6 b7 p0 p1 p2
 obtain⟨⟨b0,b1,b2,b3,b4,b5,b6,b7⟩,p0,p1,p2⟩:=RK.cells H14
 have HC:=hide (checkSet_any _ S w14 H14.out.s)
 obtain⟨z,hz⟩:=named (checkE S)
 rw[← hz]at HC
 have HZ:=hide hz
 clear hz
 go_wp2_with fail
 refine HC.out.mono ?_
 rintro e w15 ⟨rfl,hb⟩
 have H15:=RK.next H14 hb
 clear HC b0 b1 b2 b3 b4 b5 b6 b7 p0 p1 p2 hb H14
 by_cases hz0:z=0
 rotate_left
 ·have HE:Hid (R=z):=rE HR ((opE_set (f:=⟨2,0,false,false,false,true,false⟩) rfl (by simp[formB]) (by show checkE S≠0;rw[← HZ.out];exact hz0)).trans HZ.out.symm) hz0
  have bz:(z==0)=false:=by simpa using hz0
  have bz2:(z !=0)=true:=by simpa using hz0
  clear hz0
  go_wp2
  go_ret
  exact rF HE rfl H15.out.bb
 subst hz0
 have HEr:Hid (opE ol g c (⟨6,sa,0,sc,to,0,0,0,fold,false⟩,S)=if rangeB ⟨2,0,false,false,false,true,false⟩ ol g c ⟨6,sa,0,sc,to,0,0,0,fold,false⟩then 0 else 3):=opE_range (f:=⟨2,0,false,false,false,true,false⟩) rfl (by simp[formB]) HZ.out.symm
 obtain⟨⟨b0,b1,b2,b3,b4,b5,b6,b7⟩,p0,p1,p2⟩:=RK.cells H15
 have HC:=hasX ⟨#[103,102]⟩ ⟨#[116]⟩ false w15 (by decide) (by decide) rfl
 go_wp2_with fail
 refine HC.out.mono ?_
 rintro e w16 ⟨rfl,hb⟩
 have H16:=RK.next H15 hb
 clear HC b0 b1 b2 b3 b4 b5 b6 b7 p0 p1 p2 hb H15
 obtain⟨⟨b0,b1,b2,b3,b4,b5,b6,b7⟩,p0,p1,p2⟩:=RK.cells H16
 have HC:=hasX ⟨#[103,102]⟩ ⟨#[111]⟩ false w16 (by decide) (by decide) rfl
 go_wp2_with fail
 refine HC.out.mono ?_
 rintro e w17 ⟨rfl,hb⟩
 have H17:=RK.next H16 hb
 clear HC b0 b1 b2 b3 b4 b5 b6 b7 p0 p1 p2 hb H16
 obtain⟨⟨b0,b1,b2,b3,b4,b5,b6,b7⟩,p0,p1,p2⟩:=RK.cells H17
 have HC:=hasX ⟨#[103,102]⟩ ⟨#[103]⟩ true w17 (by decide) (by decide) rfl
 go_wp2_with fail
 refine HC.out.mono ?_
 rintro e w18 ⟨rfl,hb⟩
 have H18:=RK.next H17 hb
 clear HC b0 b1 b2 b3 b4 b5 b6 b7 p0 p1 p2 hb H17
 obtain⟨⟨b0,b1,b2,b3,b4,b5,b6,b7⟩,p0,p1,p2⟩:=RK.cells H18
 have HC:Hid (Calls prog 20 #[.int .i64 to,.int .i64 1,.int .i64 g] w18 fun e w'=>e=.returned (.bool (hasB 2 ol g c to))∧w'=w18):=betw_any to 1 g w18
 obtain⟨q,hq⟩:=named ((hasB 2 ol g c to))
 rw[← hq]at HC
 have HQ2:=hide hq.symm
 clear hq
 go_wp2_with fail
 refine HC.out.mono ?_
 rintro e w' ⟨rfl,hw'⟩
 have hw2:=hw'.symm
 subst hw2
 clear HC
 cases q
 ·have HE:Hid (R=3):=rE HR (by rw[HEr.out];simp[rangeB,HQ2.out,hasB_0]) (by decide)
  go_wp2
  go_ret
  exact rF HE rfl H18.out.bb
 clear b0 b1 b2 b3 b4 b5 b6 b7 p0 p1 p2
 obtain⟨⟨b0,b1,b2,b3,b4,b5,b6,b7⟩,p0,p1,p2⟩:=RK.cells H18
 have HC:=hasX ⟨#[103,102]⟩ ⟨#[99]⟩ false w18 (by decide) (by decide) rfl
 go_wp2_with fail
 refine HC.out.mono ?_
 rintro e w19 ⟨rfl,hb⟩
 have H19:=RK.next H18 hb
 clear HC b0 b1 b2 b3 b4 b5 b6 b7 p0 p1 p2 hb H18
 obtain⟨⟨b0,b1,b2,b3,b4,b5,b6,b7⟩,p0,p1,p2⟩:=RK.cells H19
 have HC:=hasX ⟨#[103,102]⟩ ⟨#[100]⟩ false w19 (by decide) (by decide) rfl
 go_wp2_with fail
 refine HC.out.mono ?_
 rintro e w20 ⟨rfl,hb⟩
 have H20:=RK.next H19 hb
 clear HC b0 b1 b2 b3 b4 b5 b6 b7 p0 p1 p2 hb H19
 obtain⟨⟨b0,b1,b2,b3,b4,b5,b6,b7⟩,p0,p1,p2⟩:=RK.cells H20
 have HC:Hid (Calls prog 20 #[.int .i64 0,.int .i64 0,.int .i64 1000] w20 fun e w'=>e=.returned (.bool (true))∧w'=w20):=betw_any 0 0 1000 w20
 go_wp2_with fail
 refine HC.out.mono ?_
 rintro e w' ⟨rfl,hw'⟩
 have hw2:=hw'.symm
 subst hw2
 clear HC
 clear b0 b1 b2 b3 b4 b5 b6 b7 p0 p1 p2
 obtain⟨⟨b0,b1,b2,b3,b4,b5,b6,b7⟩,p0,p1,p2⟩:=RK.cells H20
 have HC:=hasX ⟨#[103,102]⟩ ⟨#[107]⟩ false w20 (by decide) (by decide) rfl
 go_wp2_with fail
 refine HC.out.mono ?_
 rintro e w21 ⟨rfl,hb⟩
 have H21:=RK.next H20 hb
 clear HC b0 b1 b2 b3 b4 b5 b6 b7 p0 p1 p2 hb H20
 have HE0:Hid (opE ol g c (⟨6,sa,0,sc,to,0,0,0,fold,false⟩,S)=0):=by show _=_;rw[HEr.out];simp[rangeB,hasB_0,HQ2.out]
 obtain⟨⟨b0,b1,b2,b3,b4,b5,b6,b7⟩,p0,p1,p2⟩:=RK.cells H21
 go_wp2
 exact HK.out HE0.out H21.out.bb H21.out.b
theorem rnd_x7(hd:o.dn=7)(hX:w5.heap[kb]? =some (prO (some x) ol oc g c))(hB:Below w.heap.size w w5)(hO:OCells w5 (x.add (j*8)) o)(hS:Reads w5 (.slice o.sa o.sl o.sc) S)(hj:(j:Int)<(ol:Int))(hoc:ol≤9223372036854775807)(hK:CpK K' x ol oc g c kb j w w5 o S c9 c10 c11 c12 c13 c14 c15 c16 c17 c18 c19 c20 c21 c22 c23 c24 c25 c26 c27 c28 c29 c30 c31 c184 c185 c186 c187 c188 c189 c190 c191 c192 c193 c194 c195 c196 c197 c198 c199 c200 c201 c202)(hR:opE ol g c (o,S)≠0→R=opE ol g c (o,S)):CpW K' K w R (cpF (some x) ol oc g c kb j c9 c10 c11 c12 c13 c14 c15 c16 c17 c18 c19 c20 c21 c22 c23 c24 c25 c26 c27 c28 c29 c30 c31 c184 c185 c186 c187 c188 c189 c190 c191 c192 c193 c194 c195 c196 c197 c198 c199 c200 c201 c202 u2 u4 u5 u6 u7 u8 u32 u33 u34 u35 u36 u37 u38 u39 u40 u41 u42 u43 u44 u45 u46 u47 u48 u49 u50 u51 u52 u53 u54 u55 u56 u57 u58 u59 u60 u61 u62 u63 u64 u65 u66 u67 u68 u69 u70 u71 u72 u73 u74 u75 u76 u77 u78 u79 u80 u81 u82 u83 u84 u85 u86 u87 u88 u89 u90 u91 u92 u93 u94 u95 u96 u97 u98 u99 u100 u101 u102 u103 u104 u105 u106 u107 u108 u109 u110 u111 u112 u113 u114 u115 u116 u117 u118 u119 u120 u121 u122 u123 u124 u125 u126 u127 u128 u129 u130 u131 u132 u133 u134 u135 u136 u137 u138 u139 u140 u141 u142 u143 u144 u145 u146 u147 u148 u149 u150 u151 u152 u153 u154 u155 u156 u157 u158 u159 u160 u161 u162 u163 u164 u165 u166 u167 u168 u169 u170 u171 u172 u173 u174 u175 u176 u177 u178 u179 u180 u181 u182 u183) w5:=by
 obtain⟨dn,sa,sl,sc,to,other,kind,least,fold,back⟩:=o
 simp only at hd hS
 subst hd
 obtain⟨d0,d1,d2,d3,d4,d5,d6,d7⟩:=hO
 simp only at d0 d1 d2 d3 d4 d5 d6 d7
 obtain⟨p0,p1,p2⟩:=pr_cells hX
 have hjw:IntKind.i64.wrap ((j:Int)+1)=(j:Int)+1:=by rw[IntKind.wrap_i64];omega
 have e4:(0:Int)≤(j:Int):=by omega
 obtain⟨w6,hw6,hB6,hbx⟩:=newOp w5 ⟨7,sa,sl,sc,to,other,kind,least,fold,back⟩
 have H6:=hide (RK.mk hB6 (hB.andT hB6) hbx ((hB6.block _ (lt_of_block hX)).trans hX) (hS.below hB6))
 have HK:=hide hK
 have HR:=hide hR
 simp only[opO]at hw6
 clear hK hR hB hX hB6 hbx hS
 unfold CpW cpF
 conv=>arg 2;whnf
 simp only[List.append_eq,List.cons_append,List.nil_append]
 go_upto_region 9 with fail
 rw[← hw6]
 clear hw6 d0 d1 d2 d3 d4 d5 d6 d7 p0 p1 p2
 obtain⟨⟨b0,b1,b2,b3,b4,b5,b6,b7⟩,p0,p1,p2⟩:=RK.cells H6
 have HC:Hid (Calls prog 15 #[.int .i64 7] w6 fun e w'=>e=.returned (.string ⟨#[99]⟩)∧Below w6.heap.size w6 w'):=uses_any 7 w6
 go_wp2_with fail
 refine HC.out.mono ?_
 rintro e w7 ⟨rfl,hb⟩
 have H7:=RK.next H6 hb
 clear HC b0 b1 b2 b3 b4 b5 b6 b7 p0 p1 p2 hb H6
 have hcmp:((⟨#[99]⟩:ByteArray).toList==(⟨#[45]⟩:ByteArray).toList)=false:=bne_list (by decide)
 obtain⟨⟨b0,b1,b2,b3,b4,b5,b6,b7⟩,p0,p1,p2⟩:=RK.cells H7
 have HC:=hasX ⟨#[99]⟩ ⟨#[116,103,99]⟩ true w7 (by decide) (by decide) rfl
 go_wp2_with fail
 refine HC.out.mono ?_
 rintro e w8 ⟨rfl,hb⟩
 have H8:=RK.next H7 hb
 clear HC b0 b1 b2 b3 b4 b5 b6 b7 p0 p1 p2 hb H7
 clear hcmp
 obtain⟨⟨b0,b1,b2,b3,b4,b5,b6,b7⟩,p0,p1,p2⟩:=RK.cells H8
 have HC:=hasX ⟨#[99]⟩ ⟨#[111,100]⟩ false w8 (by decide) (by decide) rfl
 go_wp2_with fail
 refine HC.out.mono ?_
 rintro e w9 ⟨rfl,hb⟩
 have H9:=RK.next H8 hb
 clear HC b0 b1 b2 b3 b4 b5 b6 b7 p0 p1 p2 hb H8
 obtain⟨⟨b0,b1,b2,b3,b4,b5,b6,b7⟩,p0,p1,p2⟩:=RK.cells H9
 by_cases hother:other=0
 rotate_left
 ·have hn2:(other==0)=false:=by simpa using hother
  have HE:=rE HR (opE_form (f:=⟨3,0,false,false,false,false,false⟩) rfl (by simp[formB,hother])) (by decide:(1:Int)≠0)
  clear hother
  go_wp2
  go_ret
  exact rF HE rfl H9.out.bb
 subst hother
 clear b0 b1 b2 b3 b4 b5 b6 b7 p0 p1 p2
 obtain⟨⟨b0,b1,b2,b3,b4,b5,b6,b7⟩,p0,p1,p2⟩:=RK.cells H9
 have HC:=hasX ⟨#[99]⟩ ⟨#[108]⟩ false w9 (by decide) (by decide) rfl
 go_wp2_with fail
 refine HC.out.mono ?_
 rintro e w10 ⟨rfl,hb⟩
 have H10:=RK.next H9 hb
 clear HC b0 b1 b2 b3 b4 b5 b6 b7 p0 p1 p2 hb H9
 obtain⟨⟨b0,b1,b2,b3,b4,b5,b6,b7⟩,p0,p1,p2⟩:=RK.cells H10
 by_cases hleast:least=0
 rotate_left
 ·have hn2:(least==0)=false:=by simpa using hleast
  have HE:=rE HR (opE_form (f:=⟨3,0,false,false,false,false,false⟩) rfl (by simp[formB,hleast])) (by decide:(1:Int)≠0)
  clear hleast
  go_wp2
  go_ret
  exact rF HE rfl H10.out.bb
 subst hleast
 clear b0 b1 b2 b3 b4 b5 b6 b7 p0 p1 p2
 obtain⟨⟨b0,b1,b2,b3,b4,b5,b6,b7⟩,p0,p1,p2⟩:=RK.cells H10
 have HC:=hasX ⟨#[99]⟩ ⟨#[107]⟩ false w10 (by decide) (by decide) rfl
 go_wp2_with fail
 refine HC.out.mono ?_
 rintro e w11 ⟨rfl,hb⟩
 have H11:=RK.next H10 hb
 clear HC b0 b1 b2 b3 b4 b5 b6 b7 p0 p1 p2 hb H10
 obtain⟨⟨b0,b1,b2,b3,b4,b5,b6,b7⟩,p0,p1,p2⟩:=RK.cells H11
 by_cases hkind:kind=0
 rotate_left
 ·have hn2:(kind==0)=false:=by simpa using hkind
  have HE:=rE HR (opE_form (f:=⟨3,0,false,false,false,false,false⟩) rfl (by simp[formB,hkind])) (by decide:(1:Int)≠0)
  clear hkind
  go_wp2
  go_ret
  exact rF HE rfl H11.out.bb
 subst hkind
 clear b0 b1 b2 b3 b4 b5 b6 b7 p0 p1 p2
 obtain⟨⟨b0,b1,b2,b3,b4,b5,b6,b7⟩,p0,p1,p2⟩:=RK.cells H11
 have HC:=hasX ⟨#[99]⟩ ⟨#[115]⟩ false w11 (by decide) (by decide) rfl
 go_wp2_with fail
 refine HC.out.mono ?_
 rintro e w12 ⟨rfl,hb⟩
 have H12:=RK.next H11 hb
 clear HC b0 b1 b2 b3 b4 b5 b6 b7 p0 p1 p2 hb H11
 obtain⟨⟨b0,b1,b2,b3,b4,b5,b6,b7⟩,p0,p1,p2⟩:=RK.cells H12
 by_cases hsl:sl=0
 rotate_left
 ·have hn2:((sl:Int)==0)=false:=by simpa using hsl
  have HE:=rE HR (opE_form (f:=⟨3,0,false,false,false,false,false⟩) rfl (by simp[formB,hsl])) (by decide:(1:Int)≠0)
  have h0sl:(0:Int)<(sl:Int):=by omega
  clear hsl
  go_wp2
  go_ret
  exact rF HE rfl H12.out.bb
 subst hsl
 clear b0 b1 b2 b3 b4 b5 b6 b7 p0 p1 p2
 obtain⟨⟨b0,b1,b2,b3,b4,b5,b6,b7⟩,p0,p1,p2⟩:=RK.cells H12
 have HC:=hasX ⟨#[99]⟩ ⟨#[102]⟩ false w12 (by decide) (by decide) rfl
 go_wp2_with fail
 refine HC.out.mono ?_
 rintro e w13 ⟨rfl,hb⟩
 have H13:=RK.next H12 hb
 clear HC b0 b1 b2 b3 b4 b5 b6 b7 p0 p1 p2 hb H12
 obtain⟨⟨b0,b1,b2,b3,b4,b5,b6,b7⟩,p0,p1,p2⟩:=RK.cells H13
 cases fold
 rotate_left
 ·have HE:=rE HR (opE_form (f:=⟨3,0,false,false,false,false,false⟩) rfl (by simp[formB])) (by decide:(1:Int)≠0)
  go_wp2
  go_ret
  exact rF HE rfl H13.out.bb
 clear b0 b1 b2 b3 b4 b5 b6 b7 p0 p1 p2
 obtain⟨⟨b0,b1,b2,b3,b4,b5,b6,b7⟩,p0,p1,p2⟩:=RK.cells H13
 have HC:=hasX ⟨#[99]⟩ ⟨#[98]⟩ false w13 (by decide) (by decide) rfl
 go_wp2_with fail
 refine HC.out.mono ?_
 rintro e w14 ⟨rfl,hb⟩
 have H14:=RK.next H13 hb
 clear HC b0 b1 b2 b3 b4 b5 b6 b7 p0 p1 p2 hb H13
 obtain⟨⟨b0,b1,b2,b3,b4,b5,b6,b7⟩,p0,p1,p2⟩:=RK.cells H14
 cases back
 rotate_left
 ·have HE:=rE HR (opE_form (f:=⟨3,0,false,false,false,false,false⟩) rfl (by simp[formB])) (by decide:(1:Int)≠0)
  go_wp2
  go_ret
  exact rF HE rfl H14.out.bb
 clear b0 b1 b2 b3 b4 b5 b6 b7 p0 p1 p2
 obtain⟨⟨b0,b1,b2,b3,b4,b5,b6,b7⟩,p0,p1,p2⟩:=RK.cells H14
 have HC:=hide (checkSet_any _ S w14 H14.out.s)
 obtain⟨z,hz⟩:=named (checkE S)
 rw[← hz]at HC
 have HZ:=hide hz
 clear hz
 go_wp2_with fail
 refine HC.out.mono ?_
 rintro e w15 ⟨rfl,hb⟩
 have H15:=RK.next H14 hb
 clear HC b0 b1 b2 b3 b4 b5 b6 b7 p0 p1 p2 hb H14
 by_cases hz0:z=0
 rotate_left
 ·have HE:Hid (R=z):=rE HR ((opE_set (f:=⟨3,0,false,false,false,false,false⟩) rfl (by simp[formB]) (by show checkE S≠0;rw[← HZ.out];exact hz0)).trans HZ.out.symm) hz0
  have bz:(z==0)=false:=by simpa using hz0
  have bz2:(z !=0)=true:=by simpa using hz0
  clear hz0
  go_wp2
  go_ret
  exact rF HE rfl H15.out.bb
 subst hz0
 have HEr:Hid (opE ol g c (⟨7,sa,0,sc,to,0,0,0,false,false⟩,S)=if rangeB ⟨3,0,false,false,false,false,false⟩ ol g c ⟨7,sa,0,sc,to,0,0,0,false,false⟩then 0 else 3):=opE_range (f:=⟨3,0,false,false,false,false,false⟩) rfl (by simp[formB]) HZ.out.symm
 obtain⟨⟨b0,b1,b2,b3,b4,b5,b6,b7⟩,p0,p1,p2⟩:=RK.cells H15
 have HC:=hasX ⟨#[99]⟩ ⟨#[116]⟩ false w15 (by decide) (by decide) rfl
 go_wp2_with fail
 refine HC.out.mono ?_
 rintro e w16 ⟨rfl,hb⟩
 have H16:=RK.next H15 hb
 clear HC b0 b1 b2 b3 b4 b5 b6 b7 p0 p1 p2 hb H15
 obtain⟨⟨b0,b1,b2,b3,b4,b5,b6,b7⟩,p0,p1,p2⟩:=RK.cells H16
 have HC:=hasX ⟨#[99]⟩ ⟨#[111]⟩ false w16 (by decide) (by decide) rfl
 go_wp2_with fail
 refine HC.out.mono ?_
 rintro e w17 ⟨rfl,hb⟩
 have H17:=RK.next H16 hb
 clear HC b0 b1 b2 b3 b4 b5 b6 b7 p0 p1 p2 hb H16
 obtain⟨⟨b0,b1,b2,b3,b4,b5,b6,b7⟩,p0,p1,p2⟩:=RK.cells H17
 have HC:=hasX ⟨#[99]⟩ ⟨#[103]⟩ false w17 (by decide) (by decide) rfl
 go_wp2_with fail
 refine HC.out.mono ?_
 rintro e w18 ⟨rfl,hb⟩
 have H18:=RK.next H17 hb
 clear HC b0 b1 b2 b3 b4 b5 b6 b7 p0 p1 p2 hb H17
 obtain⟨⟨b0,b1,b2,b3,b4,b5,b6,b7⟩,p0,p1,p2⟩:=RK.cells H18
 have HC:=hasX ⟨#[99]⟩ ⟨#[99]⟩ true w18 (by decide) (by decide) rfl
 go_wp2_with fail
 refine HC.out.mono ?_
 rintro e w19 ⟨rfl,hb⟩
 have H19:=RK.next H18 hb
 clear HC b0 b1 b2 b3 b4 b5 b6 b7 p0 p1 p2 hb H18
 obtain⟨⟨b0,b1,b2,b3,b4,b5,b6,b7⟩,p0,p1,p2⟩:=RK.cells H19
 have HC:Hid (Calls prog 19 #[.int .i64 to,.pointer (some ⟨kb,0,none⟩)] w19 fun e w'=>e=.returned (.bool (hasB 3 ol g c to))∧w'=w19):=clo2_any kb (some x) ol oc g c to w19 H19.out.p
 obtain⟨q,hq⟩:=named ((hasB 3 ol g c to))
 rw[← hq]at HC
 have HQ3:=hide hq.symm
 clear hq
 go_wp2_with fail
 refine HC.out.mono ?_
 rintro e w' ⟨rfl,hw'⟩
 have hw2:=hw'.symm
 subst hw2
 clear HC
 cases q
 ·have HE:Hid (R=3):=rE HR (by rw[HEr.out];simp[rangeB,HQ3.out,hasB_0]) (by decide)
  go_wp2
  go_ret
  exact rF HE rfl H19.out.bb
 clear b0 b1 b2 b3 b4 b5 b6 b7 p0 p1 p2
 obtain⟨⟨b0,b1,b2,b3,b4,b5,b6,b7⟩,p0,p1,p2⟩:=RK.cells H19
 have HC:=hasX ⟨#[99]⟩ ⟨#[100]⟩ false w19 (by decide) (by decide) rfl
 go_wp2_with fail
 refine HC.out.mono ?_
 rintro e w20 ⟨rfl,hb⟩
 have H20:=RK.next H19 hb
 clear HC b0 b1 b2 b3 b4 b5 b6 b7 p0 p1 p2 hb H19
 obtain⟨⟨b0,b1,b2,b3,b4,b5,b6,b7⟩,p0,p1,p2⟩:=RK.cells H20
 have HC:Hid (Calls prog 20 #[.int .i64 0,.int .i64 0,.int .i64 1000] w20 fun e w'=>e=.returned (.bool (true))∧w'=w20):=betw_any 0 0 1000 w20
 go_wp2_with fail
 refine HC.out.mono ?_
 rintro e w' ⟨rfl,hw'⟩
 have hw2:=hw'.symm
 subst hw2
 clear HC
 clear b0 b1 b2 b3 b4 b5 b6 b7 p0 p1 p2
 obtain⟨⟨b0,b1,b2,b3,b4,b5,b6,b7⟩,p0,p1,p2⟩:=RK.cells H20
 have HC:=hasX ⟨#[99]⟩ ⟨#[107]⟩ false w20 (by decide) (by decide) rfl
 go_wp2_with fail
 refine HC.out.mono ?_
 rintro e w21 ⟨rfl,hb⟩
 have H21:=RK.next H20 hb
 clear HC b0 b1 b2 b3 b4 b5 b6 b7 p0 p1 p2 hb H20
 have HE0:Hid (opE ol g c (⟨7,sa,0,sc,to,0,0,0,false,false⟩,S)=0):=by show _=_;rw[HEr.out];simp[rangeB,hasB_0,HQ3.out]
 obtain⟨⟨b0,b1,b2,b3,b4,b5,b6,b7⟩,p0,p1,p2⟩:=RK.cells H21
 go_wp2
 exact HK.out HE0.out H21.out.bb H21.out.b
theorem rnd_x8(hd:o.dn=8)(hX:w5.heap[kb]? =some (prO (some x) ol oc g c))(hB:Below w.heap.size w w5)(hO:OCells w5 (x.add (j*8)) o)(hS:Reads w5 (.slice o.sa o.sl o.sc) S)(hj:(j:Int)<(ol:Int))(hoc:ol≤9223372036854775807)(hK:CpK K' x ol oc g c kb j w w5 o S c9 c10 c11 c12 c13 c14 c15 c16 c17 c18 c19 c20 c21 c22 c23 c24 c25 c26 c27 c28 c29 c30 c31 c184 c185 c186 c187 c188 c189 c190 c191 c192 c193 c194 c195 c196 c197 c198 c199 c200 c201 c202)(hR:opE ol g c (o,S)≠0→R=opE ol g c (o,S)):CpW K' K w R (cpF (some x) ol oc g c kb j c9 c10 c11 c12 c13 c14 c15 c16 c17 c18 c19 c20 c21 c22 c23 c24 c25 c26 c27 c28 c29 c30 c31 c184 c185 c186 c187 c188 c189 c190 c191 c192 c193 c194 c195 c196 c197 c198 c199 c200 c201 c202 u2 u4 u5 u6 u7 u8 u32 u33 u34 u35 u36 u37 u38 u39 u40 u41 u42 u43 u44 u45 u46 u47 u48 u49 u50 u51 u52 u53 u54 u55 u56 u57 u58 u59 u60 u61 u62 u63 u64 u65 u66 u67 u68 u69 u70 u71 u72 u73 u74 u75 u76 u77 u78 u79 u80 u81 u82 u83 u84 u85 u86 u87 u88 u89 u90 u91 u92 u93 u94 u95 u96 u97 u98 u99 u100 u101 u102 u103 u104 u105 u106 u107 u108 u109 u110 u111 u112 u113 u114 u115 u116 u117 u118 u119 u120 u121 u122 u123 u124 u125 u126 u127 u128 u129 u130 u131 u132 u133 u134 u135 u136 u137 u138 u139 u140 u141 u142 u143 u144 u145 u146 u147 u148 u149 u150 u151 u152 u153 u154 u155 u156 u157 u158 u159 u160 u161 u162 u163 u164 u165 u166 u167 u168 u169 u170 u171 u172 u173 u174 u175 u176 u177 u178 u179 u180 u181 u182 u183) w5:=by
 obtain⟨dn,sa,sl,sc,to,other,kind,least,fold,back⟩:=o
 simp only at hd hS
 subst hd
 obtain⟨d0,d1,d2,d3,d4,d5,d6,d7⟩:=hO
 simp only at d0 d1 d2 d3 d4 d5 d6 d7
 obtain⟨p0,p1,p2⟩:=pr_cells hX
 have hjw:IntKind.i64.wrap ((j:Int)+1)=(j:Int)+1:=by rw[IntKind.wrap_i64];omega
 have e4:(0:Int)≤(j:Int):=by omega
 obtain⟨w6,hw6,hB6,hbx⟩:=newOp w5 ⟨8,sa,sl,sc,to,other,kind,least,fold,back⟩
 have H6:=hide (RK.mk hB6 (hB.andT hB6) hbx ((hB6.block _ (lt_of_block hX)).trans hX) (hS.below hB6))
 have HK:=hide hK
 have HR:=hide hR
 simp only[opO]at hw6
 clear hK hR hB hX hB6 hbx hS
 unfold CpW cpF
 conv=>arg 2;whnf
 simp only[List.append_eq,List.cons_append,List.nil_append]
 go_upto_region 9 with fail
 rw[← hw6]
 clear hw6 d0 d1 d2 d3 d4 d5 d6 d7 p0 p1 p2
 obtain⟨⟨b0,b1,b2,b3,b4,b5,b6,b7⟩,p0,p1,p2⟩:=RK.cells H6
 have HC:Hid (Calls prog 15 #[.int .i64 8] w6 fun e w'=>e=.returned (.string ⟨#[99,98]⟩)∧Below w6.heap.size w6 w'):=uses_any 8 w6
 go_wp2_with fail
 refine HC.out.mono ?_
 rintro e w7 ⟨rfl,hb⟩
 have H7:=RK.next H6 hb
 clear HC b0 b1 b2 b3 b4 b5 b6 b7 p0 p1 p2 hb H6
 have hcmp:((⟨#[99,98]⟩:ByteArray).toList==(⟨#[45]⟩:ByteArray).toList)=false:=bne_list (by decide)
 obtain⟨⟨b0,b1,b2,b3,b4,b5,b6,b7⟩,p0,p1,p2⟩:=RK.cells H7
 have HC:=hasX ⟨#[99,98]⟩ ⟨#[116,103,99]⟩ true w7 (by decide) (by decide) rfl
 go_wp2_with fail
 refine HC.out.mono ?_
 rintro e w8 ⟨rfl,hb⟩
 have H8:=RK.next H7 hb
 clear HC b0 b1 b2 b3 b4 b5 b6 b7 p0 p1 p2 hb H7
 clear hcmp
 obtain⟨⟨b0,b1,b2,b3,b4,b5,b6,b7⟩,p0,p1,p2⟩:=RK.cells H8
 have HC:=hasX ⟨#[99,98]⟩ ⟨#[111,100]⟩ false w8 (by decide) (by decide) rfl
 go_wp2_with fail
 refine HC.out.mono ?_
 rintro e w9 ⟨rfl,hb⟩
 have H9:=RK.next H8 hb
 clear HC b0 b1 b2 b3 b4 b5 b6 b7 p0 p1 p2 hb H8
 obtain⟨⟨b0,b1,b2,b3,b4,b5,b6,b7⟩,p0,p1,p2⟩:=RK.cells H9
 by_cases hother:other=0
 rotate_left
 ·have hn2:(other==0)=false:=by simpa using hother
  have HE:=rE HR (opE_form (f:=⟨3,0,false,false,false,false,true⟩) rfl (by simp[formB,hother])) (by decide:(1:Int)≠0)
  clear hother
  go_wp2
  go_ret
  exact rF HE rfl H9.out.bb
 subst hother
 clear b0 b1 b2 b3 b4 b5 b6 b7 p0 p1 p2
 obtain⟨⟨b0,b1,b2,b3,b4,b5,b6,b7⟩,p0,p1,p2⟩:=RK.cells H9
 have HC:=hasX ⟨#[99,98]⟩ ⟨#[108]⟩ false w9 (by decide) (by decide) rfl
 go_wp2_with fail
 refine HC.out.mono ?_
 rintro e w10 ⟨rfl,hb⟩
 have H10:=RK.next H9 hb
 clear HC b0 b1 b2 b3 b4 b5 b6 b7 p0 p1 p2 hb H9
 obtain⟨⟨b0,b1,b2,b3,b4,b5,b6,b7⟩,p0,p1,p2⟩:=RK.cells H10
 by_cases hleast:least=0
 rotate_left
 ·have hn2:(least==0)=false:=by simpa using hleast
  have HE:=rE HR (opE_form (f:=⟨3,0,false,false,false,false,true⟩) rfl (by simp[formB,hleast])) (by decide:(1:Int)≠0)
  clear hleast
  go_wp2
  go_ret
  exact rF HE rfl H10.out.bb
 subst hleast
 clear b0 b1 b2 b3 b4 b5 b6 b7 p0 p1 p2
 obtain⟨⟨b0,b1,b2,b3,b4,b5,b6,b7⟩,p0,p1,p2⟩:=RK.cells H10
 have HC:=hasX ⟨#[99,98]⟩ ⟨#[107]⟩ false w10 (by decide) (by decide) rfl
 go_wp2_with fail
 refine HC.out.mono ?_
 rintro e w11 ⟨rfl,hb⟩
 have H11:=RK.next H10 hb
 clear HC b0 b1 b2 b3 b4 b5 b6 b7 p0 p1 p2 hb H10
 obtain⟨⟨b0,b1,b2,b3,b4,b5,b6,b7⟩,p0,p1,p2⟩:=RK.cells H11
 by_cases hkind:kind=0
 rotate_left
 ·have hn2:(kind==0)=false:=by simpa using hkind
  have HE:=rE HR (opE_form (f:=⟨3,0,false,false,false,false,true⟩) rfl (by simp[formB,hkind])) (by decide:(1:Int)≠0)
  clear hkind
  go_wp2
  go_ret
  exact rF HE rfl H11.out.bb
 subst hkind
 clear b0 b1 b2 b3 b4 b5 b6 b7 p0 p1 p2
 obtain⟨⟨b0,b1,b2,b3,b4,b5,b6,b7⟩,p0,p1,p2⟩:=RK.cells H11
 have HC:=hasX ⟨#[99,98]⟩ ⟨#[115]⟩ false w11 (by decide) (by decide) rfl
 go_wp2_with fail
 refine HC.out.mono ?_
 rintro e w12 ⟨rfl,hb⟩
 have H12:=RK.next H11 hb
 clear HC b0 b1 b2 b3 b4 b5 b6 b7 p0 p1 p2 hb H11
 obtain⟨⟨b0,b1,b2,b3,b4,b5,b6,b7⟩,p0,p1,p2⟩:=RK.cells H12
 by_cases hsl:sl=0
 rotate_left
 ·have hn2:((sl:Int)==0)=false:=by simpa using hsl
  have HE:=rE HR (opE_form (f:=⟨3,0,false,false,false,false,true⟩) rfl (by simp[formB,hsl])) (by decide:(1:Int)≠0)
  have h0sl:(0:Int)<(sl:Int):=by omega
  clear hsl
  go_wp2
  go_ret
  exact rF HE rfl H12.out.bb
 subst hsl
 clear b0 b1 b2 b3 b4 b5 b6 b7 p0 p1 p2
 obtain⟨⟨b0,b1,b2,b3,b4,b5,b6,b7⟩,p0,p1,p2⟩:=RK.cells H12
 have HC:=hasX ⟨#[99,98]⟩ ⟨#[102]⟩ false w12 (by decide) (by decide) rfl
 go_wp2_with fail
 refine HC.out.mono ?_
 rintro e w13 ⟨rfl,hb⟩
 have H13:=RK.next H12 hb
 clear HC b0 b1 b2 b3 b4 b5 b6 b7 p0 p1 p2 hb H12
 obtain⟨⟨b0,b1,b2,b3,b4,b5,b6,b7⟩,p0,p1,p2⟩:=RK.cells H13
 cases fold
 rotate_left
 ·have HE:=rE HR (opE_form (f:=⟨3,0,false,false,false,false,true⟩) rfl (by simp[formB])) (by decide:(1:Int)≠0)
  go_wp2
  go_ret
  exact rF HE rfl H13.out.bb
 clear b0 b1 b2 b3 b4 b5 b6 b7 p0 p1 p2
 obtain⟨⟨b0,b1,b2,b3,b4,b5,b6,b7⟩,p0,p1,p2⟩:=RK.cells H13
 have HC:=hasX ⟨#[99,98]⟩ ⟨#[98]⟩ true w13 (by decide) (by decide) rfl
 go_wp2_with fail
 refine HC.out.mono ?_
 rintro e w14 ⟨rfl,hb⟩
 have H14:=RK.next H13 hb
 clear HC b0 b1 b2 b3 b4 b5 b6 b7 p0 p1 p2 hb H13
 obtain⟨⟨b0,b1,b2,b3,b4,b5,b6,b7⟩,p0,p1,p2⟩:=RK.cells H14
 have HC:=hide (checkSet_any _ S w14 H14.out.s)
 obtain⟨z,hz⟩:=named (checkE S)
 rw[← hz]at HC
 have HZ:=hide hz
 clear hz
 go_wp2_with fail
 refine HC.out.mono ?_
 rintro e w15 ⟨rfl,hb⟩
 have H15:=RK.next H14 hb
 clear HC b0 b1 b2 b3 b4 b5 b6 b7 p0 p1 p2 hb H14
 by_cases hz0:z=0
 rotate_left
 ·have HE:Hid (R=z):=rE HR ((opE_set (f:=⟨3,0,false,false,false,false,true⟩) rfl (by simp[formB]) (by show checkE S≠0;rw[← HZ.out];exact hz0)).trans HZ.out.symm) hz0
  have bz:(z==0)=false:=by simpa using hz0
  have bz2:(z !=0)=true:=by simpa using hz0
  clear hz0
  go_wp2
  go_ret
  exact rF HE rfl H15.out.bb
 subst hz0
 have HEr:Hid (opE ol g c (⟨8,sa,0,sc,to,0,0,0,false,back⟩,S)=if rangeB ⟨3,0,false,false,false,false,true⟩ ol g c ⟨8,sa,0,sc,to,0,0,0,false,back⟩then 0 else 3):=opE_range (f:=⟨3,0,false,false,false,false,true⟩) rfl (by simp[formB]) HZ.out.symm
 obtain⟨⟨b0,b1,b2,b3,b4,b5,b6,b7⟩,p0,p1,p2⟩:=RK.cells H15
 have HC:=hasX ⟨#[99,98]⟩ ⟨#[116]⟩ false w15 (by decide) (by decide) rfl
 go_wp2_with fail
 refine HC.out.mono ?_
 rintro e w16 ⟨rfl,hb⟩
 have H16:=RK.next H15 hb
 clear HC b0 b1 b2 b3 b4 b5 b6 b7 p0 p1 p2 hb H15
 obtain⟨⟨b0,b1,b2,b3,b4,b5,b6,b7⟩,p0,p1,p2⟩:=RK.cells H16
 have HC:=hasX ⟨#[99,98]⟩ ⟨#[111]⟩ false w16 (by decide) (by decide) rfl
 go_wp2_with fail
 refine HC.out.mono ?_
 rintro e w17 ⟨rfl,hb⟩
 have H17:=RK.next H16 hb
 clear HC b0 b1 b2 b3 b4 b5 b6 b7 p0 p1 p2 hb H16
 obtain⟨⟨b0,b1,b2,b3,b4,b5,b6,b7⟩,p0,p1,p2⟩:=RK.cells H17
 have HC:=hasX ⟨#[99,98]⟩ ⟨#[103]⟩ false w17 (by decide) (by decide) rfl
 go_wp2_with fail
 refine HC.out.mono ?_
 rintro e w18 ⟨rfl,hb⟩
 have H18:=RK.next H17 hb
 clear HC b0 b1 b2 b3 b4 b5 b6 b7 p0 p1 p2 hb H17
 obtain⟨⟨b0,b1,b2,b3,b4,b5,b6,b7⟩,p0,p1,p2⟩:=RK.cells H18
 have HC:=hasX ⟨#[99,98]⟩ ⟨#[99]⟩ true w18 (by decide) (by decide) rfl
 go_wp2_with fail
 refine HC.out.mono ?_
 rintro e w19 ⟨rfl,hb⟩
 have H19:=RK.next H18 hb
 clear HC b0 b1 b2 b3 b4 b5 b6 b7 p0 p1 p2 hb H18
 obtain⟨⟨b0,b1,b2,b3,b4,b5,b6,b7⟩,p0,p1,p2⟩:=RK.cells H19
 have HC:Hid (Calls prog 19 #[.int .i64 to,.pointer (some ⟨kb,0,none⟩)] w19 fun e w'=>e=.returned (.bool (hasB 3 ol g c to))∧w'=w19):=clo2_any kb (some x) ol oc g c to w19 H19.out.p
 obtain⟨q,hq⟩:=named ((hasB 3 ol g c to))
 rw[← hq]at HC
 have HQ3:=hide hq.symm
 clear hq
 go_wp2_with fail
 refine HC.out.mono ?_
 rintro e w' ⟨rfl,hw'⟩
 have hw2:=hw'.symm
 subst hw2
 clear HC
 cases q
 ·have HE:Hid (R=3):=rE HR (by rw[HEr.out];simp[rangeB,HQ3.out,hasB_0]) (by decide)
  go_wp2
  go_ret
  exact rF HE rfl H19.out.bb
 clear b0 b1 b2 b3 b4 b5 b6 b7 p0 p1 p2
 obtain⟨⟨b0,b1,b2,b3,b4,b5,b6,b7⟩,p0,p1,p2⟩:=RK.cells H19
 have HC:=hasX ⟨#[99,98]⟩ ⟨#[100]⟩ false w19 (by decide) (by decide) rfl
 go_wp2_with fail
 refine HC.out.mono ?_
 rintro e w20 ⟨rfl,hb⟩
 have H20:=RK.next H19 hb
 clear HC b0 b1 b2 b3 b4 b5 b6 b7 p0 p1 p2 hb H19
 obtain⟨⟨b0,b1,b2,b3,b4,b5,b6,b7⟩,p0,p1,p2⟩:=RK.cells H20
 have HC:Hid (Calls prog 20 #[.int .i64 0,.int .i64 0,.int .i64 1000] w20 fun e w'=>e=.returned (.bool (true))∧w'=w20):=betw_any 0 0 1000 w20
 go_wp2_with fail
 refine HC.out.mono ?_
 rintro e w' ⟨rfl,hw'⟩
 have hw2:=hw'.symm
 subst hw2
 clear HC
 clear b0 b1 b2 b3 b4 b5 b6 b7 p0 p1 p2
 obtain⟨⟨b0,b1,b2,b3,b4,b5,b6,b7⟩,p0,p1,p2⟩:=RK.cells H20
 have HC:=hasX ⟨#[99,98]⟩ ⟨#[107]⟩ false w20 (by decide) (by decide) rfl
 go_wp2_with fail
 refine HC.out.mono ?_
 rintro e w21 ⟨rfl,hb⟩
 have H21:=RK.next H20 hb
 clear HC b0 b1 b2 b3 b4 b5 b6 b7 p0 p1 p2 hb H20
 have HE0:Hid (opE ol g c (⟨8,sa,0,sc,to,0,0,0,false,back⟩,S)=0):=by show _=_;rw[HEr.out];simp[rangeB,hasB_0,HQ3.out]
 obtain⟨⟨b0,b1,b2,b3,b4,b5,b6,b7⟩,p0,p1,p2⟩:=RK.cells H21
 go_wp2
 exact HK.out HE0.out H21.out.bb H21.out.b
end Go.Proofs.YtfnndcbjklppeaaGreatDoor
