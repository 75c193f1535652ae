import Derived.Test.YtfnndcbjklppeaaGreatDoorUV2
import Derived.LoopN
set_option maxHeartbeats 8000000
set_option linter.unusedVariables false
set_option maxRecDepth 100000
open Go.Proofs.Tryz
namespace Go.Proofs.YtfnndcbjklppeaaGreatDoor.Vm
open Go.RowKit
variable {w w' : World} {E : ME} {s s' : XS} {cv bv : Value}
def DoE(E:ME)(s':XS)(b:Bool)(w:World)(e:Ending)(w':World):Prop:=e=.returned (.bool b)∧(∃cv bv,MX w' E s' cv bv)∧FX E w w'
theorem do_jump(h:MX w E s cv bv)(sa:Option Addr)(sl sc:Nat)(t:Int):Calls prog 57 #[.pointer (some ⟨E.M,0,none⟩),opV ⟨2,sa,sl,sc,t,0,0,0,false,false⟩] w fun e w'=>DoE E { s with next:=t } true w e w':=by
 obtain⟨W,hW⟩:=named (w.alloc (opO ⟨2,sa,sl,sc,t,0,0,0,false,false⟩))
 have hbW:Below w.heap.size w W:=by rw[hW];exact allocB _ _
 have hob:W.heap[w.heap.size]? =some (opO ⟨2,sa,sl,sc,t,0,0,0,false,false⟩):=by rw[hW];exact at_new _ _
 obtain⟨ob,hobe⟩:=named w.heap.size
 rw[← hobe]at hob
 have hoM:ob≠E.M:=by have:=h.lt;omega
 have hoC:ob≠E.cb:=by have:=lt_of_block h.cnt;omega
 have h1:=h.keep hbW
 have hF1:=FX.of hbW h.ltB
 have HF1:=hide hF1
 have HO:=hide hob
 obtain⟨b0,b1,b2,b3,b4,b5,b6,b7⟩:=op_cells hob
 simp only[Nat.zero_add]at b0 b1 b2 b3 b4 b5 b6 b7
 simp only[opO]at hW
 have HM:=hide (h1.put 8 (.int .i64 t) { s with next:=t } rfl rfl rfl rfl)
 have HF:=hide (hF1.trans (FX.set E W h.lm 8 (.int .i64 t)))
 obtain⟨-, -, -, -, -,c8, -, -, -, -, -⟩:=h1.rd
 have fz:=h1.fr
 have hlt:=h1.lt
 clear h h1 hbW hF1 hob
 go_enter func57,ntmps57
 go_upto_region 1 with fail
 rw[← hW, ←hobe]
 clear hW hobe
 go_wp2
 go_ret
 exact⟨rfl,⟨_,_,HM.out⟩,HF.out⟩
theorem do_count(h:MX w E s cv bv)(sa:Option Addr)(sl sc:Nat)(hl:s.ch.length≤1000):Calls prog 57 #[.pointer (some ⟨E.M,0,none⟩),opV ⟨9,sa,sl,sc,0,0,0,0,false,false⟩] w fun e w'=>DoE E { s with ch:=s.ch++[s.num],num:=0 } true w e w':=by
 obtain⟨W,hW⟩:=named (w.alloc (opO ⟨9,sa,sl,sc,0,0,0,0,false,false⟩))
 have hbW:Below w.heap.size w W:=by rw[hW];exact allocB _ _
 have hob:W.heap[w.heap.size]? =some (opO ⟨9,sa,sl,sc,0,0,0,0,false,false⟩):=by rw[hW];exact at_new _ _
 obtain⟨ob,hobe⟩:=named w.heap.size
 rw[← hobe]at hob
 have hoM:ob≠E.M:=by have:=h.lt;omega
 have hoC:ob≠E.cb:=by have:=lt_of_block h.cnt;omega
 have h1:=h.keep hbW
 have hF1:=FX.of hbW h.ltB
 have HF1:=hide hF1
 have HO:=hide hob
 obtain⟨b0,b1,b2,b3,b4,b5,b6,b7⟩:=op_cells hob
 simp only[Nat.zero_add]at b0 b1 b2 b3 b4 b5 b6 b7
 simp only[opO]at hW
 have HC:=hide (count_any h1 sa sl sc hl)
 clear h h1 hbW hF1 hob
 go_enter func57,ntmps57
 go_upto_region 1 with fail
 rw[← hW, ←hobe]
 clear hW hobe
 go_wp2_with fail
 refine HC.out.mono ?_
 rintro e w2 ⟨rfl,⟨cv',hm⟩,hf⟩
 have HM:=hide hm
 have HF:=hide (HF1.out.trans hf)
 clear hm hf HC b0 b1 b2 b3 b4 b5 b6 b7
 go_wp2
 go_ret
 exact⟨rfl,⟨_,_,HM.out⟩,HF.out⟩
theorem do_more(h:MX w E s cv bv)(sa:Option Addr)(sl sc:Nat)(hl:s.ch.length≤1000)(ot:Int)(hn:0≤s.num∧s.num<1000):Calls prog 57 #[.pointer (some ⟨E.M,0,none⟩),opV ⟨10,sa,sl,sc,0,ot,0,0,false,false⟩] w fun e w'=>DoE E { s with ch:=s.ch++[s.num],num:=s.num+1 } true w e w':=by
 obtain⟨W,hW⟩:=named (w.alloc (opO ⟨10,sa,sl,sc,0,ot,0,0,false,false⟩))
 have hbW:Below w.heap.size w W:=by rw[hW];exact allocB _ _
 have hob:W.heap[w.heap.size]? =some (opO ⟨10,sa,sl,sc,0,ot,0,0,false,false⟩):=by rw[hW];exact at_new _ _
 obtain⟨ob,hobe⟩:=named w.heap.size
 rw[← hobe]at hob
 have hoM:ob≠E.M:=by have:=h.lt;omega
 have hoC:ob≠E.cb:=by have:=lt_of_block h.cnt;omega
 have h1:=h.keep hbW
 have hF1:=FX.of hbW h.ltB
 have HF1:=hide hF1
 have HO:=hide hob
 obtain⟨b0,b1,b2,b3,b4,b5,b6,b7⟩:=op_cells hob
 simp only[Nat.zero_add]at b0 b1 b2 b3 b4 b5 b6 b7
 simp only[opO]at hW
 have HC:=hide (more_any h1 sa sl sc hl ot hn)
 clear h h1 hbW hF1 hob
 go_enter func57,ntmps57
 go_upto_region 1 with fail
 rw[← hW, ←hobe]
 clear hW hobe
 go_wp2_with fail
 refine HC.out.mono ?_
 rintro e w2 ⟨rfl,⟨cv',hm⟩,hf⟩
 have HM:=hide hm
 have HF:=hide (HF1.out.trans hf)
 clear hm hf HC b0 b1 b2 b3 b4 b5 b6 b7
 go_wp2
 go_ret
 exact⟨rfl,⟨_,_,HM.out⟩,HF.out⟩
theorem do_under1(h:MX w E s cv bv)(sa:Option Addr)(sl sc:Nat)(ot:Int)(hn:s.num<1):Calls prog 57 #[.pointer (some ⟨E.M,0,none⟩),opV ⟨11,sa,sl,sc,0,ot,0,1,false,false⟩] w fun e w'=>DoE E { s with next:=ot } true w e w':=by
 obtain⟨W,hW⟩:=named (w.alloc (opO ⟨11,sa,sl,sc,0,ot,0,1,false,false⟩))
 have hbW:Below w.heap.size w W:=by rw[hW];exact allocB _ _
 have hob:W.heap[w.heap.size]? =some (opO ⟨11,sa,sl,sc,0,ot,0,1,false,false⟩):=by rw[hW];exact at_new _ _
 obtain⟨ob,hobe⟩:=named w.heap.size
 rw[← hobe]at hob
 have hoM:ob≠E.M:=by have:=h.lt;omega
 have hoC:ob≠E.cb:=by have:=lt_of_block h.cnt;omega
 have h1:=h.keep hbW
 have hF1:=FX.of hbW h.ltB
 have HF1:=hide hF1
 have HO:=hide hob
 obtain⟨b0,b1,b2,b3,b4,b5,b6,b7⟩:=op_cells hob
 simp only[Nat.zero_add]at b0 b1 b2 b3 b4 b5 b6 b7
 simp only[opO]at hW
 have HC:=hide (jumpIf_any h1.drew true ot)
 have HFd:=hide hF1.drew
 obtain⟨-, -, -, -, -, -, -, -,c11, -, -⟩:=h1.rd
 obtain⟨z0,z1,z2⟩:=h1.cr
 have HL:=hide (lt_of_block h1.cnt)
 clear h h1 hbW hF1 hob
 go_enter func57,ntmps57
 go_upto_region 1 with fail
 rw[← hW, ←hobe]
 clear hW hobe
 go_upto_region 22 with fail
 go_still_tail 16,(by kernel_rfl)
 go_wp2_with fail
 refine HC.out.mono ?_
 rintro e w2 ⟨rfl,hm,hf⟩
 have HM:=hide hm
 have HF:=hide (HFd.out.trans hf)
 clear hm hf HC b0 b1 b2 b3 b4 b5 b6 b7 c11 z0 z1 z2
 go_wp2
 go_ret
 exact⟨rfl,⟨_,_,HM.out⟩,HF.out⟩
theorem do_under0(h:MX w E s cv bv)(sa:Option Addr)(sl sc:Nat)(ot:Int)(hn:¬s.num<1):Calls prog 57 #[.pointer (some ⟨E.M,0,none⟩),opV ⟨11,sa,sl,sc,0,ot,0,1,false,false⟩] w fun e w'=>DoE E s true w e w':=by
 obtain⟨W,hW⟩:=named (w.alloc (opO ⟨11,sa,sl,sc,0,ot,0,1,false,false⟩))
 have hbW:Below w.heap.size w W:=by rw[hW];exact allocB _ _
 have hob:W.heap[w.heap.size]? =some (opO ⟨11,sa,sl,sc,0,ot,0,1,false,false⟩):=by rw[hW];exact at_new _ _
 obtain⟨ob,hobe⟩:=named w.heap.size
 rw[← hobe]at hob
 have hoM:ob≠E.M:=by have:=h.lt;omega
 have hoC:ob≠E.cb:=by have:=lt_of_block h.cnt;omega
 have h1:=h.keep hbW
 have hF1:=FX.of hbW h.ltB
 have HF1:=hide hF1
 have HO:=hide hob
 obtain⟨b0,b1,b2,b3,b4,b5,b6,b7⟩:=op_cells hob
 simp only[Nat.zero_add]at b0 b1 b2 b3 b4 b5 b6 b7
 simp only[opO]at hW
 have HC:=hide (jumpIf_any h1.drew false ot)
 have HFd:=hide hF1.drew
 obtain⟨-, -, -, -, -, -, -, -,c11, -, -⟩:=h1.rd
 obtain⟨z0,z1,z2⟩:=h1.cr
 have HL:=hide (lt_of_block h1.cnt)
 clear h h1 hbW hF1 hob
 go_enter func57,ntmps57
 go_upto_region 1 with fail
 rw[← hW, ←hobe]
 clear hW hobe
 go_upto_region 22 with fail
 go_still_tail 16,(by kernel_rfl)
 go_wp2_with fail
 refine HC.out.mono ?_
 rintro e w2 ⟨rfl,hm,hf⟩
 have HM:=hide hm
 have HF:=hide (HFd.out.trans hf)
 clear hm hf HC b0 b1 b2 b3 b4 b5 b6 b7 c11 z0 z1 z2
 go_wp2
 go_ret
 exact⟨rfl,⟨_,_,HM.out⟩,HF.out⟩
theorem do_split(h:MX w E s cv bv)(sa:Option Addr)(sl sc:Nat)(t ot:Int)(hl:s.bk.length≤1000)(hc:s.ch.length≤1000):Calls prog 57 #[.pointer (some ⟨E.M,0,none⟩),opV ⟨3,sa,sl,sc,t,ot,0,0,false,false⟩] w fun e w'=>DoE E { s with bk:=s.bk++[(ot,s.pos,(s.ch.length:Int))],next:=t } true w e w':=by
 obtain⟨W,hW⟩:=named (w.alloc (opO ⟨3,sa,sl,sc,t,ot,0,0,false,false⟩))
 have hbW:Below w.heap.size w W:=by rw[hW];exact allocB _ _
 have hob:W.heap[w.heap.size]? =some (opO ⟨3,sa,sl,sc,t,ot,0,0,false,false⟩):=by rw[hW];exact at_new _ _
 obtain⟨ob,hobe⟩:=named w.heap.size
 rw[← hobe]at hob
 have hoM:ob≠E.M:=by have:=h.lt;omega
 have hoC:ob≠E.cb:=by have:=lt_of_block h.cnt;omega
 have h1:=h.keep hbW
 have hF1:=FX.of hbW h.ltB
 have HF1:=hide hF1
 have HO:=hide hob
 obtain⟨b0,b1,b2,b3,b4,b5,b6,b7⟩:=op_cells hob
 simp only[Nat.zero_add]at b0 b1 b2 b3 b4 b5 b6 b7
 simp only[opO]at hW
 have HC:=hide (lay_any h1 ot hl hc)
 clear h h1 hbW hF1 hob
 go_enter func57,ntmps57
 go_upto_region 1 with fail
 rw[← hW, ←hobe]
 clear hW hobe
 go_wp2_with fail
 refine HC.out.mono ?_
 rintro e w2 ⟨rfl,⟨bv',hm⟩,hf⟩
 have ho2:=hf.oth _ _ _ _ HO.out hoM hoC (by decide) (by decide)
 obtain⟨a0,a1,a2,a3,a4,a5,a6,a7⟩:=op_cells ho2
 simp only[Nat.zero_add]at a0 a1 a2 a3 a4 a5 a6 a7
 obtain⟨-, -, -, -, -,c8, -, -, -, -, -⟩:=hm.rd
 have fz:=hm.fr
 have hlt:=hm.lt
 have HM:=hide (hm.put 8 (.int .i64 t) { s with bk:=s.bk++[(ot,s.pos,(s.ch.length:Int))],next:=t } rfl rfl rfl rfl)
 have HF:=hide ((HF1.out.trans hf).trans (FX.set E w2 hm.lm 8 (.int .i64 t)))
 clear hm hf HC b0 b1 b2 b3 b4 b5 b6 b7 ho2
 go_wp2
 go_ret
 exact⟨rfl,⟨_,_,HM.out⟩,HF.out⟩
theorem do_set(h:MX w E s cv bv)(sa:Option Addr)(sl sc:Nat)(i:Nat)(hi:i<3)(hpos:s.pos=(i:Int))(p:Int)(hp:0≤p∧p≤1114111)(hpt:∀W,Below E.B w W→W.cell? (E.px.add i)=some (.int .i64 p))(S:RL)(hS:∀W,FX E w W→Reads W (.slice sa sl sc) S)(hc:checkE S=0):Calls prog 57 #[.pointer (some ⟨E.M,0,none⟩),opV ⟨1,sa,sl,sc,0,0,0,0,false,false⟩] w fun e w'=>DoE E (if ins S p then { s with pos:=((i+1:Nat):Int) } else s) (ins S p) w e w':=by
 obtain⟨W,hW⟩:=named (w.alloc (opO ⟨1,sa,sl,sc,0,0,0,0,false,false⟩))
 have hbW:Below w.heap.size w W:=by rw[hW];exact allocB _ _
 have hob:W.heap[w.heap.size]? =some (opO ⟨1,sa,sl,sc,0,0,0,0,false,false⟩):=by rw[hW];exact at_new _ _
 obtain⟨ob,hobe⟩:=named w.heap.size
 rw[← hobe]at hob
 have hoM:ob≠E.M:=by have:=h.lt;omega
 have hoC:ob≠E.cb:=by have:=lt_of_block h.cnt;omega
 have h1:=h.keep hbW
 have hF1:=FX.of hbW h.ltB
 have HF1:=hide hF1
 have HO:=hide hob
 obtain⟨b0,b1,b2,b3,b4,b5,b6,b7⟩:=op_cells hob
 simp only[Nat.zero_add]at b0 b1 b2 b3 b4 b5 b6 b7
 simp only[opO]at hW
 have HC:=hide (take_any h1.drew i hi hpos p hp (fun W2 hW2=>hpt W2 (hF1.drew.low.trans hW2)) sa sl sc S (fun W2 hW2=>hS W2 (hF1.drew.trans hW2)) hc)
 have HFd:=hide hF1.drew
 clear h h1 hbW hF1 hob hpt hS hc hp hpos hi
 obtain⟨R,hR⟩:=named ((if ins S p then { s with pos:=((i+1:Nat):Int) } else s))
 rw[← hR]at HC ⊢
 obtain⟨z,hz⟩:=named (ins S p)
 rw[← hz]at HC ⊢
 clear hz hR
 go_enter func57,ntmps57
 go_upto_region 1 with fail
 rw[← hW, ←hobe]
 clear hW hobe
 go_upto_region 3 with fail
 go_still_tail 5,(by kernel_rfl)
 go_wp2_with fail
 refine HC.out.mono ?_
 rintro e w2 ⟨rfl,hm,hf⟩
 have HM:=hide hm
 have HF:=hide (HFd.out.trans hf)
 clear hm hf HC b0 b1 b2 b3 b4 b5 b6 b7
 go_wp2
 go_ret
 exact⟨rfl,⟨_,_,HM.out⟩,HF.out⟩
variable {w w' : World} {E : ME} {s s' : XS} {cv bv : Value}
def loop1:Code→Option Code
 | .loop c=>some c
 | .seq a b=>match loop1 a with
  |some c=>some c
  |none=>loop1 b
 | .block _ c=>loop1 c
 | .scope c=>loop1 c
 | .cond _ a b=>match loop1 a with
  |some c=>some c
  |none=>loop1 b
 |_=>none
noncomputable def rnBody:Code:=((Tryz.f33.body.bind loop1).getD .skip)
def rF(M:Nat)(b:Int)(u7 u8 u9 u10 u11 u12 u13 u14 u15 u16 u17 u18 u19 u20 u21 u22 u23 u24 u25 u26 u27 u28 u29 u30 u31 u32 u33 u34 u35 u36 u37 u38 u39 u40 u41 u42 u43 u44 u45 u46 u47 u48 u49 u50:Value):Act:=⟨#[.pointer (some ⟨M,0,none⟩),.int .i64 1000,undef,undef,.bool false,.int .i64 b,.int .i64 0,u7,u8,u9,u10,u11,u12,u13,u14,u15,u16,u17,u18,u19,u20,u21,u22,u23,u24,u25,u26,u27,u28,u29,u30,u31,u32,u33,u34,u35,u36,u37,u38,u39,u40,u41,u42,u43,u44,u45,u46,u47,u48,u49,u50],[]⟩
theorem round_ok(K':Act→World→Prop)(Q:Exit→Act→World→Prop)(h:MX w E s cv bv)(x:Addr)(hx:E.oa=some x)(hoc:8≤E.oc∧E.oc≤9223372036854775807)(k:Nat)(hk:s.next=(k:Int))(hk8:k<8)(dn:Int)(sa:Option Addr)(sl sc:Nat)(to other kind least:Int)(fold back:Bool)(ho:OCells w (x.add (k*8)) ⟨dn,sa,sl,sc,to,other,kind,least,fold,back⟩)(b:Int)(hb:0≤b∧b<1000)(hd:¬dn=15)(hD:∀Wb,MX Wb E { s with next:=(k:Int)+1 } cv bv→FX E w Wb→Calls prog 57 #[.pointer (some ⟨E.M,0,none⟩),opV ⟨dn,sa,sl,sc,to,other,kind,least,fold,back⟩] Wb fun e w'=>DoE E s' true Wb e w')(hbl:s'.bk.length≤1000)(hK:∀(u7 u8 u9 u10 u11 u12 u13 u14 u15 u16 u17 u18 u19 u20 u21 u22 u23 u24 u25 u26 u27 u28 u29 u30 u31 u32 u33 u34 u35 u36 u37 u38 u39 u40 u41 u42 u43 u44 u45 u46 u47 u48 u49 u50:Value) (w':World) (cv' bv':Value),MX w' E s' cv' bv'→FX E w w'→K' (rF E.M (b+1) u7 u8 u9 u10 u11 u12 u13 u14 u15 u16 u17 u18 u19 u20 u21 u22 u23 u24 u25 u26 u27 u28 u29 u30 u31 u32 u33 u34 u35 u36 u37 u38 u39 u40 u41 u42 u43 u44 u45 u46 u47 u48 u49 u50) w')(u7 u8 u9 u10 u11 u12 u13 u14 u15 u16 u17 u18 u19 u20 u21 u22 u23 u24 u25 u26 u27 u28 u29 u30 u31 u32 u33 u34 u35 u36 u37 u38 u39 u40 u41 u42 u43 u44 u45 u46 u47 u48 u49 u50:Value):Code.wp prog rnBody (Exit.then K' Q) (rF E.M b u7 u8 u9 u10 u11 u12 u13 u14 u15 u16 u17 u18 u19 u20 u21 u22 u23 u24 u25 u26 u27 u28 u29 u30 u31 u32 u33 u34 u35 u36 u37 u38 u39 u40 u41 u42 u43 u44 u45 u46 u47 u48 u49 u50) w:=by
 obtain⟨-, -, -, -,c5,c8, -, -, -, -, -⟩:=h.rd
 rw[hx]at c5
 obtain⟨o0,o1,o2,o3,o4,o5,o6,o7⟩:=ho
 simp only at o0 o1 o2 o3 o4 o5 o6 o7
 have hlo:=lt_of_cell o0
 have hlM:=h.lt
 rw[hk]at c8
 have ek1:(0:Int)≤(k:Int):=by omega
 have ek2:(k:Int)<(8:Int):=by omega
 have ekw:IntKind.i64.wrap ((k:Int)+1)=(k:Int)+1:=by rw[IntKind.wrap_i64];omega
 have ebw:IntKind.i64.wrap (b+1)=b+1:=by rw[IntKind.wrap_i64];omega
 have eb1:b<(1000:Int):=hb.2
 obtain⟨Wa,hWa⟩:=named ((w.alloc (opO ⟨dn,sa,sl,sc,to,other,kind,least,fold,back⟩)).drew)
 have hba:Below w.heap.size w (w.alloc (opO ⟨dn,sa,sl,sc,to,other,kind,least,fold,back⟩)):=allocB _ _
 have dM:∀(X:World) (t:XS) (a c:Value),MX X E t a c→MX X.drew E t a c:=fun X t a c h=>h.drew
 have dh:∀X:World,X.drew.heap=X.heap:=fun _=>rfl
 have dF:∀(Y X:World),FX E Y X→FX E Y X.drew:=fun Y X h=>h.drew
 have hma:MX Wa E s cv bv:=by rw[hWa];exact dM _ _ _ _ (h.keep hba)
 have hfa:FX E w Wa:=by rw[hWa];exact dF _ _ (FX.of hba h.ltB)
 have hoa:Wa.heap[w.heap.size]? =some (opO ⟨dn,sa,sl,sc,to,other,kind,least,fold,back⟩):=by rw[hWa,dh];exact at_new _ _
 obtain⟨xb,hxb⟩:=named w.heap.size
 rw[← hxb]at hoa
 have hxM:xb≠E.M:=by have:=h.lt;omega
 obtain⟨Wb,hWb⟩:=named (Wa.setCell ⟨E.M,8,none⟩ (.int .i64 ((k:Int)+1)))
 have hmb:MX Wb E { s with next:=(k:Int)+1 } cv bv:=by rw[hWb];exact hma.put 8 (.int .i64 ((k:Int)+1)) { s with next:=(k:Int)+1 } rfl rfl rfl rfl
 have hfb:FX E w Wb:=by rw[hWb];exact hfa.trans (FX.set E Wa hma.lm 8 _)
 have hob:Wb.heap[xb]? =some (opO ⟨dn,sa,sl,sc,to,other,kind,least,fold,back⟩):=by rw[hWb,Below.heap_setCell _ _ _ _ (by simpa using hxM)];exact hoa
 obtain⟨b0,b1,b2,b3,b4,b5,b6,b7⟩:=op_cells hob
 simp only[Nat.zero_add]at b0 b1 b2 b3 b4 b5 b6 b7
 obtain⟨-, -, -, -, -,a8, -, -, -, -, -⟩:=hma.rd
 rw[hk]at a8
 have fa:=hma.fr
 have hla:=hma.lt
 have HC:=hide (hD Wb hmb hfb)
 simp only[opV]at HC
 have HFb:=hide hfb
 have HWa:=hide hWa
 have HWb:=hide hWb
 have HK:=hide hK
 clear hma hfa hmb hfb hWa hWb hba hoa hob hK hD dM dh dF h
 unfold rF
 conv=>arg 2;whnf
 simp only
 go_upto_region 2 with fail
 go_region
 rw[← HWa.out, ←hxb]
 clear hxb o0 o1 o2 o3 o4 o5 o6 o7 c5 c8 hlo hlM
 go_upto_region 4 with fail
 rw[← HWb.out]
 clear a8 fa hla
 go_wp2_with fail
 refine HC.out.mono ?_
 rintro e v ⟨rfl,⟨cv',bv',hm⟩,hf⟩
 clear HC b0 b1 b2 b3 b4 b5 b6 b7
 have HF:=hide (HFb.out.trans hf)
 clear hf
 obtain⟨bo,bc,hbs⟩:=own_shape hm.bk
 obtain⟨-, -, -, -, -, -, -, -, -, -,e13⟩:=hm.rd
 rw[hbs]at e13
 have HM:=hide hm
 have el:¬(100000:Int)<((s'.bk.length:Nat):Int):=by omega
 clear hm hbs HFb HWa HWb
 go_wp2
 exact HK.out _ _ _ _ _ _ _ _ _ _ _ _ _ _ _ _ _ _ _ _ _ _ _ _ _ _ _ _ _ _ _ _ _ _ _ _ _ _ _ _ _ _ _ _ _ _ _ HM.out HF.out
end Go.Proofs.YtfnndcbjklppeaaGreatDoor.Vm
