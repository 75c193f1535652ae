import Derived.Test.YtfnndcbjklppeaaGreatDoorUW2
set_option maxHeartbeats 8000000
set_option linter.unusedVariables false
set_option maxRecDepth 100000
open Go.Proofs.Tryz
namespace Go.Proofs.YtfnndcbjklppeaaGreatDoor.Vm
open Go.RowKit
variable {w w' : World} {E : ME} {s s' : XS} {cv bv : Value}
theorem round_back(K':Act→World→Prop)(Q:Exit→Act→World→Prop)(h:MX w E s cv bv)(x:Addr)(hx:E.oa=some x)(hoc:8≤E.oc∧E.oc≤9223372036854775807)(k:Nat)(hk:s.next=(k:Int))(hk8:k<8)(dn:Int)(sa:Option Addr)(sl sc:Nat)(to other kind least:Int)(fold back:Bool)(ho:OCells w (x.add (k*8)) ⟨dn,sa,sl,sc,to,other,kind,least,fold,back⟩)(b:Int)(hb:0≤b∧b<1000)(hd:¬dn=15)(sm:XS)(hD:∀Wb,MX Wb E { s with next:=(k:Int)+1 } cv bv→FX E w Wb→Calls prog 57 #[.pointer (some ⟨E.M,0,none⟩),opV ⟨dn,sa,sl,sc,to,other,kind,least,fold,back⟩] Wb fun e w'=>DoE E sm false Wb e w')(bs:List (Int×Int×Int))(nx p:Int)(hbk:sm.bk=bs++[(nx,p,(sm.ch.length:Int))])(hch:0<sm.ch.length∧sm.ch.length≤1000)(hbl:bs.length≤1000)(hs':s'={ sm with next:=nx,pos:=p,bk:=bs })(hK:∀(u7 u8 u9 u10 u11 u12 u13 u14 u15 u16 u17 u18 u19 u20 u21 u22 u23 u24 u25 u26 u27 u28 u29 u30 u31 u32 u33 u34 u35 u36 u37 u38 u39 u40 u41 u42 u43 u44 u45 u46 u47 u48 u49 u50:Value) (w':World) (cv' bv':Value),MX w' E s' cv' bv'→FX E w w'→K' (rF E.M (b+1) u7 u8 u9 u10 u11 u12 u13 u14 u15 u16 u17 u18 u19 u20 u21 u22 u23 u24 u25 u26 u27 u28 u29 u30 u31 u32 u33 u34 u35 u36 u37 u38 u39 u40 u41 u42 u43 u44 u45 u46 u47 u48 u49 u50) w')(u7 u8 u9 u10 u11 u12 u13 u14 u15 u16 u17 u18 u19 u20 u21 u22 u23 u24 u25 u26 u27 u28 u29 u30 u31 u32 u33 u34 u35 u36 u37 u38 u39 u40 u41 u42 u43 u44 u45 u46 u47 u48 u49 u50:Value):Code.wp prog rnBody (Exit.then K' Q) (rF E.M b u7 u8 u9 u10 u11 u12 u13 u14 u15 u16 u17 u18 u19 u20 u21 u22 u23 u24 u25 u26 u27 u28 u29 u30 u31 u32 u33 u34 u35 u36 u37 u38 u39 u40 u41 u42 u43 u44 u45 u46 u47 u48 u49 u50) w:=by
 obtain⟨-, -, -, -,c5,c8, -, -, -, -, -⟩:=h.rd
 rw[hx]at c5
 obtain⟨o0,o1,o2,o3,o4,o5,o6,o7⟩:=ho
 simp only at o0 o1 o2 o3 o4 o5 o6 o7
 have hlo:=lt_of_cell o0
 have hlM:=h.lt
 rw[hk]at c8
 have ek1:(0:Int)≤(k:Int):=by omega
 have ek2:(k:Int)<(8:Int):=by omega
 have ekw:IntKind.i64.wrap ((k:Int)+1)=(k:Int)+1:=by rw[IntKind.wrap_i64];omega
 have ebw:IntKind.i64.wrap (b+1)=b+1:=by rw[IntKind.wrap_i64];omega
 have eb1:b<(1000:Int):=hb.2
 obtain⟨Wa,hWa⟩:=named ((w.alloc (opO ⟨dn,sa,sl,sc,to,other,kind,least,fold,back⟩)).drew)
 have hba:Below w.heap.size w (w.alloc (opO ⟨dn,sa,sl,sc,to,other,kind,least,fold,back⟩)):=allocB _ _
 have dM:∀(X:World) (t:XS) (a c:Value),MX X E t a c→MX X.drew E t a c:=fun X t a c h=>h.drew
 have dh:∀X:World,X.drew.heap=X.heap:=fun _=>rfl
 have dF:∀(Y X:World),FX E Y X→FX E Y X.drew:=fun Y X h=>h.drew
 have hma:MX Wa E s cv bv:=by rw[hWa];exact dM _ _ _ _ (h.keep hba)
 have hfa:FX E w Wa:=by rw[hWa];exact dF _ _ (FX.of hba h.ltB)
 have hoa:Wa.heap[w.heap.size]? =some (opO ⟨dn,sa,sl,sc,to,other,kind,least,fold,back⟩):=by rw[hWa,dh];exact at_new _ _
 obtain⟨xb,hxb⟩:=named w.heap.size
 rw[← hxb]at hoa
 have hxM:xb≠E.M:=by have:=h.lt;omega
 obtain⟨Wb,hWb⟩:=named (Wa.setCell ⟨E.M,8,none⟩ (.int .i64 ((k:Int)+1)))
 have hmb:MX Wb E { s with next:=(k:Int)+1 } cv bv:=by rw[hWb];exact hma.put 8 (.int .i64 ((k:Int)+1)) { s with next:=(k:Int)+1 } rfl rfl rfl rfl
 have hfb:FX E w Wb:=by rw[hWb];exact hfa.trans (FX.set E Wa hma.lm 8 _)
 have hob:Wb.heap[xb]? =some (opO ⟨dn,sa,sl,sc,to,other,kind,least,fold,back⟩):=by rw[hWb,Below.heap_setCell _ _ _ _ (by simpa using hxM)];exact hoa
 obtain⟨b0,b1,b2,b3,b4,b5,b6,b7⟩:=op_cells hob
 simp only[Nat.zero_add]at b0 b1 b2 b3 b4 b5 b6 b7
 obtain⟨-, -, -, -, -,a8, -, -, -, -, -⟩:=hma.rd
 rw[hk]at a8
 have fa:=hma.fr
 have hla:=hma.lt
 have HC:=hide (hD Wb hmb hfb)
 simp only[opV]at HC
 have HFb:=hide hfb
 have HWa:=hide hWa
 have HWb:=hide hWb
 have HK:=hide hK
 clear hma hfa hmb hfb hWa hWb hba hoa hob hK hD dM dh dF h
 unfold rF
 conv=>arg 2;whnf
 simp only
 go_upto_region 2 with fail
 go_region
 rw[← HWa.out, ←hxb]
 clear hxb o0 o1 o2 o3 o4 o5 o6 o7 c5 c8 hlo hlM
 go_upto_region 4 with fail
 rw[← HWb.out]
 clear a8 fa hla
 go_wp2_with fail
 refine HC.out.mono ?_
 rintro e v ⟨rfl,⟨cv',bv',hm⟩,hf⟩
 clear HC b0 b1 b2 b3 b4 b5 b6 b7
 have HC:=hide (goBack_any hm bs nx p hbk hch hbl)
 have HFv:=hide (HFb.out.trans hf)
 rw[← hs']at HC
 have hbl':s'.bk.length≤1000:=by rw[hs'];exact hbl
 clear hm hf hs' hbk hch
 go_wp2_with fail
 refine HC.out.mono ?_
 rintro e v2 ⟨rfl,⟨bv2,hm⟩,hf⟩
 clear HC
 have HF:=hide (HFv.out.trans hf)
 clear hf HFv
 obtain⟨bo,bc,hbs⟩:=own_shape hm.bk
 obtain⟨-, -, -, -, -, -, -, -, -, -,e13⟩:=hm.rd
 rw[hbs]at e13
 have HM:=hide hm
 have el:¬(100000:Int)<((s'.bk.length:Nat):Int):=by omega
 clear hm hbs HFb HWa HWb
 go_wp2
 exact HK.out _ _ _ _ _ _ _ _ _ _ _ _ _ _ _ _ _ _ _ _ _ _ _ _ _ _ _ _ _ _ _ _ _ _ _ _ _ _ _ _ _ _ _ _ _ _ _ HM.out HF.out
variable {w w' : World} {E : ME} {s s' : XS} {cv bv : Value}
theorem round_end(K':Act→World→Prop)(K:Act→World→Prop)(R:Ending→World→Prop)(h:MX w E s cv bv)(x:Addr)(hx:E.oa=some x)(hoc:8≤E.oc∧E.oc≤9223372036854775807)(k:Nat)(hk:s.next=(k:Int))(hk8:k<8)(dn:Int)(sa:Option Addr)(sl sc:Nat)(to other kind least:Int)(fold back:Bool)(ho:OCells w (x.add (k*8)) ⟨dn,sa,sl,sc,to,other,kind,least,fold,back⟩)(b:Int)(hb:0≤b∧b<1000)(hd:dn=15)(hK:∀w',MX w' E { s with next:=(k:Int)+1 } cv bv→FX E w w'→R (.returned (.tuple #[.bool true,.int .i64 (b+1),.int .i64 0])) w')(u7 u8 u9 u10 u11 u12 u13 u14 u15 u16 u17 u18 u19 u20 u21 u22 u23 u24 u25 u26 u27 u28 u29 u30 u31 u32 u33 u34 u35 u36 u37 u38 u39 u40 u41 u42 u43 u44 u45 u46 u47 u48 u49 u50:Value):Code.wp prog rnBody (Exit.then K' (Exit.inBlock 0 (Exit.then K (bodyPost prog Tryz.f33 R)))) (rF E.M b u7 u8 u9 u10 u11 u12 u13 u14 u15 u16 u17 u18 u19 u20 u21 u22 u23 u24 u25 u26 u27 u28 u29 u30 u31 u32 u33 u34 u35 u36 u37 u38 u39 u40 u41 u42 u43 u44 u45 u46 u47 u48 u49 u50) w:=by
 subst hd
 obtain⟨-, -, -, -,c5,c8, -, -, -, -, -⟩:=h.rd
 rw[hx]at c5
 obtain⟨o0,o1,o2,o3,o4,o5,o6,o7⟩:=ho
 simp only at o0 o1 o2 o3 o4 o5 o6 o7
 have hlo:=lt_of_cell o0
 have hlM:=h.lt
 rw[hk]at c8
 have ek1:(0:Int)≤(k:Int):=by omega
 have ek2:(k:Int)<(8:Int):=by omega
 have ekw:IntKind.i64.wrap ((k:Int)+1)=(k:Int)+1:=by rw[IntKind.wrap_i64];omega
 have ebw:IntKind.i64.wrap (b+1)=b+1:=by rw[IntKind.wrap_i64];omega
 have eb1:b<(1000:Int):=hb.2
 obtain⟨Wa,hWa⟩:=named ((w.alloc (opO ⟨15,sa,sl,sc,to,other,kind,least,fold,back⟩)).drew)
 have hba:Below w.heap.size w (w.alloc (opO ⟨15,sa,sl,sc,to,other,kind,least,fold,back⟩)):=allocB _ _
 have dM:∀(X:World) (t:XS) (a c:Value),MX X E t a c→MX X.drew E t a c:=fun X t a c h=>h.drew
 have dh:∀X:World,X.drew.heap=X.heap:=fun _=>rfl
 have dF:∀(Y X:World),FX E Y X→FX E Y X.drew:=fun Y X h=>h.drew
 have hma:MX Wa E s cv bv:=by rw[hWa];exact dM _ _ _ _ (h.keep hba)
 have hfa:FX E w Wa:=by rw[hWa];exact dF _ _ (FX.of hba h.ltB)
 have hoa:Wa.heap[w.heap.size]? =some (opO ⟨15,sa,sl,sc,to,other,kind,least,fold,back⟩):=by rw[hWa,dh];exact at_new _ _
 obtain⟨xb,hxb⟩:=named w.heap.size
 rw[← hxb]at hoa
 have hxM:xb≠E.M:=by have:=h.lt;omega
 obtain⟨Wb,hWb⟩:=named (Wa.setCell ⟨E.M,8,none⟩ (.int .i64 ((k:Int)+1)))
 have hmb:MX Wb E { s with next:=(k:Int)+1 } cv bv:=by rw[hWb];exact hma.put 8 (.int .i64 ((k:Int)+1)) { s with next:=(k:Int)+1 } rfl rfl rfl rfl
 have hfb:FX E w Wb:=by rw[hWb];exact hfa.trans (FX.set E Wa hma.lm 8 _)
 have hob:Wb.heap[xb]? =some (opO ⟨15,sa,sl,sc,to,other,kind,least,fold,back⟩):=by rw[hWb,Below.heap_setCell _ _ _ _ (by simpa using hxM)];exact hoa
 obtain⟨b0,b1,b2,b3,b4,b5,b6,b7⟩:=op_cells hob
 simp only[Nat.zero_add]at b0 b1 b2 b3 b4 b5 b6 b7
 obtain⟨-, -, -, -, -,a8, -, -, -, -, -⟩:=hma.rd
 rw[hk]at a8
 have fa:=hma.fr
 have hla:=hma.lt
 have HR:=hide (hK Wb hmb hfb)
 have HWa:=hide hWa
 have HWb:=hide hWb
 clear hma hfa hmb hfb hWa hWb hba hoa hob hK dM dh dF h
 unfold rF
 conv=>arg 2;whnf
 simp only
 go_upto_region 2 with fail
 go_region
 rw[← HWa.out, ←hxb]
 clear hxb o0 o1 o2 o3 o4 o5 o6 o7 c5 c8 hlo hlM
 go_upto_region 4 with fail
 rw[← HWb.out]
 clear a8 fa hla
 go_wp2
 exact HR.out
variable {w w' : World} {E : ME} {s s' : XS} {cv bv : Value}
theorem run_rounds(K:Act→World→Prop)(w0 w:World)(hw0:w0.heap.size=E.B)(hlow:Below E.B w0 w)(h:MX w E ⟨0,0,0,[],[]⟩ cv bv)(x:Addr)(hx:E.oa=some x)(hoc:8≤E.oc∧E.oc≤9223372036854775807)(so0:Option Addr×Nat×Nat)(so1:Option Addr×Nat×Nat)(so2:Option Addr×Nat×Nat)(so3:Option Addr×Nat×Nat)(so4:Option Addr×Nat×Nat)(so5:Option Addr×Nat×Nat)(so6:Option Addr×Nat×Nat)(so7:Option Addr×Nat×Nat)(ho0:OCells w0 (x.add (0*8)) ⟨9,so0.1,so0.2.1,so0.2.2,0,0,0,0,false,false⟩)(ho1:OCells w0 (x.add (1*8)) ⟨11,so1.1,so1.2.1,so1.2.2,0,3,0,1,false,false⟩)(ho2:OCells w0 (x.add (2*8)) ⟨3,so2.1,so2.2.1,so2.2.2,3,6,0,0,false,false⟩)(ho3:OCells w0 (x.add (3*8)) ⟨1,so3.1,so3.2.1,so3.2.2,0,0,0,0,false,false⟩)(ho4:OCells w0 (x.add (4*8)) ⟨10,so4.1,so4.2.1,so4.2.2,0,1,0,0,false,false⟩)(ho5:OCells w0 (x.add (5*8)) ⟨2,so5.1,so5.2.1,so5.2.2,1,0,0,0,false,false⟩)(ho6:OCells w0 (x.add (6*8)) ⟨1,so6.1,so6.2.1,so6.2.2,0,0,0,0,false,false⟩)(ho7:OCells w0 (x.add (7*8)) ⟨15,so7.1,so7.2.1,so7.2.2,0,0,0,0,false,false⟩)(hs3:Reads w0 (.slice so3.1 so3.2.1 so3.2.2) [(97,97)])(hs6:Reads w0 (.slice so6.1 so6.2.1 so6.2.2) [(98,98)])(hp0:w0.cell? (E.px.add 0)=some (.int .i64 97))(hp1:w0.cell? (E.px.add 1)=some (.int .i64 97))(hp2:w0.cell? (E.px.add 2)=some (.int .i64 98))(u7 u8 u9 u10 u11 u12 u13 u14 u15 u16 u17 u18 u19 u20 u21 u22 u23 u24 u25 u26 u27 u28 u29 u30 u31 u32 u33 u34 u35 u36 u37 u38 u39 u40 u41 u42 u43 u44 u45 u46 u47 u48 u49 u50:Value):Code.rounds prog rnBody (Exit.inBlock 0 (Exit.then K (bodyPost prog Tryz.f33 (fun e w'=>e=.returned (.tuple #[.bool true,.int .i64 15,.int .i64 0])∧(∃s cv bv,s.pos=3∧MX w' E s cv bv)∧FX E w w')))) 15 (rF E.M 0 u7 u8 u9 u10 u11 u12 u13 u14 u15 u16 u17 u18 u19 u20 u21 u22 u23 u24 u25 u26 u27 u28 u29 u30 u31 u32 u33 u34 u35 u36 u37 u38 u39 u40 u41 u42 u43 u44 u45 u46 u47 u48 u49 u50) w:=by
 have low:∀W,Below E.B w0 W→Below w0.heap.size w0 W:=fun W h=>by rw[hw0];exact h
 have f0:=FX.refl E w
 rw[rounds_succ]
 have D0:∀Wb,MX Wb E ⟨0,1,0,[],[]⟩ cv bv→FX E w Wb→Calls prog 57 #[.pointer (some ⟨E.M,0,none⟩),opV ⟨9,so0.1,so0.2.1,so0.2.2,0,0,0,0,false,false⟩] Wb fun e w'=>DoE E ⟨0,1,0,[0],[]⟩ true Wb e w':=fun Wb hm hf=>by
  have HC:=do_count hm so0.1 so0.2.1 so0.2.2 (by decide)
  exact HC
 refine round_ok (s':=⟨0,1,0,[0],[]⟩) _ _ h x hx hoc 0 rfl (by decide) 9 so0.1 so0.2.1 so0.2.2 0 0 0 0 false false (ho0.below (low _ (hlow.trans f0.low))) 0 ⟨by decide,by decide⟩ (by decide) D0 (by decide) ?_ _ _ _ _ _ _ _ _ _ _ _ _ _ _ _ _ _ _ _ _ _ _ _ _ _ _ _ _ _ _ _ _ _ _ _ _ _ _ _ _ _ _ _ _
 clear D0
 intro u7 u8 u9 u10 u11 u12 u13 u14 u15 u16 u17 u18 u19 u20 u21 u22 u23 u24 u25 u26 u27 u28 u29 u30 u31 u32 u33 u34 u35 u36 u37 u38 u39 u40 u41 u42 u43 u44 u45 u46 u47 u48 u49 u50 w1 cv1 bv1 h1 g1
 have f1:=f0.trans g1
 clear g1 h f0
 rw[rounds_succ]
 have D1:∀Wb,MX Wb E ⟨0,2,0,[0],[]⟩ cv1 bv1→FX E w1 Wb→Calls prog 57 #[.pointer (some ⟨E.M,0,none⟩),opV ⟨11,so1.1,so1.2.1,so1.2.2,0,3,0,1,false,false⟩] Wb fun e w'=>DoE E ⟨0,3,0,[0],[]⟩ true Wb e w':=fun Wb hm hf=>by
  have HC:=do_under1 hm so1.1 so1.2.1 so1.2.2 3 (by decide)
  exact HC
 refine round_ok (s':=⟨0,3,0,[0],[]⟩) _ _ h1 x hx hoc 1 rfl (by decide) 11 so1.1 so1.2.1 so1.2.2 0 3 0 1 false false (ho1.below (low _ (hlow.trans f1.low))) 1 ⟨by decide,by decide⟩ (by decide) D1 (by decide) ?_ _ _ _ _ _ _ _ _ _ _ _ _ _ _ _ _ _ _ _ _ _ _ _ _ _ _ _ _ _ _ _ _ _ _ _ _ _ _ _ _ _ _ _ _
 clear D1
 intro u7 u8 u9 u10 u11 u12 u13 u14 u15 u16 u17 u18 u19 u20 u21 u22 u23 u24 u25 u26 u27 u28 u29 u30 u31 u32 u33 u34 u35 u36 u37 u38 u39 u40 u41 u42 u43 u44 u45 u46 u47 u48 u49 u50 w2 cv2 bv2 h2 g2
 have f2:=f1.trans g2
 clear g2 h1 f1
 rw[rounds_succ]
 have D2:∀Wb,MX Wb E ⟨0,4,0,[0],[]⟩ cv2 bv2→FX E w2 Wb→Calls prog 57 #[.pointer (some ⟨E.M,0,none⟩),opV ⟨1,so3.1,so3.2.1,so3.2.2,0,0,0,0,false,false⟩] Wb fun e w'=>DoE E ⟨1,4,0,[0],[]⟩ true Wb e w':=fun Wb hm hf=>by
  have HC:=do_set hm so3.1 so3.2.1 so3.2.2 0 (by decide) rfl 97 ⟨by decide,by decide⟩ (fun W hW=>below_cell (low W (((hlow.trans f2.low).trans hf.low).trans hW)) (lt_of_cell hp0) hp0) [(97,97)] (fun W hW=>hs3.below (low W (((hlow.trans f2.low).trans hf.low).trans hW.low))) (by decide)
  rw[show ins [(97,97)] 97=true from by decide]at HC
  exact HC
 refine round_ok (s':=⟨1,4,0,[0],[]⟩) _ _ h2 x hx hoc 3 rfl (by decide) 1 so3.1 so3.2.1 so3.2.2 0 0 0 0 false false (ho3.below (low _ (hlow.trans f2.low))) 2 ⟨by decide,by decide⟩ (by decide) D2 (by decide) ?_ _ _ _ _ _ _ _ _ _ _ _ _ _ _ _ _ _ _ _ _ _ _ _ _ _ _ _ _ _ _ _ _ _ _ _ _ _ _ _ _ _ _ _ _
 clear D2
 intro u7 u8 u9 u10 u11 u12 u13 u14 u15 u16 u17 u18 u19 u20 u21 u22 u23 u24 u25 u26 u27 u28 u29 u30 u31 u32 u33 u34 u35 u36 u37 u38 u39 u40 u41 u42 u43 u44 u45 u46 u47 u48 u49 u50 w3 cv3 bv3 h3 g3
 have f3:=f2.trans g3
 clear g3 h2 f2
 rw[rounds_succ]
 have D3:∀Wb,MX Wb E ⟨1,5,0,[0],[]⟩ cv3 bv3→FX E w3 Wb→Calls prog 57 #[.pointer (some ⟨E.M,0,none⟩),opV ⟨10,so4.1,so4.2.1,so4.2.2,0,1,0,0,false,false⟩] Wb fun e w'=>DoE E ⟨1,5,1,[0,0],[]⟩ true Wb e w':=fun Wb hm hf=>by
  have HC:=do_more hm so4.1 so4.2.1 so4.2.2 (by decide) 1 ⟨by decide,by decide⟩
  exact HC
 refine round_ok (s':=⟨1,5,1,[0,0],[]⟩) _ _ h3 x hx hoc 4 rfl (by decide) 10 so4.1 so4.2.1 so4.2.2 0 1 0 0 false false (ho4.below (low _ (hlow.trans f3.low))) 3 ⟨by decide,by decide⟩ (by decide) D3 (by decide) ?_ _ _ _ _ _ _ _ _ _ _ _ _ _ _ _ _ _ _ _ _ _ _ _ _ _ _ _ _ _ _ _ _ _ _ _ _ _ _ _ _ _ _ _ _
 clear D3
 intro u7 u8 u9 u10 u11 u12 u13 u14 u15 u16 u17 u18 u19 u20 u21 u22 u23 u24 u25 u26 u27 u28 u29 u30 u31 u32 u33 u34 u35 u36 u37 u38 u39 u40 u41 u42 u43 u44 u45 u46 u47 u48 u49 u50 w4 cv4 bv4 h4 g4
 have f4:=f3.trans g4
 clear g4 h3 f3
 rw[rounds_succ]
 have D4:∀Wb,MX Wb E ⟨1,6,1,[0,0],[]⟩ cv4 bv4→FX E w4 Wb→Calls prog 57 #[.pointer (some ⟨E.M,0,none⟩),opV ⟨2,so5.1,so5.2.1,so5.2.2,1,0,0,0,false,false⟩] Wb fun e w'=>DoE E ⟨1,1,1,[0,0],[]⟩ true Wb e w':=fun Wb hm hf=>by
  have HC:=do_jump hm so5.1 so5.2.1 so5.2.2 1
  exact HC
 refine round_ok (s':=⟨1,1,1,[0,0],[]⟩) _ _ h4 x hx hoc 5 rfl (by decide) 2 so5.1 so5.2.1 so5.2.2 1 0 0 0 false false (ho5.below (low _ (hlow.trans f4.low))) 4 ⟨by decide,by decide⟩ (by decide) D4 (by decide) ?_ _ _ _ _ _ _ _ _ _ _ _ _ _ _ _ _ _ _ _ _ _ _ _ _ _ _ _ _ _ _ _ _ _ _ _ _ _ _ _ _ _ _ _ _
 clear D4
 intro u7 u8 u9 u10 u11 u12 u13 u14 u15 u16 u17 u18 u19 u20 u21 u22 u23 u24 u25 u26 u27 u28 u29 u30 u31 u32 u33 u34 u35 u36 u37 u38 u39 u40 u41 u42 u43 u44 u45 u46 u47 u48 u49 u50 w5 cv5 bv5 h5 g5
 have f5:=f4.trans g5
 clear g5 h4 f4
 rw[rounds_succ]
 have D5:∀Wb,MX Wb E ⟨1,2,1,[0,0],[]⟩ cv5 bv5→FX E w5 Wb→Calls prog 57 #[.pointer (some ⟨E.M,0,none⟩),opV ⟨11,so1.1,so1.2.1,so1.2.2,0,3,0,1,false,false⟩] Wb fun e w'=>DoE E ⟨1,2,1,[0,0],[]⟩ true Wb e w':=fun Wb hm hf=>by
  have HC:=do_under0 hm so1.1 so1.2.1 so1.2.2 3 (by decide)
  exact HC
 refine round_ok (s':=⟨1,2,1,[0,0],[]⟩) _ _ h5 x hx hoc 1 rfl (by decide) 11 so1.1 so1.2.1 so1.2.2 0 3 0 1 false false (ho1.below (low _ (hlow.trans f5.low))) 5 ⟨by decide,by decide⟩ (by decide) D5 (by decide) ?_ _ _ _ _ _ _ _ _ _ _ _ _ _ _ _ _ _ _ _ _ _ _ _ _ _ _ _ _ _ _ _ _ _ _ _ _ _ _ _ _ _ _ _ _
 clear D5
 intro u7 u8 u9 u10 u11 u12 u13 u14 u15 u16 u17 u18 u19 u20 u21 u22 u23 u24 u25 u26 u27 u28 u29 u30 u31 u32 u33 u34 u35 u36 u37 u38 u39 u40 u41 u42 u43 u44 u45 u46 u47 u48 u49 u50 w6 cv6 bv6 h6 g6
 have f6:=f5.trans g6
 clear g6 h5 f5
 rw[rounds_succ]
 have D6:∀Wb,MX Wb E ⟨1,3,1,[0,0],[]⟩ cv6 bv6→FX E w6 Wb→Calls prog 57 #[.pointer (some ⟨E.M,0,none⟩),opV ⟨3,so2.1,so2.2.1,so2.2.2,3,6,0,0,false,false⟩] Wb fun e w'=>DoE E ⟨1,3,1,[0,0],[(6,1,2)]⟩ true Wb e w':=fun Wb hm hf=>by
  have HC:=do_split hm so2.1 so2.2.1 so2.2.2 3 6 (by decide) (by decide)
  exact HC
 refine round_ok (s':=⟨1,3,1,[0,0],[(6,1,2)]⟩) _ _ h6 x hx hoc 2 rfl (by decide) 3 so2.1 so2.2.1 so2.2.2 3 6 0 0 false false (ho2.below (low _ (hlow.trans f6.low))) 6 ⟨by decide,by decide⟩ (by decide) D6 (by decide) ?_ _ _ _ _ _ _ _ _ _ _ _ _ _ _ _ _ _ _ _ _ _ _ _ _ _ _ _ _ _ _ _ _ _ _ _ _ _ _ _ _ _ _ _ _
 clear D6
 intro u7 u8 u9 u10 u11 u12 u13 u14 u15 u16 u17 u18 u19 u20 u21 u22 u23 u24 u25 u26 u27 u28 u29 u30 u31 u32 u33 u34 u35 u36 u37 u38 u39 u40 u41 u42 u43 u44 u45 u46 u47 u48 u49 u50 w7 cv7 bv7 h7 g7
 have f7:=f6.trans g7
 clear g7 h6 f6
 rw[rounds_succ]
 have D7:∀Wb,MX Wb E ⟨1,4,1,[0,0],[(6,1,2)]⟩ cv7 bv7→FX E w7 Wb→Calls prog 57 #[.pointer (some ⟨E.M,0,none⟩),opV ⟨1,so3.1,so3.2.1,so3.2.2,0,0,0,0,false,false⟩] Wb fun e w'=>DoE E ⟨2,4,1,[0,0],[(6,1,2)]⟩ true Wb e w':=fun Wb hm hf=>by
  have HC:=do_set hm so3.1 so3.2.1 so3.2.2 1 (by decide) rfl 97 ⟨by decide,by decide⟩ (fun W hW=>below_cell (low W (((hlow.trans f7.low).trans hf.low).trans hW)) (lt_of_cell hp1) hp1) [(97,97)] (fun W hW=>hs3.below (low W (((hlow.trans f7.low).trans hf.low).trans hW.low))) (by decide)
  rw[show ins [(97,97)] 97=true from by decide]at HC
  exact HC
 refine round_ok (s':=⟨2,4,1,[0,0],[(6,1,2)]⟩) _ _ h7 x hx hoc 3 rfl (by decide) 1 so3.1 so3.2.1 so3.2.2 0 0 0 0 false false (ho3.below (low _ (hlow.trans f7.low))) 7 ⟨by decide,by decide⟩ (by decide) D7 (by decide) ?_ _ _ _ _ _ _ _ _ _ _ _ _ _ _ _ _ _ _ _ _ _ _ _ _ _ _ _ _ _ _ _ _ _ _ _ _ _ _ _ _ _ _ _ _
 clear D7
 intro u7 u8 u9 u10 u11 u12 u13 u14 u15 u16 u17 u18 u19 u20 u21 u22 u23 u24 u25 u26 u27 u28 u29 u30 u31 u32 u33 u34 u35 u36 u37 u38 u39 u40 u41 u42 u43 u44 u45 u46 u47 u48 u49 u50 w8 cv8 bv8 h8 g8
 have f8:=f7.trans g8
 clear g8 h7 f7
 rw[rounds_succ]
 have D8:∀Wb,MX Wb E ⟨2,5,1,[0,0],[(6,1,2)]⟩ cv8 bv8→FX E w8 Wb→Calls prog 57 #[.pointer (some ⟨E.M,0,none⟩),opV ⟨10,so4.1,so4.2.1,so4.2.2,0,1,0,0,false,false⟩] Wb fun e w'=>DoE E ⟨2,5,2,[0,0,1],[(6,1,2)]⟩ true Wb e w':=fun Wb hm hf=>by
  have HC:=do_more hm so4.1 so4.2.1 so4.2.2 (by decide) 1 ⟨by decide,by decide⟩
  exact HC
 refine round_ok (s':=⟨2,5,2,[0,0,1],[(6,1,2)]⟩) _ _ h8 x hx hoc 4 rfl (by decide) 10 so4.1 so4.2.1 so4.2.2 0 1 0 0 false false (ho4.below (low _ (hlow.trans f8.low))) 8 ⟨by decide,by decide⟩ (by decide) D8 (by decide) ?_ _ _ _ _ _ _ _ _ _ _ _ _ _ _ _ _ _ _ _ _ _ _ _ _ _ _ _ _ _ _ _ _ _ _ _ _ _ _ _ _ _ _ _ _
 clear D8
 intro u7 u8 u9 u10 u11 u12 u13 u14 u15 u16 u17 u18 u19 u20 u21 u22 u23 u24 u25 u26 u27 u28 u29 u30 u31 u32 u33 u34 u35 u36 u37 u38 u39 u40 u41 u42 u43 u44 u45 u46 u47 u48 u49 u50 w9 cv9 bv9 h9 g9
 have f9:=f8.trans g9
 clear g9 h8 f8
 rw[rounds_succ]
 have D9:∀Wb,MX Wb E ⟨2,6,2,[0,0,1],[(6,1,2)]⟩ cv9 bv9→FX E w9 Wb→Calls prog 57 #[.pointer (some ⟨E.M,0,none⟩),opV ⟨2,so5.1,so5.2.1,so5.2.2,1,0,0,0,false,false⟩] Wb fun e w'=>DoE E ⟨2,1,2,[0,0,1],[(6,1,2)]⟩ true Wb e w':=fun Wb hm hf=>by
  have HC:=do_jump hm so5.1 so5.2.1 so5.2.2 1
  exact HC
 refine round_ok (s':=⟨2,1,2,[0,0,1],[(6,1,2)]⟩) _ _ h9 x hx hoc 5 rfl (by decide) 2 so5.1 so5.2.1 so5.2.2 1 0 0 0 false false (ho5.below (low _ (hlow.trans f9.low))) 9 ⟨by decide,by decide⟩ (by decide) D9 (by decide) ?_ _ _ _ _ _ _ _ _ _ _ _ _ _ _ _ _ _ _ _ _ _ _ _ _ _ _ _ _ _ _ _ _ _ _ _ _ _ _ _ _ _ _ _ _
 clear D9
 intro u7 u8 u9 u10 u11 u12 u13 u14 u15 u16 u17 u18 u19 u20 u21 u22 u23 u24 u25 u26 u27 u28 u29 u30 u31 u32 u33 u34 u35 u36 u37 u38 u39 u40 u41 u42 u43 u44 u45 u46 u47 u48 u49 u50 w10 cv10 bv10 h10 g10
 have f10:=f9.trans g10
 clear g10 h9 f9
 rw[rounds_succ]
 have D10:∀Wb,MX Wb E ⟨2,2,2,[0,0,1],[(6,1,2)]⟩ cv10 bv10→FX E w10 Wb→Calls prog 57 #[.pointer (some ⟨E.M,0,none⟩),opV ⟨11,so1.1,so1.2.1,so1.2.2,0,3,0,1,false,false⟩] Wb fun e w'=>DoE E ⟨2,2,2,[0,0,1],[(6,1,2)]⟩ true Wb e w':=fun Wb hm hf=>by
  have HC:=do_under0 hm so1.1 so1.2.1 so1.2.2 3 (by decide)
  exact HC
 refine round_ok (s':=⟨2,2,2,[0,0,1],[(6,1,2)]⟩) _ _ h10 x hx hoc 1 rfl (by decide) 11 so1.1 so1.2.1 so1.2.2 0 3 0 1 false false (ho1.below (low _ (hlow.trans f10.low))) 10 ⟨by decide,by decide⟩ (by decide) D10 (by decide) ?_ _ _ _ _ _ _ _ _ _ _ _ _ _ _ _ _ _ _ _ _ _ _ _ _ _ _ _ _ _ _ _ _ _ _ _ _ _ _ _ _ _ _ _ _
 clear D10
 intro u7 u8 u9 u10 u11 u12 u13 u14 u15 u16 u17 u18 u19 u20 u21 u22 u23 u24 u25 u26 u27 u28 u29 u30 u31 u32 u33 u34 u35 u36 u37 u38 u39 u40 u41 u42 u43 u44 u45 u46 u47 u48 u49 u50 w11 cv11 bv11 h11 g11
 have f11:=f10.trans g11
 clear g11 h10 f10
 rw[rounds_succ]
 have D11:∀Wb,MX Wb E ⟨2,3,2,[0,0,1],[(6,1,2)]⟩ cv11 bv11→FX E w11 Wb→Calls prog 57 #[.pointer (some ⟨E.M,0,none⟩),opV ⟨3,so2.1,so2.2.1,so2.2.2,3,6,0,0,false,false⟩] Wb fun e w'=>DoE E ⟨2,3,2,[0,0,1],[(6,1,2),(6,2,3)]⟩ true Wb e w':=fun Wb hm hf=>by
  have HC:=do_split hm so2.1 so2.2.1 so2.2.2 3 6 (by decide) (by decide)
  exact HC
 refine round_ok (s':=⟨2,3,2,[0,0,1],[(6,1,2),(6,2,3)]⟩) _ _ h11 x hx hoc 2 rfl (by decide) 3 so2.1 so2.2.1 so2.2.2 3 6 0 0 false false (ho2.below (low _ (hlow.trans f11.low))) 11 ⟨by decide,by decide⟩ (by decide) D11 (by decide) ?_ _ _ _ _ _ _ _ _ _ _ _ _ _ _ _ _ _ _ _ _ _ _ _ _ _ _ _ _ _ _ _ _ _ _ _ _ _ _ _ _ _ _ _ _
 clear D11
 intro u7 u8 u9 u10 u11 u12 u13 u14 u15 u16 u17 u18 u19 u20 u21 u22 u23 u24 u25 u26 u27 u28 u29 u30 u31 u32 u33 u34 u35 u36 u37 u38 u39 u40 u41 u42 u43 u44 u45 u46 u47 u48 u49 u50 w12 cv12 bv12 h12 g12
 have f12:=f11.trans g12
 clear g12 h11 f11
 rw[rounds_succ]
 have D12:∀Wb,MX Wb E ⟨2,4,2,[0,0,1],[(6,1,2),(6,2,3)]⟩ cv12 bv12→FX E w12 Wb→Calls prog 57 #[.pointer (some ⟨E.M,0,none⟩),opV ⟨1,so3.1,so3.2.1,so3.2.2,0,0,0,0,false,false⟩] Wb fun e w'=>DoE E ⟨2,4,2,[0,0,1],[(6,1,2),(6,2,3)]⟩ false Wb e w':=fun Wb hm hf=>by
  have HC:=do_set hm so3.1 so3.2.1 so3.2.2 2 (by decide) rfl 98 ⟨by decide,by decide⟩ (fun W hW=>below_cell (low W (((hlow.trans f12.low).trans hf.low).trans hW)) (lt_of_cell hp2) hp2) [(97,97)] (fun W hW=>hs3.below (low W (((hlow.trans f12.low).trans hf.low).trans hW.low))) (by decide)
  rw[show ins [(97,97)] 98=false from by decide]at HC
  exact HC
 refine round_back (s':=⟨2,6,2,[0,0,1],[(6,1,2)]⟩) _ _ h12 x hx hoc 3 rfl (by decide) 1 so3.1 so3.2.1 so3.2.2 0 0 0 0 false false (ho3.below (low _ (hlow.trans f12.low))) 12 ⟨by decide,by decide⟩ (by decide) _ D12 [(6,1,2)] 6 2 rfl ⟨by decide,by decide⟩ (by decide) rfl ?_ _ _ _ _ _ _ _ _ _ _ _ _ _ _ _ _ _ _ _ _ _ _ _ _ _ _ _ _ _ _ _ _ _ _ _ _ _ _ _ _ _ _ _ _
 clear D12
 intro u7 u8 u9 u10 u11 u12 u13 u14 u15 u16 u17 u18 u19 u20 u21 u22 u23 u24 u25 u26 u27 u28 u29 u30 u31 u32 u33 u34 u35 u36 u37 u38 u39 u40 u41 u42 u43 u44 u45 u46 u47 u48 u49 u50 w13 cv13 bv13 h13 g13
 have f13:=f12.trans g13
 clear g13 h12 f12
 rw[rounds_succ]
 have D13:∀Wb,MX Wb E ⟨2,7,2,[0,0,1],[(6,1,2)]⟩ cv13 bv13→FX E w13 Wb→Calls prog 57 #[.pointer (some ⟨E.M,0,none⟩),opV ⟨1,so6.1,so6.2.1,so6.2.2,0,0,0,0,false,false⟩] Wb fun e w'=>DoE E ⟨3,7,2,[0,0,1],[(6,1,2)]⟩ true Wb e w':=fun Wb hm hf=>by
  have HC:=do_set hm so6.1 so6.2.1 so6.2.2 2 (by decide) rfl 98 ⟨by decide,by decide⟩ (fun W hW=>below_cell (low W (((hlow.trans f13.low).trans hf.low).trans hW)) (lt_of_cell hp2) hp2) [(98,98)] (fun W hW=>hs6.below (low W (((hlow.trans f13.low).trans hf.low).trans hW.low))) (by decide)
  rw[show ins [(98,98)] 98=true from by decide]at HC
  exact HC
 refine round_ok (s':=⟨3,7,2,[0,0,1],[(6,1,2)]⟩) _ _ h13 x hx hoc 6 rfl (by decide) 1 so6.1 so6.2.1 so6.2.2 0 0 0 0 false false (ho6.below (low _ (hlow.trans f13.low))) 13 ⟨by decide,by decide⟩ (by decide) D13 (by decide) ?_ _ _ _ _ _ _ _ _ _ _ _ _ _ _ _ _ _ _ _ _ _ _ _ _ _ _ _ _ _ _ _ _ _ _ _ _ _ _ _ _ _ _ _ _
 clear D13
 intro u7 u8 u9 u10 u11 u12 u13 u14 u15 u16 u17 u18 u19 u20 u21 u22 u23 u24 u25 u26 u27 u28 u29 u30 u31 u32 u33 u34 u35 u36 u37 u38 u39 u40 u41 u42 u43 u44 u45 u46 u47 u48 u49 u50 w14 cv14 bv14 h14 g14
 have f14:=f13.trans g14
 clear g14 h13 f13
 rw[rounds_succ]
 refine round_end _ _ _ h14 x hx hoc 7 rfl (by decide) 15 so7.1 so7.2.1 so7.2.2 0 0 0 0 false false (ho7.below (low _ (hlow.trans f14.low))) 14 ⟨by decide,by decide⟩ rfl (fun w' hm hf=>⟨rfl,⟨_,_,_,rfl,hm⟩,f14.trans hf⟩) _ _ _ _ _ _ _ _ _ _ _ _ _ _ _ _ _ _ _ _ _ _ _ _ _ _ _ _ _ _ _ _ _ _ _ _ _ _ _ _ _ _ _ _
theorem run_aab(w0 w:World)(hw0:w0.heap.size=E.B)(hlow:Below E.B w0 w)(h:MX w E ⟨0,0,0,[],[]⟩ cv bv)(x:Addr)(hx:E.oa=some x)(hoc:8≤E.oc∧E.oc≤9223372036854775807)(so0:Option Addr×Nat×Nat)(so1:Option Addr×Nat×Nat)(so2:Option Addr×Nat×Nat)(so3:Option Addr×Nat×Nat)(so4:Option Addr×Nat×Nat)(so5:Option Addr×Nat×Nat)(so6:Option Addr×Nat×Nat)(so7:Option Addr×Nat×Nat)(ho0:OCells w0 (x.add (0*8)) ⟨9,so0.1,so0.2.1,so0.2.2,0,0,0,0,false,false⟩)(ho1:OCells w0 (x.add (1*8)) ⟨11,so1.1,so1.2.1,so1.2.2,0,3,0,1,false,false⟩)(ho2:OCells w0 (x.add (2*8)) ⟨3,so2.1,so2.2.1,so2.2.2,3,6,0,0,false,false⟩)(ho3:OCells w0 (x.add (3*8)) ⟨1,so3.1,so3.2.1,so3.2.2,0,0,0,0,false,false⟩)(ho4:OCells w0 (x.add (4*8)) ⟨10,so4.1,so4.2.1,so4.2.2,0,1,0,0,false,false⟩)(ho5:OCells w0 (x.add (5*8)) ⟨2,so5.1,so5.2.1,so5.2.2,1,0,0,0,false,false⟩)(ho6:OCells w0 (x.add (6*8)) ⟨1,so6.1,so6.2.1,so6.2.2,0,0,0,0,false,false⟩)(ho7:OCells w0 (x.add (7*8)) ⟨15,so7.1,so7.2.1,so7.2.2,0,0,0,0,false,false⟩)(hs3:Reads w0 (.slice so3.1 so3.2.1 so3.2.2) [(97,97)])(hs6:Reads w0 (.slice so6.1 so6.2.1 so6.2.2) [(98,98)])(hp0:w0.cell? (E.px.add 0)=some (.int .i64 97))(hp1:w0.cell? (E.px.add 1)=some (.int .i64 97))(hp2:w0.cell? (E.px.add 2)=some (.int .i64 98)):Calls prog 33 #[.pointer (some ⟨E.M,0,none⟩),.int .i64 1000] w fun e w'=>e=.returned (.tuple #[.bool true,.int .i64 15,.int .i64 0])∧(∃s cv bv,s.pos=3∧MX w' E s cv bv)∧FX E w w':=by
 have HR:=hide (fun K=>run_rounds K w0 w hw0 hlow h x hx hoc so0 so1 so2 so3 so4 so5 so6 so7 ho0 ho1 ho2 ho3 ho4 ho5 ho6 ho7 hs3 hs6 hp0 hp1 hp2)
 clear h hlow hx hw0 hs3 hs6 hp0 hp1 hp2 ho0 ho1 ho2 ho3 ho4 ho5 ho6 ho7
 go_enter func33,ntmps33
 go_wp2
 exact wp_loop_rounds 15 (HR.out _ _ _ _ _ _ _ _ _ _ _ _ _ _ _ _ _ _ _ _ _ _ _ _ _ _ _ _ _ _ _ _ _ _ _ _ _ _ _ _ _ _ _ _ _)
variable {w w' : World} {E : ME} {s s' : XS} {cv bv : Value}
theorem ret_match{f:Func}{tmps:Array Value}{W:World}{N s:Nat}{a b:Int}{R:Ending→World→Prop}(hres:f.results=#[ResultVar.cell s 47])(h2:tmps[s]? =some (.pointer (some ⟨N,0,none⟩)))(hb:W.heap[N]? =some (.cells #[.int .i64 a,.int .i64 b,.slice none 0 0] 47))(hF:R (.returned (.agg #[.int .i64 a,.int .i64 b,.slice none 0 0])) W):
  bodyPost prog f R Exit.ret { tmps:=tmps,defers:=[] } W:=by
 refine bodyPost_ret (v:=.agg #[.int .i64 a,.int .i64 b,.slice none 0 0]) ?_ rfl hF
 have c0:W.cell? ⟨N,0,none⟩=some (.int .i64 a):=by simp[World.cell?,hb]
 have c1:W.cell? ⟨N,1,none⟩=some (.int .i64 b):=by simp[World.cell?,hb]
 have c2:W.cell? ⟨N,2,none⟩=some (.slice none 0 0):=by simp[World.cell?,hb]
 simp[results,hres,go_sem,h2,c0,c1,c2]
theorem set3{W:World}{N:Nat}{x y z a b c:Value}{t:TypeId}(h:W.heap[N]? =some (.cells #[x,y,z] t)):(((W.setCell ⟨N,0,none⟩ a).setCell ⟨N,1,none⟩ b).setCell ⟨N,2,none⟩ c).heap[N]? =some (.cells #[a,b,c] t):=by
 rw[set_oneQ (set_oneQ (set_oneQ h _ _) _ _) _ _]
 simp
theorem match_any(h:MX w E s cv bv)(hpos:s.pos=3)(hs0:w.cell? (E.sx.add 0)=some (.int .i64 0))(hs3:w.cell? (E.sx.add 3)=some (.int .i64 3)):Calls prog 34 #[.pointer (some ⟨E.M,0,none⟩),.slice E.ga 0 E.gc] w fun e w'=>e=.returned (.agg #[.int .i64 0,.int .i64 3,.slice none 0 0])∧Below w.heap.size w w':=by
 obtain⟨c0,c1,c2,c3,c5,c8,c9,c10,c11,c12,c13⟩:=h.rd
 rw[hpos]at c1
 have hlM:=h.lt
 have hlx:=lt_of_cell hs0
 have hl3:=lt_of_cell hs3
 simp[Addr.add]at hs0 hs3 hlx hl3
 obtain⟨W,hW⟩:=named (((w.alloc (.cells #[.int .i64 0,.int .i64 0,.slice none 0 0] 47)).alloc (.cells #[.int .i64 0,.int .i64 3,.slice none 0 0] 47)).drew)
 have dh:∀X:World,X.drew.heap=X.heap:=fun _=>rfl
 have k0:W.heap[w.heap.size]? =some (.cells #[.int .i64 0,.int .i64 0,.slice none 0 0] 47):=by rw[hW,dh];exact at_old (at_new _ _)
 have k1:W.heap[w.heap.size+1]? =some (.cells #[.int .i64 0,.int .i64 3,.slice none 0 0] 47):=by rw[hW,dh];exact at_new' _ _ (by simp)
 have HB:Hid (Below w.heap.size w W):=by show Below _ _ _;rw[hW];exact(two_below _ _ _).trans ⟨rfl,rfl,rfl,leR _,fun _ _=>rfl⟩
 have a0:W.cell? ⟨w.heap.size,0,none⟩=some (.int .i64 0):=by simp[World.cell?,k0]
 have a1:W.cell? ⟨w.heap.size,1,none⟩=some (.int .i64 0):=by simp[World.cell?,k0]
 have a2:W.cell? ⟨w.heap.size,2,none⟩=some (.slice none 0 0):=by simp[World.cell?,k0]
 have g0:∀i,W.frozen? ⟨w.heap.size,i,none⟩=false:=fun i=>by simp[World.frozen?,k0]
 have b0:W.cell? ⟨w.heap.size+1,0,none⟩=some (.int .i64 0):=by simp[World.cell?,k1]
 have b1:W.cell? ⟨w.heap.size+1,1,none⟩=some (.int .i64 3):=by simp[World.cell?,k1]
 have b2:W.cell? ⟨w.heap.size+1,2,none⟩=some (.slice none 0 0):=by simp[World.cell?,k1]
 have hlW:=lt_of_block k1
 have HW:=hide hW
 obtain⟨N,hN⟩:=named w.heap.size
 rw[← hN]at a0 a1 a2 b0 b1 b2 g0 hlW
 have HN:=hide hN
 have HK0:=hide (set3 (a:=.int .i64 0) (b:=.int .i64 3) (c:=.slice none 0 0) k0)
 rw[← hN]at HK0
 clear k0
 clear c0 c5 c8 c9 c10 c11 c12 c13 h hW k1 dh hN
 go_enter func34,ntmps34
 go_upto_region 1 with fail
 go_region
 rw[← HW.out, ←HN.out]
 clear c1 c2 c3 hs0 hs3 hlx hl3 hlM HW
 go_wp2
 refine wp_loop_rounds 1 ?_
 rw[rounds_succ]
 go_wp2
 refine ret_match (N:=N) rfl rfl HK0.out ⟨rfl,?_⟩
 have hN:=HN.out
 exact((HB.out.setCell (by simp[hN]) _).setCell (by simp[hN]) _).setCell (by simp[hN]) _
end Go.Proofs.YtfnndcbjklppeaaGreatDoor.Vm
