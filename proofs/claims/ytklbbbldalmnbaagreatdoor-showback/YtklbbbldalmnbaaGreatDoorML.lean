import Derived.Test.YtklbbbldalmnbaaGreatDoorMI
import Derived.Test.YtklbbbldalmnbaaGreatDoorMJ
import Derived.Test.YtklbbbldalmnbaaGreatDoorMK
set_option maxHeartbeats 8000000
set_option linter.unusedVariables false
set_option maxRecDepth 100000
open Go.Proofs.Tryz
namespace Go.Proofs.YtklbbbldalmnbaaGreatDoor.Pa
open Go.RowKit
open TR (Tr NV aL cz aG aV bS)
open TK (Mv bJ)
open Br (BE PS aw bC ez bI OR bm)
variable {w w' : World} {g : Nat} {v : Value} {l : List Int} {d : Int} {s s' : St} {nv av : Value}
def gL(g:Nat)(v:Value)(l:List Int)(d:Int)(dp:Nat)(rec:Rd):Prop:=∀(w:World) (s:St) (nv av:Value) (fo:Bool),RB w g v l d s nv av->ep l s->s.deep=dp->Calls prog 48 #[.pointer (some ⟨g,0,none⟩),.bool fo] w fun e w'=>j8 (rec fo s) g v l d w e w'
theorem aY{N k:Nat}{o:Obj}(h:Mv N w w')(hk:w.heap[k]? =some o)(hne:k≠N):w'.heap[k]? =some o:=by rw[h.block k (TR.lt_of_block hk) hne];exact hk
theorem Hk{L:Nat}{a b:Int}{n3 n4 n5 n6:Int}{f:Bool}{so ka:Option Addr}{sl sc kl kc:Nat}(h:w.heap[L]? =some (aG ⟨a,so,sl,sc,ka,kl,kc,b,n3,n4,n5,f⟩))(x:Int):(w.setCell ⟨L,3,none⟩ (.int .i64 x)).heap[L]? =some (aG ⟨a,so,sl,sc,ka,kl,kc,x,n3,n4,n5,f⟩):=by
 rw[TK.bd h];simp
theorem vi{L:Nat}{a b:Int}{n3 n4 n5 n6:Int}{f:Bool}{so ka:Option Addr}{sl sc kl kc:Nat}(h:w.heap[L]? =some (aG ⟨a,so,sl,sc,ka,kl,kc,b,n3,n4,n5,f⟩))(ka':Option Addr)(kl' kc':Nat):(w.setCell ⟨L,2,none⟩ (.slice ka' kl' kc')).heap[L]? =some (aG ⟨a,so,sl,sc,ka',kl',kc',b,n3,n4,n5,f⟩):=by
 rw[TK.bd h];simp
theorem IE{rec:Rd}(h:RB w g v l d s nv av)(hi:ep l s)(hp:s.pos<l.length)(hk7:s.tok.kind=7)(h20:s.deep≠20)(hz:s.tok.num=1)(hrec:gL g v l d (s.deep+1) rec)(hrg:gJ l (s.deep+1) rec):Calls prog 97 #[.pointer (some ⟨g,0,none⟩)] w fun e w'=>j8 (cd d l rec s) g v l d w e w':=by
 have hgw:=h.lt
 have hpe:=h.pe
 obtain⟨hpn,htok⟩:=hi.inv.on hp
 have hd20:=hi.inv.deep
 have hg20:=hi.inv.og
 have hnl:s.names.length<=1000:=by have:=hi.inv.jA;omega
 obtain⟨c2,c3,c4,c5,c6,c7,c8,c9⟩:=h.tk
 have c13:=h.rd.2.2.2.2.2.1
 obtain⟨dp,hdp⟩:∃dp,dp=s.deep:=⟨_,rfl⟩
 rw[<- hdp]at c13 h20 hd20 hrec hrg
 have q20:¬(dp:Int)=20:=by omega
 obtain⟨w2,hw2⟩:∃w2,w2=((w.alloc (aG aJ)).alloc (TK.aq s.tok)).alloc (aG ⟨s.tok.num,none,0,0,none,0,0,0,0,0,0,false⟩):=⟨_,rfl⟩
 have hb2:Below w.heap.size w w2:=by rw[hw2];exact(((J _ w).alloc (U _) _).alloc (by simp) _).alloc (by simp;omega) _
 have hN2:w2.heap[w.heap.size]? =some (aG aJ):=by rw[hw2];exact TK.ba (TK.ba (TK.aj _ _))
 have hT2:w2.heap[w.heap.size+1]? =some (TK.aq s.tok):=by rw[hw2];exact TK.ba (TK.bp _ _ (by simp))
 have hL2:w2.heap[w.heap.size+1+1]? =some (aG ⟨s.tok.num,none,0,0,none,0,0,0,0,0,0,false⟩):=by rw[hw2];exact TK.bp _ _ (by simp)
 have HR2:=I (h.ar hb2)
 have HS2:Hid (Step g w w2):=Step.ae hb2 hgw
 simp only[TK.aq,aG,aJ]at hw2
 obtain⟨t,htt⟩:∃t,t=s.tok:=⟨_,rfl⟩
 have HTT:=I htt
 rw[<- htt]at c2 c3 c4 c5 c6 c7 c8 c9 hw2 htok hT2 hL2 hk7 hz
 rw[hk7]at c2 hw2
 rw[hz]at c3 hw2 hL2
 have HN2:=I hN2
 have HT2:=I hT2
 have HL2:=I hL2
 have HI:=I hi
 have HPE:=I hpe
 have HDP:=I hdp
 have HZ:=I hz
 have HREC:=I hrec
 have HRG:=I hrg
 have H20:=I h20
 obtain⟨m0,m1,m2,m3,m4,m5,m6,m7⟩:=TK.ai hT2
 rw[hz]at m1
 clear h hN2 hL2 hT2 hb2 htt hi hpe hdp hrec hrg hz hk7 htok
 go_enter func97,ntmps97
 go_upto_region 5 with fail
 rw[<- hw2]
 obtain⟨N,hNe⟩:∃N,N=w.heap.size:=⟨_,rfl⟩
 obtain⟨T,hTe⟩:∃T,T=w.heap.size+1:=⟨_,rfl⟩
 obtain⟨L,hLe⟩:∃L,L=w.heap.size+1+1:=⟨_,rfl⟩
 have HNe:=I hNe
 have hgN:g<N:=by omega
 have hgT:g<T:=by omega
 have hgL:g<L:=by omega
 have hNT:N<T:=by omega
 have hTL:T<L:=by omega
 rw[<- hLe]at HL2
 rw[<- hTe]at m0 m1 m2 m3 m4 m5 m6 m7 HT2
 rw[<- hNe]at HN2
 rw[<- hLe, <-hTe, <-hNe]
 clear hw2 hNe hTe hLe c2 c3 c4 c5 c6 c7 c8 c9 c13
 have HE1:Hid ((if s.tok.num=11 then cZ s s.tok.text else .ok s)=.ok s):=by show _=_;rw[if_neg (by rw[<- HTT.o];have:=HZ.o;omega)]
 obtain⟨w4,hw4⟩:∃w4,w4=w2:=⟨_,rfl⟩
 obtain⟨s1,hs1⟩:∃s1,s1=s:=⟨_,rfl⟩
 obtain⟨nv1,hnv1⟩:∃nv1,nv1=nv:=⟨_,rfl⟩
 have HIA:Hid (nW l s1):=by show nW _ _;rw[hs1];exact HI.o.yw
 have HS1:Hid (s1.pos=s.pos/\s1.next=s.next/\s1.deep=s.deep):=by show _/\_;rw[hs1];exact⟨rfl,rfl,rfl⟩
 have HR4:Hid (RB w4 g v l d s1 nv1 av):=by show RB _ _ _ _ _ _ _ _;rw[hw4,hs1,hnv1];exact HR2.o
 have HE1':Hid ((if s.tok.num=11 then cZ s s.tok.text else .ok s)=.ok s1):=by show _=_;rw[HE1.o,hs1]
 rw[<- hw4]at HL2 HT2 HN2 HS2 m0 m1 m2 m3 m4 m5 m6 m7 |-
 have HL4:=HL2
 have HT4:=HT2
 have HN4:=HN2
 have HS4:=HS2
 clear HL2 HT2 HN2 HS2 HR2 HE1 hw4 hs1 hnv1
 have HE1:=HE1'
 clear HE1'
 go_upto_region 7 with fail
 clear m0 m1 m2 m3 m4 m5 m6 m7
 have HAV:=I (dq HR4.o HIA.o.next)
 go_wp2_with fail
 refine HAV.o.mono ?_
 rintro e w5 (⟨s2,hR2,rfl,hr5,hm5⟩|⟨z,a,hR2,rfl,hm5⟩)
 case inr=>
  have hE:Hid (cd d l rec s=.error (z,a)):=by
   show _=_
   unfold cd
   rw[if_neg (by have:=HDP.o;have:=H20.o;omega),HE1.o]
   simp only[hR2]
  have HST:=I (HS4.o.trans (Step.dc hm5 HR4.o.lt))
  clear hm5 hR2 HAV
  simp only[aw]
  go_wp2
  exact⟨rfl,.inr ⟨z,a,hE.o,rfl,HST.o⟩⟩
 obtain⟨i2,p2,f2,d2, -⟩:=eF HPE.o HIA.o hR2
 have HR2e:=I hR2
 have hd2:s2.deep=dp:=by have:=HS1.o;have:=HDP.o;omega
 have HP2:Hid (s.pos<s2.pos):=by have:=HS1.o;show _<_;omega
 have HI2:=I i2
 have hS5:=HS4.o.trans (Step.dc hm5 HR4.o.lt)
 have HL5:Hid (w5.heap[L]? =some (aG ⟨1,none,0,0,none,0,0,0,0,0,0,false⟩)):=aY hm5 HL4.o (by omega)
 have hT5:w5.heap[T]? =some (TK.aq t):=aY hm5 HT4.o (by omega)
 have HN5:Hid (w5.heap[N]? =some (aG aJ)):=aY hm5 HN4.o (by omega)
 have c13:=hr5.rd.2.2.2.2.2.1
 have f13:=hr5.fr 13
 rw[hd2]at c13
 have hdw:IntKind.i64.wrap ((dp:Int)+1)=(dp:Int)+1:=by rw[IntKind.wrap_i64];omega
 obtain⟨w6,hw6⟩:∃w6,w6=w5.setCell ⟨g,13,none⟩ (.int .i64 ((dp:Int)+1)):=⟨_,rfl⟩
 have hm6:Mv g w5 w6:=by rw[hw6];exact(Mv.refl g w5).setCell 13 _
 have HR6:Hid (RB w6 g v l d { s2 with deep:=dp+1 } nv1 av):=by show RB _ _ _ _ _ _ _ _;rw[hw6];exact hr5.set 13 _ rfl rfl rfl
 have HL6:Hid (w6.heap[L]? =some (aG ⟨1,none,0,0,none,0,0,0,0,0,0,false⟩)):=aY hm6 HL5.o (by omega)
 have hT6:w6.heap[T]? =some (TK.aq t):=aY hm6 hT5 (by omega)
 have HT6:=I hT6
 have HN6:Hid (w6.heap[N]? =some (aG aJ)):=aY hm6 HN5.o (by omega)
 have HS6:=I (hS5.trans (Step.dc hm6 hr5.lt))
 obtain⟨m0,m1,m2,m3,m4,m5,m6,m7⟩:=TK.ai hT6
 have HFB:=I (gP HR6.o t.fold)
 have HI6:Hid (ep l { s2 with deep:=dp+1 }):=⟨⟨i2.inv.pos,i2.inv.next,i2.inv.on,i2.inv.off,i2.inv.jf,i2.inv.jA,i2.inv.og,by show dp+1<=20;omega⟩,i2.pn⟩
 have HX:=I (HREC.o w6 { s2 with deep:=dp+1 } nv1 av (bw s2 t.fold) HR6.o HI6.o rfl)
 rw[show bw { s2 with deep:=dp+1 } t.fold=bw s2 t.fold from rfl]at HFB
 have HFo:Hid (bw s2 s.tok.fold=bw s2 t.fold):=by show _=_;rw[HTT.o]
 obtain⟨fb,hfb⟩:∃fb,fb=bw s2 t.fold:=⟨_,rfl⟩
 rw[<- hfb]at HFB HX HFo
 have HD2:=I hd2
 clear hR2 i2 p2 f2 d2 hd2 hS5 HL5 hT5 HN5 hm6 hr5 hm5 HAV HL4 HT4 HN4 HR4 HS4 hT6 hfb
 go_upto_region 9 with fail
 rw[<- hw6]
 clear hw6 c13 f13
 go_wp2_with fail
 refine HFB.o.mono ?_
 rintro e w6' ⟨rfl,rfl⟩
 clear HFB
 go_wp2_with fail
 refine HX.o.mono ?_
 rintro e w7 (⟨t3,s3,n3,nv3,av3,hR3,rfl,hni,hr7,hst7⟩|⟨z,a,hR3,rfl,hst7⟩)
 case inr=>
  have hE:Hid (cd d l rec s=.error (z,a)):=by
   show _=_
   unfold cd
   rw[if_neg (by have:=HDP.o;have:=H20.o;omega),HE1.o]
   simp only[HR2e.o,HFo.o,HD2.o]
   rw[hR3]
  have HST:=I (HS6.o.trans hst7)
  clear hst7 hR3 HX m0 m1 m2 m3 m4 m5 m6 m7
  simp only[aw]
  go_wp2
  exact⟨rfl,.inr ⟨z,a,hE.o,rfl,HST.o⟩⟩
 have hgood:=HRG.o fb _ _ _ HI6.o rfl hR3
 have hd3:s3.deep=dp+1:=hgood.deep
 have HI3:=I hgood.inv
 have HR3e:=I hR3
 obtain⟨w8,hw8⟩:∃w8,w8=w7.alloc (aG n3):=⟨_,rfl⟩
 obtain⟨X,hXe⟩:∃X,X=w7.heap.size:=⟨_,rfl⟩
 have HXe:=I hXe
 have hb8:Below w7.heap.size w7 w8:=by rw[hw8];exact(J _ w7).alloc (U _) _
 have hX8:w8.heap[X]? =some (aG n3):=by rw[hw8,hXe];exact TK.aj _ _
 have hlt7:L<w7.heap.size:=TR.lt_of_block (hst7.lh hgL HL6.o (by decide) (by decide))
 have hL8:w8.heap[L]? =some (aG ⟨1,none,0,0,none,0,0,0,0,0,0,false⟩):=by rw[hb8.block L hlt7];exact hst7.lh hgL HL6.o (by decide) (by decide)
 have hT8:w8.heap[T]? =some (TK.aq t):=by rw[hb8.block T (by omega)];exact hst7.lh hgT HT6.o (by decide) (by decide)
 have hN8:w8.heap[N]? =some (aG aJ):=by rw[hb8.block N (by omega)];exact hst7.lh hgN HN6.o (by decide) (by decide)
 have hr8:=hr7.ar hb8
 have hni8:=hni.ar (br.ae hb8 (U _))
 have hS8:=(HS6.o.trans hst7).trans (Step.ae (g:=g) hb8 hr7.lt)
 have hXL:L<X:=by omega
 have c13:=hr8.rd.2.2.2.2.2.1
 have f13:=hr8.fr 13
 have c2:=hr8.tk.1
 have c10:=hr8.rd.2.2.1
 rw[hd3]at c13
 have hdw2:IntKind.i64.wrap (((dp+1:Nat):Int) - 1)=(dp:Int):=by rw[IntKind.wrap_i64];omega
 obtain⟨w9,hw9⟩:∃w9,w9=w8.setCell ⟨g,13,none⟩ (.int .i64 (dp:Nat)):=⟨_,rfl⟩
 have hm9:Mv g w8 w9:=by rw[hw9];exact(Mv.refl g w8).setCell 13 _
 have hr9:RB w9 g v l d { s3 with deep:=dp } nv3 av3:=by rw[hw9];exact hr8.set 13 _ rfl rfl rfl
 have HR9:=I hr9
 have HL9:Hid (w9.heap[L]? =some (aG ⟨1,none,0,0,none,0,0,0,0,0,0,false⟩)):=aY hm9 hL8 (by omega)
 have HT9:Hid (w9.heap[T]? =some (TK.aq t)):=aY hm9 hT8 (by omega)
 have HN9:Hid (w9.heap[N]? =some (aG aJ)):=aY hm9 hN8 (by omega)
 have HX9:Hid (w9.heap[X]? =some (aG n3)):=aY hm9 hX8 (by omega)
 have HS9:=I (hS8.trans (Step.dc hm9 hr8.lt))
 obtain⟨A6,hA6⟩:∃A6,A6=w6.heap.size:=⟨_,rfl⟩
 have hA6N:L<A6:=by rw[hA6];exact TR.lt_of_block HL6.o
 have hA6X:A6<=X:=by rw[hA6,hXe];exact hst7.size
 have HNI9:Hid (bG w9 A6 X n3 t3):=by
  show bG _ _ _ _ _
  rw[hA6,hXe]
  refine hni8.ar (br.bz fun k h1 h2=>hm9.block k ?_ ?_)
  ·have:=hb8.size;omega
  ·have:=TR.lt_of_block HL6.o;omega
 have hl8:Hid (cd d l rec s=if s3.tok.kind≠8 then .error (1,(s3.pos:Int))else match dH d l { s3 with deep:=dp } with
   | .error e=>.error e
   | .ok s4=>if s.tok.num=1 then .ok (t3,s4)else .ok (.mk s.tok.num (if s.tok.num=11 then(s1.aF:Int)else 0) 0 0 0 false [] [t3],s4)):=by
  show _=_
  unfold cd
  rw[if_neg (by have:=HDP.o;have:=H20.o;omega),HE1.o]
  simp only[HR2e.o,HFo.o,HD2.o,HR3e.o,hd3]
  rfl
 simp only[aG]at hw8
 have HGD:Hid (s3.next<=l.length):=HI3.o.inv.next
 clear hR3 hgood hni hni8 hr7 hr8 hst7 hb8 hX8 hL8 hT8 hN8 hS8 hm9 hr9 HX HL6 HT6 HN6 HS6 m0 m1 m2 m3 m4 m5 m6 m7 HR6 hd3 hA6
 by_cases hk8:s3.tok.kind=8
 ·rw [hk8]at c2
  have HAV2:=I (dq HR9.o HGD.o)
  go_upto_region 10 with fail
  rw[<- hw8, <-hXe]
  clear hw8 hXe
  go_upto_region 13 with fail
  rw[<- hw9]
  clear hw9 c13 f13 c2 c10
  go_wp2_with fail
  refine HAV2.o.mono ?_
  rintro e w10 (⟨s4,hR4,rfl,hr10,hm10⟩|⟨z,a,hR4,rfl,hm10⟩)
  case inr=>
   have hE:Hid (cd d l rec s=.error (z,a)):=by show _=_;rw[hl8.o,if_neg (by omega),hR4]
   have HST:=I (HS9.o.trans (Step.dc hm10 HR9.o.lt))
   clear hm10 hR4 HAV2
   simp only[aw]
   go_wp2
   exact⟨rfl,.inr ⟨z,a,hE.o,rfl,HST.o⟩⟩
  have hL10:=aY hm10 HL9.o (by omega)
  have hT10:=aY hm10 HT9.o (by omega)
  have hN10:=aY hm10 HN9.o (by omega)
  have hX10:=aY hm10 HX9.o (by omega)
  have hni10:=HNI9.o.ar (br.bz fun k h1 h2=>hm10.block k (by have:=TR.lt_of_block HX9.o;omega) (by omega))
  have hS10:=HS9.o.trans (Step.dc hm10 HR9.o.lt)
  have HR10:=I hr10
  have HL10:=I hL10
  have HN10:=I hN10
  have HNI10:=I hni10
  have HS10:=I hS10
  have HX10:=I hX10
  have HR4e:=I hR4
  obtain⟨m0,m1,m2,m3,m4,m5,m6,m7⟩:=TK.ai hT10
  obtain⟨x0,x1,x2,x3,x4,x5,x6,x7⟩:=aU hX10
  obtain⟨z0,z1,z2,z3,z4,z5,z6,z7⟩:=aU hN10
  obtain⟨y0,y1,y2,y3,y4,y5,y6,y7⟩:=aU hL10
  have zf:=bH hN10
  have yf:=bH hL10
  have hXN:¬X=N:=by omega
  have hNX:¬N=X:=by omega
  have hLN:¬L=N:=by omega
  have hNL:¬N=L:=by omega
  have hX10s:=TR.lt_of_block hX10
  have hL10s:=TR.lt_of_block hL10
  have hN10s:=TR.lt_of_block hN10
  simp only at y0 y1 y2 y3 y4 y5 y6 y7
  have hE:Hid (cd d l rec s=.ok (t3,s4)):=by show _=_;rw[hl8.o,if_neg (by omega),HR4e.o];simp only;rw[if_pos (by rw[<- HTT.o];exact HZ.o)]
  rw[HZ.o]at m1
  clear hL10 hT10 hN10 hX10 hni10 hS10 hr10 hm10 hR4 HAV2 HL9 HT9 HN9 HX9 HR9 HS9 HNI9 m0 m2 m3 m4 m5 m6 m7
  go_wp21
  obtain⟨W4,hW4⟩:∃W4,W4=setNode w10 N n3:=⟨_,rfl⟩
  have hN4:W4.heap[N]? =some (aG n3):=by rw[hW4];exact bM HN10.o _
  have hm4:Mv N w10 W4:=by rw[hW4];exact bN (Mv.refl N w10) _
  simp only[setNode]at hW4
  rw[<- hW4]
  clear hW4
  refine cH (N:=N) results97 rfl (TR.ak hN4) (.inl ⟨_,_,_,nv3,av3,hE.o,rfl,?_,HR10.o.jz hgN HN10.o (by decide) (by decide) hm4,HS10.o.jz (by have:=HNe.o;omega) hgw hm4⟩)
  have e1:=HNe.o
  have e3:=hm4.size
  exact(HNI10.o.ar (br.bz fun k h1 h2=>hm4.block k (by omega) (by omega))).wide (by omega) (by omega)
 ·have q8:(s3.tok.kind !=8)=true:=by simpa using hk8
  have hE:Hid (cd d l rec s=.error (1,(s3.pos:Int))):=by show _=_;rw[hl8.o,if_pos hk8]
  have HG:=I (aO 1 (s3.pos:Int) w9)
  simp only[aw]at HG
  go_upto_region 10 with fail
  rw[<- hw8, <-hXe]
  clear hw8 hXe
  go_upto_region 12 with fail
  rw[<- hw9]
  have d10:=HR9.o.rd.2.2.1
  clear hw9 c13 f13 c2 c10
  simp only at d10
  go_wp2_with fail
  refine HG.o.mono ?_
  rintro e w10 ⟨rfl,rfl⟩
  go_wp2
  exact⟨rfl,.inr ⟨1,_,hE.o,rfl,HS9.o⟩⟩
variable {w w' : World} {g : Nat} {v : Value} {l : List Int} {d : Int} {s s' : St} {nv av : Value}
theorem II{rec:Rd}(h:RB w g v l d s nv av)(hi:ep l s)(hp:s.pos<l.length)(hk7:s.tok.kind=7)(h20:s.deep≠20)(hz:s.tok.num=11)(hrec:gL g v l d (s.deep+1) rec)(hrg:gJ l (s.deep+1) rec):Calls prog 97 #[.pointer (some ⟨g,0,none⟩)] w fun e w'=>j8 (cd d l rec s) g v l d w e w':=by
 have hgw:=h.lt
 have hpe:=h.pe
 obtain⟨hpn,htok⟩:=hi.inv.on hp
 have hd20:=hi.inv.deep
 have hg20:=hi.inv.og
 have hnl:s.names.length<=1000:=by have:=hi.inv.jA;omega
 obtain⟨c2,c3,c4,c5,c6,c7,c8,c9⟩:=h.tk
 have c13:=h.rd.2.2.2.2.2.1
 obtain⟨dp,hdp⟩:∃dp,dp=s.deep:=⟨_,rfl⟩
 rw[<- hdp]at c13 h20 hd20 hrec hrg
 have q20:¬(dp:Int)=20:=by omega
 obtain⟨w2,hw2⟩:∃w2,w2=((w.alloc (aG aJ)).alloc (TK.aq s.tok)).alloc (aG ⟨s.tok.num,none,0,0,none,0,0,0,0,0,0,false⟩):=⟨_,rfl⟩
 have hb2:Below w.heap.size w w2:=by rw[hw2];exact(((J _ w).alloc (U _) _).alloc (by simp) _).alloc (by simp;omega) _
 have hN2:w2.heap[w.heap.size]? =some (aG aJ):=by rw[hw2];exact TK.ba (TK.ba (TK.aj _ _))
 have hT2:w2.heap[w.heap.size+1]? =some (TK.aq s.tok):=by rw[hw2];exact TK.ba (TK.bp _ _ (by simp))
 have hL2:w2.heap[w.heap.size+1+1]? =some (aG ⟨s.tok.num,none,0,0,none,0,0,0,0,0,0,false⟩):=by rw[hw2];exact TK.bp _ _ (by simp)
 have HR2:=I (h.ar hb2)
 have HS2:Hid (Step g w w2):=Step.ae hb2 hgw
 simp only[TK.aq,aG,aJ]at hw2
 obtain⟨t,htt⟩:∃t,t=s.tok:=⟨_,rfl⟩
 have HTT:=I htt
 rw[<- htt]at c2 c3 c4 c5 c6 c7 c8 c9 hw2 htok hT2 hL2 hk7 hz
 rw[hk7]at c2 hw2
 rw[hz]at c3 hw2 hL2
 have HN2:=I hN2
 have HT2:=I hT2
 have HL2:=I hL2
 have HI:=I hi
 have HPE:=I hpe
 have HDP:=I hdp
 have HZ:=I hz
 have HREC:=I hrec
 have HRG:=I hrg
 have H20:=I h20
 obtain⟨m0,m1,m2,m3,m4,m5,m6,m7⟩:=TK.ai hT2
 rw[hz]at m1
 clear h hN2 hL2 hT2 hb2 htt hi hpe hdp hrec hrg hz hk7 htok
 go_enter func97,ntmps97
 go_upto_region 5 with fail
 rw[<- hw2]
 obtain⟨N,hNe⟩:∃N,N=w.heap.size:=⟨_,rfl⟩
 obtain⟨T,hTe⟩:∃T,T=w.heap.size+1:=⟨_,rfl⟩
 obtain⟨L,hLe⟩:∃L,L=w.heap.size+1+1:=⟨_,rfl⟩
 have HNe:=I hNe
 have hgN:g<N:=by omega
 have hgT:g<T:=by omega
 have hgL:g<L:=by omega
 have hNT:N<T:=by omega
 have hTL:T<L:=by omega
 rw[<- hLe]at HL2
 rw[<- hTe]at m0 m1 m2 m3 m4 m5 m6 m7 HT2
 rw[<- hNe]at HN2
 rw[<- hLe, <-hTe, <-hNe]
 clear hw2 hNe hTe hLe c2 c3 c4 c5 c6 c7 c8 c9 c13
 have HBG:=I (C4 HR2.o hg20 hnl t.text)
 go_wp2_with fail
 refine HBG.o.mono ?_
 rintro e w3 (⟨s1,nv1,hR,rfl,hr3,hst3⟩|⟨z,a,hR,rfl,hst3⟩)
 case inr=>
  have hE:Hid (cd d l rec s=.error (z,a)):=by
   show _=_
   unfold cd
   rw[if_neg (by have:=HDP.o;have:=H20.o;omega),if_pos (by rw[<- HTT.o];exact HZ.o), <-HTT.o,hR]
  have HST:=I (HS2.o.trans hst3)
  clear hst3 hR HBG m0 m1 m2 m3 m4 m5 m6 m7
  simp only[aw]
  go_wp2
  exact⟨rfl,.inr ⟨z,a,hE.o,rfl,HST.o⟩⟩
 obtain⟨hia,hs1p,hs1n,hs1d,hs1t⟩:=nV HI.o.yw hR
 have HE1:Hid ((if s.tok.num=11 then cZ s s.tok.text else .ok s)=.ok s1):=by show _=_;rw[if_pos (by rw[<- HTT.o];exact HZ.o), <-HTT.o,hR]
 have hL3:=hst3.lh hgL HL2.o (by decide) (by decide)
 have hT3:=hst3.lh hgT HT2.o (by decide) (by decide)
 have hN3:=hst3.lh hgN HN2.o (by decide) (by decide)
 obtain⟨y0,y1,y2,y3,y4,y5,y6,y7⟩:=aU hL3
 have yf:=bH hL3
 obtain⟨w4,hw4⟩:∃w4,w4=w3.setCell ⟨L,3,none⟩ (.int .i64 (s1.aF:Nat)):=⟨_,rfl⟩
 have hm4:Mv L w3 w4:=by rw[hw4];exact(Mv.refl L w3).setCell 3 _
 have HL4:Hid (w4.heap[L]? =some (aG ⟨11,none,0,0,none,0,0,(s1.aF:Nat),0,0,0,false⟩)):=by show _=_;rw[hw4];exact Hk (n6:=0) hL3 _
 have HT4:Hid (w4.heap[T]? =some (TK.aq t)):=aY hm4 hT3 (by omega)
 have HN4:Hid (w4.heap[N]? =some (aG aJ)):=aY hm4 hN3 (by omega)
 have HR4:Hid (RB w4 g v l d s1 nv1 av):=hr3.jz hgL hL3 (by decide) (by decide) hm4
 have HS4:Hid (Step g w w4):=(HS2.o.trans hst3).jz (by have:=HNe.o;omega) hgw hm4
 have HIA:=I hia
 have HS1:Hid (s1.pos=s.pos/\s1.next=s.next/\s1.deep=s.deep):=⟨hs1p,hs1n,hs1d⟩
 have hT4:=TK.ai hT3
 clear m0 m1 m2 m3 m4 m5 m6 m7 HBG hR hia hs1p hs1n hs1d hs1t hL3 hN3 hr3 hst3 hm4 HL2 HT2 HN2 HR2 HS2
 obtain⟨m0,m1,m2,m3,m4,m5,m6,m7⟩:=hT4
 clear hT3
 go_upto_region 7 with fail
 rw[<- hw4]
 clear hw4 y0 y1 y2 y3 y4 y5 y6 y7 yf m0 m1 m2 m3 m4 m5 m6 m7
 have HAV:=I (dq HR4.o HIA.o.next)
 go_wp2_with fail
 refine HAV.o.mono ?_
 rintro e w5 (⟨s2,hR2,rfl,hr5,hm5⟩|⟨z,a,hR2,rfl,hm5⟩)
 case inr=>
  have hE:Hid (cd d l rec s=.error (z,a)):=by
   show _=_
   unfold cd
   rw[if_neg (by have:=HDP.o;have:=H20.o;omega),HE1.o]
   simp only[hR2]
  have HST:=I (HS4.o.trans (Step.dc hm5 HR4.o.lt))
  clear hm5 hR2 HAV
  simp only[aw]
  go_wp2
  exact⟨rfl,.inr ⟨z,a,hE.o,rfl,HST.o⟩⟩
 obtain⟨i2,p2,f2,d2, -⟩:=eF HPE.o HIA.o hR2
 have HR2e:=I hR2
 have hd2:s2.deep=dp:=by have:=HS1.o;have:=HDP.o;omega
 have HP2:Hid (s.pos<s2.pos):=by have:=HS1.o;show _<_;omega
 have HI2:=I i2
 have hS5:=HS4.o.trans (Step.dc hm5 HR4.o.lt)
 have HL5:Hid (w5.heap[L]? =some (aG ⟨11,none,0,0,none,0,0,(s1.aF:Int),0,0,0,false⟩)):=aY hm5 HL4.o (by omega)
 have hT5:w5.heap[T]? =some (TK.aq t):=aY hm5 HT4.o (by omega)
 have HN5:Hid (w5.heap[N]? =some (aG aJ)):=aY hm5 HN4.o (by omega)
 have c13:=hr5.rd.2.2.2.2.2.1
 have f13:=hr5.fr 13
 rw[hd2]at c13
 have hdw:IntKind.i64.wrap ((dp:Int)+1)=(dp:Int)+1:=by rw[IntKind.wrap_i64];omega
 obtain⟨w6,hw6⟩:∃w6,w6=w5.setCell ⟨g,13,none⟩ (.int .i64 ((dp:Int)+1)):=⟨_,rfl⟩
 have hm6:Mv g w5 w6:=by rw[hw6];exact(Mv.refl g w5).setCell 13 _
 have HR6:Hid (RB w6 g v l d { s2 with deep:=dp+1 } nv1 av):=by show RB _ _ _ _ _ _ _ _;rw[hw6];exact hr5.set 13 _ rfl rfl rfl
 have HL6:Hid (w6.heap[L]? =some (aG ⟨11,none,0,0,none,0,0,(s1.aF:Int),0,0,0,false⟩)):=aY hm6 HL5.o (by omega)
 have hT6:w6.heap[T]? =some (TK.aq t):=aY hm6 hT5 (by omega)
 have HT6:=I hT6
 have HN6:Hid (w6.heap[N]? =some (aG aJ)):=aY hm6 HN5.o (by omega)
 have HS6:=I (hS5.trans (Step.dc hm6 hr5.lt))
 obtain⟨m0,m1,m2,m3,m4,m5,m6,m7⟩:=TK.ai hT6
 have HFB:=I (gP HR6.o t.fold)
 have HI6:Hid (ep l { s2 with deep:=dp+1 }):=⟨⟨i2.inv.pos,i2.inv.next,i2.inv.on,i2.inv.off,i2.inv.jf,i2.inv.jA,i2.inv.og,by show dp+1<=20;omega⟩,i2.pn⟩
 have HX:=I (HREC.o w6 { s2 with deep:=dp+1 } nv1 av (bw s2 t.fold) HR6.o HI6.o rfl)
 rw[show bw { s2 with deep:=dp+1 } t.fold=bw s2 t.fold from rfl]at HFB
 have HFo:Hid (bw s2 s.tok.fold=bw s2 t.fold):=by show _=_;rw[HTT.o]
 obtain⟨fb,hfb⟩:∃fb,fb=bw s2 t.fold:=⟨_,rfl⟩
 rw[<- hfb]at HFB HX HFo
 have HD2:=I hd2
 clear hR2 i2 p2 f2 d2 hd2 hS5 HL5 hT5 HN5 hm6 hr5 hm5 HAV HL4 HT4 HN4 HR4 HS4 hT6 hfb
 go_upto_region 9 with fail
 rw[<- hw6]
 clear hw6 c13 f13
 go_wp2_with fail
 refine HFB.o.mono ?_
 rintro e w6' ⟨rfl,rfl⟩
 clear HFB
 go_wp2_with fail
 refine HX.o.mono ?_
 rintro e w7 (⟨t3,s3,n3,nv3,av3,hR3,rfl,hni,hr7,hst7⟩|⟨z,a,hR3,rfl,hst7⟩)
 case inr=>
  have hE:Hid (cd d l rec s=.error (z,a)):=by
   show _=_
   unfold cd
   rw[if_neg (by have:=HDP.o;have:=H20.o;omega),HE1.o]
   simp only[HR2e.o,HFo.o,HD2.o]
   rw[hR3]
  have HST:=I (HS6.o.trans hst7)
  clear hst7 hR3 HX m0 m1 m2 m3 m4 m5 m6 m7
  simp only[aw]
  go_wp2
  exact⟨rfl,.inr ⟨z,a,hE.o,rfl,HST.o⟩⟩
 have hgood:=HRG.o fb _ _ _ HI6.o rfl hR3
 have hd3:s3.deep=dp+1:=hgood.deep
 have HI3:=I hgood.inv
 have HR3e:=I hR3
 obtain⟨w8,hw8⟩:∃w8,w8=w7.alloc (aG n3):=⟨_,rfl⟩
 obtain⟨X,hXe⟩:∃X,X=w7.heap.size:=⟨_,rfl⟩
 have HXe:=I hXe
 have hb8:Below w7.heap.size w7 w8:=by rw[hw8];exact(J _ w7).alloc (U _) _
 have hX8:w8.heap[X]? =some (aG n3):=by rw[hw8,hXe];exact TK.aj _ _
 have hlt7:L<w7.heap.size:=TR.lt_of_block (hst7.lh hgL HL6.o (by decide) (by decide))
 have hL8:w8.heap[L]? =some (aG ⟨11,none,0,0,none,0,0,(s1.aF:Int),0,0,0,false⟩):=by rw[hb8.block L hlt7];exact hst7.lh hgL HL6.o (by decide) (by decide)
 have hT8:w8.heap[T]? =some (TK.aq t):=by rw[hb8.block T (by omega)];exact hst7.lh hgT HT6.o (by decide) (by decide)
 have hN8:w8.heap[N]? =some (aG aJ):=by rw[hb8.block N (by omega)];exact hst7.lh hgN HN6.o (by decide) (by decide)
 have hr8:=hr7.ar hb8
 have hni8:=hni.ar (br.ae hb8 (U _))
 have hS8:=(HS6.o.trans hst7).trans (Step.ae (g:=g) hb8 hr7.lt)
 have hXL:L<X:=by omega
 have c13:=hr8.rd.2.2.2.2.2.1
 have f13:=hr8.fr 13
 have c2:=hr8.tk.1
 have c10:=hr8.rd.2.2.1
 rw[hd3]at c13
 have hdw2:IntKind.i64.wrap (((dp+1:Nat):Int) - 1)=(dp:Int):=by rw[IntKind.wrap_i64];omega
 obtain⟨w9,hw9⟩:∃w9,w9=w8.setCell ⟨g,13,none⟩ (.int .i64 (dp:Nat)):=⟨_,rfl⟩
 have hm9:Mv g w8 w9:=by rw[hw9];exact(Mv.refl g w8).setCell 13 _
 have hr9:RB w9 g v l d { s3 with deep:=dp } nv3 av3:=by rw[hw9];exact hr8.set 13 _ rfl rfl rfl
 have HR9:=I hr9
 have HL9:Hid (w9.heap[L]? =some (aG ⟨11,none,0,0,none,0,0,(s1.aF:Int),0,0,0,false⟩)):=aY hm9 hL8 (by omega)
 have HT9:Hid (w9.heap[T]? =some (TK.aq t)):=aY hm9 hT8 (by omega)
 have HN9:Hid (w9.heap[N]? =some (aG aJ)):=aY hm9 hN8 (by omega)
 have HX9:Hid (w9.heap[X]? =some (aG n3)):=aY hm9 hX8 (by omega)
 have HS9:=I (hS8.trans (Step.dc hm9 hr8.lt))
 obtain⟨A6,hA6⟩:∃A6,A6=w6.heap.size:=⟨_,rfl⟩
 have hA6N:L<A6:=by rw[hA6];exact TR.lt_of_block HL6.o
 have hA6X:A6<=X:=by rw[hA6,hXe];exact hst7.size
 have HNI9:Hid (bG w9 A6 X n3 t3):=by
  show bG _ _ _ _ _
  rw[hA6,hXe]
  refine hni8.ar (br.bz fun k h1 h2=>hm9.block k ?_ ?_)
  ·have:=hb8.size;omega
  ·have:=TR.lt_of_block HL6.o;omega
 have hl8:Hid (cd d l rec s=if s3.tok.kind≠8 then .error (1,(s3.pos:Int))else match dH d l { s3 with deep:=dp } with
   | .error e=>.error e
   | .ok s4=>if s.tok.num=1 then .ok (t3,s4)else .ok (.mk s.tok.num (if s.tok.num=11 then(s1.aF:Int)else 0) 0 0 0 false [] [t3],s4)):=by
  show _=_
  unfold cd
  rw[if_neg (by have:=HDP.o;have:=H20.o;omega),HE1.o]
  simp only[HR2e.o,HFo.o,HD2.o,HR3e.o,hd3]
  rfl
 simp only[aG]at hw8
 have HGD:Hid (s3.next<=l.length):=HI3.o.inv.next
 clear hR3 hgood hni hni8 hr7 hr8 hst7 hb8 hX8 hL8 hT8 hN8 hS8 hm9 hr9 HX HL6 HT6 HN6 HS6 m0 m1 m2 m3 m4 m5 m6 m7 HR6 hd3 hA6
 by_cases hk8:s3.tok.kind=8
 ·rw [hk8]at c2
  have HAV2:=I (dq HR9.o HGD.o)
  go_upto_region 10 with fail
  rw[<- hw8, <-hXe]
  clear hw8 hXe
  go_upto_region 13 with fail
  rw[<- hw9]
  clear hw9 c13 f13 c2 c10
  go_wp2_with fail
  refine HAV2.o.mono ?_
  rintro e w10 (⟨s4,hR4,rfl,hr10,hm10⟩|⟨z,a,hR4,rfl,hm10⟩)
  case inr=>
   have hE:Hid (cd d l rec s=.error (z,a)):=by show _=_;rw[hl8.o,if_neg (by omega),hR4]
   have HST:=I (HS9.o.trans (Step.dc hm10 HR9.o.lt))
   clear hm10 hR4 HAV2
   simp only[aw]
   go_wp2
   exact⟨rfl,.inr ⟨z,a,hE.o,rfl,HST.o⟩⟩
  have hL10:=aY hm10 HL9.o (by omega)
  have hT10:=aY hm10 HT9.o (by omega)
  have hN10:=aY hm10 HN9.o (by omega)
  have hX10:=aY hm10 HX9.o (by omega)
  have hni10:=HNI9.o.ar (br.bz fun k h1 h2=>hm10.block k (by have:=TR.lt_of_block HX9.o;omega) (by omega))
  have hS10:=HS9.o.trans (Step.dc hm10 HR9.o.lt)
  have HR10:=I hr10
  have HL10:=I hL10
  have HN10:=I hN10
  have HNI10:=I hni10
  have HS10:=I hS10
  have HX10:=I hX10
  have HR4e:=I hR4
  obtain⟨m0,m1,m2,m3,m4,m5,m6,m7⟩:=TK.ai hT10
  obtain⟨x0,x1,x2,x3,x4,x5,x6,x7⟩:=aU hX10
  obtain⟨z0,z1,z2,z3,z4,z5,z6,z7⟩:=aU hN10
  obtain⟨y0,y1,y2,y3,y4,y5,y6,y7⟩:=aU hL10
  have zf:=bH hN10
  have yf:=bH hL10
  have hXN:¬X=N:=by omega
  have hNX:¬N=X:=by omega
  have hLN:¬L=N:=by omega
  have hNL:¬N=L:=by omega
  have hX10s:=TR.lt_of_block hX10
  have hL10s:=TR.lt_of_block hL10
  have hN10s:=TR.lt_of_block hN10
  simp only at y0 y1 y2 y3 y4 y5 y6 y7
  have hE:Hid (cd d l rec s=.ok (.mk 11 (s1.aF:Int) 0 0 0 false [] [t3],s4)):=by
   show _=_
   rw[hl8.o,if_neg (by omega),HR4e.o]
   simp only
   rw[if_neg (by rw[<- HTT.o];have:=HZ.o;omega), <-HTT.o]
   rw[HZ.o]
   rfl
  rw[HZ.o]at m1
  have HY:Hid (¬(11=9\/11=10)\/True):=.inr trivial
  clear hL10 hT10 hN10 hX10 hni10 hS10 hr10 hm10 hR4 HAV2 HL9 HT9 HN9 HX9 HR9 HS9 HNI9 m0 m2 m3 m4 m5 m6 m7
  go_upto_region 17 with fail
  obtain⟨R,hRe⟩:∃R,R=w10.heap.size:=⟨_,rfl⟩
  obtain⟨w11,hw11⟩:∃w11,w11=w10.setCell ⟨L,2,none⟩ (.slice (some ⟨R,0,none⟩) 1 1):=⟨_,rfl⟩
  have hm11:Mv L w10 w11:=by rw[hw11];exact(Mv.refl L w10).setCell 2 _
  have hsz11:R=w11.heap.size:=by rw[hw11,hRe];simp[World.setCell]
  have hL11:w11.heap[L]? =some (aG ⟨11,none,0,0,some ⟨R,0,none⟩,1,1,(s1.aF:Int),0,0,0,false⟩):=by rw[hw11];exact vi (n6:=0) HL10.o _ _ _
  have hN11:w11.heap[N]? =some (aG aJ):=aY hm11 HN10.o (by omega)
  obtain⟨w12,hw12⟩:∃w12,w12=w11.alloc (aG n3):=⟨_,rfl⟩
  have hb12:Below w11.heap.size w11 w12:=by rw[hw12];exact(J _ w11).alloc (U _) _
  have hR12:w12.heap[R]? =some (aG n3):=by rw[hw12];exact TK.bp _ _ hsz11
  have hL12:w12.heap[L]? =some (aG ⟨11,none,0,0,some ⟨R,0,none⟩,1,1,(s1.aF:Int),0,0,0,false⟩):=by rw[hb12.block L (TR.lt_of_block hL11)];exact hL11
  have hN12:w12.heap[N]? =some (aG aJ):=by rw[hb12.block N (TR.lt_of_block hN11)];exact hN11
  have hr11:=HR10.o.jz hgL HL10.o (by decide) (by decide) hm11
  have HR12:Hid (RB w12 g v l d s4 nv3 av3):=hr11.ar hb12
  have HS12:Hid (Step g w w12):=(HS10.o.jz (by have:=HNe.o;omega) hgw hm11).trans (Step.ae (g:=g) hb12 hr11.lt)
  have HNI12:Hid (bG w12 A6 X n3 t3):=(HNI10.o.ar (br.bz fun k h1 h2=>hm11.block k (by omega) (by omega))).ar (br.ae hb12 (by omega))
  have HN12:=I hN12
  have HRow:=I hR12
  have hR12s:=TR.lt_of_block hR12
  have hXR:X<R:=by omega
  simp only[aG]at hw12
  rw[<- hRe, <-hw11, <-hw12]
  obtain⟨y0,y1,y2,y3,y4,y5,y6,y7⟩:=aU hL12
  obtain⟨z0,z1,z2,z3,z4,z5,z6,z7⟩:=aU hN12
  have zf:=bH hN12
  simp only at y0 y1 y2 y3 y4 y5 y6 y7
  clear hw11 hw12 hRe hb12 hsz11 hL11 hN11 hm11 hL12 hN12 hR12 hr11 x0 x1 x2 x3 x4 x5 x6 x7
  go_wp21
  obtain⟨W4,hW4⟩:∃W4,W4=setNode w12 N ⟨11,none,0,0,some ⟨R,0,none⟩,1,1,(s1.aF:Int),0,0,0,false⟩:=⟨_,rfl⟩
  have hN4:W4.heap[N]? =some (aG ⟨11,none,0,0,some ⟨R,0,none⟩,1,1,(s1.aF:Int),0,0,0,false⟩):=by rw[hW4];exact bM HN12.o _
  have hm4:Mv N w12 W4:=by rw[hW4];exact bN (Mv.refl N w12) _
  simp only[setNode]at hW4
  rw[<- hW4]
  clear hW4
  refine cH (N:=N) results97 rfl (TR.ak hN4) (.inl ⟨_,_,_,nv3,av3,hE.o,rfl,?_,HR12.o.jz hgN HN12.o (by decide) (by decide) hm4,HS12.o.jz (by have:=HNe.o;omega) hgw hm4⟩)
  have e1:=HNe.o
  have e3:=hm4.size
  have hnw:=HNI12.o.ar (w':=W4) (br.bz fun k h1 h2=>hm4.block k (by omega) (by omega))
  exact(ct.single hnw hA6X (R:=R) (by omega) (aY hm4 HRow.o (by omega)) (lo':=w.heap.size) (hi':=W4.heap.size) (by omega) (by omega)).node 11 (s1.aF:Int) 0 0 0 false (by simp)
 ·have q8:(s3.tok.kind !=8)=true:=by simpa using hk8
  have hE:Hid (cd d l rec s=.error (1,(s3.pos:Int))):=by show _=_;rw[hl8.o,if_pos hk8]
  have HG:=I (aO 1 (s3.pos:Int) w9)
  simp only[aw]at HG
  go_upto_region 10 with fail
  rw[<- hw8, <-hXe]
  clear hw8 hXe
  go_upto_region 12 with fail
  rw[<- hw9]
  have d10:=HR9.o.rd.2.2.1
  clear hw9 c13 f13 c2 c10
  simp only at d10
  go_wp2_with fail
  refine HG.o.mono ?_
  rintro e w10 ⟨rfl,rfl⟩
  go_wp2
  exact⟨rfl,.inr ⟨1,_,hE.o,rfl,HS9.o⟩⟩
variable {w w' : World} {g : Nat} {v : Value} {l : List Int} {d : Int} {s s' : St} {nv av : Value}
theorem IS{rec:Rd}(h:RB w g v l d s nv av)(hi:ep l s)(hp:s.pos<l.length)(hk7:s.tok.kind=7)(h20:s.deep≠20)(hz:s.tok.num≠11/\s.tok.num≠1)(hrec:gL g v l d (s.deep+1) rec)(hrg:gJ l (s.deep+1) rec):Calls prog 97 #[.pointer (some ⟨g,0,none⟩)] w fun e w'=>j8 (cd d l rec s) g v l d w e w':=by
 have hgw:=h.lt
 have hpe:=h.pe
 obtain⟨hpn,htok⟩:=hi.inv.on hp
 have hd20:=hi.inv.deep
 have hg20:=hi.inv.og
 have hnl:s.names.length<=1000:=by have:=hi.inv.jA;omega
 obtain⟨c2,c3,c4,c5,c6,c7,c8,c9⟩:=h.tk
 have c13:=h.rd.2.2.2.2.2.1
 obtain⟨dp,hdp⟩:∃dp,dp=s.deep:=⟨_,rfl⟩
 rw[<- hdp]at c13 h20 hd20 hrec hrg
 have q20:¬(dp:Int)=20:=by omega
 obtain⟨w2,hw2⟩:∃w2,w2=((w.alloc (aG aJ)).alloc (TK.aq s.tok)).alloc (aG ⟨s.tok.num,none,0,0,none,0,0,0,0,0,0,false⟩):=⟨_,rfl⟩
 have hb2:Below w.heap.size w w2:=by rw[hw2];exact(((J _ w).alloc (U _) _).alloc (by simp) _).alloc (by simp;omega) _
 have hN2:w2.heap[w.heap.size]? =some (aG aJ):=by rw[hw2];exact TK.ba (TK.ba (TK.aj _ _))
 have hT2:w2.heap[w.heap.size+1]? =some (TK.aq s.tok):=by rw[hw2];exact TK.ba (TK.bp _ _ (by simp))
 have hL2:w2.heap[w.heap.size+1+1]? =some (aG ⟨s.tok.num,none,0,0,none,0,0,0,0,0,0,false⟩):=by rw[hw2];exact TK.bp _ _ (by simp)
 have HR2:=I (h.ar hb2)
 have HS2:Hid (Step g w w2):=Step.ae hb2 hgw
 simp only[TK.aq,aG,aJ]at hw2
 obtain⟨t,htt⟩:∃t,t=s.tok:=⟨_,rfl⟩
 have HTT:=I htt
 rw[<- htt]at c2 c3 c4 c5 c6 c7 c8 c9 hw2 htok hT2 hL2 hk7 hz
 rw[hk7]at c2 hw2
 have q11:(t.num==11)=false:=by simpa using hz.1
 have q1:(t.num==1)=false:=by simpa using hz.2
 have HN2:=I hN2
 have HT2:=I hT2
 have HL2:=I hL2
 have HI:=I hi
 have HPE:=I hpe
 have HDP:=I hdp
 have HZ:=I hz
 have HREC:=I hrec
 have HRG:=I hrg
 have H20:=I h20
 obtain⟨m0,m1,m2,m3,m4,m5,m6,m7⟩:=TK.ai hT2
 skip
 clear h hN2 hL2 hT2 hb2 htt hi hpe hdp hrec hrg hz hk7 htok
 go_enter func97,ntmps97
 go_upto_region 5 with fail
 rw[<- hw2]
 obtain⟨N,hNe⟩:∃N,N=w.heap.size:=⟨_,rfl⟩
 obtain⟨T,hTe⟩:∃T,T=w.heap.size+1:=⟨_,rfl⟩
 obtain⟨L,hLe⟩:∃L,L=w.heap.size+1+1:=⟨_,rfl⟩
 have HNe:=I hNe
 have hgN:g<N:=by omega
 have hgT:g<T:=by omega
 have hgL:g<L:=by omega
 have hNT:N<T:=by omega
 have hTL:T<L:=by omega
 rw[<- hLe]at HL2
 rw[<- hTe]at m0 m1 m2 m3 m4 m5 m6 m7 HT2
 rw[<- hNe]at HN2
 rw[<- hLe, <-hTe, <-hNe]
 clear hw2 hNe hTe hLe c2 c3 c4 c5 c6 c7 c8 c9 c13
 have HE1:Hid ((if s.tok.num=11 then cZ s s.tok.text else .ok s)=.ok s):=by show _=_;rw[if_neg (by rw[<- HTT.o];have:=HZ.o;omega)]
 obtain⟨w4,hw4⟩:∃w4,w4=w2:=⟨_,rfl⟩
 obtain⟨s1,hs1⟩:∃s1,s1=s:=⟨_,rfl⟩
 obtain⟨nv1,hnv1⟩:∃nv1,nv1=nv:=⟨_,rfl⟩
 have HIA:Hid (nW l s1):=by show nW _ _;rw[hs1];exact HI.o.yw
 have HS1:Hid (s1.pos=s.pos/\s1.next=s.next/\s1.deep=s.deep):=by show _/\_;rw[hs1];exact⟨rfl,rfl,rfl⟩
 have HR4:Hid (RB w4 g v l d s1 nv1 av):=by show RB _ _ _ _ _ _ _ _;rw[hw4,hs1,hnv1];exact HR2.o
 have HE1':Hid ((if s.tok.num=11 then cZ s s.tok.text else .ok s)=.ok s1):=by show _=_;rw[HE1.o,hs1]
 rw[<- hw4]at HL2 HT2 HN2 HS2 m0 m1 m2 m3 m4 m5 m6 m7 |-
 have HL4:=HL2
 have HT4:=HT2
 have HN4:=HN2
 have HS4:=HS2
 clear HL2 HT2 HN2 HS2 HR2 HE1 hw4 hs1 hnv1
 have HE1:=HE1'
 clear HE1'
 go_upto_region 7 with fail
 clear m0 m1 m2 m3 m4 m5 m6 m7
 have HAV:=I (dq HR4.o HIA.o.next)
 go_wp2_with fail
 refine HAV.o.mono ?_
 rintro e w5 (⟨s2,hR2,rfl,hr5,hm5⟩|⟨z,a,hR2,rfl,hm5⟩)
 case inr=>
  have hE:Hid (cd d l rec s=.error (z,a)):=by
   show _=_
   unfold cd
   rw[if_neg (by have:=HDP.o;have:=H20.o;omega),HE1.o]
   simp only[hR2]
  have HST:=I (HS4.o.trans (Step.dc hm5 HR4.o.lt))
  clear hm5 hR2 HAV
  simp only[aw]
  go_wp2
  exact⟨rfl,.inr ⟨z,a,hE.o,rfl,HST.o⟩⟩
 obtain⟨i2,p2,f2,d2, -⟩:=eF HPE.o HIA.o hR2
 have HR2e:=I hR2
 have hd2:s2.deep=dp:=by have:=HS1.o;have:=HDP.o;omega
 have HP2:Hid (s.pos<s2.pos):=by have:=HS1.o;show _<_;omega
 have HI2:=I i2
 have hS5:=HS4.o.trans (Step.dc hm5 HR4.o.lt)
 have HL5:Hid (w5.heap[L]? =some (aG ⟨t.num,none,0,0,none,0,0,0,0,0,0,false⟩)):=aY hm5 HL4.o (by omega)
 have hT5:w5.heap[T]? =some (TK.aq t):=aY hm5 HT4.o (by omega)
 have HN5:Hid (w5.heap[N]? =some (aG aJ)):=aY hm5 HN4.o (by omega)
 have c13:=hr5.rd.2.2.2.2.2.1
 have f13:=hr5.fr 13
 rw[hd2]at c13
 have hdw:IntKind.i64.wrap ((dp:Int)+1)=(dp:Int)+1:=by rw[IntKind.wrap_i64];omega
 obtain⟨w6,hw6⟩:∃w6,w6=w5.setCell ⟨g,13,none⟩ (.int .i64 ((dp:Int)+1)):=⟨_,rfl⟩
 have hm6:Mv g w5 w6:=by rw[hw6];exact(Mv.refl g w5).setCell 13 _
 have HR6:Hid (RB w6 g v l d { s2 with deep:=dp+1 } nv1 av):=by show RB _ _ _ _ _ _ _ _;rw[hw6];exact hr5.set 13 _ rfl rfl rfl
 have HL6:Hid (w6.heap[L]? =some (aG ⟨t.num,none,0,0,none,0,0,0,0,0,0,false⟩)):=aY hm6 HL5.o (by omega)
 have hT6:w6.heap[T]? =some (TK.aq t):=aY hm6 hT5 (by omega)
 have HT6:=I hT6
 have HN6:Hid (w6.heap[N]? =some (aG aJ)):=aY hm6 HN5.o (by omega)
 have HS6:=I (hS5.trans (Step.dc hm6 hr5.lt))
 obtain⟨m0,m1,m2,m3,m4,m5,m6,m7⟩:=TK.ai hT6
 have HFB:=I (gP HR6.o t.fold)
 have HI6:Hid (ep l { s2 with deep:=dp+1 }):=⟨⟨i2.inv.pos,i2.inv.next,i2.inv.on,i2.inv.off,i2.inv.jf,i2.inv.jA,i2.inv.og,by show dp+1<=20;omega⟩,i2.pn⟩
 have HX:=I (HREC.o w6 { s2 with deep:=dp+1 } nv1 av (bw s2 t.fold) HR6.o HI6.o rfl)
 rw[show bw { s2 with deep:=dp+1 } t.fold=bw s2 t.fold from rfl]at HFB
 have HFo:Hid (bw s2 s.tok.fold=bw s2 t.fold):=by show _=_;rw[HTT.o]
 obtain⟨fb,hfb⟩:∃fb,fb=bw s2 t.fold:=⟨_,rfl⟩
 rw[<- hfb]at HFB HX HFo
 have HD2:=I hd2
 clear hR2 i2 p2 f2 d2 hd2 hS5 HL5 hT5 HN5 hm6 hr5 hm5 HAV HL4 HT4 HN4 HR4 HS4 hT6 hfb
 go_upto_region 9 with fail
 rw[<- hw6]
 clear hw6 c13 f13
 go_wp2_with fail
 refine HFB.o.mono ?_
 rintro e w6' ⟨rfl,rfl⟩
 clear HFB
 go_wp2_with fail
 refine HX.o.mono ?_
 rintro e w7 (⟨t3,s3,n3,nv3,av3,hR3,rfl,hni,hr7,hst7⟩|⟨z,a,hR3,rfl,hst7⟩)
 case inr=>
  have hE:Hid (cd d l rec s=.error (z,a)):=by
   show _=_
   unfold cd
   rw[if_neg (by have:=HDP.o;have:=H20.o;omega),HE1.o]
   simp only[HR2e.o,HFo.o,HD2.o]
   rw[hR3]
  have HST:=I (HS6.o.trans hst7)
  clear hst7 hR3 HX m0 m1 m2 m3 m4 m5 m6 m7
  simp only[aw]
  go_wp2
  exact⟨rfl,.inr ⟨z,a,hE.o,rfl,HST.o⟩⟩
 have hgood:=HRG.o fb _ _ _ HI6.o rfl hR3
 have hd3:s3.deep=dp+1:=hgood.deep
 have HI3:=I hgood.inv
 have HR3e:=I hR3
 obtain⟨w8,hw8⟩:∃w8,w8=w7.alloc (aG n3):=⟨_,rfl⟩
 obtain⟨X,hXe⟩:∃X,X=w7.heap.size:=⟨_,rfl⟩
 have HXe:=I hXe
 have hb8:Below w7.heap.size w7 w8:=by rw[hw8];exact(J _ w7).alloc (U _) _
 have hX8:w8.heap[X]? =some (aG n3):=by rw[hw8,hXe];exact TK.aj _ _
 have hlt7:L<w7.heap.size:=TR.lt_of_block (hst7.lh hgL HL6.o (by decide) (by decide))
 have hL8:w8.heap[L]? =some (aG ⟨t.num,none,0,0,none,0,0,0,0,0,0,false⟩):=by rw[hb8.block L hlt7];exact hst7.lh hgL HL6.o (by decide) (by decide)
 have hT8:w8.heap[T]? =some (TK.aq t):=by rw[hb8.block T (by omega)];exact hst7.lh hgT HT6.o (by decide) (by decide)
 have hN8:w8.heap[N]? =some (aG aJ):=by rw[hb8.block N (by omega)];exact hst7.lh hgN HN6.o (by decide) (by decide)
 have hr8:=hr7.ar hb8
 have hni8:=hni.ar (br.ae hb8 (U _))
 have hS8:=(HS6.o.trans hst7).trans (Step.ae (g:=g) hb8 hr7.lt)
 have hXL:L<X:=by omega
 have c13:=hr8.rd.2.2.2.2.2.1
 have f13:=hr8.fr 13
 have c2:=hr8.tk.1
 have c10:=hr8.rd.2.2.1
 rw[hd3]at c13
 have hdw2:IntKind.i64.wrap (((dp+1:Nat):Int) - 1)=(dp:Int):=by rw[IntKind.wrap_i64];omega
 obtain⟨w9,hw9⟩:∃w9,w9=w8.setCell ⟨g,13,none⟩ (.int .i64 (dp:Nat)):=⟨_,rfl⟩
 have hm9:Mv g w8 w9:=by rw[hw9];exact(Mv.refl g w8).setCell 13 _
 have hr9:RB w9 g v l d { s3 with deep:=dp } nv3 av3:=by rw[hw9];exact hr8.set 13 _ rfl rfl rfl
 have HR9:=I hr9
 have HL9:Hid (w9.heap[L]? =some (aG ⟨t.num,none,0,0,none,0,0,0,0,0,0,false⟩)):=aY hm9 hL8 (by omega)
 have HT9:Hid (w9.heap[T]? =some (TK.aq t)):=aY hm9 hT8 (by omega)
 have HN9:Hid (w9.heap[N]? =some (aG aJ)):=aY hm9 hN8 (by omega)
 have HX9:Hid (w9.heap[X]? =some (aG n3)):=aY hm9 hX8 (by omega)
 have HS9:=I (hS8.trans (Step.dc hm9 hr8.lt))
 obtain⟨A6,hA6⟩:∃A6,A6=w6.heap.size:=⟨_,rfl⟩
 have hA6N:L<A6:=by rw[hA6];exact TR.lt_of_block HL6.o
 have hA6X:A6<=X:=by rw[hA6,hXe];exact hst7.size
 have HNI9:Hid (bG w9 A6 X n3 t3):=by
  show bG _ _ _ _ _
  rw[hA6,hXe]
  refine hni8.ar (br.bz fun k h1 h2=>hm9.block k ?_ ?_)
  ·have:=hb8.size;omega
  ·have:=TR.lt_of_block HL6.o;omega
 have hl8:Hid (cd d l rec s=if s3.tok.kind≠8 then .error (1,(s3.pos:Int))else match dH d l { s3 with deep:=dp } with
   | .error e=>.error e
   | .ok s4=>if s.tok.num=1 then .ok (t3,s4)else .ok (.mk s.tok.num (if s.tok.num=11 then(s1.aF:Int)else 0) 0 0 0 false [] [t3],s4)):=by
  show _=_
  unfold cd
  rw[if_neg (by have:=HDP.o;have:=H20.o;omega),HE1.o]
  simp only[HR2e.o,HFo.o,HD2.o,HR3e.o,hd3]
  rfl
 simp only[aG]at hw8
 have HGD:Hid (s3.next<=l.length):=HI3.o.inv.next
 clear hR3 hgood hni hni8 hr7 hr8 hst7 hb8 hX8 hL8 hT8 hN8 hS8 hm9 hr9 HX HL6 HT6 HN6 HS6 m0 m1 m2 m3 m4 m5 m6 m7 HR6 hd3 hA6
 by_cases hk8:s3.tok.kind=8
 ·rw [hk8]at c2
  have HAV2:=I (dq HR9.o HGD.o)
  go_upto_region 10 with fail
  rw[<- hw8, <-hXe]
  clear hw8 hXe
  go_upto_region 13 with fail
  rw[<- hw9]
  clear hw9 c13 f13 c2 c10
  go_wp2_with fail
  refine HAV2.o.mono ?_
  rintro e w10 (⟨s4,hR4,rfl,hr10,hm10⟩|⟨z,a,hR4,rfl,hm10⟩)
  case inr=>
   have hE:Hid (cd d l rec s=.error (z,a)):=by show _=_;rw[hl8.o,if_neg (by omega),hR4]
   have HST:=I (HS9.o.trans (Step.dc hm10 HR9.o.lt))
   clear hm10 hR4 HAV2
   simp only[aw]
   go_wp2
   exact⟨rfl,.inr ⟨z,a,hE.o,rfl,HST.o⟩⟩
  have hL10:=aY hm10 HL9.o (by omega)
  have hT10:=aY hm10 HT9.o (by omega)
  have hN10:=aY hm10 HN9.o (by omega)
  have hX10:=aY hm10 HX9.o (by omega)
  have hni10:=HNI9.o.ar (br.bz fun k h1 h2=>hm10.block k (by have:=TR.lt_of_block HX9.o;omega) (by omega))
  have hS10:=HS9.o.trans (Step.dc hm10 HR9.o.lt)
  have HR10:=I hr10
  have HL10:=I hL10
  have HN10:=I hN10
  have HNI10:=I hni10
  have HS10:=I hS10
  have HX10:=I hX10
  have HR4e:=I hR4
  obtain⟨m0,m1,m2,m3,m4,m5,m6,m7⟩:=TK.ai hT10
  obtain⟨x0,x1,x2,x3,x4,x5,x6,x7⟩:=aU hX10
  obtain⟨z0,z1,z2,z3,z4,z5,z6,z7⟩:=aU hN10
  obtain⟨y0,y1,y2,y3,y4,y5,y6,y7⟩:=aU hL10
  have zf:=bH hN10
  have yf:=bH hL10
  have hXN:¬X=N:=by omega
  have hNX:¬N=X:=by omega
  have hLN:¬L=N:=by omega
  have hNL:¬N=L:=by omega
  have hX10s:=TR.lt_of_block hX10
  have hL10s:=TR.lt_of_block hL10
  have hN10s:=TR.lt_of_block hN10
  simp only at y0 y1 y2 y3 y4 y5 y6 y7
  have hE:Hid (cd d l rec s=.ok (.mk t.num 0 0 0 0 false [] [t3],s4)):=by
   show _=_
   rw[hl8.o,if_neg (by omega),HR4e.o]
   simp only
   rw[if_neg (by rw[<- HTT.o];have:=HZ.o;omega), <-HTT.o]
   rw[if_neg (by have:=HZ.o;omega)]
  have HY:Hid (¬(t.num=9\/t.num=10)\/True):=.inr trivial
  clear hL10 hT10 hN10 hX10 hni10 hS10 hr10 hm10 hR4 HAV2 HL9 HT9 HN9 HX9 HR9 HS9 HNI9 m0 m2 m3 m4 m5 m6 m7
  go_upto_region 17 with fail
  obtain⟨R,hRe⟩:∃R,R=w10.heap.size:=⟨_,rfl⟩
  obtain⟨w11,hw11⟩:∃w11,w11=w10.setCell ⟨L,2,none⟩ (.slice (some ⟨R,0,none⟩) 1 1):=⟨_,rfl⟩
  have hm11:Mv L w10 w11:=by rw[hw11];exact(Mv.refl L w10).setCell 2 _
  have hsz11:R=w11.heap.size:=by rw[hw11,hRe];simp[World.setCell]
  have hL11:w11.heap[L]? =some (aG ⟨t.num,none,0,0,some ⟨R,0,none⟩,1,1,0,0,0,0,false⟩):=by rw[hw11];exact vi (n6:=0) HL10.o _ _ _
  have hN11:w11.heap[N]? =some (aG aJ):=aY hm11 HN10.o (by omega)
  obtain⟨w12,hw12⟩:∃w12,w12=w11.alloc (aG n3):=⟨_,rfl⟩
  have hb12:Below w11.heap.size w11 w12:=by rw[hw12];exact(J _ w11).alloc (U _) _
  have hR12:w12.heap[R]? =some (aG n3):=by rw[hw12];exact TK.bp _ _ hsz11
  have hL12:w12.heap[L]? =some (aG ⟨t.num,none,0,0,some ⟨R,0,none⟩,1,1,0,0,0,0,false⟩):=by rw[hb12.block L (TR.lt_of_block hL11)];exact hL11
  have hN12:w12.heap[N]? =some (aG aJ):=by rw[hb12.block N (TR.lt_of_block hN11)];exact hN11
  have hr11:=HR10.o.jz hgL HL10.o (by decide) (by decide) hm11
  have HR12:Hid (RB w12 g v l d s4 nv3 av3):=hr11.ar hb12
  have HS12:Hid (Step g w w12):=(HS10.o.jz (by have:=HNe.o;omega) hgw hm11).trans (Step.ae (g:=g) hb12 hr11.lt)
  have HNI12:Hid (bG w12 A6 X n3 t3):=(HNI10.o.ar (br.bz fun k h1 h2=>hm11.block k (by omega) (by omega))).ar (br.ae hb12 (by omega))
  have HN12:=I hN12
  have HRow:=I hR12
  have hR12s:=TR.lt_of_block hR12
  have hXR:X<R:=by omega
  simp only[aG]at hw12
  rw[<- hRe, <-hw11, <-hw12]
  obtain⟨y0,y1,y2,y3,y4,y5,y6,y7⟩:=aU hL12
  obtain⟨z0,z1,z2,z3,z4,z5,z6,z7⟩:=aU hN12
  have zf:=bH hN12
  simp only at y0 y1 y2 y3 y4 y5 y6 y7
  clear hw11 hw12 hRe hb12 hsz11 hL11 hN11 hm11 hL12 hN12 hR12 hr11 x0 x1 x2 x3 x4 x5 x6 x7
  go_wp21
  obtain⟨W4,hW4⟩:∃W4,W4=setNode w12 N ⟨t.num,none,0,0,some ⟨R,0,none⟩,1,1,0,0,0,0,false⟩:=⟨_,rfl⟩
  have hN4:W4.heap[N]? =some (aG ⟨t.num,none,0,0,some ⟨R,0,none⟩,1,1,0,0,0,0,false⟩):=by rw[hW4];exact bM HN12.o _
  have hm4:Mv N w12 W4:=by rw[hW4];exact bN (Mv.refl N w12) _
  simp only[setNode]at hW4
  rw[<- hW4]
  clear hW4
  refine cH (N:=N) results97 rfl (TR.ak hN4) (.inl ⟨_,_,_,nv3,av3,hE.o,rfl,?_,HR12.o.jz hgN HN12.o (by decide) (by decide) hm4,HS12.o.jz (by have:=HNe.o;omega) hgw hm4⟩)
  have e1:=HNe.o
  have e3:=hm4.size
  have hnw:=HNI12.o.ar (w':=W4) (br.bz fun k h1 h2=>hm4.block k (by omega) (by omega))
  exact(ct.single hnw hA6X (R:=R) (by omega) (aY hm4 HRow.o (by omega)) (lo':=w.heap.size) (hi':=W4.heap.size) (by omega) (by omega)).node t.num 0 0 0 0 false (by simp)
 ·have q8:(s3.tok.kind !=8)=true:=by simpa using hk8
  have hE:Hid (cd d l rec s=.error (1,(s3.pos:Int))):=by show _=_;rw[hl8.o,if_pos hk8]
  have HG:=I (aO 1 (s3.pos:Int) w9)
  simp only[aw]at HG
  go_upto_region 10 with fail
  rw[<- hw8, <-hXe]
  clear hw8 hXe
  go_upto_region 12 with fail
  rw[<- hw9]
  have d10:=HR9.o.rd.2.2.1
  clear hw9 c13 f13 c2 c10
  simp only at d10
  go_wp2_with fail
  refine HG.o.mono ?_
  rintro e w10 ⟨rfl,rfl⟩
  go_wp2
  exact⟨rfl,.inr ⟨1,_,hE.o,rfl,HS9.o⟩⟩
end Go.Proofs.YtklbbbldalmnbaaGreatDoor.Pa
