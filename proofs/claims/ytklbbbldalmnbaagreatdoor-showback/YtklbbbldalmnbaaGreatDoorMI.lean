import Derived.Test.YtklbbbldalmnbaaGreatDoorMF
import Derived.Test.YtklbbbldalmnbaaGreatDoorMH
set_option maxHeartbeats 4000000
set_option linter.unusedVariables false
set_option maxRecDepth 100000
open Go.Proofs.Tryz
namespace Go.Proofs.YtklbbbldalmnbaaGreatDoor.Pa
open Go.RowKit
open TR (Tr NV aL cz aG aV bS)
open TK (Mv bJ)
open Br (BE PS aw bC ez bI OR bm)
variable {w w' : World} {g : Nat} {v : Value} {l : List Int} {d : Int} {s s' : St} {nv av : Value}
def dQ(R:Except BE (PS×Nat))(g:Nat)(v:Value)(l:List Int)(d:Int)(s:St)(nv av:Value)(w:World)(e:Ending)(w':World):Prop:=
 (∃f k sv L,R=.ok (f,k)/\e=.returned sv/\OR w' w.heap.size sv L/\bg f L/\L.length<=400/\k<=l.length/\RB w' g v l d { s with next:=k } nv av/\Mv g w w')\/(∃z a,R=.error (z,a)/\e=aw z a/\Mv g w w')
theorem Iu(h:RB w g v l d s nv av)(hn:s.next<=l.length)(ht:cI s.tok):Calls prog 113 #[.pointer (some ⟨g,0,none⟩)] w fun e w'=>dQ (lW d l s) g v l d s nv av w e w':=by
 obtain⟨c2,c3,c4,c5,c6,c7,c8,c9⟩:=h.tk
 have hgw:=h.lt
 have hb1:Below w.heap.size w (w.alloc (TK.aq s.tok)):=(J _ w).alloc (U _) _
 have HR:=I h
 obtain⟨t,htt⟩:∃t,t=s.tok:=⟨_,rfl⟩
 have HE0:Hid (lW d l s=if t.kind=1 then .ok (fM s.aD (jF t.num),s.next)
  else if t.kind=4 then .ok ((if t.neg then(fun x=>!fM s.aD (ins (bI t.text)) x)else fM s.aD (ins (bI t.text))),s.next)
  else if t.kind=5 then(match Br.dj d s.aD l (s.next:Int)with
   | .error (z,a)=>.error (z,max a (s.pos:Int))
   | .ok (f,k)=>.ok (f,k))
  else .ok (fun x=>!jF 10 x,s.next)):=by show _=_;rw[htt];rfl
 rw[<- htt]at c2 c3 c4 c5 c6 c7 c8 c9 ht hb1
 obtain⟨w1,hw1⟩:∃w1,w1=w.alloc (TK.aq t):=⟨_,rfl⟩
 have hM:w1.heap[w.heap.size]? =some (TK.aq t):=by rw[hw1];exact TK.aj _ _
 rw[<- hw1]at hb1
 have HB1:=I hb1
 obtain⟨m0,m1,m2,m3,m4,m5,m6,m7⟩:=TK.ai hM
 simp only[TK.aq]at hw1
 have HNL:=I hn
 clear h hM hb1 htt hn
 by_cases k1:t.kind=1
 ·have hE:Hid (lW d l s=.ok (fM s.aD (jF t.num),s.next)):=by show _=_;rw[HE0.o,if_pos k1]
  have hp:0<=t.num/\t.num<=1114111:=by unfold cI at ht;omega
  have HO:=I (my t.num hp w1)
  have HF1:=I (Ap hp)
  have HF2:=I (Al hp s.aD)
  rw[k1]at hw1 c2 m0
  clear HE0 ht hp k1
  go_enter func113,ntmps113
  go_wp2_with fail
  rw[<- hw1]
  clear hw1
  refine HO.o.mono ?_
  rintro e w2 ⟨sv,L,rfl,ho,hs,hl,hb⟩
  have hb2:=HB1.o.trans (hb.mono HB1.o.size)
  have HX:=I (zL (HR.o.ar hb2) (Nat.le_trans HB1.o.size hb.size) (ho.low HB1.o.size) hs HF1.o HF2.o)
  have HB2:=I hb2
  obtain⟨so,sc,hsv⟩:=OR.shape ho
  obtain⟨ln,hln⟩:∃ln,ln=L.length:=⟨_,rfl⟩
  rw[<- hln]at hsv
  rw[hsv]at HX |-
  clear ho hs hb hsv hln HO hl hb2 m0 m1 m2 m3 m4 m5 m6 m7
  go_wp2_with fail
  refine HX.o.mono ?_
  rintro e w3 ⟨sv,L,rfl,ho,hs,hl,hb⟩
  have hb3:=HB2.o.trans (hb.mono HB2.o.size)
  have HO:=I ho
  have HS:=I hs
  have HL:=I hl
  have HB3:=I hb3
  obtain⟨so,sc,hsv⟩:=OR.shape ho
  obtain⟨ln,hln⟩:∃ln,ln=L.length:=⟨_,rfl⟩
  rw[<- hln]at hsv
  rw[hsv]at HO |-
  clear ho hs hb hsv hln HX hl hb3
  go_wp2
  go_ret
  exact .inl ⟨_,_,_,L,hE.o,rfl,HO.o,HS.o,HL.o,HNL.o,HR.o.ar HB3.o,Mv.ae HB3.o⟩
 ·have q1:(t.kind==1)=false:=by simpa using k1
  by_cases k4:t.kind=4
  ·have hE:Hid (lW d l s=.ok ((if t.neg then(fun x=>!fM s.aD (ins (bI t.text)) x)else fM s.aD (ins (bI t.text))),s.next)):=by show _=_;rw[HE0.o,if_neg k1,if_pos k4]
   have hp:t.text=TK.ee\/t.text=TK.dK\/t.text=TK.eh\/t.text=TK.dw:=by
    unfold cI at ht
    rcases ht with h|h|h|h|h|h|h|h|h|h|h
    ·omega
    ·omega
    ·omega
    ·exact h.2
    all_goals omega
   have HO:=I (Fm (HR.o.ar HB1.o) hp t.neg)
   rw[k4]at hw1 c2 m0 q1
   clear HE0 ht hp k4 k1
   go_enter func113,ntmps113
   go_wp2_with fail
   rw[<- hw1]
   clear hw1
   refine HO.o.mono ?_
   rintro e w3 ⟨sv,L,rfl,ho,hs,hl,hb⟩
   have hb3:=HB1.o.trans (hb.mono HB1.o.size)
   have HO:=I (ho.low HB1.o.size)
   have HS:=I hs
   have HL:=I hl
   have HB3:=I hb3
   obtain⟨so,sc,hsv⟩:=OR.shape ho
   obtain⟨ln,hln⟩:∃ln,ln=L.length:=⟨_,rfl⟩
   rw[<- hln]at hsv
   rw[hsv]at HO |-
   clear ho hs hb hsv hln hl hb3 m0 m1 m2 m3 m4 m5 m6 m7
   go_wp2
   go_ret
   exact .inl ⟨_,_,_,L,hE.o,rfl,HO.o,HS.o,HL.o,HNL.o,HR.o.ar HB3.o,Mv.ae HB3.o⟩
  ·have q4:(t.kind==4)=false:=by simpa using k4
   by_cases k5:t.kind=5
   ·have HO:=I (ym (HR.o.ar HB1.o))
    have HE1:Hid (lW d l s=match Br.dj d s.aD l (s.next:Int)with
     | .error (z,a)=>.error (z,max a (s.pos:Int))
     | .ok (f,k)=>.ok (f,k)):=by show _=_;rw[HE0.o,if_neg k1,if_neg k4,if_pos k5]
    rw[k5]at hw1 c2 m0 q1 q4
    clear HE0 ht k5 k1 k4
    go_enter func113,ntmps113
    go_wp2_with fail
    rw[<- hw1]
    clear hw1
    refine HO.o.mono ?_
    rintro e w3 (⟨f,k,sv,L,hR,rfl,ho,hs,hl,hk,hr,hm⟩|⟨z,a,hR,rfl,hm⟩)
    ·have hE:Hid (lW d l s=.ok (f,k)):=by show _=_;rw[HE1.o,hR]
     have HO:=I (ho.low HB1.o.size)
     have HS:=I hs
     have HL:=I hl
     have HK:=I hk
     have HRR:=I hr
     have HM:=I (Mv.trans (b:=g) (Mv.ae HB1.o) hm)
     obtain⟨so,sc,hsv⟩:=OR.shape ho
     obtain⟨ln,hln⟩:∃ln,ln=L.length:=⟨_,rfl⟩
     rw[<- hln]at hsv
     rw[hsv]at HO |-
     clear ho hs hsv hln hl hk hr hm HE1 hR m0 m1 m2 m3 m4 m5 m6 m7
     go_wp2
     go_ret
     exact .inl ⟨_,_,_,L,hE.o,rfl,HO.o,HS.o,HL.o,HK.o,HRR.o,HM.o⟩
    ·have hE:Hid (lW d l s=.error (z,max a (s.pos:Int))):=by show _=_;rw[HE1.o,hR]
     have HM:=I (Mv.trans (b:=g) (Mv.ae HB1.o) hm)
     clear hm HE1 hR m0 m1 m2 m3 m4 m5 m6 m7
     simp only[aw]
     go_wp2
     exact⟨rfl,.inr ⟨z,_,hE.o,rfl,HM.o⟩⟩
   ·have q5:(t.kind==5)=false:=by simpa using k5
    have hE:Hid (lW d l s=.ok (fun x=>!jF 10 x,s.next)):=by show _=_;rw[HE0.o,if_neg k1,if_neg k4,if_neg k5]
    have HO:=I (my 10 (by decide) w1)
    clear HE0 ht
    go_enter func113,ntmps113
    go_wp2_with fail
    rw[<- hw1]
    clear hw1
    refine HO.o.mono ?_
    rintro e w2 ⟨sv,L,rfl,ho,hs,hl,hb⟩
    have hb2:=HB1.o.trans (hb.mono HB1.o.size)
    have HX:=I (Es ho hs (Ap (by decide)) F8)
    have HB2:=I hb2
    obtain⟨so,sc,hsv⟩:=OR.shape ho
    obtain⟨ln,hln⟩:∃ln,ln=L.length:=⟨_,rfl⟩
    rw[<- hln]at hsv
    rw[hsv]at HX |-
    clear ho hs hb hsv hln HO hl hb2 m0 m1 m2 m3 m4 m5 m6 m7
    go_wp2_with fail
    refine HX.o.mono ?_
    rintro e w3 ⟨sv,L,rfl,ho,hs,hl,hb⟩
    have hb3:=HB2.o.trans (hb.mono HB2.o.size)
    have HO:=I (ho.low HB2.o.size)
    have HS:=I hs
    have HL:=I hl
    have HB3:=I hb3
    obtain⟨so,sc,hsv⟩:=OR.shape ho
    obtain⟨ln,hln⟩:∃ln,ln=L.length:=⟨_,rfl⟩
    rw[<- hln]at hsv
    rw[hsv]at HO |-
    clear ho hs hb hsv hln HX hl hb3
    go_wp2
    go_ret
    exact .inl ⟨_,_,_,L,hE.o,rfl,HO.o,HS.o,HL.o,HNL.o,HR.o.ar HB3.o,Mv.ae HB3.o⟩
variable {w w' : World} {g : Nat} {v : Value} {l : List Int} {d : Int} {s s' : St} {nv av : Value}
theorem gi{B N:Nat}{w0:World}(h:Below B w0 w)(hN:B<=N)(n:NV):Below B w0 (setNode w N n):=
 (((((((h.setCell (p:=⟨N,0,none⟩) hN _).setCell (p:=⟨N,1,none⟩) hN _).setCell (p:=⟨N,2,none⟩) hN _).setCell (p:=⟨N,3,none⟩) hN _).setCell (p:=⟨N,4,none⟩) hN _).setCell (p:=⟨N,5,none⟩) hN _).setCell (p:=⟨N,6,none⟩) hN _).setCell (p:=⟨N,7,none⟩) hN _
theorem ct.single{W:World}{lo hi R:Nat}{n:NV}{t:Tr}(h:bG W lo hi n t)(hle:lo<=hi)(hR:hi<=R)(hrow:W.heap[R]? =some (aG n)){lo' hi':Nat}(h1:lo'<=lo)(h2:R<hi'):ct W lo' hi' (.slice (some ⟨R,0,none⟩) 1 1) [⟨n,t,lo,hi⟩]:=by
 refine⟨⟨⟨rfl,.inr ⟨R,1,_,rfl,by omega,hrow,U _,by decide,rfl,rfl⟩⟩,fun k hk=>?_,fun p hp=>?_,List.pairwise_singleton _ _⟩,fun p hp=>?_⟩
 ·have :R=k:=Option.some.inj hk
  subst this
  exact⟨h2,fun p hp=>by rw[List.mem_singleton]at hp;subst hp;exact .inr hR⟩
 ·rw [List.mem_singleton]at hp;subst hp
  exact⟨h1,hle,by show hi<=hi';omega⟩
 ·rw [List.mem_singleton]at hp;subst hp
  exact h
variable {w w' : World} {g : Nat} {v : Value} {l : List Int} {d : Int} {s s' : St} {nv av : Value}
theorem bG.J9{W:World}{lo hi:Nat}{so:Option Addr}{sl sc:Nat}{L:RL}(ho:OR W lo (.slice so sl sc) L)(hh:W.heap.size<=hi):bG W lo hi ⟨2,so,sl,sc,none,0,0,0,0,0,0,false⟩ (fg L):=
 .mk lo hi ⟨2,so,sl,sc,none,0,0,0,0,0,0,false⟩ L [] ⟨ho,fun k hk=>(by have:=(World.ownsRow.lt (show W.ownsRow lo 76 2 _ L.length (aN L)from ho) k hk).2;omega)⟩ (mq.nil _ _ _) (fun h=>(by simp at h)) (fun p hp=>(by cases hp))
theorem BD(h:RB w g v l d s nv av)(hi:Inv l s)(hp:s.pos<l.length):Calls prog 98 #[.pointer (some ⟨g,0,none⟩)] w fun e w'=>j8 (cJ d l s) g v l d w e w':=by
 have hgw:=h.lt
 obtain⟨hpn,htok⟩:=hi.on hp
 have hal:s.ay.length<=1000:=by have:=hi.jf;have:=hi.pos;have:=h.small;omega
 have hnum:s.tok.kind=10-> -999<=s.tok.num/\s.tok.num<=999:=fun hk=>by unfold cI at htok;omega
 have h3n:s.tok.kind=3->3<=s.tok.num/\s.tok.num<=8:=fun hk=>by unfold cI at htok;omega
 have hg20:=hi.og
 have hnx:=hi.next
 obtain⟨c2,c3,c4,c5,c6,c7,c8,c9⟩:=h.tk
 obtain⟨w1,hw1⟩:∃w1,w1=(w.alloc (aG aJ)).alloc (TK.aq s.tok):=⟨_,rfl⟩
 have hb1:Below w.heap.size w w1:=by rw[hw1];exact((J _ w).alloc (U _) _).alloc (by simp) _
 have hN:w1.heap[w.heap.size]? =some (aG aJ):=by rw[hw1];exact TK.ba (TK.aj _ _)
 have hM:w1.heap[w.heap.size+1]? =some (TK.aq s.tok):=by rw[hw1];exact TK.bp _ _ (by simp)
 have HR1:=I (h.ar hb1)
 have HB1:=I hb1
 have HN:=I hN
 have HNF:=I (bH hN)
 obtain⟨m0,m1,m2,m3,m4,m5,m6,m7⟩:=TK.ai hM
 simp only[TK.aq,aG,aJ]at hw1
 obtain⟨t,htt⟩:∃t,t=s.tok:=⟨_,rfl⟩
 rw[<- htt]at c2 c3 c4 c5 c6 c7 c8 c9 m0 m1 m2 m3 m4 m5 m6 m7 hw1 htok hnum h3n
 have HE0:Hid (cJ d l s=if t.kind=3 then .ok (pF t.num,s)else if t.kind=10 then ga s else if t.kind=11 then .ok (gI,{ s with aD:=bw s t.fold })else match lW d l s with
  | .error e=>.error e
  | .ok (f,k)=>.ok (fg (iI f),{ s with next:=k })):=by show _=_;rw[htt];rfl
 have HTT:=I htt
 clear hN hM hb1 htt h
 by_cases k3:t.kind=3
 ·have hE:Hid (cJ d l s=.ok (pF t.num,s)):=by show _=_;rw[HE0.o,if_pos k3]
  have hkk:¬(t.num=9\/t.num=10):=by have:=h3n k3;omega
  rw[k3]at hw1 c2 m0
  have hf:=HNF.o
  obtain⟨x0,x1,x2,x3,x4,x5,x6,x7⟩:=aU HN.o
  clear HE0 k3 hi htok hnum h3n
  go_enter func98,ntmps98
  go_upto_region 2 with fail
  rw[<- hw1]
  obtain⟨N,hNe⟩:∃N,N=w.heap.size:=⟨_,rfl⟩
  have HNe:=I hNe
  rw[<- hNe]at HN x0 x1 x2 x3 x4 x5 x6 x7 hf m0 m1 m2 m3 m4 m5 m6 m7 |-
  clear hw1 hNe
  go_wp21
  obtain⟨W4,hW4⟩:∃W4,W4=setNode w1 N ⟨t.num,none,0,0,none,0,0,0,0,0,0,false⟩:=⟨_,rfl⟩
  have hN4:W4.heap[N]? =some (aG ⟨t.num,none,0,0,none,0,0,0,0,0,0,false⟩):=by rw[hW4];exact bM HN.o _
  have hm4:Mv N w1 W4:=by rw[hW4];exact bN (Mv.refl N w1) _
  simp only[setNode]at hW4
  rw[<- hW4]
  clear hW4
  have hgN:g<N:=by have:=HNe.o;omega
  refine cH (N:=N) results98 rfl (TR.ak hN4) (.inl ⟨_,_,_,nv,av,hE.o,rfl,bG.leaf _ _ _ t.num 0 0 0 0 false hkk,HR1.o.jz hgN HN.o (by decide) (by decide) hm4,(Step.ae HB1.o hgw).jz (by have:=HNe.o;omega) hgw hm4⟩)
 ·have q3:(t.kind==3)=false:=by simpa using k3
  by_cases k10:t.kind=10
  ·have hE:Hid (cJ d l s=ga s):=by show _=_;rw[HE0.o,if_neg k3,if_pos k10]
   have HA:=I (Fi HR1.o hg20 (by rw[<- HTT.o];exact hnum k10) hal)
   rw[k10]at hw1 c2 m0 q3
   clear HE0 k3 hi htok hnum h3n k10
   go_enter func98,ntmps98
   go_wp2_with fail
   rw[<- hw1]
   obtain⟨N,hNe⟩:∃N,N=w.heap.size:=⟨_,rfl⟩
   have HNe:=I hNe
   rw[<- hNe]at HN |-
   clear hw1 hNe
   refine HA.o.mono ?_
   rintro e w2 (⟨tr,s',n,nv',av',hR,rfl,hni,hr,hst⟩|⟨z,a,hR,rfl,hst⟩)
   ·have hN2:=hst.lh (by have:=HNe.o;omega) HN.o (by decide) (by decide)
    have hf:=bH hN2
    obtain⟨x0,x1,x2,x3,x4,x5,x6,x7⟩:=aU hN2
    have HN2:=I hN2
    have HNI:=I hni
    have HR2:=I hr
    have HST:=I ((Step.ae HB1.o hgw).trans hst)
    have hE2:=I (hE.o.trans hR)
    have HS1:=I HB1.o.size
    have HLT1:=I (TR.lt_of_block HN.o)
    clear hN2 hni hr hst hR hE HA m0 m1 m2 m3 m4 m5 m6 m7 c2 c3 c4 c5 c6 c7 c8 c9
    go_wp21
    obtain⟨W4,hW4⟩:∃W4,W4=setNode w2 N n:=⟨_,rfl⟩
    have hN4:W4.heap[N]? =some (aG n):=by rw[hW4];exact bM HN2.o _
    have hm4:Mv N w2 W4:=by rw[hW4];exact bN (Mv.refl N w2) _
    simp only[setNode]at hW4
    rw[<- hW4]
    clear hW4
    have hgN:g<N:=by have:=HNe.o;omega
    refine cH (N:=N) results98 rfl (TR.ak hN4) (.inl ⟨_,_,_,nv',av',hE2.o,rfl,?_,HR2.o.jz hgN HN2.o (by decide) (by decide) hm4,HST.o.jz (by have:=HNe.o;omega) hgw hm4⟩)
    have e1:=HNe.o
    have e2:=HLT1.o
    exact(HNI.o.ar (br.bz fun k h1 h2=>hm4.block k (by omega) (by omega))).wide (by omega) hm4.size
   ·have hE2:=I (hE.o.trans hR)
    have HST:=I ((Step.ae HB1.o hgw).trans hst)
    clear hst hR hE HA m0 m1 m2 m3 m4 m5 m6 m7 c2 c3 c4 c5 c6 c7 c8 c9
    simp only[aw]
    go_wp2
    exact⟨rfl,.inr ⟨z,a,hE2.o,rfl,HST.o⟩⟩
  ·have q10:(t.kind==10)=false:=by simpa using k10
   by_cases k11:t.kind=11
   ·have hE:Hid (cJ d l s=.ok (gI,{ s with aD:=bw s t.fold })):=by show _=_;rw[HE0.o,if_neg k3,if_neg k10,if_pos k11]
    have HA:=I (gP HR1.o t.fold)
    obtain⟨fb,hfb⟩:∃fb,fb=bw s t.fold:=⟨_,rfl⟩
    rw[<- hfb]at HA hE
    have HR2:Hid (RB (w1.setCell ⟨g,12,none⟩ (.bool fb)) g v l d { s with aD:=fb } nv av):=HR1.o.set 12 _ rfl rfl rfl
    have HM2:Hid (Mv g w1 (w1.setCell ⟨g,12,none⟩ (.bool fb))):=(Mv.refl g w1).setCell 12 _
    have f12:=HR1.o.fr 12
    have d12:=HR1.o.rd.2.2.2.2.1
    have hgw1:=HR1.o.lt
    have hf:=HNF.o
    obtain⟨x0,x1,x2,x3,x4,x5,x6,x7⟩:=aU HN.o
    rw[k11]at hw1 c2 m0 q3 q10
    clear HE0 k3 hi htok hnum h3n k10 k11 hfb
    go_enter func98,ntmps98
    go_wp2_with fail
    rw[<- hw1]
    obtain⟨N,hNe⟩:∃N,N=w.heap.size:=⟨_,rfl⟩
    have HNe:=I hNe
    rw[<- hNe]at HN x0 x1 x2 x3 x4 x5 x6 x7 hf m0 m1 m2 m3 m4 m5 m6 m7 |-
    clear hw1 hNe
    refine HA.o.mono ?_
    rintro e w2 ⟨rfl,rfl⟩
    have hgN:g<N:=by have:=HNe.o;omega
    have hNg:¬N=g:=by omega
    have hgN2:¬g=N:=by omega
    clear HA m0 m1 m2 m3 m4 m5 m6 m7 c2 c3 c4 c5 c6 c7 c8 c9
    go_wp21
    obtain⟨w3,hw3⟩:∃w3,w3=w1.setCell ⟨g,12,none⟩ (.bool fb):=⟨_,rfl⟩
    rw[<- hw3]at HR2 HM2 |-
    have HN3:Hid (w3.heap[N]? =some (aG aJ)):=by show _=_;rw[HM2.o.block N (TR.lt_of_block HN.o) (by omega)];exact HN.o
    clear hw3
    obtain⟨W4,hW4⟩:∃W4,W4=setNode w3 N ⟨1,none,0,0,none,0,0,0,0,0,0,false⟩:=⟨_,rfl⟩
    have hN4:W4.heap[N]? =some (aG ⟨1,none,0,0,none,0,0,0,0,0,0,false⟩):=by rw[hW4];exact bM HN3.o _
    have hm4:Mv N w3 W4:=by rw[hW4];exact bN (Mv.refl N w3) _
    simp only[setNode]at hW4
    rw[<- hW4]
    clear hW4
    refine cH (N:=N) results98 rfl (TR.ak hN4) (.inl ⟨_,_,_,nv,av,hE.o,rfl,bG.leaf _ _ _ 1 0 0 0 0 false (by decide),HR2.o.jz hgN HN3.o (by decide) (by decide) hm4,((Step.ae HB1.o hgw).trans (Step.dc HM2.o hgw1)).jz (by have:=HNe.o;omega) hgw hm4⟩)
   ·have q11:(t.kind==11)=false:=by simpa using k11
    have hE1:Hid (cJ d l s=match lW d l s with
     | .error e=>.error e
     | .ok (f,k)=>.ok (fg (iI f),{ s with next:=k })):=by show _=_;rw[HE0.o,if_neg k3,if_neg k10,if_neg k11]
    have HA:=I (Iu HR1.o hnx (by rw[<- HTT.o];exact htok))
    have hf:=HNF.o
    have hgw1:=HR1.o.lt
    clear HE0 k3 hi htok hnum h3n k10 k11
    go_enter func98,ntmps98
    go_wp2_with fail
    rw[<- hw1]
    obtain⟨N,hNe⟩:∃N,N=w.heap.size:=⟨_,rfl⟩
    have HNe:=I hNe
    rw[<- hNe]at HN |-
    clear hw1 hNe
    refine HA.o.mono ?_
    rintro e w2 (⟨f,k,sv,L,hR,rfl,ho,hs,hl,hk,hr,hm⟩|⟨z,a,hR,rfl,hm⟩)
    ·have hE2:Hid (cJ d l s=.ok (fg L,{ s with next:=k })):=by show _=_;rw[hE1.o,hR];simp only[sV hs]
     have hgN:g<N:=by have:=HNe.o;omega
     have hN2:w2.heap[N]? =some (aG aJ):=by rw[hm.block N (TR.lt_of_block HN.o) (by omega)];exact HN.o
     have hf:=bH hN2
     obtain⟨x0,x1,x2,x3,x4,x5,x6,x7⟩:=aU hN2
     have HN2:=I hN2
     have HR2:=I hr
     have HST:=I ((Step.ae HB1.o hgw).trans (Step.dc hm hgw1))
     have HO:=I ho
     have HLT1:=I (TR.lt_of_block HN.o)
     obtain⟨so,sc,hsv⟩:=OR.shape ho
     obtain⟨ln,hln⟩:∃ln,ln=L.length:=⟨_,rfl⟩
     rw[<- hln]at hsv
     rw[hsv]at HO |-
     clear hN2 ho hs hl hk hr hm hR hE1 HA m0 m1 m2 m3 m4 m5 m6 m7 c2 c3 c4 c5 c6 c7 c8 c9 hsv hln
     go_wp21
     obtain⟨W4,hW4⟩:∃W4,W4=setNode w2 N ⟨2,so,ln,sc,none,0,0,0,0,0,0,false⟩:=⟨_,rfl⟩
     have hN4:W4.heap[N]? =some (aG ⟨2,so,ln,sc,none,0,0,0,0,0,0,false⟩):=by rw[hW4];exact bM HN2.o _
     have hm4:Mv N w2 W4:=by rw[hW4];exact bN (Mv.refl N w2) _
     simp only[setNode]at hW4
     rw[<- hW4]
     clear hW4
     refine cH (N:=N) results98 rfl (TR.ak hN4) (.inl ⟨_,_,_,nv,av,hE2.o,rfl,?_,HR2.o.jz hgN HN2.o (by decide) (by decide) hm4,HST.o.jz (by have:=HNe.o;omega) hgw hm4⟩)
     have e1:=HNe.o
     have e2:=HLT1.o
     exact bG.J9 ((OR.mv HO.o hm4 (by omega)).low (by omega)) (U _)
    ·have hE2:Hid (cJ d l s=.error (z,a)):=by show _=_;rw[hE1.o,hR]
     have HST:=I ((Step.ae HB1.o hgw).trans (Step.dc hm hgw1))
     clear hm hR hE1 HA m0 m1 m2 m3 m4 m5 m6 m7 c2 c3 c4 c5 c6 c7 c8 c9
     simp only[aw]
     go_wp2
     exact⟨rfl,.inr ⟨z,a,hE2.o,rfl,HST.o⟩⟩
end Go.Proofs.YtklbbbldalmnbaaGreatDoor.Pa
