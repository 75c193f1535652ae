import Derived.Test.YtklbbbldalmnbaaGreatDoorML
set_option maxHeartbeats 8000000
set_option linter.unusedVariables false
set_option maxRecDepth 100000
open Go.Proofs.Tryz
namespace Go.Proofs.YtklbbbldalmnbaaGreatDoor.Pa
open Go.RowKit
open TR (Tr NV aL cz aG aV bS)
open TK (Mv bJ)
open Br (BE PS aw bC ez bI OR bm)
variable {w w' : World} {g : Nat} {v : Value} {l : List Int} {d : Int} {s s' : St} {nv av : Value}
theorem B9{rec:Rd}(h:RB w g v l d s nv av)(h20:s.deep=20):Calls prog 97 #[.pointer (some ⟨g,0,none⟩)] w fun e w'=>j8 (cd d l rec s) g v l d w e w':=by
 have hgw:=h.lt
 have hE:Hid (cd d l rec s=.error (2,(s.pos:Int))):=by show _=_;unfold cd;rw[if_pos h20]
 obtain⟨c2,c3,c4,c5,c6,c7,c8,c9⟩:=h.tk
 have c13:=h.rd.2.2.2.2.2.1
 rw[h20]at c13
 obtain⟨w2,hw2⟩:∃w2,w2=(w.alloc (aG aJ)).alloc (TK.aq s.tok):=⟨_,rfl⟩
 have hb2:Below w.heap.size w w2:=by rw[hw2];exact((J _ w).alloc (U _) _).alloc (by simp) _
 have hr2:=h.ar hb2
 have d10:=hr2.rd.2.2.1
 have d13:=hr2.rd.2.2.2.2.2.1
 rw[h20]at d13
 have HG:=I (aO 2 (s.pos:Int) w2)
 simp only[aw]at HG
 simp only[TK.aq,aG,aJ]at hw2
 have HB:=I hb2
 clear h hr2 hb2
 go_enter func97,ntmps97
 go_upto_region 2 with fail
 rw[<- hw2]
 clear hw2 c13 c2 c3 c4 c5 c6 c7 c8 c9
 go_wp2_with fail
 refine HG.o.mono ?_
 rintro e w3 ⟨rfl,rfl⟩
 go_wp2
 exact⟨rfl,.inr ⟨2,_,hE.o,rfl,Step.ae HB.o hgw⟩⟩
theorem FA{rec:Rd}(h:RB w g v l d s nv av)(hi:ep l s)(hp:s.pos<l.length)(hk7:s.tok.kind=7)(hrec:s.deep≠20->gL g v l d (s.deep+1) rec)(hrg:gJ l (s.deep+1) rec):Calls prog 97 #[.pointer (some ⟨g,0,none⟩)] w fun e w'=>j8 (cd d l rec s) g v l d w e w':=by
 by_cases h20:s.deep=20
 ·exact B9 h h20
 ·by_cases h11:s.tok.num=11
  ·exact II h hi hp hk7 h20 h11 (hrec h20) hrg
  ·by_cases h1:s.tok.num=1
   ·exact IE h hi hp hk7 h20 h1 (hrec h20) hrg
   ·exact IS h hi hp hk7 h20 ⟨h11,h1⟩ (hrec h20) hrg
theorem Hf{rec:Rd}(h:RB w g v l d s nv av)(hi:ep l s)(hp:s.pos<l.length)(hrec:s.deep≠20->gL g v l d (s.deep+1) rec)(hrg:gJ l (s.deep+1) rec):Calls prog 85 #[.pointer (some ⟨g,0,none⟩)] w fun e w'=>j8 (dy d l rec s) g v l d w e w':=by
 have hgw:=h.lt
 have hpe:=h.pe
 obtain⟨w1,hw1⟩:∃w1,w1=w.alloc (aG aJ):=⟨_,rfl⟩
 have hb1:Below w.heap.size w w1:=by rw[hw1];exact(J _ w).alloc (U _) _
 have hN1:w1.heap[w.heap.size]? =some (aG aJ):=by rw[hw1];exact TK.aj _ _
 have hr1:=h.ar hb1
 have c2:=hr1.tk.1
 have c10:=hr1.rd.2.2.1
 simp only[aG,aJ]at hw1
 have HN1:=I hN1
 have HB1:=I hb1
 have HR1:=I hr1
 have hS1:Hid (Step g w w1):=Step.ae hb1 hgw
 obtain⟨N,hNe⟩:∃N,N=w.heap.size:=⟨_,rfl⟩
 have HNe:=I hNe
 have hgN:g<N:=by omega
 by_cases k6:s.tok.kind=6
 ·have hE:Hid (dy d l rec s=.error (1,(s.pos:Int))):=by show _=_;unfold dy;rw[if_pos k6]
  rw[k6]at c2
  have HG:=I (aO 1 (s.pos:Int) w1)
  simp only[aw]at HG
  clear h hr1 hb1 hN1 hi hrec hrg hNe k6
  go_enter func85,ntmps85
  go_upto_region 1 with fail
  rw[<- hw1]
  clear hw1
  go_wp2_with fail
  refine HG.o.mono ?_
  rintro e w2 ⟨rfl,rfl⟩
  go_wp2
  exact⟨rfl,.inr ⟨1,_,hE.o,rfl,hS1.o⟩⟩
 ·have q6:(s.tok.kind==6)=false:=by simpa using k6
  by_cases k7:s.tok.kind=7
  ·have hE:Hid (dy d l rec s=cd d l rec s):=by show _=_;unfold dy;rw[if_neg k6,if_pos k7]
   have HX:=I (FA hr1 hi hp k7 hrec hrg)
   rw[k7]at c2
   clear h hr1 hb1 hN1 hi hrec hrg k6 q6 k7
   go_enter func85,ntmps85
   go_upto_region 1 with fail
   rw[<- hw1]
   rw[<- hNe]at HN1 |-
   clear hw1 hNe
   go_wp2_with fail
   refine HX.o.mono ?_
   rintro e w2 (⟨t,s2,n,nv2,av2,hR,rfl,hni,hr2,hst⟩|⟨z,a,hR,rfl,hst⟩)
   ·have hN2:=hst.lh hgN HN1.o (by decide) (by decide)
    have hE2:=I (hE.o.trans hR)
    have HNI:=I hni
    have HR2:=I hr2
    have HS2:=I (hS1.o.trans hst)
    have HN2:=I hN2
    have HL1:=I (TR.lt_of_block HN1.o)
    obtain⟨z0,z1,z2,z3,z4,z5,z6,z7⟩:=aU hN2
    have zf:=bH hN2
    clear hN2 hni hr2 hst hR HX c2 c10 HR1 HB1
    go_wp21
    obtain⟨W4,hW4⟩:∃W4,W4=setNode w2 N n:=⟨_,rfl⟩
    have hN4:W4.heap[N]? =some (aG n):=by rw[hW4];exact bM HN2.o _
    have hm4:Mv N w2 W4:=by rw[hW4];exact bN (Mv.refl N w2) _
    simp only[setNode]at hW4
    rw[<- hW4]
    clear hW4
    refine cH (N:=N) results85 rfl (TR.ak hN4) (.inl ⟨_,_,_,nv2,av2,hE2.o,rfl,?_,HR2.o.jz hgN HN2.o (by decide) (by decide) hm4,HS2.o.jz (by have:=HNe.o;omega) hgw hm4⟩)
    have e1:=HNe.o
    have e2:=HL1.o
    exact(HNI.o.ar (br.bz fun k h1 h2=>hm4.block k (by omega) (by omega))).wide (by omega) hm4.size
   ·have hE2:=I (hE.o.trans hR)
    have HS2:=I (hS1.o.trans hst)
    clear hst hR HX c2 c10 HR1 HB1
    simp only[aw]
    go_wp2
    exact⟨rfl,.inr ⟨z,a,hE2.o,rfl,HS2.o⟩⟩
  ·have q7:(s.tok.kind==7)=false:=by simpa using k7
   have hE:Hid (dy d l rec s=match cJ d l s with
    | .error e=>.error e
    | .ok (t,s1)=>match dH d l s1 with
     | .error e=>.error e
     | .ok s2=>.ok (t,s2)):=by show _=_;unfold dy;rw[if_neg k6,if_neg k7];rfl
   have HX:=I (BD hr1 hi.inv hp)
   have HSI:=I (fun t s'=>pv (t:=t) (s':=s') hpe hi hp)
   clear h hr1 hb1 hN1 hi hrec hrg k6 k7
   go_enter func85,ntmps85
   go_upto_region 1 with fail
   rw[<- hw1]
   rw[<- hNe]at HN1 |-
   clear hw1 hNe
   go_wp2_with fail
   refine HX.o.mono ?_
   rintro e w2 (⟨t,s2,n,nv2,av2,hR,rfl,hni,hr2,hst⟩|⟨z,a,hR,rfl,hst⟩)
   ·have hia:=(HSI.o _ _ hR).1
    have hN2:=hst.lh hgN HN1.o (by decide) (by decide)
    have HL1:=I (TR.lt_of_block HN1.o)
    obtain⟨w3,hw3⟩:∃w3,w3=w2.alloc (aG n):=⟨_,rfl⟩
    have hb3:Below w2.heap.size w2 w3:=by rw[hw3];exact(J _ w2).alloc (U _) _
    have hX3:w3.heap[w2.heap.size]? =some (aG n):=by rw[hw3];exact TK.aj _ _
    have hN3:w3.heap[N]? =some (aG aJ):=by rw[hb3.block N (TR.lt_of_block hN2)];exact hN2
    have hr3:=hr2.ar hb3
    have HNI3:=I (hni.ar (br.ae hb3 (U _)))
    have HS3:=I ((hS1.o.trans hst).trans (Step.ae (g:=g) hb3 hr2.lt))
    have HAV:=I (dq hr3 hia.next)
    have HRe:=I hR
    have HX3:=I hX3
    have HN3:=I hN3
    have hgw3:=hr3.lt
    have hNX:N<w2.heap.size:=TR.lt_of_block hN2
    have HLL:Hid (w1.heap.size<=w2.heap.size):=hst.size
    simp only[aG]at hw3
    clear hN2 hni hr2 hst hR HX c2 c10 HR1 HB1 hb3 hX3 hN3 hr3 HSI hia
    go_upto_region 7 with fail
    rw[<- hw3]
    obtain⟨X,hXe⟩:∃X,X=w2.heap.size:=⟨_,rfl⟩
    rw[<- hXe]at HX3 HNI3 hNX HLL |-
    clear hw3 hXe
    go_wp2_with fail
    refine HAV.o.mono ?_
    rintro e w4 (⟨s4,hR4,rfl,hr4,hm4⟩|⟨z,a,hR4,rfl,hm4⟩)
    ·have hE2:Hid (dy d l rec s=.ok (t,s4)):=by show _=_;rw[hE.o,HRe.o];simp only[hR4]
     have hX4:=aY hm4 HX3.o (by omega)
     have hN4:=aY hm4 HN3.o (by omega)
     have hltX:=TR.lt_of_block HX3.o
     have HNI4:=I (HNI3.o.ar (br.bz fun k h1 h2=>hm4.block k (by omega) (by have:=HL1.o;omega)))
     have HR4:=I hr4
     have HS4:=I (HS3.o.trans (Step.dc hm4 hgw3))
     have HN4:=I hN4
     have hltX4:=TR.lt_of_block hX4
     obtain⟨x0,x1,x2,x3,x4,x5,x6,x7⟩:=aU hX4
     obtain⟨z0,z1,z2,z3,z4,z5,z6,z7⟩:=aU hN4
     have zf:=bH hN4
     have hXN:¬X=N:=by omega
     have hNX2:¬N=X:=by omega
     clear hX4 hN4 hr4 hm4 hR4 HAV HX3 HN3 HNI3 HS3
     go_wp21
     obtain⟨W4,hW4⟩:∃W4,W4=setNode w4 N n:=⟨_,rfl⟩
     have hN5:W4.heap[N]? =some (aG n):=by rw[hW4];exact bM HN4.o _
     have hm5:Mv N w4 W4:=by rw[hW4];exact bN (Mv.refl N w4) _
     simp only[setNode]at hW4
     rw[<- hW4]
     clear hW4
     refine cH (N:=N) results85 rfl (TR.ak hN5) (.inl ⟨_,_,_,nv2,av2,hE2.o,rfl,?_,HR4.o.jz hgN HN4.o (by decide) (by decide) hm5,HS4.o.jz (by have:=HNe.o;omega) hgw hm5⟩)
     have e1:=HNe.o
     have e2:=HL1.o
     have e3:=hm5.size
     exact(HNI4.o.ar (br.bz fun k h1 h2=>hm5.block k (by omega) (by omega))).wide (by omega) (by omega)
    ·have hE2:Hid (dy d l rec s=.error (z,a)):=by show _=_;rw[hE.o,HRe.o];simp only[hR4]
     have HS4:=I (HS3.o.trans (Step.dc hm4 hgw3))
     clear hm4 hR4 HAV
     simp only[aw]
     go_wp2
     exact⟨rfl,.inr ⟨z,a,hE2.o,rfl,HS4.o⟩⟩
   ·have hE2:Hid (dy d l rec s=.error (z,a)):=by show _=_;rw[hE.o,hR]
    have HS2:=I (hS1.o.trans hst)
    clear hst hR HX c2 c10 HR1 HB1
    simp only[aw]
    go_wp2
    exact⟨rfl,.inr ⟨z,a,hE2.o,rfl,HS2.o⟩⟩
variable {w w' : World} {g : Nat} {v : Value} {l : List Int} {d : Int} {s s' : St} {nv av : Value}
theorem ie{may:Bool}{n ahead:Nat}{t:Tr}(h:s.tok.kind≠6):gM d l may n ahead t s=.ok (t,s):=by
 cases n with
 |zero=>rfl
 |succ n=>unfold gM;rw[if_neg h]
theorem tn{may:Bool}{n ahead:Nat}{t:Tr}(h:s.tok.kind=6):gM d l may (n+1) ahead t s=if may=false then .error (1,(s.pos:Int))else if 3<ahead then .error (2,(s.pos:Int))else match dH d l s with
    | .error e=>.error e
    | .ok s1=>gM d l may n (ahead+1) (cD t s.tok) s1:=by
 conv=>lhs;unfold gM
 rw[if_pos h]
 rfl
theorem tZ(n:NV)(k:TK.Tok)(w:World):Calls prog 86 #[cz n,TK.aZ k] w fun e w'=>∃R,e=.returned (cz ⟨12,none,0,0,some ⟨R,0,none⟩,1,1,0,k.least,k.an,k.bB,false⟩)/\w'.heap[R]? =some (aG n)/\w.heap.size<=R/\Below w.heap.size w w':=by
 simp only[TK.aZ]
 go_enter func86,ntmps86
 go_wp21
 obtain⟨W4,hW4⟩:∃W4,W4=(((w.alloc (aG n)).alloc (TK.aq k)).alloc (aG ⟨12,none,0,0,some ⟨w.heap.size+1+1+1,0,none⟩,1,1,0,k.least,k.an,k.bB,false⟩)).alloc (aG n):=⟨_,rfl⟩
 have hN4:W4.heap[w.heap.size+1+1]? =some (aG ⟨12,none,0,0,some ⟨w.heap.size+1+1+1,0,none⟩,1,1,0,k.least,k.an,k.bB,false⟩):=by rw[hW4];exact TK.ba (TK.bp _ _ (by simp))
 have hR4:W4.heap[w.heap.size+1+1+1]? =some (aG n):=by rw[hW4];exact TK.bp _ _ (by simp)
 have hb4:Below w.heap.size w W4:=by rw[hW4];exact((((J _ w).alloc (U _) _).alloc (by simp) _).alloc (by simp;omega) _).alloc (by simp;omega) _
 simp only[aG,TK.aq]at hW4
 rw[<- hW4]
 clear hW4
 exact cH (N:=w.heap.size+1+1) results86 rfl (TR.ak hN4) ⟨_,rfl,hR4,by omega,hb4⟩
def lN(w:World)(lo hi X:Nat)(n:NV)(t:Tr):Prop:=∀w':World,(∀k,lo<=k->k<hi->k≠X->∀cs e,(e=25\/e=76)->w.heap[k]? =some (.cells cs e (0,0))->w'.heap[k]? =some (.cells cs e (0,0)))->bG w' lo hi n t
theorem lN.of{w:World}{lo hi:Nat}{n:NV}{t:Tr}(h:bG w lo hi n t):lN w lo hi hi n t:=fun w' hk=>h.ar fun k h1 h2 cs e he hc=>hk k h1 h2 (by omega) cs e he hc
theorem lN.step{w w1:World}{lo hi X:Nat}{n:NV}{t:Tr}(h:lN w lo hi X n t)(hk:∀k,lo<=k->k<hi->k≠X->∀cs e,(e=25\/e=76)->w.heap[k]? =some (.cells cs e (0,0))->w1.heap[k]? =some (.cells cs e (0,0))):lN w1 lo hi X n t:=fun w' hk'=>h w' fun k h1 h2 h3 cs e he hc=>hk' k h1 h2 h3 cs e he (hk k h1 h2 h3 cs e he hc)
theorem lN.rep{w w1:World}{lo hi X R:Nat}{n:NV}{t:Tr}{k:TK.Tok}(h:lN w lo hi X n t)(hle:lo<=hi)(hhi:hi<=w.heap.size)(hX:X<w.heap.size)(hb:Below w.heap.size w w1)(hR:w1.heap[R]? =some (aG n))(hRl:w.heap.size<=R):lN w1 lo w1.heap.size X ⟨12,none,0,0,some ⟨R,0,none⟩,1,1,0,k.least,k.an,k.bB,false⟩ (cD t k):=fun w' hk=>by
 have hlt:=TR.lt_of_block hR
 have hn:=h w' fun j h1 h2 h3 cs e he hc=>hk j h1 (by have:=hb.size;omega) h3 cs e he (by rw[hb.block j (by omega)];exact hc)
 exact(ct.single hn hle (R:=R) (by omega) (hk R (by omega) hlt (by omega) _ _ (.inl rfl) hR) (lo':=lo) (hi':=w1.heap.size) (U _) hlt).node 12 0 k.least k.an k.bB false (by simp)
theorem DB{rec:Rd}(h:RB w g v l d s nv av)(hi:ep l s)(hp:s.pos<l.length)(hrec:s.deep≠20->gL g v l d (s.deep+1) rec)(hrg:gJ l (s.deep+1) rec):Calls prog 77 #[.pointer (some ⟨g,0,none⟩)] w fun e w'=>j8 (cN d l rec s) g v l d w e w':=by
 have hgw:=h.lt
 have hpe:=h.pe
 have HPE:=I hpe
 obtain⟨w1,hw1⟩:∃w1,w1=w.alloc (aG aJ):=⟨_,rfl⟩
 have hb1:Below w.heap.size w w1:=by rw[hw1];exact(J _ w).alloc (U _) _
 have hN1:w1.heap[w.heap.size]? =some (aG aJ):=by rw[hw1];exact TK.aj _ _
 have hr1:=h.ar hb1
 have c2:=hr1.tk.1
 simp only[aG,aJ]at hw1
 have HN1:=I hN1
 have hS1:Hid (Step g w w1):=Step.ae hb1 hgw
 obtain⟨N,hNe⟩:∃N,N=w.heap.size:=⟨_,rfl⟩
 have HNe:=I hNe
 have hgN:g<N:=by omega
 have HX:=I (Hf hr1 hi hp hrec hrg)
 have HAI:=I (fun t s'=>xk (t:=t) (s':=s') hpe hrg hi hp)
 obtain⟨may,hmay⟩:∃may,may=(s.tok.kind !=11):=⟨_,rfl⟩
 have hmay2:(s.tok.kind !=11)=may:=hmay.symm
 have HE:Hid (cN d l rec s=match dy d l rec s with
  | .error e=>.error e
  | .ok (t,s1)=>gM d l may 6 0 t s1):=by
  show _=_
  unfold cN
  rw[show decide (s.tok.kind≠11)=may from by rw[hmay];by_cases hk:s.tok.kind=11<;>simp[hk]]
  rfl
 clear h hr1 hb1 hN1 hi hrec hrg hmay hpe
 go_enter func77,ntmps77
 go_upto_region 1 with fail
 rw[<- hw1]
 rw[<- hNe]at HN1 |-
 clear hw1 hNe
 go_wp2_with fail
 refine HX.o.mono ?_
 rintro e w2 (⟨t,s2,n,nv2,av2,hR,rfl,hni,hr2,hst⟩|⟨z,a,hR,rfl,hst⟩)
 case inr=>
  have hE2:Hid (cN d l rec s=.error (z,a)):=by show _=_;rw[HE.o,hR]
  have HS2:=I (hS1.o.trans hst)
  clear hst hR HX c2
  simp only[aw]
  go_wp2
  exact⟨rfl,.inr ⟨z,a,hE2.o,rfl,HS2.o⟩⟩
 obtain⟨hgood,hlt⟩:=HAI.o _ _ hR
 have hE2:Hid (cN d l rec s=gM d l may 6 0 t s2):=by show _=_;rw[HE.o,hR]
 have HL1:=I (TR.lt_of_block HN1.o)
 have hN2:=hst.lh hgN HN1.o (by decide) (by decide)
 obtain⟨w3,hw3⟩:∃w3,w3=w2.alloc (aG n):=⟨_,rfl⟩
 obtain⟨X,hXe⟩:∃X,X=w2.heap.size:=⟨_,rfl⟩
 have hb3:Below w2.heap.size w2 w3:=by rw[hw3];exact(J _ w2).alloc (U _) _
 have hX3:w3.heap[X]? =some (aG n):=by rw[hw3,hXe];exact TK.aj _ _
 have hN3:w3.heap[N]? =some (aG aJ):=by rw[hb3.block N (TR.lt_of_block hN2)];exact hN2
 have hNX:N<X:=by rw[hXe];exact TR.lt_of_block hN2
 have HNX:=I hNX
 have hr3:=hr2.ar hb3
 have hni3:=hni.ar (br.ae hb3 (U _))
 have hS3:=(hS1.o.trans hst).trans (Step.ae (g:=g) hb3 hr2.lt)
 obtain⟨A,hAe⟩:∃A,A=w1.heap.size:=⟨_,rfl⟩
 have hAX:A<=X:=by rw[hAe,hXe];exact hst.size
 have hNA:N<A:=by rw[hAe];exact HL1.o
 rw[<- hXe, <-hAe]at hni3
 have HG0:=I hgood
 have HL0:=I hlt
 have HNI3:=I hni3
 have HX3:=I hX3
 have HN3:=I hN3
 have HR3:=I hr3
 have HS3:=I hS3
 have HX3l:Hid (X<w3.heap.size):=TR.lt_of_block hX3
 have HNA:=I hNA
 have HAX:=I hAX
 have hgX:g<X:=by omega
 simp only[aG]at hw3
 clear hR hgood hlt hN2 hb3 hX3 hN3 hr3 hni3 hS3 hni hr2 hst HX HAI HN1 hS1 HE c2
 go_upto_region 4 with fail
 rw[<- hw3, <-hXe]
 clear hw3 hXe hAe
 go_loopw [5] (fun u wr=>∃(ah:Nat) (t1:Tr) (s1:St) (n1:NV) (nv1 av1:Value) (hi1:Nat),u=.int .i64 ah/\ah<=4/\cN d l rec s=gM d l may (6 - ah) ah t1 s1/\Good l s t1 s1/\s.pos<s1.pos/\wr.heap[X]? =some (aG n1)/\wr.heap[N]? =some (aG aJ)/\RB wr g v l d s1 nv1 av1/\Step g w wr/\A<=hi1/\hi1<=wr.heap.size/\lN wr A hi1 X n1 t1) (fun u _=>5 - (intOf u).toNat)
 case atStart=>exact⟨0,t,s2,n,nv2,av2,X,rfl,by omega,hE2.o,HG0.o,HL0.o,HX3.o,HN3.o,HR3.o,HS3.o,HAX.o,by have:=HX3l.o;omega,lN.of HNI3.o⟩
 case round=>
  obtain⟨ah,t1,s1,n1,nv1,av1,hi1,rfl,hah,hEq,hgd,hlt1,hXr,hNr,hrr,hsr,hh1,hh2,hnx⟩:=hrel
  obtain⟨wq,hwq⟩:∃wq,wq=wr:=⟨_,rfl⟩
  subst hwq
  have c2:=hrr.tk.1
  have c10:=hrr.rd.2.2.1
  obtain⟨x0,x1,x2,x3,x4,x5,x6,x7⟩:=aU hXr
  have HEq:=I hEq
  have HGd:=I hgd
  have HLt:=I hlt1
  clear hlt1
  have HXr:=I hXr
  have HNr:=I hNr
  have HRr:=I hrr
  have HSr:=I hsr
  have HH1:=I hh1
  have HH2:=I hh2
  have HNx:=I hnx
  by_cases k6:s1.tok.kind=6
  ·rw [k6] at c2
   have hst:=tn (d:=d) (l:=l) (may:=may) (n:=5 - ah) (ahead:=ah) (t:=t1) k6
   rw[show 5 - ah+1=6 - ah from by omega]at hst
   have HStp:=I (HEq.o.trans hst)
   clear hEq hgd hNr hsr hh1 hh2 hnx hst k6
   cases hm:may with
   |false=>
    rw[hm]at hmay2 HStp
    have hE3:Hid (cN d l rec s=.error (1,(s1.pos:Int))):=by show _=_;rw[HStp.o,if_pos rfl]
    have HG:=I (aO 1 (s1.pos:Int) wq)
    simp only[aw]at HG
    clear hXr hrr
    try simp only[hm]
    clear hm
    go_wp2_with fail
    refine HG.o.mono ?_
    rintro e w4 ⟨rfl,rfl⟩
    go_wp2
    exact⟨rfl,.inr ⟨1,_,hE3.o,rfl,HSr.o⟩⟩
   |true=>
    have hmq:Hid (may=true):=hm
    rw[hm]at hmay2 HStp
    try simp only[hm]
    by_cases hah3:3<ah
    ·have hE3:Hid (cN d l rec s=.error (2,(s1.pos:Int))):=by show _=_;rw[HStp.o,if_neg (by simp),if_pos hah3]
     have HG:=I (aO 2 (s1.pos:Int) wq)
     simp only[aw]at HG
     have q3:(3:Int)<(ah:Int):=by omega
     clear hXr hrr hm
     go_wp2_with fail
     refine HG.o.mono ?_
     rintro e w4 ⟨rfl,rfl⟩
     go_wp2
     exact⟨rfl,.inr ⟨2,_,hE3.o,rfl,HSr.o⟩⟩
    ·have q3:¬(3:Int)<(ah:Int):=by omega
     have HStp2:Hid (cN d l rec s=match dH d l s1 with
      | .error e=>.error e
      | .ok s4=>gM d l true (5 - ah) (ah+1) (cD t1 s1.tok) s4):=by show _=_;rw[HStp.o,if_neg (by simp),if_neg hah3]
     obtain⟨-,c3,c4,c5,c6,c7,c8,c9⟩:=hrr.tk
     have HRP:Hid (∀W,Below wq.heap.size wq W->Calls prog 86 #[cz n1,TK.aZ s1.tok] W fun e w'=>∃R,e=.returned (cz ⟨12,none,0,0,some ⟨R,0,none⟩,1,1,0,s1.tok.least,s1.tok.an,s1.tok.bB,false⟩)/\w'.heap[R]? =some (aG n1)/\wq.heap.size<=R/\Below wq.heap.size wq w'):=fun W hb=>(tZ n1 s1.tok W).mono fun e w' ⟨R,h1,h2,h3,h4⟩=>⟨R,h1,h2,Nat.le_trans hb.size h3,hb.trans (h4.mono hb.size)⟩
     simp only[TK.aZ]at HRP
     have hkk:((6:Int))=s1.tok.kind:=by have:=HRr.o.tk.1;rw[c2]at this;injection this with this;injection this
     rw[<- hkk]at HRP
     have hXl:=TR.lt_of_block hXr
     have xf:=bH hXr
     have HDr:Hid (Below wq.heap.size wq wq.drew):=iu wq
     clear hXr hrr hm hah3 hkk HStp
     go_upto_region 10 with fail
     go_still_tail 5,(by kernel_rfl)
     go_wp2_with fail
     refine(HRP.o _ HDr.o).mono ?_
     rintro e w4 ⟨R,rfl,hRow,hRl,hb4⟩
     have hX4:w4.heap[X]? =some (aG n1):=by rw[hb4.block X hXl];exact HXr.o
     have hN4:w4.heap[N]? =some (aG aJ):=by rw[hb4.block N (by omega)];exact HNr.o
     have hr4:=HRr.o.ar hb4
     have hx4:=HNx.o.rep (k:=s1.tok) HH1.o HH2.o hXl hb4 hRow hRl
     obtain⟨x0,x1,x2,x3,x4,x5,x6,x7⟩:=aU hX4
     have xf:=bH hX4
     obtain⟨w5,hw5⟩:∃w5,w5=setNode w4 X ⟨12,none,0,0,some ⟨R,0,none⟩,1,1,0,s1.tok.least,s1.tok.an,s1.tok.bB,false⟩:=⟨_,rfl⟩
     have hm5:Mv X w4 w5:=by rw[hw5];exact bN (Mv.refl X w4) _
     have HX5:Hid (w5.heap[X]? =some (aG ⟨12,none,0,0,some ⟨R,0,none⟩,1,1,0,s1.tok.least,s1.tok.an,s1.tok.bB,false⟩)):=by show _=_;rw[hw5];exact bM hX4 _
     have HN5:Hid (w5.heap[N]? =some (aG aJ)):=aY hm5 hN4 (by omega)
     have HR5:=I (hr4.jz hgX hX4 (by decide) (by decide) hm5)
     have HS5:Hid (Step g w w5):=(HSr.o.trans (Step.ae (g:=g) hb4 HRr.o.lt)).jz (by have:=HNe.o;omega) hgw hm5
     have HX5n:=I (hx4.step (w1:=w5) fun k h1 h2 h3 cs e he hc=>by rw[hm5.block k h2 h3];exact hc)
     have HSz5:Hid (w4.heap.size<=w5.heap.size/\A<=w4.heap.size):=⟨hm5.size,by have:=hb4.size;have:=HH1.o;have:=HH2.o;omega⟩
     have HAV:=I (dq HR5.o HGd.o.inv.yw.next)
     have HAI:=I (fun s4=>eF (d:=d) (s':=s4) HPE.o HGd.o.inv.yw)
     have HXl:=I hXl
     simp only[setNode]at hw5
     clear hX4 hN4 hr4 hx4 hb4 hRow hRl hm5 HRP HXr HNr HRr HSr HNx c2 c3 c4 c5 c6 c7 c8 c9 c10
     go_upto_region 11 with fail
     rw[<- hw5]
     clear hw5 x0 x1 x2 x3 x4 x5 x6 x7 xf
     go_wp2_with fail
     refine HAV.o.mono ?_
     rintro e w6 (⟨s4,hR4,rfl,hr6,hm6⟩|⟨z,a,hR4,rfl,hm6⟩)
     ·obtain ⟨i4,p4,f4,d4, -⟩:=HAI.o s4 hR4
      have HE4:Hid (cN d l rec s=gM d l may (6 - (ah+1)) (ah+1) (cD t1 s1.tok) s4):=by show _=_;rw[HStp2.o,hR4];simp only;rw[show 6 - (ah+1)=5 - ah from by omega,hmq.o]
      have HG4:Hid (Good l s (cD t1 s1.tok) s4):=by
       have g1:=HGd.o
       have g2:=g1.pos
       have g3:=g1.inv.pn
       have g4:=g1.deep
       have g5:=HLt.o
       refine⟨i4,by omega,by omega,?_,fun h9=>absurd (show(12:Int)=9 from h9) (by decide)⟩
       show [t1].length<=_
       simp only[List.length_singleton]
       omega
      have HLt4:Hid (s.pos<s4.pos):=by have g3:=HGd.o.inv.pn;have g5:=HLt.o;show _<_;omega
      have hgw5:=HR5.o.lt
      have HX6:Hid (w6.heap[X]? =some (aG ⟨12,none,0,0,some ⟨R,0,none⟩,1,1,0,s1.tok.least,s1.tok.an,s1.tok.bB,false⟩)):=aY hm6 HX5.o (by omega)
      have HN6:Hid (w6.heap[N]? =some (aG aJ)):=aY hm6 HN5.o (by omega)
      have HR6:=I hr6
      have HS6:=I (HS5.o.trans (Step.dc hm6 hgw5))
      have HNx6:=I (HX5n.o.step (w1:=w6) fun k h1 h2 h3 cs e he hc=>by rw[hm6.block k (TR.lt_of_block hc) (by omega)];exact hc)
      have HSz6:Hid (w4.heap.size<=w6.heap.size):=Nat.le_trans HSz5.o.1 hm6.size
      have haw:IntKind.i64.wrap ((ah:Int)+1)=(ah:Int)+1:=by rw[IntKind.wrap_i64];omega
      clear hr6 hm6 hR4 HAV HAI i4 p4 f4 d4
      go_wp2
      go_roundw
      case rel=>exact⟨ah+1,_,s4,_,nv1,av1,w4.heap.size,by go_num,by omega,(by rw[<- hmq.o];exact HE4.o),HG4.o,HLt4.o,HX6.o,HN6.o,HR6.o,HS6.o,HSz5.o.2,HSz6.o,HNx6.o⟩
      case measure=>simp[intOf];omega
     ·have hE3:Hid (cN d l rec s=.error (z,a)):=by show _=_;rw[HStp2.o,hR4]
      have HS6:=I (HS5.o.trans (Step.dc hm6 HR5.o.lt))
      clear hm6 hR4 HAV HAI
      simp only[aw]
      go_wp2
      exact⟨rfl,.inr ⟨z,a,hE3.o,rfl,HS6.o⟩⟩
  ·have hE3:Hid (cN d l rec s=.ok (t1,s1)):=by show _=_;rw[HEq.o,ie k6]
   have q6:(s1.tok.kind==6)=false:=by simpa using k6
   obtain⟨z0,z1,z2,z3,z4,z5,z6,z7⟩:=aU hNr
   have zf:=bH hNr
   have hXN:¬X=N:=by omega
   have hNX2:¬N=X:=by omega
   clear hEq hgd hXr hNr hrr hsr hh1 hh2 hnx k6
   go_wp21
   obtain⟨W4,hW4⟩:∃W4,W4=setNode wq N n1:=⟨_,rfl⟩
   have hN4:W4.heap[N]? =some (aG n1):=by rw[hW4];exact bM HNr.o _
   have hm4:Mv N wq W4:=by rw[hW4];exact bN (Mv.refl N wq) _
   simp only[setNode]at hW4
   rw[<- hW4]
   clear hW4
   refine cH (N:=N) results77 rfl (TR.ak hN4) (.inl ⟨_,_,_,nv1,av1,hE3.o,rfl,?_,HRr.o.jz hgN HNr.o (by decide) (by decide) hm4,HSr.o.jz (by have:=HNe.o;omega) hgw hm4⟩)
   have e1:=HNe.o
   have e2:=HNA.o
   have e3:=hm4.size
   have e4:=HH2.o
   exact(HNx.o W4 fun k h1 h2 h3 cs e he hc=>by rw[hm4.block k (TR.lt_of_block hc) (by omega)];exact hc).wide (by omega) (by omega)
end Go.Proofs.YtklbbbldalmnbaaGreatDoor.Pa
