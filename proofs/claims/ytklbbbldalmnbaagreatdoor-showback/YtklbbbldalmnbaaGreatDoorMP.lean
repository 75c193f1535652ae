import Derived.Test.YtklbbbldalmnbaaGreatDoorMO
import Derived.Test.YtklbbbldalmnbaaGreatDoorMB
set_option maxHeartbeats 8000000
set_option linter.unusedVariables false
set_option maxRecDepth 100000
open Go.Proofs.Tryz
namespace Go.Proofs.YtklbbbldalmnbaaGreatDoor.Pa
open Go.RowKit
open TR (Tr NV aL cz aG aV bS)
open TK (Mv bJ)
open Br (BE PS aw bC ez bI OR bm)
variable {w w' : World} {g : Nat} {v : Value} {l : List Int} {d : Int} {s s' : St} {nv av : Value}
def eo(t:Tr):Bool:=decide (¬TR.gd t<1001)
abbrev xF(n:NV)(gr:Int)(nv:Value):Value:=.agg #[.int .i64 n.kind,.slice n.sa n.sl n.sc,.slice n.ka n.kl n.kc,.int .i64 n.num,.int .i64 n.least,.int .i64 n.an,.int .i64 n.bB,.bool n.fold,.int .i64 gr,nv]
abbrev fh(n:NV)(gr:Int)(nv:Value):Obj:=.cells #[.int .i64 n.kind,.slice n.sa n.sl n.sc,.slice n.ka n.kl n.kc,.int .i64 n.num,.int .i64 n.least,.int .i64 n.an,.int .i64 n.bB,.bool n.fold,.int .i64 gr,nv] 28 (0,0)
theorem cO{N:Nat}{n:NV}{gr:Int}(h:w.heap[N]? =some (fh n gr nv)):w.cell? ⟨N,0,none⟩=some (.int .i64 n.kind)/\w.cell? ⟨N,1,none⟩=some (.slice n.sa n.sl n.sc)/\w.cell? ⟨N,2,none⟩=some (.slice n.ka n.kl n.kc)/\w.cell? ⟨N,3,none⟩=some (.int .i64 n.num)/\w.cell? ⟨N,4,none⟩=some (.int .i64 n.least)/\w.cell? ⟨N,5,none⟩=some (.int .i64 n.an)/\w.cell? ⟨N,6,none⟩=some (.int .i64 n.bB)/\w.cell? ⟨N,7,none⟩=some (.bool n.fold)/\w.cell? ⟨N,8,none⟩=some (.int .i64 gr)/\w.cell? ⟨N,9,none⟩=some nv:=by
 refine⟨?_,?_,?_,?_,?_,?_,?_,?_,?_,?_⟩<;>simp[World.cell?,h]
theorem lp{N:Nat}{n:NV}{gr:Int}(h:w.heap[N]? =some (fh n gr nv))(o:Nat):w.frozen? ⟨N,o,none⟩=false:=by simp[World.frozen?,h]
def fZ(w:World)(N:Nat)(n:NV)(gr:Int)(nv:Value):World:=((setNode w N n).setCell ⟨N,8,none⟩ (.int .i64 gr)).setCell ⟨N,9,none⟩ nv
theorem jd{N:Nat}{n0:NV}{g0:Int}{v0:Value}(h:w.heap[N]? =some (fh n0 g0 v0))(n:NV)(gr:Int)(nv:Value):(fZ w N n gr nv).heap[N]? =some (fh n gr nv):=by
 unfold fZ setNode
 rw[TK.bd (TK.bd (TK.bd (TK.bd (TK.bd (TK.bd (TK.bd (TK.bd (TK.bd (TK.bd h _ _) _ _) _ _) _ _) _ _) _ _) _ _) _ _) _ _) _ _]
 simp
theorem jt{w0:World}{N:Nat}(h:Mv N w0 w)(n:NV)(gr:Int)(nv:Value):Mv N w0 (fZ w N n gr nv):=((bN h n).setCell 8 _).setCell 9 _
theorem RB.Km{lo hi ab:Nat}(h:RB w g v l d s nv av)(hf:rz lo hi ab w w')(h1:g<lo)(h2:g<ab):RB w' g v l d s nv av:=by
 refine⟨hf.Jc g _ _ _ h.box (by decide),?_,h.ne,iO hf h.jA (by decide),iO hf h.jf (by decide),?_,h.low,h.pe⟩
 ·rcases h.pat with⟨a,b⟩|⟨x,c,a,b,e⟩
  ·exact .inl ⟨a,b⟩
  ·refine .inr ⟨x,c,a,b,fun j hj=>?_⟩
   have hx:=h.ne x c (by omega) a
   have hlt:=h.lt
   rw[<- e j hj]
   unfold World.cell?
   rw[hf.o _ (by rw[TK.aS];omega) (by rw[TK.aS];omega) (by rw[TK.aS];omega)]
 ·have hb:Below g w w':=⟨hf.os,hf.tape,hf.output,hf.size,fun k hk=>hf.o k (by have:=h.lt;omega) (by omega) (by omega)⟩
  exact h.Bl.below hb h.low
theorem Step.Km{w0:World}{lo hi ab:Nat}(h:Step g w0 w)(hf:rz lo hi ab w w')(h1:w0.heap.size<=lo)(h2:w0.heap.size<=ab)(hg:g<w0.heap.size):Step g w0 w':=
 ⟨hf.os.trans h.os,hf.tape.trans h.tape,hf.output.trans h.output,Nat.le_trans h.size hf.size,fun k hk=>by rw[hf.o k (by have:=h.size;omega) (by omega) (by omega)];exact h.low k hk,fun k a b cs e fr hc n1 n2=>by rw[hf.o k (by have:=h.size;omega) (by omega) (by omega)];exact h.Jd k a b cs e fr hc n1 n2⟩
def ru(R:Except BE Pt)(g:Nat)(w:World)(e:Ending)(w':World):Prop:=
 (∃(p:Pt) (n:NV) (u:Value),R=.ok p/\e=.returned (xF n (p.aF:Nat) u)/\(∀w'':World,(∀k,g<k->k<w'.heap.size->w''.heap[k]? =w'.heap[k]?)->aV w'' n p.tree/\bW w'' u p.names)/\Below g w w')\/(∃z a,R=.error (z,a)/\e=aw z a/\Below g w w')
theorem Gh{f:Func}{tmps:Array Value}{W:World}{N s:Nat}{n:NV}{gr:Int}{u:Value}{R:Ending->World->Prop}(hres:f.results=#[ResultVar.cell s 28])(h2:tmps[s]? =some (.pointer (some ⟨N,0,none⟩)))(q1:W.heap[N]? =some (fh n gr u))(hF:R (.returned (xF n gr u)) W):
  bodyPost prog f R Exit.ret { tmps:=tmps,defers:=[] } W:=by
 obtain⟨c0,c1,c2,c3,c4,c5,c6,c7,c8,c9⟩:=cO q1
 refine bodyPost_ret (v:=xF n gr u) ?_ rfl hF
 simp[results,hres,go_sem,h2,c0,c1,c2,c3,c4,c5,c6,c7,c8,c9]
theorem CV(fo:Bool)(h:RB w g v l d {} nv av):Calls prog 31 #[.pointer (some ⟨g,0,none⟩),.bool fo] w fun e w'=>ru (dY eo d fo l) g w e w':=by
 have hgw:=h.lt
 have hpe:=h.pe
 have HPE:=I hpe
 have hsm:=h.small
 obtain⟨w1,hw1⟩:∃w1,w1=w.alloc (fh aJ 0 (.slice none 0 0)):=⟨_,rfl⟩
 have hb1:Below w.heap.size w w1:=by rw[hw1];exact(J _ w).alloc (U _) _
 have HN1:Hid (w1.heap[w.heap.size]? =some (fh aJ 0 (.slice none 0 0))):=by show _=_;rw[hw1];exact TK.aj _ _
 have HR1:=I (h.ar hb1)
 have HS1:Hid (Step g w w1):=Step.ae hb1 hgw
 obtain⟨N,hNe⟩:∃N,N=w.heap.size:=⟨_,rfl⟩
 have HNe:=I hNe
 have hgN:g<N:=by omega
 have hia:nW l ({}:St):=⟨Nat.zero_le _,Nat.zero_le _,Nat.zero_le _,by decide,by decide⟩
 have HAV:=I (dq HR1.o (Nat.zero_le _))
 have HAI:=I (fun s0=>eF (d:=d) (s':=s0) hpe hia)
 simp only[fh,aJ]at hw1
 have HE0:Hid (dY eo d fo l=match dH d l {} with
  | .error e=>.error e
  | .ok s0=>match bf d l 21 fo s0 with
   | .error e=>.error e
   | .ok (t,s)=>
    if s.tok.kind=8 then .error (1,(s.pos:Int))
    else match di s.names s.aF s.ay with
     | .error e=>.error e
     | .ok ns=>if eo (bq ns t)then .error (2,0)else .ok ⟨bq ns t,s.aF,s.names⟩):=by show _=_;unfold dY;rfl
 clear h hb1 hpe hia
 go_enter func31,ntmps31
 go_upto_region 1 with fail
 rw[<- hw1]
 rw[<- hNe]at HN1 |-
 clear hw1 hNe
 go_wp2_with fail
 refine HAV.o.mono ?_
 rintro e w2 (⟨s0,hR0,rfl,hr2,hm2⟩|⟨z,a,hR0,rfl,hm2⟩)
 case inr=>
  have hE:Hid (dY eo d fo l=.error (z,a)):=by show _=_;rw[HE0.o];simp only[hR0]
  have HS2:=I (HS1.o.trans (Step.dc hm2 HR1.o.lt))
  clear hm2 hR0 HAV HAI
  simp only[aw]
  go_wp2
  exact⟨rfl,.inr ⟨z,a,hE.o,rfl,HS2.o.below⟩⟩
 obtain⟨i2,p2,f2,d2,g2,n2,a2⟩:=HAI.o s0 hR0
 have hS2:=HS1.o.trans (Step.dc hm2 HR1.o.lt)
 have hN2:=aY hm2 HN1.o (by omega)
 have HX:=I (mZ (g:=g) (v:=v) (l:=l) (d:=d) 21 0 (by omega) (by omega) w2 s0 nv av fo hr2 i2 d2)
 have HBG:=I (fun t s'=>gj HPE.o 21 0 fo s0 t s' i2 d2)
 have HBA:=I (fun t s'=>mD HPE.o 21 0 fo s0 t s' i2 d2)
 have HE1:Hid (dY eo d fo l=match bf d l 21 fo s0 with
   | .error e=>.error e
   | .ok (t,s)=>
    if s.tok.kind=8 then .error (1,(s.pos:Int))
    else match di s.names s.aF s.ay with
     | .error e=>.error e
     | .ok ns=>if eo (bq ns t)then .error (2,0)else .ok ⟨bq ns t,s.aF,s.names⟩):=by show _=_;rw[HE0.o];simp only[hR0]
 have HS2:=I hS2
 have HN2:=I hN2
 have HR2:=I hr2
 clear hR0 hr2 hm2 i2 p2 f2 d2 g2 n2 a2 hS2 hN2 HAV HAI HE0 HR1 HS1 HN1
 go_wp2_with fail
 refine HX.o.mono ?_
 rintro e w3 (⟨t,s3,n,nv3,av3,hR,rfl,hni,hr3,hst⟩|⟨z,a,hR,rfl,hst⟩)
 case inr=>
  have hE:Hid (dY eo d fo l=.error (z,a)):=by show _=_;rw[HE1.o];simp only[hR]
  have HS3:=I (HS2.o.trans hst)
  clear hst hR HX HBG HBA
  simp only[aw]
  go_wp2
  exact⟨rfl,.inr ⟨z,a,hE.o,rfl,HS3.o.below⟩⟩
 have hgo:=HBG.o _ _ hR
 have hag:=HBA.o _ _ hR
 have HE2:Hid (dY eo d fo l=if s3.tok.kind=8 then .error (1,(s3.pos:Int))
    else match di s3.names s3.aF s3.ay with
     | .error e=>.error e
     | .ok ns=>if eo (bq ns t)then .error (2,0)else .ok ⟨bq ns t,s3.aF,s3.names⟩):=by show _=_;rw[HE1.o];simp only[hR]
 obtain⟨w4,hw4⟩:∃w4,w4=w3.alloc (aG n):=⟨_,rfl⟩
 obtain⟨X,hXe⟩:∃X,X=w3.heap.size:=⟨_,rfl⟩
 obtain⟨A,hAe⟩:∃A,A=w2.heap.size:=⟨_,rfl⟩
 have hb4:Below w3.heap.size w3 w4:=by rw[hw4];exact(J _ w3).alloc (U _) _
 have hX4:w4.heap[X]? =some (aG n):=by rw[hw4,hXe];exact TK.aj _ _
 have hN3:=hst.lh hgN HN2.o (by decide) (by decide)
 have HN4:Hid (w4.heap[N]? =some (fh aJ 0 (.slice none 0 0))):=by show _=_;rw[hb4.block N (TR.lt_of_block hN3)];exact hN3
 have hr4:=hr3.ar hb4
 have HR4:=I hr4
 have HS4:=I ((HS2.o.trans hst).trans (Step.ae (g:=g) hb4 hr3.lt))
 have HNI4:Hid (bG w4 A X n t):=by show bG _ _ _ _ _;rw[hAe,hXe];exact hni.ar (br.ae hb4 (U _))
 have HX4:=I hX4
 have hNA:N<A:=by rw[hAe];exact TR.lt_of_block HN2.o
 have hAX:A<=X:=by rw[hAe,hXe];exact hst.size
 have hal:s3.ay.length<=1000:=by have h1:=hgo.inv.inv.jf;have h2:=hgo.inv.inv.pos;omega
 have HAN:=I (oL hr4 hal)
 have HAG:=I hag.2
 have HAL:=I hal
 have c2:=hr4.tk.1
 have c10:=hr4.rd.2.2.1
 simp only[aG]at hw4
 clear hR hni hr3 hst hb4 hX4 hN3 hr4 hgo hag HX HBG HBA hal
 go_upto_region 3 with fail
 rw[<- hw4, <-hXe]
 clear hw4 hXe hAe
 by_cases k8:s3.tok.kind=8
 ·have hE:Hid (dY eo d fo l=.error (1,(s3.pos:Int))):=by show _=_;rw[HE2.o,if_pos k8]
  rw[k8]at c2
  have HG:=I (aO 1 (s3.pos:Int) w4)
  simp only[aw]at HG
  clear k8
  go_wp2_with fail
  refine HG.o.mono ?_
  rintro e w5 ⟨rfl,rfl⟩
  go_wp2
  exact⟨rfl,.inr ⟨1,_,hE.o,rfl,HS4.o.below⟩⟩
 ·have q8:(s3.tok.kind==8)=false:=by simpa using k8
  have HE3:Hid (dY eo d fo l=match di s3.names s3.aF s3.ay with
     | .error e=>.error e
     | .ok ns=>if eo (bq ns t)then .error (2,0)else .ok ⟨bq ns t,s3.aF,s3.names⟩):=by show _=_;rw[HE2.o,if_neg k8]
  clear k8
  go_wp2_with fail
  refine HAN.o.mono ?_
  rintro e w5 (⟨ns,u,hR,rfl,hou,hb5⟩|⟨z,a,hR,rfl,hb5⟩)
  case inr=>
   have hE:Hid (dY eo d fo l=.error (z,a)):=by show _=_;rw[HE3.o];simp only[hR]
   have HS5:=I (HS4.o.trans (Step.ae (g:=g) hb5 HR4.o.lt))
   clear hb5 hR HAN c2 c10
   simp only[aw]
   go_wp2
   exact⟨rfl,.inr ⟨z,a,hE.o,rfl,HS5.o.below⟩⟩
  have HE4:Hid (dY eo d fo l=if eo (bq ns t)then .error (2,0)else .ok ⟨bq ns t,s3.aF,s3.names⟩):=by show _=_;rw[HE3.o];simp only[hR]
  have hnl:=uL _ _ hR
  have hX5:w5.heap[X]? =some (aG n):=by rw[hb5.block X (TR.lt_of_block HX4.o)];exact HX4.o
  have hN5:w5.heap[N]? =some (fh aJ 0 (.slice none 0 0)):=by rw[hb5.block N (TR.lt_of_block HN4.o)];exact HN4.o
  have hni5:=HNI4.o.ar (br.ae hb5 (by have:=TR.lt_of_block HX4.o;omega))
  have hX5l:=TR.lt_of_block hX5
  have HST:=I (AD hni5 ns (by rw[hnl];exact HAG.o) (by omega) w5 X 0 _ u w4.heap.size (by omega) (fun k _ _=>rfl) hX5 (TR.ak hX5) (by omega) hou (by rw[hnl];exact HAL.o))
  have HR5:=I (HR4.o.ar hb5)
  have HS5:=I (HS4.o.trans (Step.ae (g:=g) hb5 HR4.o.lt))
  have HN5:=I hN5
  obtain⟨uo,uc,huv⟩:=ax hou
  obtain⟨ul,hul⟩:∃ul,ul=ns.length:=⟨_,rfl⟩
  rw[<- hul]at huv
  rw[huv]at HST |-
  clear hR hnl hX5 hN5 hni5 hou hb5 huv hul HAN c2 c10 HX4 HN4 HNI4 HR4 HS4
  go_wp2_with fail
  refine HST.o.mono ?_
  rintro e w6 ⟨rfl,hX6,hni6,hf6⟩
  have hX6':w6.heap[X]? =some (aG (kJ ns n)):=by rw[hX6];rfl
  have hN6:w6.heap[N]? =some (fh aJ 0 (.slice none 0 0)):=hf6.Jc N _ _ _ HN5.o (by decide)
  have hr6:=HR5.o.Km hf6 (by omega) (by omega)
  have hX6l:=TR.lt_of_block hX6'
  have HCT:=I (TR.sN (kJ ns n) (bq ns t) w6 hni6.Kx)
  have HS6:=I (HS5.o.Km hf6 (by have:=HNe.o;omega) (by have:=HNe.o;omega) hgw)
  have HNI6:=I hni6
  have HR6:=I hr6
  have HX6:=I hX6'
  have HN6:=I hN6
  obtain⟨x0,x1,x2,x3,x4,x5,x6,x7⟩:=aU hX6'
  obtain⟨nn,hnn⟩:∃nn,nn=kJ ns n:=⟨_,rfl⟩
  rw[<- hnn]at x0 x1 x2 x3 x4 x5 x6 x7 HCT HNI6 HX6
  obtain⟨tt,htt⟩:∃tt,tt=bq ns t:=⟨_,rfl⟩
  rw[<- htt]at HCT HNI6 HE4
  clear hX6 hX6' hN6 hr6 hni6 hf6 HST hnn htt HR5 HS5 HN5
  cases hbg:eo tt with
  |true=>
   have hcnt:¬TR.gd tt<1001:=by unfold eo at hbg;simpa using hbg
   have hE:Hid (dY eo d fo l=.error (2,0)):=by show _=_;rw[HE4.o,hbg,if_pos rfl]
   simp only[if_neg hcnt]at HCT
   clear hcnt hbg
   go_wp2_with fail
   refine HCT.o.mono ?_
   rintro e w7 ⟨rfl,hb7⟩
   have HG:=I (aO 2 0 w7)
   simp only[aw]at HG
   have HS7:=I (HS6.o.trans (Step.ae (g:=g) hb7 HR6.o.lt))
   clear hb7 HCT x0 x1 x2 x3 x4 x5 x6 x7
   go_wp2_with fail
   refine HG.o.mono ?_
   rintro e w8 ⟨rfl,rfl⟩
   go_wp2
   exact⟨rfl,.inr ⟨2,0,hE.o,rfl,HS7.o.below⟩⟩
  |false=>
   have hcnt:TR.gd tt<1001:=by unfold eo at hbg;simpa using hbg
   have hE:Hid (dY eo d fo l=.ok ⟨tt,s3.aF,s3.names⟩):=by show _=_;rw[HE4.o,hbg,if_neg (by simp)]
   simp only[if_pos hcnt]at HCT
   obtain⟨cc,hcc⟩:∃cc,cc=TR.gd tt:=⟨_,rfl⟩
   rw[<- hcc]at HCT
   clear hcnt hbg hcc
   go_wp2_with fail
   refine HCT.o.mono ?_
   rintro e w7 ⟨rfl,hb7⟩
   have hr7:=HR6.o.ar hb7
   have hX7:w7.heap[X]? =some (aG nn):=by rw[hb7.block X hX6l];exact HX6.o
   have hN7:w7.heap[N]? =some (fh aJ 0 (.slice none 0 0)):=by rw[hb7.block N (by omega)];exact HN6.o
   have HNI7:=I (HNI6.o.ar (br.ae hb7 (by omega)))
   have HS7:=I (HS6.o.trans (Step.ae (g:=g) hb7 HR6.o.lt))
   obtain⟨-, -, -, -, -, -,c14,c15, -⟩:=hr7.rd
   obtain⟨gr,hgr⟩:∃gr,gr=s3.aF:=⟨_,rfl⟩
   rw[<- hgr]at c14
   obtain⟨mo,mc,hmv⟩:=hr7.names.shape
   obtain⟨ml,hml⟩:∃ml,ml=s3.names.length:=⟨_,rfl⟩
   rw[<- hml]at hmv
   rw[hmv]at c15
   have HNM:Hid (bW w7 (.slice mo ml mc) s3.names):=by rw[<- hmv];exact hr7.names
   have HNS:Hid (∀b,(Value.slice mo ml mc).ownBlock=some b->b≠N/\g<b/\b<w7.heap.size):=fun b hb=>by
    have h1:=hr7.jA
    rw[hmv]at h1
    obtain⟨h2,h3⟩:=h1.lt b hb
    refine⟨fun e=>?_,by omega,h3⟩
    rcases h1.2 with⟨h4,_⟩|⟨b',cap,cur,h4,_,h6,_⟩
    ·rw[h4]at hb;cases hb
    ·rw [h4]at hb
     have:b'=b:=Option.some.inj hb
     subst this
     rw[e,hN7]at h6
     cases h6
   obtain⟨x0,x1,x2,x3,x4,x5,x6,x7⟩:=aU hX7
   obtain⟨y0,y1,y2,y3,y4,y5,y6,y7,y8,y9⟩:=cO hN7
   have yf:=lp hN7
   have HN7:=I hN7
   have hXN:¬X=N:=by omega
   have hNX:¬N=X:=by omega
   have hNg:¬N=g:=by omega
   have hgN2:¬g=N:=by omega
   have HGr:=I hgr
   have hX7l:=TR.lt_of_block hX7
   clear hb7 HCT hr7 hX7 hN7 hgr hmv hml
   go_upto_region 9 with fail
   go_region
   all_goals
    obtain⟨W4,hW4⟩:∃W4,W4=(fZ w7 N nn (gr:Nat) (.slice mo ml mc)).drew:=⟨_,rfl⟩
    have hN4:W4.heap[N]? =some (fh nn (gr:Nat) (.slice mo ml mc)):=by rw[hW4,fV];exact jd HN7.o _ _ _
    have hm4:Mv N w7 W4:=by rw[hW4];exact tN (jt (Mv.refl N w7) _ _ _)
    simp only[fZ,setNode]at hW4
    go_wp21
    rw[<- hW4]
    clear hW4
    refine Gh (N:=N) results31 rfl hN4 (.inl ⟨_,nn,.slice mo ml mc,hE.o,?_,fun w'' hw''=>⟨?_,?_⟩,(HS7.o.jz (by have:=HNe.o;omega) hgw hm4).below⟩)
    ·rw[HGr.o]
    ·have hs4:=hm4.size
     exact(HNI7.o.ar (br.bz fun k a b=>(hw'' k (by omega) (by omega)).trans (hm4.block k (by omega) (by omega)))).Kx
    ·have hs4:=hm4.size
     rcases HNM.o with⟨a,b⟩|⟨x,c,a,b,e⟩
     ·exact .inl ⟨a,b⟩
     ·refine .inr ⟨x,c,a,b,fun j hj=>?_⟩
      obtain⟨hxN,hxg,hxl⟩:=HNS.o x.block (by rw[a];rfl)
      have hbl:w''.heap[x.block]? =w7.heap[x.block]? :=(hw'' x.block hxg (by omega)).trans (hm4.block x.block hxl hxN)
      have hcell:∀q:Addr,q.block=x.block->w''.cell? q=w7.cell? q:=fun q hq=>by unfold World.cell?;rw[hq,hbl]
      exact⟨(hcell _ (TK.aS _ _)).trans (e j hj).1,(hcell _ (by show(x.add (j*2)).block=_;exact TK.aS _ _)).trans (e j hj).2⟩
end Go.Proofs.YtklbbbldalmnbaaGreatDoor.Pa
namespace Go.Proofs.YtklbbbldalmnbaaGreatDoor.Pa
open Go.RowKit
open TR (Tr NV aL cz aG aV bS)
open TK (Mv bJ eB)
open Br (BE PS aw bm bh)
variable {w w' : World} {v : Value} {l : List Int} {d : Int}
theorem vu(p q:Addr)(w:World):
  CallsD prog 30 #[.pointer (some p),.pointer (some q)] .returning w fun e u' w'=>e=.returned (.tuple #[])/\u'=.returning/\w'=w:=by
 have hnn:∀w,(binOp .neq 20 .nilIface .nilIface).run prog w=.ok (.bool false) w:=fun w=>by kernel_rfl
 refine callsD_of_wpS func30 rfl fun c₀ cs hu=>?_
 apply wpS_seq
 apply wpS_region
 simp[wpOpsS,go_sem,recoverD,hu,ntmps30,Exit.thenS]
 apply wpS_seq
 apply wpS_region
 simp[wpOpsS,go_sem,hnn,Exit.thenS]
 refine wpS_cond (t:=false) (by simp[Act.eval,Array.replicate]) ?_
 simp only[Bool.false_eq_true,if_false]
 refine wpS_of_wp (wp_skip ?_)
 cases c₀
 simp_all [bodyPostS,results,results30]
theorem uS(n k:Nat)(z c:Int)(w:World)(h1:n<k){n0:NV}{g0:Int}{v0:Value}{e e2:Int}(ht:w.heap[n]? =some (fh n0 g0 v0))(hk:w.heap[k]? =some (bm e e2)):
  CallsD prog 30 #[.pointer (some ⟨n,0,none⟩),.pointer (some ⟨k,0,none⟩)] (.panicking [{ v:=.iface 38 (.agg #[.int .i64 z,.int .i64 c]),recovered:=false }]) w fun e u' w'=>e=.returned (.tuple #[])/\u'=.panicking [{ v:=.iface 38 (.agg #[.int .i64 z,.int .i64 c]),recovered:=true }]/\w'.heap[n]? =some (fh aJ 0 (.slice none 0 0))/\w'.heap[k]? =some (bm z c)/\Below n w w':=by
 have hta:∀w,(Instr.typeAssert (.iface 38 (.agg #[.int .i64 z,.int .i64 c])) 20 38 false).run prog w=.ok (.agg #[.int .i64 z,.int .i64 c]) w:=fun w=>by kernel_rfl
 have hnn:∀x w,(binOp .neq 20 (.iface 38 x) .nilIface).run prog w=.ok (.bool true) w:=fun x w=>by rfl
 refine callsD_of_wpS func30 rfl fun c₀ cs hu=>?_
 apply wpS_seq
 apply wpS_region
 simp[wpOpsS,go_sem,recoverD,hu,ntmps30,Exit.thenS]
 apply wpS_seq
 apply wpS_region
 simp[wpOpsS,go_sem,hnn,Exit.thenS]
 refine wpS_cond (t:=true) (by simp[Act.eval,Array.replicate]) ?_
 simp only[if_true]
 refine wpS_of_wp ?_
 obtain⟨y0,y1,y2,y3,y4,y5,y6,y7,y8,y9⟩:=cO ht
 have yf:=lp ht
 obtain⟨ck,ck2,fk⟩:=bh hk
 have q3:¬n=k:=by omega
 have q4:¬k=n:=by omega
 have ne_nk:∀(X:World) o u,(X.setCell ⟨k,o,none⟩ u).heap[n]? =X.heap[n]? :=fun X o u=>Below.heap_setCell _ _ _ _ q3
 have ne_kn:∀(X:World) o u,(X.setCell ⟨n,o,none⟩ u).heap[k]? =X.heap[k]? :=fun X o u=>Below.heap_setCell _ _ _ _ q4
 have dr:∀(X:World),X.drew.heap=X.heap:=fun X=>rfl
 simp only[fh]at ht
 unfold bm at hk
 go_region
 all_goals
  refine⟨rfl,_,rfl,.tuple #[],by simp[results,results30],rfl,rfl,?_,?_,?_⟩
  ·simp only[dr,ne_nk,eB,ht,Option.map_some,fh,aJ]
   simp
  ·simp only[dr,ne_kn,eB,hk,Option.map_some,bm]
   simp
  ·refine Below.drew ?_
   repeat refine Below.setCell ?_ (by first|exact U _|exact Nat.le_of_lt h1) _
   exact J _ _
abbrev JC(N:Nat):List Deferred:=[{ target:=Target.fn (Fn.func 30) #[.pointer (some ⟨N,0,none⟩),.pointer (some ⟨N+1,0,none⟩)],args:=#[] }]
theorem BT{tmps:Array Value}{W:World}{N:Nat}{n:NV}{gr:Int}{u:Value}{e a:Int}{R:Ending->World->Prop}(h6:tmps[6]? =some (.pointer (some ⟨N,0,none⟩)))(h7:tmps[7]? =some (.pointer (some ⟨N+1,0,none⟩)))
  (q0:W.heap[N]? =some (fh n gr u)) (q2:W.heap[N+1]? =some (bm e a)) (hF:R (.returned (.tuple #[xF n gr u,.agg #[.int .i64 e,.int .i64 a]])) W):
  bodyPostD prog Tryz.f21 R Exit.ret { tmps:=tmps,defers:=JC N } W:=by
 obtain⟨y0,y1,y2,y3,y4,y5,y6,y7,y8,y9⟩:=cO q0
 obtain⟨c2,c3, -⟩:=bh q2
 refine leaves_cons (f:=30) (args:=#[.pointer (some ⟨N,0,none⟩),.pointer (some ⟨N+1,0,none⟩)]) (by simp) (by simp[go_sem]) ?_
 refine(vu _ _ _).mono ?_
 rintro e u' w2 ⟨rfl,rfl,rfl⟩
 simp[Leaves,settle,results,results21,go_sem,h6,h7,y0,y1,y2,y3,y4,y5,y6,y7,y8,y9,c2,c3]
 exact hF
theorem yN{tmps:Array Value}{W:World}{N:Nat}{n:NV}{gr:Int}{u:Value}{e a z c:Int}{R:Ending->World->Prop}(h6:tmps[6]? =some (.pointer (some ⟨N,0,none⟩)))(h7:tmps[7]? =some (.pointer (some ⟨N+1,0,none⟩)))
  (q0:W.heap[N]? =some (fh n gr u)) (q2:W.heap[N+1]? =some (bm e a)) (hF:∀W',Below N W W'->R (.returned (.tuple #[xF aJ 0 (.slice none 0 0),.agg #[.int .i64 z,.int .i64 c]])) W'):
  bodyPostD prog Tryz.f21 R (Exit.panic [{ v:=.iface 38 (.agg #[.int .i64 z,.int .i64 c]),recovered:=false }]) { tmps:=tmps,defers:=JC N } W:=by
 refine leaves_cons (f:=30) (args:=#[.pointer (some ⟨N,0,none⟩),.pointer (some ⟨N+1,0,none⟩)]) (by simp) (by simp[go_sem]) ?_
 refine(uS N (N+1) z c W (by omega) q0 q2).mono ?_
 rintro e u' w2 ⟨rfl,rfl,k0,k2,hb⟩
 obtain⟨y0,y1,y2,y3,y4,y5,y6,y7,y8,y9⟩:=cO k0
 obtain⟨c2,c3, -⟩:=bh k2
 have hG:=hF w2 hb
 simp[Leaves,settle,results,results21,go_sem,h6,h7,y0,y1,y2,y3,y4,y5,y6,y7,y8,y9,c2,c3]
 simp[aJ]at hG
 exact hG
def Jy(R:Except BE Pt)(w:World)(e:Ending)(w':World):Prop:=
 (∃(p:Pt) (n:NV) (u:Value),R=.ok p/\e=.returned (.tuple #[xF n (p.aF:Nat) u,.agg #[.int .i64 0,.int .i64 0]])/\(∀w'':World,(∀k,w.heap.size<=k->k<w'.heap.size->w''.heap[k]? =w'.heap[k]?)->aV w'' n p.tree/\bW w'' u p.names)/\Below w.heap.size w w')\/(∃z a,R=.error (z,a)/\e=.returned (.tuple #[xF aJ 0 (.slice none 0 0),.agg #[.int .i64 z,.int .i64 a]])/\Below w.heap.size w w')
theorem GY(fo:Bool)(h:bJ w v l)(hT:Fo.iP w)(hpos:3<w.heap.size)(hpe:TK.cq d l=0):Calls prog 21 #[.int .i64 d,v,.bool fo] w fun e w'=>Jy (dY eo d fo l) w e w':=by
 have hmf:∀(fn:Fn) (first cap:Array Value) (w:World),(Instr.makeFunc fn first cap).run prog w=.ok (.func fn first cap) w:=fun _ _ _ _=>rfl
 obtain⟨w1,hw1⟩:∃w1,w1=((w.alloc (fh aJ 0 (.slice none 0 0))).alloc (bm 0 0)).alloc (H6 d v {} (.slice none 0 0) (.slice none 0 0)):=⟨_,rfl⟩
 have hb1:Below w.heap.size w w1:=by rw[hw1];exact(((J _ w).alloc (U _) _).alloc (by simp) _).alloc (by simp;omega) _
 have hN1:w1.heap[w.heap.size]? =some (fh aJ 0 (.slice none 0 0)):=by rw[hw1];exact TK.ba (TK.ba (TK.aj _ _))
 have hF1:w1.heap[w.heap.size+1]? =some (bm 0 0):=by rw[hw1];exact TK.ba (TK.bp _ _ (by simp))
 have hR1:RB w1 (w.heap.size+1+1) v l d {} (.slice none 0 0) (.slice none 0 0):=by
  refine⟨by rw[hw1];exact TK.bp _ _ (by simp),h.below hb1,fun x c hl e=>?_,World.ownsRow_nil _ _ _ _,World.ownsRow_nil _ _ _ _,hT.below hb1 hpos,by omega,hpe⟩
  obtain⟨y,c',e',_,hr⟩:=h.some hl
  rw[e']at e
  cases e
  have:=World.block_lt_of_cell? _ _ (hr 0 hl)
  rw[TK.aS]at this
  omega
 have HX:=I (CV fo hR1)
 have HB1:=I hb1
 have HN1:=I hN1
 have HF1:=I hF1
 obtain⟨ao,ac,hv⟩:=h.shape
 obtain⟨ll,hll⟩:∃ll,ll=l.length:=⟨_,rfl⟩
 rw[<- hll]at hv
 simp only[fh,aJ,bm,H6,show((0:Nat):Int)=0 from rfl]at hw1
 rw[hv]at hw1 |-
 clear h hT hpos hpe hb1 hN1 hF1 hR1 hv hll
 go_enter_defers func21,ntmps21
 go_upto_region 3 with fail
 rw[<- hw1]
 clear hw1
 go_wp2_with fail
 refine HX.o.mono ?_
 rintro e w2 (⟨p,n,u,hR,rfl,hnc,hb2⟩|⟨z,a,hR,rfl,hb2⟩)
 ·have hN2:w2.heap[w.heap.size]? =some (fh aJ 0 (.slice none 0 0)):=by rw[hb2.block _ (by omega)];exact HN1.o
  have hF2:w2.heap[w.heap.size+1]? =some (bm 0 0):=by rw[hb2.block _ (by omega)];exact HF1.o
  obtain⟨y0,y1,y2,y3,y4,y5,y6,y7,y8,y9⟩:=cO hN2
  have yf:=lp hN2
  obtain⟨ck,ck2,fk⟩:=bh hF2
  have HN2:=I hN2
  have HF2:=I hF2
  have HNC:=I hnc
  have HRR:=I hR
  have HB2:=I (HB1.o.trans (hb2.mono (by omega)))
  obtain⟨uo,ul,uc,hu⟩:∃uo ul uc,u=.slice uo ul uc:=by
   obtain⟨h1,h2⟩:=hnc w2 (fun _ _ _=>rfl)
   obtain⟨a,b,c⟩:=h2.shape
   exact⟨a,_,b,c⟩
  subst hu
  obtain⟨gr,hgr⟩:∃gr,gr=p.aF:=⟨_,rfl⟩
  rw[<- hgr]
  have HGr:=I hgr
  obtain⟨N,hNe⟩:∃N,N=w.heap.size:=⟨_,rfl⟩
  have HNe:=I hNe
  have e1:¬N=N+1:=by omega
  have e2:¬N+1=N:=by omega
  rw[<- hNe]at y0 y1 y2 y3 y4 y5 y6 y7 y8 y9 yf ck ck2 fk HN2 HF2 |-
  clear hN2 hF2 hnc hR hb2 HX hgr hNe HB1 HN1 HF1
  go_wp2
  obtain⟨W3,hW3⟩:∃W3,W3=fZ w2 N n (gr:Nat) (.slice uo ul uc):=⟨_,rfl⟩
  have hN3:W3.heap[N]? =some (fh n (gr:Nat) (.slice uo ul uc)):=by rw[hW3];exact jd HN2.o _ _ _
  have hm3:Mv N w2 W3:=by rw[hW3];exact jt (Mv.refl N w2) _ _ _
  have hF3:W3.heap[N+1]? =some (bm 0 0):=aY hm3 HF2.o (by omega)
  simp only[fZ,setNode]at hW3
  rw[<- hW3]
  clear hW3
  obtain⟨W4,hW4⟩:∃W4,W4=(W3.setCell ⟨N+1,0,none⟩ (.int .i64 0)).setCell ⟨N+1,1,none⟩ (.int .i64 0):=⟨_,rfl⟩
  have hm4:Mv (N+1) W3 W4:=by rw[hW4];exact((Mv.refl (N+1) W3).setCell 0 _).setCell 1 _
  have hF4:W4.heap[N+1]? =some (bm 0 0):=by rw[hW4];exact Br.gZ hF3
  have hN4:W4.heap[N]? =some (fh n (gr:Nat) (.slice uo ul uc)):=aY hm4 hN3 (by omega)
  rw[<- hW4]
  clear hW4
  have hs3:=hm3.size
  have hs4:=hm4.size
  refine BT (N:=N) rfl rfl hN4 hF4 (.inl ⟨p,n,.slice uo ul uc,HRR.o,by rw[HGr.o],fun w'' hw''=>HNC.o w'' (fun k hk hkl=>?_),?_⟩)
  ·have :=HNe.o
   rw[hw'' k (by omega) (by omega),hm4.block k (by omega) (by omega),hm3.block k hkl (by omega)]
  have h1:Below w.heap.size w2 W3:=(hm3.below (TR.lt_of_block HN2.o)).mono (by have:=HNe.o;omega)
  have h2:Below w.heap.size W3 W4:=(hm4.below (TR.lt_of_block hF3)).mono (by have:=HNe.o;omega)
  exact HB2.o.trans (h1.trans h2)
 ·have hN2:w2.heap[w.heap.size]? =some (fh aJ 0 (.slice none 0 0)):=by rw[hb2.block _ (by omega)];exact HN1.o
  have hF2:w2.heap[w.heap.size+1]? =some (bm 0 0):=by rw[hb2.block _ (by omega)];exact HF1.o
  have HN2:=I hN2
  have HF2:=I hF2
  have HRR:=I hR
  have HB2:=I (HB1.o.trans (hb2.mono (by omega)))
  clear hN2 hF2 hR hb2 HX HB1 HN1 HF1
  simp only[aw]
  go_wp2
  exact yN (N:=w.heap.size) rfl rfl HN2.o HF2.o (fun W' hb=>.inr ⟨z,a,HRR.o,rfl,HB2.o.trans hb⟩)
variable {w w' : World} {v : Value} {l : List Int} {d : Int}
theorem eI{tmps:Array Value}{W:World}{N:Nat}{n:NV}{gr:Int}{u:Value}{e a:Int}{R:Ending->World->Prop}(h6:tmps[6]? =some (.pointer (some ⟨N,0,none⟩)))(h7:tmps[7]? =some (.pointer (some ⟨N+1,0,none⟩)))
  (q0:W.heap[N]? =some (fh n gr u)) (q2:W.heap[N+1]? =some (bm e a)) (hF:R (.returned (.tuple #[xF n gr u,.agg #[.int .i64 e,.int .i64 a]])) W):
  bodyPost prog Tryz.f11 R Exit.ret { tmps:=tmps,defers:=[] } W:=by
 obtain⟨y0,y1,y2,y3,y4,y5,y6,y7,y8,y9⟩:=cO q0
 obtain⟨c2,c3, -⟩:=bh q2
 refine bodyPost_ret (v:=.tuple #[xF n gr u,.agg #[.int .i64 e,.int .i64 a]]) ?_ rfl hF
 simp[results,results11,go_sem,h6,h7,y0,y1,y2,y3,y4,y5,y6,y7,y8,y9,c2,c3]
theorem wi(fo:Bool)(h:bJ w v l)(hT:Fo.iP w)(hpos:3<w.heap.size):Calls prog 11 #[.int .i64 d,v,.bool fo] w fun e w'=>Jy (mN eo d fo l) w e w':=by
 obtain⟨w1,hw1⟩:∃w1,w1=(w.alloc (fh aJ 0 (.slice none 0 0))).alloc (bm 0 0):=⟨_,rfl⟩
 have hb1:Below w.heap.size w w1:=by rw[hw1];exact((J _ w).alloc (U _) _).alloc (by simp) _
 have hN1:w1.heap[w.heap.size]? =some (fh aJ 0 (.slice none 0 0)):=by rw[hw1];exact TK.ba (TK.aj _ _)
 have hF1:w1.heap[w.heap.size+1]? =some (bm 0 0):=by rw[hw1];exact TK.bp _ _ (by simp)
 have hsz:w1.heap.size=w.heap.size+1+1:=by rw[hw1];simp
 have HC:=I (TK.fU d v l w1 (h.below hb1))
 obtain⟨ao,ac,hv⟩:=h.shape
 obtain⟨ll,hll⟩:∃ll,ll=l.length:=⟨_,rfl⟩
 rw[<- hll]at hv
 have HB1:=I hb1
 have HN1:=I hN1
 have HF1:=I hF1
 have HSz:=I hsz
 obtain⟨y0,y1,y2,y3,y4,y5,y6,y7,y8,y9⟩:=cO hN1
 have yf:=lp hN1
 obtain⟨ck,ck2,fk⟩:=bh hF1
 simp only[fh,aJ,bm]at hw1
 by_cases hz:TK.cq d l=0
 ·have hE:Hid (mN eo d fo l=dY eo d fo l):=by show _=_;unfold mN;rw[if_neg (by simp[hz])]
  have HX:=I (GY (d:=d) fo (h.below hb1) (hT.below hb1 hpos) (by rw[hsz];omega) hz)
  rw[hz]at HC
  rw[hv]at HC HX |-
  obtain⟨N,hNe⟩:∃N,N=w.heap.size:=⟨_,rfl⟩
  have HNe:=I hNe
  have e1:¬N=N+1:=by omega
  have e2:¬N+1=N:=by omega
  clear h hT hpos hb1 hN1 hF1 hv hll hz hsz
  go_enter func11,ntmps11
  go_upto_region 1 with fail
  rw[<- hw1]
  rw[<- hNe]at y0 y1 y2 y3 y4 y5 y6 y7 y8 y9 yf ck ck2 fk HN1 HF1 HSz |-
  clear hw1 hNe
  go_wp2_with fail
  refine HC.o.mono ?_
  rintro e w1' ⟨rfl,rfl⟩
  go_wp2_with fail
  refine HX.o.mono ?_
  rintro e w2 (⟨p,n,u,hR,rfl,hnc,hb2⟩|⟨z,a,hR,rfl,hb2⟩)
  ·have hN2:w2.heap[N]? =some (fh aJ 0 (.slice none 0 0)):=by rw[hb2.block _ (by rw[HSz.o];omega)];exact HN1.o
   have hF2:w2.heap[N+1]? =some (bm 0 0):=by rw[hb2.block _ (by rw[HSz.o];omega)];exact HF1.o
   clear y0 y1 y2 y3 y4 y5 y6 y7 y8 y9 yf ck ck2 fk
   obtain⟨y0,y1,y2,y3,y4,y5,y6,y7,y8,y9⟩:=cO hN2
   have yf:=lp hN2
   obtain⟨ck,ck2,fk⟩:=bh hF2
   have HN2:=I hN2
   have HF2:=I hF2
   have HNC:=I hnc
   have HRR:=I (hE.o.trans hR)
   have HB2:=I (HB1.o.trans (hb2.mono HB1.o.size))
   obtain⟨uo,ul,uc,hu⟩:∃uo ul uc,u=.slice uo ul uc:=by
    obtain⟨h1,h2⟩:=hnc w2 (fun _ _ _=>rfl)
    obtain⟨a,b,c⟩:=h2.shape
    exact⟨a,_,b,c⟩
   subst hu
   obtain⟨gr,hgr⟩:∃gr,gr=p.aF:=⟨_,rfl⟩
   rw[<- hgr]
   have HGr:=I hgr
   clear hN2 hF2 hnc hR hb2 HX hgr HC
   go_wp21
   obtain⟨W3,hW3⟩:∃W3,W3=fZ w2 N n (gr:Nat) (.slice uo ul uc):=⟨_,rfl⟩
   have hN3:W3.heap[N]? =some (fh n (gr:Nat) (.slice uo ul uc)):=by rw[hW3];exact jd HN2.o _ _ _
   have hm3:Mv N w2 W3:=by rw[hW3];exact jt (Mv.refl N w2) _ _ _
   have hF3:W3.heap[N+1]? =some (bm 0 0):=aY hm3 HF2.o (by omega)
   simp only[fZ,setNode]at hW3
   rw[<- hW3]
   clear hW3
   obtain⟨W4,hW4⟩:∃W4,W4=(W3.setCell ⟨N+1,0,none⟩ (.int .i64 0)).setCell ⟨N+1,1,none⟩ (.int .i64 0):=⟨_,rfl⟩
   have hm4:Mv (N+1) W3 W4:=by rw[hW4];exact((Mv.refl (N+1) W3).setCell 0 _).setCell 1 _
   have hF4:W4.heap[N+1]? =some (bm 0 0):=by rw[hW4];exact Br.gZ hF3
   have hN4:W4.heap[N]? =some (fh n (gr:Nat) (.slice uo ul uc)):=aY hm4 hN3 (by omega)
   rw[<- hW4]
   clear hW4
   have hs3:=hm3.size
   have hs4:=hm4.size
   refine eI (N:=N) rfl rfl hN4 hF4 (.inl ⟨p,n,.slice uo ul uc,HRR.o,by rw[HGr.o],fun w'' hw''=>HNC.o w'' (fun k hk hkl=>?_),?_⟩)
   ·have h1:=HNe.o
    have h2:=HSz.o
    rw[hw'' k (by omega) (by omega),hm4.block k (by omega) (by omega),hm3.block k hkl (by omega)]
   ·have h1:Below w.heap.size w2 W3:=(hm3.below (TR.lt_of_block HN2.o)).mono (by have:=HNe.o;omega)
    have h2:Below w.heap.size W3 W4:=(hm4.below (TR.lt_of_block hF3)).mono (by have:=HNe.o;omega)
    exact HB2.o.trans (h1.trans h2)
  ·have hN2:w2.heap[N]? =some (fh aJ 0 (.slice none 0 0)):=by rw[hb2.block _ (by rw[HSz.o];omega)];exact HN1.o
   have hF2:w2.heap[N+1]? =some (bm 0 0):=by rw[hb2.block _ (by rw[HSz.o];omega)];exact HF1.o
   clear y0 y1 y2 y3 y4 y5 y6 y7 y8 y9 yf ck ck2 fk
   obtain⟨y0,y1,y2,y3,y4,y5,y6,y7,y8,y9⟩:=cO hN2
   have yf:=lp hN2
   obtain⟨ck,ck2,fk⟩:=bh hF2
   have HN2:=I hN2
   have HF2:=I hF2
   have HRR:=I (hE.o.trans hR)
   have HB2:=I (HB1.o.trans (hb2.mono HB1.o.size))
   clear hN2 hF2 hR hb2 HX HC
   simp only[aJ]
   go_wp21
   obtain⟨W3,hW3⟩:∃W3,W3=fZ w2 N aJ 0 (.slice none 0 0):=⟨_,rfl⟩
   have hN3:W3.heap[N]? =some (fh aJ 0 (.slice none 0 0)):=by rw[hW3];exact jd HN2.o _ _ _
   have hm3:Mv N w2 W3:=by rw[hW3];exact jt (Mv.refl N w2) _ _ _
   have hF3:W3.heap[N+1]? =some (bm 0 0):=aY hm3 HF2.o (by omega)
   simp only[fZ,setNode,aJ]at hW3
   rw[<- hW3]
   clear hW3
   obtain⟨W4,hW4⟩:∃W4,W4=(W3.setCell ⟨N+1,0,none⟩ (.int .i64 z)).setCell ⟨N+1,1,none⟩ (.int .i64 a):=⟨_,rfl⟩
   have hm4:Mv (N+1) W3 W4:=by rw[hW4];exact((Mv.refl (N+1) W3).setCell 0 _).setCell 1 _
   have hF4:W4.heap[N+1]? =some (bm z a):=by rw[hW4];exact Br.gZ hF3
   have hN4:W4.heap[N]? =some (fh aJ 0 (.slice none 0 0)):=aY hm4 hN3 (by omega)
   rw[<- hW4]
   clear hW4
   refine eI (N:=N) rfl rfl hN4 hF4 (.inr ⟨z,a,HRR.o,rfl,?_⟩)
   have h1:Below w.heap.size w2 W3:=(hm3.below (TR.lt_of_block HN2.o)).mono (by have:=HNe.o;omega)
   have h2:Below w.heap.size W3 W4:=(hm4.below (TR.lt_of_block hF3)).mono (by have:=HNe.o;omega)
   exact HB2.o.trans (h1.trans h2)
 ·have hE:Hid (mN eo d fo l=.error (TK.cq d l,0)):=by show _=_;unfold mN;rw[if_pos hz]
  obtain⟨z,hzz⟩:∃z,z=TK.cq d l:=⟨_,rfl⟩
  rw[<- hzz]at HC hE hz
  have hzb:(z !=0)=true:=by simpa using hz
  rw[hv]at HC |-
  obtain⟨N,hNe⟩:∃N,N=w.heap.size:=⟨_,rfl⟩
  have HNe:=I hNe
  have e1:¬N=N+1:=by omega
  have e2:¬N+1=N:=by omega
  clear h hT hpos hb1 hN1 hF1 hv hll hz hsz hzz
  go_enter func11,ntmps11
  go_upto_region 1 with fail
  rw[<- hw1]
  rw[<- hNe]at y0 y1 y2 y3 y4 y5 y6 y7 y8 y9 yf ck ck2 fk HN1 HF1 HSz |-
  clear hw1 hNe
  go_wp2_with fail
  refine HC.o.mono ?_
  rintro e w2 ⟨rfl,rfl⟩
  go_wp21
  obtain⟨W3,hW3⟩:∃W3,W3=fZ w1 N aJ 0 (.slice none 0 0):=⟨_,rfl⟩
  have hN3:W3.heap[N]? =some (fh aJ 0 (.slice none 0 0)):=by rw[hW3];exact jd HN1.o _ _ _
  have hm3:Mv N w1 W3:=by rw[hW3];exact jt (Mv.refl N w1) _ _ _
  have hF3:W3.heap[N+1]? =some (bm 0 0):=aY hm3 HF1.o (by omega)
  simp only[fZ,setNode,aJ]at hW3
  rw[<- hW3]
  clear hW3
  obtain⟨W4,hW4⟩:∃W4,W4=(W3.setCell ⟨N+1,0,none⟩ (.int .i64 z)).setCell ⟨N+1,1,none⟩ (.int .i64 0):=⟨_,rfl⟩
  have hm4:Mv (N+1) W3 W4:=by rw[hW4];exact((Mv.refl (N+1) W3).setCell 0 _).setCell 1 _
  have hF4:W4.heap[N+1]? =some (bm z 0):=by rw[hW4];exact Br.gZ hF3
  have hN4:W4.heap[N]? =some (fh aJ 0 (.slice none 0 0)):=aY hm4 hN3 (by omega)
  rw[<- hW4]
  clear hW4
  refine eI (N:=N) rfl rfl hN4 hF4 (.inr ⟨z,0,hE.o,rfl,?_⟩)
  have h1:Below w.heap.size w1 W3:=(hm3.below (TR.lt_of_block HN1.o)).mono (by have:=HNe.o;omega)
  have h2:Below w.heap.size W3 W4:=(hm4.below (TR.lt_of_block hF3)).mono (by have:=HNe.o;omega)
  exact HB1.o.trans (h1.trans h2)
end Go.Proofs.YtklbbbldalmnbaaGreatDoor.Pa
