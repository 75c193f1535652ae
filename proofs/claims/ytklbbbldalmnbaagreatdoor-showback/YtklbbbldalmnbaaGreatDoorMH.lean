import Derived.Test.YtklbbbldalmnbaaGreatDoorMG
set_option maxHeartbeats 4000000
set_option linter.unusedVariables false
set_option maxRecDepth 100000
open Go.Proofs.Tryz
namespace Go.Proofs.YtklbbbldalmnbaaGreatDoor.Pa
open Go.RowKit
open TR (Tr NV aL cz aG aV bS)
open TK (Mv bJ)
open Br (BE PS aw bC ez bI OR bm)
variable {w w' : World} {g : Nat} {v : Value} {l : List Int} {d : Int} {s s' : St} {nv av : Value}
def aJ:NV:=⟨0,none,0,0,none,0,0,0,0,0,0,false⟩
abbrev uG(n:Int)(t:ByteArray)(p:Nat):Obj:=.cells #[.int .i64 n,.string t,.int .i64 (p:Nat)] 110
theorem fV(X:World):X.drew.heap=X.heap:=rfl
theorem tN{N:Nat}{w0 X:World}(h:Mv N w0 X):Mv N w0 X.drew:=⟨h.os,h.tape,h.output,h.size,h.block⟩
def setNode(w:World)(N:Nat)(n:NV):World:=(((((((w.setCell ⟨N,0,none⟩ (.int .i64 n.kind)).setCell ⟨N,1,none⟩ (.slice n.sa n.sl n.sc)).setCell ⟨N,2,none⟩ (.slice n.ka n.kl n.kc)).setCell ⟨N,3,none⟩ (.int .i64 n.num)).setCell ⟨N,4,none⟩ (.int .i64 n.least)).setCell ⟨N,5,none⟩ (.int .i64 n.an)).setCell ⟨N,6,none⟩ (.int .i64 n.bB)).setCell ⟨N,7,none⟩ (.bool n.fold)
theorem bM{N:Nat}{n0:NV}(h:w.heap[N]? =some (aG n0))(n:NV):(setNode w N n).heap[N]? =some (aG n):=by
 unfold setNode
 rw[TK.bd (TK.bd (TK.bd (TK.bd (TK.bd (TK.bd (TK.bd (TK.bd h _ _) _ _) _ _) _ _) _ _) _ _) _ _) _ _]
 simp
theorem bN{w0:World}{N:Nat}(h:Mv N w0 w)(n:NV):Mv N w0 (setNode w N n):=
 (((((((h.setCell 0 _).setCell 1 _).setCell 2 _).setCell 3 _).setCell 4 _).setCell 5 _).setCell 6 _).setCell 7 _
theorem RB.jz{N:Nat}{cs:Array Value}{e:TypeId}{fr:Nat×Nat}(h:RB w g v l d s nv av)(hN:g<N)(hc:w.heap[N]? =some (.cells cs e fr))(e1:e≠33)(e2:e≠110)(hm:Mv N w w'):RB w' g v l d s nv av:=by
 have hk:∀{e' k n:Nat} {u:Value} {xs:List Value},e'=33\/e'=110->w.ownsRow (g+1) e' k u n xs->w'.ownsRow (g+1) e' k u n xs:=fun {e' k n u xs} he ho=>by
  refine⟨ho.1,?_⟩
  rcases ho.2 with h2|⟨b,cap,cur,rfl,h3,hg,h4⟩
  ·exact .inl h2
  ·refine .inr ⟨b,cap,cur,rfl,h3,?_,h4⟩
   rw[hm.block b (TR.lt_of_block hg) ?_]
   ·exact hg
   ·intro hb
    subst hb
    rw[hg]at hc
    cases hc
    rcases he with rfl|rfl
    ·exact e1 rfl
    ·exact e2 rfl
 refine⟨by rw[hm.block g h.lt (by omega)];exact h.box,?_,h.ne,hk (.inl rfl) h.jA,hk (.inr rfl) h.jf,?_,h.low,h.pe⟩
 ·exact Br.bJ.mv h.pat hm fun x c hl e=>by have:=h.ne x c hl e;omega
 ·exact h.Bl.below (hm.below (TR.lt_of_block hc)) (by have:=h.low;omega)
theorem Step.jz{w0:World}{N:Nat}(h:Step g w0 w)(hN:w0.heap.size<=N)(hg:g<w0.heap.size)(hm:Mv N w w'):Step g w0 w':=
 ⟨hm.os.trans h.os,hm.tape.trans h.tape,hm.output.trans h.output,Nat.le_trans h.size hm.size,fun k hk=>by rw[hm.block k (by have:=h.size;omega) (by omega)];exact h.low k hk,fun k h1 h2 cs e fr hc n1 n2=>by rw[hm.block k (by have:=h.size;omega) (by omega)];exact h.Jd k h1 h2 cs e fr hc n1 n2⟩
theorem dU{k:Nat}{n:Int}{t:ByteArray}{p:Nat}(h:w.heap[k]? =some (uG n t p)):w.cell? ⟨k,0,none⟩=some (.int .i64 n)/\w.cell? ⟨k,1,none⟩=some (.string t)/\w.cell? ⟨k,2,none⟩=some (.int .i64 (p:Nat))/\∀o,w.frozen? ⟨k,o,none⟩=false:=by
 refine⟨?_,?_,?_,fun o=>?_⟩<;>simp[World.cell?,World.frozen?,h]
theorem aU{k:Nat}{n:NV}(h:w.heap[k]? =some (aG n)):w.cell? ⟨k,0,none⟩=some (.int .i64 n.kind)/\w.cell? ⟨k,1,none⟩=some (.slice n.sa n.sl n.sc)/\w.cell? ⟨k,2,none⟩=some (.slice n.ka n.kl n.kc)/\w.cell? ⟨k,3,none⟩=some (.int .i64 n.num)/\w.cell? ⟨k,4,none⟩=some (.int .i64 n.least)/\w.cell? ⟨k,5,none⟩=some (.int .i64 n.an)/\w.cell? ⟨k,6,none⟩=some (.int .i64 n.bB)/\w.cell? ⟨k,7,none⟩=some (.bool n.fold):=by
 refine⟨?_,?_,?_,?_,?_,?_,?_,?_⟩<;>simp[World.cell?,h]
theorem bH{k:Nat}{n:NV}(h:w.heap[k]? =some (aG n))(o:Nat):w.frozen? ⟨k,o,none⟩=false:=by simp[World.frozen?,h]
theorem RB.Ju{N:Nat}{o:Obj}(h:RB w g v l d s nv av)(hN:g<N)(hno:nv.ownBlock≠some N/\av.ownBlock≠some N)(hc:w.heap[N]? =some o)(hm:Mv N w w'):RB w' g v l d s nv av:=by
 have hk:∀{e' k n:Nat} {u:Value} {xs:List Value},u.ownBlock≠some N->w.ownsRow (g+1) e' k u n xs->w'.ownsRow (g+1) e' k u n xs:=fun {e' k n u xs} he ho=>by
  refine⟨ho.1,?_⟩
  rcases ho.2 with h2|⟨b,cap,cur,rfl,h3,hg,h4⟩
  ·exact .inl h2
  ·exact .inr ⟨b,cap,cur,rfl,h3,by rw[hm.block b (TR.lt_of_block hg) (fun e=>he (by rw[<- e];rfl))];exact hg,h4⟩
 refine⟨by rw[hm.block g h.lt (by omega)];exact h.box,?_,h.ne,hk hno.1 h.jA,hk hno.2 h.jf,?_,h.low,h.pe⟩
 ·exact Br.bJ.mv h.pat hm fun x c hl e=>by have:=h.ne x c hl e;omega
 ·exact h.Bl.below (hm.below (TR.lt_of_block hc)) (by have:=h.low;omega)
theorem Fi(h:RB w g v l d s nv av)(hg20:s.aF<=20)(hnum: -999<=s.tok.num/\s.tok.num<=999)(hal:s.ay.length<=1000):Calls prog 112 #[.pointer (some ⟨g,0,none⟩)] w fun e w'=>j8 (ga s) g v l d w e w':=by
 have hgw:=h.lt
 have hb0:Below w.heap.size w (w.alloc (aG aJ)):=(J _ w).alloc (U _) _
 obtain⟨W,hW⟩:∃W,W=w.alloc (aG aJ):=⟨_,rfl⟩
 have hr:RB W g v l d s nv av:=by rw[hW];exact h.ar hb0
 have hN:W.heap[w.heap.size]? =some (aG aJ):=by rw[hW];exact TK.aj _ _
 obtain⟨-, -,c10, -,c12, -,c14, -,c16⟩:=hr.rd
 obtain⟨-,c3,c4, -⟩:=hr.tk
 have HSz:Hid (W.heap.size=w.heap.size+1):=by show _=_;rw[hW];simp
 have hgW:=hr.lt
 rw[<- hW]at hb0
 simp only[aG,aJ]at hW
 have HB0:=I hb0
 have HR:=I hr
 obtain⟨z,hz⟩:∃z,z=s.tok.num:=⟨_,rfl⟩
 obtain⟨tx,htx⟩:∃tx,tx=s.tok.text:=⟨_,rfl⟩
 obtain⟨p,hp⟩:∃p,p=s.pos:=⟨_,rfl⟩
 obtain⟨k,hk⟩:∃k,k=s.aF:=⟨_,rfl⟩
 rw[<- hz]at c3 hnum
 rw[<- htx]at c4
 rw[<- hp]at c10
 rw[<- hk]at c14 hg20
 have HE:Hid (ga s=if z<0/\(if z<0 then z+(k+1:Nat)else z)<=0 then .error (5,(p:Int))else .ok (.mk 18 s.ay.length 0 0 0 s.aD [] [],{ s with ay:=s.ay++[⟨if z<0 then z+(k+1:Nat)else z,tx,p⟩] })):=by
  show _=_
  rw[hz,htx,hp,hk]
  rfl
 have hb1:Below W.heap.size W (W.alloc (uG z tx p)).drew:=((J _ W).alloc (U _) _).drew
 have HPp:=I hp
 have HKk:=I hk
 clear h hb0 hr hz htx hp hk c16
 go_enter func112,ntmps112
 go_upto_region 1 with fail
 rw[<- hW]
 clear hW
 obtain⟨N,hNe⟩:∃N,N=w.heap.size:=⟨_,rfl⟩
 have HNe:=I hNe
 rw[<- hNe]at hN |-
 have hgN:g<N:=by omega
 have HN:=I hN
 clear hN hNe
 go_region
 obtain⟨W1,hW1⟩:∃W1,W1=(W.alloc (uG z tx p)).drew:=⟨_,rfl⟩
 obtain⟨M,hM⟩:∃M,M=W.heap.size:=⟨_,rfl⟩
 have HB1:Hid (Below w.heap.size w W1):=by show Below _ _ _;rw[hW1];exact HB0.o.trans (hb1.mono HB0.o.size)
 have HR1:Hid (RB W1 g v l d s nv av):=by show RB _ _ _ _ _ _ _ _;rw[hW1];exact HR.o.ar hb1
 have HM1:Hid (W1.heap[M]? =some (uG z tx p)):=by show _=_;rw[hW1,hM];exact TK.aj _ _
 have HN1:Hid (W1.heap[N]? =some (aG aJ)):=by show _=_;rw[hW1];exact(hb1.block N (TR.lt_of_block HN.o)).trans HN.o
 have hMN:¬M=N:=by have:=TR.lt_of_block HN.o;omega
 have hgM:g<M:=by omega
 have HNag:Hid (nv.ownBlock≠some M/\av.ownBlock≠some M):=⟨fun e=>by have:=(HR.o.jA.lt M e).2;omega,fun e=>by have:=(HR.o.jf.lt M e).2;omega⟩
 have HMw:Hid (w.heap.size<=M):=by have:=HSz.o;show _<=_;omega
 rw[<- hM]
 simp only[uG]at hW1
 rw[<- hW1]
 clear hW1 hM hb1 HB0 HR HN c3 c4 c10 c12 c14 HSz hgW
 have hgMn:¬g=M:=by omega
 have hMg:¬M=g:=by omega
 obtain⟨-, -,c10, -,c12, -,c14, -,c16⟩:=HR1.o.rd
 rw[<- HPp.o]at c10
 rw[<- HKk.o]at c14
 obtain⟨a0,a1,a2,af⟩:=dU HM1.o
 by_cases hneg:z<0
 ·have w1:IntKind.i64.wrap ((k:Int)+1)=(k:Int)+1:=by rw[IntKind.wrap_i64];omega
  have w2:IntKind.i64.wrap (z+((k:Int)+1))=z+((k:Int)+1):=by rw[IntKind.wrap_i64];omega
  have hgW1:g<W1.heap.size:=HR1.o.lt
  go_upto_region 3 with fail
  go_region
  obtain⟨W2,hW2⟩:∃W2,W2=(W1.setCell ⟨M,0,none⟩ (.int .i64 (z+((k:Int)+1)))).drew:=⟨_,rfl⟩
  have hmv:Mv M W1 W2:=by rw[hW2];exact((Mv.refl M W1).setCell 0 _).trans ⟨rfl,rfl,rfl,U _,fun _ _ _=>rfl⟩
  have HB2:Hid (Below w.heap.size w W2):=HB1.o.trans ((hmv.below (TR.lt_of_block HM1.o)).mono HMw.o)
  have HM2:Hid (W2.heap[M]? =some (uG (z+((k:Int)+1)) tx p)):=by show _=_;rw[hW2];show(W1.setCell ⟨M,0,none⟩ _).heap[M]? =_;rw[TK.bd HM1.o];rfl
  have HN2:Hid (W2.heap[N]? =some (aG aJ)):=by show _=_;rw[hmv.block N (TR.lt_of_block HN1.o) (fun e=>hMN e.symm)];exact HN1.o
  have HR2:Hid (RB W2 g v l d s nv av):=HR1.o.Ju hgM HNag.o HM1.o hmv
  rw[<- hW2]
  clear hW2 a0 a1 a2 af c10 c12 c14 c16 hmv
  obtain⟨a0,a1,a2,af⟩:=dU HM2.o
  by_cases hle:z+((k:Int)+1)<=0
  ·have hE:Hid (ga s=.error (5,(p:Int))):=by show _=_;rw[HE.o,if_pos];rw[if_pos hneg];exact⟨hneg,by omega⟩
   obtain⟨-, -,c10, -⟩:=HR2.o.rd
   rw[<- HPp.o]at c10
   have HG:=I (aO 5 (p:Int) W2)
   simp only[aw]at HG
   go_wp2_with fail
   refine HG.o.mono ?_
   rintro e w4 ⟨rfl,rfl⟩
   go_wp2
   exact⟨rfl,.inr ⟨5,p,hE.o,rfl,Step.ae HB2.o hgw⟩⟩
  ·have hE:Hid (ga s=.ok (.mk 18 s.ay.length 0 0 0 s.aD [] [],{ s with ay:=s.ay++[⟨z+((k:Int)+1),tx,p⟩] })):=by
    show _=_
    rw[HE.o,if_neg (by rw[if_pos hneg];omega)]
    simp only[if_pos hneg]
    rfl
   go_wp2_with fail
   obtain⟨-, -, -, -,b12, -, -, -,b16⟩:=HR2.o.rd
   obtain⟨a0,a1,a2,af⟩:=dU HM2.o
   have hsz2:=I HB2.o.size
   have hgW2:g<W2.heap.size:=HR2.o.lt
   obtain⟨ao,ac,hav⟩:=ax HR2.o.jf
   obtain⟨q,hq⟩:∃q,q=s.ay.length:=⟨_,rfl⟩
   rw[<- hq]at hav
   obtain⟨so,sc,w6,hap,hbx,hrb,hst⟩:=HR2.o.drew.Jo 0 ⟨z+((k:Int)+1),tx,p⟩ hal
   have hbb:w6.heap[g]? =some (H6 d v s nv av):=hbx.trans HR2.o.drew.box
   have k16:w6.cell? ⟨g,16,none⟩=some (.slice ao q ac):=by simp[World.cell?,hbb,hav]
   have kf:∀o,w6.frozen? ⟨g,o,none⟩=false:=by intro o;simp[World.frozen?,hbb]
   rw[hav]at hap b16
   simp only at hap
   have HAP:=I hap
   have HRB:=I hrb
   have HST:=I hst
   have HQ:=I hq
   have hgk:g<w6.heap.size:=TR.lt_of_block hbb
   obtain⟨n1,hn1⟩:∃n1,n1=s.ay.length+1:=⟨_,rfl⟩
   rw[<- hn1]at HAP HRB HST
   have HN1:=I hn1
   have b16a:∀o,(W2.drew.alloc o).cell? ⟨g,16,none⟩=some (.slice ao q ac):=fun o=>aE ((J _ W2.drew).alloc (U _) o) hgW2 b16
   clear hap hrb hst hbb hbx hn1 hq hav
   go_upto_region 6 with fail
   go_region_law
    ((refine qU rfl _ _ _ rfl _ _ (.slice so n1 sc) w6 (by rfl) (by rfl) HAP.o ?_))
   all_goals
    obtain⟨W3,hW3⟩:∃W3,W3=w6.setCell ⟨g,16,none⟩ (.slice so n1 sc):=⟨_,rfl⟩
    rw[<- hW3]at HRB HST |-
    have HS3:=I ((Step.ae (g:=g) HB2.o hgw).trans ((Step.ae (iu W2) hgW2).trans HST.o))
    have hN3:W3.heap[N]? =some (aG aJ):=HST.o.lh hgN (show W2.drew.heap[N]? =_ from HN2.o) (by decide) (by decide)
    obtain⟨-, -, -, -,e12, -, -, -,e16⟩:=HRB.o.rd
    simp only at e12
    have nf:=bH hN3
    obtain⟨x0,x1,x2,x3,x4,x5,x6,x7⟩:=aU hN3
    have HN3:=I hN3
    have n63:n1<=1001:=by have:=HN1.o;omega
    have hsub:IntKind.i64.wrap ((n1:Int) - 1)=(n1:Int) - 1:=by rw[IntKind.wrap_i64];omega
    have hgN3:¬N=g:=by omega
    clear hW3 k16 kf b12 b16 a0 a1 a2 af hN3 hgk b16a HAP
    go_upto_region 7 with fail
    go_region
    all_goals
     go_wp21
     obtain⟨W4,hW4⟩:∃W4,W4=((((((((W3.setCell ⟨N,0,none⟩ (.int .i64 18)).setCell ⟨N,1,none⟩ (.slice none 0 0)).setCell ⟨N,2,none⟩ (.slice none 0 0)).setCell ⟨N,3,none⟩ (.int .i64 ((n1:Int) - 1))).setCell ⟨N,4,none⟩ (.int .i64 0)).setCell ⟨N,5,none⟩ (.int .i64 0)).setCell ⟨N,6,none⟩ (.int .i64 0)).setCell ⟨N,7,none⟩ (.bool s.aD)).drew:=⟨_,rfl⟩
     rw[<- hW4]
     have hN4:W4.heap[N]? =some (aG ⟨18,none,0,0,none,0,0,(n1:Int) - 1,0,0,0,s.aD⟩):=by rw[hW4,fV];exact bM HN3.o ⟨18,none,0,0,none,0,0,(n1:Int) - 1,0,0,0,s.aD⟩
     have hm:Mv N W3 W4:=by rw[hW4];exact tN (bN (Mv.refl N W3) ⟨18,none,0,0,none,0,0,(n1:Int) - 1,0,0,0,s.aD⟩)
     clear hW4
     refine cH (N:=N) results112 rfl (TR.ak hN4) ?_
     refine .inl ⟨_,_,_,nv,_,hE.o,rfl,?_,HRB.o.jz hgN HN3.o (by decide) (by decide) hm,HS3.o.jz (by have:=HNe.o;omega) hgw hm⟩
     rw[show ((s.ay.length:Nat):Int)=(n1:Int) - 1 from by have:=HN1.o;omega]
     exact bG.leaf _ _ _ 18 _ 0 0 0 _ (by decide)
 ·have hE:Hid (ga s=.ok (.mk 18 s.ay.length 0 0 0 s.aD [] [],{ s with ay:=s.ay++[⟨z,tx,p⟩] })):=by
   show _=_
   rw[HE.o,if_neg (by omega)]
   simp only[if_neg hneg]
  have HB2:=HB1
  have HM2:=HM1
  have HN2:=HN1
  have HR2:=HR1
  obtain⟨W2,hW2⟩:∃W2,W2=W1:=⟨_,rfl⟩
  rw[<- hW2]at HB2 HM2 HN2 HR2 a0 a1 a2 af |-
  clear hW2 HB1 HM1 HN1 HR1 c10 c12 c14 c16
  obtain⟨-, -, -, -,b12, -, -, -,b16⟩:=HR2.o.rd
  obtain⟨a0,a1,a2,af⟩:=dU HM2.o
  have hsz2:=I HB2.o.size
  have hgW2:g<W2.heap.size:=HR2.o.lt
  obtain⟨ao,ac,hav⟩:=ax HR2.o.jf
  obtain⟨q,hq⟩:∃q,q=s.ay.length:=⟨_,rfl⟩
  rw[<- hq]at hav
  obtain⟨so,sc,w6,hap,hbx,hrb,hst⟩:=HR2.o.drew.Jo 0 ⟨z,tx,p⟩ hal
  have hbb:w6.heap[g]? =some (H6 d v s nv av):=hbx.trans HR2.o.drew.box
  have k16:w6.cell? ⟨g,16,none⟩=some (.slice ao q ac):=by simp[World.cell?,hbb,hav]
  have kf:∀o,w6.frozen? ⟨g,o,none⟩=false:=by intro o;simp[World.frozen?,hbb]
  rw[hav]at hap b16
  simp only at hap
  have HAP:=I hap
  have HRB:=I hrb
  have HST:=I hst
  have HQ:=I hq
  have hgk:g<w6.heap.size:=TR.lt_of_block hbb
  obtain⟨n1,hn1⟩:∃n1,n1=s.ay.length+1:=⟨_,rfl⟩
  rw[<- hn1]at HAP HRB HST
  have HN1:=I hn1
  have b16a:∀o,(W2.drew.alloc o).cell? ⟨g,16,none⟩=some (.slice ao q ac):=fun o=>aE ((J _ W2.drew).alloc (U _) o) hgW2 b16
  clear hap hrb hst hbb hbx hn1 hq hav
  go_upto_region 6 with fail
  go_region_law
   ((refine qU rfl _ _ _ rfl _ _ (.slice so n1 sc) w6 (by rfl) (by rfl) HAP.o ?_))
  all_goals
   obtain⟨W3,hW3⟩:∃W3,W3=w6.setCell ⟨g,16,none⟩ (.slice so n1 sc):=⟨_,rfl⟩
   rw[<- hW3]at HRB HST |-
   have HS3:=I ((Step.ae (g:=g) HB2.o hgw).trans ((Step.ae (iu W2) hgW2).trans HST.o))
   have hN3:W3.heap[N]? =some (aG aJ):=HST.o.lh hgN (show W2.drew.heap[N]? =_ from HN2.o) (by decide) (by decide)
   obtain⟨-, -, -, -,e12, -, -, -,e16⟩:=HRB.o.rd
   simp only at e12
   have nf:=bH hN3
   obtain⟨x0,x1,x2,x3,x4,x5,x6,x7⟩:=aU hN3
   have HN3:=I hN3
   have n63:n1<=1001:=by have:=HN1.o;omega
   have hsub:IntKind.i64.wrap ((n1:Int) - 1)=(n1:Int) - 1:=by rw[IntKind.wrap_i64];omega
   have hgN3:¬N=g:=by omega
   clear hW3 k16 kf b12 b16 a0 a1 a2 af hN3 hgk b16a HAP
   go_upto_region 7 with fail
   go_region
   all_goals
    go_wp21
    obtain⟨W4,hW4⟩:∃W4,W4=((((((((W3.setCell ⟨N,0,none⟩ (.int .i64 18)).setCell ⟨N,1,none⟩ (.slice none 0 0)).setCell ⟨N,2,none⟩ (.slice none 0 0)).setCell ⟨N,3,none⟩ (.int .i64 ((n1:Int) - 1))).setCell ⟨N,4,none⟩ (.int .i64 0)).setCell ⟨N,5,none⟩ (.int .i64 0)).setCell ⟨N,6,none⟩ (.int .i64 0)).setCell ⟨N,7,none⟩ (.bool s.aD)).drew:=⟨_,rfl⟩
    rw[<- hW4]
    have hN4:W4.heap[N]? =some (aG ⟨18,none,0,0,none,0,0,(n1:Int) - 1,0,0,0,s.aD⟩):=by rw[hW4,fV];exact bM HN3.o ⟨18,none,0,0,none,0,0,(n1:Int) - 1,0,0,0,s.aD⟩
    have hm:Mv N W3 W4:=by rw[hW4];exact tN (bN (Mv.refl N W3) ⟨18,none,0,0,none,0,0,(n1:Int) - 1,0,0,0,s.aD⟩)
    clear hW4
    refine cH (N:=N) results112 rfl (TR.ak hN4) ?_
    refine .inl ⟨_,_,_,nv,_,hE.o,rfl,?_,HRB.o.jz hgN HN3.o (by decide) (by decide) hm,HS3.o.jz (by have:=HNe.o;omega) hgw hm⟩
    rw[show ((s.ay.length:Nat):Int)=(n1:Int) - 1 from by have:=HN1.o;omega]
    exact bG.leaf _ _ _ 18 _ 0 0 0 _ (by decide)
end Go.Proofs.YtklbbbldalmnbaaGreatDoor.Pa
