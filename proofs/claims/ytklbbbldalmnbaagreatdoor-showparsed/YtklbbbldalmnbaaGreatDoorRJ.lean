import Derived.Test.YtklbbbldalmnbaaGreatDoorMQ
import Derived.Test.YtklbbbldalmnbaaGreatDoorMY
import Derived.Test.YtklbbbldalmnbaaGreatDoorMB
import Derived.Test.YtklbbbldalmnbaaGreatDoorKE
import Derived.StillTailTactics
import Derived.Deep.Cut
import Derived.Deep.RegionLaw
import Derived.Test.YtklbbbldalmnbaaGreatDoorMP
import Derived.Test.YtklbbbldalmnbaaGreatDoorRI
import Derived.Test.YtklbbbldalmnbaaGreatDoorRF
import Derived.Test.YtklbbbldalmnbaaGreatDoorRD
import Derived.Test.YtklbbbldalmnbaaGreatDoorRK
set_option linter.unusedVariables false
set_option maxRecDepth 100000
set_option maxHeartbeats 8000000
open Go.Proofs.Tryz
namespace Go.Proofs.YtklbbbldalmnbaaGreatDoor.Pa
open Go.RowKit
open TR (Tr NV aP cK aK bb ch)
open TK (Mv bL)
open Br (BE PS aF br bg)
def Jj:Tr:=.mk 0 0 0 0 0 false [] []
theorem DN(w:World):bb w aN Jj:=.mk aN [] [] (fun _=>aN) (.inl ⟨rfl,rfl⟩) (.inl ⟨rfl,rfl,rfl,rfl⟩) (fun j hj=>by cases hj)
def zX(R:Except BE Pt):Tr×Nat×List Nm:=match R with
 | .ok p=>(p.tree,p.ay,p.names)
 | .error _=>(Jj,0,[])
def KN(R:Except BE Pt):Int×Int:=match R with
 | .ok _=>(0,0)
 | .error e=>e
theorem C3(d:Int)(fo:Bool){v:Value}{l:List Int}{w:World}(h:bL w v l)(hT:Fo.ja w)(hpos:3<w.heap.size):Calls prog 11 #[.int .i64 d,v,.bool fo] w fun e w'=>∃(n:NV) (gr:Int) (uo:Option Addr) (ul uc:Nat) (z a:Int),e=.returned (.tuple #[xE n gr (.slice uo ul uc),.agg #[.int .i64 z,.int .i64 a]])/\
  (∀w'':World,(∀k,w.heap.size<=k->k<w'.heap.size->w''.heap[k]? =w'.heap[k]?)->bb w'' n (zX (iW dX d fo l)).1/\cD w'' (.slice uo ul uc) (zX (iW dX d fo l)).2.2)/\gr=((zX (iW dX d fo l)).2.1:Nat)/\z=(KN (iW dX d fo l)).1/\a=(KN (iW dX d fo l)).2/\Below w.heap.size w w':=by
 refine(xv (d:=d) fo h hT hpos).mono ?_
 rintro e w' (⟨p,n,u,hR,rfl,hnc,hb⟩|⟨z,a,hR,rfl,hb⟩)
 ·obtain ⟨uo,uc,hu⟩:=(hnc w' (fun _ _ _=>rfl)).2.shape
  rw[hR]
  subst hu
  exact⟨n,_,uo,_,uc,0,0,rfl,hnc,rfl,rfl,rfl,hb⟩
 ·rw [hR]
  exact⟨aN,0,none,0,0,z,a,rfl,fun w'' _=>⟨DN w'',.inl ⟨rfl,rfl⟩⟩,rfl,rfl,rfl,hb⟩
end Go.Proofs.YtklbbbldalmnbaaGreatDoor.Pa
namespace Go.Proofs.YtklbbbldalmnbaaGreatDoor.Pa
open Go.RowKit
open TR (Tr NV aP cK aK bb ch ak)
theorem s9{w wr:World}{q:Nat}(h:wr=w.drewN q)(n:Nat):∃m,wr.drewN n=w.drewN m:=⟨q+n,by subst h;simp[World.drewN,Nat.add_assoc]⟩
theorem kU(w:World)(q:Nat):Below w.heap.size w (w.drewN q):=⟨rfl,rfl,rfl,ai _,fun _ _=>rfl⟩
theorem Ah(va vb:Value)(A:RL)(w:World)(hA:Reads w va A)(hB:Reads w vb A)(lA:A.length<=2000000):
  Calls prog 22 #[va,vb] w fun e w'=>e=.returned (.bool true)/\∃q,w'=w.drewN q:=by
 rcases hA with⟨rfl,rfl⟩|⟨x,c,rfl,hc⟩
 ·obtain ⟨bo,cb,rfl⟩:=hB.shape
  clear hB
  go_enter func22,ntmps22
  go_wp2
  go_loop [5] (fun i=>i=.int .i64 0) (fun i=>0)
  case atStart=>exact rfl
  case round=>
   subst hrel
   go_wp2
   go_ret
   exact⟨rfl,0,rfl⟩
 ·obtain ⟨bo,cb,rfl⟩:=hB.shape
  have HB:=I hB
  have HC:=I hc
  obtain⟨n,hn⟩:=J A.length
  have HN:=I hn
  rw[<- hn]at HB lA |-
  clear hc hB hn
  go_enter func22,ntmps22
  go_wp2
  go_loopw [5] (fun i wr=>∃k q:Nat,k<=n/\i=.int .i64 k/\wr=w.drewN q) (fun i _=>n - (intOf i).toNat)
  case atStart=>exact⟨0,0,Nat.zero_le _,rfl,rfl⟩
  case round=>
   obtain⟨k,q,hk,rfl,hw⟩:=hrel
   have HW:=I hw
   by_cases hlt:k<n
   ·have hkA:k<A.length:=by have:=HN.o;omega
    obtain⟨y,cy,hy,hcB⟩:=HB.o.some (by omega)
    obtain⟨rfl,_⟩:bo=some y/\True:=by cases hy;exact⟨rfl,trivial⟩
    have hcw:jn wr x A:=by rw[hw];exact HC.o
    have hcy:jn wr y A:=by rw[hw];exact hcB
    obtain⟨c1,c2⟩:=hcw k hkA
    obtain⟨d1,d2⟩:=hcy k hkA
    obtain⟨r,hr⟩:=J (A[k])
    rw[<- hr]at c1 c2 d1 d2
    clear hr
    obtain⟨a,b⟩:=r
    simp only at c1 c2 d1 d2
    clear hcw hcy hcB hy hw
    go_wp2
    go_quiet (fail)
    go_wp2
    go_roundw
    case rel=>obtain⟨q2,hq2⟩:=s9 HW.o nq;exact⟨k+1,q2,by omega,by go_num,hq2⟩
    case measure=>simp[intOf];omega
   ·clear hw
    go_wp2
    go_ret
    exact⟨rfl,_,HW.o⟩
theorem Gb:∀(ts:List Tr) (j:Nat) (hj:j<ts.length),gz ts[j]<=fH ts
 |t::ts,0,_=>by simp[fH]
 |t::ts,j+1,hj=>by have:=Gb ts j (by simpa using hj);simp only[fH,List.getElem_cons_succ];omega
theorem xY:∀(k:Nat) (t:Tr) (a b:NV) (w:World),gz t<=k->Sm t->bb w a t->bb w b t->Calls prog 13 #[cK a,cK b] w fun e w'=>e=.returned (.bool true)/\Below w.heap.size w w':=by
 intro k
 induction k with
 |zero=>intro t a b w hk;rw[eR]at hk;omega
 |succ k ih=>
  intro t a b w hk hs ha hb
  obtain⟨a1,a2,a3,a4,a5,a6,a7,va,a8,a9⟩:=ha.open
  obtain⟨b1,b2,b3,b4,b5,b6,b7,vb,b8,b9⟩:=hb.open
  rw[eR]at hk
  have HK:Hid (∀j (hj:j<t.kids.length),gz t.kids[j]<=k):=fun j hj=>by have:=Gb t.kids j hj;omega
  have hlen:=hs.kids.1
  have HSm:Hid (∀j (hj:j<t.kids.length),Sm t.kids[j]):=fun j hj=>hs.kids.2 _ (List.getElem_mem hj)
  obtain⟨ks,hks⟩:=J t.kids
  rw[<- hks]at a8 b8
  have HKd:Hid ((∀j (hj:j<ks.length),bb w (va j) ks[j])/\(∀j (hj:j<ks.length),bb w (vb j) ks[j])/\(∀j (hj:j<ks.length),Sm ks[j])/\∀j (hj:j<ks.length),gz ks[j]<=k):=by subst hks;exact⟨a9,b9,HSm.o,HK.o⟩
  have hal:=a8.len
  have hbl:=b8.len
  obtain⟨k1,ao,al,ac,ka,kl,kc,n1,l1,m1,w1',f1⟩:=a
  obtain⟨k2,bo,bl,bc,kb,kl2,kc2,n2,l2,m2,w2',f2⟩:=b
  simp only at a1 a2 a3 a4 a5 a6 a7 a8 b1 b2 b3 b4 b5 b6 b7 b8 hal hbl
  obtain rfl:k2=k1:=b1.symm.trans a1
  obtain rfl:n2=n1:=b2.symm.trans a2
  obtain rfl:l2=l1:=b3.symm.trans a3
  obtain rfl:m2=m1:=b4.symm.trans a4
  obtain rfl:w2'=w1':=b5.symm.trans a5
  obtain rfl:f2=f1:=b6.symm.trans a6
  obtain rfl:kl2=kl:=hbl.trans hal.symm
  have HA8:=I a8
  have HB8:=I b8
  have HAl:=I hal
  obtain⟨A,hA⟩:∃A:NV,A=⟨k2,ao,al,ac,ka,kl2,kc,n2,l2,m2,w2',f2⟩:=⟨_,rfl⟩
  obtain⟨B,hB⟩:∃B:NV,B=⟨k2,bo,bl,bc,kb,kl2,kc2,n2,l2,m2,w2',f2⟩:=⟨_,rfl⟩
  obtain⟨w1,hw1⟩:=J ((w.alloc (aK A)).alloc (aK B))
  have hb1:Below w.heap.size w w1:=by rw[hw1];exact(an w _).alloc (by simp) _
  have hM:w1.heap[w.heap.size]? =some (aK A):=by rw[hw1];exact TK.bj (TK.aj _ _)
  have hN:w1.heap[w.heap.size+1]? =some (aK B):=by rw[hw1];exact TK.bB _ _ (by simp)
  have HS:=I (Ah _ _ _ w1 (a7.below hb1) (b7.below hb1) hlen)
  have HM:=I hM
  have HN:=I hN
  have HB:=I hb1
  obtain⟨d0,d1,d2,d3,d4,d5,d6,d7⟩:=ak hM
  obtain⟨e0,e1,e2,e3,e4,e5,e6,e7⟩:=ak hN
  simp only[aK]at hw1
  have HIH:=I ih
  have hlenk:Hid (ks.length<=9223372036854775807):=by
   rcases HA8.o with⟨_,_,_,h0⟩|⟨x,_,_,h0,_⟩
   ·show _<=_;omega
   ·show _<=_;omega
  have HAe:=I hA
  have HBe:=I hB
  rw[hA]at d0 d1 d2 d3 d4 d5 d6 d7 hw1
  rw[hB]at e0 e1 e2 e3 e4 e5 e6 e7 hw1
  simp only at d0 d1 d2 d3 d4 d5 d6 d7 e0 e1 e2 e3 e4 e5 e6 e7 hw1
  simp only[cK]
  clear ha hb a1 a2 a3 a4 a5 a6 a7 a8 a9 b1 b2 b3 b4 b5 b6 b7 b8 b9 hk hs hlen hks hal hbl hb1 hM hN ih HSm HK hA hB
  go_enter func13,ntmps13
  go_wp2_with fail
  rw[<- hw1]
  clear hw1
  go_wp2_with fail
  refine HS.o.mono ?_
  rintro e w2 ⟨rfl,q,hw2⟩
  have hM2:w2.heap[w.heap.size]? =some (aK A):=by rw[hw2];exact HM.o
  have hN2:w2.heap[w.heap.size+1]? =some (aK B):=by rw[hw2];exact HN.o
  have HB2:Hid (Below w.heap.size w w2):=by show Below _ _ _;rw[hw2];exact HB.o.trans ((kU w1 q).mono HB.o.size)
  have HM2:=I hM2
  have HN2:=I hN2
  clear d0 d1 d2 d3 d4 d5 d6 d7 e0 e1 e2 e3 e4 e5 e6 e7 hw2 HM HN HB HS
  obtain⟨d0,d1,d2,d3,d4,d5,d6,d7⟩:=ak hM2
  obtain⟨e0,e1,e2,e3,e4,e5,e6,e7⟩:=ak hN2
  rw[HAe.o]at d0 d1 d2 d3 d4 d5 d6 d7
  rw[HBe.o]at e0 e1 e2 e3 e4 e5 e6 e7
  simp only at d0 d1 d2 d3 d4 d5 d6 d7 e0 e1 e2 e3 e4 e5 e6 e7
  clear hM2 hN2
  go_wp2
  clear d0 d1 d2 d3 d4 d5 d6 d7 e0 e1 e2 e3 e4 e5 e6 e7
  go_loopw [5] (fun i wr=>∃j:Nat,j<=kl2/\i=.int .i64 j/\wr.heap[w.heap.size]? =some (aK A)/\wr.heap[w.heap.size+1]? =some (aK B)/\Below w.heap.size w wr) (fun i _=>kl2 - (intOf i).toNat)
  case atStart=>exact⟨0,Nat.zero_le _,rfl,HM2.o,HN2.o,HB2.o⟩
  case round=>
   obtain⟨j,hj,rfl,hm,hn,hb⟩:=hrel
   have HMr:=I hm
   have HNr:=I hn
   have HBr:=I hb
   obtain⟨w3,hw3⟩:=J wr
   subst hw3
   have d2:=(ak hm).c2
   have e2:=(ak hn).c2
   rw[HAe.o]at d2
   rw[HBe.o]at e2
   simp only at d2 e2
   clear hm hn hb HM2 HN2 HB2
   by_cases hlt:j<kl2
   ·have hjk:j<ks.length:=by have:=HAl.o;omega
    have e3:(j:Int)<(kl2:Int):=by omega
    have e4:(0:Int)<=(j:Int):=by omega
    obtain⟨x,hx,hcx⟩:∃x,ka=some x/\aP w3 (x.add (j*8)) (va j):=by
     rcases HA8.o with⟨_,_,_,h0⟩|⟨x,hx,_,_,hcl⟩
     ·omega
     ·exact⟨x,hx,(hcl j hjk).below HBr.o⟩
    obtain⟨y,hy,hcy⟩:∃y,kb=some y/\aP w3 (y.add (j*8)) (vb j):=by
     rcases HB8.o with⟨_,_,_,h0⟩|⟨y,hy,_,_,hcl⟩
     ·omega
     ·exact⟨y,hy,(hcl j hjk).below HBr.o⟩
    have HC:Hid (∀W,Below w3.heap.size w3 W->Calls prog 13 #[cK (va j),cK (vb j)] W fun e w'=>e=.returned (.bool true)/\Below W.heap.size W w'):=fun W hW=>HIH.o ks[j] _ _ W (HKd.o.2.2.2 j hjk) (HKd.o.2.2.1 j hjk) (((HKd.o.1 j hjk).ax HBr.o).ax hW) (((HKd.o.2.1 j hjk).ax HBr.o).ax hW)
    obtain⟨c0,c1,c2,c3,c4,c5,c6,c7⟩:=hcx
    obtain⟨g0,g1,g2,g3,g4,g5,g6,g7⟩:=hcy
    have hjm:(j:Int)+1<=9223372036854775807:=by have:=hlenk.o;omega
    rw[hx]at d2
    rw[hy]at e2
    clear hx hy
    simp only[cK]at HC
    have HDr:Hid (Below w3.heap.size w3 w3.drew):=⟨rfl,rfl,rfl,ai _,fun _ _=>rfl⟩
    go_upto_region 10 with fail
    go_still_tail 10,(by kernel_rfl)
    go_wp2_with fail
    refine(HC.o _ HDr.o).mono ?_
    rintro e w4 ⟨rfl,hb4⟩
    have hb5:Below w3.heap.size w3 w4:=HDr.o.aq hb4
    have HM4:Hid (w4.heap[w.heap.size]? =some (aK A)):=by show _=_;rw[hb5.block _ (TR.lt_of_block HMr.o)];exact HMr.o
    have HN4:Hid (w4.heap[w.heap.size+1]? =some (aK B)):=by show _=_;rw[hb5.block _ (TR.lt_of_block HNr.o)];exact HNr.o
    have HB4:=I (HBr.o.aq hb5)
    clear hb4 hb5 HC c0 c1 c2 c3 c4 c5 c6 c7 g0 g1 g2 g3 g4 g5 g6 g7 d2 e2 HDr
    go_wp2
    go_roundw
    case rel=>exact⟨j+1,by omega,by go_num,HM4.o,HN4.o,HB4.o⟩
    case measure=>simp[intOf];omega
   ·have e2:¬(j:Int)<(kl2:Int):=by omega
    go_wp2
    go_ret
    exact⟨rfl,HBr.o⟩
theorem rH(a b:NV)(t:Tr)(gr:Int)(u v:Value)(N:dv)(w:World)(hs:Sm t)(ha:bb w a t)(hb:bb w b t)(hu:cD w u N)(hv:cD w v N):Calls prog 14 #[xE a gr u,xE b gr v] w fun e w'=>e=.returned (.bool true)/\Below w.heap.size w w':=by
 obtain⟨ao,ac,eu⟩:=hu.shape
 obtain⟨bo,bc,ev⟩:=hv.shape
 obtain⟨m,hm⟩:=J N.length
 rw[<- hm]at eu ev
 have HMe:=I hm
 obtain⟨w1,hw1⟩:=J ((w.alloc (fX a gr u)).alloc (fX b gr v))
 have hb1:Below w.heap.size w w1:=by rw[hw1];exact(an w _).alloc (by simp) _
 have hM:w1.heap[w.heap.size]? =some (fX a gr u):=by rw[hw1];exact TK.bj (TK.aj _ _)
 have hN:w1.heap[w.heap.size+1]? =some (fX b gr v):=by rw[hw1];exact TK.bB _ _ (by simp)
 have HM:=I hM
 have HN:=I hN
 obtain⟨d0,d1,d2,d3,d4,d5,d6,d7,d8,d9⟩:=cU hM
 obtain⟨e0,e1,e2,e3,e4,e5,e6,e7,e8,e9⟩:=cU hN
 have HB:=I hb1
 have HS:=I (xY _ t a b w1 (ai _) hs (ha.ax hb1) (hb.ax hb1))
 have HU:=I hu
 have HV:=I hv
 have hmx:Hid (m<=9223372036854775807):=by
  rcases hu with⟨_,h0⟩|⟨x,c,_,h0,_⟩
  ·subst h0;show m<=_;rw[hm];simp
  ·show m<=_;omega
 simp only[fX]at hw1
 simp only[xE,cK]at HS |-
 rw[eu,ev]at hw1 |-
 rw[eu]at d9 HM HU
 rw[ev]at e9 HN HV
 clear hb1 hM hN hu hv ha hb hs eu ev hm
 go_enter func14,ntmps14
 go_wp2_with fail
 rw[<- hw1]
 clear hw1
 go_wp2_with fail
 refine HS.o.mono ?_
 rintro e w2 ⟨rfl,hb2⟩
 have HM2:Hid (w2.heap[w.heap.size]? =some (fX a gr (.slice ao m ac))):=by show _=_;rw[hb2.block _ (TR.lt_of_block HM.o)];exact HM.o
 have HN2:Hid (w2.heap[w.heap.size+1]? =some (fX b gr (.slice bo m bc))):=by show _=_;rw[hb2.block _ (TR.lt_of_block HN.o)];exact HN.o
 clear d0 d1 d2 d3 d4 d5 d6 d7 d8 d9 e0 e1 e2 e3 e4 e5 e6 e7 e8 e9
 obtain⟨-, -, -, -, -, -, -, -,d8,d9⟩:=cU HM2.o
 obtain⟨-, -, -, -, -, -, -, -,e8,e9⟩:=cU HN2.o
 have HB2:=I (HB.o.aq hb2)
 clear hb2 HB HM HN HS
 go_wp2
 go_loopw [5] (fun i wr=>∃j q:Nat,j<=m/\i=.int .i64 j/\wr=w2.drewN q) (fun i _=>m - (intOf i).toNat)
 case atStart=>exact⟨0,0,Nat.zero_le _,rfl,rfl⟩
 case round=>
  obtain⟨j,q,hj,rfl,hw⟩:=hrel
  have HW:=I hw
  have d9:wr.cell? ⟨w.heap.size,9,none⟩=some (.slice ao m ac):=by rw[hw];exact d9
  have e9:wr.cell? ⟨w.heap.size+1,9,none⟩=some (.slice bo m bc):=by rw[hw];exact e9
  by_cases hlt:j<m
  ·have hjN:j<N.length:=by have:=HMe.o;omega
   have hmi:(j:Int)+1<=9223372036854775807:=by have:=hmx.o;omega
   have hbw:Below w.heap.size w wr:=by rw[hw];exact HB2.o.trans ((kU w2 q).mono HB2.o.size)
   obtain⟨x,hx,c1,c2⟩:∃x,ao=some x/\wr.cell? (x.add (j*2))=some (.string N[j].1)/\wr.cell? ⟨(x.add (j*2)).block,(x.add (j*2)).off+1,none⟩=some (.int .i64 N[j].2):=by
    rcases HU.o.below hbw with⟨_,h0⟩|⟨x,c,h1,_,h3⟩
    ·subst h0;cases hjN
    ·cases h1;exact⟨x,rfl,h3 j hjN⟩
   obtain⟨y,hy,f1,f2⟩:∃y,bo=some y/\wr.cell? (y.add (j*2))=some (.string N[j].1)/\wr.cell? ⟨(y.add (j*2)).block,(y.add (j*2)).off+1,none⟩=some (.int .i64 N[j].2):=by
    rcases HV.o.below hbw with⟨_,h0⟩|⟨x,c,h1,_,h3⟩
    ·subst h0;cases hjN
    ·cases h1;exact⟨x,rfl,h3 j hjN⟩
   obtain⟨r,hr⟩:=J (N[j])
   rw[<- hr]at c1 c2 f1 f2
   clear hr
   obtain⟨s,z⟩:=r
   rw[hx]at d9
   rw[hy]at e9
   simp only at c1 c2 f1 f2
   clear hx hy hbw hw
   go_wp2
   go_quiet (fail)
   go_wp2
   go_roundw
   case rel=>obtain⟨q2,hq2⟩:=s9 HW.o nq;exact⟨j+1,q2,by omega,by go_num,hq2⟩
   case measure=>simp[intOf];omega
  ·clear hw
   go_wp2
   go_ret
   exact⟨rfl,by rw[HW.o];exact HB2.o.trans ((kU w2 q).mono HB2.o.size)⟩
end Go.Proofs.YtklbbbldalmnbaaGreatDoor.Pa
namespace Go.Proofs.YtklbbbldalmnbaaGreatDoor.Pa
open Go.RowKit
open TR (Tr NV aP cK aK bb ch jo kj cO)
open TK (Mv bL pt)
open Br (BE PS aF br bg)
mutual
theorem Ed:∀(t:Tr) (c c':Int×List Int),cO t c=.ok c'->Sm t
 | .mk k a b d e f S ks,c,c',h=>by
  obtain⟨c1,hn,hk⟩:=ei h
  refine .mk _ _ _ _ _ _ _ _ ?_ (AO ks c1 c' hk)
  have:=hn.set
  simp only[TR.Tr.set]at this
  omega
theorem AO:∀(ts:List Tr) (c c':Int×List Int),TR.cG ts c=.ok c'->∀t∈ts,Sm t
 |[],c,c',h,t,ht=>by cases ht
 |u::ts,c,c',h,t,ht=>by
  obtain⟨c1,h1,h2⟩:=eK h
  rcases List.mem_cons.1 ht with he|ht
  ·rw[he];exact Ed u c c1 h1
  ·exact AO ts c1 c' h2 t ht
end
theorem C8{t:Tr}{g:Int}{N:TR.dv}(h:jo t g N 0):Sm t:=by
 rcases h with⟨_,h⟩|⟨_,h⟩
 ·cases h
 ·have hT:TR.dE t g=0:=by
   rcases h with⟨h1,h2⟩|⟨h1,_⟩|⟨h1,_⟩
   ·exact h2.symm
   ·exact h1
   ·exact h1
  unfold TR.dE at hT
  cases hc:cO t (0,[])with
  |error z=>rw[hc]at hT;exact absurd hT (TR.jv t _ z hc)
  |ok c'=>exact Ed t _ c' hc
theorem J3(l:List UInt8):jj ⟨l.toArray⟩ (⟨l.toArray⟩:ByteArray).size=pt l:=by
 have hs:(⟨l.toArray⟩:ByteArray).size=l.length:=List.size_toArray
 unfold jj pt
 rw[hs]
 apply List.ext_getElem
 ·simp
 ·intro i h1 h2
  simp only[List.getElem_map,List.getElem_range]
  have hi:i<(⟨l.toArray⟩:ByteArray).size:=by rw[hs];simpa using h1
  unfold Go.PlainAid.bt
  rw[dif_pos hi]
  rfl
theorem E7{t:Tr}{g:Int}{N:TR.dv}(h:jo t g N 0):∀i,i<N.length->(TR.nL N i).size<=1048576:=by
 rcases h with⟨_,h⟩|⟨_,h⟩
 ·cases h
 ·rcases h with⟨h1,h2⟩|⟨h1,_,h2⟩|⟨h1,_,h2⟩
  ·exact absurd h2.symm h1
  ·cases h2
  ·intro i hi
   rcases h2 with⟨h2,_⟩|⟨h2,_⟩|⟨h2,_⟩|⟨_,hA,_⟩
   ·cases h2
   ·cases h2
   ·cases h2
   ·have :=hA i hi
    unfold TR.sj at this
    simp only[Bool.and_eq_true,decide_eq_true_eq]at this
    omega
theorem xx(d:Int)(fo:Bool)(v:Value)(l:List Int)(w:World)(hTab:TR.ja w)(hT:Fo.ja w)(hpos:3<w.heap.size)(h:bL w v l):Calls prog 8 #[.int .i64 d,v,.bool fo] w fun e w'=>e=.returned (.bool true)/\Below w.heap.size w w':=by
 have HS:Hid (∀(W:World) (n:NV) (t:Tr) (g:Int) (na:Option Addr) (nl nc:Nat) (N:TR.dv),Below w.heap.size w W->bb W n t->cD W (.slice na nl nc) N->(∀i,i<N.length->(TR.nL N i).size<=1048576)->Calls prog 17 #[TR.pb n g na nl nc] W fun e w'=>TR.AA t g N W e w'):=fun W n t g na nl nc N hW hn hN hz=>TR.F8 n t g na nl nc N W hn (hTab.ax hW) hN hz
 have HBg:=I (fun W (hW:Below w.heap.size w W)=>sr W (hT.below hW hpos) (Nat.lt_of_lt_of_le hpos hW.size))
 have HX:Hid (∀d1 fo1 w1 v1 l1,Below w.heap.size w w1->bL w1 v1 l1->_):=fun d1 fo1 w1 v1 l1 hb hv=>C3 d1 fo1 hv (hT.below hb hpos) (Nat.lt_of_lt_of_le hpos hb.size)
 have HSB:=I (TR.sx w)
 obtain⟨ao,ac,hv⟩:=h.shape
 obtain⟨ll,hll⟩:=J l.length
 rw[<- hll]at hv
 rw[hv]at h |-
 have HPv:=I h
 simp only[TR.pb]at HS
 clear h hTab hT hpos hll hv
 go_enter func8,ntmps8
 go_wp2_with fail
 refine HSB.o.mono ?_
 rintro e w1 ⟨rfl,hb1⟩
 have HB1:=I hb1
 clear hb1 HSB
 go_wp2_with fail
 refine(HBg.o w1 HB1.o).mono ?_
 rintro e w2 ⟨rfl,hb2⟩
 have HB2:=I (HB1.o.aq hb2)
 have HX2:=I (HX.o d fo w2 _ l HB2.o (HPv.o.below HB2.o))
 clear hb2 HBg HB1 HPv
 go_wp2_with fail
 refine HX2.o.mono ?_
 rintro e w3 ⟨n,gr,xo,xl,xc,z,p,rfl,hn,hg,hz,hp,hb3⟩
 have HB3:=I (HB2.o.aq hb3)
 have HS3:=I hb3.size
 obtain⟨b3,hb3e⟩:=J w3.heap.size
 have HE3:=I hb3e
 obtain⟨w4,hw4⟩:=J ((w3.alloc (fX n gr (.slice xo xl xc))).alloc (br z p))
 have hb4:Below w3.heap.size w3 w4:=by rw[hw4];exact(an w3 _).alloc (by simp) _
 have HP4:Hid (w4.heap[b3]? =some (fX n gr (.slice xo xl xc))):=by show _=_;rw[hw4,hb3e];exact TK.bj (TK.aj _ _)
 have HF4:Hid (w4.heap[b3+1]? =some (br z p)):=by show _=_;rw[hw4,hb3e];exact TK.bB _ _ (by simp)
 have HB4:=I (HB3.o.aq hb4)
 have HN4:Hid (∀W:World,Below w4.heap.size w4 W->bb W n (zX (iW dX d fo l)).1/\cD W (.slice xo xl xc) (zX (iW dX d fo l)).2.2):=fun W hW=>hn W (fun k _ h=>by rw[hW.block k (Nat.lt_of_lt_of_le h hb4.size),hb4.block k h])
 have HN5:Hid (∀W:World,(∀k,k<b3->W.heap[k]? =w4.heap[k]?)->bb W n (zX (iW dX d fo l)).1/\cD W (.slice xo xl xc) (zX (iW dX d fo l)).2.2):=fun W hW=>hn W (fun k _ h=>by rw[hW k (by omega),hb4.block k h])
 simp only[fX,br]at hw4
 simp only[xE]
 have HG0:=I hg
 have HZ0:=I hz
 clear hn hb3 hb4 HX2 hp hg hz
 go_upto_region 4 with fail
 rw[<- hw4, <-hb3e]
 clear hw4 hb3e
 obtain⟨f0,f1,f2⟩:=bg HF4.o
 by_cases hz0:z=0
 ·cases hR:iW dX d fo l with
  |error e=>have hz:=HZ0.o;rw[hR]at hz;exact absurd (hz.symm.trans hz0) (J1 (z:=e.1) (a:=e.2) hR).1
  |ok q=>
   have hg:=HG0.o
   rw[hR]at hg HN4 HN5
   clear HG0 HZ0
   subst hz0
   have HE:Hid (jo q.tree gr q.names 0):=by show jo _ _ _ _;rw[hg];exact J2 hR
   have HNz:=I (E7 HE.o)
   have HS4:=I (HS.o w4 n q.tree gr xo xl xc q.names HB4.o (HN4.o w4 (aI _ _)).1 (HN4.o w4 (aI _ _)).2 HNz.o)
   obtain⟨d0,d1,d2,d3,d4,d5,d6,d7,d8,d9⟩:=cU HP4.o
   have HG:=I hg
   clear hg hR
   go_wp2_with fail
   refine HS4.o.mono ?_
   rintro e w5 ⟨z5,hz5,rfl,hb5⟩
   obtain rfl:z5=0:=hz5.one HE.o
   have HB5:=I (HB4.o.aq hb5)
   have HK5:=I hb5
   obtain⟨R,hR⟩:=J (TR.Lt q.names q.tree 0)
   have hR2:R=⟨(kj q.names q.tree).toArray⟩:=hR
   have HPt:=I (pc R (by rw[hR2];show(⟨(kj q.names q.tree).toArray⟩:ByteArray).size<=_;rw[show (⟨(kj q.names q.tree).toArray⟩:ByteArray).size=(kj q.names q.tree).length from List.size_toArray];exact HE.o.short HNz.o) w5)
   rw[hR2,J3]at HPt
   rw[<- hR2]at HPt
   rw[<- hR]
   have HRe:=I hR
   clear hR hR2 hz5 hb5 HS4 d0 d1 d2 d3 d4 d5 d6 d7 d8 d9 f0 f1 f2
   go_wp2_with fail
   refine HPt.o.mono ?_
   rintro e w6 ⟨u,rfl,hu,hb6⟩
   have HB6:=I (HB5.o.aq hb6)
   have HK6:=I (HK5.o.aq hb6)
   have HX6:=I (HX.o 1 false w6 u (sh q.names q.tree) HB6.o (xq hu))
   obtain⟨uo,uc,hue⟩:=aG hu
   obtain⟨ul,hul⟩:=J ((pt (kj q.names q.tree)).length)
   rw[<- hul]at hue
   subst hue
   clear hu hb6 HPt HX hul HB5 HK5
   go_wp2_with fail
   refine HX6.o.mono ?_
   rintro e w7 ⟨n2,gr2,yo,yl,yc,z2,p2,rfl,hn2,hg2,hz2,hp2,hb7⟩
   have hback:=Dp HE.o
   have HB7:=I (HB6.o.aq hb7)
   have HK7:=I (HK6.o.aq hb7)
   have hs4:b3+1<w4.heap.size:=TR.lt_of_block HF4.o
   have hs7:=HK7.o.size
   have HF7:Hid (w7.heap[b3+1]? =some (br 0 p)):=by show _=_;rw[HK7.o.block _ hs4];exact HF4.o
   obtain⟨w8,hw8⟩:=J (((w7.setCell ⟨b3+1,0,none⟩ (.int .i64 z2)).setCell ⟨b3+1,1,none⟩ (.int .i64 p2)).alloc (fX n2 gr2 (.slice yo yl yc)))
   have hz8:((w7.setCell ⟨b3+1,0,none⟩ (.int .i64 z2)).setCell ⟨b3+1,1,none⟩ (.int .i64 p2)).heap.size=w7.heap.size:=by simp[World.setCell]
   have hk8:∀k,k≠b3+1->k<w7.heap.size->w8.heap[k]? =w7.heap[k]? :=fun k h1 h2=>by rw[hw8,Below.heap_alloc _ _ _ (by rw[hz8];exact h2),Below.heap_setCell _ _ _ _ h1,Below.heap_setCell _ _ _ _ h1]
   have hbw:w.heap.size<=b3+1:=by have h1:=HB3.o.size;have h2:=HE3.o;omega
   have HB8:Hid (Below w.heap.size w w8):=by show Below _ _ _;rw[hw8];exact((HB7.o.setCell hbw _).setCell hbw _).alloc (by rw[hz8];exact HB7.o.size) _
   have HQ8:Hid (w8.heap[w7.heap.size]? =some (fX n2 gr2 (.slice yo yl yc))):=by show _=_;rw[hw8];exact TK.bB _ _ hz8.symm
   have HP8:Hid (w8.heap[b3]? =some (fX n gr (.slice xo xl xc))):=by show _=_;rw[hk8 b3 (by omega) (by omega),HK7.o.block _ (by omega)];exact HP4.o
   have HN8:=I (HN5.o w8 (fun k hk=>by rw[hk8 k (by omega) (by omega),HK7.o.block _ (by omega)]))
   have HM8:=I (hn2 w8 (fun k h1 h2=>hk8 k (by have:=HK6.o.size;omega) h2))
   have HF8:Hid (w8.heap[b3+1]? =some (br z2 p2)):=by
    show _=_
    rw[hw8,Below.heap_alloc _ _ _ (by rw[hz8];omega)]
    have e1:=HF7.o
    simp only[World.setCell,Array.getElem?_modify,e1]
    simp[br]
   obtain⟨g0,g1,g2⟩:=bg HF7.o
   simp only[fX]at hw8
   simp only[xE]
   have hg4:b3+1<w7.heap.size:=by omega
   have HSm:Hid (∀(W:World),Below w8.heap.size w8 W->bb w8 n2 q.tree->cD w8 (.slice yo yl yc) q.names->_):=fun W hW h1 h2=>rH n n2 q.tree gr (.slice xo xl xc) (.slice yo yl yc) q.names W (C8 HE.o) (HN8.o.1.ax hW) (h1.ax hW) (HN8.o.2.below hW) (h2.below hW)
   simp only[xE]at HSm
   have HZ2:=I hz2
   have HG2:=I hg2
   clear hz2 hg2 hp2 hn2 hb7 HX6 HN4 HN5 hk8 HN8
   rcases hback with⟨q2,hR2,h1,h2,h3⟩|⟨a,hR2⟩
   ·have hz2:=HZ2.o
    have hg2:=HG2.o
    rw[hR2]at hz2 hg2
    obtain rfl:z2=0:=hz2
    have hge:gr=gr2:=(hg2.trans h2).symm
    have HM:=HM8.o
    rw[hR2]at HM
    have hm1:bb w8 n2 q.tree:=by rw[<- h1];exact HM.1
    have hm2:cD w8 (.slice yo yl yc) q.names:=by rw[<- h3];exact HM.2
    subst hge
    have HS9:=I (HS.o w8 n2 q.tree gr yo yl yc q.names HB8.o hm1 hm2 HNz.o)
    have HSn:=I (fun W hW=>HSm.o W hW hm1 hm2)
    clear hg2 h1 h2 h3 hR2 HM hm1 hm2 HM8 HZ2 HG2 HSm HS
    go_upto_region 10 with fail
    rw[<- hw8]
    clear hw8 g0 g1 g2
    obtain⟨f0,f1,f2⟩:=bg HF8.o
    obtain⟨d0,d1,d2,d3,d4,d5,d6,d7,d8,d9⟩:=cU HQ8.o
    go_wp2_with fail
    refine HS9.o.mono ?_
    rintro e w9 ⟨z9,hz9,rfl,hb9⟩
    obtain rfl:z9=0:=hz9.one HE.o
    rw[<- HRe.o]
    have HB9:=I (HB8.o.aq hb9)
    have HP9:Hid (w9.heap[b3]? =some (fX n gr (.slice xo xl xc))):=by show _=_;rw[hb9.block _ (TR.lt_of_block HP8.o)];exact HP8.o
    have HQ9:Hid (w9.heap[w7.heap.size]? =some (fX n2 gr (.slice yo yl yc))):=by show _=_;rw[hb9.block _ (TR.lt_of_block HQ8.o)];exact HQ8.o
    have HSo:=I (HSn.o w9 hb9)
    clear hz9 hb9 HS9 HSn d0 d1 d2 d3 d4 d5 d6 d7 d8 d9 f0 f1 f2
    obtain⟨a0,a1,a2,a3,a4,a5,a6,a7,a8,a9⟩:=cU HP9.o
    obtain⟨b0,b1,b2,b3',b4,b5,b6,b7,b8,b9⟩:=cU HQ9.o
    have q9:(R.toList==R.toList)=true:=by simp
    go_wp2_with fail
    refine HSo.o.mono ?_
    rintro e w10 ⟨rfl,hb10⟩
    have HB10:=I (HB9.o.aq hb10)
    clear hb10 HSo
    go_wp2
    go_ret
    exact⟨rfl,HB10.o⟩
   ·have hz2:=HZ2.o
    rw[hR2]at hz2
    obtain rfl:z2=2:=hz2
    clear hR2 HM8 HZ2 HG2 HSm HS
    go_upto_region 10 with fail
    rw[<- hw8]
    clear hw8 g0 g1 g2
    obtain⟨f0,f1,f2⟩:=bg HF8.o
    go_wp2
    go_ret
    exact⟨rfl,HB8.o⟩
 ·have q1:(z==0)=false:=by simpa using hz0
  have q2:(z !=0)=true:=by simpa using hz0
  go_wp2
  go_ret
  exact⟨rfl,HB4.o⟩
end Go.Proofs.YtklbbbldalmnbaaGreatDoor.Pa
