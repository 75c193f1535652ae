import Derived.Test.YtklbbbldalmnbaaGreatDoorMQ
import Derived.Test.YtklbbbldalmnbaaGreatDoorMY
import Derived.Test.YtklbbbldalmnbaaGreatDoorMB
import Derived.Test.YtklbbbldalmnbaaGreatDoorKE
import Derived.StillTailTactics
import Derived.Deep.Cut
import Derived.Deep.RegionLaw
import Derived.Test.YtklbbbldalmnbaaGreatDoorMP
import Derived.Test.YtklbbbldalmnbaaGreatDoorRI
import Derived.Test.YtklbbbldalmnbaaGreatDoorRF
import Derived.Test.YtklbbbldalmnbaaGreatDoorRD
set_option linter.unusedVariables false
set_option maxRecDepth 100000
set_option maxHeartbeats 8000000
open Go.Proofs.Tryz
namespace Go.Proofs.YtklbbbldalmnbaaGreatDoor.Pa
open Go.RowKit
open TR (Tr NV aL cz aG aV bS)
open TK (Mv bJ)
open Br (BE PS aw bm bh)
def Ht:Tr:=.mk 0 0 0 0 0 false [] []
theorem BC(w:World):aV w aJ Ht:=.mk aJ [] [] (fun _=>aJ) (.inl ⟨rfl,rfl⟩) (.inl ⟨rfl,rfl,rfl,rfl⟩) (fun j hj=>by cases hj)
def I2(R:Except BE Pt):Tr×Nat×List Nm:=match R with
 | .ok p=>(p.tree,p.aF,p.names)
 | .error _=>(Ht,0,[])
def JJ(R:Except BE Pt):Int×Int:=match R with
 | .ok _=>(0,0)
 | .error e=>e
theorem AI(d:Int)(fo:Bool){v:Value}{l:List Int}{w:World}(h:bJ w v l)(hT:Fo.iP w)(hpos:3<w.heap.size):Calls prog 11 #[.int .i64 d,v,.bool fo] w fun e w'=>∃(n:NV) (gr:Int) (uo:Option Addr) (ul uc:Nat) (z a:Int),e=.returned (.tuple #[xF n gr (.slice uo ul uc),.agg #[.int .i64 z,.int .i64 a]])/\
  (∀w'':World,(∀k,w.heap.size<=k->k<w'.heap.size->w''.heap[k]? =w'.heap[k]?)->aV w'' n (I2 (mN eo d fo l)).1/\bW w'' (.slice uo ul uc) (I2 (mN eo d fo l)).2.2)/\gr=((I2 (mN eo d fo l)).2.1:Nat)/\z=(JJ (mN eo d fo l)).1/\a=(JJ (mN eo d fo l)).2/\Below w.heap.size w w':=by
 refine(wi (d:=d) fo h hT hpos).mono ?_
 rintro e w' (⟨p,n,u,hR,rfl,hnc,hb⟩|⟨z,a,hR,rfl,hb⟩)
 ·obtain ⟨uo,uc,hu⟩:=(hnc w' (fun _ _ _=>rfl)).2.shape
  rw[hR]
  subst hu
  exact⟨n,_,uo,_,uc,0,0,rfl,hnc,rfl,rfl,rfl,hb⟩
 ·rw [hR]
  exact⟨aJ,0,none,0,0,z,a,rfl,fun w'' _=>⟨BC w'',.inl ⟨rfl,rfl⟩⟩,rfl,rfl,rfl,hb⟩
end Go.Proofs.YtklbbbldalmnbaaGreatDoor.Pa
namespace Go.Proofs.YtklbbbldalmnbaaGreatDoor.Pa
open Go.RowKit
open TR (Tr NV aL cz aG aV bS ak)
theorem sn{w wr:World}{q:Nat}(h:wr=w.drewN q)(n:Nat):∃m,wr.drewN n=w.drewN m:=⟨q+n,by subst h;simp[World.drewN,Nat.add_assoc]⟩
theorem kM(w:World)(q:Nat):Below w.heap.size w (w.drewN q):=⟨rfl,rfl,rfl,U _,fun _ _=>rfl⟩
theorem xX(va vb:Value)(A:RL)(w:World)(hA:Reads w va A)(hB:Reads w vb A)(lA:A.length<=2000000):
  Calls prog 22 #[va,vb] w fun e w'=>e=.returned (.bool true)/\∃q,w'=w.drewN q:=by
 rcases hA with⟨rfl,rfl⟩|⟨x,c,rfl,hc⟩
 ·obtain ⟨bo,cb,rfl⟩:=hB.shape
  clear hB
  go_enter func22,ntmps22
  go_wp2
  go_loop [5] (fun i=>i=.int .i64 0) (fun i=>0)
  case atStart=>exact rfl
  case round=>
   subst hrel
   go_wp2
   go_ret
   exact⟨rfl,0,rfl⟩
 ·obtain ⟨bo,cb,rfl⟩:=hB.shape
  have HB:=I hB
  have HC:=I hc
  obtain⟨n,hn⟩:∃n,n=A.length:=⟨_,rfl⟩
  have HN:=I hn
  rw[<- hn]at HB lA |-
  clear hc hB hn
  go_enter func22,ntmps22
  go_wp2
  go_loopw [5] (fun i wr=>∃k q:Nat,k<=n/\i=.int .i64 k/\wr=w.drewN q) (fun i _=>n - (intOf i).toNat)
  case atStart=>exact⟨0,0,Nat.zero_le _,rfl,rfl⟩
  case round=>
   obtain⟨k,q,hk,rfl,hw⟩:=hrel
   have HW:=I hw
   by_cases hlt:k<n
   ·have hkA:k<A.length:=by have:=HN.o;omega
    obtain⟨y,cy,hy,hcB⟩:=HB.o.some (by omega)
    obtain⟨rfl,_⟩:bo=some y/\True:=by cases hy;exact⟨rfl,trivial⟩
    have hcw:iZ wr x A:=by rw[hw];exact HC.o
    have hcy:iZ wr y A:=by rw[hw];exact hcB
    obtain⟨c1,c2⟩:=hcw k hkA
    obtain⟨d1,d2⟩:=hcy k hkA
    obtain⟨r,hr⟩:∃r,r=A[k]:=⟨_,rfl⟩
    rw[<- hr]at c1 c2 d1 d2
    clear hr
    obtain⟨a,b⟩:=r
    simp only at c1 c2 d1 d2
    clear hcw hcy hcB hy hw
    go_wp2
    go_quiet (fail)
    go_wp2
    go_roundw
    case rel=>obtain⟨q2,hq2⟩:=sn HW.o nq;exact⟨k+1,q2,by omega,by go_num,hq2⟩
    case measure=>simp[intOf];omega
   ·clear hw
    go_wp2
    go_ret
    exact⟨rfl,_,HW.o⟩
theorem E8:∀(ts:List Tr) (j:Nat) (hj:j<ts.length),fL ts[j]<=fj ts
 |t::ts,0,_=>by simp[fj]
 |t::ts,j+1,hj=>by have:=E8 ts j (by simpa using hj);simp only[fj,List.getElem_cons_succ];omega
theorem vW:∀(k:Nat) (t:Tr) (a b:NV) (w:World),fL t<=k->Sm t->aV w a t->aV w b t->Calls prog 13 #[cz a,cz b] w fun e w'=>e=.returned (.bool true)/\Below w.heap.size w w':=by
 intro k
 induction k with
 |zero=>intro t a b w hk;rw[eD]at hk;omega
 |succ k ih=>
  intro t a b w hk hs ha hb
  obtain⟨a1,a2,a3,a4,a5,a6,a7,va,a8,a9⟩:=ha.open
  obtain⟨b1,b2,b3,b4,b5,b6,b7,vb,b8,b9⟩:=hb.open
  rw[eD]at hk
  have HK:Hid (∀j (hj:j<t.kids.length),fL t.kids[j]<=k):=fun j hj=>by have:=E8 t.kids j hj;omega
  have hlen:=hs.kids.1
  have HSm:Hid (∀j (hj:j<t.kids.length),Sm t.kids[j]):=fun j hj=>hs.kids.2 _ (List.getElem_mem hj)
  obtain⟨ks,hks⟩:∃ks,ks=t.kids:=⟨_,rfl⟩
  rw[<- hks]at a8 b8
  have HKd:Hid ((∀j (hj:j<ks.length),aV w (va j) ks[j])/\(∀j (hj:j<ks.length),aV w (vb j) ks[j])/\(∀j (hj:j<ks.length),Sm ks[j])/\∀j (hj:j<ks.length),fL ks[j]<=k):=by subst hks;exact⟨a9,b9,HSm.o,HK.o⟩
  have hal:=a8.len
  have hbl:=b8.len
  obtain⟨k1,ao,al,ac,ka,kl,kc,n1,l1,m1,w1',f1⟩:=a
  obtain⟨k2,bo,bl,bc,kb,kl2,kc2,n2,l2,m2,w2',f2⟩:=b
  simp only at a1 a2 a3 a4 a5 a6 a7 a8 b1 b2 b3 b4 b5 b6 b7 b8 hal hbl
  obtain rfl:k2=k1:=b1.symm.trans a1
  obtain rfl:n2=n1:=b2.symm.trans a2
  obtain rfl:l2=l1:=b3.symm.trans a3
  obtain rfl:m2=m1:=b4.symm.trans a4
  obtain rfl:w2'=w1':=b5.symm.trans a5
  obtain rfl:f2=f1:=b6.symm.trans a6
  obtain rfl:kl2=kl:=hbl.trans hal.symm
  have HA8:=I a8
  have HB8:=I b8
  have HAl:=I hal
  obtain⟨A,hA⟩:∃A:NV,A=⟨k2,ao,al,ac,ka,kl2,kc,n2,l2,m2,w2',f2⟩:=⟨_,rfl⟩
  obtain⟨B,hB⟩:∃B:NV,B=⟨k2,bo,bl,bc,kb,kl2,kc2,n2,l2,m2,w2',f2⟩:=⟨_,rfl⟩
  obtain⟨w1,hw1⟩:∃w1,w1=(w.alloc (aG A)).alloc (aG B):=⟨_,rfl⟩
  have hb1:Below w.heap.size w w1:=by rw[hw1];exact((J _ w).alloc (U _) _).alloc (by simp) _
  have hM:w1.heap[w.heap.size]? =some (aG A):=by rw[hw1];exact TK.ba (TK.aj _ _)
  have hN:w1.heap[w.heap.size+1]? =some (aG B):=by rw[hw1];exact TK.bp _ _ (by simp)
  have HS:=I (xX _ _ _ w1 (a7.below hb1) (b7.below hb1) hlen)
  have HM:=I hM
  have HN:=I hN
  have HB:=I hb1
  obtain⟨d0,d1,d2,d3,d4,d5,d6,d7⟩:=ak hM
  obtain⟨e0,e1,e2,e3,e4,e5,e6,e7⟩:=ak hN
  simp only[aG]at hw1
  have HIH:=I ih
  have hlenk:Hid (ks.length<=9223372036854775807):=by
   rcases HA8.o with⟨_,_,_,h0⟩|⟨x,_,_,h0,_⟩
   ·show _<=_;omega
   ·show _<=_;omega
  have HAe:=I hA
  have HBe:=I hB
  rw[hA]at d0 d1 d2 d3 d4 d5 d6 d7 hw1
  rw[hB]at e0 e1 e2 e3 e4 e5 e6 e7 hw1
  simp only at d0 d1 d2 d3 d4 d5 d6 d7 e0 e1 e2 e3 e4 e5 e6 e7 hw1
  simp only[cz]
  clear ha hb a1 a2 a3 a4 a5 a6 a7 a8 a9 b1 b2 b3 b4 b5 b6 b7 b8 b9 hk hs hlen hks hal hbl hb1 hM hN ih HSm HK hA hB
  go_enter func13,ntmps13
  go_wp2_with fail
  rw[<- hw1]
  clear hw1
  go_wp2_with fail
  refine HS.o.mono ?_
  rintro e w2 ⟨rfl,q,hw2⟩
  have hM2:w2.heap[w.heap.size]? =some (aG A):=by rw[hw2];exact HM.o
  have hN2:w2.heap[w.heap.size+1]? =some (aG B):=by rw[hw2];exact HN.o
  have HB2:Hid (Below w.heap.size w w2):=by show Below _ _ _;rw[hw2];exact HB.o.trans ((kM w1 q).mono HB.o.size)
  have HM2:=I hM2
  have HN2:=I hN2
  clear d0 d1 d2 d3 d4 d5 d6 d7 e0 e1 e2 e3 e4 e5 e6 e7 hw2 HM HN HB HS
  obtain⟨d0,d1,d2,d3,d4,d5,d6,d7⟩:=ak hM2
  obtain⟨e0,e1,e2,e3,e4,e5,e6,e7⟩:=ak hN2
  rw[HAe.o]at d0 d1 d2 d3 d4 d5 d6 d7
  rw[HBe.o]at e0 e1 e2 e3 e4 e5 e6 e7
  simp only at d0 d1 d2 d3 d4 d5 d6 d7 e0 e1 e2 e3 e4 e5 e6 e7
  clear hM2 hN2
  go_wp2
  clear d0 d1 d2 d3 d4 d5 d6 d7 e0 e1 e2 e3 e4 e5 e6 e7
  go_loopw [5] (fun i wr=>∃j:Nat,j<=kl2/\i=.int .i64 j/\wr.heap[w.heap.size]? =some (aG A)/\wr.heap[w.heap.size+1]? =some (aG B)/\Below w.heap.size w wr) (fun i _=>kl2 - (intOf i).toNat)
  case atStart=>exact⟨0,Nat.zero_le _,rfl,HM2.o,HN2.o,HB2.o⟩
  case round=>
   obtain⟨j,hj,rfl,hm,hn,hb⟩:=hrel
   have HMr:=I hm
   have HNr:=I hn
   have HBr:=I hb
   obtain⟨w3,hw3⟩:∃w3,w3=wr:=⟨_,rfl⟩
   subst hw3
   have d2:=(ak hm).c2
   have e2:=(ak hn).c2
   rw[HAe.o]at d2
   rw[HBe.o]at e2
   simp only at d2 e2
   clear hm hn hb HM2 HN2 HB2
   by_cases hlt:j<kl2
   ·have hjk:j<ks.length:=by have:=HAl.o;omega
    have e3:(j:Int)<(kl2:Int):=by omega
    have e4:(0:Int)<=(j:Int):=by omega
    obtain⟨x,hx,hcx⟩:∃x,ka=some x/\aL w3 (x.add (j*8)) (va j):=by
     rcases HA8.o with⟨_,_,_,h0⟩|⟨x,hx,_,_,hcl⟩
     ·omega
     ·exact⟨x,hx,(hcl j hjk).below HBr.o⟩
    obtain⟨y,hy,hcy⟩:∃y,kb=some y/\aL w3 (y.add (j*8)) (vb j):=by
     rcases HB8.o with⟨_,_,_,h0⟩|⟨y,hy,_,_,hcl⟩
     ·omega
     ·exact⟨y,hy,(hcl j hjk).below HBr.o⟩
    have HC:Hid (∀W,Below w3.heap.size w3 W->Calls prog 13 #[cz (va j),cz (vb j)] W fun e w'=>e=.returned (.bool true)/\Below W.heap.size W w'):=fun W hW=>HIH.o ks[j] _ _ W (HKd.o.2.2.2 j hjk) (HKd.o.2.2.1 j hjk) (((HKd.o.1 j hjk).ar HBr.o).ar hW) (((HKd.o.2.1 j hjk).ar HBr.o).ar hW)
    obtain⟨c0,c1,c2,c3,c4,c5,c6,c7⟩:=hcx
    obtain⟨g0,g1,g2,g3,g4,g5,g6,g7⟩:=hcy
    have hjm:(j:Int)+1<=9223372036854775807:=by have:=hlenk.o;omega
    rw[hx]at d2
    rw[hy]at e2
    clear hx hy
    simp only[cz]at HC
    have HDr:Hid (Below w3.heap.size w3 w3.drew):=⟨rfl,rfl,rfl,U _,fun _ _=>rfl⟩
    go_upto_region 10 with fail
    go_still_tail 10,(by kernel_rfl)
    go_wp2_with fail
    refine(HC.o _ HDr.o).mono ?_
    rintro e w4 ⟨rfl,hb4⟩
    have hb5:Below w3.heap.size w3 w4:=HDr.o.trans (hb4.mono HDr.o.size)
    have HM4:Hid (w4.heap[w.heap.size]? =some (aG A)):=by show _=_;rw[hb5.block _ (TR.lt_of_block HMr.o)];exact HMr.o
    have HN4:Hid (w4.heap[w.heap.size+1]? =some (aG B)):=by show _=_;rw[hb5.block _ (TR.lt_of_block HNr.o)];exact HNr.o
    have HB4:=I (HBr.o.trans (hb5.mono HBr.o.size))
    clear hb4 hb5 HC c0 c1 c2 c3 c4 c5 c6 c7 g0 g1 g2 g3 g4 g5 g6 g7 d2 e2 HDr
    go_wp2
    go_roundw
    case rel=>exact⟨j+1,by omega,by go_num,HM4.o,HN4.o,HB4.o⟩
    case measure=>simp[intOf];omega
   ·have e2:¬(j:Int)<(kl2:Int):=by omega
    go_wp2
    go_ret
    exact⟨rfl,HBr.o⟩
theorem pY(a b:NV)(t:Tr)(gr:Int)(u v:Value)(N:de)(w:World)(hs:Sm t)(ha:aV w a t)(hb:aV w b t)(hu:bW w u N)(hv:bW w v N):Calls prog 14 #[xF a gr u,xF b gr v] w fun e w'=>e=.returned (.bool true)/\Below w.heap.size w w':=by
 obtain⟨ao,ac,eu⟩:=hu.shape
 obtain⟨bo,bc,ev⟩:=hv.shape
 obtain⟨m,hm⟩:∃m,m=N.length:=⟨_,rfl⟩
 rw[<- hm]at eu ev
 have HMe:=I hm
 obtain⟨w1,hw1⟩:∃w1,w1=(w.alloc (fh a gr u)).alloc (fh b gr v):=⟨_,rfl⟩
 have hb1:Below w.heap.size w w1:=by rw[hw1];exact((J _ w).alloc (U _) _).alloc (by simp) _
 have hM:w1.heap[w.heap.size]? =some (fh a gr u):=by rw[hw1];exact TK.ba (TK.aj _ _)
 have hN:w1.heap[w.heap.size+1]? =some (fh b gr v):=by rw[hw1];exact TK.bp _ _ (by simp)
 have HM:=I hM
 have HN:=I hN
 obtain⟨d0,d1,d2,d3,d4,d5,d6,d7,d8,d9⟩:=cO hM
 obtain⟨e0,e1,e2,e3,e4,e5,e6,e7,e8,e9⟩:=cO hN
 have HB:=I hb1
 have HS:=I (vW _ t a b w1 (U _) hs (ha.ar hb1) (hb.ar hb1))
 have HU:=I hu
 have HV:=I hv
 have hmx:Hid (m<=9223372036854775807):=by
  rcases hu with⟨_,h0⟩|⟨x,c,_,h0,_⟩
  ·subst h0;show m<=_;rw[hm];simp
  ·show m<=_;omega
 simp only[fh]at hw1
 simp only[xF,cz]at HS |-
 rw[eu,ev]at hw1 |-
 rw[eu]at d9 HM HU
 rw[ev]at e9 HN HV
 clear hb1 hM hN hu hv ha hb hs eu ev hm
 go_enter func14,ntmps14
 go_wp2_with fail
 rw[<- hw1]
 clear hw1
 go_wp2_with fail
 refine HS.o.mono ?_
 rintro e w2 ⟨rfl,hb2⟩
 have HM2:Hid (w2.heap[w.heap.size]? =some (fh a gr (.slice ao m ac))):=by show _=_;rw[hb2.block _ (TR.lt_of_block HM.o)];exact HM.o
 have HN2:Hid (w2.heap[w.heap.size+1]? =some (fh b gr (.slice bo m bc))):=by show _=_;rw[hb2.block _ (TR.lt_of_block HN.o)];exact HN.o
 clear d0 d1 d2 d3 d4 d5 d6 d7 d8 d9 e0 e1 e2 e3 e4 e5 e6 e7 e8 e9
 obtain⟨-, -, -, -, -, -, -, -,d8,d9⟩:=cO HM2.o
 obtain⟨-, -, -, -, -, -, -, -,e8,e9⟩:=cO HN2.o
 have HB2:=I (HB.o.trans (hb2.mono HB.o.size))
 clear hb2 HB HM HN HS
 go_wp2
 go_loopw [5] (fun i wr=>∃j q:Nat,j<=m/\i=.int .i64 j/\wr=w2.drewN q) (fun i _=>m - (intOf i).toNat)
 case atStart=>exact⟨0,0,Nat.zero_le _,rfl,rfl⟩
 case round=>
  obtain⟨j,q,hj,rfl,hw⟩:=hrel
  have HW:=I hw
  have d9:wr.cell? ⟨w.heap.size,9,none⟩=some (.slice ao m ac):=by rw[hw];exact d9
  have e9:wr.cell? ⟨w.heap.size+1,9,none⟩=some (.slice bo m bc):=by rw[hw];exact e9
  by_cases hlt:j<m
  ·have hjN:j<N.length:=by have:=HMe.o;omega
   have hmi:(j:Int)+1<=9223372036854775807:=by have:=hmx.o;omega
   have hbw:Below w.heap.size w wr:=by rw[hw];exact HB2.o.trans ((kM w2 q).mono HB2.o.size)
   obtain⟨x,hx,c1,c2⟩:∃x,ao=some x/\wr.cell? (x.add (j*2))=some (.string N[j].1)/\wr.cell? ⟨(x.add (j*2)).block,(x.add (j*2)).off+1,none⟩=some (.int .i64 N[j].2):=by
    rcases HU.o.below hbw with⟨_,h0⟩|⟨x,c,h1,_,h3⟩
    ·subst h0;cases hjN
    ·cases h1;exact⟨x,rfl,h3 j hjN⟩
   obtain⟨y,hy,f1,f2⟩:∃y,bo=some y/\wr.cell? (y.add (j*2))=some (.string N[j].1)/\wr.cell? ⟨(y.add (j*2)).block,(y.add (j*2)).off+1,none⟩=some (.int .i64 N[j].2):=by
    rcases HV.o.below hbw with⟨_,h0⟩|⟨x,c,h1,_,h3⟩
    ·subst h0;cases hjN
    ·cases h1;exact⟨x,rfl,h3 j hjN⟩
   obtain⟨r,hr⟩:∃r,r=N[j]:=⟨_,rfl⟩
   rw[<- hr]at c1 c2 f1 f2
   clear hr
   obtain⟨s,z⟩:=r
   rw[hx]at d9
   rw[hy]at e9
   simp only at c1 c2 f1 f2
   clear hx hy hbw hw
   go_wp2
   go_quiet (fail)
   go_wp2
   go_roundw
   case rel=>obtain⟨q2,hq2⟩:=sn HW.o nq;exact⟨j+1,q2,by omega,by go_num,hq2⟩
   case measure=>simp[intOf];omega
  ·clear hw
   go_wp2
   go_ret
   exact⟨rfl,by rw[HW.o];exact HB2.o.trans ((kM w2 q).mono HB2.o.size)⟩
end Go.Proofs.YtklbbbldalmnbaaGreatDoor.Pa
namespace Go.Proofs.YtklbbbldalmnbaaGreatDoor.Pa
open Go.RowKit
open TR (Tr NV aL cz aG aV bS oT jX cP)
open TK (Mv bJ pt)
open Br (BE PS aw bm bh)
mutual
theorem DL:∀(t:Tr) (c c':Int×List Int),cP t c=.ok c'->Sm t
 | .mk k a b d e f S ks,c,c',h=>by
  obtain⟨c1,hn,hk⟩:=dN h
  refine .mk _ _ _ _ _ _ _ _ ?_ (Au ks c1 c' hk)
  have:=hn.set
  simp only[TR.Tr.set]at this
  omega
theorem Au:∀(ts:List Tr) (c c':Int×List Int),TR.cG ts c=.ok c'->∀t∈ts,Sm t
 |[],c,c',h,t,ht=>by cases ht
 |u::ts,c,c',h,t,ht=>by
  obtain⟨c1,h1,h2⟩:=eC h
  rcases List.mem_cons.1 ht with he|ht
  ·rw[he];exact DL u c c1 h1
  ·exact Au ts c1 c' h2 t ht
end
theorem Bb{t:Tr}{g:Int}{N:TR.de}(h:oT t g N 0):Sm t:=by
 rcases h with⟨_,h⟩|⟨_,h⟩
 ·cases h
 ·have hT:TR.dD t g=0:=by
   rcases h with⟨h1,h2⟩|⟨h1,_⟩|⟨h1,_⟩
   ·exact h2.symm
   ·exact h1
   ·exact h1
  unfold TR.dD at hT
  cases hc:cP t (0,[])with
  |error z=>rw[hc]at hT;exact absurd hT (TR.jk t _ z hc)
  |ok c'=>exact DL t _ c' hc
theorem namesSz{t:Tr}{g:Int}{N:TR.de}(h:oT t g N 0):∀i,i<N.length->(TR.lR N i).size<=1048576:=by
 rcases h with⟨_,h⟩|⟨_,h⟩
 ·cases h
 ·rcases h with⟨h1,h2⟩|⟨h1,_,h2⟩|⟨h1,_,h2⟩
  ·exact absurd h2.symm h1
  ·cases h2
  ·intro i hi
   rcases h2 with⟨h2,_⟩|⟨h2,_⟩|⟨h2,_⟩|⟨_,hA,_⟩
   ·cases h2
   ·cases h2
   ·cases h2
   ·have:=hA i hi
    unfold TR.uE at this
    simp only[Bool.and_eq_true,decide_eq_true_eq]at this
    omega
theorem IV(l:List UInt8):iU ⟨l.toArray⟩ (⟨l.toArray⟩:ByteArray).size=pt l:=by
 have hs:(⟨l.toArray⟩:ByteArray).size=l.length:=List.size_toArray
 unfold iU pt
 rw[hs]
 apply List.ext_getElem
 ·simp
 ·intro i h1 h2
  simp only[List.getElem_map,List.getElem_range]
  have hi:i<(⟨l.toArray⟩:ByteArray).size:=by rw[hs];simpa using h1
  unfold Go.PlainAid.bt
  rw[dif_pos hi]
  rfl
theorem Ct(n:NV)(t:Tr)(g:Int)(na:Option Addr)(nl nc:Nat)(N:TR.de)(w:World)(h:aV w n t)(hTab:TR.iP w)(hT:Fo.iP w)(hpos:3<w.heap.size)(hN:TR.bW w (.slice na nl nc) N):Calls prog 7 #[TR.mT n g na nl nc] w fun e w'=>e=.returned (.bool true)/\Below w.heap.size w w':=by
 have HS:=I (fun W (hW:Below w.heap.size w W)=>TR.EL n t g na nl nc N W (h.ar hW) (hTab.ar hW) (hN.below hW) namesSz)
 have HBg:=I (fun W (hW:Below w.heap.size w W)=>rj W (hT.below hW hpos) (Nat.lt_of_lt_of_le hpos hW.size))
 have HX:Hid (∀w1 v1 l1,Below w.heap.size w w1->bJ w1 v1 l1->_):=fun w1 v1 l1 hb hv=>AI 1 false hv (hT.below hb hpos) (Nat.lt_of_lt_of_le hpos hb.size)
 have HNd:=I h
 have HNm:=I hN
 obtain⟨w1,hw1⟩:∃w1,w1=w.alloc (fh n g (.slice na nl nc)):=⟨_,rfl⟩
 have hb1:Below w.heap.size w w1:=by rw[hw1];exact(J _ w).alloc (U _) _
 have HP1:Hid (w1.heap[w.heap.size]? =some (fh n g (.slice na nl nc))):=by show _=_;rw[hw1];exact TK.aj _ _
 have HB1:=I hb1
 have HSB:=I (TR.rH w1)
 obtain⟨bx,hbx⟩:∃bx,bx=w.heap.size:=⟨_,rfl⟩
 rw[<- hbx]at HP1
 simp only[fh]at hw1
 simp only[TR.mT]at HS |-
 clear h hTab hT hN hb1
 go_enter func7,ntmps7
 go_wp2_with fail
 rw[<- hw1, <-hbx]
 clear hw1 hbx
 refine HSB.o.mono ?_
 rintro e w2 ⟨rfl,hb2⟩
 have HB2:=I (HB1.o.trans (hb2.mono HB1.o.size))
 have HP2:Hid (w2.heap[bx]? =some (fh n g (.slice na nl nc))):=by show _=_;rw[hb2.block _ (TR.lt_of_block HP1.o)];exact HP1.o
 clear hb2 HSB HP1 HB1
 go_wp2_with fail
 refine(HBg.o w2 HB2.o).mono ?_
 rintro e w3 ⟨rfl,hb3⟩
 have HB3:=I (HB2.o.trans (hb3.mono HB2.o.size))
 have HP3:Hid (w3.heap[bx]? =some (fh n g (.slice na nl nc))):=by show _=_;rw[hb3.block _ (TR.lt_of_block HP2.o)];exact HP2.o
 clear hb3 HBg HP2 HB2
 obtain⟨d0,d1,d2,d3,d4,d5,d6,d7,d8,d9⟩:=cO HP3.o
 go_wp2_with fail
 refine(HS.o w3 HB3.o).mono ?_
 rintro e w4 ⟨z,hz,rfl,hb4⟩
 have HZ:=I hz
 have HB4:=I (HB3.o.trans (hb4.mono HB3.o.size))
 have HP4:Hid (w4.heap[bx]? =some (fh n g (.slice na nl nc))):=by show _=_;rw[hb4.block _ (TR.lt_of_block HP3.o)];exact HP3.o
 clear hb4 hz HS HP3 HB3 d0 d1 d2 d3 d4 d5 d6 d7 d8 d9
 by_cases hz0:z=0
 ·subst hz0
  obtain⟨R,hR⟩:∃R,R=TR.Jx N t 0:=⟨_,rfl⟩
  have hR2:R=⟨(jX N t).toArray⟩:=hR
  have HPt:=I (ox R (by rw[hR2];show(⟨(jX N t).toArray⟩:ByteArray).size<=_;rw[show (⟨(jX N t).toArray⟩:ByteArray).size=(jX N t).length from List.size_toArray];exact HZ.o.short (namesSz HZ.o)) w4)
  rw[hR2,IV]at HPt
  rw[<- hR2]at HPt
  rw[<- hR]
  clear hR hR2
  go_wp2_with fail
  refine HPt.o.mono ?_
  rintro e w5 ⟨u,rfl,hu,hb5⟩
  have HB5:=I (HB4.o.trans (hb5.mono HB4.o.size))
  have HP5:Hid (w5.heap[bx]? =some (fh n g (.slice na nl nc))):=by show _=_;rw[hb5.block _ (TR.lt_of_block HP4.o)];exact HP4.o
  have HX5:=I (HX.o w5 u (sh N t) HB5.o (wF hu))
  obtain⟨uo,uc,hue⟩:=ax hu
  obtain⟨ul,hul⟩:∃ul,ul=(pt (jX N t)).length:=⟨_,rfl⟩
  rw[<- hul]at hue
  subst hue
  clear hu hb5 HPt HX HP4 HB4 hul
  go_wp2_with fail
  refine HX5.o.mono ?_
  rintro e w6 ⟨n2,gr2,xo,xl,xc,z2,p2,rfl,hn2,hg2,hz2,hp2,hb6⟩
  have hback:=AK HZ.o
  have HB6:=I (HB5.o.trans (hb6.mono HB5.o.size))
  have HP6:Hid (w6.heap[bx]? =some (fh n g (.slice na nl nc))):=by show _=_;rw[hb6.block _ (TR.lt_of_block HP5.o)];exact HP5.o
  obtain⟨w7,hw7⟩:∃w7,w7=(w6.alloc (fh n2 gr2 (.slice xo xl xc))).alloc (bm z2 p2):=⟨_,rfl⟩
  have hb7:Below w6.heap.size w6 w7:=by rw[hw7];exact((J _ w6).alloc (U _) _).alloc (by simp) _
  have HQ7:Hid (w7.heap[w6.heap.size]? =some (fh n2 gr2 (.slice xo xl xc))):=by show _=_;rw[hw7];exact TK.ba (TK.aj _ _)
  have HF7:Hid (w7.heap[w6.heap.size+1]? =some (bm z2 p2)):=by show _=_;rw[hw7];exact TK.bp _ _ (by simp)
  have HP7:Hid (w7.heap[bx]? =some (fh n g (.slice na nl nc))):=by show _=_;rw[hb7.block _ (TR.lt_of_block HP6.o)];exact HP6.o
  have HB7:=I (HB6.o.trans (hb7.mono HB6.o.size))
  have HN7:=I (hn2 w7 (fun k _ h=>hb7.block k h))
  obtain⟨f0, -, -⟩:=bh HF7.o
  obtain⟨a0,a1,a2,a3,a4,a5,a6,a7,a8,a9⟩:=cO HP7.o
  obtain⟨b0,b1,b2,b3,b4,b5,b6,b7,b8,b9⟩:=cO HQ7.o
  simp only[fh,bm]at hw7
  simp only[xF]
  rcases hback with⟨q,hR,h1,h2,h3⟩|⟨a,hR⟩
  ·rw [hR]at hz2 hg2
   obtain rfl:z2=0:=hz2
   obtain rfl:gr2=g:=hg2.trans h2
   have HN8:=HN7.o
   rw[hR]at HN8
   have hnc1:aV w7 n2 t:=by rw[<- h1];exact HN8.1
   have hnc2:bW w7 (.slice xo xl xc) N:=by rw[<- h3];exact HN8.2
   have HSm:=I (pY n n2 t gr2 (.slice na nl nc) (.slice xo xl xc) N w7 (Bb HZ.o) (HNd.o.ar HB7.o) hnc1 (HNm.o.below HB7.o) hnc2)
   simp only[xF]at HSm
   rw[hw7]at f0 a0 a1 a2 a3 a4 a5 a6 a7 a8 a9 b0 b1 b2 b3 b4 b5 b6 b7 b8 b9
   clear hn2 hg2 hp2 hb6 hb7 HX5 hnc1 hnc2 h1 h2 h3 hR HN8 HN7
   go_wp2_with fail
   rw[<- hw7]
   clear hw7
   refine HSm.o.mono ?_
   rintro e w8 ⟨rfl,hb8⟩
   have HB8:=I (HB7.o.trans (hb8.mono HB7.o.size))
   clear hb8 HSm
   go_wp2
   go_ret
   exact⟨rfl,HB8.o⟩
  ·rw [hR]at hz2
   obtain rfl:z2=2:=hz2
   have HW:Hid (Below w.heap.size w ((w6.alloc (fh n2 gr2 (.slice xo xl xc))).alloc (bm 2 p2))):=by show Below _ _ _;simp only[fh,bm];rw[<- hw7];exact HB7.o
   rw[hw7]at f0
   clear hn2 hg2 hp2 hb6 hb7 HX5 hR HN7 hw7 a0 a1 a2 a3 a4 a5 a6 a7 a8 a9 b0 b1 b2 b3 b4 b5 b6 b7 b8 b9
   go_wp2
   go_ret
   exact⟨rfl,HW.o⟩
 ·have hS:TR.Jx N t z=⟨#[]⟩:=by unfold TR.Jx;rw[if_neg hz0]
  rw[hS]
  have q1:(z==0)=false:=by simpa using hz0
  have q2:(z !=0)=true:=by simpa using hz0
  clear hS
  go_wp2
  go_ret
  exact⟨by first|rfl|simp[go_sem],HB4.o⟩
end Go.Proofs.YtklbbbldalmnbaaGreatDoor.Pa
