import Derived.Test.YtklbbbldalmnbaaGreatDoorRD
import Derived.Test.YtklbbbldalmnbaaGreatDoorKL
import Derived.Test.YtklbbbldalmnbaaGreatDoorLC
import Derived.Test.YtklbbbldalmnbaaGreatDoorMD
import Derived.Test.YtklbbbldalmnbaaGreatDoorRA
import Derived.Test.YtklbbbldalmnbaaGreatDoorRB
import Derived.Test.YtklbbbldalmnbaaGreatDoorMY
import Derived.Test.YtklbbbldalmnbaaGreatDoorMN
import Derived.Test.YtklbbbldalmnbaaGreatDoorMO
set_option linter.unusedVariables false
namespace Go.Proofs.YtklbbbldalmnbaaGreatDoor.TK
open Go.Lib
open TR (hexDigits hY)
def pt(bs:List UInt8):List Int:=bs.map fun b=>(b.toNat:Int)
theorem cY(a b:List UInt8):pt (a++b)=pt a++pt b:=by simp[pt]
theorem bV(a:List UInt8):(pt a).length=a.length:=by simp[pt]
theorem kX(base:Int):∀(ds:List Int) (k:Nat) (rest:List Int) (n:Int) (c:Nat),(∀p∈ds,dz p<base)->ds.length<=k->(k=ds.length\/rest=[]\/∃q r,rest=q::r/\¬dz q<base)->ek base k (ds++rest) n c=(ds.foldl (fun n p=>n*base+dz p) n,c+ds.length)
 |[],k,rest,n,c,_,_,hr=>by
  rw[List.nil_append]
  show _=(n,c+0)
  rcases hr with h|h|⟨q,r,h,hq⟩
  ·obtain rfl:k=0:=h
   rfl
  ·subst h;cases k<;>rfl
  ·subst h
   cases k with
   |zero=>rfl
   |succ k=>unfold ek;rw[if_neg hq];rfl
 |p::ds,0,rest,n,c,_,hk,_=>by simp at hk
 |p::ds,k+1,rest,n,c,hd,hk,hr=>by
  rw[List.cons_append]
  unfold ek
  rw[if_pos (hd p (by simp)),kX base ds k rest _ _ (fun q hq=>hd q (by simp[hq])) (by simpa using hk) (by
   rcases hr with h|h|h
   ·exact .inl (by simpa using h)
   ·exact .inr (.inl h)
   ·exact .inr (.inr h))]
  simp only[List.foldl_cons,List.length_cons,Prod.mk.injEq,true_and]
  omega
theorem zM(d:Nat)(h:d<10):(((UInt8.ofNat (48+d)).toNat:Nat):Int)=48+d/\dz (((UInt8.ofNat (48+d)).toNat:Nat):Int)=d:=by
 rcases(by omega:d=0\/d=1\/d=2\/d=3\/d=4\/d=5\/d=6\/d=7\/d=8\/d=9)with rfl|rfl|rfl|rfl|rfl|rfl|rfl|rfl|rfl|rfl<;>decide
theorem zP(d:Nat)(h:d<16):dz (((hY d).toNat:Nat):Int)=d:=by
 rcases(by omega:d=0\/d=1\/d=2\/d=3\/d=4\/d=5\/d=6\/d=7\/d=8\/d=9\/d=10\/d=11\/d=12\/d=13\/d=14\/d=15)with rfl|rfl|rfl|rfl|rfl|rfl|rfl|rfl|rfl|rfl|rfl|rfl|rfl|rfl|rfl|rfl<;>decide
theorem Ah(u:Nat):(∀p∈pt (decDigits u),dz p<10/\48<=p/\p<=57)/\(pt (decDigits u)).foldl (fun n p=>n*10+dz p) 0=(u:Int):=by
 induction u using Nat.strongRecOn with
 |_ u ih=>
  by_cases h:u<10
  ·obtain ⟨h1,h2⟩:=zM u h
   rw[decDigits,dif_pos h]
   refine⟨fun p hp=>?_,?_⟩
   ·simp only[pt,List.map_cons,List.map_nil,List.mem_singleton]at hp
    subst hp
    rw[h2,h1];omega
   ·simp only[pt,List.map_cons,List.map_nil,List.foldl_cons,List.foldl_nil]
    rw[h2];omega
  ·obtain ⟨h1,h2⟩:=zM (u % 10) (by omega)
   obtain⟨i1,i2⟩:=ih (u / 10) (by omega)
   rw[decDigits,dif_neg h,cY]
   refine⟨fun p hp=>?_,?_⟩
   ·rcases List.mem_append.1 hp with hp|hp
    ·exact i1 p hp
    ·simp only[pt,List.map_cons,List.map_nil,List.mem_singleton]at hp
     subst hp
     rw[h2,h1];omega
   ·rw [List.foldl_append,i2]
    simp only[pt,List.map_cons,List.map_nil,List.foldl_cons,List.foldl_nil]
    rw[h2];omega
theorem GM(u:Nat):(∀p∈pt (hexDigits u),dz p<16)/\(pt (hexDigits u)).foldl (fun n p=>n*16+dz p) 0=(u:Int):=by
 induction u using Nat.strongRecOn with
 |_ u ih=>
  by_cases h:u<16
  ·have h2:=zP u h
   rw[hexDigits,dif_pos h]
   refine⟨fun p hp=>?_,?_⟩
   ·simp only[pt,List.map_cons,List.map_nil,List.mem_singleton]at hp
    subst hp
    rw[h2];omega
   ·simp only[pt,List.map_cons,List.map_nil,List.foldl_cons,List.foldl_nil]
    rw[h2];omega
  ·have h2:=zP (u % 16) (by omega)
   obtain⟨i1,i2⟩:=ih (u / 16) (by omega)
   rw[hexDigits,dif_neg h,cY]
   refine⟨fun p hp=>?_,?_⟩
   ·rcases List.mem_append.1 hp with hp|hp
    ·exact i1 p hp
    ·simp only[pt,List.map_cons,List.map_nil,List.mem_singleton]at hp
     subst hp
     rw[h2];omega
   ·rw [List.foldl_append,i2]
    simp only[pt,List.map_cons,List.map_nil,List.foldl_cons,List.foldl_nil]
    rw[h2];omega
theorem Am:∀(k u:Nat),u<10 ^ (k+1)->1<=(decDigits u).length/\(decDigits u).length<=k+1
 |0,u,h=>by rw[decDigits,dif_pos (by simpa using h)];simp
 |k+1,u,h=>by
  by_cases h1:u<10
  ·rw[decDigits,dif_pos h1];simp
  ·have :=Am k (u / 10) (by rw[Nat.pow_succ]at h;omega)
   rw[decDigits,dif_neg h1];simp;omega
theorem pa:∀(k u:Nat),u<16 ^ (k+1)->1<=(hexDigits u).length/\(hexDigits u).length<=k+1
 |0,u,h=>by rw[hexDigits,dif_pos (by simpa using h)];simp
 |k+1,u,h=>by
  by_cases h1:u<16
  ·rw[hexDigits,dif_pos h1];simp
  ·have :=pa k (u / 16) (by rw[Nat.pow_succ]at h;omega)
   rw[hexDigits,dif_neg h1];simp;omega
theorem qI{l rest:List Int}{i u:Nat}(hu:u<=999)(h:l.drop i=pt (decDigits u)++rest)(hr:rest=[]\/∃q r,rest=q::r/\¬dz q<10):cL 10 3 l i=((u:Int),(decDigits u).length)/\1<=(decDigits u).length:=by
 obtain⟨h1,h2⟩:=Ah u
 obtain⟨h3,h4⟩:=Am 2 u (by omega)
 unfold cL
 rw[h,kX 10 _ 3 rest 0 0 (fun p hp=>(h1 p hp).1) (by rw[bV];omega) (.inr hr),h2,bV]
 exact⟨by simp,h3⟩
theorem D7{l rest:List Int}{i u:Nat}(hu:u<=1114111)(h:l.drop i=pt (hexDigits u)++rest)(hr:rest=[]\/∃q r,rest=q::r/\¬dz q<16):cL 16 6 l i=((u:Int),(hexDigits u).length)/\1<=(hexDigits u).length:=by
 obtain⟨h1,h2⟩:=GM u
 obtain⟨h3,h4⟩:=pa 5 u (by omega)
 unfold cL
 rw[h,kX 16 _ 6 rest 0 0 h1 (by rw[bV];omega) (.inr hr),h2,bV]
 exact⟨by simp,h3⟩
theorem iX{X:List Int}{t:Tok}{k:Nat}(A:List Int)(h:aQ 1 X 0=.ok (t,k)):aQ 1 (A++X) A.length=.ok (t,A.length+k):=by
 have:=Hc A X 1 0
 rw[Nat.zero_add,h]at this
 rw[this]
 show Except.ok (t,k+A.length)=_
 rw[Nat.add_comm]
theorem jP{A X L:List Int}{c:Int}{k:Nat}(hL:L=A++c::X)(hk:k=A.length):bk L k [c]=true:=by
 subst hL hk
 rw[mC]
 simp
theorem pg{A X L:List Int}{c q:Int}{k:Nat}(hL:L=A++q::X)(hk:k=A.length)(h:q≠c):bk L k [c]=false:=by
 subst hL hk
 rw[mC]
 simpa using h
theorem DM(u:Nat):∃q s,pt (decDigits u)=q::s/\48<=q/\q<=57:=by
 cases hc:pt (decDigits u)with
 |nil=>
  have h1:=congrArg List.length hc
  rw[bV]at h1
  rw[decDigits]at h1
  split at h1<;>simp at h1
 |cons q s=>exact⟨q,s,rfl,((Ah u).1 q (by rw[hc];simp)).2⟩
theorem ma{u:Nat}{r:List Int}(h1:1<=u)(h2:u<=999):aQ 1 ([92,107,60]++(pt (decDigits u)++(62::r))) 0=.ok (aP u,3+(decDigits u).length+1):=by
 obtain⟨L,hL⟩:∃L,L=[92,107,60]++(pt (decDigits u)++(62::r)):=⟨_,rfl⟩
 obtain⟨d1,d2⟩:=qI (l:=L) (i:=3) h2 (by rw[hL];rfl) (.inr ⟨62,r,rfl,by decide⟩)
 have hg:bk L (3+(decDigits u).length) [62]=true:=jP (A:=[92,107,60]++pt (decDigits u)) (X:=r) (by rw[hL];simp) (by simp[bV];omega)
 have hb:bk L 3 [45]=false:=by
  obtain⟨q,s,hq,h3,h4⟩:=DM u
  exact pg (A:=[92,107,60]) (q:=q) (X:=s++62::r) (by rw[hL,hq];rfl) rfl (by omega)
 have h60:bk L 2 [60]=true:=jP (A:=[92,107]) (X:=pt (decDigits u)++62::r) (by rw[hL];rfl) rfl
 have hn:aQ 1 L 0=eM L 2:=by rw[hL];rfl
 rw[<- hL,hn]
 unfold eM
 rw[if_neg (by rw[h60];decide)]
 simp only[show 2+1=3 from rfl,hb,Bool.false_eq_true,if_false]
 rw[d1]
 simp only
 rw[if_pos (by omega),if_neg (by rw[hg];decide),if_neg (by omega)]
theorem wP{u:Nat}{r:List Int}(h2:u<=1114111):aQ 1 ([92,120,123]++(pt (hexDigits u)++(125::r))) 0=.ok (aM u,3+(hexDigits u).length+1):=by
 obtain⟨L,hL⟩:∃L,L=[92,120,123]++(pt (hexDigits u)++(125::r)):=⟨_,rfl⟩
 obtain⟨d1,d2⟩:=D7 (l:=L) (i:=3) h2 (by rw[hL];rfl) (.inr ⟨125,r,rfl,by decide⟩)
 have hg:bk L (3+(hexDigits u).length) [125]=true:=jP (A:=[92,120,123]++pt (hexDigits u)) (X:=r) (by rw[hL];simp) (by simp[bV];omega)
 have h60:bk L 2 [123]=true:=jP (A:=[92,120]) (X:=pt (hexDigits u)++125::r) (by rw[hL];rfl) rfl
 have hn:aQ 1 L 0=fC L 2:=by rw[hL];rfl
 rw[<- hL,hn]
 unfold fC
 rw[if_neg (by rw[h60];decide)]
 simp only[show 2+1=3 from rfl]
 rw[d1]
 simp only
 rw[if_neg (by omega),if_neg (by rw[hg];decide),if_neg (by omega)]
theorem IJ(v:Int):pt (TR.iJ v).data.toList=if v=2 then [63]else if v=3 then [43]else []:=by
 unfold TR.iJ
 split
 ·rfl
 ·split<;>rfl
def Kv(r:List Int):Prop:=r=[]\/∃q s,r=q::s/\q≠63/\q≠43
theorem De{a b v:Int}{r:List Int}(ha:0<=a/\a<=100)(hb:b= -1\/(a<=b/\b<=100))(hv:1<=v/\v<=3)(hr:Kv r):aQ 1 (pt (TR.cD a b v)++r) 0=.ok ({ kind:=6,least:=a,an:=b,bB:=v },(TR.cD a b v).length):=by
 have hT:pt (TR.cD a b v)=[123]++(pt (decDigits a.toNat)++([44]++(pt (TR.gC b)++([125]++pt (TR.iJ v).data.toList)))):=by
  unfold TR.cD
  simp only[cY]
  rfl
 have hlen:(TR.cD a b v).length=1+(decDigits a.toNat).length+1+(TR.gC b).length+1+(pt (TR.iJ v).data.toList).length:=by
  rw[<- bV,hT]
  simp only[List.length_append,bV,List.length_singleton]
  omega
 obtain⟨L,hL⟩:∃L,L=pt (TR.cD a b v)++r:=⟨_,rfl⟩
 rw[<- hL]
 have hL2:L=[123]++(pt (decDigits a.toNat)++([44]++(pt (TR.gC b)++([125]++(pt (TR.iJ v).data.toList++r))))):=by rw[hL,hT];simp
 obtain⟨d1,d2⟩:=qI (l:=L) (i:=1) (u:=a.toNat) (rest:=[44]++(pt (TR.gC b)++([125]++(pt (TR.iJ v).data.toList++r)))) (by omega) (by rw[hL2];rfl) (.inr ⟨44,_,rfl,by decide⟩)
 obtain⟨la,hla⟩:∃la,la=(decDigits a.toNat).length:=⟨_,rfl⟩
 rw[<- hla]at d1 d2 hlen
 have hcom:bk L (1+la) [44]=true:=jP (A:=[123]++pt (decDigits a.toNat)) (X:=pt (TR.gC b)++([125]++(pt (TR.iJ v).data.toList++r))) (by rw[hL2];simp) (by simp[bV,hla];omega)
 have hdrop:L.drop (1+la+1)=pt (TR.gC b)++([125]++(pt (TR.iJ v).data.toList++r)):=by
  rw[show L=([123]++(pt (decDigits a.toNat)++[44]))++(pt (TR.gC b)++([125]++(pt (TR.iJ v).data.toList++r))) by rw[hL2];simp,show 1+la+1=([123]++(pt (decDigits a.toNat)++[44]):List Int).length by simp[bV,hla];omega,List.drop_left]
 obtain⟨lb,hlb⟩:∃lb,lb=(TR.gC b).length:=⟨_,rfl⟩
 rw[<- hlb]at hlen
 have hd2:cL 10 3 L (1+la+1)=((if b= -1 then 0 else b),lb)/\(b= -1->lb=0)/\(b≠ -1->1<=lb):=by
  by_cases hb1:b= -1
  ·have e:TR.gC b=[]:=by unfold TR.gC;rw[if_neg (by omega)]
   rw[e]at hlb hdrop
   refine⟨?_,fun _=>hlb,fun h=>absurd hb1 h⟩
   unfold cL
   rw[hdrop,if_pos hb1,hlb]
   have:=kX 10 [] 3 (pt []++([125]++(pt (TR.iJ v).data.toList++r))) 0 0 (fun p hp=>by cases hp) (by simp) (.inr (.inr ⟨125,_,rfl,by decide⟩))
   simpa[pt]using this
  ·have e:TR.gC b=decDigits b.toNat:=by unfold TR.gC;rw[if_pos (by omega)]
   rw[e]at hlb hdrop
   obtain⟨k1,k2⟩:=qI (l:=L) (i:=1+la+1) (u:=b.toNat) (by omega) hdrop (.inr ⟨125,_,rfl,by decide⟩)
   rw[k1,if_neg hb1,hlb]
   exact⟨by congr 1;omega,fun h=>absurd h hb1,fun _=>k2⟩
 obtain⟨d3,d4,d5⟩:=hd2
 have hend:bk L (1+la+1+lb) [125]=true:=jP (A:=[123]++(pt (decDigits a.toNat)++([44]++pt (TR.gC b)))) (X:=pt (TR.iJ v).data.toList++r) (by rw[hL2];simp) (by simp[bV,hla,hlb];omega)
 have hbd:ch 1 L 1=(a,b,true,1+la+1+lb+1):=by
  unfold ch
  rw[d1]
  simp only[hcom,if_true]
  rw[d3]
  simp only
  rw[if_neg (by omega),if_neg (by decide),hend]
  simp only[if_true,Prod.mk.injEq,and_true]
  refine⟨by omega,?_⟩
  by_cases hb1:b= -1
  ·rw[if_pos (d4 hb1),hb1]
  ·rw[if_neg (by have:=d5 hb1;omega),if_neg hb1]
 have hn:aQ 1 L 0=cR 1 L 1:=by rw[hL2];rfl
 have hw:∀c:Int,bk L (1+la+1+lb+1) [c]=((pt (TR.iJ v).data.toList++r)[0]? ==some c):=by
  intro c
  rw[mC,show L=([123]++(pt (decDigits a.toNat)++([44]++(pt (TR.gC b)++[125]))))++(pt (TR.iJ v).data.toList++r) by rw[hL2];simp,List.getElem?_append_right (by simp[bV,hla,hlb];omega)]
  congr 2
  simp[bV,hla,hlb]
  omega
 rw[hn]
 unfold cR
 rw[hbd]
 simp only[Bool.true_eq_false,if_false]
 rw[if_neg (by omega),if_neg (by omega)]
 unfold cD
 rw[if_pos rfl,hw,hw,hlen,IJ]
 rcases(by omega:v=1\/v=2\/v=3)with rfl|rfl|rfl
 ·have h0:∀c:Int,c=63\/c=43->(r[0]? ==some c)=false:=by
   intro c hc
   rcases hr with rfl|⟨q,s,rfl,h1,h2⟩
   ·rfl
   ·simp only[List.getElem?_cons_zero,beq_eq_false_iff_ne,ne_eq,Option.some.injEq]
    omega
  simp[h0 63 (.inl rfl),h0 43 (.inr rfl)]
 ·simp
 ·simp
end Go.Proofs.YtklbbbldalmnbaaGreatDoor.TK
namespace Go.Proofs.YtklbbbldalmnbaaGreatDoor.Br
open TK (pt cY bV wP)
open TR (hexDigits)
theorem kh{A X L:List Int}{i:Nat}{c:Int}(hL:L=A++c::X)(hi:i=A.length):aX L i [c]=true:=by
 subst hL hi
 simp[aX]
theorem fy{A X L:List Int}{i:Nat}{q c:Int}{cs:List Int}(hL:L=A++q::X)(hi:i=A.length)(h:q≠c):aX L i (c::cs)=false:=by
 subst hL hi
 unfold aX
 rw[List.drop_left,List.length_cons,List.take_succ_cons,Bool.eq_false_iff]
 intro hh
 have h1:=eq_of_beq hh
 injection h1 with h1 _
 exact h h1
theorem F3{A X L:List Int}{i:Nat}{c:Int}(hL:L=A++c::X)(hi:i=A.length):L[i]? =some c:=by
 subst hL hi
 simp
def gF(u:Nat):List Int:=[92,120,123]++(pt (hexDigits u)++[125])
theorem ER(u:Nat):(gF u).length=3+(hexDigits u).length+1:=by simp[gF,bV];omega
theorem vd{A X L:List Int}{i u:Nat}{fo:Bool}(hu:u<=1114111)(hL:L=A++(gF u++X))(hi:i=A.length):dJ (par 1 fo) L i=.ok (.pt u,i+(gF u).length):=by
 have hL2:L=A++92::([120,123]++(pt (hexDigits u)++(125::X))):=by rw[hL];simp[gF]
 have hnx:TK.aQ 1 L i=.ok (TK.aM u,i+(3+(hexDigits u).length+1)):=by
  have:=TK.iX A (wP (u:=u) (r:=X) hu)
  rw[hL2,hi]
  simpa using this
 unfold dJ
 rw[F3 hL2 hi]
 simp only
 rw[kh hL2 hi]
 have hr:(par 1 fo).pG=true:=rfl
 have hn:(par 1 fo).nx L i=.ok (.pt u,i+(gF u).length):=by
  show jU (TK.aQ 1 L i)=_
  rw[hnx,ER]
  rfl
 rw[hr,hn]
 rfl
def mG(r:Int×Int):List Int:=gF r.1.toNat++(45::gF r.2.toNat)
theorem FM(r:Int×Int):pt (TR.rm r)=mG r:=by
 unfold TR.rm mG gF
 simp only[cY]
 simp[pt]
theorem nZ(r:Int×Int):∃s,mG r=92::s:=⟨_,rfl⟩
theorem Dp{rec:List Int->Nat->Nat->Except BE (PS×Nat)}{A X L:List Int}{i deep:Nat}{fo:Bool}{r:Int×Int}(hr:er r)(hL:L=A++(mG r++X))(hi:i=A.length):fi (par 1 fo) rec L i deep=.ok (fun x=>decide (r.1<=x)&&decide (x<=r.2),i+(mG r).length):=by
 obtain⟨h0,h1,h2⟩:0<=r.1/\r.1<=r.2/\r.2<=1114111:=by unfold er at hr;omega
 have e1:((r.1.toNat:Nat):Int)=r.1:=by omega
 have e2:((r.2.toNat:Nat):Int)=r.2:=by omega
 have hLa:L=A++(gF r.1.toNat++(45::(gF r.2.toNat++X))):=by rw[hL];simp[mG]
 have hLb:L=A++92::([120,123]++(pt (hexDigits r.1.toNat)++(125::45::(gF r.2.toNat++X)))):=by rw[hLa];simp[gF]
 have hLc:L=(A++gF r.1.toNat)++45::(gF r.2.toNat++X):=by rw[hLa];simp
 have hLd:L=(A++gF r.1.toNat++[45])++(gF r.2.toNat++X):=by rw[hLa];simp
 have hLe:L=(A++gF r.1.toNat++[45])++92::([120,123]++(pt (hexDigits r.2.toNat)++(125::X))):=by rw[hLd];simp[gF]
 have c1:bZ L i=false:=fy hLb hi (by decide)
 have c2:um (par 1 fo) L i=false:=by unfold um;rw[fy hLb hi (by decide)];simp
 have hw:=vd (fo:=fo) (u:=r.1.toNat) (by omega) hLa hi
 obtain⟨k,hk⟩:∃k,k=i+(gF r.1.toNat).length:=⟨_,rfl⟩
 rw[<- hk]at hw
 have hkA:k=(A++gF r.1.toNat).length:=by rw[hk,hi,List.length_append]
 have hkB:k+1=(A++gF r.1.toNat++[45]).length:=by rw[List.length_append, <-hkA];rfl
 have c3:mU L k=true:=by
  unfold mU
  rw[kh hLc hkA]
  have:aX L k [45,93]=false:=by
   rw[hLc,hkA]
   unfold aX
   rw[List.drop_left]
   simp[gF]
  rw[this]
  rfl
 have hw2:=vd (fo:=fo) (u:=r.2.toNat) (by omega) hLd hkB
 have he:iD (par 1 fo) L (k+1) ((r.1.toNat:Nat):Int)=.ok (((r.2.toNat:Nat):Int),k+1+(gF r.2.toNat).length):=by
  unfold iD
  have d1:bZ L (k+1)=false:=fy hLe hkB (by decide)
  have d2:um (par 1 fo) L (k+1)=false:=by unfold um;rw[fy hLe hkB (by decide)];simp
  have d3:kr (par 1 fo) L (k+1)=false:=by unfold kr;rw[fy hLe hkB (by decide)];simp
  rw[d1,d2,d3,hw2]
  simp only[Bool.or_self,Bool.false_eq_true,if_false]
  rw[if_neg (by omega)]
 unfold fi
 rw[c1,c2,hw]
 simp only[Bool.false_eq_true,if_false]
 rw[c3,he]
 simp only[if_true,e1,e2,Except.ok.injEq,Prod.mk.injEq,true_and]
 rw[hk]
 simp only[mG,List.length_append,List.length_cons]
 omega
def dv:List (Int×Int)->List Int
 |[]=>[]
 |r::S=>mG r++dv S
theorem pR{rec:List Int->Nat->Nat->Except BE (PS×Nat)}{fo:Bool}{X L:List Int}{first deep:Nat}:∀(S:List (Int×Int)) (n i:Nat) (A:List Int) (acc:PS),(∀r∈S,er r)->L=A++(dv S++93::X)->i=A.length->first<=i->(S=[]->i≠first)->S.length<n->eN (par 1 fo) rec L first deep n i acc=.ok (fun x=>acc x||ins S x,i+(dv S).length)
 |[],0,i,A,acc,_,_,_,_,_,hn=>absurd hn (by simp)
 |r::S,0,i,A,acc,_,_,_,_,_,hn=>absurd hn (by simp)
 |[],n+1,i,A,acc,ho,hL,hi,hfi,hf,hn=>by
  have hL':L=A++93::X:=by rw[hL];rfl
  have hp:fH (par 1 fo) L first i=true:=by
   unfold fH
   rw[kh hL' hi,decide_eq_true (hf rfl)]
   rfl
  unfold eN
  rw[if_pos hp]
  simp[ins,dv]
 |r::S,n+1,i,A,acc,ho,hL,hi,hfi,hf,hn=>by
  obtain⟨s,hs⟩:=nZ r
  have hL1:L=A++(mG r++(dv S++93::X)):=by rw[hL];simp[dv]
  have hL2:L=A++92::(s++(dv S++93::X)):=by rw[hL1,hs];rfl
  have hL3:L=(A++mG r)++(dv S++93::X):=by rw[hL1];simp
  have hp:fH (par 1 fo) L first i=false:=by
   unfold fH kr
   rw[fy hL2 hi (by decide),fy hL2 hi (by decide)]
   simp
  have hpos:0<(mG r).length:=by rw[hs];simp
  unfold eN
  rw[hp,Dp (fo:=fo) (ho r (by simp)) hL1 hi]
  simp only[Bool.false_eq_true,if_false]
  rw[pR S n (i+(mG r).length) (A++mG r) _ (fun q hq=>ho q (by simp[hq])) hL3 (by rw[hi,List.length_append]) (by omega) (fun _=>by omega) (by simpa using hn)]
  congr 2
  ·funext x
   simp[ins,Bool.or_assoc]
  ·simp[dv];omega
theorem xx{n:Nat}{A X L:List Int}{i:Nat}{S:List (Int×Int)}(hne:S≠[])(ho:∀r∈S,er r)(hL:L=A++(dv S++93::X))(hi:i=A.length)(hlen:S.length<=(dv S).length):gv (par 1 false) (fl (par 1 false) n) L i 0=.ok (fun x=>ins S x,i+(dv S).length+1):=by
 obtain⟨k,hk⟩:∃k,k=i+(dv S).length:=⟨_,rfl⟩
 have hL2:L=(A++dv S)++93::X:=by rw[hL];simp
 have hkA:k=(A++dv S).length:=by rw[hk,hi,List.length_append]
 have hpos:0<(dv S).length:=Nat.lt_of_lt_of_le (List.length_pos_iff.2 hne) hlen
 have hit:=pR (rec:=fl (par 1 false) n) (fo:=false) (X:=X) (first:=i) (deep:=0) S (L.length+2 - i) i A (fun _=>false) ho hL hi (U _) (fun h=>absurd h hne) (by rw[hL,hi];simp;omega)
 have hpart:eS (par 1 false) (fl (par 1 false) n) L i 0 i=.ok (fun x=>ins S x,k):=by
  unfold eS
  rw[hit]
  simp only[Bool.false_or]
  rw[<- hk,if_neg (by omega)]
  rfl
 unfold gv
 rw[hpart]
 simp only
 have hand:kr (par 1 false) L k=false:=by unfold kr;rw[fy hL2 hkA (by decide)];simp
 have hm:∀m,fA (par 1 false) (fl (par 1 false) n) L i 0 m k (fun x=>ins S x)=.ok (fun x=>ins S x,k):=fun m=>by
  cases m with
  |zero=>rfl
  |succ m=>unfold fA;rw[hand];simp
 rw[hm]
 simp only[kh hL2 hkA,if_true]
 rw[hk]
theorem pJ:∀S:List (Int×Int),S.length<=(dv S).length
 |[]=>by simp
 |r::S=>by
  obtain⟨s,hs⟩:=nZ r
  have:=pJ S
  simp only[dv,List.length_append,hs,List.length_cons]
  omega
theorem CD{A X L:List Int}{i:Nat}{S:RL}(hp:TK.cq 1 L=0)(hne:S≠[])(hS:bg (ins S) S)(hl:S.length<=400)(hL:L=A++(dv S++93::X))(hi:i=A.length):dj 1 false L (i:Int)=.ok (fun x=>ins S x,i+(dv S).length+1):=by
 have ho:∀r∈S,er r:=hS.1.1
 obtain⟨r,S',rfl⟩:∃r S',S=r::S':=List.exists_cons_of_ne_nil hne
 obtain⟨s,hs⟩:=nZ r
 have hL2:L=A++92::(s++(dv S'++93::X)):=by rw[hL];simp[dv,hs]
 unfold dj
 rw[if_neg (by simp[hp]),if_neg (by rw[hL,hi];simp;omega)]
 unfold ir
 rw[Int.toNat_natCast]
 have he:fl (par 1 false) 21 L i 0=.ok (fun x=>ins (r::S') x,i+(dv (r::S')).length+1):=by
  show iW (par 1 false) (fl (par 1 false) 20) L i 0=_
  unfold iW
  rw[fy hL2 hi (by decide)]
  simp only[Bool.false_eq_true,if_false]
  exact xx hne ho hL hi (pJ _)
 rw[he]
 simp only
 have hm:bC (fun x=>ins (r::S') x)=false:=by
  rw[eW (f:=fun x=>ins (r::S') x) hS]
  simpa using hl
 rw[hm]
 rfl
theorem yM{A X L:List Int}{i:Nat}(hp:TK.cq 1 L=0)(hL:L=A++(94::(dv [(0,1114111)]++93::X)))(hi:i=A.length):∃f,dj 1 false L (i:Int)=.ok (f,i+1+(dv [(0,1114111)]).length+1)/\bg f []:=by
 have hL2:L=(A++[94])++(dv [(0,1114111)]++93::X):=by rw[hL];simp
 have hS1:bg (fun x=>ins [(0,1114111)] x) [(0,1114111)]:=by
  refine⟨⟨by simp[er],by simp⟩,fun q=>?_⟩
  simp only[ins,List.any_cons,List.any_nil,Bool.or_false]
  cases decide (0<=q)<;>cases decide (q<=1114111)<;>rfl
 have hS2:bg (fun x=>!ins [(0,1114111)] x) []:=by
  refine⟨⟨by simp,by simp⟩,fun q=>?_⟩
  simp only[ins,List.any_cons,List.any_nil,Bool.or_false]
  cases decide (0<=q)<;>cases decide (q<=1114111)<;>rfl
 refine⟨fun x=>!ins [(0,1114111)] x,?_,hS2⟩
 unfold dj
 rw[if_neg (by simp[hp]),if_neg (by rw[hL,hi];simp;omega)]
 unfold ir
 rw[Int.toNat_natCast]
 have he:fl (par 1 false) 21 L i 0=.ok (fun x=>!ins [(0,1114111)] x,i+1+(dv [(0,1114111)]).length+1):=by
  show iW (par 1 false) (fl (par 1 false) 20) L i 0=_
  unfold iW
  rw[kh hL hi]
  simp only[if_true]
  rw[xx (A:=A++[94]) (by simp) (by simp[er]) hL2 (by simp[hi]) (pJ _)]
  simp only
  unfold mr
  have m1:(par 1 false).many (fun x=>ins [(0,1114111)] x)=false:=by
   show bC _=false
   rw[eW hS1];rfl
  have m2:(par 1 false).many (fun x=>!ins [(0,1114111)] x)=false:=by
   show bC _=false
   rw[eW hS2];rfl
  rw[m1,m2]
  rfl
 rw[he]
 simp only
 have hm:bC (fun x=>!ins [(0,1114111)] x)=false:=by
  rw[eW hS2];rfl
 rw[hm]
 rfl
end Go.Proofs.YtklbbbldalmnbaaGreatDoor.Br
namespace Go.Proofs.YtklbbbldalmnbaaGreatDoor.Pa
open TR (Tr jX rD gu gX mi pf uD eR fK partAt mK CO aR gA lI fu cP cG cW cK bO de)
open TK (pt cY bV aQ)
variable {N : de}
theorem nb(f:Nat->List UInt8):∀n,fK f n=(List.range n).flatMap f
 |0=>rfl
 |n+1=>by rw[fK,nb f n,List.range_succ,List.flatMap_append];simp
def sh(N:de)(t:Tr):List Int:=pt (jX N t)
def kP(b:Bool)(l:List Int):List Int:=if b then [40,63,58]++(l++[41])else l
theorem Ac(b:Bool)(l:List UInt8):pt (eR b l)=kP b (pt l):=by
 unfold eR kP
 cases b
 ·rfl
 ·simp only[if_true,cY]
  rfl
def sL(N:de)(t:Tr):List Int:=kP (decide (t.kind=10)) (sh N t)
theorem jG{α β:Type}(f:α->List β):∀(ts:List α) (g:Nat->List β),(∀j (hj:j<ts.length),g j=f ts[j])->(List.range ts.length).flatMap g=ts.flatMap f
 |[],g,_=>rfl
 |t::ts,g,h=>by
  rw[List.length_cons,List.range_succ_eq_map,List.flatMap_cons,List.flatMap_cons,h 0 (by simp),List.flatMap_map]
  rw[jG f ts (fun j=>g (j+1)) (fun j hj=>h (j+1) (by simpa using hj))]
  rfl
theorem uC{α:Type}(f:α->List UInt8)(l:List α):pt (l.flatMap f)=l.flatMap fun x=>pt (f x):=by
 induction l with
 |nil=>rfl
 |cons x l ih=>rw[List.flatMap_cons,List.flatMap_cons,cY,ih]
theorem Fc(t:Tr)(h:t.kind=9):sh N t=t.kids.flatMap (sL N):=by
 unfold sh
 rw[gu,h]
 unfold TR.jg
 rw[if_neg (by decide),if_pos rfl,nb,gX,jG (fun u=>eR (decide (u.kind=10)) (jX N u)) t.kids _ (fun j hj=>TR.lx N t.kids j hj),uC]
 congr 1
 funext u
 exact Ac _ _
theorem sf(t:Tr)(h:t.kind=10)(k:Tr)(ks:List Tr)(hk:t.kids=k::ks):sh N t=sh N k++ks.flatMap fun u=>124::sh N u:=by
 unfold sh
 rw[gu,h,hk]
 unfold TR.jg
 rw[if_neg (by decide),if_neg (by decide),if_pos rfl,nb,gX]
 rw[List.length_cons,List.range_succ_eq_map,List.flatMap_cons,List.flatMap_map,cY]
 have h0:=TR.kO N (k::ks) 0 (by simp)
 rw[h0]
 simp only[if_true,List.nil_append,List.getElem_cons_zero]
 rw[jG (fun u=>124::jX N u) ks (fun j=>mK (rD N (k::ks)) (j+1)) (fun j hj=>by
  rw[TR.kO N (k::ks) (j+1) (by simpa using hj)]
  simp),uC]
 rfl
theorem DU(t u:Tr)(h:t.kind=12)(hk:t.kids=[u]):sh N t=kP (fu u.kind) (sh N u)++pt (TR.cD t.least t.an t.bB):=by
 unfold sh
 rw[gu,h,hk]
 unfold TR.jg
 rw[if_neg (by decide),if_neg (by decide),if_neg (by decide),if_pos rfl,cY,Ac]
 rfl
theorem zG(t u:Tr)(h:t.kind=11\/(13<=t.kind/\t.kind<=17))(hk:t.kids=[u]):sh N t=pt (aR N t.kind t.num)++(sh N u++[41]):=by
 unfold sh
 rw[gu,hk]
 unfold TR.jg
 rw[if_neg (by omega),if_neg (by omega),if_neg (by omega),if_neg (by omega),if_neg (by omega),if_pos h,cY,cY]
 rfl
theorem vy(t:Tr)(h:t.kind=18):sh N t=pt (CO t.fold t.num):=by
 unfold sh
 rw[gu,h]
 unfold TR.jg
 rw[if_neg (by decide),if_neg (by decide),if_neg (by decide),if_neg (by decide),if_pos rfl]
theorem uw(t:Tr)(h:t.kind=1\/(3<=t.kind/\t.kind<=8)):sh N t=pt (lI t.kind).data.toList:=by
 unfold sh
 rw[gu]
 unfold TR.jg
 rw[if_neg (by omega),if_neg (by omega),if_neg (by omega),if_neg (by omega),if_neg (by omega),if_neg (by omega)]
theorem xV(t:Tr)(h:t.kind=2):sh N t=if t.set=[]then 91::94::(Br.dv [(0,1114111)]++[93])else 91::(Br.dv t.set++[93]):=by
 unfold sh
 rw[gu,h]
 unfold TR.jg
 rw[if_pos rfl]
 unfold TR.fg
 by_cases h0:t.set=[]
 ·rw [if_pos h0,if_pos (by rw[h0];rfl)]
  have e:∀u,Br.gF u=[92,120,123]++(pt (TR.hexDigits u)++[125]):=fun _=>rfl
  simp only[Br.dv,Br.mG,e,List.append_nil]
  have z0:TR.hexDigits (0:Int).toNat=[48]:=by rw[TR.hexDigits,dif_pos (by decide)];rfl
  have z1:TR.hexDigits (1114111:Int).toNat=[49,48,102,102,102,102]:=by
   rw[show (1114111:Int).toNat=1114111 from rfl]
   repeat (rw[TR.hexDigits];simp only[Nat.reduceLT,dite_false,Nat.reduceDiv,Nat.reduceMod,dif_pos])
   rfl
  rw[z0,z1]
  rfl
 ·rw [if_neg h0,if_neg (by intro e;exact h0 (List.eq_nil_of_length_eq_zero e)),nb,jG TR.rm t.set _ (fun j hj=>TR.pE t.set j hj),cY,cY,uC]
  have:∀S:List (Int×Int),S.flatMap (fun x=>pt (TR.rm x))=Br.dv S:=by
   intro S
   induction S with
   |nil=>rfl
   |cons r S ih=>rw[List.flatMap_cons,ih,Br.FM];rfl
  rw[this]
  rfl
end Go.Proofs.YtklbbbldalmnbaaGreatDoor.Pa
namespace Go.Proofs.YtklbbbldalmnbaaGreatDoor.TK
theorem wD:∀(xs:List Int) (k:Nat) (r:List Int) (f:Bool),xs.length<=k->(∀i (h:i<xs.length),gw xs[i] (f&&decide (i=0))=true)->takeN k (xs++62::r) f=xs
 |[],0,r,f,_,_=>rfl
 |[],k+1,r,f,_,_=>by
  show(if gw 62 f then _ else _)=_
  rw[if_neg (by cases f<;>decide)]
 |x::xs,0,r,f,h,_=>by simp at h
 |x::xs,k+1,r,f,h,hn=>by
  have h0:=hn 0 (by simp)
  show(if gw x f then x::takeN k (xs++62::r) false else [])=_
  rw[if_pos (by simpa using h0),wD xs k r false (by simpa using h) (fun i hi=>by
   have:=hn (i+1) (by simpa using hi)
   simpa using this)]
theorem DK(s:ByteArray):bE (pt s.data.toList)=s:=by
 unfold bE pt
 apply ByteArray.ext
 apply Array.ext'
 rw[List.map_map]
 have:∀b:UInt8,((fun p:Int=>UInt8.ofNat p.toNat) ∘ fun b:UInt8=>(b.toNat:Int)) b=b:=by
  intro b
  simp
 rw[List.map_congr_left (g:=id) (fun b _=>this b)]
 simp
theorem CU(p:Int)(f:Bool):TR.rA p f=gw p f:=by
 have hd:decide (dz p<10)=(decide (48<=p)&&decide (p<=57)):=by
  unfold dz
  rw[Bool.eq_iff_iff]
  simp only[Bool.and_eq_true,decide_eq_true_eq]
  split
  ·omega
  ·split
   ·omega
   ·split<;>omega
 unfold TR.rA gw
 rw[hd]
 have:decide (p=95)=(p==95):=by simp[Bool.beq_eq_decide_eq]
 rw[this]
 show(tC p||p==95||(!f&&decide (48<=p)&&decide (p<=57)))=_
 cases tC p<;>cases(p==95)<;>cases f<;>simp
theorem yd{s:ByteArray}{r:List Int}(h:TR.uE s=true):aQ 1 ([40,63,60]++(pt s.data.toList++(62::r))) 0=.ok ({ kind:=7,num:=11,text:=s },3+s.data.toList.length+1)/\s.toList≠[]:=by
 unfold TR.uE at h
 simp only[Bool.and_eq_true,decide_eq_true_eq,List.all_eq_true,List.mem_range]at h
 obtain⟨⟨h1,h2⟩,h3⟩:=h
 have hsz:s.data.toList.length=s.size:=Array.length_toList
 obtain⟨L,hL⟩:∃L,L=[40,63,60]++(pt s.data.toList++(62::r)):=⟨_,rfl⟩
 have hget:∀i (hi:i<(pt s.data.toList).length),(pt s.data.toList)[i]=Go.PlainAid.bt s i:=by
  intro i hi
  have hi2:i<s.size:=by rw[bV,hsz]at hi;exact hi
  unfold Go.PlainAid.bt
  rw[dif_pos hi2]
  simp only[pt,List.getElem_map,Array.getElem_toList]
  rfl
 have hall:∀i (hi:i<(pt s.data.toList).length),gw (pt s.data.toList)[i] (true&&decide (i=0))=true:=fun i hi=>by
  rw[hget i hi, <-CU]
  have:=h3 i (by rw[bV,hsz]at hi;exact hi)
  simpa using this
 have hnm:bL L 3=pt s.data.toList:=by
  unfold bL
  rw[hL]
  exact wD _ 20 r true (by rw[bV];omega) hall
 obtain⟨q,xs,hq⟩:∃q xs,pt s.data.toList=q::xs:=by
  cases hc:pt s.data.toList with
  |nil=>
   have:=congrArg List.length hc
   rw[bV,hsz]at this
   have h0:s.size=0:=this
   omega
  |cons q xs=>exact⟨q,xs,rfl⟩
 have hqn:gw q true=true:=by
  have:=hall 0 (by rw[hq];simp)
  simp only[hq,List.getElem_cons_zero]at this
  simpa using this
 have hq2:q≠61/\q≠33:=by
  constructor
  ·rintro rfl;exact absurd hqn (by decide)
  ·rintro rfl;exact absurd hqn (by decide)
 have hLq:L=[40,63,60]++q::(xs++62::r):=by rw[hL,hq];rfl
 have hn:aQ 1 L 0=fT L 3:=by rw[hL];rfl
 rw[<- hL,hn]
 refine⟨?_,?_⟩
 ·unfold fT
  rw[pg (k:=3) hLq rfl hq2.1,pg (k:=3) hLq rfl hq2.2,hnm]
  simp only[Bool.false_eq_true,if_false]
  rw[if_neg (by rw[hq];simp),jP (A:=[40,63,60]++pt s.data.toList) (X:=r) (by rw[hL];simp) (by simp;omega),if_pos rfl,DK,bV]
 ·rw [ByteArray.toList_eq]
  intro e
  have:=congrArg List.length e
  rw[hsz]at this
  have h0:s.size=0:=this
  omega
end Go.Proofs.YtklbbbldalmnbaaGreatDoor.TK
namespace Go.Proofs.YtklbbbldalmnbaaGreatDoor.Pa
open TR (Tr cP cW cK bO de)
open TK (pt cY bV aQ)
variable {N : de}
structure pM(t:Tr)(c c1:Int×List Int):Prop where
 kind:1<=t.kind/\t.kind<=18
 kids:cK t=true
 fields:bO t=true
 set:TR.Tr.set t |>.length |> fun n=>n<=400
 canon:Canon t.set
 rep:t.kind=12->(0<=t.least/\t.least<=100)/\(t.an= -1\/(t.least<=t.an/\t.an<=100))/\1<=t.bB/\t.bB<=3
 og:t.kind=11->t.num=c.1+1/\c1=(c.1+1,c.2)
 ag:t.kind=18->c1=(c.1,c.2++[t.num])
 same:t.kind≠11->t.kind≠18->c1=c
theorem dN{t:Tr}{c c':Int×List Int}(h:cP t c=.ok c'):∃c1,pM t c c1/\TR.cG t.kids c1=.ok c':=by
 rw[TR.fp]at h
 cases hn:cW t c with
 |error z=>rw[hn]at h;cases h
 |ok c1=>
  rw[hn]at h
  refine⟨c1,?_,h⟩
  unfold cW at hn
  split at hn
  ·cases hn
  ·rename_i hk
   split at hn
   ·cases hn
   ·rename_i hkf
    have hkf2:cK t=true/\bO t=true:=by
     cases h1:cK t<;>cases h2:bO t<;>simp[h1,h2]at hkf |-
    split at hn
    ·cases hn
    ·rename_i hc
     obtain⟨hs,hcan⟩:=fR.1 (Classical.not_not.1 hc)
     have hk2:1<=t.kind/\t.kind<=18:=Classical.not_not.1 hk
     split at hn
     ·rename_i h12
      split at hn
      ·rename_i hr
       cases hn
       refine⟨hk2,hkf2.1,hkf2.2,hs,hcan,fun _=>?_,fun h=>absurd (h12.symm.trans h) (by decide),fun h=>absurd (h12.symm.trans h) (by decide),fun _ _=>rfl⟩
       unfold TR.mR at hr
       split at hr
       ·cases hr
       ·rename_i r1
        split at hr
        ·cases hr
        ·rename_i r2
         split at hr
         ·cases hr
         ·rename_i r3
          omega
      ·cases hn
     ·rename_i h12
      split at hn
      ·rename_i h11
       split at hn
       ·rename_i hnum
        cases hn
        exact⟨hk2,hkf2.1,hkf2.2,hs,hcan,fun h=>absurd h h12,fun _=>⟨hnum,rfl⟩,fun h=>absurd (h11.symm.trans h) (by decide),fun h _=>absurd h11 h⟩
       ·cases hn
      ·rename_i h11
       split at hn
       ·rename_i h18
        cases hn
        exact⟨hk2,hkf2.1,hkf2.2,hs,hcan,fun h=>absurd h h12,fun h=>absurd h h11,fun _=>rfl,fun _ h=>absurd h18 h⟩
       ·rename_i h18
        cases hn
        exact⟨hk2,hkf2.1,hkf2.2,hs,hcan,fun h=>absurd h h12,fun h=>absurd h h11,fun h=>absurd h h18,fun _ _=>rfl⟩
theorem eC{t:Tr}{ts:List Tr}{c c':Int×List Int}(h:TR.cG (t::ts) c=.ok c'):∃c1,cP t c=.ok c1/\TR.cG ts c1=.ok c':=by
 unfold TR.cG at h
 cases hn:cP t c with
 |error z=>rw[hn]at h;cases h
 |ok c1=>rw[hn]at h;exact⟨c1,rfl,h⟩
theorem gW{c c':Int×List Int}(h:TR.cG [] c=.ok c'):c'=c:=by cases h;rfl
theorem pM.one{t:Tr}{c c1:Int×List Int}(h:pM t c c1)(hk:11<=t.kind/\t.kind<=17):∃u,t.kids=[u]:=by
 have h1:=h.kids
 unfold cK at h1
 rw[if_neg (by omega),if_neg (by omega),if_pos hk]at h1
 exact List.length_eq_one_iff.1 (by simpa using h1)
theorem pM.none{t:Tr}{c c1:Int×List Int}(h:pM t c c1)(hk:t.kind<=8\/t.kind=18):t.kids=[]:=by
 have h1:=h.kids
 unfold cK at h1
 rw[if_neg (by omega),if_neg (by omega),if_neg (by omega)]at h1
 exact List.eq_nil_of_length_eq_zero (by simpa using h1)
mutual
theorem Ev:∀(t:Tr) (c c':Int×List Int),cP t c=.ok c'->∃B,c'.2=c.2++B
 | .mk k a b d e f S ks,c,c',h=>by
  obtain⟨c1,n1,h1⟩:=dN h
  obtain⟨B,hB⟩:=ec ks c1 c' h1
  by_cases h18:k=18
  ·have :=n1.ag h18
   rw[this]at hB
   exact⟨_,hB.trans (List.append_assoc _ _ _)⟩
  ·by_cases h11:k=11
   ·have :=(n1.og h11).2
    rw[this]at hB
    exact⟨B,hB⟩
   ·have :=n1.same h11 h18
    rw[this]at hB
    exact⟨B,hB⟩
theorem ec:∀(ts:List Tr) (c c':Int×List Int),TR.cG ts c=.ok c'->∃B,c'.2=c.2++B
 |[],c,c',h=>⟨[],by rw[gW h];simp⟩
 |t::ts,c,c',h=>by
  obtain⟨c1,h1,h2⟩:=eC h
  obtain⟨B,hB⟩:=Ev t c c1 h1
  obtain⟨D,hD⟩:=ec ts c1 c' h2
  exact⟨B++D,by rw[hD,hB,List.append_assoc]⟩
end
def jV(N:de):Prop:=∀n∈N,TR.uE n.1=true
def Cu(c:Int×List Int):Prop:=∀a∈c.2,1<=a/\a<=20
theorem Cu.of{c c':Int×List Int}(h:Cu c'){B:List Int}(hB:c'.2=c.2++B):Cu c:=fun a ha=>h a (by rw[hB];simp[ha])
def ei(T:List Int):Prop:=(∃q s,T=q::s/\q≠63/\q≠43)/\∀Y,∃tk k,aQ 1 (T++Y) 0=.ok (tk,k)/\tk.kind≠6/\tk.kind≠8/\tk.kind≠9/\tk.kind≠11
theorem ei.app{T:List Int}(h:ei T)(X:List Int):ei (T++X):=by
 obtain⟨⟨q,s,h1,h2⟩,h3⟩:=h
 exact⟨⟨q,s++X,by rw[h1];rfl,h2⟩,fun Y=>by rw[List.append_assoc];exact h3 _⟩
theorem lV(T:List Int):ei ([40,63,58]++T):=⟨⟨40,_,rfl,by decide,by decide⟩,fun Y=>⟨TK.aR 1,3,rfl,by decide,by decide,by decide,by decide⟩⟩
theorem sr(hN:jV N){num:Int}{q:Int}{X:List Int}(hq:q≠63):∃tx:ByteArray,aQ 1 (pt (TR.gA N num)++q::X) 0=.ok ({ kind:=7,num:=11,text:=tx },(TR.gA N num).length)/\((∃n∈N,n.2=num/\tx=n.1/\tx.toList≠[])\/((∀n∈N,n.2≠num)/\tx.toList=[])):=by
 unfold TR.gA
 split
 ·rename_i x hx
  have h1:=List.find?_some hx
  have h2:=List.mem_of_find?_eq_some hx
  obtain⟨k1,k2⟩:=TK.yd (r:=q::X) (hN x h2)
  refine⟨x.1,?_,.inl ⟨x,h2,by simpa using h1,rfl,k2⟩⟩
  have e:pt ([40,63,60]++(x.1.data.toList++[62]))++q::X=[40,63,60]++(pt x.1.data.toList++(62::q::X)):=by
   simp only[cY]
   simp[pt]
  rw[e,k1]
  simp[Nat.add_comm]
  omega
 ·rename_i hx
  refine⟨⟨#[]⟩,?_,.inr ⟨fun n hn e=>?_,by rw[ByteArray.toList_eq]⟩⟩
  ·show TK.dk 1 (40::q::X) 1=_
   unfold TK.dk
   rw[if_neg (by decide),if_pos (TK.pg (L:=40::q::X) (k:=1) (A:=[40]) (X:=X) rfl rfl hq)]
   rfl
  ·rw [List.find?_eq_none]at hx
   exact hx n hn (by simpa using e)
theorem s7{k num:Int}(hk:13<=k/\k<=17)(X:List Int):aQ 1 (pt (TR.aR N k num)++X) 0=.ok (TK.aR k,(TR.aR N k num).length):=by
 rcases(by omega:k=13\/k=14\/k=15\/k=16\/k=17)with rfl|rfl|rfl|rfl|rfl<;>rfl
theorem qf{num:Int}:TR.aR N 11 num=TR.gA N num:=rfl
theorem Ce(num:Int):∃s,pt (TR.gA N num)=40::s:=by
 unfold TR.gA
 split
 ·exact⟨_,rfl⟩
 ·exact⟨_,rfl⟩
theorem pd{ts:List Tr}{u:Tr}(h:u∈ts):fL u<=fj ts:=by
 induction ts with
 |nil=>cases h
 |cons t ts ih=>
  rw[fj]
  rcases List.mem_cons.1 h with rfl|h
  ·omega
  ·have:=ih h;omega
theorem kE(hN:jV N):∀(n:Nat) (t:Tr) (c c':Int×List Int),fL t<=n->cP t c=.ok c'->Cu c'->ei (sh N t):=by
 intro n
 induction n with
 |zero=>intro t c c' hs;rw[eD]at hs;omega
 |succ n ih=>
  intro t c c' hs h hA
  obtain⟨c1,hn,hk⟩:=dN h
  obtain⟨B1,hB1⟩:=ec _ _ _ hk
  rw[eD]at hs
  have hkind:=hn.kind
  by_cases h2:t.kind=2
  ·rw [xV t h2]
   split<;>exact⟨⟨91,_,rfl,by decide,by decide⟩,fun Y=>⟨{ kind:=5 },1,rfl,by decide,by decide,by decide,by decide⟩⟩
  ·by_cases hsg:t.kind=1\/(3<=t.kind/\t.kind<=8)
   ·rw [uw t hsg]
    rcases(by omega:t.kind=1\/t.kind=3\/t.kind=4\/t.kind=5\/t.kind=6\/t.kind=7\/t.kind=8)with e|e|e|e|e|e|e<;>rw[e]
    ·exact⟨⟨40,_,rfl,by decide,by decide⟩,fun Y=>⟨TK.aR 1,3,rfl,by decide,by decide,by decide,by decide⟩⟩
    ·exact⟨⟨94,_,rfl,by decide,by decide⟩,fun Y=>⟨TK.bn 3,1,rfl,by decide,by decide,by decide,by decide⟩⟩
    ·exact⟨⟨36,_,rfl,by decide,by decide⟩,fun Y=>⟨TK.bn 4,1,rfl,by decide,by decide,by decide,by decide⟩⟩
    ·exact⟨⟨92,_,rfl,by decide,by decide⟩,fun Y=>⟨TK.bn 5,2,rfl,by decide,by decide,by decide,by decide⟩⟩
    ·exact⟨⟨92,_,rfl,by decide,by decide⟩,fun Y=>⟨TK.bn 6,2,rfl,by decide,by decide,by decide,by decide⟩⟩
    ·exact⟨⟨92,_,rfl,by decide,by decide⟩,fun Y=>⟨TK.bn 7,2,rfl,by decide,by decide,by decide,by decide⟩⟩
    ·exact⟨⟨92,_,rfl,by decide,by decide⟩,fun Y=>⟨TK.bn 8,2,rfl,by decide,by decide,by decide,by decide⟩⟩
   ·by_cases h18:t.kind=18
    ·rw [vy t h18]
     have hnum:1<=t.num/\t.num<=20:=hA t.num (by rw[hB1,hn.ag h18];simp)
     unfold TR.CO
     split
     ·exact⟨⟨40,_,rfl,by decide,by decide⟩,fun Y=>⟨{ kind:=7,num:=1,fold:=1 },4,rfl,by decide,by decide,by decide,by decide⟩⟩
     ·refine ⟨⟨92,_,rfl,by decide,by decide⟩,fun Y=>⟨TK.aP (t.num.toNat:Nat),3+(Go.Lib.decDigits t.num.toNat).length+1,?_,?_⟩⟩
      ·have :=TK.ma (u:=t.num.toNat) (r:=Y) (by omega) (by omega)
       rw[<- this]
       simp[pt]
      ·exact⟨by simp[TK.aP],by simp[TK.aP],by simp[TK.aP],by simp[TK.aP]⟩
    ·by_cases h9:t.kind=9
     ·rw [Fc t h9]
      have h1:=hn.kids
      unfold cK at h1
      rw[if_pos h9]at h1
      cases hks:t.kids with
      |nil=>rw[hks]at h1;simp at h1
      |cons k ks=>
       rw[hks]at hk hs
       obtain⟨c2,h3,h4⟩:=eC hk
       obtain⟨B2,hB2⟩:=ec _ _ _ h4
       rw[List.flatMap_cons]
       refine ei.app ?_ _
       unfold sL kP
       split
       ·exact lV _
       ·exact ih k c1 c2 (by rw[fj]at hs;omega) h3 (hA.of hB2)
     ·by_cases h10:t.kind=10
      ·have h1:=hn.kids
       unfold cK at h1
       rw[if_neg (by omega),if_pos h10]at h1
       cases hks:t.kids with
       |nil=>rw[hks]at h1;simp at h1
       |cons k ks=>
        rw[sf t h10 k ks hks]
        rw[hks]at hk hs
        obtain⟨c2,h3,h4⟩:=eC hk
        obtain⟨B2,hB2⟩:=ec _ _ _ h4
        exact ei.app (ih k c1 c2 (by rw[fj]at hs;omega) h3 (hA.of hB2)) _
      ·obtain ⟨u,hu⟩:=hn.one (by omega)
       rw[hu]at hk hs
       obtain⟨c2,h3,h4⟩:=eC hk
       obtain⟨B2,hB2⟩:=ec _ _ _ h4
       have hfu:=ih u c1 c2 (by rw[fj]at hs;omega) h3 (hA.of hB2)
       by_cases h12:t.kind=12
       ·rw [DU t u h12 hu]
        refine ei.app ?_ _
        unfold kP
        split
        ·exact lV _
        ·exact hfu
       ·rw [zG t u (by omega) hu]
        by_cases h11:t.kind=11
        ·rw [h11,qf]
         obtain⟨s,hs2⟩:=Ce (N:=N) t.num
         obtain⟨⟨q,s',hq,hq2,hq3⟩,_⟩:=hfu
         refine⟨⟨40,s++(sh N u++[41]),by rw[hs2];rfl,by decide,by decide⟩,fun Y=>?_⟩
         obtain⟨tx,e, -⟩:=sr (num:=t.num) (X:=s'++([41]++Y)) hN hq2
         refine⟨{ kind:=7,num:=11,text:=tx },(TR.gA N t.num).length,?_,by simp,by simp,by simp,by simp⟩
         rw[<- e,hq]
         simp
        ·have hk2:13<=t.kind/\t.kind<=17:=by omega
         refine⟨?_,fun Y=>⟨TK.aR t.kind,(TR.aR N t.kind t.num).length,by rw[List.append_assoc];exact s7 hk2 _,by simp[TK.aR],by simp[TK.aR],by simp[TK.aR],by simp[TK.aR]⟩⟩
         rcases(by omega:t.kind=13\/t.kind=14\/t.kind=15\/t.kind=16\/t.kind=17)with e|e|e|e|e<;>rw[e]<;>exact⟨40,_,rfl,by decide,by decide⟩
end Go.Proofs.YtklbbbldalmnbaaGreatDoor.Pa
namespace Go.Proofs.YtklbbbldalmnbaaGreatDoor.Pa
open TR (Tr)
open Br (BE PS)
variable {d : Int} {l : List Int} {g : Nat} {s s' z : St}
def xD{α:Type}(R:Except BE α)(P:α->Prop):Prop:=(∃x,R=.ok x/\P x)\/∃a,R=.error (2,a)
def JF(names:List Nm)(a:Ag):Int:=if a.name.toList=[]then a.num else(match names.find? (fun m=>m.1.toList==a.name.toList)with|some m=>m.2|none=>0)
theorem BA(names:List Nm)(gr:Nat)(a:Ag)(A:List Ag):di names gr (a::A)=if JF names a<1\/(gr:Int)<JF names a then .error (5,(a.pos:Int))else match di names gr A with
  | .error e=>.error e
  | .ok ns=>.ok (JF names a::ns):=rfl
end Go.Proofs.YtklbbbldalmnbaaGreatDoor.Pa
namespace Go.Proofs.YtklbbbldalmnbaaGreatDoor.Pa
open TR (Tr cP cW cK bO de)
open TK (pt cY bV aQ)
open Br (BE PS)
variable {N : de} {l A X : List Int} {s : St}
structure oX(N:de)(s:St)(c:Int×List Int):Prop where
 og:(s.aF:Int)=c.1
 jf:s.ay.map Ag.num=c.2
 Jr:∀a∈s.ay,a.name.toList=[]
 jA:s.names=N.filter fun n=>decide (n.2<=c.1)
theorem oX.same{z:St}{c:Int×List Int}(h:oX N s c)(h1:z.aF=s.aF)(h2:z.ay=s.ay)(h3:z.names=s.names):oX N z c:=⟨by rw[h1];exact h.og,by rw[h2];exact h.jf,by rw[h2];exact h.Jr,by rw[h3];exact h.jA⟩
structure On(l:List Int)(s:St)(j:Nat):Prop where
 pos:s.pos=j
 tok:(j=l.length/\s.tok={})\/aQ 1 l j=.ok (s.tok,s.next)
def yv(X:List Int):Prop:=X=[]\/∃tk k,aQ 1 X 0=.ok (tk,k)
theorem ei.Jg{T:List Int}(h:ei T)(Y:List Int):yv (T++Y):=by
 obtain⟨tk,k,e,_⟩:=h.2 Y
 exact .inr ⟨tk,k,e⟩
theorem oY{j:Nat}{x:TK.Tok×Nat}(h:aQ 1 l j=.ok x):j<l.length:=by
 unfold aQ at h
 cases hg:l[j]? with
 |none=>rw[hg]at h;cases h
 |some p=>exact(List.getElem?_eq_some_iff.1 hg).1
theorem cS{tk:TK.Tok}{k:Nat}(hL:l=A++X)(h:On l s A.length)(hx:aQ 1 X 0=.ok (tk,k)):s.tok=tk/\s.next=A.length+k:=by
 have h1:=TK.iX A hx
 rw[<- hL]at h1
 rcases h.tok with⟨h2,_⟩|h2
 ·have:=oY h1;omega
 ·rw [h1]at h2
  injection h2 with h2
  injection h2 with h2 h3
  exact⟨h2.symm,h3.symm⟩
theorem tw(hL:l=A++X)(h:On l s A.length)(hx:X=[]):s.tok={}:=by
 rcases h.tok with⟨_,h2⟩|h2
 ·exact h2
 ·have :=oY h2
  rw[hL,hx]at this
  simp at this
theorem iE(hL:l=A++X)(hn:s.next=A.length)(hr:yv X):∃tk k,dH 1 l s=.ok { s with tok:=tk,pos:=A.length,next:=k }/\On l { s with tok:=tk,pos:=A.length,next:=k } A.length:=by
 rcases hr with rfl|⟨tk,k,hx⟩
 ·refine ⟨{},A.length,?_,rfl,.inl ⟨by rw[hL];simp,rfl⟩⟩
  unfold dH
  rw[if_pos (by rw[hn,hL];simp),hn]
 ·have h1:=TK.iX A hx
  rw[<- hL]at h1
  refine⟨tk,A.length+k,?_,rfl,.inr h1⟩
  unfold dH
  rw[hn,if_neg (by have:=oY h1;omega),h1]
structure JI(N:de)(l:List Int)(t:Tr)(c:Int×List Int)(fo:Bool)(j:Nat)(x:Tr×St):Prop where
 on:On l x.2 j
 uH:oX N x.2 c
 fo:x.2.aD=fo
 set:∀R,bq (c.2++R) x.1=t
 kind:x.1.kind=t.kind
def jb(N:de)(t:Tr)(T:List Int):Prop:=∀(l A X:List Int) (s:St) (c c':Int×List Int) (m:Nat),TK.cq 1 l=0->l=A++(T++X)->On l s A.length->s.aD=false->oX N s c->cP t c=.ok c'->Cu c'->yv X->xD (dy 1 l (bf 1 l m) s) (JI N l t c' false (A.length+T.length))
def iS(N:de)(t:Tr):Prop:=∀(l A X:List Int) (s:St) (c c':Int×List Int) (m:Nat),TK.cq 1 l=0->l=A++(sh N t++X)->(X=[]\/∃r,X=41::r)->On l s A.length->oX N s c->cP t c=.ok c'->Cu c'->xD (bf 1 l m false s) (JI N l t c' s.aD (A.length+(sh N t).length))
theorem pM.tq{t:Tr}{c c1:Int×List Int}(h:pM t c c1):(t.kind≠2->t.set=[])/\(t.kind≠11->t.kind≠18->t.num=0)/\(t.kind≠12->t.least=0/\t.an=0/\t.bB=0)/\(t.kind≠18->t.fold=false):=by
 have hf:=h.fields
 unfold bO at hf
 simp only[Bool.and_eq_true,Bool.or_eq_true,decide_eq_true_eq,Bool.not_eq_true']at hf
 obtain⟨⟨⟨⟨⟨f1,f2⟩,f3⟩,f4⟩,f5⟩,f6⟩:=hf
 refine⟨fun h=>?_,fun h1 h2=>?_,fun h=>⟨?_,?_,?_⟩,fun h=>?_⟩
 ·exact List.eq_nil_of_length_eq_zero (f1.resolve_left h)
 ·rcases f2 with(f|f)|f
  ·exact absurd f h1
  ·exact absurd f h2
  ·exact f
 ·exact f3.resolve_left h
 ·exact f4.resolve_left h
 ·exact f5.resolve_left h
 ·exact f6.resolve_left h
theorem jJ(t:Tr):t=.mk t.kind t.num t.least t.an t.bB t.fold t.set t.kids:=by cases t;rfl
theorem iL(ns:List Int){k:Int}(n:Int)(h:k≠18):oR ns k n=n:=by unfold oR;rw[if_neg h]
theorem nG{rec:Rd}{tk:TK.Tok}{k:Nat}{T:List Int}{u t:Tr}{c':Int×List Int}{z:St}(hL:l=A++(T++X))(hon:On l s A.length)(htk:aQ 1 (T++X) 0=.ok (tk,k))(h67:tk.kind≠6/\tk.kind≠7)
  (hsingle:cJ 1 l s=.ok (u,z)) (hz:z.next=A.length+T.length) (hzf:z.aD=false) (hsim:oX N z c') (hset:∀R,bq (c'.2++R) u=t) (hkind:u.kind=t.kind) (hr:yv X):xD (dy 1 l rec s) (JI N l t c' false (A.length+T.length)):=by
 obtain⟨e1,e2⟩:=cS hL hon htk
 unfold dy
 rw[e1,if_neg h67.1,if_neg h67.2,hsingle]
 simp only
 have hL2:l=(A++T)++X:=by rw[hL,List.append_assoc]
 have hlen:A.length+T.length=(A++T).length:=by rw[List.length_append]
 obtain⟨t2,k3,e3,o3⟩:=iE hL2 (hz.trans hlen) hr
 rw[e3]
 refine .inl ⟨_,rfl,?_,hsim.same rfl rfl rfl,hzf,hset,hkind⟩
 rw[hlen]
 exact o3
theorem oZ{u:Tr}{O:List Int}{tk:TK.Tok}{c1 c':Int×List Int}{m:Nat}{num:Int}(hpe:TK.cq 1 l=0)(hB:iS N u)(hF:ei (sh N u))(hL:l=A++(O++(sh N u++41::X)))(hO:aQ 1 (O++(sh N u++41::X)) 0=.ok (tk,O.length))(hfold:tk.fold=0)
  (hon:On l s A.length) (hfo:s.aD=false) (hbeg:xD (if tk.num=11 then cZ s tk.text else .ok s) fun s1=>oX N s1 c1/\s1.next=s.next/\s1.aD=false/\(tk.num=11->(s1.aF:Int)=num)) (hc:cP u c1=.ok c') (hA:Cu c') (hr:yv X):
  xD (cd 1 l (bf 1 l m) s) fun x=>On l x.2 (A.length+(O++(sh N u++[41])).length)/\oX N x.2 c'/\x.2.aD=false/\∃u',(∀R,bq (c'.2++R) u'=u)/\u'.kind=u.kind/\x.1=if tk.num=1 then u' else .mk tk.num (if tk.num=11 then num else 0) 0 0 0 false [] [u']:=by
 obtain⟨e1,e2⟩:=cS hL hon hO
 unfold cd
 by_cases h20:s.deep=20
 ·exact .inr ⟨_,if_pos h20⟩
 ·rw [if_neg h20,e1]
  rcases hbeg with⟨s1,e3,hs1,hn1,hf1,hg1⟩|⟨a,e3⟩
  ·rw [e3]
   simp only
   have hL2:l=(A++O)++(sh N u++41::X):=by rw[hL];simp
   obtain⟨t2,k2,e4,o4⟩:=iE (s:=s1) hL2 (by rw[hn1,e2,List.length_append]) (hF.Jg _)
   rw[e4]
   simp only
   have hfb:bw { s1 with tok:=t2,pos:=(A++O).length,next:=k2 } tk.fold=false:=by
    unfold bw
    rw[if_pos hfold]
    exact hf1
   rw[hfb]
   have hrec:=hB l (A++O) (41::X) { { s1 with tok:=t2,pos:=(A++O).length,next:=k2 } with deep:=s1.deep+1 } c1 c' m hpe hL2 (.inr ⟨X,rfl⟩) ⟨o4.pos,o4.tok⟩ (hs1.same rfl rfl rfl) hc hA
   rcases hrec with⟨⟨u',z3⟩,e5,g5⟩|⟨a,e5⟩
   ·rw [e5]
    simp only
    have hL3:l=(A++O++sh N u)++(41::X):=by rw[hL];simp
    have hlen3:(A++O).length+(sh N u).length=(A++O++sh N u).length:=by simp only[List.length_append]
    have o5:On l z3 (A++O++sh N u).length:=by rw[<- hlen3];exact g5.on
    obtain⟨e6,e7⟩:=cS (tk:={ kind:=8 }) (k:=1) hL3 o5 rfl
    rw[if_neg (by rw[e6];decide)]
    have hL4:l=(A++O++sh N u++[41])++X:=by rw[hL];simp
    obtain⟨t4,k4,e8,o8⟩:=iE (s:={ z3 with deep:=z3.deep - 1 }) hL4 (by show z3.next=_;rw[e7];simp only[List.length_append,List.length_singleton]) hr
    rw[e8]
    simp only
    have hj:(A++O++sh N u++[41]).length=A.length+(O++(sh N u++[41])).length:=by simp only[List.length_append];omega
    rw[hj]at o8 |-
    have hsim:oX N { { z3 with deep:=z3.deep - 1 } with tok:=t4,pos:=A.length+(O++(sh N u++[41])).length,next:=k4 } c':=g5.uH.same rfl rfl rfl
    have hfz:z3.aD=false:=g5.fo.trans hf1
    by_cases hn:tk.num=1
    ·rw [if_pos hn]
     exact .inl ⟨_,rfl,o8,hsim,hfz,u',g5.set,g5.kind,by rw[if_pos hn]⟩
    ·rw [if_neg hn]
     refine .inl ⟨_,rfl,o8,hsim,hfz,u',g5.set,g5.kind,?_⟩
     rw[if_neg hn]
     by_cases h11:tk.num=11
     ·rw[if_pos h11,if_pos h11,hg1 h11]
     ·rw[if_neg h11,if_neg h11]
   ·rw [e5]
    exact .inr ⟨a,rfl⟩
  ·rw [e3]
   exact .inr ⟨a,rfl⟩
theorem sw{u:Tr}(hB:iS N u)(hF:ei (sh N u)):jb N u ([40,63,58]++(sh N u++[41])):=by
 intro l A X s c c' m hpe hL hon hfo hsim hc hA hr
 have hL2:l=A++([40,63,58]++(sh N u++41::X)):=by rw[hL];simp
 have hO:aQ 1 ([40,63,58]++(sh N u++41::X)) 0=.ok (TK.aR 1,3):=rfl
 obtain⟨e1,e2⟩:=cS hL2 hon hO
 unfold dy
 rw[e1,if_neg (by decide),if_pos (show(TK.aR 1).kind=7 from rfl)]
 rcases oZ (num:=0) (m:=m) hpe hB hF hL2 hO rfl hon hfo (.inl ⟨s,rfl,hsim,rfl,hfo,fun h=>absurd h (by decide)⟩) hc hA hr with⟨x,e,o,sm,f,u',h1,h2,h3⟩|⟨a,e⟩
 ·refine .inl ⟨x,e,o,sm,f,?_,?_⟩
  ·rw[h3];exact h1
  ·rw[h3];exact h2
 ·exact .inr ⟨a,e⟩
end Go.Proofs.YtklbbbldalmnbaaGreatDoor.Pa
