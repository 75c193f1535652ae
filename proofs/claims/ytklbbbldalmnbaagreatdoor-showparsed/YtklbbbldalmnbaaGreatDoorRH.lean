import Derived.Test.YtklbbbldalmnbaaGreatDoorRD
import Derived.Test.YtklbbbldalmnbaaGreatDoorKL
import Derived.Test.YtklbbbldalmnbaaGreatDoorLC
import Derived.Test.YtklbbbldalmnbaaGreatDoorMD
import Derived.Test.YtklbbbldalmnbaaGreatDoorRA
import Derived.Test.YtklbbbldalmnbaaGreatDoorRB
import Derived.Test.YtklbbbldalmnbaaGreatDoorMY
import Derived.Test.YtklbbbldalmnbaaGreatDoorMN
import Derived.Test.YtklbbbldalmnbaaGreatDoorMO
set_option linter.unusedVariables false
namespace Go.Proofs.YtklbbbldalmnbaaGreatDoor.TK
open Go.Lib
open TR (hexDigits im)
def pt(bs:List UInt8):List Int:=bs.map fun b=>(b.toNat:Int)
theorem dt(a b:List UInt8):pt (a++b)=pt a++pt b:=by simp[pt]
theorem cw(a:List UInt8):(pt a).length=a.length:=by simp[pt]
theorem lM(base:Int):∀(ds:List Int) (k:Nat) (rest:List Int) (n:Int) (c:Nat),(∀p∈ds,dM p<base)->ds.length<=k->(k=ds.length\/rest=[]\/∃q r,rest=q::r/\¬dM q<base)->eF base k (ds++rest) n c=(ds.foldl (fun n p=>n*base+dM p) n,c+ds.length)
 |[],k,rest,n,c,_,_,hr=>by
  rw[List.nil_append]
  show _=(n,c+0)
  rcases hr with h|h|⟨q,r,h,hq⟩
  ·obtain rfl:k=0:=h
   rfl
  ·subst h;cases k<;>rfl
  ·subst h
   cases k with
   |zero=>rfl
   |succ k=>unfold eF;rw[if_neg hq];rfl
 |p::ds,0,rest,n,c,_,hk,_=>by simp at hk
 |p::ds,k+1,rest,n,c,hd,hk,hr=>by
  rw[List.cons_append]
  unfold eF
  rw[if_pos (hd p (by simp)),lM base ds k rest _ _ (fun q hq=>hd q (by simp[hq])) (by simpa using hk) (by
   rcases hr with h|h|h
   ·exact .inl (by simpa using h)
   ·exact .inr (.inl h)
   ·exact .inr (.inr h))]
  simp only[List.foldl_cons,List.length_cons,Prod.mk.injEq,true_and]
  omega
theorem AR(d:Nat)(h:d<10):(((UInt8.ofNat (48+d)).toNat:Nat):Int)=48+d/\dM (((UInt8.ofNat (48+d)).toNat:Nat):Int)=d:=by
 rcases(by omega:d=0\/d=1\/d=2\/d=3\/d=4\/d=5\/d=6\/d=7\/d=8\/d=9)with rfl|rfl|rfl|rfl|rfl|rfl|rfl|rfl|rfl|rfl<;>decide
theorem AZ(d:Nat)(h:d<16):dM (((im d).toNat:Nat):Int)=d:=by
 rcases(by omega:d=0\/d=1\/d=2\/d=3\/d=4\/d=5\/d=6\/d=7\/d=8\/d=9\/d=10\/d=11\/d=12\/d=13\/d=14\/d=15)with rfl|rfl|rfl|rfl|rfl|rfl|rfl|rfl|rfl|rfl|rfl|rfl|rfl|rfl|rfl|rfl<;>decide
theorem AQ(u:Nat):(∀p∈pt (decDigits u),dM p<10/\48<=p/\p<=57)/\(pt (decDigits u)).foldl (fun n p=>n*10+dM p) 0=(u:Int):=by
 induction u using Nat.strongRecOn with
 |_ u ih=>
  by_cases h:u<10
  ·obtain ⟨h1,h2⟩:=AR u h
   rw[decDigits,dif_pos h]
   refine⟨fun p hp=>?_,?_⟩
   ·simp only[pt,List.map_cons,List.map_nil,List.mem_singleton]at hp
    subst hp
    rw[h2,h1];omega
   ·simp only[pt,List.map_cons,List.map_nil,List.foldl_cons,List.foldl_nil]
    rw[h2];omega
  ·obtain ⟨h1,h2⟩:=AR (u % 10) (by omega)
   obtain⟨i1,i2⟩:=ih (u / 10) (by omega)
   rw[decDigits,dif_neg h,dt]
   refine⟨fun p hp=>?_,?_⟩
   ·rcases List.mem_append.1 hp with hp|hp
    ·exact i1 p hp
    ·simp only[pt,List.map_cons,List.map_nil,List.mem_singleton]at hp
     subst hp
     rw[h2,h1];omega
   ·rw [List.foldl_append,i2]
    simp only[pt,List.map_cons,List.map_nil,List.foldl_cons,List.foldl_nil]
    rw[h2];omega
theorem Hh(u:Nat):(∀p∈pt (hexDigits u),dM p<16)/\(pt (hexDigits u)).foldl (fun n p=>n*16+dM p) 0=(u:Int):=by
 induction u using Nat.strongRecOn with
 |_ u ih=>
  by_cases h:u<16
  ·have h2:=AZ u h
   rw[hexDigits,dif_pos h]
   refine⟨fun p hp=>?_,?_⟩
   ·simp only[pt,List.map_cons,List.map_nil,List.mem_singleton]at hp
    subst hp
    rw[h2];omega
   ·simp only[pt,List.map_cons,List.map_nil,List.foldl_cons,List.foldl_nil]
    rw[h2];omega
  ·have h2:=AZ (u % 16) (by omega)
   obtain⟨i1,i2⟩:=ih (u / 16) (by omega)
   rw[hexDigits,dif_neg h,dt]
   refine⟨fun p hp=>?_,?_⟩
   ·rcases List.mem_append.1 hp with hp|hp
    ·exact i1 p hp
    ·simp only[pt,List.map_cons,List.map_nil,List.mem_singleton]at hp
     subst hp
     rw[h2];omega
   ·rw [List.foldl_append,i2]
    simp only[pt,List.map_cons,List.map_nil,List.foldl_cons,List.foldl_nil]
    rw[h2];omega
theorem AS:∀(k u:Nat),u<10 ^ (k+1)->1<=(decDigits u).length/\(decDigits u).length<=k+1
 |0,u,h=>by rw[decDigits,dif_pos (by simpa using h)];simp
 |k+1,u,h=>by
  by_cases h1:u<10
  ·rw[decDigits,dif_pos h1];simp
  ·have :=AS k (u / 10) (by rw[Nat.pow_succ]at h;omega)
   rw[decDigits,dif_neg h1];simp;omega
theorem pH:∀(k u:Nat),u<16 ^ (k+1)->1<=(hexDigits u).length/\(hexDigits u).length<=k+1
 |0,u,h=>by rw[hexDigits,dif_pos (by simpa using h)];simp
 |k+1,u,h=>by
  by_cases h1:u<16
  ·rw[hexDigits,dif_pos h1];simp
  ·have :=pH k (u / 16) (by rw[Nat.pow_succ]at h;omega)
   rw[hexDigits,dif_neg h1];simp;omega
theorem qG{l rest:List Int}{i u:Nat}(hu:u<=999)(h:l.drop i=pt (decDigits u)++rest)(hr:rest=[]\/∃q r,rest=q::r/\¬dM q<10):cZ 10 3 l i=((u:Int),(decDigits u).length)/\1<=(decDigits u).length:=by
 obtain⟨h1,h2⟩:=AQ u
 obtain⟨h3,h4⟩:=AS 2 u (by omega)
 unfold cZ
 rw[h,lM 10 _ 3 rest 0 0 (fun p hp=>(h1 p hp).1) (by rw[cw];omega) (.inr hr),h2,cw]
 exact⟨by simp,h3⟩
theorem Ek{l rest:List Int}{i u:Nat}(hu:u<=1114111)(h:l.drop i=pt (hexDigits u)++rest)(hr:rest=[]\/∃q r,rest=q::r/\¬dM q<16):cZ 16 6 l i=((u:Int),(hexDigits u).length)/\1<=(hexDigits u).length:=by
 obtain⟨h1,h2⟩:=Hh u
 obtain⟨h3,h4⟩:=pH 5 u (by omega)
 unfold cZ
 rw[h,lM 16 _ 6 rest 0 0 h1 (by rw[cw];omega) (.inr hr),h2,cw]
 exact⟨by simp,h3⟩
theorem je{X:List Int}{t:Tok}{k:Nat}(A:List Int)(h:aV 1 X 0=.ok (t,k)):aV 1 (A++X) A.length=.ok (t,A.length+k):=by
 have:=H7 A X 1 0
 rw[Nat.zero_add,h]at this
 rw[this]
 show Except.ok (t,k+A.length)=_
 rw[Nat.add_comm]
theorem kh{A X L:List Int}{c:Int}{k:Nat}(hL:L=A++c::X)(hk:k=A.length):bw L k [c]=true:=by
 subst hL hk
 rw[nW]
 simp
theorem pS{A X L:List Int}{c q:Int}{k:Nat}(hL:L=A++q::X)(hk:k=A.length)(h:q≠c):bw L k [c]=false:=by
 subst hL hk
 rw[nW]
 simpa using h
theorem Eg(u:Nat):∃q s,pt (decDigits u)=q::s/\48<=q/\q<=57:=by
 cases hc:pt (decDigits u)with
 |nil=>
  have h1:=congrArg List.length hc
  rw[cw]at h1
  rw[decDigits]at h1
  split at h1<;>simp at h1
 |cons q s=>exact⟨q,s,rfl,((AQ u).1 q (by rw[hc];simp)).2⟩
theorem mQ{u:Nat}{r:List Int}(h1:1<=u)(h2:u<=999):aV 1 ([92,107,60]++(pt (decDigits u)++(62::r))) 0=.ok (aU u,3+(decDigits u).length+1):=by
 obtain⟨L,hL⟩:=J ([92,107,60]++(pt (decDigits u)++(62::r)))
 obtain⟨d1,d2⟩:=qG (l:=L) (i:=3) h2 (by rw[hL];rfl) (.inr ⟨62,r,rfl,by decide⟩)
 have hg:bw L (3+(decDigits u).length) [62]=true:=kh (A:=[92,107,60]++pt (decDigits u)) (X:=r) (by rw[hL];simp) (by simp[cw];omega)
 have hb:bw L 3 [45]=false:=by
  obtain⟨q,s,hq,h3,h4⟩:=Eg u
  exact pS (A:=[92,107,60]) (q:=q) (X:=s++62::r) (by rw[hL,hq];rfl) rfl (by omega)
 have h60:bw L 2 [60]=true:=kh (A:=[92,107]) (X:=pt (decDigits u)++62::r) (by rw[hL];rfl) rfl
 have hn:aV 1 L 0=ff L 2:=by rw[hL];rfl
 rw[<- hL,hn]
 unfold ff
 rw[if_neg (by rw[h60];decide)]
 simp only[show 2+1=3 from rfl,hb,Bool.false_eq_true,if_false]
 rw[d1]
 simp only
 rw[if_pos (by omega),if_neg (by rw[hg];decide),if_neg (by omega)]
theorem xd{u:Nat}{r:List Int}(h2:u<=1114111):aV 1 ([92,120,123]++(pt (hexDigits u)++(125::r))) 0=.ok (aR u,3+(hexDigits u).length+1):=by
 obtain⟨L,hL⟩:=J ([92,120,123]++(pt (hexDigits u)++(125::r)))
 obtain⟨d1,d2⟩:=Ek (l:=L) (i:=3) h2 (by rw[hL];rfl) (.inr ⟨125,r,rfl,by decide⟩)
 have hg:bw L (3+(hexDigits u).length) [125]=true:=kh (A:=[92,120,123]++pt (hexDigits u)) (X:=r) (by rw[hL];simp) (by simp[cw];omega)
 have h60:bw L 2 [123]=true:=kh (A:=[92,120]) (X:=pt (hexDigits u)++125::r) (by rw[hL];rfl) rfl
 have hn:aV 1 L 0=fL L 2:=by rw[hL];rfl
 rw[<- hL,hn]
 unfold fL
 rw[if_neg (by rw[h60];decide)]
 simp only[show 2+1=3 from rfl]
 rw[d1]
 simp only
 rw[if_neg (by omega),if_neg (by rw[hg];decide),if_neg (by omega)]
theorem Kf(v:Int):pt (TR.iY v).data.toList=if v=2 then [63]else if v=3 then [43]else []:=by
 unfold TR.iY
 split
 ·rfl
 ·split<;>rfl
def LF(r:List Int):Prop:=r=[]\/∃q s,r=q::s/\q≠63/\q≠43
theorem E8{a b v:Int}{r:List Int}(ha:0<=a/\a<=100)(hb:b= -1\/(a<=b/\b<=100))(hv:1<=v/\v<=3)(hr:LF r):aV 1 (pt (TR.cL a b v)++r) 0=.ok ({ kind:=6,least:=a,ar:=b,bC:=v },(TR.cL a b v).length):=by
 have hT:pt (TR.cL a b v)=[123]++(pt (decDigits a.toNat)++([44]++(pt (TR.gH b)++([125]++pt (TR.iY v).data.toList)))):=by
  unfold TR.cL
  simp only[dt]
  rfl
 have hlen:(TR.cL a b v).length=1+(decDigits a.toNat).length+1+(TR.gH b).length+1+(pt (TR.iY v).data.toList).length:=by
  rw[<- cw,hT]
  simp only[List.length_append,cw,List.length_singleton]
  omega
 obtain⟨L,hL⟩:=J (pt (TR.cL a b v)++r)
 rw[<- hL]
 have hL2:L=[123]++(pt (decDigits a.toNat)++([44]++(pt (TR.gH b)++([125]++(pt (TR.iY v).data.toList++r))))):=by rw[hL,hT];simp
 obtain⟨d1,d2⟩:=qG (l:=L) (i:=1) (u:=a.toNat) (rest:=[44]++(pt (TR.gH b)++([125]++(pt (TR.iY v).data.toList++r)))) (by omega) (by rw[hL2];rfl) (.inr ⟨44,_,rfl,by decide⟩)
 obtain⟨la,hla⟩:=J ((decDigits a.toNat).length)
 rw[<- hla]at d1 d2 hlen
 have hcom:bw L (1+la) [44]=true:=kh (A:=[123]++pt (decDigits a.toNat)) (X:=pt (TR.gH b)++([125]++(pt (TR.iY v).data.toList++r))) (by rw[hL2];simp) (by simp[cw,hla];omega)
 have hdrop:L.drop (1+la+1)=pt (TR.gH b)++([125]++(pt (TR.iY v).data.toList++r)):=by
  rw[show L=([123]++(pt (decDigits a.toNat)++[44]))++(pt (TR.gH b)++([125]++(pt (TR.iY v).data.toList++r))) by rw[hL2];simp,show 1+la+1=([123]++(pt (decDigits a.toNat)++[44]):List Int).length by simp[cw,hla];omega,List.drop_left]
 obtain⟨lb,hlb⟩:=J ((TR.gH b).length)
 rw[<- hlb]at hlen
 have hd2:cZ 10 3 L (1+la+1)=((if b= -1 then 0 else b),lb)/\(b= -1->lb=0)/\(b≠ -1->1<=lb):=by
  by_cases hb1:b= -1
  ·have e:TR.gH b=[]:=by unfold TR.gH;rw[if_neg (by omega)]
   rw[e]at hlb hdrop
   refine⟨?_,fun _=>hlb,fun h=>absurd hb1 h⟩
   unfold cZ
   rw[hdrop,if_pos hb1,hlb]
   have:=lM 10 [] 3 (pt []++([125]++(pt (TR.iY v).data.toList++r))) 0 0 (fun p hp=>by cases hp) (by simp) (.inr (.inr ⟨125,_,rfl,by decide⟩))
   simpa[pt]using this
  ·have e:TR.gH b=decDigits b.toNat:=by unfold TR.gH;rw[if_pos (by omega)]
   rw[e]at hlb hdrop
   obtain⟨k1,k2⟩:=qG (l:=L) (i:=1+la+1) (u:=b.toNat) (by omega) hdrop (.inr ⟨125,_,rfl,by decide⟩)
   rw[k1,if_neg hb1,hlb]
   exact⟨by congr 1;omega,fun h=>absurd h hb1,fun _=>k2⟩
 obtain⟨d3,d4,d5⟩:=hd2
 have hend:bw L (1+la+1+lb) [125]=true:=kh (A:=[123]++(pt (decDigits a.toNat)++([44]++pt (TR.gH b)))) (X:=pt (TR.iY v).data.toList++r) (by rw[hL2];simp) (by simp[cw,hla,hlb];omega)
 have hbd:cC 1 L 1=(a,b,true,1+la+1+lb+1):=by
  unfold cC
  rw[d1]
  simp only[hcom,if_true]
  rw[d3]
  simp only
  rw[if_neg (by omega),if_neg (by decide),hend]
  simp only[if_true,Prod.mk.injEq,and_true]
  refine⟨by omega,?_⟩
  by_cases hb1:b= -1
  ·rw[if_pos (d4 hb1),hb1]
  ·rw[if_neg (by have:=d5 hb1;omega),if_neg hb1]
 have hn:aV 1 L 0=dh 1 L 1:=by rw[hL2];rfl
 have hw:∀c:Int,bw L (1+la+1+lb+1) [c]=((pt (TR.iY v).data.toList++r)[0]? ==some c):=by
  intro c
  rw[nW,show L=([123]++(pt (decDigits a.toNat)++([44]++(pt (TR.gH b)++[125]))))++(pt (TR.iY v).data.toList++r) by rw[hL2];simp,List.getElem?_append_right (by simp[cw,hla,hlb];omega)]
  congr 2
  simp[cw,hla,hlb]
  omega
 rw[hn]
 unfold dh
 rw[hbd]
 simp only[Bool.true_eq_false,if_false]
 rw[if_neg (by omega),if_neg (by omega)]
 unfold cL
 rw[if_pos rfl,hw,hw,hlen,Kf]
 rcases(by omega:v=1\/v=2\/v=3)with rfl|rfl|rfl
 ·have h0:∀c:Int,c=63\/c=43->(r[0]? ==some c)=false:=by
   intro c hc
   rcases hr with rfl|⟨q,s,rfl,h1,h2⟩
   ·rfl
   ·simp only[List.getElem?_cons_zero,beq_eq_false_iff_ne,ne_eq,Option.some.injEq]
    omega
  simp[h0 63 (.inl rfl),h0 43 (.inr rfl)]
 ·simp
 ·simp
end Go.Proofs.YtklbbbldalmnbaaGreatDoor.TK
namespace Go.Proofs.YtklbbbldalmnbaaGreatDoor.Br
open TK (pt dt cw xd)
open TR (hexDigits)
theorem lf{A X L:List Int}{i:Nat}{c:Int}(hL:L=A++c::X)(hi:i=A.length):ba L i [c]=true:=by
 subst hL hi
 simp[ba]
theorem fM{A X L:List Int}{i:Nat}{q c:Int}{cs:List Int}(hL:L=A++q::X)(hi:i=A.length)(h:q≠c):ba L i (c::cs)=false:=by
 subst hL hi
 unfold ba
 rw[List.drop_left,List.length_cons,List.take_succ_cons,Bool.eq_false_iff]
 intro hh
 have h1:=eq_of_beq hh
 injection h1 with h1 _
 exact h h1
theorem Hg{A X L:List Int}{i:Nat}{c:Int}(hL:L=A++c::X)(hi:i=A.length):L[i]? =some c:=by
 subst hL hi
 simp
def gX(u:Nat):List Int:=[92,120,123]++(pt (hexDigits u)++[125])
theorem EF(u:Nat):(gX u).length=3+(hexDigits u).length+1:=by simp[gX,cw];omega
theorem yA{A X L:List Int}{i u:Nat}{fo:Bool}(hu:u<=1114111)(hL:L=A++(gX u++X))(hi:i=A.length):dN (par 1 fo) L i=.ok (.pt u,i+(gX u).length):=by
 have hL2:L=A++92::([120,123]++(pt (hexDigits u)++(125::X))):=by rw[hL];simp[gX]
 have hnx:TK.aV 1 L i=.ok (TK.aR u,i+(3+(hexDigits u).length+1)):=by
  have:=TK.je A (xd (u:=u) (r:=X) hu)
  rw[hL2,hi]
  simpa using this
 unfold dN
 rw[Hg hL2 hi]
 simp only
 rw[lf hL2 hi]
 have hr:(par 1 fo).oN=true:=rfl
 have hn:(par 1 fo).nx L i=.ok (.pt u,i+(gX u).length):=by
  show kq (TK.aV 1 L i)=_
  rw[hnx,EF]
  rfl
 rw[hr,hn]
 rfl
def nV(r:Int×Int):List Int:=gX r.1.toNat++(45::gX r.2.toNat)
theorem Iy(r:Int×Int):pt (TR.su r)=nV r:=by
 unfold TR.su nV gX
 simp only[dt]
 simp[pt]
theorem oM(r:Int×Int):∃s,nV r=92::s:=⟨_,rfl⟩
theorem EO{rec:List Int->Nat->Nat->Except BE (PS×Nat)}{A X L:List Int}{i deep:Nat}{fo:Bool}{r:Int×Int}(hr:eH r)(hL:L=A++(nV r++X))(hi:i=A.length):fa (par 1 fo) rec L i deep=.ok (fun x=>decide (r.1<=x)&&decide (x<=r.2),i+(nV r).length):=by
 obtain⟨h0,h1,h2⟩:0<=r.1/\r.1<=r.2/\r.2<=1114111:=by unfold eH at hr;omega
 have e1:((r.1.toNat:Nat):Int)=r.1:=by omega
 have e2:((r.2.toNat:Nat):Int)=r.2:=by omega
 have hLa:L=A++(gX r.1.toNat++(45::(gX r.2.toNat++X))):=by rw[hL];simp[nV]
 have hLb:L=A++92::([120,123]++(pt (hexDigits r.1.toNat)++(125::45::(gX r.2.toNat++X)))):=by rw[hLa];simp[gX]
 have hLc:L=(A++gX r.1.toNat)++45::(gX r.2.toNat++X):=by rw[hLa];simp
 have hLd:L=(A++gX r.1.toNat++[45])++(gX r.2.toNat++X):=by rw[hLa];simp
 have hLe:L=(A++gX r.1.toNat++[45])++92::([120,123]++(pt (hexDigits r.2.toNat)++(125::X))):=by rw[hLd];simp[gX]
 have c1:cz L i=false:=fM hLb hi (by decide)
 have c2:sf (par 1 fo) L i=false:=by unfold sf;rw[fM hLb hi (by decide)];simp
 have hw:=yA (fo:=fo) (u:=r.1.toNat) (by omega) hLa hi
 obtain⟨k,hk⟩:=J (i+(gX r.1.toNat).length)
 rw[<- hk]at hw
 have hkA:k=(A++gX r.1.toNat).length:=by rw[hk,hi,List.length_append]
 have hkB:k+1=(A++gX r.1.toNat++[45]).length:=by rw[List.length_append, <-hkA];rfl
 have c3:mn L k=true:=by
  unfold mn
  rw[lf hLc hkA]
  have:ba L k [45,93]=false:=by
   rw[hLc,hkA]
   unfold ba
   rw[List.drop_left]
   simp[gX]
  rw[this]
  rfl
 have hw2:=yA (fo:=fo) (u:=r.2.toNat) (by omega) hLd hkB
 have he:gW (par 1 fo) L (k+1) ((r.1.toNat:Nat):Int)=.ok (((r.2.toNat:Nat):Int),k+1+(gX r.2.toNat).length):=by
  unfold gW
  have d1:cz L (k+1)=false:=fM hLe hkB (by decide)
  have d2:sf (par 1 fo) L (k+1)=false:=by unfold sf;rw[fM hLe hkB (by decide)];simp
  have d3:ky (par 1 fo) L (k+1)=false:=by unfold ky;rw[fM hLe hkB (by decide)];simp
  rw[d1,d2,d3,hw2]
  simp only[Bool.or_self,Bool.false_eq_true,if_false]
  rw[if_neg (by omega)]
 unfold fa
 rw[c1,c2,hw]
 simp only[Bool.false_eq_true,if_false]
 rw[c3,he]
 simp only[if_true,e1,e2,Except.ok.injEq,Prod.mk.injEq,true_and]
 rw[hk]
 simp only[nV,List.length_append,List.length_cons]
 omega
def dJ:List (Int×Int)->List Int
 |[]=>[]
 |r::S=>nV r++dJ S
theorem rF{rec:List Int->Nat->Nat->Except BE (PS×Nat)}{fo:Bool}{X L:List Int}{first deep:Nat}:∀(S:List (Int×Int)) (n i:Nat) (A:List Int) (acc:PS),(∀r∈S,eH r)->L=A++(dJ S++93::X)->i=A.length->first<=i->(S=[]->i≠first)->S.length<n->eD (par 1 fo) rec L first deep n i acc=.ok (fun x=>acc x||ins S x,i+(dJ S).length)
 |[],0,i,A,acc,_,_,_,_,_,hn=>absurd hn (by simp)
 |r::S,0,i,A,acc,_,_,_,_,_,hn=>absurd hn (by simp)
 |[],n+1,i,A,acc,ho,hL,hi,hfi,hf,hn=>by
  have hL':L=A++93::X:=by rw[hL];rfl
  have hp:fR (par 1 fo) L first i=true:=by
   unfold fR
   rw[lf hL' hi,decide_eq_true (hf rfl)]
   rfl
  unfold eD
  rw[if_pos hp]
  simp[ins,dJ]
 |r::S,n+1,i,A,acc,ho,hL,hi,hfi,hf,hn=>by
  obtain⟨s,hs⟩:=oM r
  have hL1:L=A++(nV r++(dJ S++93::X)):=by rw[hL];simp[dJ]
  have hL2:L=A++92::(s++(dJ S++93::X)):=by rw[hL1,hs];rfl
  have hL3:L=(A++nV r)++(dJ S++93::X):=by rw[hL1];simp
  have hp:fR (par 1 fo) L first i=false:=by
   unfold fR ky
   rw[fM hL2 hi (by decide),fM hL2 hi (by decide)]
   simp
  have hpos:0<(nV r).length:=by rw[hs];simp
  unfold eD
  rw[hp,EO (fo:=fo) (ho r (by simp)) hL1 hi]
  simp only[Bool.false_eq_true,if_false]
  rw[rF S n (i+(nV r).length) (A++nV r) _ (fun q hq=>ho q (by simp[hq])) hL3 (by rw[hi,List.length_append]) (by omega) (fun _=>by omega) (by simpa using hn)]
  congr 2
  ·funext x
   simp[ins,Bool.or_assoc]
  ·simp[dJ];omega
theorem vL{n:Nat}{A X L:List Int}{i:Nat}{S:List (Int×Int)}(hne:S≠[])(ho:∀r∈S,eH r)(hL:L=A++(dJ S++93::X))(hi:i=A.length)(hlen:S.length<=(dJ S).length):fJ (par 1 false) (eZ (par 1 false) n) L i 0=.ok (fun x=>ins S x,i+(dJ S).length+1):=by
 obtain⟨k,hk⟩:=J (i+(dJ S).length)
 have hL2:L=(A++dJ S)++93::X:=by rw[hL];simp
 have hkA:k=(A++dJ S).length:=by rw[hk,hi,List.length_append]
 have hpos:0<(dJ S).length:=Nat.lt_of_lt_of_le (List.length_pos_iff.2 hne) hlen
 have hit:=rF (rec:=eZ (par 1 false) n) (fo:=false) (X:=X) (first:=i) (deep:=0) S (L.length+2 - i) i A (fun _=>false) ho hL hi (ai _) (fun h=>absurd h hne) (by rw[hL,hi];simp;omega)
 have hpart:eN (par 1 false) (eZ (par 1 false) n) L i 0 i=.ok (fun x=>ins S x,k):=by
  unfold eN
  rw[hit]
  simp only[Bool.false_or]
  rw[<- hk,if_neg (by omega)]
  rfl
 unfold fJ
 rw[hpart]
 simp only
 have hand:ky (par 1 false) L k=false:=by unfold ky;rw[fM hL2 hkA (by decide)];simp
 have hm:∀m,fi (par 1 false) (eZ (par 1 false) n) L i 0 m k (fun x=>ins S x)=.ok (fun x=>ins S x,k):=fun m=>by
  cases m with
  |zero=>rfl
  |succ m=>unfold fi;rw[hand];simp
 rw[hm]
 simp only[lf hL2 hkA,if_true]
 rw[hk]
theorem rG:∀S:List (Int×Int),S.length<=(dJ S).length
 |[]=>by simp
 |r::S=>by
  obtain⟨s,hs⟩:=oM r
  have:=rG S
  simp only[dJ,List.length_append,hs,List.length_cons]
  omega
theorem C5{A X L:List Int}{i:Nat}{S:RL}(hp:TK.bK 1 L=0)(hne:S≠[])(hS:bq (ins S) S)(hl:S.length<=400)(hL:L=A++(dJ S++93::X))(hi:i=A.length):cS 1 false L (i:Int)=.ok (fun x=>ins S x,i+(dJ S).length+1):=by
 have ho:∀r∈S,eH r:=hS.1.1
 obtain⟨r,S',rfl⟩:∃r S',S=r::S':=List.exists_cons_of_ne_nil hne
 obtain⟨s,hs⟩:=oM r
 have hL2:L=A++92::(s++(dJ S'++93::X)):=by rw[hL];simp[dJ,hs]
 unfold cS
 rw[if_neg (by simp[hp]),if_neg (by rw[hL,hi];simp;omega)]
 unfold gN
 rw[Int.toNat_natCast]
 have he:eZ (par 1 false) 21 L i 0=.ok (fun x=>ins (r::S') x,i+(dJ (r::S')).length+1):=by
  show iR (par 1 false) (eZ (par 1 false) 20) L i 0=_
  unfold iR
  rw[fM hL2 hi (by decide)]
  simp only[Bool.false_eq_true,if_false]
  exact vL hne ho hL hi (rG _)
 rw[he]
 simp only
 have hm:bJ (fun x=>ins (r::S') x)=false:=by
  rw[fu (f:=fun x=>ins (r::S') x) hS]
  simpa using hl
 rw[hm]
 rfl
theorem zV{A X L:List Int}{i:Nat}(hp:TK.bK 1 L=0)(hL:L=A++(94::(dJ [(0,1114111)]++93::X)))(hi:i=A.length):∃f,cS 1 false L (i:Int)=.ok (f,i+1+(dJ [(0,1114111)]).length+1)/\bq f []:=by
 have hL2:L=(A++[94])++(dJ [(0,1114111)]++93::X):=by rw[hL];simp
 have hS1:bq (fun x=>ins [(0,1114111)] x) [(0,1114111)]:=by
  refine⟨⟨by simp[eH],by simp⟩,fun q=>?_⟩
  simp only[ins,List.any_cons,List.any_nil,Bool.or_false]
  cases decide (0<=q)<;>cases decide (q<=1114111)<;>rfl
 have hS2:bq (fun x=>!ins [(0,1114111)] x) []:=by
  refine⟨⟨by simp,by simp⟩,fun q=>?_⟩
  simp only[ins,List.any_cons,List.any_nil,Bool.or_false]
  cases decide (0<=q)<;>cases decide (q<=1114111)<;>rfl
 refine⟨fun x=>!ins [(0,1114111)] x,?_,hS2⟩
 unfold cS
 rw[if_neg (by simp[hp]),if_neg (by rw[hL,hi];simp;omega)]
 unfold gN
 rw[Int.toNat_natCast]
 have he:eZ (par 1 false) 21 L i 0=.ok (fun x=>!ins [(0,1114111)] x,i+1+(dJ [(0,1114111)]).length+1):=by
  show iR (par 1 false) (eZ (par 1 false) 20) L i 0=_
  unfold iR
  rw[lf hL hi]
  simp only[if_true]
  rw[vL (A:=A++[94]) (by simp) (by simp[eH]) hL2 (by simp[hi]) (rG _)]
  simp only
  unfold lq
  have m1:(par 1 false).many (fun x=>ins [(0,1114111)] x)=false:=by
   show bJ _=false
   rw[fu hS1];rfl
  have m2:(par 1 false).many (fun x=>!ins [(0,1114111)] x)=false:=by
   show bJ _=false
   rw[fu hS2];rfl
  rw[m1,m2]
  rfl
 rw[he]
 simp only
 have hm:bJ (fun x=>!ins [(0,1114111)] x)=false:=by
  rw[fu hS2];rfl
 rw[hm]
 rfl
end Go.Proofs.YtklbbbldalmnbaaGreatDoor.Br
namespace Go.Proofs.YtklbbbldalmnbaaGreatDoor.Pa
open TR (Tr kj sw gQ iz mW pU uH ft fY partAt ni DQ aW gI mu fI cO cG cY bV bu dv)
open TK (pt dt cw aV)
variable {N : dv}
theorem oa(f:Nat->List UInt8):∀n,fY f n=(List.range n).flatMap f
 |0=>rfl
 |n+1=>by rw[fY,oa f n,List.range_succ,List.flatMap_append];simp
def sh(N:dv)(t:Tr):List Int:=pt (kj N t)
def lF(b:Bool)(l:List Int):List Int:=if b then [40,63,58]++(l++[41])else l
theorem Bu(b:Bool)(l:List UInt8):pt (ft b l)=lF b (pt l):=by
 unfold ft lF
 cases b
 ·rfl
 ·simp only[if_true,dt]
  rfl
def tJ(N:dv)(t:Tr):List Int:=lF (decide (t.kind=10)) (sh N t)
theorem j5{α β:Type}(f:α->List β):∀(ts:List α) (g:Nat->List β),(∀j (hj:j<ts.length),g j=f ts[j])->(List.range ts.length).flatMap g=ts.flatMap f
 |[],g,_=>rfl
 |t::ts,g,h=>by
  rw[List.length_cons,List.range_succ_eq_map,List.flatMap_cons,List.flatMap_cons,h 0 (by simp),List.flatMap_map]
  rw[j5 f ts (fun j=>g (j+1)) (fun j hj=>h (j+1) (by simpa using hj))]
  rfl
theorem uV{α:Type}(f:α->List UInt8)(l:List α):pt (l.flatMap f)=l.flatMap fun x=>pt (f x):=by
 induction l with
 |nil=>rfl
 |cons x l ih=>rw[List.flatMap_cons,List.flatMap_cons,dt,ih]
theorem F7(t:Tr)(h:t.kind=9):sh N t=t.kids.flatMap (tJ N):=by
 unfold sh
 rw[gQ,h]
 unfold TR.jC
 rw[if_neg (by decide),if_pos rfl,oa,iz,j5 (fun u=>ft (decide (u.kind=10)) (kj N u)) t.kids _ (fun j hj=>TR.lT N t.kids j hj),uV]
 congr 1
 funext u
 exact Bu _ _
theorem tP(t:Tr)(h:t.kind=10)(k:Tr)(ks:List Tr)(hk:t.kids=k::ks):sh N t=sh N k++ks.flatMap fun u=>124::sh N u:=by
 unfold sh
 rw[gQ,h,hk]
 unfold TR.jC
 rw[if_neg (by decide),if_neg (by decide),if_pos rfl,oa,iz]
 rw[List.length_cons,List.range_succ_eq_map,List.flatMap_cons,List.flatMap_map,dt]
 have h0:=TR.kM N (k::ks) 0 (by simp)
 rw[h0]
 simp only[if_true,List.nil_append,List.getElem_cons_zero]
 rw[j5 (fun u=>124::kj N u) ks (fun j=>ni (sw N (k::ks)) (j+1)) (fun j hj=>by
  rw[TR.kM N (k::ks) (j+1) (by simpa using hj)]
  simp),uV]
 rfl
theorem F6(t u:Tr)(h:t.kind=12)(hk:t.kids=[u]):sh N t=lF (fI u.kind) (sh N u)++pt (TR.cL t.least t.ar t.bC):=by
 unfold sh
 rw[gQ,h,hk]
 unfold TR.jC
 rw[if_neg (by decide),if_neg (by decide),if_neg (by decide),if_pos rfl,dt,Bu]
 rfl
theorem Bl(t u:Tr)(h:t.kind=11\/(13<=t.kind/\t.kind<=17))(hk:t.kids=[u]):sh N t=pt (aW N t.kind t.num)++(sh N u++[41]):=by
 unfold sh
 rw[gQ,hk]
 unfold TR.jC
 rw[if_neg (by omega),if_neg (by omega),if_neg (by omega),if_neg (by omega),if_neg (by omega),if_pos h,dt,dt]
 rfl
theorem yg(t:Tr)(h:t.kind=18):sh N t=pt (DQ t.fold t.num):=by
 unfold sh
 rw[gQ,h]
 unfold TR.jC
 rw[if_neg (by decide),if_neg (by decide),if_neg (by decide),if_neg (by decide),if_pos rfl]
theorem u7(t:Tr)(h:t.kind=1\/(3<=t.kind/\t.kind<=8)):sh N t=pt (mu t.kind).data.toList:=by
 unfold sh
 rw[gQ]
 unfold TR.jC
 rw[if_neg (by omega),if_neg (by omega),if_neg (by omega),if_neg (by omega),if_neg (by omega),if_neg (by omega)]
theorem Aj(t:Tr)(h:t.kind=2):sh N t=if t.set=[]then 91::94::(Br.dJ [(0,1114111)]++[93])else 91::(Br.dJ t.set++[93]):=by
 unfold sh
 rw[gQ,h]
 unfold TR.jC
 rw[if_pos rfl]
 unfold TR.fh
 by_cases h0:t.set=[]
 ·rw [if_pos h0,if_pos (by rw[h0];rfl)]
  have e:∀u,Br.gX u=[92,120,123]++(pt (TR.hexDigits u)++[125]):=fun _=>rfl
  simp only[Br.dJ,Br.nV,e,List.append_nil]
  have z0:TR.hexDigits (0:Int).toNat=[48]:=by rw[TR.hexDigits,dif_pos (by decide)];rfl
  have z1:TR.hexDigits (1114111:Int).toNat=[49,48,102,102,102,102]:=by
   rw[show (1114111:Int).toNat=1114111 from rfl]
   repeat (rw[TR.hexDigits];simp only[Nat.reduceLT,dite_false,Nat.reduceDiv,Nat.reduceMod,dif_pos])
   rfl
  rw[z0,z1]
  rfl
 ·rw [if_neg h0,if_neg (by intro e;exact h0 (List.eq_nil_of_length_eq_zero e)),oa,j5 TR.su t.set _ (fun j hj=>TR.rE t.set j hj),dt,dt,uV]
  have:∀S:List (Int×Int),S.flatMap (fun x=>pt (TR.su x))=Br.dJ S:=by
   intro S
   induction S with
   |nil=>rfl
   |cons r S ih=>rw[List.flatMap_cons,ih,Br.Iy];rfl
  rw[this]
  rfl
end Go.Proofs.YtklbbbldalmnbaaGreatDoor.Pa
namespace Go.Proofs.YtklbbbldalmnbaaGreatDoor.TK
theorem wY:∀(xs:List Int) (k:Nat) (r:List Int) (f:Bool),xs.length<=k->(∀i (h:i<xs.length),eA xs[i] (f&&decide (i=0))=true)->takeN k (xs++62::r) f=xs
 |[],0,r,f,_,_=>rfl
 |[],k+1,r,f,_,_=>by
  show(if eA 62 f then _ else _)=_
  rw[if_neg (by cases f<;>decide)]
 |x::xs,0,r,f,h,_=>by simp at h
 |x::xs,k+1,r,f,h,hn=>by
  have h0:=hn 0 (by simp)
  show(if eA x f then x::takeN k (xs++62::r) false else [])=_
  rw[if_pos (by simpa using h0),wY xs k r false (by simpa using h) (fun i hi=>by
   have:=hn (i+1) (by simpa using hi)
   simpa using this)]
theorem D9(s:ByteArray):bI (pt s.data.toList)=s:=by
 unfold bI pt
 apply ByteArray.ext
 apply Array.ext'
 rw[List.map_map]
 have:∀b:UInt8,((fun p:Int=>UInt8.ofNat p.toNat) ∘ fun b:UInt8=>(b.toNat:Int)) b=b:=by
  intro b
  simp
 rw[List.map_congr_left (g:=id) (fun b _=>this b)]
 simp
theorem EY(p:Int)(f:Bool):TR.oF p f=eA p f:=by
 have hd:decide (dM p<10)=(decide (48<=p)&&decide (p<=57)):=by
  unfold dM
  rw[Bool.eq_iff_iff]
  simp only[Bool.and_eq_true,decide_eq_true_eq]
  split
  ·omega
  ·split
   ·omega
   ·split<;>omega
 unfold TR.oF eA
 rw[hd]
 have:decide (p=95)=(p==95):=by simp[Bool.beq_eq_decide_eq]
 rw[this]
 show(si p||p==95||(!f&&decide (48<=p)&&decide (p<=57)))=_
 cases si p<;>cases(p==95)<;>cases f<;>simp
theorem zK{s:ByteArray}{r:List Int}(h:TR.sj s=true):aV 1 ([40,63,60]++(pt s.data.toList++(62::r))) 0=.ok ({ kind:=7,num:=11,text:=s },3+s.data.toList.length+1)/\s.toList≠[]:=by
 unfold TR.sj at h
 simp only[Bool.and_eq_true,decide_eq_true_eq,List.all_eq_true,List.mem_range]at h
 obtain⟨⟨h1,h2⟩,h3⟩:=h
 have hsz:s.data.toList.length=s.size:=Array.length_toList
 obtain⟨L,hL⟩:=J ([40,63,60]++(pt s.data.toList++(62::r)))
 have hget:∀i (hi:i<(pt s.data.toList).length),(pt s.data.toList)[i]=Go.PlainAid.bt s i:=by
  intro i hi
  have hi2:i<s.size:=by rw[cw,hsz]at hi;exact hi
  unfold Go.PlainAid.bt
  rw[dif_pos hi2]
  simp only[pt,List.getElem_map,Array.getElem_toList]
  rfl
 have hall:∀i (hi:i<(pt s.data.toList).length),eA (pt s.data.toList)[i] (true&&decide (i=0))=true:=fun i hi=>by
  rw[hget i hi, <-EY]
  have:=h3 i (by rw[cw,hsz]at hi;exact hi)
  simpa using this
 have hnm:bQ L 3=pt s.data.toList:=by
  unfold bQ
  rw[hL]
  exact wY _ 20 r true (by rw[cw];omega) hall
 obtain⟨q,xs,hq⟩:∃q xs,pt s.data.toList=q::xs:=by
  cases hc:pt s.data.toList with
  |nil=>
   have:=congrArg List.length hc
   rw[cw,hsz]at this
   have h0:s.size=0:=this
   omega
  |cons q xs=>exact⟨q,xs,rfl⟩
 have hqn:eA q true=true:=by
  have:=hall 0 (by rw[hq];simp)
  simp only[hq,List.getElem_cons_zero]at this
  simpa using this
 have hq2:q≠61/\q≠33:=by
  constructor
  ·rintro rfl;exact absurd hqn (by decide)
  ·rintro rfl;exact absurd hqn (by decide)
 have hLq:L=[40,63,60]++q::(xs++62::r):=by rw[hL,hq];rfl
 have hn:aV 1 L 0=gh L 3:=by rw[hL];rfl
 rw[<- hL,hn]
 refine⟨?_,?_⟩
 ·unfold gh
  rw[pS (k:=3) hLq rfl hq2.1,pS (k:=3) hLq rfl hq2.2,hnm]
  simp only[Bool.false_eq_true,if_false]
  rw[if_neg (by rw[hq];simp),kh (A:=[40,63,60]++pt s.data.toList) (X:=r) (by rw[hL];simp) (by simp;omega),if_pos rfl,D9,cw]
 ·rw [ByteArray.toList_eq]
  intro e
  have:=congrArg List.length e
  rw[hsz]at this
  have h0:s.size=0:=this
  omega
end Go.Proofs.YtklbbbldalmnbaaGreatDoor.TK
namespace Go.Proofs.YtklbbbldalmnbaaGreatDoor.Pa
open TR (Tr cO cY bV bu dv)
open TK (pt dt cw aV)
variable {N : dv}
structure qb(t:Tr)(c c1:Int×List Int):Prop where
 kind:1<=t.kind/\t.kind<=18
 kids:bV t=true
 fields:bu t=true
 set:TR.Tr.set t |>.length |> fun n=>n<=400
 canon:Canon t.set
 rep:t.kind=12->(0<=t.least/\t.least<=100)/\(t.ar= -1\/(t.least<=t.ar/\t.ar<=100))/\1<=t.bC/\t.bC<=3
 mL:t.kind=11->t.num=c.1+1/\c1=(c.1+1,c.2)
 ag:t.kind=18->c1=(c.1,c.2++[t.num])
 same:t.kind≠11->t.kind≠18->c1=c
theorem ei{t:Tr}{c c':Int×List Int}(h:cO t c=.ok c'):∃c1,qb t c c1/\TR.cG t.kids c1=.ok c':=by
 rw[TR.eT]at h
 cases hn:cY t c with
 |error z=>rw[hn]at h;cases h
 |ok c1=>
  rw[hn]at h
  refine⟨c1,?_,h⟩
  unfold cY at hn
  split at hn
  ·cases hn
  ·rename_i hk
   split at hn
   ·cases hn
   ·rename_i hkf
    have hkf2:bV t=true/\bu t=true:=by
     cases h1:bV t<;>cases h2:bu t<;>simp[h1,h2]at hkf |-
    split at hn
    ·cases hn
    ·rename_i hc
     obtain⟨hs,hcan⟩:=gi.1 (Classical.not_not.1 hc)
     have hk2:1<=t.kind/\t.kind<=18:=Classical.not_not.1 hk
     split at hn
     ·rename_i h12
      split at hn
      ·rename_i hr
       cases hn
       refine⟨hk2,hkf2.1,hkf2.2,hs,hcan,fun _=>?_,fun h=>absurd (h12.symm.trans h) (by decide),fun h=>absurd (h12.symm.trans h) (by decide),fun _ _=>rfl⟩
       unfold TR.kG at hr
       split at hr
       ·cases hr
       ·rename_i r1
        split at hr
        ·cases hr
        ·rename_i r2
         split at hr
         ·cases hr
         ·rename_i r3
          omega
      ·cases hn
     ·rename_i h12
      split at hn
      ·rename_i h11
       split at hn
       ·rename_i hnum
        cases hn
        exact⟨hk2,hkf2.1,hkf2.2,hs,hcan,fun h=>absurd h h12,fun _=>⟨hnum,rfl⟩,fun h=>absurd (h11.symm.trans h) (by decide),fun h _=>absurd h11 h⟩
       ·cases hn
      ·rename_i h11
       split at hn
       ·rename_i h18
        cases hn
        exact⟨hk2,hkf2.1,hkf2.2,hs,hcan,fun h=>absurd h h12,fun h=>absurd h h11,fun _=>rfl,fun _ h=>absurd h18 h⟩
       ·rename_i h18
        cases hn
        exact⟨hk2,hkf2.1,hkf2.2,hs,hcan,fun h=>absurd h h12,fun h=>absurd h h11,fun h=>absurd h h18,fun _ _=>rfl⟩
theorem eK{t:Tr}{ts:List Tr}{c c':Int×List Int}(h:TR.cG (t::ts) c=.ok c'):∃c1,cO t c=.ok c1/\TR.cG ts c1=.ok c':=by
 unfold TR.cG at h
 cases hn:cO t c with
 |error z=>rw[hn]at h;cases h
 |ok c1=>rw[hn]at h;exact⟨c1,rfl,h⟩
theorem ig{c c':Int×List Int}(h:TR.cG [] c=.ok c'):c'=c:=by cases h;rfl
theorem qb.one{t:Tr}{c c1:Int×List Int}(h:qb t c c1)(hk:11<=t.kind/\t.kind<=17):∃u,t.kids=[u]:=by
 have h1:=h.kids
 unfold bV at h1
 rw[if_neg (by omega),if_neg (by omega),if_pos hk]at h1
 exact List.length_eq_one_iff.1 (by simpa using h1)
theorem qb.none{t:Tr}{c c1:Int×List Int}(h:qb t c c1)(hk:t.kind<=8\/t.kind=18):t.kids=[]:=by
 have h1:=h.kids
 unfold bV at h1
 rw[if_neg (by omega),if_neg (by omega),if_neg (by omega)]at h1
 exact List.eq_nil_of_length_eq_zero (by simpa using h1)
mutual
theorem Ec:∀(t:Tr) (c c':Int×List Int),cO t c=.ok c'->∃B,c'.2=c.2++B
 | .mk k a b d e f S ks,c,c',h=>by
  obtain⟨c1,n1,h1⟩:=ei h
  obtain⟨B,hB⟩:=eC ks c1 c' h1
  by_cases h18:k=18
  ·have :=n1.ag h18
   rw[this]at hB
   exact⟨_,hB.trans (List.append_assoc _ _ _)⟩
  ·by_cases h11:k=11
   ·have :=(n1.mL h11).2
    rw[this]at hB
    exact⟨B,hB⟩
   ·have :=n1.same h11 h18
    rw[this]at hB
    exact⟨B,hB⟩
theorem eC:∀(ts:List Tr) (c c':Int×List Int),TR.cG ts c=.ok c'->∃B,c'.2=c.2++B
 |[],c,c',h=>⟨[],by rw[ig h];simp⟩
 |t::ts,c,c',h=>by
  obtain⟨c1,h1,h2⟩:=eK h
  obtain⟨B,hB⟩:=Ec t c c1 h1
  obtain⟨D,hD⟩:=eC ts c1 c' h2
  exact⟨B++D,by rw[hD,hB,List.append_assoc]⟩
end
def kt(N:dv):Prop:=∀n∈N,TR.sj n.1=true
def Bv(c:Int×List Int):Prop:=∀a∈c.2,1<=a/\a<=20
theorem Bv.of{c c':Int×List Int}(h:Bv c'){B:List Int}(hB:c'.2=c.2++B):Bv c:=fun a ha=>h a (by rw[hB];simp[ha])
def eE(T:List Int):Prop:=(∃q s,T=q::s/\q≠63/\q≠43)/\∀Y,∃tk k,aV 1 (T++Y) 0=.ok (tk,k)/\tk.kind≠6/\tk.kind≠8/\tk.kind≠9/\tk.kind≠11
theorem eE.app{T:List Int}(h:eE T)(X:List Int):eE (T++X):=by
 obtain⟨⟨q,s,h1,h2⟩,h3⟩:=h
 exact⟨⟨q,s++X,by rw[h1];rfl,h2⟩,fun Y=>by rw[List.append_assoc];exact h3 _⟩
theorem mK(T:List Int):eE ([40,63,58]++T):=⟨⟨40,_,rfl,by decide,by decide⟩,fun Y=>⟨TK.aW 1,3,rfl,by decide,by decide,by decide,by decide⟩⟩
theorem tD(hN:kt N){num:Int}{q:Int}{X:List Int}(hq:q≠63):∃tx:ByteArray,aV 1 (pt (TR.gI N num)++q::X) 0=.ok ({ kind:=7,num:=11,text:=tx },(TR.gI N num).length)/\((∃n∈N,n.2=num/\tx=n.1/\tx.toList≠[])\/((∀n∈N,n.2≠num)/\tx.toList=[])):=by
 unfold TR.gI
 split
 ·rename_i x hx
  have h1:=List.find?_some hx
  have h2:=List.mem_of_find?_eq_some hx
  obtain⟨k1,k2⟩:=TK.zK (r:=q::X) (hN x h2)
  refine⟨x.1,?_,.inl ⟨x,h2,by simpa using h1,rfl,k2⟩⟩
  have e:pt ([40,63,60]++(x.1.data.toList++[62]))++q::X=[40,63,60]++(pt x.1.data.toList++(62::q::X)):=by
   simp only[dt]
   simp[pt]
  rw[e,k1]
  simp[Nat.add_comm]
  omega
 ·rename_i hx
  refine⟨⟨#[]⟩,?_,.inr ⟨fun n hn e=>?_,by rw[ByteArray.toList_eq]⟩⟩
  ·show TK.dz 1 (40::q::X) 1=_
   unfold TK.dz
   rw[if_neg (by decide),if_pos (TK.pS (L:=40::q::X) (k:=1) (A:=[40]) (X:=X) rfl rfl hq)]
   rfl
  ·rw [List.find?_eq_none]at hx
   exact hx n hn (by simpa using e)
theorem tF{k num:Int}(hk:13<=k/\k<=17)(X:List Int):aV 1 (pt (TR.aW N k num)++X) 0=.ok (TK.aW k,(TR.aW N k num).length):=by
 rcases(by omega:k=13\/k=14\/k=15\/k=16\/k=17)with rfl|rfl|rfl|rfl|rfl<;>rfl
theorem rp{num:Int}:TR.aW N 11 num=TR.gI N num:=rfl
theorem CH(num:Int):∃s,pt (TR.gI N num)=40::s:=by
 unfold TR.gI
 split
 ·exact⟨_,rfl⟩
 ·exact⟨_,rfl⟩
theorem pW{ts:List Tr}{u:Tr}(h:u∈ts):gz u<=fH ts:=by
 induction ts with
 |nil=>cases h
 |cons t ts ih=>
  rw[fH]
  rcases List.mem_cons.1 h with rfl|h
  ·omega
  ·have:=ih h;omega
theorem kX(hN:kt N):∀(n:Nat) (t:Tr) (c c':Int×List Int),gz t<=n->cO t c=.ok c'->Bv c'->eE (sh N t):=by
 intro n
 induction n with
 |zero=>intro t c c' hs;rw[eR]at hs;omega
 |succ n ih=>
  intro t c c' hs h hA
  obtain⟨c1,hn,hk⟩:=ei h
  obtain⟨B1,hB1⟩:=eC _ _ _ hk
  rw[eR]at hs
  have hkind:=hn.kind
  by_cases h2:t.kind=2
  ·rw [Aj t h2]
   split<;>exact⟨⟨91,_,rfl,by decide,by decide⟩,fun Y=>⟨{ kind:=5 },1,rfl,by decide,by decide,by decide,by decide⟩⟩
  ·by_cases hsg:t.kind=1\/(3<=t.kind/\t.kind<=8)
   ·rw [u7 t hsg]
    rcases(by omega:t.kind=1\/t.kind=3\/t.kind=4\/t.kind=5\/t.kind=6\/t.kind=7\/t.kind=8)with e|e|e|e|e|e|e<;>rw[e]
    ·exact⟨⟨40,_,rfl,by decide,by decide⟩,fun Y=>⟨TK.aW 1,3,rfl,by decide,by decide,by decide,by decide⟩⟩
    ·exact⟨⟨94,_,rfl,by decide,by decide⟩,fun Y=>⟨TK.bz 3,1,rfl,by decide,by decide,by decide,by decide⟩⟩
    ·exact⟨⟨36,_,rfl,by decide,by decide⟩,fun Y=>⟨TK.bz 4,1,rfl,by decide,by decide,by decide,by decide⟩⟩
    ·exact⟨⟨92,_,rfl,by decide,by decide⟩,fun Y=>⟨TK.bz 5,2,rfl,by decide,by decide,by decide,by decide⟩⟩
    ·exact⟨⟨92,_,rfl,by decide,by decide⟩,fun Y=>⟨TK.bz 6,2,rfl,by decide,by decide,by decide,by decide⟩⟩
    ·exact⟨⟨92,_,rfl,by decide,by decide⟩,fun Y=>⟨TK.bz 7,2,rfl,by decide,by decide,by decide,by decide⟩⟩
    ·exact⟨⟨92,_,rfl,by decide,by decide⟩,fun Y=>⟨TK.bz 8,2,rfl,by decide,by decide,by decide,by decide⟩⟩
   ·by_cases h18:t.kind=18
    ·rw [yg t h18]
     have hnum:1<=t.num/\t.num<=20:=hA t.num (by rw[hB1,hn.ag h18];simp)
     unfold TR.DQ
     split
     ·exact⟨⟨40,_,rfl,by decide,by decide⟩,fun Y=>⟨{ kind:=7,num:=1,fold:=1 },4,rfl,by decide,by decide,by decide,by decide⟩⟩
     ·refine ⟨⟨92,_,rfl,by decide,by decide⟩,fun Y=>⟨TK.aU (t.num.toNat:Nat),3+(Go.Lib.decDigits t.num.toNat).length+1,?_,?_⟩⟩
      ·have :=TK.mQ (u:=t.num.toNat) (r:=Y) (by omega) (by omega)
       rw[<- this]
       simp[pt]
      ·exact⟨by simp[TK.aU],by simp[TK.aU],by simp[TK.aU],by simp[TK.aU]⟩
    ·by_cases h9:t.kind=9
     ·rw [F7 t h9]
      have h1:=hn.kids
      unfold bV at h1
      rw[if_pos h9]at h1
      cases hks:t.kids with
      |nil=>rw[hks]at h1;simp at h1
      |cons k ks=>
       rw[hks]at hk hs
       obtain⟨c2,h3,h4⟩:=eK hk
       obtain⟨B2,hB2⟩:=eC _ _ _ h4
       rw[List.flatMap_cons]
       refine eE.app ?_ _
       unfold tJ lF
       split
       ·exact mK _
       ·exact ih k c1 c2 (by rw[fH]at hs;omega) h3 (hA.of hB2)
     ·by_cases h10:t.kind=10
      ·have h1:=hn.kids
       unfold bV at h1
       rw[if_neg (by omega),if_pos h10]at h1
       cases hks:t.kids with
       |nil=>rw[hks]at h1;simp at h1
       |cons k ks=>
        rw[tP t h10 k ks hks]
        rw[hks]at hk hs
        obtain⟨c2,h3,h4⟩:=eK hk
        obtain⟨B2,hB2⟩:=eC _ _ _ h4
        exact eE.app (ih k c1 c2 (by rw[fH]at hs;omega) h3 (hA.of hB2)) _
      ·obtain ⟨u,hu⟩:=hn.one (by omega)
       rw[hu]at hk hs
       obtain⟨c2,h3,h4⟩:=eK hk
       obtain⟨B2,hB2⟩:=eC _ _ _ h4
       have hfu:=ih u c1 c2 (by rw[fH]at hs;omega) h3 (hA.of hB2)
       by_cases h12:t.kind=12
       ·rw [F6 t u h12 hu]
        refine eE.app ?_ _
        unfold lF
        split
        ·exact mK _
        ·exact hfu
       ·rw [Bl t u (by omega) hu]
        by_cases h11:t.kind=11
        ·rw [h11,rp]
         obtain⟨s,hs2⟩:=CH (N:=N) t.num
         obtain⟨⟨q,s',hq,hq2,hq3⟩,_⟩:=hfu
         refine⟨⟨40,s++(sh N u++[41]),by rw[hs2];rfl,by decide,by decide⟩,fun Y=>?_⟩
         obtain⟨tx,e, -⟩:=tD (num:=t.num) (X:=s'++([41]++Y)) hN hq2
         refine⟨{ kind:=7,num:=11,text:=tx },(TR.gI N t.num).length,?_,by simp,by simp,by simp,by simp⟩
         rw[<- e,hq]
         simp
        ·have hk2:13<=t.kind/\t.kind<=17:=by omega
         refine⟨?_,fun Y=>⟨TK.aW t.kind,(TR.aW N t.kind t.num).length,by rw[List.append_assoc];exact tF hk2 _,by simp[TK.aW],by simp[TK.aW],by simp[TK.aW],by simp[TK.aW]⟩⟩
         rcases(by omega:t.kind=13\/t.kind=14\/t.kind=15\/t.kind=16\/t.kind=17)with e|e|e|e|e<;>rw[e]<;>exact⟨40,_,rfl,by decide,by decide⟩
end Go.Proofs.YtklbbbldalmnbaaGreatDoor.Pa
namespace Go.Proofs.YtklbbbldalmnbaaGreatDoor.Pa
open TR (Tr)
open Br (BE PS)
variable {d : Int} {l : List Int} {g : Nat} {s s' z : St}
def yC{α:Type}(R:Except BE α)(P:α->Prop):Prop:=(∃x,R=.ok x/\P x)\/∃a,R=.error (2,a)
def Kw(names:List Nm)(a:Ag):Int:=if a.name.toList=[]then a.num else(match names.find? (fun m=>m.1.toList==a.name.toList)with|some m=>m.2|none=>0)
theorem CR(names:List Nm)(gr:Nat)(a:Ag)(A:List Ag):dd names gr (a::A)=if Kw names a<1\/(gr:Int)<Kw names a then .error (5,(a.pos:Int))else match dd names gr A with
  | .error e=>.error e
  | .ok ns=>.ok (Kw names a::ns):=rfl
end Go.Proofs.YtklbbbldalmnbaaGreatDoor.Pa
namespace Go.Proofs.YtklbbbldalmnbaaGreatDoor.Pa
open TR (Tr cO cY bV bu dv)
open TK (pt dt cw aV)
open Br (BE PS)
variable {N : dv} {l A X : List Int} {s : St}
structure pD(N:dv)(s:St)(c:Int×List Int):Prop where
 mL:(s.ay:Int)=c.1
 iK:s.aE.map Ag.num=c.2
 KL:∀a∈s.aE,a.name.toList=[]
 jt:s.names=N.filter fun n=>decide (n.2<=c.1)
theorem pD.same{z:St}{c:Int×List Int}(h:pD N s c)(h1:z.ay=s.ay)(h2:z.aE=s.aE)(h3:z.names=s.names):pD N z c:=⟨by rw[h1];exact h.mL,by rw[h2];exact h.iK,by rw[h2];exact h.KL,by rw[h3];exact h.jt⟩
structure On(l:List Int)(s:St)(j:Nat):Prop where
 pos:s.pos=j
 tok:(j=l.length/\s.tok={})\/aV 1 l j=.ok (s.tok,s.next)
def yH(X:List Int):Prop:=X=[]\/∃tk k,aV 1 X 0=.ok (tk,k)
theorem eE.Kk{T:List Int}(h:eE T)(Y:List Int):yH (T++Y):=by
 obtain⟨tk,k,e,_⟩:=h.2 Y
 exact .inr ⟨tk,k,e⟩
theorem pJ{j:Nat}{x:TK.Tok×Nat}(h:aV 1 l j=.ok x):j<l.length:=by
 unfold aV at h
 cases hg:l[j]? with
 |none=>rw[hg]at h;cases h
 |some p=>exact(List.getElem?_eq_some_iff.1 hg).1
theorem di{tk:TK.Tok}{k:Nat}(hL:l=A++X)(h:On l s A.length)(hx:aV 1 X 0=.ok (tk,k)):s.tok=tk/\s.next=A.length+k:=by
 have h1:=TK.je A hx
 rw[<- hL]at h1
 rcases h.tok with⟨h2,_⟩|h2
 ·have:=pJ h1;omega
 ·rw [h1]at h2
  injection h2 with h2
  injection h2 with h2 h3
  exact⟨h2.symm,h3.symm⟩
theorem uQ(hL:l=A++X)(h:On l s A.length)(hx:X=[]):s.tok={}:=by
 rcases h.tok with⟨_,h2⟩|h2
 ·exact h2
 ·have :=pJ h2
  rw[hL,hx]at this
  simp at this
theorem iJ(hL:l=A++X)(hn:s.next=A.length)(hr:yH X):∃tk k,dF 1 l s=.ok { s with tok:=tk,pos:=A.length,next:=k }/\On l { s with tok:=tk,pos:=A.length,next:=k } A.length:=by
 rcases hr with rfl|⟨tk,k,hx⟩
 ·refine ⟨{},A.length,?_,rfl,.inl ⟨by rw[hL];simp,rfl⟩⟩
  unfold dF
  rw[if_pos (by rw[hn,hL];simp),hn]
 ·have h1:=TK.je A hx
  rw[<- hL]at h1
  refine⟨tk,A.length+k,?_,rfl,.inr h1⟩
  unfold dF
  rw[hn,if_neg (by have:=pJ h1;omega),h1]
structure Kn(N:dv)(l:List Int)(t:Tr)(c:Int×List Int)(fo:Bool)(j:Nat)(x:Tr×St):Prop where
 on:On l x.2 j
 vt:pD N x.2 c
 fo:x.2.aD=fo
 set:∀R,aZ (c.2++R) x.1=t
 kind:x.1.kind=t.kind
def jm(N:dv)(t:Tr)(T:List Int):Prop:=∀(l A X:List Int) (s:St) (c c':Int×List Int) (m:Nat),TK.bK 1 l=0->l=A++(T++X)->On l s A.length->s.aD=false->pD N s c->cO t c=.ok c'->Bv c'->yH X->yC (dm 1 l (bk 1 l m) s) (Kn N l t c' false (A.length+T.length))
def iZ(N:dv)(t:Tr):Prop:=∀(l A X:List Int) (s:St) (c c':Int×List Int) (m:Nat),TK.bK 1 l=0->l=A++(sh N t++X)->(X=[]\/∃r,X=41::r)->On l s A.length->pD N s c->cO t c=.ok c'->Bv c'->yC (bk 1 l m false s) (Kn N l t c' s.aD (A.length+(sh N t).length))
theorem qb.uy{t:Tr}{c c1:Int×List Int}(h:qb t c c1):(t.kind≠2->t.set=[])/\(t.kind≠11->t.kind≠18->t.num=0)/\(t.kind≠12->t.least=0/\t.ar=0/\t.bC=0)/\(t.kind≠18->t.fold=false):=by
 have hf:=h.fields
 unfold bu at hf
 simp only[Bool.and_eq_true,Bool.or_eq_true,decide_eq_true_eq,Bool.not_eq_true']at hf
 obtain⟨⟨⟨⟨⟨f1,f2⟩,f3⟩,f4⟩,f5⟩,f6⟩:=hf
 refine⟨fun h=>?_,fun h1 h2=>?_,fun h=>⟨?_,?_,?_⟩,fun h=>?_⟩
 ·exact List.eq_nil_of_length_eq_zero (f1.resolve_left h)
 ·rcases f2 with(f|f)|f
  ·exact absurd f h1
  ·exact absurd f h2
  ·exact f
 ·exact f3.resolve_left h
 ·exact f4.resolve_left h
 ·exact f5.resolve_left h
 ·exact f6.resolve_left h
theorem kp(t:Tr):t=.mk t.kind t.num t.least t.ar t.bC t.fold t.set t.kids:=by cases t;rfl
theorem jf(ns:List Int){k:Int}(n:Int)(h:k≠18):lr ns k n=n:=by unfold lr;rw[if_neg h]
theorem om{rec:Rd}{tk:TK.Tok}{k:Nat}{T:List Int}{u t:Tr}{c':Int×List Int}{z:St}(hL:l=A++(T++X))(hon:On l s A.length)(htk:aV 1 (T++X) 0=.ok (tk,k))(h67:tk.kind≠6/\tk.kind≠7)
  (hsingle:ct 1 l s=.ok (u,z)) (hz:z.next=A.length+T.length) (hzf:z.aD=false) (hsim:pD N z c') (hset:∀R,aZ (c'.2++R) u=t) (hkind:u.kind=t.kind) (hr:yH X):yC (dm 1 l rec s) (Kn N l t c' false (A.length+T.length)):=by
 obtain⟨e1,e2⟩:=di hL hon htk
 unfold dm
 rw[e1,if_neg h67.1,if_neg h67.2,hsingle]
 simp only
 have hL2:l=(A++T)++X:=by rw[hL,List.append_assoc]
 have hlen:A.length+T.length=(A++T).length:=by rw[List.length_append]
 obtain⟨t2,k3,e3,o3⟩:=iJ hL2 (hz.trans hlen) hr
 rw[e3]
 refine .inl ⟨_,rfl,?_,hsim.same rfl rfl rfl,hzf,hset,hkind⟩
 rw[hlen]
 exact o3
theorem pM{u:Tr}{O:List Int}{tk:TK.Tok}{c1 c':Int×List Int}{m:Nat}{num:Int}(hpe:TK.bK 1 l=0)(hB:iZ N u)(hF:eE (sh N u))(hL:l=A++(O++(sh N u++41::X)))(hO:aV 1 (O++(sh N u++41::X)) 0=.ok (tk,O.length))(hfold:tk.fold=0)
  (hon:On l s A.length) (hfo:s.aD=false) (hbeg:yC (if tk.num=11 then cX s tk.text else .ok s) fun s1=>pD N s1 c1/\s1.next=s.next/\s1.aD=false/\(tk.num=11->(s1.ay:Int)=num)) (hc:cO u c1=.ok c') (hA:Bv c') (hr:yH X):
  yC (bW 1 l (bk 1 l m) s) fun x=>On l x.2 (A.length+(O++(sh N u++[41])).length)/\pD N x.2 c'/\x.2.aD=false/\∃u',(∀R,aZ (c'.2++R) u'=u)/\u'.kind=u.kind/\x.1=if tk.num=1 then u' else .mk tk.num (if tk.num=11 then num else 0) 0 0 0 false [] [u']:=by
 obtain⟨e1,e2⟩:=di hL hon hO
 unfold bW
 by_cases h20:s.deep=20
 ·exact .inr ⟨_,if_pos h20⟩
 ·rw [if_neg h20,e1]
  rcases hbeg with⟨s1,e3,hs1,hn1,hf1,hg1⟩|⟨a,e3⟩
  ·rw [e3]
   simp only
   have hL2:l=(A++O)++(sh N u++41::X):=by rw[hL];simp
   obtain⟨t2,k2,e4,o4⟩:=iJ (s:=s1) hL2 (by rw[hn1,e2,List.length_append]) (hF.Kk _)
   rw[e4]
   simp only
   have hfb:bE { s1 with tok:=t2,pos:=(A++O).length,next:=k2 } tk.fold=false:=by
    unfold bE
    rw[if_pos hfold]
    exact hf1
   rw[hfb]
   have hrec:=hB l (A++O) (41::X) { { s1 with tok:=t2,pos:=(A++O).length,next:=k2 } with deep:=s1.deep+1 } c1 c' m hpe hL2 (.inr ⟨X,rfl⟩) ⟨o4.pos,o4.tok⟩ (hs1.same rfl rfl rfl) hc hA
   rcases hrec with⟨⟨u',z3⟩,e5,g5⟩|⟨a,e5⟩
   ·rw [e5]
    simp only
    have hL3:l=(A++O++sh N u)++(41::X):=by rw[hL];simp
    have hlen3:(A++O).length+(sh N u).length=(A++O++sh N u).length:=by simp only[List.length_append]
    have o5:On l z3 (A++O++sh N u).length:=by rw[<- hlen3];exact g5.on
    obtain⟨e6,e7⟩:=di (tk:={ kind:=8 }) (k:=1) hL3 o5 rfl
    rw[if_neg (by rw[e6];decide)]
    have hL4:l=(A++O++sh N u++[41])++X:=by rw[hL];simp
    obtain⟨t4,k4,e8,o8⟩:=iJ (s:={ z3 with deep:=z3.deep - 1 }) hL4 (by show z3.next=_;rw[e7];simp only[List.length_append,List.length_singleton]) hr
    rw[e8]
    simp only
    have hj:(A++O++sh N u++[41]).length=A.length+(O++(sh N u++[41])).length:=by simp only[List.length_append];omega
    rw[hj]at o8 |-
    have hsim:pD N { { z3 with deep:=z3.deep - 1 } with tok:=t4,pos:=A.length+(O++(sh N u++[41])).length,next:=k4 } c':=g5.vt.same rfl rfl rfl
    have hfz:z3.aD=false:=g5.fo.trans hf1
    by_cases hn:tk.num=1
    ·rw [if_pos hn]
     exact .inl ⟨_,rfl,o8,hsim,hfz,u',g5.set,g5.kind,by rw[if_pos hn]⟩
    ·rw [if_neg hn]
     refine .inl ⟨_,rfl,o8,hsim,hfz,u',g5.set,g5.kind,?_⟩
     rw[if_neg hn]
     by_cases h11:tk.num=11
     ·rw[if_pos h11,if_pos h11,hg1 h11]
     ·rw[if_neg h11,if_neg h11]
   ·rw [e5]
    exact .inr ⟨a,rfl⟩
  ·rw [e3]
   exact .inr ⟨a,rfl⟩
theorem sO{u:Tr}(hB:iZ N u)(hF:eE (sh N u)):jm N u ([40,63,58]++(sh N u++[41])):=by
 intro l A X s c c' m hpe hL hon hfo hsim hc hA hr
 have hL2:l=A++([40,63,58]++(sh N u++41::X)):=by rw[hL];simp
 have hO:aV 1 ([40,63,58]++(sh N u++41::X)) 0=.ok (TK.aW 1,3):=rfl
 obtain⟨e1,e2⟩:=di hL2 hon hO
 unfold dm
 rw[e1,if_neg (by decide),if_pos (show(TK.aW 1).kind=7 from rfl)]
 rcases pM (num:=0) (m:=m) hpe hB hF hL2 hO rfl hon hfo (.inl ⟨s,rfl,hsim,rfl,hfo,fun h=>absurd h (by decide)⟩) hc hA hr with⟨x,e,o,sm,f,u',h1,h2,h3⟩|⟨a,e⟩
 ·refine .inl ⟨x,e,o,sm,f,?_,?_⟩
  ·rw[h3];exact h1
  ·rw[h3];exact h2
 ·exact .inr ⟨a,e⟩
end Go.Proofs.YtklbbbldalmnbaaGreatDoor.Pa
