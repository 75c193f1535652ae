import Derived.Test.YtklbbbldalmnbaaGreatDoorRH
import Derived.Test.YtklbbbldalmnbaaGreatDoorMP
set_option linter.unusedVariables false
namespace Go.Proofs.YtklbbbldalmnbaaGreatDoor.Pa
open TR (Tr cP cW cK bO de)
open TK (pt cY bV aQ)
open Br (BE PS)
variable {N : de} {l A X : List Int} {s : St}
def Cm(N:de):Prop:=N.Pairwise fun a b=>a.2<b.2/\a.1.toList≠b.1.toList
theorem filter_none{g:Int}(h:∀n∈N,n.2≠g+1):(N.filter fun n=>decide (n.2<=g+1))=N.filter fun n=>decide (n.2<=g):=by
 apply List.filter_congr
 intro n hn
 have:=h n hn
 rw[Bool.eq_iff_iff,decide_eq_true_iff,decide_eq_true_iff]
 omega
theorem filter_some{g:Int}:∀{N:de},Cm N->∀n∈N,n.2=g+1->(N.filter fun n=>decide (n.2<=g+1))=(N.filter fun n=>decide (n.2<=g))++[n]
 |[],_,n,hn,_=>by cases hn
 |x::N,hP,n,hn,hg=>by
  obtain⟨h1,h2⟩:=List.pairwise_cons.1 hP
  rcases List.mem_cons.1 hn with rfl|hn
  ·rw [List.filter_cons,List.filter_cons,if_pos (by simp;omega),if_neg (by simp;omega)]
   have e1:(N.filter fun n=>decide (n.2<=g+1))=[]:=List.filter_eq_nil_iff.2 fun m hm=>by have:=(h1 m hm).1;simp;omega
   have e2:(N.filter fun n=>decide (n.2<=g))=[]:=List.filter_eq_nil_iff.2 fun m hm=>by have:=(h1 m hm).1;simp;omega
   rw[e1,e2]
   rfl
  ·have :=(h1 n hn).1
   rw[List.filter_cons,List.filter_cons,if_pos (by simp;omega),if_pos (by simp;omega),filter_some h2 n hn hg]
   rfl
theorem vg:∀{N:de},Cm N->∀a∈N,∀b∈N,a.2<b.2->a.1.toList≠b.1.toList
 |[],_,a,ha,_,_,_=>by cases ha
 |x::N,hP,a,ha,b,hb,h=>by
  obtain⟨h1,h2⟩:=List.pairwise_cons.1 hP
  rcases List.mem_cons.1 ha with ea|ha'
  ·rcases List.mem_cons.1 hb with eb|hb'
   ·rw[ea,eb]at h;omega
   ·rw[ea];exact(h1 b hb').2
  ·rcases List.mem_cons.1 hb with eb|hb'
   ·have:=(h1 a ha').1;rw[eb]at h;omega
   ·exact vg h2 a ha' b hb' h
theorem E5(hP:Cm N){c:Int×List Int}{tx:ByteArray}(h:oX N s c)(ht:(∃n∈N,n.2=c.1+1/\tx=n.1/\tx.toList≠[])\/((∀n∈N,n.2≠c.1+1)/\tx.toList=[])):xD (cZ s tx) fun s1=>oX N s1 (c.1+1,c.2)/\s1.next=s.next/\s1.aD=s.aD/\(s1.aF:Int)=c.1+1:=by
 have hg:=h.og
 unfold cZ
 by_cases h20:s.aF=20
 ·exact .inr ⟨_,if_pos h20⟩
 ·rw [if_neg h20]
  rcases ht with⟨n,hn,hn2,rfl,hne⟩|⟨hno,he⟩
  ·rw [if_neg hne]
   have hh:hasName s.names n.1=false:=by
    unfold hasName
    rw[h.jA,List.any_eq_false]
    intro m hm
    obtain⟨hm1,hm2⟩:=List.mem_filter.1 hm
    have hm3:m.2<=c.1:=by simpa using hm2
    have:=vg hP m hm1 n hn (by omega)
    simpa using this
   rw[hh]
   refine .inl ⟨_,rfl,⟨by show((s.aF+1:Nat):Int)=_;omega,h.jf,h.Jr,?_⟩,rfl,rfl,by show((s.aF+1:Nat):Int)=_;omega⟩
   show s.names++[(n.1,((s.aF+1:Nat):Int))]=_
   rw[filter_some hP n hn hn2,h.jA]
   have:((s.aF+1:Nat):Int)=n.2:=by omega
   rw[this]
  ·rw [if_pos he]
   refine .inl ⟨_,rfl,⟨by show((s.aF+1:Nat):Int)=_;omega,h.jf,h.Jr,?_⟩,rfl,rfl,by show((s.aF+1:Nat):Int)=_;omega⟩
   show s.names=_
   rw[filter_none hno]
   exact h.jA
theorem qd{m:Nat}{fo:Bool}(hk:s.tok.kind=8):xD (bf 1 l m fo s) fun x=>x=(gI,{ s with aD:=s.aD }):=by
 cases m with
 |zero=>exact .inr ⟨0,rfl⟩
 |succ m=>
  show xD (bR 1 l (bf 1 l m) fo s) _
  unfold bR cr
  rw[ew (s:={ s with aD:=fo }) (by unfold lC;simp[hk])]
  simp only
  have:cV 1 l (bf 1 l m) (l.length+1) [gU []] { s with aD:=fo }=.ok ([gU []],{ s with aD:=fo }):=by
   unfold cV
   rw[if_neg (by show ¬s.tok.kind=9;omega)]
  rw[this]
  exact .inl ⟨_,rfl,rfl⟩
variable {N : de} {l A X : List Int} {s : St}
theorem DA{t:Tr}(h2:t.kind=2):jb N t (sh N t):=by
 intro l A X s c c' m hpe hL hon hfo hsim hc hA hr
 obtain⟨c1,hn,hk⟩:=dN hc
 have hks:=hn.none (.inl (by omega))
 rw[hks]at hk
 obtain rfl:c'=c:=(gW hk).trans (hn.same (by omega) (by omega))
 obtain⟨-,f2,f3,f4⟩:=hn.tq
 obtain⟨f3a,f3b,f3c⟩:=f3 (by omega)
 have ht:t=fg t.set:=by
  conv=>lhs;rw[jJ t]
  rw[h2,f2 (by omega) (by omega),f3a,f3b,f3c,f4 (by omega),hks]
  rfl
 have hset:∀R,bq (c'.2++R) (fg t.set)=t:=fun R=>by
  rw[ht]
  unfold fg
  rw[dV,iL _ _ (by decide)]
  rfl
 have key:∃f,Br.dj 1 false l ((A.length+1:Nat):Int)=.ok (f,A.length+(sh N t).length)/\bg f t.set:=by
  rw[xV t h2]at hL |-
  by_cases h0:t.set=[]
  ·rw [if_pos h0]at hL |-
   obtain⟨f,e,hf⟩:=Br.yM (A:=A++[91]) (X:=X) (i:=A.length+1) hpe (by rw[hL];simp) (by simp)
   refine⟨f,?_,by rw[h0];exact hf⟩
   rw[e]
   simp only[List.length_cons,List.length_append,List.length_nil]
   congr 2
   omega
  ·rw [if_neg h0]at hL |-
   have hS:bg (ins t.set) t.set:=pC hn.canon
   have e:=Br.CD (A:=A++[91]) (X:=X) (i:=A.length+1) hpe h0 hS hn.set (by rw[hL];simp) (by simp)
   refine⟨_,?_,hS⟩
   rw[e]
   simp only[List.length_cons,List.length_append,List.length_nil]
   congr 2
   omega
 obtain⟨f,e,hf⟩:=key
 have htk:aQ 1 (sh N t++X) 0=.ok ({ kind:=5 },1):=by
  rw[xV t h2]
  split<;>rfl
 obtain⟨e1,e2⟩:=cS hL hon htk
 have hsg:cJ 1 l s=.ok (fg t.set,{ s with next:=A.length+(sh N t).length }):=by
  unfold cJ lW
  rw[e1,e2,hfo]
  simp only[show ((5:Int)=3)=False by decide,show((5:Int)=10)=False by decide,show((5:Int)=11)=False by decide,show((5:Int)=1)=False by decide,show((5:Int)=4)=False by decide,if_false,if_true]
  rw[e]
  simp only
  rw[sV hf]
 exact nG hL hon htk ⟨by decide,by decide⟩ hsg rfl hfo (hsim.same rfl rfl rfl) hset (by rw[h2];rfl) hr
theorem AW{t:Tr}(hk3:3<=t.kind/\t.kind<=8):jb N t (sh N t):=by
 intro l A X s c c' m hpe hL hon hfo hsim hc hA hr
 obtain⟨c1,hn,hk⟩:=dN hc
 have hks:=hn.none (.inl (by omega))
 rw[hks]at hk
 obtain rfl:c'=c:=(gW hk).trans (hn.same (by omega) (by omega))
 obtain⟨f1,f2,f3,f4⟩:=hn.tq
 obtain⟨f3a,f3b,f3c⟩:=f3 (by omega)
 have ht:t=pF t.kind:=by
  conv=>lhs;rw[jJ t]
  rw[f1 (by omega),f2 (by omega) (by omega),f3a,f3b,f3c,f4 (by omega),hks]
  rfl
 have hset:∀R,bq (c'.2++R) (pF t.kind)=t:=fun R=>by
  conv=>rhs;rw[ht]
  unfold pF
  rw[dV,iL _ _ (by omega)]
  rfl
 have htk:aQ 1 (sh N t++X) 0=.ok (TK.bn t.kind,(sh N t).length):=by
  rw[uw t (.inr hk3)]
  rcases(by omega:t.kind=3\/t.kind=4\/t.kind=5\/t.kind=6\/t.kind=7\/t.kind=8)with e|e|e|e|e|e<;>rw[e]<;>rfl
 obtain⟨e1,e2⟩:=cS hL hon htk
 have hsg:cJ 1 l s=.ok (pF t.kind,s):=by
  unfold cJ
  rw[e1]
  rfl
 exact nG hL hon htk ⟨by simp[TK.bn],by simp[TK.bn]⟩ hsg e2 hfo hsim hset rfl hr
theorem yF{t:Tr}(h1:t.kind=1):jb N t (sh N t):=by
 intro l A X s c c' m hpe hL hon hfo hsim hc hA hr
 obtain⟨c1,hn,hk⟩:=dN hc
 have hks:=hn.none (.inl (by omega))
 rw[hks]at hk
 obtain rfl:c'=c:=(gW hk).trans (hn.same (by omega) (by omega))
 obtain⟨f1,f2,f3,f4⟩:=hn.tq
 obtain⟨f3a,f3b,f3c⟩:=f3 (by omega)
 have ht:t=gI:=by
  rw[jJ t,h1,f1 (by omega),f2 (by omega) (by omega),f3a,f3b,f3c,f4 (by omega),hks]
  rfl
 have hset:∀R,bq (c'.2++R) gI=t:=fun R=>by
  rw[ht]
  unfold gI
  rw[dV,iL _ _ (by decide)]
  rfl
 have hsh:sh N t=[40,63,58,41]:=by rw[uw t (.inl h1),h1];rfl
 rw[hsh]at hL |-
 have htk:aQ 1 ([40,63,58,41]++X) 0=.ok (TK.aR 1,3):=rfl
 obtain⟨e1,e2⟩:=cS hL hon htk
 unfold dy
 rw[e1,if_neg (by decide),if_pos (show(TK.aR 1).kind=7 from rfl)]
 unfold cd
 by_cases h20:s.deep=20
 ·exact .inr ⟨_,if_pos h20⟩
 ·rw [if_neg h20,e1]
  have hL2:l=(A++[40,63,58])++([41]++X):=by rw[hL];simp
  obtain⟨t2,k2,e3,o3⟩:=iE (s:=s) hL2 (by rw[e2];simp) (.inr ⟨{ kind:=8 },1,rfl⟩)
  obtain⟨e4,e5⟩:=cS (tk:={ kind:=8 }) (k:=1) hL2 o3 rfl
  simp only at e4 e5
  rw[if_neg (show ¬(TK.aR 1).num=11 by decide)]
  simp only
  rw[e3]
  simp only
  rcases qd (l:=l) (m:=m) (fo:=bw { s with tok:=t2,pos:=(A++[40,63,58]).length,next:=k2 } (TK.aR 1).fold) (s:={ { s with tok:=t2,pos:=(A++[40,63,58]).length,next:=k2 } with deep:=s.deep+1 }) (by show t2.kind=8;rw[e4])with⟨x,e6,rfl⟩|⟨a,e6⟩
  ·rw [e6]
   simp only
   rw[if_neg (by rw[e4];decide)]
   have hL4:l=(A++[40,63,58,41])++X:=by rw[hL];simp
   obtain⟨t4,k4,e8,o8⟩:=iE (s:={ { { s with tok:=t2,pos:=(A++[40,63,58]).length,next:=k2 } with deep:=s.deep+1 } with deep:=s.deep+1 - 1 }) hL4 (by show k2=_;rw[e5];simp) hr
   simp only at e8
   rw[e8]
   simp only
   rw[if_pos (show(TK.aR 1).num=1 from rfl)]
   have hj:(A++[40,63,58,41]).length=A.length+([40,63,58,41]:List Int).length:=by simp
   refine .inl ⟨_,rfl,?_,hsim.same rfl rfl rfl,hfo,hset,by rw[h1];rfl⟩
   rw[<- hj]
   exact⟨o8.pos,o8.tok⟩
  ·rw [e6]
   exact .inr ⟨a,rfl⟩
variable {N : de} {l A X : List Int} {s : St}
theorem vZ{c:Int×List Int}{n:Nat}(hs:s.tok=TK.aP n)(hsim:oX N s c):ga s=.ok (.mk 18 s.ay.length 0 0 0 s.aD [] [],{ s with ay:=s.ay++[(⟨(n:Int),⟨#[]⟩,s.pos⟩:Ag)] })/\oX N { s with ay:=s.ay++[(⟨(n:Int),⟨#[]⟩,s.pos⟩:Ag)] } (c.1,c.2++[(n:Int)]):=by
 refine⟨?_,hsim.og,?_,?_,hsim.jA⟩
 ·have h0:¬s.tok.num<0:=by rw[hs];show ¬(n:Int)<0;omega
  have h1:s.tok.num=n:=by rw[hs];rfl
  have h2:s.tok.text=⟨#[]⟩:=by rw[hs];rfl
  unfold ga
  simp only[h0,if_false,false_and]
  rw[h1,h2]
 ·simp[hsim.jf]
 ·intro a ha
  rcases List.mem_append.1 ha with h|h
  ·exact hsim.Jr a h
  ·rw [List.mem_singleton]at h
   rw[h]
   exact ByteArray.toList_eq _
theorem Cz{c:Int×List Int}{num:Int}{f:Bool}(hsim:oX N s c)(R:List Int):bq ((c.2++[num])++R) (.mk 18 s.ay.length 0 0 0 f [] [])=.mk 18 num 0 0 0 f [] []:=by
 rw[dV]
 have hl:s.ay.length=c.2.length:=by rw[<- hsim.jf,List.length_map]
 have:oR ((c.2++[num])++R) 18 (s.ay.length:Int)=num:=by
  unfold oR
  rw[if_pos rfl,hl]
  simp[List.getD]
 rw[this]
 rfl
theorem xM{t:Tr}(h18:t.kind=18):jb N t (sh N t):=by
 intro l A X s c c' m hpe hL hon hfo hsim hc hA hr
 obtain⟨c1,hn,hk⟩:=dN hc
 have hks:=hn.none (.inr h18)
 rw[hks]at hk
 have hcc:c'=(c.1,c.2++[t.num]):=(gW hk).trans (hn.ag h18)
 obtain⟨f1,f2,f3,f4⟩:=hn.tq
 obtain⟨f3a,f3b,f3c⟩:=f3 (by omega)
 have ht:t=.mk 18 t.num 0 0 0 t.fold [] []:=by
  conv=>lhs;rw[jJ t]
  rw[h18,f1 (by omega),f3a,f3b,f3c,hks]
 have hnum:1<=t.num/\t.num<=20:=hA t.num (by rw[hcc];simp)
 obtain⟨n,hnn⟩:∃n:Nat,t.num=n:=⟨t.num.toNat,by omega⟩
 have hnt:t.num.toNat=n:=by omega
 have hn1:1<=n/\n<=999:=by omega
 have hset:∀(z:St) (f:Bool),oX N z c->f=t.fold->∀R,bq (c'.2++R) (.mk 18 z.ay.length 0 0 0 f [] [])=t:=fun z f hz hf R=>by
  rw[hcc,Cz hz R,hf]
  exact ht.symm
 have hsh:=vy (N:=N) t h18
 by_cases hf:t.fold=true
 ·unfold TR.CO at hsh
  rw[if_pos hf,hnt]at hsh
  have hsh2:sh N t=[40,63,105,58]++([92,107,60]++(pt (Go.Lib.decDigits n)++[62,41])):=by
   rw[hsh]
   simp only[cY]
   rfl
  rw[hsh2]at hL |-
  have htk:aQ 1 ([40,63,105,58]++([92,107,60]++(pt (Go.Lib.decDigits n)++[62,41]))++X) 0=.ok ({ kind:=7,num:=1,fold:=1 },4):=rfl
  obtain⟨e1,e2⟩:=cS hL hon htk
  unfold dy
  rw[e1,if_neg (by decide),if_pos (by rfl)]
  unfold cd
  by_cases h20:s.deep=20
  ·exact .inr ⟨_,if_pos h20⟩
  ·rw [if_neg h20,e1]
   have hL2:l=(A++[40,63,105,58])++([92,107,60]++(pt (Go.Lib.decDigits n)++(62::41::X))):=by rw[hL];simp
   have htk2:=TK.ma (u:=n) (r:=41::X) hn1.1 hn1.2
   obtain⟨t2,k2,e3,o3⟩:=iE (s:=s) hL2 (by rw[e2];simp) (.inr ⟨_,_,htk2⟩)
   obtain⟨e4,e5⟩:=cS hL2 o3 htk2
   simp only at e4 e5
   rw[if_neg (show ¬({ kind:=7,num:=1,fold:=1 }:TK.Tok).num=11 by decide)]
   simp only
   rw[e3]
   simp only
   have hfb:∀z:St,bw z 1=true:=fun z=>by unfold bw;rw[if_neg (by decide)];rfl
   rw[hfb]
   cases m with
   |zero=>exact .inr ⟨0,rfl⟩
   |succ m=>
    show xD (match bR 1 l (bf 1 l m) true { { s with tok:=t2,pos:=(A++[40,63,105,58]).length,next:=k2 } with deep:=s.deep+1 } with| .error e=>Except.error e| .ok (t,s3)=>_) _
    obtain⟨z,hz⟩:∃z:St,z={ { { s with tok:=t2,pos:=(A++[40,63,105,58]).length,next:=k2 } with deep:=s.deep+1 } with aD:=true }:=⟨_,rfl⟩
    have hzs:oX N z c:=by rw[hz];exact hsim.same rfl rfl rfl
    have hzt:z.tok=TK.aP n:=by rw[hz];exact e4
    obtain⟨g1,g2⟩:=vZ hzt hzs
    have hzn:z.next=(A++[40,63,105,58]).length+(3+(Go.Lib.decDigits n).length+1):=by rw[hz];exact e5
    have hL3:l=(A++[40,63,105,58]++([92,107,60]++(pt (Go.Lib.decDigits n)++[62])))++(41::X):=by rw[hL];simp
    have hlen3:z.next=(A++[40,63,105,58]++([92,107,60]++(pt (Go.Lib.decDigits n)++[62]))).length:=by rw[hzn];simp[bV];omega
    obtain⟨t5,k5,e6,o6⟩:=iE (s:={ z with ay:=z.ay++[(⟨(n:Int),⟨#[]⟩,z.pos⟩:Ag)] }) hL3 hlen3 (.inr ⟨{ kind:=8 },1,rfl⟩)
    obtain⟨e7,e8⟩:=cS (tk:={ kind:=8 }) (k:=1) hL3 o6 rfl
    simp only at e7 e8
    obtain⟨z2,hz2⟩:∃z2:St,z2={ { z with ay:=z.ay++[(⟨(n:Int),⟨#[]⟩,z.pos⟩:Ag)] } with tok:=t5,pos:=(A++[40,63,105,58]++([92,107,60]++(pt (Go.Lib.decDigits n)++[62]))).length,next:=k5 }:=⟨_,rfl⟩
    rw[<- hz2]at e6
    have hz2t:z2.tok.kind=8:=by rw[hz2];show t5.kind=8;rw[e7]
    have hatom:dy 1 l (bf 1 l m) z=.ok (.mk 18 z.ay.length 0 0 0 z.aD [] [],z2):=by
     have hzk:z.tok.kind=10:=by rw[hzt];rfl
     unfold dy
     rw[if_neg (by omega),if_neg (by omega)]
     unfold cJ
     rw[if_neg (by omega),if_pos hzk,g1]
     simp only
     rw[e6]
    have hpiece:cN 1 l (bf 1 l m) z=.ok (.mk 18 z.ay.length 0 0 0 z.aD [] [],z2):=by
     unfold cN
     rw[hatom]
     exact ie (by omega)
    have hend:lC l z=false:=by
     unfold lC
     rw[hzt]
     have:z.pos≠l.length:=by
      rw[hz]
      show(A++[40,63,105,58]).length≠l.length
      have:=congrArg List.length hL2
      simp only[List.length_append,List.length_cons,List.length_nil,bV]at this |-
      omega
     simp[this,TK.aP]
    have hbr:cr 1 l (bf 1 l m) z=.ok (.mk 18 z.ay.length 0 0 0 z.aD [] [],z2):=by
     unfold cr
     rw[gy hend,hpiece]
     simp only
     rw[ew (by unfold lC;simp[hz2t])]
     rfl
    unfold bR
    rw[<- hz,hbr]
    simp only
    have hbars:cV 1 l (bf 1 l m) (l.length+1) [.mk 18 z.ay.length 0 0 0 z.aD [] []] z2=.ok ([.mk 18 z.ay.length 0 0 0 z.aD [] []],z2):=by
     unfold cV
     rw[if_neg (by omega)]
    rw[hbars]
    simp only
    rw[if_neg (by rw[hz2t];decide)]
    have hL4:l=(A++([40,63,105,58]++([92,107,60]++(pt (Go.Lib.decDigits n)++[62,41]))))++X:=by rw[hL];simp
    obtain⟨t9,k9,e9,o9⟩:=iE (s:={ { z2 with aD:=s.aD } with deep:=z2.deep - 1 }) hL4 (by show z2.next=_;rw[hz2];show k5=_;rw[e8];simp only[List.length_append,List.length_cons,List.length_nil,bV];omega) hr
    rw[e9]
    simp only
    rw[if_pos trivial]
    have hzf:z.aD=true:=by rw[hz]
    refine .inl ⟨_,rfl,?_,?_,hfo,?_,by rw[h18];rfl⟩
    ·have hj:(A++([40,63,105,58]++([92,107,60]++(pt (Go.Lib.decDigits n)++[62,41])))).length=A.length+([40,63,105,58]++([92,107,60]++(pt (Go.Lib.decDigits n)++[62,41]))).length:=List.length_append
     rw[<- hj]
     exact⟨o9.pos,o9.tok⟩
    ·rw [hcc,hnn]
     exact g2.same (by show z2.aF=_;rw[hz2]) (by show z2.ay=_;rw[hz2]) (by show z2.names=_;rw[hz2])
    ·exact hset z z.aD hzs (hzf.trans hf.symm)
 ·have hf2:t.fold=false:=by simpa using hf
  unfold TR.CO at hsh
  rw[if_neg hf,hnt]at hsh
  have hsh2:sh N t=[92,107,60]++(pt (Go.Lib.decDigits n)++[62]):=by
   rw[hsh]
   simp only[cY]
   rfl
  have htk:aQ 1 (sh N t++X) 0=.ok (TK.aP n,3+(Go.Lib.decDigits n).length+1):=by
   rw[hsh2, <-TK.ma (u:=n) (r:=X) hn1.1 hn1.2]
   simp
  obtain⟨e1,e2⟩:=cS hL hon htk
  obtain⟨g1,g2⟩:=vZ e1 hsim
  have hsg:cJ 1 l s=.ok (.mk 18 s.ay.length 0 0 0 s.aD [] [],{ s with ay:=s.ay++[(⟨(n:Int),⟨#[]⟩,s.pos⟩:Ag)] }):=by
   have hk:s.tok.kind=10:=by rw[e1];rfl
   unfold cJ
   rw[if_neg (by omega),if_pos hk,g1]
  refine nG hL hon htk ⟨by simp[TK.aP],by simp[TK.aP]⟩ hsg ?_ hfo (by rw[hcc,hnn];exact g2) (hset s s.aD hsim (by rw[hfo,hf2])) (by rw[h18];rfl) hr
  show s.next=_
  rw[e2,hsh2]
  simp[bV]
  omega
variable {N : de} {l A X : List Int} {s : St}
theorem Bn(hN:jV N)(hP:Cm N){t u:Tr}(hk:t.kind=11\/(13<=t.kind/\t.kind<=17))(hu:t.kids=[u])(hB:iS N u):jb N t (sh N t):=by
 intro l A X s c c' m hpe hL hon hfo hsim hc hA hr
 obtain⟨c1,hn,hk1⟩:=dN hc
 rw[hu]at hk1
 obtain⟨c2,hcu,hc2⟩:=eC hk1
 obtain rfl:c'=c2:=gW hc2
 obtain⟨f1,f2,f3,f4⟩:=hn.tq
 obtain⟨f3a,f3b,f3c⟩:=f3 (by omega)
 have hF:=kE hN _ u c1 c' (U _) hcu hA
 have ht:t=.mk t.kind t.num 0 0 0 false [] [u]:=by
  conv=>lhs;rw[jJ t]
  rw[f1 (by omega),f3a,f3b,f3c,f4 (by omega),hu]
 have hsh:=zG (N:=N) t u hk hu
 have hL2:l=A++(pt (TR.aR N t.kind t.num)++(sh N u++41::X)):=by rw[hL,hsh];simp
 have key:∃tk:TK.Tok,aQ 1 (pt (TR.aR N t.kind t.num)++(sh N u++41::X)) 0=.ok (tk,(pt (TR.aR N t.kind t.num)).length)/\tk.kind=7/\tk.fold=0/\tk.num=t.kind/\xD (if tk.num=11 then cZ s tk.text else .ok s) fun s1=>oX N s1 c1/\s1.next=s.next/\s1.aD=false/\(tk.num=11->(s1.aF:Int)=t.num):=by
  rw[bV]
  by_cases h11:t.kind=11
  ·obtain ⟨hnum,hc1⟩:=hn.og h11
   obtain⟨⟨q,r,hq,hq2, -⟩, -⟩:=hF
   obtain⟨tx,e,htx⟩:=sr (num:=t.num) (X:=r++41::X) hN hq2
   refine⟨{ kind:=7,num:=11,text:=tx },?_,rfl,rfl,h11.symm,?_⟩
   ·rw [h11,qf, <-e,hq]
    rfl
   ·rw [if_pos rfl]
    rw[hnum]at htx
    rcases E5 hP hsim htx with⟨s1,e1,a,b,d,f⟩|⟨a,e1⟩
    ·exact .inl ⟨s1,e1,by rw[hc1];exact a,b,d.trans hfo,fun _=>f.trans hnum.symm⟩
    ·exact .inr ⟨a,e1⟩
  ·have h13:13<=t.kind/\t.kind<=17:=by omega
   refine⟨TK.aR t.kind,s7 h13 _,rfl,rfl,rfl,?_⟩
   rw[if_neg (by show ¬t.kind=11;exact h11)]
   have hc1:=hn.same h11 (by omega)
   exact .inl ⟨s,rfl,by rw[hc1];exact hsim,rfl,hfo,fun h=>absurd h h11⟩
 obtain⟨tk,hO,h7,hfold,hnum,hbeg⟩:=key
 obtain⟨e1,e2⟩:=cS hL2 hon hO
 unfold dy
 rw[e1,if_neg (by omega),if_pos h7]
 have hlen:(sh N t).length=(pt (TR.aR N t.kind t.num)++(sh N u++[41])).length:=by rw[hsh]
 rw[hlen]
 rcases oZ (m:=m) hpe hB hF hL2 hO hfold hon hfo hbeg hcu hA hr with⟨x,e,o,sm,f,u',h1,h2,h3⟩|⟨a,e⟩
 ·refine .inl ⟨x,e,o,sm,f,fun R=>?_,?_⟩
  ·rw [h3,if_neg (by omega),dV,hnum,iL _ _ (by omega)]
   conv=>rhs;rw[ht]
   rw[List.map_cons,List.map_nil,h1 R]
   by_cases h11:t.kind=11
   ·rw[if_pos h11]
   ·rw[if_neg h11,f2 h11 (by omega)]
  ·rw [h3,if_neg (by omega)]
   exact hnum
 ·exact .inr ⟨a,e⟩
theorem zY(hN:jV N)(hP:Cm N){t:Tr}(hk:t.kind≠9/\t.kind≠10/\t.kind≠12)(hB:∀u∈t.kids,iS N u):jb N t (sh N t):=by
 intro l A X s c c' m hpe hL hon hfo hsim hc hA hr
 obtain⟨c1,hn,hk1⟩:=dN hc
 have hkd:=hn.kind
 by_cases h1:t.kind=1
 ·exact yF h1 l A X s c c' m hpe hL hon hfo hsim hc hA hr
 ·by_cases h2:t.kind=2
  ·exact DA h2 l A X s c c' m hpe hL hon hfo hsim hc hA hr
  ·by_cases h3:3<=t.kind/\t.kind<=8
   ·exact AW h3 l A X s c c' m hpe hL hon hfo hsim hc hA hr
   ·by_cases h18:t.kind=18
    ·exact xM h18 l A X s c c' m hpe hL hon hfo hsim hc hA hr
    ·obtain ⟨u,hu⟩:=hn.one (by omega)
     exact Bn hN hP (by omega) hu (hB u (by rw[hu];simp)) l A X s c c' m hpe hL hon hfo hsim hc hA hr
def Tl(X:List Int):Prop:=X=[]\/∃tk k,aQ 1 X 0=.ok (tk,k)/\tk.kind≠6
theorem Tl.Jg(h:Tl X):yv X:=by
 rcases h with h|⟨tk,k,e,_⟩
 ·exact .inl h
 ·exact .inr ⟨tk,k,e⟩
theorem ei.tl{T:List Int}(h:ei T)(Y:List Int):Tl (T++Y):=by
 obtain⟨tk,k,e,h6,_⟩:=h.2 Y
 exact .inr ⟨tk,k,e,h6⟩
theorem Tl.kind(h:Tl X)(hL:l=A++X)(ho:On l s A.length):s.tok.kind≠6:=by
 rcases h with h|⟨tk,k,e,h6⟩
 ·rw[tw hL ho h];decide
 ·rw[(cS hL ho e).1];exact h6
theorem Tl.KE(h:Tl X):TK.Kv X:=by
 rcases h with h|⟨tk,k,e,h6⟩
 ·exact .inl h
 ·cases X with
  |nil=>exact .inl rfl
  |cons q r=>
   refine .inr ⟨q,r,rfl,?_,?_⟩
   ·rintro rfl
    have e2:aQ 1 (63::r) 0=.ok (TK.cD 1 (63::r) 1 0 1):=rfl
    rw[e2]at e
    injection e with e
    have h1:=congrArg (fun x=>x.1.kind) e
    simp only at h1
    apply h6
    rw[<- h1]
    unfold TK.cD
    repeat' split
    all_goals rfl
   ·rintro rfl
    have e2:aQ 1 (43::r) 0=.ok (TK.cD 1 (43::r) 1 1 (-1)):=rfl
    rw[e2]at e
    injection e with e
    have h1:=congrArg (fun x=>x.1.kind) e
    simp only at h1
    apply h6
    rw[<- h1]
    unfold TK.cD
    repeat' split
    all_goals rfl
def kW(N:de)(t:Tr)(T:List Int):Prop:=∀(l A X:List Int) (s:St) (c c':Int×List Int) (m:Nat),TK.cq 1 l=0->l=A++(T++X)->On l s A.length->s.aD=false->oX N s c->cP t c=.ok c'->Cu c'->Tl X->xD (cN 1 l (bf 1 l m) s) (JI N l t c' false (A.length+T.length))
theorem qJ{t:Tr}{T:List Int}(h:jb N t T):kW N t T:=by
 intro l A X s c c' m hpe hL hon hfo hsim hc hA hr
 unfold cN
 rcases h l A X s c c' m hpe hL hon hfo hsim hc hA hr.Jg with⟨⟨u,z⟩,e,g⟩|⟨a,e⟩
 ·rw [e]
  simp only
  have hL2:l=(A++T)++X:=by rw[hL,List.append_assoc]
  have ho:On l z (A++T).length:=by rw[List.length_append];exact g.on
  rw[ie (hr.kind hL2 ho)]
  exact .inl ⟨_,rfl,g⟩
 ·rw [e]
  exact .inr ⟨a,rfl⟩
end Go.Proofs.YtklbbbldalmnbaaGreatDoor.Pa
namespace Go.Proofs.YtklbbbldalmnbaaGreatDoor.Pa
open TR (Tr cP cW cK bO de fu)
open TK (pt cY bV aQ)
open Br (BE PS)
variable {N : de} {l A X : List Int} {s : St}
theorem CJ(hN:jV N)(hP:Cm N){u:Tr}(hBu:iS N u)(hBk:∀v∈u.kids,iS N v)(b:Bool)(hb:b=false->u.kind≠9/\u.kind≠10/\u.kind≠12)(hF:ei (sh N u)):jb N u (kP b (sh N u)):=by
 unfold kP
 cases b with
 |true=>exact sw hBu hF
 |false=>exact zY hN hP (hb rfl) hBk
theorem pQ{u:Tr}(b:Bool)(hF:ei (sh N u)):ei (kP b (sh N u)):=by
 unfold kP
 cases b with
 |true=>exact lV _
 |false=>exact hF
theorem AS(hN:jV N)(hP:Cm N){t u:Tr}(h12:t.kind=12)(hu:t.kids=[u])(hBu:iS N u)(hBk:∀v∈u.kids,iS N v):kW N t (sh N t):=by
 intro l A X s c c' m hpe hL hon hfo hsim hc hA hr
 obtain⟨c1,hn,hk1⟩:=dN hc
 rw[hu]at hk1
 obtain⟨c2,hcu,hc2⟩:=eC hk1
 obtain rfl:c'=c2:=gW hc2
 rw[hn.same (by omega) (by omega)]at hcu
 obtain⟨f1,f2, -,f4⟩:=hn.tq
 obtain⟨r1,r2,r3⟩:=hn.rep h12
 have hF:=kE hN _ u c c' (U _) hcu hA
 have ht:t=.mk 12 0 t.least t.an t.bB false [] [u]:=by
  conv=>lhs;rw[jJ t]
  rw[h12,f1 (by omega),f2 (by omega) (by omega),f4 (by omega),hu]
 have hsh:=DU (N:=N) t u h12 hu
 obtain⟨W,hW⟩:∃W,W=kP (fu u.kind) (sh N u):=⟨_,rfl⟩
 have hFW:ei W:=by rw[hW];exact pQ _ hF
 have hat:jb N u W:=by
  rw[hW]
  exact CJ hN hP hBu hBk _ (fun h=>by
   unfold fu at h
   simp only[Bool.or_eq_false_iff,decide_eq_false_iff_not]at h
   exact⟨h.1.1,h.1.2,h.2⟩) hF
 rw[<- hW]at hsh
 have hL2:l=A++(W++(pt (TR.cD t.least t.an t.bB)++X)):=by rw[hL,hsh];simp
 have htk:=TK.De (r:=X) r1 r2 r3 hr.KE
 have h11:s.tok.kind≠11:=by
  obtain⟨tk,k,e,_,_,_,h⟩:=hFW.2 (pt (TR.cD t.least t.an t.bB)++X)
  rw[(cS hL2 hon e).1];exact h
 unfold cN
 rcases hat l A (pt (TR.cD t.least t.an t.bB)++X) s c c' m hpe hL2 hon hfo hsim hcu hA (.inr ⟨_,_,htk⟩)with⟨⟨u1,z⟩,e,g⟩|⟨a,e⟩
 ·rw [e]
  simp only
  have hL3:l=(A++W)++(pt (TR.cD t.least t.an t.bB)++X):=by rw[hL2,List.append_assoc]
  have ho:On l z (A++W).length:=by rw[List.length_append];exact g.on
  obtain⟨e1,e2⟩:=cS hL3 ho htk
  have h6:z.tok.kind=6:=by rw[e1]
  rw[tn h6,if_neg (by simp[h11]),if_neg (by omega)]
  have hL4:l=(A++W++pt (TR.cD t.least t.an t.bB))++X:=by rw[hL2];simp
  obtain⟨t4,k4,e4,o4⟩:=iE (s:=z) hL4 (by rw[e2];simp only[List.length_append,bV]) hr.Jg
  rw[e4]
  simp only
  rw[ie (hr.kind hL4 o4)]
  have hj:(A++W++pt (TR.cD t.least t.an t.bB)).length=A.length+(sh N t).length:=by rw[hsh];simp only[List.length_append];omega
  refine .inl ⟨_,rfl,?_,g.uH.same rfl rfl rfl,g.fo,fun R=>?_,by rw[h12];rfl⟩
  ·rw[<- hj];exact o4
  ·unfold cD
   rw[dV,iL _ _ (by decide),e1,List.map_cons,List.map_nil,g.set R]
   exact ht.symm
 ·rw [e]
  exact .inr ⟨a,rfl⟩
theorem vq(hN:jV N)(hP:Cm N){t:Tr}(hk:t.kind≠9/\t.kind≠10)(hB:∀u∈t.kids,iS N u/\∀v∈u.kids,iS N v):kW N t (sh N t):=by
 by_cases h12:t.kind=12
 ·intro l A X s c c' m hpe hL hon hfo hsim hc hA hr
  obtain⟨c1,hn,hk1⟩:=dN hc
  obtain⟨u,hu⟩:=hn.one (by omega)
  obtain⟨b1,b2⟩:=hB u (by rw[hu];simp)
  exact AS hN hP h12 hu b1 b2 l A X s c c' m hpe hL hon hfo hsim hc hA hr
 ·exact qJ (zY hN hP ⟨hk.1,hk.2,h12⟩ (fun u hu=>(hB u hu).1))
def uh(X:List Int):Prop:=X=[]\/(∃r,X=41::r)\/∃r,X=124::r
theorem uh.tl(h:uh X):Tl X:=by
 rcases h with h|⟨r,rfl⟩|⟨r,rfl⟩
 ·exact .inl h
 ·exact .inr ⟨{ kind:=8 },1,rfl,by decide⟩
 ·exact .inr ⟨{ kind:=9 },1,rfl,by decide⟩
theorem uh.stop(h:uh X)(hL:l=A++X)(ho:On l s A.length):lC l s=true:=by
 unfold lC
 rcases h with h|⟨r,rfl⟩|⟨r,rfl⟩
 ·have :s.pos=l.length:=by rw[ho.pos,hL,h];simp
  simp[this]
 ·rw[(cS (tk:={ kind:=8 }) (k:=1) hL ho rfl).1];simp
 ·rw[(cS (tk:={ kind:=9 }) (k:=1) hL ho rfl).1];simp
theorem D0{T:List Int}(hF:ei T)(hL:l=A++(T++X))(ho:On l s A.length):lC l s=false:=by
 obtain⟨tk,k,e,h6,h8,h9,h11⟩:=hF.2 X
 have h1:=(cS hL ho e).1
 have h2:=TK.iX A e
 rw[<- hL]at h2
 have h3:=oY h2
 unfold lC
 rw[h1,ho.pos]
 simp only[Bool.or_eq_false_iff,decide_eq_false_iff_not]
 exact⟨⟨by omega,h9⟩,h8⟩
structure JK(N:de)(l:List Int)(ts:List Tr)(c:Int×List Int)(j:Nat)(ps:List Tr)(x:List Tr×St):Prop where
 on:On l x.2 j
 uH:oX N x.2 c
 fo:x.2.aD=false
 res:∃us,x.1=ps++us/\us.map Tr.kind=ts.map Tr.kind/\∀R,us.map (bq (c.2++R))=ts
theorem nH{F:Tr->List Int}{m:Nat}(hpe:TK.cq 1 l=0)(hX:uh X):∀(ts:List Tr) (n:Nat) (A:List Int) (ps:List Tr) (s:St) (c c':Int×List Int),(∀t∈ts,kW N t (F t))->(∀t∈ts,ei (F t))->l=A++(ts.flatMap F++X)->On l s A.length->s.aD=false->oX N s c->TR.cG ts c=.ok c'->Cu c'->ts.length<n->xD (dd 1 l (bf 1 l m) n ps s) (JK N l ts c' (A.length+(ts.flatMap F).length) ps)
 |[],n,A,ps,s,c,c',hPc,hFc,hL,hon,hfo,hsim,hc,hA,hn=>by
  have hL2:l=A++X:=by rw[hL];rfl
  rw[ew (hX.stop hL2 hon)]
  obtain rfl:c'=c:=gW hc
  exact .inl ⟨_,rfl,hon,hsim,hfo,[],by simp,rfl,fun R=>rfl⟩
 |t::ts,0,A,ps,s,c,c',hPc,hFc,hL,hon,hfo,hsim,hc,hA,hn=>absurd hn (by simp)
 |t::ts,n+1,A,ps,s,c,c',hPc,hFc,hL,hon,hfo,hsim,hc,hA,hn=>by
  obtain⟨c1,hc1,hc2⟩:=eC hc
  obtain⟨B,hB⟩:=ec _ _ _ hc2
  have hL2:l=A++(F t++(ts.flatMap F++X)):=by rw[hL];simp
  have hL3:l=(A++F t)++(ts.flatMap F++X):=by rw[hL2];simp
  have htl:Tl (ts.flatMap F++X):=by
   cases ts with
   |nil=>exact hX.tl
   |cons u us=>
    rw[List.flatMap_cons,List.append_assoc]
    exact(hFc u (by simp)).tl _
  rw[gy (D0 (hFc t (by simp)) hL2 hon)]
  rcases hPc t (by simp) l A (ts.flatMap F++X) s c c1 m hpe hL2 hon hfo hsim hc1 (hA.of hB) htl with⟨⟨u,z⟩,e,g⟩|⟨a,e⟩
  ·rw [e]
   simp only
   have ho:On l z (A++F t).length:=by rw[List.length_append];exact g.on
   rcases nH hpe hX ts n (A++F t) (ps++[u]) z c1 c' (fun v hv=>hPc v (by simp[hv])) (fun v hv=>hFc v (by simp[hv])) hL3 ho g.fo g.uH hc2 hA (by simpa using hn)with⟨x,e2,g2⟩|⟨a,e2⟩
   ·rw [e2]
    obtain⟨us,h1,h2,h3⟩:=g2.res
    have hj:(A++F t).length+(ts.flatMap F).length=A.length+((t::ts).flatMap F).length:=by simp only[List.length_append,List.flatMap_cons];omega
    refine .inl ⟨x,rfl,by rw[<- hj];exact g2.on,g2.uH,g2.fo,u::us,by rw[h1];simp,by rw[List.map_cons,List.map_cons,h2,g.kind],fun R=>?_⟩
    rw[List.map_cons,h3 R,hB,List.append_assoc,g.set]
   ·rw [e2]
    exact .inr ⟨a,rfl⟩
  ·rw [e]
   exact .inr ⟨a,rfl⟩
variable {N : de} {l A X : List Int} {s : St}
theorem sJ{F:Tr->List Int}:∀(ts:List Tr),(∀t∈ts,ei (F t))->ts.length<=(ts.flatMap F).length
 |[],_=>by simp
 |t::ts,h=>by
  obtain⟨⟨q,r,hq,_⟩,_⟩:=h t (by simp)
  have:=sJ ts (fun u hu=>h u (by simp[hu]))
  simp only[List.flatMap_cons,List.length_append,List.length_cons,hq]
  omega
theorem me(hN:jV N):∀(ts:List Tr) (c c':Int×List Int),TR.cG ts c=.ok c'->Cu c'->∀t∈ts,ei (sh N t)
 |[],c,c',_,_,t,ht=>by cases ht
 |u::ts,c,c',h,hA,t,ht=>by
  obtain⟨c1,h1,h2⟩:=eC h
  obtain⟨B,hB⟩:=ec _ _ _ h2
  rcases List.mem_cons.1 ht with rfl|ht
  ·exact kE hN _ t c c1 (U _) h1 (hA.of hB)
  ·exact me hN ts c1 c' h2 hA t ht
theorem ku{ts:List Tr}{k:Int}(h:TR.kt ts k=false):∀t∈ts,t.kind≠k:=by
 intro t ht e
 unfold TR.kt at h
 rw[List.any_eq_false]at h
 exact h t ht (by simp[e])
theorem qX{us ts:List Tr}(h:us.map Tr.kind=ts.map Tr.kind){k:Int}(hk:∀t∈ts,t.kind≠k):∀u∈us,u.kind≠k:=by
 intro u hu e
 have:u.kind∈us.map Tr.kind:=List.mem_map.2 ⟨u,hu,rfl⟩
 rw[h]at this
 obtain⟨t,ht,e2⟩:=List.mem_map.1 this
 exact hk t ht (e2.trans e)
theorem zS:∀(us:List Tr),(∀u∈us,u.kind≠1)->(∀u∈us,u.kind≠9)->iK us=us
 |[],_,_=>rfl
 |u::us,h1,h9=>by
  have:=zS us (fun v hv=>h1 v (by simp[hv])) (fun v hv=>h9 v (by simp[hv]))
  unfold iK at this |-
  rw[List.flatMap_cons,this,if_neg (h1 u (by simp)),if_neg (h9 u (by simp))]
  rfl
theorem te:∀(us:List Tr),(∀u∈us,u.kind≠10)->(us.flatMap fun t=>if t.kind=10 then t.kids else [t])=us
 |[],_=>rfl
 |u::us,h=>by
  rw[List.flatMap_cons,te us (fun v hv=>h v (by simp[hv])),if_neg (h u (by simp))]
  rfl
def IY(N:de)(t:Tr):Prop:=∀(l A X:List Int) (s:St) (c c':Int×List Int) (m:Nat),TK.cq 1 l=0->l=A++(sh N t++X)->uh X->On l s A.length->s.aD=false->oX N s c->cP t c=.ok c'->Cu c'->xD (cr 1 l (bf 1 l m) s) (JI N l t c' false (A.length+(sh N t).length))
theorem rK(hN:jV N)(hP:Cm N){t:Tr}(h10:t.kind≠10)(hB:∀v,fL v<fL t->iS N v):IY N t:=by
 intro l A X s c c' m hpe hL hX hon hfo hsim hc hA
 have hkid:∀u∈t.kids,fL u<fL t:=fun u hu=>by have:=pd hu;rw[eD t];omega
 have hkk:∀u∈t.kids,∀v∈u.kids,fL v<fL t:=fun u hu v hv=>by have:=pd hv;have h2:=hkid u hu;rw[eD u]at h2;omega
 obtain⟨c1,hn,hk1⟩:=dN hc
 unfold cr
 by_cases h9:t.kind=9
 ·have hkb:=hn.kids
  unfold cK at hkb
  rw[if_pos h9]at hkb
  simp only[Bool.and_eq_true,decide_eq_true_eq,Bool.not_eq_true']at hkb
  obtain⟨⟨k2,k9⟩,k1⟩:=hkb
  rw[hn.same (by omega) (by omega)]at hk1
  have hFk:=me hN _ _ _ hk1 hA
  have hFp:∀u∈t.kids,ei (sL N u):=fun u hu=>pQ _ (hFk u hu)
  have hsh:=Fc (N:=N) t h9
  rw[hsh]at hL
  have hlong:=sJ t.kids hFp
  have hll:t.kids.length<l.length+1:=by
   have:=congrArg List.length hL
   simp only[List.length_append]at this
   omega
  have hpc:∀u∈t.kids,kW N u (sL N u):=fun u hu=>by
   unfold sL
   by_cases hu10:u.kind=10
   ·rw [show decide (u.kind=10)=true by simpa using hu10]
    exact qJ (sw (hB u (hkid u hu)) (hFk u hu))
   ·rw [show decide (u.kind=10)=false by simpa using hu10]
    exact vq hN hP ⟨ku k9 u hu,hu10⟩ (fun v hv=>⟨hB v (hkk u hu v hv),fun w hw=>hB w (by have:=pd hw;have h2:=hkk u hu v hv;rw[eD v]at h2;omega)⟩)
  rcases nH (N:=N) (F:=sL N) (m:=m) hpe hX t.kids (l.length+1) A [] s c c' hpc hFp hL hon hfo hsim hk1 hA hll with⟨⟨ps,z⟩,e,g⟩|⟨a,e⟩
  ·rw [e]
   simp only
   obtain⟨us,e1,e2,e3⟩:=g.res
   simp only[List.nil_append]at e1
   subst e1
   have hul:ps.length=t.kids.length:=by have:=congrArg List.length e2;simpa using this
   have hrow:gU ps=.mk 9 0 0 0 0 false [] ps:=by
    unfold gU
    rw[zS ps (qX e2 (ku k1)) (qX e2 (ku k9))]
    match ps,hul with
    |[],h=>simp at h;omega
    |[x],h=>simp at h;omega
    |x::y::r,_=>rfl
   obtain⟨f1,f2,f3,f4⟩:=hn.tq
   obtain⟨f3a,f3b,f3c⟩:=f3 (by omega)
   refine .inl ⟨_,rfl,?_,g.uH,g.fo,fun R=>?_,?_⟩
   ·rw[hsh];exact g.on
   ·simp only
    rw[hrow,dV,iL _ _ (by decide),e3 R]
    conv=>rhs;rw[jJ t]
    rw[h9,f1 (by omega),f2 (by omega) (by omega),f3a,f3b,f3c,f4 (by omega)]
   ·simp only
    rw[hrow,h9];rfl
  ·rw [e]
   exact .inr ⟨a,rfl⟩
 ·have hF:=kE hN _ t c c' (U _) hc hA
  have hpc:kW N t (sh N t):=vq hN hP ⟨h9,h10⟩ (fun u hu=>⟨hB u (hkid u hu),fun v hv=>hB v (hkk u hu v hv)⟩)
  have hL2:l=A++([t].flatMap (sh N)++X):=by rw[hL];simp
  have hc2:TR.cG [t] c=.ok c':=by unfold TR.cG;rw[hc];rfl
  rcases nH (N:=N) (F:=sh N) (m:=m) hpe hX [t] (l.length+1) A [] s c c' (fun u hu=>by rw[List.mem_singleton]at hu;rw[hu];exact hpc) (fun u hu=>by rw[List.mem_singleton]at hu;rw[hu];exact hF) hL2 hon hfo hsim hc2 hA (by
   obtain⟨⟨q,r,hq,_⟩,_⟩:=hF
   have:=congrArg List.length hL
   rw[hq]at this
   simp only[List.length_append,List.length_cons]at this
   simp only[List.length_singleton]
   omega)with⟨⟨ps,z⟩,e,g⟩|⟨a,e⟩
  ·rw [e]
   simp only
   obtain⟨us,e1,e2,e3⟩:=g.res
   simp only[List.nil_append]at e1
   subst e1
   have hul:ps.length=1:=by have:=congrArg List.length e2;simpa using this
   obtain⟨u,rfl⟩:=List.length_eq_one_iff.1 hul
   have hku:u.kind=t.kind:=by simpa using e2
   have hon2:On l z (A.length+(sh N t).length):=by have:=g.on;simpa using this
   by_cases h1:t.kind=1
   ·have hrow:gU [u]=gI:=by
     unfold gU iK
     simp[hku,h1]
    have hks:=hn.none (.inl (by omega))
    obtain⟨f1,f2,f3,f4⟩:=hn.tq
    obtain⟨f3a,f3b,f3c⟩:=f3 (by omega)
    have ht:t=gI:=by
     rw[jJ t,h1,f1 (by omega),f2 (by omega) (by omega),f3a,f3b,f3c,f4 (by omega),hks]
     rfl
    refine .inl ⟨_,rfl,hon2,g.uH,g.fo,fun R=>?_,?_⟩
    ·simp only
     rw[hrow,ht]
     unfold gI
     rw[dV,iL _ _ (by decide)]
     rfl
    ·simp only
     rw[hrow,h1];rfl
   ·have hrow:gU [u]=u:=by
     unfold gU iK
     have a1:u.kind≠1:=by omega
     have a9:u.kind≠9:=by omega
     simp[a1,a9]
    refine .inl ⟨_,rfl,hon2,g.uH,g.fo,fun R=>?_,?_⟩
    ·simp only
     rw[hrow]
     have:=e3 R
     simpa using this
    ·simp only
     rw[hrow];exact hku
  ·rw [e]
   exact .inr ⟨a,rfl⟩
theorem Ao{m:Nat}(hpe:TK.cq 1 l=0)(hX:X=[]\/∃r,X=41::r):∀(ts:List Tr) (n:Nat) (A:List Int) (bs:List Tr) (s:St) (c c':Int×List Int),(∀t∈ts,IY N t)->(∀t∈ts,ei (sh N t))->l=A++(ts.flatMap (fun u=>124::sh N u)++X)->On l s A.length->s.aD=false->oX N s c->TR.cG ts c=.ok c'->Cu c'->ts.length<n->xD (cV 1 l (bf 1 l m) n bs s) (JK N l ts c' (A.length+(ts.flatMap fun u=>124::sh N u).length) bs)
 |[],0,A,bs,s,c,c',_,_,_,_,_,_,_,_,hn=>absurd hn (by simp)
 |[],n+1,A,bs,s,c,c',hPc,hFc,hL,hon,hfo,hsim,hc,hA,hn=>by
  have hL2:l=A++X:=by rw[hL];rfl
  have h9:s.tok.kind≠9:=by
   rcases hX with h|⟨r,rfl⟩
   ·rw[tw hL2 hon h];decide
   ·rw[(cS (tk:={ kind:=8 }) (k:=1) hL2 hon rfl).1];decide
  unfold cV
  rw[if_neg h9]
  obtain rfl:c'=c:=gW hc
  exact .inl ⟨_,rfl,hon,hsim,hfo,[],by simp,rfl,fun R=>rfl⟩
 |t::ts,0,A,bs,s,c,c',_,_,_,_,_,_,_,_,hn=>absurd hn (by simp)
 |t::ts,n+1,A,bs,s,c,c',hPc,hFc,hL,hon,hfo,hsim,hc,hA,hn=>by
  obtain⟨c1,hc1,hc2⟩:=eC hc
  obtain⟨B,hB⟩:=ec _ _ _ hc2
  have hL1:l=A++(124::(sh N t++(ts.flatMap (fun u=>124::sh N u)++X))):=by rw[hL];simp
  have hL2:l=(A++[124])++(sh N t++(ts.flatMap (fun u=>124::sh N u)++X)):=by rw[hL1];simp
  have hL3:l=(A++[124]++sh N t)++(ts.flatMap (fun u=>124::sh N u)++X):=by rw[hL2];simp
  obtain⟨e1,e2⟩:=cS (tk:={ kind:=9 }) (k:=1) hL1 hon rfl
  have hEX:uh (ts.flatMap (fun u=>124::sh N u)++X):=by
   cases ts with
   |nil=>
    rcases hX with h|⟨r,h⟩
    ·exact .inl h
    ·exact .inr (.inl ⟨r,h⟩)
   |cons u us=>exact .inr (.inr ⟨_,by rw[List.flatMap_cons];rfl⟩)
  unfold cV
  rw[if_pos (by rw[e1])]
  obtain⟨t2,k2,e3,o3⟩:=iE (s:=s) hL2 (by rw[e2];simp) ((hFc t (by simp)).Jg _)
  rw[e3]
  simp only
  rcases hPc t (by simp) l (A++[124]) (ts.flatMap (fun u=>124::sh N u)++X) { s with tok:=t2,pos:=(A++[124]).length,next:=k2 } c c1 m hpe hL2 hEX o3 hfo (hsim.same rfl rfl rfl) hc1 (hA.of hB)with⟨⟨u,z⟩,e,g⟩|⟨a,e⟩
  ·rw [e]
   simp only
   have ho:On l z (A++[124]++sh N t).length:=by rw[List.length_append];exact g.on
   rcases Ao hpe hX ts n (A++[124]++sh N t) (bs++[u]) z c1 c' (fun v hv=>hPc v (by simp[hv])) (fun v hv=>hFc v (by simp[hv])) hL3 ho g.fo g.uH hc2 hA (by simpa using hn)with⟨x,e5,g2⟩|⟨a,e5⟩
   ·rw [e5]
    obtain⟨us,h1,h2,h3⟩:=g2.res
    have hj:(A++[124]++sh N t).length+(ts.flatMap fun u=>124::sh N u).length=A.length+((t::ts).flatMap fun u=>124::sh N u).length:=by simp only[List.length_append,List.flatMap_cons,List.length_cons,List.length_nil];omega
    refine .inl ⟨x,rfl,by rw[<- hj];exact g2.on,g2.uH,g2.fo,u::us,by rw[h1];simp,by rw[List.map_cons,List.map_cons,h2,g.kind],fun R=>?_⟩
    rw[List.map_cons,h3 R,hB,List.append_assoc,g.set]
   ·rw [e5]
    exact .inr ⟨a,rfl⟩
  ·rw [e]
   exact .inr ⟨a,rfl⟩
end Go.Proofs.YtklbbbldalmnbaaGreatDoor.Pa
namespace Go.Proofs.YtklbbbldalmnbaaGreatDoor.Pa
open TR (Tr cP cW cK bO de fu oT)
open TK (pt cY bV aQ)
open Br (BE PS)
variable {N : de} {l A X : List Int} {s : St}
theorem Ig(hN:jV N)(hP:Cm N){t:Tr}(hB:∀v,fL v<fL t->iS N v):iS N t:=by
 intro l A X s c c' m hpe hL hX hon hsim hc hA
 cases m with
 |zero=>exact .inr ⟨0,rfl⟩
 |succ m=>
  show xD (bR 1 l (bf 1 l m) false s) _
  have hkid:∀u∈t.kids,fL u<fL t:=fun u hu=>by have:=pd hu;rw[eD t];omega
  have hEX:uh X:=by
   rcases hX with h|⟨r,h⟩
   ·exact .inl h
   ·exact .inr (.inl ⟨r,h⟩)
  have hon2:On l { s with aD:=false } A.length:=⟨hon.pos,hon.tok⟩
  have hsim2:oX N { s with aD:=false } c:=hsim.same rfl rfl rfl
  unfold bR
  by_cases h10:t.kind=10
  ·obtain ⟨c1,hn,hk1⟩:=dN hc
   rw[hn.same (by omega) (by omega)]at hk1
   have hkb:=hn.kids
   unfold cK at hkb
   rw[if_neg (by omega),if_pos h10]at hkb
   simp only[Bool.and_eq_true,decide_eq_true_eq,Bool.not_eq_true']at hkb
   obtain⟨k2,kn⟩:=hkb
   have hFk:=me hN _ _ _ hk1 hA
   obtain⟨k,ks,hks⟩:∃k ks,t.kids=k::ks:=by
    cases h:t.kids with
    |nil=>rw[h]at k2;simp at k2
    |cons k ks=>exact⟨k,ks,rfl⟩
   have hsh:=sf (N:=N) t h10 k ks hks
   rw[hks]at hk1
   obtain⟨c2,hck,hcs⟩:=eC hk1
   obtain⟨B,hBm⟩:=ec _ _ _ hcs
   have hBr:∀u∈t.kids,IY N u:=fun u hu=>rK hN hP (ku kn u hu) (fun v hv=>hB v (by have:=hkid u hu;omega))
   have hL2:l=A++(sh N k++(ks.flatMap (fun u=>124::sh N u)++X)):=by rw[hL,hsh];simp
   have hL3:l=(A++sh N k)++(ks.flatMap (fun u=>124::sh N u)++X):=by rw[hL2];simp
   have hE2:uh (ks.flatMap (fun u=>124::sh N u)++X):=by
    cases ks with
    |nil=>exact hEX
    |cons u us=>exact .inr (.inr ⟨_,by rw[List.flatMap_cons];rfl⟩)
   rcases hBr k (by rw[hks];simp) l A _ { s with aD:=false } c c2 m hpe hL2 hE2 hon2 rfl hsim2 hck (hA.of hBm)with⟨⟨u,z⟩,e,g⟩|⟨a,e⟩
   ·rw [e]
    simp only
    have ho:On l z (A++sh N k).length:=by rw[List.length_append];exact g.on
    have hlen:ks.length<l.length+1:=by
     have h1:=congrArg List.length hL3
     simp only[List.length_append]at h1
     have h2:ks.length<=(ks.flatMap fun u=>124::sh N u).length:=by
      clear h1 hL3 hL2 hE2 hsh hcs hck hks hk1 hBm
      induction ks with
      |nil=>simp
      |cons v vs ih=>simp only[List.flatMap_cons,List.length_append,List.length_cons];omega
     omega
    rcases Ao (N:=N) (m:=m) hpe hX ks (l.length+1) (A++sh N k) [u] z c2 c' (fun v hv=>hBr v (by rw[hks];simp[hv])) (fun v hv=>hFk v (by rw[hks];simp[hv])) hL3 ho g.fo g.uH hcs hA hlen with⟨⟨bs,z2⟩,e5,g2⟩|⟨a,e5⟩
    ·rw [e5]
     simp only
     obtain⟨us,h1,h2,h3⟩:=g2.res
     simp only at h1
     subst h1
     have hkinds:([u]++us).map Tr.kind=t.kids.map Tr.kind:=by rw[hks,List.map_append,h2,List.map_cons,List.map_cons,List.map_nil,g.kind];rfl
     have hne:=qX hkinds (ku kn)
     have hul:2<=([u]++us).length:=by have:=congrArg List.length hkinds;simp only[List.length_map]at this;omega
     have hei:eX ([u]++us)=.mk 10 0 0 0 0 false [] ([u]++us):=by
      cases us with
      |nil=>simp at hul
      |cons v vs=>
       show Tr.mk 10 0 0 0 0 false [] (([u]++v::vs).flatMap fun t=>if t.kind=10 then t.kids else [t])=_
       rw[te _ hne]
     obtain⟨f1,f2,f3,f4⟩:=hn.tq
     obtain⟨f3a,f3b,f3c⟩:=f3 (by omega)
     have hj:(A++sh N k).length+(ks.flatMap fun u=>124::sh N u).length=A.length+(sh N t).length:=by rw[hsh];simp only[List.length_append];omega
     refine .inl ⟨_,rfl,?_,g2.uH.same rfl rfl rfl,rfl,fun R=>?_,?_⟩
     ·rw[<- hj];exact⟨g2.on.pos,g2.on.tok⟩
     ·simp only
      rw[hei,dV,iL _ _ (by decide),List.map_append,h3 R,List.map_cons,List.map_nil,hBm,List.append_assoc,g.set]
      conv=>rhs;rw[jJ t]
      rw[h10,f1 (by omega),f2 (by omega) (by omega),f3a,f3b,f3c,f4 (by omega),hks]
      rfl
     ·simp only
      rw[hei,h10];rfl
    ·rw [e5]
     exact .inr ⟨a,rfl⟩
   ·rw [e]
    exact .inr ⟨a,rfl⟩
  ·rcases rK hN hP h10 hB l A X { s with aD:=false } c c' m hpe hL hEX hon2 rfl hsim2 hc hA with⟨⟨u,z⟩,e,g⟩|⟨a,e⟩
   ·rw [e]
    simp only
    have hL2:l=(A++sh N t)++X:=by rw[hL,List.append_assoc]
    have ho:On l z (A++sh N t).length:=by rw[List.length_append];exact g.on
    have h9:z.tok.kind≠9:=by
     rcases hX with h|⟨r,rfl⟩
     ·rw[tw hL2 ho h];decide
     ·rw[(cS (tk:={ kind:=8 }) (k:=1) hL2 ho rfl).1];decide
    have hb:cV 1 l (bf 1 l m) (l.length+1) [u] z=.ok ([u],z):=by
     unfold cV
     rw[if_neg h9]
    rw[hb]
    exact .inl ⟨_,rfl,⟨g.on.pos,g.on.tok⟩,g.uH.same rfl rfl rfl,rfl,g.set,g.kind⟩
   ·rw [e]
    exact .inr ⟨a,rfl⟩
theorem zE(hN:jV N)(hP:Cm N):∀(n:Nat) (t:Tr),fL t<=n->iS N t
 |0,t,h=>by rw[eD]at h;omega
 |n+1,t,h=>Ig hN hP (fun v hv=>zE hN hP n v (by omega))
theorem mW{g:Int}:∀{B:List Int},TR.bX g B=0->∀a∈B,1<=a/\a<=g
 |[],_,a,ha=>by cases ha
 |b::B,h,a,ha=>by
  unfold TR.bX at h
  split at h
  ·rename_i h1
   unfold TR.fG at h1
   split at h1
   ·rename_i h2
    rcases List.mem_cons.1 ha with rfl|ha
    ·exact h2
    ·exact mW h a ha
   ·cases h1
  ·cases h
theorem As{names:List Nm}{gr:Nat}:∀(B:List Ag),(∀a∈B,a.name.toList=[])->(∀a∈B,1<=a.num/\a.num<=(gr:Int))->di names gr B=.ok (B.map Ag.num)
 |[],_,_=>rfl
 |b::B,h1,h2=>by
  have e:JF names b=b.num:=by unfold JF;rw[if_pos (h1 b (by simp))]
  rw[BA,e,if_neg (by have:=h2 b (by simp);omega),As B (fun a ha=>h1 a (by simp[ha])) (fun a ha=>h2 a (by simp[ha]))]
  rfl
theorem sR{N:de}(hR:TR.s8 N N.length):∀(d i:Nat),i+d+1<N.length->TR.mx N i<TR.mx N (i+d+1)
 |0,i,h=>by have:=hR (i+1) (by omega) h;simpa using this
 |d+1,i,h=>by
  have h1:=sR hR d i (by omega)
  have h2:=hR (i+(d+1)+1) (by omega) h
  simp only[Nat.add_sub_cancel]at h2
  have e:i+(d+1)=i+d+1:=by omega
  rw[e]at h2 |-
  omega
theorem E6{N:de}(h1:TR.ny N N.length)(h2:TR.nT N N.length)(h3:TR.s8 N N.length):jV N/\Cm N:=by
 refine⟨fun n hn=>?_,?_⟩
 ·obtain ⟨i,hi,rfl⟩:=List.mem_iff_getElem.1 hn
  have:=h1 i hi
  rwa[TR.mf hi]at this
 ·unfold Cm
  rw[List.pairwise_iff_getElem]
  intro i j hi hj hij
  have hr:=sR h3 (j - i - 1) i (by omega)
  rw[show i+(j - i - 1)+1=j by omega,TR.nK hi,TR.nK hj]at hr
  refine⟨hr,fun e=>?_⟩
  refine h2 j hj i hij (.inl ?_)
  rw[TR.mf hi,TR.mf hj]
  exact TR.nE e
theorem AK{t:Tr}{gr:Int}(h:oT t gr N 0):xD (mN eo 1 false (sh N t)) fun q=>q.tree=t/\(q.aF:Int)=gr/\q.names=N:=by
 rcases h with⟨_,h⟩|⟨hcnt,h⟩
 ·cases h
 rcases h with⟨h1,h2⟩|⟨_,_,h⟩|⟨hT,hNum,hNm⟩
 ·exact absurd h2.symm h1
 ·cases h
 rcases hNm with⟨h,_⟩|⟨h,_⟩|⟨h,_⟩|⟨_,hm1,hm2,hm3⟩
 ·cases h
 ·cases h
 ·cases h
 obtain⟨hN,hP⟩:=E6 hm1 hm2 hm3
 unfold TR.dD at hT
 cases hc:cP t (0,[])with
 |error z=>rw[hc]at hT;exact absurd hT (TR.jk t _ z hc)
 |ok c'=>
  rw[hc]at hT
  simp only at hT
  have hcn:TR.cT c' gr=0:=by
   by_cases h0:TR.cT c' gr=0
   ·exact h0
   ·rw[if_pos h0]at hT;exact hT
  rw[if_neg (by simp[hcn])]at hT
  unfold TR.cT at hcn
  have hg:c'.1<=20/\c'.1=gr:=by
   split at hcn
   ·cases hcn
   ·split at hcn
    ·rename_i a b;exact⟨by omega,b⟩
    ·cases hcn
  have hall:=mW hT
  have hA:Cu c':=fun a ha=>by have:=hall a ha;omega
  have hF:=kE hN _ t (0,[]) c' (U _) hc hA
  unfold mN
  by_cases hpe:TK.cq 1 (sh N t)=0
  ·rw [if_neg (by simp[hpe])]
   unfold dY
   have hr:yv (sh N t):=by have:=hF.Jg [];rwa[List.append_nil]at this
   obtain⟨tk,k,e1,o1⟩:=iE (l:=sh N t) (A:=[]) (X:=sh N t) (s:={}) rfl rfl hr
   rw[e1]
   simp only
   have hb:=zE hN hP _ t (U _) (sh N t) [] [] { ({}:St)with tok:=tk,pos:=([]:List Int).length,next:=k } (0,[]) c' 21 hpe (by simp) (.inl rfl) o1 ⟨rfl,rfl,fun a ha=>(by cases ha),by
    show []=_
    rw[eq_comm,List.filter_eq_nil_iff]
    intro n hn
    have h1:=mW hNum n.2 (List.mem_map.2 ⟨n,hn,rfl⟩)
    simp
    omega⟩ hc hA
   rcases hb with⟨⟨u,z⟩,e2,g⟩|⟨a,e2⟩
   ·rw [e2]
    simp only
    have ho:On (sh N t) z (sh N t).length:=by have:=g.on;simpa using this
    have htk:z.tok={}:=tw (A:=sh N t) (X:=[]) (by simp) ho rfl
    rw[if_neg (by rw[htk];decide)]
    have hzg:=g.uH.og
    simp only at hzg
    have hnums:=As (names:=z.names) (gr:=z.aF) z.ay g.uH.Jr (fun a ha=>by
     have h1:a.num∈c'.2:=by rw[<- g.uH.jf];exact List.mem_map.2 ⟨a,ha,rfl⟩
     have:=hall a.num h1
     omega)
    have hags:=g.uH.jf
    simp only at hags
    rw[hnums,hags]
    simp only
    have hset:=g.set []
    rw[List.append_nil]at hset
    simp only at hset
    rw[hset,if_neg (by unfold eo;simp[hcnt])]
    refine .inl ⟨_,rfl,rfl,by rw[<- hg.2];exact hzg,?_⟩
    have hnm:=g.uH.jA
    simp only at hnm |-
    rw[hnm,List.filter_eq_self]
    intro n hn
    have h1:=mW hNum n.2 (List.mem_map.2 ⟨n,hn,rfl⟩)
    simp
    omega
   ·rw [e2]
    exact .inr ⟨a,rfl⟩
  ·rw [if_pos hpe]
   have:TK.cq 1 (sh N t)=2:=by
    unfold TK.cq at hpe |-
    rw[if_neg (by decide)]at hpe |-
    by_cases hl:300<(sh N t).length
    ·rw[if_pos hl]
    ·rw [if_neg hl]at hpe
     exfalso
     apply hpe
     rw[if_pos]
     rw[List.all_eq_true]
     intro p hp
     unfold sh pt at hp
     obtain⟨b,_,rfl⟩:=List.mem_map.1 hp
     have:=b.toNat_lt
     simp[TK.eA]
     omega
   rw[this]
   exact .inr ⟨0,rfl⟩
end Go.Proofs.YtklbbbldalmnbaaGreatDoor.Pa
