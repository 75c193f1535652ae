import Derived.Test.YtklbbbldalmnbaaGreatDoorZp
import Derived.WalkKit
import Derived.Test.YtklbbbldalmnbaaGreatDoorProg
import Derived.WalkLawsBesides
import Derived.Handy
import Derived.BigQuiet
import Derived.Deep.QuietTactic
import Derived.OneCell
set_option linter.unusedVariables false
set_option maxHeartbeats 400000
open Go.Proofs.Tryz
namespace Go.Proofs.YtklbbbldalmnbaaGreatDoor
abbrev RL:Type:=List (Int×Int)
def ins(L:RL)(p:Int):Bool:=L.any fun r=>decide (r.1<=p)&&decide (p<=r.2)
def eH(r:Int×Int):Prop:=0<=r.1/\r.1<=r.2/\r.2<=1114111
def Canon(L:RL):Prop:=(∀r∈L,eH r)/\L.Pairwise (fun a b=>a.2+1<b.1)
theorem nC(p:Int):ins [] p=false:=rfl
theorem dT(r:Int×Int)(L:RL)(p:Int):ins (r::L) p=((decide (r.1<=p)&&decide (p<=r.2))||ins L p):=rfl
theorem gu(L M:RL)(p:Int):ins (L++M) p=(ins L p||ins M p):=by simp[ins]
theorem iq(L:RL)(p:Int):ins L p=true↔∃r∈L,r.1<=p/\p<=r.2:=by simp[ins]
theorem jz(L:RL)(p:Int):ins L p=false↔∀r∈L,¬(r.1<=p/\p<=r.2):=by
 rw[<- Bool.not_eq_true,iq];simp
theorem lJ:Canon []:=⟨by simp,List.Pairwise.nil⟩
theorem dY{r:Int×Int}{L:RL}:Canon (r::L)↔eH r/\(∀x∈L,r.2+1<x.1)/\Canon L:=by
 unfold Canon
 rw[List.pairwise_cons]
 constructor
 ·rintro ⟨h1,h2,h3⟩
  exact⟨h1 r (by simp),h2,fun x hx=>h1 x (by simp[hx]),h3⟩
 ·rintro ⟨h1,h2,h3,h4⟩
  exact⟨fun x hx=>by rcases List.mem_cons.1 hx with rfl|hx;exact h1;exact h3 x hx,h2,h4⟩
theorem BT:∀{L M:RL},Canon L->Canon M->(∀p,ins L p=ins M p)->L=M:=by
 intro L
 induction L with
 |nil=>
  intro M _ hM h
  cases M with
  |nil=>rfl
  |cons r M=>
   have h1:=h r.1
   obtain⟨ho,_,_⟩:=dY.1 hM
   unfold eH at ho
   simp[nC,dT]at h1
   omega
 |cons r L ih=>
  intro M hL hM h
  obtain⟨ho,ha,hc⟩:=dY.1 hL
  unfold eH at ho
  cases M with
  |nil=>
   have h1:=h r.1
   simp[nC,dT]at h1
   omega
  |cons s M=>
   obtain⟨so,sa,sc⟩:=dY.1 hM
   unfold eH at so
   have low:∀{x:Int×Int} {K:RL},(∀y∈K,x.2+1<y.1)->∀p,p<=x.2+1->ins K p=false:=by
    intro x K hx p hp
    rw[jz]
    intro y hy
    have:=hx y hy
    omega
   have e1:r.1=s.1:=by
    have h1:=h r.1
    have h2:=h s.1
    rw[dT,dT]at h1 h2
    by_cases hlt:r.1<s.1
    ·have :ins M r.1=false:=low sa _ (by omega)
     have hd:(decide (r.1<=r.1)&&decide (r.1<=r.2))=true:=by simp;omega
     rw[this,hd]at h1
     simp at h1
     omega
    ·by_cases hgt:s.1<r.1
     ·have :ins L s.1=false:=low ha _ (by omega)
      have hd:(decide (s.1<=s.1)&&decide (s.1<=s.2))=true:=by simp;omega
      rw[this,hd]at h2
      simp at h2
      omega
     ·omega
   have e2:r.2=s.2:=by
    have h1:=h (r.2+1)
    have h2:=h (s.2+1)
    rw[dT,dT]at h1 h2
    by_cases hlt:r.2<s.2
    ·have :ins L (r.2+1)=false:=low ha _ (by omega)
     have hd:(decide (s.1<=r.2+1)&&decide (r.2+1<=s.2))=true:=by simp;omega
     rw[this,hd]at h1
     simp at h1
     omega
    ·by_cases hgt:s.2<r.2
     ·have :ins M (s.2+1)=false:=low sa _ (by omega)
      have hd:(decide (r.1<=s.2+1)&&decide (s.2+1<=r.2))=true:=by simp;omega
      rw[this,hd]at h2
      simp at h2
      omega
     ·omega
   have e:r=s:=Prod.ext e1 e2
   subst e
   congr 1
   refine ih hc sc fun p=>?_
   have hp:=h p
   rw[dT,dT]at hp
   by_cases hle:p<=r.2+1
   ·rw[low ha p hle,low sa p hle]
   ·have :(decide (r.1<=p)&&decide (p<=r.2))=false:=by simp;omega
    simpa[this]using hp
theorem qp:∀{L:RL} (b:Int),Canon L->0<=b->(∀x∈L,b<=x.1)->∀p,b<=p->(∀x∈L,x.2<p)->(L.length:Int)<=p - b:=by
 intro L
 induction L with
 |nil=>intro b _ _ _ p hp _;simp;omega
 |cons r L ih=>
  intro b hL hb hlo p hp hhi
  obtain⟨ho,ha,hc⟩:=dY.1 hL
  unfold eH at ho
  have h1:=hlo r (by simp)
  have h2:=hhi r (by simp)
  have:=ih (r.2+1) hc (by omega) (fun x hx=>by have:=ha x hx;omega) p (by omega) (fun x hx=>hhi x (by simp[hx]))
  simp only[List.length_cons]
  omega
theorem ou{L:RL}(h:Canon L)(p:Int)(h0:0<=p)(hp:∀x∈L,x.2<p):(L.length:Int)<=p:=by
 have:=qp 0 h (by omega) (fun x hx=>(h.1 x hx).1) p h0 hp
 omega
def bM(O:RL)(r:Int×Int):RL:=
 match O.getLast? with
 |some last=>if r.1<=last.2+1 then O.dropLast++[(last.1,max last.2 r.2)]else O++[r]
 |none=>O++[r]
def tp(l:RL):RL:=l.foldl bM []
theorem uF(r:Int×Int):bM [] r=[r]:=rfl
theorem o7(O:RL)(a b:Int)(r:Int×Int)(h:r.1<=b+1):bM (O++[(a,b)]) r=O++[(a,max b r.2)]:=by
 simp[bM,h]
theorem nE(O:RL)(a b:Int)(r:Int×Int)(h:¬r.1<=b+1):bM (O++[(a,b)]) r=O++[(a,b)]++[r]:=by
 simp[bM,h]
theorem uE(O:RL)(r:Int×Int):(bM O r).length<=O.length+1:=by
 unfold bM
 split
 ·split
  ·simp<;>omega
  ·simp
 ·simp
theorem mE{O:RL}{r:Int×Int}:Canon (O++[r])↔Canon O/\eH r/\∀x∈O,x.2+1<r.1:=by
 unfold Canon
 rw[List.pairwise_append]
 constructor
 ·rintro ⟨h1,h2,_,h4⟩
  exact⟨⟨fun x hx=>h1 x (by simp[hx]),h2⟩,h1 r (by simp),fun x hx=>h4 x hx r (by simp)⟩
 ·rintro ⟨⟨h1,h2⟩,h3,h4⟩
  refine⟨fun x hx=>?_,h2,List.pairwise_singleton _ _,fun x hx y hy=>?_⟩
  ·rcases List.mem_append.1 hx with hx|hx
   ·exact h1 x hx
   ·simp at hx;subst hx;exact h3
  ·simp at hy;subst hy;exact h4 x hx
theorem mq{O:RL}{r:Int×Int}(hO:Canon O)(hr:eH r)(hlo:∀x∈O,x.1<=r.1):
  Canon (bM O r)/\(∀x∈bM O r,x.1<=r.1)/\(∀p,ins (bM O r) p=(ins O p||(decide (r.1<=p)&&decide (p<=r.2))))/\∀t,(∀x∈O,x.2<=t)->r.2<=t->∀x∈bM O r,x.2<=t:=by
 rcases List.eq_nil_or_concat O with rfl|⟨O',y,rfl⟩
 ·rw [uF]
  refine⟨dY.2 ⟨hr,by simp,lJ⟩,by simp,fun p=>by simp[ins],by simp⟩
 ·obtain ⟨a,b⟩:=y
  rw[List.concat_eq_append]at hO hlo |-
  obtain⟨h1,h2,h3⟩:=mE.1 hO
  have hab:=hlo (a,b) (by simp)
  unfold eH at hr h2
  simp only at hab h2 h3
  by_cases h:r.1<=b+1
  ·rw [o7 _ _ _ _ h]
   refine⟨mE.2 ⟨h1,⟨h2.1,by simp only;omega,by simp only;omega⟩,h3⟩,?_,?_,?_⟩
   ·intro x hx
    rcases List.mem_append.1 hx with hx|hx
    ·exact hlo x (by simp[hx])
    ·simp at hx;subst hx;exact hab
   ·intro p
    rw[gu,gu,Bool.or_assoc]
    congr 1
    rw[dT,dT,nC,Bool.eq_iff_iff]
    simp
    omega
   ·intro t ht hrt x hx
    rcases List.mem_append.1 hx with hx|hx
    ·exact ht x (by simp[hx])
    ·have :=ht (a,b) (by simp)
     simp at hx;subst hx;simp only at this |-;omega
  ·rw [nE _ _ _ _ h]
   refine⟨mE.2 ⟨hO,hr,?_⟩,?_,?_,?_⟩
   ·intro x hx
    rcases List.mem_append.1 hx with hx|hx
    ·have:=h3 x hx;omega
    ·simp at hx;subst hx;simp only;omega
   ·intro x hx
    rcases List.mem_append.1 hx with hx|hx
    ·exact hlo x hx
    ·simp at hx;subst hx;exact Int.le_refl _
   ·intro p
    rw[gu (O'++[(a,b)])]
    congr 1
    simp[ins]
   ·intro t ht hrt x hx
    rcases List.mem_append.1 hx with hx|hx
    ·exact ht x hx
    ·simp at hx;subst hx;exact hrt
theorem Cw:∀(S O:RL),Canon O->(∀r∈S,eH r)->S.Pairwise (fun a b=>a.1<=b.1)->(∀x∈O,∀r∈S,x.1<=r.1)->Canon (S.foldl bM O)/\∀p,ins (S.foldl bM O) p=(ins O p||ins S p):=by
 intro S
 induction S with
 |nil=>intro O hO _ _ _;exact⟨hO,fun p=>by simp[ins]⟩
 |cons r S ih=>
  intro O hO hok hs hlo
  rw[List.pairwise_cons]at hs
  obtain⟨h1,h2,h3,_⟩:=mq hO (hok r (by simp)) (fun x hx=>hlo x hx r (by simp))
  obtain⟨h4,h5⟩:=ih (bM O r) h1 (fun x hx=>hok x (by simp[hx])) hs.2 (fun x hx y hy=>Int.le_trans (h2 x hx) (hs.1 y hy))
  refine⟨h4,fun p=>?_⟩
  rw[List.foldl_cons,h5,h3,dT,Bool.or_assoc]
theorem tq{S:RL}(hok:∀r∈S,eH r)(hs:S.Pairwise (fun a b=>a.1<=b.1)):Canon (tp S)/\∀p,ins (tp S) p=ins S p:=by
 obtain⟨h1,h2⟩:=Cw S [] lJ hok hs (by simp)
 exact⟨h1,fun p=>by rw[tp,h2];simp[nC]⟩
theorem qM{S L:RL}(h:S.Perm L)(p:Int):ins S p=ins L p:=by
 rw[Bool.eq_iff_iff,iq,iq]
 simp[h.mem_iff]
def du:RL->Int->Bool×Int
 |[],_=>(false,1114111)
 |r::L,p=>if r.2<p then du L p else if p<r.1 then(false,r.1 - 1)else(true,r.2)
theorem kk:∀{L:RL} {p:Int},Canon L->0<=p->p<=1114111->p<=(du L p).2/\(du L p).2<=1114111/\∀q,p<=q->q<=(du L p).2->ins L q=(du L p).1:=by
 intro L p
 induction L with
 |nil=>intro _ h0 h1;simp[du,ins];omega
 |cons r L ih=>
  intro hL h0 h1
  obtain⟨ho,ha,hc⟩:=dY.1 hL
  unfold eH at ho
  unfold du
  split
  ·rename_i hlt
   obtain⟨h2,h3,h4⟩:=ih hc h0 h1
   refine⟨h2,h3,fun q hq hq2=>?_⟩
   rw[dT,h4 q hq hq2]
   have:(decide (r.1<=q)&&decide (q<=r.2))=false:=by simp;omega
   simp[this]
  ·rename_i hge
   split
   ·rename_i hlt
    refine⟨by simp only;omega,by simp only;omega,fun q hq hq2=>?_⟩
    simp only at hq2 |-
    rw[jz]
    intro x hx
    rcases List.mem_cons.1 hx with rfl|hx
    ·omega
    ·have:=ha x hx;omega
   ·refine ⟨by simp only;omega,by simp only;omega,fun q hq hq2=>?_⟩
    simp only at hq2 |-
    rw[dT]
    have:(decide (r.1<=q)&&decide (q<=r.2))=true:=by simp;omega
    simp[this]
theorem pj{L:RL}{p:Int}(hL:Canon L)(h0:0<=p)(h1:p<=1114111):(du L p).1=ins L p:=by
 obtain⟨h2,_,h3⟩:=kk hL h0 h1
 exact(h3 p (Int.le_refl _) h2).symm
theorem Am:∀(L:RL) (p:Int),∀k,k=L.countP (fun r=>decide (r.2<p))->Canon L->(k=L.length->du L p=(false,1114111))/\∀(h:k<L.length),du L p=if p<L[k].1 then(false,L[k].1 - 1)else(true,L[k].2):=by
 intro L
 induction L with
 |nil=>intro p k hk _;simp at hk;subst hk;exact⟨fun _=>rfl,fun h=>by simp at h⟩
 |cons r L ih=>
  intro p k hk hL
  obtain⟨ho,ha,hc⟩:=dY.1 hL
  unfold eH at ho
  rw[List.countP_cons]at hk
  by_cases hlt:r.2<p
  ·simp only[hlt,decide_true,if_true]at hk
   subst hk
   obtain⟨h1,h2⟩:=ih p _ rfl hc
   constructor
   ·intro he
    unfold du
    rw[if_pos hlt]
    exact h1 (by simpa using he)
   ·intro h
    unfold du
    rw[if_pos hlt,h2 (by simpa using h)]
    simp
  ·have hz:L.countP (fun r=>decide (r.2<p))=0:=by
    rw[List.countP_eq_zero]
    intro x hx
    have:=ha x hx
    have:=hc.1 x hx
    unfold eH at this
    simp;omega
   simp only[hlt,decide_false,Bool.false_eq_true,if_false,hz]at hk
   subst hk
   constructor
   ·intro he;simp at he
   ·intro _
    unfold du
    rw[if_neg hlt]
    simp
def tY(f:Int->Bool)(O:RL)(p:Int):Prop:=Canon O/\(∀x∈O,x.2<p)/\∀q,ins O q=(decide (0<=q)&&decide (q<p)&&f q)
theorem tS(f:Int->Bool):tY f [] 0:=by
 refine⟨lJ,by simp,fun q=>?_⟩
 rw[nC]
 by_cases h:q<0<;>simp[h]<;>omega
theorem yn{f:Int->Bool}{O:RL}{p t:Int}(h:tY f O p)(h0:0<=p)(ht:p<=t)(hm:t<=1114111)(hf:∀q,p<=q->q<=t->f q=true):tY f (bM O (p,t)) (t+1):=by
 obtain⟨h1,h2,h3⟩:=h
 obtain⟨j1,j2,j3,j4⟩:=mq (r:=(p,t)) h1 ⟨h0,ht,hm⟩ (fun x hx=>by have:=h2 x hx;have:=h1.1 x hx;unfold eH at this;simp only;omega)
 refine⟨j1,fun x hx=>?_,fun q=>?_⟩
 ·have :=j4 t (fun x hx=>by have:=h2 x hx;omega) (Int.le_refl _) x hx
  omega
 ·rw [j3,h3]
  simp only
  by_cases hq:p<=q/\q<=t
  ·rw [hf q hq.1 hq.2]
   simp[hq,show 0<=q by omega,show q<t+1 by omega]
  ·by_cases hq2:q<p
   ·simp[show ¬p<=q by omega,hq2,show q<t+1 by omega]
   ·simp[hq2,show ¬q<=t by omega,show ¬q<t+1 by omega]
theorem Bp{f:Int->Bool}{O:RL}{p t:Int}(h:tY f O p)(ht:p<=t)(hf:∀q,p<=q->q<=t->f q=false):tY f O (t+1):=by
 obtain⟨h1,h2,h3⟩:=h
 refine⟨h1,fun x hx=>by have:=h2 x hx;omega,fun q=>?_⟩
 rw[h3]
 by_cases hq:p<=q/\q<=t
 ·rw[hf q hq.1 hq.2];simp
 ·by_cases hq2:q<p
  ·simp[hq2,show q<t+1 by omega]
  ·simp[hq2,show ¬q<t+1 by omega]
def bq(f:Int->Bool)(O:RL):Prop:=Canon O/\∀q,ins O q=(decide (0<=q)&&decide (q<=1114111)&&f q)
theorem ym{f:Int->Bool}{O:RL}{p:Int}(h:tY f O p)(hp:p=1114112):bq f O:=by
 subst hp
 refine⟨h.1,fun q=>?_⟩
 rw[h.2.2 q]
 by_cases hq:q<=1114111
 ·simp[hq,show q<1114112 by omega]
 ·simp[hq,show ¬q<1114112 by omega]
theorem oB{f:Int->Bool}{O O':RL}(h:bq f O)(h':bq f O'):O=O':=
 BT h.1 h'.1 fun p=>by rw[h.2,h'.2]
theorem Ea{L:RL}(h:Canon L)(q:Int)(hq:ins L q=true):0<=q/\q<=1114111:=by
 obtain⟨r,hr,h1,h2⟩:=(iq _ _).1 hq
 have:=h.1 r hr
 unfold eH at this
 omega
theorem qO{L:RL}(h:Canon L):bq (ins L) L:=by
 refine⟨h,fun q=>?_⟩
 by_cases hq:ins L q=true
 ·have :=Ea h q hq
  simp[hq,this]
 ·simp[hq]
theorem fD{f g:Int->Bool}{L:RL}(h:bq f L)(hfg:∀q,0<=q->q<=1114111->f q=g q):bq g L:=by
 refine⟨h.1,fun q=>?_⟩
 rw[h.2]
 by_cases hq:0<=q/\q<=1114111
 ·rw[hfg q hq.1 hq.2]
 ·have :(decide (0<=q)&&decide (q<=1114111))=false:=by simp;omega
  rw[this];rfl
end Go.Proofs.YtklbbbldalmnbaaGreatDoor
namespace Go.Proofs.YtklbbbldalmnbaaGreatDoor
open Go.RowKit
theorem I{p:Prop}(h:p):Hid p:=h
theorem bN{a b:Bool}(h:a=b):Ending.returned (.bool a)=.returned (.bool b):=by rw[h]
theorem eG{k:IntKind}{a b:Int}(h:a=b):Ending.returned (.int k a)=.returned (.int k b):=by rw[h]
def dy(l:List Int):List Value:=l.map (Value.int .i64)
def jn(w:World)(x:Addr)(L:RL):Prop:=∀j (h:j<L.length),w.cell? (x.add (j*2))=some (.int .i64 L[j].1)/\w.cell? ⟨(x.add (j*2)).block,(x.add (j*2)).off+1,none⟩=some (.int .i64 L[j].2)
def Reads(w:World)(v:Value)(L:RL):Prop:=(v=.slice none 0 0/\L=[])\/∃x c,v=.slice (some x) L.length c/\jn w x L
theorem bm{w:World}{a:Addr}{v:Value}(h:w.cell? a=some v):a.block<w.heap.size:=World.block_lt_of_cell? _ _ h
theorem aJ{B:Nat}{w w':World}(hb:Below B w w'){a:Addr}{v:Value}(ha:a.block<B)(h:w.cell? a=some v):w'.cell? a=some v:=by
 rw[<- h]
 unfold World.cell?
 rw[hb.block a.block ha]
theorem jn.below{w w':World}{x:Addr}{L:RL}(h:jn w x L)(hb:Below w.heap.size w w'):jn w' x L:=fun j hj=>
 ⟨aJ hb (bm (h j hj).1) (h j hj).1,aJ hb (bm (h j hj).2) (h j hj).2⟩
theorem Reads.below{w w':World}{v:Value}{L:RL}(h:Reads w v L)(hb:Below w.heap.size w w'):Reads w' v L:=by
 rcases h with h|⟨x,c,h1,h2⟩
 ·exact .inl h
 ·exact .inr ⟨x,c,h1,h2.below hb⟩
theorem Reads.shape{w:World}{v:Value}{L:RL}(h:Reads w v L):∃ao c,v=.slice ao L.length c:=by
 rcases h with⟨rfl,rfl⟩|⟨x,c,h1,h2⟩
 ·exact⟨none,0,rfl⟩
 ·exact⟨some x,c,h1⟩
theorem Reads.some{w:World}{v:Value}{L:RL}(h:Reads w v L)(hl:0<L.length):∃x c,v=.slice (some x) L.length c/\jn w x L:=by
 rcases h with⟨rfl,rfl⟩|h
 ·simp at hl
 ·exact h
theorem below_drewN{B:Nat}{w w':World}(h:Below B w w')(q:Nat):Below B w (w'.drewN q):=⟨h.1,h.2,h.3,h.4,h.5⟩
theorem Dd(w:World):Reads w (.slice none 0 0) []:=.inl ⟨rfl,rfl⟩
theorem mO(p:Int)(w:World):Calls prog 29 #[.int .i64 p] w fun e w'=>e=.returned (.bool (decide (0<=p/\p<=1114111)))/\w=w':=by
 go_enter func29,ntmps29
 go_wp2
 all_goals go_ret
 all_goals exact⟨bN (by rw[Bool.eq_iff_iff];simp<;>omega),rfl⟩
def okB(r:Int×Int):Bool:=decide (0<=r.1)&&decide (r.1<=r.2)&&decide (r.2<=1114111)
theorem iu(r:Int×Int):okB r=true↔eH r:=by simp[okB,eH];omega
def dI(L:RL):Int:=if 400<L.length then 2 else if L.all okB then 0 else 3
def chainB:RL->Bool
 |[]=>true
 |[_]=>true
 |a::b::L=>decide (a.2+1<b.1)&&chainB (b::L)
def bp(L:RL):Int:=if dI L=0 then(if chainB L then 0 else 4)else dI L
theorem qy(L:RL):chainB L=true↔∀j (h:j+1<L.length),L[j].2+1<L[j+1].1:=by
 induction L with
 |nil=>simp[chainB]
 |cons a L ih=>
  cases L with
  |nil=>simp[chainB]
  |cons b L=>
   simp only[chainB,Bool.and_eq_true,decide_eq_true_eq,ih]
   constructor
   ·rintro ⟨h1,h2⟩ j hj
    match j with
    |0=>exact h1
    |j+1=>exact h2 j (by simpa using hj)
   ·intro h
    exact⟨h 0 (by simp),fun j hj=>h (j+1) (by simpa using hj)⟩
theorem lZ{L:RL}:dI L=0↔L.length<=400/\∀r∈L,eH r:=by
 unfold dI
 split
 ·simp;omega
 ·split
  ·rename_i h1 h2
   rw[List.all_eq_true]at h2
   simp only[true_iff]
   exact⟨by omega,fun r hr=>(iu r).1 (h2 r hr)⟩
  ·rename_i h1 h2
   simp only[show (3:Int)=0↔False from by simp,false_iff]
   rintro⟨_,h3⟩
   exact h2 (List.all_eq_true.2 fun r hr=>(iu r).2 (h3 r hr))
theorem qz:∀{L:RL},(∀r∈L,eH r)->chainB L=true->L.Pairwise (fun a b=>a.2+1<b.1):=by
 intro L
 induction L with
 |nil=>intro _ _;exact List.Pairwise.nil
 |cons a L ih=>
  intro hok h
  cases L with
  |nil=>exact List.pairwise_singleton _ _
  |cons b L=>
   simp only[chainB,Bool.and_eq_true,decide_eq_true_eq]at h
   have hp:=ih (fun r hr=>hok r (by simp[hr])) h.2
   refine List.pairwise_cons.2 ⟨fun x hx=>?_,hp⟩
   rcases List.mem_cons.1 hx with rfl|hx
   ·exact h.1
   ·have h1:=(List.pairwise_cons.1 hp).1 x hx
    have h2:=hok b (by simp)
    unfold eH at h2
    omega
theorem ru:∀{L:RL},L.Pairwise (fun a b=>a.2+1<b.1)->chainB L=true:=by
 intro L
 induction L with
 |nil=>intro _;rfl
 |cons a L ih=>
  intro h
  cases L with
  |nil=>rfl
  |cons b L=>
   rw[List.pairwise_cons]at h
   simp only[chainB,Bool.and_eq_true,decide_eq_true_eq]
   exact⟨h.1 b (by simp),ih h.2⟩
theorem gi{L:RL}:bp L=0↔L.length<=400/\Canon L:=by
 unfold bp
 constructor
 ·intro h
  split at h
  ·rename_i h1
   split at h
   ·rename_i h2
    obtain⟨h3,h4⟩:=lZ.1 h1
    exact⟨h3,h4,qz h4 h2⟩
   ·simp at h
  ·rename_i h1;exact absurd h h1
 ·rintro ⟨h1,h2,h3⟩
  rw[if_pos (lZ.2 ⟨h1,h2⟩),if_pos (ru h3)]
end Go.Proofs.YtklbbbldalmnbaaGreatDoor
