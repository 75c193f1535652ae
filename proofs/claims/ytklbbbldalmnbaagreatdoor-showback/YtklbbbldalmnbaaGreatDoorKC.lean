import Derived.Test.YtklbbbldalmnbaaGreatDoorZo
import Derived.WalkKit
import Derived.Test.YtklbbbldalmnbaaGreatDoorProg
import Derived.WalkLawsBesides
import Derived.Handy
import Derived.BigQuiet
import Derived.Deep.QuietTactic
import Derived.OneCell
set_option linter.unusedVariables false
set_option maxHeartbeats 400000
open Go.Proofs.Tryz
namespace Go.Proofs.YtklbbbldalmnbaaGreatDoor
abbrev RL:Type:=List (Int×Int)
def ins(L:RL)(p:Int):Bool:=L.any fun r=>decide (r.1<=p)&&decide (p<=r.2)
def er(r:Int×Int):Prop:=0<=r.1/\r.1<=r.2/\r.2<=1114111
def Canon(L:RL):Prop:=(∀r∈L,er r)/\L.Pairwise (fun a b=>a.2+1<b.1)
theorem mM(p:Int):ins [] p=false:=rfl
theorem dF(r:Int×Int)(L:RL)(p:Int):ins (r::L) p=((decide (r.1<=p)&&decide (p<=r.2))||ins L p):=rfl
theorem fQ(L M:RL)(p:Int):ins (L++M) p=(ins L p||ins M p):=by simp[ins]
theorem gS(L:RL)(p:Int):ins L p=true↔∃r∈L,r.1<=p/\p<=r.2:=by simp[ins]
theorem jo(L:RL)(p:Int):ins L p=false↔∀r∈L,¬(r.1<=p/\p<=r.2):=by
 rw[<- Bool.not_eq_true,gS];simp
theorem lj:Canon []:=⟨by simp,List.Pairwise.nil⟩
theorem dI{r:Int×Int}{L:RL}:Canon (r::L)↔er r/\(∀x∈L,r.2+1<x.1)/\Canon L:=by
 unfold Canon
 rw[List.pairwise_cons]
 constructor
 ·rintro ⟨h1,h2,h3⟩
  exact⟨h1 r (by simp),h2,fun x hx=>h1 x (by simp[hx]),h3⟩
 ·rintro ⟨h1,h2,h3,h4⟩
  exact⟨fun x hx=>by rcases List.mem_cons.1 hx with rfl|hx;exact h1;exact h3 x hx,h2,h4⟩
theorem BU:∀{L M:RL},Canon L->Canon M->(∀p,ins L p=ins M p)->L=M:=by
 intro L
 induction L with
 |nil=>
  intro M _ hM h
  cases M with
  |nil=>rfl
  |cons r M=>
   have h1:=h r.1
   obtain⟨ho,_,_⟩:=dI.1 hM
   unfold er at ho
   simp[mM,dF]at h1
   omega
 |cons r L ih=>
  intro M hL hM h
  obtain⟨ho,ha,hc⟩:=dI.1 hL
  unfold er at ho
  cases M with
  |nil=>
   have h1:=h r.1
   simp[mM,dF]at h1
   omega
  |cons s M=>
   obtain⟨so,sa,sc⟩:=dI.1 hM
   unfold er at so
   have low:∀{x:Int×Int} {K:RL},(∀y∈K,x.2+1<y.1)->∀p,p<=x.2+1->ins K p=false:=by
    intro x K hx p hp
    rw[jo]
    intro y hy
    have:=hx y hy
    omega
   have e1:r.1=s.1:=by
    have h1:=h r.1
    have h2:=h s.1
    rw[dF,dF]at h1 h2
    by_cases hlt:r.1<s.1
    ·have :ins M r.1=false:=low sa _ (by omega)
     have hd:(decide (r.1<=r.1)&&decide (r.1<=r.2))=true:=by simp;omega
     rw[this,hd]at h1
     simp at h1
     omega
    ·by_cases hgt:s.1<r.1
     ·have :ins L s.1=false:=low ha _ (by omega)
      have hd:(decide (s.1<=s.1)&&decide (s.1<=s.2))=true:=by simp;omega
      rw[this,hd]at h2
      simp at h2
      omega
     ·omega
   have e2:r.2=s.2:=by
    have h1:=h (r.2+1)
    have h2:=h (s.2+1)
    rw[dF,dF]at h1 h2
    by_cases hlt:r.2<s.2
    ·have :ins L (r.2+1)=false:=low ha _ (by omega)
     have hd:(decide (s.1<=r.2+1)&&decide (r.2+1<=s.2))=true:=by simp;omega
     rw[this,hd]at h1
     simp at h1
     omega
    ·by_cases hgt:s.2<r.2
     ·have :ins M (s.2+1)=false:=low sa _ (by omega)
      have hd:(decide (r.1<=s.2+1)&&decide (s.2+1<=r.2))=true:=by simp;omega
      rw[this,hd]at h2
      simp at h2
      omega
     ·omega
   have e:r=s:=Prod.ext e1 e2
   subst e
   congr 1
   refine ih hc sc fun p=>?_
   have hp:=h p
   rw[dF,dF]at hp
   by_cases hle:p<=r.2+1
   ·rw[low ha p hle,low sa p hle]
   ·have :(decide (r.1<=p)&&decide (p<=r.2))=false:=by simp;omega
    simpa[this]using hp
theorem qe:∀{L:RL} (b:Int),Canon L->0<=b->(∀x∈L,b<=x.1)->∀p,b<=p->(∀x∈L,x.2<p)->(L.length:Int)<=p - b:=by
 intro L
 induction L with
 |nil=>intro b _ _ _ p hp _;simp;omega
 |cons r L ih=>
  intro b hL hb hlo p hp hhi
  obtain⟨ho,ha,hc⟩:=dI.1 hL
  unfold er at ho
  have h1:=hlo r (by simp)
  have h2:=hhi r (by simp)
  have:=ih (r.2+1) hc (by omega) (fun x hx=>by have:=ha x hx;omega) p (by omega) (fun x hx=>hhi x (by simp[hx]))
  simp only[List.length_cons]
  omega
theorem nF{L:RL}(h:Canon L)(p:Int)(h0:0<=p)(hp:∀x∈L,x.2<p):(L.length:Int)<=p:=by
 have:=qe 0 h (by omega) (fun x hx=>(h.1 x hx).1) p h0 hp
 omega
def bF(O:RL)(r:Int×Int):RL:=
 match O.getLast? with
 |some last=>if r.1<=last.2+1 then O.dropLast++[(last.1,max last.2 r.2)]else O++[r]
 |none=>O++[r]
def r9(l:RL):RL:=l.foldl bF []
theorem tS(r:Int×Int):bF [] r=[r]:=rfl
theorem ov(O:RL)(a b:Int)(r:Int×Int)(h:r.1<=b+1):bF (O++[(a,b)]) r=O++[(a,max b r.2)]:=by
 simp[bF,h]
theorem nw(O:RL)(a b:Int)(r:Int×Int)(h:¬r.1<=b+1):bF (O++[(a,b)]) r=O++[(a,b)]++[r]:=by
 simp[bF,h]
theorem uf(O:RL)(r:Int×Int):(bF O r).length<=O.length+1:=by
 unfold bF
 split
 ·split
  ·simp<;>omega
  ·simp
 ·simp
theorem mj{O:RL}{r:Int×Int}:Canon (O++[r])↔Canon O/\er r/\∀x∈O,x.2+1<r.1:=by
 unfold Canon
 rw[List.pairwise_append]
 constructor
 ·rintro ⟨h1,h2,_,h4⟩
  exact⟨⟨fun x hx=>h1 x (by simp[hx]),h2⟩,h1 r (by simp),fun x hx=>h4 x hx r (by simp)⟩
 ·rintro ⟨⟨h1,h2⟩,h3,h4⟩
  refine⟨fun x hx=>?_,h2,List.pairwise_singleton _ _,fun x hx y hy=>?_⟩
  ·rcases List.mem_append.1 hx with hx|hx
   ·exact h1 x hx
   ·simp at hx;subst hx;exact h3
  ·simp at hy;subst hy;exact h4 x hx
theorem lM{O:RL}{r:Int×Int}(hO:Canon O)(hr:er r)(hlo:∀x∈O,x.1<=r.1):
  Canon (bF O r)/\(∀x∈bF O r,x.1<=r.1)/\(∀p,ins (bF O r) p=(ins O p||(decide (r.1<=p)&&decide (p<=r.2))))/\∀t,(∀x∈O,x.2<=t)->r.2<=t->∀x∈bF O r,x.2<=t:=by
 rcases List.eq_nil_or_concat O with rfl|⟨O',y,rfl⟩
 ·rw [tS]
  refine⟨dI.2 ⟨hr,by simp,lj⟩,by simp,fun p=>by simp[ins],by simp⟩
 ·obtain ⟨a,b⟩:=y
  rw[List.concat_eq_append]at hO hlo |-
  obtain⟨h1,h2,h3⟩:=mj.1 hO
  have hab:=hlo (a,b) (by simp)
  unfold er at hr h2
  simp only at hab h2 h3
  by_cases h:r.1<=b+1
  ·rw [ov _ _ _ _ h]
   refine⟨mj.2 ⟨h1,⟨h2.1,by simp only;omega,by simp only;omega⟩,h3⟩,?_,?_,?_⟩
   ·intro x hx
    rcases List.mem_append.1 hx with hx|hx
    ·exact hlo x (by simp[hx])
    ·simp at hx;subst hx;exact hab
   ·intro p
    rw[fQ,fQ,Bool.or_assoc]
    congr 1
    rw[dF,dF,mM,Bool.eq_iff_iff]
    simp
    omega
   ·intro t ht hrt x hx
    rcases List.mem_append.1 hx with hx|hx
    ·exact ht x (by simp[hx])
    ·have :=ht (a,b) (by simp)
     simp at hx;subst hx;simp only at this |-;omega
  ·rw [nw _ _ _ _ h]
   refine⟨mj.2 ⟨hO,hr,?_⟩,?_,?_,?_⟩
   ·intro x hx
    rcases List.mem_append.1 hx with hx|hx
    ·have:=h3 x hx;omega
    ·simp at hx;subst hx;simp only;omega
   ·intro x hx
    rcases List.mem_append.1 hx with hx|hx
    ·exact hlo x hx
    ·simp at hx;subst hx;exact Int.le_refl _
   ·intro p
    rw[fQ (O'++[(a,b)])]
    congr 1
    simp[ins]
   ·intro t ht hrt x hx
    rcases List.mem_append.1 hx with hx|hx
    ·exact ht x hx
    ·simp at hx;subst hx;exact hrt
theorem Ch:∀(S O:RL),Canon O->(∀r∈S,er r)->S.Pairwise (fun a b=>a.1<=b.1)->(∀x∈O,∀r∈S,x.1<=r.1)->Canon (S.foldl bF O)/\∀p,ins (S.foldl bF O) p=(ins O p||ins S p):=by
 intro S
 induction S with
 |nil=>intro O hO _ _ _;exact⟨hO,fun p=>by simp[ins]⟩
 |cons r S ih=>
  intro O hO hok hs hlo
  rw[List.pairwise_cons]at hs
  obtain⟨h1,h2,h3,_⟩:=lM hO (hok r (by simp)) (fun x hx=>hlo x hx r (by simp))
  obtain⟨h4,h5⟩:=ih (bF O r) h1 (fun x hx=>hok x (by simp[hx])) hs.2 (fun x hx y hy=>Int.le_trans (h2 x hx) (hs.1 y hy))
  refine⟨h4,fun p=>?_⟩
  rw[List.foldl_cons,h5,h3,dF,Bool.or_assoc]
theorem sd{S:RL}(hok:∀r∈S,er r)(hs:S.Pairwise (fun a b=>a.1<=b.1)):Canon (r9 S)/\∀p,ins (r9 S) p=ins S p:=by
 obtain⟨h1,h2⟩:=Ch S [] lj hok hs (by simp)
 exact⟨h1,fun p=>by rw[r9,h2];simp[mM]⟩
theorem pA{S L:RL}(h:S.Perm L)(p:Int):ins S p=ins L p:=by
 rw[Bool.eq_iff_iff,gS,gS]
 simp[h.mem_iff]
def db:RL->Int->Bool×Int
 |[],_=>(false,1114111)
 |r::L,p=>if r.2<p then db L p else if p<r.1 then(false,r.1 - 1)else(true,r.2)
theorem jD:∀{L:RL} {p:Int},Canon L->0<=p->p<=1114111->p<=(db L p).2/\(db L p).2<=1114111/\∀q,p<=q->q<=(db L p).2->ins L q=(db L p).1:=by
 intro L p
 induction L with
 |nil=>intro _ h0 h1;simp[db,ins];omega
 |cons r L ih=>
  intro hL h0 h1
  obtain⟨ho,ha,hc⟩:=dI.1 hL
  unfold er at ho
  unfold db
  split
  ·rename_i hlt
   obtain⟨h2,h3,h4⟩:=ih hc h0 h1
   refine⟨h2,h3,fun q hq hq2=>?_⟩
   rw[dF,h4 q hq hq2]
   have:(decide (r.1<=q)&&decide (q<=r.2))=false:=by simp;omega
   simp[this]
  ·rename_i hge
   split
   ·rename_i hlt
    refine⟨by simp only;omega,by simp only;omega,fun q hq hq2=>?_⟩
    simp only at hq2 |-
    rw[jo]
    intro x hx
    rcases List.mem_cons.1 hx with rfl|hx
    ·omega
    ·have:=ha x hx;omega
   ·refine ⟨by simp only;omega,by simp only;omega,fun q hq hq2=>?_⟩
    simp only at hq2 |-
    rw[dF]
    have:(decide (r.1<=q)&&decide (q<=r.2))=true:=by simp;omega
    simp[this]
theorem ot{L:RL}{p:Int}(hL:Canon L)(h0:0<=p)(h1:p<=1114111):(db L p).1=ins L p:=by
 obtain⟨h2,_,h3⟩:=jD hL h0 h1
 exact(h3 p (Int.le_refl _) h2).symm
theorem zm:∀(L:RL) (p:Int),∀k,k=L.countP (fun r=>decide (r.2<p))->Canon L->(k=L.length->db L p=(false,1114111))/\∀(h:k<L.length),db L p=if p<L[k].1 then(false,L[k].1 - 1)else(true,L[k].2):=by
 intro L
 induction L with
 |nil=>intro p k hk _;simp at hk;subst hk;exact⟨fun _=>rfl,fun h=>by simp at h⟩
 |cons r L ih=>
  intro p k hk hL
  obtain⟨ho,ha,hc⟩:=dI.1 hL
  unfold er at ho
  rw[List.countP_cons]at hk
  by_cases hlt:r.2<p
  ·simp only[hlt,decide_true,if_true]at hk
   subst hk
   obtain⟨h1,h2⟩:=ih p _ rfl hc
   constructor
   ·intro he
    unfold db
    rw[if_pos hlt]
    exact h1 (by simpa using he)
   ·intro h
    unfold db
    rw[if_pos hlt,h2 (by simpa using h)]
    simp
  ·have hz:L.countP (fun r=>decide (r.2<p))=0:=by
    rw[List.countP_eq_zero]
    intro x hx
    have:=ha x hx
    have:=hc.1 x hx
    unfold er at this
    simp;omega
   simp only[hlt,decide_false,Bool.false_eq_true,if_false,hz]at hk
   subst hk
   constructor
   ·intro he;simp at he
   ·intro _
    unfold db
    rw[if_neg hlt]
    simp
def uq(f:Int->Bool)(O:RL)(p:Int):Prop:=Canon O/\(∀x∈O,x.2<p)/\∀q,ins O q=(decide (0<=q)&&decide (q<p)&&f q)
theorem si(f:Int->Bool):uq f [] 0:=by
 refine⟨lj,by simp,fun q=>?_⟩
 rw[mM]
 by_cases h:q<0<;>simp[h]<;>omega
theorem vp{f:Int->Bool}{O:RL}{p t:Int}(h:uq f O p)(h0:0<=p)(ht:p<=t)(hm:t<=1114111)(hf:∀q,p<=q->q<=t->f q=true):uq f (bF O (p,t)) (t+1):=by
 obtain⟨h1,h2,h3⟩:=h
 obtain⟨j1,j2,j3,j4⟩:=lM (r:=(p,t)) h1 ⟨h0,ht,hm⟩ (fun x hx=>by have:=h2 x hx;have:=h1.1 x hx;unfold er at this;simp only;omega)
 refine⟨j1,fun x hx=>?_,fun q=>?_⟩
 ·have :=j4 t (fun x hx=>by have:=h2 x hx;omega) (Int.le_refl _) x hx
  omega
 ·rw [j3,h3]
  simp only
  by_cases hq:p<=q/\q<=t
  ·rw [hf q hq.1 hq.2]
   simp[hq,show 0<=q by omega,show q<t+1 by omega]
  ·by_cases hq2:q<p
   ·simp[show ¬p<=q by omega,hq2,show q<t+1 by omega]
   ·simp[hq2,show ¬q<=t by omega,show ¬q<t+1 by omega]
theorem zD{f:Int->Bool}{O:RL}{p t:Int}(h:uq f O p)(ht:p<=t)(hf:∀q,p<=q->q<=t->f q=false):uq f O (t+1):=by
 obtain⟨h1,h2,h3⟩:=h
 refine⟨h1,fun x hx=>by have:=h2 x hx;omega,fun q=>?_⟩
 rw[h3]
 by_cases hq:p<=q/\q<=t
 ·rw[hf q hq.1 hq.2];simp
 ·by_cases hq2:q<p
  ·simp[hq2,show q<t+1 by omega]
  ·simp[hq2,show ¬q<t+1 by omega]
def bg(f:Int->Bool)(O:RL):Prop:=Canon O/\∀q,ins O q=(decide (0<=q)&&decide (q<=1114111)&&f q)
theorem wO{f:Int->Bool}{O:RL}{p:Int}(h:uq f O p)(hp:p=1114112):bg f O:=by
 subst hp
 refine⟨h.1,fun q=>?_⟩
 rw[h.2.2 q]
 by_cases hq:q<=1114111
 ·simp[hq,show q<1114112 by omega]
 ·simp[hq,show ¬q<1114112 by omega]
theorem nP{f:Int->Bool}{O O':RL}(h:bg f O)(h':bg f O'):O=O':=
 BU h.1 h'.1 fun p=>by rw[h.2,h'.2]
theorem Eg{L:RL}(h:Canon L)(q:Int)(hq:ins L q=true):0<=q/\q<=1114111:=by
 obtain⟨r,hr,h1,h2⟩:=(gS _ _).1 hq
 have:=h.1 r hr
 unfold er at this
 omega
theorem pC{L:RL}(h:Canon L):bg (ins L) L:=by
 refine⟨h,fun q=>?_⟩
 by_cases hq:ins L q=true
 ·have :=Eg h q hq
  simp[hq,this]
 ·simp[hq]
theorem ft{f g:Int->Bool}{L:RL}(h:bg f L)(hfg:∀q,0<=q->q<=1114111->f q=g q):bg g L:=by
 refine⟨h.1,fun q=>?_⟩
 rw[h.2]
 by_cases hq:0<=q/\q<=1114111
 ·rw[hfg q hq.1 hq.2]
 ·have :(decide (0<=q)&&decide (q<=1114111))=false:=by simp;omega
  rw[this];rfl
end Go.Proofs.YtklbbbldalmnbaaGreatDoor
namespace Go.Proofs.YtklbbbldalmnbaaGreatDoor
open Go.RowKit
theorem I{p:Prop}(h:p):Hid p:=h
theorem bD{a b:Bool}(h:a=b):Ending.returned (.bool a)=.returned (.bool b):=by rw[h]
theorem ej{k:IntKind}{a b:Int}(h:a=b):Ending.returned (.int k a)=.returned (.int k b):=by rw[h]
def dm(l:List Int):List Value:=l.map (Value.int .i64)
def iZ(w:World)(x:Addr)(L:RL):Prop:=∀j (h:j<L.length),w.cell? (x.add (j*2))=some (.int .i64 L[j].1)/\w.cell? ⟨(x.add (j*2)).block,(x.add (j*2)).off+1,none⟩=some (.int .i64 L[j].2)
def Reads(w:World)(v:Value)(L:RL):Prop:=(v=.slice none 0 0/\L=[])\/∃x c,v=.slice (some x) L.length c/\iZ w x L
theorem bb{w:World}{a:Addr}{v:Value}(h:w.cell? a=some v):a.block<w.heap.size:=World.block_lt_of_cell? _ _ h
theorem aE{B:Nat}{w w':World}(hb:Below B w w'){a:Addr}{v:Value}(ha:a.block<B)(h:w.cell? a=some v):w'.cell? a=some v:=by
 rw[<- h]
 unfold World.cell?
 rw[hb.block a.block ha]
theorem iZ.below{w w':World}{x:Addr}{L:RL}(h:iZ w x L)(hb:Below w.heap.size w w'):iZ w' x L:=fun j hj=>
 ⟨aE hb (bb (h j hj).1) (h j hj).1,aE hb (bb (h j hj).2) (h j hj).2⟩
theorem Reads.below{w w':World}{v:Value}{L:RL}(h:Reads w v L)(hb:Below w.heap.size w w'):Reads w' v L:=by
 rcases h with h|⟨x,c,h1,h2⟩
 ·exact .inl h
 ·exact .inr ⟨x,c,h1,h2.below hb⟩
theorem Reads.shape{w:World}{v:Value}{L:RL}(h:Reads w v L):∃ao c,v=.slice ao L.length c:=by
 rcases h with⟨rfl,rfl⟩|⟨x,c,h1,h2⟩
 ·exact⟨none,0,rfl⟩
 ·exact⟨some x,c,h1⟩
theorem Reads.some{w:World}{v:Value}{L:RL}(h:Reads w v L)(hl:0<L.length):∃x c,v=.slice (some x) L.length c/\iZ w x L:=by
 rcases h with⟨rfl,rfl⟩|h
 ·simp at hl
 ·exact h
theorem below_drewN{B:Nat}{w w':World}(h:Below B w w')(q:Nat):Below B w (w'.drewN q):=⟨h.1,h.2,h.3,h.4,h.5⟩
theorem sP(w:World):Reads w (.slice none 0 0) []:=.inl ⟨rfl,rfl⟩
theorem lZ(p:Int)(w:World):Calls prog 29 #[.int .i64 p] w fun e w'=>e=.returned (.bool (decide (0<=p/\p<=1114111)))/\w=w':=by
 go_enter func29,ntmps29
 go_wp2
 all_goals go_ret
 all_goals exact⟨bD (by rw[Bool.eq_iff_iff];simp<;>omega),rfl⟩
def okB(r:Int×Int):Bool:=decide (0<=r.1)&&decide (r.1<=r.2)&&decide (r.2<=1114111)
theorem gR(r:Int×Int):okB r=true↔er r:=by simp[okB,er];omega
def du(L:RL):Int:=if 400<L.length then 2 else if L.all okB then 0 else 3
def chainB:RL->Bool
 |[]=>true
 |[_]=>true
 |a::b::L=>decide (a.2+1<b.1)&&chainB (b::L)
def bj(L:RL):Int:=if du L=0 then(if chainB L then 0 else 4)else du L
theorem ri(L:RL):chainB L=true↔∀j (h:j+1<L.length),L[j].2+1<L[j+1].1:=by
 induction L with
 |nil=>simp[chainB]
 |cons a L ih=>
  cases L with
  |nil=>simp[chainB]
  |cons b L=>
   simp only[chainB,Bool.and_eq_true,decide_eq_true_eq,ih]
   constructor
   ·rintro ⟨h1,h2⟩ j hj
    match j with
    |0=>exact h1
    |j+1=>exact h2 j (by simpa using hj)
   ·intro h
    exact⟨h 0 (by simp),fun j hj=>h (j+1) (by simpa using hj)⟩
theorem lf{L:RL}:du L=0↔L.length<=400/\∀r∈L,er r:=by
 unfold du
 split
 ·simp;omega
 ·split
  ·rename_i h1 h2
   rw[List.all_eq_true]at h2
   simp only[true_iff]
   exact⟨by omega,fun r hr=>(gR r).1 (h2 r hr)⟩
  ·rename_i h1 h2
   simp only[show (3:Int)=0↔False from by simp,false_iff]
   rintro⟨_,h3⟩
   exact h2 (List.all_eq_true.2 fun r hr=>(gR r).2 (h3 r hr))
theorem p9:∀{L:RL},(∀r∈L,er r)->chainB L=true->L.Pairwise (fun a b=>a.2+1<b.1):=by
 intro L
 induction L with
 |nil=>intro _ _;exact List.Pairwise.nil
 |cons a L ih=>
  intro hok h
  cases L with
  |nil=>exact List.pairwise_singleton _ _
  |cons b L=>
   simp only[chainB,Bool.and_eq_true,decide_eq_true_eq]at h
   have hp:=ih (fun r hr=>hok r (by simp[hr])) h.2
   refine List.pairwise_cons.2 ⟨fun x hx=>?_,hp⟩
   rcases List.mem_cons.1 hx with rfl|hx
   ·exact h.1
   ·have h1:=(List.pairwise_cons.1 hp).1 x hx
    have h2:=hok b (by simp)
    unfold er at h2
    omega
theorem qN:∀{L:RL},L.Pairwise (fun a b=>a.2+1<b.1)->chainB L=true:=by
 intro L
 induction L with
 |nil=>intro _;rfl
 |cons a L ih=>
  intro h
  cases L with
  |nil=>rfl
  |cons b L=>
   rw[List.pairwise_cons]at h
   simp only[chainB,Bool.and_eq_true,decide_eq_true_eq]
   exact⟨h.1 b (by simp),ih h.2⟩
theorem fR{L:RL}:bj L=0↔L.length<=400/\Canon L:=by
 unfold bj
 constructor
 ·intro h
  split at h
  ·rename_i h1
   split at h
   ·rename_i h2
    obtain⟨h3,h4⟩:=lf.1 h1
    exact⟨h3,h4,p9 h4 h2⟩
   ·simp at h
  ·rename_i h1;exact absurd h h1
 ·rintro ⟨h1,h2,h3⟩
  rw[if_pos (lf.2 ⟨h1,h2⟩),if_pos (qN h3)]
end Go.Proofs.YtklbbbldalmnbaaGreatDoor
