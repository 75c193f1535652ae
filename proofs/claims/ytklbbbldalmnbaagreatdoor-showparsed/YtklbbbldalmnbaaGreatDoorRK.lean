import Derived.Test.YtklbbbldalmnbaaGreatDoorMK
import Derived.Test.YtklbbbldalmnbaaGreatDoorMD
import Derived.Test.YtklbbbldalmnbaaGreatDoorRA
import Derived.Test.YtklbbbldalmnbaaGreatDoorMP
import Derived.Test.YtklbbbldalmnbaaGreatDoorRB
set_option linter.unusedVariables false
namespace Go.Proofs.YtklbbbldalmnbaaGreatDoor.Pa
open TR (Tr cO cG cY bV bu kG fN)
open Br (BE PS bJ bO)
variable {l : List Int} {d : Int} {s s' : St}
def Kh(t:Tr):Prop:=(1<=t.kind/\t.kind<=18)/\bV t=true/\bu t=true/\bp t.set=0/\(t.kind=12->kG t=0)
mutual
inductive Rt:Nat->Tr->Nat->Prop
 |mk (g g1 g':Nat) (t:Tr) (h1:Kh t) (h2:(t.kind=11/\t.num=(g:Int)+1/\g1=g+1)\/(t.kind≠11/\g1=g)) (h3:oS g1 t.kids g'):Rt g t g'
inductive oS:Nat->List Tr->Nat->Prop
 |nil (g:Nat):oS g [] g
 |cons (g g1 g':Nat) (t:Tr) (ts:List Tr) (h1:Rt g t g1) (h2:oS g1 ts g'):oS g (t::ts) g'
end
theorem oS.append{g g1 g':Nat}:∀{ts us:List Tr},oS g ts g1->oS g1 us g'->oS g (ts++us) g'
 |[],us,h,h'=>by cases h;exact h'
 |t::ts,us,h,h'=>by
  cases h with
  |cons _ g2 _ _ _ h1 h2=>exact .cons _ _ _ _ _ h1 (oS.append h2 h')
theorem oS.one{g g':Nat}{t:Tr}(h:Rt g t g'):oS g [t] g':=.cons _ _ _ _ _ h (.nil _)
theorem Rt.ok{g g':Nat}{t:Tr}(h:Rt g t g'):Kh t:=by cases h with|mk _ _ _ _ h1 h2 h3=>exact h1
theorem Rt.kids{g g':Nat}{t:Tr}(h:Rt g t g')(hk:t.kind≠11):oS g t.kids g':=by
 cases h with
 |mk _ _ _ _ h1 h2 h3=>
  rcases h2 with⟨h,_⟩|⟨_,h⟩
  ·exact absurd h hk
  ·subst h;exact h3
theorem Rt.node{g g':Nat}{t:Tr}(h:Kh t)(hk:t.kind≠11)(h3:oS g t.kids g'):Rt g t g':=.mk _ _ _ _ h (.inr ⟨hk,rfl⟩) h3
theorem uG{ts:List Tr}{k:Int}(h:∀u∈ts,u.kind≠k):fN ts k=false:=by
 unfold fN
 rw[List.any_eq_false]
 intro u hu
 simpa using h u hu
theorem qQ{ts:List Tr}{k:Int}(h:fN ts k=false):∀u∈ts,u.kind≠k:=by
 unfold fN at h
 rw[List.any_eq_false]at h
 intro u hu
 simpa using h u hu
theorem Lr{t:Tr}(h:bV t=true)(hk:t.kind=9):2<=t.kids.length/\∀u∈t.kids,u.kind≠9/\u.kind≠1:=by
 unfold bV at h
 rw[if_pos hk]at h
 simp only[Bool.and_eq_true,decide_eq_true_eq,Bool.not_eq_true']at h
 exact⟨h.1.1,fun u hu=>⟨qQ h.1.2 u hu,qQ h.2 u hu⟩⟩
theorem KS{t:Tr}(h:bV t=true)(hk:t.kind=10):2<=t.kids.length/\∀u∈t.kids,u.kind≠10:=by
 unfold bV at h
 rw[if_neg (by omega),if_pos hk]at h
 simp only[Bool.and_eq_true,decide_eq_true_eq,Bool.not_eq_true']at h
 exact⟨h.1,qQ h.2⟩
theorem Lq{t:Tr}(h:bV t=true)(hk:t.kind=1):t.kids=[]:=by
 unfold bV at h
 rw[if_neg (by omega),if_neg (by omega),if_neg (by omega)]at h
 simpa using h
theorem A0{g:Nat}{k:Int}(h:(1<=k/\k<=8/\k≠2)):Rt g (.mk k 0 0 0 0 false [] []) g:=by
 refine .node ⟨⟨h.1,by show k<=18;omega⟩,?_,?_,rfl,fun hk=>?_⟩ (by show k≠11;omega) (.nil _)
 ·unfold bV
  rw[if_neg (by show ¬k=9;omega),if_neg (by show ¬k=10;omega),if_neg (by show ¬(11<=k/\k<=17);omega)]
  rfl
 ·simp[bu,Tr.set,Tr.num,Tr.least,Tr.ar,Tr.bC,Tr.fold]
 ·have :k=12:=hk
  omega
theorem wo{g:Nat}:Rt g gp g:=A0 (by omega)
theorem Kb{g:Nat}{f:PS}(h:bJ f=false):Rt g (fh (gv f)) g:=by
 refine .node ⟨⟨by show(1:Int)<=2;decide,by show(2:Int)<=18;decide⟩,rfl,?_,?_,fun hk=>?_⟩ (by show(2:Int)≠11;decide) (.nil _)
 ·simp[bu,fh,Tr.kind,Tr.num,Tr.least,Tr.ar,Tr.bC,Tr.fold]
 ·obtain ⟨S,hS⟩:=Br.zu f
  show bp (gv f)=0
  rw[oE hS,Br.gk hS,h]
  rfl
 ·exact absurd hk (by show ¬(2:Int)=12;decide)
theorem DV{g:Nat}{n:Int}{f:Bool}:Rt g (.mk 18 n 0 0 0 f [] []) g:=by
 refine .node ⟨⟨by show(1:Int)<=18;decide,by show(18:Int)<=18;decide⟩,rfl,?_,rfl,fun hk=>?_⟩ (by show(18:Int)≠11;decide) (.nil _)
 ·simp[bu,Tr.kind,Tr.set,Tr.num,Tr.least,Tr.ar,Tr.bC,Tr.fold]
 ·exact absurd hk (by show ¬(18:Int)=12;decide)
theorem ED{g g':Nat}{t:Tr}(h:Rt (g+1) t g'):Rt g (.mk 11 ((g+1:Nat):Int) 0 0 0 false [] [t]) g':=by
 refine .mk _ (g+1) _ _ ⟨⟨by show(1:Int)<=11;decide,by show(11:Int)<=18;decide⟩,rfl,?_,rfl,fun hk=>?_⟩ (.inl ⟨rfl,?_,rfl⟩) (oS.one h)
 ·simp[bu,Tr.kind,Tr.set,Tr.num,Tr.least,Tr.ar,Tr.bC,Tr.fold]
 ·exact absurd hk (by show ¬(11:Int)=12;decide)
 ·show ((g+1:Nat):Int)=(g:Int)+1
  omega
theorem look_ok{g g':Nat}{t:Tr}{k:Int}(hk:13<=k/\k<=17)(h:Rt g t g'):Rt g (.mk k 0 0 0 0 false [] [t]) g':=by
 refine .node ⟨⟨by show 1<=k;omega,by show k<=18;omega⟩,?_,?_,rfl,fun hh=>?_⟩ (by show k≠11;omega) (oS.one h)
 ·unfold bV
  rw[if_neg (by show ¬k=9;omega),if_neg (by show ¬k=10;omega),if_pos (by show 11<=k/\k<=17;omega)]
  rfl
 ·simp[bu,Tr.set,Tr.num,Tr.least,Tr.ar,Tr.bC,Tr.fold]
 ·have :k=12:=hh
  omega
theorem J5{g g':Nat}{t:Tr}{k:TK.Tok}(ht:cp k)(hk:k.kind=6)(h:Rt g t g'):Rt g (cL t k) g':=by
 refine .node ⟨⟨by show(1:Int)<=12;decide,by show(12:Int)<=18;decide⟩,rfl,?_,rfl,fun hh=>?_⟩ (by show(12:Int)≠11;decide) (oS.one h)
 ·simp[bu,cL,Tr.kind,Tr.set,Tr.num,Tr.fold]
 ·have hr:0<=k.least/\k.least<=100/\(k.ar= -1\/(k.least<=k.ar/\k.ar<=100))/\1<=k.bC/\k.bC<=3:=by unfold cp at ht;omega
  unfold kG
  rw[if_neg (by show ¬ ¬(0<=k.least/\k.least<=100);omega),if_neg (by show ¬ ¬(k.ar= -1\/(k.least<=k.ar/\k.ar<=100));omega),if_neg (by show ¬ ¬(1<=k.bC/\k.bC<=3);omega)]
theorem Bh:∀{ps:List Tr} {g g':Nat},oS g ps g'->oS g (ga ps) g'/\∀u∈ga ps,u.kind≠9/\u.kind≠1
 |[],g,g',h=>by cases h;exact⟨.nil _,fun u hu=>by cases hu⟩
 |t::ps,g,g',h=>by
  cases h with
  |cons _ g1 _ _ _ h1 h2=>
   obtain⟨i1,i2⟩:=Bh h2
   have e:ga (t::ps)=(if t.kind=1 then []else if t.kind=9 then t.kids else [t])++ga ps:=by simp[ga]
   rw[e]
   by_cases k1:t.kind=1
   ·rw [if_pos k1]
    have:=h1.kids (by omega)
    rw[Lq h1.ok.2.1 k1]at this
    cases this
    exact⟨i1,i2⟩
   ·rw [if_neg k1]
    by_cases k9:t.kind=9
    ·rw [if_pos k9]
     refine⟨(h1.kids (by omega)).append i1,fun u hu=>?_⟩
     rcases List.mem_append.1 hu with h|h
     ·exact(Lr h1.ok.2.1 k9).2 u h
     ·exact i2 u h
    ·rw [if_neg k9]
     refine⟨(oS.one h1).append i1,fun u hu=>?_⟩
     rcases List.mem_append.1 hu with h|h
     ·rw[List.mem_singleton]at h;subst h;exact⟨k9,k1⟩
     ·exact i2 u h
theorem J8{ps:List Tr}{g g':Nat}(h:oS g ps g'):Rt g (gO ps) g':=by
 obtain⟨h1,h2⟩:=Bh h
 unfold gO
 cases hr:ga ps with
 |nil=>rw[hr]at h1;cases h1;exact wo
 |cons a r=>
  rw[hr]at h1 h2
  cases r with
  |nil=>
   cases h1 with
   |cons _ _ _ _ _ h3 h4=>cases h4;exact h3
  |cons b r=>
   show Rt g (.mk 9 0 0 0 0 false [] (a::b::r)) g'
   refine .node ⟨⟨by show(1:Int)<=9;decide,by show(9:Int)<=18;decide⟩,?_,?_,rfl,fun hh=>absurd hh (by show ¬(9:Int)=12;decide)⟩ (by show(9:Int)≠11;decide) h1
   ·unfold bV
    rw[if_pos (show(Tr.mk 9 0 0 0 0 false [] (a::b::r)).kind=9 from rfl)]
    show(decide (2<=(a::b::r).length)&&!fN (a::b::r) 9&&!fN (a::b::r) 1)=true
    rw[uG fun u hu=>(h2 u hu).1,uG fun u hu=>(h2 u hu).2]
    simp
   ·simp[bu,Tr.kind,Tr.set,Tr.num,Tr.least,Tr.ar,Tr.bC,Tr.fold]
theorem qH:∀{bs:List Tr} {g g':Nat},oS g bs g'->oS g (bs.flatMap fun t=>if t.kind=10 then t.kids else [t]) g'/\(∀u∈(bs.flatMap fun t=>if t.kind=10 then t.kids else [t]),u.kind≠10)/\bs.length<=(bs.flatMap fun t=>if t.kind=10 then t.kids else [t]).length
 |[],g,g',h=>by cases h;exact⟨.nil _,fun u hu=>(by cases hu),ai _⟩
 |t::bs,g,g',h=>by
  cases h with
  |cons _ g1 _ _ _ h1 h2=>
   obtain⟨i1,i2,i3⟩:=qH h2
   rw[List.flatMap_cons]
   by_cases k9:t.kind=10
   ·rw [if_pos k9]
    have h10:=KS h1.ok.2.1 k9
    refine⟨(h1.kids (by omega)).append i1,fun u hu=>?_,by rw[List.length_append,List.length_cons];omega⟩
    rcases List.mem_append.1 hu with h|h
    ·exact h10.2 u h
    ·exact i2 u h
   ·rw [if_neg k9]
    refine⟨(oS.one h1).append i1,fun u hu=>?_,by rw[List.length_append,List.length_cons,List.length_singleton];omega⟩
    rcases List.mem_append.1 hu with h|h
    ·rw[List.mem_singleton]at h;subst h;exact k9
    ·exact i2 u h
theorem Ck{bs:List Tr}{g g':Nat}(h:oS g bs g')(hne:bs≠[]):Rt g (eV bs) g':=by
 match bs,hne,h with
 |[t],_,h=>
  cases h with
  |cons _ _ _ _ _ h3 h4=>cases h4;exact h3
 |a::b::r,_,h=>
  obtain⟨i1,i2,i3⟩:=qH h
  show Rt g (.mk 10 0 0 0 0 false [] ((a::b::r).flatMap fun t=>if t.kind=10 then t.kids else [t])) g'
  refine .node ⟨⟨by show(1:Int)<=10;decide,by show(10:Int)<=18;decide⟩,?_,?_,rfl,fun hh=>absurd hh (by show ¬(10:Int)=12;decide)⟩ (by show(10:Int)≠11;decide) i1
  ·unfold bV
   rw[if_neg (by show ¬(10:Int)=9;decide),if_pos (by show(10:Int)=10;rfl)]
   show(decide (2<=(((a::b::r).flatMap fun t=>if t.kind=10 then t.kids else [t])).length)&&!fN ((a::b::r).flatMap fun t=>if t.kind=10 then t.kids else [t]) 10)=true
   rw[uG i2]
   simp only[List.length_cons]at i3
   simp only[Bool.not_false,Bool.and_true,decide_eq_true_eq]
   omega
  ·simp[bu,Tr.kind,Tr.set,Tr.num,Tr.least,Tr.ar,Tr.bC,Tr.fold]
end Go.Proofs.YtklbbbldalmnbaaGreatDoor.Pa
namespace Go.Proofs.YtklbbbldalmnbaaGreatDoor.Pa
open TR (Tr)
open Br (BE PS bJ bO)
variable {l : List Int} {d : Int} {s s' : St}
def p9(t:ByteArray):Prop:=∃l i,t=TK.bI (TK.bQ l i)/\TK.bQ l i≠[]/\(∀p∈l,0<=p/\p<=1114111)
structure kJ(s:St):Prop where
 one:∀n∈s.names,p9 n.1/\1<=n.2/\n.2<=(s.ay:Int)
 two:s.names.Pairwise fun a b=>a.1.toList≠b.1.toList/\a.2<b.2
theorem kJ.same(h:kJ s)(h1:s'.names=s.names)(h2:s'.ay=s.ay):kJ s':=⟨by rw[h1,h2];exact h.one,by rw[h1];exact h.two⟩
theorem Ge(ht:cp s.tok)(hk:s.tok.kind=7)(hne:s.tok.text.toList≠[]):p9 s.tok.text:=by
 unfold cp at ht
 rcases ht with h|h|h|h|h|h|h|h|h|h|h
 all_goals first
  |omega
  | (rcases h.2.2.1 with h1|h1
     ·exact absurd h1 hne
     ·exact h1)
theorem D5{t:ByteArray}(hn:t.toList≠[]->p9 t)(hr:cX s t=.ok s'):s'.ay=s.ay+1/\(kJ s->kJ s'):=by
 unfold cX at hr
 split at hr
 ·cases hr
 ·split at hr
  ·cases hr
   exact⟨rfl,fun h=>⟨fun n hm=>⟨(h.one n hm).1,(h.one n hm).2.1,by have:=(h.one n hm).2.2;show n.2<=((s.ay+1:Nat):Int);omega⟩,h.two⟩⟩
  ·rename_i hne
   split at hr
   ·cases hr
   ·rename_i hh
    cases hr
    refine⟨rfl,fun h=>⟨fun n hm=>?_,?_⟩⟩
    ·show p9 n.1/\1<=n.2/\n.2<=((s.ay+1:Nat):Int)
     rcases List.mem_append.1 hm with h1|h1
     ·exact⟨(h.one n h1).1,(h.one n h1).2.1,by have:=(h.one n h1).2.2;omega⟩
     ·rw [List.mem_singleton]at h1
      subst h1
      exact⟨hn hne,by show(1:Int)<=((s.ay+1:Nat):Int);omega,Int.le_refl _⟩
    ·show (s.names++[(t,((s.ay+1:Nat):Int))]).Pairwise _
     rw[List.pairwise_append]
     refine⟨h.two,List.pairwise_singleton _ _,fun a ha b hb=>?_⟩
     rw[List.mem_singleton]at hb
     subst hb
     refine⟨fun e=>hh ?_,by have:=(h.one a ha).2.2;show a.2<((s.ay+1:Nat):Int);omega⟩
     unfold hasName
     rw[List.any_eq_true]
     exact⟨a,ha,by simpa using e⟩
theorem IJ{f:PS}{k:Nat}(ht:cp s.tok)(hr:ki d l s=.ok (f,k)):bJ f=false:=by
 unfold ki at hr
 split at hr
 ·rename_i h1
  cases hr
  exact ux (by unfold cp at ht;omega) s.aD
 ·rename_i h1
  split at hr
  ·rename_i h4
   have hp:s.tok.text=TK.ep\/s.tok.text=TK.dS\/s.tok.text=TK.er\/s.tok.text=TK.dB:=by
    unfold cp at ht
    rcases ht with h|h|h|h|h|h|h|h|h|h|h
    all_goals first|omega|exact h.2
   cases hr
   cases hn:s.tok.neg with
   |true=>exact wA hp s.aD
   |false=>exact uw hp s.aD
  ·split at hr
   ·cases hb:Br.cS d s.aD l (s.next:Int)with
    |error e=>rw[hb]at hr;cases hr
    |ok x=>
     rw[hb]at hr
     cases hr
     unfold Br.cS at hb
     split at hb
     ·cases hb
     ·split at hb
      ·cases hb
      ·unfold Br.gN at hb
       split at hb
       ·cases hb
       ·split at hb
        ·cases hb
        ·rename_i hm
         cases hb
         simpa using hm
   ·cases hr
    exact AV
def Ay(s:St)(t:Tr)(s':St):Prop:=Rt s.ay t s'.ay/\(kJ s->kJ s')
theorem Du{t:Tr}(ht:cp s.tok)(hr:ct d l s=.ok (t,s')):Ay s t s':=by
 unfold ct at hr
 split at hr
 ·cases hr
  exact⟨A0 (by unfold cp at ht;omega),id⟩
 ·split at hr
  ·unfold fe at hr
   simp only at hr
   generalize (if s.tok.num<0 then s.tok.num+((s.ay+1:Nat):Int)else s.tok.num)=n at hr
   split at hr
   ·cases hr
   ·cases hr
    exact⟨DV,fun h=>h.same rfl rfl⟩
  ·split at hr
   ·cases hr;exact⟨wo,fun h=>h.same rfl rfl⟩
   ·split at hr
    ·cases hr
    ·rename_i f k heq
     cases hr;exact⟨Kb (IJ ht heq),fun h=>h.same rfl rfl⟩
theorem yI(ha:dF d l s=.ok s'):s'.ay=s.ay/\s'.names=s.names:=by
 unfold dF at ha
 split at ha
 ·cases ha;exact⟨rfl,rfl⟩
 ·split at ha
  ·cases ha
  ·cases ha;exact⟨rfl,rfl⟩
theorem Ay.LK{s1:St}{t:Tr}(h:Ay s t s1)(ha:dF d l s1=.ok s'):Ay s t s':=by
 obtain⟨h1,h2⟩:=yI ha
 exact⟨by rw[h1];exact h.1,fun hn=>(h.2 hn).same h2 h1⟩
def qd(l:List Int)(dp:Nat)(rec:Rd):Prop:=∀fo s t s',dc l s->s.deep=dp->rec fo s=.ok (t,s')->Ay s t s'
theorem Ii(hpe:TK.bK d l=0){rec:Rd}(hrc:qd l (s.deep+1) rec){t:Tr}(h:dc l s)(hp:s.pos<l.length)(hk:s.tok.kind=7)(hr:bW d l rec s=.ok (t,s')):Ay s t s':=by
 obtain⟨h1,htok⟩:=h.inv.on hp
 unfold bW at hr
 split at hr
 ·cases hr
 ·rename_i h20
  split at hr
  ·cases hr
  ·rename_i s1 heq1
   have hs1:kA l s1/\s1.deep=s.deep/\(s1.ay=if s.tok.num=11 then s.ay+1 else s.ay)/\(kJ s->kJ s1):=by
    split at heq1
    ·rename_i h11
     obtain⟨a,b,c,e,_⟩:=iA h.oP heq1
     obtain⟨x,y⟩:=D5 (fun hne=>Ge htok hk hne) heq1
     exact⟨a,e,by rw[if_pos h11];exact x,y⟩
    ·rename_i h11
     cases heq1;exact⟨h.oP,rfl,by rw[if_neg h11],id⟩
   obtain⟨ia,hd1,hg1,hn1⟩:=hs1
   split at hr
   ·cases hr
   ·rename_i s2 heq2
    obtain⟨i2,p2,_,d2,g2,n2,a2⟩:=cW hpe ia heq2
    split at hr
    ·cases hr
    ·rename_i t3 s3 heq3
     have hd20:s.deep+1<=20:=by have:=h.inv.deep;omega
     have hg:Ay { s2 with deep:=s2.deep+1 } t3 s3:=hrc _ { s2 with deep:=s2.deep+1 } _ _ ⟨⟨i2.inv.pos,i2.inv.next,i2.inv.on,i2.inv.off,i2.inv.iK,i2.inv.jt,i2.inv.mL,by show s2.deep+1<=20;omega⟩,i2.pn⟩ (by show s2.deep+1=_;omega) heq3
     have hgt:Rt s1.ay t3 s3.ay:=by rw[<- g2];exact hg.1
     have hgn:kJ s->kJ s3:=fun hn=>hg.2 ((hn1 hn).same n2 g2)
     split at hr
     ·cases hr
     ·split at hr
      ·cases hr
      ·rename_i s4 heq4
       obtain⟨g4,n4⟩:=yI (s:={ s3 with deep:=s3.deep - 1 }) heq4
       have g4':s4.ay=s3.ay:=g4
       have hgn4:kJ s->kJ s4:=fun hn=>(hgn hn).same n4 g4
       split at hr
       ·rename_i hone
        cases hr
        rw[if_neg (by omega)]at hg1
        refine⟨?_,hgn4⟩
        rw[g4', <-hg1]
        exact hgt
       ·rename_i hone
        cases hr
        refine⟨?_,hgn4⟩
        rw[g4']
        by_cases h11:s.tok.num=11
        ·rw [if_pos h11]at hg1
         rw[hg1]at hgt |-
         rw[h11,if_pos rfl]
         exact ED hgt
        ·rw [if_neg h11]at hg1
         rw[hg1]at hgt
         rw[if_neg h11]
         exact look_ok (by unfold cp at htok;omega) hgt
theorem GJ(hpe:TK.bK d l=0){rec:Rd}(hrc:qd l (s.deep+1) rec){t:Tr}(h:dc l s)(hp:s.pos<l.length)(hr:dm d l rec s=.ok (t,s')):Ay s t s':=by
 unfold dm at hr
 split at hr
 ·cases hr
 ·split at hr
  ·rename_i h7
   exact Ii hpe hrc h hp h7 hr
  ·split at hr
   ·cases hr
   ·rename_i t1 s1 heq
    have h1:=Du (h.inv.on hp).2 heq
    split at hr
    ·cases hr
    ·rename_i s2 heq2
     cases hr
     exact h1.LK heq2
theorem Bf(hpe:TK.bK d l=0){may:Bool}{s0:St}:∀(n ahead:Nat) (t:Tr) (s:St) (t':Tr) (s':St),dc l s->Ay s0 t s->fs d l may n ahead t s=.ok (t',s')->Ay s0 t' s'
 |0,ahead,t,s,t',s',hi,hg,hr=>by cases hr;exact hg
 |n+1,ahead,t,s,t',s',hi,hg,hr=>by
  unfold fs at hr
  split at hr
  ·rename_i h6
   split at hr
   ·cases hr
   ·split at hr
    ·cases hr
    ·split at hr
     ·cases hr
     ·rename_i s1 heq
      obtain⟨h1,h2⟩:=yI heq
      have hp:s.pos<l.length:=by
       have h1:=hi.inv.pos
       have h2:s.pos≠l.length:=fun e=>by have:=hi.inv.off e;rw[this]at h6;exact absurd h6 (by decide)
       omega
      refine Bf hpe n (ahead+1) _ s1 t' s' (cW hpe hi.oP heq).1 ⟨?_,fun hn=>(hg.2 hn).same h2 h1⟩ hr
      rw[h1]
      exact J5 (hi.inv.on hp).2 h6 hg.1
  ·cases hr;exact hg
theorem FJ(hpe:TK.bK d l=0){rec:Rd}(hrg:dL l (s.deep+1) rec)(hrc:qd l (s.deep+1) rec){t:Tr}(h:dc l s)(hp:s.pos<l.length)(hr:cJ d l rec s=.ok (t,s')):Ay s t s':=by
 unfold cJ at hr
 split at hr
 ·cases hr
 ·rename_i t1 s1 heq
  exact Bf hpe _ _ _ _ _ _ (kL hpe hrg h hp heq).1.inv (GJ hpe hrc h hp heq) hr
def I0(s:St)(ts:List Tr)(s':St):Prop:=oS s.ay ts s'.ay/\(kJ s->kJ s')
theorem I0.snoc{s0:St}{ts:List Tr}{t:Tr}(h:I0 s0 ts s)(hg:Ay s t s'):I0 s0 (ts++[t]) s':=⟨h.1.append (.one hg.1),fun hn=>hg.2 (h.2 hn)⟩
theorem tL(hpe:TK.bK d l=0){rec:Rd}{s0:St}(hrg:dL l (s0.deep+1) rec)(hrc:qd l (s0.deep+1) rec):∀(n:Nat) (ps:List Tr) (s:St) (ps':List Tr) (s':St),dc l s->s.deep=s0.deep->I0 s0 ps s->cQ d l rec n ps s=.ok (ps',s')->I0 s0 ps' s'
 |0,ps,s,ps',s',hi,hd,hg,hr=>by cases hr;exact hg
 |n+1,ps,s,ps',s',hi,hd,hg,hr=>by
  unfold cQ at hr
  split at hr
  ·cases hr;exact hg
  ·rename_i hend
   split at hr
   ·cases hr
   ·rename_i t s1 heq
    have hp:s.pos<l.length:=by
     have h1:=hi.inv.pos
     have h2:s.pos≠l.length:=fun e=>hend (by unfold jZ;simp[e])
     omega
    obtain⟨a,b⟩:=iH hpe (s:=s) (by rw[hd];exact hrg) hi hp heq
    exact tL hpe hrg hrc n _ s1 ps' s' a.inv (a.deep.trans hd) (hg.snoc (FJ hpe (by rw[hd];exact hrg) (by rw[hd];exact hrc) hi hp heq)) hr
theorem sT(hpe:TK.bK d l=0){rec:Rd}(hrg:dL l (s.deep+1) rec)(hrc:qd l (s.deep+1) rec){t:Tr}(h:dc l s)(hr:bS d l rec s=.ok (t,s')):Ay s t s':=by
 unfold bS at hr
 split at hr
 ·cases hr
 ·rename_i ps s1 heq
  cases hr
  have:=tL hpe hrg hrc _ _ _ _ _ h rfl ⟨.nil _,id⟩ heq
  exact⟨J8 this.1,this.2⟩
theorem AG(hpe:TK.bK d l=0){rec:Rd}{s0:St}(hrg:dL l (s0.deep+1) rec)(hrc:qd l (s0.deep+1) rec):∀(n:Nat) (bs:List Tr) (s:St) (bs':List Tr) (s':St),dc l s->s.deep=s0.deep->I0 s0 bs s->cT d l rec n bs s=.ok (bs',s')->I0 s0 bs' s'
 |0,bs,s,bs',s',hi,hd,hg,hr=>by cases hr;exact hg
 |n+1,bs,s,bs',s',hi,hd,hg,hr=>by
  unfold cT at hr
  split at hr
  ·split at hr
   ·cases hr
   ·rename_i s1 heq1
    obtain⟨i2,p2,_,d2,g2,n2,a2⟩:=cW hpe hi.oP heq1
    split at hr
    ·cases hr
    ·rename_i t s2 heq2
     have hd1:s1.deep=s0.deep:=d2.trans hd
     have hgo:=dx hpe (s:=s1) (by rw[hd1];exact hrg) i2 heq2
     have hag:=sT hpe (s:=s1) (by rw[hd1];exact hrg) (by rw[hd1];exact hrc) i2 heq2
     have hg1:I0 s0 bs s1:=⟨by rw[g2];exact hg.1,fun hn=>(hg.2 hn).same n2 g2⟩
     exact AG hpe hrg hrc n _ s2 bs' s' hgo.inv (hgo.deep.trans hd1) (hg1.snoc hag) hr
  ·cases hr;exact hg
theorem ud(hpe:TK.bK d l=0){rec:Rd}{dp:Nat}(hrg:dL l (dp+1) rec)(hrc:qd l (dp+1) rec):qd l dp (bH d l rec):=by
 intro fo s t s' h hd hr
 unfold bH at hr
 split at hr
 ·cases hr
 ·rename_i t1 s1 heq1
  have hrg':dL l (({ s with aD:=fo }:St).deep+1) rec:=by show dL l (s.deep+1) rec;rw[hd];exact hrg
  have hrc':qd l (({ s with aD:=fo }:St).deep+1) rec:=by show qd l (s.deep+1) rec;rw[hd];exact hrc
  have h1:=dx hpe (s:={ s with aD:=fo }) hrg' (dH h fo) heq1
  have h2:Ay { s with aD:=fo } t1 s1:=sT hpe (s:={ s with aD:=fo }) hrg' hrc' (dH h fo) heq1
  split at hr
  ·cases hr
  ·rename_i bs s2 heq2
   cases hr
   have h3:=AG hpe (s0:={ s with aD:=fo }) hrg' hrc' _ _ _ _ _ h1.inv h1.deep ⟨.one h2.1,h2.2⟩ heq2
   exact⟨Ck h3.1 (pF _ _ _ _ _ (by simp) heq2),fun hn=>(h3.2 (hn.same rfl rfl)).same rfl rfl⟩
theorem nj(hpe:TK.bK d l=0):∀(n dp:Nat),qd l dp (bk d l n)
 |0,dp=>fun fo s t s' _ _ hr=>by cases hr
 |n+1,dp=>ud hpe (dD hpe n (dp+1)) (nj hpe n (dp+1))
end Go.Proofs.YtklbbbldalmnbaaGreatDoor.Pa
namespace Go.Proofs.YtklbbbldalmnbaaGreatDoor.Pa
open Go.PlainAid
open TR (Tr cO cY bV bu kG fN jo tV kr sj oF zE dE cr cP mb nd qe tX nL mR jr iS uN)
open Br (BE PS)
variable {l : List Int} {d : Int} {s s' : St}
theorem pg(ns:List Int)(t:Tr):(aZ ns t).kind=t.kind:=by cases t;rw[db];rfl
theorem yd(ns:List Int)(ts:List Tr)(k:Int):fN (ts.map (aZ ns)) k=fN ts k:=by
 unfold fN
 rw[List.any_map]
 congr 1
 funext u
 simp only[Function.comp,pg]
theorem Dm{ns:List Int}{t:Tr}(h:Kh t):Kh (aZ ns t):=by
 cases t with
 |mk k n a b c f S ks=>
  rw[db]
  obtain⟨h1,h2,h3,h4,h5⟩:=h
  refine⟨h1,?_,?_,h4,h5⟩
  ·unfold bV at h2 |-
   simp only[Tr.kind,Tr.kids,List.length_map,yd]at h2 |-
   exact h2
  ·unfold bu at h3 |-
   simp only[Tr.kind,Tr.set,Tr.num,Tr.least,Tr.ar,Tr.bC,Tr.fold]at h3 |-
   unfold lr
   by_cases hk:k=18
   ·simp only[Bool.and_eq_true,Bool.or_eq_true]at h3 |-
    obtain⟨⟨⟨⟨⟨a1,b1⟩,c1⟩,d1⟩,e1⟩,f1⟩:=h3
    exact⟨⟨⟨⟨⟨a1,.inl (.inr (decide_eq_true hk))⟩,c1⟩,d1⟩,e1⟩,f1⟩
   ·rw [if_neg hk]
    exact h3
theorem ye(ns:List Int)(t:Tr):(aZ ns t).kids=t.kids.map (aZ ns):=by cases t;rw[db];rfl
theorem H9{ns:List Int}{t:Tr}{g g1:Nat}(h1:Kh t)(h2:(t.kind=11/\t.num=(g:Int)+1/\g1=g+1)\/(t.kind≠11/\g1=g))(ha:jl ns.length t)(A:List Int):∃B:List Int,cY (aZ ns t) ((g:Int),A)=.ok ((g1:Int),A++B)/\∀x∈B,x∈ns:=by
 obtain⟨k1,k2,k3,k4,k5⟩:=Dm (ns:=ns) h1
 unfold cY
 rw[if_neg (by omega),if_neg (by rw[k2,k3];simp),if_neg (by omega)]
 rw[pg]at k5 |-
 by_cases k12:t.kind=12
 ·rw [if_pos k12,if_pos (k5 k12)]
  have:g1=g:=by omega
  exact⟨[],by rw[this];simp,fun x hx=>by cases hx⟩
 ·rw [if_neg k12]
  by_cases k11:t.kind=11
  ·rw [if_pos k11]
   have hn:(aZ ns t).num=t.num:=by
    cases t with
    |mk k n a b c f S ks=>
     rw[db]
     show lr ns k n=n
     unfold lr
     rw[if_neg (by have:k=11:=k11;omega)]
   rw[if_pos (by rw[hn];show t.num=(g:Int)+1;omega)]
   have:(g1:Int)=(g:Int)+1:=by omega
   exact⟨[],by rw[this];simp,fun x hx=>by cases hx⟩
  ·rw [if_neg k11]
   have e:g1=g:=by omega
   by_cases k18:t.kind=18
   ·rw [if_pos k18]
    refine⟨[(aZ ns t).num],by rw[e],fun x hx=>?_⟩
    rw[List.mem_singleton]at hx
    subst hx
    cases ha with
    |mk k n a b c f S ks h8 h9=>
     have:=h8 k18
     rw[db]
     show lr ns k n∈ns
     unfold lr
     rw[if_pos (show k=18 from k18)]
     have hlt:n.toNat<ns.length:=by omega
     rw[show ns.getD n.toNat 0=ns[n.toNat] by simp[List.getD,hlt]]
     exact List.getElem_mem _
   ·rw [if_neg k18]
    exact⟨[],by rw[e];simp,fun x hx=>by cases hx⟩
mutual
theorem I6{ns:List Int}:∀(t:Tr) (g g':Nat),Rt g t g'->jl ns.length t->∀A:List Int,∃B:List Int,cO (aZ ns t) ((g:Int),A)=.ok ((g':Int),A++B)/\∀x∈B,x∈ns
 | .mk k n a b c f S ks,g,g',h,ha,A=>by
  cases h with
  |mk _ g1 _ _ h1 h2 h3=>
   obtain⟨B,hB,hB2⟩:=H9 h1 h2 ha A
   obtain⟨C,hC,hC2⟩:=I5 ks g1 g' h3 ha.kids (A++B)
   refine⟨B++C,?_,fun x hx=>?_⟩
   ·rw [TR.eT,hB]
    show TR.cG _ _=_
    rw[ye, <-List.append_assoc]
    exact hC
   ·rcases List.mem_append.1 hx with h|h
    ·exact hB2 x h
    ·exact hC2 x h
theorem I5{ns:List Int}:∀(ts:List Tr) (g g':Nat),oS g ts g'->(∀t∈ts,jl ns.length t)->∀A:List Int,∃B:List Int,TR.cG (ts.map (aZ ns)) ((g:Int),A)=.ok ((g':Int),A++B)/\∀x∈B,x∈ns
 |[],g,g',h,ha,A=>by
  cases h
  exact⟨[],by simp[TR.cG],fun x hx=>by cases hx⟩
 |t::ts,g,g',h,ha,A=>by
  cases h with
  |cons _ g1 _ _ _ h1 h2=>
   obtain⟨B,hB,hB2⟩:=I6 t g g1 h1 (ha t (by simp)) A
   obtain⟨C,hC,hC2⟩:=I5 ts g1 g' h2 (fun u hu=>ha u (by simp[hu])) (A++B)
   refine⟨B++C,?_,fun x hx=>?_⟩
   ·rw [List.map_cons]
    unfold TR.cG
    rw[hB]
    show TR.cG _ _=_
    rw[<- List.append_assoc]
    exact hC
   ·rcases List.mem_append.1 hx with h|h
    ·exact hB2 x h
    ·exact hC2 x h
end
theorem yk:∀(k:Nat) (l:List Int) (f:Bool) (i:Nat) (h:i<(TK.takeN k l f).length),TK.eA (TK.takeN k l f)[i] (decide (i=0)&&f)=true
 |0,l,f,i,h=>by simp[TK.takeN]at h
 |k+1,[],f,i,h=>by simp[TK.takeN]at h
 |k+1,p::t,f,i,h=>by
  by_cases hp:TK.eA p f=true
  ·have e:TK.takeN (k+1) (p::t) f=p::TK.takeN k t false:=by show(if TK.eA p f=true then p::TK.takeN k t false else [])=_;rw[if_pos hp]
   simp only[e]at h |-
   cases i with
   |zero=>simpa using hp
   |succ i=>
    have:=yk k t false i (by simpa using h)
    simpa using this
  ·have e:TK.takeN (k+1) (p::t) f=[]:=by show(if TK.eA p f=true then p::TK.takeN k t false else [])=_;rw[if_neg hp]
   rw[e]at h
   simp at h
theorem pk:∀(k:Nat) (l:List Int) (f:Bool),(TK.takeN k l f).length<=k
 |0,l,f=>by simp[TK.takeN]
 |k+1,[],f=>by simp[TK.takeN]
 |k+1,p::t,f=>by
  unfold TK.takeN
  split
  ·rw [List.length_cons]
   have:=pk k t false
   omega
  ·simp
theorem JH{p:Int}{f:Bool}(h:TK.eA p f=true):oF p f=true/\0<=p/\p<=255:=by
 unfold TK.eA TK.si TK.dM at h
 unfold oF zE
 simp only[Bool.or_eq_true,Bool.and_eq_true,decide_eq_true_eq,beq_iff_eq,Bool.not_eq_true']at h |-
 rcases h with(h|h)|⟨h,h2⟩
 ·omega
 ·omega
 ·split at h2
  ·exact⟨.inr ⟨⟨h,by omega⟩,by omega⟩,by omega⟩
  ·split at h2
   ·omega
   ·split at h2<;>omega
theorem E3{t:ByteArray}(h:p9 t):sj t=true:=by
 obtain⟨l,i,rfl,hne,hp⟩:=h
 obtain⟨L,hL⟩:=J (TK.bQ l i)
 have h20:L.length<=20:=by rw[hL];exact pk _ _ _
 have hok:∀j (h:j<L.length),TK.eA L[j] (decide (j=0))=true:=by
  subst hL
  intro j h
  have:=yk 20 (l.drop i) true j h
  show TK.eA (TK.takeN 20 (l.drop i) true)[j] _=true
  simpa using this
 rw[<- hL]at hne |-
 have hsz:(TK.bI L).size=L.length:=by simp[TK.bI,ByteArray.size]
 have h0:0<L.length:=List.length_pos_iff.2 hne
 refine uN (by omega) (by omega) fun j hj=>?_
 rw[hsz]at hj
 obtain⟨h1,h2,h3⟩:=JH (hok j hj)
 have hb:bt (TK.bI L) j=L[j]:=by
  unfold bt
  rw[dif_pos (by omega)]
  have:(TK.bI L)[j]'(by omega)=UInt8.ofNat (L[j]).toNat:=by
   show((L.map fun p=>UInt8.ofNat p.toNat).toArray)[j]'(by simpa using hj)=_
   simp
  rw[this]
  rw[UInt8.toNat_ofNat']
  omega
 rw[hb]
 exact h1
theorem CL(h:kJ s):kr s.names 0:=by
 refine .inr (.inr (.inr ⟨rfl,fun i hi=>?_,fun i hi k hk hw=>?_,fun i h1 hi=>?_⟩))
 ·rw [jr hi]
  exact E3 (h.one _ (List.getElem_mem hi)).1
 ·have h2:=List.pairwise_iff_getElem.1 h.two k i (by omega) hi hk
  unfold tX at hw
  rw[jr (by omega:k<s.names.length),jr hi,iS (by omega:k<s.names.length),iS hi]at hw
  rcases hw with hw|hw
  ·exact h2.1 (by rw[hw])
  ·omega
 ·have h2:=List.pairwise_iff_getElem.1 h.two (i - 1) i (by omega) hi (by omega)
  rw[iS (by omega:i - 1<s.names.length),iS hi]
  exact h2.2
theorem rl{g:Int}:∀{L:List Int},(∀x∈L,1<=x/\x<=g)->cr g L=0
 |[],h=>rfl
 |a::L,h=>by
  unfold cr
  rw[if_pos (by unfold TR.fG;rw[if_pos (h a (by simp))])]
  exact rl fun x hx=>h x (by simp[hx])
theorem xn{names:List Nm}{gr:Nat}:∀(A:List Ag) (ns:List Int),dd names gr A=.ok ns->∀x∈ns,1<=x/\x<=(gr:Int)
 |[],ns,h=>by cases h;intro x hx;cases hx
 |a::A,ns,h=>by
  unfold dd at h
  simp only at h
  generalize (if a.name.toList=[]then a.num else(match names.find? (fun m=>m.1.toList==a.name.toList)with|some m=>m.2|none=>0))=n at h
  split at h
  ·cases h
  ·split at h
   ·cases h
   ·rename_i ns' heq
    cases h
    intro x hx
    rcases List.mem_cons.1 hx with h1|h1
    ·subst h1;omega
    ·exact xn A ns' heq x h1
theorem zC:kA l {}:=⟨Nat.zero_le _,ai _,ai _,Nat.zero_le _,Nat.zero_le _⟩
theorem J2{fo:Bool}{p:Pt}(h:iW dX d fo l=.ok p):jo p.tree (p.ay:Nat) p.names 0:=by
 unfold iW at h
 split at h
 ·cases h
 ·rename_i hpe
  have hpe:TK.bK d l=0:=by omega
  unfold dZ at h
  split at h
  ·cases h
  ·rename_i s0 heq0
   obtain⟨i0,_,_,d0,g0,n0,a0⟩:=cW hpe zC heq0
   split at h
   ·cases h
   ·rename_i t s heq
    obtain⟨hR,hN⟩:=nj hpe 21 0 fo s0 t s i0 d0 heq
    have hA:=jS hpe 21 0 fo s0 t s i0 d0 heq
    have hI:=(dD hpe 21 0 fo s0 t s i0 d0 heq).inv.inv
    split at h
    ·cases h
    ·split at h
     ·cases h
     ·rename_i ns hns
      split at h
      ·cases h
      ·rename_i hbig
       cases h
       have hbig:TR.fZ (aZ ns t)<1001:=by unfold dX at hbig;simpa using hbig
       have hlen:=rk _ _ hns
       obtain⟨B,hB,hB2⟩:=I6 (ns:=ns) t s0.ay s.ay hR (by rw[hlen];exact hA.2) []
       have hg0:s0.ay=0:=g0
       rw[hg0]at hB
       have hNs:kJ s:=hN ⟨by rw[n0];exact(fun n hn=>by cases hn),by rw[n0];exact List.Pairwise.nil⟩
       have hnum:∀x∈B,1<=x/\x<=(s.ay:Int):=fun x hx=>xn _ _ hns x (hB2 x hx)
       have hT:dE (aZ ns t) (s.ay:Nat)=0:=by
        unfold dE
        have hB':cO (aZ ns t) (0,[])=.ok ((s.ay:Int),B):=by simpa using hB
        rw[hB']
        have hgr:=hI.mL
        have hc:cP ((s.ay:Int),B) ((s.ay:Nat):Int)=0:=by
         unfold cP
         rw[if_neg (by show ¬20<(s.ay:Int);omega),if_pos rfl]
        simp only[hc]
        rw[if_neg (by simp)]
        exact rl hnum
       refine Or.inr ⟨hbig,Or.inr (Or.inr ⟨hT,rl fun x hx=>?_,CL hNs⟩)⟩
       obtain⟨n,hn,rfl⟩:=List.mem_map.1 hx
       exact(hNs.one n hn).2
end Go.Proofs.YtklbbbldalmnbaaGreatDoor.Pa
namespace Go.Proofs.YtklbbbldalmnbaaGreatDoor.Br
variable {P : Ku} {l : List Int} {i : Nat} {z a : Int}
def sJ(l:List Int)(a:Int):Prop:=0<=a/\a<=(l.length:Int)
theorem ie:sJ l 0:=⟨Int.le_refl _,by omega⟩
theorem ku(h:i<=l.length):sJ l (i:Int):=⟨by omega,by omega⟩
theorem Fg{f:PS}(h:lq P f=.error (z,a)):sJ l a:=by
 unfold lq at h
 split at h
 ·cases h;exact ie
 ·cases h
theorem Hy{f g:PS}(h:kz P f g=.error (z,a)):sJ l a:=by
 unfold kz at h
 split at h
 ·cases h;exact ie
 ·cases h
theorem Hd{f:PS}(h:kY P f=.error (z,a)):sJ l a:=by
 unfold kY at h
 split at h
 ·cases h;exact ie
 ·cases h
theorem Bs(hi:i<=l.length)(h:dN P l i=.error (z,a)):sJ l a:=by
 unfold dN at h
 split at h
 ·cases h;exact ku hi
 ·split at h
  ·split at h
   ·cases h;exact ku hi
   ·cases h
  ·cases h
theorem vV{t:ByteArray}{no:Bool}{b:Int}(hb:sJ l b)(h:fg P t no b=.error (z,a)):sJ l a:=by
 unfold fg at h
 split at h
 ·cases h;exact hb
 ·split at h
  ·exact Fg h
  ·cases h
theorem wS(l:List Int)(j:Nat)(hj:j<=l.length):j+(aL l j).length<=l.length:=by
 unfold aL
 have:=(List.takeWhile_prefix (l:=l.drop j) (fun c:Int=>decide (97<=c)&&decide (c<=122))).length_le
 rw[List.length_drop]at this
 omega
theorem E4(hc:cz l i=true)(h:dP P l i=.error (z,a)):sJ l a:=by
 have hi:=ez (show ba l i [91,58]=true from hc) (by simp)
 simp only[List.length_cons,List.length_nil]at hi
 unfold dP at h
 simp only at h
 have hj:(if (P.oN&&ba l (i+2) [94])=true then i+3 else i+2)<=l.length:=by
  split
  ·rename_i hb
   rw[Bool.and_eq_true]at hb
   have:=ez hb.2 (by simp)
   simp only[List.length_cons,List.length_nil]at this
   omega
  ·omega
 generalize (if (P.oN&&ba l (i+2) [94])=true then i+3 else i+2)=j at h hj
 split at h
 ·cases h
  exact ku (wS l j hj)
 ·split at h
  ·rename_i e heq
   cases h
   exact vV (ku (by omega)) heq
  ·cases h
theorem Jw{c:Int}(hi:i<=l.length)(h:gW P l i c=.error (z,a)):sJ l a:=by
 unfold gW at h
 split at h
 ·cases h;exact ku hi
 ·split at h
  ·rename_i heq
   cases h;exact Bs hi heq
  ·cases h;exact ku hi
  ·split at h
   ·cases h;exact ku hi
   ·cases h
def Bz(rec:List Int->Nat->Nat->Except BE (PS×Nat)):Prop:=∀l i deep z a,i<=l.length->rec l i deep=.error (z,a)->sJ l a
theorem Ho(hP:yG P){rec:List Int->Nat->Nat->Except BE (PS×Nat)}(hx:Bz rec){deep:Nat}(hi:i<=l.length)(h:fa P rec l i deep=.error (z,a)):sJ l a:=by
 unfold fa at h
 split at h
 ·rename_i hc
  exact E4 hc h
 ·split at h
  ·rename_i hin
   split at h
   ·cases h;exact ku hi
   ·have h1:ba l i [91]=true:=by unfold sf at hin;simp at hin;exact hin.1.2
    have:=ez h1 (by simp)
    exact hx _ _ _ _ _ (by simpa using this) h
  ·split at h
   ·rename_i heq
    cases h;exact Bs hi heq
   ·split at h
    ·rename_i heq
     cases h;exact vV (ku hi) heq
    ·cases h
   ·rename_i p k' heq
    have h1:=od hP heq
    split at h
    ·rename_i hr
     split at h
     ·rename_i he
      cases h
      have h45:ba l k' [45]=true:=by unfold mn at hr;simp at hr;exact hr.1
      have:=ez h45 (by simp)
      exact Jw (by simpa using this) he
     ·cases h
    ·cases h
theorem wO(hP:yG P){rec:List Int->Nat->Nat->Except BE (PS×Nat)}(hr:rZ rec)(hx:Bz rec){first deep:Nat}:∀(n i:Nat) (acc:PS),i<=l.length->eD P rec l first deep n i acc=.error (z,a)->sJ l a
 |0,i,acc,hi,h=>by cases h
 |n+1,i,acc,hi,h=>by
  unfold eD at h
  split at h
  ·cases h
  ·split at h
   ·rename_i heq
    cases h;exact Ho hP hx hi heq
   ·rename_i f' k' heq
    exact wO hP hr hx n k' _ (wN hP hr heq).2 h
theorem Bb(hP:yG P){rec:List Int->Nat->Nat->Except BE (PS×Nat)}(hr:rZ rec)(hx:Bz rec){first deep:Nat}(hi:i<=l.length)(h:eN P rec l first deep i=.error (z,a)):sJ l a:=by
 unfold eN at h
 split at h
 ·rename_i heq
  cases h;exact wO hP hr hx _ _ _ hi heq
 ·rename_i f' k' heq
  have h1:=oC hP hr _ _ _ _ _ hi heq
  split at h
  ·cases h;exact ku h1.2
  ·split at h
   ·split at h
    ·rename_i hf
     cases h;exact Hd hf
    ·cases h
   ·cases h
theorem AB(hP:yG P){rec:List Int->Nat->Nat->Except BE (PS×Nat)}(hr:rZ rec)(hx:Bz rec){first deep:Nat}:∀(n i:Nat) (acc:PS),i<=l.length->fi P rec l first deep n i acc=.error (z,a)->sJ l a
 |0,i,acc,hi,h=>by cases h
 |n+1,i,acc,hi,h=>by
  unfold fi at h
  split at h
  ·rename_i han
   have h0:ba l i [38,38]=true:=by unfold ky at han;simp at han;exact han.2
   have h3:=ez h0 (by simp)
   simp only[List.length_cons,List.length_nil]at h3
   split at h
   ·rename_i heq
    cases h;exact Bb hP hr hx h3 heq
   ·rename_i f' k' heq
    have h1:=iV hP hr h3 heq
    split at h
    ·rename_i hm
     cases h;exact Hy hm
    ·exact AB hP hr hx n k' _ h1.2 h
  ·cases h
theorem AI(hP:yG P){rec:List Int->Nat->Nat->Except BE (PS×Nat)}(hr:rZ rec)(hx:Bz rec){deep:Nat}(hi:i<=l.length)(h:fJ P rec l i deep=.error (z,a)):sJ l a:=by
 unfold fJ at h
 split at h
 ·rename_i heq
  cases h;exact Bb hP hr hx hi heq
 ·rename_i f' k' heq
  have h1:=iV hP hr hi heq
  split at h
  ·rename_i heq2
   cases h;exact AB hP hr hx _ _ _ h1.2 heq2
  ·cases h
theorem uv(hP:yG P):∀n,Bz (eZ P n)
 |0=>fun l i deep z a hi h=>by cases h;exact ie
 |n+1=>fun l i deep z a hi h=>by
  unfold eZ iR at h
  split at h
  ·rename_i h94
   have h3:=ez h94 (by simp)
   simp only[List.length_cons,List.length_nil]at h3
   split at h
   ·rename_i heq
    cases h;exact AI hP (kW hP n) (uv hP n) h3 heq
   ·split at h
    ·rename_i hn
     cases h;exact Fg hn
    ·cases h
  ·exact AI hP (kW hP n) (uv hP n) hi h
theorem FF{d:Int}{fo:Bool}(hi:i<=l.length)(h:cS d fo l (i:Int)=.error (z,a)):sJ l a:=by
 unfold cS at h
 split at h
 ·cases h;exact ie
 ·split at h
  ·cases h;exact ie
  ·unfold gN at h
   split at h
   ·rename_i heq
    cases h;exact uv (FE d fo) 21 _ _ _ _ _ (by simpa using hi) heq
   ·split at h
    ·cases h;exact ie
    ·cases h
theorem Im{d:Int}{fo:Bool}{b:Int}(h:cS d fo l b=.error (z,a)):z≠0:=by
 unfold cS at h
 split at h
 ·rename_i hp
  cases h;exact hp
 ·split at h
  ·cases h;decide
  ·exact xT h
end Go.Proofs.YtklbbbldalmnbaaGreatDoor.Br
namespace Go.Proofs.YtklbbbldalmnbaaGreatDoor.Pa
open TR (Tr)
open Br (BE PS sJ ie ku)
variable {l : List Int} {d z a : Int} {s s' : St}
def yB(l:List Int)(z a:Int):Prop:=z≠0/\sJ l a
theorem kV{i:Nat}(hz:z≠0)(h:i<=l.length):yB l z (i:Int):=⟨hz,ku h⟩
theorem uu(hz:z≠0):yB l z 0:=⟨hz,ie⟩
def pY(l:List Int)(s:St):Prop:=∀x∈s.aE,x.pos<=l.length
theorem oh(hn:s.next<=l.length)(h:dF d l s=.error (z,a)):yB l z a:=by
 unfold dF at h
 split at h
 ·cases h
 ·split at h
  ·rename_i heq
   cases h;exact kV (by have:=TK.nG heq;unfold TK.oX at this;omega) hn
  ·cases h
theorem pY.same(h:pY l s)(h1:s'.aE=s.aE):pY l s':=by unfold pY;rw[h1];exact h
theorem D3{t:ByteArray}(hp:s.pos<=l.length)(h:cX s t=.error (z,a)):yB l z a:=by
 unfold cX at h
 split at h
 ·cases h;exact kV (by decide) hp
 ·split at h
  ·cases h
  ·split at h
   ·cases h;exact kV (by decide) hp
   ·cases h
theorem J9(h:dc l s)(hr:ki d l s=.error (z,a)):yB l z a:=by
 unfold ki at hr
 split at hr
 ·cases hr
 ·split at hr
  ·cases hr
  ·split at hr
   ·split at hr
    ·rename_i z' a' heq
     cases hr
     have:=Br.FF h.inv.next heq
     have h2:=h.inv.pos
     refine⟨Br.Im heq,?_⟩
     unfold sJ at this |-
     omega
    ·cases hr
   ·cases hr
theorem Ds(h:dc l s)(hr:ct d l s=.error (z,a)):yB l z a:=by
 unfold ct at hr
 split at hr
 ·cases hr
 ·split at hr
  ·unfold fe at hr
   simp only at hr
   generalize (if s.tok.num<0 then s.tok.num+((s.ay+1:Nat):Int)else s.tok.num)=n at hr
   split at hr
   ·cases hr;exact kV (by decide) h.inv.pos
   ·cases hr
  ·split at hr
   ·cases hr
   ·split at hr
    ·rename_i heq
     cases hr;exact J9 h heq
    ·cases hr
theorem Ak{t:Tr}(h:dc l s)(hr:ct d l s=.ok (t,s'))(hg:pY l s):pY l s':=by
 unfold ct at hr
 split at hr
 ·cases hr;exact hg
 ·split at hr
  ·unfold fe at hr
   simp only at hr
   generalize (if s.tok.num<0 then s.tok.num+((s.ay+1:Nat):Int)else s.tok.num)=n at hr
   split at hr
   ·cases hr
   ·cases hr
    intro x hx
    rcases List.mem_append.1 hx with h1|h1
    ·exact hg x h1
    ·rw [List.mem_singleton]at h1
     subst h1
     exact h.inv.pos
  ·split at hr
   ·cases hr;exact hg
   ·split at hr
    ·cases hr
    ·cases hr;exact hg
structure l9(l:List Int)(dp:Nat)(rec:Rd):Prop where
 err:∀fo s z a,dc l s->s.deep=dp->rec fo s=.error (z,a)->yB l z a
 iK:∀fo s t s',dc l s->s.deep=dp->rec fo s=.ok (t,s')->pY l s->pY l s'
theorem A5(hpe:TK.bK d l=0){rec:Rd}(hrg:dL l (s.deep+1) rec)(hre:l9 l (s.deep+1) rec)(h:dc l s)(hp:s.pos<l.length):(∀z a,bW d l rec s=.error (z,a)->yB l z a)/\(∀t s',bW d l rec s=.ok (t,s')->pY l s->pY l s'):=by
 unfold bW
 have h20':=h.inv.deep
 constructor
 ·intro z a hr
  split at hr
  ·cases hr;exact kV (by decide) h.inv.pos
  ·rename_i h20
   split at hr
   ·rename_i e heq1
    cases hr
    split at heq1
    ·exact D3 h.inv.pos heq1
    ·cases heq1
   ·rename_i s1 heq1
    have hs1:kA l s1/\s1.deep=s.deep:=by
     split at heq1
     ·obtain ⟨a,b,c,e,_⟩:=iA h.oP heq1
      exact⟨a,e⟩
     ·cases heq1;exact⟨h.oP,rfl⟩
    split at hr
    ·rename_i heq2
     cases hr;exact oh hs1.1.next heq2
    ·rename_i s2 heq2
     obtain⟨i2,p2,_,d2,g2,n2,a2⟩:=cW hpe hs1.1 heq2
     have i2':dc l { s2 with deep:=s2.deep+1 }:=⟨⟨i2.inv.pos,i2.inv.next,i2.inv.on,i2.inv.off,i2.inv.iK,i2.inv.jt,i2.inv.mL,by show s2.deep+1<=20;omega⟩,i2.pn⟩
     have hd2:({ s2 with deep:=s2.deep+1 }:St).deep=s.deep+1:=by show s2.deep+1=_;omega
     split at hr
     ·rename_i heq3
      cases hr;exact hre.err _ _ _ _ i2' hd2 heq3
     ·rename_i t3 s3 heq3
      have hg:=hrg _ _ _ _ i2' hd2 heq3
      split at hr
      ·cases hr;exact kV (by decide) hg.inv.inv.pos
      ·split at hr
       ·rename_i heq4
        cases hr;exact oh (s:={ s3 with deep:=s3.deep - 1 }) hg.inv.inv.next heq4
       ·split at hr<;>cases hr
 ·intro t s' hr hag
  split at hr
  ·cases hr
  ·rename_i h20
   split at hr
   ·cases hr
   ·rename_i s1 heq1
    have hs1:kA l s1/\s1.deep=s.deep/\s1.aE=s.aE:=by
     split at heq1
     ·obtain ⟨a,b,c,e,_⟩:=iA h.oP heq1
      exact⟨a,e,vH heq1⟩
     ·cases heq1;exact⟨h.oP,rfl,rfl⟩
    split at hr
    ·cases hr
    ·rename_i s2 heq2
     obtain⟨i2,p2,_,d2,g2,n2,a2⟩:=cW hpe hs1.1 heq2
     have i2':dc l { s2 with deep:=s2.deep+1 }:=⟨⟨i2.inv.pos,i2.inv.next,i2.inv.on,i2.inv.off,i2.inv.iK,i2.inv.jt,i2.inv.mL,by show s2.deep+1<=20;omega⟩,i2.pn⟩
     have hd2:({ s2 with deep:=s2.deep+1 }:St).deep=s.deep+1:=by show s2.deep+1=_;omega
     split at hr
     ·cases hr
     ·rename_i t3 s3 heq3
      have h3:=hre.iK _ _ _ _ i2' hd2 heq3 (hag.same (a2.trans hs1.2.2))
      split at hr
      ·cases hr
      ·split at hr
       ·cases hr
       ·rename_i s4 heq4
        have h4:s4.aE=s3.aE:=og (s:={ s3 with deep:=s3.deep - 1 }) heq4
        split at hr
        ·cases hr;exact h3.same h4
        ·cases hr;exact h3.same h4
theorem AD(hpe:TK.bK d l=0){rec:Rd}(hrg:dL l (s.deep+1) rec)(hre:l9 l (s.deep+1) rec)(h:dc l s)(hp:s.pos<l.length):(∀z a,dm d l rec s=.error (z,a)->yB l z a)/\(∀t s',dm d l rec s=.ok (t,s')->pY l s->pY l s'):=by
 unfold dm
 constructor
 ·intro z a hr
  split at hr
  ·cases hr;exact kV (by decide) h.inv.pos
  ·split at hr
   ·exact(A5 hpe hrg hre h hp).1 z a hr
   ·split at hr
    ·rename_i heq
     cases hr;exact Ds h heq
    ·rename_i t1 s1 heq
     split at hr
     ·rename_i heq2
      cases hr;exact oh (mX hpe h hp heq).1.next heq2
     ·cases hr
 ·intro t s' hr hag
  split at hr
  ·cases hr
  ·split at hr
   ·exact(A5 hpe hrg hre h hp).2 t s' hr hag
   ·split at hr
    ·cases hr
    ·rename_i t1 s1 heq
     split at hr
     ·cases hr
     ·rename_i s2 heq2
      cases hr
      exact(Ak h heq hag).same (og heq2)
theorem pR(hpe:TK.bK d l=0){may:Bool}:∀(n ahead:Nat) (t:Tr) (s:St),dc l s->(∀z a,fs d l may n ahead t s=.error (z,a)->yB l z a)/\(∀t' s',fs d l may n ahead t s=.ok (t',s')->pY l s->pY l s')
 |0,ahead,t,s,hi=>⟨fun z a hr=>(by cases hr),fun t' s' hr hag=>(by cases hr;exact hag)⟩
 |n+1,ahead,t,s,hi=>by
  unfold fs
  constructor
  ·intro z a hr
   split at hr
   ·split at hr
    ·cases hr;exact kV (by decide) hi.inv.pos
    ·split at hr
     ·cases hr;exact kV (by decide) hi.inv.pos
     ·split at hr
      ·rename_i heq
       cases hr;exact oh hi.inv.next heq
      ·rename_i s1 heq
       exact(pR hpe n (ahead+1) _ s1 (cW hpe hi.oP heq).1).1 z a hr
   ·cases hr
  ·intro t' s' hr hag
   split at hr
   ·split at hr
    ·cases hr
    ·split at hr
     ·cases hr
     ·split at hr
      ·cases hr
      ·rename_i s1 heq
       exact(pR hpe n (ahead+1) _ s1 (cW hpe hi.oP heq).1).2 t' s' hr (hag.same (og heq))
   ·cases hr;exact hag
theorem xC(hpe:TK.bK d l=0){rec:Rd}(hrg:dL l (s.deep+1) rec)(hre:l9 l (s.deep+1) rec)(h:dc l s)(hp:s.pos<l.length):(∀z a,cJ d l rec s=.error (z,a)->yB l z a)/\(∀t s',cJ d l rec s=.ok (t,s')->pY l s->pY l s'):=by
 unfold cJ
 constructor
 ·intro z a hr
  split at hr
  ·rename_i heq
   cases hr;exact(AD hpe hrg hre h hp).1 _ _ heq
  ·rename_i t1 s1 heq
   exact(pR hpe _ _ _ _ (kL hpe hrg h hp heq).1.inv).1 z a hr
 ·intro t s' hr hag
  split at hr
  ·cases hr
  ·rename_i t1 s1 heq
   exact(pR hpe _ _ _ _ (kL hpe hrg h hp heq).1.inv).2 t s' hr ((AD hpe hrg hre h hp).2 _ _ heq hag)
theorem lU(hpe:TK.bK d l=0){rec:Rd}{dp:Nat}(hrg:dL l (dp+1) rec)(hre:l9 l (dp+1) rec):∀(n:Nat) (ps:List Tr) (s:St),dc l s->s.deep=dp->(∀z a,cQ d l rec n ps s=.error (z,a)->yB l z a)/\(∀ps' s',cQ d l rec n ps s=.ok (ps',s')->pY l s->pY l s')
 |0,ps,s,hi,hd=>⟨fun z a hr=>(by cases hr),fun ps' s' hr hag=>(by cases hr;exact hag)⟩
 |n+1,ps,s,hi,hd=>by
  unfold cQ
  have hrg':dL l (s.deep+1) rec:=by rw[hd];exact hrg
  have hre':l9 l (s.deep+1) rec:=by rw[hd];exact hre
  constructor
  ·intro z a hr
   split at hr
   ·cases hr
   ·rename_i hend
    have hp:s.pos<l.length:=by
     have h1:=hi.inv.pos
     have h2:s.pos≠l.length:=fun e=>hend (by unfold jZ;simp[e])
     omega
    split at hr
    ·rename_i heq
     cases hr;exact(xC hpe hrg' hre' hi hp).1 _ _ heq
    ·rename_i t s1 heq
     obtain⟨b,_⟩:=iH hpe hrg' hi hp heq
     exact(lU hpe hrg hre n _ s1 b.inv (b.deep.trans hd)).1 z a hr
  ·intro ps' s' hr hag
   split at hr
   ·cases hr;exact hag
   ·rename_i hend
    have hp:s.pos<l.length:=by
     have h1:=hi.inv.pos
     have h2:s.pos≠l.length:=fun e=>hend (by unfold jZ;simp[e])
     omega
    split at hr
    ·cases hr
    ·rename_i t s1 heq
     obtain⟨b,_⟩:=iH hpe hrg' hi hp heq
     exact(lU hpe hrg hre n _ s1 b.inv (b.deep.trans hd)).2 ps' s' hr ((xC hpe hrg' hre' hi hp).2 _ _ heq hag)
theorem lI(hpe:TK.bK d l=0){rec:Rd}(hrg:dL l (s.deep+1) rec)(hre:l9 l (s.deep+1) rec)(h:dc l s):(∀z a,bS d l rec s=.error (z,a)->yB l z a)/\(∀t s',bS d l rec s=.ok (t,s')->pY l s->pY l s'):=by
 unfold bS
 constructor
 ·intro z a hr
  split at hr
  ·rename_i heq
   cases hr;exact(lU hpe hrg hre _ _ _ h rfl).1 _ _ heq
  ·cases hr
 ·intro t s' hr hag
  split at hr
  ·cases hr
  ·rename_i heq
   cases hr;exact(lU hpe hrg hre _ _ _ h rfl).2 _ _ heq hag
theorem pE(hpe:TK.bK d l=0){rec:Rd}{dp:Nat}(hrg:dL l (dp+1) rec)(hre:l9 l (dp+1) rec):∀(n:Nat) (bs:List Tr) (s:St),dc l s->s.deep=dp->(∀z a,cT d l rec n bs s=.error (z,a)->yB l z a)/\(∀bs' s',cT d l rec n bs s=.ok (bs',s')->pY l s->pY l s')
 |0,bs,s,hi,hd=>⟨fun z a hr=>(by cases hr),fun bs' s' hr hag=>(by cases hr;exact hag)⟩
 |n+1,bs,s,hi,hd=>by
  unfold cT
  constructor
  ·intro z a hr
   split at hr
   ·split at hr
    ·rename_i heq
     cases hr;exact oh hi.inv.next heq
    ·rename_i s1 heq1
     obtain⟨i2,p2,_,d2,_,_,a2⟩:=cW hpe hi.oP heq1
     have hd1:s1.deep=dp:=d2.trans hd
     have hrg':dL l (s1.deep+1) rec:=by rw[hd1];exact hrg
     have hre':l9 l (s1.deep+1) rec:=by rw[hd1];exact hre
     split at hr
     ·rename_i heq2
      cases hr;exact(lI hpe hrg' hre' i2).1 _ _ heq2
     ·rename_i t s2 heq2
      have hg:=dx hpe hrg' i2 heq2
      exact(pE hpe hrg hre n _ s2 hg.inv (hg.deep.trans hd1)).1 z a hr
   ·cases hr
  ·intro bs' s' hr hag
   split at hr
   ·split at hr
    ·cases hr
    ·rename_i s1 heq1
     obtain⟨i2,p2,_,d2,_,_,a2⟩:=cW hpe hi.oP heq1
     have hd1:s1.deep=dp:=d2.trans hd
     have hrg':dL l (s1.deep+1) rec:=by rw[hd1];exact hrg
     have hre':l9 l (s1.deep+1) rec:=by rw[hd1];exact hre
     split at hr
     ·cases hr
     ·rename_i t s2 heq2
      have hg:=dx hpe hrg' i2 heq2
      exact(pE hpe hrg hre n _ s2 hg.inv (hg.deep.trans hd1)).2 bs' s' hr ((lI hpe hrg' hre' i2).2 _ _ heq2 (hag.same a2))
   ·cases hr;exact hag
theorem ub(hpe:TK.bK d l=0){rec:Rd}{dp:Nat}(hrg:dL l (dp+1) rec)(hre:l9 l (dp+1) rec):l9 l dp (bH d l rec):=by
 constructor
 ·intro fo s z a h hd hr
  unfold bH at hr
  have hrg':dL l (({ s with aD:=fo }:St).deep+1) rec:=by show dL l (s.deep+1) rec;rw[hd];exact hrg
  have hre':l9 l (({ s with aD:=fo }:St).deep+1) rec:=by show l9 l (s.deep+1) rec;rw[hd];exact hre
  split at hr
  ·rename_i heq
   cases hr;exact(lI hpe hrg' hre' (dH h fo)).1 _ _ heq
  ·rename_i t1 s1 heq1
   have h1:=dx hpe hrg' (dH h fo) heq1
   split at hr
   ·rename_i heq2
    cases hr;exact(pE hpe hrg hre _ _ _ h1.inv (h1.deep.trans hd)).1 _ _ heq2
   ·cases hr
 ·intro fo s t s' h hd hr hag
  unfold bH at hr
  have hrg':dL l (({ s with aD:=fo }:St).deep+1) rec:=by show dL l (s.deep+1) rec;rw[hd];exact hrg
  have hre':l9 l (({ s with aD:=fo }:St).deep+1) rec:=by show l9 l (s.deep+1) rec;rw[hd];exact hre
  split at hr
  ·cases hr
  ·rename_i t1 s1 heq1
   have h1:=dx hpe hrg' (dH h fo) heq1
   have g1:=(lI hpe hrg' hre' (dH h fo)).2 _ _ heq1 (hag.same rfl)
   split at hr
   ·cases hr
   ·rename_i bs s2 heq2
    cases hr
    exact((pE hpe hrg hre _ _ _ h1.inv (h1.deep.trans hd)).2 _ _ heq2 g1).same rfl
theorem jT(hpe:TK.bK d l=0):∀(n dp:Nat),l9 l dp (bk d l n)
 |0,dp=>⟨fun fo s z a _ _ hr=>(by cases hr;exact uu (by decide)),fun fo s t s' _ _ hr _=>(by cases hr)⟩
 |n+1,dp=>ub hpe (dD hpe n (dp+1)) (jT hpe n (dp+1))
theorem xm{names:List Nm}{gr:Nat}:∀(A:List Ag),(∀x∈A,x.pos<=l.length)->dd names gr A=.error (z,a)->yB l z a
 |[],hA,h=>by cases h
 |x::A,hA,h=>by
  unfold dd at h
  simp only at h
  generalize (if x.name.toList=[]then x.num else(match names.find? (fun m=>m.1.toList==x.name.toList)with|some m=>m.2|none=>0))=n at h
  split at h
  ·cases h;exact kV (by decide) (hA x (by simp))
  ·split at h
   ·rename_i heq
    cases h;exact xm A (fun y hy=>hA y (by simp[hy])) heq
   ·cases h
theorem J1{big:Tr->Bool}{fo:Bool}(h:iW big d fo l=.error (z,a)):yB l z a:=by
 unfold iW at h
 split at h
 ·rename_i hp
  cases h;exact uu hp
 ·rename_i hpe
  have hpe:TK.bK d l=0:=by omega
  have i0:kA l {}:=⟨Nat.zero_le _,ai _,ai _,Nat.zero_le _,Nat.zero_le _⟩
  unfold dZ at h
  split at h
  ·rename_i heq
   cases h;exact oh i0.next heq
  ·rename_i s0 heq0
   obtain⟨i1,_,_,d0,g0,n0,a0⟩:=cW hpe i0 heq0
   split at h
   ·rename_i heq
    cases h;exact(jT hpe 21 0).err _ _ _ _ i1 d0 heq
   ·rename_i t s heq
    have hg:=(jT hpe 21 0).iK _ _ _ _ i1 d0 heq (by unfold pY;rw[a0];exact fun x hx=>by cases hx)
    split at h
    ·cases h;exact kV (by decide) (dD hpe 21 0 _ _ _ _ i1 d0 heq).inv.inv.pos
    ·split at h
     ·rename_i heq2
      cases h;exact xm _ hg heq2
     ·split at h
      ·cases h;exact uu (by decide)
      ·cases h
end Go.Proofs.YtklbbbldalmnbaaGreatDoor.Pa
