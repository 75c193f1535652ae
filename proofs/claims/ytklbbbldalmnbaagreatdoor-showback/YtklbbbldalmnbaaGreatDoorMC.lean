import Derived.Test.YtklbbbldalmnbaaGreatDoorKL
import Derived.Test.YtklbbbldalmnbaaGreatDoorKV
import Derived.Test.YtklbbbldalmnbaaGreatDoorMB
import Derived.Test.YtklbbbldalmnbaaGreatDoorKQ
import Derived.Maps.AppendAt
import Derived.Test.YtklbbbldalmnbaaGreatDoorZo
import Derived.Test.YtklbbbldalmnbaaGreatDoorProg
import Derived.WalkKit
import Derived.WalkLawsBesides
import Derived.Handy
import Derived.Below
import Derived.OneCell
import Derived.Deep.Cut
import Derived.PlainAid
import Derived.BigQuiet
import Derived.Deep.QuietTactic
set_option linter.unusedVariables false
set_option maxHeartbeats 2000000
set_option maxRecDepth 100000
open Go.Proofs.Tryz
namespace Go.Proofs.YtklbbbldalmnbaaGreatDoor.Pa
open TK
def cI(t:Tok):Prop:=
 (t.kind=1/\0<=t.num/\t.num<=1114111)\/t.kind=2\/(t.kind=3/\3<=t.num/\t.num<=8)\/(t.kind=4/\(t.text=ee\/t.text=dK\/t.text=eh\/t.text=dw))\/t.kind=5\/
 (t.kind=6/\0<=t.least/\t.least<=100/\(t.an= -1\/(t.least<=t.an/\t.an<=100))/\1<=t.bB/\t.bB<=3)\/
 (t.kind=7/\(t.num=1\/t.num=11\/t.num=13\/t.num=14\/t.num=15\/t.num=16\/t.num=17)/\(t.text.toList=[]\/∃l i,t.text=bE (bL l i)/\bL l i≠[]/\(∀p∈l,0<=p/\p<=1114111))/\ -1<=t.fold/\t.fold<=1)\/
 t.kind=8\/t.kind=9\/(t.kind=10/\ -999<=t.num/\t.num<=999)\/(t.kind=11/\ -1<=t.fold/\t.fold<=1)
theorem fE{p:Int}(h:0<=p/\p<=1114111):cI (aM p):=.inl ⟨rfl,h⟩
theorem gh{p:Int}(h:3<=p/\p<=8):cI (bn p):=.inr (.inr (.inl ⟨rfl,h⟩))
theorem np{p:Int}(h: -999<=p/\p<=999):cI (aP p):=by
 unfold cI aP;simp;omega
theorem iV{p:Int}(h:p=1\/p=11\/p=13\/p=14\/p=15\/p=16\/p=17):cI (aR p):=by
 unfold cI aR
 simp
 omega
theorem qi{c:ByteArray×Bool}(h:c.1=ee\/c.1=dK\/c.1=eh\/c.1=dw):cI (dS c):=by
 unfold cI dS;simp;exact h
theorem tG{d:Int}{l:List Int}{i:Nat}{a b:Int}(h:0<=a/\a<=100/\(b= -1\/(a<=b/\b<=100))):cI (cD d l i a b).1:=by
 unfold cD cI
 split
 ·split
  ·simp;omega
  ·split
   ·simp;omega
   ·simp;omega
 ·simp;omega
theorem jv(base:Int)(hb:0<base):∀(k:Nat) (l:List Int) (n:Int) (c:Nat),0<=n->0<=(ek base k l n c).1/\(ek base k l n c).1<(n+1)*base ^ k
 |0,l,n,c,h=>by unfold ek;simp;omega
 |k+1,[],n,c,h=>by
  unfold ek
  refine⟨h,?_⟩
  have h1:(1:Int)<=base ^ (k+1):=Int.pow_pos hb
  have:(n+1)*1<=(n+1)*base ^ (k+1):=Int.mul_le_mul_of_nonneg_left h1 (by omega)
  omega
 |k+1,p::t,n,c,h=>by
  unfold ek
  have hd:=nt p
  split
  ·rename_i hlt
   have h0:0<=n*base:=Int.mul_nonneg h (by omega)
   have:=jv base hb k t (n*base+dz p) (c+1) (by omega)
   refine⟨this.1,Int.lt_of_lt_of_le this.2 ?_⟩
   have h1:(0:Int)<=base ^ k:=Int.le_of_lt (Int.pow_pos hb)
   have h2:n*base+dz p+1<=(n+1)*base:=by rw[Int.add_mul];omega
   have h3:=Int.mul_le_mul_of_nonneg_right h2 h1
   rw[Int.pow_succ,Int.mul_comm (base ^ k) base, <-Int.mul_assoc]
   exact h3
  ·have h1:(1:Int)<=base ^ (k+1):=Int.pow_pos hb
   have:(n+1)*1<=(n+1)*base ^ (k+1):=Int.mul_le_mul_of_nonneg_left h1 (by omega)
   exact⟨h,by omega⟩
theorem mQ(base:Int)(hb:0<base)(k:Nat)(l:List Int)(i:Nat):0<=(cL base k l i).1/\(cL base k l i).1<base ^ k:=by
 have:=jv base hb k (l.drop i) 0 0 (by omega)
 simpa[cL]using this
theorem Df(l:List Int)(i:Nat):0<=(cL 10 3 l i).1/\(cL 10 3 l i).1<=999:=by
 have:=mQ 10 (by decide) 3 l i
 have h:(10:Int) ^ 3=1000:=by decide
 omega
theorem Jw(l:List Int)(i:Nat):0<=(cL 10 1 l i).1/\(cL 10 1 l i).1<=9:=by
 have:=mQ 10 (by decide) 1 l i
 have h:(10:Int) ^ 1=10:=by decide
 omega
theorem Fp(k:Nat)(hk:k<=4)(l:List Int)(i:Nat):0<=(cL 16 k l i).1/\(cL 16 k l i).1<=1114111:=by
 have:=mQ 16 (by decide) k l i
 have h:(16:Int) ^ k<=65536:=by
  match k,hk with
  |0,_=>decide
  |1,_=>decide
  |2,_=>decide
  |3,_=>decide
  |4,_=>decide
 omega
theorem A1(d:Int)(l:List Int)(i:Nat):0<=(ch d l i).1/\ -1<=(ch d l i).2.1:=by
 have h1:=Df l i
 have h2:=Df l (i+(cL 10 3 l i).2+1)
 unfold ch
 simp only
 repeat' split
 all_goals (constructor<;>simp only<;>omega)
theorem E3{d:Int}{l:List Int}{i:Nat}{t:Tok}{k:Nat}(h:cR d l i=.ok (t,k)):cI t:=by
 unfold cR at h
 simp only at h
 have hb:=A1 d l i
 split at h
 ·split at h
  ·cases h;exact fE (by decide)
  ·cases h
 ·split at h
  ·cases h
  ·split at h
   ·cases h
   ·rename_i h1 h2 h3
    injection h with h
    have h1:=congrArg Prod.fst h
    simp only at h1
    rw[<- h1]
    exact tG (by omega)
theorem En{l:List Int}{i:Nat}{f:Int}{t:Tok}{k:Nat}(hf: -1<=f/\f<=1)(h:gV l i f=.ok (t,k)):cI t:=by
 unfold gV at h
 split at h
 ·cases h;unfold cI;simp;omega
 ·split at h
  ·cases h;unfold cI;simp;omega
  ·cases h
theorem IU{l:List Int}{i:Nat}{t:Tok}{k:Nat}(hp:∀p∈l,0<=p/\p<=1114111)(h:fT l i=.ok (t,k)):cI t:=by
 unfold fT at h
 split at h
 ·cases h;exact iV (by simp)
 ·split at h
  ·cases h;exact iV (by simp)
  ·split at h
   ·cases h
   ·split at h
    ·rename_i hn _
     cases h
     unfold cI
     refine .inr (.inr (.inr (.inr (.inr (.inr (.inl ⟨rfl,.inr (.inl rfl),.inr ⟨l,i,rfl,hn,hp⟩,by simp,by simp⟩))))))
    ·cases h
theorem Dq{d:Int}{l:List Int}{i:Nat}{t:Tok}{k:Nat}(hp:∀p∈l,0<=p/\p<=1114111)(h:dk d l i=.ok (t,k)):cI t:=by
 unfold dk at h
 split at h
 ·cases h;exact iV (by simp)
 ·split at h
  ·cases h;exact iV (by simp)
  ·split at h
   ·cases h
   ·split at h
    ·cases h;exact iV (by simp)
    ·split at h
     ·cases h;exact iV (by simp)
     ·split at h
      ·cases h;exact iV (by simp)
      ·split at h
       ·cases h;exact iV (by simp)
       ·split at h
        ·exact IU hp h
        ·split at h
         ·exact En (by omega) h
         ·split at h
          ·split at h
           ·exact En (by omega) h
           ·cases h
          ·cases h
theorem z8{d:Int}{l:List Int}{p:Int}{i:Nat}{t:Tok}{k:Nat}(hl:∀p∈l,0<=p/\p<=1114111)(hp:0<=p/\p<=1114111)(h:dG d l p i=.ok (t,k)):cI t:=by
 unfold dG at h
 split at h
 ·exact Dq hl h
 ·split at h
  ·cases h;unfold cI;simp
  ·split at h
   ·cases h;unfold cI;simp
   ·split at h
    ·exact E3 h
    ·cases h;exact fE hp
theorem Ih{l:List Int}{i:Nat}{t:Tok}{k:Nat}(h:fC l i=.ok (t,k)):cI t:=by
 unfold fC at h
 simp only at h
 split at h
 ·split at h
  ·cases h
  ·cases h;exact fE (Fp 2 (by omega) l i)
 ·split at h
  ·cases h
  ·split at h
   ·cases h
   ·split at h
    ·cases h
    ·rename_i h1 h2 h3
     cases h;exact fE ⟨(mQ 16 (by decide) 6 l (i+1)).1,by omega⟩
theorem Il{l:List Int}{i:Nat}{t:Tok}{k:Nat}(h:kz l i=.ok (t,k)):cI t:=by
 unfold kz at h
 simp only at h
 split at h
 ·cases h
 ·cases h;exact fE (Fp 4 (by omega) l i)
theorem I1{l:List Int}{i:Nat}{n:Int}(hn:0<=n/\n<=9):cI (jB l i n).1:=by
 unfold jB
 have:=Jw l i
 simp only
 split
 ·exact np (by omega)
 ·exact np (by omega)
theorem IM{l:List Int}{i:Nat}{t:Tok}{k:Nat}(h:eM l i=.ok (t,k)):cI t:=by
 unfold eM at h
 simp only at h
 split at h
 ·cases h
 ·generalize (if bk l (i+1) [45]=true then i+2 else i+1)=j at h
  have:=Df l j
  split at h
  ·split at h
   ·cases h
   ·split at h
    ·cases h
    ·cases h
     refine np ?_
     split<;>omega
  ·split at h
   ·cases h
   ·split at h
    ·cases h
    ·split at h
     ·cases h
     ·cases h;unfold cI;simp
theorem Ia{p:Int}{c:ByteArray×Bool}(h:jc p=some c):c.1=ee\/c.1=dK\/c.1=eh\/c.1=dw:=by
 unfold jc at h
 repeat' split at h
 all_goals first|(cases h;simp)|cases h
theorem I5{p q:Int}(hp:0<=p/\p<=1114111)(h:iA p=.ok q):0<=q/\q<=1114111:=by
 unfold iA at h
 repeat' split at h
 all_goals first|(cases h;omega)|cases h
theorem F2{l:List Int}{i:Nat}{p:Int}{t:Tok}{k:Nat}(hp:0<=p/\p<=1114111)(h:cU l i p=.ok (t,k)):cI t:=by
 unfold cU at h
 split at h
 ·rename_i c hc
  cases h;exact qi (Ia hc)
 ·split at h
  ·cases h;exact gh (by decide)
  ·split at h
   ·cases h;exact gh (by decide)
   ·split at h
    ·cases h;exact gh (by decide)
    ·split at h
     ·cases h;exact gh (by decide)
     ·split at h
      ·exact Ih h
      ·split at h
       ·exact Il h
       ·split at h
        ·exact IM h
        ·split at h
         ·injection h with h
          have h1:=congrArg Prod.fst h
          simp only at h1
          rw[<- h1]
          exact I1 (by omega)
         ·split at h
          ·rename_i q hq
           cases h;exact fE (I5 hp hq)
          ·cases h
theorem Fj{l:List Int}{i:Nat}{p:Int}{t:Tok}{k:Nat}(hl:∀p∈l,0<=p/\p<=1114111)(hp:0<=p/\p<=1114111)(h:bP l i p=.ok (t,k)):cI t:=by
 unfold bP at h
 split at h
 ·exact z8 hl hp h
 ·split at h
  ·cases h;exact qi (by simp)
  ·split at h
   ·cases h;exact qi (by simp)
   ·split at h
    ·cases h;exact gh (by decide)
    ·split at h
     ·cases h;exact gh (by decide)
     ·split at h
      ·cases h;exact gh (by decide)
      ·split at h
       ·cases h;exact gh (by decide)
       ·split at h
        ·cases h;exact np (by omega)
        ·cases h;exact fE hp
theorem Iw{d:Int}{l:List Int}{i:Nat}{t:Tok}{k:Nat}(hl:∀p∈l,0<=p/\p<=1114111)(h:jy d l i=.ok (t,k)):cI t:=by
 unfold jy at h
 split at h
 ·cases h
 ·rename_i p hp
  have hpp:=hl p (List.mem_of_getElem? hp)
  split at h
  ·exact F2 hpp h
  ·split at h
   ·exact Fj hl hpp h
   ·cases h;exact fE hpp
theorem GL{d:Int}{l:List Int}{i:Nat}{t:Tok}{k:Nat}(hl:∀p∈l,0<=p/\p<=1114111)(h:aQ d l i=.ok (t,k)):cI t:=by
 unfold aQ at h
 split at h
 ·cases h
 ·rename_i p hp
  have hpp:=hl p (List.mem_of_getElem? hp)
  unfold j9 at h
  split at h
  ·exact Iw hl h
  ·split at h
   ·cases h;unfold cI;simp
   ·split at h
    ·cases h;exact gh (by decide)
    ·split at h
     ·cases h;exact gh (by decide)
     ·split at h
      ·cases h;unfold cI;simp
      ·split at h
       ·injection h with h
        have h1:=congrArg Prod.fst h
        simp only at h1
        rw[<- h1]
        exact tG (by omega)
       ·split at h
        ·injection h with h
         have h1:=congrArg Prod.fst h
         simp only at h1
         rw[<- h1]
         exact tG (by omega)
        ·split at h
         ·injection h with h
          have h1:=congrArg Prod.fst h
          simp only at h1
          rw[<- h1]
          exact tG (by omega)
         ·split at h
          ·cases h;exact fE hpp
          ·exact z8 hl hpp h
/-! ### where a token ends -/
theorem rY(base:Int):∀(k:Nat) (l:List Int) (n:Int) (c:Nat),(ek base k l n c).2<=c+l.length
 |0,l,n,c=>by unfold ek;simp
 |k+1,[],n,c=>by unfold ek;simp
 |k+1,p::t,n,c=>by
  unfold ek
  split
  ·have :=rY base k t (n*base+dz p) (c+1)
   simp only[List.length_cons]
   omega
  ·simp only;omega
theorem kk(base:Int)(k:Nat)(l:List Int)(i:Nat)(hi:i<=l.length):i+(cL base k l i).2<=l.length:=by
 have:=rY base k (l.drop i) 0 0
 rw[List.length_drop]at this
 unfold cL
 omega
theorem jj{l:List Int}{i:Nat}{p:Int}(h:bk l i [p]=true):i+1<=l.length:=fF h (by simp)
theorem Hz{l:List Int}{i:Nat}{p q:Int}(h:bk l i [p,q]=true):i+2<=l.length:=fF h (by simp)
theorem ph(d:Int)(l:List Int)(i:Nat)(a b:Int)(hi:i<=l.length):(cD d l i a b).2<=l.length:=by
 unfold cD
 split
 ·split
  ·rename_i h;exact jj h
  ·split
   ·rename_i h;exact jj h
   ·exact hi
 ·exact hi
theorem yj(d:Int)(l:List Int)(i:Nat)(hi:i<=l.length):(ch d l i).2.2.2<=l.length:=by
 have h1:=kk 10 3 l i hi
 unfold ch
 simp only
 by_cases hc:bk l (i+(cL 10 3 l i).2) [44]=true
 ·have h2:=kk 10 3 l (i+(cL 10 3 l i).2+1) (jj hc)
  rw[if_pos hc]
  simp only
  generalize i+(cL 10 3 l i).2+1+(cL 10 3 l (i+(cL 10 3 l i).2+1)).2=j at*
  split
  ·exact h2
  ·split
   ·simp only
    split
    ·rename_i h;exact Hz h
    ·exact h2
   ·simp only
    split
    ·rename_i h;exact jj h
    ·exact h2
 ·rw [if_neg hc]
  simp only
  generalize i+(cL 10 3 l i).2=j at*
  split
  ·exact h1
  ·split
   ·simp only
    split
    ·rename_i h;exact Hz h
    ·exact h1
   ·simp only
    split
    ·rename_i h;exact jj h
    ·exact h1
theorem AX{d:Int}{l:List Int}{i:Nat}{t:Tok}{k:Nat}(hi:i<=l.length)(h:cR d l i=.ok (t,k)):k<=l.length:=by
 unfold cR at h
 simp only at h
 split at h
 ·split at h
  ·cases h;exact hi
  ·cases h
 ·split at h
  ·cases h
  ·split at h
   ·cases h
   ·injection h with h
    have h1:=congrArg Prod.snd h
    simp only at h1
    rw[<- h1]
    exact ph _ _ _ _ _ (yj d l i hi)
theorem Ak{l:List Int}{i:Nat}{f:Int}{t:Tok}{k:Nat}(h:gV l i f=.ok (t,k)):k<=l.length:=by
 unfold gV at h
 split at h
 ·rename_i hs;cases h;exact jj hs
 ·split at h
  ·rename_i hs;cases h;exact jj hs
  ·cases h
theorem GP{l:List Int}{i:Nat}{t:Tok}{k:Nat}(h:fT l i=.ok (t,k)):k<=l.length:=by
 unfold fT at h
 split at h
 ·rename_i hs;cases h;exact jj hs
 ·split at h
  ·rename_i hs;cases h;exact jj hs
  ·split at h
   ·cases h
   ·split at h
    ·rename_i hs;cases h;exact jj hs
    ·cases h
theorem A8{d:Int}{l:List Int}{i:Nat}{t:Tok}{k:Nat}(hi:i<=l.length)(h:dk d l i=.ok (t,k)):k<=l.length:=by
 unfold dk at h
 split at h
 ·cases h;exact hi
 ·split at h
  ·cases h;exact hi
  ·split at h
   ·cases h
   ·rename_i p hp
    have hlt:=(List.getElem?_eq_some_iff.1 hp).1
    split at h
    ·cases h;omega
    ·split at h
     ·cases h;omega
     ·split at h
      ·cases h;omega
      ·split at h
       ·cases h;omega
       ·split at h
        ·exact GP h
        ·split at h
         ·exact Ak h
         ·split at h
          ·split at h
           ·exact Ak h
           ·cases h
          ·cases h
theorem uM{d:Int}{l:List Int}{p:Int}{i:Nat}{t:Tok}{k:Nat}(hi:i<=l.length)(h:dG d l p i=.ok (t,k)):k<=l.length:=by
 unfold dG at h
 split at h
 ·exact A8 hi h
 ·split at h
  ·cases h;exact hi
  ·split at h
   ·cases h;exact hi
   ·split at h
    ·exact AX hi h
    ·cases h;exact hi
theorem pa{l:List Int}{i:Nat}{t:Tok}{k:Nat}(hi:i<=l.length)(h:fC l i=.ok (t,k)):k<=l.length:=by
 unfold fC at h
 simp only at h
 split at h
 ·split at h
  ·cases h
  ·cases h;exact kk 16 2 l i hi
 ·split at h
  ·cases h
  ·split at h
   ·cases h
   ·split at h
    ·cases h
    ·rename_i h1 h2 h3
     cases h
     exact jj (by simpa using h2)
theorem FB{l:List Int}{i:Nat}{t:Tok}{k:Nat}(hi:i<=l.length)(h:kz l i=.ok (t,k)):k<=l.length:=by
 unfold kz at h
 simp only at h
 split at h
 ·cases h
 ·cases h;exact kk 16 4 l i hi
theorem Ga{l:List Int}{i:Nat}{n:Int}(hi:i<=l.length):(jB l i n).2<=l.length:=by
 unfold jB
 have:=kk 10 1 l i hi
 simp only
 split
 ·simp only;omega
 ·exact hi
theorem Hi{l:List Int}{i:Nat}{t:Tok}{k:Nat}(h:eM l i=.ok (t,k)):k<=l.length:=by
 unfold eM at h
 simp only at h
 split at h
 ·cases h
 ·generalize (if bk l (i+1) [45]=true then i+2 else i+1)=j at h
  split at h
  ·split at h
   ·cases h
   ·rename_i hs
    split at h
    ·cases h
    ·cases h
     exact jj (by simpa using hs)
  ·split at h
   ·cases h
   ·split at h
    ·cases h
    ·split at h
     ·cases h
     ·rename_i hs
      cases h;exact jj (by simpa using hs)
theorem CX{l:List Int}{i:Nat}{p:Int}{t:Tok}{k:Nat}(hi:i<=l.length)(h:cU l i p=.ok (t,k)):k<=l.length:=by
 unfold cU at h
 split at h
 ·cases h;exact hi
 ·split at h
  ·cases h;exact hi
  ·split at h
   ·cases h;exact hi
   ·split at h
    ·cases h;exact hi
    ·split at h
     ·cases h;exact hi
     ·split at h
      ·exact pa hi h
      ·split at h
       ·exact FB hi h
       ·split at h
        ·exact Hi h
        ·split at h
         ·injection h with h
          have h1:=congrArg Prod.snd h
          simp only at h1
          rw[<- h1]
          exact Ga hi
         ·split at h
          ·cases h;exact hi
          ·cases h
theorem B7{l:List Int}{i:Nat}{p:Int}{t:Tok}{k:Nat}(hi:i<=l.length)(h:bP l i p=.ok (t,k)):k<=l.length:=by
 unfold bP at h
 split at h
 ·exact uM hi h
 ·repeat' split at h
  all_goals (cases h;exact hi)
theorem Gk{d:Int}{l:List Int}{i:Nat}{t:Tok}{k:Nat}(h:jy d l i=.ok (t,k)):k<=l.length:=by
 unfold jy at h
 split at h
 ·cases h
 ·rename_i p hp
  have hlt:=(List.getElem?_eq_some_iff.1 hp).1
  split at h
  ·exact CX (by omega) h
  ·split at h
   ·exact B7 (by omega) h
   ·cases h;omega
theorem vD{d:Int}{l:List Int}{i:Nat}{t:Tok}{k:Nat}(h:aQ d l i=.ok (t,k)):k<=l.length:=by
 unfold aQ at h
 split at h
 ·cases h
 ·rename_i p hp
  have hlt:=(List.getElem?_eq_some_iff.1 hp).1
  unfold j9 at h
  split at h
  ·exact Gk h
  ·split at h
   ·cases h;omega
   ·split at h
    ·cases h;omega
    ·split at h
     ·cases h;omega
     ·split at h
      ·cases h;omega
      ·split at h
       ·injection h with h
        have h1:=congrArg Prod.snd h
        simp only at h1
        rw[<- h1]
        exact ph _ _ _ _ _ (by omega)
       ·split at h
        ·injection h with h
         have h1:=congrArg Prod.snd h
         simp only at h1
         rw[<- h1]
         exact ph _ _ _ _ _ (by omega)
        ·split at h
         ·injection h with h
          have h1:=congrArg Prod.snd h
          simp only at h1
          rw[<- h1]
          exact ph _ _ _ _ _ (by omega)
         ·split at h
          ·cases h;omega
          ·exact uM (by omega) h
end Go.Proofs.YtklbbbldalmnbaaGreatDoor.Pa
namespace Go.Proofs.YtklbbbldalmnbaaGreatDoor.Pa
open TR (Tr)
open Br (BE PS)
abbrev Nm:Type:=ByteArray×Int
structure Ag where
 num:Int
 name:ByteArray
 pos:Nat
structure St where
 tok:TK.Tok:={}
 pos:Nat:=0
 next:Nat:=0
 aD:Bool:=false
 deep:Nat:=0
 aF:Nat:=0
 names:List Nm:=[]
 ay:List Ag:=[]
def gI:Tr:=.mk 1 0 0 0 0 false [] []
def pF(k:Int):Tr:=.mk k 0 0 0 0 false [] []
def fg(S:RL):Tr:=.mk 2 0 0 0 0 false S []
def cD(t:Tr)(k:TK.Tok):Tr:=.mk 12 0 k.least k.an k.bB false [] [t]
def iK(ps:List Tr):List Tr:=ps.flatMap fun t=>if t.kind=1 then []else if t.kind=9 then t.kids else [t]
def gU(ps:List Tr):Tr:=match iK ps with
 |[]=>gI
 |[t]=>t
 |ks=>.mk 9 0 0 0 0 false [] ks
def eX(bs:List Tr):Tr:=match bs with
 |[t]=>t
 |bs=>.mk 10 0 0 0 0 false [] (bs.flatMap fun t=>if t.kind=10 then t.kids else [t])
def dH(d:Int)(l:List Int)(s:St):Except BE St:=
 if s.next=l.length then .ok { s with pos:=s.next,tok:={} }
 else match TK.aQ d l s.next with
  | .error z=>.error (z,(s.next:Int))
  | .ok (t,k)=>.ok { s with pos:=s.next,tok:=t,next:=k }
def bw(s:St)(o:Int):Bool:=if o=0 then s.aD else decide (0<o)
def ga(s:St):Except BE (Tr×St):=
 let n:=if s.tok.num<0 then s.tok.num+(s.aF+1:Nat)else s.tok.num
 if s.tok.num<0/\n<=0 then .error (5,(s.pos:Int))
 else .ok (.mk 18 s.ay.length 0 0 0 s.aD [] [],{ s with ay:=s.ay++[⟨n,s.tok.text,s.pos⟩] })
def hasName(names:List Nm)(t:ByteArray):Bool:=names.any fun n=>n.1.toList==t.toList
def cZ(s:St)(name:ByteArray):Except BE St:=
 if s.aF=20 then .error (2,(s.pos:Int))
 else if name.toList=[]then .ok { s with aF:=s.aF+1 }
 else if hasName s.names name then .error (6,(s.pos:Int))
 else .ok { s with aF:=s.aF+1,names:=s.names++[(name,((s.aF+1:Nat):Int))] }
end Go.Proofs.YtklbbbldalmnbaaGreatDoor.Pa
namespace Go.Proofs.YtklbbbldalmnbaaGreatDoor.Pa
open Go.RowKit
open TR (Tr NV aL cz aG aV bS)
def oy(n:NV):List Value:=[.int .i64 n.kind,.slice n.sa n.sl n.sc,.slice n.ka n.kl n.kc,.int .i64 n.num,.int .i64 n.least,.int .i64 n.an,.int .i64 n.bB,.bool n.fold]
theorem jQ(n:NV):(oy n).length=8:=rfl
theorem mS(n:NV):∀v∈oy n,v.oneCell'=true:=by
 intro v hv
 simp only[oy,List.mem_cons,List.not_mem_nil,or_false]at hv
 rcases hv with rfl|rfl|rfl|rfl|rfl|rfl|rfl|rfl<;>rfl
structure Pc where
 nv:NV
 tr:Tr
 lo:Nat
 hi:Nat
def bu(ps:List Pc):List Value:=ps.flatMap fun p=>oy p.nv
theorem kx(p:Pc)(ps:List Pc):bu (p::ps)=oy p.nv++bu ps:=rfl
theorem eQ(a b:List Pc):bu (a++b)=bu a++bu b:=by simp[bu]
theorem lT(p:Pc):bu [p]=oy p.nv:=by simp[bu]
theorem l7(ps:List Pc):(bu ps).length=ps.length*8:=by
 induction ps with
 |nil=>rfl
 |cons p ps ih=>rw[kx,List.length_append,jQ,ih,List.length_cons];omega
theorem qY:∀(ps:List Pc) (j:Nat) (hj:j<ps.length) (i:Nat),i<8->(bu ps)[j*8+i]? =(oy ps[j].nv)[i]?
 |p::ps,0,hj,i,hi=>by
  rw[kx,List.getElem?_append_left (by rw[jQ];omega)]
  simp
 |p::ps,j+1,hj,i,hi=>by
  rw[kx,List.getElem?_append_right (by rw[jQ];omega),jQ]
  have:=qY ps j (by simpa using hj) i hi
  rw[show (j+1)*8+i - 8=j*8+i from by omega,this]
  rfl
theorem ow(ps:List Pc):∀v∈bu ps,v.oneCell'=true:=by
 intro v hv
 obtain⟨p,_,hp⟩:=List.mem_flatMap.1 hv
 exact mS _ v hp
structure mq(w:World)(lo hi:Nat)(v:Value)(ps:List Pc):Prop where
 own:w.ownsRow lo 25 8 v ps.length (bu ps)
 top:∀k,v.ownBlock=some k->k<hi/\∀p∈ps,k<p.lo\/p.hi<=k
 kV:∀p∈ps,lo<=p.lo/\p.lo<=p.hi/\p.hi<=hi
 par:ps.Pairwise fun a b=>a.hi<=b.lo
structure oj(w:World)(lo hi:Nat)(v:Value)(S:RL):Prop where
 own:w.ownsRow lo 76 2 v S.length (aN S)
 top:∀k,v.ownBlock=some k->k<hi
inductive bG(w:World):Nat->Nat->NV->Tr->Prop
 |mk (lo hi:Nat) (n:NV) (S:RL) (ps:List Pc) (hs:oj w lo hi (.slice n.sa n.sl n.sc) S) (hk:mq w lo hi (.slice n.ka n.kl n.kc) ps) (hne:n.kind=9\/n.kind=10->ps≠[]) (h:∀p∈ps,bG w p.lo p.hi p.nv p.tr):bG w lo hi n (.mk n.kind n.num n.least n.an n.bB n.fold S (ps.map Pc.tr))
def br(lo hi:Nat)(w w':World):Prop:=∀k,lo<=k->k<hi->∀cs e,(e=25\/e=76)->w.heap[k]? =some (.cells cs e (0,0))->w'.heap[k]? =some (.cells cs e (0,0))
theorem br.sub{lo hi lo' hi':Nat}{w w':World}(h:br lo hi w w')(h1:lo<=lo')(h2:hi'<=hi):br lo' hi' w w':=fun k a b=>h k (by omega) (by omega)
theorem br.trans{lo hi:Nat}{w w1 w':World}(h:br lo hi w w1)(h':br lo hi w1 w'):br lo hi w w':=fun k a b cs e he hh=>h' k a b cs e he (h k a b cs e he hh)
theorem br.ae{lo hi B:Nat}{w w':World}(h:Below B w w')(hh:hi<=B):br lo hi w w':=fun k a b cs e he hc=>by rw[h.block k (by omega)];exact hc
theorem br.bz{lo hi:Nat}{w w':World}(h:∀k,lo<=k->k<hi->w'.heap[k]? =w.heap[k]?):br lo hi w w':=fun k a b cs e he hc=>by rw[h k a b];exact hc
theorem sY{w w':World}{lo hi e k n:Nat}{v:Value}{xs:List Value}(h:w.ownsRow lo e k v n xs)(ht:∀k,v.ownBlock=some k->k<hi)(he:e=25\/e=76)(hK:br lo hi w w'):w'.ownsRow lo e k v n xs:=by
 refine⟨h.1,?_⟩
 rcases h.2 with h2|⟨g,cap,cur,rfl,h3,hg,h4⟩
 ·exact Or.inl h2
 ·exact Or.inr ⟨g,cap,cur,rfl,h3,hK g h3 (ht g rfl) _ _ he hg,h4⟩
theorem mq.ar{w w':World}{lo hi:Nat}{v:Value}{ps:List Pc}(h:mq w lo hi v ps)(hK:br lo hi w w'):mq w' lo hi v ps:=
 ⟨sY h.own (fun k hk=>(h.top k hk).1) (.inl rfl) hK,h.top,h.kV,h.par⟩
theorem oj.ar{w w':World}{lo hi:Nat}{v:Value}{S:RL}(h:oj w lo hi v S)(hK:br lo hi w w'):oj w' lo hi v S:=
 ⟨sY h.own h.top (.inr rfl) hK,h.top⟩
theorem bG.ar{w w':World}{lo hi:Nat}{n:NV}{t:Tr}(h:bG w lo hi n t)(hK:br lo hi w w'):bG w' lo hi n t:=by
 induction h with
 |mk lo hi n S ps hs hk hne h ih=>exact .mk lo hi n S ps (hs.ar hK) (hk.ar hK) hne fun p hp=>ih p hp (hK.sub (hk.kV p hp).1 (hk.kV p hp).2.2)
theorem mq.wide{w:World}{lo hi lo' hi':Nat}{v:Value}{ps:List Pc}(h:mq w lo hi v ps)(h1:lo'<=lo)(h2:hi<=hi'):mq w lo' hi' v ps:=
 ⟨jr h.own h1,fun k hk=>⟨by have:=(h.top k hk).1;omega,(h.top k hk).2⟩,fun p hp=>by have:=h.kV p hp;omega,h.par⟩
theorem oj.wide{w:World}{lo hi lo' hi':Nat}{v:Value}{S:RL}(h:oj w lo hi v S)(h1:lo'<=lo)(h2:hi<=hi'):oj w lo' hi' v S:=
 ⟨jr h.own h1,fun k hk=>by have:=h.top k hk;omega⟩
theorem bG.wide{w:World}{lo hi lo' hi':Nat}{n:NV}{t:Tr}(h:bG w lo hi n t)(h1:lo'<=lo)(h2:hi<=hi'):bG w lo' hi' n t:=by
 cases h with
 |mk _ _ n S ps hs hk hne h=>exact .mk lo' hi' n S ps (hs.wide h1 h2) (hk.wide h1 h2) hne h
theorem mq.nil(w:World)(lo hi:Nat):mq w lo hi (.slice none 0 0) []:=⟨World.ownsRow_nil _ _ _ _,fun k hk=>(by simp[Value.ownBlock]at hk),fun p hp=>(by cases hp),List.Pairwise.nil⟩
theorem oj.nil(w:World)(lo hi:Nat):oj w lo hi (.slice none 0 0) []:=⟨World.ownsRow_nil _ _ _ _,fun k hk=>by simp[Value.ownBlock]at hk⟩
theorem bG.leaf(w:World)(lo hi:Nat)(k num a b c:Int)(f:Bool)(hk:¬(k=9\/k=10)):bG w lo hi ⟨k,none,0,0,none,0,0,num,a,b,c,f⟩ (.mk k num a b c f [] []):=
 .mk lo hi ⟨k,none,0,0,none,0,0,num,a,b,c,f⟩ [] [] (oj.nil _ _ _) (mq.nil _ _ _) (fun h=>absurd h hk) (fun p hp=>by cases hp)
structure ct(w:World)(lo hi:Nat)(v:Value)(ps:List Pc):Prop where
 row:mq w lo hi v ps
 all:∀p∈ps,bG w p.lo p.hi p.nv p.tr
theorem ct.ar{w w':World}{lo hi:Nat}{v:Value}{ps:List Pc}(h:ct w lo hi v ps)(hK:br lo hi w w'):ct w' lo hi v ps:=
 ⟨h.row.ar hK,fun p hp=>(h.all p hp).ar (hK.sub (h.row.kV p hp).1 (h.row.kV p hp).2.2)⟩
theorem ct.wide{w:World}{lo hi lo' hi':Nat}{v:Value}{ps:List Pc}(h:ct w lo hi v ps)(h1:lo'<=lo)(h2:hi<=hi'):ct w lo' hi' v ps:=⟨h.row.wide h1 h2,h.all⟩
theorem ct.nil(w:World)(lo hi:Nat):ct w lo hi (.slice none 0 0) []:=⟨mq.nil _ _ _,fun p hp=>by cases hp⟩
theorem ct.node{w:World}{lo hi:Nat}{ka:Option Addr}{kl kc:Nat}{ps:List Pc}(h:ct w lo hi (.slice ka kl kc) ps)(k num a b c:Int)(f:Bool)(hne:ps≠[]):bG w lo hi ⟨k,none,0,0,ka,kl,kc,num,a,b,c,f⟩ (.mk k num a b c f [] (ps.map Pc.tr)):=
 .mk lo hi ⟨k,none,0,0,ka,kl,kc,num,a,b,c,f⟩ [] ps (oj.nil _ _ _) h.row (fun _=>hne) h.all
theorem eY{w:World}{lo:Nat}{g cap:Nat}{ps:List Pc}(h:w.ownsRow lo 25 8 (.slice (some ⟨g,0,none⟩) ps.length cap) ps.length (bu ps)){j:Nat}(hj:j<ps.length):aL w ⟨g,j*8,none⟩ ps[j].nv:=by
 have hc:=fun i (hi:i<8)=>(World.ownsRow.cellAt h (j*8+i) (by omega)).trans (qY ps j hj i hi)
 refine⟨?_,?_,?_,?_,?_,?_,?_,?_⟩
 ·exact hc 0 (by omega)
 ·exact hc 1 (by omega)
 ·exact hc 2 (by omega)
 ·exact hc 3 (by omega)
 ·exact hc 4 (by omega)
 ·exact hc 5 (by omega)
 ·exact hc 6 (by omega)
 ·exact hc 7 (by omega)
theorem C0(g k:Nat):(⟨g,0,none⟩:Addr).add k=⟨g,k,none⟩:=by
 unfold Addr.add
 by_cases h:k=0
 ·subst h;simp
 ·simp[h]
theorem bG.Kx{w:World}{lo hi:Nat}{n:NV}{t:Tr}(h:bG w lo hi n t):aV w n t:=by
 induction h with
 |mk lo hi n S ps hs hk hne h ih=>
  refine .mk n S (ps.map Pc.tr) (fun j=>(ps.getD j ⟨n,.mk 0 0 0 0 0 false [] [],0,0⟩).nv) (ig hs.own) ?_ ?_
  ·have ho:=hk.own
   rcases ho.2 with⟨h1,h2⟩|⟨g,cap,cur,h1,h3,h4,h5,h6,h7,h8⟩
   ·have e1:n.ka=none:=by injection h1
    have e2:n.kl=0:=by injection h1
    have e3:n.kc=0:=by injection h1
    exact .inl ⟨e1,e2,e3,by simpa using h2⟩
   ·have e1:n.ka=some ⟨g,0,none⟩:=by injection h1
    have e2:n.kl=ps.length:=by injection h1
    have e3:n.kc=cap:=by injection h1
    refine .inr ⟨⟨g,0,none⟩,e1,by simpa using e2,by rw[List.length_map,e3];exact⟨h5,h6⟩,fun j hj=>?_⟩
    have hj':j<ps.length:=by simpa using hj
    rw[C0]
    rw[e1,e2,e3]at ho
    have:=eY ho hj'
    simpa[List.getD_eq_getElem?_getD,List.getElem?_eq_getElem hj']using this
  ·intro j hj
   have hj':j<ps.length:=by simpa using hj
   have:=ih ps[j] (List.getElem_mem hj')
   simpa[List.getD_eq_getElem?_getD,List.getElem?_eq_getElem hj']using this
theorem I{p:Prop}(h:p):Hid p:=h
theorem bb{w:World}{a:Addr}{v:Value}(h:w.cell? a=some v):a.block<w.heap.size:=World.block_lt_of_cell? _ _ h
theorem aE{B:Nat}{w w':World}(hb:Below B w w'){a:Addr}{v:Value}(ha:a.block<B)(h:w.cell? a=some v):w'.cell? a=some v:=by
 rw[<- h]
 unfold World.cell?
 rw[hb.block a.block ha]
theorem nE{a b:ByteArray}(h:a.toList=b.toList):a=b:=by
 rw[ByteArray.toList_eq,ByteArray.toList_eq]at h
 cases a with
 |mk x=>cases b with
  |mk y=>cases x with
   |mk x=>cases y with
    |mk y=>simpa using h
abbrev de:Type:=List (ByteArray×Int)
def po(w:World)(x:Addr)(N:de):Prop:=∀j (h:j<N.length),w.cell? (x.add (j*2))=some (.string N[j].1)/\w.cell? ⟨(x.add (j*2)).block,(x.add (j*2)).off+1,none⟩=some (.int .i64 N[j].2)
def bW(w:World)(v:Value)(N:de):Prop:=(v=.slice none 0 0/\N=[])\/∃x c,v=.slice (some x) N.length c/\(N.length<=c/\c<=9223372036854775807)/\po w x N
def eL(N:de)(t:ByteArray):Option Int:=(N.find? fun n=>decide (n.1=t)).map Prod.snd
theorem zr{N:de}{t:ByteArray}(h:∀i (hi:i<N.length),¬N[i].1=t):eL N t=none:=by
 unfold eL
 rw[List.find?_eq_none.2]
 ·rfl
 ·intro n hn
  obtain⟨i,hi,rfl⟩:=List.mem_iff_getElem.1 hn
  simpa using h i hi
theorem zh{N:de}{t:ByteArray}{j:Nat}(hj:j<N.length)(h:∀i (hi:i<j),¬N[i].1=t)(e:N[j].1=t):eL N t=some N[j].2:=by
 unfold eL
 have:N.find? (fun n=>decide (n.1=t))=some N[j]:=by
  rw[List.find?_eq_some_iff_getElem]
  exact⟨by simpa using e,j,hj,rfl,fun i hi=>by simpa using h i hi⟩
 rw[this]
 rfl
theorem jR(v:Value)(N:de)(t:ByteArray)(w:World)(hN:bW w v N):Calls prog 19 #[v,.string t] w fun e w'=>e=.returned (.tuple #[.int .i64 ((eL N t).getD 0),.bool (eL N t).isSome])/\Below w.heap.size w w':=by
 rcases hN with⟨rfl,rfl⟩|⟨x,c,rfl,hc,hcl⟩
 ·go_enter func19,ntmps19
  go_wp2
  go_loop [10] (fun i=>i=.int .i64 0) (fun i=>0)
  case atStart=>exact rfl
  case round=>
   subst hrel
   go_wp2
   go_ret2
   exact⟨rfl,J _ _⟩
 ·obtain ⟨m,hm⟩:∃m,m=N.length:=⟨_,rfl⟩
  have HCL:=I hcl
  have HM:=I hm
  rw[<- hm]at hc |-
  clear hcl hm
  go_enter func19,ntmps19
  go_wp2
  go_loopw [10] (fun u wr=>∃j:Nat,j<=m/\u=.int .i64 j/\(∀i (hi:i<N.length),i<j->¬N[i].1=t)/\Below w.heap.size w wr) (fun u _=>m - (intOf u).toNat)
  case atStart=>exact⟨0,Nat.zero_le _,rfl,fun i _ hi=>absurd hi (Nat.not_lt_zero _),J _ _⟩
  case round=>
   obtain⟨j,hj,rfl,hA,hb⟩:=hrel
   obtain⟨w2,hw2⟩:∃w2,w2=wr:=⟨_,rfl⟩
   subst hw2
   have HA:=I hA
   have HB:=I hb
   clear hA hb
   by_cases hlt:j<m
   ·have hjl:j<N.length:=by rw[<- HM.o];exact hlt
    have m0:=aE HB.o (bb (HCL.o j hjl).1) (HCL.o j hjl).1
    have m1:=aE HB.o (bb (HCL.o j hjl).2) (HCL.o j hjl).2
    obtain⟨a,ha⟩:∃a,a=N[j].1:=⟨_,rfl⟩
    obtain⟨b,hbb⟩:∃b,b=N[j].2:=⟨_,rfl⟩
    rw[<- ha]at m0
    rw[<- hbb]at m1
    have HS:Hid (a=t->eL N t=some b):=fun e=>by
     rw[hbb]
     exact zh hjl (fun i hi=>HA.o i (by omega) hi) (by rw[<- ha];exact e)
    have HNo:Hid (¬a=t->∀i (hi:i<N.length),i<j+1->¬N[i].1=t):=fun e i hi hij=>by
     by_cases h2:i=j
     ·subst h2
      rw[<- ha]
      exact e
     ·exact HA.o i hi (by omega)
    clear ha hbb hjl
    have e5:(j:Int)<(m:Int):=by omega
    have e6:(0:Int)<=(j:Int):=by omega
    have hkw:IntKind.i64.wrap ((j:Int)+1)=(j:Int)+1:=by rw[IntKind.wrap_i64];omega
    go_upto_region 4 with fail
    obtain⟨w3,hw3⟩:∃w3,w3=w2.alloc (.cells #[.string a,.int .i64 b] 33):=⟨_,rfl⟩
    have f0:w3.cell? ⟨w2.heap.size,0,none⟩=some (.string a):=by rw[hw3,World.cell?_alloc_at _ _ _ _ (by simp)];rfl
    have f1:w3.cell? ⟨w2.heap.size,1,none⟩=some (.int .i64 b):=by rw[hw3,World.cell?_alloc_at _ _ _ _ (by simp)];rfl
    have HB3:Hid (Below w.heap.size w w3):=by show Below _ _ _;rw[hw3];exact HB.o.alloc HB.o.size _
    rw[<- hw3]
    obtain⟨bx,hbx⟩:∃bx,bx=w2.heap.size:=⟨_,rfl⟩
    rw[<- hbx]at f0 f1 |-
    clear hw3 m0 m1 hbx
    by_cases hat:a=t
    ·have HSo:=I (HS.o hat)
     have q1:(a.toList==t.toList)=true:=by rw[hat];simp
     clear hat
     go_wp2
     go_ret2
     rw[HSo.o]
     exact⟨rfl,HB3.o⟩
    ·have HNN:=I (HNo.o hat)
     have q1:(a.toList==t.toList)=false:=by
      rw[beq_eq_false_iff_ne]
      exact fun hh=>hat (nE hh)
     clear hat
     go_wp2
     go_roundw
     case rel=>exact⟨j+1,by omega,by go_num,HNN.o,HB3.o⟩
     case measure=>simp[intOf];omega
   ·have HNo:Hid (eL N t=none):=zr fun i hi=>HA.o i hi (by have:=HM.o;omega)
    go_wp2
    go_ret2
    rw[HNo.o]
    exact⟨rfl,HB.o⟩
theorem bW.below{w w':World}{v:Value}{N:de}(h:bW w v N)(hb:Below w.heap.size w w'):bW w' v N:=by
 rcases h with h|⟨x,c,h1,h2,h3⟩
 ·exact .inl h
 ·exact .inr ⟨x,c,h1,h2,fun j hj=>⟨aE hb (bb (h3 j hj).1) (h3 j hj).1,aE hb (bb (h3 j hj).2) (h3 j hj).2⟩⟩
theorem bW.shape{w:World}{v:Value}{N:de}(h:bW w v N):∃ao c,v=.slice ao N.length c:=by
 rcases h with⟨rfl,rfl⟩|⟨x,c,rfl,_,_⟩
 ·exact⟨_,_,rfl⟩
 ·exact⟨_,_,rfl⟩
def fG:Option Int->Int
 |none=>5
 |some _=>0
theorem iy(p0 p1 p2 p3 p4 p5 p6 p7 p8 v:Value)(N:de)(t:ByteArray)(w:World)(hN:bW w v N):Calls prog 9 #[.agg #[p0,p1,p2,p3,p4,p5,p6,p7,p8,v],.string t] w fun e w'=>e=.returned (.tuple #[.int .i64 ((eL N t).getD 0),.int .i64 (fG (eL N t))])/\Below w.heap.size w w':=by
 have HN:=I hN
 obtain⟨ao,c,hv⟩:=hN.shape
 obtain⟨m,hm⟩:∃m,m=N.length:=⟨_,rfl⟩
 rw[<- hm]at hv
 rw[hv]at HN |-
 clear hN hv hm
 go_enter func9,ntmps9
 go_upto_region 1 with fail
 obtain⟨w1,hw1⟩:∃w1,w1=w.alloc (.cells #[p0,p1,p2,p3,p4,p5,p6,p7,p8,.slice ao m c] 28):=⟨_,rfl⟩
 have f9:w1.cell? ⟨w.heap.size,9,none⟩=some (.slice ao m c):=by rw[hw1,World.cell?_alloc_at _ _ _ _ (by simp)];rfl
 have hb1:Below w.heap.size w w1:=by rw[hw1];exact(J _ w).alloc (U _) _
 rw[<- hw1]
 have HB1:=I hb1
 have HI:=I (jR _ N t w1 (HN.o.below hb1))
 obtain⟨r,hr⟩:∃r,r=eL N t:=⟨_,rfl⟩
 have HR:=I hr
 rw[<- hr]at HI
 clear hw1 hb1 hr
 go_wp2_with fail
 refine HI.o.mono ?_
 rintro e w2 ⟨rfl,hb2⟩
 have HB2:=I (HB1.o.trans (hb2.mono HB1.o.size))
 clear hb2 HI
 cases r with
 |none=>
  simp only[Option.getD_none,Option.isSome_none]
  go_wp2
  go_ret2
  rw[<- HR.o]
  exact⟨rfl,HB2.o⟩
 |some z=>
  simp only[Option.getD_some,Option.isSome_some]
  go_wp2
  go_ret2
  rw[<- HR.o]
  exact⟨rfl,HB2.o⟩
end Go.Proofs.YtklbbbldalmnbaaGreatDoor.Pa
namespace Go.Proofs.YtklbbbldalmnbaaGreatDoor.Pa
open Go.RowKit
open TR (Tr NV aL cz aG aV bS)
open TK (Mv bJ)
open Br (BE PS aw)
structure Step(g:Nat)(w w':World):Prop where
 os:w'.os=w.os
 tape:w'.tape=w.tape
 output:w'.output=w.output
 size:w.heap.size<=w'.heap.size
 low:∀k,k<g->w'.heap[k]? =w.heap[k]?
 Jd:∀k,g<k->k<w.heap.size->∀cs e fr,w.heap[k]? =some (.cells cs e fr)->e≠33->e≠110->w'.heap[k]? =some (.cells cs e fr)
theorem Step.refl(g:Nat)(w:World):Step g w w:=⟨rfl,rfl,rfl,U _,fun _ _=>rfl,fun _ _ _ _ _ _ h _ _=>h⟩
theorem Step.trans{g:Nat}{w w1 w2:World}(h:Step g w w1)(k:Step g w1 w2):Step g w w2:=
 ⟨k.os.trans h.os,k.tape.trans h.tape,k.output.trans h.output,Nat.le_trans h.size k.size,fun i hi=>(k.low i hi).trans (h.low i hi),fun i h1 h2 cs e fr hc e1 e2=>k.Jd i h1 (Nat.lt_of_lt_of_le h2 h.size) cs e fr (h.Jd i h1 h2 cs e fr hc e1 e2) e1 e2⟩
theorem Step.dc{g:Nat}{w w':World}(h:Mv g w w')(hg:g<w.heap.size):Step g w w':=
 ⟨h.os,h.tape,h.output,h.size,fun k hk=>h.block k (by omega) (by omega),fun k h1 h2 cs e fr hc _ _=>by rw[h.block k h2 (by omega)];exact hc⟩
theorem Step.ae{g:Nat}{w w':World}(h:Below w.heap.size w w')(hg:g<w.heap.size):Step g w w':=Step.dc (Mv.ae h) hg
theorem Step.below{g:Nat}{w w':World}(h:Step g w w'):Below g w w':=⟨h.os,h.tape,h.output,h.size,h.low⟩
theorem Step.H7{g lo hi:Nat}{w w':World}(h:Step g w w')(h1:g<lo)(h2:hi<=w.heap.size):br lo hi w w':=fun k a b cs e he hc=>by
 refine h.Jd k (by omega) (by omega) cs e _ hc ?_ ?_
 ·rcases he with rfl|rfl<;>decide
 ·rcases he with rfl|rfl<;>decide
theorem Step.lh{g k:Nat}{w w':World}{cs:Array Value}{e:TypeId}{fr:Nat×Nat}(h:Step g w w')(hk:g<k)(hc:w.heap[k]? =some (.cells cs e fr))(e1:e≠33)(e2:e≠110):w'.heap[k]? =some (.cells cs e fr):=
 h.Jd k hk (TR.lt_of_block hc) cs e fr hc e1 e2
def eV(N:List Nm):List Value:=N.flatMap fun n=>[.string n.1,.int .i64 n.2]
def fI(A:List Ag):List Value:=A.flatMap fun a=>[.int .i64 a.num,.string a.name,.int .i64 (a.pos:Nat)]
theorem qL(a b:List Nm):eV (a++b)=eV a++eV b:=by simp[eV]
theorem pU(a b:List Ag):fI (a++b)=fI a++fI b:=by simp[fI]
theorem oF:∀(N:List Nm) (k:Nat) (h:k<N.length),(eV N)[k*2]? =some (.string N[k].1)/\(eV N)[k*2+1]? =some (.int .i64 N[k].2)
 |n::N,0,h=>⟨rfl,rfl⟩
 |n::N,k+1,h=>by
  have:=oF N k (by simpa using h)
  have e:eV (n::N)=.string n.1:: .int .i64 n.2::eV N:=rfl
  rw[e,show(k+1)*2=k*2+1+1 from by omega]
  simpa using this
theorem ou:∀(A:List Ag) (k:Nat) (h:k<A.length),(fI A)[k*3]? =some (.int .i64 A[k].num)/\(fI A)[k*3+1]? =some (.string A[k].name)/\(fI A)[k*3+2]? =some (.int .i64 (A[k].pos:Nat))
 |a::A,0,h=>⟨rfl,rfl,rfl⟩
 |a::A,k+1,h=>by
  have:=ou A k (by simpa using h)
  have e:fI (a::A)=.int .i64 a.num:: .string a.name:: .int .i64 (a.pos:Nat)::fI A:=rfl
  rw[e,show(k+1)*3=k*3+1+1+1 from by omega]
  simpa using this
abbrev H6(d:Int)(v:Value)(s:St)(nv av:Value):Obj:=.cells #[.int .i64 d,v,.int .i64 s.tok.kind,.int .i64 s.tok.num,.string s.tok.text,.bool s.tok.neg,.int .i64 s.tok.least,.int .i64 s.tok.an,.int .i64 s.tok.bB,.int .i64 s.tok.fold,.int .i64 (s.pos:Nat),.int .i64 (s.next:Nat),.bool s.aD,.int .i64 (s.deep:Nat),.int .i64 (s.aF:Nat),nv,av] 73 (0,0)
structure RB(w:World)(g:Nat)(v:Value)(l:List Int)(d:Int)(s:St)(nv av:Value):Prop where
 box:w.heap[g]? =some (H6 d v s nv av)
 pat:bJ w v l
 ne:∀x c,0<l.length->v=.slice (some x) l.length c->x.block<g
 jA:w.ownsRow (g+1) 33 2 nv s.names.length (eV s.names)
 jf:w.ownsRow (g+1) 110 3 av s.ay.length (fI s.ay)
 Bl:Fo.iP w
 low:3<g
 pe:TK.cq d l=0
variable {w w' : World} {g : Nat} {v : Value} {l : List Int} {d : Int} {s s' : St} {nv av : Value}
theorem RB.lt(h:RB w g v l d s nv av):g<w.heap.size:=TR.lt_of_block h.box
theorem RB.small(h:RB w g v l d s nv av):l.length<=300:=(TK.oW h.pe).2.1
theorem RB.mv(h:RB w g v l d s nv av)(hm:Mv g w w')(hbox:w'.heap[g]? =some (H6 d v s' nv av))(hn:s'.names=s.names)(ha:s'.ay=s.ay):RB w' g v l d s' nv av:=by
 have hk:∀{e k n:Nat} {u:Value} {xs:List Value},w.ownsRow (g+1) e k u n xs->w'.ownsRow (g+1) e k u n xs:=fun {e k n u xs} ho=>by
  refine⟨ho.1,?_⟩
  rcases ho.2 with h2|⟨b,cap,cur,rfl,h3,hg,h4⟩
  ·exact .inl h2
  ·exact .inr ⟨b,cap,cur,rfl,h3,by rw[hm.block b (TR.lt_of_block hg) (by omega)];exact hg,h4⟩
 refine⟨hbox,?_,h.ne,by rw[hn];exact hk h.jA,by rw[ha];exact hk h.jf,h.Bl.below (hm.below h.lt) h.low,h.low,h.pe⟩
 exact Br.bJ.mv h.pat hm fun x c hl e=>by have:=h.ne x c hl e;omega
theorem RB.ar(h:RB w g v l d s nv av)(hb:Below w.heap.size w w'):RB w' g v l d s nv av:=
 h.mv (Mv.ae hb) (by rw[hb.block g h.lt];exact h.box) rfl rfl
theorem RB.alloc(h:RB w g v l d s nv av)(o:Obj):RB (w.alloc o) g v l d s nv av:=h.ar ((J _ w).alloc (U _) o)
theorem RB.drewN(h:RB w g v l d s nv av)(q:Nat):RB (w.drewN q) g v l d s nv av:=h.ar ⟨rfl,rfl,rfl,U _,fun _ _=>rfl⟩
theorem RB.set(h:RB w g v l d s nv av)(i:Nat)(u:Value)(hbox:(H6 d v s' nv av)=.cells ((#[.int .i64 d,v,.int .i64 s.tok.kind,.int .i64 s.tok.num,.string s.tok.text,.bool s.tok.neg,.int .i64 s.tok.least,.int .i64 s.tok.an,.int .i64 s.tok.bB,.int .i64 s.tok.fold,.int .i64 (s.pos:Nat),.int .i64 (s.next:Nat),.bool s.aD,.int .i64 (s.deep:Nat),.int .i64 (s.aF:Nat),nv,av]:Array Value).setIfInBounds i u) 73 (0,0))(hn:s'.names=s.names)(ha:s'.ay=s.ay):RB (w.setCell ⟨g,i,none⟩ u) g v l d s' nv av:=by
 refine h.mv ((Mv.refl g w).setCell i u) ?_ hn ha
 rw[hbox]
 exact TK.bd h.box i u
theorem RB.rd(h:RB w g v l d s nv av):w.cell? ⟨g,0,none⟩=some (.int .i64 d)/\w.cell? ⟨g,1,none⟩=some v/\w.cell? ⟨g,10,none⟩=some (.int .i64 (s.pos:Nat))/\w.cell? ⟨g,11,none⟩=some (.int .i64 (s.next:Nat))/\w.cell? ⟨g,12,none⟩=some (.bool s.aD)/\w.cell? ⟨g,13,none⟩=some (.int .i64 (s.deep:Nat))/\w.cell? ⟨g,14,none⟩=some (.int .i64 (s.aF:Nat))/\w.cell? ⟨g,15,none⟩=some nv/\w.cell? ⟨g,16,none⟩=some av:=by
 refine⟨?_,?_,?_,?_,?_,?_,?_,?_,?_⟩<;>simp[World.cell?,h.box]
theorem RB.tk(h:RB w g v l d s nv av):w.cell? ⟨g,2,none⟩=some (.int .i64 s.tok.kind)/\w.cell? ⟨g,3,none⟩=some (.int .i64 s.tok.num)/\w.cell? ⟨g,4,none⟩=some (.string s.tok.text)/\w.cell? ⟨g,5,none⟩=some (.bool s.tok.neg)/\w.cell? ⟨g,6,none⟩=some (.int .i64 s.tok.least)/\w.cell? ⟨g,7,none⟩=some (.int .i64 s.tok.an)/\w.cell? ⟨g,8,none⟩=some (.int .i64 s.tok.bB)/\w.cell? ⟨g,9,none⟩=some (.int .i64 s.tok.fold):=by
 refine⟨?_,?_,?_,?_,?_,?_,?_,?_⟩<;>simp[World.cell?,h.box]
theorem RB.fr(h:RB w g v l d s nv av)(i:Nat):w.frozen? ⟨g,i,none⟩=false:=by
 simp[World.frozen?,h.box]
theorem RB.names(h:RB w g v l d s nv av):bW w nv s.names:=by
 have ho:=h.jA
 rcases ho.2 with⟨h1,h2⟩|⟨b,cap,cur,h1,h3,h4,h5,h6,h7,h8⟩
 ·exact .inl ⟨h1,List.eq_nil_of_length_eq_zero h2⟩
 ·refine .inr ⟨⟨b,0,none⟩,cap,h1,⟨h5,h6⟩,fun j hj=>?_⟩
  rw[h1]at ho
  obtain⟨a1,a2⟩:=oF s.names j hj
  rw[C0]
  exact⟨(World.ownsRow.cellAt ho (j*2) (by omega)).trans a1,(World.ownsRow.cellAt ho (j*2+1) (by omega)).trans a2⟩
structure Inv(l:List Int)(s:St):Prop where
 pos:s.pos<=l.length
 next:s.next<=l.length
 on:s.pos<l.length->s.pos<s.next/\cI s.tok
 off:s.pos=l.length->s.tok={}
 jf:s.ay.length<=s.pos
 jA:s.names.length<=s.aF
 og:s.aF<=20
 deep:s.deep<=20
def FF(R:Except BE St)(g:Nat)(v:Value)(l:List Int)(d:Int)(nv av:Value)(w:World)(e:Ending)(w':World):Prop:=
 (∃s',R=.ok s'/\e=.returned (.tuple #[])/\RB w' g v l d s' nv av/\Mv g w w')\/(∃z a,R=.error (z,a)/\e=aw z a/\Mv g w w')
def j8(R:Except BE (Tr×St))(g:Nat)(v:Value)(l:List Int)(d:Int)(w:World)(e:Ending)(w':World):Prop:=
 (∃t s' n nv av,R=.ok (t,s')/\e=.returned (cz n)/\bG w' w.heap.size w'.heap.size n t/\RB w' g v l d s' nv av/\Step g w w')\/(∃z a,R=.error (z,a)/\e=aw z a/\Step g w w')
theorem cH{f:Func}{tmps:Array Value}{W:World}{N s:Nat}{n:NV}{R:Ending->World->Prop}(hres:f.results=#[ResultVar.cell s 25])(h2:tmps[s]? =some (.pointer (some ⟨N,0,none⟩)))(q1:aL W ⟨N,0,none⟩ n)(hF:R (.returned (cz n)) W):
  bodyPost prog f R Exit.ret { tmps:=tmps,defers:=[] } W:=by
 refine bodyPost_ret (v:=cz n) ?_ rfl hF
 have c0:=q1.c0
 have c1:=q1.c1
 have c2:=q1.c2
 have c3:=q1.c3
 have c4:=q1.c4
 have c5:=q1.c5
 have c6:=q1.c6
 have c7:=q1.c7
 simp only[Nat.zero_add]at c0 c1 c2 c3 c4 c5 c6 c7
 simp[results,hres,go_sem,h2,c0,c1,c2,c3,c4,c5,c6,c7]
theorem aO(e a:Int)(w:World):Calls prog 49 #[.int .i64 e,.int .i64 a] w fun r w'=>r=aw e a/\w=w':=by
 go_enter func49,ntmps49
 go_wp2
 exact⟨rfl,rfl,rfl⟩
end Go.Proofs.YtklbbbldalmnbaaGreatDoor.Pa
