import Derived.Test.YtklbbbldalmnbaaGreatDoorKL
import Derived.Test.YtklbbbldalmnbaaGreatDoorKV
import Derived.Test.YtklbbbldalmnbaaGreatDoorMB
import Derived.Test.YtklbbbldalmnbaaGreatDoorKQ
import Derived.Maps.AppendAt
import Derived.Test.YtklbbbldalmnbaaGreatDoorZp
import Derived.Test.YtklbbbldalmnbaaGreatDoorProg
import Derived.WalkKit
import Derived.WalkLawsBesides
import Derived.Handy
import Derived.Below
import Derived.OneCell
import Derived.Deep.Cut
import Derived.PlainAid
import Derived.BigQuiet
import Derived.Deep.QuietTactic
set_option linter.unusedVariables false
set_option maxHeartbeats 2000000
set_option maxRecDepth 100000
open Go.Proofs.Tryz
namespace Go.Proofs.YtklbbbldalmnbaaGreatDoor.Pa
open TK
def cp(t:Tok):Prop:=
 (t.kind=1/\0<=t.num/\t.num<=1114111)\/t.kind=2\/(t.kind=3/\3<=t.num/\t.num<=8)\/(t.kind=4/\(t.text=ep\/t.text=dS\/t.text=er\/t.text=dB))\/t.kind=5\/
 (t.kind=6/\0<=t.least/\t.least<=100/\(t.ar= -1\/(t.least<=t.ar/\t.ar<=100))/\1<=t.bC/\t.bC<=3)\/
 (t.kind=7/\(t.num=1\/t.num=11\/t.num=13\/t.num=14\/t.num=15\/t.num=16\/t.num=17)/\(t.text.toList=[]\/∃l i,t.text=bI (bQ l i)/\bQ l i≠[]/\(∀p∈l,0<=p/\p<=1114111))/\ -1<=t.fold/\t.fold<=1)\/
 t.kind=8\/t.kind=9\/(t.kind=10/\ -999<=t.num/\t.num<=999)\/(t.kind=11/\ -1<=t.fold/\t.fold<=1)
theorem fQ{p:Int}(h:0<=p/\p<=1114111):cp (aR p):=.inl ⟨rfl,h⟩
theorem gC{p:Int}(h:3<=p/\p<=8):cp (bz p):=.inr (.inr (.inl ⟨rfl,h⟩))
theorem nP{p:Int}(h: -999<=p/\p<=999):cp (aU p):=by
 unfold cp aU;simp;omega
theorem jg{p:Int}(h:p=1\/p=11\/p=13\/p=14\/p=15\/p=16\/p=17):cp (aW p):=by
 unfold cp aW
 simp
 omega
theorem rm{c:ByteArray×Bool}(h:c.1=ep\/c.1=dS\/c.1=er\/c.1=dB):cp (ej c):=by
 unfold cp ej;simp;exact h
theorem uP{d:Int}{l:List Int}{i:Nat}{a b:Int}(h:0<=a/\a<=100/\(b= -1\/(a<=b/\b<=100))):cp (cL d l i a b).1:=by
 unfold cL cp
 split
 ·split
  ·simp;omega
  ·split
   ·simp;omega
   ·simp;omega
 ·simp;omega
theorem jw(base:Int)(hb:0<base):∀(k:Nat) (l:List Int) (n:Int) (c:Nat),0<=n->0<=(eF base k l n c).1/\(eF base k l n c).1<(n+1)*base ^ k
 |0,l,n,c,h=>by unfold eF;simp;omega
 |k+1,[],n,c,h=>by
  unfold eF
  refine⟨h,?_⟩
  have h1:(1:Int)<=base ^ (k+1):=Int.pow_pos hb
  have:(n+1)*1<=(n+1)*base ^ (k+1):=Int.mul_le_mul_of_nonneg_left h1 (by omega)
  omega
 |k+1,p::t,n,c,h=>by
  unfold eF
  have hd:=nr p
  split
  ·rename_i hlt
   have h0:0<=n*base:=Int.mul_nonneg h (by omega)
   have:=jw base hb k t (n*base+dM p) (c+1) (by omega)
   refine⟨this.1,Int.lt_of_lt_of_le this.2 ?_⟩
   have h1:(0:Int)<=base ^ k:=Int.le_of_lt (Int.pow_pos hb)
   have h2:n*base+dM p+1<=(n+1)*base:=by rw[Int.add_mul];omega
   have h3:=Int.mul_le_mul_of_nonneg_right h2 h1
   rw[Int.pow_succ,Int.mul_comm (base ^ k) base, <-Int.mul_assoc]
   exact h3
  ·have h1:(1:Int)<=base ^ (k+1):=Int.pow_pos hb
   have:(n+1)*1<=(n+1)*base ^ (k+1):=Int.mul_le_mul_of_nonneg_left h1 (by omega)
   exact⟨h,by omega⟩
theorem nt(base:Int)(hb:0<base)(k:Nat)(l:List Int)(i:Nat):0<=(cZ base k l i).1/\(cZ base k l i).1<base ^ k:=by
 have:=jw base hb k (l.drop i) 0 0 (by omega)
 simpa[cZ]using this
theorem Ej(l:List Int)(i:Nat):0<=(cZ 10 3 l i).1/\(cZ 10 3 l i).1<=999:=by
 have:=nt 10 (by decide) 3 l i
 have h:(10:Int) ^ 3=1000:=by decide
 omega
theorem KF(l:List Int)(i:Nat):0<=(cZ 10 1 l i).1/\(cZ 10 1 l i).1<=9:=by
 have:=nt 10 (by decide) 1 l i
 have h:(10:Int) ^ 1=10:=by decide
 omega
theorem Ei(k:Nat)(hk:k<=4)(l:List Int)(i:Nat):0<=(cZ 16 k l i).1/\(cZ 16 k l i).1<=1114111:=by
 have:=nt 16 (by decide) k l i
 have h:(16:Int) ^ k<=65536:=by
  match k,hk with
  |0,_=>decide
  |1,_=>decide
  |2,_=>decide
  |3,_=>decide
  |4,_=>decide
 omega
theorem CS(d:Int)(l:List Int)(i:Nat):0<=(cC d l i).1/\ -1<=(cC d l i).2.1:=by
 have h1:=Ej l i
 have h2:=Ej l (i+(cZ 10 3 l i).2+1)
 unfold cC
 simp only
 repeat' split
 all_goals (constructor<;>simp only<;>omega)
theorem Fl{d:Int}{l:List Int}{i:Nat}{t:Tok}{k:Nat}(h:dh d l i=.ok (t,k)):cp t:=by
 unfold dh at h
 simp only at h
 have hb:=CS d l i
 split at h
 ·split at h
  ·cases h;exact fQ (by decide)
  ·cases h
 ·split at h
  ·cases h
  ·split at h
   ·cases h
   ·rename_i h1 h2 h3
    injection h with h
    have h1:=congrArg Prod.fst h
    simp only at h1
    rw[<- h1]
    exact uP (by omega)
theorem Fk{l:List Int}{i:Nat}{f:Int}{t:Tok}{k:Nat}(hf: -1<=f/\f<=1)(h:iw l i f=.ok (t,k)):cp t:=by
 unfold iw at h
 split at h
 ·cases h;unfold cp;simp;omega
 ·split at h
  ·cases h;unfold cp;simp;omega
  ·cases h
theorem JN{l:List Int}{i:Nat}{t:Tok}{k:Nat}(hp:∀p∈l,0<=p/\p<=1114111)(h:gh l i=.ok (t,k)):cp t:=by
 unfold gh at h
 split at h
 ·cases h;exact jg (by simp)
 ·split at h
  ·cases h;exact jg (by simp)
  ·split at h
   ·cases h
   ·split at h
    ·rename_i hn _
     cases h
     unfold cp
     refine .inr (.inr (.inr (.inr (.inr (.inr (.inl ⟨rfl,.inr (.inl rfl),.inr ⟨l,i,rfl,hn,hp⟩,by simp,by simp⟩))))))
    ·cases h
theorem Fj{d:Int}{l:List Int}{i:Nat}{t:Tok}{k:Nat}(hp:∀p∈l,0<=p/\p<=1114111)(h:dz d l i=.ok (t,k)):cp t:=by
 unfold dz at h
 split at h
 ·cases h;exact jg (by simp)
 ·split at h
  ·cases h;exact jg (by simp)
  ·split at h
   ·cases h
   ·split at h
    ·cases h;exact jg (by simp)
    ·split at h
     ·cases h;exact jg (by simp)
     ·split at h
      ·cases h;exact jg (by simp)
      ·split at h
       ·cases h;exact jg (by simp)
       ·split at h
        ·exact JN hp h
        ·split at h
         ·exact Fk (by omega) h
         ·split at h
          ·split at h
           ·exact Fk (by omega) h
           ·cases h
          ·cases h
theorem A4{d:Int}{l:List Int}{p:Int}{i:Nat}{t:Tok}{k:Nat}(hl:∀p∈l,0<=p/\p<=1114111)(hp:0<=p/\p<=1114111)(h:dW d l p i=.ok (t,k)):cp t:=by
 unfold dW at h
 split at h
 ·exact Fj hl h
 ·split at h
  ·cases h;unfold cp;simp
  ·split at h
   ·cases h;unfold cp;simp
   ·split at h
    ·exact Fl h
    ·cases h;exact fQ hp
theorem JR{l:List Int}{i:Nat}{t:Tok}{k:Nat}(h:fL l i=.ok (t,k)):cp t:=by
 unfold fL at h
 simp only at h
 split at h
 ·split at h
  ·cases h
  ·cases h;exact fQ (Ei 2 (by omega) l i)
 ·split at h
  ·cases h
  ·split at h
   ·cases h
   ·split at h
    ·cases h
    ·rename_i h1 h2 h3
     cases h;exact fQ ⟨(nt 16 (by decide) 6 l (i+1)).1,by omega⟩
theorem JS{l:List Int}{i:Nat}{t:Tok}{k:Nat}(h:lE l i=.ok (t,k)):cp t:=by
 unfold lE at h
 simp only at h
 split at h
 ·cases h
 ·cases h;exact fQ (Ei 4 (by omega) l i)
theorem JM{l:List Int}{i:Nat}{n:Int}(hn:0<=n/\n<=9):cp (jP l i n).1:=by
 unfold jP
 have:=KF l i
 simp only
 split
 ·exact nP (by omega)
 ·exact nP (by omega)
theorem JL{l:List Int}{i:Nat}{t:Tok}{k:Nat}(h:ff l i=.ok (t,k)):cp t:=by
 unfold ff at h
 simp only at h
 split at h
 ·cases h
 ·generalize (if bw l (i+1) [45]=true then i+2 else i+1)=j at h
  have:=Ej l j
  split at h
  ·split at h
   ·cases h
   ·split at h
    ·cases h
    ·cases h
     refine nP ?_
     split<;>omega
  ·split at h
   ·cases h
   ·split at h
    ·cases h
    ·split at h
     ·cases h
     ·cases h;unfold cp;simp
theorem JO{p:Int}{c:ByteArray×Bool}(h:jq p=some c):c.1=ep\/c.1=dS\/c.1=er\/c.1=dB:=by
 unfold jq at h
 repeat' split at h
 all_goals first|(cases h;simp)|cases h
theorem JP{p q:Int}(hp:0<=p/\p<=1114111)(h:iP p=.ok q):0<=q/\q<=1114111:=by
 unfold iP at h
 repeat' split at h
 all_goals first|(cases h;omega)|cases h
theorem Ic{l:List Int}{i:Nat}{p:Int}{t:Tok}{k:Nat}(hp:0<=p/\p<=1114111)(h:dj l i p=.ok (t,k)):cp t:=by
 unfold dj at h
 split at h
 ·rename_i c hc
  cases h;exact rm (JO hc)
 ·split at h
  ·cases h;exact gC (by decide)
  ·split at h
   ·cases h;exact gC (by decide)
   ·split at h
    ·cases h;exact gC (by decide)
    ·split at h
     ·cases h;exact gC (by decide)
     ·split at h
      ·exact JR h
      ·split at h
       ·exact JS h
       ·split at h
        ·exact JL h
        ·split at h
         ·injection h with h
          have h1:=congrArg Prod.fst h
          simp only at h1
          rw[<- h1]
          exact JM (by omega)
         ·split at h
          ·rename_i q hq
           cases h;exact fQ (JP hp hq)
          ·cases h
theorem Fi{l:List Int}{i:Nat}{p:Int}{t:Tok}{k:Nat}(hl:∀p∈l,0<=p/\p<=1114111)(hp:0<=p/\p<=1114111)(h:bX l i p=.ok (t,k)):cp t:=by
 unfold bX at h
 split at h
 ·exact A4 hl hp h
 ·split at h
  ·cases h;exact rm (by simp)
  ·split at h
   ·cases h;exact rm (by simp)
   ·split at h
    ·cases h;exact gC (by decide)
    ·split at h
     ·cases h;exact gC (by decide)
     ·split at h
      ·cases h;exact gC (by decide)
      ·split at h
       ·cases h;exact gC (by decide)
       ·split at h
        ·cases h;exact nP (by omega)
        ·cases h;exact fQ hp
theorem JQ{d:Int}{l:List Int}{i:Nat}{t:Tok}{k:Nat}(hl:∀p∈l,0<=p/\p<=1114111)(h:jx d l i=.ok (t,k)):cp t:=by
 unfold jx at h
 split at h
 ·cases h
 ·rename_i p hp
  have hpp:=hl p (List.mem_of_getElem? hp)
  split at h
  ·exact Ic hpp h
  ·split at h
   ·exact Fi hl hpp h
   ·cases h;exact fQ hpp
theorem H6{d:Int}{l:List Int}{i:Nat}{t:Tok}{k:Nat}(hl:∀p∈l,0<=p/\p<=1114111)(h:aV d l i=.ok (t,k)):cp t:=by
 unfold aV at h
 split at h
 ·cases h
 ·rename_i p hp
  have hpp:=hl p (List.mem_of_getElem? hp)
  unfold kI at h
  split at h
  ·exact JQ hl h
  ·split at h
   ·cases h;unfold cp;simp
   ·split at h
    ·cases h;exact gC (by decide)
    ·split at h
     ·cases h;exact gC (by decide)
     ·split at h
      ·cases h;unfold cp;simp
      ·split at h
       ·injection h with h
        have h1:=congrArg Prod.fst h
        simp only at h1
        rw[<- h1]
        exact uP (by omega)
       ·split at h
        ·injection h with h
         have h1:=congrArg Prod.fst h
         simp only at h1
         rw[<- h1]
         exact uP (by omega)
        ·split at h
         ·injection h with h
          have h1:=congrArg Prod.fst h
          simp only at h1
          rw[<- h1]
          exact uP (by omega)
         ·split at h
          ·cases h;exact fQ hpp
          ·exact A4 hl hpp h
/-! ### where a token ends -/
theorem s8(base:Int):∀(k:Nat) (l:List Int) (n:Int) (c:Nat),(eF base k l n c).2<=c+l.length
 |0,l,n,c=>by unfold eF;simp
 |k+1,[],n,c=>by unfold eF;simp
 |k+1,p::t,n,c=>by
  unfold eF
  split
  ·have :=s8 base k t (n*base+dM p) (c+1)
   simp only[List.length_cons]
   omega
  ·simp only;omega
theorem kT(base:Int)(k:Nat)(l:List Int)(i:Nat)(hi:i<=l.length):i+(cZ base k l i).2<=l.length:=by
 have:=s8 base k (l.drop i) 0 0
 rw[List.length_drop]at this
 unfold cZ
 omega
theorem jH{l:List Int}{i:Nat}{p:Int}(h:bw l i [p]=true):i+1<=l.length:=fU h (by simp)
theorem Jf{l:List Int}{i:Nat}{p q:Int}(h:bw l i [p,q]=true):i+2<=l.length:=fU h (by simp)
theorem pP(d:Int)(l:List Int)(i:Nat)(a b:Int)(hi:i<=l.length):(cL d l i a b).2<=l.length:=by
 unfold cL
 split
 ·split
  ·rename_i h;exact jH h
  ·split
   ·rename_i h;exact jH h
   ·exact hi
 ·exact hi
theorem yU(d:Int)(l:List Int)(i:Nat)(hi:i<=l.length):(cC d l i).2.2.2<=l.length:=by
 have h1:=kT 10 3 l i hi
 unfold cC
 simp only
 by_cases hc:bw l (i+(cZ 10 3 l i).2) [44]=true
 ·have h2:=kT 10 3 l (i+(cZ 10 3 l i).2+1) (jH hc)
  rw[if_pos hc]
  simp only
  generalize i+(cZ 10 3 l i).2+1+(cZ 10 3 l (i+(cZ 10 3 l i).2+1)).2=j at*
  split
  ·exact h2
  ·split
   ·simp only
    split
    ·rename_i h;exact Jf h
    ·exact h2
   ·simp only
    split
    ·rename_i h;exact jH h
    ·exact h2
 ·rw [if_neg hc]
  simp only
  generalize i+(cZ 10 3 l i).2=j at*
  split
  ·exact h1
  ·split
   ·simp only
    split
    ·rename_i h;exact Jf h
    ·exact h1
   ·simp only
    split
    ·rename_i h;exact jH h
    ·exact h1
theorem DC{d:Int}{l:List Int}{i:Nat}{t:Tok}{k:Nat}(hi:i<=l.length)(h:dh d l i=.ok (t,k)):k<=l.length:=by
 unfold dh at h
 simp only at h
 split at h
 ·split at h
  ·cases h;exact hi
  ·cases h
 ·split at h
  ·cases h
  ·split at h
   ·cases h
   ·injection h with h
    have h1:=congrArg Prod.snd h
    simp only at h1
    rw[<- h1]
    exact pP _ _ _ _ _ (yU d l i hi)
theorem A7{l:List Int}{i:Nat}{f:Int}{t:Tok}{k:Nat}(h:iw l i f=.ok (t,k)):k<=l.length:=by
 unfold iw at h
 split at h
 ·rename_i hs;cases h;exact jH hs
 ·split at h
  ·rename_i hs;cases h;exact jH hs
  ·cases h
theorem GR{l:List Int}{i:Nat}{t:Tok}{k:Nat}(h:gh l i=.ok (t,k)):k<=l.length:=by
 unfold gh at h
 split at h
 ·rename_i hs;cases h;exact jH hs
 ·split at h
  ·rename_i hs;cases h;exact jH hs
  ·split at h
   ·cases h
   ·split at h
    ·rename_i hs;cases h;exact jH hs
    ·cases h
theorem CU{d:Int}{l:List Int}{i:Nat}{t:Tok}{k:Nat}(hi:i<=l.length)(h:dz d l i=.ok (t,k)):k<=l.length:=by
 unfold dz at h
 split at h
 ·cases h;exact hi
 ·split at h
  ·cases h;exact hi
  ·split at h
   ·cases h
   ·rename_i p hp
    have hlt:=(List.getElem?_eq_some_iff.1 hp).1
    split at h
    ·cases h;omega
    ·split at h
     ·cases h;omega
     ·split at h
      ·cases h;omega
      ·split at h
       ·cases h;omega
       ·split at h
        ·exact GR h
        ·split at h
         ·exact A7 h
         ·split at h
          ·split at h
           ·exact A7 h
           ·cases h
          ·cases h
theorem xz{d:Int}{l:List Int}{p:Int}{i:Nat}{t:Tok}{k:Nat}(hi:i<=l.length)(h:dW d l p i=.ok (t,k)):k<=l.length:=by
 unfold dW at h
 split at h
 ·exact CU hi h
 ·split at h
  ·cases h;exact hi
  ·split at h
   ·cases h;exact hi
   ·split at h
    ·exact DC hi h
    ·cases h;exact hi
theorem pH{l:List Int}{i:Nat}{t:Tok}{k:Nat}(hi:i<=l.length)(h:fL l i=.ok (t,k)):k<=l.length:=by
 unfold fL at h
 simp only at h
 split at h
 ·split at h
  ·cases h
  ·cases h;exact kT 16 2 l i hi
 ·split at h
  ·cases h
  ·split at h
   ·cases h
   ·split at h
    ·cases h
    ·rename_i h1 h2 h3
     cases h
     exact jH (by simpa using h2)
theorem IS{l:List Int}{i:Nat}{t:Tok}{k:Nat}(hi:i<=l.length)(h:lE l i=.ok (t,k)):k<=l.length:=by
 unfold lE at h
 simp only at h
 split at h
 ·cases h
 ·cases h;exact kT 16 4 l i hi
theorem GC{l:List Int}{i:Nat}{n:Int}(hi:i<=l.length):(jP l i n).2<=l.length:=by
 unfold jP
 have:=kT 10 1 l i hi
 simp only
 split
 ·simp only;omega
 ·exact hi
theorem Gz{l:List Int}{i:Nat}{t:Tok}{k:Nat}(h:ff l i=.ok (t,k)):k<=l.length:=by
 unfold ff at h
 simp only at h
 split at h
 ·cases h
 ·generalize (if bw l (i+1) [45]=true then i+2 else i+1)=j at h
  split at h
  ·split at h
   ·cases h
   ·rename_i hs
    split at h
    ·cases h
    ·cases h
     exact jH (by simpa using hs)
  ·split at h
   ·cases h
   ·split at h
    ·cases h
    ·split at h
     ·cases h
     ·rename_i hs
      cases h;exact jH (by simpa using hs)
theorem FZ{l:List Int}{i:Nat}{p:Int}{t:Tok}{k:Nat}(hi:i<=l.length)(h:dj l i p=.ok (t,k)):k<=l.length:=by
 unfold dj at h
 split at h
 ·cases h;exact hi
 ·split at h
  ·cases h;exact hi
  ·split at h
   ·cases h;exact hi
   ·split at h
    ·cases h;exact hi
    ·split at h
     ·cases h;exact hi
     ·split at h
      ·exact pH hi h
      ·split at h
       ·exact IS hi h
       ·split at h
        ·exact Gz h
        ·split at h
         ·injection h with h
          have h1:=congrArg Prod.snd h
          simp only at h1
          rw[<- h1]
          exact GC hi
         ·split at h
          ·cases h;exact hi
          ·cases h
theorem Cn{l:List Int}{i:Nat}{p:Int}{t:Tok}{k:Nat}(hi:i<=l.length)(h:bX l i p=.ok (t,k)):k<=l.length:=by
 unfold bX at h
 split at h
 ·exact xz hi h
 ·repeat' split at h
  all_goals (cases h;exact hi)
theorem Hb{d:Int}{l:List Int}{i:Nat}{t:Tok}{k:Nat}(h:jx d l i=.ok (t,k)):k<=l.length:=by
 unfold jx at h
 split at h
 ·cases h
 ·rename_i p hp
  have hlt:=(List.getElem?_eq_some_iff.1 hp).1
  split at h
  ·exact FZ (by omega) h
  ·split at h
   ·exact Cn (by omega) h
   ·cases h;omega
theorem xe{d:Int}{l:List Int}{i:Nat}{t:Tok}{k:Nat}(h:aV d l i=.ok (t,k)):k<=l.length:=by
 unfold aV at h
 split at h
 ·cases h
 ·rename_i p hp
  have hlt:=(List.getElem?_eq_some_iff.1 hp).1
  unfold kI at h
  split at h
  ·exact Hb h
  ·split at h
   ·cases h;omega
   ·split at h
    ·cases h;omega
    ·split at h
     ·cases h;omega
     ·split at h
      ·cases h;omega
      ·split at h
       ·injection h with h
        have h1:=congrArg Prod.snd h
        simp only at h1
        rw[<- h1]
        exact pP _ _ _ _ _ (by omega)
       ·split at h
        ·injection h with h
         have h1:=congrArg Prod.snd h
         simp only at h1
         rw[<- h1]
         exact pP _ _ _ _ _ (by omega)
        ·split at h
         ·injection h with h
          have h1:=congrArg Prod.snd h
          simp only at h1
          rw[<- h1]
          exact pP _ _ _ _ _ (by omega)
         ·split at h
          ·cases h;omega
          ·exact xz (by omega) h
end Go.Proofs.YtklbbbldalmnbaaGreatDoor.Pa
namespace Go.Proofs.YtklbbbldalmnbaaGreatDoor.Pa
open TR (Tr)
open Br (BE PS)
abbrev Nm:Type:=ByteArray×Int
structure Ag where
 num:Int
 name:ByteArray
 pos:Nat
structure St where
 tok:TK.Tok:={}
 pos:Nat:=0
 next:Nat:=0
 aD:Bool:=false
 deep:Nat:=0
 ay:Nat:=0
 names:List Nm:=[]
 aE:List Ag:=[]
def gp:Tr:=.mk 1 0 0 0 0 false [] []
def qR(k:Int):Tr:=.mk k 0 0 0 0 false [] []
def fh(S:RL):Tr:=.mk 2 0 0 0 0 false S []
def cL(t:Tr)(k:TK.Tok):Tr:=.mk 12 0 k.least k.ar k.bC false [] [t]
def ga(ps:List Tr):List Tr:=ps.flatMap fun t=>if t.kind=1 then []else if t.kind=9 then t.kids else [t]
def gO(ps:List Tr):Tr:=match ga ps with
 |[]=>gp
 |[t]=>t
 |ks=>.mk 9 0 0 0 0 false [] ks
def eV(bs:List Tr):Tr:=match bs with
 |[t]=>t
 |bs=>.mk 10 0 0 0 0 false [] (bs.flatMap fun t=>if t.kind=10 then t.kids else [t])
def dF(d:Int)(l:List Int)(s:St):Except BE St:=
 if s.next=l.length then .ok { s with pos:=s.next,tok:={} }
 else match TK.aV d l s.next with
  | .error z=>.error (z,(s.next:Int))
  | .ok (t,k)=>.ok { s with pos:=s.next,tok:=t,next:=k }
def bE(s:St)(o:Int):Bool:=if o=0 then s.aD else decide (0<o)
def fe(s:St):Except BE (Tr×St):=
 let n:=if s.tok.num<0 then s.tok.num+(s.ay+1:Nat)else s.tok.num
 if s.tok.num<0/\n<=0 then .error (5,(s.pos:Int))
 else .ok (.mk 18 s.aE.length 0 0 0 s.aD [] [],{ s with aE:=s.aE++[⟨n,s.tok.text,s.pos⟩] })
def hasName(names:List Nm)(t:ByteArray):Bool:=names.any fun n=>n.1.toList==t.toList
def cX(s:St)(name:ByteArray):Except BE St:=
 if s.ay=20 then .error (2,(s.pos:Int))
 else if name.toList=[]then .ok { s with ay:=s.ay+1 }
 else if hasName s.names name then .error (6,(s.pos:Int))
 else .ok { s with ay:=s.ay+1,names:=s.names++[(name,((s.ay+1:Nat):Int))] }
end Go.Proofs.YtklbbbldalmnbaaGreatDoor.Pa
namespace Go.Proofs.YtklbbbldalmnbaaGreatDoor.Pa
open Go.RowKit
open TR (Tr NV aP cK aK bb ch)
def sn(n:NV):List Value:=[.int .i64 n.kind,.slice n.sa n.sl n.sc,.slice n.ka n.kl n.kc,.int .i64 n.num,.int .i64 n.least,.int .i64 n.ar,.int .i64 n.bC,.bool n.fold]
theorem j7(n:NV):(sn n).length=8:=rfl
theorem nO(n:NV):∀v∈sn n,v.oneCell'=true:=by
 intro v hv
 simp only[sn,List.mem_cons,List.not_mem_nil,or_false]at hv
 rcases hv with rfl|rfl|rfl|rfl|rfl|rfl|rfl|rfl<;>rfl
structure Pc where
 nv:NV
 tr:Tr
 lo:Nat
 hi:Nat
def bG(ps:List Pc):List Value:=ps.flatMap fun p=>sn p.nv
theorem kO(p:Pc)(ps:List Pc):bG (p::ps)=sn p.nv++bG ps:=rfl
theorem fj(a b:List Pc):bG (a++b)=bG a++bG b:=by simp[bG]
theorem mG(p:Pc):bG [p]=sn p.nv:=by simp[bG]
theorem mF(ps:List Pc):(bG ps).length=ps.length*8:=by
 induction ps with
 |nil=>rfl
 |cons p ps ih=>rw[kO,List.length_append,j7,ih,List.length_cons];omega
theorem qw:∀(ps:List Pc) (j:Nat) (hj:j<ps.length) (i:Nat),i<8->(bG ps)[j*8+i]? =(sn ps[j].nv)[i]?
 |p::ps,0,hj,i,hi=>by
  rw[kO,List.getElem?_append_left (by rw[j7];omega)]
  simp
 |p::ps,j+1,hj,i,hi=>by
  rw[kO,List.getElem?_append_right (by rw[j7];omega),j7]
  have:=qw ps j (by simpa using hj) i hi
  rw[show (j+1)*8+i - 8=j*8+i from by omega,this]
  rfl
theorem oV(ps:List Pc):∀v∈bG ps,v.oneCell'=true:=by
 intro v hv
 obtain⟨p,_,hp⟩:=List.mem_flatMap.1 hv
 exact nO _ v hp
structure my(w:World)(lo hi:Nat)(v:Value)(ps:List Pc):Prop where
 own:w.ownsRow lo 25 8 v ps.length (bG ps)
 top:∀k,v.ownBlock=some k->k<hi/\∀p∈ps,k<p.lo\/p.hi<=k
 l6:∀p∈ps,lo<=p.lo/\p.lo<=p.hi/\p.hi<=hi
 par:ps.Pairwise fun a b=>a.hi<=b.lo
structure oe(w:World)(lo hi:Nat)(v:Value)(S:RL):Prop where
 own:w.ownsRow lo 76 2 v S.length (aQ S)
 top:∀k,v.ownBlock=some k->k<hi
inductive bP(w:World):Nat->Nat->NV->Tr->Prop
 |mk (lo hi:Nat) (n:NV) (S:RL) (ps:List Pc) (hs:oe w lo hi (.slice n.sa n.sl n.sc) S) (hk:my w lo hi (.slice n.ka n.kl n.kc) ps) (hne:n.kind=9\/n.kind=10->ps≠[]) (h:∀p∈ps,bP w p.lo p.hi p.nv p.tr):bP w lo hi n (.mk n.kind n.num n.least n.ar n.bC n.fold S (ps.map Pc.tr))
def bD(lo hi:Nat)(w w':World):Prop:=∀k,lo<=k->k<hi->∀cs e,(e=25\/e=76)->w.heap[k]? =some (.cells cs e (0,0))->w'.heap[k]? =some (.cells cs e (0,0))
theorem bD.sub{lo hi lo' hi':Nat}{w w':World}(h:bD lo hi w w')(h1:lo<=lo')(h2:hi'<=hi):bD lo' hi' w w':=fun k a b=>h k (by omega) (by omega)
theorem bD.trans{lo hi:Nat}{w w1 w':World}(h:bD lo hi w w1)(h':bD lo hi w1 w'):bD lo hi w w':=fun k a b cs e he hh=>h' k a b cs e he (h k a b cs e he hh)
theorem bD.U{lo hi B:Nat}{w w':World}(h:Below B w w')(hh:hi<=B):bD lo hi w w':=fun k a b cs e he hc=>by rw[h.block k (by omega)];exact hc
theorem bD.bF{lo hi:Nat}{w w':World}(h:∀k,lo<=k->k<hi->w'.heap[k]? =w.heap[k]?):bD lo hi w w':=fun k a b cs e he hc=>by rw[h k a b];exact hc
theorem tH{w w':World}{lo hi e k n:Nat}{v:Value}{xs:List Value}(h:w.ownsRow lo e k v n xs)(ht:∀k,v.ownBlock=some k->k<hi)(he:e=25\/e=76)(hK:bD lo hi w w'):w'.ownsRow lo e k v n xs:=by
 refine⟨h.1,?_⟩
 rcases h.2 with h2|⟨g,cap,cur,rfl,h3,hg,h4⟩
 ·exact Or.inl h2
 ·exact Or.inr ⟨g,cap,cur,rfl,h3,hK g h3 (ht g rfl) _ _ he hg,h4⟩
theorem my.ax{w w':World}{lo hi:Nat}{v:Value}{ps:List Pc}(h:my w lo hi v ps)(hK:bD lo hi w w'):my w' lo hi v ps:=
 ⟨tH h.own (fun k hk=>(h.top k hk).1) (.inl rfl) hK,h.top,h.l6,h.par⟩
theorem oe.ax{w w':World}{lo hi:Nat}{v:Value}{S:RL}(h:oe w lo hi v S)(hK:bD lo hi w w'):oe w' lo hi v S:=
 ⟨tH h.own h.top (.inr rfl) hK,h.top⟩
theorem bP.ax{w w':World}{lo hi:Nat}{n:NV}{t:Tr}(h:bP w lo hi n t)(hK:bD lo hi w w'):bP w' lo hi n t:=by
 induction h with
 |mk lo hi n S ps hs hk hne h ih=>exact .mk lo hi n S ps (hs.ax hK) (hk.ax hK) hne fun p hp=>ih p hp (hK.sub (hk.l6 p hp).1 (hk.l6 p hp).2.2)
theorem my.wide{w:World}{lo hi lo' hi':Nat}{v:Value}{ps:List Pc}(h:my w lo hi v ps)(h1:lo'<=lo)(h2:hi<=hi'):my w lo' hi' v ps:=
 ⟨jE h.own h1,fun k hk=>⟨by have:=(h.top k hk).1;omega,(h.top k hk).2⟩,fun p hp=>by have:=h.l6 p hp;omega,h.par⟩
theorem oe.wide{w:World}{lo hi lo' hi':Nat}{v:Value}{S:RL}(h:oe w lo hi v S)(h1:lo'<=lo)(h2:hi<=hi'):oe w lo' hi' v S:=
 ⟨jE h.own h1,fun k hk=>by have:=h.top k hk;omega⟩
theorem bP.wide{w:World}{lo hi lo' hi':Nat}{n:NV}{t:Tr}(h:bP w lo hi n t)(h1:lo'<=lo)(h2:hi<=hi'):bP w lo' hi' n t:=by
 cases h with
 |mk _ _ n S ps hs hk hne h=>exact .mk lo' hi' n S ps (hs.wide h1 h2) (hk.wide h1 h2) hne h
theorem my.nil(w:World)(lo hi:Nat):my w lo hi (.slice none 0 0) []:=⟨World.ownsRow_nil _ _ _ _,fun k hk=>(by simp[Value.ownBlock]at hk),fun p hp=>(by cases hp),List.Pairwise.nil⟩
theorem oe.nil(w:World)(lo hi:Nat):oe w lo hi (.slice none 0 0) []:=⟨World.ownsRow_nil _ _ _ _,fun k hk=>by simp[Value.ownBlock]at hk⟩
theorem bP.leaf(w:World)(lo hi:Nat)(k num a b c:Int)(f:Bool)(hk:¬(k=9\/k=10)):bP w lo hi ⟨k,none,0,0,none,0,0,num,a,b,c,f⟩ (.mk k num a b c f [] []):=
 .mk lo hi ⟨k,none,0,0,none,0,0,num,a,b,c,f⟩ [] [] (oe.nil _ _ _) (my.nil _ _ _) (fun h=>absurd h hk) (fun p hp=>by cases hp)
structure cE(w:World)(lo hi:Nat)(v:Value)(ps:List Pc):Prop where
 row:my w lo hi v ps
 all:∀p∈ps,bP w p.lo p.hi p.nv p.tr
theorem cE.ax{w w':World}{lo hi:Nat}{v:Value}{ps:List Pc}(h:cE w lo hi v ps)(hK:bD lo hi w w'):cE w' lo hi v ps:=
 ⟨h.row.ax hK,fun p hp=>(h.all p hp).ax (hK.sub (h.row.l6 p hp).1 (h.row.l6 p hp).2.2)⟩
theorem cE.wide{w:World}{lo hi lo' hi':Nat}{v:Value}{ps:List Pc}(h:cE w lo hi v ps)(h1:lo'<=lo)(h2:hi<=hi'):cE w lo' hi' v ps:=⟨h.row.wide h1 h2,h.all⟩
theorem cE.nil(w:World)(lo hi:Nat):cE w lo hi (.slice none 0 0) []:=⟨my.nil _ _ _,fun p hp=>by cases hp⟩
theorem cE.node{w:World}{lo hi:Nat}{ka:Option Addr}{kl kc:Nat}{ps:List Pc}(h:cE w lo hi (.slice ka kl kc) ps)(k num a b c:Int)(f:Bool)(hne:ps≠[]):bP w lo hi ⟨k,none,0,0,ka,kl,kc,num,a,b,c,f⟩ (.mk k num a b c f [] (ps.map Pc.tr)):=
 .mk lo hi ⟨k,none,0,0,ka,kl,kc,num,a,b,c,f⟩ [] ps (oe.nil _ _ _) h.row (fun _=>hne) h.all
theorem fA{w:World}{lo:Nat}{g cap:Nat}{ps:List Pc}(h:w.ownsRow lo 25 8 (.slice (some ⟨g,0,none⟩) ps.length cap) ps.length (bG ps)){j:Nat}(hj:j<ps.length):aP w ⟨g,j*8,none⟩ ps[j].nv:=by
 have hc:=fun i (hi:i<8)=>(World.ownsRow.cellAt h (j*8+i) (by omega)).trans (qw ps j hj i hi)
 refine⟨?_,?_,?_,?_,?_,?_,?_,?_⟩
 ·exact hc 0 (by omega)
 ·exact hc 1 (by omega)
 ·exact hc 2 (by omega)
 ·exact hc 3 (by omega)
 ·exact hc 4 (by omega)
 ·exact hc 5 (by omega)
 ·exact hc 6 (by omega)
 ·exact hc 7 (by omega)
theorem Gr(g k:Nat):(⟨g,0,none⟩:Addr).add k=⟨g,k,none⟩:=by
 unfold Addr.add
 by_cases h:k=0
 ·subst h;simp
 ·simp[h]
theorem bP.LI{w:World}{lo hi:Nat}{n:NV}{t:Tr}(h:bP w lo hi n t):bb w n t:=by
 induction h with
 |mk lo hi n S ps hs hk hne h ih=>
  refine .mk n S (ps.map Pc.tr) (fun j=>(ps.getD j ⟨n,.mk 0 0 0 0 0 false [] [],0,0⟩).nv) (iG hs.own) ?_ ?_
  ·have ho:=hk.own
   rcases ho.2 with⟨h1,h2⟩|⟨g,cap,cur,h1,h3,h4,h5,h6,h7,h8⟩
   ·have e1:n.ka=none:=by injection h1
    have e2:n.kl=0:=by injection h1
    have e3:n.kc=0:=by injection h1
    exact .inl ⟨e1,e2,e3,by simpa using h2⟩
   ·have e1:n.ka=some ⟨g,0,none⟩:=by injection h1
    have e2:n.kl=ps.length:=by injection h1
    have e3:n.kc=cap:=by injection h1
    refine .inr ⟨⟨g,0,none⟩,e1,by simpa using e2,by rw[List.length_map,e3];exact⟨h5,h6⟩,fun j hj=>?_⟩
    have hj':j<ps.length:=by simpa using hj
    rw[Gr]
    rw[e1,e2,e3]at ho
    have:=fA ho hj'
    simpa[List.getD_eq_getElem?_getD,List.getElem?_eq_getElem hj']using this
  ·intro j hj
   have hj':j<ps.length:=by simpa using hj
   have:=ih ps[j] (List.getElem_mem hj')
   simpa[List.getD_eq_getElem?_getD,List.getElem?_eq_getElem hj']using this
theorem I{p:Prop}(h:p):Hid p:=h
theorem bm{w:World}{a:Addr}{v:Value}(h:w.cell? a=some v):a.block<w.heap.size:=World.block_lt_of_cell? _ _ h
theorem aJ{B:Nat}{w w':World}(hb:Below B w w'){a:Addr}{v:Value}(ha:a.block<B)(h:w.cell? a=some v):w'.cell? a=some v:=by
 rw[<- h]
 unfold World.cell?
 rw[hb.block a.block ha]
theorem oq{a b:ByteArray}(h:a.toList=b.toList):a=b:=by
 rw[ByteArray.toList_eq,ByteArray.toList_eq]at h
 cases a with
 |mk x=>cases b with
  |mk y=>cases x with
   |mk x=>cases y with
    |mk y=>simpa using h
abbrev dv:Type:=List (ByteArray×Int)
def pC(w:World)(x:Addr)(N:dv):Prop:=∀j (h:j<N.length),w.cell? (x.add (j*2))=some (.string N[j].1)/\w.cell? ⟨(x.add (j*2)).block,(x.add (j*2)).off+1,none⟩=some (.int .i64 N[j].2)
def cD(w:World)(v:Value)(N:dv):Prop:=(v=.slice none 0 0/\N=[])\/∃x c,v=.slice (some x) N.length c/\(N.length<=c/\c<=9223372036854775807)/\pC w x N
def fc(N:dv)(t:ByteArray):Option Int:=(N.find? fun n=>decide (n.1=t)).map Prod.snd
theorem zS{N:dv}{t:ByteArray}(h:∀i (hi:i<N.length),¬N[i].1=t):fc N t=none:=by
 unfold fc
 rw[List.find?_eq_none.2]
 ·rfl
 ·intro n hn
  obtain⟨i,hi,rfl⟩:=List.mem_iff_getElem.1 hn
  simpa using h i hi
theorem zT{N:dv}{t:ByteArray}{j:Nat}(hj:j<N.length)(h:∀i (hi:i<j),¬N[i].1=t)(e:N[j].1=t):fc N t=some N[j].2:=by
 unfold fc
 have:N.find? (fun n=>decide (n.1=t))=some N[j]:=by
  rw[List.find?_eq_some_iff_getElem]
  exact⟨by simpa using e,j,hj,rfl,fun i hi=>by simpa using h i hi⟩
 rw[this]
 rfl
theorem j6(v:Value)(N:dv)(t:ByteArray)(w:World)(hN:cD w v N):Calls prog 19 #[v,.string t] w fun e w'=>e=.returned (.tuple #[.int .i64 ((fc N t).getD 0),.bool (fc N t).isSome])/\Below w.heap.size w w':=by
 rcases hN with⟨rfl,rfl⟩|⟨x,c,rfl,hc,hcl⟩
 ·go_enter func19,ntmps19
  go_wp2
  go_loop [10] (fun i=>i=.int .i64 0) (fun i=>0)
  case atStart=>exact rfl
  case round=>
   subst hrel
   go_wp2
   go_ret2
   exact⟨rfl,aI _ _⟩
 ·obtain ⟨m,hm⟩:=J N.length
  have HCL:=I hcl
  have HM:=I hm
  rw[<- hm]at hc |-
  clear hcl hm
  go_enter func19,ntmps19
  go_wp2
  go_loopw [10] (fun u wr=>∃j:Nat,j<=m/\u=.int .i64 j/\(∀i (hi:i<N.length),i<j->¬N[i].1=t)/\Below w.heap.size w wr) (fun u _=>m - (intOf u).toNat)
  case atStart=>exact⟨0,Nat.zero_le _,rfl,fun i _ hi=>absurd hi (Nat.not_lt_zero _),aI _ _⟩
  case round=>
   obtain⟨j,hj,rfl,hA,hb⟩:=hrel
   obtain⟨w2,hw2⟩:=J wr
   subst hw2
   have HA:=I hA
   have HB:=I hb
   clear hA hb
   by_cases hlt:j<m
   ·have hjl:j<N.length:=by rw[<- HM.o];exact hlt
    have m0:=aJ HB.o (bm (HCL.o j hjl).1) (HCL.o j hjl).1
    have m1:=aJ HB.o (bm (HCL.o j hjl).2) (HCL.o j hjl).2
    obtain⟨a,ha⟩:=J (N[j].1)
    obtain⟨b,hbb⟩:=J (N[j].2)
    rw[<- ha]at m0
    rw[<- hbb]at m1
    have HS:Hid (a=t->fc N t=some b):=fun e=>by
     rw[hbb]
     exact zT hjl (fun i hi=>HA.o i (by omega) hi) (by rw[<- ha];exact e)
    have HNo:Hid (¬a=t->∀i (hi:i<N.length),i<j+1->¬N[i].1=t):=fun e i hi hij=>by
     by_cases h2:i=j
     ·subst h2
      rw[<- ha]
      exact e
     ·exact HA.o i hi (by omega)
    clear ha hbb hjl
    have e5:(j:Int)<(m:Int):=by omega
    have e6:(0:Int)<=(j:Int):=by omega
    have hkw:IntKind.i64.wrap ((j:Int)+1)=(j:Int)+1:=by rw[IntKind.wrap_i64];omega
    go_upto_region 4 with fail
    obtain⟨w3,hw3⟩:=J (w2.alloc (.cells #[.string a,.int .i64 b] 33))
    have f0:w3.cell? ⟨w2.heap.size,0,none⟩=some (.string a):=by rw[hw3,World.cell?_alloc_at _ _ _ _ (by simp)];rfl
    have f1:w3.cell? ⟨w2.heap.size,1,none⟩=some (.int .i64 b):=by rw[hw3,World.cell?_alloc_at _ _ _ _ (by simp)];rfl
    have HB3:Hid (Below w.heap.size w w3):=by show Below _ _ _;rw[hw3];exact HB.o.alloc HB.o.size _
    rw[<- hw3]
    obtain⟨bx,hbx⟩:=J w2.heap.size
    rw[<- hbx]at f0 f1 |-
    clear hw3 m0 m1 hbx
    by_cases hat:a=t
    ·have HSo:=I (HS.o hat)
     have q1:(a.toList==t.toList)=true:=by rw[hat];simp
     clear hat
     go_wp2
     go_ret2
     rw[HSo.o]
     exact⟨rfl,HB3.o⟩
    ·have HNN:=I (HNo.o hat)
     have q1:(a.toList==t.toList)=false:=by
      rw[beq_eq_false_iff_ne]
      exact fun hh=>hat (oq hh)
     clear hat
     go_wp2
     go_roundw
     case rel=>exact⟨j+1,by omega,by go_num,HNN.o,HB3.o⟩
     case measure=>simp[intOf];omega
   ·have HNo:Hid (fc N t=none):=zS fun i hi=>HA.o i hi (by have:=HM.o;omega)
    go_wp2
    go_ret2
    rw[HNo.o]
    exact⟨rfl,HB.o⟩
theorem cD.below{w w':World}{v:Value}{N:dv}(h:cD w v N)(hb:Below w.heap.size w w'):cD w' v N:=by
 rcases h with h|⟨x,c,h1,h2,h3⟩
 ·exact .inl h
 ·exact .inr ⟨x,c,h1,h2,fun j hj=>⟨aJ hb (bm (h3 j hj).1) (h3 j hj).1,aJ hb (bm (h3 j hj).2) (h3 j hj).2⟩⟩
theorem cD.shape{w:World}{v:Value}{N:dv}(h:cD w v N):∃ao c,v=.slice ao N.length c:=by
 rcases h with⟨rfl,rfl⟩|⟨x,c,rfl,_,_⟩
 ·exact⟨_,_,rfl⟩
 ·exact⟨_,_,rfl⟩
def fG:Option Int->Int
 |none=>5
 |some _=>0
theorem iT(p0 p1 p2 p3 p4 p5 p6 p7 p8 v:Value)(N:dv)(t:ByteArray)(w:World)(hN:cD w v N):Calls prog 9 #[.agg #[p0,p1,p2,p3,p4,p5,p6,p7,p8,v],.string t] w fun e w'=>e=.returned (.tuple #[.int .i64 ((fc N t).getD 0),.int .i64 (fG (fc N t))])/\Below w.heap.size w w':=by
 have HN:=I hN
 obtain⟨ao,c,hv⟩:=hN.shape
 obtain⟨m,hm⟩:=J N.length
 rw[<- hm]at hv
 rw[hv]at HN |-
 clear hN hv hm
 go_enter func9,ntmps9
 go_upto_region 1 with fail
 obtain⟨w1,hw1⟩:=J (w.alloc (.cells #[p0,p1,p2,p3,p4,p5,p6,p7,p8,.slice ao m c] 28))
 have f9:w1.cell? ⟨w.heap.size,9,none⟩=some (.slice ao m c):=by rw[hw1,World.cell?_alloc_at _ _ _ _ (by simp)];rfl
 have hb1:Below w.heap.size w w1:=by rw[hw1];exact an w _
 rw[<- hw1]
 have HB1:=I hb1
 have HI:=I (j6 _ N t w1 (HN.o.below hb1))
 obtain⟨r,hr⟩:=J (fc N t)
 have HR:=I hr
 rw[<- hr]at HI
 clear hw1 hb1 hr
 go_wp2_with fail
 refine HI.o.mono ?_
 rintro e w2 ⟨rfl,hb2⟩
 have HB2:=I (HB1.o.aq hb2)
 clear hb2 HI
 cases r with
 |none=>
  simp only[Option.getD_none,Option.isSome_none]
  go_wp2
  go_ret2
  rw[<- HR.o]
  exact⟨rfl,HB2.o⟩
 |some z=>
  simp only[Option.getD_some,Option.isSome_some]
  go_wp2
  go_ret2
  rw[<- HR.o]
  exact⟨rfl,HB2.o⟩
end Go.Proofs.YtklbbbldalmnbaaGreatDoor.Pa
namespace Go.Proofs.YtklbbbldalmnbaaGreatDoor.Pa
open Go.RowKit
open TR (Tr NV aP cK aK bb ch)
open TK (Mv bL)
open Br (BE PS aF)
structure Step(g:Nat)(w w':World):Prop where
 os:w'.os=w.os
 tape:w'.tape=w.tape
 output:w'.output=w.output
 size:w.heap.size<=w'.heap.size
 low:∀k,k<g->w'.heap[k]? =w.heap[k]?
 Kj:∀k,g<k->k<w.heap.size->∀cs e fr,w.heap[k]? =some (.cells cs e fr)->e≠33->e≠110->w'.heap[k]? =some (.cells cs e fr)
theorem Step.refl(g:Nat)(w:World):Step g w w:=⟨rfl,rfl,rfl,ai _,fun _ _=>rfl,fun _ _ _ _ _ _ h _ _=>h⟩
theorem Step.trans{g:Nat}{w w1 w2:World}(h:Step g w w1)(k:Step g w1 w2):Step g w w2:=
 ⟨k.os.trans h.os,k.tape.trans h.tape,k.output.trans h.output,Nat.le_trans h.size k.size,fun i hi=>(k.low i hi).trans (h.low i hi),fun i h1 h2 cs e fr hc e1 e2=>k.Kj i h1 (Nat.lt_of_lt_of_le h2 h.size) cs e fr (h.Kj i h1 h2 cs e fr hc e1 e2) e1 e2⟩
theorem Step.dn{g:Nat}{w w':World}(h:Mv g w w')(hg:g<w.heap.size):Step g w w':=
 ⟨h.os,h.tape,h.output,h.size,fun k hk=>h.block k (by omega) (by omega),fun k h1 h2 cs e fr hc _ _=>by rw[h.block k h2 (by omega)];exact hc⟩
theorem Step.U{g:Nat}{w w':World}(h:Below w.heap.size w w')(hg:g<w.heap.size):Step g w w':=Step.dn (Mv.U h) hg
theorem Step.below{g:Nat}{w w':World}(h:Step g w w'):Below g w w':=⟨h.os,h.tape,h.output,h.size,h.low⟩
theorem Step.Jc{g lo hi:Nat}{w w':World}(h:Step g w w')(h1:g<lo)(h2:hi<=w.heap.size):bD lo hi w w':=fun k a b cs e he hc=>by
 refine h.Kj k (by omega) (by omega) cs e _ hc ?_ ?_
 ·rcases he with rfl|rfl<;>decide
 ·rcases he with rfl|rfl<;>decide
theorem Step.lH{g k:Nat}{w w':World}{cs:Array Value}{e:TypeId}{fr:Nat×Nat}(h:Step g w w')(hk:g<k)(hc:w.heap[k]? =some (.cells cs e fr))(e1:e≠33)(e2:e≠110):w'.heap[k]? =some (.cells cs e fr):=
 h.Kj k hk (TR.lt_of_block hc) cs e fr hc e1 e2
def gB(N:List Nm):List Value:=N.flatMap fun n=>[.string n.1,.int .i64 n.2]
def fK(A:List Ag):List Value:=A.flatMap fun a=>[.int .i64 a.num,.string a.name,.int .i64 (a.pos:Nat)]
theorem qv(a b:List Nm):gB (a++b)=gB a++gB b:=by simp[gB]
theorem qu(a b:List Ag):fK (a++b)=fK a++fK b:=by simp[fK]
theorem oU:∀(N:List Nm) (k:Nat) (h:k<N.length),(gB N)[k*2]? =some (.string N[k].1)/\(gB N)[k*2+1]? =some (.int .i64 N[k].2)
 |n::N,0,h=>⟨rfl,rfl⟩
 |n::N,k+1,h=>by
  have:=oU N k (by simpa using h)
  have e:gB (n::N)=.string n.1:: .int .i64 n.2::gB N:=rfl
  rw[e,show(k+1)*2=k*2+1+1 from by omega]
  simpa using this
theorem oT:∀(A:List Ag) (k:Nat) (h:k<A.length),(fK A)[k*3]? =some (.int .i64 A[k].num)/\(fK A)[k*3+1]? =some (.string A[k].name)/\(fK A)[k*3+2]? =some (.int .i64 (A[k].pos:Nat))
 |a::A,0,h=>⟨rfl,rfl,rfl⟩
 |a::A,k+1,h=>by
  have:=oT A k (by simpa using h)
  have e:fK (a::A)=.int .i64 a.num:: .string a.name:: .int .i64 (a.pos:Nat)::fK A:=rfl
  rw[e,show(k+1)*3=k*3+1+1+1 from by omega]
  simpa using this
abbrev Je(d:Int)(v:Value)(s:St)(nv av:Value):Obj:=.cells #[.int .i64 d,v,.int .i64 s.tok.kind,.int .i64 s.tok.num,.string s.tok.text,.bool s.tok.neg,.int .i64 s.tok.least,.int .i64 s.tok.ar,.int .i64 s.tok.bC,.int .i64 s.tok.fold,.int .i64 (s.pos:Nat),.int .i64 (s.next:Nat),.bool s.aD,.int .i64 (s.deep:Nat),.int .i64 (s.ay:Nat),nv,av] 73 (0,0)
structure RB(w:World)(g:Nat)(v:Value)(l:List Int)(d:Int)(s:St)(nv av:Value):Prop where
 box:w.heap[g]? =some (Je d v s nv av)
 pat:bL w v l
 ne:∀x c,0<l.length->v=.slice (some x) l.length c->x.block<g
 jt:w.ownsRow (g+1) 33 2 nv s.names.length (gB s.names)
 iK:w.ownsRow (g+1) 110 3 av s.aE.length (fK s.aE)
 Dz:Fo.ja w
 low:3<g
 pe:TK.bK d l=0
variable {w w' : World} {g : Nat} {v : Value} {l : List Int} {d : Int} {s s' : St} {nv av : Value}
theorem RB.lt(h:RB w g v l d s nv av):g<w.heap.size:=TR.lt_of_block h.box
theorem RB.small(h:RB w g v l d s nv av):l.length<=300:=(TK.pN h.pe).2.1
theorem RB.mv(h:RB w g v l d s nv av)(hm:Mv g w w')(hbox:w'.heap[g]? =some (Je d v s' nv av))(hn:s'.names=s.names)(ha:s'.aE=s.aE):RB w' g v l d s' nv av:=by
 have hk:∀{e k n:Nat} {u:Value} {xs:List Value},w.ownsRow (g+1) e k u n xs->w'.ownsRow (g+1) e k u n xs:=fun {e k n u xs} ho=>by
  refine⟨ho.1,?_⟩
  rcases ho.2 with h2|⟨b,cap,cur,rfl,h3,hg,h4⟩
  ·exact .inl h2
  ·exact .inr ⟨b,cap,cur,rfl,h3,by rw[hm.block b (TR.lt_of_block hg) (by omega)];exact hg,h4⟩
 refine⟨hbox,?_,h.ne,by rw[hn];exact hk h.jt,by rw[ha];exact hk h.iK,h.Dz.below (hm.below h.lt) h.low,h.low,h.pe⟩
 exact Br.bL.mv h.pat hm fun x c hl e=>by have:=h.ne x c hl e;omega
theorem RB.ax(h:RB w g v l d s nv av)(hb:Below w.heap.size w w'):RB w' g v l d s nv av:=
 h.mv (Mv.U hb) (by rw[hb.block g h.lt];exact h.box) rfl rfl
theorem RB.alloc(h:RB w g v l d s nv av)(o:Obj):RB (w.alloc o) g v l d s nv av:=h.ax ((aI _ w).alloc (ai _) o)
theorem RB.drewN(h:RB w g v l d s nv av)(q:Nat):RB (w.drewN q) g v l d s nv av:=h.ax ⟨rfl,rfl,rfl,ai _,fun _ _=>rfl⟩
theorem RB.set(h:RB w g v l d s nv av)(i:Nat)(u:Value)(hbox:(Je d v s' nv av)=.cells ((#[.int .i64 d,v,.int .i64 s.tok.kind,.int .i64 s.tok.num,.string s.tok.text,.bool s.tok.neg,.int .i64 s.tok.least,.int .i64 s.tok.ar,.int .i64 s.tok.bC,.int .i64 s.tok.fold,.int .i64 (s.pos:Nat),.int .i64 (s.next:Nat),.bool s.aD,.int .i64 (s.deep:Nat),.int .i64 (s.ay:Nat),nv,av]:Array Value).setIfInBounds i u) 73 (0,0))(hn:s'.names=s.names)(ha:s'.aE=s.aE):RB (w.setCell ⟨g,i,none⟩ u) g v l d s' nv av:=by
 refine h.mv ((Mv.refl g w).setCell i u) ?_ hn ha
 rw[hbox]
 exact TK.bn h.box i u
theorem RB.rd(h:RB w g v l d s nv av):w.cell? ⟨g,0,none⟩=some (.int .i64 d)/\w.cell? ⟨g,1,none⟩=some v/\w.cell? ⟨g,10,none⟩=some (.int .i64 (s.pos:Nat))/\w.cell? ⟨g,11,none⟩=some (.int .i64 (s.next:Nat))/\w.cell? ⟨g,12,none⟩=some (.bool s.aD)/\w.cell? ⟨g,13,none⟩=some (.int .i64 (s.deep:Nat))/\w.cell? ⟨g,14,none⟩=some (.int .i64 (s.ay:Nat))/\w.cell? ⟨g,15,none⟩=some nv/\w.cell? ⟨g,16,none⟩=some av:=by
 refine⟨?_,?_,?_,?_,?_,?_,?_,?_,?_⟩<;>simp[World.cell?,h.box]
theorem RB.tk(h:RB w g v l d s nv av):w.cell? ⟨g,2,none⟩=some (.int .i64 s.tok.kind)/\w.cell? ⟨g,3,none⟩=some (.int .i64 s.tok.num)/\w.cell? ⟨g,4,none⟩=some (.string s.tok.text)/\w.cell? ⟨g,5,none⟩=some (.bool s.tok.neg)/\w.cell? ⟨g,6,none⟩=some (.int .i64 s.tok.least)/\w.cell? ⟨g,7,none⟩=some (.int .i64 s.tok.ar)/\w.cell? ⟨g,8,none⟩=some (.int .i64 s.tok.bC)/\w.cell? ⟨g,9,none⟩=some (.int .i64 s.tok.fold):=by
 refine⟨?_,?_,?_,?_,?_,?_,?_,?_⟩<;>simp[World.cell?,h.box]
theorem RB.fr(h:RB w g v l d s nv av)(i:Nat):w.frozen? ⟨g,i,none⟩=false:=by
 simp[World.frozen?,h.box]
theorem RB.names(h:RB w g v l d s nv av):cD w nv s.names:=by
 have ho:=h.jt
 rcases ho.2 with⟨h1,h2⟩|⟨b,cap,cur,h1,h3,h4,h5,h6,h7,h8⟩
 ·exact .inl ⟨h1,List.eq_nil_of_length_eq_zero h2⟩
 ·refine .inr ⟨⟨b,0,none⟩,cap,h1,⟨h5,h6⟩,fun j hj=>?_⟩
  rw[h1]at ho
  obtain⟨a1,a2⟩:=oU s.names j hj
  rw[Gr]
  exact⟨(World.ownsRow.cellAt ho (j*2) (by omega)).trans a1,(World.ownsRow.cellAt ho (j*2+1) (by omega)).trans a2⟩
structure Inv(l:List Int)(s:St):Prop where
 pos:s.pos<=l.length
 next:s.next<=l.length
 on:s.pos<l.length->s.pos<s.next/\cp s.tok
 off:s.pos=l.length->s.tok={}
 iK:s.aE.length<=s.pos
 jt:s.names.length<=s.ay
 mL:s.ay<=20
 deep:s.deep<=20
def Gu(R:Except BE St)(g:Nat)(v:Value)(l:List Int)(d:Int)(nv av:Value)(w:World)(e:Ending)(w':World):Prop:=
 (∃s',R=.ok s'/\e=.returned (.tuple #[])/\RB w' g v l d s' nv av/\Mv g w w')\/(∃z a,R=.error (z,a)/\e=aF z a/\Mv g w w')
def kB(R:Except BE (Tr×St))(g:Nat)(v:Value)(l:List Int)(d:Int)(w:World)(e:Ending)(w':World):Prop:=
 (∃t s' n nv av,R=.ok (t,s')/\e=.returned (cK n)/\bP w' w.heap.size w'.heap.size n t/\RB w' g v l d s' nv av/\Step g w w')\/(∃z a,R=.error (z,a)/\e=aF z a/\Step g w w')
theorem cV{f:Func}{tmps:Array Value}{W:World}{N s:Nat}{n:NV}{R:Ending->World->Prop}(hres:f.results=#[ResultVar.cell s 25])(h2:tmps[s]? =some (.pointer (some ⟨N,0,none⟩)))(q1:aP W ⟨N,0,none⟩ n)(hF:R (.returned (cK n)) W):
  bodyPost prog f R Exit.ret { tmps:=tmps,defers:=[] } W:=by
 refine bodyPost_ret (v:=cK n) ?_ rfl hF
 have c0:=q1.c0
 have c1:=q1.c1
 have c2:=q1.c2
 have c3:=q1.c3
 have c4:=q1.c4
 have c5:=q1.c5
 have c6:=q1.c6
 have c7:=q1.c7
 simp only[Nat.zero_add]at c0 c1 c2 c3 c4 c5 c6 c7
 simp[results,hres,go_sem,h2,c0,c1,c2,c3,c4,c5,c6,c7]
theorem aS(e a:Int)(w:World):Calls prog 49 #[.int .i64 e,.int .i64 a] w fun r w'=>r=aF e a/\w=w':=by
 go_enter func49,ntmps49
 go_wp2
 exact⟨rfl,rfl,rfl⟩
end Go.Proofs.YtklbbbldalmnbaaGreatDoor.Pa
