import Derived.Test.YtklbbbldalmnbaaGreatDoorKD
set_option linter.unusedVariables false
namespace Go.Proofs.YtklbbbldalmnbaaGreatDoor.TK
/-! ### A token has a point at least -/
theorem pQ(d:Int)(l:List Int)(i:Nat)(a b:Int):i<=(cL d l i a b).2:=by
 unfold cL;split
 ·split
  ·simp
  ·split<;>simp
 ·simp
theorem yV(d:Int)(l:List Int)(i:Nat):i<=(cC d l i).2.2.2:=by
 unfold cC
 dsimp only
 cases h:bw l (i+(cZ 10 3 l i).2) [44]with
 |true=>
  simp only[if_true]
  (repeat' split)<;>dsimp only<;>omega
 |false=>
  simp only[Bool.false_eq_true,if_false]
  (repeat' split)<;>dsimp only<;>omega
theorem DD{d:Int}{l:List Int}{i:Nat}{t:Tok}{k:Nat}(h:dh d l i=.ok (t,k)):i<=k:=by
 unfold dh at h
 simp only at h
 split at h
 ·split at h
  ·injection h with h;injection h with h1 h2;omega
  ·cases h
 ·split at h
  ·cases h
  ·split at h
   ·cases h
   ·have h1:=pQ d l (cC d l i).2.2.2 (cC d l i).1 (cC d l i).2.1
    have h2:=yV d l i
    injection h with h
    rw[h]at h1
    simp only at h1
    omega
theorem Ik{l:List Int}{i:Nat}{f:Int}{t:Tok}{k:Nat}(h:iw l i f=.ok (t,k)):i<=k:=by
 unfold iw at h
 split at h
 ·injection h with h;injection h with h1 h2;omega
 ·split at h
  ·injection h with h;injection h with h1 h2;omega
  ·cases h
theorem GS{l:List Int}{i:Nat}{t:Tok}{k:Nat}(h:gh l i=.ok (t,k)):i<=k:=by
 unfold gh at h
 repeat' (split at h)
 all_goals first|(cases h;done)|(injection h with h;injection h with h1 h2;omega)
theorem Fy{d:Int}{l:List Int}{i:Nat}{t:Tok}{k:Nat}(h:dz d l i=.ok (t,k)):i<=k:=by
 unfold dz at h
 split at h
 ·injection h with h;injection h with h1 h2;omega
 ·split at h
  ·injection h with h;injection h with h1 h2;omega
  ·split at h
   ·cases h
   ·repeat' (split at h)
    all_goals first|(cases h;done)|(injection h with h;injection h with h1 h2;omega)|(have:=GS h;omega)|(have:=Ik h;omega)
theorem iV{d:Int}{l:List Int}{p:Int}{i:Nat}{t:Tok}{k:Nat}(h:dW d l p i=.ok (t,k)):i<=k:=by
 unfold dW at h
 repeat' (split at h)
 all_goals first|exact Fy h|exact DD h|(injection h with h;injection h with h1 h2;omega)
theorem Hk{l:List Int}{i:Nat}{t:Tok}{k:Nat}(h:fL l i=.ok (t,k)):i<=k:=by
 unfold fL at h
 simp only at h
 repeat' (split at h)
 all_goals first|(cases h;done)|(injection h with h;injection h with h1 h2;omega)
theorem GA{l:List Int}{i:Nat}{t:Tok}{k:Nat}(h:ff l i=.ok (t,k)):i<=k:=by
 unfold ff at h
 simp only at h
 repeat' (split at h)
 all_goals first|(cases h;done)|(injection h with h;injection h with h1 h2;omega)
theorem IT{l:List Int}{i:Nat}{t:Tok}{k:Nat}(h:lE l i=.ok (t,k)):i<=k:=by
 unfold lE at h
 simp only at h
 split at h
 ·cases h
 ·injection h with h;injection h with h1 h2;omega
theorem GD{l:List Int}{i:Nat}{n:Int}{t:Tok}{k:Nat}(h:(.ok (jP l i n):RT)=.ok (t,k)):i<=k:=by
 unfold jP at h
 simp only at h
 injection h with h
 split at h<;>(injection h with h1 h2;omega)
theorem F0{l:List Int}{i:Nat}{p:Int}{t:Tok}{k:Nat}(h:dj l i p=.ok (t,k)):i<=k:=by
 unfold dj at h
 split at h
 ·injection h with h;injection h with h1 h2;omega
 ·repeat' (split at h)
  all_goals first|(cases h;done)|exact Hk h|exact GA h|exact IT h|exact GD h|(injection h with h;injection h with h1 h2;omega)
theorem Co{l:List Int}{i:Nat}{p:Int}{t:Tok}{k:Nat}(h:bX l i p=.ok (t,k)):i<=k:=by
 unfold bX at h
 split at h
 ·exact iV h
 ·repeat' (split at h)
  all_goals (injection h with h;injection h with h1 h2;omega)
theorem nH{d:Int}{l:List Int}{i:Nat}{t:Tok}{k:Nat}(h:aV d l i=.ok (t,k)):i<k:=by
 unfold aV at h
 split at h
 ·cases h
 ·unfold kI at h
  split at h
  ·unfold jx at h
   split at h
   ·cases h
   ·split at h
    ·have:=F0 h;omega
    ·split at h
     ·have:=Co h;omega
     ·injection h with h;injection h with h1 h2;omega
  ·repeat' (split at h)
   all_goals first|(injection h with h;injection h with h1 h2;omega)|(have:=iV h;omega)|skip
   ·have:=pQ d l (i+1) 0 (-1);injection h with h;rw[h]at this;simp only at this;omega
   ·have:=pQ d l (i+1) 1 (-1);injection h with h;rw[h]at this;simp only at this;omega
   ·have:=pQ d l (i+1) 0 1;injection h with h;rw[h]at this;simp only at this;omega
def oX(z:Int):Prop:=z=1\/z=2\/z=3
theorem DB{d:Int}{l:List Int}{i:Nat}{z:Int}(h:dh d l i=.error z):oX z:=by
 unfold dh at h
 simp only at h
 unfold oX
 repeat' (split at h)
 all_goals first|(cases h;done)|(injection h with h;omega)
theorem Ij{l:List Int}{i:Nat}{f z:Int}(h:iw l i f=.error z):oX z:=by
 unfold iw at h
 unfold oX
 repeat' (split at h)
 all_goals first|(cases h;done)|(injection h with h;omega)
theorem GQ{l:List Int}{i:Nat}{z:Int}(h:gh l i=.error z):oX z:=by
 unfold gh at h
 unfold oX
 repeat' (split at h)
 all_goals first|(cases h;done)|(injection h with h;omega)
theorem Fw{d:Int}{l:List Int}{i:Nat}{z:Int}(h:dz d l i=.error z):oX z:=by
 unfold dz at h
 repeat' (split at h)
 all_goals first|(cases h;done)|exact GQ h|exact Ij h|(unfold oX;injection h with h;omega)
theorem lx{d:Int}{l:List Int}{p:Int}{i:Nat}{z:Int}(h:dW d l p i=.error z):oX z:=by
 unfold dW at h
 repeat' (split at h)
 all_goals first|(cases h;done)|exact Fw h|exact DB h
theorem Hj{l:List Int}{i:Nat}{z:Int}(h:fL l i=.error z):oX z:=by
 unfold fL at h
 simp only at h
 unfold oX
 repeat' (split at h)
 all_goals first|(cases h;done)|(injection h with h;omega)
theorem IQ{l:List Int}{i:Nat}{z:Int}(h:lE l i=.error z):oX z:=by
 unfold lE at h
 simp only at h
 unfold oX
 repeat' (split at h)
 all_goals first|(cases h;done)|(injection h with h;omega)
theorem Gy{l:List Int}{i:Nat}{z:Int}(h:ff l i=.error z):oX z:=by
 unfold ff at h
 simp only at h
 unfold oX
 repeat' (split at h)
 all_goals first|(cases h;done)|(injection h with h;omega)
theorem G6{p z:Int}(h:iP p=.error z):oX z:=by
 unfold iP at h
 unfold oX
 repeat' (split at h)
 all_goals first|(cases h;done)|(injection h with h;omega)
theorem FY{l:List Int}{i:Nat}{p z:Int}(h:dj l i p=.error z):oX z:=by
 unfold dj at h
 split at h
 ·cases h
 ·repeat' (split at h)
  all_goals first|(cases h;done)|exact Hj h|exact IQ h|exact Gy h|(rename_i e he;injection h with h;subst h;exact G6 he)
theorem Cm{l:List Int}{i:Nat}{p z:Int}(h:bX l i p=.error z):oX z:=by
 unfold bX at h
 split at h
 ·exact lx h
 ·repeat' (split at h)
  all_goals cases h
theorem nG{d:Int}{l:List Int}{i:Nat}{z:Int}(h:aV d l i=.error z):oX z:=by
 unfold aV at h
 split at h
 ·unfold oX;injection h with h;omega
 ·unfold kI at h
  split at h
  ·unfold jx at h
   split at h
   ·unfold oX;injection h with h;omega
   ·split at h
    ·exact FY h
    ·split at h
     ·exact Cm h
     ·cases h
  ·repeat' (split at h)
   all_goals first|(cases h;done)|exact lx h
def DR(n:Nat):RT->RT
 | .ok (t,k)=>.ok (t,k+n)
 | .error e=>.error e
section
variable (a l : List Int)
theorem ui(i:Nat):(a++l).drop (i+a.length)=l.drop i:=by
 rw[Nat.add_comm, <-List.drop_drop];simp
theorem fV(i:Nat)(s:List Int):bw (a++l) (i+a.length) s=bw l i s:=by unfold bw;rw[ui]
theorem lN(base:Int)(ar i:Nat):cZ base ar (a++l) (i+a.length)=cZ base ar l i:=by unfold cZ;rw[ui]
theorem uM(i:Nat):bQ (a++l) (i+a.length)=bQ l i:=by unfold bQ;rw[ui]
theorem zx(i:Nat):(a++l)[i+a.length]? =l[i]? :=by rw[List.getElem?_append_right (by omega)];simp
theorem mv(i j:Nat):i+a.length+j=i+j+a.length:=by omega
theorem FP(d:Int)(i:Nat)(x y:Int):cL d (a++l) (i+a.length) x y=((cL d l i x y).1,(cL d l i x y).2+a.length):=by
 unfold cL
 simp only[fV]
 split
 ·split
  ·simp only[mv a]
  ·split
   ·simp only[mv a]
   ·rfl
 ·rfl
theorem BS(d:Int)(i:Nat):cC d (a++l) (i+a.length)=((cC d l i).1,(cC d l i).2.1,(cC d l i).2.2.1,(cC d l i).2.2.2+a.length):=by
 unfold cC
 simp only[lN,mv a,fV]
 cases bw l (i+(cZ 10 3 l i).2) [44]with
 |true=>
  simp only[if_true,mv a,fV]
  split
  ·rfl
  ·split
   ·(repeat' split)<;>first|rfl|simp only[mv a]
   ·(repeat' split)<;>first|rfl|simp only[mv a]
 |false=>
  simp only[Bool.false_eq_true,if_false,mv a,fV]
  split
  ·rfl
  ·split
   ·(repeat' split)<;>first|rfl|simp only[mv a]
   ·(repeat' split)<;>first|rfl|simp only[mv a]
theorem Gd(d:Int)(i:Nat):dh d (a++l) (i+a.length)=DR a.length (dh d l i):=by
 unfold dh
 simp only[BS,FP]
 split
 ·split<;>rfl
 ·split
  ·rfl
  ·split<;>rfl
theorem JW(i:Nat)(f:Int):iw (a++l) (i+a.length) f=DR a.length (iw l i f):=by
 unfold iw
 simp only[fV,mv a]
 split
 ·rfl
 ·split<;>rfl
theorem Js(i:Nat):gh (a++l) (i+a.length)=DR a.length (gh l i):=by
 unfold gh
 simp only[fV,uM,mv a]
 repeat' split
 all_goals rfl
theorem pM(d:Int)(i:Nat):dz d (a++l) (i+a.length)=DR a.length (dz d l i):=by
 unfold dz
 simp only[fV,mv a,zx,Js,JW]
 split
 ·rfl
 ·split
  ·rfl
  ·split
   ·rfl
   ·repeat' split
    all_goals rfl
theorem Bc(d p:Int)(i:Nat):dW d (a++l) p (i+a.length)=DR a.length (dW d l p i):=by
 unfold dW
 simp only[pM,Gd]
 repeat' split
 all_goals rfl
theorem Jz(i:Nat):fL (a++l) (i+a.length)=DR a.length (fL l i):=by
 unfold fL
 simp only[fV,mv a,lN]
 repeat' split
 all_goals rfl
theorem Ke(i:Nat):lE (a++l) (i+a.length)=DR a.length (lE l i):=by
 unfold lE
 simp only[lN,mv a]
 repeat' split
 all_goals rfl
theorem Jp(i:Nat)(n:Int):jP (a++l) (i+a.length) n=((jP l i n).1,(jP l i n).2+a.length):=by
 unfold jP
 simp only[lN,mv a]
 split<;>rfl
theorem Jo(i:Nat):ff (a++l) (i+a.length)=DR a.length (ff l i):=by
 unfold ff
 simp only[fV,mv a]
 split
 ·rfl
 ·cases bw l (i+1) [45]with
  |true=>
   simp only[if_true,lN,mv a,fV,uM]
   repeat' split
   all_goals rfl
  |false=>
   simp only[Bool.false_eq_true,if_false,lN,mv a,fV,uM]
   repeat' split
   all_goals rfl
theorem IC(i:Nat)(p:Int):dj (a++l) (i+a.length) p=DR a.length (dj l i p):=by
 unfold dj
 simp only[Jz,Ke,Jo,Jp]
 repeat' split
 all_goals rfl
theorem Em(i:Nat)(p:Int):bX (a++l) (i+a.length) p=DR a.length (bX l i p):=by
 unfold bX
 simp only[Bc]
 repeat' split
 all_goals rfl
theorem Jx(d:Int)(i:Nat):jx d (a++l) (i+a.length)=DR a.length (jx d l i):=by
 unfold jx
 simp only[zx,mv a,IC,Em]
 split
 ·rfl
 ·repeat' split
  all_goals rfl
theorem H7(d:Int)(i:Nat):aV d (a++l) (i+a.length)=DR a.length (aV d l i):=by
 unfold aV
 rw[zx]
 split
 ·rfl
 ·unfold kI
  simp only[mv a,Jx,FP,Bc]
  repeat' split
  all_goals rfl
end
end Go.Proofs.YtklbbbldalmnbaaGreatDoor.TK
