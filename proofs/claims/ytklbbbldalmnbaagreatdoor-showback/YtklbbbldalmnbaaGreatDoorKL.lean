import Derived.Test.YtklbbbldalmnbaaGreatDoorKD
set_option linter.unusedVariables false
namespace Go.Proofs.YtklbbbldalmnbaaGreatDoor.TK
/-! ### A token has a point at least -/
theorem pj(d:Int)(l:List Int)(i:Nat)(a b:Int):i<=(cD d l i a b).2:=by
 unfold cD;split
 ·split
  ·simp
  ·split<;>simp
 ·simp
theorem yW(d:Int)(l:List Int)(i:Nat):i<=(ch d l i).2.2.2:=by
 unfold ch
 dsimp only
 cases h:bk l (i+(cL 10 3 l i).2) [44]with
 |true=>
  simp only[if_true]
  (repeat' split)<;>dsimp only<;>omega
 |false=>
  simp only[Bool.false_eq_true,if_false]
  (repeat' split)<;>dsimp only<;>omega
theorem BN{d:Int}{l:List Int}{i:Nat}{t:Tok}{k:Nat}(h:cR d l i=.ok (t,k)):i<=k:=by
 unfold cR at h
 simp only at h
 split at h
 ·split at h
  ·injection h with h;injection h with h1 h2;omega
  ·cases h
 ·split at h
  ·cases h
  ·split at h
   ·cases h
   ·have h1:=pj d l (ch d l i).2.2.2 (ch d l i).1 (ch d l i).2.1
    have h2:=yW d l i
    injection h with h
    rw[h]at h1
    simp only at h1
    omega
theorem GW{l:List Int}{i:Nat}{f:Int}{t:Tok}{k:Nat}(h:gV l i f=.ok (t,k)):i<=k:=by
 unfold gV at h
 split at h
 ·injection h with h;injection h with h1 h2;omega
 ·split at h
  ·injection h with h;injection h with h1 h2;omega
  ·cases h
theorem FZ{l:List Int}{i:Nat}{t:Tok}{k:Nat}(h:fT l i=.ok (t,k)):i<=k:=by
 unfold fT at h
 repeat' (split at h)
 all_goals first|(cases h;done)|(injection h with h;injection h with h1 h2;omega)
theorem E0{d:Int}{l:List Int}{i:Nat}{t:Tok}{k:Nat}(h:dk d l i=.ok (t,k)):i<=k:=by
 unfold dk at h
 split at h
 ·injection h with h;injection h with h1 h2;omega
 ·split at h
  ·injection h with h;injection h with h1 h2;omega
  ·split at h
   ·cases h
   ·repeat' (split at h)
    all_goals first|(cases h;done)|(injection h with h;injection h with h1 h2;omega)|(have:=FZ h;omega)|(have:=GW h;omega)
theorem kC{d:Int}{l:List Int}{p:Int}{i:Nat}{t:Tok}{k:Nat}(h:dG d l p i=.ok (t,k)):i<=k:=by
 unfold dG at h
 repeat' (split at h)
 all_goals first|exact E0 h|exact BN h|(injection h with h;injection h with h1 h2;omega)
theorem F0{l:List Int}{i:Nat}{t:Tok}{k:Nat}(h:fC l i=.ok (t,k)):i<=k:=by
 unfold fC at h
 simp only at h
 repeat' (split at h)
 all_goals first|(cases h;done)|(injection h with h;injection h with h1 h2;omega)
theorem Gu{l:List Int}{i:Nat}{t:Tok}{k:Nat}(h:eM l i=.ok (t,k)):i<=k:=by
 unfold eM at h
 simp only at h
 repeat' (split at h)
 all_goals first|(cases h;done)|(injection h with h;injection h with h1 h2;omega)
theorem Gs{l:List Int}{i:Nat}{t:Tok}{k:Nat}(h:kz l i=.ok (t,k)):i<=k:=by
 unfold kz at h
 simp only at h
 split at h
 ·cases h
 ·injection h with h;injection h with h1 h2;omega
theorem FX{l:List Int}{i:Nat}{n:Int}{t:Tok}{k:Nat}(h:(.ok (jB l i n):RT)=.ok (t,k)):i<=k:=by
 unfold jB at h
 simp only at h
 injection h with h
 split at h<;>(injection h with h1 h2;omega)
theorem E4{l:List Int}{i:Nat}{p:Int}{t:Tok}{k:Nat}(h:cU l i p=.ok (t,k)):i<=k:=by
 unfold cU at h
 split at h
 ·injection h with h;injection h with h1 h2;omega
 ·repeat' (split at h)
  all_goals first|(cases h;done)|exact F0 h|exact Gu h|exact Gs h|exact FX h|(injection h with h;injection h with h1 h2;omega)
theorem Cr{l:List Int}{i:Nat}{p:Int}{t:Tok}{k:Nat}(h:bP l i p=.ok (t,k)):i<=k:=by
 unfold bP at h
 split at h
 ·exact kC h
 ·repeat' (split at h)
  all_goals (injection h with h;injection h with h1 h2;omega)
theorem nB{d:Int}{l:List Int}{i:Nat}{t:Tok}{k:Nat}(h:aQ d l i=.ok (t,k)):i<k:=by
 unfold aQ at h
 split at h
 ·cases h
 ·unfold j9 at h
  split at h
  ·unfold jy at h
   split at h
   ·cases h
   ·split at h
    ·have:=E4 h;omega
    ·split at h
     ·have:=Cr h;omega
     ·injection h with h;injection h with h1 h2;omega
  ·repeat' (split at h)
   all_goals first|(injection h with h;injection h with h1 h2;omega)|(have:=kC h;omega)|skip
   ·have:=pj d l (i+1) 0 (-1);injection h with h;rw[h]at this;simp only at this;omega
   ·have:=pj d l (i+1) 1 (-1);injection h with h;rw[h]at this;simp only at this;omega
   ·have:=pj d l (i+1) 0 1;injection h with h;rw[h]at this;simp only at this;omega
def oO(z:Int):Prop:=z=1\/z=2\/z=3
theorem A9{d:Int}{l:List Int}{i:Nat}{z:Int}(h:cR d l i=.error z):oO z:=by
 unfold cR at h
 simp only at h
 unfold oO
 repeat' (split at h)
 all_goals first|(cases h;done)|(injection h with h;omega)
theorem G6{l:List Int}{i:Nat}{f z:Int}(h:gV l i f=.error z):oO z:=by
 unfold gV at h
 unfold oO
 repeat' (split at h)
 all_goals first|(cases h;done)|(injection h with h;omega)
theorem Gi{l:List Int}{i:Nat}{z:Int}(h:fT l i=.error z):oO z:=by
 unfold fT at h
 unfold oO
 repeat' (split at h)
 all_goals first|(cases h;done)|(injection h with h;omega)
theorem Dx{d:Int}{l:List Int}{i:Nat}{z:Int}(h:dk d l i=.error z):oO z:=by
 unfold dk at h
 repeat' (split at h)
 all_goals first|(cases h;done)|exact Gi h|exact G6 h|(unfold oO;injection h with h;omega)
theorem kR{d:Int}{l:List Int}{p:Int}{i:Nat}{z:Int}(h:dG d l p i=.error z):oO z:=by
 unfold dG at h
 repeat' (split at h)
 all_goals first|(cases h;done)|exact Dx h|exact A9 h
theorem Gd{l:List Int}{i:Nat}{z:Int}(h:fC l i=.error z):oO z:=by
 unfold fC at h
 simp only at h
 unfold oO
 repeat' (split at h)
 all_goals first|(cases h;done)|(injection h with h;omega)
theorem Gb{l:List Int}{i:Nat}{z:Int}(h:kz l i=.error z):oO z:=by
 unfold kz at h
 simp only at h
 unfold oO
 repeat' (split at h)
 all_goals first|(cases h;done)|(injection h with h;omega)
theorem Gn{l:List Int}{i:Nat}{z:Int}(h:eM l i=.error z):oO z:=by
 unfold eM at h
 simp only at h
 unfold oO
 repeat' (split at h)
 all_goals first|(cases h;done)|(injection h with h;omega)
theorem Fy{p z:Int}(h:iA p=.error z):oO z:=by
 unfold iA at h
 unfold oO
 repeat' (split at h)
 all_goals first|(cases h;done)|(injection h with h;omega)
theorem DH{l:List Int}{i:Nat}{p z:Int}(h:cU l i p=.error z):oO z:=by
 unfold cU at h
 split at h
 ·cases h
 ·repeat' (split at h)
  all_goals first|(cases h;done)|exact Gd h|exact Gb h|exact Gn h|(rename_i e he;injection h with h;subst h;exact Fy he)
theorem Bc{l:List Int}{i:Nat}{p z:Int}(h:bP l i p=.error z):oO z:=by
 unfold bP at h
 split at h
 ·exact kR h
 ·repeat' (split at h)
  all_goals cases h
theorem qK{d:Int}{l:List Int}{i:Nat}{z:Int}(h:aQ d l i=.error z):oO z:=by
 unfold aQ at h
 split at h
 ·unfold oO;injection h with h;omega
 ·unfold j9 at h
  split at h
  ·unfold jy at h
   split at h
   ·unfold oO;injection h with h;omega
   ·split at h
    ·exact DH h
    ·split at h
     ·exact Bc h
     ·cases h
  ·repeat' (split at h)
   all_goals first|(cases h;done)|exact kR h
def CN(n:Nat):RT->RT
 | .ok (t,k)=>.ok (t,k+n)
 | .error e=>.error e
section
variable (a l : List Int)
theorem tK(i:Nat):(a++l).drop (i+a.length)=l.drop i:=by
 rw[Nat.add_comm, <-List.drop_drop];simp
theorem fv(i:Nat)(s:List Int):bk (a++l) (i+a.length) s=bk l i s:=by unfold bk;rw[tK]
theorem lq(base:Int)(an i:Nat):cL base an (a++l) (i+a.length)=cL base an l i:=by unfold cL;rw[tK]
theorem tP(i:Nat):bL (a++l) (i+a.length)=bL l i:=by unfold bL;rw[tK]
theorem yY(i:Nat):(a++l)[i+a.length]? =l[i]? :=by rw[List.getElem?_append_right (by omega)];simp
theorem mv(i j:Nat):i+a.length+j=i+j+a.length:=by omega
theorem ES(d:Int)(i:Nat)(x y:Int):cD d (a++l) (i+a.length) x y=((cD d l i x y).1,(cD d l i x y).2+a.length):=by
 unfold cD
 simp only[fv]
 split
 ·split
  ·simp only[mv a]
  ·split
   ·simp only[mv a]
   ·rfl
 ·rfl
theorem Bz(d:Int)(i:Nat):ch d (a++l) (i+a.length)=((ch d l i).1,(ch d l i).2.1,(ch d l i).2.2.1,(ch d l i).2.2.2+a.length):=by
 unfold ch
 simp only[lq,mv a,fv]
 cases bk l (i+(cL 10 3 l i).2) [44]with
 |true=>
  simp only[if_true,mv a,fv]
  split
  ·rfl
  ·split
   ·(repeat' split)<;>first|rfl|simp only[mv a]
   ·(repeat' split)<;>first|rfl|simp only[mv a]
 |false=>
  simp only[Bool.false_eq_true,if_false,mv a,fv]
  split
  ·rfl
  ·split
   ·(repeat' split)<;>first|rfl|simp only[mv a]
   ·(repeat' split)<;>first|rfl|simp only[mv a]
theorem CT(d:Int)(i:Nat):cR d (a++l) (i+a.length)=CN a.length (cR d l i):=by
 unfold cR
 simp only[Bz,ES]
 split
 ·split<;>rfl
 ·split
  ·rfl
  ·split<;>rfl
theorem IA(i:Nat)(f:Int):gV (a++l) (i+a.length) f=CN a.length (gV l i f):=by
 unfold gV
 simp only[fv,mv a]
 split
 ·rfl
 ·split<;>rfl
theorem IZ(i:Nat):fT (a++l) (i+a.length)=CN a.length (fT l i):=by
 unfold fT
 simp only[fv,tP,mv a]
 repeat' split
 all_goals rfl
theorem oZ(d:Int)(i:Nat):dk d (a++l) (i+a.length)=CN a.length (dk d l i):=by
 unfold dk
 simp only[fv,mv a,yY,IZ,IA]
 split
 ·rfl
 ·split
  ·rfl
  ·split
   ·rfl
   ·repeat' split
    all_goals rfl
theorem Aa(d p:Int)(i:Nat):dG d (a++l) p (i+a.length)=CN a.length (dG d l p i):=by
 unfold dG
 simp only[oZ,CT]
 repeat' split
 all_goals rfl
theorem Iv(i:Nat):fC (a++l) (i+a.length)=CN a.length (fC l i):=by
 unfold fC
 simp only[fv,mv a,lq]
 repeat' split
 all_goals rfl
theorem Ja(i:Nat):kz (a++l) (i+a.length)=CN a.length (kz l i):=by
 unfold kz
 simp only[lq,mv a]
 repeat' split
 all_goals rfl
theorem Io(i:Nat)(n:Int):jB (a++l) (i+a.length) n=((jB l i n).1,(jB l i n).2+a.length):=by
 unfold jB
 simp only[lq,mv a]
 split<;>rfl
theorem IP(i:Nat):eM (a++l) (i+a.length)=CN a.length (eM l i):=by
 unfold eM
 simp only[fv,mv a]
 split
 ·rfl
 ·cases bk l (i+1) [45]with
  |true=>
   simp only[if_true,lq,mv a,fv,tP]
   repeat' split
   all_goals rfl
  |false=>
   simp only[Bool.false_eq_true,if_false,lq,mv a,fv,tP]
   repeat' split
   all_goals rfl
theorem Gx(i:Nat)(p:Int):cU (a++l) (i+a.length) p=CN a.length (cU l i p):=by
 unfold cU
 simp only[Iv,Ja,IP,Io]
 repeat' split
 all_goals rfl
theorem Dh(i:Nat)(p:Int):bP (a++l) (i+a.length) p=CN a.length (bP l i p):=by
 unfold bP
 simp only[Aa]
 repeat' split
 all_goals rfl
theorem Iy(d:Int)(i:Nat):jy d (a++l) (i+a.length)=CN a.length (jy d l i):=by
 unfold jy
 simp only[yY,mv a,Gx,Dh]
 split
 ·rfl
 ·repeat' split
  all_goals rfl
theorem Hc(d:Int)(i:Nat):aQ d (a++l) (i+a.length)=CN a.length (aQ d l i):=by
 unfold aQ
 rw[yY]
 split
 ·rfl
 ·unfold j9
  simp only[mv a,Iy,ES,Aa]
  repeat' split
  all_goals rfl
end
end Go.Proofs.YtklbbbldalmnbaaGreatDoor.TK
