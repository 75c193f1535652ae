import Derived.Test.YtklbbbldalmnbaaGreatDoorLC
import Derived.Test.YtklbbbldalmnbaaGreatDoorMC
import Derived.Test.YtklbbbldalmnbaaGreatDoorMA
set_option linter.unusedVariables false
set_option maxRecDepth 100000
namespace Go.Proofs.YtklbbbldalmnbaaGreatDoor.Pa
open TR (Tr)
open Br (BE PS)
noncomputable def gv(f:PS):RL:=@dite _ (∃S,bq f S) (Classical.propDecidable _) (fun h=>Classical.choose h) (fun _=>[])
theorem oE{f:PS}{S:RL}(h:bq f S):gv f=S:=by
 unfold gv
 have hx:∃S,bq f S:=⟨S,h⟩
 rw[dif_pos hx]
 exact oB (Classical.choose_spec hx) h
noncomputable def gb(fo:Bool)(f:PS):PS:=if fo then Br.eL f else f
noncomputable def ki(d:Int)(l:List Int)(s:St):Except BE (PS×Nat):=
 if s.tok.kind=1 then .ok (gb s.aD (fun x=>decide (s.tok.num<=x)&&decide (x<=s.tok.num)),s.next)
 else if s.tok.kind=4 then .ok ((if s.tok.neg then(fun x=>!gb s.aD (ins (Br.bO s.tok.text)) x)else gb s.aD (ins (Br.bO s.tok.text))),s.next)
 else if s.tok.kind=5 then(match Br.cS d s.aD l (s.next:Int)with
  | .error (z,a)=>.error (z,max a (s.pos:Int))
  | .ok (f,k)=>.ok (f,k))
 else .ok (fun x=>!(decide (10<=x)&&decide (x<=10)),s.next)
noncomputable def ct(d:Int)(l:List Int)(s:St):Except BE (Tr×St):=
 if s.tok.kind=3 then .ok (qR s.tok.num,s)
 else if s.tok.kind=10 then fe s
 else if s.tok.kind=11 then .ok (gp,{ s with aD:=bE s s.tok.fold })
 else match ki d l s with
  | .error e=>.error e
  | .ok (f,k)=>.ok (fh (gv f),{ s with next:=k })
abbrev Rd:Type:=Bool->St->Except BE (Tr×St)
def bW(d:Int)(l:List Int)(rec:Rd)(s:St):Except BE (Tr×St):=
 if s.deep=20 then .error (2,(s.pos:Int))
 else match (if s.tok.num=11 then cX s s.tok.text else .ok s)with
  | .error e=>.error e
  | .ok s1=>match dF d l s1 with
   | .error e=>.error e
   | .ok s2=>match rec (bE s2 s.tok.fold) { s2 with deep:=s2.deep+1 } with
    | .error e=>.error e
    | .ok (t,s3)=>
     if s3.tok.kind≠8 then .error (1,(s3.pos:Int))
     else match dF d l { s3 with deep:=s3.deep - 1 } with
      | .error e=>.error e
      | .ok s4=>if s.tok.num=1 then .ok (t,s4)else .ok (.mk s.tok.num (if s.tok.num=11 then(s1.ay:Int)else 0) 0 0 0 false [] [t],s4)
noncomputable def dm(d:Int)(l:List Int)(rec:Rd)(s:St):Except BE (Tr×St):=
 if s.tok.kind=6 then .error (1,(s.pos:Int))
 else if s.tok.kind=7 then bW d l rec s
 else match ct d l s with
  | .error e=>.error e
  | .ok (t,s1)=>match dF d l s1 with
   | .error e=>.error e
   | .ok s2=>.ok (t,s2)
def fs(d:Int)(l:List Int)(may:Bool):Nat->Nat->Tr->St->Except BE (Tr×St)
 |0,_,t,s=>.ok (t,s)
 |n+1,ahead,t,s=>
  if s.tok.kind=6 then
   (if may=false then .error (1,(s.pos:Int))
   else if 3<ahead then .error (2,(s.pos:Int))
   else match dF d l s with
    | .error e=>.error e
    | .ok s1=>fs d l may n (ahead+1) (cL t s.tok) s1)
  else .ok (t,s)
noncomputable def cJ(d:Int)(l:List Int)(rec:Rd)(s:St):Except BE (Tr×St):=
 match dm d l rec s with
 | .error e=>.error e
 | .ok (t,s1)=>fs d l (decide (s.tok.kind≠11)) 6 0 t s1
def jZ(l:List Int)(s:St):Bool:=decide (s.pos=l.length)||decide (s.tok.kind=9)||decide (s.tok.kind=8)
noncomputable def cQ(d:Int)(l:List Int)(rec:Rd):Nat->List Tr->St->Except BE (List Tr×St)
 |0,ps,s=>.ok (ps,s)
 |n+1,ps,s=>
  if jZ l s then .ok (ps,s)
  else match cJ d l rec s with
   | .error e=>.error e
   | .ok (t,s1)=>cQ d l rec n (ps++[t]) s1
noncomputable def bS(d:Int)(l:List Int)(rec:Rd)(s:St):Except BE (Tr×St):=
 match cQ d l rec (l.length+1) [] s with
 | .error e=>.error e
 | .ok (ps,s1)=>.ok (gO ps,s1)
noncomputable def cT(d:Int)(l:List Int)(rec:Rd):Nat->List Tr->St->Except BE (List Tr×St)
 |0,bs,s=>.ok (bs,s)
 |n+1,bs,s=>
  if s.tok.kind=9 then
   (match dF d l s with
   | .error e=>.error e
   | .ok s1=>match bS d l rec s1 with
    | .error e=>.error e
    | .ok (t,s2)=>cT d l rec n (bs++[t]) s2)
  else .ok (bs,s)
noncomputable def bH(d:Int)(l:List Int)(rec:Rd):Rd:=fun fo s=>
 match bS d l rec { s with aD:=fo } with
 | .error e=>.error e
 | .ok (t,s1)=>match cT d l rec (l.length+1) [t] s1 with
  | .error e=>.error e
  | .ok (bs,s2)=>.ok (eV bs,{ s2 with aD:=s.aD })
noncomputable def bk(d:Int)(l:List Int):Nat->Rd
 |0=>fun _ _=>.error (2,0)
 |n+1=>bH d l (bk d l n)
def dd(names:List Nm)(ay:Nat):List Ag->Except BE (List Int)
 |[]=>.ok []
 |a::rs=>
  let n:=if a.name.toList=[]then a.num else(match names.find? (fun m=>m.1.toList==a.name.toList)with|some m=>m.2|none=>0)
  if n<1\/(ay:Int)<n then .error (5,(a.pos:Int))
  else match dd names ay rs with
   | .error e=>.error e
   | .ok ns=>.ok (n::ns)
def aZ(ns:List Int):Tr->Tr
 | .mk k n a b c f S ks=>.mk k (if k=18 then ns.getD n.toNat 0 else n) a b c f S (pT ns ks)
where pT (ns:List Int):List Tr->List Tr
 |[]=>[]
 |t::ts=>aZ ns t::pT ns ts
structure Pt where
 tree:Tr
 ay:Nat
 names:List Nm
noncomputable def dZ(big:Tr->Bool)(d:Int)(fo:Bool)(l:List Int):Except BE Pt:=
 match dF d l {} with
 | .error e=>.error e
 | .ok s0=>match bk d l 21 fo s0 with
  | .error e=>.error e
  | .ok (t,s)=>
   if s.tok.kind=8 then .error (1,(s.pos:Int))
   else match dd s.names s.ay s.aE with
    | .error e=>.error e
    | .ok ns=>if big (aZ ns t)then .error (2,0)else .ok ⟨aZ ns t,s.ay,s.names⟩
noncomputable def iW(big:Tr->Bool)(d:Int)(fo:Bool)(l:List Int):Except BE Pt:=
 if TK.bK d l≠0 then .error (TK.bK d l,0)else dZ big d fo l
end Go.Proofs.YtklbbbldalmnbaaGreatDoor.Pa
namespace Go.Proofs.YtklbbbldalmnbaaGreatDoor.Pa
open Br (BE PS bJ eL bO It US fP ox kH)
def j8(p:Int):PS:=fun x=>decide (p<=x)&&decide (x<=p)
theorem one_set{p:Int}(h:0<=p/\p<=1114111):bq (j8 p) [(p,p)]:=by
 refine⟨⟨fun r hr=>?_,List.pairwise_singleton _ _⟩,fun q=>?_⟩
 ·rw[List.mem_singleton]at hr;subst hr;exact⟨h.1,Int.le_refl _,h.2⟩
 ·simp only[ins,j8,List.any_cons,List.any_nil,Bool.or_false]
  by_cases h1:p<=q
  ·by_cases h2:q<=p
   ·have :0<=q/\q<=1114111:=by omega
    simp[h1,h2,this.1,this.2]
   ·simp[h2]
  ·simp[h1]
theorem Gi(t:It)(b:Bool):US [(t,b)]=fP b t.set:=by
 funext q
 simp[US]
theorem ux{p:Int}(h:0<=p/\p<=1114111)(b:Bool):bJ (gb b (j8 p))=false:=by
 have:=ox (D:=[(.l6 p p,b)]) (fun t ht=>by rw[List.mem_singleton]at ht;subst ht;exact⟨h.1,Int.le_refl _,h.2⟩) (by simp[Br.oW,It.cost])
 rw[Gi]at this
 exact this
def th(s:ByteArray):Nat:=if s=TK.ep then 3 else if s=TK.dB then 4 else if s=TK.er then 6 else 12
theorem nA{s:ByteArray}(h:s=TK.ep\/s=TK.dS\/s=TK.er\/s=TK.dB):bO s=kH (th s)/\s∈Br.names/\th s<14:=by
 rcases h with rfl|rfl|rfl|rfl
 ·exact⟨by decide +kernel,by simp[Br.names,TK.ep,Fo.nJ],by decide +kernel⟩
 ·exact⟨by decide +kernel,by simp[Br.names,TK.dS,Fo.pK],by decide +kernel⟩
 ·exact⟨by decide +kernel,by simp[Br.names,TK.er,Fo.nK],by decide +kernel⟩
 ·exact⟨by decide +kernel,by simp[Br.names,TK.dB,Fo.lS],by decide +kernel⟩
theorem td{s:ByteArray}(h:s=TK.ep\/s=TK.dS\/s=TK.er\/s=TK.dB)(neg b:Bool):bJ (fP b (It.set (.cls (th s) neg 100)))=false:=by
 have:=ox (D:=[(.cls (th s) neg 100,b)]) (fun t ht=>by
  rw[List.mem_singleton]at ht;subst ht
  refine⟨(nA h).2.2,?_⟩
  rcases h with rfl|rfl|rfl|rfl<;>decide +kernel) (by simp[Br.oW,It.cost])
 rw[Gi]at this
 exact this
theorem zm:([TK.ep,TK.dS,TK.er,TK.dB].all fun s=>Fo.xU.all fun p=>!ins (bO s) p||(Fo.js p).all fun q=>ins (bO s) q)=true:=by decide +kernel
theorem closed{s:ByteArray}(h:s=TK.ep\/s=TK.dS\/s=TK.er\/s=TK.dB){p q:Int}(hp:ins (bO s) p=true)(hq:q∈Fo.js p):ins (bO s) q=true:=by
 by_cases hr:Fo.kF p=true
 ·have h1:=List.all_eq_true.1 zm s (by rcases h with rfl|rfl|rfl|rfl<;>simp)
  have h2:=List.all_eq_true.1 h1 p (Fo.jA hr)
  simp only[hp,Bool.not_true,Bool.false_or]at h2
  exact List.all_eq_true.1 h2 q hq
 ·rw [Fo.lu (by simpa using hr)]at hq
  rw[List.mem_singleton]at hq
  rw[hq];exact hp
theorem zw{s:ByteArray}(h:s=TK.ep\/s=TK.dS\/s=TK.er\/s=TK.dB)(b:Bool){q:Int}(h0:0<=q)(h1:q<=1114111):gb b (ins (bO s)) q=ins (bO s) q:=by
 cases b with
 |false=>rfl
 |true=>
  show eL (ins (bO s)) q=_
  cases hh:ins (bO s) q with
  |true=>exact(Br.lP _ h0 h1).2 (.inl hh)
  |false=>
   rw[<- Bool.not_eq_true]
   intro hf
   rcases(Br.lP _ h0 h1).1 hf with h2|⟨p,_,_,h5,_,h7⟩
   ·rw[hh]at h2;cases h2
   ·have :=closed h h5 h7
    rw[hh]at this;cases this
theorem uw{s:ByteArray}(h:s=TK.ep\/s=TK.dS\/s=TK.er\/s=TK.dB)(b:Bool):bJ (gb b (ins (bO s)))=false:=by
 have:=td h false b
 have e:It.set (.cls (th s) false 100)=ins (bO s):=by funext x;rw[(nA h).1];rfl
 rw[e]at this
 exact this
theorem wA{s:ByteArray}(h:s=TK.ep\/s=TK.dS\/s=TK.er\/s=TK.dB)(b:Bool):bJ (fun x=>!gb b (ins (bO s)) x)=false:=by
 have:=td h true false
 rw[Br.zI (g:=It.set (.cls (th s) true 100)) fun q h0 h1=>by rw[zw h b h0 h1,(nA h).1];rfl]
 exact this
theorem AW{p:Int}(h:0<=p/\p<=1114111):bJ (j8 p)=false:=ux h false
theorem G8:bq (fun x=>!j8 10 x) [(0,9),(11,1114111)]:=by
 refine⟨⟨fun r hr=>?_,?_⟩,fun q=>?_⟩
 ·simp only[List.mem_cons,List.not_mem_nil,or_false]at hr
  rcases hr with rfl|rfl<;>simp[eH]
 ·simp
 ·simp only[ins,j8,List.any_cons,List.any_nil,Bool.or_false]
  by_cases h1:0<=q<;>by_cases h2:q<=9<;>by_cases h3:11<=q<;>by_cases h4:q<=1114111<;>by_cases h5:10<=q<;>by_cases h6:q<=10<;>simp[h1,h2,h3,h4,h5,h6]<;>omega
theorem AV:bJ (fun x=>!j8 10 x)=false:=by
 rw[Br.fu G8];rfl
end Go.Proofs.YtklbbbldalmnbaaGreatDoor.Pa
