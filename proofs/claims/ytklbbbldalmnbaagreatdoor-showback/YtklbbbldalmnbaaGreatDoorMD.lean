import Derived.Test.YtklbbbldalmnbaaGreatDoorLC
import Derived.Test.YtklbbbldalmnbaaGreatDoorMC
import Derived.Test.YtklbbbldalmnbaaGreatDoorMA
set_option linter.unusedVariables false
set_option maxRecDepth 100000
namespace Go.Proofs.YtklbbbldalmnbaaGreatDoor.Pa
open TR (Tr)
open Br (BE PS)
noncomputable def iI(f:PS):RL:=@dite _ (∃S,bg f S) (Classical.propDecidable _) (fun h=>Classical.choose h) (fun _=>[])
theorem sV{f:PS}{S:RL}(h:bg f S):iI f=S:=by
 unfold iI
 have hx:∃S,bg f S:=⟨S,h⟩
 rw[dif_pos hx]
 exact nP (Classical.choose_spec hx) h
noncomputable def fM(fo:Bool)(f:PS):PS:=if fo then Br.ez f else f
noncomputable def lW(d:Int)(l:List Int)(s:St):Except BE (PS×Nat):=
 if s.tok.kind=1 then .ok (fM s.aD (fun x=>decide (s.tok.num<=x)&&decide (x<=s.tok.num)),s.next)
 else if s.tok.kind=4 then .ok ((if s.tok.neg then(fun x=>!fM s.aD (ins (Br.bI s.tok.text)) x)else fM s.aD (ins (Br.bI s.tok.text))),s.next)
 else if s.tok.kind=5 then(match Br.dj d s.aD l (s.next:Int)with
  | .error (z,a)=>.error (z,max a (s.pos:Int))
  | .ok (f,k)=>.ok (f,k))
 else .ok (fun x=>!(decide (10<=x)&&decide (x<=10)),s.next)
noncomputable def cJ(d:Int)(l:List Int)(s:St):Except BE (Tr×St):=
 if s.tok.kind=3 then .ok (pF s.tok.num,s)
 else if s.tok.kind=10 then ga s
 else if s.tok.kind=11 then .ok (gI,{ s with aD:=bw s s.tok.fold })
 else match lW d l s with
  | .error e=>.error e
  | .ok (f,k)=>.ok (fg (iI f),{ s with next:=k })
abbrev Rd:Type:=Bool->St->Except BE (Tr×St)
def cd(d:Int)(l:List Int)(rec:Rd)(s:St):Except BE (Tr×St):=
 if s.deep=20 then .error (2,(s.pos:Int))
 else match (if s.tok.num=11 then cZ s s.tok.text else .ok s)with
  | .error e=>.error e
  | .ok s1=>match dH d l s1 with
   | .error e=>.error e
   | .ok s2=>match rec (bw s2 s.tok.fold) { s2 with deep:=s2.deep+1 } with
    | .error e=>.error e
    | .ok (t,s3)=>
     if s3.tok.kind≠8 then .error (1,(s3.pos:Int))
     else match dH d l { s3 with deep:=s3.deep - 1 } with
      | .error e=>.error e
      | .ok s4=>if s.tok.num=1 then .ok (t,s4)else .ok (.mk s.tok.num (if s.tok.num=11 then(s1.aF:Int)else 0) 0 0 0 false [] [t],s4)
noncomputable def dy(d:Int)(l:List Int)(rec:Rd)(s:St):Except BE (Tr×St):=
 if s.tok.kind=6 then .error (1,(s.pos:Int))
 else if s.tok.kind=7 then cd d l rec s
 else match cJ d l s with
  | .error e=>.error e
  | .ok (t,s1)=>match dH d l s1 with
   | .error e=>.error e
   | .ok s2=>.ok (t,s2)
def gM(d:Int)(l:List Int)(may:Bool):Nat->Nat->Tr->St->Except BE (Tr×St)
 |0,_,t,s=>.ok (t,s)
 |n+1,ahead,t,s=>
  if s.tok.kind=6 then
   (if may=false then .error (1,(s.pos:Int))
   else if 3<ahead then .error (2,(s.pos:Int))
   else match dH d l s with
    | .error e=>.error e
    | .ok s1=>gM d l may n (ahead+1) (cD t s.tok) s1)
  else .ok (t,s)
noncomputable def cN(d:Int)(l:List Int)(rec:Rd)(s:St):Except BE (Tr×St):=
 match dy d l rec s with
 | .error e=>.error e
 | .ok (t,s1)=>gM d l (decide (s.tok.kind≠11)) 6 0 t s1
def lC(l:List Int)(s:St):Bool:=decide (s.pos=l.length)||decide (s.tok.kind=9)||decide (s.tok.kind=8)
noncomputable def dd(d:Int)(l:List Int)(rec:Rd):Nat->List Tr->St->Except BE (List Tr×St)
 |0,ps,s=>.ok (ps,s)
 |n+1,ps,s=>
  if lC l s then .ok (ps,s)
  else match cN d l rec s with
   | .error e=>.error e
   | .ok (t,s1)=>dd d l rec n (ps++[t]) s1
noncomputable def cr(d:Int)(l:List Int)(rec:Rd)(s:St):Except BE (Tr×St):=
 match dd d l rec (l.length+1) [] s with
 | .error e=>.error e
 | .ok (ps,s1)=>.ok (gU ps,s1)
noncomputable def cV(d:Int)(l:List Int)(rec:Rd):Nat->List Tr->St->Except BE (List Tr×St)
 |0,bs,s=>.ok (bs,s)
 |n+1,bs,s=>
  if s.tok.kind=9 then
   (match dH d l s with
   | .error e=>.error e
   | .ok s1=>match cr d l rec s1 with
    | .error e=>.error e
    | .ok (t,s2)=>cV d l rec n (bs++[t]) s2)
  else .ok (bs,s)
noncomputable def bR(d:Int)(l:List Int)(rec:Rd):Rd:=fun fo s=>
 match cr d l rec { s with aD:=fo } with
 | .error e=>.error e
 | .ok (t,s1)=>match cV d l rec (l.length+1) [t] s1 with
  | .error e=>.error e
  | .ok (bs,s2)=>.ok (eX bs,{ s2 with aD:=s.aD })
noncomputable def bf(d:Int)(l:List Int):Nat->Rd
 |0=>fun _ _=>.error (2,0)
 |n+1=>bR d l (bf d l n)
def di(names:List Nm)(aF:Nat):List Ag->Except BE (List Int)
 |[]=>.ok []
 |a::rs=>
  let n:=if a.name.toList=[]then a.num else(match names.find? (fun m=>m.1.toList==a.name.toList)with|some m=>m.2|none=>0)
  if n<1\/(aF:Int)<n then .error (5,(a.pos:Int))
  else match di names aF rs with
   | .error e=>.error e
   | .ok ns=>.ok (n::ns)
def bq(ns:List Int):Tr->Tr
 | .mk k n a b c f S ks=>.mk k (if k=18 then ns.getD n.toNat 0 else n) a b c f S (pr ns ks)
where pr (ns:List Int):List Tr->List Tr
 |[]=>[]
 |t::ts=>bq ns t::pr ns ts
structure Pt where
 tree:Tr
 aF:Nat
 names:List Nm
noncomputable def dY(big:Tr->Bool)(d:Int)(fo:Bool)(l:List Int):Except BE Pt:=
 match dH d l {} with
 | .error e=>.error e
 | .ok s0=>match bf d l 21 fo s0 with
  | .error e=>.error e
  | .ok (t,s)=>
   if s.tok.kind=8 then .error (1,(s.pos:Int))
   else match di s.names s.aF s.ay with
    | .error e=>.error e
    | .ok ns=>if big (bq ns t)then .error (2,0)else .ok ⟨bq ns t,s.aF,s.names⟩
noncomputable def mN(big:Tr->Bool)(d:Int)(fo:Bool)(l:List Int):Except BE Pt:=
 if TK.cq d l≠0 then .error (TK.cq d l,0)else dY big d fo l
end Go.Proofs.YtklbbbldalmnbaaGreatDoor.Pa
namespace Go.Proofs.YtklbbbldalmnbaaGreatDoor.Pa
open Br (BE PS bC ez bI It US fP nY ke)
def jF(p:Int):PS:=fun x=>decide (p<=x)&&decide (x<=p)
theorem one_set{p:Int}(h:0<=p/\p<=1114111):bg (jF p) [(p,p)]:=by
 refine⟨⟨fun r hr=>?_,List.pairwise_singleton _ _⟩,fun q=>?_⟩
 ·rw[List.mem_singleton]at hr;subst hr;exact⟨h.1,Int.le_refl _,h.2⟩
 ·simp only[ins,jF,List.any_cons,List.any_nil,Bool.or_false]
  by_cases h1:p<=q
  ·by_cases h2:q<=p
   ·have :0<=q/\q<=1114111:=by omega
    simp[h1,h2,this.1,this.2]
   ·simp[h2]
  ·simp[h1]
theorem DF(t:It)(b:Bool):US [(t,b)]=fP b t.set:=by
 funext q
 simp[US]
theorem Al{p:Int}(h:0<=p/\p<=1114111)(b:Bool):bC (fM b (jF p))=false:=by
 have:=nY (D:=[(.kV p p,b)]) (fun t ht=>by rw[List.mem_singleton]at ht;subst ht;exact⟨h.1,Int.le_refl _,h.2⟩) (by simp[Br.oB,It.cost])
 rw[DF]at this
 exact this
def sO(s:ByteArray):Nat:=if s=TK.ee then 3 else if s=TK.dw then 4 else if s=TK.eh then 6 else 12
theorem mX{s:ByteArray}(h:s=TK.ee\/s=TK.dK\/s=TK.eh\/s=TK.dw):bI s=ke (sO s)/\s∈Br.names/\sO s<14:=by
 rcases h with rfl|rfl|rfl|rfl
 ·exact⟨by decide +kernel,by simp[Br.names,TK.ee,Fo.mL],by decide +kernel⟩
 ·exact⟨by decide +kernel,by simp[Br.names,TK.dK,Fo.pb],by decide +kernel⟩
 ·exact⟨by decide +kernel,by simp[Br.names,TK.eh,Fo.nC],by decide +kernel⟩
 ·exact⟨by decide +kernel,by simp[Br.names,TK.dw,Fo.kY],by decide +kernel⟩
theorem sM{s:ByteArray}(h:s=TK.ee\/s=TK.dK\/s=TK.eh\/s=TK.dw)(neg b:Bool):bC (fP b (It.set (.cls (sO s) neg 100)))=false:=by
 have:=nY (D:=[(.cls (sO s) neg 100,b)]) (fun t ht=>by
  rw[List.mem_singleton]at ht;subst ht
  refine⟨(mX h).2.2,?_⟩
  rcases h with rfl|rfl|rfl|rfl<;>decide +kernel) (by simp[Br.oB,It.cost])
 rw[DF]at this
 exact this
theorem xI:([TK.ee,TK.dK,TK.eh,TK.dw].all fun s=>Fo.vX.all fun p=>!ins (bI s) p||(Fo.ja p).all fun q=>ins (bI s) q)=true:=by decide +kernel
theorem closed{s:ByteArray}(h:s=TK.ee\/s=TK.dK\/s=TK.eh\/s=TK.dw){p q:Int}(hp:ins (bI s) p=true)(hq:q∈Fo.ja p):ins (bI s) q=true:=by
 by_cases hr:Fo.jY p=true
 ·have h1:=List.all_eq_true.1 xI s (by rcases h with rfl|rfl|rfl|rfl<;>simp)
  have h2:=List.all_eq_true.1 h1 p (Fo.jh hr)
  simp only[hp,Bool.not_true,Bool.false_or]at h2
  exact List.all_eq_true.1 h2 q hq
 ·rw [Fo.kB (by simpa using hr)]at hq
  rw[List.mem_singleton]at hq
  rw[hq];exact hp
theorem yH{s:ByteArray}(h:s=TK.ee\/s=TK.dK\/s=TK.eh\/s=TK.dw)(b:Bool){q:Int}(h0:0<=q)(h1:q<=1114111):fM b (ins (bI s)) q=ins (bI s) q:=by
 cases b with
 |false=>rfl
 |true=>
  show ez (ins (bI s)) q=_
  cases hh:ins (bI s) q with
  |true=>exact(Br.ly _ h0 h1).2 (.inl hh)
  |false=>
   rw[<- Bool.not_eq_true]
   intro hf
   rcases(Br.ly _ h0 h1).1 hf with h2|⟨p,_,_,h5,_,h7⟩
   ·rw[hh]at h2;cases h2
   ·have :=closed h h5 h7
    rw[hh]at this;cases this
theorem zX{s:ByteArray}(h:s=TK.ee\/s=TK.dK\/s=TK.eh\/s=TK.dw)(b:Bool):bC (fM b (ins (bI s)))=false:=by
 have:=sM h false b
 have e:It.set (.cls (sO s) false 100)=ins (bI s):=by funext x;rw[(mX h).1];rfl
 rw[e]at this
 exact this
theorem DV{s:ByteArray}(h:s=TK.ee\/s=TK.dK\/s=TK.eh\/s=TK.dw)(b:Bool):bC (fun x=>!fM b (ins (bI s)) x)=false:=by
 have:=sM h true false
 rw[Br.yK (g:=It.set (.cls (sO s) true 100)) fun q h0 h1=>by rw[yH h b h0 h1,(mX h).1];rfl]
 exact this
theorem Ap{p:Int}(h:0<=p/\p<=1114111):bC (jF p)=false:=Al h false
theorem Gm:bg (fun x=>!jF 10 x) [(0,9),(11,1114111)]:=by
 refine⟨⟨fun r hr=>?_,?_⟩,fun q=>?_⟩
 ·simp only[List.mem_cons,List.not_mem_nil,or_false]at hr
  rcases hr with rfl|rfl<;>simp[er]
 ·simp
 ·simp only[ins,jF,List.any_cons,List.any_nil,Bool.or_false]
  by_cases h1:0<=q<;>by_cases h2:q<=9<;>by_cases h3:11<=q<;>by_cases h4:q<=1114111<;>by_cases h5:10<=q<;>by_cases h6:q<=10<;>simp[h1,h2,h3,h4,h5,h6]<;>omega
theorem F8:bC (fun x=>!jF 10 x)=false:=by
 rw[Br.eW Gm];rfl
end Go.Proofs.YtklbbbldalmnbaaGreatDoor.Pa
