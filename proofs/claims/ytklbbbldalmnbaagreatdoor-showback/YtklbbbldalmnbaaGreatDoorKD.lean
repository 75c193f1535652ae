import Derived.Test.YtklbbbldalmnbaaGreatDoorZo
import Derived.WalkKit
import Derived.Test.YtklbbbldalmnbaaGreatDoorProg
import Derived.WalkLawsBesides
import Derived.Handy
import Derived.BigQuiet
import Derived.Deep.QuietTactic
import Derived.OneCell
import Derived.DataElems
set_option linter.unusedVariables false
set_option maxHeartbeats 4000000
open Go.Proofs.Tryz
namespace Go.Proofs.YtklbbbldalmnbaaGreatDoor.TK
structure Tok where
 kind:Int:=0
 num:Int:=0
 text:ByteArray:=⟨#[]⟩
 neg:Bool:=false
 least:Int:=0
 an:Int:=0
 bB:Int:=0
 fold:Int:=0
def aM(p:Int):Tok:={ kind:=1,num:=p }
def bn(k:Int):Tok:={ kind:=3,num:=k }
def aR(k:Int):Tok:={ kind:=7,num:=k }
def aP(k:Int):Tok:={ kind:=10,num:=k }
def bk(l:List Int)(i:Nat)(s:List Int):Bool:=s.isPrefixOf (l.drop i)
def dz(p:Int):Int:=if 48<=p/\p<=57 then p - 48 else if 97<=p/\p<=102 then p - 97+10 else if 65<=p/\p<=70 then p - 65+10 else 16
theorem nt(p:Int):0<=dz p/\dz p<=16:=by unfold dz;split<;>(try split)<;>(try split)<;>omega
def ek(base:Int):Nat->List Int->Int->Nat->Int×Nat
 |0,_,n,c=>(n,c)
 |_+1,[],n,c=>(n,c)
 |k+1,p::t,n,c=>if dz p<base then ek base k t (n*base+dz p) (c+1)else(n,c)
def cL(base:Int)(an:Nat)(l:List Int)(i:Nat):Int×Nat:=ek base an (l.drop i) 0 0
def tC(p:Int):Bool:=(decide (97<=p)&&decide (p<=122))||(decide (65<=p)&&decide (p<=90))
def gw(p:Int)(first:Bool):Bool:=tC p||p==95||(!first&&decide (dz p<10))
def takeN:Nat->List Int->Bool->List Int
 |0,_,_=>[]
 |_+1,[],_=>[]
 |k+1,p::t,f=>if gw p f then p::takeN k t false else []
def bL(l:List Int)(i:Nat):List Int:=takeN 20 (l.drop i) true
def bE(l:List Int):ByteArray:=⟨(l.map fun p=>UInt8.ofNat p.toNat).toArray⟩
abbrev RT:Type:=Except Int (Tok×Nat)
def cD(d:Int)(l:List Int)(i:Nat)(least an:Int):Tok×Nat:=
 if d=1 then
  if bk l i [63]then({ kind:=6,least:=least,an:=an,bB:=2 },i+1)
  else if bk l i [43]then({ kind:=6,least:=least,an:=an,bB:=3 },i+1)
  else({ kind:=6,least:=least,an:=an,bB:=1 },i)
 else({ kind:=6,least:=least,an:=an,bB:=1 },i)
def ch(d:Int)(l:List Int)(i:Nat):Int×Int×Bool×Nat:=
 let a:=cL 10 3 l i
 let j:=i+a.2
 let m:Int×Nat×Nat:=
  if bk l j [44]then
   let b:=cL 10 3 l (j+1)
   ((if b.2=0 then -1 else b.1),a.2+b.2,j+1+b.2)
  else(a.1,a.2,j)
 if m.2.1=0 then(0,0,false,m.2.2)
 else if d=3 then(a.1,m.1,bk l m.2.2 [92,125],if bk l m.2.2 [92,125]then m.2.2+2 else m.2.2)
 else(a.1,m.1,bk l m.2.2 [125],if bk l m.2.2 [125]then m.2.2+1 else m.2.2)
def cR(d:Int)(l:List Int)(i:Nat):RT:=
 let b:=ch d l i
 if b.2.2.1=false then(if d=1 then .ok (aM 123,i)else .error 1)
 else if b.2.1≠ -1/\b.1>b.2.1 then .error 3
 else if b.1>100\/b.2.1>100 then .error 2
 else .ok (cD d l b.2.2.2 b.1 b.2.1)
def gV(l:List Int)(i:Nat)(f:Int):RT:=
 if bk l i [41]then .ok ({ kind:=11,fold:=f },i+1)
 else if bk l i [58]then .ok ({ kind:=7,num:=1,fold:=f },i+1)
 else .error 1
def fT(l:List Int)(i:Nat):RT:=
 if bk l i [61]then .ok (aR 16,i+1)
 else if bk l i [33]then .ok (aR 17,i+1)
 else if bL l i=[]then .error 1
 else if bk l (i+(bL l i).length) [62]then .ok ({ kind:=7,num:=11,text:=bE (bL l i) },i+(bL l i).length+1)
 else .error 1
def dk(d:Int)(l:List Int)(i:Nat):RT:=
 if d≠1 then .ok (aR 11,i)
 else if bk l i [63]=false then .ok (aR 11,i)
 else match l[i+1]? with
  |none=>.error 1
  |some p=>
   if p=58 then .ok (aR 1,i+2)
   else if p=62 then .ok (aR 13,i+2)
   else if p=61 then .ok (aR 14,i+2)
   else if p=33 then .ok (aR 15,i+2)
   else if p=60 then fT l (i+2)
   else if p=105 then gV l (i+2) 1
   else if p=45 then(if bk l (i+2) [105]then gV l (i+3) (-1)else .error 1)
   else .error 1
def dG(d:Int)(l:List Int)(p:Int)(i:Nat):RT:=
 if p=40 then dk d l i
 else if p=41 then .ok ({ kind:=8 },i)
 else if p=124 then .ok ({ kind:=9 },i)
 else if p=123 then cR d l i
 else .ok (aM p,i)
def ee:ByteArray:=⟨#[100,105,103,105,116]⟩
def dK:ByteArray:=⟨#[119,111,114,100]⟩
def eh:ByteArray:=⟨#[115,112,97,99,101]⟩
def dw:ByteArray:=⟨#[120,100,105,103,105,116]⟩
def jc(p:Int):Option (ByteArray×Bool):=
 if p=100 then some (ee,false)else if p=68 then some (ee,true)
 else if p=119 then some (dK,false)else if p=87 then some (dK,true)
 else if p=115 then some (eh,false)else if p=83 then some (eh,true)
 else if p=104 then some (dw,false)else if p=72 then some (dw,true)
 else none
def dS(c:ByteArray×Bool):Tok:={ kind:=4,text:=c.1,neg:=c.2 }
def iA(p:Int):Except Int Int:=
 if p=110 then .ok 10 else if p=116 then .ok 9 else if p=114 then .ok 13 else if p=102 then .ok 12
 else if p=118 then .ok 11 else if p=97 then .ok 7 else if p=101 then .ok 27
 else if tC p=true\/p=48 then .error 1 else .ok p
def fC(l:List Int)(i:Nat):RT:=
 if bk l i [123]=false then
  let a:=cL 16 2 l i
  if a.2<1 then .error 1 else .ok (aM a.1,i+a.2)
 else
  let a:=cL 16 6 l (i+1)
  if a.2<1 then .error 1
  else if bk l (i+1+a.2) [125]=false then .error 1
  else if a.1>1114111 then .error 3 else .ok (aM a.1,i+1+a.2+1)
def kz(l:List Int)(i:Nat):RT:=
 let a:=cL 16 4 l i
 if a.2<4 then .error 1 else .ok (aM a.1,i+a.2)
def jB(l:List Int)(i:Nat)(n:Int):Tok×Nat:=
 let a:=cL 10 1 l i
 if a.2=1 then(aP (n*10+a.1),i+1)else(aP n,i)
def eM(l:List Int)(i:Nat):RT:=
 if bk l i [60]=false then .error 1
 else
  let back:=bk l (i+1) [45]
  let j:=if back then i+2 else i+1
  let a:=cL 10 3 l j
  if 0<a.2 then
   (if bk l (j+a.2) [62]=false then .error 1
    else if a.1=0 then .error 3
    else .ok (aP (if back then -a.1 else a.1),j+a.2+1))
  else if back then .error 1
  else if bL l j=[]then .error 1
  else if bk l (j+(bL l j).length) [62]=false then .error 1
  else .ok ({ kind:=10,text:=bE (bL l j) },j+(bL l j).length+1)
def cU(l:List Int)(i:Nat)(p:Int):RT:=
 match jc p with
 |some c=>.ok (dS c,i)
 |none=>
  if p=65 then .ok (bn 5,i)
  else if p=122 then .ok (bn 6,i)
  else if p=98 then .ok (bn 7,i)
  else if p=66 then .ok (bn 8,i)
  else if p=120 then fC l i
  else if p=117 then kz l i
  else if p=107 then eM l i
  else if 49<=p/\p<=57 then .ok (jB l i (p - 48))
  else match iA p with
   | .ok q=>.ok (aM q,i)
   | .error e=>.error e
def bP(l:List Int)(i:Nat)(p:Int):RT:=
 if p=40\/p=41\/p=124\/p=123 then dG 3 l p i
 else if p=119 then .ok (dS (dK,false),i)
 else if p=87 then .ok (dS (dK,true),i)
 else if p=98 then .ok (bn 7,i)
 else if p=66 then .ok (bn 8,i)
 else if p=96 then .ok (bn 5,i)
 else if p=39 then .ok (bn 6,i)
 else if 49<=p/\p<=57 then .ok (aP (p - 48),i)
 else .ok (aM p,i)
def jy(d:Int)(l:List Int)(i:Nat):RT:=
 match l[i]? with
 |none=>.error 1
 |some p=>if d=1 then cU l (i+1) p else if d=3 then bP l (i+1) p else .ok (aM p,i+1)
def j9(d:Int)(l:List Int)(i:Nat)(p:Int):RT:=
 if p=92 then jy d l (i+1)
 else if p=46 then .ok ({ kind:=2 },i+1)
 else if p=94 then .ok (bn 3,i+1)
 else if p=36 then .ok (bn 4,i+1)
 else if p=91 then .ok ({ kind:=5 },i+1)
 else if p=42 then .ok (cD d l (i+1) 0 (-1))
 else if p=43 then .ok (cD d l (i+1) 1 (-1))
 else if p=63 then .ok (cD d l (i+1) 0 1)
 else if d=3 then .ok (aM p,i+1)
 else dG d l p (i+1)
def aQ(d:Int)(l:List Int)(i:Nat):RT:=match l[i]? with
 |none=>.error 1
 |some p=>j9 d l i p
def eA(p:Int):Bool:=decide (0<=p)&&decide (p<=1114111)
def cq(d:Int)(l:List Int):Int:=if d<1\/3<d then 7 else if 300<l.length then 2 else if l.all eA then 0 else 3
/-! ### Bounds -/
theorem fF{l:List Int}{i:Nat}{s:List Int}(h:bk l i s=true)(hs:s≠[]):i+s.length<=l.length:=by
 unfold bk at h
 have h1:=(List.isPrefixOf_iff_prefix.1 h).length_le
 rw[List.length_drop]at h1
 have:0<s.length:=List.length_pos_iff.2 hs
 omega
theorem mC(l:List Int)(i:Nat)(p:Int):bk l i [p]=(l[i]? ==some p):=by
 unfold bk
 rw[<- List.head?_drop]
 cases l.drop i with
 |nil=>rfl
 |cons q t=>
  simp only[List.isPrefixOf,List.head?_cons,Bool.and_true]
  rw[Bool.eq_iff_iff]
  simp only[beq_iff_eq,Option.some.injEq]
  exact eq_comm
end Go.Proofs.YtklbbbldalmnbaaGreatDoor.TK
namespace Go.Proofs.YtklbbbldalmnbaaGreatDoor.TK
open Go.RowKit
theorem AM(w:World)(a b:Nat):(w.drewN a).drewN b=w.drewN (a+b):=by simp[World.drewN,Nat.add_assoc]
theorem I{p:Prop}(h:p):Hid p:=h
theorem bD{a b:Bool}(h:a=b):Ending.returned (.bool a)=.returned (.bool b):=by rw[h]
theorem ej{k:IntKind}{a b:Int}(h:a=b):Ending.returned (.int k a)=.returned (.int k b):=by rw[h]
structure Mv(b:Nat)(w w':World):Prop where
 os:w'.os=w.os
 tape:w'.tape=w.tape
 output:w'.output=w.output
 size:w.heap.size<=w'.heap.size
 block:∀k,k<w.heap.size->k≠b->w'.heap[k]? =w.heap[k]?
theorem Mv.refl(b:Nat)(w:World):Mv b w w:=⟨rfl,rfl,rfl,U _,fun _ _ _=>rfl⟩
theorem Mv.trans{b:Nat}{w w1 w2:World}(h:Mv b w w1)(k:Mv b w1 w2):Mv b w w2:=
 ⟨k.os.trans h.os,k.tape.trans h.tape,k.output.trans h.output,Nat.le_trans h.size k.size,fun i h1 h2=>(k.block i (Nat.lt_of_lt_of_le h1 h.size) h2).trans (h.block i h1 h2)⟩
theorem Mv.drewN{b:Nat}{w w1:World}(h:Mv b w w1)(q:Nat):Mv b w (w1.drewN q):=⟨h.os,h.tape,h.output,h.size,h.block⟩
theorem Mv.alloc{b:Nat}{w w1:World}(h:Mv b w w1)(o:Obj):Mv b w (w1.alloc o):=
 h.trans ⟨rfl,rfl,rfl,by simp,fun k hk _=>Below.heap_alloc _ _ _ hk⟩
theorem Mv.setCell{b:Nat}{w w1:World}(h:Mv b w w1)(o:Nat)(u:Value):Mv b w (w1.setCell ⟨b,o,none⟩ u):=
 h.trans ⟨rfl,rfl,rfl,by simp[World.setCell],fun k _ hk=>Below.heap_setCell _ _ _ _ hk⟩
theorem Mv.fw{b:Nat}{w w1:World}(h:Mv b w w1){p:Addr}(hp:w.heap.size<=p.block)(u:Value):Mv b w (w1.setCell p u):=
 ⟨h.os,h.tape,h.output,by have:=h.size;simp[World.setCell];omega,fun k h1 h2=>by rw[Below.heap_setCell _ _ _ _ (by omega)];exact h.block k h1 h2⟩
theorem Mv.ae{b:Nat}{w w1:World}(h:Below w.heap.size w w1):Mv b w w1:=⟨h.os,h.tape,h.output,h.size,fun k hk _=>h.block k hk⟩
theorem Mv.below{b:Nat}{w w1:World}(h:Mv b w w1)(hb:b<w.heap.size):Below b w w1:=⟨h.os,h.tape,h.output,h.size,fun k hk=>h.block k (by omega) (by omega)⟩
theorem Mv.cell{b:Nat}{w w1:World}(h:Mv b w w1){a:Addr}{v:Value}(hb:a.block≠b)(hc:w.cell? a=some v):w1.cell? a=some v:=by
 have hlt:a.block<w.heap.size:=World.block_lt_of_cell? _ _ hc
 rw[<- hc]
 unfold World.cell?
 rw[h.block a.block hlt hb]
structure RB(w:World)(b:Nat)(x:Addr)(c:Nat)(l:List Int)(i:Nat)(d:Int):Prop where
 box:w.heap[b]? =some (.cells #[.slice (some x) l.length c,.int .i64 i,.int .i64 d] 121 (0,0))
 pat:∀j (h:j<l.length),w.cell? (x.add j)=some (.int .i64 l[j])
 ne:x.block≠b
 cap:l.length<=c
 small:l.length<=300
 at':i<=l.length
 dL:∀p∈l,0<=p/\p<=1114111
 xw:x.block<w.heap.size
theorem aS(x:Addr)(j:Nat):(x.add j).block=x.block:=by unfold Addr.add;split<;>rfl
theorem RB.lt{w:World}{b:Nat}{x:Addr}{c:Nat}{l:List Int}{i:Nat}{d:Int}(h:RB w b x c l i d):b<w.heap.size:=lt_of_block h.box
theorem RB.cells{w:World}{b:Nat}{x:Addr}{c:Nat}{l:List Int}{i:Nat}{d:Int}(h:RB w b x c l i d):
  w.cell? ⟨b,0,none⟩=some (.slice (some x) l.length c)/\w.cell? ⟨b,1,none⟩=some (.int .i64 i)/\w.cell? ⟨b,2,none⟩=some (.int .i64 d)/\w.frozen? ⟨b,1,none⟩=false:=by
 refine⟨?_,?_,?_,?_⟩<;>simp[World.cell?,World.frozen?,h.box]
theorem RB.ar{w w':World}{b:Nat}{x:Addr}{c:Nat}{l:List Int}{i:Nat}{d:Int}(h:RB w b x c l i d)(hb:Below w.heap.size w w'):RB w' b x c l i d:=
 ⟨by rw[hb.block b h.lt];exact h.box,fun j hj=>(Mv.ae (b:=b) hb).cell (by rw[aS];exact h.ne) (h.pat j hj),h.ne,h.cap,h.small,h.at',h.dL,Nat.lt_of_lt_of_le h.xw hb.size⟩
theorem RB.drewN{w:World}{b:Nat}{x:Addr}{c:Nat}{l:List Int}{i:Nat}{d:Int}(h:RB w b x c l i d)(q:Nat):RB (w.drewN q) b x c l i d:=⟨h.box,h.pat,h.ne,h.cap,h.small,h.at',h.dL,h.xw⟩
theorem RB.alloc{w:World}{b:Nat}{x:Addr}{c:Nat}{l:List Int}{i:Nat}{d:Int}(h:RB w b x c l i d)(o:Obj):RB (w.alloc o) b x c l i d:=h.ar ((J _ w).alloc (U _) o)
theorem RB.other{w:World}{b:Nat}{x:Addr}{c:Nat}{l:List Int}{i:Nat}{d:Int}(h:RB w b x c l i d){p:Addr}(hp:p.block≠b)(hx:p.block≠x.block)(u:Value):RB (w.setCell p u) b x c l i d:=
 ⟨by rw[Below.heap_setCell _ _ _ _ (Ne.symm hp)];exact h.box,fun j hj=>by
  have:=h.pat j hj
  unfold World.cell? at this |-
  rw[Below.heap_setCell _ _ _ _ (by rw[aS];exact Ne.symm hx)]
  exact this,h.ne,h.cap,h.small,h.at',h.dL,by have:=h.xw;simpa[World.setCell]using this⟩
theorem RB.go{w:World}{b:Nat}{x:Addr}{c:Nat}{l:List Int}{i:Nat}{d:Int}(h:RB w b x c l i d)(k:Nat)(hk:k<=l.length):RB (w.setCell ⟨b,1,none⟩ (.int .i64 k)) b x c l k d:=by
 refine⟨?_,fun j hj=>?_,h.ne,h.cap,h.small,hk,h.dL,by have:=h.xw;simpa[World.setCell]using this⟩
 ·have hlt:=h.lt
  have h':w.heap[b]=.cells #[.slice (some x) l.length c,.int .i64 i,.int .i64 d] 121 (0,0):=by simpa[Array.getElem?_eq_getElem hlt]using h.box
  show(w.heap.modify b _)[b]? =_
  rw[Array.getElem?_eq_getElem (by simpa using hlt),Array.getElem_modify_self,h']
  rfl
 ·have :=h.pat j hj
  unfold World.cell? at this |-
  rw[Below.heap_setCell _ _ _ _ (by rw[aS];exact h.ne)]
  exact this
theorem kU{b:Nat}{x:Addr}{c:Nat}{l:List Int}{i:Nat}{d:Int}(w:World)(h:RB w b x c l i d):
  Calls prog 104 #[.pointer (some ⟨b,0,none⟩)] w fun e w'=>e=.returned (.bool (decide (l.length<=i)))/\∃q,w'=w.drewN q:=by
 obtain⟨c0,c1,c2,f1⟩:=h.cells
 clear h
 go_enter func104,ntmps104
 go_wp2
 go_quiet (fail)
 go_wp2
 go_ret
 exact⟨rfl,_,rfl⟩
def bU(w:World)(x:Addr)(l:List Int):Prop:=∀j (h:j<l.length),w.cell? (x.add j)=some (.int .i64 l[j])
theorem rU(a y:Addr)(ca cb:Nat)(A B:List Int)(w:World)(hA:bU w a A)(hB:bU w y B)(lA:A.length<=1000)(lB:B.length<=1000):
  Calls prog 137 #[.slice (some a) A.length ca,.slice (some y) B.length cb] w fun e w'=>e=.returned (.bool (A==B))/\∃q,w'=w.drewN q:=by
 have HA:=I hA
 have HB:=I hB
 obtain⟨n,hn⟩:∃n,n=A.length:=⟨_,rfl⟩
 obtain⟨m,hm⟩:∃m,m=B.length:=⟨_,rfl⟩
 have HN:=I hn
 have HM:=I hm
 rw[<- hn]at lA |-
 rw[<- hm]at lB |-
 clear hA hB hn hm
 by_cases hnm:n=m
 ·subst hnm
  go_enter func137,ntmps137
  go_wp2
  go_loopw [13] (fun i wr=>∃k q:Nat,k<=n/\i=.int .i64 k/\wr=w.drewN q/\A.take k=B.take k) (fun i _=>n - (intOf i).toNat)
  case atStart=>exact⟨0,0,Nat.zero_le _,rfl,rfl,by simp⟩
  case round=>
   obtain⟨k,q,hk,rfl,rfl,he⟩:=hrel
   have HE:=I he
   clear he
   by_cases hlt:k<n
   ·have hkA:k<A.length:=by have:=HN.o;omega
    have hkB:k<B.length:=by have:=HM.o;omega
    have cA:w.cell? (a.add k)=some (.int .i64 A[k]):=HA.o k hkA
    have cB:w.cell? (y.add k)=some (.int .i64 B[k]):=HB.o k hkB
    obtain⟨u,hu⟩:∃u,u=A[k]:=⟨_,rfl⟩
    obtain⟨v,hv⟩:∃v,v=B[k]:=⟨_,rfl⟩
    rw[<- hu]at cA
    rw[<- hv]at cB
    have HU:=I hu
    have HV:=I hv
    clear hu hv
    by_cases huv:u=v
    ·subst huv
     go_wp2
     go_quiet (fail)
     go_wp2
     go_roundw
     case rel=>exact⟨k+1,_,by omega,by go_num,rfl,by rw[List.take_succ_eq_append_getElem hkA,List.take_succ_eq_append_getElem hkB,HE.o, <-HU.o, <-HV.o]⟩
     case measure=>simp[intOf];omega
    ·have hne:Hid ((A==B)=false):=by
      show _=_
      rw[beq_eq_false_iff_ne]
      intro e
      subst e
      have h1:=HU.o
      have h2:=HV.o
      exact huv (h1.trans h2.symm)
     have hb:(u !=v)=true:=by simpa using huv
     clear huv
     go_wp2
     go_quiet (fail)
     go_wp2
     go_ret
     exact⟨bD hne.o.symm,_,AM _ _ _⟩
   ·have hE:Hid ((A==B)=true):=by
     show _=_
     have h:=HE.o
     rw[List.take_of_length_le (by have:=HN.o;omega),List.take_of_length_le (by have:=HM.o;omega)]at h
     simpa using h
    go_wp2
    go_ret
    exact⟨bD hE.o.symm,_,rfl⟩
 ·have hne:Hid ((A==B)=false):=by
   show _=_
   rw[beq_eq_false_iff_ne]
   intro e
   subst e
   exact hnm (HN.o.trans HM.o.symm)
  go_enter func137,ntmps137
  go_wp2
  go_ret
  exact⟨bD hne.o.symm,0,rfl⟩
theorem yk{P:Program}{f:FuncId}{args:Array Value}{w:World}{n m:Nat}{v:Value}(h:Calls P f args (w.drewN (n+m)) fun e w'=>e=.returned v/\w'=w.drewN (n+m)):Calls P f args (w.drewN (n+m)) fun e w''=>e=.returned v/\∃k,w''=w.drewN (n+k):=h.mono fun _ _ ⟨a,b⟩=>⟨a,m,b⟩
theorem zR(l:List Int)(i:Nat)(s:List Int):bk l i s=((l.drop i).take s.length==s):=by
 unfold bk
 rw[Bool.eq_iff_iff,List.isPrefixOf_iff_prefix,beq_iff_eq,List.prefix_iff_eq_take]
 exact eq_comm
theorem uK{l:List Int}{i:Nat}{s:List Int}(h:l.length<i+s.length)(hs:1<=s.length):bk l i s=false:=by
 cases hh:bk l i s with
 |false=>rfl
 |true=>have:=fF hh (by intro e;rw[e]at hs;simp at hs);omega
theorem oG{w:World}{x:Addr}{l:List Int}(h:bU w x l)(i n:Nat):bU w (x.add i) ((l.drop i).take n):=by
 intro j hj
 rw[Addr.add_add]
 have h1:j<(l.drop i).length:=by rw[List.length_take]at hj;omega
 have h2:i+j<l.length:=by rw[List.length_drop]at h1;omega
 rw[h (i+j) h2]
 simp
theorem lZ{b:Nat}{x:Addr}{c:Nat}{l:List Int}{i:Nat}{d:Int}(y:Addr)(cs:Nat)(s:List Int)(w:World)(h:RB w b x c l i d)(hs:bU w y s)(hs1:1<=s.length)(hs2:s.length<=4):
  Calls prog 124 #[.pointer (some ⟨b,0,none⟩),.slice (some y) s.length cs] w fun e w'=>e=.returned (.bool (bk l i s))/\∃q,w'=w.drewN q:=by
 obtain⟨c0,c1,c2,f1⟩:=h.cells
 have hcap:=h.cap
 have hsm:=h.small
 have hat:=h.at'
 by_cases hin:i+s.length<=l.length
 ·have hlen:((l.drop i).take s.length).length=s.length:=by rw[List.length_take,List.length_drop];omega
  have HEq:Hid (∀q,Calls prog 137 #[.slice (some (x.add i)) s.length (c - i),.slice (some y) s.length cs] (w.drewN q) fun e w'=>e=.returned (.bool (bk l i s))/\∃m,w'=(w.drewN q).drewN m):=by
   intro q
   rw[zR]
   have:=rU (x.add i) y (c - i) cs ((l.drop i).take s.length) s (w.drewN q) (oG h.pat i s.length) hs (by omega) (by omega)
   rw[hlen]at this
   exact this
  obtain⟨z,hz⟩:∃z,z=bk l i s:=⟨_,rfl⟩
  obtain⟨n,hn⟩:∃n,n=l.length:=⟨_,rfl⟩
  obtain⟨m,hm⟩:∃m,m=s.length:=⟨_,rfl⟩
  rw[<- hn]at c0 hin hcap hsm hat
  rw[<- hm]at hin HEq hs1 hs2 |-
  rw[<- hz]at HEq |-
  have hci:¬c=i:=by omega
  clear hn hm hz h hs hlen
  go_enter func124,ntmps124
  go_wp2
  have e1:(decide ((i:Int)+(m:Int)<=(n:Int)))=true:=by simp;omega
  go_quiet (first|(go_at_call 137;refine Calls.quiet_of (HEq.o _)))
  go_wp2
  go_ret
  exact⟨rfl,_,rfl⟩
 ·rw [uK (by omega) hs1]
  obtain⟨n,hn⟩:∃n,n=l.length:=⟨_,rfl⟩
  obtain⟨m,hm⟩:∃m,m=s.length:=⟨_,rfl⟩
  rw[<- hn]at c0 hin hcap hsm hat
  rw[<- hm]at hin hs1 hs2 |-
  clear hn hm h hs
  go_enter func124,ntmps124
  go_wp2
  have e1:(decide ((i:Int)+(m:Int)<=(n:Int)))=false:=by simp;omega
  go_quiet (fail)
  go_wp2
  go_ret
  exact⟨rfl,_,rfl⟩
theorem je{b:Nat}{x:Addr}{c:Nat}{l:List Int}{i:Nat}{d:Int}(y:Addr)(cs:Nat)(s:List Int)(w:World)(h:RB w b x c l i d)(hs:bU w y s)(hs1:1<=s.length)(hs2:s.length<=4):
  Calls prog 107 #[.pointer (some ⟨b,0,none⟩),.slice (some y) s.length cs] w fun e w'=>e=.returned (.bool (bk l i s))/\RB w' b x c l (if bk l i s then i+s.length else i) d/\Mv b w w':=by
 have HI:=I (lZ y cs s w h hs hs1 hs2)
 have HR:=I h
 have hat:=h.at'
 have hsm:=h.small
 cases hz:bk l i s with
 |true=>
  have hin:=I (fF hz (by intro e;rw[e]at hs1;simp at hs1))
  rw[hz]at HI
  obtain⟨m,hm⟩:∃m,m=s.length:=⟨_,rfl⟩
  rw[<- hm]at HI hin hs1 hs2 |-
  clear hz hs hm
  go_enter func107,ntmps107
  go_wp2_with fail
  refine HI.o.mono ?_
  rintro e w1 ⟨rfl,q,rfl⟩
  obtain⟨c0,c1,c2,f1⟩:=h.cells
  clear h
  go_wp2
  go_ret
  refine⟨rfl,?_,?_⟩
  ·have :=(HR.o.drewN q).go (i+m) (by have:=hin.o;omega)
   simpa using this
  ·have :=((Mv.refl b w).drewN q).setCell 1 (.int .i64 ((i+m:Nat):Int))
   simpa using this
 |false=>
  rw[hz]at HI
  obtain⟨m,hm⟩:∃m,m=s.length:=⟨_,rfl⟩
  rw[<- hm]at HI hs1 hs2 |-
  clear hz hs hm h
  go_enter func107,ntmps107
  go_wp2_with fail
  refine HI.o.mono ?_
  rintro e w1 ⟨rfl,q,rfl⟩
  go_wp2
  go_ret
  exact⟨rfl,HR.o.drewN q,(Mv.refl b w).drewN q⟩
theorem Bh(p:Int)(w:World)(h0:0<=p)(h1:p<=1114111):Calls prog 142 #[.int .i64 p] w fun e w'=>e=.returned (.int .i64 (dz p))/\w'=w:=by
 by_cases a1:48<=p/\p<=57
 ·have E:dz p=p - 48:=by unfold dz;rw[if_pos a1]
  rw[E]
  clear E
  go_enter func142,ntmps142
  go_wp2
  go_ret
  exact⟨rfl,rfl⟩
 ·by_cases a2:97<=p/\p<=102
  ·have E:dz p=p - 97+10:=by unfold dz;rw[if_neg a1,if_pos a2]
   rw[E]
   clear E
   go_enter func142,ntmps142
   go_wp2
   all_goals first|(exfalso;omega)|(go_ret;exact⟨rfl,rfl⟩)
  ·by_cases a3:65<=p/\p<=70
   ·have E:dz p=p - 65+10:=by unfold dz;rw[if_neg a1,if_neg a2,if_pos a3]
    rw[E]
    clear E
    go_enter func142,ntmps142
    go_wp2
    all_goals first|(exfalso;omega)|(go_ret;exact⟨rfl,rfl⟩)
   ·have E:dz p=16:=by unfold dz;rw[if_neg a1,if_neg a2,if_neg a3]
    rw[E]
    clear E
    go_enter func142,ntmps142
    go_wp2
    all_goals first|(exfalso;omega)|(go_ret;exact⟨rfl,rfl⟩)
theorem mz(p:Int)(w:World):Calls prog 79 #[.int .i64 p] w fun e w'=>e=.returned (.bool (tC p))/\w'=w:=by
 go_enter func79,ntmps79
 go_wp2
 all_goals go_ret
 all_goals exact⟨bD (by unfold tC;rw[Bool.eq_iff_iff];simp<;>omega),rfl⟩
theorem Fu(p:Int):decide (dz p<10)=(decide (48<=p)&&decide (p<=57)):=by
 rw[Bool.eq_iff_iff]
 unfold dz
 simp
 repeat (first|omega|split)
theorem wI(p:Int)(f:Bool)(w:World)(h0:0<=p)(h1:p<=1114111):Calls prog 70 #[.int .i64 p,.bool f] w fun e w'=>e=.returned (.bool (gw p f))/\w'=w:=by
 have HL:=I (mz p w)
 obtain⟨z,hz⟩:∃z,z=tC p:=⟨_,rfl⟩
 unfold gw
 rw[<- hz]at HL |-
 rw[Fu p]
 clear hz
 have hb:(p==95)=decide (p=95):=by rw[Bool.eq_iff_iff];simp
 rw[hb]
 clear hb
 cases z
 ·by_cases h95:p=95
  ·have hb:(p==95)=true:=by simpa using h95
   rw[decide_eq_true h95]
   clear h95
   go_enter func70,ntmps70
   go_wp2_with fail
   refine HL.o.mono ?_
   rintro e w' ⟨rfl,rfl⟩
   go_wp2
   go_ret
   exact⟨rfl,rfl⟩
  ·have hb:(p==95)=false:=by simpa using h95
   rw[decide_eq_false h95]
   clear h95
   cases f
   ·go_enter func70,ntmps70
    go_wp2_with fail
    refine HL.o.mono ?_
    rintro e w' ⟨rfl,rfl⟩
    go_wp2
    all_goals go_ret
    all_goals exact⟨bD (by rw[Bool.eq_iff_iff];simp<;>omega),rfl⟩
   ·go_enter func70,ntmps70
    go_wp2_with fail
    refine HL.o.mono ?_
    rintro e w' ⟨rfl,rfl⟩
    go_wp2
    go_ret
    exact⟨rfl,rfl⟩
 ·go_enter func70,ntmps70
  go_wp2_with fail
  refine HL.o.mono ?_
  rintro e w' ⟨rfl,rfl⟩
  go_wp2
  go_ret
  exact⟨rfl,rfl⟩
def bK(k:Int):Ending:=.panicked [{ v:=.iface 29 (.int .i64 k),recovered:=false }]
theorem qP{b:Nat}{x:Addr}{c:Nat}{l:List Int}{i:Nat}{d:Int}(w:World)(h:RB w b x c l i d)(hi:i<l.length):
  Calls prog 91 #[.pointer (some ⟨b,0,none⟩)] w fun e w'=>e=.returned (.int .i64 l[i])/\RB w' b x c l (i+1) d/\Mv b w w':=by
 have HE:=I (kU w h)
 have HR:=I h
 have hsm:=h.small
 have hpat:=h.pat i hi
 obtain⟨c0,c1,c2,f1⟩:=h.cells
 have e1:decide (l.length<=i)=false:=by simp;omega
 rw[e1]at HE
 obtain⟨p,hp⟩:∃p,p=l[i]:=⟨_,rfl⟩
 rw[<- hp]at hpat |-
 obtain⟨n,hn⟩:∃n,n=l.length:=⟨_,rfl⟩
 have HN:=I hn
 rw[<- hn]at c0 hi hsm
 clear h e1 hp hn
 go_enter func91,ntmps91
 go_wp2_with fail
 refine HE.o.mono ?_
 rintro e w1 ⟨rfl,q,rfl⟩
 go_wp2
 go_quiet (fail)
 go_wp2
 go_ret
 refine⟨rfl,?_,?_⟩
 ·have :=((HR.o.drewN q).drewN nq).go (i+1) (by have:=HN.o;omega)
  simpa using this
 ·have :=(((Mv.refl b w).drewN q).drewN nq).setCell 1 (.int .i64 ((i+1:Nat):Int))
  simpa using this
theorem zU{b:Nat}{x:Addr}{c:Nat}{l:List Int}{i:Nat}{d:Int}(w:World)(h:RB w b x c l i d)(hi:¬i<l.length):
  Calls prog 91 #[.pointer (some ⟨b,0,none⟩)] w fun e w'=>e=bK 1/\Mv b w w':=by
 have HE:=I (kU w h)
 have e1:decide (l.length<=i)=true:=by simp;omega
 rw[e1]at HE
 clear h e1 hi
 go_enter func91,ntmps91
 go_wp2_with fail
 refine HE.o.mono ?_
 rintro e w1 ⟨rfl,q,rfl⟩
 go_wp2
 exact⟨rfl,rfl,(Mv.refl b w).drewN q⟩
theorem eZ(w:World)(p:Int)(t:TypeId):bU (w.alloc (.cells #[.int .i64 p] t)) ⟨w.heap.size,0,none⟩ [p]:=by
 intro j hj
 obtain rfl:j=0:=by simp at hj;omega
 have:(w.alloc (.cells #[.int .i64 p] t)).cell? ⟨w.heap.size,0,none⟩=some (.int .i64 p):=by
  rw[World.cell?_alloc_at _ _ _ _ (by simp)];rfl
 simp[Addr.add]
theorem bQ{b:Nat}{x:Addr}{c:Nat}{l:List Int}{i:Nat}{d:Int}(p:Int)(w:World)(h:RB w b x c l i d)(hs:bk l i [p]=true):
  Calls prog 128 #[.pointer (some ⟨b,0,none⟩),.int .i64 p] w fun e w'=>e=.returned (.tuple #[])/\RB w' b x c l (i+1) d/\Mv b w w':=by
 have HS:=I (je ⟨w.heap.size,0,none⟩ 1 [p] _ (h.alloc (.cells #[.int .i64 p] 3)) (eZ w p 3) (by simp) (by simp))
 rw[hs,if_pos rfl]at HS
 clear h hs
 go_enter func128,ntmps128
 go_wp2_with fail
 refine HS.o.mono ?_
 rintro e w1 ⟨rfl,hr,hm⟩
 have HRR:=I hr
 have HMM:=I hm
 clear hr hm
 go_wp2
 go_end0
 exact⟨rfl,HRR.o,((Mv.refl b w).alloc _).trans HMM.o⟩
theorem cX{b:Nat}{x:Addr}{c:Nat}{l:List Int}{i:Nat}{d:Int}(p:Int)(w:World)(h:RB w b x c l i d)(hs:bk l i [p]=false):
  Calls prog 128 #[.pointer (some ⟨b,0,none⟩),.int .i64 p] w fun e w'=>e=bK 1/\Mv b w w':=by
 have HS:=I (je ⟨w.heap.size,0,none⟩ 1 [p] _ (h.alloc (.cells #[.int .i64 p] 3)) (eZ w p 3) (by simp) (by simp))
 rw[hs,if_neg (by simp)]at HS
 clear h hs
 go_enter func128,ntmps128
 go_wp2_with fail
 refine HS.o.mono ?_
 rintro e w1 ⟨rfl,hr,hm⟩
 have HMM:=I hm
 clear hr hm
 go_wp2
 exact⟨rfl,rfl,((Mv.refl b w).alloc _).trans HMM.o⟩
structure rE(base:Int)(an:Nat)(l:List Int)(i k:Nat)(n:Int):Prop where
 k1:k<=an
 k2:i+k<=l.length
 n0:0<=n
 n1:n<16 ^ k
 rest:cL base an l i=ek base (an - k) (l.drop (i+k)) n k
theorem pO(base:Int)(an:Nat)(l:List Int)(i:Nat)(h:i<=l.length):rE base an l i 0 0:=⟨Nat.zero_le _,h,by omega,by decide,rfl⟩
theorem fW{base:Int}{an:Nat}{l:List Int}{i k:Nat}{n:Int}(h:rE base an l i k n)(hm:an<=6):n<=16777215:=by
 have h1:=h.n1
 have h2:k<=6:=Nat.le_trans h.k1 hm
 have:k=0\/k=1\/k=2\/k=3\/k=4\/k=5\/k=6:=by omega
 rcases this with rfl|rfl|rfl|rfl|rfl|rfl|rfl<;>omega
theorem r8{base:Int}{an:Nat}{l:List Int}{i k:Nat}{n:Int}(h:rE base an l i k n)(hb:base=10\/base=16)(h1:k<an)(h2:i+k<l.length)(h3:dz l[i+k]<base):rE base an l i (k+1) (n*base+dz l[i+k]):=by
 have hd:=nt l[i+k]
 have hn:=h.n1
 have hn0:=h.n0
 refine⟨h1,by omega,?_,?_,?_⟩
 ·rcases hb with rfl|rfl<;>omega
 ·have :(16:Int) ^ (k+1)=16 ^ k*16:=Int.pow_succ _ _
  rcases hb with rfl|rfl<;>omega
 ·rw [h.rest,List.drop_eq_getElem_cons h2,show an - k=(an - (k+1))+1 from by omega,ek,if_pos h3]
  rfl
theorem kN{base:Int}{an:Nat}{l:List Int}{i k:Nat}{n:Int}(h:rE base an l i k n)(he:¬(k<an/\∃h2:i+k<l.length,dz l[i+k]<base)):cL base an l i=(n,k):=by
 rw[h.rest]
 by_cases h1:k<an
 ·rw [show an - k=(an - (k+1))+1 from by omega]
  by_cases h2:i+k<l.length
  ·rw[List.drop_eq_getElem_cons h2,ek,if_neg (fun h3=>he ⟨h1,h2,h3⟩)]
  ·rw[List.drop_eq_nil_of_le (by omega),ek]
 ·have :=h.k1
  rw[show an - k=0 from by omega,ek]
theorem eG(base:Int)(an:Nat)(l:List Int)(i:Nat)(h:i<=l.length)(hb:base=10\/base=16):∃n k,cL base an l i=(n,k)/\rE base an l i k n:=by
 have key:∀f k n,rE base an l i k n->an - k<=f->∃n k,cL base an l i=(n,k)/\rE base an l i k n:=by
  intro f
  induction f with
  |zero=>intro k n hr hf;exact⟨n,k,kN hr (fun hh=>by omega),hr⟩
  |succ f ih=>
   intro k n hr hf
   by_cases hc:k<an/\∃h2:i+k<l.length,dz l[i+k]<base
   ·obtain ⟨h1,h2,h3⟩:=hc
    exact ih _ _ (r8 hr hb h1 h2 h3) (by omega)
   ·exact⟨n,k,kN hr hc,hr⟩
 exact key an 0 0 (pO base an l i h) (by omega)
theorem l9{b:Nat}{x:Addr}{c:Nat}{l:List Int}{i:Nat}{d:Int}(base:Int)(an:Nat)(w:World)(h:RB w b x c l i d)(hb:base=10\/base=16)(hm:an<=6):
  Calls prog 135 #[.pointer (some ⟨b,0,none⟩),.int .i64 base,.int .i64 an] w fun e w'=>e=.returned (.tuple #[.int .i64 (cL base an l i).1,.int .i64 ((cL base an l i).2:Nat)])/\RB w' b x c l (i+(cL base an l i).2) d/\Mv b w w':=by
 have hbb:10<=base/\base<=16:=by omega
 have HBB:=I hb
 have hat:=h.at'
 have hsm:=h.small
 have HP:=I h.dL
 have HR0:=I h
 clear h hb
 go_enter func135,ntmps135
 go_wp2
 go_loopw [6,7] (fun u v wr=>∃(k:Nat) (n:Int),u=.int .i64 n/\v=.int .i64 k/\rE base an l i k n/\RB wr b x c l (i+k) d/\Mv b w wr) (fun _ v _=>an - (intOf v).toNat)
 case atStart=>exact⟨0,0,rfl,rfl,pO base an l i hat,HR0.o,Mv.refl b w⟩
 case round=>
  obtain⟨k,n,rfl,rfl,hd,hr,hv⟩:=hrel
  have HD:=I hd
  have HV:=I hv
  have hnb:=fW hd hm
  have hn0:=hd.n0
  have hk1:=hd.k1
  obtain⟨j,hj⟩:∃j,j=i+k:=⟨_,rfl⟩
  have HJ:=I hj
  rw[<- hj]at hr
  have HRr:=I hr
  obtain⟨c0,c1,c2,f1⟩:=hr.cells
  have HE:=I (fun q=>kU (wr.drewN q) (hr.drewN q))
  obtain⟨len,hlen⟩:∃len,len=l.length:=⟨_,rfl⟩
  have HL:=I hlen
  rw[<- hlen]at HE c0 hsm
  have hjl:j<=len:=by rw[hlen];exact hr.at'
  by_cases h1:k<an
  ·by_cases h2:j<len
   ·have h2':j<l.length:=by omega
    have hpat:=hr.pat j h2'
    have hpt:=HP.o l[j] (List.getElem_mem _)
    have e1:decide (len<=j)=false:=by simp;omega
    rw[e1]at HE
    have HG:=I (fun w'=>Bh l[j] w' hpt.1 hpt.2)
    have hdr:=nt l[j]
    by_cases h3:dz l[j]<base
    ·have hnx:Hid (rE base an l i (k+1) (n*base+dz l[j])):=by
      subst hj
      exact r8 hd HBB.o h1 h2' h3
     obtain⟨p,hp⟩:∃p,p=l[j]:=⟨_,rfl⟩
     rw[<- hp]at hpat HG h3 hnx hdr
     obtain⟨z,hz⟩:∃z,z=dz p:=⟨_,rfl⟩
     rw[<- hz]at HG h3 hnx hdr
     clear e1 hp hz hd hr hv hlen hpt h2' hj hat
     have hmul:0<=n*base/\n*base<=268435440:=by
      rcases HBB.o with rfl|rfl<;>omega
     obtain⟨hmul0,hmul1⟩:=hmul
     obtain⟨hdr0,hdr1⟩:=hdr
     have wl:IntKind.i64.wrap (n*base)=n*base:=by rw[IntKind.wrap_i64];omega
     have wl2:IntKind.i64.wrap (n*base+z)=n*base+z:=by rw[IntKind.wrap_i64];omega
     have t1:(decide ((k:Int)<(an:Int)))=true:=by simp;omega
     have t2:(decide (z<base))=true:=by simpa using h3
     go_wp2
     go_quiet (first|(go_at_call 104;refine Calls.quiet_of (HE.o _))|(go_at_call 142;refine Calls.quiet_of_same (HG.o _)))
     obtain⟨q1,rfl⟩:∃q1,q1=nq:=⟨_,rfl⟩
     go_wp2
     go_quiet (first|(go_at_call 142;refine yk (HG.o _)))
     go_wp2
     go_roundw
     case rel=>exact⟨k+1,_,rfl,by go_num,hnx.o,by
       have:=((HRr.o.drewN q1).drewN nq).go (j+1) (by have:=HL.o;omega)
       have e:i+(k+1)=j+1:=by have:=HJ.o;omega
       rw[e];simpa using this,by have:=((HV.o.drewN q1).drewN nq).setCell 1 (.int .i64 ((j+1:Nat):Int));simpa using this⟩
     case measure=>simp[intOf];omega
    ·have hE:Hid (cL base an l i=(n,k)):=by
      subst hj
      exact kN hd (fun ⟨_,_,hh⟩=>h3 hh)
     obtain⟨p,hp⟩:∃p,p=l[j]:=⟨_,rfl⟩
     rw[<- hp]at hpat HG h3 hdr
     obtain⟨z,hz⟩:∃z,z=dz p:=⟨_,rfl⟩
     rw[<- hz]at HG h3 hdr
     clear e1 hp hz hd hr hv hlen hpt h2' hj hat
     have t1:(decide ((k:Int)<(an:Int)))=true:=by simp;omega
     have t2:(decide (z<base))=false:=by simpa using h3
     go_wp2
     go_quiet (first|(go_at_call 104;refine Calls.quiet_of (HE.o _))|(go_at_call 142;refine Calls.quiet_of_same (HG.o _)))
     go_wp2
     go_ret2
     rw[hE.o]
     refine⟨rfl,?_,HV.o.drewN nq⟩
     have:=HRr.o.drewN nq
     rw[HJ.o]at this
     exact this
   ·have hE:Hid (cL base an l i=(n,k)):=by
     subst hj
     exact kN hd (fun ⟨_,hh,_⟩=>h2 (by omega))
    have e1:decide (len<=j)=true:=by simp;omega
    rw[e1]at HE
    clear e1 hd hr hv hlen hj hat
    have t1:(decide ((k:Int)<(an:Int)))=true:=by simp;omega
    go_wp2
    go_quiet (first|(go_at_call 104;refine Calls.quiet_of (HE.o _)))
    go_wp2
    go_ret2
    rw[hE.o]
    refine⟨rfl,?_,HV.o.drewN nq⟩
    have:=HRr.o.drewN nq
    rw[HJ.o]at this
    exact this
  ·have hE:Hid (cL base an l i=(n,k)):=kN hd (fun ⟨hh,_⟩=>h1 hh)
   clear hd hr hv hlen hj hat
   have t1:(decide ((k:Int)<(an:Int)))=false:=by simp;omega
   go_wp2
   go_quiet (fail)
   go_wp2
   go_ret2
   rw[hE.o]
   refine⟨rfl,?_,HV.o.drewN nq⟩
   have:=HRr.o.drewN nq
   rw[HJ.o]at this
   exact this
theorem FR{b:Nat}{x:Addr}{c:Nat}{l:List Int}{i:Nat}{d:Int}(least an:Nat)(w:World)(h:RB w b x c l i d)(hm:an<=6)(hl:least<=6)(hc:least<=(cL 16 an l i).2):
  Calls prog 119 #[.pointer (some ⟨b,0,none⟩),.int .i64 least,.int .i64 an] w fun e w'=>e=.returned (.int .i64 (cL 16 an l i).1)/\RB w' b x c l (i+(cL 16 an l i).2) d/\Mv b w w':=by
 have HD:=I (l9 16 an w h (Or.inr rfl) hm)
 obtain⟨n,k,e,hr⟩:=eG 16 an l i h.at' (Or.inr rfl)
 have hk:=hr.k1
 rw[e]at HD hc |-
 clear e hr h
 simp only at hc HD
 go_enter func119,ntmps119
 go_wp2_with fail
 refine HD.o.mono ?_
 rintro e w1 ⟨rfl,hr1,hv1⟩
 have HR1:=I hr1
 have HV1:=I hv1
 clear hr1 hv1
 go_wp2
 go_ret
 exact⟨rfl,HR1.o,HV1.o⟩
theorem IL{b:Nat}{x:Addr}{c:Nat}{l:List Int}{i:Nat}{d:Int}(least an:Nat)(w:World)(h:RB w b x c l i d)(hm:an<=6)(hl:least<=6)(hc:(cL 16 an l i).2<least):
  Calls prog 119 #[.pointer (some ⟨b,0,none⟩),.int .i64 least,.int .i64 an] w fun e w'=>e=bK 1/\Mv b w w':=by
 have HD:=I (l9 16 an w h (Or.inr rfl) hm)
 obtain⟨n,k,e,hr⟩:=eG 16 an l i h.at' (Or.inr rfl)
 have hk:=hr.k1
 rw[e]at HD hc
 clear e hr h
 simp only at hc HD
 go_enter func119,ntmps119
 go_wp2_with fail
 refine HD.o.mono ?_
 rintro e w1 ⟨rfl,hr1,hv1⟩
 have HV1:=I hv1
 clear hr1 hv1
 go_wp2
 exact⟨rfl,rfl,HV1.o⟩
end Go.Proofs.YtklbbbldalmnbaaGreatDoor.TK
