import Derived.Test.YtklbbbldalmnbaaGreatDoorZo
import Derived.WalkKit
import Derived.Test.YtklbbbldalmnbaaGreatDoorKK
import Derived.Test.YtklbbbldalmnbaaGreatDoorKA
import Derived.Test.YtklbbbldalmnbaaGreatDoorKC
set_option linter.unusedVariables false
set_option maxHeartbeats 1000000
open Go.Proofs.Tryz
namespace Go.Proofs.YtklbbbldalmnbaaGreatDoor.Br
abbrev PS:Type:=Int->Bool
abbrev BE:Type:=Int×Int
def aX(l:List Int)(i:Nat)(cs:List Int):Bool:=(l.drop i).take cs.length==cs
inductive Wd where
 |pt (p:Int)
 |cls (t:ByteArray) (no:Bool)
structure JH where
 pG:Bool
 aD:Bool
 nx:List Int->Nat->Except Int (Wd×Nat)
 cl:ByteArray->Except Int PS
 many:PS->Bool
 JS:PS->PS
variable (P : JH)
def mr(f:PS):Except BE PS:=if P.many f||P.many (fun q=>!f q)then .error (2,0)else .ok fun q=>!f q
def lO(f g:PS):Except BE PS:=if P.many f||P.many g||P.many (fun q=>f q&&g q)then .error (2,0)else .ok fun q=>f q&&g q
def mY(f:PS):Except BE PS:=if P.many f||P.many (P.JS f)then .error (2,0)else .ok (P.JS f)
def dJ(l:List Int)(i:Nat):Except BE (Wd×Nat):=
 match l[i]? with
 |none=>.error (1,i)
 |some p=>if P.pG&&aX l i [92]then(match P.nx l i with| .error e=>.error (e,i)| .ok x=>.ok x)else .ok (.pt p,i+1)
def fB(t:ByteArray)(no:Bool)(at_:Int):Except BE PS:=
 match P.cl t with
 | .error e=>.error (e,at_)
 | .ok f=>if no then mr P f else .ok f
def bZ(l:List Int)(i:Nat):Bool:=aX l i [91,58]
def um(l:List Int)(i:Nat):Bool:=P.pG&&aX l i [91]&&!bZ l i
def kr(l:List Int)(i:Nat):Bool:=P.pG&&aX l i [38,38]
def mU(l:List Int)(i:Nat):Bool:=aX l i [45]&&!aX l i [45,93]
def aH(l:List Int)(i:Nat):List Int:=(l.drop i).takeWhile fun c=>decide (97<=c)&&decide (c<=122)
def dT(l:List Int)(i:Nat):Except BE (PS×Nat):=
 let no:=P.pG&&aX l (i+2) [94]
 let j:=if no then i+3 else i+2
 let t:=aH l j
 if t=[]\/aX l (j+t.length) [58,93]=false then .error (1,((j+t.length:Nat):Int))
 else match fB P ⟨(t.map fun c=>UInt8.ofNat c.toNat).toArray⟩ no i with
  | .error e=>.error e
  | .ok f=>.ok (f,j+t.length+2)
def iD(l:List Int)(j:Nat)(from_:Int):Except BE (Int×Nat):=
 if bZ l j||um P l j||kr P l j then .error (1,j)
 else match dJ P l j with
  | .error e=>.error e
  | .ok (.cls _ _,_)=>.error (1,j)
  | .ok (.pt q,k)=>if q<from_ then .error (3,j)else .ok (q,k)
def fi(rec:List Int->Nat->Nat->Except BE (PS×Nat))(l:List Int)(i deep:Nat):Except BE (PS×Nat):=
 if bZ l i then dT P l i
 else if um P l i then(if deep=20 then .error (2,i)else rec l (i+1) (deep+1))
 else match dJ P l i with
  | .error e=>.error e
  | .ok (.cls t no,k)=>(match fB P t no i with| .error e=>.error e| .ok f=>.ok (f,k))
  | .ok (.pt p,k)=>
   if mU l k then(match iD P l (k+1) p with| .error e=>.error e| .ok (q,m)=>.ok (fun x=>decide (p<=x)&&decide (x<=q),m))
   else .ok (fun x=>decide (p<=x)&&decide (x<=p),k)
def fH(l:List Int)(first i:Nat):Bool:=(decide (i≠first)&&aX l i [93])||kr P l i
def eN(rec:List Int->Nat->Nat->Except BE (PS×Nat))(l:List Int)(first deep:Nat):Nat->Nat->PS->Except BE (PS×Nat)
 |0,i,acc=>.ok (acc,i)
 |n+1,i,acc=>
  if fH P l first i then .ok (acc,i)
  else match fi P rec l i deep with
   | .error e=>.error e
   | .ok (f,k)=>eN rec l first deep n k (fun x=>acc x||f x)
def eS(rec:List Int->Nat->Nat->Except BE (PS×Nat))(l:List Int)(first deep i:Nat):Except BE (PS×Nat):=
 match eN P rec l first deep (l.length+2 - i) i (fun _=>false)with
 | .error e=>.error e
 | .ok (f,k)=>
  if k=i then .error (1,k)
  else if P.aD then(match mY P f with| .error e=>.error e| .ok g=>.ok (g,k))else .ok (f,k)
def fA(rec:List Int->Nat->Nat->Except BE (PS×Nat))(l:List Int)(first deep:Nat):Nat->Nat->PS->Except BE (PS×Nat)
 |0,i,acc=>.ok (acc,i)
 |n+1,i,acc=>
  if kr P l i then
   (match eS P rec l first deep (i+2)with
   | .error e=>.error e
   | .ok (f,k)=>match lO P acc f with
    | .error e=>.error e
    | .ok g=>fA rec l first deep n k g)
  else .ok (acc,i)
def gv(rec:List Int->Nat->Nat->Except BE (PS×Nat))(l:List Int)(i deep:Nat):Except BE (PS×Nat):=
 match eS P rec l i deep i with
 | .error e=>.error e
 | .ok (f,k)=>match fA P rec l i deep (l.length+2 - k) k f with
  | .error e=>.error e
  | .ok (g,m)=>.ok (g,if aX l m [93]then m+1 else m)
def iW(rec:List Int->Nat->Nat->Except BE (PS×Nat))(l:List Int)(i deep:Nat):Except BE (PS×Nat):=
 if aX l i [94]then
  (match gv P rec l (i+1) deep with
  | .error e=>.error e
  | .ok (f,k)=>match mr P f with
   | .error e=>.error e
   | .ok g=>.ok (g,k))
 else gv P rec l i deep
def fl:Nat->List Int->Nat->Nat->Except BE (PS×Nat)
 |0=>fun _ _ _=>.error (2,0)
 |n+1=>iW P (fl n)
variable {P}
end Go.Proofs.YtklbbbldalmnbaaGreatDoor.Br
namespace Go.Proofs.YtklbbbldalmnbaaGreatDoor.Br
open Go.RowKit
open TK (Mv bJ bU aS)
structure BB(w:World)(b:Nat)(v:Value)(l:List Int)(i:Nat)(d:Int)(fo:Bool):Prop where
 box:w.heap[b]? =some (.cells #[v,.int .i64 i,.int .i64 d,.bool fo] 185 (0,0))
 pat:bJ w v l
 ne:∀x c,0<l.length->v=.slice (some x) l.length c->x.block≠b
 small:l.length<=300
 at':i<=l.length
 dL:∀p∈l,0<=p/\p<=1114111
 Ke:d=1\/d=2\/d=3
 Bl:Fo.iP w
 pos:3<b
variable {w w' : World} {b : Nat} {v : Value} {l : List Int} {i : Nat} {d : Int} {fo : Bool}
theorem BB.lt(h:BB w b v l i d fo):b<w.heap.size:=lt_of_block h.box
theorem BB.cells(h:BB w b v l i d fo):
  w.cell? ⟨b,0,none⟩=some v/\w.cell? ⟨b,1,none⟩=some (.int .i64 i)/\w.cell? ⟨b,2,none⟩=some (.int .i64 d)/\w.cell? ⟨b,3,none⟩=some (.bool fo)/\w.frozen? ⟨b,1,none⟩=false:=by
 refine⟨?_,?_,?_,?_,?_⟩<;>simp[World.cell?,World.frozen?,h.box]
theorem BB.ar(h:BB w b v l i d fo)(hb:Below w.heap.size w w'):BB w' b v l i d fo:=
 ⟨by rw[hb.block b h.lt];exact h.box,h.pat.below hb,h.ne,h.small,h.at',h.dL,h.Ke,h.Bl.below hb (Nat.lt_trans h.pos h.lt),h.pos⟩
theorem BB.drewN(h:BB w b v l i d fo)(q:Nat):BB (w.drewN q) b v l i d fo:=h.ar (by exact⟨rfl,rfl,rfl,U _,fun _ _=>rfl⟩)
theorem BB.alloc(h:BB w b v l i d fo)(o:Obj):BB (w.alloc o) b v l i d fo:=h.ar ((J _ w).alloc (U _) o)
theorem bJ.mv(hp:bJ w v l)(hm:Mv b w w')(hne:∀x c,0<l.length->v=.slice (some x) l.length c->x.block≠b):bJ w' v l:=by
 rcases hp with⟨h1,h2⟩|⟨x,c,h1,h2,h3⟩
 ·exact .inl ⟨h1,h2⟩
 ·refine .inr ⟨x,c,h1,h2,fun j hj=>?_⟩
  exact hm.cell (by rw[aS];exact hne x c (by omega) h1) (h3 j hj)
theorem BB.mv(h:BB w b v l i d fo)(hm:Mv b w w'){j:Nat}(hj:j<=l.length)(hbox:w'.heap[b]? =some (.cells #[v,.int .i64 j,.int .i64 d,.bool fo] 185 (0,0))):BB w' b v l j d fo:=
 ⟨hbox,bJ.mv h.pat hm h.ne,h.ne,h.small,hj,h.dL,h.Ke,h.Bl.below (hm.below h.lt) h.pos,h.pos⟩
theorem BB.go(h:BB w b v l i d fo)(k:Nat)(hk:k<=l.length):BB (w.setCell ⟨b,1,none⟩ (.int .i64 k)) b v l k d fo:=by
 refine h.mv ((Mv.refl b w).setCell 1 _) hk ?_
 have hlt:=h.lt
 have h':w.heap[b]=.cells #[v,.int .i64 i,.int .i64 d,.bool fo] 185 (0,0):=by simpa[Array.getElem?_eq_getElem hlt]using h.box
 show(w.heap.modify b _)[b]? =_
 rw[Array.getElem?_eq_getElem (by simpa using hlt),Array.getElem_modify_self,h']
 rfl
theorem nQ(l:List Int)(i:Nat)(s:List Int):aX l i s=TK.bk l i s:=(TK.zR l i s).symm
theorem ji{s:List Int}(h:aX l i s=true)(hs:s≠[]):i+s.length<=l.length:=by rw[nQ]at h;exact TK.fF h hs
theorem C6{s:List Int}(h:l.length<i+s.length)(hs:1<=s.length):aX l i s=false:=by rw[nQ];exact TK.uK h hs
theorem eE(h:BB w b v l i d fo):
  Calls prog 104 #[.pointer (some ⟨b,0,none⟩)] w fun e w'=>e=.returned (.bool (decide (l.length<=i)))/\∃q,w'=w.drewN q:=by
 obtain⟨c0,c1,c2,c3,f1⟩:=h.cells
 obtain⟨ao,c,rfl⟩:=h.pat.shape
 clear h
 go_enter func104,ntmps104
 go_wp2
 go_quiet (fail)
 go_wp2
 go_ret
 exact⟨rfl,_,rfl⟩
theorem tL(y:Addr)(cs:Nat)(s:List Int)(h:BB w b v l i d fo)(hs:bU w y s)(hs1:1<=s.length)(hs2:s.length<=4):
  Calls prog 124 #[.pointer (some ⟨b,0,none⟩),.slice (some y) s.length cs] w fun e w'=>e=.returned (.bool (aX l i s))/\∃q,w'=w.drewN q:=by
 obtain⟨c0,c1,c2,c3,f1⟩:=h.cells
 have hsm:=h.small
 have hat:=h.at'
 by_cases hin:i+s.length<=l.length
 ·obtain ⟨x,c,rfl,hcap,hpat⟩:=h.pat.some (by omega)
  have hlen:((l.drop i).take s.length).length=s.length:=by rw[List.length_take,List.length_drop];omega
  have HEq:Hid (∀q,Calls prog 137 #[.slice (some (x.add i)) s.length (c - i),.slice (some y) s.length cs] (w.drewN q) fun e w'=>e=.returned (.bool (aX l i s))/\∃m,w'=(w.drewN q).drewN m):=by
   intro q
   have:=TK.rU (x.add i) y (c - i) cs ((l.drop i).take s.length) s (w.drewN q) (TK.oG hpat i s.length) hs (by omega) (by omega)
   rw[hlen]at this
   exact this
  obtain⟨z,hz⟩:∃z,z=aX l i s:=⟨_,rfl⟩
  obtain⟨n,hn⟩:∃n,n=l.length:=⟨_,rfl⟩
  obtain⟨m,hm⟩:∃m,m=s.length:=⟨_,rfl⟩
  rw[<- hn]at c0 hin hcap hsm hat
  rw[<- hm]at hin HEq hs1 hs2 |-
  rw[<- hz]at HEq |-
  have hci:¬c=i:=by omega
  clear hn hm hz h hs hlen hpat
  go_enter func124,ntmps124
  go_wp2
  have e1:(decide ((i:Int)+(m:Int)<=(n:Int)))=true:=by simp;omega
  go_quiet (first|(go_at_call 137;refine Calls.quiet_of (HEq.o _)))
  go_wp2
  go_ret
  exact⟨rfl,_,rfl⟩
 ·rw [C6 (by omega) hs1]
  obtain⟨ao,c,rfl⟩:=h.pat.shape
  obtain⟨n,hn⟩:∃n,n=l.length:=⟨_,rfl⟩
  obtain⟨m,hm⟩:∃m,m=s.length:=⟨_,rfl⟩
  rw[<- hn]at c0 hin hsm hat
  rw[<- hm]at hin hs1 hs2 |-
  clear hn hm h hs
  go_enter func124,ntmps124
  go_wp2
  have e1:(decide ((i:Int)+(m:Int)<=(n:Int)))=false:=by simp;omega
  go_quiet (fail)
  go_wp2
  go_ret
  exact⟨rfl,_,rfl⟩
theorem rX(y:Addr)(cs:Nat)(s:List Int)(h:BB w b v l i d fo)(hs:bU w y s)(hs1:1<=s.length)(hs2:s.length<=4):
  Calls prog 107 #[.pointer (some ⟨b,0,none⟩),.slice (some y) s.length cs] w fun e w'=>e=.returned (.bool (aX l i s))/\BB w' b v l (if aX l i s then i+s.length else i) d fo/\Mv b w w':=by
 have HI:=I (tL y cs s h hs hs1 hs2)
 have HR:=I h
 have hat:=h.at'
 have hsm:=h.small
 cases hz:aX l i s with
 |true=>
  have hin:=I (ji hz (by intro e;rw[e]at hs1;simp at hs1))
  rw[hz]at HI
  obtain⟨m,hm⟩:∃m,m=s.length:=⟨_,rfl⟩
  rw[<- hm]at HI hin hs1 hs2 |-
  clear hz hs hm
  go_enter func107,ntmps107
  go_wp2_with fail
  refine HI.o.mono ?_
  rintro e w1 ⟨rfl,q,rfl⟩
  obtain⟨c0,c1,c2,c3,f1⟩:=h.cells
  clear h
  go_wp2
  go_ret
  refine⟨rfl,?_,?_⟩
  ·have :=(HR.o.drewN q).go (i+m) (by have:=hin.o;omega)
   simpa using this
  ·have :=((Mv.refl b w).drewN q).setCell 1 (.int .i64 ((i+m:Nat):Int))
   simpa using this
 |false=>
  rw[hz]at HI
  obtain⟨m,hm⟩:∃m,m=s.length:=⟨_,rfl⟩
  rw[<- hm]at HI hs1 hs2 |-
  clear hz hs hm h
  go_enter func107,ntmps107
  go_wp2_with fail
  refine HI.o.mono ?_
  rintro e w1 ⟨rfl,q,rfl⟩
  go_wp2
  go_ret
  exact⟨rfl,HR.o.drewN q,(Mv.refl b w).drewN q⟩
end Go.Proofs.YtklbbbldalmnbaaGreatDoor.Br
