import Derived.Test.YtklbbbldalmnbaaGreatDoorZp
import Derived.WalkKit
import Derived.Test.YtklbbbldalmnbaaGreatDoorKK
import Derived.Test.YtklbbbldalmnbaaGreatDoorKA
import Derived.Test.YtklbbbldalmnbaaGreatDoorKC
set_option linter.unusedVariables false
set_option maxHeartbeats 1000000
open Go.Proofs.Tryz
namespace Go.Proofs.YtklbbbldalmnbaaGreatDoor.Br
abbrev PS:Type:=Int->Bool
abbrev BE:Type:=Int×Int
def ba(l:List Int)(i:Nat)(cs:List Int):Bool:=(l.drop i).take cs.length==cs
inductive Wd where
 |pt (p:Int)
 |cls (t:ByteArray) (no:Bool)
structure Ku where
 oN:Bool
 aD:Bool
 nx:List Int->Nat->Except Int (Wd×Nat)
 cl:ByteArray->Except Int PS
 many:PS->Bool
 K3:PS->PS
variable (P : Ku)
def lq(f:PS):Except BE PS:=if P.many f||P.many (fun q=>!f q)then .error (2,0)else .ok fun q=>!f q
def kz(f g:PS):Except BE PS:=if P.many f||P.many g||P.many (fun q=>f q&&g q)then .error (2,0)else .ok fun q=>f q&&g q
def kY(f:PS):Except BE PS:=if P.many f||P.many (P.K3 f)then .error (2,0)else .ok (P.K3 f)
def dN(l:List Int)(i:Nat):Except BE (Wd×Nat):=
 match l[i]? with
 |none=>.error (1,i)
 |some p=>if P.oN&&ba l i [92]then(match P.nx l i with| .error e=>.error (e,i)| .ok x=>.ok x)else .ok (.pt p,i+1)
def fg(t:ByteArray)(no:Bool)(at_:Int):Except BE PS:=
 match P.cl t with
 | .error e=>.error (e,at_)
 | .ok f=>if no then lq P f else .ok f
def cz(l:List Int)(i:Nat):Bool:=ba l i [91,58]
def sf(l:List Int)(i:Nat):Bool:=P.oN&&ba l i [91]&&!cz l i
def ky(l:List Int)(i:Nat):Bool:=P.oN&&ba l i [38,38]
def mn(l:List Int)(i:Nat):Bool:=ba l i [45]&&!ba l i [45,93]
def aL(l:List Int)(i:Nat):List Int:=(l.drop i).takeWhile fun c=>decide (97<=c)&&decide (c<=122)
def dP(l:List Int)(i:Nat):Except BE (PS×Nat):=
 let no:=P.oN&&ba l (i+2) [94]
 let j:=if no then i+3 else i+2
 let t:=aL l j
 if t=[]\/ba l (j+t.length) [58,93]=false then .error (1,((j+t.length:Nat):Int))
 else match fg P ⟨(t.map fun c=>UInt8.ofNat c.toNat).toArray⟩ no i with
  | .error e=>.error e
  | .ok f=>.ok (f,j+t.length+2)
def gW(l:List Int)(j:Nat)(from_:Int):Except BE (Int×Nat):=
 if cz l j||sf P l j||ky P l j then .error (1,j)
 else match dN P l j with
  | .error e=>.error e
  | .ok (.cls _ _,_)=>.error (1,j)
  | .ok (.pt q,k)=>if q<from_ then .error (3,j)else .ok (q,k)
def fa(rec:List Int->Nat->Nat->Except BE (PS×Nat))(l:List Int)(i deep:Nat):Except BE (PS×Nat):=
 if cz l i then dP P l i
 else if sf P l i then(if deep=20 then .error (2,i)else rec l (i+1) (deep+1))
 else match dN P l i with
  | .error e=>.error e
  | .ok (.cls t no,k)=>(match fg P t no i with| .error e=>.error e| .ok f=>.ok (f,k))
  | .ok (.pt p,k)=>
   if mn l k then(match gW P l (k+1) p with| .error e=>.error e| .ok (q,m)=>.ok (fun x=>decide (p<=x)&&decide (x<=q),m))
   else .ok (fun x=>decide (p<=x)&&decide (x<=p),k)
def fR(l:List Int)(first i:Nat):Bool:=(decide (i≠first)&&ba l i [93])||ky P l i
def eD(rec:List Int->Nat->Nat->Except BE (PS×Nat))(l:List Int)(first deep:Nat):Nat->Nat->PS->Except BE (PS×Nat)
 |0,i,acc=>.ok (acc,i)
 |n+1,i,acc=>
  if fR P l first i then .ok (acc,i)
  else match fa P rec l i deep with
   | .error e=>.error e
   | .ok (f,k)=>eD rec l first deep n k (fun x=>acc x||f x)
def eN(rec:List Int->Nat->Nat->Except BE (PS×Nat))(l:List Int)(first deep i:Nat):Except BE (PS×Nat):=
 match eD P rec l first deep (l.length+2 - i) i (fun _=>false)with
 | .error e=>.error e
 | .ok (f,k)=>
  if k=i then .error (1,k)
  else if P.aD then(match kY P f with| .error e=>.error e| .ok g=>.ok (g,k))else .ok (f,k)
def fi(rec:List Int->Nat->Nat->Except BE (PS×Nat))(l:List Int)(first deep:Nat):Nat->Nat->PS->Except BE (PS×Nat)
 |0,i,acc=>.ok (acc,i)
 |n+1,i,acc=>
  if ky P l i then
   (match eN P rec l first deep (i+2)with
   | .error e=>.error e
   | .ok (f,k)=>match kz P acc f with
    | .error e=>.error e
    | .ok g=>fi rec l first deep n k g)
  else .ok (acc,i)
def fJ(rec:List Int->Nat->Nat->Except BE (PS×Nat))(l:List Int)(i deep:Nat):Except BE (PS×Nat):=
 match eN P rec l i deep i with
 | .error e=>.error e
 | .ok (f,k)=>match fi P rec l i deep (l.length+2 - k) k f with
  | .error e=>.error e
  | .ok (g,m)=>.ok (g,if ba l m [93]then m+1 else m)
def iR(rec:List Int->Nat->Nat->Except BE (PS×Nat))(l:List Int)(i deep:Nat):Except BE (PS×Nat):=
 if ba l i [94]then
  (match fJ P rec l (i+1) deep with
  | .error e=>.error e
  | .ok (f,k)=>match lq P f with
   | .error e=>.error e
   | .ok g=>.ok (g,k))
 else fJ P rec l i deep
def eZ:Nat->List Int->Nat->Nat->Except BE (PS×Nat)
 |0=>fun _ _ _=>.error (2,0)
 |n+1=>iR P (eZ n)
variable {P}
end Go.Proofs.YtklbbbldalmnbaaGreatDoor.Br
namespace Go.Proofs.YtklbbbldalmnbaaGreatDoor.Br
open Go.RowKit
open TK (Mv bL cu aX)
structure BB(w:World)(b:Nat)(v:Value)(l:List Int)(i:Nat)(d:Int)(fo:Bool):Prop where
 box:w.heap[b]? =some (.cells #[v,.int .i64 i,.int .i64 d,.bool fo] 185 (0,0))
 pat:bL w v l
 ne:∀x c,0<l.length->v=.slice (some x) l.length c->x.block≠b
 small:l.length<=300
 at':i<=l.length
 ec:∀p∈l,0<=p/\p<=1114111
 Lk:d=1\/d=2\/d=3
 Dz:Fo.ja w
 pos:3<b
variable {w w' : World} {b : Nat} {v : Value} {l : List Int} {i : Nat} {d : Int} {fo : Bool}
theorem BB.lt(h:BB w b v l i d fo):b<w.heap.size:=lt_of_block h.box
theorem BB.cells(h:BB w b v l i d fo):
  w.cell? ⟨b,0,none⟩=some v/\w.cell? ⟨b,1,none⟩=some (.int .i64 i)/\w.cell? ⟨b,2,none⟩=some (.int .i64 d)/\w.cell? ⟨b,3,none⟩=some (.bool fo)/\w.frozen? ⟨b,1,none⟩=false:=by
 refine⟨?_,?_,?_,?_,?_⟩<;>simp[World.cell?,World.frozen?,h.box]
theorem BB.ax(h:BB w b v l i d fo)(hb:Below w.heap.size w w'):BB w' b v l i d fo:=
 ⟨by rw[hb.block b h.lt];exact h.box,h.pat.below hb,h.ne,h.small,h.at',h.ec,h.Lk,h.Dz.below hb (Nat.lt_trans h.pos h.lt),h.pos⟩
theorem BB.drewN(h:BB w b v l i d fo)(q:Nat):BB (w.drewN q) b v l i d fo:=h.ax (by exact⟨rfl,rfl,rfl,ai _,fun _ _=>rfl⟩)
theorem BB.alloc(h:BB w b v l i d fo)(o:Obj):BB (w.alloc o) b v l i d fo:=h.ax ((aI _ w).alloc (ai _) o)
theorem bL.mv(hp:bL w v l)(hm:Mv b w w')(hne:∀x c,0<l.length->v=.slice (some x) l.length c->x.block≠b):bL w' v l:=by
 rcases hp with⟨h1,h2⟩|⟨x,c,h1,h2,h3⟩
 ·exact .inl ⟨h1,h2⟩
 ·refine .inr ⟨x,c,h1,h2,fun j hj=>?_⟩
  exact hm.cell (by rw[aX];exact hne x c (by omega) h1) (h3 j hj)
theorem BB.mv(h:BB w b v l i d fo)(hm:Mv b w w'){j:Nat}(hj:j<=l.length)(hbox:w'.heap[b]? =some (.cells #[v,.int .i64 j,.int .i64 d,.bool fo] 185 (0,0))):BB w' b v l j d fo:=
 ⟨hbox,bL.mv h.pat hm h.ne,h.ne,h.small,hj,h.ec,h.Lk,h.Dz.below (hm.below h.lt) h.pos,h.pos⟩
theorem BB.go(h:BB w b v l i d fo)(k:Nat)(hk:k<=l.length):BB (w.setCell ⟨b,1,none⟩ (.int .i64 k)) b v l k d fo:=by
 refine h.mv ((Mv.refl b w).setCell 1 _) hk ?_
 have hlt:=h.lt
 have h':w.heap[b]=.cells #[v,.int .i64 i,.int .i64 d,.bool fo] 185 (0,0):=by simpa[Array.getElem?_eq_getElem hlt]using h.box
 show(w.heap.modify b _)[b]? =_
 rw[Array.getElem?_eq_getElem (by simpa using hlt),Array.getElem_modify_self,h']
 rfl
theorem oA(l:List Int)(i:Nat)(s:List Int):ba l i s=TK.bw l i s:=(TK.Bk l i s).symm
theorem ez{s:List Int}(h:ba l i s=true)(hs:s≠[]):i+s.length<=l.length:=by rw[oA]at h;exact TK.fU h hs
theorem EJ{s:List Int}(h:l.length<i+s.length)(hs:1<=s.length):ba l i s=false:=by rw[oA];exact TK.xZ h hs
theorem eJ(h:BB w b v l i d fo):
  Calls prog 104 #[.pointer (some ⟨b,0,none⟩)] w fun e w'=>e=.returned (.bool (decide (l.length<=i)))/\∃q,w'=w.drewN q:=by
 obtain⟨c0,c1,c2,c3,f1⟩:=h.cells
 obtain⟨ao,c,rfl⟩:=h.pat.shape
 clear h
 go_enter func104,ntmps104
 go_wp2
 go_quiet (fail)
 go_wp2
 go_ret
 exact⟨rfl,_,rfl⟩
theorem uf(y:Addr)(cs:Nat)(s:List Int)(h:BB w b v l i d fo)(hs:cu w y s)(hs1:1<=s.length)(hs2:s.length<=4):
  Calls prog 124 #[.pointer (some ⟨b,0,none⟩),.slice (some y) s.length cs] w fun e w'=>e=.returned (.bool (ba l i s))/\∃q,w'=w.drewN q:=by
 obtain⟨c0,c1,c2,c3,f1⟩:=h.cells
 have hsm:=h.small
 have hat:=h.at'
 by_cases hin:i+s.length<=l.length
 ·obtain ⟨x,c,rfl,hcap,hpat⟩:=h.pat.some (by omega)
  have hlen:((l.drop i).take s.length).length=s.length:=by rw[List.length_take,List.length_drop];omega
  have HEq:Hid (∀q,Calls prog 137 #[.slice (some (x.add i)) s.length (c - i),.slice (some y) s.length cs] (w.drewN q) fun e w'=>e=.returned (.bool (ba l i s))/\∃m,w'=(w.drewN q).drewN m):=by
   intro q
   have:=TK.tb (x.add i) y (c - i) cs ((l.drop i).take s.length) s (w.drewN q) (TK.pd hpat i s.length) hs (by omega) (by omega)
   rw[hlen]at this
   exact this
  obtain⟨z,hz⟩:=J (ba l i s)
  obtain⟨n,hn⟩:=J l.length
  obtain⟨m,hm⟩:=J s.length
  rw[<- hn]at c0 hin hcap hsm hat
  rw[<- hm]at hin HEq hs1 hs2 |-
  rw[<- hz]at HEq |-
  have hci:¬c=i:=by omega
  clear hn hm hz h hs hlen hpat
  go_enter func124,ntmps124
  go_wp2
  have e1:(decide ((i:Int)+(m:Int)<=(n:Int)))=true:=by simp;omega
  go_quiet (first|(go_at_call 137;refine Calls.quiet_of (HEq.o _)))
  go_wp2
  go_ret
  exact⟨rfl,_,rfl⟩
 ·rw [EJ (by omega) hs1]
  obtain⟨ao,c,rfl⟩:=h.pat.shape
  obtain⟨n,hn⟩:=J l.length
  obtain⟨m,hm⟩:=J s.length
  rw[<- hn]at c0 hin hsm hat
  rw[<- hm]at hin hs1 hs2 |-
  clear hn hm h hs
  go_enter func124,ntmps124
  go_wp2
  have e1:(decide ((i:Int)+(m:Int)<=(n:Int)))=false:=by simp;omega
  go_quiet (fail)
  go_wp2
  go_ret
  exact⟨rfl,_,rfl⟩
theorem s5(y:Addr)(cs:Nat)(s:List Int)(h:BB w b v l i d fo)(hs:cu w y s)(hs1:1<=s.length)(hs2:s.length<=4):
  Calls prog 107 #[.pointer (some ⟨b,0,none⟩),.slice (some y) s.length cs] w fun e w'=>e=.returned (.bool (ba l i s))/\BB w' b v l (if ba l i s then i+s.length else i) d fo/\Mv b w w':=by
 have HI:=I (uf y cs s h hs hs1 hs2)
 have HR:=I h
 have hat:=h.at'
 have hsm:=h.small
 cases hz:ba l i s with
 |true=>
  have hin:=I (ez hz (by intro e;rw[e]at hs1;simp at hs1))
  rw[hz]at HI
  obtain⟨m,hm⟩:=J s.length
  rw[<- hm]at HI hin hs1 hs2 |-
  clear hz hs hm
  go_enter func107,ntmps107
  go_wp2_with fail
  refine HI.o.mono ?_
  rintro e w1 ⟨rfl,q,rfl⟩
  obtain⟨c0,c1,c2,c3,f1⟩:=h.cells
  clear h
  go_wp2
  go_ret
  refine⟨rfl,?_,?_⟩
  ·have :=(HR.o.drewN q).go (i+m) (by have:=hin.o;omega)
   simpa using this
  ·have :=((Mv.refl b w).drewN q).setCell 1 (.int .i64 ((i+m:Nat):Int))
   simpa using this
 |false=>
  rw[hz]at HI
  obtain⟨m,hm⟩:=J s.length
  rw[<- hm]at HI hs1 hs2 |-
  clear hz hs hm h
  go_enter func107,ntmps107
  go_wp2_with fail
  refine HI.o.mono ?_
  rintro e w1 ⟨rfl,q,rfl⟩
  go_wp2
  go_ret
  exact⟨rfl,HR.o.drewN q,(Mv.refl b w).drewN q⟩
end Go.Proofs.YtklbbbldalmnbaaGreatDoor.Br
