import Derived.Test.YtklbbbldalmnbaaGreatDoorCards
import Derived.Test.YtklbbbldalmnbaaGreatDoorTie
import Derived.Test.YtklbbbldalmnbaaGreatDoorKA
import Derived.WalkKit
import Derived.ProofKit
import Derived.OpenShut
import Derived.LaidLaws
import Derived.Deep.DeepHandedRow
import Derived.Test.YtklbbbldalmnbaaGreatDoorKC
import Derived.Test.YtklbbbldalmnbaaGreatDoorRows
import Derived.ChangeOld
import Derived.Below
import Derived.Test.YtklbbbldalmnbaaGreatDoorRA
import Derived.Deep.AppendLies
import Derived.Deep.Onto
import Derived.Test.YtklbbbldalmnbaaGreatDoorMB
import Derived.SizedLaws
import Derived.PlainAid
import Derived.StillTailTactics
set_option linter.unusedVariables false
set_option maxHeartbeats 4000000
set_option maxRecDepth 100000
open Go.Proofs.Tryz
namespace Go.Proofs.YtklbbbldalmnbaaGreatDoor.Fo
open Go.ChangeShapes Go.WideShapes Go.ChangeAt Go.RowKit
theorem own:ownKnob Tryz.prog.godebug=none:=by kernel_rfl
theorem Jm:Tryz.prog.globalNamed "thicket/fold.letters" =some 3:=by kernel_rfl
theorem ET:(Tryz.prog.globals[3]?).map (·.type)=some 191:=by kernel_rfl
theorem cells190:Tryz.prog.cellsOf 190=4:=by kernel_rfl
theorem zk:Tryz.prog.cellsOf 3=1:=by kernel_rfl
def D4{H:Type}(r:Pr):DataW H:=.agg [.lit (.int .i64 r.first),.lit (.int .i64 r.last),.lit (.int .i64 r.step),.lit (.int .i64 r.shift)]
theorem zn{H:Type}:(Rows.laid_thicket_fold_letters:DataW H)=.agg (lets.map D4):=rfl
theorem iz{cs:List Value}{k:Nat}{v:Value}(h:(cs.drop k).take 1=[v]):cs[k]? =some v:=by
 have:=congrArg (·[0]?) h
 simpa[List.getElem?_take,List.getElem?_drop]using this
theorem one_cell{H:Type}{enc:TypeId×Value->H}{w:World}{base:Nat}{sp:Nat->Bool}{held:Bool}{fuel k:Nat}{cs:List Value}{x:DataW H×List MemPlace}{n:Int}
  (h:DataW.trod enc prog w base sp held fuel 3 ((cs.drop k).take (Tryz.prog.cellsOf 3))=some x) (e:x.1=.lit (.int .i64 n)):cs[k]? =some (.int .i64 n):=by
 rw[zk]at h
 obtain⟨z,hz,hx,_⟩:=DataW.trod_int underlying3 h
 rw[hx]at e
 cases e
 exact iz hz
theorem Bu{H:Type}{enc:TypeId×Value->H}{w:World}{base:Nat}{sp:Nat->Bool}{held:Bool}{fuel:Nat}{cs:List Value}{r:Pr}{x:DataW H×List MemPlace}
  (h:DataW.trod enc prog w base sp held fuel 190 cs=some x) (e:x.1=D4 r):
  cs[0]? =some (.int .i64 r.first)/\cs[1]? =some (.int .i64 r.last)/\cs[2]? =some (.int .i64 r.step)/\cs[3]? =some (.int .i64 r.shift):=by
 obtain⟨xs,n,rfl,hx,hl,hxl,hall⟩:=DataW.trod_struct underlying190 h
 rw[hx]at e
 have hx3:xs.map (·.1)=[.lit (.int .i64 r.first),.lit (.int .i64 r.last),.lit (.int .i64 r.step),.lit (.int .i64 r.shift)]:=by
  simpa[D4]using e
 obtain⟨x0,x1,x2,x3,rfl⟩:∃x0 x1 x2 x3,xs=[x0,x1,x2,x3]:=by
  match xs,hx3 with
  |[x0,x1,x2,x3],_=>exact⟨x0,x1,x2,x3,rfl⟩
 simp only[List.map_cons,List.map_nil,List.cons.injEq,and_true]at hx3
 obtain⟨e0,e1,e2,e3⟩:=hx3
 exact⟨one_cell (hall 0 _ rfl) e0,one_cell (hall 1 _ rfl) e1,one_cell (hall 2 _ rfl) e2,one_cell (hall 3 _ rfl) e3⟩
theorem yh{W:World}{ps:List MemPlace}(h:DataW.LaidVars prog W [("thicket/fold.letters",Rows.laid_thicket_fold_letters)] ps):iP W/\3<W.heap.size:=by
 obtain⟨g,t,cs,fuel,p,q,hg,ht,hvar,hd,_,_⟩:=h
 obtain rfl:=Option.some.inj (Jm.symm.trans hg)
 obtain rfl:=Option.some.inj (ET.symm.trans ht)
 have hcell:∀i,W.cell? ⟨3,i,none⟩=cs[i]? :=fun i=>World.var?_cell Jm hvar i
 obtain⟨xs,m,rfl,hx,hl,hxl,hall⟩:=DataW.trod_array underlying191 hd
 rw[zn]at hx
 have hxs:xs.map (·.1)=lets.map D4:=by
  have:=congrArg Prod.fst hx
  simpa using this.symm
 have hrow:∀i (hi:i<13),W.cell? ⟨3,i*4,none⟩=some (.int .i64 (lets[i]'hi).first)/\W.cell? ⟨3,i*4+1,none⟩=some (.int .i64 (lets[i]'hi).last)/\W.cell? ⟨3,i*4+2,none⟩=some (.int .i64 (lets[i]'hi).step)/\W.cell? ⟨3,i*4+3,none⟩=some (.int .i64 (lets[i]'hi).shift):=by
  intro i hi
  have hf:=hall i hi
  rw[cells190]at hf
  rw[List.getElem?_eq_getElem (by omega)]at hf
  have he:(xs[i]'(by omega)).1=D4 (lets[i]'hi):=by
   have h0:=congrArg (·[i]?) hxs
   simp only[List.getElem?_map]at h0
   rw[List.getElem?_eq_getElem (show i<xs.length by omega),List.getElem?_eq_getElem (show i<lets.length from hi)]at h0
   exact Option.some.inj h0
  obtain⟨k0,k1,k2,k3⟩:=Bu hf he
  simp only[List.getElem?_take,List.getElem?_drop,Array.getElem?_toList]at k0 k1 k2 k3
  simp only[hcell]
  exact⟨by simpa using k0,by simpa using k1,by simpa using k2,by simpa using k3⟩
 refine⟨hrow,?_⟩
 have h0:=(hrow 0 (by decide)).1
 by_cases hz:3<W.heap.size
 ·exact hz
 ·simp[World.cell?,Array.getElem?_eq_none (show W.heap.size<=3 by omega)]at h0
noncomputable def il(os:Os):World:=
 { World.holding prog os ⟨#[],#[],[]⟩with heap:=(World.holding prog os ⟨#[],#[],[]⟩).heap.modify 3 fun
   | .cells _ t frozen=>.cells (lets.flatMap fun r=>[.int .i64 r.first,.int .i64 r.last,.int .i64 r.step,.int .i64 r.shift]).toArray t frozen
   |o=>o }
end Go.Proofs.YtklbbbldalmnbaaGreatDoor.Fo
namespace Go.Proofs.YtklbbbldalmnbaaGreatDoor
open Go.ChangeShapes Go.WideShapes Go.ChangeAt Go.RowKit
theorem laidOut:laidOutB prog=true:=by kernel_rfl
theorem Iq:Tryz.prog.cellsOf 76=2:=by kernel_rfl
theorem zk:Tryz.prog.cellsOf 3=1:=by kernel_rfl
theorem iz{cs:List Value}{k:Nat}{v:Value}(h:(cs.drop k).take 1=[v]):cs[k]? =some v:=by
 have:=congrArg (·[0]?) h
 simpa[List.getElem?_take,List.getElem?_drop]using this
theorem one_cell{H:Type}{enc:TypeId×Value->H}{w:World}{base:Nat}{sp:Nat->Bool}{held:Bool}{fuel k:Nat}{cs:List Value}{x:DataW H×List MemPlace}
  (h:DataW.trod enc prog w base sp held fuel 3 ((cs.drop k).take (Tryz.prog.cellsOf 3))=some x):∃n,cs[k]? =some (.int .i64 n):=by
 rw[zk]at h
 obtain⟨z,hz,hx,_⟩:=DataW.trod_int underlying3 h
 exact⟨z,iz hz⟩
theorem wV{H:Type}{enc:TypeId×Value->H}{w:World}{base:Nat}{sp:Nat->Bool}{held:Bool}{fuel:Nat}{cs:List Value}{x:DataW H×List MemPlace}
  (h:DataW.trod enc prog w base sp held fuel 76 cs=some x):∃a b,cs[0]? =some (.int .i64 a)/\cs[1]? =some (.int .i64 b):=by
 obtain⟨xs,n,rfl,hx,hl,hxl,hall⟩:=DataW.trod_struct underlying76 h
 have hxl':xs.length=2:=hxl
 obtain⟨x0,x1,rfl⟩:∃x0 x1,xs=[x0,x1]:=by
  match xs,hxl' with
  |[x0,x1],_=>exact⟨x0,x1,rfl⟩
 obtain⟨a,ha⟩:=one_cell (hall 0 _ rfl)
 obtain⟨b,hb⟩:=one_cell (hall 1 _ rfl)
 exact⟨a,b,ha,hb⟩
theorem sk{w:World}{base:Nat}{a:Addr}{cs:List Value}(h:w.cells? base a 2=some cs):∃u v,cs=[u,v]/\w.cell? a=some u/\w.cell? ⟨a.block,a.off+1,none⟩=some v:=by
 unfold World.cells? at h
 split at h
 ·have e0:a.add 0=a:=by simp[Addr.add]
  have e1:a.add 1=⟨a.block,a.off+1,none⟩:=by simp[Addr.add]
  simp only[List.range_succ,List.range_zero,List.nil_append,List.cons_append,List.mapM_cons,List.mapM_nil,e0,e1]at h
  cases h0:w.cell? a with
  |none=>simp[h0]at h
  |some u=>
   cases h1:w.cell? ⟨a.block,a.off+1,none⟩with
   |none=>simp[h0,h1]at h
   |some v=>simp[h0,h1]at h;exact⟨u,v,h.symm,rfl,rfl⟩
 ·cases h
theorem GV{n:Nat}{P:Nat->Int×Int->Prop}(h:∀i,i<n->∃r,P i r):∃L:RL,L.length=n/\∀i (hi:i<L.length),P i L[i]:=by
 induction n with
 |zero=>exact⟨[],rfl,fun i hi=>by simp at hi⟩
 |succ n ih=>
  obtain⟨L,h1,h2⟩:=ih (fun i hi=>h i (by omega))
  obtain⟨r,hr⟩:=h n (by omega)
  refine⟨L++[r],by simp[h1],fun i hi=>?_⟩
  by_cases hin:i<L.length
  ·rw[List.getElem_append_left hin];exact h2 i hin
  ·have :i=n:=by simp at hi;omega
   subst this
   rw[List.getElem_append_right (by omega)]
   simpa[h1]using hr
theorem vA{H:Type}{enc:TypeId×Value->H}{w:World}{base:Nat}{sp:Nat->Bool}{held:Bool}{fuel:Nat}{v:Value}{x:DataW H×List MemPlace}
  (h:DataW.trod enc prog w base sp held fuel 22 [v]=some x):∃L,Reads w v L:=by
 rcases DataW.trod_slice underlying22 h with⟨hcs,_⟩|⟨a,len,cap,elems,rest,n,_,hcs,hx,_,hl,hm,hlen,hel,_⟩
 ·cases hcs
  exact⟨[],sP w⟩
 ·cases hcs
  obtain⟨L,h1,h2⟩:=GV (n:=len) (P:=fun i r=>w.cell? (a.add (i*2))=some (.int .i64 r.1)/\w.cell? ⟨(a.add (i*2)).block,(a.add (i*2)).off+1,none⟩=some (.int .i64 r.2)) (fun i hi=>by
   have hE:=hel i hi
   rw[Iq,List.getElem?_eq_getElem (by omega)]at hE
   simp only[Option.bind_eq_some_iff]at hE
   obtain⟨cs,hcs,ht⟩:=hE
   obtain⟨u,v,rfl,hu,hv⟩:=sk hcs
   obtain⟨p,q,hp,hq⟩:=wV ht
   simp at hp hq
   exact⟨(p,q),by rw[hu,hp],by rw[hv,hq]⟩)
  exact⟨L,.inr ⟨a,cap,by rw[h1],fun j hj=>h2 j hj⟩⟩
end Go.Proofs.YtklbbbldalmnbaaGreatDoor
namespace Go.Proofs.YtklbbbldalmnbaaGreatDoor.TR
open Go.RowKit
mutual
def Ec:Tr->List Tr
 | .mk k a b c d e f kids=>.mk k a b c d e f kids::zF kids
def zF:List Tr->List Tr
 |[]=>[]
 |t::ts=>Ec t++zF ts
end
mutual
theorem jx:∀t:Tr,(Ec t).length=fL t
 | .mk k a b c d e f kids=>by rw[Ec,fL,List.length_cons,rR kids];omega
theorem rR:∀ts:List Tr,(zF ts).length=fj ts
 |[]=>rfl
 |t::ts=>by rw[zF,fj,List.length_append,jx t,rR ts]
end
mutual
def KD:Tr->Nat
 | .mk _ _ _ _ _ _ _ kids=>Ky kids
def Ky:List Tr->Nat
 |[]=>0
 |t::ts=>Nat.max (KD t+1) (Ky ts)
end
end Go.Proofs.YtklbbbldalmnbaaGreatDoor.TR
namespace Go.Proofs.YtklbbbldalmnbaaGreatDoor.TR
open Go.ChangeShapes Go.WideShapes Go.ChangeAt Go.RowKit
theorem yJ:Tryz.prog.cellsOf 25=8:=by kernel_rfl
theorem Em:Tryz.prog.cellsOf 22=1:=by kernel_rfl
theorem Ci:Tryz.prog.cellsOf 23=1:=by kernel_rfl
theorem Ix:Tryz.prog.cellsOf 4=1:=by kernel_rfl
theorem Kj(x:Addr){k:Nat}(hk:k≠0):x.add k=⟨x.block,x.off+k,none⟩:=by unfold Addr.add;rw[if_neg hk]
theorem Kf(x:Addr):x.add 0=x:=by unfold Addr.add;split<;>simp_all
theorem Da{w:World}{base n:Nat}{a:Addr}{cs:List Value}(h:w.cells? base a n=some cs):cs.length=n/\∀k,k<n->w.cell? (a.add k)=cs[k]? :=by
 unfold World.cells? at h
 split at h
 ·exact⟨by simpa using mapM_some_length h,fun k hk=>mapM_some_get h k k (by simp[hk])⟩
 ·cases h
theorem wX{α:Type}{n:Nat}{P:Nat->α->Prop}(h:∀i,i<n->∃r,P i r):∃L:List α,L.length=n/\∀i (hi:i<L.length),P i L[i]:=by
 induction n with
 |zero=>exact⟨[],rfl,fun i hi=>by simp at hi⟩
 |succ n ih=>
  obtain⟨L,h1,h2⟩:=ih (fun i hi=>h i (by omega))
  obtain⟨r,hr⟩:=h n (by omega)
  refine⟨L++[r],by simp[h1],fun i hi=>?_⟩
  by_cases hin:i<L.length
  ·rw[List.getElem_append_left hin];exact h2 i hin
  ·have :i=n:=by simp at hi;omega
   subst this
   rw[List.getElem_append_right (by omega)]
   simpa[h1]using hr
abbrev oy(n:NV):List Value:=[.int .i64 n.kind,.slice n.sa n.sl n.sc,.slice n.ka n.kl n.kc,.int .i64 n.num,.int .i64 n.least,.int .i64 n.an,.int .i64 n.bB,.bool n.fold]
theorem Bv{w:World}{base:Nat}{a:Addr}{n:NV}(h:w.cells? base a 8=some (oy n)):aL w a n:=by
 obtain⟨_,h⟩:=Da h
 have e0:=h 0 (by omega)
 rw[Kf]at e0
 have g:∀k,k<8->k≠0->w.cell? ⟨a.block,a.off+k,none⟩=(oy n)[k]? :=fun k hk h0=>by rw[<- Kj a h0];exact h k hk
 exact⟨e0,g 1 (by omega) (by omega),g 2 (by omega) (by omega),g 3 (by omega) (by omega),g 4 (by omega) (by omega),g 5 (by omega) (by omega),g 6 (by omega) (by omega),g 7 (by omega) (by omega)⟩
theorem eight{α:Type}{cs:List α}(h:cs.length=8):∃a b c d e f g i,cs=[a,b,c,d,e,f,g,i]:=by
 match cs,h with
 |[a,b,c,d,e,f,g,i],_=>exact⟨a,b,c,d,e,f,g,i,rfl⟩
theorem AA{H:Type}{enc:TypeId×Value->H}{w:World}{base:Nat}{sp:Nat->Bool}{held:Bool}{fuel k:Nat}{cs:List Value}{x:DataW H×List MemPlace}
  (h:DataW.trod enc prog w base sp held fuel 4 ((cs.drop k).take (Tryz.prog.cellsOf 4))=some x):∃b,cs[k]? =some (.bool b):=by
 rw[Ix]at h
 obtain⟨z,hz,hx⟩:=DataW.trod_bool underlying4 h
 exact⟨z,iz hz⟩
end Go.Proofs.YtklbbbldalmnbaaGreatDoor.TR
namespace Go.Proofs.YtklbbbldalmnbaaGreatDoor.TR
open Go.RowKit Go.PlainAid
def D9(p:Int):Bool:=(decide (97<=p)&&decide (p<=122))||(decide (65<=p)&&decide (p<=90))
def rA(p:Int)(first:Bool):Bool:=D9 p||decide (p=95)||(!first&&decide (48<=p)&&decide (p<=57))
def uE(s:ByteArray):Bool:=decide (0<s.size)&&decide (s.size<=20)&&(List.range s.size).all (fun i=>rA (bt s i) (decide (i=0)))
theorem D5{s:ByteArray}(h:20<s.size):uE s=false:=by
 unfold uE
 rw[show decide (s.size<=20)=false from decide_eq_false (by omega)];simp
theorem Dd{s:ByteArray}(h:s.size=0):uE s=false:=by
 unfold uE
 rw[show decide (0<s.size)=false from decide_eq_false (by omega)];simp
theorem I9{s:ByteArray}{i:Nat}(hi:i<s.size)(h:rA (bt s i) (decide (i=0))=false):uE s=false:=by
 unfold uE
 have:(List.range s.size).all (fun i=>rA (bt s i) (decide (i=0)))=false:=by
  rw[List.all_eq_false]
  exact⟨i,by simpa using hi,by simp[h]⟩
 rw[this];simp
theorem Fv{s:ByteArray}(h0:0<s.size)(h1:s.size<=20)(h:∀i,i<s.size->rA (bt s i) (decide (i=0))=true):uE s=true:=by
 unfold uE
 rw[show decide (0<s.size)=true by simpa using h0,show decide (s.size<=20)=true by simpa using h1]
 simp only[Bool.true_and]
 rw[List.all_eq_true]
 intro i hi
 exact h i (by simpa using hi)
theorem sq(s:ByteArray):s.toList=[]↔s.size=0:=by
 rw[ByteArray.toList_eq]
 cases s with
 |mk d=>cases d with
  |mk l=>cases l<;>simp[ByteArray.size]
theorem E7(p:Int)(w:World):Calls prog 79 #[.int .i64 p] w fun e w'=>e=.returned (.bool (D9 p))/\w'=w:=by
 have h:∀a b c d:Bool,a=decide (97<=p)->b=decide (p<=122)->c=decide (65<=p)->d=decide (p<=90)->D9 p=((a&&b)||(c&&d)):=fun a b c d h1 h2 h3 h4=>by unfold D9;rw[h1,h2,h3,h4]
 by_cases h1:97<=p<;>by_cases h2:p<=122<;>by_cases h3:65<=p<;>by_cases h4:p<=90<;>
  (have hE:=h _ _ _ _ rfl rfl rfl rfl;simp only[h1,h2,h3,h4,decide_true,decide_false,Bool.and_true,Bool.and_false,Bool.or_true,Bool.or_false]at hE;have HE:=I hE;clear hE h;go_enter func79,ntmps79;go_wp2;go_ret;exact⟨by rw[HE.o];rfl,rfl⟩)
theorem Ej(p:Int)(f:Bool)(w:World):Calls prog 70 #[.int .i64 p,.bool f] w fun e w'=>e=.returned (.bool (rA p f))/\w'=w:=by
 have HL:=I (E7 p w)
 obtain⟨R,hR⟩:∃R,R=rA p f:=⟨_,rfl⟩
 obtain⟨x,hx⟩:∃x,x=D9 p:=⟨_,rfl⟩
 have HR:Hid (R=(x||decide (p=95)||(!f&&decide (48<=p)&&decide (p<=57)))):=by show _=_;rw[hR,hx];rfl
 rw[<- hR]
 rw[<- hx]at HL
 clear hR hx
 go_enter func70,ntmps70
 go_wp2_with fail
 refine HL.o.mono ?_
 rintro e w' ⟨rfl,hh⟩
 subst hh
 clear HL
 cases x with
 |true=>
  have HE:Hid (R=true):=by show _=_;rw[HR.o];simp
  go_wp2
  go_ret
  exact⟨by rw[HE.o];rfl,rfl⟩
 |false=>
  by_cases h1:p=95
  ·have HE:Hid (R=true):=by show _=_;rw[HR.o];simp[h1]
   have b1:(p==95)=true:=by simpa using h1
   clear h1
   go_wp2
   go_ret
   exact⟨by rw[HE.o];rfl,rfl⟩
  ·have b1:(p==95)=false:=by simpa using h1
   cases f with
   |true=>
    have HE:Hid (R=false):=by show _=_;rw[HR.o];simp[h1]
    clear h1
    go_wp2
    go_ret
    exact⟨by rw[HE.o];rfl,rfl⟩
   |false=>
    by_cases h2:48<=p
    ·by_cases h3:p<=57
     ·have HE:Hid (R=true):=by show _=_;rw[HR.o];simp[h2,h3]
      clear h1
      go_wp2
      go_ret
      exact⟨by rw[HE.o];rfl,rfl⟩
     ·have HE:Hid (R=false):=by show _=_;rw[HR.o];simp[h1,h3]
      clear h1
      go_wp2
      go_ret
      exact⟨by rw[HE.o];first|rfl|(simp;omega),rfl⟩
    ·have HE:Hid (R=false):=by show _=_;rw[HR.o];simp[h1,h2]
     clear h1
     go_wp2
     go_ret
     exact⟨by rw[HE.o];rfl,rfl⟩
theorem yQ(s:ByteArray)(w:World):Calls prog 59 #[.string s] w fun e w'=>e=.returned (.bool (uE s))/\w'=w:=by
 have hg:=get_bt s
 obtain⟨R,hR⟩:∃R,R=uE s:=⟨_,rfl⟩
 have HR:=I hR
 rw[<- hR]
 clear hR
 by_cases h0:s.size=0
 ·have h1:=(sq s).2 h0
  have h2:s.toList.isEmpty=true:=by rw[h1];rfl
  have HE:Hid (R=false):=by show _=_;rw[HR.o];exact Dd h0
  clear h0
  go_enter func59,ntmps59
  go_wp2
  go_ret
  exact⟨by rw[HE.o];rfl,rfl⟩
 ·have h1:¬s.toList=[]:=fun hh=>h0 ((sq s).1 hh)
  have h2:s.toList.isEmpty=false:=by
   cases hh:s.toList with
   |nil=>exact absurd hh h1
   |cons _ _=>rfl
  by_cases h20:20<s.size
  ·have HE:Hid (R=false):=by show _=_;rw[HR.o];exact D5 h20
   have e1:(20:Int)<(s.size:Int):=by omega
   clear h0 h20
   go_enter func59,ntmps59
   go_wp2
   go_ret
   exact⟨by rw[HE.o];rfl,rfl⟩
  ·have e1:¬(20:Int)<(s.size:Int):=by omega
   go_enter func59,ntmps59
   go_wp2
   go_loopw [13] (fun c wr=>∃(j:Nat),j<=s.size/\c=.int .i64 j/\(∀i,i<j->rA (bt s i) (decide (i=0))=true)/\wr=w) (fun c _=>s.size - (intOf c).toNat)
   case atStart=>exact⟨0,Nat.zero_le _,rfl,fun i hi=>by omega,rfl⟩
   case round=>
    obtain⟨j,hj,rfl,hall,hwr⟩:=hrel
    subst hwr
    have HA:=I hall
    clear hall
    by_cases hlt:j<s.size
    ·have e2:(j:Int)<(s.size:Int):=by omega
     have e3:(0:Int)<=(j:Int):=by omega
     have e4:=bt_nonneg s j
     have e5:=bt_le s j
     have HM:=I (fun f=>Ej (bt s j) f wr)
     obtain⟨z,hz⟩:∃z,z=rA (bt s j) (decide (j=0)):=⟨_,rfl⟩
     have HZ:=I hz
     have HMz:Hid (Calls prog 70 #[.int .i64 (bt s j),.bool ((j:Int)==0)] wr fun e w'=>e=.returned (.bool z)/\w'=wr):=by
      have e:((j:Int)==0)=decide (j=0):=by rw[Bool.eq_iff_iff];simp
      show Calls _ _ _ _ _
      rw[hz,e]
      exact HM.o _
     clear hz HM
     go_wp2_with fail
     refine HMz.o.mono ?_
     rintro e w' ⟨rfl,hh⟩
     subst hh
     cases z with
     |true=>
      go_wp2
      go_roundw
      case rel=>exact⟨j+1,by omega,by go_num,fun i hi=>by
       by_cases hij:i=j
       ·rw[hij];exact HZ.o.symm
       ·exact HA.o i (by omega),trivial⟩
      case measure=>simp[intOf];omega
     |false=>
      have HE:Hid (R=false):=by show _=_;rw[HR.o];exact I9 hlt HZ.o.symm
      go_wp2
      go_ret
      exact⟨by rw[HE.o];rfl,rfl⟩
    ·have e2:¬(j:Int)<(s.size:Int):=by omega
     have HE:Hid (R=true):=by show _=_;rw[HR.o];exact Fv (by omega) (by omega) (fun i hi=>HA.o i (by omega))
     go_wp2
     go_ret
     exact⟨by rw[HE.o];rfl,rfl⟩
end Go.Proofs.YtklbbbldalmnbaaGreatDoor.TR
namespace Go.Proofs.YtklbbbldalmnbaaGreatDoor.TR
open Go.RowKit
abbrev de:Type:=List (ByteArray×Int)
def po(w:World)(x:Addr)(N:de):Prop:=∀j (h:j<N.length),w.cell? (x.add (j*2))=some (.string N[j].1)/\w.cell? ⟨(x.add (j*2)).block,(x.add (j*2)).off+1,none⟩=some (.int .i64 N[j].2)
def bW(w:World)(v:Value)(N:de):Prop:=(v=.slice none 0 0/\N=[])\/∃x c,v=.slice (some x) N.length c/\(N.length<=c/\c<=9223372036854775807)/\po w x N
theorem bW.below{w w':World}{v:Value}{N:de}(h:bW w v N)(hb:Below w.heap.size w w'):bW w' v N:=by
 rcases h with h|⟨x,c,h1,h2,h3⟩
 ·exact .inl h
 ·exact .inr ⟨x,c,h1,h2,fun j hj=>⟨aE hb (bb (h3 j hj).1) (h3 j hj).1,aE hb (bb (h3 j hj).2) (h3 j hj).2⟩⟩
theorem bW.shape{w:World}{v:Value}{N:de}(h:bW w v N):∃ao c,v=.slice ao N.length c:=by
 rcases h with⟨rfl,rfl⟩|⟨x,c,rfl,_,_⟩
 ·exact⟨_,_,rfl⟩
 ·exact⟨_,_,rfl⟩
theorem vE(B:Nat)(cb:Nat)(s:St)(v:Value)(N:de)(w:World)(h:CK B w cb s)(hl:s.2.length<=1000000)(hN:bW w v N):Calls prog 36 #[.pointer (some ⟨cb,0,none⟩),v] w fun e w'=>e=yl (if bX s.1 s.2=0 then bX s.1 (N.map (·.2))else 5)/\Below w.heap.size w w':=by
 obtain⟨va,vc,hv0⟩:=hN.shape
 have HNC:=I hN
 have HCK:=I h
 rw[hv0]at HNC |-
 obtain⟨nl,hnl⟩:∃nl,nl=N.length:=⟨_,rfl⟩
 have HNL:=I hnl
 rw[<- hnl]at HNC |-
 clear hN hv0 hnl
 obtain⟨v,c0,c1,ho, -,cf,clt⟩:=h.cells
 obtain⟨ro,rc,rfl⟩:=ax ho
 have HNm:=I (fun a=>iy B cb s a w h)
 have HO:=I ho
 obtain⟨q,hq⟩:∃q,q=s.2.length:=⟨_,rfl⟩
 have HQ:=I hq
 rw[<- hq]at c1 hl
 obtain⟨A,hA⟩:∃A,A=bX s.1 s.2:=⟨_,rfl⟩
 have HA:=I hA
 obtain⟨Z,hZ⟩:∃Z,Z=bX s.1 (N.map (·.2)):=⟨_,rfl⟩
 have HZZ:=I hZ
 rw[<- hA, <-hZ]
 clear hZ
 clear h ho hq hA
 by_cases hz:A=0
 ·rw [if_pos hz]
  have HZ:=I hz
  clear hz
  go_enter func36,ntmps36
  go_wp2
  go_loopw [13] (fun t wr=>∃(j:Nat),j<=q/\t=.int .i64 j/\bX s.1 (s.2.drop j)=A/\wr=w) (fun t _=>q - (intOf t).toNat)
  case atStart=>exact⟨0,Nat.zero_le _,rfl,HA.o.symm,rfl⟩
  case round=>
   obtain⟨j,hj,rfl,hE,hwr⟩:=hrel
   have hwr2:=hwr.symm
   subst hwr2
   have HE:=I hE
   clear hE
   by_cases hlt:j<q
   ·have hjl:j<s.2.length:=by have:=HQ.o;omega
    have e1:(j:Int)<(q:Int):=by omega
    have e0:(0:Int)<=(j:Int):=by omega
    have hD:=iB (g:=s.1) hjl
    have hn0:fG s.1 s.2[j]=0:=by
     by_cases hh:fG s.1 s.2[j]=0
     ·exact hh
     ·exfalso
      have h1:=HE.o
      rw[hD,if_neg hh,HZ.o]at h1
      exact absurd h1 (by decide)
    have HNx:Hid (bX s.1 (s.2.drop (j+1))=A):=by show _=_;rw[<- HE.o,hD,if_pos hn0]
    have hrow:=HO.o
    rw[<- HQ.o]at hrow
    obtain⟨gg,cap,hv⟩:=eT hrow (by omega)
    obtain⟨rfl⟩:ro=some ⟨gg,0,none⟩:=by cases hv;rfl
    have cj:=nD hrow hjl
    have HC:=I (HNm.o s.2[j])
    rw[hn0,dP]at HC
    obtain⟨a,ha⟩:∃a,a=s.2[j]:=⟨_,rfl⟩
    rw[<- ha]at cj HC
    have hjw:IntKind.i64.wrap ((j:Int)+1)=(j:Int)+1:=by rw[IntKind.wrap_i64];omega
    clear hD hn0 hrow hv ha hjl
    go_wp2_with fail
    refine HC.o.mono ?_
    rintro e w' ⟨rfl,rfl⟩
    go_wp2
    go_roundw
    case rel=>exact⟨j+1,by omega,by go_num,HNx.o,by first|rfl|trivial⟩
    case measure=>simp[intOf];omega
   ·have e1:¬(j:Int)<(q:Int):=by omega
    go_wp2
    clear c0 c1 cf clt
    go_loopw [23] (fun t2 wr=>∃(k:Nat),k<=nl/\t2=.int .i64 k/\bX s.1 ((N.map (·.2)).drop k)=Z/\CK B wr cb s/\bW wr (.slice va nl vc) N/\Below w.heap.size w wr) (fun t2 _=>nl - (intOf t2).toNat)
    case atStart=>exact⟨0,Nat.zero_le _,rfl,HZZ.o.symm,HCK.o,HNC.o,J _ _⟩
    case round=>
     obtain⟨k,hk,rfl,hE2,hck,hnc,hbw⟩:=hrel
     obtain⟨w2,hw2⟩:∃w2,w2=wr:=⟨_,rfl⟩
     subst hw2
     have HE2:=I hE2
     have HB2:=I hbw
     by_cases hlt2:k<nl
     ·have hkN:k<N.length:=by have:=HNL.o;omega
      have hkM:k<(N.map (·.2)).length:=by simpa using hkN
      obtain⟨x,c,hx,hcc,hcl⟩:∃x c,Value.slice va nl vc=.slice (some x) N.length c/\(N.length<=c/\c<=9223372036854775807)/\po w2 x N:=by
       rcases hnc with⟨_,h0⟩|h
       ·rw[h0]at hkN;simp at hkN
       ·exact h
      obtain⟨rfl⟩:va=some x:=by injection hx
      obtain⟨m0,m1⟩:=hcl k hkN
      obtain⟨w3,hw3⟩:∃w3,w3=w2.alloc (.cells #[.string N[k].1,.int .i64 N[k].2] 33):=⟨_,rfl⟩
      have hX3:w3.heap[w2.heap.size]? =some (.cells #[.string N[k].1,.int .i64 N[k].2] 33):=by rw[hw3];exact aj _ _
      have hb3:Below w2.heap.size w2 w3:=by rw[hw3];exact(J _ _).alloc (U _) _
      have HCK3:=I (hck.ar hb3)
      have HNC3:=I (hnc.below hb3)
      have HB3:=I (HB2.o.trans (hb3.mono HB2.o.size))
      have HC:=I (iy B cb s N[k].2 w3 HCK3.o)
      have hD:=iB (g:=s.1) hkM
      rw[List.getElem_map]at hD
      obtain⟨bs,hbs⟩:∃bs,bs=N[k].1:=⟨_,rfl⟩
      obtain⟨nu,hnu⟩:∃nu,nu=N[k].2:=⟨_,rfl⟩
      rw[<- hbs]at m0 hw3 hX3
      rw[<- hnu]at m1 hw3 hX3 HC hD
      have HD:=I hD
      have e5:(k:Int)<(nl:Int):=by omega
      have e6:(0:Int)<=(k:Int):=by omega
      have hkw:IntKind.i64.wrap ((k:Int)+1)=(k:Int)+1:=by
       have:=HNL.o
       rw[IntKind.wrap_i64];omega
      obtain⟨bx,hbx⟩:∃bx,bx=w2.heap.size:=⟨_,rfl⟩
      rw[<- hbx]at hX3
      have f0:w3.cell? ⟨bx,0,none⟩=some (.string bs):=by simp[World.cell?,hX3]
      have f1:w3.cell? ⟨bx,1,none⟩=some (.int .i64 nu):=by simp[World.cell?,hX3]
      clear hE2 hck hnc hbw hx hcc hcl hb3 hD hkM hbs hnu hX3
      go_upto_region 8 with fail
      rw[<- hw3, <-hbx]
      clear hw3 hbx m0 m1
      by_cases hn0:fG s.1 nu=0
      ·have HNx:Hid (bX s.1 ((N.map (·.2)).drop (k+1))=Z):=by show _=_;rw[<- HE2.o,HD.o,if_pos hn0]
       rw[hn0,dP]at HC
       clear hn0
       go_wp2_with fail
       refine HC.o.mono ?_
       rintro e w' ⟨rfl,hh⟩
       have hh2:=hh.symm
       subst hh2
       go_wp2
       go_roundw
       case rel=>exact⟨k+1,by omega,by go_num,HNx.o,HCK3.o,HNC3.o,HB3.o⟩
       case measure=>simp[intOf];omega
      ·have hZ5:Hid (Z=5):=by show _=_;rw[<- HE2.o,HD.o,if_neg hn0]
       have hn5:fG s.1 nu=5:=by unfold fG at hn0 |-;split;rename_i h;rw[if_pos h]at hn0;exact absurd rfl hn0;rfl
       rw[hn5,dZ (by decide)]at HC
       clear hn0 hn5
       go_wp2_with fail
       refine HC.o.mono ?_
       rintro e w' ⟨rfl,hh⟩
       have hh2:=hh.symm
       subst hh2
       go_wp2
       exact⟨rfl,by rw[hZ5.o];rfl,HB3.o⟩
     ·have e5:¬(k:Int)<(nl:Int):=by omega
      have hZ0:Hid (Z=0):=by show _=_;rw[<- HE2.o,List.drop_eq_nil_of_le (by simp;have:=HNL.o;omega)];rfl
      clear hE2 hck hnc hbw
      go_wp2
      go_end0
      exact⟨by rw[hZ0.o];rfl,HB2.o⟩
 ·have HZ:=I hz
  have h5:A=5:=by
   have key:∀l:List Int,bX s.1 l=0\/bX s.1 l=5:=by
    intro l
    induction l with
    |nil=>exact .inl rfl
    |cons a l ih=>rw[bX];split;exact ih;exact .inr rfl
   have:=key s.2
   rw[<- HA.o]at this
   omega
  have H5:=I h5
  rw[if_neg hz,dZ (by decide)]
  clear hz h5
  go_enter func36,ntmps36
  go_wp2
  go_loopw [13] (fun t wr=>∃(j:Nat),j<=q/\t=.int .i64 j/\bX s.1 (s.2.drop j)=A/\wr=w) (fun t _=>q - (intOf t).toNat)
  case atStart=>exact⟨0,Nat.zero_le _,rfl,HA.o.symm,rfl⟩
  case round=>
   obtain⟨j,hj,rfl,hE,hwr⟩:=hrel
   have hwr2:=hwr.symm
   subst hwr2
   have HE:=I hE
   clear hE
   by_cases hlt:j<q
   ·have hjl:j<s.2.length:=by have:=HQ.o;omega
    have e1:(j:Int)<(q:Int):=by omega
    have e0:(0:Int)<=(j:Int):=by omega
    have HD:=I (iB (g:=s.1) hjl)
    have hrow:=HO.o
    rw[<- HQ.o]at hrow
    obtain⟨gg,cap,hv⟩:=eT hrow (by omega)
    obtain⟨rfl⟩:ro=some ⟨gg,0,none⟩:=by cases hv;rfl
    have cj:=nD hrow hjl
    have HC:=I (HNm.o s.2[j])
    have hjw:IntKind.i64.wrap ((j:Int)+1)=(j:Int)+1:=by rw[IntKind.wrap_i64];omega
    by_cases hn0:fG s.1 s.2[j]=0
    ·have HNx:Hid (bX s.1 (s.2.drop (j+1))=A):=by show _=_;rw[<- HE.o,HD.o,if_pos hn0]
     rw[hn0,dP]at HC
     obtain⟨a,ha⟩:∃a,a=s.2[j]:=⟨_,rfl⟩
     rw[<- ha]at cj HC
     clear hn0 hrow hv ha hjl HD
     go_wp2_with fail
     refine HC.o.mono ?_
     rintro e w' ⟨rfl,rfl⟩
     go_wp2
     go_roundw
     case rel=>exact⟨j+1,by omega,by go_num,HNx.o,by first|rfl|trivial⟩
     case measure=>simp[intOf];omega
    ·have hn5:fG s.1 s.2[j]=5:=by unfold fG at hn0 |-;split;rename_i h;rw[if_pos h]at hn0;exact absurd rfl hn0;rfl
     rw[hn5,dZ (by decide)]at HC
     obtain⟨a,ha⟩:∃a,a=s.2[j]:=⟨_,rfl⟩
     rw[<- ha]at cj HC
     clear hn0 hn5 hrow hv ha hjl HD
     go_wp2_with fail
     refine HC.o.mono ?_
     rintro e w' ⟨rfl,rfl⟩
     go_wp2
     exact⟨rfl,rfl,J _ _⟩
   ·exfalso
    have h1:=HE.o
    rw[List.drop_eq_nil_of_le (by have:=HQ.o;omega)]at h1
    exact HZ.o h1.symm
def lR(N:de)(i:Nat):ByteArray:=(N.getD i (⟨#[]⟩,0)).1
def mx(N:de)(i:Nat):Int:=(N.getD i (⟨#[]⟩,0)).2
theorem mf{N:de}{i:Nat}(h:i<N.length):lR N i=N[i].1:=by unfold lR;simp[List.getD,h]
theorem nK{N:de}{i:Nat}(h:i<N.length):mx N i=N[i].2:=by unfold mx;simp[List.getD,h]
def ny(N:de)(k:Nat):Prop:=∀i,i<k->uE (lR N i)=true
def yq(N:de)(k i:Nat):Prop:=lR N k=lR N i\/mx N k=mx N i
def nT(N:de)(m:Nat):Prop:=∀i,i<m->∀k,k<i->¬yq N k i
def s8(N:de)(m:Nat):Prop:=∀i,1<=i->i<m->mx N (i - 1)<mx N i
def rb(N:de)(z:Int):Prop:=
 (z=1/\∃i,i<N.length/\uE (lR N i)=false)\/
 (z=6/\ny N N.length/\∃i,i<N.length/\∃k,k<i/\yq N k i)\/
 (z=4/\ny N N.length/\nT N N.length/\∃i,1<=i/\i<N.length/\¬mx N (i - 1)<mx N i)\/
 (z=0/\ny N N.length/\nT N N.length/\s8 N N.length)
theorem nE{a b:ByteArray}(h:a.toList=b.toList):a=b:=by
 rw[ByteArray.toList_eq,ByteArray.toList_eq]at h
 cases a with
 |mk x=>cases b with
  |mk y=>cases x with
   |mk x=>cases y with
    |mk y=>simpa using h
abbrev yS(a:ByteArray)(b:Int):Obj:=.cells #[.string a,.int .i64 b] 33
theorem mP{w:World}{k:Nat}{a:ByteArray}{b:Int}(h:w.heap[k]? =some (yS a b)):w.cell? ⟨k,0,none⟩=some (.string a)/\w.cell? ⟨k,1,none⟩=some (.int .i64 b):=by
 constructor<;>simp[World.cell?,h]
theorem qj(v:Value)(N:de)(w:World)(hN:bW w v N):Calls prog 37 #[v] w fun e w'=>∃z,rb N z/\e=yl z/\Below w.heap.size w w':=by
 rcases hN with⟨rfl,rfl⟩|⟨x,c,rfl,hc,hcl⟩
 ·refine (kK w).mono ?_
  rintro e w' ⟨rfl,rfl⟩
  exact⟨0,.inr (.inr (.inr ⟨rfl,fun i hi=>by simp at hi,fun i hi=>by simp at hi,fun i _ hi=>by simp at hi⟩)),rfl,J _ _⟩
 ·obtain ⟨m, hm⟩:∃m,m=N.length:=⟨_,rfl⟩
  have HM:=I hm
  rw[<- hm]at hc |-
  have HCL:Hid (∀W,Below w.heap.size w W->∀j,j<m->W.cell? (x.add (j*2))=some (.string (lR N j))/\W.cell? ⟨(x.add (j*2)).block,(x.add (j*2)).off+1,none⟩=some (.int .i64 (mx N j))):=fun W hW j hj=>by
   have hj':j<N.length:=by omega
   rw[mf hj',nK hj']
   have:=hcl j hj'
   exact⟨aE hW (bb this.1) this.1,aE hW (bb this.2) this.2⟩
  have HE1:Hid (∀i,i<m->uE (lR N i)=false->rb N 1):=fun i hi hn=>.inl ⟨rfl,i,by omega,hn⟩
  have HE6:Hid (ny N m->∀i,i<m->∀k,k<i->yq N k i->rb N 6):=fun ha i hi k hk ht=>.inr (.inl ⟨rfl,by rw[<- hm];exact ha,i,by omega,k,hk,ht⟩)
  have HE4:Hid (ny N m->nT N m->∀i,1<=i->i<m->¬mx N (i - 1)<mx N i->rb N 4):=fun ha hn i h1 hi hr=>.inr (.inr (.inl ⟨rfl,by rw[<- hm];exact ha,by rw[<- hm];exact hn,i,h1,by omega,hr⟩))
  have HE0:Hid (ny N m->nT N m->s8 N m->rb N 0):=fun ha hn hr=>.inr (.inr (.inr ⟨rfl,by rw[<- hm];exact ha,by rw[<- hm];exact hn,by rw[<- hm];exact hr⟩))
  have mF:=I (fun k W=>cX k W)
  have HMusty:=I (fun k W=>bQ k W)
  clear hcl hm
  go_enter func37,ntmps37
  go_wp2
  go_loopw [11] (fun t wr=>∃(j:Nat),j<=m/\t=.int .i64 j/\ny N j/\Below w.heap.size w wr) (fun t _=>m - (intOf t).toNat)
  case atStart=>exact⟨0,Nat.zero_le _,rfl,fun i hi=>by omega,J _ _⟩
  case round=>
   obtain⟨j,hj,rfl,hA,hb⟩:=hrel
   obtain⟨w2,hw2⟩:∃w2,w2=wr:=⟨_,rfl⟩
   subst hw2
   have HA:=I hA
   have HB:=I hb
   clear hA hb
   by_cases hlt:j<m
   ·obtain ⟨m0,m1⟩:=HCL.o w2 HB.o j hlt
    obtain⟨a,ha⟩:∃a,a=lR N j:=⟨_,rfl⟩
    obtain⟨b,hb⟩:∃b,b=mx N j:=⟨_,rfl⟩
    rw[<- ha]at m0
    rw[<- hb]at m1
    obtain⟨w3,hw3⟩:∃w3,w3=w2.alloc (yS a b):=⟨_,rfl⟩
    have hX3:w3.heap[w2.heap.size]? =some (yS a b):=by rw[hw3];exact aj _ _
    have HB3:Hid (Below w.heap.size w w3):=by show Below _ _ _;rw[hw3];exact HB.o.alloc HB.o.size _
    obtain⟨bx,hbx⟩:∃bx,bx=w2.heap.size:=⟨_,rfl⟩
    rw[<- hbx]at hX3
    obtain⟨f0,f1⟩:=mP hX3
    have HI:=I (yQ a w3)
    obtain⟨z,hz⟩:∃z,z=uE a:=⟨_,rfl⟩
    have HZ:Hid (uE (lR N j)=z):=by show _=_;rw[hz,ha]
    rw[<- hz]at HI
    have e5:(j:Int)<(m:Int):=by omega
    have e6:(0:Int)<=(j:Int):=by omega
    have hkw:IntKind.i64.wrap ((j:Int)+1)=(j:Int)+1:=by rw[IntKind.wrap_i64];omega
    simp only[yS]at hw3
    clear hX3 ha hb hz
    go_upto_region 3 with fail
    rw[<- hw3, <-hbx]
    clear hw3 hbx m0 m1
    go_wp2_with fail
    refine HI.o.mono ?_
    rintro e w' ⟨rfl,hh⟩
    subst hh
    cases z with
    |true=>
     go_wp2_with fail
     refine(HMusty.o 1 _).mono ?_
     rintro e w'' ⟨rfl,hh⟩
     have hh2:=hh.symm
     subst hh2
     go_wp2
     go_roundw
     case rel=>exact⟨j+1,by omega,by go_num,fun i hi=>by
      by_cases hij:i=j
      ·rw[hij];exact HZ.o
      ·exact HA.o i (by omega),HB3.o⟩
     case measure=>simp[intOf];omega
    |false=>
     have HN1:=I (HE1.o j hlt HZ.o)
     go_wp2_with fail
     refine(mF.o 1 _).mono ?_
     rintro e w'' ⟨rfl,hh⟩
     have hh2:=hh.symm
     subst hh2
     simp only[bK]
     go_wp2
     exact⟨rfl,1,HN1.o,rfl,HB3.o⟩
   ·have e5 :¬(j:Int)<(m:Int):=by omega
    have hAll:ny N m:=by have:=HA.o;rw[show j=m by omega]at this;exact this
    have HAll:=I hAll
    clear hAll HA
    go_wp2
    go_loopw [22] (fun t wr=>∃(i:Nat),i<=m/\t=.int .i64 i/\nT N i/\Below w.heap.size w wr) (fun t _=>m - (intOf t).toNat)
    case atStart=>exact⟨0,Nat.zero_le _,rfl,fun i hi=>by omega,HB.o⟩
    case round=>
     obtain⟨i,hi,rfl,hT,hb⟩:=hrel
     obtain⟨w4,hw4⟩:∃w4,w4=wr:=⟨_,rfl⟩
     subst hw4
     have HT:=I hT
     have HB4:=I hb
     clear hT hb
     by_cases hlt2:i<m
     ·obtain ⟨m0,m1⟩:=HCL.o w4 HB4.o i hlt2
      obtain⟨a,ha⟩:∃a,a=lR N i:=⟨_,rfl⟩
      obtain⟨b,hb⟩:∃b,b=mx N i:=⟨_,rfl⟩
      rw[<- ha]at m0
      rw[<- hb]at m1
      have HAi:=I ha
      have HBi:=I hb
      obtain⟨w5,hw5⟩:∃w5,w5=w4.alloc (yS a b):=⟨_,rfl⟩
      have hX5:w5.heap[w4.heap.size]? =some (yS a b):=by rw[hw5];exact aj _ _
      have HB5:Hid (Below w.heap.size w w5):=by show Below _ _ _;rw[hw5];exact HB4.o.alloc HB4.o.size _
      obtain⟨bx,hbx⟩:∃bx,bx=w4.heap.size:=⟨_,rfl⟩
      rw[<- hbx]at hX5
      have HX5:=I hX5
      have e5:(i:Int)<(m:Int):=by omega
      have e6:(0:Int)<=(i:Int):=by omega
      have e7:(i:Int)<=(c:Int):=by omega
      have hkw:IntKind.i64.wrap ((i:Int)+1)=(i:Int)+1:=by rw[IntKind.wrap_i64];omega
      simp only[yS]at hw5
      clear hX5 ha hb
      go_upto_region 8 with fail
      rw[<- hw5, <-hbx]
      clear hw5 hbx m0 m1
      go_wp2
      go_loopw [31] (fun t wr=>∃(k:Nat),k<=i/\t=.int .i64 k/\(∀q,q<k->¬yq N q i)/\wr.heap[bx]? =some (yS a b)/\Below w.heap.size w wr) (fun t _=>i - (intOf t).toNat)
      case atStart=>exact⟨0,Nat.zero_le _,rfl,fun q hq=>by omega,HX5.o,HB5.o⟩
      case round=>
       obtain⟨k,hk,rfl,hQ,hx,hb⟩:=hrel
       obtain⟨w6,hw6⟩:∃w6,w6=wr:=⟨_,rfl⟩
       subst hw6
       have HQ:=I hQ
       have HX6:=I hx
       have HB6:=I hb
       clear hQ hx hb HX5 HB5
       by_cases hlt3:k<i
       ·obtain ⟨m0,m1⟩:=HCL.o w6 HB6.o k (by omega)
        obtain⟨a2,ha2⟩:∃a2,a2=lR N k:=⟨_,rfl⟩
        obtain⟨b2,hb2⟩:∃b2,b2=mx N k:=⟨_,rfl⟩
        rw[<- ha2]at m0
        rw[<- hb2]at m1
        have HTw:Hid (yq N k i↔a2=a\/b2=b):=by show _↔_;unfold yq;rw[ha2,hb2,HAi.o,HBi.o]
        obtain⟨w7,hw7⟩:∃w7,w7=w6.alloc (yS a2 b2):=⟨_,rfl⟩
        have hX7:w7.heap[w6.heap.size]? =some (yS a2 b2):=by rw[hw7];exact aj _ _
        have HXo:Hid (w7.heap[bx]? =some (yS a b)):=by show _=_;rw[hw7];exact ba HX6.o
        have HB7:Hid (Below w.heap.size w w7):=by show Below _ _ _;rw[hw7];exact HB6.o.alloc HB6.o.size _
        obtain⟨by2,hby⟩:∃by2,by2=w6.heap.size:=⟨_,rfl⟩
        rw[<- hby]at hX7
        obtain⟨g0,g1⟩:=mP hX7
        obtain⟨h0',h1'⟩:=mP HXo.o
        have i5:(k:Int)<(i:Int):=by omega
        have i6:(0:Int)<=(k:Int):=by omega
        have hkw2:IntKind.i64.wrap ((k:Int)+1)=(k:Int)+1:=by rw[IntKind.wrap_i64];omega
        simp only[yS]at hw7
        clear hX7 ha2 hb2
        go_upto_region 11 with fail
        rw[<- hw7, <-hby]
        clear hw7 hby m0 m1
        by_cases hab:a=a2
        ·have HN6:=I (HE6.o HAll.o i hlt2 k hlt3 (HTw.o.2 (.inl hab.symm)))
         have hab1:(a.toList==a2.toList)=true:=by rw[hab];simp
         clear hab
         go_wp2_with fail
         refine(mF.o 6 _).mono ?_
         rintro e w'' ⟨rfl,hh⟩
         have hh2:=hh.symm
         subst hh2
         simp only[bK]
         go_wp2
         exact⟨rfl,6,HN6.o,rfl,HB7.o⟩
        ·have hab1:(a.toList==a2.toList)=false:=by
          rw[beq_eq_false_iff_ne]
          exact fun hh=>hab (nE hh)
         by_cases hbb:b=b2
         ·have HN6:=I (HE6.o HAll.o i hlt2 k hlt3 (HTw.o.2 (.inr hbb.symm)))
          have hb1:(b==b2)=true:=by simpa using hbb
          have hb2:(b !=b2)=false:=by simp[hbb]
          clear hab hbb
          go_wp2_with fail
          refine(mF.o 6 _).mono ?_
          rintro e w'' ⟨rfl,hh⟩
          have hh2:=hh.symm
          subst hh2
          simp only[bK]
          go_wp2
          exact⟨rfl,6,HN6.o,rfl,HB7.o⟩
         ·have hb1:(b==b2)=false:=by simpa using hbb
          have hb2:(b !=b2)=true:=by simpa using hbb
          have HNt:Hid (¬yq N k i):=fun hh=>by
           rcases HTw.o.1 hh with h|h
           ·exact hab h.symm
           ·exact hbb h.symm
          clear hab hbb
          go_wp2_with fail
          refine(HMusty.o 6 _).mono ?_
          rintro e w'' ⟨rfl,hh⟩
          have hh2:=hh.symm
          subst hh2
          go_wp2
          go_roundw
          case rel=>exact⟨k+1,by omega,by go_num,fun q hq=>by
           by_cases hqk:q=k
           ·rw[hqk];exact HNt.o
           ·exact HQ.o q (by omega),HXo.o,HB7.o⟩
          case measure=>simp[intOf];omega
       ·have i5:¬(k:Int)<(i:Int):=by omega
        have hki:k=i:=by omega
        have HN:Hid (nT N (i+1)):=fun p hp q hq=>by
         by_cases hpi:p=i
         ·rw[hpi]at hq |-;exact HQ.o q (by omega)
         ·exact HT.o p (by omega) q hq
        clear hki
        go_wp2
        go_roundw
        case rel=>exact⟨i+1,by omega,by go_num,HN.o,HB6.o⟩
        case measure=>simp[intOf];omega
     ·have e5:¬(i:Int)<(m:Int):=by omega
      have hNo:nT N m:=by have:=HT.o;rw[show i=m by omega]at this;exact this
      have HNo:=I hNo
      clear hNo HT
      go_wp2
      go_loopw [8] (fun t wr=>∃(k:Nat),1<=k/\t=.int .i64 k/\s8 N k/\(k<=m\/k=1)/\Below w.heap.size w wr) (fun t _=>m - (intOf t).toNat)
      case atStart=>exact⟨1,U _,rfl,fun p h1 h2=>by omega,.inr rfl,HB4.o⟩
      case round=>
       obtain⟨k,hk1,rfl,hR,hkm,hb⟩:=hrel
       obtain⟨w6,hw6⟩:∃w6,w6=wr:=⟨_,rfl⟩
       subst hw6
       have HR:=I hR
       have HB6:=I hb
       clear hR hb
       by_cases hlt3:k<m
       ·obtain ⟨m0,m1⟩:=HCL.o w6 HB6.o k hlt3
        obtain⟨l0,l1⟩:=HCL.o w6 HB6.o (k - 1) (by omega)
        obtain⟨p,hp⟩:∃p,p=k - 1:=⟨_,rfl⟩
        have hpk:IntKind.i64.wrap ((k:Int) - 1)=(p:Int):=by rw[IntKind.wrap_i64];omega
        have i1:(0:Int)<=(p:Int):=by omega
        have i2:(p:Int)<(m:Int):=by omega
        have i3:(0:Int)<=(k:Int):=by omega
        have i4:(k:Int)<(m:Int):=by omega
        have hkw:IntKind.i64.wrap ((k:Int)+1)=(k:Int)+1:=by rw[IntKind.wrap_i64];omega
        obtain⟨b,hb⟩:∃b,b=mx N k:=⟨_,rfl⟩
        obtain⟨b2,hb2⟩:∃b2,b2=mx N (k - 1):=⟨_,rfl⟩
        have HBB:Hid (b2<b↔mx N (k - 1)<mx N k):=by show _↔_;rw[hb,hb2]
        rw[<- hb]at m1
        rw[<- hb2]at l1
        rw[<- hp]at l1
        clear m0 l0 hb hb2 hp
        by_cases hbb:b2<b
        ·have HRs:Hid (s8 N (k+1)):=fun q h1 h2=>by
          by_cases hqk:q=k
          ·rw[hqk];exact HBB.o.1 hbb
          ·exact HR.o q h1 (by omega)
         go_wp2
         go_still_tail 12,(by kernel_rfl)
         go_wp2_with fail
         refine(HMusty.o 4 _).mono ?_
         rintro e w'' ⟨rfl,hh⟩
         have hh2:=hh.symm
         subst hh2
         go_wp2
         go_roundw
         case rel=>exact⟨k+1,by omega,by go_num,HRs.o,by omega,HB6.o.trans ⟨rfl,rfl,rfl,U _,fun _ _=>rfl⟩⟩
         case measure=>simp[intOf];omega
        ·have HN4:=I (HE4.o HAll.o HNo.o k hk1 hlt3 (by have h9:¬mx N (k - 1)<mx N k:=fun hh=>hbb (HBB.o.2 hh);omega))
         go_wp2
         go_still_tail 12,(by kernel_rfl)
         go_wp2_with fail
         rw[show decide (b2<b)=false from decide_eq_false (by omega)]
         refine(mF.o 4 _).mono ?_
         rintro e w'' ⟨rfl,hh⟩
         have hh2:=hh.symm
         subst hh2
         simp only[bK]
         go_wp2
         exact⟨rfl,4,HN4.o,rfl,HB6.o.trans ⟨rfl,rfl,rfl,U _,fun _ _=>rfl⟩⟩
       ·have i4:¬(k:Int)<(m:Int):=by omega
        have HN0:=I (HE0.o HAll.o HNo.o (fun q h1 h2=>HR.o q h1 (by omega)))
        go_wp2
        go_end0
        exact⟨0,HN0.o,rfl,HB6.o⟩
theorem xP{t:Tr}{s:St}{z:Int}(h:cW t s=.error z):z≠0:=by
 unfold cW at h
 split at h
 ·injection h with h;omega
 ·split at h
  ·injection h with h;omega
  ·split at h
   ·rename_i h3;injection h with h;rw[<- h];exact h3
   ·split at h
    ·split at h
     ·cases h
     ·rename_i h4;injection h with h;rw[<- h];exact h4
    ·split at h
     ·split at h
      ·cases h
      ·injection h with h;omega
     ·split at h<;>cases h
mutual
theorem jk:∀(t:Tr) (s:St) (z:Int),cP t s=.error z->z≠0
 | .mk k a b c d e f kids,s,z,h=>by
  rw[fp]at h
  cases hn:cW (.mk k a b c d e f kids) s with
  |error y=>rw[hn]at h;injection h with h;rw[<- h];exact xP hn
  |ok s1=>rw[hn]at h;exact sj kids s1 z h
theorem sj:∀(ts:List Tr) (s:St) (z:Int),cG ts s=.error z->z≠0
 |[],s,z,h=>by cases h
 |t::ts,s,z,h=>by
  unfold cG at h
  cases hn:cP t s with
  |error y=>rw[hn]at h;injection h with h;rw[<- h];exact jk t s y hn
  |ok s1=>rw[hn]at h;exact sj ts s1 z h
end
def wv(t:Tr)(g:Int)(N:de)(z:Int):Prop:=
 (dD t g≠0/\z=dD t g)\/(dD t g=0/\bX g (N.map (·.2))≠0/\z=5)\/(dD t g=0/\bX g (N.map (·.2))=0/\rb N z)
def oT(t:Tr)(g:Int)(N:de)(z:Int):Prop:=(¬gd t<1001/\z=2)\/(gd t<1001/\wv t g N z)
abbrev mT(n:NV)(g:Int)(na:Option Addr)(nl nc:Nat):Value:=.agg #[.int .i64 n.kind,.slice n.sa n.sl n.sc,.slice n.ka n.kl n.kc,.int .i64 n.num,.int .i64 n.least,.int .i64 n.an,.int .i64 n.bB,.bool n.fold,.int .i64 g,.slice na nl nc]
abbrev fJ(n:NV)(g:Int)(na:Option Addr)(nl nc:Nat):Obj:=.cells #[.int .i64 n.kind,.slice n.sa n.sl n.sc,.slice n.ka n.kl n.kc,.int .i64 n.num,.int .i64 n.least,.int .i64 n.an,.int .i64 n.bB,.bool n.fold,.int .i64 g,.slice na nl nc] 28
theorem et{w:World}{k:Nat}{n:NV}{g:Int}{na:Option Addr}{nl nc:Nat}(h:w.heap[k]? =some (fJ n g na nl nc)):aL w ⟨k,0,none⟩ n/\w.cell? ⟨k,8,none⟩=some (.int .i64 g)/\w.cell? ⟨k,9,none⟩=some (.slice na nl nc):=by
 refine⟨⟨?_,?_,?_,?_,?_,?_,?_,?_⟩,?_,?_⟩<;>simp[World.cell?,h]
theorem yZ(n:NV)(t:Tr)(g:Int)(na:Option Addr)(nl nc:Nat)(N:de)(w:World)(h:aV w n t)(hNm:bW w (.slice na nl nc) N)(hsz:fL t<=1000):Calls prog 24 #[mT n g na nl nc] w fun e w'=>∃z,wv t g N z/\e=.returned (.int .i64 z)/\Below w.heap.size w w':=by
 have hmf:∀(fn:Fn) (first cap:Array Value) (w:World),(Instr.makeFunc fn first cap).run prog w=.ok (.func fn first cap) w:=fun _ _ _ _=>rfl
 have hb2:Below w.heap.size w ((w.alloc (fJ n g na nl nc)).alloc (j7 0)):=((J _ w).alloc (U _) _).alloc (by simp) _
 obtain⟨w2,hw2⟩:∃w2,w2=(w.alloc (fJ n g na nl nc)).alloc (j7 0):=⟨_,rfl⟩
 have hs2:w2.heap.size=w.heap.size+2:=by rw[hw2];simp
 have hN2:aV w2 n t:=by rw[hw2];exact h.ar hb2
 have hp2:w2.heap[w.heap.size]? =some (fJ n g na nl nc):=by rw[hw2];exact ba (aj _ _)
 have he2:w2.heap[w.heap.size+1]? =some (j7 0):=by rw[hw2];exact bp _ _ (by simp)
 have hb3:Below w2.heap.size w2 (w2.alloc (.cells #[.int .i64 0,.slice none 0 0] 79)):=(J _ _).alloc (U _) _
 have hck:CK w2.heap.size (w2.alloc (.cells #[.int .i64 0,.slice none 0 0] 79)) (w.heap.size+2) (0,[]):=
  ⟨by omega,_,bp _ _ (by omega),⟨rfl,.inl ⟨rfl,rfl⟩⟩,by intro e;cases e⟩
 obtain⟨w3,hw3⟩:∃w3,w3=w2.alloc (.cells #[.int .i64 0,.slice none 0 0] 79):=⟨_,rfl⟩
 rw[<- hw3]at hb3 hck
 have HT:=I (wT hN2 (w.heap.size+2) w3 (0,[]) hb3 hck ⟨by simp,by simp;omega,by simp;omega⟩)
 have HB2:Hid (Below w.heap.size w w2):=by show Below _ _ _;rw[hw2];exact hb2
 have HB3:=I hb3
 have HNm:=I hNm
 have HP2:=I hp2
 have HE2:=I he2
 have HS2:=I hs2
 have hGr:∀s,cP t (0,[])=.ok s->s.2.length<=1000000:=fun s hs=>by have:=fO _ _ _ hs;simp at this;omega
 have HGr:=I hGr
 obtain⟨P3c,P3g,P3n⟩:=et (show w3.heap[w.heap.size]? =some (fJ n g na nl nc) by rw[hb3.block _ (by omega)];exact hp2)
 obtain⟨d0,d1,d2,d3,d4,d5,d6,d7⟩:=P3c
 simp only[fJ,j7]at hw2
 subst hw2
 clear h hNm hb2 hs2 hN2 hp2 he2 hb3 hck hsz hGr
 simp only[mT]
 go_enter_defers func24,ntmps24
 go_wp2_with fail
 rw[<- hw3]
 clear hw3 d0 d1 d2 d3 d4 d5 d6 d7 P3g P3n
 refine HT.o.mono ?_
 rintro e w4 ⟨hb4,⟨s,hR,rfl,hck4⟩|⟨z,hR,rfl⟩⟩
 ·have hb4w:=HB3.o.trans hb4
  have HP4:Hid (w4.heap[w.heap.size]? =some (fJ n g na nl nc)):=by show _=_;rw[hb4w.block _ (by have:=HS2.o;omega)];exact HP2.o
  have HE4:Hid (w4.heap[w.heap.size+1]? =some (j7 0)):=by show _=_;rw[hb4w.block _ (by have:=HS2.o;omega)];exact HE2.o
  have HBw:Hid (Below w.heap.size w w4):=HB2.o.trans (hb4w.mono HB2.o.size)
  have HCK:=I hck4
  have HR:=I hR
  have hln:=HGr.o s hR
  obtain⟨P4c,P4g,P4n⟩:=et HP4.o
  have HCo:=I (pW _ _ s g w4 hck4)
  have HNm4:=I (HNm.o.below HBw.o)
  have HNu:=I (vE _ _ s _ N w4 hck4 hln HNm4.o)
  have ce:=cell_of_one HE4.o
  have cf:=free_of_one HE4.o
  clear hb4 hck4 hR hln hb4w P4c HT HGr HB2 HB3 HP2 HE2 HS2
  by_cases hc:cT s g=0
  ·rw [hc, dP]at HCo
   have hsg:s.1=g:=by unfold cT at hc;split at hc;omega;split at hc;assumption;omega
   by_cases hn:bX s.1 s.2=0
   ·have hF:dD t g=0:=by unfold dD;rw[HR.o];simp only;rw[if_neg (by omega),hn]
    rw[if_pos hn,hsg]at HNu
    by_cases hm:bX g (N.map (·.2))=0
    ·have HZ:Hid (∀z,rb N z->wv t g N z):=fun z hz=>.inr (.inr ⟨hF,hm,hz⟩)
     rw[hm,dP]at HNu
     clear hc hn hm hF hsg
     go_wp2_with fail
     refine HCo.o.mono ?_
     rintro e w' ⟨rfl,rfl⟩
     go_wp2_with fail
     refine HNu.o.mono ?_
     rintro e w5 ⟨rfl,hb5⟩
     have HE5:=I (show w5.heap[w.heap.size+1]? =some (j7 0) by rw[hb5.block _ (lt_of_block HE4.o)];exact HE4.o)
     have HP5:=I (show w5.heap[w.heap.size]? =some (fJ n g na nl nc) by rw[hb5.block _ (lt_of_block HP4.o)];exact HP4.o)
     have HB5:=I (HBw.o.trans (hb5.mono HBw.o.size))
     have HN5:=I (HNm4.o.below hb5)
     clear hb5 ce cf P4g P4n HNu
     obtain⟨P4c,P4g,P4n⟩:=et HP5.o
     clear P4c
     go_wp2_with fail
     refine(qj _ N w5 HN5.o).mono ?_
     rintro e w6 ⟨z,hz,rfl,hb6⟩
     have HE6:=I (show w6.heap[w.heap.size+1]? =some (j7 0) by rw[hb6.block _ (lt_of_block HE5.o)];exact HE5.o)
     have HB6:=I (HB5.o.trans (hb6.mono HB5.o.size))
     have HZz:=I (HZ.o z hz)
     clear hb6 hz
     have ce:=cell_of_one HE6.o
     have cf:=free_of_one HE6.o
     by_cases hz0:z=0
     ·subst hz0
      rw[dP]
      go_wp2
      refine gx (N:=w.heap.size+1) (z:=0) rfl (one_setCell HE6.o) ⟨0,HZz.o,rfl,HB6.o.setCell (by show w.heap.size<=w.heap.size+1;omega) _⟩
     ·rw [dZ hz0]
      clear hz0
      go_wp2
      exact fs (N:=w.heap.size+1) (a:=0) (z:=z) rfl HE6.o ⟨z,HZz.o,rfl,HB6.o.setCell (by show w.heap.size<=w.heap.size+1;omega) _⟩
    ·have HZ:Hid (wv t g N 5):=.inr (.inl ⟨hF,hm,rfl⟩)
     have h5:bX g (N.map (·.2))=5:=by
      have key:∀l:List Int,bX g l=0\/bX g l=5:=by
       intro l
       induction l with
       |nil=>exact .inl rfl
       |cons a l ih=>rw[bX];split;exact ih;exact .inr rfl
      have:=key (N.map (·.2))
      omega
     rw[h5,dZ (by decide)]at HNu
     clear hc hn hm hF hsg h5
     go_wp2_with fail
     refine HCo.o.mono ?_
     rintro e w' ⟨rfl,rfl⟩
     go_wp2_with fail
     refine HNu.o.mono ?_
     rintro e w5 ⟨rfl,hb5⟩
     have HE5:=I (show w5.heap[w.heap.size+1]? =some (j7 0) by rw[hb5.block _ (lt_of_block HE4.o)];exact HE4.o)
     have HB5:=I (HBw.o.trans (hb5.mono HBw.o.size))
     clear hb5 ce cf P4g P4n HNu
     go_wp2
     exact fs (N:=w.heap.size+1) (a:=0) (z:=5) rfl HE5.o ⟨5,HZ.o,rfl,HB5.o.setCell (by show w.heap.size<=w.heap.size+1;omega) _⟩
   ·have hF:dD t g=bX s.1 s.2:=by unfold dD;rw[HR.o];simp only;rw[if_neg (by omega)]
    have h5:bX s.1 s.2=5:=by
     have key:∀l:List Int,bX s.1 l=0\/bX s.1 l=5:=by
      intro l
      induction l with
      |nil=>exact .inl rfl
      |cons a l ih=>rw[bX];split;exact ih;exact .inr rfl
     have:=key s.2
     omega
    have HZ:Hid (wv t g N 5):=.inl ⟨by rw[hF];exact hn,by rw[hF,h5]⟩
    rw[if_neg hn,dZ (by decide)]at HNu
    clear hc hn hF hsg h5
    go_wp2_with fail
    refine HCo.o.mono ?_
    rintro e w' ⟨rfl,rfl⟩
    go_wp2_with fail
    refine HNu.o.mono ?_
    rintro e w5 ⟨rfl,hb5⟩
    have HE5:=I (show w5.heap[w.heap.size+1]? =some (j7 0) by rw[hb5.block _ (lt_of_block HE4.o)];exact HE4.o)
    have HB5:=I (HBw.o.trans (hb5.mono HBw.o.size))
    clear hb5 ce cf P4g P4n HNu
    go_wp2
    exact fs (N:=w.heap.size+1) (a:=0) (z:=5) rfl HE5.o ⟨5,HZ.o,rfl,HB5.o.setCell (by show w.heap.size<=w.heap.size+1;omega) _⟩
  ·have hF:dD t g=cT s g:=by unfold dD;rw[HR.o];simp only;rw[if_pos hc]
   have HZ:Hid (wv t g N (cT s g)):=.inl ⟨by rw[hF];exact hc,hF.symm⟩
   rw[dZ hc]at HCo
   obtain⟨z,hz⟩:∃z,z=cT s g:=⟨_,rfl⟩
   rw[<- hz]at HCo HZ
   clear hc hz hF
   go_wp2_with fail
   refine HCo.o.mono ?_
   rintro e w' ⟨rfl,rfl⟩
   go_wp2
   exact fs (N:=w.heap.size+1) (a:=0) (z:=z) rfl HE4.o ⟨z,HZ.o,rfl,HBw.o.setCell (by show w.heap.size<=w.heap.size+1;omega) _⟩
 ·have hb4w:=HB3.o.trans hb4
  have HE4:Hid (w4.heap[w.heap.size+1]? =some (j7 0)):=by show _=_;rw[hb4w.block _ (by have:=HS2.o;omega)];exact HE2.o
  have HBw:Hid (Below w.heap.size w w4):=HB2.o.trans (hb4w.mono HB2.o.size)
  have hF:dD t g=z:=by unfold dD;rw[hR]
  have HZ:Hid (wv t g N z):=.inl ⟨by rw[hF];exact jk _ _ _ hR,hF.symm⟩
  clear hF
  clear hb4 hR hb4w HT HGr HB2 HB3 HP2 HE2 HS2
  go_wp2
  exact fs (N:=w.heap.size+1) (a:=0) (z:=z) rfl HE4.o ⟨z,HZ.o,rfl,HBw.o.setCell (by show w.heap.size<=w.heap.size+1;omega) _⟩
theorem rF(n:NV)(t:Tr)(g:Int)(na:Option Addr)(nl nc:Nat)(N:de)(w:World)(h:aV w n t)(hNm:bW w (.slice na nl nc) N):Calls prog 15 #[mT n g na nl nc] w fun e w'=>∃z,oT t g N z/\e=.returned (.int .i64 z)/\Below w.heap.size w w':=by
 have hb:Below w.heap.size w (w.alloc (fJ n g na nl nc)):=(J _ _).alloc (U _) _
 have HC:=I (om n t _ (h.box (fJ n g na nl nc)))
 have HK:=I (fun W (hW:Below w.heap.size w W) (hs:fL t<=1000)=>yZ n t g na nl nc N W (h.ar hW) (hNm.below hW) hs)
 obtain⟨w1,hw1⟩:∃w1,w1=w.alloc (fJ n g na nl nc):=⟨_,rfl⟩
 have hbox:w1.heap[w.heap.size]? =some (fJ n g na nl nc):=by rw[hw1];exact aj _ _
 rw[<- hw1]at hb HC
 have HB:=I hb
 have HX:=I hbox
 obtain⟨⟨d0,d1,d2,d3,d4,d5,d6,d7⟩,d8,d9⟩:=et hbox
 simp only[fJ]at hw1
 simp only[mT]at HK |-
 have HSz:Hid (gd t<1001->fL t<=1000):=tm
 clear h hNm hb hbox
 by_cases hlt:gd t<1001
 ·have HF:Hid (∀z,wv t g N z->oT t g N z):=fun z hz=>.inr ⟨hlt,hz⟩
  have hs:=HSz.o hlt
  rw[if_pos hlt,if_pos hlt]at HC
  obtain⟨q,hq⟩:∃q,q=gd t:=⟨_,rfl⟩
  rw[<- hq]at HC
  clear hlt hq HSz
  go_enter func15,ntmps15
  go_wp2_with fail
  rw[<- hw1]
  clear hw1
  refine HC.o.mono ?_
  rintro e w2 ⟨rfl,hb2⟩
  have HB2:=I (HB.o.trans (hb2.mono HB.o.size))
  obtain⟨⟨b0,b1,b2,b3,b4,b5,b6,b7⟩,b8,b9⟩:=et (show w2.heap[w.heap.size]? =some (fJ n g na nl nc) by rw[hb2.block _ (lt_of_block HX.o)];exact HX.o)
  clear hb2 HC d0 d1 d2 d3 d4 d5 d6 d7 d8 d9
  go_wp2_with fail
  refine(HK.o w2 HB2.o hs).mono ?_
  rintro e w3 ⟨z,hz,rfl,hb3⟩
  have HB3:=I (HB2.o.trans (hb3.mono HB2.o.size))
  have HZ:=I (HF.o z hz)
  clear hb3 hz b0 b1 b2 b3 b4 b5 b6 b7 b8 b9
  go_wp2
  go_ret
  exact⟨z,HZ.o,rfl,HB3.o⟩
 ·have HF:Hid (oT t g N 2):=.inl ⟨hlt,rfl⟩
  rw[if_neg hlt,if_neg hlt]at HC
  clear hlt HSz
  go_enter func15,ntmps15
  go_wp2_with fail
  rw[<- hw1]
  clear hw1
  refine HC.o.mono ?_
  rintro e w2 ⟨rfl,hb2⟩
  have HB2:=I (HB.o.trans (hb2.mono HB.o.size))
  clear hb2 HC d0 d1 d2 d3 d4 d5 d6 d7 d8 d9
  go_wp2
  go_ret
  exact⟨2,HF.o,rfl,HB2.o⟩
end Go.Proofs.YtklbbbldalmnbaaGreatDoor.TR
namespace Go.Proofs.YtklbbbldalmnbaaGreatDoor.TR
open Go.ChangeShapes Go.WideShapes Go.ChangeAt Go.RowKit
theorem ui{H:Type}{enc:TypeId×Value->H}{w:World}{base:Nat}{sp:Nat->Bool}{held:Bool}:∀(fuel:Nat) {cs:List Value} {x:DataW H×List MemPlace},
  DataW.trod enc prog w base sp held fuel 25 cs=some x->∃(n:NV) (t:Tr),cs=oy n/\aV w n t:=by
 intro fuel
 induction fuel using Nat.strongRecOn with
 |_ fuel ih=>
  intro cs x h
  obtain⟨xs,m,rfl,hx,hl,hxl,hall⟩:=DataW.trod_struct underlying25 h
  rw[yJ]at hl
  obtain⟨v0,v1,v2,v3,v4,v5,v6,v7,rfl⟩:=eight hl
  obtain⟨x0,x1,x2,x3,x4,x5,x6,x7,rfl⟩:=eight (show xs.length=8 from hxl)
  obtain⟨a0,e0⟩:=one_cell (hall 0 _ rfl)
  obtain⟨a3,e3⟩:=one_cell (hall 3 _ rfl)
  obtain⟨a4,e4⟩:=one_cell (hall 4 _ rfl)
  obtain⟨a5,e5⟩:=one_cell (hall 5 _ rfl)
  obtain⟨a6,e6⟩:=one_cell (hall 6 _ rfl)
  obtain⟨a7,e7⟩:=AA (hall 7 _ rfl)
  simp at e0 e3 e4 e5 e6 e7
  subst e0 e3 e4 e5 e6 e7
  have h1:DataW.trod enc prog w base sp held m 22 [v1]=some x1:=by
   have:=hall 1 _ rfl
   simpa[Em]using this
  have h2:DataW.trod enc prog w base sp held m 23 [v2]=some x2:=by
   have:=hall 2 _ rfl
   simpa[Ci]using this
  obtain⟨sa,sl,sc,rfl⟩:∃a l c,v1=.slice a l c:=by
   rcases DataW.trod_slice underlying22 h1 with⟨hcs,_⟩|⟨a,len,cap,elems,rest,n,_,hcs,_⟩
   ·cases hcs;exact⟨_,_,_,rfl⟩
   ·cases hcs;exact⟨_,_,_,rfl⟩
  obtain⟨L,hL⟩:=vA h1
  rcases DataW.trod_slice underlying23 h2 with⟨hcs,_⟩|⟨a,len,cap,elems,rest,k,hk,hcs,hx2,_,hlc,hm,hlen,hel,_⟩
  ·cases hcs
   exact⟨⟨a0,sa,sl,sc,none,0,0,a3,a4,a5,a6,a7⟩,_,rfl,.mk _ L [] (fun _=>⟨0,none,0,0,none,0,0,0,0,0,0,false⟩) hL (.inl ⟨rfl,rfl,rfl,rfl⟩) (fun j hj=>by simp at hj)⟩
  ·cases hcs
   obtain⟨K,h3,h4⟩:=wX (α:=NV×Tr) (n:=len) (P:=fun i r=>aL w (a.add (i*8)) r.1/\aV w r.1 r.2) (fun i hi=>by
    have hE:=hel i hi
    rw[yJ,List.getElem?_eq_getElem (by omega)]at hE
    simp only[Option.bind_eq_some_iff]at hE
    obtain⟨cs,hcs,ht⟩:=hE
    obtain⟨n,t,rfl,hn⟩:=ih k (by omega) ht
    exact⟨(n,t),Bv hcs,hn⟩)
   refine⟨⟨a0,sa,sl,sc,some a,len,cap,a3,a4,a5,a6,a7⟩,_,rfl,.mk _ L (K.map (·.2)) (fun j=>(K.getD j (⟨0,none,0,0,none,0,0,0,0,0,0,false⟩,.mk 0 0 0 0 0 false [] [])).1) hL (.inr ⟨a,rfl,by simp[h3],⟨by simp[h3];exact hlc,by have:=hm;unfold maxLen at this;omega⟩,fun j hj=>?_⟩) (fun j hj=>?_)⟩
   ·have hj':j<K.length:=by simpa using hj
    have:=(h4 j hj').1
    simpa[List.getD,hj']using this
   ·have hj':j<K.length:=by simpa using hj
    have:=(h4 j hj').2
    simpa[List.getD,hj']using this
theorem bu:Tryz.prog.cellsOf 28=10:=by kernel_rfl
theorem eV:Tryz.prog.cellsOf 33=2:=by kernel_rfl
theorem FK:Tryz.prog.cellsOf 26=1:=by kernel_rfl
theorem IK:Tryz.prog.cellsOf 9=1:=by kernel_rfl
theorem yX{H:Type}{enc:TypeId×Value->H}{w:World}{base:Nat}{sp:Nat->Bool}{held:Bool}{fuel:Nat}{cs:List Value}{x:DataW H×List MemPlace}
  (h:DataW.trod enc prog w base sp held fuel 33 cs=some x):∃(a:ByteArray) (b:Int),cs[0]? =some (.string a)/\cs[1]? =some (.int .i64 b):=by
 obtain⟨xs,n,rfl,hx,hl,hxl,hall⟩:=DataW.trod_struct underlying33 h
 have hxl':xs.length=2:=hxl
 obtain⟨x0,x1,rfl⟩:∃x0 x1,xs=[x0,x1]:=by
  match xs,hxl' with
  |[x0,x1],_=>exact⟨x0,x1,rfl⟩
 obtain⟨b,hb⟩:=one_cell (hall 1 _ rfl)
 have h0:DataW.trod enc prog w base sp held n 9 ((cs.drop 0).take (Tryz.prog.cellsOf 9))=some x0:=hall 0 _ rfl
 rw[IK]at h0
 obtain⟨z,hz,hx0,_⟩:=DataW.trod_string underlying9 h0
 exact⟨z,b,iz hz,hb⟩
theorem yE{H:Type}{enc:TypeId×Value->H}{w:World}{base:Nat}{sp:Nat->Bool}{held:Bool}{fuel:Nat}{v:Value}{x:DataW H×List MemPlace}
  (h:DataW.trod enc prog w base sp held fuel 26 [v]=some x):∃N,bW w v N:=by
 rcases DataW.trod_slice underlying26 h with⟨hcs,_⟩|⟨a,len,cap,elems,rest,n,_,hcs,hx,_,hl,hm,hlen,hel,_⟩
 ·cases hcs
  exact⟨[],.inl ⟨rfl,rfl⟩⟩
 ·cases hcs
  obtain⟨L,h1,h2⟩:=wX (α:=ByteArray×Int) (n:=len) (P:=fun i r=>w.cell? (a.add (i*2))=some (.string r.1)/\w.cell? ⟨(a.add (i*2)).block,(a.add (i*2)).off+1,none⟩=some (.int .i64 r.2)) (fun i hi=>by
   have hE:=hel i hi
   rw[eV,List.getElem?_eq_getElem (by omega)]at hE
   simp only[Option.bind_eq_some_iff]at hE
   obtain⟨cs,hcs,ht⟩:=hE
   obtain⟨u,v,rfl,hu,hv⟩:=sk hcs
   obtain⟨p,q,hp,hq⟩:=yX ht
   simp at hp hq
   exact⟨(p,q),by rw[hu,hp],by rw[hv,hq]⟩)
  exact⟨L,.inr ⟨a,cap,by rw[h1],⟨by omega,by have:=hm;unfold maxLen at this;omega⟩,fun j hj=>h2 j hj⟩⟩
abbrev Gc(n:NV)(g:Int)(na:Option Addr)(nl nc:Nat):List Value:=[.int .i64 n.kind,.slice n.sa n.sl n.sc,.slice n.ka n.kl n.kc,.int .i64 n.num,.int .i64 n.least,.int .i64 n.an,.int .i64 n.bB,.bool n.fold,.int .i64 g,.slice na nl nc]
theorem KC{α:Type}{cs:List α}(h:cs.length=10):∃a b c d e f g i j k,cs=[a,b,c,d,e,f,g,i,j,k]:=by
 match cs,h with
 |[a,b,c,d,e,f,g,i,j,k],_=>exact⟨a,b,c,d,e,f,g,i,j,k,rfl⟩
theorem nj{H:Type}{enc:TypeId×Value->H}{w:World}{base:Nat}{sp:Nat->Bool}{held:Bool}{fuel:Nat}{cs:List Value}{x:DataW H×List MemPlace}
  (h:DataW.trod enc prog w base sp held fuel 28 cs=some x):∃(n:NV) (t:Tr) (g:Int) (na:Option Addr) (nl nc:Nat) (N:de),cs=Gc n g na nl nc/\aV w n t/\bW w (.slice na nl nc) N:=by
 obtain⟨xs,m,rfl,hx,hl,hxl,hall⟩:=DataW.trod_struct underlying28 h
 rw[bu]at hl
 obtain⟨v0,v1,v2,v3,v4,v5,v6,v7,v8,v9,rfl⟩:=KC hl
 have hxl':xs.length=3:=hxl
 obtain⟨x0,x1,x2,rfl⟩:∃x0 x1 x2,xs=[x0,x1,x2]:=by
  match xs,hxl' with
  |[x0,x1,x2],_=>exact⟨x0,x1,x2,rfl⟩
 have h0:DataW.trod enc prog w base sp held m 25 [v0,v1,v2,v3,v4,v5,v6,v7]=some x0:=by
  have:=hall 0 _ rfl
  simpa[yJ]using this
 obtain⟨g,eg⟩:=one_cell (hall 1 _ rfl)
 simp at eg
 have h2:DataW.trod enc prog w base sp held m 26 [v9]=some x2:=by
  have:=hall 2 _ rfl
  simpa[FK]using this
 obtain⟨n,t,hc,hn⟩:=ui m h0
 obtain⟨N,hN⟩:=yE h2
 obtain⟨na,c,rfl⟩:=hN.shape
 refine⟨n,t,g,na,N.length,c,N,?_,hn,hN⟩
 rw[eg]
 simp only[oy,List.cons.injEq,and_true]at hc
 obtain⟨rfl,rfl,rfl,rfl,rfl,rfl,rfl,rfl⟩:=hc
 rfl
end Go.Proofs.YtklbbbldalmnbaaGreatDoor.TR
