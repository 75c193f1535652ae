import Derived.Test.YtfnndcbjklppeaaGreatDoorUA2
import Derived.Test.YtfnndcbjklppeaaGreatDoorRows
import Derived.WalkKit
import Derived.ProofKit
import Derived.OpenShut
import Derived.ChangeOld
import Derived.Below
import Derived.Test.YtfnndcbjklppeaaGreatDoorUB2
import Derived.Test.YtfnndcbjklppeaaGreatDoorUF2
import Derived.Deep.AppendLies
import Derived.Deep.Onto
set_option linter.unusedVariables false
set_option maxHeartbeats 2000000
set_option maxRecDepth 100000
open Go.Proofs.Tryz
namespace Go.Proofs.YtfnndcbjklppeaaGreatDoor
open Go.ChangeShapes Go.WideShapes Go.ChangeAt Go.RowKit
theorem own:ownKnob Tryz.prog.godebug=none:=by kernel_rfl
theorem laidOut:laidOutB prog=true:=by kernel_rfl
theorem cellsR:Tryz.prog.cellsOf 101=2:=by kernel_rfl
theorem cells3:Tryz.prog.cellsOf 3=1:=by kernel_rfl
theorem at_of_take{cs:List Value}{k:Nat}{v:Value}(h:(cs.drop k).take 1=[v]):cs[k]? =some v:=by
 have:=congrArg (·[0]?) h
 simpa[List.getElem?_take,List.getElem?_drop]using this
theorem one_cell{H:Type}{enc:TypeId×Value→H}{w:World}{base:Nat}{sp:Nat→Bool}{held:Bool}{fuel k:Nat}{cs:List Value}{x:DataW H×List MemPlace}
  (h:DataW.trod enc prog w base sp held fuel 3 ((cs.drop k).take (Tryz.prog.cellsOf 3))=some x):∃n,cs[k]? =some (.int .i64 n):=by
 rw[cells3]at h
 obtain⟨z,hz,hx,_⟩:=DataW.trod_int underlying3 h
 exact⟨z,at_of_take hz⟩
theorem range_cells{H:Type}{enc:TypeId×Value→H}{w:World}{base:Nat}{sp:Nat→Bool}{held:Bool}{fuel:Nat}{cs:List Value}{x:DataW H×List MemPlace}
  (h:DataW.trod enc prog w base sp held fuel 101 cs=some x):∃a b,cs[0]? =some (.int .i64 a)∧cs[1]? =some (.int .i64 b):=by
 obtain⟨xs,n,rfl,hx,hl,hxl,hall⟩:=DataW.trod_struct underlying101 h
 have hxl':xs.length=2:=hxl
 obtain⟨x0,x1,rfl⟩:∃x0 x1,xs=[x0,x1]:=by
  match xs,hxl' with
  |[x0,x1],_=>exact⟨x0,x1,rfl⟩
 obtain⟨a,ha⟩:=one_cell (hall 0 _ rfl)
 obtain⟨b,hb⟩:=one_cell (hall 1 _ rfl)
 exact⟨a,b,ha,hb⟩
theorem cells_two{w:World}{base:Nat}{a:Addr}{cs:List Value}(h:w.cells? base a 2=some cs):∃u v,cs=[u,v]∧w.cell? a=some u∧w.cell? ⟨a.block,a.off+1,none⟩=some v:=by
 unfold World.cells? at h
 split at h
 ·have e0:a.add 0=a:=by simp[Addr.add]
  have e1:a.add 1=⟨a.block,a.off+1,none⟩:=by simp[Addr.add]
  simp only[List.range_succ,List.range_zero,List.nil_append,List.cons_append,List.mapM_cons,List.mapM_nil,e0,e1]at h
  cases h0:w.cell? a with
  |none=>simp[h0]at h
  |some u=>
   cases h1:w.cell? ⟨a.block,a.off+1,none⟩with
   |none=>simp[h0,h1]at h
   |some v=>simp[h0,h1]at h;exact⟨u,v,h.symm,rfl,rfl⟩
 ·cases h
theorem list_of{n:Nat}{P:Nat→Int×Int→Prop}(h:∀i,i<n→∃r,P i r):∃L:RL,L.length=n∧∀i (hi:i<L.length),P i L[i]:=by
 induction n with
 |zero=>exact⟨[],rfl,fun i hi=>by simp at hi⟩
 |succ n ih=>
  obtain⟨L,h1,h2⟩:=ih (fun i hi=>h i (by omega))
  obtain⟨r,hr⟩:=h n (by omega)
  refine⟨L++[r],by simp[h1],fun i hi=>?_⟩
  by_cases hin:i<L.length
  ·rw[List.getElem_append_left hin];exact h2 i hin
  ·have :i=n:=by simp at hi;omega
   subst this
   rw[List.getElem_append_right (by omega)]
   simpa[h1]using hr
theorem open_ranges{H:Type}{enc:TypeId×Value→H}{w:World}{base:Nat}{sp:Nat→Bool}{held:Bool}{fuel:Nat}{v:Value}{x:DataW H×List MemPlace}
  (h:DataW.trod enc prog w base sp held fuel 29 [v]=some x):∃L,Reads w v L:=by
 rcases DataW.trod_slice underlying29 h with⟨hcs,_⟩|⟨a,len,cap,elems,rest,n,_,hcs,hx,_,hl,hm,hlen,hel,_⟩
 ·cases hcs
  exact⟨[],reads_nil w⟩
 ·cases hcs
  obtain⟨L,h1,h2⟩:=list_of (n:=len) (P:=fun i r=>w.cell? (a.add (i*2))=some (.int .i64 r.1)∧w.cell? ⟨(a.add (i*2)).block,(a.add (i*2)).off+1,none⟩=some (.int .i64 r.2)) (fun i hi=>by
   have hE:=hel i hi
   rw[cellsR,List.getElem?_eq_getElem (by omega)]at hE
   simp only[Option.bind_eq_some_iff]at hE
   obtain⟨cs,hcs,ht⟩:=hE
   obtain⟨u,v,rfl,hu,hv⟩:=cells_two hcs
   obtain⟨p,q,hp,hq⟩:=range_cells ht
   simp at hp hq
   exact⟨(p,q),by rw[hu,hp],by rw[hv,hq]⟩)
  exact⟨L,.inr ⟨a,cap,by rw[h1],fun j hj=>h2 j hj⟩⟩
theorem cellsN:Tryz.prog.cellsOf 32=8:=by kernel_rfl
theorem cellsSet:Tryz.prog.cellsOf 29=1:=by kernel_rfl
theorem cellsKids:Tryz.prog.cellsOf 30=1:=by kernel_rfl
theorem cells4:Tryz.prog.cellsOf 4=1:=by kernel_rfl
theorem adde(x:Addr){k:Nat}(hk:k≠0):x.add k=⟨x.block,x.off+k,none⟩:=by unfold Addr.add;rw[if_neg hk]
theorem addz(x:Addr):x.add 0=x:=by unfold Addr.add;split<;>simp_all
theorem cells_at{w:World}{base n:Nat}{a:Addr}{cs:List Value}(h:w.cells? base a n=some cs):cs.length=n∧∀k,k<n→w.cell? (a.add k)=cs[k]? :=by
 unfold World.cells? at h
 split at h
 ·exact⟨by simpa using mapM_some_length h,fun k hk=>mapM_some_get h k k (by simp[hk])⟩
 ·cases h
theorem list_of'{α:Type}{n:Nat}{P:Nat→α→Prop}(h:∀i,i<n→∃r,P i r):∃L:List α,L.length=n∧∀i (hi:i<L.length),P i L[i]:=by
 induction n with
 |zero=>exact⟨[],rfl,fun i hi=>by simp at hi⟩
 |succ n ih=>
  obtain⟨L,h1,h2⟩:=ih (fun i hi=>h i (by omega))
  obtain⟨r,hr⟩:=h n (by omega)
  refine⟨L++[r],by simp[h1],fun i hi=>?_⟩
  by_cases hin:i<L.length
  ·rw[List.getElem_append_left hin];exact h2 i hin
  ·have :i=n:=by simp at hi;omega
   subst this
   rw[List.getElem_append_right (by omega)]
   simpa[h1]using hr
abbrev nvL(n:NV):List Value:=[.int .i64 n.kind,.slice n.sa n.sl n.sc,.slice n.ka n.kl n.kc,.int .i64 n.num,.int .i64 n.least,.int .i64 n.most,.int .i64 n.way,.bool n.fold]
theorem ncells_of{w:World}{base:Nat}{a:Addr}{n:NV}(h:w.cells? base a 8=some (nvL n)):NCells w a n:=by
 obtain⟨_,h⟩:=cells_at h
 have e0:=h 0 (by omega)
 rw[addz]at e0
 have g:∀k,k<8→k≠0→w.cell? ⟨a.block,a.off+k,none⟩=(nvL n)[k]? :=fun k hk h0=>by rw[← adde a h0];exact h k hk
 exact⟨e0,g 1 (by omega) (by omega),g 2 (by omega) (by omega),g 3 (by omega) (by omega),g 4 (by omega) (by omega),g 5 (by omega) (by omega),g 6 (by omega) (by omega),g 7 (by omega) (by omega)⟩
theorem eight{α:Type}{cs:List α}(h:cs.length=8):∃a b c d e f g i,cs=[a,b,c,d,e,f,g,i]:=by
 match cs,h with
 |[a,b,c,d,e,f,g,i],_=>exact⟨a,b,c,d,e,f,g,i,rfl⟩
theorem bool_cell{H:Type}{enc:TypeId×Value→H}{w:World}{base:Nat}{sp:Nat→Bool}{held:Bool}{fuel k:Nat}{cs:List Value}{x:DataW H×List MemPlace}
  (h:DataW.trod enc prog w base sp held fuel 4 ((cs.drop k).take (Tryz.prog.cellsOf 4))=some x):∃b,cs[k]? =some (.bool b):=by
 rw[cells4]at h
 obtain⟨z,hz,hx⟩:=DataW.trod_bool underlying4 h
 exact⟨z,at_of_take hz⟩
end Go.Proofs.YtfnndcbjklppeaaGreatDoor
namespace Go.Proofs.YtfnndcbjklppeaaGreatDoor
open Go.RowKit
mutual
def flatT:Tr→List Tr
 | .mk k a b c d e f kids=>.mk k a b c d e f kids::flatL kids
def flatL:List Tr→List Tr
 |[]=>[]
 |t::ts=>flatT t++flatL ts
end
theorem flatT_kids(t:Tr):flatT t=t::flatL t.kids:=by cases t;rfl
theorem flatL_append:∀a b:List Tr,flatL (a++b)=flatL a++flatL b
 |[],b=>rfl
 |t::ts,b=>by rw[List.cons_append,flatL,flatL,flatL_append ts b,List.append_assoc]
theorem flatL_take{ts:List Tr}{j:Nat}(hj:j<ts.length):flatL (ts.take (j+1))=flatL (ts.take j)++flatT ts[j]:=by
 rw[List.take_add_one,List.getElem?_eq_getElem hj,flatL_append]
 simp[flatL]
mutual
theorem flat_len:∀t:Tr,(flatT t).length=szT t
 | .mk k a b c d e f kids=>by rw[flatT,szT,List.length_cons,flat_lenL kids];omega
theorem flat_lenL:∀ts:List Tr,(flatL ts).length=szL ts
 |[]=>rfl
 |t::ts=>by rw[flatL,szL,List.length_append,flat_len t,flat_lenL ts]
end
theorem szL_append:∀a b:List Tr,szL (a++b)=szL a+szL b
 |[],b=>by simp[szL]
 |t::ts,b=>by rw[List.cons_append,szL,szL,szL_append ts b];omega
theorem szL_take(ts:List Tr)(j:Nat):szL (ts.take j)≤szL ts:=by
 have:=szL_append (ts.take j) (ts.drop j)
 rw[List.take_append_drop]at this
 omega
theorem szL_get{ts:List Tr}{j:Nat}(hj:j<ts.length):szL (ts.take j)+szT ts[j]≤szL ts:=by
 have h:=szL_take ts (j+1)
 rw[List.take_add_one,List.getElem?_eq_getElem hj,szL_append]at h
 simp[szL]at h
 omega
theorem szT_pos(t:Tr):1≤szT t:=by rw[szT_kids];omega
def rowN(F:List (NV×Tr)):List Value:=F.flatMap (fun x=>nvL x.1)
theorem rowN_append(a b:List (NV×Tr)):rowN (a++b)=rowN a++rowN b:=by simp[rowN]
theorem rowN_len:∀F:List (NV×Tr),(rowN F).length=F.length*8
 |[]=>rfl
 |x::F=>by rw[rowN,List.flatMap_cons,List.length_append];have:=rowN_len F;rw[rowN]at this;rw[this];simp;omega
theorem rowN_one(F:List (NV×Tr)):∀u∈rowN F,u.oneCell'=true:=by
 intro u hu
 simp only[rowN,List.mem_flatMap]at hu
 obtain⟨x,_,hu⟩:=hu
 simp at hu
 rcases hu with rfl|rfl|rfl|rfl|rfl|rfl|rfl|rfl<;>rfl
theorem rowN_at:∀(F:List (NV×Tr)) (j:Nat) (hj:j<F.length) (k:Nat) (hk:k<8),(rowN F)[j*8+k]? =(nvL F[j].1)[k]?
 |x::F,0,_,k,hk=>by rw[rowN,List.flatMap_cons,List.getElem?_append_left (by simp;omega)];simp
 |x::F,j+1,hj,k,hk=>by
  have h:=rowN_at F j (by simpa using hj) k hk
  rw[rowN,List.flatMap_cons,List.getElem?_append_right (by simp;omega)]
  rw[rowN]at h
  rw[show (j+1)*8+k - (nvL x.1).length=j*8+k by simp;omega,h]
  rfl
theorem rowN_cells{B n cap g:Nat}{w:World}{F:List (NV×Tr)}(h:w.ownsRow B 32 8 (.slice (some ⟨g,0,none⟩) n cap) n (rowN F)){j:Nat}(hj:j<F.length):NCells w ⟨g,j*8,none⟩ F[j].1:=by
 have hl:(rowN F).length=n*8:=h.1
 rw[rowN_len]at hl
 have c:∀k,k<8→w.cell? ⟨g,j*8+k,none⟩=(nvL F[j].1)[k]? :=fun k hk=>by rw[h.cellAt (j*8+k) (by omega),rowN_at F j hj k hk]
 exact⟨c 0 (by omega),c 1 (by omega),c 2 (by omega),c 3 (by omega),c 4 (by omega),c 5 (by omega),c 6 (by omega),c 7 (by omega)⟩
theorem infoN:(Tryz.prog.info? 32).map (fun i=>(i.zero,i.size,i.bytes))=some (some (.agg #[.int .i64 0,.slice none 0 0,.slice none 0 0,.int .i64 0,.int .i64 0,.int .i64 0,.int .i64 0,.bool false]),8,96):=by kernel_rfl
def FlatE(w0 w:World)(t:Tr)(e:Ending)(w':World):Prop:=
 ∃(v:Value) (F:List (NV×Tr)),e=.returned v∧F.map (·.2)=flatT t∧(∀x∈F,NodeC w0 x.1 x.2)∧w'.ownsRow w.heap.size 32 8 v F.length (rowN F)∧Below w.heap.size w w'
theorem nodesOf_any{w0:World}{n:NV}{t:Tr}(h:NodeC w0 n t):szT t≤1000→∀w,Below w0.heap.size w0 w→Calls prog 30 #[nvV n] w fun e w'=>e=.returned (.int .i64 (szT t:Nat))∧Below w.heap.size w w':=by
 induction h with
 |mk n set ks vs hs hk hkids ih=>
  intro hsz w hw0
  rw[szT]at hsz ⊢
  have HK:=hide hk
  have HIH:=hide ih
  have HKL:=hide hk.len
  have HW0:=hide hw0
  have HSz:=hide hsz
  obtain⟨G,hG⟩:=named (1+szL ks)
  have HGG:=hide hG
  rw[← hG]
  clear hG
  obtain⟨w1,hw1⟩:=named (w.alloc (nvO n))
  have hX1:w1.heap[w.heap.size]? =some (nvO n):=by rw[hw1];exact at_new _ _
  have hb1:Below w.heap.size w w1:=by rw[hw1];exact allocB w _
  have HX1:=hide hX1
  have HB1:=hide hb1
  simp only[nvO]at hw1
  clear hs hk hkids ih hsz hw0 hX1 hb1
  go_enter func30,ntmps30
  go_upto_region 1 with fail
  rw[← hw1]
  clear hw1
  go_wp2
  go_loopw [3,4] (fun a c wr=>∃(j q:Nat),j≤ks.length∧c=.int .i64 j∧a=.int .i64 q∧q=1+szL (ks.take j)∧wr.heap[w.heap.size]? =some (nvO n)∧Below w.heap.size w wr) (fun _ c _=>ks.length - (intOf c).toNat)
  case atStart=>exact⟨0,1,Nat.zero_le _,rfl,rfl,by simp[szL],HX1.out,HB1.out⟩
  case round=>
   obtain⟨j,q,hj,rfl,rfl,hq,hx,hb⟩:=hrel
   obtain⟨w2,hw2⟩:=named wr
   subst hw2
   have HQ:=hide hq
   have HX:=hide hx
   have HB:=hide hb
   obtain⟨d0,d1,d2,d3,d4,d5,d6,d7⟩:=nv_cells hx
   clear hq hx hb HX1 HB1
   by_cases hlt:j<ks.length
   ·have e1:(j:Int)<(n.kl:Int):=by have:=HKL.out;omega
    have e2:(0:Int)≤(j:Int):=by omega
    rcases HK.out with⟨_,_,_,h0⟩|⟨x,hx,hkk,hmx,hcl⟩
    ·exact absurd h0 (by omega)
    ·have hB0:=HW0.out.andT HB.out
     obtain⟨c0,c1,c2,c3,c4,c5,c6,c7⟩:=(hcl j hlt).below hB0
     have hget:=szL_get hlt
     have HC:=hide (HIH.out j hlt (by have:=HSz.out;omega) w2 hB0)
     have hq2:q+szT ks[j]≤1000:=by have:=HQ.out;have:=HSz.out;omega
     have HNx:Hid (q+szT ks[j]=1+szL (ks.take (j+1))):=by
      show _=_
      rw[List.take_add_one,List.getElem?_eq_getElem hlt,szL_append,HQ.out]
      simp[szL];omega
     obtain⟨z,hz⟩:=named (szT ks[j])
     rw[← hz]at HC hq2 HNx
     have e3:IntKind.i64.wrap ((j:Int)+1)=(j:Int)+1:=by rw[IntKind.wrap_i64];omega
     have e4:IntKind.i64.wrap ((q:Int)+(z:Int))=((q+z:Nat):Int):=by rw[IntKind.wrap_i64];omega
     rw[hx]at d2
     clear hcl hx hkk hmx hB0 hget hz
     go_wp2_with fail
     refine HC.out.mono ?_
     rintro e w3 ⟨rfl,hb3⟩
     have HB3:=hide (HB.out.andT hb3)
     have HX3:=hide (show w3.heap[w.heap.size]? =some (nvO n) by rw[hb3.block _ (lt_of_block HX.out)];exact HX.out)
     clear hb3 HC c0 c1 c2 c3 c4 c5 c6 c7 d0 d1 d2 d3 d4 d5 d6 d7
     go_wp2
     go_roundw
     case rel=>exact⟨j+1,q+z,by omega,by go_num,by first|rfl|go_num,HNx.out,HX3.out,HB3.out⟩
     case measure=>simp[intOf];omega
   ·have e1:¬(j:Int)<(n.kl:Int):=by have:=HKL.out;omega
    have hE:Hid (q=G):=by show _=_;rw[HGG.out,HQ.out,List.take_of_length_le (by omega)]
    go_wp2
    go_ret
    exact⟨by rw[hE.out];rfl,HB.out⟩
end Go.Proofs.YtfnndcbjklppeaaGreatDoor
