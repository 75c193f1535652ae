import Derived.Test.YtfnndcbjklppeaaGreatDoorYG2
import Derived.Test.YtfnndcbjklppeaaGreatDoorVQ2
import Derived.Test.YtfnndcbjklppeaaGreatDoorXG2
import Derived.Test.YtfnndcbjklppeaaGreatDoorVL2
import Derived.Test.YtfnndcbjklppeaaGreatDoorXA2
import Derived.SizedLaws
import Derived.Test.YtfnndcbjklppeaaGreatDoorVO2
import Derived.Test.YtfnndcbjklppeaaGreatDoorVY2
import Derived.Test.YtfnndcbjklppeaaGreatDoorWG2
set_option maxHeartbeats 8000000
set_option maxRecDepth 100000
set_option linter.unusedVariables false
open Go.Proofs.Tryz
namespace Go.Proofs.YtfnndcbjklppeaaGreatDoor
open Go.RowKit
theorem nameE_nil:NameE [] 0:=.inr (.inr (.inr ⟨rfl,fun i hi=>by simp at hi,fun i hi=>by simp at hi,fun i _ hi=>by simp at hi⟩))
theorem patE_nil(t:Tr)(g:Int):PatE t g [] (checkP t g):=by
 unfold checkP PatE
 by_cases h:cntA t<1001
 ·rw [if_pos h]
  refine .inr ⟨h,?_⟩
  by_cases hz:treeE t g=0
  ·rw[hz];exact .inr (.inr ⟨hz,rfl,nameE_nil⟩)
  ·exact .inl ⟨hz,rfl⟩
 ·rw[if_neg h];exact .inl ⟨h,rfl⟩
theorem checkPat_any{w0:World}{n:NV}{t:Tr}(h:NodeC w0 n t)(hsm:smT t)(g:Int)(na:Option Addr)(nl nc:Nat)(N:NmL)(w:World)(hw0:Below w0.heap.size w0 w)(hN:NamesC w (.slice na nl nc) N)(hnz:∀i,i<N.length→(ntx N i).size≤1048576):Calls prog 23 #[patNV n g na nl nc] w fun e w'=>∃z,PatE t g N z∧e=.returned (.int .i64 z)∧Below w.heap.size w w':=by
 rcases hN with⟨hv,rfl⟩|⟨x,c,hv,hc,hcl⟩
 ·injection hv with h1 h2 h3
  subst h1;subst h2;subst h3
  refine(checkPat_nil h hsm g w hw0).mono ?_
  rintro e w' ⟨rfl,hb⟩
  exact⟨_,patE_nil t g,rfl,hb⟩
 ·injection hv with h1 h2 h3
  subst h1;subst h2;subst h3
  exact checkPat_some h hsm g x _ N w hw0 hc hcl hnz
mutual
theorem good_flat:∀t:Tr,good t→∀u∈flatT t,good u
 | .mk k a b c d e f kids,h,u,hu=>by
  rw[flatT]at hu
  rcases List.mem_cons.1 hu with rfl|hu
  ·exact h
  ·exact good_flatL kids (fun t ht=>by obtain⟨j,hj,rfl⟩:=List.getElem_of_mem ht;exact good_kids h j hj) u hu
theorem good_flatL:∀ts:List Tr,(∀t∈ts,good t)→∀u∈flatL ts,good u
 |[],h,u,hu=>by cases hu
 |t::ts,h,u,hu=>by
  rw[flatL]at hu
  rcases List.mem_append.1 hu with hu|hu
  ·exact good_flat t (h t (List.mem_cons_self ..)) u hu
  ·exact good_flatL ts (fun x hx=>h x (List.mem_cons_of_mem _ hx)) u hu
end
theorem all_take{l:List Tr}{f:Tr→Bool}(h:∀i (hi:i<l.length),f l[i]=true):l.all f=true:=by
 rw[List.all_eq_true]
 intro x hx
 obtain⟨j,hj,rfl⟩:=List.getElem_of_mem hx
 exact h j hj
theorem not_take{l:List Tr}{f:Tr→Bool}{j:Nat}(hj:j<l.length)(h:f l[j]=false):l.all f=false:=by
 rw[List.all_eq_false]
 exact⟨l[j],List.getElem_mem _,by simp[h]⟩
theorem checkBehind_any{w0:World}{n:NV}{t:Tr}(h:NodeC w0 n t)(hsm:smT t)(g:Int)(na:Option Addr)(nl nc:Nat)(N:NmL)(w:World)(hw0:Below w0.heap.size w0 w)(hN:NamesC w (.slice na nl nc) N)(hnz:∀i,i<N.length→(ntx N i).size≤1048576):Calls prog 9 #[patNV n g na nl nc] w fun e w'=>∃z,BehE t g N z∧e=.returned (.int .i64 z)∧Below w.heap.size w w':=by
 have hb:Below w.heap.size w (w.alloc (patNO n g na nl nc)):=allocB _ _
 have HC:=hide (checkPat_any h hsm g na nl nc N (w.alloc (patNO n g na nl nc)) (hw0.andT hb) (hN.below hb) hnz)
 have HFl:=hide (fun hs W hW=>flat_any' h hs W hW)
 obtain⟨w1,hw1⟩:=named (w.alloc (patNO n g na nl nc))
 have hbox:w1.heap[w.heap.size]? =some (patNO n g na nl nc):=by rw[hw1];exact at_new _ _
 rw[← hw1]at hb HC
 have HB:=hide hb
 have HX:=hide hbox
 have HW0:=hide hw0
 obtain⟨⟨d0,d1,d2,d3,d4,d5,d6,d7⟩,d8,d9⟩:=patN_cells hbox
 simp only[patNO]at hw1
 simp only[patNV]at HC ⊢
 clear h hsm hw0 hN hb hbox hnz
 go_enter func9,ntmps9
 go_wp2_with fail
 rw[← hw1]
 clear hw1
 refine HC.out.mono ?_
 rintro e w2 ⟨z,hz,rfl,hb2⟩
 have HB2:=hide (HB.out.andT hb2)
 have HX2:=hide (show w2.heap[w.heap.size]? =some (patNO n g na nl nc) by rw[hb2.block _ (lt_of_block HX.out)];exact HX.out)
 clear hb2 HC d0 d1 d2 d3 d4 d5 d6 d7 d8 d9 HX HB
 by_cases hz0:z=0
 ·subst hz0
  obtain⟨⟨d0,d1,d2,d3,d4,d5,d6,d7⟩,d8,d9⟩:=patN_cells HX2.out
  have HSz:=hide (cntA_sz (pat_right hz).1)
  have HGo:=hide (good_flat t (pat_right hz).2)
  have HF2:=hide (HFl.out HSz.out w2 (HW0.out.andT HB2.out))
  have HBy:Hid ((∀i (hi:i<(flatT t).length),bhB (flatT t)[i]=true)→BehE t g N 0):=fun hh=>.inr ⟨hz,by unfold bhA;rw[all_take hh];rfl⟩
  have HBn:Hid (∀i (hi:i<(flatT t).length),bhB (flatT t)[i]=false→BehE t g N 9):=fun i hi hh=>.inr ⟨hz,by unfold bhA;rw[not_take hi hh];rfl⟩
  clear hz HFl
  go_wp2_with fail
  refine HF2.out.mono ?_
  rintro e w3 ⟨v,F,rfl,hF,hb3⟩
  have HB3:=hide (HB2.out.andT hb3)
  have hlen:=hF.len
  obtain⟨gr,cap,hv,_⟩:=hF.form
  rw[hv]at hF ⊢
  obtain⟨m,hm⟩:=named F.length
  have hm1:m≤1000:=by have:=HSz.out;omega
  have HM:=hide hm
  rw[← hm]at hF ⊢
  have HF:=hide hF
  obtain⟨B,hB⟩:=named w2.heap.size
  rw[← hB]at HF
  have hfl:(flatT t).length=m:=by rw[flat_len];omega
  have HLen:=hide hfl
  clear hF hv hlen hb3 HB2 HX2 d0 d1 d2 d3 d4 d5 d6 d7 d8 d9 hm HF2 hB hfl HSz
  go_wp2
  go_loopw [5] (fun c wr=>∃(j:Nat),j≤m∧c=.int .i64 j∧(∀i (hi:i<(flatT t).length),i<j→bhB (flatT t)[i]=true)∧FlatR w0 B wr (.slice (some ⟨gr,0,none⟩) m cap) F t∧Below w.heap.size w wr) (fun c _=>m - (intOf c).toNat)
  case atStart=>exact⟨0,Nat.zero_le _,rfl,fun i hi h0=>by omega,HF.out,HB3.out⟩
  case round=>
   obtain⟨j,hj,rfl,hA,hF,hb⟩:=hrel
   obtain⟨w4,hw4⟩:=named wr
   subst hw4
   have HA:=hide hA
   have HF4:=hide hF
   have HB4:=hide hb
   clear hA hF hb HF HB3
   by_cases hlt:j<m
   ·have hjF:j<F.length:=by have:=HM.out;omega
    obtain⟨h2,hg1,hg2,hg3⟩:=HF4.out.get hjF
    obtain⟨gr',cap',hv',hcl⟩:=HF4.out.form
    have hgr:gr'=gr:=by injection hv' with h1;injection h1 with h1;injection h1 with h1;exact h1.symm
    rw[hgr]at hcl
    clear hv' hgr
    have hcj:=hcl j hjF
    have hN:NodeC w0 F[j].1 F[j].2:=HF4.out.nd _ (List.getElem_mem _)
    have hgd:good F[j].2:=by rw[← hg1];exact HGo.out _ (List.getElem_mem _)
    have hBd:bhB (flatT t)[j]=bhB F[j].2:=by rw[hg1]
    obtain⟨u,hu⟩:=named (F[j].2)
    obtain⟨xn,hxn⟩:=named (F[j].1)
    rw[← hu]at hN hgd hBd hg2
    rw[← hxn]at hN hcj hg2
    have HNx:Hid (bhB u=true→∀i (hi:i<(flatT t).length),i<j+1→bhB (flatT t)[i]=true):=fun hh i hi h0=>by
     by_cases hij:i=j
     ·subst hij;rw[hBd];exact hh
     ·exact HA.out i hi (by omega)
    have HBx:Hid (bhB u=false→BehE t g N 9):=fun hh=>HBn.out j h2 (by rw[hBd];exact hh)
    have HBu:Hid (bhB u=(!(decide (xn.kind=16)||decide (xn.kind=17))||(decide (0≤most0 u.kids)&&decide (most0 u.kids≤100)))):=by show _=_;unfold bhB;rw[hg2]
    have hgn:=good_node hgd
    have hgk:=good_kids hgd
    have hkb:=hgn.2.1
    unfold kidsB at hkb
    rw[hg2]at hkb
    obtain⟨-, -, -, -, -, -, -,vs,hkc,hkn⟩:=hN.open
    have c0:=hcj.c0
    have c2:=hcj.c2
    simp only at c2
    have e1:(j:Int)<(m:Int):=by omega
    have e2:(0:Int)≤(j:Int):=by omega
    have hjw:IntKind.i64.wrap ((j:Int)+1)=(j:Int)+1:=by rw[IntKind.wrap_i64];omega
    have HB04:=hide (HW0.out.andT HB4.out)
    have HKc:=hide hkc
    have HWd:=hide (fun i hi W hW=>wide_any (hkn i hi) (hgk i hi) W hW)
    clear h2 hg1 hg2 hg3 hcl hN hgd hBd hu hxn hgn hgk hkc hkn hcj HA
    by_cases hbk:xn.kind=16∨xn.kind=17
    ·have hl1:u.kids.length=1:=by
      rw[if_neg (by omega),if_neg (by omega),if_pos (by omega)]at hkb
      exact of_decide_eq_true hkb
     have hkd:(decide (xn.kind=16)||decide (xn.kind=17))=true:=by simpa using hbk
     rcases HKc.out with⟨_,_,_,h00⟩|⟨x,hx,hkk,hmx,hcl⟩
     ·exact absurd h00 (by omega)
     ·have hcx:NCells w0 x (vs 0):=by have:=hcl 0 (by omega);simpa[add_zero']using this
      have HC:=hide (HWd.out 0 (by omega) w4 HB04.out)
      obtain⟨f0,f1,f2,f3,f4,f5,f6,f7⟩:=hcx.below HB04.out
      obtain⟨FF,hFF⟩:=named (factT (u.kids[0]'(by omega)))
      have hM0:most0 u.kids=FF.most:=by rw[hFF,most0_at (by omega)]
      rw[← hFF]at HC
      rw[hx,hkk,hl1]at c2
      have HBv:Hid (bhB u=(decide (0≤FF.most)&&decide (FF.most≤100))):=by show _=_;rw[HBu.out,hkd,hM0];rfl
      obtain⟨fl,fm,fp⟩:=FF
      simp only[wdV]at HC HBv
      have HB5:Hid (∀W,Below w4.heap.size w4 W→Below w.heap.size w W∧FlatR w0 B W (.slice (some ⟨gr,0,none⟩) m cap) F t):=fun W hW=>⟨HB4.out.andT hW,HF4.out.keep hW⟩
      clear hcl hFF hx hkk hmx hcx hkd hM0 HBu hkb hl1 HWd HKc
      have fin:∀W:World,True:=fun _=>trivial
      clear fin
      by_cases h16:xn.kind=16
      ·have b16:(xn.kind==16)=true:=by simpa using h16
       clear h16 hbk
       go_wp2_with fail
       refine HC.out.mono ?_
       rintro e w5 ⟨rfl,hb5⟩
       obtain⟨hB5,hF5⟩:=HB5.out w5 hb5
       have HB6:=hide hB5
       have HF6:=hide hF5
       clear hb5 hB5 hF5 HC HB5 c0 c2 f0 f1 f2 f3 f4 f5 f6 f7
       by_cases hm0:fm<0
       ·have HE:=hide (HBx.out (by rw[HBv.out,show decide (0≤fm)=false from decide_eq_false (by omega)];rfl))
        go_wp2
        go_ret
        exact⟨9,HE.out,rfl,HB6.out⟩
       ·by_cases hm1':100<fm
        ·have HE:=hide (HBx.out (by rw[HBv.out,show decide (fm≤100)=false from decide_eq_false (by omega)];simp))
         go_wp2
         go_ret
         exact⟨9,HE.out,rfl,HB6.out⟩
        ·have HNy:=hide (HNx.out (by rw[HBv.out,show decide (fm≤100)=true from decide_eq_true (by omega),show decide (0≤fm)=true from decide_eq_true (by omega)];rfl))
         go_wp2
         go_roundw
         case rel=>exact⟨j+1,by omega,by go_num,HNy.out,HF6.out,HB6.out⟩
         case measure=>simp[intOf];omega
      ·have h17:xn.kind=17:=by omega
       have b16:(xn.kind==16)=false:=by simpa using h16
       have b17:(xn.kind==17)=true:=by simpa using h17
       clear h16 h17 hbk
       go_wp2_with fail
       refine HC.out.mono ?_
       rintro e w5 ⟨rfl,hb5⟩
       obtain⟨hB5,hF5⟩:=HB5.out w5 hb5
       have HB6:=hide hB5
       have HF6:=hide hF5
       clear hb5 hB5 hF5 HC HB5 c0 c2 f0 f1 f2 f3 f4 f5 f6 f7
       by_cases hm0:fm<0
       ·have HE:=hide (HBx.out (by rw[HBv.out,show decide (0≤fm)=false from decide_eq_false (by omega)];rfl))
        go_wp2
        go_ret
        exact⟨9,HE.out,rfl,HB6.out⟩
       ·by_cases hm1':100<fm
        ·have HE:=hide (HBx.out (by rw[HBv.out,show decide (fm≤100)=false from decide_eq_false (by omega)];simp))
         go_wp2
         go_ret
         exact⟨9,HE.out,rfl,HB6.out⟩
        ·have HNy:=hide (HNx.out (by rw[HBv.out,show decide (fm≤100)=true from decide_eq_true (by omega),show decide (0≤fm)=true from decide_eq_true (by omega)];rfl))
         go_wp2
         go_roundw
         case rel=>exact⟨j+1,by omega,by go_num,HNy.out,HF6.out,HB6.out⟩
         case measure=>simp[intOf];omega
    ·have b16:(xn.kind==16)=false:=by simp;omega
     have b17:(xn.kind==17)=false:=by simp;omega
     have HE:Hid (bhB u=true):=by
      show _=_
      rw[HBu.out,show(decide (xn.kind=16)||decide (xn.kind=17))=false by simpa using hbk];rfl
     have HNy:=hide (HNx.out HE.out)
     clear hbk hkb HKc HWd HBu HE HNx HBx
     go_wp2
     go_roundw
     case rel=>exact⟨j+1,by omega,by go_num,HNy.out,HF4.out,HB4.out⟩
     case measure=>simp[intOf];omega
   ·have e1:¬(j:Int)<(m:Int):=by omega
    have HE:=hide (HBy.out (fun i hi=>HA.out i hi (by have:=HLen.out;omega)))
    go_wp2
    go_ret
    exact⟨0,HE.out,rfl,HB4.out⟩
 ·have HE:Hid (BehE t g N z):=.inl ⟨hz,hz0⟩
  have bz:(z==0)=false:=by simpa using hz0
  have bz2:(z !=0)=true:=by simpa using hz0
  clear hz hz0 HFl
  go_wp2
  go_ret
  exact⟨z,HE.out,rfl,HB2.out⟩
end Go.Proofs.YtfnndcbjklppeaaGreatDoor
namespace Go.Proofs.YtfnndcbjklppeaaGreatDoor
open Go.ChangeShapes Go.WideShapes Go.ChangeAt Go.RowKit
theorem bulk_one{H:Type}(d:DataW H):1≤Rows.uptoBulk d:=by
 cases d with
 |lit l=>cases l<;>simp[Rows.uptoBulk]
 |nil=>simp[Rows.uptoBulk]
 |ptr d=>simp[Rows.uptoBulk]
 |slice elems spare=>simp[Rows.uptoBulk]
 |agg parts=>simp[Rows.uptoBulk]
 |iface t d=>simp[Rows.uptoBulk]
 |map entries=>simp[Rows.uptoBulk]
 |held h=>simp[Rows.uptoBulk]
theorem bulk_len{H:Type}(l:List (DataW H)):l.length≤Rows.uptoBulkAll l:=by
 induction l with
 |nil=>simp[Rows.uptoBulkAll]
 |cons x r ih=>have:=bulk_one x;simp only[Rows.uptoBulkAll,List.length_cons];omega
theorem bulk_bound{H:Type}{l:List (DataW H)}(hk:Rows.uptoSmall H l=true):Rows.uptoBulkAll l≤1048576:=of_decide_eq_true hk
theorem bulk_mem{H:Type}:∀{l:List (DataW H)} {d:DataW H},d∈l→Rows.uptoBulk d≤Rows.uptoBulkAll l
 |x::l,d,hd=>by
  rw[Rows.uptoBulkAll]
  rcases List.mem_cons.1 hd with rfl|hd
  ·omega
  ·have:=bulk_mem hd;omega
theorem open_node_bk{H:Type}{enc:TypeId×Value→H}{w:World}{base:Nat}{sp:Nat→Bool}{held:Bool}:∀(fuel:Nat) {cs:List Value} {x:DataW H×List MemPlace},
  DataW.trod enc prog w base sp held fuel 32 cs=some x→Rows.uptoBulk x.1≤1048576→∃(n:NV) (t:Tr),cs=nvL n∧NodeC w n t∧smT t:=by
 intro fuel
 induction fuel using Nat.strongRecOn with
 |_ fuel ih=>
  intro cs x h hwt
  obtain⟨xs,m,rfl,hx,hl,hxl,hall⟩:=DataW.trod_struct underlying32 h
  rw[cellsN]at hl
  obtain⟨v0,v1,v2,v3,v4,v5,v6,v7,rfl⟩:=eight hl
  obtain⟨x0,x1,x2,x3,x4,x5,x6,x7,rfl⟩:=eight (show xs.length=8 from hxl)
  obtain⟨a0,e0⟩:=one_cell (hall 0 _ rfl)
  obtain⟨a3,e3⟩:=one_cell (hall 3 _ rfl)
  obtain⟨a4,e4⟩:=one_cell (hall 4 _ rfl)
  obtain⟨a5,e5⟩:=one_cell (hall 5 _ rfl)
  obtain⟨a6,e6⟩:=one_cell (hall 6 _ rfl)
  obtain⟨a7,e7⟩:=bool_cell (hall 7 _ rfl)
  simp at e0 e3 e4 e5 e6 e7
  subst e0 e3 e4 e5 e6 e7
  have h1:DataW.trod enc prog w base sp held m 29 [v1]=some x1:=by
   have:=hall 1 _ rfl
   simpa[cellsSet]using this
  have h2:DataW.trod enc prog w base sp held m 30 [v2]=some x2:=by
   have:=hall 2 _ rfl
   simpa[cellsKids]using this
  have hw2:Rows.uptoBulk x2.1≤1048576:=by
   rw[hx]at hwt
   simp only[List.map_cons,List.map_nil,Rows.uptoBulk,Rows.uptoBulkAll]at hwt
   omega
  obtain⟨sa,sl,sc,rfl⟩:∃a l c,v1=.slice a l c:=by
   rcases DataW.trod_slice underlying29 h1 with⟨hcs,_⟩|⟨a,len,cap,elems,rest,n,_,hcs,_⟩
   ·cases hcs;exact⟨_,_,_,rfl⟩
   ·cases hcs;exact⟨_,_,_,rfl⟩
  obtain⟨L,hL⟩:=open_ranges h1
  rcases DataW.trod_slice underlying30 h2 with⟨hcs,_⟩|⟨a,len,cap,elems,rest,k,hk,hcs,hx2,_,hlc,hm,hlen,hel,_⟩
  ·cases hcs
   exact⟨⟨a0,sa,sl,sc,none,0,0,a3,a4,a5,a6,a7⟩,_,rfl,.mk _ L [] (fun _=>⟨0,none,0,0,none,0,0,0,0,0,0,false⟩) hL (.inl ⟨rfl,rfl,rfl,rfl⟩) (fun j hj=>by simp at hj),⟨by simp,trivial⟩⟩
  ·cases hcs
   have hw3:Rows.uptoBulkAll (elems.map (·.1))≤1048576:=by
    rw[hx2]at hw2
    simp only[Rows.uptoBulk]at hw2
    omega
   obtain⟨K,h3,h4⟩:=list_of' (α:=NV×Tr) (n:=len) (P:=fun i r=>NCells w (a.add (i*8)) r.1∧NodeC w r.1 r.2∧smT r.2) (fun i hi=>by
    have hE:=hel i hi
    rw[cellsN,List.getElem?_eq_getElem (by omega)]at hE
    simp only[Option.bind_eq_some_iff]at hE
    obtain⟨cs,hcs,ht⟩:=hE
    obtain⟨n,t,rfl,hn,hs⟩:=ih k (by omega) ht (Nat.le_trans (bulk_mem (List.mem_map.2 ⟨_,List.getElem_mem _,rfl⟩)) hw3)
    exact⟨(n,t),ncells_of hcs,hn,hs⟩)
   refine⟨⟨a0,sa,sl,sc,some a,len,cap,a3,a4,a5,a6,a7⟩,_,rfl,.mk _ L (K.map (·.2)) (fun j=>(K.getD j (⟨0,none,0,0,none,0,0,0,0,0,0,false⟩,.mk 0 0 0 0 0 false [] [])).1) hL (.inr ⟨a,rfl,by simp[h3],⟨by simp[h3];exact hlc,by have:=hm;unfold maxLen at this;omega⟩,fun j hj=>?_⟩) (fun j hj=>?_),?_⟩
   ·have hj':j<K.length:=by simpa using hj
    have:=(h4 j hj').1
    simpa[List.getD,hj']using this
   ·have hj':j<K.length:=by simpa using hj
    have:=(h4 j hj').2.1
    simpa[List.getD,hj']using this
   ·rw [smT_kids]
    refine⟨?_,smL_of (fun u hu=>?_)⟩
    ·show (K.map (·.2)).length≤_
     have:=bulk_len (elems.map (·.1))
     rw[List.length_map]at this ⊢
     omega
    ·obtain ⟨r,hr,rfl⟩:=List.mem_map.1 hu
     obtain⟨i,hi,rfl⟩:=List.getElem_of_mem hr
     exact(h4 i hi).2.2
theorem cellsP:Tryz.prog.cellsOf 35=10:=by kernel_rfl
theorem cellsNm:Tryz.prog.cellsOf 70=2:=by kernel_rfl
theorem cellsNs:Tryz.prog.cellsOf 33=1:=by kernel_rfl
theorem cells9:Tryz.prog.cellsOf 9=1:=by kernel_rfl
theorem name_cells{H:Type}{enc:TypeId×Value→H}{w:World}{base:Nat}{sp:Nat→Bool}{held:Bool}{fuel:Nat}{cs:List Value}{x:DataW H×List MemPlace}
  (h:DataW.trod enc prog w base sp held fuel 70 cs=some x):∃(a:ByteArray) (b:Int),cs[0]? =some (.string a)∧cs[1]? =some (.int .i64 b)∧a.size≤Rows.uptoBulk x.1:=by
 obtain⟨xs,n,rfl,hx,hl,hxl,hall⟩:=DataW.trod_struct underlying70 h
 have hxl':xs.length=2:=hxl
 obtain⟨x0,x1,rfl⟩:∃x0 x1,xs=[x0,x1]:=by
  match xs,hxl' with
  |[x0,x1],_=>exact⟨x0,x1,rfl⟩
 obtain⟨b,hb⟩:=one_cell (hall 1 _ rfl)
 have h0:DataW.trod enc prog w base sp held n 9 ((cs.drop 0).take (Tryz.prog.cellsOf 9))=some x0:=hall 0 _ rfl
 rw[cells9]at h0
 obtain⟨z,hz,hx0,_⟩:=DataW.trod_string underlying9 h0
 refine⟨z,b,at_of_take hz,hb,?_⟩
 rw[hx]
 simp only[List.map_cons,List.map_nil,Rows.uptoBulk,Rows.uptoBulkAll,hx0]
 have:z.data.toList.length=z.size:=Array.length_toList
 omega
theorem open_names{H:Type}{enc:TypeId×Value→H}{w:World}{base:Nat}{sp:Nat→Bool}{held:Bool}{fuel:Nat}{v:Value}{x:DataW H×List MemPlace}
  (h:DataW.trod enc prog w base sp held fuel 33 [v]=some x) (hk:Rows.uptoBulk x.1≤1048576):∃N,NamesC w v N∧∀i,i<N.length→(ntx N i).size≤1048576:=by
 rcases DataW.trod_slice underlying33 h with⟨hcs,_⟩|⟨a,len,cap,elems,rest,n,_,hcs,hx,_,hl,hm,hlen,hel,_⟩
 ·cases hcs
  exact⟨[],.inl ⟨rfl,rfl⟩,fun i hi=>by simp at hi⟩
 ·cases hcs
  have hw3:Rows.uptoBulkAll (elems.map (·.1))≤1048576:=by
   rw[hx]at hk
   simp only[Rows.uptoBulk]at hk
   omega
  obtain⟨L,h1,h2⟩:=list_of' (α:=ByteArray×Int) (n:=len) (P:=fun i r=>(w.cell? (a.add (i*2))=some (.string r.1)∧w.cell? ⟨(a.add (i*2)).block,(a.add (i*2)).off+1,none⟩=some (.int .i64 r.2))∧r.1.size≤1048576) (fun i hi=>by
   have hE:=hel i hi
   rw[cellsNm,List.getElem?_eq_getElem (by omega)]at hE
   simp only[Option.bind_eq_some_iff]at hE
   obtain⟨cs,hcs,ht⟩:=hE
   obtain⟨u,v,rfl,hu,hv⟩:=cells_two hcs
   obtain⟨p,q,hp,hq,hz⟩:=name_cells ht
   simp at hp hq
   exact⟨(p,q),⟨by rw[hu,hp],by rw[hv,hq]⟩,Nat.le_trans hz (Nat.le_trans (bulk_mem (List.mem_map.2 ⟨_,List.getElem_mem _,rfl⟩)) hw3)⟩)
  refine⟨L,.inr ⟨a,cap,by rw[h1],⟨by omega,by have:=hm;unfold maxLen at this;omega⟩,fun j hj=>(h2 j hj).1⟩,fun i hi=>?_⟩
  rw[ntx_at hi]
  exact(h2 i hi).2
abbrev patL(n:NV)(g:Int)(na:Option Addr)(nl nc:Nat):List Value:=[.int .i64 n.kind,.slice n.sa n.sl n.sc,.slice n.ka n.kl n.kc,.int .i64 n.num,.int .i64 n.least,.int .i64 n.most,.int .i64 n.way,.bool n.fold,.int .i64 g,.slice na nl nc]
theorem ten{α:Type}{cs:List α}(h:cs.length=10):∃a b c d e f g i j k,cs=[a,b,c,d,e,f,g,i,j,k]:=by
 match cs,h with
 |[a,b,c,d,e,f,g,i,j,k],_=>exact⟨a,b,c,d,e,f,g,i,j,k,rfl⟩
theorem open_pattern{H:Type}{enc:TypeId×Value→H}{w:World}{base:Nat}{sp:Nat→Bool}{held:Bool}{fuel:Nat}{cs:List Value}{x:DataW H×List MemPlace}
  (h:DataW.trod enc prog w base sp held fuel 35 cs=some x) (hk:Rows.uptoBulk x.1≤1048576):∃(n:NV) (t:Tr) (g:Int) (na:Option Addr) (nl nc:Nat) (N:NmL),cs=patL n g na nl nc∧NodeC w n t∧smT t∧NamesC w (.slice na nl nc) N∧∀i,i<N.length→(ntx N i).size≤1048576:=by
 obtain⟨xs,m,rfl,hx,hl,hxl,hall⟩:=DataW.trod_struct underlying35 h
 rw[cellsP]at hl
 obtain⟨v0,v1,v2,v3,v4,v5,v6,v7,v8,v9,rfl⟩:=ten hl
 have hxl':xs.length=3:=hxl
 obtain⟨x0,x1,x2,rfl⟩:∃x0 x1 x2,xs=[x0,x1,x2]:=by
  match xs,hxl' with
  |[x0,x1,x2],_=>exact⟨x0,x1,x2,rfl⟩
 rw[hx]at hk
 simp only[List.map_cons,List.map_nil,Rows.uptoBulk,Rows.uptoBulkAll]at hk
 have h0:DataW.trod enc prog w base sp held m 32 [v0,v1,v2,v3,v4,v5,v6,v7]=some x0:=by
  have:=hall 0 _ rfl
  simpa[cellsN]using this
 obtain⟨g,eg⟩:=one_cell (hall 1 _ rfl)
 simp at eg
 have h2:DataW.trod enc prog w base sp held m 33 [v9]=some x2:=by
  have:=hall 2 _ rfl
  simpa[cellsNs]using this
 obtain⟨n,t,hc,hn,hs⟩:=open_node_bk m h0 (by omega)
 obtain⟨N,hN,hz⟩:=open_names h2 (by omega)
 obtain⟨na,c,rfl⟩:=hN.shape
 refine⟨n,t,g,na,N.length,c,N,?_,hn,hs,hN,hz⟩
 rw[eg]
 simp only[nvL,List.cons.injEq,_root_.and_true]at hc
 obtain⟨rfl,rfl,rfl,rfl,rfl,rfl,rfl,rfl⟩:=hc
 rfl
end Go.Proofs.YtfnndcbjklppeaaGreatDoor
namespace Go.Proofs.YtfnndcbjklppeaaGreatDoor
open Go.RowKit
theorem make_form{t:Tr}{g:Int}{N:NmL}{w w':World}{e:Ending}(h:Mk.MakeE t g N w e w'):∃z,BehE t g N z∧Below w.heap.size w w'∧∃(oa:Option Addr) (ol oc:Nat) (g1 c1:Int),e=.returned (.tuple #[prV oa ol oc g1 c1,.int .i64 z])∧((z≠0∧ol=0∧g1=0∧c1=0)∨(z=0∧g1=g∧∃L,OpsC w' oa ol oc L∧progE ol g c1 L=0)):=by
 obtain⟨z,hz,hb,⟨h0,he⟩|⟨h0,oa,oc,L,he,hO,hL⟩⟩:=h
 ·exact⟨z,hz,hb,none,0,0,0,0,he,.inl ⟨h0,rfl,rfl,rfl⟩⟩
 ·subst h0
  obtain⟨h1,h2,h3,h4⟩:=Mk.beh_zero hz
  exact⟨0,hz,hb,oa,_,oc,g,_,he,.inr ⟨rfl,rfl,L,hO,Mk.made_passes h1 h3 h2 h4 hO hL⟩⟩
theorem codeMakes_walk(n:NV)(t:Tr)(g:Int)(na:Option Addr)(nl nc:Nat)(N:NmL)(w:World)(h:NodeC w n t)(hsm:smT t)(hN:NamesC w (.slice na nl nc) N)(hnz:∀i,i<N.length→(ntx N i).size≤1048576):Calls prog 4 #[patNV n g na nl nc] w fun e w'=>e=.returned (.bool true)∧Below w.heap.size w w':=by
 obtain⟨W,hW⟩:=named (w.alloc (patNO n g na nl nc))
 have hbW:Below w.heap.size w W:=by rw[hW];exact allocB _ _
 obtain⟨P,hP⟩:=named w.heap.size
 have hx:W.heap[P]? =some (patNO n g na nl nc):=by rw[hW,hP];exact at_new _ _
 have HM:=hide (Mk.make_any n t g na nl nc N W (h.keep hbW) (hN.below hbW))
 have HQ:=hide (fun X (hX:Below w.heap.size w X)=>checkBehind_any h hsm g na nl nc N X hX (hN.below hX) hnz)
 have HBg:=hide (fun X=>Vm.begun_ab X)
 have HB:=hide hbW
 have HX:=hide hx
 obtain⟨⟨d0,d1,d2,d3,d4,d5,d6,d7⟩,d8,d9⟩:=patN_cells hx
 simp only[patNO]at hW
 simp only[patNV]at HM HQ ⊢
 clear h hsm hN hnz hbW hx
 go_enter func4,ntmps4
 go_upto_region 1 with fail
 rw[← hW, ←hP]
 clear hW hP
 go_wp2_with fail
 refine HM.out.mono ?_
 rintro e w1 hE
 obtain⟨z,hz,hb1,oa,ol,oc,g1,c1,rfl,hF⟩:=make_form hE
 clear hE HM d0 d1 d2 d3 d4 d5 d6 d7 d8 d9
 obtain⟨W2,hW2⟩:=named (w1.alloc (prO oa ol oc g1 c1))
 have hb2:Below w1.heap.size w1 W2:=by rw[hW2];exact allocB _ _
 obtain⟨M,hM⟩:=named w1.heap.size
 have hp2:W2.heap[M]? =some (prO oa ol oc g1 c1):=by rw[hW2,hM];exact at_new _ _
 have hx2:=below_at hb2 (below_at hb1 HX.out)
 have hB1:=HB.out.andT hb1
 have HB2:=hide (hB1.andT hb2)
 have HZ:=hide hz
 have HF:Hid ((z≠0∧ol=0∧g1=0∧c1=0)∨(z=0∧g1=g∧∃L,OpsC W2 oa ol oc L∧progE ol g c1 L=0)):=by
  rcases hF with h|⟨h1,h2,L,h3,h4⟩
  ·exact .inl h
  ·exact .inr ⟨h1,h2,L,h3.below hb2,h4⟩
 obtain⟨⟨d0,d1,d2,d3,d4,d5,d6,d7⟩,d8,d9⟩:=patN_cells hx2
 have HX2:=hide hx2
 have HP2:=hide hp2
 have HC:=hide (HQ.out W2 HB2.out)
 simp only[prO]at hW2
 clear hz hF hb1 hb2 hp2 hx2 hB1 HB HX HQ
 simp only[prV]
 go_upto_region 2 with fail
 rw[← hW2, ←hM]
 clear hW2 hM
 go_wp2_with fail
 refine HC.out.mono ?_
 rintro e w3 ⟨z',hz',rfl,hb3⟩
 have hzz:=hz'.one HZ.out
 subst hzz
 clear HC hz' HZ d0 d1 d2 d3 d4 d5 d6 d7 d8 d9
 have HB3:=hide (HB2.out.andT hb3)
 have HX3:=hide (below_at hb3 HX2.out)
 have HP3:=hide (below_at hb3 HP2.out)
 have HF3:Hid ((z'≠0∧ol=0∧g1=0∧c1=0)∨(z'=0∧g1=g∧∃L,OpsC w3 oa ol oc L∧progE ol g c1 L=0)):=by
  rcases HF.out with h|⟨h1,h2,L,h3,h4⟩
  ·exact .inl h
  ·exact .inr ⟨h1,h2,L,h3.below hb3,h4⟩
 have HC:=hide (HBg.out w3)
 clear hb3 HB2 HX2 HP2 HF
 go_wp2_with fail
 refine HC.out.mono ?_
 rintro e w4 ⟨rfl,hb4⟩
 clear HC
 have HB4:=hide (HB3.out.andT hb4)
 have hX4:=below_at hb4 HX3.out
 have hP4:=below_at hb4 HP3.out
 rcases HF3.out with⟨h0,rfl,rfl,rfl⟩|⟨rfl,rfl,L,hO,hL⟩
 ·have b1:(z'==z')=true:=by simp
  have b2:(z'==0)=false:=by simpa using h0
  have b3:(z' !=z')=false:=by simp
  have b4:(z' !=0)=true:=by simpa using h0
  have HP4:=hide hP4
  have HC:=hide (HBg.out w4)
  clear h0 hb4 hX4 hP4 HF3 HB3 HX3 HP3 HBg
  go_wp2_with fail
  refine HC.out.mono ?_
  rintro e w5 ⟨rfl,hb5⟩
  have HB5:=hide (HB4.out.andT hb5)
  obtain⟨y0,y1,y2⟩:=pr_cells (below_at hb5 HP4.out)
  clear HC hb5 HB4 HP4
  go_wp2
  go_ret
  exact⟨by first|rfl|simp,HB5.out⟩
 ·have HO4:=hide (hO.below hb4)
  have HC:=hide (checkProgram_any oa ol oc g1 c1 L w4 HO4.out)
  rw[hL]at HC
  simp only[prV]at HC
  have HL:=hide hL
  have HX4:=hide hX4
  have HP4:=hide hP4
  obtain⟨y0,y1,y2⟩:=pr_cells hP4
  clear hb4 hX4 hP4 HF3 HB3 HX3 HP3 HBg hO hL
  go_wp2_with fail
  refine HC.out.mono ?_
  rintro e w5 ⟨rfl,hb5⟩
  have HB5:=hide (HB4.out.andT hb5)
  have HC:=hide (codeCheck_any oa ol oc g1 c1 L w5 (HO4.out.below hb5))
  rw[HL.out]at HC
  simp only[prV]at HC
  clear y0 y1 y2
  obtain⟨y0,y1,y2⟩:=pr_cells (below_at hb5 HP4.out)
  obtain⟨-,d8, -⟩:=patN_cells (below_at hb5 HX4.out)
  clear hb5 HB4 HP4 HX4 HO4 HL
  go_wp2_with fail
  refine HC.out.mono ?_
  rintro e w6 ⟨rfl,hb6⟩
  have HB6:=hide (HB5.out.andT hb6)
  clear HC hb6 HB5 y0 y1 y2 d8
  go_wp2
  go_ret
  exact⟨by first|rfl|simp,HB6.out⟩
end Go.Proofs.YtfnndcbjklppeaaGreatDoor
