import Derived.Test.YtklbbbldalmnbaaGreatDoorKO
import Derived.Test.YtklbbbldalmnbaaGreatDoorKQ
import Derived.Test.YtklbbbldalmnbaaGreatDoorKN
import Derived.Test.YtklbbbldalmnbaaGreatDoorKA
set_option maxHeartbeats 2000000
set_option maxRecDepth 100000
set_option linter.unusedVariables false
open Go.Proofs.Tryz
namespace Go.Proofs.YtklbbbldalmnbaaGreatDoor
open Go.RowKit
theorem vR{w:World}{x:Addr}{L:RL}(h:jn w x L):∀j u,(aQ L)[j]? =some u->w.cell? (x.add j)=some u:=by
 intro j u hj
 have hlt:j<(aQ L).length:=(List.getElem?_eq_some_iff.1 hj).1
 rw[eI]at hlt
 obtain⟨c1,c2⟩:=h (j / 2) (by omega)
 obtain⟨d1,d2⟩:=jU L (j / 2) (by omega)
 rcases(show j % 2=0\/j % 2=1 from by omega)with hm|hm
 ·have e:j / 2*2=j:=by omega
  rw[e]at c1 d1
  rw[hj]at d1
  rw[c1, <-d1]
 ·have e:j / 2*2+1=j:=by omega
  rw[e,hj]at d2
  have e2:x.add j=⟨(x.add (j / 2*2)).block,(x.add (j / 2*2)).off+1,none⟩:=by
   unfold Addr.add
   rw[if_neg (by omega)]
   split
   ·rename_i h0;first|(simp;omega)|simp_all
   ·first|(simp;omega)|simp
  rw[e2,c2, <-d2]
theorem qt(L:RL):∀u∈aQ L,u.oneCell'=true:=by
 intro u hu
 unfold aQ at hu
 rw[List.mem_flatMap]at hu
 obtain⟨r,_,hu⟩:=hu
 simp[um]at hu
 rcases hu with rfl|rfl<;>rfl
theorem C0(w:World):(w.alloc (.cells #[] 76)).ownsRow w.heap.size 76 2 (.slice (some ⟨w.heap.size,0,none⟩) 0 0) 0 []:=by
 have h:=World.ownsRow_lit (base:=w.heap.size) (e:=76) (size:=2) w #[] 0 (by simp) (by unfold maxLen;omega) (by simp)
 simpa using h
theorem B7(v:Value)(L:RL)(w:World)(hv:Reads w v L)(hl:L.length<=400000000):Calls prog 146 #[v] w fun e w'=>∃v',e=.returned v'/\w'.ownsRow w.heap.size 76 2 v' L.length (aQ L)/\Below w.heap.size w w':=by
 obtain⟨i0,hi,hz0,hz1,hz2⟩:=info_parts wK
 have nil0:∀W,(binOp .eql 22 (.slice none 0 0) (.slice none 0 0)).run prog W=.ok (.bool true) W:=fun W=>rfl
 have nil1:∀a n c W,(binOp .eql 22 (.slice (some a) n c) (.slice none 0 0)).run prog W=.ok (.bool false) W:=fun a n c W=>rfl
 rcases hv with⟨rfl,rfl⟩|⟨x,c,rfl,hc⟩
 ·go_enter func146,ntmps146
  go_wp2
  go_ret
  exact⟨_,rfl,World.ownsRow_nil _ _ _ _,aI _ _⟩
 ·have HC:=I hc
  clear hc
  obtain⟨n,hn⟩:=J L.length
  have hcl:=eI L
  rw[<- hn]at hl hcl |-
  have HCL:=I hcl
  clear hn hcl
  have hb0:Hid (Below w.heap.size w (w.alloc (.cells #[] 76))):=an w _
  go_enter func146,ntmps146
  go_wp2_with (at_builtin;refine wpList_append_own _ rfl _ _ 22 rfl w.heap.size 76 i0 (.agg #[.int .i64 0,.int .i64 0]) 2 16 underlying22 hi hz0 hz1 hz2 rfl (by decide) _ 0 [] rfl (C0 w) x n c (aQ L) rfl HCL.o (vR (HC.o.below hb0.o)) (qt L) (by unfold maxLen;omega) (by omega) (by simp) ?_)
  intro v' w3 hown' hgrow _
  have HO3:=I hown'
  have hb3:=I (hb0.o.grown hgrow (by simp) (fun k hk=>by simp[Value.ownBlock]at hk;omega))
  clear hown' hgrow
  go_wp2
  go_ret
  exact⟨_,rfl,HO3.o,hb3.o⟩
theorem qK(S:RL)(k:Nat)(hk:k<S.length):(S.take (k+1)).foldl bM []=bM ((S.take k).foldl bM []) S[k]:=by
 rw[List.take_add_one,List.getElem?_eq_getElem hk,List.foldl_append]
 rfl
theorem kZ(S:RL)(k:Nat):((S.take k).foldl bM []).length<=k:=by
 induction k with
 |zero=>simp
 |succ k ih=>
  by_cases h:k<S.length
  ·rw [qK S k h]
   have:=uE ((S.take k).foldl bM []) S[k]
   omega
  ·rw [List.take_of_length_le (by omega)]at ih |-
   omega
theorem wE{S:RL}(hok:∀r∈S,eH r)(hs:S.Pairwise (fun a b=>a.1<=b.1))(k:Nat):Canon ((S.take k).foldl bM []):=by
 have:=tq (S:=S.take k) (fun r hr=>hok r (List.mem_of_mem_take hr)) (hs.sublist (List.take_sublist k S))
 exact this.1
theorem nF(B:Nat)(v:Value)(l:RL)(w:World)(hl:l.length<=400000000)(hok:∀r∈l,eH r)(hown:w.ownsRow B 76 2 v l.length (aQ l))(hB:B<=w.heap.size):
  Calls prog 150 #[v] w fun e w'=>∃v' O,e=.returned v'/\w'.ownsRow B 76 2 v' O.length (aQ O)/\bq (ins l) O/\O.length<=l.length/\Below B w w':=by
 have HS:=I (Dv B v l w hl (fun x hx=>by have:=hok x hx;unfold eH at this;omega) hown hB)
 have HOK:=I hok
 obtain⟨ao,c,hvs⟩:=aG hown
 obtain⟨n,hn⟩:=J l.length
 have HN:=I hn
 rw[<- hn]at hvs hl
 rw[hvs]at HS |-
 clear hok hown hn hvs
 go_enter func150,ntmps150
 go_wp2_with fail
 refine HS.o.mono ?_
 rintro e w2 ⟨rfl,S,hp,hs,ho2,hb2⟩
 have hSl:S.length=n:=by rw[hp.length_eq];exact HN.o.symm
 have hokS:∀r∈S,eH r:=fun r hr=>HOK.o r (hp.mem_iff.1 hr)
 have HSP:=I hp
 have HSS:=I hs
 have HO2:=I ho2
 have HKS:=I hokS
 have HSL:=I hSl
 have HB2:=I hb2
 clear HS hp hs ho2 hokS hSl hb2
 go_wp2
 go_loopw [3,10] (fun v i wr=>∃k:Nat,k<=n/\i=.int .i64 k/\wr.ownsRow w2.heap.size 76 2 v ((S.take k).foldl bM []).length (aQ ((S.take k).foldl bM []))/\Below w2.heap.size w2 wr) (fun _ i _=>n - (intOf i).toNat)
 case atStart=>exact⟨0,Nat.zero_le _,rfl,World.ownsRow_nil _ _ _ _,aI _ _⟩
 case round=>
  obtain⟨k,hk,rfl,ho,hbl⟩:=hrel
  by_cases hlt:k<n
  ·have hkS:k<S.length:=by have:=HSL.o;omega
   have hsrc:=iG (cI HO2.o hbl)
   obtain⟨x,cx,hx,hcx⟩:=hsrc.some (by omega)
   obtain⟨rfl⟩:ao=some x:=by cases hx;rfl
   obtain⟨c1,c2⟩:=hcx k hkS
   have hfs:=I (qK S k hkS)
   have hcan:=wE HKS.o HSS.o k
   have hOlen:=kZ S k
   have hr:=HKS.o S[k] (List.getElem_mem _)
   obtain⟨r,hr'⟩:=J (S[k])
   rw[<- hr']at c1 c2 hfs hr
   obtain⟨O,hO⟩:=J ((S.take k).foldl bM [])
   rw[<- hO]at ho hOlen hcan hfs
   obtain⟨a,b⟩:=r
   simp only at c1 c2
   obtain⟨ao',c',rfl⟩:=aG ho
   have hBw:w2.heap.size<=wr.heap.size:=hbl.size
   have HAdd:=I (jO w2.heap.size _ O a b (wr.alloc (.cells #[.int .i64 a,.int .i64 b] 76)) (by simp;omega) (fun x hx=>by have:=hcan.1 x hx;unfold eH at this;omega) (by have hOc:=ou hcan 1114112 (by omega) (fun x hx=>by have:=hcan.1 x hx;unfold eH at this;omega);omega) (ho.alloc _))
   have HBL:=I hbl
   clear hcan hr hr' hO ho hx hcx hsrc hbl hOlen
   go_wp2_with fail
   refine HAdd.o.mono ?_
   rintro e w3 ⟨v',rfl,ho3,hb3⟩
   have HO3:=I ho3
   obtain⟨ao'',c'',hv''⟩:=aG ho3
   rw[hv'']at HO3 |-
   clear ho3 hv''
   go_wp2
   go_roundw
   case rel=>exact⟨k+1,by omega,by go_num,by rw[hfs.o];exact HO3.o,(HBL.o.alloc hBw _).trans hb3⟩
   case measure=>simp[intOf];omega
  ·have hkn:k=n:=by omega
   subst hkn
   have hfull:S.take k=S:=List.take_of_length_le (by have:=HSL.o;omega)
   rw[hfull]at ho
   have HO:=I ho
   obtain⟨j1,j2⟩:=tq HKS.o HSS.o
   have hset:Hid (bq (ins l) (tp S)):=fD (qO j1) fun q _ _=>by rw[j2,qM HSP.o]
   have hlen:Hid ((tp S).length<=l.length):=by
    have:=kZ S k
    rw[hfull]at this
    show(S.foldl bM []).length<=_
    have:=HN.o
    omega
   obtain⟨ao',c',rfl⟩:=aG ho
   have HBL:=I hbl
   clear ho j1 j2 hbl
   go_wp2
   go_ret
   exact⟨_,tp S,rfl,jE HO.o (Nat.le_trans hB HB2.o.size),hset.o,hlen.o,HB2.o.trans (HBL.o.mono (Nat.le_trans hB HB2.o.size))⟩
theorem gw{B:Nat}{w:World}{v:Value}{n:Nat}{xs:List Value}(h:w.ownsRow B 76 2 v n xs){k:Nat}{o:Obj}(hk:w.heap[k]? =some o)(ho:∀cs fr,o≠.cells cs 76 fr):some k≠v.ownBlock:=by
 intro e
 rcases h.2 with⟨rfl,_⟩|⟨g,cap,cur,rfl,_,hh,_⟩
 ·simp[Value.ownBlock]at e
 ·simp [Value.ownBlock]at e
  rw[<- e,hk]at hh
  exact ho _ _ (by simpa using hh)
theorem qi{B:Nat}{w w':World}{v:Value}{n:Nat}{xs:List Value}(hown:w.ownsRow B 76 2 v n xs)(hB:B<=w.heap.size){o:Obj}(hg:(w.alloc o).grownBy w' v.ownBlock):Below B w w':=
 ((aI B w).alloc hB o).grown hg (by simp;omega) (fun k hk=>(hown.lt k hk).1)
theorem KU(B b:Nat)(hBb:B<=b)(v:Value)(L:List (Int×Int))(p q:Int)(w:World)(hbox:w.heap[b]? =some (.cells #[v] 22 (0,0)))(hown:w.ownsRow B 76 2 v L.length (aQ L))(hn:L.length<=3000)(hB:B<=w.heap.size):
  Calls prog 152 #[.int .i64 p,.int .i64 q,.pointer (some ⟨b,0,none⟩)] w fun e w'=>e=.returned (.tuple #[])/\(∃v',w'.heap[b]? =some (.cells #[v'] 22 (0,0))/\w'.ownsRow B 76 2 v' (L.length+1) (aQ (L++[(p,q)])))/\Below B w w'/\Fo.bd w w':=by
 obtain⟨i0,hi,hz0,hz1,hz2⟩:=info_parts wK
 have hlt:b<w.heap.size:=lt_of_block hbox
 have hcb:=cell_of_one hbox
 have hfb:=free_of_one hbox
 have HB:=I hbox
 have HO:=I hown
 have hE:Hid (aQ (L++[(p,q)])=aQ L++[.int .i64 p,.int .i64 q]):=by show _=_;rw[eB];rfl
 clear hbox
 obtain⟨ao,c,rfl⟩:=aG hown
 clear hown
 go_enter func152,ntmps152
 go_wp2_with (at_builtin;refine wpList_append_own _ rfl _ _ 22 rfl B 76 i0 (.agg #[.int .i64 0,.int .i64 0]) 2 16 underlying22 hi hz0 hz1 hz2 rfl (by decide) _ _ _ rfl (HO.o.alloc _) ⟨w.heap.size,0,none⟩ 1 1 [.int .i64 p,.int .i64 q] rfl rfl (jV _ _ (by simp) p q) (pX p q) (by unfold maxLen;omega) (by omega) (by simp;omega) ?_)
 intro v' w2 hown' hgrow _
 have hob:=gw HO.o HB.o (by simp)
 have hb2:w2.heap[b]? =some (.cells #[.slice ao L.length c] 22 (0,0)):=by
  rw[hgrow.block b (by simp;omega) hob,Below.heap_alloc _ _ _ hlt];exact HB.o
 have hc2:=cell_of_one hb2
 have hf2:=free_of_one hb2
 obtain⟨ao',c',hv'⟩:=aG hown'
 have HG:=I hgrow
 have HO2:=I hown'
 have HB2:=I hb2
 clear hgrow hown' hb2 hcb hfb
 rw[hv']at HO2
 rw[hv']
 clear hv'
 go_wp2
 go_end0
 have hb3:=one_setCell (u:=.slice ao' (L.length+1) c') HB2.o
 have hne:(Value.slice ao' (L.length+1) c').ownBlock≠some b:=fun e=>gw HO2.o HB2.o (by simp) e.symm
 refine⟨rfl,⟨_,hb3,by rw[hE.o];exact ownsRow_setCell_other HO2.o hne _⟩,(qi HO.o hB HG.o).setCell hBb _,?_⟩
 intro k cs hk
 have hkb:k≠b:=fun e=>by
  subst e
  have:=HB.o
  rw[hk]at this
  simp at this
 rw[Below.heap_setCell _ _ _ _ hkb,HG.o.block k (by have:=lt_of_block hk;simp;omega) (gw HO.o hk (by simp)),Below.heap_alloc _ _ _ (lt_of_block hk)]
 exact hk
def Kq(w0:World)(L:List (Int×Int))(w:World):Prop:=
 (∃v,w.heap[w0.heap.size]? =some (.cells #[v] 22 (0,0))/\w.ownsRow w0.heap.size 76 2 v L.length (aQ L))/\Below w0.heap.size w0 w
theorem Ep(args:Array Value)(w:World):(callFunc 152 args).run prog w=.ok (.enter 152 args) w:=enters_of func152 (by kernel_rfl) rfl args w
theorem Gc(w0:World):Fo.eY 152 #[.pointer (some ⟨w0.heap.size,0,none⟩)] (Kq w0) where
 enters:=fun args w=>Ep args w
 take:=fun L a b w hl h=>by
  obtain⟨⟨v,h1,h2⟩,h3⟩:=h
  refine(KU w0.heap.size w0.heap.size (ai _) v L a b w h1 h2 (by omega) h3.size).mono ?_
  rintro e w' ⟨rfl,⟨v',g1,g2⟩,hb,hk⟩
  exact⟨rfl,⟨⟨v',g1,by rw[List.length_append,List.length_singleton];exact g2⟩,h3.trans hb⟩,hb.size,hk⟩
 below:=fun L w w' h hb=>by
  obtain⟨⟨v,h1,h2⟩,h3⟩:=h
  exact⟨⟨v,by rw[hb.block _ (lt_of_block h1)];exact h1,cI h2 hb⟩,h3.aq hb⟩
theorem qN(w:World):Kq w [] (w.alloc (.cells #[.slice none 0 0] 22)):=
 ⟨⟨_,heap_alloc_new w _,World.ownsRow_nil _ _ _ _⟩,an w _⟩
theorem DY:∀r∈Fo.dq,eH r:=by
 have:Fo.dq.all okB=true:=by decide +kernel
 intro r hr
 exact(iu r).1 (List.all_eq_true.1 this r hr)
theorem sN:Fo.dq.length=13:=by decide +kernel
theorem vU(w:World):Calls prog 139 #[.string ⟨#[97,108,112,104,97]⟩] w fun e w'=>∃v O,e=.returned (.tuple #[v,.int .i64 0])/\w'.ownsRow w.heap.size 76 2 v O.length (aQ O)/\bq (ins Fo.dq) O/\O.length<=13/\Below w.heap.size w w':=by
 have H:=I (Fo.oY (Gc w) _ (qN w))
 have hmf:∀(fn:Fn) (first cap:Array Value) (w:World),(Instr.makeFunc fn first cap).run prog w=.ok (.func fn first cap) w:=fun _ _ _ _=>rfl
 go_enter func139,ntmps139
 go_wp2_with fail
 refine H.o.mono ?_
 rintro e w1 ⟨rfl,⟨⟨v,i1,i2⟩,i3⟩,hs,hk⟩
 have HJ:=I (nF w.heap.size v Fo.dq w1 (by rw[sN];omega) DY i2 i3.size)
 have c1:=cell_of_one i1
 have I3:=I i3
 obtain⟨ao0,c0,hv0⟩:=aG i2
 rw[hv0]at HJ c1
 clear hk i1 i2 i3 hs H hv0
 go_wp2_with fail
 refine HJ.o.mono ?_
 rintro e w2 ⟨v2,O,rfl,ho,hset,hle,hb⟩
 obtain⟨ao,cc,hv⟩:=aG ho
 have HO:=I ho
 have HB:=I hb
 have HS:=I hset
 have HL:=I hle
 clear ho hb hset hle
 rw[hv]at HO
 rw[hv]
 clear hv
 go_wp2
 go_ret2
 exact⟨_,_,rfl,HO.o,HS.o,by have:=HL.o;rw[sN]at this;exact this,I3.o.trans HB.o⟩
end Go.Proofs.YtklbbbldalmnbaaGreatDoor
namespace Go.Proofs.YtklbbbldalmnbaaGreatDoor.Br
open Go.RowKit
def names:List ByteArray:=[Fo.uO,Fo.ra,Fo.re,Fo.nJ,Fo.lS,Fo.rb,Fo.nK,Fo.ri,Fo.qZ,Fo.rj,Fo.rh,Fo.qY,Fo.pK,Fo.rf]
theorem dV{s:ByteArray}{l:List UInt8}(h:s≠⟨l.toArray⟩):(s.toList==l)=false:=by
 rw[ByteArray.toList_eq]
 simp only[beq_eq_false_iff_ne,ne_eq]
 intro e
 apply h
 cases s
 rename_i d
 simp only at e
 rw[<- e]
theorem Cf(s:ByteArray)(f:Value)(w:World)(h:s ∉ names):
  Calls prog 151 #[.string s,f] w fun e w'=>e=.returned (.bool false)/\w=w':=by
 have n0:(s.toList==[97,110,121])=false:=dV (fun e=>h (by rw[e];simp[names,Fo.uO]))
 have n1:(s.toList==[97,115,99,105,105])=false:=dV (fun e=>h (by rw[e];simp[names,Fo.ra]))
 have n2:(s.toList==[99,110,116,114,108])=false:=dV (fun e=>h (by rw[e];simp[names,Fo.re]))
 have n3:(s.toList==[100,105,103,105,116])=false:=dV (fun e=>h (by rw[e];simp[names,Fo.nJ]))
 have n4:(s.toList==[120,100,105,103,105,116])=false:=dV (fun e=>h (by rw[e];simp[names,Fo.lS]))
 have n5:(s.toList==[98,108,97,110,107])=false:=dV (fun e=>h (by rw[e];simp[names,Fo.rb]))
 have n6:(s.toList==[115,112,97,99,101])=false:=dV (fun e=>h (by rw[e];simp[names,Fo.nK]))
 have n7:(s.toList==[112,117,110,99,116])=false:=dV (fun e=>h (by rw[e];simp[names,Fo.ri]))
 have n8:(s.toList==[97,108,112,104,97])=false:=dV (fun e=>h (by rw[e];simp[names,Fo.qZ]))
 have n9:(s.toList==[117,112,112,101,114])=false:=dV (fun e=>h (by rw[e];simp[names,Fo.rj]))
 have n10:(s.toList==[108,111,119,101,114])=false:=dV (fun e=>h (by rw[e];simp[names,Fo.rh]))
 have n11:(s.toList==[97,108,110,117,109])=false:=dV (fun e=>h (by rw[e];simp[names,Fo.qY]))
 have n12:(s.toList==[119,111,114,100])=false:=dV (fun e=>h (by rw[e];simp[names,Fo.pK]))
 have n13:(s.toList==[103,114,97,112,104])=false:=dV (fun e=>h (by rw[e];simp[names,Fo.rf]))
 clear h
 go_enter func151,ntmps151
 go_wp2
 go_ret
 exact⟨rfl,rfl⟩
def bO(s:ByteArray):List (Int×Int):=
 if s=Fo.uO then Fo.FK else
 if s=Fo.ra then Fo.xH else
 if s=Fo.re then Fo.xJ else
 if s=Fo.nJ then Fo.xK else
 if s=Fo.lS then Fo.tM else
 if s=Fo.rb then Fo.xI else
 if s=Fo.nK then Fo.xO else
 if s=Fo.ri then Fo.xN else
 if s=Fo.qZ then Fo.dq else
 if s=Fo.rj then Fo.xP else
 if s=Fo.rh then Fo.xM else
 if s=Fo.qY then Fo.xG else
 if s=Fo.pK then Fo.Bd else
 if s=Fo.rf then Fo.xL else
 []
theorem zo(s:ByteArray)(hs:s∈names){caps:Array Value}{Inv:List (Int×Int)->World->Prop}(T:Fo.eY 152 caps Inv)(w:World)(hI:Inv [] w):
  Calls prog 151 #[.string s,.func (.func 152) #[] caps] w fun e w'=>e=.returned (.bool true)/\Inv (bO s) w'/\w.heap.size<=w'.heap.size:=by
 simp only[names,List.mem_cons,List.not_mem_nil,or_false]at hs
 rcases hs with rfl|rfl|rfl|rfl|rfl|rfl|rfl|rfl|rfl|rfl|rfl|rfl|rfl|rfl
 ·exact(Fo.Ce T w hI).mono fun e w' h=>⟨h.1,h.2.1,h.2.2.1⟩
 ·exact(Fo.vZ T w hI).mono fun e w' h=>⟨h.1,h.2.1,h.2.2.1⟩
 ·exact(Fo.wc T w hI).mono fun e w' h=>⟨h.1,h.2.1,h.2.2.1⟩
 ·exact(Fo.we T w hI).mono fun e w' h=>⟨h.1,h.2.1,h.2.2.1⟩
 ·exact(Fo.uj T w hI).mono fun e w' h=>⟨h.1,h.2.1,h.2.2.1⟩
 ·exact(Fo.v8 T w hI).mono fun e w' h=>⟨h.1,h.2.1,h.2.2.1⟩
 ·exact(Fo.wj T w hI).mono fun e w' h=>⟨h.1,h.2.1,h.2.2.1⟩
 ·exact(Fo.wi T w hI).mono fun e w' h=>⟨h.1,h.2.1,h.2.2.1⟩
 ·exact(Fo.oY T w hI).mono fun e w' h=>⟨h.1,h.2.1,h.2.2.1⟩
 ·exact(Fo.wk T w hI).mono fun e w' h=>⟨h.1,h.2.1,h.2.2.1⟩
 ·exact(Fo.wh T w hI).mono fun e w' h=>⟨h.1,h.2.1,h.2.2.1⟩
 ·exact(Fo.vY T w hI).mono fun e w' h=>⟨h.1,h.2.1,h.2.2.1⟩
 ·exact(Fo.zp T w hI).mono fun e w' h=>⟨h.1,h.2.1,h.2.2.1⟩
 ·exact(Fo.wg T w hI).mono fun e w' h=>⟨h.1,h.2.1,h.2.2.1⟩
theorem CJ:∀s∈names,(decide ((bO s).length<=1000)&&(bO s).all okB)=true:=by
 intro s hs
 simp only[names,List.mem_cons,List.not_mem_nil,or_false]at hs
 rcases hs with rfl|rfl|rfl|rfl|rfl|rfl|rfl|rfl|rfl|rfl|rfl|rfl|rfl|rfl<;>decide +kernel
theorem E6{s:ByteArray}(hs:s∈names):(bO s).length<=1000/\∀r∈bO s,eH r:=by
 have:=CJ s hs
 simp only[Bool.and_eq_true,decide_eq_true_eq]at this
 exact⟨this.1,fun r hr=>(iu r).1 (List.all_eq_true.1 this.2 r hr)⟩
theorem ze(s:ByteArray)(w:World)(h:s ∉ names):
  Calls prog 139 #[.string s] w fun e w'=>e=.returned (.tuple #[.slice none 0 0,.int .i64 5])/\Below w.heap.size w w':=by
 have H:=I (fun f w=>Cf s f w h)
 have hmf:∀(fn:Fn) (first cap:Array Value) (w:World),(Instr.makeFunc fn first cap).run prog w=.ok (.func fn first cap) w:=fun _ _ _ _=>rfl
 clear h
 go_enter func139,ntmps139
 go_wp2_with (go_at_call 151;refine(H.o _ _).mono ?_;rintro e w' ⟨rfl,rfl⟩)
 go_ret2
 exact⟨rfl,by go_grown⟩
theorem qD(s:ByteArray)(w:World)(h:s∈names):Calls prog 139 #[.string s] w fun e w'=>∃v O,e=.returned (.tuple #[v,.int .i64 0])/\w'.ownsRow w.heap.size 76 2 v O.length (aQ O)/\bq (ins (bO s)) O/\Below w.heap.size w w':=by
 have H:=I (zo s h (Gc w) _ (qN w))
 have hmf:∀(fn:Fn) (first cap:Array Value) (w:World),(Instr.makeFunc fn first cap).run prog w=.ok (.func fn first cap) w:=fun _ _ _ _=>rfl
 obtain⟨hl,hk⟩:=E6 h
 have HK:=I hk
 obtain⟨L,hL⟩:=J (bO s)
 rw[<- hL]at H hl HK |-
 clear hk hL h
 go_enter func139,ntmps139
 go_wp2_with fail
 refine H.o.mono ?_
 rintro e w1 ⟨rfl,⟨⟨v,i1,i2⟩,i3⟩,hs⟩
 have HJ:=I (nF w.heap.size v L w1 (by omega) HK.o i2 i3.size)
 have c1:=cell_of_one i1
 have I3:=I i3
 obtain⟨ao0,c0,hv0⟩:=aG i2
 obtain⟨n,hn⟩:=J L.length
 rw[<- hn]at hv0
 rw[hv0]at HJ c1
 clear i1 i2 i3 hs H hv0 hn hl
 go_wp2_with fail
 refine HJ.o.mono ?_
 rintro e w2 ⟨v2,O,rfl,ho,hset,hle,hb⟩
 obtain⟨ao,cc,hv⟩:=aG ho
 have HO:=I ho
 have HB:=I hb
 have HS:=I hset
 clear ho hb hset hle
 rw[hv]at HO
 rw[hv]
 clear hv
 go_wp2
 go_ret2
 exact⟨_,_,rfl,HO.o,HS.o,I3.o.trans HB.o⟩
end Go.Proofs.YtklbbbldalmnbaaGreatDoor.Br
