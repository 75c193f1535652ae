import Derived.Test.YtklbbbldalmnbaaGreatDoorKO
import Derived.Test.YtklbbbldalmnbaaGreatDoorKQ
import Derived.Test.YtklbbbldalmnbaaGreatDoorKN
import Derived.Test.YtklbbbldalmnbaaGreatDoorKA
set_option maxHeartbeats 2000000
set_option maxRecDepth 100000
set_option linter.unusedVariables false
open Go.Proofs.Tryz
namespace Go.Proofs.YtklbbbldalmnbaaGreatDoor
open Go.RowKit
theorem ve{w:World}{x:Addr}{L:RL}(h:iZ w x L):∀j u,(aN L)[j]? =some u->w.cell? (x.add j)=some u:=by
 intro j u hj
 have hlt:j<(aN L).length:=(List.getElem?_eq_some_iff.1 hj).1
 rw[ey]at hlt
 obtain⟨c1,c2⟩:=h (j / 2) (by omega)
 obtain⟨d1,d2⟩:=jI L (j / 2) (by omega)
 rcases(show j % 2=0\/j % 2=1 from by omega)with hm|hm
 ·have e:j / 2*2=j:=by omega
  rw[e]at c1 d1
  rw[hj]at d1
  rw[c1, <-d1]
 ·have e:j / 2*2+1=j:=by omega
  rw[e,hj]at d2
  have e2:x.add j=⟨(x.add (j / 2*2)).block,(x.add (j / 2*2)).off+1,none⟩:=by
   unfold Addr.add
   rw[if_neg (by omega)]
   split
   ·rename_i h0;first|(simp;omega)|simp_all
   ·first|(simp;omega)|simp
  rw[e2,c2, <-d2]
theorem qH(L:RL):∀u∈aN L,u.oneCell'=true:=by
 intro u hu
 unfold aN at hu
 rw[List.mem_flatMap]at hu
 obtain⟨r,_,hu⟩:=hu
 simp[tj]at hu
 rcases hu with rfl|rfl<;>rfl
theorem Cf(w:World):(w.alloc (.cells #[] 76)).ownsRow w.heap.size 76 2 (.slice (some ⟨w.heap.size,0,none⟩) 0 0) 0 []:=by
 have h:=World.ownsRow_lit (base:=w.heap.size) (e:=76) (size:=2) w #[] 0 (by simp) (by unfold maxLen;omega) (by simp)
 simpa using h
theorem Cp(v:Value)(L:RL)(w:World)(hv:Reads w v L)(hl:L.length<=400000000):Calls prog 146 #[v] w fun e w'=>∃v',e=.returned v'/\w'.ownsRow w.heap.size 76 2 v' L.length (aN L)/\Below w.heap.size w w':=by
 obtain⟨i0,hi,hz0,hz1,hz2⟩:=info_parts vF
 have nil0:∀W,(binOp .eql 22 (.slice none 0 0) (.slice none 0 0)).run prog W=.ok (.bool true) W:=fun W=>rfl
 have nil1:∀a n c W,(binOp .eql 22 (.slice (some a) n c) (.slice none 0 0)).run prog W=.ok (.bool false) W:=fun a n c W=>rfl
 rcases hv with⟨rfl,rfl⟩|⟨x,c,rfl,hc⟩
 ·go_enter func146,ntmps146
  go_wp2
  go_ret
  exact⟨_,rfl,World.ownsRow_nil _ _ _ _,J _ _⟩
 ·have HC:=I hc
  clear hc
  obtain⟨n,hn⟩:∃n,n=L.length:=⟨_,rfl⟩
  have hcl:=ey L
  rw[<- hn]at hl hcl |-
  have HCL:=I hcl
  clear hn hcl
  have hb0:Hid (Below w.heap.size w (w.alloc (.cells #[] 76))):=(J _ w).alloc (U _) _
  go_enter func146,ntmps146
  go_wp2_with (at_builtin;refine wpList_append_own _ rfl _ _ 22 rfl w.heap.size 76 i0 (.agg #[.int .i64 0,.int .i64 0]) 2 16 underlying22 hi hz0 hz1 hz2 rfl (by decide) _ 0 [] rfl (Cf w) x n c (aN L) rfl HCL.o (ve (HC.o.below hb0.o)) (qH L) (by unfold maxLen;omega) (by omega) (by simp) ?_)
  intro v' w3 hown' hgrow _
  have HO3:=I hown'
  have hb3:=I (hb0.o.grown hgrow (by simp) (fun k hk=>by simp[Value.ownBlock]at hk;omega))
  clear hown' hgrow
  go_wp2
  go_ret
  exact⟨_,rfl,HO3.o,hb3.o⟩
theorem qW(S:RL)(k:Nat)(hk:k<S.length):(S.take (k+1)).foldl bF []=bF ((S.take k).foldl bF []) S[k]:=by
 rw[List.take_add_one,List.getElem?_eq_getElem hk,List.foldl_append]
 rfl
theorem kH(S:RL)(k:Nat):((S.take k).foldl bF []).length<=k:=by
 induction k with
 |zero=>simp
 |succ k ih=>
  by_cases h:k<S.length
  ·rw [qW S k h]
   have:=uf ((S.take k).foldl bF []) S[k]
   omega
  ·rw [List.take_of_length_le (by omega)]at ih |-
   omega
theorem xq{S:RL}(hok:∀r∈S,er r)(hs:S.Pairwise (fun a b=>a.1<=b.1))(k:Nat):Canon ((S.take k).foldl bF []):=by
 have:=sd (S:=S.take k) (fun r hr=>hok r (List.mem_of_mem_take hr)) (hs.sublist (List.take_sublist k S))
 exact this.1
theorem nz(B:Nat)(v:Value)(l:RL)(w:World)(hl:l.length<=400000000)(hok:∀r∈l,er r)(hown:w.ownsRow B 76 2 v l.length (aN l))(hB:B<=w.heap.size):
  Calls prog 150 #[v] w fun e w'=>∃v' O,e=.returned v'/\w'.ownsRow B 76 2 v' O.length (aN O)/\bg (ins l) O/\O.length<=l.length/\Below B w w':=by
 have HS:=I (Ax B v l w hl (fun x hx=>by have:=hok x hx;unfold er at this;omega) hown hB)
 have HOK:=I hok
 obtain⟨ao,c,hvs⟩:=ax hown
 obtain⟨n,hn⟩:∃n,n=l.length:=⟨_,rfl⟩
 have HN:=I hn
 rw[<- hn]at hvs hl
 rw[hvs]at HS |-
 clear hok hown hn hvs
 go_enter func150,ntmps150
 go_wp2_with fail
 refine HS.o.mono ?_
 rintro e w2 ⟨rfl,S,hp,hs,ho2,hb2⟩
 have hSl:S.length=n:=by rw[hp.length_eq];exact HN.o.symm
 have hokS:∀r∈S,er r:=fun r hr=>HOK.o r (hp.mem_iff.1 hr)
 have HSP:=I hp
 have HSS:=I hs
 have HO2:=I ho2
 have HKS:=I hokS
 have HSL:=I hSl
 have HB2:=I hb2
 clear HS hp hs ho2 hokS hSl hb2
 go_wp2
 go_loopw [3,10] (fun v i wr=>∃k:Nat,k<=n/\i=.int .i64 k/\wr.ownsRow w2.heap.size 76 2 v ((S.take k).foldl bF []).length (aN ((S.take k).foldl bF []))/\Below w2.heap.size w2 wr) (fun _ i _=>n - (intOf i).toNat)
 case atStart=>exact⟨0,Nat.zero_le _,rfl,World.ownsRow_nil _ _ _ _,J _ _⟩
 case round=>
  obtain⟨k,hk,rfl,ho,hbl⟩:=hrel
  by_cases hlt:k<n
  ·have hkS:k<S.length:=by have:=HSL.o;omega
   have hsrc:=ig (cp HO2.o hbl)
   obtain⟨x,cx,hx,hcx⟩:=hsrc.some (by omega)
   obtain⟨rfl⟩:ao=some x:=by cases hx;rfl
   obtain⟨c1,c2⟩:=hcx k hkS
   have hfs:=I (qW S k hkS)
   have hcan:=xq HKS.o HSS.o k
   have hOlen:=kH S k
   have hr:=HKS.o S[k] (List.getElem_mem _)
   obtain⟨r,hr'⟩:∃r,r=S[k]:=⟨_,rfl⟩
   rw[<- hr']at c1 c2 hfs hr
   obtain⟨O,hO⟩:∃O,O=(S.take k).foldl bF []:=⟨_,rfl⟩
   rw[<- hO]at ho hOlen hcan hfs
   obtain⟨a,b⟩:=r
   simp only at c1 c2
   obtain⟨ao',c',rfl⟩:=ax ho
   have hBw:w2.heap.size<=wr.heap.size:=hbl.size
   have HAdd:=I (jT w2.heap.size _ O a b (wr.alloc (.cells #[.int .i64 a,.int .i64 b] 76)) (by simp;omega) (fun x hx=>by have:=hcan.1 x hx;unfold er at this;omega) (by have hOc:=nF hcan 1114112 (by omega) (fun x hx=>by have:=hcan.1 x hx;unfold er at this;omega);omega) (ho.alloc _))
   have HBL:=I hbl
   clear hcan hr hr' hO ho hx hcx hsrc hbl hOlen
   go_wp2_with fail
   refine HAdd.o.mono ?_
   rintro e w3 ⟨v',rfl,ho3,hb3⟩
   have HO3:=I ho3
   obtain⟨ao'',c'',hv''⟩:=ax ho3
   rw[hv'']at HO3 |-
   clear ho3 hv''
   go_wp2
   go_roundw
   case rel=>exact⟨k+1,by omega,by go_num,by rw[hfs.o];exact HO3.o,(HBL.o.alloc hBw _).trans hb3⟩
   case measure=>simp[intOf];omega
  ·have hkn:k=n:=by omega
   subst hkn
   have hfull:S.take k=S:=List.take_of_length_le (by have:=HSL.o;omega)
   rw[hfull]at ho
   have HO:=I ho
   obtain⟨j1,j2⟩:=sd HKS.o HSS.o
   have hset:Hid (bg (ins l) (r9 S)):=ft (pC j1) fun q _ _=>by rw[j2,pA HSP.o]
   have hlen:Hid ((r9 S).length<=l.length):=by
    have:=kH S k
    rw[hfull]at this
    show(S.foldl bF []).length<=_
    have:=HN.o
    omega
   obtain⟨ao',c',rfl⟩:=ax ho
   have HBL:=I hbl
   clear ho j1 j2 hbl
   go_wp2
   go_ret
   exact⟨_,r9 S,rfl,jr HO.o (Nat.le_trans hB HB2.o.size),hset.o,hlen.o,HB2.o.trans (HBL.o.mono (Nat.le_trans hB HB2.o.size))⟩
theorem fS{B:Nat}{w:World}{v:Value}{n:Nat}{xs:List Value}(h:w.ownsRow B 76 2 v n xs){k:Nat}{o:Obj}(hk:w.heap[k]? =some o)(ho:∀cs fr,o≠.cells cs 76 fr):some k≠v.ownBlock:=by
 intro e
 rcases h.2 with⟨rfl,_⟩|⟨g,cap,cur,rfl,_,hh,_⟩
 ·simp[Value.ownBlock]at e
 ·simp [Value.ownBlock]at e
  rw[<- e,hk]at hh
  exact ho _ _ (by simpa using hh)
theorem pV{B:Nat}{w w':World}{v:Value}{n:Nat}{xs:List Value}(hown:w.ownsRow B 76 2 v n xs)(hB:B<=w.heap.size){o:Obj}(hg:(w.alloc o).grownBy w' v.ownBlock):Below B w w':=
 ((J B w).alloc hB o).grown hg (by simp;omega) (fun k hk=>(hown.lt k hk).1)
theorem JB(B b:Nat)(hBb:B<=b)(v:Value)(L:List (Int×Int))(p q:Int)(w:World)(hbox:w.heap[b]? =some (.cells #[v] 22 (0,0)))(hown:w.ownsRow B 76 2 v L.length (aN L))(hn:L.length<=3000)(hB:B<=w.heap.size):
  Calls prog 152 #[.int .i64 p,.int .i64 q,.pointer (some ⟨b,0,none⟩)] w fun e w'=>e=.returned (.tuple #[])/\(∃v',w'.heap[b]? =some (.cells #[v'] 22 (0,0))/\w'.ownsRow B 76 2 v' (L.length+1) (aN (L++[(p,q)])))/\Below B w w'/\Fo.aW w w':=by
 obtain⟨i0,hi,hz0,hz1,hz2⟩:=info_parts vF
 have hlt:b<w.heap.size:=lt_of_block hbox
 have hcb:=cell_of_one hbox
 have hfb:=free_of_one hbox
 have HB:=I hbox
 have HO:=I hown
 have hE:Hid (aN (L++[(p,q)])=aN L++[.int .i64 p,.int .i64 q]):=by show _=_;rw[ed];rfl
 clear hbox
 obtain⟨ao,c,rfl⟩:=ax hown
 clear hown
 go_enter func152,ntmps152
 go_wp2_with (at_builtin;refine wpList_append_own _ rfl _ _ 22 rfl B 76 i0 (.agg #[.int .i64 0,.int .i64 0]) 2 16 underlying22 hi hz0 hz1 hz2 rfl (by decide) _ _ _ rfl (HO.o.alloc _) ⟨w.heap.size,0,none⟩ 1 1 [.int .i64 p,.int .i64 q] rfl rfl (jE _ _ (by simp) p q) (o0 p q) (by unfold maxLen;omega) (by omega) (by simp;omega) ?_)
 intro v' w2 hown' hgrow _
 have hob:=fS HO.o HB.o (by simp)
 have hb2:w2.heap[b]? =some (.cells #[.slice ao L.length c] 22 (0,0)):=by
  rw[hgrow.block b (by simp;omega) hob,Below.heap_alloc _ _ _ hlt];exact HB.o
 have hc2:=cell_of_one hb2
 have hf2:=free_of_one hb2
 obtain⟨ao',c',hv'⟩:=ax hown'
 have HG:=I hgrow
 have HO2:=I hown'
 have HB2:=I hb2
 clear hgrow hown' hb2 hcb hfb
 rw[hv']at HO2
 rw[hv']
 clear hv'
 go_wp2
 go_end0
 have hb3:=one_setCell (u:=.slice ao' (L.length+1) c') HB2.o
 have hne:(Value.slice ao' (L.length+1) c').ownBlock≠some b:=fun e=>fS HO2.o HB2.o (by simp) e.symm
 refine⟨rfl,⟨_,hb3,by rw[hE.o];exact ownsRow_setCell_other HO2.o hne _⟩,(pV HO.o hB HG.o).setCell hBb _,?_⟩
 intro k cs hk
 have hkb:k≠b:=fun e=>by
  subst e
  have:=HB.o
  rw[hk]at this
  simp at this
 rw[Below.heap_setCell _ _ _ _ hkb,HG.o.block k (by have:=lt_of_block hk;simp;omega) (fS HO.o hk (by simp)),Below.heap_alloc _ _ _ (lt_of_block hk)]
 exact hk
def Jz(w0:World)(L:List (Int×Int))(w:World):Prop:=
 (∃v,w.heap[w0.heap.size]? =some (.cells #[v] 22 (0,0))/\w.ownsRow w0.heap.size 76 2 v L.length (aN L))/\Below w0.heap.size w0 w
theorem Ex(args:Array Value)(w:World):(callFunc 152 args).run prog w=.ok (.enter 152 args) w:=enters_of func152 (by kernel_rfl) rfl args w
theorem EP(w0:World):Fo.eK 152 #[.pointer (some ⟨w0.heap.size,0,none⟩)] (Jz w0) where
 enters:=fun args w=>Ex args w
 take:=fun L a b w hl h=>by
  obtain⟨⟨v,h1,h2⟩,h3⟩:=h
  refine(JB w0.heap.size w0.heap.size (U _) v L a b w h1 h2 (by omega) h3.size).mono ?_
  rintro e w' ⟨rfl,⟨v',g1,g2⟩,hb,hk⟩
  exact⟨rfl,⟨⟨v',g1,by rw[List.length_append,List.length_singleton];exact g2⟩,h3.trans hb⟩,hb.size,hk⟩
 below:=fun L w w' h hb=>by
  obtain⟨⟨v,h1,h2⟩,h3⟩:=h
  exact⟨⟨v,by rw[hb.block _ (lt_of_block h1)];exact h1,cp h2 hb⟩,h3.trans (hb.mono h3.size)⟩
theorem rf(w:World):Jz w [] (w.alloc (.cells #[.slice none 0 0] 22)):=
 ⟨⟨_,heap_alloc_new w _,World.ownsRow_nil _ _ _ _⟩,(J _ w).alloc (U _) _⟩
theorem EM:∀r∈Fo.da,er r:=by
 have:Fo.da.all okB=true:=by decide +kernel
 intro r hr
 exact(gR r).1 (List.all_eq_true.1 this r hr)
theorem rV:Fo.da.length=13:=by decide +kernel
theorem vz(w:World):Calls prog 139 #[.string ⟨#[97,108,112,104,97]⟩] w fun e w'=>∃v O,e=.returned (.tuple #[v,.int .i64 0])/\w'.ownsRow w.heap.size 76 2 v O.length (aN O)/\bg (ins Fo.da) O/\O.length<=13/\Below w.heap.size w w':=by
 have H:=I (Fo.oA (EP w) _ (rf w))
 have hmf:∀(fn:Fn) (first cap:Array Value) (w:World),(Instr.makeFunc fn first cap).run prog w=.ok (.func fn first cap) w:=fun _ _ _ _=>rfl
 go_enter func139,ntmps139
 go_wp2_with fail
 refine H.o.mono ?_
 rintro e w1 ⟨rfl,⟨⟨v,i1,i2⟩,i3⟩,hs,hk⟩
 have HJ:=I (nz w.heap.size v Fo.da w1 (by rw[rV];omega) EM i2 i3.size)
 have c1:=cell_of_one i1
 have I3:=I i3
 obtain⟨ao0,c0,hv0⟩:=ax i2
 rw[hv0]at HJ c1
 clear hk i1 i2 i3 hs H hv0
 go_wp2_with fail
 refine HJ.o.mono ?_
 rintro e w2 ⟨v2,O,rfl,ho,hset,hle,hb⟩
 obtain⟨ao,cc,hv⟩:=ax ho
 have HO:=I ho
 have HB:=I hb
 have HS:=I hset
 have HL:=I hle
 clear ho hb hset hle
 rw[hv]at HO
 rw[hv]
 clear hv
 go_wp2
 go_ret2
 exact⟨_,_,rfl,HO.o,HS.o,by have:=HL.o;rw[rV]at this;exact this,I3.o.trans HB.o⟩
end Go.Proofs.YtklbbbldalmnbaaGreatDoor
namespace Go.Proofs.YtklbbbldalmnbaaGreatDoor.Br
open Go.RowKit
def names:List ByteArray:=[Fo.tB,Fo.qM,Fo.pL,Fo.mL,Fo.kY,Fo.qa,Fo.nC,Fo.qF,Fo.qw,Fo.qk,Fo.qv,Fo.qO,Fo.pb,Fo.qb]
theorem dE{s:ByteArray}{l:List UInt8}(h:s≠⟨l.toArray⟩):(s.toList==l)=false:=by
 rw[ByteArray.toList_eq]
 simp only[beq_eq_false_iff_ne,ne_eq]
 intro e
 apply h
 cases s
 rename_i d
 simp only at e
 rw[<- e]
theorem AN(s:ByteArray)(f:Value)(w:World)(h:s ∉ names):
  Calls prog 151 #[.string s,f] w fun e w'=>e=.returned (.bool false)/\w=w':=by
 have n0:(s.toList==[97,110,121])=false:=dE (fun e=>h (by rw[e];simp[names,Fo.tB]))
 have n1:(s.toList==[97,115,99,105,105])=false:=dE (fun e=>h (by rw[e];simp[names,Fo.qM]))
 have n2:(s.toList==[99,110,116,114,108])=false:=dE (fun e=>h (by rw[e];simp[names,Fo.pL]))
 have n3:(s.toList==[100,105,103,105,116])=false:=dE (fun e=>h (by rw[e];simp[names,Fo.mL]))
 have n4:(s.toList==[120,100,105,103,105,116])=false:=dE (fun e=>h (by rw[e];simp[names,Fo.kY]))
 have n5:(s.toList==[98,108,97,110,107])=false:=dE (fun e=>h (by rw[e];simp[names,Fo.qa]))
 have n6:(s.toList==[115,112,97,99,101])=false:=dE (fun e=>h (by rw[e];simp[names,Fo.nC]))
 have n7:(s.toList==[112,117,110,99,116])=false:=dE (fun e=>h (by rw[e];simp[names,Fo.qF]))
 have n8:(s.toList==[97,108,112,104,97])=false:=dE (fun e=>h (by rw[e];simp[names,Fo.qw]))
 have n9:(s.toList==[117,112,112,101,114])=false:=dE (fun e=>h (by rw[e];simp[names,Fo.qk]))
 have n10:(s.toList==[108,111,119,101,114])=false:=dE (fun e=>h (by rw[e];simp[names,Fo.qv]))
 have n11:(s.toList==[97,108,110,117,109])=false:=dE (fun e=>h (by rw[e];simp[names,Fo.qO]))
 have n12:(s.toList==[119,111,114,100])=false:=dE (fun e=>h (by rw[e];simp[names,Fo.pb]))
 have n13:(s.toList==[103,114,97,112,104])=false:=dE (fun e=>h (by rw[e];simp[names,Fo.qb]))
 clear h
 go_enter func151,ntmps151
 go_wp2
 go_ret
 exact⟨rfl,rfl⟩
def bI(s:ByteArray):List (Int×Int):=
 if s=Fo.tB then Fo.EJ else
 if s=Fo.qM then Fo.wu else
 if s=Fo.pL then Fo.xv else
 if s=Fo.mL then Fo.wW else
 if s=Fo.kY then Fo.rQ else
 if s=Fo.qa then Fo.vV else
 if s=Fo.nC then Fo.uR else
 if s=Fo.qF then Fo.uP else
 if s=Fo.qw then Fo.da else
 if s=Fo.qk then Fo.vS else
 if s=Fo.qv then Fo.uZ else
 if s=Fo.qO then Fo.uY else
 if s=Fo.pb then Fo.An else
 if s=Fo.qb then Fo.xi else
 []
theorem zx(s:ByteArray)(hs:s∈names){caps:Array Value}{Inv:List (Int×Int)->World->Prop}(T:Fo.eK 152 caps Inv)(w:World)(hI:Inv [] w):
  Calls prog 151 #[.string s,.func (.func 152) #[] caps] w fun e w'=>e=.returned (.bool true)/\Inv (bI s) w'/\w.heap.size<=w'.heap.size:=by
 simp only[names,List.mem_cons,List.not_mem_nil,or_false]at hs
 rcases hs with rfl|rfl|rfl|rfl|rfl|rfl|rfl|rfl|rfl|rfl|rfl|rfl|rfl|rfl
 ·exact(Fo.Bk T w hI).mono fun e w' h=>⟨h.1,h.2.1,h.2.2.1⟩
 ·exact(Fo.vL T w hI).mono fun e w' h=>⟨h.1,h.2.1,h.2.2.1⟩
 ·exact(Fo.wQ T w hI).mono fun e w' h=>⟨h.1,h.2.1,h.2.2.1⟩
 ·exact(Fo.wY T w hI).mono fun e w' h=>⟨h.1,h.2.1,h.2.2.1⟩
 ·exact(Fo.ti T w hI).mono fun e w' h=>⟨h.1,h.2.1,h.2.2.1⟩
 ·exact(Fo.vG T w hI).mono fun e w' h=>⟨h.1,h.2.1,h.2.2.1⟩
 ·exact(Fo.vl T w hI).mono fun e w' h=>⟨h.1,h.2.1,h.2.2.1⟩
 ·exact(Fo.uJ T w hI).mono fun e w' h=>⟨h.1,h.2.1,h.2.2.1⟩
 ·exact(Fo.oA T w hI).mono fun e w' h=>⟨h.1,h.2.1,h.2.2.1⟩
 ·exact(Fo.vP T w hI).mono fun e w' h=>⟨h.1,h.2.1,h.2.2.1⟩
 ·exact(Fo.uW T w hI).mono fun e w' h=>⟨h.1,h.2.1,h.2.2.1⟩
 ·exact(Fo.vr T w hI).mono fun e w' h=>⟨h.1,h.2.1,h.2.2.1⟩
 ·exact(Fo.yn T w hI).mono fun e w' h=>⟨h.1,h.2.1,h.2.2.1⟩
 ·exact(Fo.xA T w hI).mono fun e w' h=>⟨h.1,h.2.1,h.2.2.1⟩
theorem AH:∀s∈names,(decide ((bI s).length<=1000)&&(bI s).all okB)=true:=by
 intro s hs
 simp only[names,List.mem_cons,List.not_mem_nil,or_false]at hs
 rcases hs with rfl|rfl|rfl|rfl|rfl|rfl|rfl|rfl|rfl|rfl|rfl|rfl|rfl|rfl<;>decide +kernel
theorem Db{s:ByteArray}(hs:s∈names):(bI s).length<=1000/\∀r∈bI s,er r:=by
 have:=AH s hs
 simp only[Bool.and_eq_true,decide_eq_true_eq]at this
 exact⟨this.1,fun r hr=>(gR r).1 (List.all_eq_true.1 this.2 r hr)⟩
theorem yR(s:ByteArray)(w:World)(h:s ∉ names):
  Calls prog 139 #[.string s] w fun e w'=>e=.returned (.tuple #[.slice none 0 0,.int .i64 5])/\Below w.heap.size w w':=by
 have H:=I (fun f w=>AN s f w h)
 have hmf:∀(fn:Fn) (first cap:Array Value) (w:World),(Instr.makeFunc fn first cap).run prog w=.ok (.func fn first cap) w:=fun _ _ _ _=>rfl
 clear h
 go_enter func139,ntmps139
 go_wp2_with (go_at_call 151;refine(H.o _ _).mono ?_;rintro e w' ⟨rfl,rfl⟩)
 go_ret2
 exact⟨rfl,by go_grown⟩
theorem qh(s:ByteArray)(w:World)(h:s∈names):Calls prog 139 #[.string s] w fun e w'=>∃v O,e=.returned (.tuple #[v,.int .i64 0])/\w'.ownsRow w.heap.size 76 2 v O.length (aN O)/\bg (ins (bI s)) O/\Below w.heap.size w w':=by
 have H:=I (zx s h (EP w) _ (rf w))
 have hmf:∀(fn:Fn) (first cap:Array Value) (w:World),(Instr.makeFunc fn first cap).run prog w=.ok (.func fn first cap) w:=fun _ _ _ _=>rfl
 obtain⟨hl,hk⟩:=Db h
 have HK:=I hk
 obtain⟨L,hL⟩:∃L,L=bI s:=⟨_,rfl⟩
 rw[<- hL]at H hl HK |-
 clear hk hL h
 go_enter func139,ntmps139
 go_wp2_with fail
 refine H.o.mono ?_
 rintro e w1 ⟨rfl,⟨⟨v,i1,i2⟩,i3⟩,hs⟩
 have HJ:=I (nz w.heap.size v L w1 (by omega) HK.o i2 i3.size)
 have c1:=cell_of_one i1
 have I3:=I i3
 obtain⟨ao0,c0,hv0⟩:=ax i2
 obtain⟨n,hn⟩:∃n,n=L.length:=⟨_,rfl⟩
 rw[<- hn]at hv0
 rw[hv0]at HJ c1
 clear i1 i2 i3 hs H hv0 hn hl
 go_wp2_with fail
 refine HJ.o.mono ?_
 rintro e w2 ⟨v2,O,rfl,ho,hset,hle,hb⟩
 obtain⟨ao,cc,hv⟩:=ax ho
 have HO:=I ho
 have HB:=I hb
 have HS:=I hset
 clear ho hb hset hle
 rw[hv]at HO
 rw[hv]
 clear hv
 go_wp2
 go_ret2
 exact⟨_,_,rfl,HO.o,HS.o,I3.o.trans HB.o⟩
end Go.Proofs.YtklbbbldalmnbaaGreatDoor.Br
