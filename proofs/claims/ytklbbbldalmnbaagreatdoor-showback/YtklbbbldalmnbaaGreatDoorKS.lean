import Derived.Test.YtklbbbldalmnbaaGreatDoorKR
import Derived.Maps.AppendAt
set_option maxHeartbeats 4000000
set_option linter.unusedVariables false
open Go.Proofs.Tryz
namespace Go.Proofs.YtklbbbldalmnbaaGreatDoor
open Go.RowKit
def kL(l:List Int):RL:=l.map fun q=>(q,q)
theorem xp(l:List Int):(kL l).length=l.length:=by simp[kL]
theorem Cs(l:List Int)(k:Nat)(h:k<l.length):kL (l.take (k+1))=kL (l.take k)++[(l.getD k 0,l.getD k 0)]:=by
 unfold kL
 rw[List.take_add_one,List.map_append,List.getElem?_eq_getElem h,List.getD_eq_getElem?_getD,List.getElem?_eq_getElem h]
 rfl
theorem Aq(p:Int)(h0:0<=p)(h1:p<=1114111):(Fo.ja p).length<=3:=by
 have:=(Fo.tI p h0 h1 3 (by omega)).2.1
 show(Fo.Hn _).length<=3
 rw[Fo.uv]
 exact this
theorem IT{B e:Nat}{w:World}{g n c:Nat}{xs:List Value}(h:w.ownsRow B e 1 (.slice (some ⟨g,0,none⟩) n c) n xs):∃cur,w.heap[g]? =some (.cells cur e (0,0)):=by
 rcases h.2 with⟨h1,_⟩|⟨g',cap,cur,h1,_,hh,_⟩
 ·simp at h1
 ·simp at h1
  rw[h1.1]
  exact⟨_,hh⟩
theorem qA{w w':World}{a:Addr}(h:w'.heap[a.block]? =w.heap[a.block]?):w'.cell? a=w.cell? a:=by
 unfold World.cell?
 rw[h]
def KB(b:Nat)(v:Value)(w:World)(v':Value)(w':World):Prop:=
 (∀k,k<w.heap.size->k≠b->some k≠v.ownBlock->w'.heap[k]? =w.heap[k]?)/\(v'.ownBlock=v.ownBlock\/∃j,w.heap.size<=j/\v'.ownBlock=some j)
theorem KB.refl(b:Nat)(v:Value)(w:World):KB b v w v w:=⟨fun _ _ _ _=>rfl,.inl rfl⟩
theorem KB.trans{b:Nat}{v1 v2 v3:Value}{w1 w2 w3:World}(h:KB b v1 w1 v2 w2)(g:KB b v2 w2 v3 w3)(hs:w1.heap.size<=w2.heap.size):KB b v1 w1 v3 w3:=by
 refine⟨fun k hk hb hv=>?_,?_⟩
 ·rw [g.1 k (by omega) hb ?_,h.1 k hk hb hv]
  rcases h.2 with e|⟨j,hj,e⟩
  ·rw[e];exact hv
  ·rw[e];intro e;have:=Option.some.inj e;omega
 ·rcases g.2 with e|⟨j,hj,e⟩
  ·rw[e];exact h.2
  ·exact .inr ⟨j,by omega,e⟩
theorem KB.below{b:Nat}{v:Value}{w w':World}(h:Below w.heap.size w w'):KB b v w v w':=⟨fun k hk _ _=>h.block k hk,.inl rfl⟩
theorem KB.app{b:Nat}{v v':Value}{w w':World}{o:Obj}(u:Value)(hg:(w.alloc o).grownBy w' v.ownBlock)(hv:v'.ownBlock=v.ownBlock\/v'.ownBlock=some (w.heap.size+1)):KB b v w v' (w'.setCell ⟨b,0,none⟩ u):=by
 refine⟨fun k hk hb hv'=>?_,?_⟩
 ·rw[Below.heap_setCell _ _ _ _ hb,hg.block k (by simp;omega) hv',Below.heap_alloc _ _ _ hk]
 ·rcases hv with e|e
  ·exact .inl e
  ·exact .inr ⟨_,by omega,e⟩
theorem Jp(B b:Nat)(hB0:3<B)(hBb:B<=b)(v:Value)(L:RL)(p:Int)(h0:0<=p)(h1:p<=1114111)(w:World)(hT:Fo.iP w)(hbox:w.heap[b]? =some (.cells #[v] 22 (0,0)))(hown:w.ownsRow B 76 2 v L.length (aN L))(hn:L.length<=3000)(hB:B<=w.heap.size):
  Calls prog 148 #[.int .i64 p,.pointer (some ⟨b,0,none⟩)] w fun e w'=>e=.returned (.tuple #[])/\(∃v',w'.heap[b]? =some (.cells #[v'] 22 (0,0))/\w'.ownsRow B 76 2 v' (L++kL (Fo.ja p)).length (aN (L++kL (Fo.ja p)))/\KB b v w v' w')/\Below B w w':=by
 obtain⟨i0,hi,hz0,hz1,hz2⟩:=info_parts vF
 have HR:=I (Fo.Cj p w h0 h1 hT (by omega))
 have hl3:=Aq p h0 h1
 obtain⟨l,hl⟩:∃l,l=Fo.ja p:=⟨_,rfl⟩
 rw[<- hl]at HR hl3 |-
 obtain⟨n,hnl⟩:∃n,n=l.length:=⟨_,rfl⟩
 rw[<- hnl]at HR hl3
 have HB:=I hbox
 have HO:=I hown
 have HN:=I hnl
 clear hbox hown hT hl hnl
 go_enter func148,ntmps148
 go_wp2_with fail
 refine HR.o.mono ?_
 rintro e w1 ⟨g,cap,rfl,ho1,hb1⟩
 obtain⟨cur,hcur⟩:=IT ho1
 have HC:=I hcur
 have HO1:=I ho1
 have HB1:=I hb1
 clear HR hcur ho1 hb1
 go_wp2_with fail
 go_loopw [14] (fun i wr=>∃(k:Nat) (u:Value),k<=n/\i=.int .i64 k/\wr.heap[b]? =some (.cells #[u] 22 (0,0))/\wr.ownsRow B 76 2 u (L.length+k) (aN (L++kL (l.take k)))/\Below B w wr/\wr.heap[g]? =some (.cells cur 3 (0,0))/\KB b v w u wr) (fun i _=>n - (intOf i).toNat)
 case atStart=>exact⟨0,v,by omega,rfl,by rw[HB1.o.block b (lt_of_block HB.o)];exact HB.o,by rw[show L++kL (l.take 0)=L from by simp[kL]];exact cp HO.o HB1.o,HB1.o.mono hB,HC.o,KB.below HB1.o⟩
 case round=>
  obtain⟨k,u,hk,rfl,hb,ho,hbl,hg,hkb⟩:=hrel
  obtain⟨ao,c,rfl⟩:=ax ho
  have hcb:=cell_of_one hb
  have hlt:=lt_of_block hb
  have HBk:=I hb
  have HOk:=I ho
  have HBl:=I hbl
  have HG:=I hg
  have HK:=I hkb
  have hBw:=hbl.size
  clear hb ho hbl hg hkb
  by_cases hlk:k<n
  ·obtain ⟨q,hq⟩:∃q,q=l.getD k 0:=⟨_,rfl⟩
   have hcq:wr.cell? ⟨g,k,none⟩=some (.int .i64 q):=by
    rw[qA (w:=w1) (by rw[HG.o,HC.o])]
    have:=Fo.nI (by rw[HN.o]at HO1;exact HO1.o) k (by rw[<- HN.o];exact hlk)
    rw[Addr.add_lit,Nat.zero_add]at this
    rw[hq];exact this
   have hE:Hid (aN (L++kL (l.take (k+1)))=aN (L++kL (l.take k))++[.int .i64 q,.int .i64 q]):=by
    show _=_
    rw[Cs l k (by rw[<- HN.o];exact hlk), <-List.append_assoc,ed (L++_), <-hq]
    rfl
   clear hq
   go_wp2_with (at_builtin;refine wpList_append_own_at _ rfl _ _ 22 rfl B 76 i0 (.agg #[.int .i64 0,.int .i64 0]) 2 16 underlying22 hi hz0 hz1 hz2 rfl (by decide) _ _ _ rfl (HOk.o.alloc _) ⟨wr.heap.size,0,none⟩ 1 1 [.int .i64 q,.int .i64 q] rfl rfl (jE _ _ (by simp) q q) (o0 q q) (by unfold maxLen;omega) (by omega) (by simp;omega) ?_)
   intro v' w2 hown' hgrow _ hat
   have hob:=fS HOk.o HBk.o (by simp)
   have hog:=fS HOk.o HG.o (by simp)
   have hb2:w2.heap[b]? =some (.cells #[.slice ao (L.length+k) c] 22 (0,0)):=by
    rw[hgrow.block b (by simp;omega) hob,Below.heap_alloc _ _ _ hlt];exact HBk.o
   have hg2:w2.heap[g]? =some (.cells cur 3 (0,0)):=by
    have:=lt_of_block HG.o
    rw[hgrow.block g (by simp;omega) hog,Below.heap_alloc _ _ _ this];exact HG.o
   have hgb:g≠b:=fun e=>by
    subst e
    have:=HBk.o
    rw[HG.o]at this
    simp at this
   have hc2:=cell_of_one hb2
   have hf2:=free_of_one hb2
   obtain⟨ao',c',hv'⟩:=ax hown'
   have HGr:=I hgrow
   have HO2:=I hown'
   have HB2:=I hb2
   have HG2:=I hg2
   have HGB:=I hgb
   have HAT:=I hat
   clear hgrow hown' hb2 hcb hcq hob hog hg2 hgb hat
   rw[hv']at HO2 HAT
   rw[hv']
   clear hv'
   go_wp2
   go_roundw
   case rel=>
    have hb3:=one_setCell (u:=.slice ao' (L.length+k+1) c') HB2.o
    have hne:(Value.slice ao' (L.length+k+1) c').ownBlock≠some b:=fun e=>fS HO2.o HB2.o (by simp) e.symm
    exact⟨k+1,_,by omega,by go_num,hb3,by rw[hE.o];exact ownsRow_setCell_other HO2.o hne _,HBl.o.trans ((pV HOk.o (Nat.le_trans hB hBw) HGr.o).setCell hBb _),by rw[Below.heap_setCell _ _ _ _ HGB.o];exact HG2.o,HK.o.trans (KB.app _ HGr.o HAT.o) hBw⟩
   case measure=>simp[intOf];omega
  ·obtain rfl:k=n:=by omega
   go_wp2
   go_end0
   refine⟨rfl,⟨_,HBk.o,?_,HK.o⟩,HBl.o⟩
   have:=HOk.o
   rw[HN.o,List.take_length]at this
   rw[List.length_append,xp]
   rw[<- HN.o]at this |-
   exact this
def lS(a:Int)(n:Nat):List Int:=(List.range n).map fun (i:Nat)=>a+(i:Int)
theorem CC(a:Int)(n:Nat):lS a (n+1)=lS a n++[a+(n:Int)]:=by simp[lS,List.range_succ]
theorem pK(a:Int)(n:Nat):(lS a n).length=n:=by simp[lS]
theorem qT{a:Int}{n:Nat}{q:Int}:q∈lS a n↔a<=q/\q<a+(n:Int):=by
 simp only[lS,List.mem_map,List.mem_range]
 constructor
 ·rintro⟨i,hi,rfl⟩;omega
 ·rintro⟨h1,h2⟩;exact⟨(q - a).toNat,by omega,by omega⟩
def j5(r:Int×Int):Nat:=(r.2 - r.1+1).toNat
def dL:RL->List Int
 |[]=>[]
 |r::L=>lS r.1 (j5 r)++dL L
theorem mg(a b:RL):dL (a++b)=dL a++dL b:=by
 induction a with
 |nil=>rfl
 |cons r a ih=>simp only[List.cons_append,dL,ih,List.append_assoc]
theorem wo(O:RL)(k:Nat)(h:k<O.length):dL (O.take (k+1))=dL (O.take k)++lS O[k].1 (j5 O[k]):=by
 rw[List.take_add_one,List.getElem?_eq_getElem h,mg]
 show _++(_++[])=_
 rw[List.append_nil]
theorem gO{O:RL}{q:Int}:q∈dL O↔ins O q=true:=by
 induction O with
 |nil=>simp[dL,ins]
 |cons r O ih=>
  rw[dL,List.mem_append,ih,qT]
  simp only[ins,List.any_cons,Bool.or_eq_true,Bool.and_eq_true,decide_eq_true_eq]
  unfold j5
  constructor
  ·rintro (⟨h1,h2⟩|h)
   ·exact .inl ⟨h1,by omega⟩
   ·exact .inr h
  ·rintro (⟨h1,h2⟩|h)
   ·exact .inl ⟨h1,by omega⟩
   ·exact .inr h
def clip(r:Int×Int)(x:Int):Nat:=min (x - r.1).toNat (j5 r)
def oK:RL->Int->Nat
 |[],_=>0
 |r::L,x=>clip r x+oK L x
theorem s5(r:Int×Int){x y:Int}(h:x<=y):clip r x<=clip r y:=by unfold clip;omega
theorem rZ(L:RL){x y:Int}(h:x<=y):oK L x<=oK L y:=by
 induction L with
 |nil=>exact U _
 |cons r L ih=>have:=s5 r h;simp only[oK];omega
theorem Gj(L:RL)(x:Int)(h:ins L x=true):oK L x+1<=oK L (x+1):=by
 induction L with
 |nil=>simp[ins]at h
 |cons r L ih=>
  simp only[ins,List.any_cons,Bool.or_eq_true,Bool.and_eq_true,decide_eq_true_eq]at h
  simp only[oK]
  rcases h with⟨h1,h2⟩|h
  ·have :=rZ L (show x<=x+1 by omega)
   have:clip r x+1<=clip r (x+1):=by unfold clip j5;omega
   omega
  ·have :=ih h
   have:=s5 r (show x<=x+1 by omega)
   omega
theorem EE(L:RL)(a:Int)(n:Nat)(h:∀q,a<=q->q<a+n->ins L q=true):oK L a+n<=oK L (a+n):=by
 induction n with
 |zero=>simp
 |succ n ih=>
  have h1:=ih (fun q h1 h2=>h q h1 (by omega))
  have h2:=Gj L (a+n) (h _ (by omega) (by omega))
  rw[show a+((n+1:Nat):Int)=a+n+1 from by omega]
  omega
def total:RL->Nat
 |[]=>0
 |r::L=>j5 r+total L
theorem ye(L:RL)(x:Int):oK L x<=total L:=by
 induction L with
 |nil=>exact U _
 | cons r L ih => have:clip r x<=j5 r:=by unfold clip;omega
                  simp only[oK,total];omega
theorem vm(L:RL):∀(O:RL) (x:Int),Canon O->(∀q,ins O q=true->ins L q=true)->(∀r∈O,x<=r.1)->oK L x+(dL O).length<=total L
 |[],x,_,_,_=>by have:=ye L x;simpa[dL]using this
 |r::O,x,hc,hs,hx=>by
  obtain⟨h1,h2,h3⟩:=dI.1 hc
  unfold er at h1
  have hx1:=hx r (List.mem_cons_self ..)
  have m:=rZ L hx1
  have e:=EE L r.1 (j5 r) (fun q q1 q2=>hs q (gO.1 (by rw[dL,List.mem_append,qT];exact .inl ⟨q1,q2⟩)))
  have ih:=vm L O (r.1+(j5 r:Int)) h3 (fun q hq=>hs q (by rw[<- gO]at hq |-;rw[dL,List.mem_append];exact .inr hq)) (fun r' hr'=>by have:=h2 r' hr';unfold j5;omega)
  rw[dL,List.length_append,pK]
  omega
theorem vv:total Fo.da=647:=by decide +kernel
theorem tO(O:RL)(hc:Canon O)(hs:∀q,ins O q=true->ins Fo.da q=true):(dL O).length<=647:=by
 have:=vm Fo.da O 0 hc hs (fun r hr=>(hc.1 r hr).1)
 rw[vv]at this
 omega
def gQ(P:List Int):RL:=P.flatMap fun p=>kL (Fo.ja p)
theorem kI(a b:List Int):gQ (a++b)=gQ a++gQ b:=by simp[gQ]
theorem qR(p:Int):gQ [p]=kL (Fo.ja p):=by simp[gQ]
theorem pz:∀(P:List Int),(∀p∈P,0<=p/\p<=1114111)->(gQ P).length<=3*P.length
 |[],_=>U _
 |p::P,h=>by
  have ih:=pz P (fun q hq=>h q (List.mem_cons_of_mem _ hq))
  have h1:=h p (List.mem_cons_self ..)
  have:=Aq p h1.1 h1.2
  rw[show p::P=[p]++P from rfl,kI,qR,List.length_append,xp,List.length_append]
  simp only[List.length_singleton]
  omega
theorem qq{O:RL}(hc:Canon O):∀p∈dL O,0<=p/\p<=1114111:=fun p hp=>by
 rw[gO]at hp
 simp only[ins,List.any_eq_true,Bool.and_eq_true,decide_eq_true_eq]at hp
 obtain⟨r,hr,h1,h2⟩:=hp
 have:=hc.1 r hr
 unfold er at this
 omega
theorem Cc{O:RL}(hc:Canon O)(hs:∀q,ins O q=true->ins Fo.da q=true)(k:Nat)(hk:k<O.length)(m:Nat)(hm:m<=j5 O[k]):(gQ (dL (O.take k)++lS O[k].1 m)).length<=1941:=by
 have h6:=tO O hc hs
 have hlen:(dL (O.take k)++lS O[k].1 m).length<=(dL O).length:=by
  have e:dL O=dL (O.take (k+1))++dL (O.drop (k+1)):=by rw[<- mg,List.take_append_drop]
  rw[e,wo O k hk]
  simp only[List.length_append,pK]
  omega
 have hok:=qq hc
 refine Nat.le_trans (pz _ fun p hp=>?_) (by omega)
 rcases List.mem_append.1 hp with hp|hp
 ·refine hok p ?_
  rw[<- List.take_append_drop k O,mg]
  exact List.mem_append.2 (.inl hp)
 ·rw [qT]at hp
  have:=hc.1 O[k] (List.getElem_mem _)
  unfold er at this
  unfold j5 at hm
  omega
theorem FJ:GC 157 (fun a b=>a&&b):=by
 intro a b w
 cases a<;>cases b
 all_goals
  go_enter func157,ntmps157
  go_wp2
  go_ret
  exact⟨rfl,rfl⟩
theorem Cn(args:Array Value)(w:World):(callFunc 157 args).run prog w=.ok (.enter 157 args) w:=enters_of func157 (by kernel_rfl) rfl args w
theorem BQ(args:Array Value)(w:World):(callFunc 148 args).run prog w=.ok (.enter 148 args) w:=enters_of func148 (by kernel_rfl) rfl args w
theorem nr{b B2:Nat}{v0 u v:Value}{w2 wr:World}{O:RL}(h:w2.ownsRow B2 76 2 v O.length (aN O))(hk:KB b v0 w2 u wr)(hb:b<B2)(hv:∀k,v0.ownBlock=some k->k<B2):wr.ownsRow B2 76 2 v O.length (aN O):=by
 refine⟨h.1,?_⟩
 rcases h.2 with h2|⟨g,cap,cur,rfl,h3,hg,h4⟩
 ·exact Or.inl h2
 ·exact Or.inr ⟨g,cap,cur,rfl,h3,by rw[hk.1 g (Array.getElem?_eq_some_iff.1 hg).1 (by omega) (fun e=>by have:=hv g e.symm;omega)];exact hg,h4⟩
theorem G9{A O1 O:RL}{P:RL}(h1:bg (ins P) O1)(h:bg (fun q=>ins A q&&ins O1 q) O):bg (fun q=>ins A q&&ins P q) O:=by
 refine⟨h.1,fun q=>?_⟩
 have e:=h.2 q
 simp only at e |-
 rw[e,h1.2 q]
 cases decide (0<=q)<;>cases decide (q<=1114111)<;>simp
theorem ub{A O P:RL}(h:bg (fun q=>ins A q&&ins P q) O):∀q,ins O q=true->ins P q=true:=fun q hq=>by
 rw[h.2 q]at hq
 simp only[Bool.and_eq_true]at hq
 exact hq.2.2
theorem yg(B b:Nat)(hB0:3<B)(hBb:B<=b)(va:Value)(A:RL)(v:Value)(L:RL)(w:World)(hT:Fo.iP w)(hA:Reads w va A)(cA:Canon A)(lA:A.length<=400)(hbox:w.heap[b]? =some (.cells #[v] 22 (0,0)))(hown:w.ownsRow B 76 2 v L.length (aN L))(hn:L.length<=400)(hB:B<=w.heap.size):
  Calls prog 147 #[va,.func (.func 148) #[] #[.pointer (some ⟨b,0,none⟩)]] w fun e w'=>∃O v',e=.returned (.tuple #[])/\bg (fun q=>ins A q&&ins Fo.da q) O/\w'.heap[b]? =some (.cells #[v'] 22 (0,0))/\w'.ownsRow B 76 2 v' (L++gQ (dL O)).length (aN (L++gQ (dL O)))/\Below B w w':=by
 have HCl:=I (vz w)
 have ent:=BQ
 have hlt0:=lt_of_block hbox
 have hv0:Hid (∀k,v.ownBlock=some k->k<w.heap.size):=fun k hk=>(hown.lt k hk).2
 obtain⟨aa,ca,hva⟩:=hA.shape
 have HA:=I hA
 have CA:=I cA
 have HB:=I hbox
 have HO:=I hown
 have HT:=I hT
 clear hA cA hbox hown hT
 obtain⟨na,hna⟩:∃na,na=A.length:=⟨_,rfl⟩
 rw[<- hna]at lA hva
 have HNA:=I hna
 clear hna
 rw[hva]at HA |-
 go_enter func147,ntmps147
 go_wp2_with fail
 refine HCl.o.mono ?_
 rintro e w1 ⟨v1,O1,rfl,ho1,hs1,hl1,hb1⟩
 have HK:=I (qG 157 _ FJ Cn _ v1 A O1 w1 (HA.o.below hb1) (ig ho1) CA.o hs1.1 (by have:=HNA.o;omega) (by omega))
 have HS1:=I hs1
 have HB1:=I hb1
 obtain⟨a1,c1,hv1⟩:=ax ho1
 rw[hv1]at HK |-
 clear HCl ho1 hs1 hb1 hv1 hl1
 go_wp2_with fail
 refine HK.o.mono ?_
 rintro e w2 ⟨v2,O,rfl,ho2,hs2,hb2⟩
 have HS:=I (G9 HS1.o hs2)
 have hb02:Below w.heap.size w w2:=HB1.o.trans (hb2.mono HB1.o.size)
 have HO2:=I (jr ho2 HB1.o.size)
 have HB2:=I hb02
 obtain⟨a2,c2,hv2⟩:=ax ho2
 rw[hv2]at HO2 |-
 obtain⟨n,hnn⟩:∃n,n=O.length:=⟨_,rfl⟩
 have HN:=I hnn
 have hn3:Hid (n<=2000000):=by
  show n<=2000000
  have h1:=tO O HS.o.1 (ub HS.o)
  have h2:∀M:RL,(∀r∈M,er r)->M.length<=(dL M).length:=by
   intro M
   induction M with
   |nil=>intro _;exact U _
   |cons r M ih=>
    intro hM
    have a1:=ih (fun x hx=>hM x (List.mem_cons_of_mem _ hx))
    have a2:=hM r (List.mem_cons_self ..)
    unfold er at a2
    rw[dL,List.length_append,pK,List.length_cons]
    unfold j5
    omega
  have h3:=h2 O HS.o.1.1
  omega
 have hn3':=hn3.o
 rw[<- hnn]at HO2 |-
 have hBw2:B<=w2.heap.size:=Nat.le_trans hB hb02.size
 clear HK ho2 hs2 hb2 hv2 hb02 hnn HS1 HB1
 go_wp2_with fail
 go_loopw [17] (fun i wr=>∃(k:Nat) (u:Value),k<=n/\i=.int .i64 k/\wr.heap[b]? =some (.cells #[u] 22 (0,0))/\wr.ownsRow B 76 2 u (L++gQ (dL (O.take k))).length (aN (L++gQ (dL (O.take k))))/\Below B w2 wr/\KB b v w2 u wr) (fun i _=>n - (intOf i).toNat)
 case atStart=>exact⟨0,v,Nat.zero_le _,rfl,by rw[HB2.o.block b hlt0];exact HB.o,by rw[show L++gQ (dL (O.take 0))=L from by simp[gQ,dL]];exact cp HO.o HB2.o,J _ _,KB.refl _ _ _⟩
 case round=>
  obtain⟨k,u,hk,rfl,hb,ho,hbl,hkb⟩:=hrel
  by_cases hlk:k<n
  ·have hkO:k<O.length:=by have:=HN.o;omega
   have hkeep:=nr (by rw[HN.o]at HO2;exact HO2.o) hkb hlt0 hv0.o
   obtain⟨x,cx,hx,hcx⟩:=(ig hkeep).some (by omega)
   obtain⟨rfl⟩:a2=some x:=by cases hx;rfl
   obtain⟨d1,d2⟩:=hcx k hkO
   have hr:=HS.o.1.1 O[k] (List.getElem_mem _)
   have hroom:=I (fun m hm=>Cc HS.o.1 (ub HS.o) k hkO m hm)
   have hpt:=I (wo O k hkO)
   obtain⟨r,hr'⟩:∃r,r=O[k]:=⟨_,rfl⟩
   rw[<- hr']at d1 d2 hr hroom hpt
   obtain⟨p,q⟩:=r
   unfold er at hr
   simp only at d1 d2 hr hroom hpt
   obtain⟨r0,r1,r2⟩:=hr
   have hltb:=lt_of_block hb
   have hBwr:=Nat.le_trans hBw2 hbl.size
   have hown_lt:Hid (∀k,u.ownBlock=some k->k<wr.heap.size):=fun k hk=>(ho.lt k hk).2
   have HBk:=I hb
   have HOk:=I ho
   have HBl:=I hbl
   have HKB:=I hkb
   clear hb ho hbl hkb hkeep hx hcx hr'
   go_wp2_with fail
   obtain⟨W,hW⟩:∃W,W=wr.alloc (.cells #[.int .i64 p,.int .i64 q] 76):=⟨_,rfl⟩
   have HBW:Hid (Below B w2 W):=by rw[hW];exact HBl.o.alloc hBwr _
   have HKW:Hid (KB b v w2 u W):=by rw[hW];exact HKB.o.trans (KB.below ((J _ wr).alloc (U _) _)) HBl.o.size
   have HCq:Hid (∀u' ws,KB b u W u' ws->ws.cell? ⟨wr.heap.size,1,none⟩=some (.int .i64 q)):=fun u' ws hk=>by
    rw[qA (w:=W) (hk.1 wr.heap.size (by rw[hW];simp) (by omega) (fun e=>by have:=hown_lt.o _ e.symm;omega)),hW]
    exact World.cell?_alloc_at _ _ _ _ rfl
   have hBW:B<=W.heap.size:=Nat.le_trans hBw2 HBW.o.size
   have HXW:Hid (W.heap[b]? =some (.cells #[u] 22 (0,0))):=by show _=_;rw[hW,Below.heap_alloc _ _ _ hltb];exact HBk.o
   have HOW:Hid (W.ownsRow B 76 2 u (L++gQ (dL (O.take k))).length (aN (L++gQ (dL (O.take k))))):=by rw[hW];exact HOk.o.alloc _
   have HTW:Hid (Fo.iP W):=(HT.o.below HB2.o (by omega)).below HBW.o hB0
   rw[<- hW]
   clear d1 d2 HBk HOk hown_lt HBl HKB hltb
   go_loopw [8] (fun i ws=>∃(m:Nat) (u':Value) (z:Int),z=p+m/\m<=j5 (p,q)/\i=.int .i64 z/\ws.heap[b]? =some (.cells #[u'] 22 (0,0))/\ws.ownsRow B 76 2 u' (L++gQ (dL (O.take k)++lS p m)).length (aN (L++gQ (dL (O.take k)++lS p m)))/\Below B W ws/\KB b u W u' ws) (fun i _=>(q+1 - intOf i).toNat)
   case atStart=>exact⟨0,u,p,by simp,Nat.zero_le _,rfl,HXW.o,by rw[show dL (O.take k)++lS p 0=dL (O.take k)from by simp[lS]];exact HOW.o,J _ _,KB.refl _ _ _⟩
   case round=>
    obtain⟨m,u',z,hz,hm,rfl,hb,ho,hbl,hkb⟩:=hrel
    have hcq:=HCq.o u' wr hkb
    by_cases hzq:z<=q
    ·have hz0:0<=z:=by omega
     have hz1:IntKind.i64.wrap (z+1)=z+1:=by rw[IntKind.wrap_i64];omega
     have hlen:=hroom.o m hm
     have HE:=I (Jp B b hB0 hBb u' _ z hz0 (by omega) wr (HTW.o.below hbl hB0) hb ho (by rw[List.length_append];omega) (Nat.le_trans hBW hbl.size))
     have HZ:=I hz
     have HBl:=I hbl
     have HKB:=I hkb
     have hm1:m+1<=j5 (p,q):=by unfold j5;simp only;omega
     clear hz hlen hb ho hbl hkb
     go_wp2_with fail
     refine HE.o.mono ?_
     rintro e w3 ⟨rfl,⟨u2,hbx,hown,hkb2⟩,hbl2⟩
     have HX3:=I hbx
     have HO3:=I hown
     have HK3:=I hkb2
     have HB3:=I hbl2
     clear HE hbx hown hkb2 hbl2
     go_wp2
     go_roundw
     case rel=>exact⟨m+1,u2,z+1,by have:=HZ.o;omega,hm1,by go_num,HX3.o,by rw[CC, <-HZ.o, <-List.append_assoc (dL _),kI,qR, <-List.append_assoc L];exact HO3.o,HBl.o.trans HB3.o,HKB.o.trans HK3.o HBl.o.size⟩
     case measure=>simp[intOf];omega
    ·have hme:m=j5 (p,q):=by unfold j5 at hm |-;simp only at hm |-;omega
     rw[hme]at ho
     have HX3:=I hb
     have HO3:=I ho
     have HB3:=I hbl
     have HK3:=I hkb
     clear hb ho hbl hkb
     go_wp2
     go_roundw
     case rel=>exact⟨k+1,u',by omega,by go_num,HX3.o,by rw[hpt.o];exact HO3.o,HBW.o.trans HB3.o,HKW.o.trans HK3.o HBW.o.size⟩
     case measure=>simp[intOf];omega
  ·rw [List.take_of_length_le (by have:=HN.o;omega)]at ho
   have HX3:=I hb
   have HO3:=I ho
   have HB3:=I hbl
   clear hb ho hbl hkb
   go_wp2
   go_end0
   exact⟨O,u,rfl,HS.o,HX3.o,HO3.o,(HB2.o.mono hB).trans HB3.o⟩
end Go.Proofs.YtklbbbldalmnbaaGreatDoor
