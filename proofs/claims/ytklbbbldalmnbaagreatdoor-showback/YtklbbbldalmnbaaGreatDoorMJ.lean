import Derived.Test.YtklbbbldalmnbaaGreatDoorMI
set_option maxHeartbeats 8000000
set_option linter.unusedVariables false
set_option maxRecDepth 100000
open Go.Proofs.Tryz
namespace Go.Proofs.YtklbbbldalmnbaaGreatDoor.Pa
open Go.RowKit
open TR (Tr NV aL cz aG aV bS)
open TK (Mv bJ)
open Br (BE PS aw bC ez bI OR bm)
variable {w w' : World} {g : Nat} {v : Value} {l : List Int} {d : Int} {s s' : St} {nv av : Value}
theorem nA:(Tryz.prog.info? 25).map (fun i=>(i.zero,i.size,i.bytes))=some (some (.agg #[.int .i64 0,.slice none 0 0,.slice none 0 0,.int .i64 0,.int .i64 0,.int .i64 0,.int .i64 0,.bool false]),8,96):=by kernel_rfl
structure Flat(w:World)(lo hi:Nat)(ps:List Pc)(j:Nat)(ks:List Pc):Prop where
 all:∀q∈ks,bG w q.lo q.hi q.nv q.tr/\lo<=q.lo/\q.lo<=q.hi/\q.hi<=hi
 par:ks.Pairwise fun a b=>a.hi<=b.lo
 J8:∀q∈ks,∀i (h:i<ps.length),j<=i->q.hi<=ps[i].lo
theorem Flat.nil(w:World)(lo hi:Nat)(ps:List Pc):Flat w lo hi ps 0 []:=⟨fun q hq=>(by cases hq),List.Pairwise.nil,fun q hq=>(by cases hq)⟩
theorem Flat.skip{w:World}{lo hi j:Nat}{ps ks:List Pc}(h:Flat w lo hi ps j ks):Flat w lo hi ps (j+1) ks:=⟨h.all,h.par,fun q hq i hi hj=>h.J8 q hq i hi (by omega)⟩
theorem Flat.many{w:World}{lo hi j:Nat}{ps ks:List Pc}{v:Value}(hp:ct w lo hi v ps)(h:Flat w lo hi ps j ks)(hj:j<ps.length){qs:List Pc}(h1:∀q∈qs,bG w q.lo q.hi q.nv q.tr/\ps[j].lo<=q.lo/\q.lo<=q.hi/\q.hi<=ps[j].hi)(h2:qs.Pairwise fun a b=>a.hi<=b.lo):Flat w lo hi ps (j+1) (ks++qs):=by
 have hr:=hp.row.kV ps[j] (List.getElem_mem hj)
 refine⟨fun q hq=>?_,?_,fun q hq i hi hji=>?_⟩
 ·rcases List.mem_append.1 hq with h3|h3
  ·exact h.all q h3
  ·obtain ⟨a,b,c,e⟩:=h1 q h3
   exact⟨a,by omega,c,by omega⟩
 ·rw [List.pairwise_append]
  refine⟨h.par,h2,fun a ha b hb=>?_⟩
  have:=h.J8 a ha j hj (U _)
  have:=(h1 b hb).2.1
  omega
 ·rcases List.mem_append.1 hq with h3|h3
  ·exact h.J8 q h3 i hi (by omega)
  ·have h4:=(h1 q h3).2.2.2
   have h5:=List.pairwise_iff_getElem.1 hp.row.par j i hj hi (by omega)
   omega
theorem Flat.one{w:World}{lo hi j:Nat}{ps ks:List Pc}{v:Value}(hp:ct w lo hi v ps)(h:Flat w lo hi ps j ks)(hj:j<ps.length):Flat w lo hi ps (j+1) (ks++[ps[j]]):=by
 have hr:=hp.row.kV ps[j] (List.getElem_mem hj)
 exact h.many hp hj (fun q hq=>by rw[List.mem_singleton]at hq;subst hq;exact⟨hp.all _ (List.getElem_mem hj),U _,hr.2.1,U _⟩) (List.pairwise_singleton _ _)
theorem Flat.pieces{w w':World}{lo hi j:Nat}{ps ks:List Pc}{kv:Value}(h:Flat w lo hi ps j ks)(hhi:hi<=w.heap.size)(hlo:lo<=w.heap.size)(hb:Below w.heap.size w w')(ho:w'.ownsRow w.heap.size 25 8 kv ks.length (bu ks)):ct w' lo w'.heap.size kv ks:=by
 refine⟨⟨jr ho hlo,fun k hk=>⟨(ho.lt k hk).2,fun p hp=>.inr ?_⟩,fun p hp=>?_,h.par⟩,fun p hp=>?_⟩
 ·have :=(ho.lt k hk).1
  have:=(h.all p hp).2.2.2
  omega
 ·obtain ⟨_,a,b,c⟩:=h.all p hp
  have:=hb.size
  exact⟨a,b,by omega⟩
 ·exact(h.all p hp).1.ar (br.ae hb (by have:=(h.all p hp).2.2.2;omega))
theorem bG.EX{w:World}{lo hi:Nat}{n:NV}{t:Tr}(h:bG w lo hi n t):t.kind=n.kind/\∃qs:List Pc,t.kids=qs.map Pc.tr/\(n.kind=9\/n.kind=10->qs≠[])/\w.ownsRow lo 25 8 (.slice n.ka n.kl n.kc) qs.length (bu qs)/\(∀q∈qs,bG w q.lo q.hi q.nv q.tr/\lo<=q.lo/\q.lo<=q.hi/\q.hi<=hi)/\(qs.Pairwise fun a b=>a.hi<=b.lo):=by
 cases h with
 |mk _ _ n S ps hs hk hne h=>exact⟨rfl,ps,rfl,hne,hk.own,fun q hq=>⟨h q hq,hk.kV q hq⟩,hk.par⟩
theorem iQ(W:World)(n:NV):∀j u,(oy n)[j]? =some u->(W.alloc (aG n)).cell? ((⟨W.heap.size,0,none⟩:Addr).add j)=some u:=by
 intro j u hj
 have:=World.news_of_block (cs:=#[.int .i64 n.kind,.slice n.sa n.sl n.sc,.slice n.ka n.kl n.kc,.int .i64 n.num,.int .i64 n.least,.int .i64 n.an,.int .i64 n.bB,.bool n.fold]) (t:=25) (fr:=(0,0)) (heap_alloc_new W (aG n)) j u
 exact this hj
def oU(t:Tr):List Tr:=if t.kind=1 then []else if t.kind=9 then t.kids else [t]
def mJ(t:Tr):List Tr:=if t.kind=10 then t.kids else [t]
def ud(bs:List Tr):List Tr:=bs.flatMap mJ
theorem td{C:Tr->List Tr}(ps:List Pc)(j:Nat)(hj:j<ps.length):((ps.take (j+1)).map Pc.tr).flatMap C=((ps.take j).map Pc.tr).flatMap C++C ps[j].tr:=by
 rw[List.take_add_one,List.getElem?_eq_getElem hj,List.map_append,List.flatMap_append]
 congr 1
 simp
theorem jx{C:Tr->List Tr}(ps:List Pc)(j:Nat):(((ps.take j).map Pc.tr).flatMap C).length<=((ps.map Pc.tr).flatMap C).length:=by
 conv=>rhs;rw[<- List.take_append_drop j ps]
 rw[List.map_append,List.flatMap_append,List.length_append]
 omega
theorem jN{w wr W W':World}{kv:Value}{n:Nat}{xs:List Value}(hb:Below w.heap.size w wr)(hb2:Below wr.heap.size wr W)(ho:wr.ownsRow (w.heap.size+1) 25 8 kv n xs)(hg:W.grownBy W' kv.ownBlock):Below w.heap.size w W':=
 (hb.trans (hb2.mono hb.size)).grown hg (Nat.le_trans hb.size hb2.size) (fun k hk=>by have:=(ho.lt k hk).1;omega)
theorem gb{W W' W3:World}{kv:Value}{n B N:Nat}{xs:List Value}{o:Obj}(hg:W.grownBy W' kv.ownBlock)(hNB:N<B)(ho:W3.ownsRow B 25 8 kv n xs)(hN:W.heap[N]? =some o):W'.heap[N]? =some o:=by
 rw[hg.block N (TR.lt_of_block hN) (fun e=>by have:=(ho.lt N e.symm).1;omega)]
 exact hN
theorem ju{W:World}{B e k n:Nat}{v:Value}{xs:List Value}(h:W.ownsRow B e k v n xs)(hn:0<n):∃b cap,v=.slice (some ⟨b,0,none⟩) n cap/\b<W.heap.size:=by
 rcases h.2 with⟨_,h0⟩|⟨b,cap,cur,h1,_,h3,_⟩
 ·omega
 ·exact⟨b,cap,h1,TR.lt_of_block h3⟩
theorem Aj{W W':World}{B B' e k n N:Nat}{v:Value}{xs:List Value}(h:W.ownsRow B e k v n xs)(hm:Mv N W W')(hN:N<B/\B'<=B):W'.ownsRow B' e k v n xs:=by
 refine⟨h.1,?_⟩
 rcases h.2 with h2|⟨b,cap,cur,rfl,h3,hg,h4⟩
 ·exact .inl h2
 ·exact .inr ⟨b,cap,cur,rfl,by omega,by rw[hm.block b (TR.lt_of_block hg) (by omega)];exact hg,h4⟩
theorem lG{W W':World}{B:Nat}{a:Addr}{n:NV}(h:aL W a n)(hb:Below B W W')(ha:a.block<B):aL W' a n:=
 ⟨aE hb ha h.c0,aE hb ha h.c1,aE hb ha h.c2,aE hb ha h.c3,aE hb ha h.c4,aE hb ha h.c5,aE hb ha h.c6,aE hb ha h.c7⟩
theorem BH{bs:List Tr}{ks:List Pc}(h:ks.map Pc.tr=ud bs)(h2:2<=bs.length):eX bs=.mk 10 0 0 0 0 false [] (ks.map Pc.tr):=by
 rw[h]
 unfold eX
 match bs,h2 with
 |a::b::r,_=>rfl
theorem BZ{bs:List Tr}{ks:List Pc}(h:ks.map Pc.tr=ud bs)(h2:2<=bs.length)(hk:∀t∈bs,t.kind=10->t.kids≠[]):ks≠[]:=by
 intro e
 rw[e]at h
 match bs,h2 with
 |a::b::r,_=>
  have h3:mJ a=[]:=by
   have:ud (a::b::r)=mJ a++ud (b::r):=rfl
   rw[this]at h
   exact(List.append_eq_nil_iff.1 h.symm).1
  unfold mJ at h3
  split at h3
  ·rename_i hk10
   exact hk a (by simp) hk10 h3
  ·cases h3
theorem Ip{lo hi:Nat}{ps:List Pc}(hp:ct w lo hi v ps)(hhi:hi<=w.heap.size)(hlo:lo<=w.heap.size)(hps:ps.length<=1000000)(hlen:(iK (ps.map Pc.tr)).length<=1000000):Calls prog 78 #[v] w fun e w'=>∃n',e=.returned (cz n')/\bG w' lo w'.heap.size n' (gU (ps.map Pc.tr))/\Below w.heap.size w w':=by
 obtain⟨i0,hi0,hz0,hz1,hz2⟩:=info_parts nA
 obtain⟨ao,c,hv⟩:=ax hp.row.own
 obtain⟨m,hm⟩:∃m,m=ps.length:=⟨_,rfl⟩
 rw[<- hm]at hv hps
 have HM:=I hm
 have HP:=I hp
 have HHI:=I hhi
 have HLO:=I hlo
 have HLEN:=I hlen
 have HV:=I hv
 have HCell:Hid (∀W,Below w.heap.size w W->∀j (hj:j<ps.length),∃b cap,ao=some ⟨b,0,none⟩/\c=cap/\m<=cap/\aL W ⟨b,j*8,none⟩ ps[j].nv):=fun W hb j hj=>by
  have ho:=HP.o.row.own
  rw[HV.o, <-HM.o]at ho
  rcases ho.2 with⟨_,h0⟩|⟨b,cap,cur,h1,_,h3,h4,_⟩
  ·omega
  ·cases h1
   rw[HM.o]at ho
   exact⟨b,c,rfl,rfl,h4,lG (eY ho hj) hb (TR.lt_of_block h3)⟩
 rw[hv]
 clear hp hhi hlo hlen hm hv
 have hbN:Below w.heap.size w (w.alloc (aG aJ)):=(J _ w).alloc (U _) _
 have HN0:Hid ((w.alloc (aG aJ)).heap[w.heap.size]? =some (aG aJ)):=TK.aj _ _
 obtain⟨W0,hW0⟩:∃W0,W0=w.alloc (aG aJ):=⟨_,rfl⟩
 have hsz0:w.heap.size+1=W0.heap.size:=by rw[hW0];simp
 rw[<- hW0]at hbN HN0
 simp only[aG,aJ]at hW0
 have HBN:=I hbN
 have HSZ:=I hsz0
 clear hbN hsz0
 go_enter func78,ntmps78
 go_wp2_with fail
 rw[<- hW0]
 clear hW0
 obtain⟨N,hNe⟩:∃N,N=w.heap.size:=⟨_,rfl⟩
 have HNe:=I hNe
 rw[<- hNe]at HN0 |-
 clear hNe
 go_loopw [3,8] (fun kv u wr=>∃(j:Nat) (ks:List Pc),j<=m/\u=.int .i64 j/\Flat w lo hi ps j ks/\ks.map Pc.tr=((ps.take j).map Pc.tr).flatMap oU/\wr.ownsRow (w.heap.size+1) 25 8 kv ks.length (bu ks)/\Below w.heap.size w wr/\wr.heap[N]? =some (aG aJ)) (fun _ u _=>m - (intOf u).toNat)
 case atStart=>exact⟨0,[],Nat.zero_le _,rfl,Flat.nil _ _ _ _,by simp,World.ownsRow_nil _ _ _ _,HBN.o,HN0.o⟩
 case round=>
  obtain⟨j,ks,hj,rfl,hF,hT,ho,hb,hN⟩:=hrel
  obtain⟨wr2,hwr⟩:∃wr2,wr2=wr:=⟨_,rfl⟩
  subst hwr
  have HF:=I hF
  have HT:=I hT
  have HO:=I ho
  have HB:=I hb
  have HN:=I hN
  have hkl:ks.length<=1000000:=by
   have h1:=congrArg List.length hT
   rw[List.length_map]at h1
   have h2:=jx (C:=oU) ps j
   have h3:=HLEN.o
   change ((ps.map Pc.tr).flatMap oU).length<=1000000 at h3
   omega
  obtain⟨ko,kc,hkv⟩:=ax ho
  obtain⟨kn,hkn⟩:∃kn,kn=ks.length:=⟨_,rfl⟩
  rw[<- hkn]at hkv hkl
  have HKN:=I hkn
  rw[hkv]at HO |-
  have HO1:Hid (wr2.ownsRow (w.heap.size+1) 25 8 (.slice ko kn kc) ks.length (bu ks)):=HO.o
  have HF1:Hid (∀p:Pc,lo<=w.heap.size+0->True):=fun _ _=>trivial
  rw[<- hkn]at HO
  clear hF hT ho hb hN hkv hkn
  by_cases hlt:j<m
  ·have hjl:j<ps.length:=by have:=HM.o;omega
   obtain⟨b,cap,hao,hc,hcap,hcl⟩:=HCell.o wr2 HB.o j hjl
   have HNI:=I (HP.o.all ps[j] (List.getElem_mem hjl))
   have HONE:=I (HF.o.one HP.o hjl)
   have HTK:=I (td (C:=oU) ps j hjl)
   obtain⟨hkind,qs,hqk,hqne,hqo,hqa,hqp⟩:=HNI.o.EX
   have HMANY:=I (HF.o.many HP.o hjl hqa hqp)
   have hlen2:=jx (C:=oU) ps (j+1)
   rw[HTK.o,List.length_append]at hlen2
   have h3:=HLEN.o
   change ((ps.map Pc.tr).flatMap oU).length<=1000000 at h3
   have hTl:=congrArg List.length HT.o
   rw[List.length_map, <-HKN.o]at hTl
   have HTl:=I hTl
   clear hTl
   have HSK:=I HF.o.skip
   obtain⟨p,hpp⟩:∃p,p=ps[j]:=⟨_,rfl⟩
   rw[<- hpp]at hcl HNI HONE HTK hkind hqk hqne hqo hqa hlen2
   obtain⟨n,hn⟩:∃n,n=p.nv:=⟨_,rfl⟩
   rw[<- hn]at hcl hkind hqne hqo
   have HNn:=I hn
   subst hao hc
   obtain⟨e0,e1,e2,e3,e4,e5,e6,e7⟩:=hcl
   simp only at e0 e1 e2 e3 e4 e5 e6 e7
   have e8:(j:Int)<(m:Int):=by omega
   have e9:(0:Int)<=(j:Int):=by omega
   have hjw:IntKind.i64.wrap ((j:Int)+1)=(j:Int)+1:=by rw[IntKind.wrap_i64];omega
   have HQO:=I hqo
   have HQN:=I hqne
   have HQK:=I hqk
   have HKD:=I hkind
   clear hpp hn hqo hqa hqp hqne hqk
   go_upto_region 5 with fail
   obtain⟨w3,hw3⟩:∃w3,w3=wr2.alloc (aG n):=⟨_,rfl⟩
   have hL:w3.heap[wr2.heap.size]? =some (aG n):=by rw[hw3];exact TK.aj _ _
   have hb3:Below wr2.heap.size wr2 w3:=by rw[hw3];exact(J _ wr2).alloc (U _) _
   obtain⟨d0,d1,d2,d3,d4,d5,d6,d7⟩:=aU hL
   have HL:=I hL
   have HB3:=I hb3
   have HO3:=I (cp HO.o hb3)
   have HN3:Hid (w3.heap[N]? =some (aG aJ)):=by show _=_;rw[hb3.block N (TR.lt_of_block HN.o)];exact HN.o
   have hsz3:w.heap.size+1<=w3.heap.size:=by have h1:=TR.lt_of_block HN3.o;have h2:=HNe.o;omega
   have HLt:Hid (wr2.heap.size<w3.heap.size):=TR.lt_of_block hL
   simp only[aG]at hw3
   rw[<- hw3]
   obtain⟨M,hMe⟩:∃M,M=wr2.heap.size:=⟨_,rfl⟩
   rw[<- hMe]at d0 d1 d2 d3 d4 d5 d6 d7 HL HLt |-
   clear hw3 hL hb3 e0 e1 e2 e3 e4 e5 e6 e7 hMe
   by_cases k1:n.kind=1
   ·have EC:oU p.tr=[]:=by unfold oU;rw[if_pos (by rw[hkind];exact k1)]
    have HB4:Hid (Below w.heap.size w w3):=HB.o.trans (HB3.o.mono HB.o.size)
    clear d1 d2 d3 d4 d5 d6 d7
    go_wp2
    go_roundw
    case rel=>exact⟨j+1,ks,by omega,by go_num,HSK.o,by rw[HT.o,HTK.o,EC,List.append_nil],by rw[<- HKN.o];exact HO3.o,HB4.o,HN3.o⟩
    case measure=>simp[intOf];omega
   ·have q1:(n.kind==1)=false:=by simpa using k1
    by_cases k9:n.kind=9
    ·have EC:oU p.tr=p.tr.kids:=by unfold oU;rw[if_neg (by rw[hkind];exact k1),if_pos (by rw[hkind];exact k9)]
     have KK:=k9
     obtain⟨qg,qcap,hqv,hqb⟩:=ju HQO.o (List.length_pos_iff.2 (HQN.o (by rw[KK];decide)))
     have hql:qs.length<=1000000:=by have h1:=congrArg List.length HQK.o;rw[List.length_map]at h1;rw[EC,HQK.o,List.length_map]at hlen2;have h9:=HTl.o;omega
     have hkq:kn+qs.length<=1000000:=by rw[EC,HQK.o,List.length_map]at hlen2;have h9:=HTl.o;omega
     have hqo3:∀i u,(bu qs)[i]? =some u->w3.cell? ((⟨qg,0,none⟩:Addr).add i)=some u:=fun i u hu=>by
      have h1:=HQO.o.cells (g:=qg) (by rw[hqv];rfl) i u hu
      exact aE ((HB.o.trans (HB3.o.mono HB.o.size))) (by rw[C0];exact hqb) h1
     have hqlen:=l7 qs
     rw[hqv]at d2
     have HQ3:=I hqo3
     clear hqo3 hqv
     go_wp2_with (at_builtin;refine wpList_append_own_at _ rfl _ _ 23 rfl (w.heap.size+1) 25 i0 (.agg #[.int .i64 0,.slice none 0 0,.slice none 0 0,.int .i64 0,.int .i64 0,.int .i64 0,.int .i64 0,.bool false]) 8 96 underlying23 hi0 hz0 hz1 hz2 rfl (by decide) _ _ _ rfl HO3.o ⟨qg,0,none⟩ qs.length qcap (bu qs) rfl hqlen HQ3.o (ow qs) (by unfold maxLen;omega) (by omega) (by omega) ?_)
     intro v' w4 hown' hgrow _ _
     have HO4:Hid (w4.ownsRow (w.heap.size+1) 25 8 v' (ks++qs).length (bu (ks++qs))):=by
      show World.ownsRow _ _ _ _ _ _ _
      rw[eQ,List.length_append, <-HKN.o]
      exact hown'
     have HB4:Hid (Below w.heap.size w w4):=jN HB.o HB3.o HO.o hgrow
     have HN4:Hid (w4.heap[N]? =some (aG aJ)):=gb hgrow (by have:=HNe.o;omega) HO3.o HN3.o
     obtain⟨vo,vc,hv4⟩:=ax hown'
     obtain⟨n4,hn4⟩:∃n4,n4=kn+qs.length:=⟨_,rfl⟩
     rw[<- hn4]at hv4
     rw[hv4]at HO4 |-
     clear hown' hgrow hv4 d0 d1 d2 d3 d4 d5 d6 d7 hn4
     go_wp2
     go_roundw
     case rel=>exact⟨j+1,ks++qs,by omega,by go_num,HMANY.o,by rw[List.map_append,HT.o,HTK.o,EC,HQK.o],HO4.o,HB4.o,HN4.o⟩
     case measure=>simp[intOf];omega
    ·have q9:(n.kind==9)=false:=by simpa using k9
     have EC:oU p.tr=[p.tr]:=by unfold oU;rw[if_neg (by rw[hkind];exact k1),if_neg (by rw[hkind];exact k9)]
     have hk1:kn+1<=1000000:=by rw[EC]at hlen2;simp only[List.length_singleton]at hlen2;have h9:=HTl.o;omega
     go_wp2_with (at_builtin;refine wpList_append_own_at _ rfl _ _ 23 rfl (w.heap.size+1) 25 i0 (.agg #[.int .i64 0,.slice none 0 0,.slice none 0 0,.int .i64 0,.int .i64 0,.int .i64 0,.int .i64 0,.bool false]) 8 96 underlying23 hi0 hz0 hz1 hz2 rfl (by decide) _ _ _ rfl (HO3.o.alloc _) ⟨w3.heap.size,0,none⟩ 1 1 (oy n) rfl rfl (iQ w3 n) (mS n) (by unfold maxLen;omega) (by omega) (by simp;omega) ?_)
     intro v' w4 hown' hgrow _ _
     have HO4:Hid (w4.ownsRow (w.heap.size+1) 25 8 v' (ks++[p]).length (bu (ks++[p]))):=by
      show World.ownsRow _ _ _ _ _ _ _
      rw[eQ,lT, <-HNn.o,List.length_append, <-HKN.o]
      exact hown'
     have HB4:Hid (Below w.heap.size w w4):=jN HB.o (HB3.o.trans (((J _ w3).alloc (U _) _).mono HB3.o.size)) HO.o hgrow
     have HN4:Hid (w4.heap[N]? =some (aG aJ)):=gb hgrow (by have:=HNe.o;omega) HO3.o (TK.ba HN3.o)
     obtain⟨vo,vc,hv4⟩:=ax hown'
     rw[hv4]at HO4 |-
     clear hown' hgrow hv4 d0 d1 d2 d3 d4 d5 d6 d7
     go_wp2
     go_roundw
     case rel=>exact⟨j+1,ks++[p],by omega,by go_num,HONE.o,by rw[List.map_append,HT.o,HTK.o,EC];rfl,HO4.o,HB4.o,HN4.o⟩
     case measure=>simp[intOf];omega
  ·have hjm:j=m:=by omega
   have hTT:ks.map Pc.tr=iK (ps.map Pc.tr):=by
    rw[HT.o,hjm,HM.o,List.take_length]
    rfl
   have HPS:=I (HF.o.pieces HHI.o HLO.o HB.o (jr HO1.o (Nat.le_succ _)))
   have hfr:=bH HN.o
   obtain⟨x0,x1,x2,x3,x4,x5,x6,x7⟩:=aU HN.o
   have HNn:=I (show w.heap.size<=N by have:=HNe.o;omega)
   by_cases z0:kn=0
   ·have hnil:ks=[]:=List.eq_nil_of_length_eq_zero (by have:=HKN.o;omega)
    have hE:Hid (gU (ps.map Pc.tr)=gI):=by show _=_;unfold gU;rw[<- hTT,hnil];rfl
    subst z0
    clear hTT hnil
    go_wp21
    obtain⟨W4,hW4⟩:∃W4,W4=setNode wr2 N ⟨1,none,0,0,none,0,0,0,0,0,0,false⟩:=⟨_,rfl⟩
    have hN4:W4.heap[N]? =some (aG ⟨1,none,0,0,none,0,0,0,0,0,0,false⟩):=by rw[hW4];exact bM HN.o _
    have hb4:Below w.heap.size w W4:=by rw[hW4];exact gi HB.o HNn.o _
    simp only[setNode]at hW4
    rw[<- hW4]
    refine cH (N:=N) results78 rfl (TR.ak hN4) ⟨_,rfl,?_,hb4⟩
    rw[hE.o]
    exact bG.leaf _ _ _ 1 0 0 0 0 false (by decide)
   ·by_cases z1:kn=1
    ·obtain ⟨p,hks⟩:∃p,ks=[p]:=List.length_eq_one_iff.1 (by have:=HKN.o;omega)
     have hE:Hid (gU (ps.map Pc.tr)=p.tr):=by show _=_;unfold gU;rw[<- hTT,hks];rfl
     obtain⟨kg,kcap,hkv,hkb⟩:=ju (HO1.o) (by rw[hks];simp)
     have hcl:=HO1.o
     rw[hkv,hks]at hcl
     have hcells:=eY hcl (j:=0) (by simp)
     have HNI:=I (HPS.o.all p (by rw[hks];simp))
     have HFA:=I (HF.o.all p (by rw[hks];simp))
     have HHh:=HHI.o
     obtain⟨n,hn⟩:∃n,n=p.nv:=⟨_,rfl⟩
     have hcells2:aL wr2 ⟨kg,0,none⟩ n:=by rw[hn];exact hcells
     rw[<- hn]at HNI
     obtain⟨e0,e1,e2,e3,e4,e5,e6,e7⟩:=hcells2
     simp only[Nat.zero_add]at e0 e1 e2 e3 e4 e5 e6 e7
     have hko:ko=some ⟨kg,0,none⟩:=by injection hkv
     subst hko z1
     have hkgN:¬kg=N:=by have h1:=(HO1.o.lt kg rfl).1;have:=HNe.o;omega
     have hNkg:¬N=kg:=fun e=>hkgN e.symm
     clear hTT hks hcl hcells hkv hn
     go_wp21
     obtain⟨W4,hW4⟩:∃W4,W4=setNode wr2 N n:=⟨_,rfl⟩
     have hN4:W4.heap[N]? =some (aG n):=by rw[hW4];exact bM HN.o _
     have hb4:Below w.heap.size w W4:=by rw[hW4];exact gi HB.o HNn.o _
     have hm4:Mv N wr2 W4:=by rw[hW4];exact bN (Mv.refl N wr2) n
     simp only[setNode]at hW4
     rw[<- hW4]
     refine cH (N:=N) results78 rfl (TR.ak hN4) ⟨_,rfl,?_,hb4⟩
     rw[hE.o]
     have hal:=HFA.o
     refine(HNI.o.ar (br.bz fun k h1 h2=>hm4.block k ?_ ?_)).wide hal.2.1 ?_
     ·have h3:=hal.2.2.2
      have h4:=HB.o.size
      omega
     ·have h3:=hal.2.2.2
      have h4:=HNn.o
      omega
     ·have h3:=hal.2.2.2
      have h4:=hb4.size
      omega
    ·have hE:Hid (gU (ps.map Pc.tr)=.mk 9 0 0 0 0 false [] (ks.map Pc.tr)):=by
      show _=_
      have h1:=HKN.o
      unfold gU
      rw[<- hTT]
      match ks,h1 with
      |[],h1=>simp at h1;omega
      |[a],h1=>simp at h1;omega
      |a::b::r,_=>rfl
     have q0:¬(kn:Int)=0:=by omega
     have q1:¬(kn:Int)=1:=by omega
     have hne:ks≠[]:=fun e=>by have h1:=HKN.o;rw[e]at h1;simp at h1;omega
     clear hTT
     go_wp21
     obtain⟨W4,hW4⟩:∃W4,W4=setNode wr2 N ⟨9,none,0,0,ko,kn,kc,0,0,0,0,false⟩:=⟨_,rfl⟩
     have hN4:W4.heap[N]? =some (aG ⟨9,none,0,0,ko,kn,kc,0,0,0,0,false⟩):=by rw[hW4];exact bM HN.o _
     have hb4:Below w.heap.size w W4:=by rw[hW4];exact gi HB.o HNn.o _
     have hm4:Mv N wr2 W4:=by rw[hW4];exact bN (Mv.refl N wr2) _
     simp only[setNode]at hW4
     rw[<- hW4]
     refine cH (N:=N) results78 rfl (TR.ak hN4) ⟨_,rfl,?_,hb4⟩
     rw[hE.o]
     exact(HF.o.pieces HHI.o HLO.o hb4 (Aj HO1.o hm4 (by have:=HNe.o;omega))).node 9 0 0 0 0 false hne
variable {w w' : World} {g : Nat} {v : Value} {l : List Int} {d : Int} {s s' : St} {nv av : Value}
theorem A3{lo hi:Nat}{ps:List Pc}(hp:ct w lo hi v ps)(hhi:hi<=w.heap.size)(hlo:lo<=w.heap.size)(hps:ps.length<=1000000)(hlen:(ud (ps.map Pc.tr)).length<=1000000)(h2:2<=ps.length):Calls prog 67 #[v] w fun e w'=>∃n',e=.returned (cz n')/\bG w' lo w'.heap.size n' (eX (ps.map Pc.tr))/\Below w.heap.size w w':=by
 obtain⟨i0,hi0,hz0,hz1,hz2⟩:=info_parts nA
 obtain⟨ao,c,hv⟩:=ax hp.row.own
 obtain⟨m,hm⟩:∃m,m=ps.length:=⟨_,rfl⟩
 rw[<- hm]at hv hps
 have HM:=I hm
 have HP:=I hp
 have HHI:=I hhi
 have HLO:=I hlo
 have HLEN:=I hlen
 have HV:=I hv
 have qm:((m:Int)==1)=false:=by simp;omega
 have HCell:Hid (∀W,Below w.heap.size w W->∀j (hj:j<ps.length),∃b cap,ao=some ⟨b,0,none⟩/\c=cap/\m<=cap/\aL W ⟨b,j*8,none⟩ ps[j].nv):=fun W hb j hj=>by
  have ho:=HP.o.row.own
  rw[HV.o, <-HM.o]at ho
  rcases ho.2 with⟨_,h0⟩|⟨b,cap,cur,h1,_,h3,h4,_⟩
  ·omega
  ·cases h1
   rw[HM.o]at ho
   exact⟨b,c,rfl,rfl,h4,lG (eY ho hj) hb (TR.lt_of_block h3)⟩
 rw[hv]
 clear hp hhi hlo hlen hm hv
 have hbN:Below w.heap.size w (w.alloc (aG aJ)):=(J _ w).alloc (U _) _
 have HN0:Hid ((w.alloc (aG aJ)).heap[w.heap.size]? =some (aG aJ)):=TK.aj _ _
 obtain⟨W0,hW0⟩:∃W0,W0=w.alloc (aG aJ):=⟨_,rfl⟩
 have hsz0:w.heap.size+1=W0.heap.size:=by rw[hW0];simp
 rw[<- hW0]at hbN HN0
 simp only[aG,aJ]at hW0
 have HBN:=I hbN
 have HSZ:=I hsz0
 clear hbN hsz0
 go_enter func67,ntmps67
 go_wp2_with fail
 rw[<- hW0]
 clear hW0
 obtain⟨N,hNe⟩:∃N,N=w.heap.size:=⟨_,rfl⟩
 have HNe:=I hNe
 rw[<- hNe]at HN0 |-
 clear hNe
 go_loopw [3,14] (fun kv u wr=>∃(j:Nat) (ks:List Pc),j<=m/\u=.int .i64 j/\Flat w lo hi ps j ks/\ks.map Pc.tr=((ps.take j).map Pc.tr).flatMap mJ/\wr.ownsRow (w.heap.size+1) 25 8 kv ks.length (bu ks)/\Below w.heap.size w wr/\wr.heap[N]? =some (aG aJ)) (fun _ u _=>m - (intOf u).toNat)
 case atStart=>exact⟨0,[],Nat.zero_le _,rfl,Flat.nil _ _ _ _,by simp,World.ownsRow_nil _ _ _ _,HBN.o,HN0.o⟩
 case round=>
  obtain⟨j,ks,hj,rfl,hF,hT,ho,hb,hN⟩:=hrel
  obtain⟨wr2,hwr⟩:∃wr2,wr2=wr:=⟨_,rfl⟩
  subst hwr
  have HF:=I hF
  have HT:=I hT
  have HO:=I ho
  have HB:=I hb
  have HN:=I hN
  have hkl:ks.length<=1000000:=by
   have h1:=congrArg List.length hT
   rw[List.length_map]at h1
   have h2:=jx (C:=mJ) ps j
   have h3:=HLEN.o
   change ((ps.map Pc.tr).flatMap mJ).length<=1000000 at h3
   omega
  obtain⟨ko,kc,hkv⟩:=ax ho
  obtain⟨kn,hkn⟩:∃kn,kn=ks.length:=⟨_,rfl⟩
  rw[<- hkn]at hkv hkl
  have HKN:=I hkn
  rw[hkv]at HO |-
  have HO1:Hid (wr2.ownsRow (w.heap.size+1) 25 8 (.slice ko kn kc) ks.length (bu ks)):=HO.o
  have HF1:Hid (∀p:Pc,lo<=w.heap.size+0->True):=fun _ _=>trivial
  rw[<- hkn]at HO
  clear hF hT ho hb hN hkv hkn
  by_cases hlt:j<m
  ·have hjl:j<ps.length:=by have:=HM.o;omega
   obtain⟨b,cap,hao,hc,hcap,hcl⟩:=HCell.o wr2 HB.o j hjl
   have HNI:=I (HP.o.all ps[j] (List.getElem_mem hjl))
   have HONE:=I (HF.o.one HP.o hjl)
   have HTK:=I (td (C:=mJ) ps j hjl)
   obtain⟨hkind,qs,hqk,hqne,hqo,hqa,hqp⟩:=HNI.o.EX
   have HMANY:=I (HF.o.many HP.o hjl hqa hqp)
   have hlen2:=jx (C:=mJ) ps (j+1)
   rw[HTK.o,List.length_append]at hlen2
   have h3:=HLEN.o
   change ((ps.map Pc.tr).flatMap mJ).length<=1000000 at h3
   have hTl:=congrArg List.length HT.o
   rw[List.length_map, <-HKN.o]at hTl
   have HTl:=I hTl
   clear hTl
   have HSK:=I HF.o.skip
   obtain⟨p,hpp⟩:∃p,p=ps[j]:=⟨_,rfl⟩
   rw[<- hpp]at hcl HNI HONE HTK hkind hqk hqne hqo hqa hlen2
   obtain⟨n,hn⟩:∃n,n=p.nv:=⟨_,rfl⟩
   rw[<- hn]at hcl hkind hqne hqo
   have HNn:=I hn
   subst hao hc
   obtain⟨e0,e1,e2,e3,e4,e5,e6,e7⟩:=hcl
   simp only at e0 e1 e2 e3 e4 e5 e6 e7
   have e8:(j:Int)<(m:Int):=by omega
   have e9:(0:Int)<=(j:Int):=by omega
   have hjw:IntKind.i64.wrap ((j:Int)+1)=(j:Int)+1:=by rw[IntKind.wrap_i64];omega
   have HQO:=I hqo
   have HQN:=I hqne
   have HQK:=I hqk
   have HKD:=I hkind
   clear hpp hn hqo hqa hqp hqne hqk
   go_upto_region 7 with fail
   obtain⟨w3,hw3⟩:∃w3,w3=wr2.alloc (aG n):=⟨_,rfl⟩
   have hL:w3.heap[wr2.heap.size]? =some (aG n):=by rw[hw3];exact TK.aj _ _
   have hb3:Below wr2.heap.size wr2 w3:=by rw[hw3];exact(J _ wr2).alloc (U _) _
   obtain⟨d0,d1,d2,d3,d4,d5,d6,d7⟩:=aU hL
   have HL:=I hL
   have HB3:=I hb3
   have HO3:=I (cp HO.o hb3)
   have HN3:Hid (w3.heap[N]? =some (aG aJ)):=by show _=_;rw[hb3.block N (TR.lt_of_block HN.o)];exact HN.o
   have hsz3:w.heap.size+1<=w3.heap.size:=by have h1:=TR.lt_of_block HN3.o;have h2:=HNe.o;omega
   have HLt:Hid (wr2.heap.size<w3.heap.size):=TR.lt_of_block hL
   simp only[aG]at hw3
   rw[<- hw3]
   obtain⟨M,hMe⟩:∃M,M=wr2.heap.size:=⟨_,rfl⟩
   rw[<- hMe]at d0 d1 d2 d3 d4 d5 d6 d7 HL HLt |-
   clear hw3 hL hb3 e0 e1 e2 e3 e4 e5 e6 e7 hMe
   by_cases k10:n.kind=10
   ·have EC:mJ p.tr=p.tr.kids:=by unfold mJ;rw[if_pos (by rw[hkind];exact k10)]
    have KK:=k10
    obtain⟨qg,qcap,hqv,hqb⟩:=ju HQO.o (List.length_pos_iff.2 (HQN.o (by rw[KK];decide)))
    have hql:qs.length<=1000000:=by have h1:=congrArg List.length HQK.o;rw[List.length_map]at h1;rw[EC,HQK.o,List.length_map]at hlen2;have h9:=HTl.o;omega
    have hkq:kn+qs.length<=1000000:=by rw[EC,HQK.o,List.length_map]at hlen2;have h9:=HTl.o;omega
    have hqo3:∀i u,(bu qs)[i]? =some u->w3.cell? ((⟨qg,0,none⟩:Addr).add i)=some u:=fun i u hu=>by
     have h1:=HQO.o.cells (g:=qg) (by rw[hqv];rfl) i u hu
     exact aE ((HB.o.trans (HB3.o.mono HB.o.size))) (by rw[C0];exact hqb) h1
    have hqlen:=l7 qs
    rw[hqv]at d2
    have HQ3:=I hqo3
    clear hqo3 hqv
    go_wp2_with (at_builtin;refine wpList_append_own_at _ rfl _ _ 23 rfl (w.heap.size+1) 25 i0 (.agg #[.int .i64 0,.slice none 0 0,.slice none 0 0,.int .i64 0,.int .i64 0,.int .i64 0,.int .i64 0,.bool false]) 8 96 underlying23 hi0 hz0 hz1 hz2 rfl (by decide) _ _ _ rfl HO3.o ⟨qg,0,none⟩ qs.length qcap (bu qs) rfl hqlen HQ3.o (ow qs) (by unfold maxLen;omega) (by omega) (by omega) ?_)
    intro v' w4 hown' hgrow _ _
    have HO4:Hid (w4.ownsRow (w.heap.size+1) 25 8 v' (ks++qs).length (bu (ks++qs))):=by
     show World.ownsRow _ _ _ _ _ _ _
     rw[eQ,List.length_append, <-HKN.o]
     exact hown'
    have HB4:Hid (Below w.heap.size w w4):=jN HB.o HB3.o HO.o hgrow
    have HN4:Hid (w4.heap[N]? =some (aG aJ)):=gb hgrow (by have:=HNe.o;omega) HO3.o HN3.o
    obtain⟨vo,vc,hv4⟩:=ax hown'
    obtain⟨n4,hn4⟩:∃n4,n4=kn+qs.length:=⟨_,rfl⟩
    rw[<- hn4]at hv4
    rw[hv4]at HO4 |-
    clear hown' hgrow hv4 d0 d1 d2 d3 d4 d5 d6 d7 hn4
    go_wp2
    go_roundw
    case rel=>exact⟨j+1,ks++qs,by omega,by go_num,HMANY.o,by rw[List.map_append,HT.o,HTK.o,EC,HQK.o],HO4.o,HB4.o,HN4.o⟩
    case measure=>simp[intOf];omega
   ·have q10:(n.kind==10)=false:=by simpa using k10
    have EC:mJ p.tr=[p.tr]:=by unfold mJ;rw[if_neg (by rw[hkind];exact k10)]
    have hk1:kn+1<=1000000:=by rw[EC]at hlen2;simp only[List.length_singleton]at hlen2;have h9:=HTl.o;omega
    go_wp2_with (at_builtin;refine wpList_append_own_at _ rfl _ _ 23 rfl (w.heap.size+1) 25 i0 (.agg #[.int .i64 0,.slice none 0 0,.slice none 0 0,.int .i64 0,.int .i64 0,.int .i64 0,.int .i64 0,.bool false]) 8 96 underlying23 hi0 hz0 hz1 hz2 rfl (by decide) _ _ _ rfl (HO3.o.alloc _) ⟨w3.heap.size,0,none⟩ 1 1 (oy n) rfl rfl (iQ w3 n) (mS n) (by unfold maxLen;omega) (by omega) (by simp;omega) ?_)
    intro v' w4 hown' hgrow _ _
    have HO4:Hid (w4.ownsRow (w.heap.size+1) 25 8 v' (ks++[p]).length (bu (ks++[p]))):=by
     show World.ownsRow _ _ _ _ _ _ _
     rw[eQ,lT, <-HNn.o,List.length_append, <-HKN.o]
     exact hown'
    have HB4:Hid (Below w.heap.size w w4):=jN HB.o (HB3.o.trans (((J _ w3).alloc (U _) _).mono HB3.o.size)) HO.o hgrow
    have HN4:Hid (w4.heap[N]? =some (aG aJ)):=gb hgrow (by have:=HNe.o;omega) HO3.o (TK.ba HN3.o)
    obtain⟨vo,vc,hv4⟩:=ax hown'
    rw[hv4]at HO4 |-
    clear hown' hgrow hv4 d0 d1 d2 d3 d4 d5 d6 d7
    go_wp2
    go_roundw
    case rel=>exact⟨j+1,ks++[p],by omega,by go_num,HONE.o,by rw[List.map_append,HT.o,HTK.o,EC];rfl,HO4.o,HB4.o,HN4.o⟩
    case measure=>simp[intOf];omega
  ·have hjm:j=m:=by omega
   have hTT:ks.map Pc.tr=ud (ps.map Pc.tr):=by
    rw[HT.o,hjm,HM.o,List.take_length]
    rfl
   have hfr:=bH HN.o
   obtain⟨x0,x1,x2,x3,x4,x5,x6,x7⟩:=aU HN.o
   have HNn:=I (show w.heap.size<=N by have:=HNe.o;omega)
   have HE:=I (BH hTT (by rw[List.length_map];have:=HM.o;omega))
   have hne:ks≠[]:=BZ hTT (by rw[List.length_map];have:=HM.o;omega) (fun t ht hk=>by
    obtain⟨p,hp,rfl⟩:=List.mem_map.1 ht
    obtain⟨hkd,qs,hqk,hqn,_⟩:=(HP.o.all p hp).EX
    rw[hqk]
    intro e
    exact hqn (.inr (by rw[<- hkd];exact hk)) (List.map_eq_nil_iff.1 e))
   clear hTT
   go_wp21
   obtain⟨W4,hW4⟩:∃W4,W4=setNode wr2 N ⟨10,none,0,0,ko,kn,kc,0,0,0,0,false⟩:=⟨_,rfl⟩
   have hN4:W4.heap[N]? =some (aG ⟨10,none,0,0,ko,kn,kc,0,0,0,0,false⟩):=by rw[hW4];exact bM HN.o _
   have hb4:Below w.heap.size w W4:=by rw[hW4];exact gi HB.o HNn.o _
   have hm4:Mv N wr2 W4:=by rw[hW4];exact bN (Mv.refl N wr2) _
   simp only[setNode]at hW4
   rw[<- hW4]
   refine cH (N:=N) results67 rfl (TR.ak hN4) ⟨_,rfl,?_,hb4⟩
   rw[HE.o]
   exact(HF.o.pieces HHI.o HLO.o hb4 (Aj HO1.o hm4 (by have:=HNe.o;omega))).node 10 0 0 0 0 false hne
theorem xH{lo hi:Nat}{p:Pc}(hp:ct w lo hi v [p])(hhi:hi<=w.heap.size)(hlo:lo<=w.heap.size):Calls prog 67 #[v] w fun e w'=>∃n',e=.returned (cz n')/\bG w' lo w'.heap.size n' p.tr/\Below w.heap.size w w':=by
 obtain⟨b,cap,hv,hb⟩:=ju hp.row.own (by simp)
 have ho:=hp.row.own
 rw[hv]at ho |-
 have hc:=eY ho (j:=0) (by simp)
 have HNI:=I (hp.all p (by simp))
 have HRG:=I (hp.row.kV p (by simp))
 obtain⟨n,hn⟩:∃n,n=p.nv:=⟨_,rfl⟩
 have hc2:aL w ⟨b,0,none⟩ n:=by rw[hn];exact hc
 rw[<- hn]at HNI
 obtain⟨e0,e1,e2,e3,e4,e5,e6,e7⟩:=hc2
 simp only[Nat.zero_add]at e0 e1 e2 e3 e4 e5 e6 e7
 have HHI:=I hhi
 simp only[List.length_singleton]
 clear hp ho hc hv hn hhi hlo
 go_enter func67,ntmps67
 go_wp21
 obtain⟨W4,hW4⟩:∃W4,W4=w.alloc (aG n):=⟨_,rfl⟩
 have hN4:W4.heap[w.heap.size]? =some (aG n):=by rw[hW4];exact TK.aj _ _
 have hb4:Below w.heap.size w W4:=by rw[hW4];exact(J _ w).alloc (U _) _
 simp only[aG]at hW4
 rw[<- hW4]
 clear hW4
 refine cH (N:=w.heap.size) results67 rfl (TR.ak hN4) ⟨_,rfl,?_,hb4⟩
 have h1:=HRG.o
 have h2:=HHI.o
 exact(HNI.o.ar (br.ae hb4 (by omega))).wide h1.1 (by have:=hb4.size;omega)
end Go.Proofs.YtklbbbldalmnbaaGreatDoor.Pa
