import Derived.Test.YtklbbbldalmnbaaGreatDoorMF
import Derived.Test.YtklbbbldalmnbaaGreatDoorMC
import Derived.Deep.RegionLaw
set_option linter.unusedVariables false
set_option maxRecDepth 100000
set_option maxHeartbeats 4000000
open Go.Proofs.Tryz
namespace Go.Proofs.YtklbbbldalmnbaaGreatDoor.Pa
open Go.RowKit
open TR (Tr NV aL cz aG aV bS)
open TK (Mv bJ)
open Br (BE PS aw bC ez bI OR bm)
variable {w w' : World} {g : Nat} {v : Value} {l : List Int} {d : Int} {s s' : St} {nv av : Value}
theorem Ir:(Tryz.prog.info? 33).map (fun i=>(i.zero,i.size,i.bytes))=some (some (.agg #[.string ⟨#[]⟩,.int .i64 0]),2,24):=by kernel_rfl
theorem I0:(Tryz.prog.info? 110).map (fun i=>(i.zero,i.size,i.bytes))=some (some (.agg #[.int .i64 0,.string ⟨#[]⟩,.int .i64 0]),3,32):=by kernel_rfl
theorem iu(w:World):Below w.heap.size w w.drew:=⟨rfl,rfl,rfl,U _,fun _ _=>rfl⟩
theorem RB.drew(h:RB w g v l d s nv av):RB w.drew g v l d s nv av:=h.ar (iu w)
theorem su{W W1:World}{B e1 e2 k1 k2 n1 n2:Nat}{v1 v2:Value}{xs1 xs2:List Value}(h1:W.ownsRow B e1 k1 v1 n1 xs1)(h2:W.ownsRow B e2 k2 v2 n2 xs2)(he:e1≠e2)(hg:W.grownBy W1 v1.ownBlock):W1.ownsRow B e2 k2 v2 n2 xs2:=by
 refine⟨h2.1,?_⟩
 rcases h2.2 with h|⟨b,cap,cur,rfl,h3,hb,h4⟩
 ·exact .inl h
 ·refine .inr ⟨b,cap,cur,rfl,h3,?_,h4⟩
  rw[hg.block b (TR.lt_of_block hb) ?_]
  ·exact hb
  ·intro hx
   rcases h1.2 with⟨rfl,_⟩|⟨b',cap',cur',rfl,_,hb',_⟩
   ·cases hx
   ·have :b=b':=Option.some.inj hx
    subst this
    rw[hb']at hb
    cases hb
    exact he rfl
theorem ni{W:World}{B e k n:Nat}{u:Value}{xs:List Value}(h:W.ownsRow B e k u n xs){i:Nat}{x:Value}(hg:g<B):(W.setCell ⟨g,i,none⟩ x).ownsRow B e k u n xs:=by
 refine⟨h.1,?_⟩
 rcases h.2 with h|⟨b,cap,cur,rfl,h3,hb,h4⟩
 ·exact .inl h
 ·exact .inr ⟨b,cap,cur,rfl,h3,by rw[Below.heap_setCell _ _ _ _ (by show b≠g;omega)];exact hb,h4⟩
theorem wh{W W1:World}{row:Option Nat}(h:RB W g v l d s nv av)(hg:W.grownBy W1 row)(hr:∀k,row=some k->g<k):bJ W1 v l/\Fo.iP W1/\W1.heap[g]? =W.heap[g]? :=by
 have hb:Below (g+1) W W1:=⟨hg.os,hg.tape,hg.output,hg.size,fun k hk=>hg.block k (by have:=h.lt;omega) (fun e=>by have:=hr k e.symm;omega)⟩
 refine⟨?_,h.Bl.below hb (by have:=h.low;omega),hg.block g h.lt (fun e=>by have:=hr g e.symm;omega)⟩
 rcases h.pat with⟨h1,h2⟩|⟨x,c,h1,h2,h3⟩
 ·exact .inl ⟨h1,h2⟩
 ·refine .inr ⟨x,c,h1,h2,fun j hj=>?_⟩
  have:=h.ne x c (by omega) h1
  exact aE hb (by rw[TK.aS];omega) (h3 j hj)
theorem rL{W W1:World}{e k n:Nat}{u:Value}{xs:List Value}(hlt:g<W.heap.size)(ho:W.ownsRow (g+1) e k u n xs)(he:e=33\/e=110)(hg:W.grownBy W1 u.ownBlock)(i:Nat)(x:Value):Step g W (W1.setCell ⟨g,i,none⟩ x):=by
 refine⟨hg.os,hg.tape,hg.output,by simpa[World.setCell]using hg.size,fun k hk=>?_,fun k h1 h2 cs e' fr hc n1 n2=>?_⟩
 ·rw [Below.heap_setCell _ _ _ _ (by show k≠g;omega)]
  exact hg.block k (by omega) (fun hx=>by have:=(ho.lt k hx.symm).1;omega)
 ·rw [Below.heap_setCell _ _ _ _ (by show k≠g;omega),hg.block k h2 ?_]
  ·exact hc
  ·intro hx
   rcases ho.2 with⟨rfl,_⟩|⟨b',cap',cur',rfl,_,hb',_⟩
   ·cases hx
   ·have :k=b':=Option.some.inj hx
    subst this
    rw[hb']at hc
    cases hc
    rcases he with rfl|rfl
    ·exact n1 rfl
    ·exact n2 rfl
theorem RB.Ka(h:RB w g v l d s nv av)(t:ByteArray)(num:Int)(hl:s.names.length<=1000):∃so sc w',(Builtin.append_ #[26,26] 26 #[nv,.slice (some ⟨w.heap.size,0,none⟩) 1 1]).run prog (w.alloc (.cells #[.string t,.int .i64 num] 33))=.ok (.slice so (s.names.length+1) sc) w'/\w'.heap[g]? =w.heap[g]? /\RB (w'.setCell ⟨g,15,none⟩ (.slice so (s.names.length+1) sc)) g v l d { s with names:=s.names++[(t,num)] } (.slice so (s.names.length+1) sc) av/\Step g w (w'.setCell ⟨g,15,none⟩ (.slice so (s.names.length+1) sc)):=by
 obtain⟨i0,hi,hz0,hz1,hz2⟩:=info_parts Ir
 have hw:=h.alloc (.cells #[.string t,.int .i64 num] 33)
 obtain⟨v',w',hr,ho,hg,_,hat⟩:=run_append_own_at (P:=prog) (w.alloc (.cells #[.string t,.int .i64 num] 33)) (g+1) 26 26 33 i0 _ 2 24 underlying26 hi hz0 hz1 hz2 rfl (by decide) nv s.names.length (eV s.names) hw.jA ⟨w.heap.size,0,none⟩ 1 1 [.string t,.int .i64 num] rfl (World.news_of_block (cs:=#[.string t,.int .i64 num]) (t:=33) (fr:=(0,0)) (heap_alloc_new w _)) (by intro u hu;simp at hu;rcases hu with rfl|rfl<;>rfl) (by unfold maxLen;omega) (by omega) (by have:=hw.lt;omega)
 obtain⟨so,sc,rfl⟩:=ax ho
 have hrow:∀k,nv.ownBlock=some k->g<k:=fun k hk=>by have:=(hw.jA.lt k hk).1;omega
 obtain⟨p1,p2,p3⟩:=wh hw hg hrow
 refine⟨so,sc,w',hr,?_,?_,?_⟩
 ·rw[p3,Below.heap_alloc _ _ _ h.lt]
 ·refine ⟨?_,?_,h.ne,?_,ni (su hw.jA hw.jf (by decide) hg) (Nat.lt_succ_self g),?_,h.low,h.pe⟩
  ·rw[TK.bd (p3.trans hw.box)];rfl
  ·exact Br.bJ.mv p1 ((Mv.refl g w').setCell 15 _) fun x c hl e=>by have:=h.ne x c hl e;omega
  ·have :=ni (g:=g) (i:=15) (x:=.slice so (s.names.length+1) sc) ho (Nat.lt_succ_self g)
   rw[show (s.names++[(t,num)]).length=s.names.length+1 from by simp,qL]
   exact this
  ·exact p2.below ((J g w').setCell (p:=⟨g,15,none⟩) (U _) _) h.low
 ·exact(Step.ae ((J _ w).alloc (U _) _) h.lt).trans (rL hw.lt hw.jA (.inl rfl) hg 15 _)
theorem RB.Jo(h:RB w g v l d s nv av)(M:Nat)(a:Ag)(hl:s.ay.length<=1000):∃so sc w',(Builtin.append_ #[71,71] 71 #[av,.slice (some ⟨w.heap.size,0,none⟩) 1 1]).run prog (w.alloc (.cells #[.int .i64 a.num,.string a.name,.int .i64 (a.pos:Nat)] 110))=.ok (.slice so (s.ay.length+1) sc) w'/\w'.heap[g]? =w.heap[g]? /\RB (w'.setCell ⟨g,16,none⟩ (.slice so (s.ay.length+1) sc)) g v l d { s with ay:=s.ay++[a] } nv (.slice so (s.ay.length+1) sc)/\Step g w (w'.setCell ⟨g,16,none⟩ (.slice so (s.ay.length+1) sc)):=by
 obtain⟨i0,hi,hz0,hz1,hz2⟩:=info_parts I0
 have hw:=h.alloc (.cells #[.int .i64 a.num,.string a.name,.int .i64 (a.pos:Nat)] 110)
 obtain⟨v',w',hr,ho,hg,_,hat⟩:=run_append_own_at (P:=prog) (w.alloc (.cells #[.int .i64 a.num,.string a.name,.int .i64 (a.pos:Nat)] 110)) (g+1) 71 71 110 i0 _ 3 32 underlying71 hi hz0 hz1 hz2 rfl (by decide) av s.ay.length (fI s.ay) hw.jf ⟨w.heap.size,0,none⟩ 1 1 [.int .i64 a.num,.string a.name,.int .i64 (a.pos:Nat)] rfl (World.news_of_block (cs:=#[.int .i64 a.num,.string a.name,.int .i64 (a.pos:Nat)]) (t:=110) (fr:=(0,0)) (heap_alloc_new w _)) (by intro u hu;simp at hu;rcases hu with rfl|rfl|rfl<;>rfl) (by unfold maxLen;omega) (by omega) (by have:=hw.lt;omega)
 obtain⟨so,sc,rfl⟩:=ax ho
 have hrow:∀k,av.ownBlock=some k->g<k:=fun k hk=>by have:=(hw.jf.lt k hk).1;omega
 obtain⟨p1,p2,p3⟩:=wh hw hg hrow
 refine⟨so,sc,w',hr,?_,?_,?_⟩
 ·rw[p3,Below.heap_alloc _ _ _ h.lt]
 ·refine ⟨?_,?_,h.ne,ni (su hw.jf hw.jA (by decide) hg) (Nat.lt_succ_self g),?_,?_,h.low,h.pe⟩
  ·rw[TK.bd (p3.trans hw.box)];rfl
  ·exact Br.bJ.mv p1 ((Mv.refl g w').setCell 16 _) fun x c hl e=>by have:=h.ne x c hl e;omega
  ·have :=ni (g:=g) (i:=16) (x:=.slice so (s.ay.length+1) sc) ho (Nat.lt_succ_self g)
   rw[show (s.ay++[a]).length=s.ay.length+1 from by simp,pU]
   exact this
  ·exact p2.below ((J g w').setCell (p:=⟨g,16,none⟩) (U _) _) h.low
 ·exact(Step.ae ((J _ w).alloc (U _) _) h.lt).trans (rL hw.lt hw.jf (.inr rfl) hg 16 _)
theorem qU{P:Program}{ops:Array Oper}{o:Oper}{a:Act}{w:World}{K:Act->World->Prop}{Q:Exit->Act->World->Prop}{E:Prop}(hgd:o.guard=none)(s x:Operand)(t:TypeId)
  (ho:o.op=.call { callee:=.builtin .append,args:=#[s,x],argTypes:=#[t,t] }) (v v2 v':Value) (w':World) (hs:a.eval s=v) (hx:a.eval x=v2) (hr:(Builtin.append_ #[t,t] o.type #[v,v2]).run P w=.ok v' w') (h:K (a.put o.dst v') w'):
  if Region.wanted o (yielded ops a.tmps)=true then Oper.wp P o a w K Q else E:=by
 have hw:Region.wanted o (yielded ops a.tmps)=true:=by simp[Region.wanted,hgd]
 rw[if_pos hw]
 unfold Oper.wp execOp
 simp only[ho,resolve,invoke,builtin,Sem.run_bind,Sem.run_pure,Result.andThen_ok,List.map_toArray,List.map_cons,List.map_nil,hs,hx,hr]
 exact h
variable {w w' : World} {g : Nat} {v : Value} {l : List Int} {d : Int} {s s' : St} {nv av : Value}
theorem BJ(N:de)(t:ByteArray):(eL N t).isSome=hasName N t:=by
 unfold eL hasName
 rw[Option.isSome_map,Bool.eq_iff_iff,List.find?_isSome,List.any_eq_true]
 constructor
 ·rintro ⟨n,hn,e⟩
  exact⟨n,hn,by rw[show n.1=t from by simpa using e];simp⟩
 ·rintro ⟨n,hn,e⟩
  exact⟨n,hn,by simpa using nE (a:=n.1) (b:=t) (by simpa using e)⟩
def Kh(R:Except BE St)(g:Nat)(v:Value)(l:List Int)(d:Int)(av:Value)(w:World)(e:Ending)(w':World):Prop:=
 (∃s' nv,R=.ok s'/\e=.returned (.int .i64 (s'.aF:Nat))/\RB w' g v l d s' nv av/\Step g w w')\/(∃z a,R=.error (z,a)/\e=aw z a/\Step g w w')
theorem C4(h:RB w g v l d s nv av)(hg20:s.aF<=20)(hnl:s.names.length<=1000)(t:ByteArray):Calls prog 110 #[.pointer (some ⟨g,0,none⟩),.string t] w fun e w'=>Kh (cZ s t) g v l d av w e w':=by
 have hgw:=h.lt
 have HR:=I h
 obtain⟨-, -,c10, -, -, -,c14,c15, -⟩:=h.rd
 obtain⟨k,hk⟩:∃k,k=s.aF:=⟨_,rfl⟩
 obtain⟨p,hp⟩:∃p,p=s.pos:=⟨_,rfl⟩
 have HK:=I hk
 have HP:=I hp
 rw[<- hk]at c14 hg20
 rw[<- hp]at c10
 by_cases h20:k=20
 ·have hE:Hid (cZ s t=.error (2,(p:Int))):=by show _=_;unfold cZ;rw[if_pos (by omega),HP.o]
  subst h20
  have HG:=I (aO 2 (p:Int) w)
  simp only[aw]at HG
  clear h hp hk
  go_enter func110,ntmps110
  go_wp2_with fail
  refine HG.o.mono ?_
  rintro e w1 ⟨rfl,rfl⟩
  go_wp2
  exact⟨rfl,.inr ⟨2,p,hE.o,rfl,Step.refl _ _⟩⟩
 ·have q1:¬(k:Int)=20:=by omega
  have hkw:IntKind.i64.wrap ((k:Int)+1)=(k:Int)+1:=by rw[IntKind.wrap_i64];omega
  have f14:=h.fr 14
  have h1:RB (w.setCell ⟨g,14,none⟩ (.int .i64 ((k:Int)+1))) g v l d { s with aF:=k+1 } nv av:=h.set 14 _ rfl rfl rfl
  have HM1:Hid (Mv g w (w.setCell ⟨g,14,none⟩ (.int .i64 ((k:Int)+1)))):=(Mv.refl g w).setCell 14 _
  by_cases ht:t.toList=[]
  ·have hE:Hid (cZ s t=.ok { s with aF:=k+1 }):=by show _=_;unfold cZ;rw[if_neg (by omega),if_pos ht,HK.o]
   have hti:t.toList.isEmpty=true:=by rw[ht];rfl
   have HR1:=I h1
   clear h hp hk h1
   go_enter func110,ntmps110
   go_wp2
   go_ret
   exact .inl ⟨_,nv,hE.o,by simp,HR1.o,Step.dc HM1.o hgw⟩
  ·have hti:t.toList.isEmpty=false:=by cases hh:t.toList with
    |nil=>exact absurd hh ht
    |cons _ _=>rfl
   have HI:=I (jR nv s.names t _ h1.names)
   have HHs:=I (BJ s.names t)
   obtain⟨r0,hr0⟩:∃r0,r0=(eL s.names t).getD 0:=⟨_,rfl⟩
   rw[<- hr0]at HI
   obtain⟨no,nc,hnv⟩:=h.names.shape
   obtain⟨n,hn⟩:∃n,n=s.names.length:=⟨_,rfl⟩
   rw[<- hn]at hnv
   have HN:=I hn
   have HNV:=I hnv
   have HR1:=I h1
   rw[hnv]at HI c15
   cases hb:hasName s.names t with
   |true=>
    have hE:Hid (cZ s t=.error (6,(p:Int))):=by show _=_;unfold cZ;rw[if_neg (by omega),if_neg ht,hb,if_pos rfl,HP.o]
    rw[HHs.o,hb]at HI
    clear h hp hk h1 hb hr0 hn hnv ht HHs
    go_enter func110,ntmps110
    go_wp2_with fail
    refine HI.o.mono ?_
    rintro e w1 ⟨rfl,hb1⟩
    have hr1:=HR1.o.ar hb1
    obtain⟨-, -,d10, -⟩:=hr1.rd
    simp only at d10
    rw[<- HP.o]at d10
    have HM2:=I (HM1.o.trans (Mv.ae hb1))
    have HG:=I (aO 6 (p:Int) w1)
    simp only[aw]at HG
    clear hr1 hb1 HI
    go_wp2_with fail
    refine HG.o.mono ?_
    rintro e w2 ⟨rfl,rfl⟩
    go_wp2
    exact⟨rfl,.inr ⟨6,p,hE.o,rfl,Step.dc HM2.o hgw⟩⟩
   |false=>
    have hE:Hid (cZ s t=.ok { s with aF:=k+1,names:=s.names++[(t,((k+1:Nat):Int))] }):=by show _=_;unfold cZ;rw[if_neg (by omega),if_neg ht,hb,if_neg (by simp),HK.o]
    rw[HHs.o,hb]at HI
    clear h hp hk h1 hb hr0 hn hnv ht HHs
    go_enter func110,ntmps110
    go_wp2_with fail
    refine HI.o.mono ?_
    rintro e W ⟨rfl,hb1⟩
    have hr1:=HR1.o.ar hb1
    obtain⟨-, -, -, -, -, -,d14,d15, -⟩:=hr1.rd
    simp only at d14
    rw[HNV.o]at d15
    rw[show ((k+1:Nat):Int)=(k:Int)+1 from by omega]at d14
    have HM2:=I (HM1.o.trans (Mv.ae hb1))
    have hgW:=hr1.lt
    obtain⟨so,sc,w6,hap,hbx,hrb,hst⟩:=hr1.drew.Ka t ((k+1:Nat):Int) hnl
    have hbb:w6.heap[g]? =some (H6 d v { s with aF:=k+1 } nv av):=hbx.trans hr1.drew.box
    have k15:w6.cell? ⟨g,15,none⟩=some (.slice no n nc):=by simp[World.cell?,hbb,HNV.o]
    have k14:w6.cell? ⟨g,14,none⟩=some (.int .i64 ((k:Int)+1)):=by simp[World.cell?,hbb]
    have kf:∀o,w6.frozen? ⟨g,o,none⟩=false:=by intro o;simp[World.frozen?,hbb]
    rw[HNV.o]at hap
    rw[show ((k+1:Nat):Int)=(k:Int)+1 from by omega]at hap
    have HAP:=I hap
    have HRB:=I hrb
    have HST:=I hst
    have hgk:g<w6.heap.size:=TR.lt_of_block hbb
    obtain⟨n1,hn1⟩:∃n1,n1=s.names.length+1:=⟨_,rfl⟩
    rw[<- hn1]at HAP HRB HST
    have d15a:∀o,(W.drew.alloc o).cell? ⟨g,15,none⟩=some (.slice no n nc):=fun o=>aE ((J _ W.drew).alloc (U _) o) hgW d15
    clear hr1 hb1 HI hap hrb hst hbb hbx hn1
    go_upto_region 9 with fail
    go_region_law
     ((refine qU rfl _ _ _ rfl _ _ (.slice so n1 sc) w6 (by rfl) (by rfl) HAP.o ?_))
    all_goals
     go_wp2
     go_ret
     refine .inl ⟨_,_,hE.o,by simp,HRB.o,?_⟩
     exact(Step.dc HM2.o hgw).trans ((Step.ae (iu _) hgW).trans HST.o)
end Go.Proofs.YtklbbbldalmnbaaGreatDoor.Pa
