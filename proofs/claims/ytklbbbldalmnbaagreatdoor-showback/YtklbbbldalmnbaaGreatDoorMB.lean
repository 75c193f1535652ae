import Derived.Test.YtklbbbldalmnbaaGreatDoorKC
set_option linter.unusedVariables false
set_option maxHeartbeats 2000000
set_option maxRecDepth 100000
open Go.Proofs.Tryz
namespace Go.Proofs.YtklbbbldalmnbaaGreatDoor.TR
open Go.RowKit
theorem bp(w:World)(o:Obj){k:Nat}(h:k=w.heap.size):(w.alloc o).heap[k]? =some o:=by rw[h];exact heap_alloc_new w o
theorem aj(w:World)(o:Obj):(w.alloc o).heap[w.heap.size]? =some o:=heap_alloc_new w o
theorem lt_of_block{w:World}{g:Nat}{o:Obj}(h:w.heap[g]? =some o):g<w.heap.size:=(Array.getElem?_eq_some_iff.1 h).1
theorem ba{w:World}{o o':Obj}{k:Nat}(h:w.heap[k]? =some o):(w.alloc o').heap[k]? =some o:=by rw[Below.heap_alloc _ _ _ (lt_of_block h)];exact h
inductive Tr where
 |mk (kind num least an bB:Int) (fold:Bool) (set:RL) (kids:List Tr)
def Tr.kind:Tr->Int| .mk k _ _ _ _ _ _ _=>k
def Tr.num:Tr->Int| .mk _ k _ _ _ _ _ _=>k
def Tr.least:Tr->Int| .mk _ _ k _ _ _ _ _=>k
def Tr.an:Tr->Int| .mk _ _ _ k _ _ _ _=>k
def Tr.bB:Tr->Int| .mk _ _ _ _ k _ _ _=>k
def Tr.fold:Tr->Bool| .mk _ _ _ _ _ k _ _=>k
def Tr.set:Tr->RL| .mk _ _ _ _ _ _ k _=>k
def Tr.kids:Tr->List Tr| .mk _ _ _ _ _ _ _ k=>k
structure NV where
 kind:Int
 sa:Option Addr
 sl:Nat
 sc:Nat
 ka:Option Addr
 kl:Nat
 kc:Nat
 num:Int
 least:Int
 an:Int
 bB:Int
 fold:Bool
abbrev cz(n:NV):Value:=.agg #[.int .i64 n.kind,.slice n.sa n.sl n.sc,.slice n.ka n.kl n.kc,.int .i64 n.num,.int .i64 n.least,.int .i64 n.an,.int .i64 n.bB,.bool n.fold]
abbrev aG(n:NV):Obj:=.cells #[.int .i64 n.kind,.slice n.sa n.sl n.sc,.slice n.ka n.kl n.kc,.int .i64 n.num,.int .i64 n.least,.int .i64 n.an,.int .i64 n.bB,.bool n.fold] 25
structure aL(w:World)(a:Addr)(n:NV):Prop where
 c0:w.cell? a=some (.int .i64 n.kind)
 c1:w.cell? ⟨a.block,a.off+1,none⟩=some (.slice n.sa n.sl n.sc)
 c2:w.cell? ⟨a.block,a.off+2,none⟩=some (.slice n.ka n.kl n.kc)
 c3:w.cell? ⟨a.block,a.off+3,none⟩=some (.int .i64 n.num)
 c4:w.cell? ⟨a.block,a.off+4,none⟩=some (.int .i64 n.least)
 c5:w.cell? ⟨a.block,a.off+5,none⟩=some (.int .i64 n.an)
 c6:w.cell? ⟨a.block,a.off+6,none⟩=some (.int .i64 n.bB)
 c7:w.cell? ⟨a.block,a.off+7,none⟩=some (.bool n.fold)
def bS(w:World)(ka:Option Addr)(kl kc:Nat)(len:Nat)(vs:Nat->NV):Prop:=
 (ka=none/\kl=0/\kc=0/\len=0)\/∃x,ka=some x/\kl=len/\(len<=kc/\kc<=9223372036854775807)/\∀j,j<len->aL w (x.add (j*8)) (vs j)
inductive aV(w:World):NV->Tr->Prop
 |mk (n:NV) (set:RL) (kids:List Tr) (vs:Nat->NV) (hs:Reads w (.slice n.sa n.sl n.sc) set) (hk:bS w n.ka n.kl n.kc kids.length vs) (h:∀j (hj:j<kids.length),aV w (vs j) kids[j]):aV w n (.mk n.kind n.num n.least n.an n.bB n.fold set kids)
theorem aL.below{w w':World}{a:Addr}{n:NV}(h:aL w a n)(hb:Below w.heap.size w w'):aL w' a n:=
 ⟨aE hb (bb h.c0) h.c0,aE hb (bb h.c1) h.c1,aE hb (bb h.c2) h.c2,aE hb (bb h.c3) h.c3,aE hb (bb h.c4) h.c4,aE hb (bb h.c5) h.c5,aE hb (bb h.c6) h.c6,aE hb (bb h.c7) h.c7⟩
theorem bS.below{w w':World}{ka:Option Addr}{kl kc len:Nat}{vs:Nat->NV}(h:bS w ka kl kc len vs)(hb:Below w.heap.size w w'):bS w' ka kl kc len vs:=by
 rcases h with h|⟨x,h1,h2,hm,h3⟩
 ·exact .inl h
 ·exact .inr ⟨x,h1,h2,hm,fun j hj=>(h3 j hj).below hb⟩
theorem aV.ar{w w':World}{n:NV}{t:Tr}(h:aV w n t)(hb:Below w.heap.size w w'):aV w' n t:=by
 induction h with
 |mk n set kids vs hs hk h ih=>exact .mk n set kids vs (hs.below hb) (hk.below hb) ih
theorem bS.len{w:World}{ka:Option Addr}{kl kc len:Nat}{vs:Nat->NV}(h:bS w ka kl kc len vs):kl=len:=by
 rcases h with⟨_,h1,_,h2⟩|⟨x,h1,h2,_,h3⟩
 ·omega
 ·exact h2
theorem aV.open{w:World}{n:NV}{t:Tr}(h:aV w n t):t.kind=n.kind/\t.num=n.num/\t.least=n.least/\t.an=n.an/\t.bB=n.bB/\t.fold=n.fold/\Reads w (.slice n.sa n.sl n.sc) t.set/\∃vs,bS w n.ka n.kl n.kc t.kids.length vs/\∀j (hj:j<t.kids.length),aV w (vs j) t.kids[j]:=by
 cases h with
 |mk _ set kids vs hs hk h=>exact⟨rfl,rfl,rfl,rfl,rfl,rfl,hs,vs,hk,h⟩
theorem ak{w:World}{k:Nat}{n:NV}(h:w.heap[k]? =some (aG n)):aL w ⟨k,0,none⟩ n:=by
 refine⟨?_,?_,?_,?_,?_,?_,?_,?_⟩<;>simp[World.cell?,h]
def kQ(step:Tr->Nat->Nat):List Tr->Nat->Nat
 |[],c=>c
 |t::ts,c=>if c<1001 then kQ step ts (step t c)else c
def jH:Nat->Tr->Nat->Nat
 |0,_,_=>1001
 |f+1,t,c=>kQ (jH f) t.kids (c+1)
theorem GG{step:Tr->Nat->Nat}(hs:∀t c,c<=1000->step t c<=1001):∀(ts:List Tr) (c:Nat),c<=1001->kQ step ts c<=1001:=by
 intro ts
 induction ts with
 |nil=>intro c h;exact h
 |cons t ts ih=>
  intro c h
  unfold kQ
  split
  ·rename_i h1;exact ih _ (hs t c (by omega))
  ·exact h
theorem zC:∀(f:Nat) (t:Tr) (c:Nat),c<=1000->jH f t c<=1001:=by
 intro f
 induction f with
 |zero=>intro t c _;exact U _
 |succ f ih=>intro t c h;exact GG ih _ _ (by omega)
theorem Bq{step:Tr->Nat->Nat}{ts:List Tr}{j c:Nat}(hj:j<ts.length)(hc:c<1001):kQ step (ts.drop j) c=kQ step (ts.drop (j+1)) (step ts[j] c):=by
 rw[List.drop_eq_getElem_cons hj]
 conv=>lhs;unfold kQ
 rw[if_pos hc]
theorem oa{step:Tr->Nat->Nat}{ts:List Tr}{c:Nat}(hc:¬c<1001):kQ step ts c=c:=by
 cases ts with
 |nil=>rfl
 |cons t ts=>unfold kQ;rw[if_neg hc]
theorem vk:∀(f:Nat) (n:NV) (t:Tr) (c:Nat) (deep:Int) (w:World),aV w n t->c<=1000->deep=201 - (f:Int)->f<=201->Calls prog 52 #[.int .i64 c,cz n,.int .i64 deep] w fun e w'=>e=.returned (.int .i64 (jH f t c:Nat))/\Below w.heap.size w w':=by
 intro f
 induction f with
 |zero=>
  intro n t c deep w h hc hd hf
  have e1:(200:Int)<deep:=by omega
  have hb:Below w.heap.size w (w.alloc (aG n)):=(J _ _).alloc (U _) _
  have HB:=I hb
  clear h hd hb
  go_enter func52,ntmps52
  go_wp2
  go_ret
  exact⟨rfl,HB.o⟩
 |succ f ih=>
  intro n t c deep w h hc hd hf
  have e1:¬(200:Int)<deep:=by omega
  have hdw:IntKind.i64.wrap (deep+1)=deep+1:=by rw[IntKind.wrap_i64];omega
  have hdr: -9223372036854775808<=deep/\deep<=1000:=by omega
  have hb:Below w.heap.size w (w.alloc (aG n)):=(J _ _).alloc (U _) _
  have HB:=I hb
  obtain⟨-, -, -, -, -, -, -,vs,hk,hkids⟩:=h.open
  have HKd:=I hkids
  have HKc:=I hk
  have hkl:=hk.len
  have HIH:=I (fun (n:NV) (t:Tr) (c:Nat) (w:World) (h:aV w n t) (hc:c<=1000)=>ih n t c (deep+1) w h hc (by omega) (by omega))
  obtain⟨w1,hw1⟩:∃w1,w1=w.alloc (aG n):=⟨_,rfl⟩
  have hbox:w1.heap[w.heap.size]? =some (aG n):=by rw[hw1];exact aj _ _
  have HBx:=I hbox
  rw[<- hw1]at HB
  simp only[aG]at hw1
  obtain⟨ks,hks⟩:∃ks,ks=t.kids:=⟨_,rfl⟩
  have HE:Hid (jH (f+1) t c=kQ (jH f) ks (c+1)):=by show _=_;rw[hks];rfl
  have HLe:Hid (∀t c,c<=1000->jH f t c<=1001):=zC f
  rw[<- hks]at HKc hkl
  have HKd2:Hid (∀j (hj:j<ks.length),aV w (vs j) ks[j]):=by subst hks;exact HKd.o
  clear h hd hb hbox hkids hk ih hf HKd hks
  have HKL:=I hkl
  clear hkl
  go_enter func52,ntmps52
  go_wp2
  rw[<- hw1]
  clear hw1
  go_loopw [0,7] (fun s t wr=>∃(j cc:Nat),j<=ks.length/\cc<=1001/\s=.int .i64 cc/\t=.int .i64 j/\kQ (jH f) ks (c+1)=kQ (jH f) (ks.drop j) cc/\wr.heap[w.heap.size]? =some (aG n)/\Below w.heap.size w wr) (fun _ t _=>ks.length - (intOf t).toNat)
  case atStart=>exact⟨0,c+1,Nat.zero_le _,by omega,by go_num,rfl,rfl,HBx.o,HB.o⟩
  case round=>
   obtain⟨j,cc,hj,hcc,rfl,rfl,hE,hx,hb⟩:=hrel
   have HE2:=I hE
   have HX:=I hx
   have HB2:=I hb
   have hnc:=ak hx
   have m2:=hnc.c2
   obtain⟨w2,hw2⟩:∃w2,w2=wr:=⟨_,rfl⟩
   subst hw2
   clear hE hx hb hnc HB HBx
   by_cases hlt:j<ks.length
   ·have e2:(j:Int)<(n.kl:Int):=by have:=HKL.o;omega
    by_cases hst:cc<1001
    ·have e3:(cc:Int)<1001:=by omega
     have e4:(0:Int)<=(j:Int):=by omega
     rcases HKc.o with⟨_,_,_,h0⟩|⟨x,hx,hkk,hmx,hcl⟩
     ·exact absurd h0 (by omega)
     ·have hcj:=(hcl j hlt).below HB2.o
      have hN:=(HKd2.o j hlt).ar HB2.o
      obtain⟨d0,d1,d2,d3,d4,d5,d6,d7⟩:=hcj
      have HC:=I (HIH.o (vs j) ks[j] cc w2 hN (by omega))
      have hjm:(j:Int)+1<=9223372036854775807:=by omega
      have hjw:IntKind.i64.wrap ((j:Int)+1)=(j:Int)+1:=by rw[IntKind.wrap_i64];omega
      rw[hx]at m2
      clear hcl hN hx
      go_wp2_with fail
      refine HC.o.mono ?_
      rintro e w3 ⟨rfl,hb3⟩
      have HB3:=I (HB2.o.trans (hb3.mono HB2.o.size))
      have HX3:=I (show w3.heap[w.heap.size]? =some (aG n) by rw[hb3.block _ (lt_of_block HX.o)];exact HX.o)
      have hle:=HLe.o ks[j] cc (by omega)
      have HNx:Hid (kQ (jH f) ks (c+1)=kQ (jH f) (ks.drop (j+1)) (jH f ks[j] cc)):=by show _=_;rw[HE2.o,Bq hlt hst]
      clear hb3 HC HB2 HX
      go_wp2
      go_roundw
      case rel=>exact⟨j+1,_,by omega,hle,rfl,by go_num,HNx.o,HX3.o,HB3.o⟩
      case measure=>simp[intOf];omega
    ·have e3:¬(cc:Int)<1001:=by omega
     have hF:Hid (jH (f+1) t c=cc):=by show _=_;rw[HE.o,HE2.o,oa hst]
     go_wp2
     go_ret
     exact⟨by rw[hF.o];rfl,HB2.o⟩
   ·have e2:¬(j:Int)<(n.kl:Int):=by have:=HKL.o;omega
    have hF:Hid (jH (f+1) t c=cc):=by
     show _=_
     rw[HE.o,HE2.o,List.drop_eq_nil_of_le (by omega)];rfl
    go_wp2
    go_ret
    exact⟨by rw[hF.o];rfl,HB2.o⟩
def gd(t:Tr):Nat:=jH 201 t 0
theorem sN(n:NV)(t:Tr)(w:World)(h:aV w n t):Calls prog 32 #[cz n] w fun e w'=>e=.returned (.tuple #[.int .i64 (if gd t<1001 then(gd t:Int)else 0),.int .i64 (if gd t<1001 then 0 else 2)])/\Below w.heap.size w w':=by
 have hb:Below w.heap.size w (w.alloc (aG n)):=(J _ _).alloc (U _) _
 have hN:=h.ar hb
 obtain⟨w1,hw1⟩:∃w1,w1=w.alloc (aG n):=⟨_,rfl⟩
 have hbox:w1.heap[w.heap.size]? =some (aG n):=by rw[hw1];exact aj _ _
 rw[<- hw1]at hN hb
 have HC:=I (vk 201 n t 0 0 w1 hN (by omega) (by omega) (by omega))
 have HB:=I hb
 obtain⟨d0,d1,d2,d3,d4,d5,d6,d7⟩:=ak hbox
 obtain⟨q,hq⟩:∃q,q=gd t:=⟨_,rfl⟩
 rw[show jH 201 t 0=q from hq.symm]at HC
 rw[<- hq]
 simp only[aG]at hw1
 clear h hN hb hbox hq
 by_cases hlt:q<1001
 ·have e1:(q:Int)<1001:=by omega
  rw[if_pos hlt,if_pos hlt]
  clear hlt
  go_enter func32,ntmps32
  go_wp2_with fail
  rw[<- hw1]
  clear hw1
  refine HC.o.mono ?_
  rintro e w2 ⟨rfl,hb2⟩
  have HB2:=I (HB.o.trans (hb2.mono HB.o.size))
  clear hb2 HC
  go_wp2
  go_ret2
  exact⟨rfl,HB2.o⟩
 ·have e1:¬(q:Int)<1001:=by omega
  rw[if_neg hlt,if_neg hlt]
  clear hlt
  go_enter func32,ntmps32
  go_wp2_with fail
  rw[<- hw1]
  clear hw1
  refine HC.o.mono ?_
  rintro e w2 ⟨rfl,hb2⟩
  have HB2:=I (HB.o.trans (hb2.mono HB.o.size))
  clear hb2 HC
  go_wp2
  go_ret2
  exact⟨rfl,HB2.o⟩
end Go.Proofs.YtklbbbldalmnbaaGreatDoor.TR
