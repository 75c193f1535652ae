import Derived.Test.YtfnndcbjklppeaaGreatDoorVL2
import Derived.RegionTactic
import Derived.Deep.QuietTactic
import Derived.BigQuiet
import Derived.WalkSmall
set_option linter.unusedVariables false
set_option maxHeartbeats 8000000
set_option maxRecDepth 100000
open Go.Proofs.Tryz
namespace Go.Proofs.YtfnndcbjklppeaaGreatDoor
open Go.RowKit
mutual
def dpT:Tr→Nat
 | .mk _ _ _ _ _ _ _ kids=>dpL kids
def dpL:List Tr→Nat
 |[]=>0
 |t::ts=>Nat.max (dpT t+1) (dpL ts)
end
theorem dpT_kids(t:Tr):dpT t=dpL t.kids:=by cases t;rfl
theorem dpL_le:∀(ts:List Tr) (f:Nat),dpL ts≤f↔∀t∈ts,dpT t+1≤f
 |[],f=>by simp[dpL]
 |t::ts,f=>by
  rw[dpL]
  have:=dpL_le ts f
  simp only[List.mem_cons,forall_eq_or_imp, ←this]
  exact Nat.max_le
theorem cntL_iff{f:Nat}(hs:∀t c,c≤1000→(cntT f t c<1001↔c+szT t≤1000∧dpT t<f)):∀(ts:List Tr) (c:Nat),c≤1000→(cntL (cntT f) ts c<1001↔c+szL ts≤1000∧dpL ts≤f)
 |[],c,hc=>by simp[cntL,szL,dpL];omega
 |t::ts,c,hc=>by
  have h1:=hs t c hc
  unfold cntL
  rw[if_pos (by omega),dpL,szL]
  by_cases h:cntT f t c<1001
  ·have h2:=cntT_sz f t c (by omega) h
   have h3:=cntL_iff hs ts (cntT f t c) (by omega)
   rw[h3,h2]
   have h4:=h1.1 h
   have h5:Nat.max (dpT t+1) (dpL ts)≤f↔dpT t+1≤f∧dpL ts≤f:=Nat.max_le
   rw[h5]
   constructor<;>intro h<;>omega
  ·rw [cntL_stop h]
   have h5:Nat.max (dpT t+1) (dpL ts)≤f↔dpT t+1≤f∧dpL ts≤f:=Nat.max_le
   rw[h5]
   constructor
   ·intro h';exact absurd h' h
   ·intro⟨ha,hb,_⟩;exact absurd (h1.2 ⟨by omega,by omega⟩) h
theorem cntT_iff:∀(f:Nat) (t:Tr) (c:Nat),c≤1000→(cntT f t c<1001↔c+szT t≤1000∧dpT t<f):=by
 intro f
 induction f with
 |zero=>intro t c hc;unfold cntT;constructor<;>intro h<;>omega
 |succ f ih=>
  intro t c hc
  unfold cntT
  by_cases h:c+1≤1000
  ·rw [cntL_iff ih _ _ h,szT_kids,dpT_kids]
   constructor<;>intro h<;>omega
  ·have h2:=szT_pos t
   rw[cntL_stop (by omega)]
   constructor<;>intro h<;>omega
theorem cntA_iff(t:Tr):cntA t<1001↔szT t≤1000∧dpT t≤200:=by
 unfold cntA
 rw[cntT_iff 201 t 0 (by omega)]
 constructor<;>intro h<;>omega
mutual
def smT:Tr→Prop
 | .mk _ _ _ _ _ _ _ kids=>kids.length≤4611686018427387904∧smL kids
def smL:List Tr→Prop
 |[]=>True
 |t::ts=>smT t∧smL ts
end
theorem smT_kids(t:Tr):smT t=(t.kids.length≤4611686018427387904∧smL t.kids):=by cases t;rfl
theorem smL_mem:∀{ts:List Tr},smL ts→∀t∈ts,smT t
 |u::ts,h,t,ht=>by
  rcases List.mem_cons.1 ht with rfl|ht
  ·exact h.1
  ·exact smL_mem h.2 t ht
theorem smL_of:∀{ts:List Tr},(∀t∈ts,smT t)→smL ts
 |[],_=>trivial
 |u::ts,h=>⟨h u (by simp),smL_of (fun t ht=>h t (by simp[ht]))⟩
abbrev ZL:Type:=List ((NV×Tr)×Nat)
def szZ:ZL→Nat
 |[]=>0
 |z::Z=>szT z.1.2+szZ Z
theorem szZ_append:∀a b:ZL,szZ (a++b)=szZ a+szZ b
 |[],b=>by simp[szZ]
 |z::a,b=>by rw[List.cons_append,szZ,szZ,szZ_append a b];omega
theorem szZ_len:∀Z:ZL,Z.length≤szZ Z
 |[]=>leR _
 |z::Z=>by rw[szZ,List.length_cons];have:=szZ_len Z;have:=szT_pos z.1.2;omega
structure Todo(w0:World)(t:Tr)(many:Nat)(Z:ZL):Prop where
 sz:many+szZ Z=szT t
 dp:dpT t≤200↔∀z∈Z,z.2+dpT z.1.2≤200
 len:many+Z.length≤1000
 nd:∀z∈Z,NodeC w0 z.1.1 z.1.2
 sm:∀z∈Z,smT z.1.2
theorem Todo.start{w0:World}{n:NV}{t:Tr}(h:NodeC w0 n t)(hs:smT t):Todo w0 t 0 [((n,t),0)]:=
 ⟨by simp[szZ],by simp,by simp,fun z hz=>by simp at hz;subst hz;exact h,fun z hz=>by simp at hz;subst hz;exact hs⟩
theorem Todo.done{w0:World}{t:Tr}{many:Nat}(h:Todo w0 t many []):cntA t<1001:=by
 rw[cntA_iff]
 have h1:=h.sz
 have h2:=h.len
 simp[szZ]at h1 h2
 exact⟨by omega,h.dp.2 (by simp)⟩
theorem Todo.many{w0:World}{t:Tr}{many:Nat}{Z:ZL}{z:(NV×Tr)×Nat}(h:Todo w0 t many (Z++[z]))(hm:1000<many+1+Z.length+z.1.2.kids.length):¬cntA t<1001:=by
 rw[cntA_iff]
 have h1:=h.sz
 have h2:=szZ_len Z
 have h3:z.1.2.kids.length≤szL z.1.2.kids:=by
  generalize z.1.2.kids=l
  induction l with
  |nil=>simp
  |cons t ts ih=>rw[szL,List.length_cons];have:=szT_pos t;omega
 rw[szZ_append]at h1
 simp[szZ]at h1
 rw[szT_kids]at h1
 omega
theorem Todo.deep{w0:World}{t:Tr}{many:Nat}{Z:ZL}{z:(NV×Tr)×Nat}(h:Todo w0 t many (Z++[z]))(hd:200<z.2):¬cntA t<1001:=by
 rw[cntA_iff]
 intro⟨_,h2⟩
 have:=h.dp.1 h2 z (by simp)
 omega
theorem szZ_map(d:Nat):∀K:List (NV×Tr),szZ (K.map (fun k=>(k,d)))=szL (K.map (·.2))
 |[]=>rfl
 |k::K=>by rw[List.map_cons,List.map_cons,szZ,szL,szZ_map d K]
theorem Todo.next{w0:World}{t:Tr}{many:Nat}{Z:ZL}{z:(NV×Tr)×Nat}(h:Todo w0 t many (Z++[z]))(hm:many+1+Z.length+z.1.2.kids.length≤1000)(hd:z.2≤200){K:List (NV×Tr)}(hK:K.map (·.2)=z.1.2.kids)(hN:∀k∈K,NodeC w0 k.1 k.2):Todo w0 t (many+1) (Z++K.map (fun k=>(k,z.2+1))):=by
 have hl:K.length=z.1.2.kids.length:=by rw[← hK,List.length_map]
 refine⟨?_,?_,?_,?_,?_⟩
 ·have h1:=h.sz
  rw[szZ_append]at h1 ⊢
  rw[szZ_map,hK]
  simp[szZ]at h1
  rw[szT_kids]at h1
  omega
 ·rw [h.dp]
  have h2:=dpL_le z.1.2.kids (200 - z.2)
  rw[← dpT_kids, ←hK]at h2
  constructor
  ·intro ha y hy
   rcases List.mem_append.1 hy with hy|hy
   ·exact ha y (by simp[hy])
   ·obtain ⟨k,hk,rfl⟩:=List.mem_map.1 hy
    have h3:=ha z (by simp)
    have h4:=h2.1 (by omega) k.2 (List.mem_map.2 ⟨k,hk,rfl⟩)
    show z.2+1+dpT k.2≤200
    omega
  ·intro ha y hy
   rcases List.mem_append.1 hy with hy|hy
   ·exact ha y (by simp[hy])
   ·simp at hy
    subst hy
    have:dpT y.1.2≤200 - y.2:=h2.2 (fun u hu=>by
     obtain⟨k,hk,rfl⟩:=List.mem_map.1 hu
     have:=ha (k,y.2+1) (by simp;exact .inr hk)
     simp at this
     omega)
    omega
 ·simp;omega
 ·intro y hy
  rcases List.mem_append.1 hy with hy|hy
  ·exact h.nd y (by simp[hy])
  ·obtain ⟨k,hk,rfl⟩:=List.mem_map.1 hy
   exact hN k hk
 ·intro y hy
  rcases List.mem_append.1 hy with hy|hy
  ·exact h.sm y (by simp[hy])
  ·obtain ⟨k,hk,rfl⟩:=List.mem_map.1 hy
   have h1:=h.sm z (by simp)
   rw[smT_kids]at h1
   exact smL_mem h1.2 _ (by rw[← hK];exact List.mem_map.2 ⟨k,hk,rfl⟩)
theorem flat_any{w0:World}{n:NV}{t:Tr}(h:NodeC w0 n t):szT t≤1000→∀w:World,Below w0.heap.size w0 w→Calls prog 24 #[nvV n] w (FlatE w0 w t):=by
 induction h with
 |mk n set ks vs hs hk hkids ih=>
  intro hsz w hw0
  obtain⟨i0,hi,hz0,hz1,hz2⟩:=info_parts infoN
  obtain⟨T,hT⟩:=named (Tr.mk n.kind n.num n.least n.most n.way n.fold set ks)
  have HN0:Hid (NodeC w0 n T):=by show NodeC _ _ _;rw[hT];exact .mk n set ks vs hs hk hkids
  have HTk:Hid (flatT T=T::flatL ks):=by show _=_;rw[hT];rfl
  have hsL:szL ks+1≤1000:=by rw[szT]at hsz;omega
  rw[← hT]
  have HK:=hide hk
  have HIH:=hide ih
  have hkl:=hk.len
  have HKL:=hide hkl
  have HW0:=hide hw0
  have HSL:=hide hsL
  have hb2:Below w.heap.size w ((w.alloc (nvO n)).alloc (nvO n)):=(allocB w _).alloc (by simp) _
  have ho2:((w.alloc (nvO n)).alloc (nvO n)).ownsRow (w.heap.size+1) 32 8 (.slice (some ⟨w.heap.size+1,0,none⟩) 1 1) 1 (rowN [(n,T)]):=by
   have:=World.ownsRow_lit (base:=w.heap.size+1) (e:=32) (size:=8) (w.alloc (nvO n)) #[.int .i64 n.kind,.slice n.sa n.sl n.sc,.slice n.ka n.kl n.kc,.int .i64 n.num,.int .i64 n.least,.int .i64 n.most,.int .i64 n.way,.bool n.fold] 1 (by simp) (by decide) rfl
   simpa[rowN]using this
  obtain⟨w1,hw1⟩:=named (w.alloc (nvO n))
  have hX1:w1.heap[w.heap.size]? =some (nvO n):=by rw[hw1];exact at_new _ _
  have hs1:w1.heap.size=w.heap.size+1:=by rw[hw1];simp
  rw[← hw1]at hb2 ho2
  obtain⟨w2,hw2⟩:=named (w1.alloc (nvO n))
  have hX2:w2.heap[w.heap.size]? =some (nvO n):=by rw[hw2];exact at_old hX1
  rw[← hw2]at hb2 ho2
  have HB2:=hide hb2
  have HO2:=hide ho2
  have HX2:=hide hX2
  obtain⟨d0,d1,d2,d3,d4,d5,d6,d7⟩:=nv_cells hX1
  simp only[nvO]at hw1 hw2
  clear hs hk hkids ih hsz hw0 hT hb2 ho2 hX2 hX1 hkl hsL
  go_enter func24,ntmps24
  go_upto_region 1 with fail
  rw[← hw1]
  clear hw1
  go_upto_region 2 with fail
  rw[← hw2]
  clear hw2 hs1 d0 d1 d2 d3 d4 d5 d6 d7
  go_wp2
  go_loopw [3,4] (fun v i wr=>∃(j:Nat) (F:List (NV×Tr)),j≤ks.length∧i=.int .i64 j∧F.map (·.2)=T::flatL (ks.take j)∧(∀x∈F,NodeC w0 x.1 x.2)∧wr.ownsRow (w.heap.size+1) 32 8 v F.length (rowN F)∧wr.heap[w.heap.size]? =some (nvO n)∧Below w.heap.size w wr) (fun _ i _=>ks.length - (intOf i).toNat)
  case atStart=>exact⟨0,[(n,T)],Nat.zero_le _,rfl,rfl,fun x hx=>by simp at hx;subst hx;exact HN0.out,HO2.out,HX2.out,HB2.out⟩
  case round=>
   obtain⟨j,F,hj,rfl,hF,hFn,ho,hx,hb⟩:=hrel
   have hFl:F.length=1+szL (ks.take j):=by
    have:=congrArg List.length hF
    rw[List.length_map,List.length_cons,flat_lenL]at this
    omega
   have HFl:=hide hFl
   have HF:=hide hF
   have HFn:=hide hFn
   obtain⟨m,hm⟩:=named F.length
   have HM:=hide hm
   rw[← hm]at ho
   obtain⟨va,vc,rfl⟩:=own_shape ho
   have hob:(Value.slice va m vc).ownBlock≠some w.heap.size:=fun e=>by have:=(ho.lt _ e).1;omega
   have HO:=hide ho
   have HX:=hide hx
   have HB:=hide hb
   have HOB:=hide hob
   obtain⟨d0,d1,d2,d3,d4,d5,d6,d7⟩:=nv_cells hx
   obtain⟨w3,hw3⟩:=named wr
   subst hw3
   clear hF hFn ho hx hb hm hFl hob HB2 HO2 HX2
   by_cases hlt:j<ks.length
   ·have e2:(j:Int)<(n.kl:Int):=by have:=HKL.out;omega
    have e4:(0:Int)≤(j:Int):=by omega
    have hjw:IntKind.i64.wrap ((j:Int)+1)=(j:Int)+1:=by
     have:=szL_get hlt
     have:=HSL.out
     have:j≤1000:=by
      have h1:(ks.take j).length≤szL (ks.take j):=by
       have:=flat_lenL (ks.take j)
       clear this
       generalize ks.take j=l
       induction l with
       |nil=>simp
       |cons t ts ih=>rw[szL,List.length_cons];have:=szT_pos t;omega
      rw[List.length_take]at h1
      omega
     rw[IntKind.wrap_i64];omega
    rcases HK.out with⟨_,_,_,h0⟩|⟨x,hx,hkk,hmx,hcl⟩
    ·exact absurd h0 (by omega)
    ·have hB0:=HW0.out.andT HB.out
     have hcj:=(hcl j hlt).below hB0
     obtain⟨f0,f1,f2,f3,f4,f5,f6,f7⟩:=hcj
     have hget:=szL_get hlt
     have HC:=hide (HIH.out j hlt (by have:=HSL.out;omega) w3 hB0)
     have HG:=hide hget
     rw[hx]at d2
     clear hcl hx hB0 hget hkk hmx
     go_wp2_with fail
     refine HC.out.mono ?_
     rintro e w4 ⟨v2,F2,rfl,hF2,hFn2,ho4,hb4⟩
     have hl2:F2.length=szT ks[j]:=by
      have:=congrArg List.length hF2
      rw[List.length_map,flat_len]at this
      exact this
     have hp2:=szT_pos ks[j]
     have hrl:=rowN_len F2
     obtain⟨m2,hm2⟩:=named F2.length
     rw[← hm2]at ho4 hl2 hrl
     have hbd:m+m2≤1000∧0<m2:=by
      have h1:=HFl.out
      have h2:=HM.out
      have h3:=HG.out
      have h4:=HSL.out
      omega
     have HM2:=hide hm2
     have HRL:=hide hrl
     clear hl2 hp2 hm2 hrl
     obtain⟨g,cap,rfl,hg1,hg2⟩:=ho4.form hbd.2
     have hown:=own_keep HO.out hb4
     have hx4:w4.heap[w.heap.size]? =some (nvO n):=by rw[hb4.block _ (lt_of_block HX.out)];exact HX.out
     have hB4:=HB.out.andT hb4
     have hs4:w.heap.size<w4.heap.size:=Nat.lt_of_lt_of_le (lt_of_block HX.out) hb4.size
     have hnews:∀i u,(rowN F2)[i]? =some u→w4.cell? ((⟨g,0,none⟩:Addr).add i)=some u:=ho4.cells rfl
     have HBD:=hide hbd
     clear hbd
     have HO4:=hide hown
     have HX4:=hide hx4
     have HB4:=hide hB4
     have HF2:=hide hF2
     have HFn2:=hide hFn2
     have HNW:=hide hnews
     clear hb4 ho4 hown hx4 hB4 hF2 hFn2 hnews HC f0 f1 f2 f3 f4 f5 f6 f7 d0 d1 d2 d3 d4 d5 d6 d7 HO HX HB
     go_wp2_with (at_builtin;refine wpList_append_own _ rfl _ _ 30 rfl (w.heap.size+1) 32 i0 _ 8 96 underlying30 hi hz0 hz1 hz2 rfl (by decide) _ _ _ rfl HO4.out ⟨g,0,none⟩ m2 cap (rowN F2) rfl HRL.out HNW.out (rowN_one F2) (by have:=HBD.out;unfold maxLen;omega) (by have:=HBD.out;omega) (by omega) ?_)
     intro v5 w5 hown5 hgrow5 _
     have hx5:w5.heap[w.heap.size]? =some (nvO n):=by
      rw[hgrow5.block _ (by omega) (fun e=>HOB.out e.symm)]
      exact HX4.out
     have hb5:Below w.heap.size w w5:=HB4.out.grown hgrow5 (by omega) (fun q hq=>by have:=(HO4.out.lt q hq).1;omega)
     obtain⟨a5,k5,rfl⟩:=own_shape hown5
     have HO5:=hide hown5
     have HX5:=hide hx5
     have HB5:=hide hb5
     have HF5:Hid ((F++F2).map (·.2)=T::flatL (ks.take (j+1))):=by
      show _=_
      rw[List.map_append,HF.out,HF2.out,flatL_take hlt];rfl
     have HFn5:Hid (∀x∈F++F2,NodeC w0 x.1 x.2):=fun x hx=>by
      rcases List.mem_append.1 hx with hx|hx
      ·exact HFn.out x hx
      ·exact HFn2.out x hx
     clear hown5 hgrow5 hx5 hb5 HO4 HX4 HB4
     go_wp2
     go_roundw
     case rel=>exact⟨j+1,F++F2,by omega,by go_num,HF5.out,HFn5.out,by rw[rowN_append,List.length_append, ←HM.out, ←HM2.out];exact HO5.out,HX5.out,HB5.out⟩
     case measure=>simp[intOf];omega
   ·have e2:¬(j:Int)<(n.kl:Int):=by have:=HKL.out;omega
    go_wp2
    go_ret
    refine⟨_,F,rfl,?_,HFn.out,?_,HB.out⟩
    ·rw[HF.out,HTk.out,List.take_of_length_le (by omega)]
    ·rw[← HM.out];exact HO.out.mono (by omega)
def fstZ(Z:ZL):List (NV×Tr):=Z.map (·.1)
def sndZ(Z:ZL):List Int:=Z.map (fun z=>(z.2:Int))
theorem fstZ_len(Z:ZL):(fstZ Z).length=Z.length:=by simp[fstZ]
theorem sndZ_len(Z:ZL):(sndZ Z).length=Z.length:=by simp[sndZ]
theorem fstZ_append(a b:ZL):fstZ (a++b)=fstZ a++fstZ b:=by simp[fstZ]
theorem sndZ_append(a b:ZL):sndZ (a++b)=sndZ a++sndZ b:=by simp[sndZ]
theorem i64s_app(a b:List Int):i64s (a++b)=i64s a++i64s b:=by simp[i64s]
theorem i64s_length(a:List Int):(i64s a).length=a.length:=by simp[i64s]
theorem q_grown{B e k n:Nat}{w w':World}{v:Value}{xs:List Value}{row:Option Nat}(h:w.ownsRow B e k v n xs)(hg:w.grownBy w' row)(hne:∀g,v.ownBlock=some g→some g≠row):w'.ownsRow B e k v n xs:=by
 obtain⟨h1,h2⟩:=h
 refine⟨h1,?_⟩
 rcases h2 with h2|⟨g,cap,cur,hv,hb,hh,r⟩
 ·exact .inl h2
 ·refine .inr ⟨g,cap,cur,hv,hb,?_,r⟩
  rw[hg.block g (lt_of_block hh) (hne g (by rw[hv];rfl))]
  exact hh
theorem q_apart{B e e' k k' n n':Nat}{w:World}{v v':Value}{xs xs':List Value}(h:w.ownsRow B e k v n xs)(h':w.ownsRow B e' k' v' n' xs')(hee:e≠e'):∀g,v.ownBlock=some g→some g≠v'.ownBlock:=by
 intro g hg hg'
 rcases h.2 with⟨rfl,_⟩|⟨g1,cap,cur,rfl,_,hh,_⟩
 ·simp[Value.ownBlock]at hg
 ·rcases h'.2 with⟨rfl,_⟩|⟨g2,cap',cur',rfl,_,hh',_⟩
  ·simp[Value.ownBlock]at hg'
  ·simp [Value.ownBlock]at hg hg'
   rw[hg]at hh
   rw[← hg',hh]at hh'
   simp at hh'
   exact hee hh'.2
theorem q_int1(z:Int):∀u∈[Value.int .i64 z],u.oneCell'=true:=by
 intro u hu
 simp at hu
 rw[hu];rfl
theorem kids_list{w0:World}{n:NV}{t:Tr}(h:NodeC w0 n t):∃K:List (NV×Tr),K.map (·.2)=t.kids∧(∀k∈K,NodeC w0 k.1 k.2)∧n.kl=K.length∧(K.length=0∨∃x,n.ka=some x∧∀i (hi:i<K.length),NCells w0 (x.add (i*8)) K[i].1):=by
 obtain⟨-, -, -, -, -, -, -,vs,hk,hn⟩:=h.open
 obtain⟨K,h1,h2⟩:=list_of' (α:=NV×Tr) (n:=t.kids.length) (P:=fun i r=>r.1=vs i∧t.kids[i]? =some r.2) (fun i hi=>⟨(vs i,t.kids[i]),rfl,List.getElem?_eq_getElem hi⟩)
 have hkl:=hk.len
 refine⟨K,?_,?_,by omega,?_⟩
 ·refine List.ext_getElem (by simp[h1]) (fun i h3 h4=>?_)
  have:=(h2 i (by simpa using h3)).2
  rw[List.getElem?_eq_getElem h4]at this
  simp
  exact(Option.some.inj this).symm
 ·intro k hk'
  obtain⟨i,hi,rfl⟩:=List.getElem_of_mem hk'
  have h3:=h2 i hi
  have h4:=hn i (by omega)
  rw[List.getElem?_eq_getElem (by omega)]at h3
  rw[h3.1, ←Option.some.inj h3.2]
  exact h4
 ·rcases hk with⟨_,_,_,h0⟩|⟨x,hx,_,_,hc⟩
  ·exact .inl (by omega)
  ·exact .inr ⟨x,hx,fun i hi=>by rw[(h2 i hi).1];exact hc i (by omega)⟩
theorem tooGreat_any{w0:World}{n:NV}{t:Tr}(h:NodeC w0 n t)(hsm:smT t)(w:World)(hw0:Below w0.heap.size w0 w):Calls prog 45 #[nvV n] w fun e w'=>e=.returned (.bool (!decide (cntA t<1001)))∧Below w.heap.size w w':=by
 obtain⟨i0,hi,hz0,hz1,hz2⟩:=info_parts infoN
 obtain⟨j0,hj,hy0,hy1,hy2⟩:=info_parts info3
 have HW0:=hide hw0
 have HST:=hide (Todo.start h hsm)
 obtain⟨w1,hw1⟩:=named (w.alloc (nvO n))
 have hs1:w1.heap.size=w.heap.size+1:=by rw[hw1];simp
 have hX1:w1.heap[w.heap.size]? =some (nvO n):=by rw[hw1];exact at_new _ _
 obtain⟨w2,hw2⟩:=named (w1.alloc (nvO n))
 have ho2:w2.ownsRow w.heap.size 32 8 (.slice (some ⟨w.heap.size+1,0,none⟩) 1 1) 1 (rowN (fstZ [((n,t),0)])):=by
  have:=World.ownsRow_lit (base:=w.heap.size) (e:=32) (size:=8) w1 #[.int .i64 n.kind,.slice n.sa n.sl n.sc,.slice n.ka n.kl n.kc,.int .i64 n.num,.int .i64 n.least,.int .i64 n.most,.int .i64 n.way,.bool n.fold] 1 (by omega) (by decide) rfl
  rw[← hs1,hw2]
  simpa[rowN,fstZ]using this
 obtain⟨w3,hw3⟩:=named (w2.alloc (.cells #[.int .i64 0] 3))
 have hs2:w2.heap.size=w.heap.size+1+1:=by rw[hw2];simp[hs1]
 have ho3:w3.ownsRow w.heap.size 32 8 (.slice (some ⟨w.heap.size+1,0,none⟩) 1 1) 1 (rowN (fstZ [((n,t),0)])):=by rw[hw3];exact ho2.alloc _
 have hq3:w3.ownsRow w.heap.size 3 1 (.slice (some ⟨w.heap.size+1+1,0,none⟩) 1 1) 1 (i64s (sndZ [((n,t),0)])):=by
  have:=World.ownsRow_lit (base:=w.heap.size) (e:=3) (size:=1) w2 #[.int .i64 0] 1 (by omega) (by decide) rfl
  rw[← hs2,hw3]
  simpa[i64s,sndZ]using this
 have hb3:Below w.heap.size w w3:=by
  rw[hw3,hw2,hw1]
  exact((allocB w _).alloc (by simp) _).alloc (by simp;omega) _
 obtain⟨d0,d1,d2,d3,d4,d5,d6,d7⟩:=nv_cells hX1
 have HO3:=hide ho3
 have HQ3:=hide hq3
 have HB3:=hide hb3
 obtain⟨R,hR⟩:=named (!decide (cntA t<1001))
 have HR1:Hid (cntA t<1001→R=false):=fun h=>by rw[hR];simp[h]
 have HR2:Hid (¬cntA t<1001→R=true):=fun h=>by rw[hR];simp;omega
 rw[← hR]
 simp only[nvO]at hw1 hw2
 clear h hw0 hX1 ho2 ho3 hq3 hb3 hR
 go_enter func45,ntmps45
 go_upto_region 1 with fail
 rw[← hw1]
 clear hw1
 go_upto_region 2 with fail
 rw[← hw2, ←hw3]
 clear hw2 hw3 hs1 hs2 d0 d1 d2 d3 d4 d5 d6 d7
 go_wp2
 go_loopw [3,4,5] (fun a b c wr=>∃(m:Nat) (Z:ZL),c=.int .i64 m∧Todo w0 t m Z∧wr.ownsRow w.heap.size 32 8 a Z.length (rowN (fstZ Z))∧wr.ownsRow w.heap.size 3 1 b Z.length (i64s (sndZ Z))∧Below w.heap.size w wr) (fun _ _ c _=>1001 - (intOf c).toNat)
 case atStart=>exact⟨0,_,rfl,HST.out,HO3.out,HQ3.out,HB3.out⟩
 case round=>
  obtain⟨m,Z,rfl,hT,ho,hq,hb⟩:=hrel
  have HT:=hide hT
  have HB:=hide hb
  obtain⟨w4,hw4⟩:=named wr
  subst hw4
  clear HO3 HQ3 HB3 HST hb
  rcases List.eq_nil_or_concat Z with rfl|⟨Z',z,rfl⟩
  ·have hE:=HR1.out hT.done
   obtain⟨va,vc,rfl⟩:=own_shape ho
   obtain⟨qa,qc,rfl⟩:=own_shape hq
   clear hT ho hq HR1 HR2
   subst hE
   simp only[List.length_nil]
   go_wp2
   go_ret
   exact⟨rfl,HB.out⟩
  ·rw [List.concat_eq_append] at hT ho hq HT
   obtain⟨⟨xn,xt⟩,d⟩:=z
   have hlen:=hT.len
   have hnx:NodeC w0 xn xt:=hT.nd ((xn,xt),d) (by simp)
   have hsx:xt.kids.length≤4611686018427387904:=by have:=hT.sm ((xn,xt),d) (by simp);rw[smT_kids]at this;exact this.1
   have HSX:=hide hsx
   rw[List.length_append,List.length_singleton]at ho hq hlen
   obtain⟨k,hk⟩:=named (Z'.length)
   rw[← hk]at ho hq hlen
   obtain⟨g3,c3,rfl,hg3,hg3'⟩:=ho.form (by omega)
   obtain⟨g4,c4,rfl,hg4,hg4'⟩:=hq.form (by omega)
   have hcx:NCells w4 ⟨g3,k*8,none⟩ xn:=by
    have:=rowN_cells ho (j:=k) (by rw[fstZ_len];simp;omega)
    simpa[fstZ,hk]using this
   have hcd:w4.cell? ⟨g4,k,none⟩=some (.int .i64 d):=by
    rw[hq.cellAt k (by omega)]
    simp[i64s,sndZ,hk]
   have hc3:k+1≤c3∧c3≤9223372036854775807:=by
    rcases ho.2 with⟨h0,_⟩|⟨g',cap',cur,hv,_,_,h1,h2,_⟩
    ·cases h0
    ·cases hv;unfold maxLen at h2;omega
   have hc4:k+1≤c4∧c4≤9223372036854775807:=by
    rcases hq.2 with⟨h0,_⟩|⟨g',cap',cur,hv,_,_,h1,h2,_⟩
    ·cases h0
    ·cases hv;unfold maxLen at h2;omega
   have ho':w4.ownsRow w.heap.size 32 8 (.slice (some ⟨g3,0,none⟩) k c3) k (rowN (fstZ Z')):=by
    refine ownsRow_pop (last:=rowN (fstZ [((xn,xt),d)])) (by rw[rowN_len,fstZ_len,hk]) ?_
    rw[← rowN_append, ←fstZ_append];exact ho
   have hq':w4.ownsRow w.heap.size 3 1 (.slice (some ⟨g4,0,none⟩) k c4) k (i64s (sndZ Z')):=by
    refine ownsRow_pop (last:=i64s (sndZ [((xn,xt),d)])) (by rw[i64s_length,sndZ_len,hk,Nat.mul_one]) ?_
    rw[← i64s_app, ←sndZ_append];exact hq
   have HK:=hide hk
   have HNX:=hide hnx
   have HO:=hide ho'
   have HQ:=hide hq'
   obtain⟨d0,d1,d2,d3,d4,d5,d6,d7⟩:=hcx
   simp only at d0 d1 d2 d3 d4 d5 d6 d7
   have e1:(0:Int)<((k+1:Nat):Int):=by omega
   have e2:IntKind.i64.wrap (((k+1:Nat):Int) - 1)=(k:Int):=by rw[IntKind.wrap_i64];omega
   have e3:(0:Int)≤(k:Int):=by omega
   have e4:(k:Int)<((k+1:Nat):Int):=by omega
   have e5:(k:Int)≤(c3:Int):=by omega
   have e6:(k:Int)≤(c4:Int):=by omega
   clear hT ho hq hnx hk ho' hq' hsx
   go_wp2
   go_region
   obtain⟨w5,hw5⟩:=named ((w4.alloc (nvO xn)).drew)
   have hX5:w5.heap[w4.heap.size]? =some (nvO xn):=by rw[hw5];exact at_new w4 _
   have HO5:Hid (w5.ownsRow w.heap.size 32 8 (.slice (some ⟨g3,0,none⟩) k c3) k (rowN (fstZ Z'))):=by show World.ownsRow _ _ _ _ _ _ _;rw[hw5];exact(HO.out.alloc _).drew
   have HQ5:Hid (w5.ownsRow w.heap.size 3 1 (.slice (some ⟨g4,0,none⟩) k c4) k (i64s (sndZ Z'))):=by show World.ownsRow _ _ _ _ _ _ _;rw[hw5];exact(HQ.out.alloc _).drew
   have HB5:Hid (Below w.heap.size w w5):=by show Below _ _ _;rw[hw5];exact(HB.out.alloc HB.out.size _).drew
   have hp5:w4.heap.size<w5.heap.size:=lt_of_block hX5
   obtain⟨p,hp⟩:=named w4.heap.size
   rw[← hp]at hX5 hp5 hg3' hg4'
   simp only[nvO]at hw5
   rw[← hw5, ←hp]
   have hwp:w.heap.size≤p:=by rw[hp];exact HB.out.size
   clear hw5 hp HO HQ HB d0 d1 d2 d3 d4 d5 d6 d7 hcd
   go_wp2
   go_quiet (fail)
   obtain⟨w6,hw6⟩:=named (w5.drewN nq)
   have hX6:w6.heap[p]? =some (nvO xn):=by rw[hw6];exact hX5
   have HO6:Hid (w6.ownsRow w.heap.size 32 8 (.slice (some ⟨g3,0,none⟩) k c3) k (rowN (fstZ Z'))):=by show World.ownsRow _ _ _ _ _ _ _;rw[hw6];exact HO5.out
   have HQ6:Hid (w6.ownsRow w.heap.size 3 1 (.slice (some ⟨g4,0,none⟩) k c4) k (i64s (sndZ Z'))):=by show World.ownsRow _ _ _ _ _ _ _;rw[hw6];exact HQ5.out
   have HB6:Hid (Below w.heap.size w w6):=by show Below _ _ _;rw[hw6];exact HB5.out.trans ⟨rfl,rfl,rfl,leR _,fun _ _=>rfl⟩
   have hp6:p<w6.heap.size:=lt_of_block hX6
   rw[← hw6]
   have HX6:=hide hX6
   obtain⟨d0,d1,d2,d3,d4,d5,d6,d7⟩:=nv_cells hX6
   clear hw6 HO5 HQ5 HB5 hX5 hp5 hX6
   have hkl:xn.kl=xt.kids.length:=by
    obtain⟨-, -, -, -, -, -, -,vs,hk, -⟩:=HNX.out.open
    exact hk.len
   have HKL:=hide hkl
   have hm1:IntKind.i64.wrap ((m:Int)+1)=(m:Int)+1:=by rw[IntKind.wrap_i64];omega
   have hkc:xn.kl≤4611686018427387904:=by rw[hkl];exact HSX.out
   have s1:IntKind.i64.wrap ((m:Int)+1+(k:Int))=(m:Int)+1+(k:Int):=by rw[IntKind.wrap_i64];omega
   have s2:IntKind.i64.wrap ((m:Int)+1+(k:Int)+(xn.kl:Int))=(m:Int)+1+(k:Int)+(xn.kl:Int):=by rw[IntKind.wrap_i64];omega
   clear hkl
   by_cases hgt:1000<m+1+k+xn.kl
   ·have hE:=HR2.out (HT.out.many (by have:=HKL.out;have:=HK.out;show 1000<m+1+Z'.length+xt.kids.length;omega))
    subst hE
    have f1:(1000:Int)<(m:Int)+1+(k:Int)+(xn.kl:Int):=by omega
    clear hgt HR1 HR2
    go_wp2
    go_ret
    exact⟨rfl,HB6.out⟩
   ·have f1:¬(1000:Int)<(m:Int)+1+(k:Int)+(xn.kl:Int):=by omega
    by_cases hd:200<d
    ·have hE:=HR2.out (HT.out.deep hd)
     subst hE
     have f2:(200:Int)<(d:Int):=by omega
     clear hgt HR1 HR2 hd
     go_wp2
     go_ret
     exact⟨rfl,HB6.out⟩
    ·have f2:¬(200:Int)<(d:Int):=by omega
     obtain⟨K,hK1,hK2,hK3,hK4⟩:=kids_list HNX.out
     have HNext:=hide (HT.out.next (by have:=HKL.out;have:=HK.out;show m+1+Z'.length+xt.kids.length≤1000;omega) (by show d≤200;omega) hK1 hK2)
     have hbK:m+1+k+K.length≤1000:=by omega
     obtain⟨kl,hkl⟩:=named K.length
     have HKLen:=hide hkl
     have HKK:Hid (xn.kl=kl):=by show _=_;omega
     rw[← hkl]at hbK
     have HK4:=hide hK4
     have HBK:=hide hbK
     have hne3:Hid ((Value.slice (some ⟨g3,0,none⟩) k c3).ownBlock≠some p):=fun e=>by simp[Value.ownBlock]at e;omega
     have hne4:Hid ((Value.slice (some ⟨g4,0,none⟩) k c4).ownBlock≠some p):=fun e=>by simp[Value.ownBlock]at e;omega
     have hdw:IntKind.i64.wrap ((d:Int)+1)=(d:Int)+1:=by rw[IntKind.wrap_i64];omega
     clear hK1 hK2 hK3 hK4 hkl hbK HT HNX HSX HR1 HR2 d0 d1 d3 d4 d5 d6 d7
     go_wp2
     go_loopw [3,4,8] (fun a b c wr=>∃(i:Nat),i≤kl∧c=.int .i64 i∧wr.ownsRow w.heap.size 32 8 a (k+i) (rowN (fstZ (Z'++(K.take i).map (fun x=>(x,d+1)))))∧wr.ownsRow w.heap.size 3 1 b (k+i) (i64s (sndZ (Z'++(K.take i).map (fun x=>(x,d+1)))))∧a.ownBlock≠some p∧b.ownBlock≠some p∧wr.heap[p]? =some (nvO xn)∧Below w.heap.size w wr) (fun _ _ c _=>kl - (intOf c).toNat)
     case atStart=>exact⟨0,Nat.zero_le _,rfl,by simpa using HO6.out,by simpa using HQ6.out,hne3.out,hne4.out,HX6.out,HB6.out⟩
     case round=>
      obtain⟨i,hil,rfl,ho,hq,hna,hnb,hx,hb⟩:=hrel
      obtain⟨w7,hw7⟩:=named wr
      subst hw7
      obtain⟨va,vc,rfl⟩:=own_shape ho
      obtain⟨qa,qc,rfl⟩:=own_shape hq
      obtain⟨d0,d1,d2,d3,d4,d5,d6,d7⟩:=nv_cells hx
      have HO7:=hide ho
      have HQ7:=hide hq
      have HNA:=hide hna
      have HNB:=hide hnb
      have HX7:=hide hx
      have HB7:=hide hb
      clear ho hq hna hnb hx hb HO6 HQ6 HX6 HB6 hne3 hne4
      by_cases hlt:i<kl
      ·rcases HK4.out with h0|⟨x,hx,hcl⟩
       ·exact absurd h0 (by have:=HKLen.out;omega)
       ·have hiK:i<K.length:=by have:=HKLen.out;omega
        have hB0:Below w0.heap.size w0 w7:=HW0.out.andT HB7.out
        obtain⟨f0,f1',f2',f3,f4,f5,f6,f7⟩:=(hcl i hiK).below hB0
        have e7:(i:Int)<(xn.kl:Int):=by have:=HKK.out;omega
        have e8:(0:Int)≤(i:Int):=by omega
        have hbd:=HBK.out
        have hiw:IntKind.i64.wrap ((i:Int)+1)=(i:Int)+1:=by rw[IntKind.wrap_i64];omega
        obtain⟨y,hy⟩:=named (K[i])
        have HTk:Hid (Z'++(K.take (i+1)).map (fun x=>(x,d+1))=(Z'++(K.take i).map (fun x=>(x,d+1)))++[(y,d+1)]):=by
         show _=_
         rw[List.take_add_one,List.getElem?_eq_getElem hiK, ←hy]
         simp
        rw[← hy]at f0 f1' f2' f3 f4 f5 f6 f7
        rw[hx]at d2
        obtain⟨ZZ,hZZ⟩:=named (Z'++(K.take i).map (fun x=>(x,d+1)))
        rw[← hZZ]at HO7 HQ7 HTk
        obtain⟨m7,hm7⟩:=named (k+i)
        have hm7':m7+1≤1000:=by omega
        have HM7:=hide hm7
        rw[← hm7]at HO7 HQ7 HNA HNB ⊢
        have hsz7:w.heap.size≤w7.heap.size:=HB7.out.size
        have hp7:p<w7.heap.size:=lt_of_block HX7.out
        obtain⟨yn,yt⟩:=y
        clear hcl hx hB0 hy hiK hZZ hm7 hlt hbd
        simp only at f0 f1' f2' f3 f4 f5 f6 f7
        go_wp2_with (at_builtin;refine wpList_append_lies _ rfl _ _ 30 rfl w.heap.size 32 i0 _ 8 96 underlying30 hi hz0 hz1 hz2 rfl (by decide) _ _ _ rfl (HO7.out.alloc _) ⟨w7.heap.size,0,none⟩ 1 1 (nvL yn) rfl rfl (World.news_of_block (cs:=#[.int .i64 yn.kind,.slice yn.sa yn.sl yn.sc,.slice yn.ka yn.kl yn.kc,.int .i64 yn.num,.int .i64 yn.least,.int .i64 yn.most,.int .i64 yn.way,.bool yn.fold]) (t:=32) (fr:=(0,0)) (at_new _ _)) (by have:=rowN_one [(yn,yt)];simpa[rowN]using this) (by omega) (by unfold maxLen;omega) (by omega) (by simp;omega) (w7.heap.size+1) (by simp) ?_)
        intro gg cc w8 hown8 hgrow8 hat8 hlt8
        have HO8:=hide hown8
        have HQ8:=hide (q_grown (HQ7.out.alloc _) hgrow8 (q_apart HQ7.out HO7.out (by decide)))
        have HX8:Hid (w8.heap[p]? =some (nvO xn)):=by
         show _=_
         rw[hgrow8.block p (by simp;omega) (fun e=>HNA.out e.symm)]
         exact at_old HX7.out
        have HB8:Hid (Below w.heap.size w w8):=(HB7.out.alloc hsz7 _).grown hgrow8 (by simp;omega) (fun q hq=>(HO7.out.lt q hq).1)
        have HNA8:Hid ((Value.slice (some ⟨gg,0,none⟩) (m7+1) cc).ownBlock≠some p):=fun e=>by
         simp[Value.ownBlock]at e
         rcases hat8 with h1|h1
         ·exact HNA.out (by rw[h1,e])
         ·omega
        have hsz8:w.heap.size≤w8.heap.size:=HB8.out.size
        have hp8:p<w8.heap.size:=lt_of_block HX8.out
        clear hown8 hgrow8 hat8 hlt8 HO7 HQ7 HX7 HB7 HNA f0 f1' f2' f3 f4 f5 f6 f7 d0 d1 d2 d3 d4 d5 d6 d7 hsz7 hp7
        go_wp2_with (at_builtin;refine wpList_append_lies _ rfl _ _ 44 rfl w.heap.size 3 j0 _ 1 8 underlying44 hj hy0 hy1 hy2 rfl (by decide) _ _ _ rfl (HQ8.out.alloc _) ⟨w8.heap.size,0,none⟩ 1 1 [.int .i64 ((d:Int)+1)] rfl rfl (World.news_of_block (cs:=#[.int .i64 ((d:Int)+1)]) (t:=3) (fr:=(0,0)) (at_new _ _)) (q_int1 _) (by omega) (by unfold maxLen;omega) (by omega) (by simp;omega) (w8.heap.size+1) (by simp) ?_)
        intro gg2 cc2 w9 hown9 hgrow9 hat9 hlt9
        have HQ9:=hide hown9
        have HO9:=hide (q_grown (HO8.out.alloc _) hgrow9 (q_apart HO8.out HQ8.out (by decide)))
        have HX9:Hid (w9.heap[p]? =some (nvO xn)):=by
         show _=_
         rw[hgrow9.block p (by simp;omega) (fun e=>HNB.out e.symm)]
         exact at_old HX8.out
        have HB9:Hid (Below w.heap.size w w9):=(HB8.out.alloc hsz8 _).grown hgrow9 (by simp;omega) (fun q hq=>(HQ8.out.lt q hq).1)
        have HNB9:Hid ((Value.slice (some ⟨gg2,0,none⟩) (m7+1) cc2).ownBlock≠some p):=fun e=>by
         simp[Value.ownBlock]at e
         rcases hat9 with h1|h1
         ·exact HNB.out (by rw[h1,e])
         ·omega
        clear hown9 hgrow9 hat9 hlt9 HO8 HQ8 HX8 HB8 HNB hsz8 hp8
        go_wp2
        go_roundw
        case rel=>exact⟨i+1,by have:=HKK.out;omega,by go_num,by rw[HTk.out,fstZ_append,rowN_append,show k+(i+1)=m7+1 by have:=HM7.out;omega];exact HO9.out,by rw[HTk.out,sndZ_append,i64s_app,show k+(i+1)=m7+1 by have:=HM7.out;omega];exact HQ9.out,HNA8.out,HNB9.out,HX9.out,HB9.out⟩
        case measure=>have:=HKK.out;simp[intOf];omega
      ·have e7:¬(i:Int)<(xn.kl:Int):=by have:=HKK.out;omega
       have hik:i=kl:=by omega
       have hiK:K.take i=K:=by rw[hik,HKLen.out];exact List.take_of_length_le (leR _)
       have hlen2:(Z'++K.map (fun x=>(x,d+1))).length=k+i:=by have:=HK.out;have:=HKLen.out;simp;omega
       rw[hiK]at HO7 HQ7
       have HL2:=hide hlen2
       clear hik hiK hlen2
       go_wp2
       go_roundw
       case rel=>exact⟨m+1,_,by go_num,HNext.out,by rw[HL2.out];exact HO7.out,by rw[HL2.out];exact HQ7.out,HB7.out⟩
       case measure=>simp[intOf];omega
end Go.Proofs.YtfnndcbjklppeaaGreatDoor
