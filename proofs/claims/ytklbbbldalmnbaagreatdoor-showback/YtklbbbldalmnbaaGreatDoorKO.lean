import Derived.Test.YtklbbbldalmnbaaGreatDoorKC
import Derived.Test.YtklbbbldalmnbaaGreatDoorZo
import Derived.Shelf.SlSortCmp.WholeK
import Derived.Test.YtklbbbldalmnbaaGreatDoorProg
import Derived.Shelf.SlSortCmp.NoneTotal
import Derived.Shelf.SlSorted.Search
set_option maxHeartbeats 4000000
set_option linter.unusedVariables false
open Go.Proofs.Tryz
namespace Go.Proofs.YtklbbbldalmnbaaGreatDoor
open Go.RowKit
def tj(x:Int×Int):List Value:=[.int .i64 x.1,.int .i64 x.2]
def aN(L:List (Int×Int)):List Value:=L.flatMap tj
theorem ey(ps:List (Int×Int)):(aN ps).length=ps.length*2:=by
 induction ps with
 |nil=>rfl
 |cons x xs ih=>simp[aN,tj]at ih |-;omega
theorem jI(ps:List (Int×Int))(k:Nat)(h:k<ps.length):(aN ps)[k*2]? =some (.int .i64 ps[k].1)/\(aN ps)[k*2+1]? =some (.int .i64 ps[k].2):=by
 induction ps generalizing k with
 |nil=>simp at h
 |cons x xs ih=>
  have e:aN (x::xs)=.int .i64 x.1:: .int .i64 x.2::aN xs:=rfl
  match k with
  |0=>rw[e];simp
  |k+1=>
   have:=ih k (by simpa using h)
   rw[e,show(k+1)*2=k*2+1+1 from by omega]
   simpa using this
theorem ed(a b:List (Int×Int)):aN (a++b)=aN a++aN b:=by simp[aN]
theorem ax{B e:Nat}{w:World}{v:Value}{n k:Nat}{xs:List Value}(h:w.ownsRow B e k v n xs):∃ao cap,v=.slice ao n cap:=by
 rcases h.2 with⟨rfl,rfl⟩|⟨g,cap,cur,rfl,_⟩
 ·exact⟨_,_,rfl⟩
 ·exact⟨_,_,rfl⟩
theorem eT{B e:Nat}{w:World}{v:Value}{n k:Nat}{xs:List Value}(h:w.ownsRow B e k v n xs)(hn:1<=n):∃g cap,v=.slice (some ⟨g,0,none⟩) n cap:=by
 rcases h.2 with⟨rfl,rfl⟩|⟨g,cap,cur,rfl,_⟩
 ·omega
 ·exact⟨_,_,rfl⟩
theorem cp{B e:Nat}{w w':World}{v:Value}{n k:Nat}{xs:List Value}(h:w.ownsRow B e k v n xs)(hb:Below w.heap.size w w'):w'.ownsRow B e k v n xs:=by
 refine⟨h.1,?_⟩
 rcases h.2 with h2|⟨g,cap,cur,rfl,h3,hg,h4⟩
 ·exact Or.inl h2
 ·exact Or.inr ⟨g,cap,cur,rfl,h3,by rw[hb.block g (Array.getElem?_eq_some_iff.1 hg).1];exact hg,h4⟩
theorem jr{B B' e:Nat}{w:World}{v:Value}{n k:Nat}{xs:List Value}(h:w.ownsRow B' e k v n xs)(hb:B<=B'):w.ownsRow B e k v n xs:=by
 refine⟨h.1,?_⟩
 rcases h.2 with h2|⟨g,cap,cur,rfl,h3,h4⟩
 ·exact Or.inl h2
 ·exact Or.inr ⟨g,cap,cur,rfl,by omega,h4⟩
theorem vF:(Tryz.prog.info? 76).map (fun i=>(i.zero,i.size,i.bytes))=some (some (.agg #[.int .i64 0,.int .i64 0]),2,16):=by kernel_rfl
theorem info_parts{o:Option TypeInfo}{z:Option Value}{s b:Nat}(h:o.map (fun i=>(i.zero,i.size,i.bytes))=some (z,s,b)):∃i,o=some i/\i.zero=z/\i.size=s/\i.bytes=b:=by
 cases o with
 |none=>simp at h
 |some i=>simp at h;exact⟨i,rfl,h.1,h.2.1,h.2.2⟩
theorem jE(X:World)(g:Nat)(hg:g=X.heap.size)(z u:Int):∀j v,[Value.int .i64 z,.int .i64 u][j]? =some v->(X.alloc (.cells #[.int .i64 z,.int .i64 u] 76)).cell? ((⟨g,0,none⟩:Addr).add j)=some v:=by
 subst hg
 intro j v hj
 match j,hj with
 |0,hj=>simp at hj;subst hj;exact World.cell?_alloc_at _ _ _ _ rfl
 |1,hj=>simp at hj;subst hj;exact World.cell?_alloc_at _ _ _ _ rfl
 |(j+2),hj=>simp at hj
theorem o0(z u:Int):∀v∈[Value.int .i64 z,.int .i64 u],v.oneCell'=true:=by
 intro v hv;simp at hv;rcases hv with rfl|rfl<;>rfl
theorem oi{B e k:Nat}{w:World}{v:Value}{n:Nat}{xs:List Value}(h:w.ownsRow B e k v n xs)(q:Nat):(w.drewN q).ownsRow B e k v n xs:=h
theorem Ds{B:Nat}{w:World}{g cap m:Nat}{O:List (Int×Int)}{a b:Int}(h:w.ownsRow B 76 2 (.slice (some ⟨g,0,none⟩) (m+1) cap) (m+1) (aN (O++[(a,b)])))(hm:m=O.length):w.cell? ⟨g,m*2,none⟩=some (.int .i64 a)/\w.cell? ⟨g,m*2+1,none⟩=some (.int .i64 b):=by
 obtain⟨h1,h2⟩:=jI (O++[(a,b)]) m (by simp[hm])
 rw[h.cellAt (m*2) (by omega),h.cellAt (m*2+1) (by omega)]
 subst hm
 simpa using And.intro h1 h2
theorem vH(O:List (Int×Int))(a b M:Int):(aN (O++[(a,b)])).set (O.length*2+1) (.int .i64 M)=aN (O++[(a,M)]):=by
 rw[ed,ed]
 have e:(aN O).length=O.length*2:=ey O
 rw[<- e,List.set_append_right _ _ (by omega)]
 simp[aN,tj]
theorem uU{B:Nat}{w:World}{g cap m:Nat}{O:List (Int×Int)}{a b:Int}(h:w.ownsRow B 76 2 (.slice (some ⟨g,0,none⟩) (m+1) cap) (m+1) (aN (O++[(a,b)])))(hm:m=O.length)(M:Int)(o:Obj)(q:Nat):(((w.alloc o).drewN q).setCell ⟨g,m*2+1,none⟩ (.int .i64 M)).ownsRow B 76 2 (.slice (some ⟨g,0,none⟩) (m+1) cap) (m+1) (aN (O++[(a,M)])):=by
 have:=((oi (h.alloc o) q).stored (m*2+1) (.int .i64 M)).1
 subst hm
 rw[vH]at this
 exact this
theorem o7(w:World)(o:Obj)(q:Nat):w.heap.size+1=((w.alloc o).drewN q).heap.size:=by show _=(w.alloc o).heap.size;simp
theorem tg{B:Nat}{w:World}(h:B<=w.heap.size)(o:Obj)(q:Nat)(o':Obj):B<=(((w.alloc o).drewN q).alloc o').heap.size:=by rw[World.size_alloc];rw[<- o7];omega
theorem qt{B:Nat}{w w':World}{v:Value}{n:Nat}{xs:List Value}(hown:w.ownsRow B 76 2 v n xs)(hB:B<=w.heap.size){o o':Obj}{q:Nat}(hg:(((w.alloc o).drewN q).alloc o').grownBy w' v.ownBlock):Below B w w':=
 ((below_drewN ((J B w).alloc hB o) q).alloc (by rw[<- o7];omega) o').grown hg (tg hB o q o') (fun k hk=>(hown.lt k hk).1)
theorem jT(B:Nat)(v:Value)(O:RL)(p t:Int)(w:World)(hB:B<=w.heap.size)(hO:∀x∈O,0<=x.2/\x.2<=1114111)(hl:O.length<=1114112)(ho:w.ownsRow B 76 2 v O.length (aN O)):
  Calls prog 163 #[v,.agg #[.int .i64 p,.int .i64 t]] w fun e w'=>∃v',e=.returned v'/\w'.ownsRow B 76 2 v' (bF O (p,t)).length (aN (bF O (p,t)))/\Below B w w':=by
 obtain⟨i0,hi,hz0,hz1,hz2⟩:=info_parts vF
 rcases List.eq_nil_or_concat O with rfl|⟨O',y,rfl⟩
 ·have HOw:=I ho
  obtain⟨ao,c,rfl⟩:=ax ho
  clear ho
  go_enter func163,ntmps163
  go_wp2
  go_quiet (fail)
  go_wp2_with (at_builtin;refine wpList_append_own _ rfl _ _ 22 rfl B 76 i0 (.agg #[.int .i64 0,.int .i64 0]) 2 16 underlying22 hi hz0 hz1 hz2 rfl (by decide) _ _ _ rfl ((oi (HOw.o.alloc _) nq).alloc _) ⟨w.heap.size+1,0,none⟩ 1 1 [.int .i64 p,.int .i64 t] rfl rfl (jE _ _ (o7 _ _ _) p t) (o0 p t) (by decide) (by decide) (tg hB _ _ _) ?_)
  intro v' w3 hown' hgrow _
  have HO3:=I hown'
  have hb3:=qt HOw.o hB hgrow
  clear hown' hgrow
  go_wp2
  go_ret
  exact⟨_,rfl,HO3.o,hb3⟩
 ·obtain ⟨ya,yb⟩:=y
  rw[List.concat_eq_append]at ho hl hO |-
  obtain⟨y0,y1⟩:=hO (ya,yb) (by simp)
  simp only at y0 y1
  obtain⟨m,hm⟩:∃m,m=O'.length:=⟨_,rfl⟩
  have hlen:(O'++[(ya,yb)]).length=m+1:=by simp[hm]
  have HM:=I hm
  rw[hlen]at ho hl
  obtain⟨g',c,rfl⟩:=eT ho (by omega)
  obtain⟨e1,e2⟩:=Ds ho hm
  have HOw:=I ho
  have ef:=ho.frozenAt (m*2+1)
  clear ho hlen hm hO
  have hgw:g'<w.heap.size:=(HOw.o.lt g' rfl).2
  have m0:(0:Int)<=(m:Int):=by omega
  have m1:(m:Int)<(m:Int)+1:=by omega
  have m2:m<m+1:=by omega
  have m3:((m:Int)<0)=False:=by simp
  have wy:IntKind.i64.wrap (yb+1)=yb+1:=by rw[IntKind.wrap_i64];omega
  by_cases hin:p<=yb+1
  ·have hJ:=I (ov O' ya yb (p,t) hin)
   have hd:decide (yb+1<p)=false:=by simp;omega
   clear hin
   by_cases hmx:t<=yb
   ·have hE:Hid (max yb t=yb):=by show _=_;omega
    go_enter func163,ntmps163
    go_wp2
    go_quiet (fail)
    go_wp2
    go_region
    all_goals go_wp2
    go_ret
    exact⟨_,rfl,by rw[hJ.o,show(O'++[(ya,max yb (p,t).2)]).length=m+1 from by simp[HM.o]];simp only;rw[hE.o];exact uU HOw.o HM.o _ _ _,(below_drewN ((J B w).alloc hB _) _).setCell (HOw.o.lt g' rfl).1 _⟩
   ·have hE:Hid (max yb t=t):=by show _=_;omega
    go_enter func163,ntmps163
    go_wp2
    go_quiet (fail)
    go_wp2
    go_region
    all_goals go_wp2
    go_ret
    exact⟨_,rfl,by rw[hJ.o,show(O'++[(ya,max yb (p,t).2)]).length=m+1 from by simp[HM.o]];simp only;rw[hE.o];exact uU HOw.o HM.o _ _ _,(below_drewN ((J B w).alloc hB _) _).setCell (HOw.o.lt g' rfl).1 _⟩
  ·have hJ:=I (nw O' ya yb (p,t) hin)
   have hd:yb+1<p:=by omega
   clear hin
   go_enter func163,ntmps163
   go_wp2
   go_quiet (fail)
   go_wp2_with (at_builtin;refine wpList_append_own _ rfl _ _ 22 rfl B 76 i0 (.agg #[.int .i64 0,.int .i64 0]) 2 16 underlying22 hi hz0 hz1 hz2 rfl (by decide) _ _ _ rfl ((oi (HOw.o.alloc _) nq).alloc _) ⟨w.heap.size+1,0,none⟩ 1 1 [.int .i64 p,.int .i64 t] rfl rfl (jE _ _ (o7 _ _ _) p t) (o0 p t) (by unfold maxLen;omega) (by omega) (tg hB _ _ _) ?_)
   intro v' w3 hown' hgrow _
   have HO3:=I hown'
   have hb3:=qt HOw.o hB hgrow
   clear hown' hgrow
   go_wp2
   go_ret
   exact⟨_,rfl,by rw[hJ.o,show(O'++[(ya,yb)]++[(p,t)]).length=m+1+1 from by simp[HM.o],ed];exact HO3.o,hb3⟩
end Go.Proofs.YtklbbbldalmnbaaGreatDoor
namespace Go.Proofs
open Go.Shelf
def Tryz.BR:Go.Shelf.Ren:=⟨fun|6=>161|15=>176|14=>177|28=>193|29=>100|20=>194|21=>195|22=>196|23=>197|24=>198|25=>199|26=>200|27=>201|46=>212|47=>207|48=>208|49=>213|50=>214|57=>225|n=>n,fun|22=>22|24=>76|25=>178|3=>3|39=>138|0=>0|53=>136|55=>125|4=>4|46=>199|45=>198|50=>52|5=>5|9=>9|66=>210|70=>214|76=>219|77=>158|n=>n,fun|n=>n⟩
theorem Tryz.Ho:Go.Proofs.SlLaysF0.n6 prog Tryz.BR:={
 mixed:=by kernel_rfl
 f6:=⟨Tryz.f161.name,by decide,func161.trans (congrArg some (by kernel_rfl))⟩
 f14:=⟨Tryz.f177.name,by decide,func177.trans (congrArg some (by kernel_rfl))⟩
 f15:=func176.trans (congrArg some (by kernel_rfl))
 f20:=⟨Tryz.f194.name,by decide,func194.trans (congrArg some (by kernel_rfl))⟩
 f21:=⟨Tryz.f195.name,by decide,func195.trans (congrArg some (by kernel_rfl))⟩
 f22:=⟨Tryz.f196.name,by decide,func196.trans (congrArg some (by kernel_rfl))⟩
 f23:=⟨Tryz.f197.name,by decide,func197.trans (congrArg some (by kernel_rfl))⟩
 f24:=⟨Tryz.f198.name,by decide,func198.trans (congrArg some (by kernel_rfl))⟩
 f25:=⟨Tryz.f199.name,by decide,func199.trans (congrArg some (by kernel_rfl))⟩
 f26:=⟨Tryz.f200.name,by decide,func200.trans (congrArg some (by kernel_rfl))⟩
 f27:=⟨Tryz.f201.name,by decide,func201.trans (congrArg some (by kernel_rfl))⟩
 f28:=func193.trans (congrArg some (by kernel_rfl))
 f29:=func100.trans (congrArg some (by kernel_rfl))
 f46:=⟨Tryz.f212.name,by decide,func212.trans (congrArg some (by kernel_rfl))⟩
 f47:=func207.trans (congrArg some (by kernel_rfl))
 f48:=func208.trans (congrArg some (by kernel_rfl))
 f49:=⟨Tryz.f213.name,by decide,func213.trans (congrArg some (by kernel_rfl))⟩
 f50:=⟨Tryz.f214.name,by decide,func214.trans (congrArg some (by kernel_rfl))⟩
 f57:=⟨Tryz.f225.name,by decide,func225.trans (congrArg some (by kernel_rfl))⟩
 t0:=underlying0
 a0:=isAgg0
 z0:=sizeOf0
 v0:=zeroValue0
 t3:=underlying3
 a3:=isAgg3
 z3:=sizeOf3
 v3:=zeroValue3
 t4:=underlying4
 a4:=isAgg4
 z4:=sizeOf4
 v4:=zeroValue4
 t5:=underlying5
 a5:=isAgg5
 z5:=sizeOf5
 v5:=zeroValue5
 t9:=underlying9
 a9:=isAgg9
 z9:=sizeOf9
 v9:=zeroValue9
 t22:=underlying22
 a22:=isAgg22
 z22:=sizeOf22
 v22:=zeroValue22
 t25:=underlying178
 a25:=isAgg178
 z25:=sizeOf178
 v25:=zeroValue178
 t39:=underlying138
 a39:=isAgg138
 z39:=sizeOf138
 v39:=zeroValue138
 t45:=underlying198
 a45:=isAgg198
 z45:=sizeOf198
 v45:=zeroValue198
 t46:=underlying199
 a46:=isAgg199
 z46:=sizeOf199
 v46:=zeroValue199
 t50:=underlying52
 a50:=isAgg52
 z50:=sizeOf52
 v50:=zeroValue52
 t53:=underlying136
 a53:=isAgg136
 z53:=sizeOf136
 v53:=zeroValue136
 t55:=underlying125
 a55:=isAgg125
 z55:=sizeOf125
 v55:=zeroValue125
 t66:=underlying210
 a66:=isAgg210
 z66:=sizeOf210
 v66:=zeroValue210
 t70:=underlying214
 a70:=isAgg214
 z70:=sizeOf214
 v70:=zeroValue214
 t76:=underlying219
 a76:=isAgg219
 z76:=sizeOf219
 v76:=zeroValue219
 t77:=underlying158
 a77:=isAgg158
 z77:=sizeOf158
 v77:=zeroValue158 }
end Go.Proofs
namespace Go.Proofs.YtklbbbldalmnbaaGreatDoor
open Go.RowKit Go.Sort Go.Lib Go.Shelf
theorem lt_of_block{w:World}{g:Nat}{o:Obj}(h:w.heap[g]? =some o):g<w.heap.size:=(Array.getElem?_eq_some_iff.1 h).1
abbrev Rg:Type:=Fin 1114112×Int
def rv(x:Rg):Int×Int:=((x.1.val:Int),x.2)
theorem Ar(x:Rg):0<=(rv x).1/\(rv x).1<=1114111:=by
 have:=x.1.isLt
 simp only[rv];omega
def encS(x:Rg):List Value:=tj (rv x)
theorem wJ(d:Array Rg):flatK encS 2 d=(aN (d.toList.map rv)).toArray:=by
 refine ext_get! (by simp[ey]) fun t ht=>?_
 have ht':t<d.size*2:=by simpa using ht
 rw[get_flatK _ _ _ t ht']
 have hk:t / 2<d.size:=by omega
 have hk2:t / 2<(d.toList.map rv).length:=by simpa using hk
 obtain⟨h1,h2⟩:=jI (d.toList.map rv) (t / 2) hk2
 have hd:rv (d[t / 2]!)=(d.toList.map rv)[t / 2]:=by rw[getElem!_pos d (t / 2) hk];simp
 have hsz:t<(aN (d.toList.map rv)).length:=by rw[ey];simpa using ht'
 rw[getElem!_pos (aN (d.toList.map rv)).toArray t (by simpa using hsz)]
 unfold encS
 rw[hd]
 rcases(show t % 2=0\/t % 2=1 from by omega)with hm|hm
 ·have e:t / 2*2=t:=by omega
  rw[e,List.getElem?_eq_getElem hsz]at h1
  simp only[Option.some.injEq]at h1
  rw[hm];simp[tj,h1]
 ·have e:t / 2*2+1=t:=by omega
  rw[e,List.getElem?_eq_getElem hsz]at h2
  simp only[Option.some.injEq]at h2
  rw[hm];simp[tj,h2]
theorem oQ{w:World}{g:Nat}{cur:Array Value}{e:TypeId}{vs:List Value}(hb:w.heap[g]? =some (.cells cur e (0,0)))(ht:cur.toList.take vs.length=vs):Holds id w g 0 vs.toArray:=by
 intro j hj
 have hj':j<vs.length:=by simpa using hj
 refine⟨?_,by simp[World.frozen?,hb]⟩
 have h1:(cur.toList.take vs.length)[j]? =vs[j]? :=by rw[ht]
 rw[List.getElem?_take_of_lt hj']at h1
 simp only[World.cell?,hb,Nat.zero_add]
 simp only[Option.isSome_none,Bool.false_eq_true,if_false]
 rw[<- Array.getElem?_toList,h1]
 simp[hj']
theorem ux{w:World}{g n:Nat}{os:Array Obj}{cur:Array Value}{e:TypeId}{fr:Nat×Nat}(F:Array Value)(hb:w.heap[g]? =some (.cells cur e fr)):
  (grow (putRow id (Sort.ahead w n) g 0 F) os).heap[g]? =some (.cells (putCells id 0 F cur) e fr):=by
 have hg:g<w.heap.size:=(Array.getElem?_eq_some_iff.1 hb).1
 rw[heap_grow_old _ _ (by simpa using hg)]
 simp[putRow,mapBlock,Sort.ahead,Array.getElem?_modify,hb,onCells]
theorem oP{w:World}{g n:Nat}{os:Array Obj}(F:Array Value):w.grownBy (grow (putRow id (Sort.ahead w n) g 0 F) os) (some g):=by
 refine⟨rfl,rfl,rfl,by simp,fun k hk hne=>?_⟩
 rw[heap_grow_old _ _ (by simpa using hk)]
 have:g≠k:=fun e=>hne (by rw[e])
 simp[putRow,mapBlock,Sort.ahead,Array.getElem?_modify,this]
theorem rh(cur:Array Value)(ts:List Value)(h:ts.length<=cur.size):(putCells id 0 ts.toArray cur).toList.take ts.length=ts:=by
 apply List.ext_getElem?
 intro j
 by_cases hj:j<ts.length
 ·rw [List.getElem?_take_of_lt hj,Array.getElem?_toList]
  simp[putCells,hj,show j<cur.size by omega]
 ·rw[List.getElem?_take_eq_none (by omega),List.getElem?_eq_none (by omega)]
def I4(x y:Rg):Int:=(rv x).1 - (rv y).1
theorem JR(x y:Rg):ltOf I4 x y=decide ((rv x).1<(rv y).1):=by
 unfold ltOf I4
 rw[Bool.eq_iff_iff];simp;omega
theorem JZ:SWO (ltOf I4) where
 irrefl x:=by rw[JR];simp
 trans x y z h1 h2:=by rw[JR]at *;simp at *;omega
 ntrans x y z h1 h2:=by rw[JR]at *;simp at *;omega
theorem F4(a b c d:Int)(h1:0<=a)(h2:a<=1114111)(h3:0<=c)(h4:c<=1114111)(W:World):Calls prog 162 #[.agg #[.int .i64 a,.int .i64 b],.agg #[.int .i64 c,.int .i64 d]] W fun e w'=>e=.returned (.int .i64 (a - c))/\∃q os',w'=grow (W.drewN q) os':=by
 go_enter func162,ntmps162
 go_wp2
 go_ret
 exact⟨rfl,0,_,by rw[alloc_eq_grow,alloc_eq_grow,grow_grow];rfl⟩
theorem cmpLays162(lh off size:Nat)(w:World):CmpLays prog 162 #[] encS 2 I4 lh off size w:=
 fun _ _ _ _ x y=>F4 (rv x).1 (rv x).2 (rv y).1 (rv y).2 (Ar x).1 (Ar x).2 (Ar y).1 (Ar y).2 _
theorem enters162(args:Array Value)(w:World):(callFunc 162 args).run prog w=.ok (.enter 162 args) w:=enters_of func162 (by kernel_rfl) rfl args w
theorem Ck{d d':Array Rg}(hp:PermIn 0 d.size d d')(hs:SortedIn (ltOf I4) 0 d.size d'):(d'.toList.map rv).Perm (d.toList.map rv)/\(d'.toList.map rv).Pairwise (fun a b=>a.1<=b.1):=by
 have hperm:d'.toList.Perm d.toList:=by
  have:=hp.2.2
  rw[<- hp.1]at this
  have e1:d'.extract 0 d'.size=d':=by simp
  have e2:d.extract 0 d'.size=d:=by rw[hp.1];simp
  rw[e1,e2]at this
  exact this
 refine⟨hperm.map rv,?_⟩
 rw[List.pairwise_iff_getElem]
 intro i j hi hj hij
 have hi':i<d'.size:=by simpa using hi
 have hj':j<d'.size:=by simpa using hj
 have:=hs i j (Nat.zero_le _) hij (by rw[<- hp.1];exact hj')
 rw[JR,getElem!_pos d' j hj',getElem!_pos d' i hi']at this
 simp at this
 simpa using this
theorem Kl(l:List (Int×Int))(h:∀x∈l,0<=x.1/\x.1<=1114111):∃r:List Rg,r.map rv=l:=by
 induction l with
 |nil=>exact⟨[],rfl⟩
 |cons x xs ih=>
  obtain⟨r,hr⟩:=ih (fun y hy=>h y (by simp[hy]))
  have hx:=h x (by simp)
  exact⟨(⟨x.1.toNat,by omega⟩,x.2)::r,by simp only[List.map_cons,hr,rv];rw[Int.toNat_of_nonneg hx.1]⟩
theorem Ax(B:Nat)(v:Value)(l:List (Int×Int))(w:World)(hl:l.length<=400000000)(hrg:∀x∈l,0<=x.1/\x.1<=1114111)(hown:w.ownsRow B 76 2 v l.length (aN l))(hB:B<=w.heap.size):
  Calls prog 161 #[v,.func (.func 162) #[] #[]] w fun e w'=>e=.returned (.tuple #[])/\∃S:RL,S.Perm l/\S.Pairwise (fun a b=>a.1<=b.1)/\w'.ownsRow B 76 2 v S.length (aN S)/\Below B w w':=by
 by_cases h0:l.length=0
 ·have hnil:l=[]:=List.eq_nil_of_length_eq_zero h0
  subst hnil
  obtain⟨ao,c,rfl⟩:=ax hown
  have hc:=AnyF.slices_SortFunc_none Tryz.Ho ao c (.func (.func 162) #[] #[]) w
  change Calls prog 161 _ _ _ at hc
  refine hc.mono ?_
  rintro e w' ⟨rfl,rfl⟩
  exact⟨rfl,[],List.Perm.refl _,List.Pairwise.nil,hown,J _ _⟩
 obtain⟨g,cap,rfl⟩:=eT hown (by omega)
 obtain⟨r,hr⟩:=Kl l hrg
 rcases hown.2 with⟨h0,_⟩|⟨g',cap',cur,hv,hg,hh,hn,hm,hs,ht⟩
 ·cases h0
 cases hv
 have hlen:r.length=l.length:=by rw[<- hr];simp
 have hF:flatK encS 2 r.toArray=(aN l).toArray:=by rw[wJ];simp[hr]
 have hH:HoldsK encS 2 w g 0 r.toArray:=by
  unfold HoldsK
  rw[hF]
  exact oQ hh (by rw[ey];exact ht)
 have hc:=AnyQ.slices_SortFunc Tryz.Ho 2 isAgg76 sizeOf76 encS (fun _=>rfl) (fun x v hv=>by simp[encS,tj]at hv;rcases hv with rfl|rfl<;>rfl) I4 JZ 162 #[] g 0 cap r.toArray w enters162 (cmpLays162 g 0 _ w) hH (lt_of_block hh) (by simp;omega)
 change Calls prog 161 _ _ _ at hc
 rw[List.size_toArray,hlen]at hc
 refine hc.mono ?_
 rintro e w' ⟨rfl,d',n,os,hp,hs',rfl⟩
 obtain⟨hd1,hd2⟩:(d'.toList.map rv).Perm l/\(d'.toList.map rv).Pairwise (fun a b=>a.1<=b.1):=by
  have hp':PermIn 0 r.toArray.size r.toArray d':=by rw[List.size_toArray,hlen];exact hp
  have hs2:SortedIn (ltOf I4) 0 r.toArray.size d':=by rw[List.size_toArray,hlen];exact hs'
  have:=Ck (d:=r.toArray) (d':=d') hp' hs2
  simpa[hr]using this
 obtain⟨S,hS⟩:∃S,S=d'.toList.map rv:=⟨_,rfl⟩
 rw[<- hS]at hd1 hd2
 have hF':flatK encS 2 d'=(aN S).toArray:=by rw[wJ,hS]
 have hSl:S.length=l.length:=hd1.length_eq
 have hlen':(aN S).length=l.length*2:=by rw[ey,hSl]
 refine⟨rfl,S,hd1,hd2,?_,?_⟩
 ·unfold sortWorldK putRowK
  rw[hF',hSl]
  refine⟨hlen',.inr ⟨g,cap,_,rfl,hg,ux _ hh,hn,hm,by simp[putCells,hs],?_⟩⟩
  rw[<- hlen']
  exact rh cur _ (by rw[hlen',hs];omega)
 ·unfold sortWorldK putRowK
  exact(J B w).grown (oP _) hB (fun k hk=>by cases hk;exact hg)
end Go.Proofs.YtklbbbldalmnbaaGreatDoor
namespace Go.Proofs
open Go.Shelf
def Tryz.yp:Go.Shelf.Ren:=⟨fun|16=>182|n=>n,fun|3=>3|4=>4|35=>67|38=>138|n=>n,fun|n=>n⟩
theorem Tryz.search:Go.Proofs.SlLaysO.n16 prog Tryz.yp:={
 mixed:=by kernel_rfl
 f16:=func182.trans (congrArg some (by kernel_rfl))
 t3:=underlying3
 a3:=isAgg3
 z3:=sizeOf3
 v3:=zeroValue3
 t4:=underlying4
 a4:=isAgg4
 z4:=sizeOf4
 v4:=zeroValue4
 t35:=underlying67
 a35:=isAgg67
 z35:=sizeOf67
 v35:=zeroValue67
 t38:=underlying138
 a38:=isAgg138
 z38:=sizeOf138
 v38:=zeroValue138 }
end Go.Proofs
namespace Go.Proofs.YtklbbbldalmnbaaGreatDoor
open Go.RowKit Go.Sort Go.Lib Go.Shelf
theorem tE(x b1 b2:Addr)(c:Nat)(L:RL)(p:Int)(i:Nat)(W:World)(hi:i<L.length)(hl:L.length<=2000)(h1:W.cell? b1=some (.slice (some x) L.length c))(h2:W.cell? b2=some (.int .i64 p))(hc:iZ W x L):
  Calls prog 183 #[.int .i64 i,.pointer (some b1),.pointer (some b2)] W fun e w'=>e=.returned (.bool (decide (p<=L[i].2)))/\∃q,w'=W.drewN q:=by
 obtain⟨c1,c2⟩:=hc i hi
 obtain⟨b,hb⟩:∃b,b=L[i].2:=⟨_,rfl⟩
 rw[<- hb]at c2 |-
 obtain⟨n,hn⟩:∃n,n=L.length:=⟨_,rfl⟩
 rw[<- hn]at hi hl h1
 have e1:(i:Int)<(n:Int):=by omega
 have e0:(0:Int)<=(i:Int):=by omega
 clear hc hb hn c1
 go_enter func183,ntmps183
 go_wp2
 go_quiet (fail)
 go_wp2
 go_ret
 exact⟨rfl,_,rfl⟩
theorem enters183(args:Array Value)(w:World):(callFunc 183 args).run prog w=.ok (.enter 183 args) w:=enters_of func183 (by kernel_rfl) rfl args w
theorem count_range(L:RL)(p:Int):(List.range L.length).countP (fun i=>!decide (p<=(L.getD i (0,0)).2))=L.countP (fun r=>decide (r.2<p)):=by
 have h:L=(List.range L.length).map (fun i=>L.getD i (0,0)):=by
  apply List.ext_getElem
  ·simp
  ·intro i h1 h2
   simp[List.getD,h1]
 conv=>rhs;rw[h,List.countP_map]
 apply List.countP_congr
 intro i _
 simp[Function.comp]
theorem eJ{w:World}(v:Value)(t:Nat):(w.alloc (.cells #[v] t)).cell? ⟨w.heap.size,0,none⟩=some v:=World.cell?_alloc_at _ _ _ _ rfl
theorem fe(w:World)(q:Nat)(os:Array Obj):Below w.heap.size w (grow (w.drewN q) os):=below_grown_sl _ w q os (U _)
theorem iq(w:World)(o o':Obj):Below w.heap.size w ((w.alloc o).alloc o'):=((J _ w).alloc (U _) o).alloc (by simp) o'
theorem jO(w w2:World)(o o':Obj)(h:Below ((w.alloc o).alloc o').heap.size ((w.alloc o).alloc o') w2):Below w.heap.size w w2:=(iq w o o').trans (h.mono (by simp;omega))
theorem oE(v:Value)(L:RL)(p:Int)(w:World)(hv:Reads w v L)(hC:Canon L)(hl:L.length<=2000):
  Calls prog 173 #[v,.int .i64 p] w fun e w'=>e=.returned (.tuple #[.bool (db L p).1,.int .i64 (db L p).2])/\Below w.heap.size w w':=by
 obtain⟨k,hk⟩:∃k,k=L.countP (fun r=>decide (r.2<p)):=⟨_,rfl⟩
 obtain⟨s1,s2⟩:=zm L p k hk hC
 have hkl:k<=L.length:=by rw[hk];exact List.countP_le_length
 rcases hv with⟨rfl,rfl⟩|⟨x,c,rfl,hc⟩
 ·have S:=I (Any.sort_Search Tryz.search 183 #[.pointer (some ⟨w.heap.size,0,none⟩),.pointer (some ⟨w.heap.size+1,0,none⟩)] 0 (fun _=>false) ((w.alloc (.cells #[.slice none 0 0] 22)).alloc (.cells #[.int .i64 p] 3)) enters183 (by decide) (fun m os i hi=>by omega) (fun a b _ h=>by omega))
  change Hid (Calls prog 182 _ _ _)at S
  clear s1 s2 hk hkl hC
  go_enter func173,ntmps173
  go_wp2_with fail
  refine S.o.mono ?_
  rintro e w2 ⟨rfl,q,os,hw2⟩
  have hb:=fe ((w.alloc (.cells #[.slice none 0 0] 22)).alloc (.cells #[.int .i64 p] 3)) q os
  rw[<- hw2]at hb
  have d1:w2.cell? ⟨w.heap.size,0,none⟩=some (.slice none 0 0):=aE hb (by simp;omega) (cell_alloc_sl _ (eJ _ _))
  clear hw2 S
  go_wp2
  go_ret2
  exact⟨rfl,jO _ _ _ _ hb⟩
 ·obtain ⟨n,hn⟩:∃n,n=L.length:=⟨_,rfl⟩
  have S:=I (Any.sort_Search Tryz.search 183 #[.pointer (some ⟨w.heap.size,0,none⟩),.pointer (some ⟨w.heap.size+1,0,none⟩)] L.length (fun i=>decide (p<=(L.getD i (0,0)).2)) ((w.alloc (.cells #[.slice (some x) L.length c] 22)).alloc (.cells #[.int .i64 p] 3)) enters183 (by omega) (fun m os i hi=>by
   have hb:=fe ((w.alloc (.cells #[.slice (some x) L.length c] 22)).alloc (.cells #[.int .i64 p] 3)) m os
   have h:=tE x ⟨w.heap.size,0,none⟩ ⟨w.heap.size+1,0,none⟩ c L p i (grow (((w.alloc (.cells #[.slice (some x) L.length c] 22)).alloc (.cells #[.int .i64 p] 3)).drewN m) os) hi hl (aE hb (by simp;omega) (cell_alloc_sl _ (eJ _ _))) (aE hb (by simp) (by have:=eJ (w:=w.alloc (.cells #[.slice (some x) L.length c] 22)) (.int .i64 p) 3;simp)) ((hc.below (iq w _ _)).below hb)
   refine h.mono ?_
   rintro e w' ⟨rfl,q,rfl⟩
   refine⟨by simp[List.getD,hi],q,#[],by rw[grow_empty]⟩) (fun a b hab hbn h=>by
   simp only[decide_eq_true_eq]at h |-
   by_cases hab':a=b
   ·subst hab';exact h
   ·have hp:=hC.2
    rw[List.pairwise_iff_getElem]at hp
    have h1:=hp a b (by omega) hbn (by omega)
    have h2:=hC.1 L[b] (List.getElem_mem _)
    unfold er at h2
    simp only[List.getD,List.getElem?_eq_getElem hbn,List.getElem?_eq_getElem (show a<L.length by omega),Option.getD_some]at h |-
    omega))
  change Hid (Calls prog 182 _ _ _)at S
  rw[count_range, <-hk, <-hn]at S
  rw[<- hn]at hkl hl s1 |-
  have HC:=I hc
  have HN:=I hn
  by_cases hkn:k=n
  ·have E:=I (s1 hkn)
   rw[E.o]
   clear s1 s2 hk hc hn hC
   subst hkn
   go_enter func173,ntmps173
   go_wp2_with fail
   refine S.o.mono ?_
   rintro e w2 ⟨rfl,q,os,hw2⟩
   have hb:=fe ((w.alloc (.cells #[.slice (some x) k c] 22)).alloc (.cells #[.int .i64 p] 3)) q os
   rw[<- hw2]at hb
   have d1:w2.cell? ⟨w.heap.size,0,none⟩=some (.slice (some x) k c):=aE hb (by simp;omega) (cell_alloc_sl _ (eJ _ _))
   clear hw2 S
   go_wp2
   go_ret2
   exact⟨rfl,jO _ _ _ _ hb⟩
  ·have hkL:k<L.length:=by omega
   have E:=I (s2 hkL)
   have hr:=hC.1 L[k] (List.getElem_mem _)
   unfold er at hr
   obtain⟨r,hr'⟩:∃r,r=L[k]:=⟨_,rfl⟩
   rw[<- hr']at hr E
   have HR:=I hr'
   obtain⟨a,b⟩:=r
   simp only at hr E
   obtain⟨r0,r1,r2⟩:=hr
   have e1:(k:Int)<(n:Int):=by omega
   have e0:(0:Int)<=(k:Int):=by omega
   have e3:((k:Int)==(n:Int))=false:=by simp;omega
   have wa:IntKind.i64.wrap (a - 1)=a - 1:=by rw[IntKind.wrap_i64];omega
   clear s1 s2 hk hn hC hc hr'
   have finish:∀(w2:World),Below ((w.alloc (.cells #[.slice (some x) n c] 22)).alloc (.cells #[.int .i64 p] 3)).heap.size ((w.alloc (.cells #[.slice (some x) n c] 22)).alloc (.cells #[.int .i64 p] 3)) w2->w2.cell? ⟨w.heap.size,0,none⟩=some (.slice (some x) n c)/\w2.cell? ⟨w.heap.size+1,0,none⟩=some (.int .i64 p)/\w2.cell? (x.add (k*2))=some (.int .i64 a)/\w2.cell? ⟨(x.add (k*2)).block,(x.add (k*2)).off+1,none⟩=some (.int .i64 b):=by
    intro w2 hb
    obtain⟨c1,c2⟩:=((HC.o.below (iq w _ _)).below hb) k hkL
    rw[<- HR.o]at c1 c2
    exact⟨aE hb (by simp;omega) (cell_alloc_sl _ (eJ _ _)),aE hb (by simp) (by have:=eJ (w:=w.alloc (.cells #[.slice (some x) n c] 22)) (.int .i64 p) 3;simp),c1,c2⟩
   have FI:=I finish
   clear finish
   by_cases hpa:p<a
   ·rw [if_pos hpa]at E
    rw[E.o]
    go_enter func173,ntmps173
    go_wp2_with fail
    refine S.o.mono ?_
    rintro e w2 ⟨rfl,q,os,hw2⟩
    have hb:=fe ((w.alloc (.cells #[.slice (some x) n c] 22)).alloc (.cells #[.int .i64 p] 3)) q os
    rw[<- hw2]at hb
    obtain⟨d1,d2,d3,d4⟩:=FI.o w2 hb
    clear hw2 S
    go_wp2
    go_quiet (fail)
    go_wp2
    go_quiet (fail)
    go_wp2
    go_ret2
    exact⟨rfl,below_drewN (below_drewN (jO _ _ _ _ hb) _) _⟩
   ·rw [if_neg hpa]at E
    rw[E.o]
    have hd:decide (p<a)=false:=by simpa using hpa
    go_enter func173,ntmps173
    go_wp2_with fail
    refine S.o.mono ?_
    rintro e w2 ⟨rfl,q,os,hw2⟩
    have hb:=fe ((w.alloc (.cells #[.slice (some x) n c] 22)).alloc (.cells #[.int .i64 p] 3)) q os
    rw[<- hw2]at hb
    obtain⟨d1,d2,d3,d4⟩:=FI.o w2 hb
    clear hw2 S
    go_wp2
    go_quiet (fail)
    go_wp2
    go_quiet (fail)
    go_wp2
    go_ret2
    exact⟨rfl,below_drewN (below_drewN (jO _ _ _ _ hb) _) _⟩
end Go.Proofs.YtklbbbldalmnbaaGreatDoor
namespace Go.Proofs.YtklbbbldalmnbaaGreatDoor
open Go.RowKit
def GC(g:Nat)(kf:Bool->Bool->Bool):Prop:=∀a b w,Calls prog g #[.bool a,.bool b] w fun e w'=>e=.returned (.bool (kf a b))/\w=w'
theorem Dr{f:Int->Bool}{O:RL}{p:Int}(h:uq f O p)(h0:0<=p)(h1:p<=1114112):(∀x∈O,0<=x.2/\x.2<=1114111)/\O.length<=1114112:=by
 refine⟨fun x hx=>?_,?_⟩
 ·have :=h.1.1 x hx
  unfold er at this
  omega
 ·have :=nF h.1 p h0 h.2.1
  omega
theorem qG(g:Nat)(kf:Bool->Bool->Bool)(hk:GC g kf)(eg:∀args w,(callFunc g args).run prog w=.ok (.enter g args) w)(va vb:Value)(A B:RL)(w:World)(hA:Reads w va A)(hB:Reads w vb B)(cA:Canon A)(cB:Canon B)(lA:A.length<=2000)(lB:B.length<=2000):
  Calls prog 155 #[va,vb,.func (.func g) #[] #[]] w fun e w'=>∃v' O,e=.returned v'/\w'.ownsRow w.heap.size 76 2 v' O.length (aN O)/\bg (fun q=>kf (ins A q) (ins B q)) O/\Below w.heap.size w w':=by
 have HS:=I (fun p w' (hb:Below w.heap.size w w')=>oE va A p w' (hA.below hb) cA lA)
 have HT:=I (fun p w' (hb:Below w.heap.size w w')=>oE vb B p w' (hB.below hb) cB lB)
 have HK:=I hk
 have CA:=I cA
 have CB:=I cB
 clear hk hA hB cA cB lA lB
 go_enter func155,ntmps155
 go_wp2
 go_loopw [7,8] (fun v i wr=>∃(O:RL) (p:Int),i=.int .i64 p/\0<=p/\p<=1114112/\wr.ownsRow w.heap.size 76 2 v O.length (aN O)/\uq (fun q=>kf (ins A q) (ins B q)) O p/\Below w.heap.size w wr) (fun _ i _=>1114112 - (intOf i).toNat)
 case atStart=>exact⟨[],0,rfl,by omega,by omega,World.ownsRow_nil _ _ _ _,si _,J _ _⟩
 case round=>
  obtain⟨O,p,rfl,p0,p1,ho,hu,hb⟩:=hrel
  have HO:=I ho
  have HU:=I hu
  have HB:=I hb
  obtain⟨ao,c,rfl⟩:=ax ho
  clear ho
  by_cases hp:p<=1114111
  ·obtain ⟨sa1,sa2,sa3⟩:=jD CA.o p0 hp
   obtain⟨sb1,sb2,sb3⟩:=jD CB.o p0 hp
   have ia:=ot CA.o p0 hp
   have ib:=ot CB.o p0 hp
   have HS1:=I (HS.o p wr hb)
   have HT1:=I (fun w' hb'=>HT.o p w' hb')
   obtain⟨xa,la,hx⟩:∃xa la,db A p=(xa,la):=⟨_,_,rfl⟩
   obtain⟨xb,lb,hy⟩:∃xb lb,db B p=(xb,lb):=⟨_,_,rfl⟩
   rw[hx]at HS1 sa1 sa2 sa3 ia
   rw[hy]at HT1 sb1 sb2 sb3 ib
   simp only at HS1 HT1 sa1 sa2 sa3 ia sb1 sb2 sb3 ib
   have l0:p<=min la lb:=by omega
   have l1:min la lb<=1114111:=by omega
   have hconst:Hid (∀q,p<=q->q<=min la lb->kf (ins A q) (ins B q)=kf xa xb):=fun q h1 h2=>by rw[sa3 q h1 (by omega),sb3 q h1 (by omega)]
   have HK1:=I (HK.o xa xb)
   obtain⟨yes,hyes⟩:∃y,y=kf xa xb:=⟨_,rfl⟩
   rw[<- hyes]at HK1 hconst
   have wl:IntKind.i64.wrap (min la lb+1)=min la lb+1:=by rw[IntKind.wrap_i64];omega
   clear sa3 sb3 ia ib hx hy hu hyes hb
   have key:∀w2,Below wr.heap.size wr w2->w2.ownsRow w.heap.size 76 2 (.slice ao O.length c) O.length (aN O):=fun w2 h=>cp HO.o h
   have KEY:=I key
   have hsz:Hid (w.heap.size<=wr.heap.size):=HB.o.size
   obtain⟨hrg,hln⟩:=Dr HU.o p0 p1
   have HAdd:=I (fun w2 (h:Below wr.heap.size wr w2)=>jT w.heap.size (.slice ao O.length c) O p (min la lb) w2 (Nat.le_trans hsz.o h.size) hrg hln (KEY.o w2 h))
   clear key hrg hln
   cases yes with
   |true=>
    have hup:=I (vp HU.o p0 l0 l1 hconst.o)
    go_wp2_with fail
    refine HS1.o.mono ?_
    rintro e w1 ⟨rfl,hb1⟩
    go_wp2_with fail
    refine(HT1.o w1 (HB.o.trans (hb1.mono hsz.o))).mono ?_
    rintro e w2 ⟨rfl,hb2⟩
    have hb3:=I (hb1.trans (hb2.mono hb1.size))
    clear hb1 hb2
    go_wp2_with (go_at_fn g;refine(HK1.o _).mono ?_;rintro e w' ⟨rfl,rfl⟩)
    refine(HAdd.o w2 hb3.o).mono ?_
    rintro e w3 ⟨v',rfl,ho3,hb4⟩
    have HO3:=I ho3
    obtain⟨ao',c',hv'⟩:=ax ho3
    rw[hv']at HO3 |-
    clear ho3 hv'
    go_wp2
    go_roundw
    case rel=>exact⟨_,_,rfl,by omega,by omega,HO3.o,hup.o,HB.o.trans ((hb3.o.mono hsz.o).trans hb4)⟩
    case measure=>simp[intOf];omega
   |false=>
    have hup:=I (zD HU.o l0 hconst.o)
    go_wp2_with fail
    refine HS1.o.mono ?_
    rintro e w1 ⟨rfl,hb1⟩
    go_wp2_with fail
    refine(HT1.o w1 (HB.o.trans (hb1.mono hsz.o))).mono ?_
    rintro e w2 ⟨rfl,hb2⟩
    have hb3:=I (hb1.trans (hb2.mono hb1.size))
    clear hb1 hb2
    go_wp2_with (go_at_fn g;refine(HK1.o _).mono ?_;rintro e w' ⟨rfl,rfl⟩)
    go_roundw
    case rel=>exact⟨_,_,rfl,by omega,by omega,KEY.o _ hb3.o,hup.o,HB.o.trans (hb3.o.mono hsz.o)⟩
    case measure=>simp[intOf];omega
  ·have hE:Hid (bg (fun q=>kf (ins A q) (ins B q)) O):=wO hu (by omega)
   clear hu hb
   go_wp2
   go_ret
   exact⟨_,rfl,O,HO.o,hE.o,HB.o⟩
end Go.Proofs.YtklbbbldalmnbaaGreatDoor
