import Derived.Test.YtklbbbldalmnbaaGreatDoorZo
import Derived.Test.YtklbbbldalmnbaaGreatDoorProg
import Derived.WalkKit
import Derived.WalkLawsBesides
import Derived.Handy
import Derived.PlainAid
import Derived.BigQuiet
import Derived.Deep.QuietTactic
import Derived.OneCell
import Derived.Shelf.Sort.Plain
import Derived.Sort.OwnSortedInts
set_option maxHeartbeats 4000000
set_option linter.unusedVariables false
open Go.Proofs.Tryz
namespace Go.Proofs.YtklbbbldalmnbaaGreatDoor.Fo
structure Pr where
 first:Int
 last:Int
 step:Int
 shift:Int
def lets:List Pr:=[⟨65,90,1,32⟩,⟨192,214,1,32⟩,⟨216,222,1,32⟩,⟨256,302,2,1⟩,⟨913,929,1,32⟩,⟨931,939,1,32⟩,⟨1024,1039,1,80⟩,⟨1040,1071,1,32⟩,⟨962,962,1,1⟩,⟨181,181,1,775⟩,⟨8490,8490,1, -8383⟩,⟨8491,8491,1, -8262⟩,⟨7838,7838,1, -7615⟩]
def hasB(r:Pr)(x:Int):Bool:=decide (r.first<=x)&&decide (x<=r.last)&&((x - r.first) % r.step==0)
def gl(dL:List Int)(q:Int):List Int:=if dL.contains q then dL else dL++[q]
def dW(p:Int)(dL:List Int)(r:Pr):List Int:=
 let a:=if hasB r p then gl dL (p+r.shift)else dL
 if hasB r (p - r.shift)then gl a (p - r.shift)else a
def visit(p:Int)(dL:List Int):List Int:=lets.foldl (dW p) dL
def oq(i:Nat)(l:List Int):List Int:=match l[i]? with
 |some q=>visit q l
 |none=>l
def fc(p:Int):Nat->List Int
 |0=>[p]
 |i+1=>oq i (fc p i)
def ins(x:Int):List Int->List Int
 |[]=>[x]
 |y::ys=>if x<y then x::y::ys else y::ins x ys
def Hn(l:List Int):List Int:=l.foldl (fun acc x=>ins x acc) []
def ja(p:Int):List Int:=Hn (fc p 3)
def jY(p:Int):Bool:=(decide (65<=p)&&decide (p<=122))||(decide (181<=p)&&decide (p<=303))||(decide (913<=p)&&decide (p<=971))||(decide (1024<=p)&&decide (p<=1119))||(p==7838)||(p==8490)||(p==8491)
def vX:List Int:=((List.range 58).map fun (i:Nat)=>(65+(i:Int)))++((List.range 123).map fun (i:Nat)=>(181+(i:Int)))++((List.range 59).map fun (i:Nat)=>(913+(i:Int)))++((List.range 96).map fun (i:Nat)=>(1024+(i:Int)))++[7838,8490,8491]
theorem jh{p:Int}(h:jY p=true):p∈vX:=by
 simp[jY]at h
 simp only[vX,List.mem_append,List.mem_map,List.mem_range]
 rcases h with(((((h|h)|h)|h)|h)|h)|h
 ·exact Or.inl (Or.inl (Or.inl (Or.inl ⟨(p - 65).toNat,by omega,by omega⟩)))
 ·exact Or.inl (Or.inl (Or.inl (Or.inr ⟨(p - 181).toNat,by omega,by omega⟩)))
 ·exact Or.inl (Or.inl (Or.inr ⟨(p - 913).toNat,by omega,by omega⟩))
 ·exact Or.inl (Or.inr ⟨(p - 1024).toNat,by omega,by omega⟩)
 ·subst h;exact Or.inr (by decide)
 ·subst h;exact Or.inr (by decide)
 ·subst h;exact Or.inr (by decide)
theorem zA{p:Int}(h:jY p=false):∀r∈lets,hasB r p=false/\hasB r (p - r.shift)=false:=by
 simp[jY]at h
 intro r hr
 simp only[lets,List.mem_cons,List.not_mem_nil,or_false]at hr
 rcases hr with rfl|rfl|rfl|rfl|rfl|rfl|rfl|rfl|rfl|rfl|rfl|rfl|rfl<;>(constructor<;>(simp[hasB];omega))
theorem yu{p:Int}(h:jY p=false)(dL:List Int):visit p dL=dL:=by
 have H:=zA h
 unfold visit
 have:∀(l:List Pr),(∀r∈l,hasB r p=false/\hasB r (p - r.shift)=false)->∀q,l.foldl (dW p) q=q:=by
  intro l
  induction l with
  |nil=>intros;rfl
  |cons r rs ih=>
   intro hl q
   have h1:=hl r (by simp)
   rw[List.foldl_cons]
   have e:dW p q r=q:=by simp[dW,h1.1,h1.2]
   rw[e]
   exact ih (fun r' hr'=>hl r' (by simp[hr'])) q
 exact this lets H dL
theorem sx{p:Int}(h:jY p=false):∀i,fc p i=[p]:=by
 intro i
 induction i with
 |zero=>rfl
 |succ i ih=>
  show oq i (fc p i)=_
  rw[ih]
  unfold oq
  match i with
  |0=>exact yu h [p]
  |i+1=>rfl
theorem kB{p:Int}(h:jY p=false):ja p=[p]:=by
 unfold ja;rw[sx h];rfl
def DR(p:Int)(i:Nat):Bool:=decide (1<=(fc p i).length)&&decide ((fc p i).length<=3)&&(fc p i).all (fun x=>decide (0<=x)&&decide (x<=8491))
def Jl(p:Int):Bool:=DR p 1&&DR p 2&&DR p 3&&(ja p).contains p&&(ja p).all (fun x=>decide (ja x=ja p))&&(match ja p with|[]=>false|a::_=>decide (a<=p))
theorem Hj:vX.all Jl=true:=by decide +kernel
theorem uA{p:Int}(h:jY p=true):Jl p=true:=List.all_eq_true.1 Hj p (jh h)
theorem CL{p:Int}(h:jY p=true):0<=p/\p<=8491:=by
 simp[jY]at h;omega
theorem tI(p:Int)(h0:0<=p)(h1:p<=1114111)(i:Nat)(hi:i<=3):1<=(fc p i).length/\(fc p i).length<=3/\∀x∈fc p i,0<=x/\x<=1114111:=by
 cases h:jY p with
 |false=>rw[sx h];simp;omega
 |true=>
  have hc:=uA h
  simp only[Jl,Bool.and_eq_true]at hc
  have key:∀j,DR p j=true->1<=(fc p j).length/\(fc p j).length<=3/\∀x∈fc p j,0<=x/\x<=1114111:=by
   intro j hj
   simp only[DR,Bool.and_eq_true,decide_eq_true_eq,List.all_eq_true]at hj
   exact⟨hj.1.1,hj.1.2,fun x hx=>by have:=hj.2 x hx;omega⟩
  have hi':i=0\/i=1\/i=2\/i=3:=by omega
  rcases hi' with rfl|rfl|rfl|rfl
  ·simp[fc];omega
  ·exact key 1 hc.1.1.1.1.1
  ·exact key 2 hc.1.1.1.1.2
  ·exact key 3 hc.1.1.1.2
theorem Bi{i:Nat}{l:List Int}(h:l.length<=i):oq i l=l:=by
 unfold oq;rw[List.getElem?_eq_none h]
theorem EH{p:Int}{k:Nat}(h:(fc p k).length<=k):∀d,fc p (k+d)=fc p k:=by
 intro d
 induction d with
 |zero=>rfl
 |succ d ih=>show oq (k+d) (fc p (k+d))=_;rw[ih];exact Bi (by omega)
theorem D3{p:Int}{k:Nat}(hk:k<=3)(h:(fc p k).length<=k):fc p 3=fc p k:=by
 have:=EH h (3 - k)
 rwa[show k+(3 - k)=3 from by omega]at this
theorem Cb{p:Int}{k:Nat}(h:k<(fc p k).length):fc p (k+1)=visit ((fc p k).getD k 0) (fc p k):=by
 show oq k (fc p k)=_
 unfold oq
 rw[List.getElem?_eq_getElem h]
 simp[List.getD,List.getElem?_eq_getElem h]
theorem G7(x:Int)(l:List Int):(ins x l).length=l.length+1:=by
 induction l with
 |nil=>rfl
 |cons y ys ih=>unfold ins;split<;>simp[ih]
theorem uv(l:List Int):(Hn l).length=l.length:=by
 have:∀(l acc:List Int),(l.foldl (fun acc x=>ins x acc) acc).length=acc.length+l.length:=by
  intro l
  induction l with
  |nil=>intro acc;simp
  |cons y ys ih=>intro acc;rw[List.foldl_cons,ih,G7];simp;omega
 have:=this l []
 simpa[Hn]using this
theorem GU(x z:Int)(l:List Int):z∈ins x l↔z=x\/z∈l:=by
 induction l with
 |nil=>simp[ins]
 |cons y ys ih=>
  unfold ins
  split
  ·simp
  ·simp only[List.mem_cons,ih]
   constructor
   ·rintro(h|h|h)<;>simp[h]
   ·rintro(h|h|h)<;>simp[h]
theorem kF(p:Int):p∈ja p:=by
 cases h:jY p with
 |false=>rw[kB h];simp
 |true=>
  have hc:=uA h
  simp only[Jl,Bool.and_eq_true]at hc
  simpa using hc.1.1.2
theorem qz(p x:Int)(hx:x∈ja p):ja x=ja p:=by
 cases h:jY p with
 |false=>rw[kB h]at hx;simp at hx;rw[hx]
 |true=>
  have hc:=uA h
  simp only[Jl,Bool.and_eq_true]at hc
  have:=List.all_eq_true.1 hc.1.2 x hx
  simpa using this
def least(p:Int):Int:=(ja p).getD 0 0
theorem s9(p:Int):least p∈ja p:=by
 unfold least
 have h:=kF p
 match ja p,h with
 |a::t,_=>simp
theorem nL(p:Int):ja (least p)=ja p:=qz p _ (s9 p)
theorem sI(p q:Int):least p=least q↔q∈ja p:=by
 constructor
 ·intro h
  have h1:=nL p
  have h2:=nL q
  rw[h]at h1
  rw[<- h1,h2]
  exact kF q
 ·intro h
  have:=qz p q h
  unfold least
  rw[this]
end Go.Proofs.YtklbbbldalmnbaaGreatDoor.Fo
namespace Go.Proofs.YtklbbbldalmnbaaGreatDoor.Fo
open Go.RowKit
theorem I{p:Prop}(h:p):Hid p:=h
theorem bD{a b:Bool}(h:a=b):Ending.returned (.bool a)=.returned (.bool b):=by rw[h]
def dm(l:List Int):List Value:=l.map (Value.int .i64)
theorem uV(p:Int)(w:World):Calls prog 29 #[.int .i64 p] w fun e w'=>e=.returned (.bool (decide (0<=p/\p<=1114111)))/\w'=w:=by
 go_enter func29,ntmps29
 go_wp2
 all_goals go_ret
 all_goals exact⟨bD (by rw[Bool.eq_iff_iff];simp<;>omega),rfl⟩
theorem zV(f l st sh x:Int)(hf:0<=f)(hl:l<=10000)(hs:st=1\/st=2)(hx0: -20000<=x)(hx1:x<=2000000)(w:World):
  Calls prog 174 #[.agg #[.int .i64 f,.int .i64 l,.int .i64 st,.int .i64 sh],.int .i64 x] w fun e w'=>e=.returned (.bool (hasB ⟨f,l,st,sh⟩ x))/\Below w.heap.size w w':=by
 by_cases h1:f<=x
 ·by_cases h2:x<=l
  ·rcases hs with rfl|rfl
   all_goals
    go_enter func174,ntmps174
    go_wp2
    go_ret
    exact⟨bD (by rw[Bool.eq_iff_iff];simp[hasB,h1,h2]),by go_grown⟩
  ·go_enter func174,ntmps174
   go_wp2
   go_ret
   exact⟨bD (by simp[hasB];omega),by go_grown⟩
 ·go_enter func174,ntmps174
  go_wp2
  go_ret
  exact⟨bD (by simp[hasB];omega),by go_grown⟩
theorem nN(l:List Int)(a:Addr)(cap:Nat)(x:Int)(hl:l.length<=4000)(w:World)(hc:∀j,j<l.length->w.cell? (a.add j)=some (.int .i64 (l.getD j 0))):
  Calls prog 81 #[.slice (some a) l.length cap,.int .i64 x] w fun e w'=>∃z:Int,e=.returned (.int .i64 z)/\(0<=z↔x∈l)/\w=w':=by
 have HC:=I hc
 clear hc
 go_enter func81,ntmps81
 go_wp2
 go_loop [8] (fun i=>∃k:Nat,k<=l.length/\i=.int .i64 k/\x ∉ l.take k) (fun i=>l.length - (intOf i).toNat)
 case atStart=>exact⟨0,Nat.zero_le _,rfl,by simp⟩
 case round=>
  obtain⟨k,hk,rfl,hn⟩:=hrel
  by_cases hlt:k<l.length
  ·obtain ⟨y,hy⟩:∃y,y=l.getD k 0:=⟨_,rfl⟩
   have hcy:w.cell? (a.add k)=some (.int .i64 y):=by rw[hy];exact HC.o k hlt
   have HY:=I hy
   have HN:=I hn
   clear hy hn
   have hmem:y∈l:=by rw[HY.o];simp[List.getD,hlt]
   by_cases hxy:x=y
   ·subst hxy
    go_wp2
    go_ret
    refine⟨(k:Int),rfl,?_,rfl⟩
    exact Int.natCast_nonneg k
   ·have hb:(x==y)=false:=by simpa using hxy
    have HXY:=I hxy
    clear hxy hmem
    go_wp2
    go_round
    case rel=>exact⟨k+1,by omega,by go_num,by
     rw[List.take_add_one]
     simp only[List.mem_append,not_or]
     refine⟨HN.o,?_⟩
     have:=HY.o
     simp[List.getD,List.getElem?_eq_getElem hlt]at this |-
     rw[<- this];exact HXY.o⟩
    case measure=>simp[intOf];omega
  ·have hkl:k=l.length:=by omega
   subst hkl
   rw[List.take_length]at hn
   go_wp2
   go_ret
   refine⟨-1,rfl,?_,rfl⟩
   decide
theorem jM(l:List Int)(a:Addr)(cap:Nat)(x:Int)(hl:l.length<=4000)(w:World)(hc:∀j,j<l.length->w.cell? (a.add j)=some (.int .i64 (l.getD j 0))):
  Calls prog 72 #[.slice (some a) l.length cap,.int .i64 x] w fun e w'=>e=.returned (.bool (l.contains x))/\w=w':=by
 have H:=I (nN l a cap x hl w hc)
 clear hc
 go_enter func72,ntmps72
 go_wp2_with (go_at_call 81;refine H.o.mono ?_;rintro e w' ⟨z,rfl,hz,rfl⟩)
 go_ret
 exact⟨bD (by rw[Bool.eq_iff_iff];simp),rfl⟩
theorem ax{B e:Nat}{w:World}{v:Value}{n k:Nat}{xs:List Value}(h:w.ownsRow B e k v n xs):∃ao cap,v=.slice ao n cap:=by
 rcases h.2 with⟨rfl,rfl⟩|⟨g,cap,cur,rfl,_⟩
 ·exact⟨_,_,rfl⟩
 ·exact⟨_,_,rfl⟩
theorem eT{B e:Nat}{w:World}{v:Value}{n k:Nat}{xs:List Value}(h:w.ownsRow B e k v n xs)(hn:1<=n):∃g cap,v=.slice (some ⟨g,0,none⟩) n cap:=by
 rcases h.2 with⟨rfl,rfl⟩|⟨g,cap,cur,rfl,_⟩
 ·omega
 ·exact⟨_,_,rfl⟩
theorem cp{B e:Nat}{w w':World}{v:Value}{n k:Nat}{xs:List Value}(h:w.ownsRow B e k v n xs)(hb:Below w.heap.size w w'):w'.ownsRow B e k v n xs:=by
 refine⟨h.1,?_⟩
 rcases h.2 with h2|⟨g,cap,cur,rfl,h3,hg,h4⟩
 ·exact Or.inl h2
 ·exact Or.inr ⟨g,cap,cur,rfl,h3,by rw[hb.block g (Array.getElem?_eq_some_iff.1 hg).1];exact hg,h4⟩
theorem xS(X:World)(g:Nat)(hg:g=X.heap.size)(z:Int):∀j v,[Value.int .i64 z][j]? =some v->(X.alloc (.cells #[.int .i64 z] 3)).cell? ((⟨g,0,none⟩:Addr).add j)=some v:=by
 subst hg
 intro j v hj
 match j,hj with
 |0,hj=>simp at hj;subst hj;exact World.cell?_alloc_at _ _ _ _ rfl
 |(j+1),hj=>simp at hj
theorem J1(z:Int):∀v∈[Value.int .i64 z],v.oneCell'=true:=by
 intro v hv;simp at hv;subst hv;rfl
def gm(b:Nat)(w w':World):Prop:=∀k o,k≠b->w.heap[k]? =some o->(∀cs fr,o≠.cells cs 3 fr)->w'.heap[k]? =some o
theorem gm.trans{b:Nat}{w w1 w2:World}(h:gm b w w1)(k:gm b w1 w2):gm b w w2:=fun i o h1 h2 h3=>k i o h1 (h i o h1 h2 h3) h3
theorem gm.below{b:Nat}{w w1:World}(h:Below w.heap.size w w1):gm b w w1:=fun i o _ h2 _=>by rw[h.block i (Array.getElem?_eq_some_iff.1 h2).1];exact h2
theorem jL{B:Nat}{w:World}{v:Value}{n:Nat}{xs:List Value}(h:w.ownsRow B 3 1 v n xs){k:Nat}{o:Obj}(hk:w.heap[k]? =some o)(ho:∀cs fr,o≠.cells cs 3 fr):some k≠v.ownBlock:=by
 intro e
 rcases h.2 with⟨rfl,_⟩|⟨g,cap,cur,rfl,_,hg,_⟩
 ·simp[Value.ownBlock]at e
 ·simp [Value.ownBlock]at e
  subst e
  rw[hk]at hg
  simp at hg
  exact ho _ _ hg
theorem zu{B:Nat}{w w':World}{v:Value}{n:Nat}{xs:List Value}(hown:w.ownsRow B 3 1 v n xs)(hB:B<=w.heap.size){o:Obj}(hg:(w.alloc o).grownBy w' v.ownBlock):Below B w w':=
 ((J B w).alloc hB o).grown hg (by simp;omega) (fun k hk=>(hown.lt k hk).1)
theorem nI{B:Nat}{w:World}{g cap:Nat}{l:List Int}(h:w.ownsRow B 3 1 (.slice (some ⟨g,0,none⟩) l.length cap) l.length (dm l)):∀j,j<l.length->w.cell? ((⟨g,0,none⟩:Addr).add j)=some (.int .i64 (l.getD j 0)):=by
 intro j hj
 have h2:=h.cellAt j (by omega)
 rw[Addr.add_lit,Nat.zero_add,h2]
 simp[dm,List.getD,hj]
theorem Tryz.CQ:(Tryz.prog.info? 3).map (fun i=>(i.zero,i.size,i.bytes))=some (some (.int .i64 0),1,8):=by kernel_rfl
theorem kZ(l:List Int)(q:Int):l.length<=(gl l q).length/\(gl l q).length<=l.length+1:=by
 unfold gl;split<;>simp
theorem pD(B b:Nat)(hBb:B<=b)(v:Value)(l:List Int)(q:Int)(w:World)(hbox:w.heap[b]? =some (.cells #[v] 36 (0,0)))(hown:w.ownsRow B 3 1 v l.length (dm l))(hn:l.length<=3000)(h1:1<=l.length)(hB:B<=w.heap.size):
  Calls prog 159 #[.int .i64 q,.pointer (some ⟨b,0,none⟩)] w fun e w'=>e=.returned (.tuple #[])/\(∃v',w'.heap[b]? =some (.cells #[v'] 36 (0,0))/\w'.ownsRow B 3 1 v' (gl l q).length (dm (gl l q)))/\Below B w w'/\gm b w w':=by
 obtain⟨i0,hi,hz0,hz1,hz2⟩:=info_parts Tryz.CQ
 have hlt:b<w.heap.size:=lt_of_block hbox
 have hcb:=cell_of_one hbox
 have hfb:=free_of_one hbox
 have HB:=I hbox
 have HO:=I hown
 clear hbox
 obtain⟨g,c,rfl⟩:=eT hown h1
 have HC:=I (jM l ⟨g,0,none⟩ c q (by omega) w (nI hown))
 clear hown
 by_cases hq:l.contains q=true
 ·have E:gl l q=l:=by simp only[gl,hq,if_true]
  rw[E]
  rw[hq]at HC
  clear E hq
  go_enter func159,ntmps159
  go_wp2_with (go_at_call 72;refine HC.o.mono ?_;rintro e w' ⟨rfl,rfl⟩)
  go_end0
  exact⟨rfl,⟨_,HB.o,HO.o⟩,J _ _,fun k o _ h _=>h⟩
 ·have hq':l.contains q=false:=by simpa using hq
  have E:gl l q=l++[q]:=by simp only[gl,hq',Bool.false_eq_true,if_false]
  rw[E,List.length_append,List.length_singleton]
  simp only[dm,List.map_append,List.map_cons,List.map_nil]
  rw[hq']at HC
  clear E hq hq'
  go_enter func159,ntmps159
  go_wp2_with (first|(go_at_call 72;refine HC.o.mono ?_;rintro e w' ⟨rfl,rfl⟩)|(at_builtin;refine wpList_append_own _ rfl _ _ 36 rfl B 3 i0 (.int .i64 0) 1 8 underlying36 hi hz0 hz1 hz2 rfl (by decide) _ _ _ rfl (HO.o.alloc _) ⟨w.heap.size,0,none⟩ 1 1 [.int .i64 q] rfl rfl (xS _ _ (by simp) q) (J1 q) (by unfold maxLen;omega) (by omega) (by simp;omega) ?_))
  intro v' w2 hown' hgrow _
  have hob:=jL HO.o HB.o (by simp)
  have hb2:w2.heap[b]? =some (.cells #[.slice (some ⟨g,0,none⟩) l.length c] 36 (0,0)):=by
   rw[hgrow.block b (by simp;omega) hob,Below.heap_alloc _ _ _ hlt];exact HB.o
  have hc2:=cell_of_one hb2
  have hf2:=free_of_one hb2
  obtain⟨ao',c',hv'⟩:=ax hown'
  have HG:=I hgrow
  have HO2:=I hown'
  have HB2:=I hb2
  clear hgrow hown' hb2 hcb hfb
  rw[hv']at HO2
  rw[hv']
  clear hv'
  go_wp2
  go_end0
  have hb3:=one_setCell (u:=.slice ao' (l.length+1) c') HB2.o
  have hne:(Value.slice ao' (l.length+1) c').ownBlock≠some b:=fun e=>jL HO2.o HB2.o (by simp) e.symm
  refine⟨rfl,⟨_,hb3,ownsRow_setCell_other HO2.o hne _⟩,(zu HO.o hB HG.o).setCell hBb _,?_⟩
  intro k o hkb hk ho
  rw[Below.heap_setCell _ _ _ _ hkb,HG.o.block k (by have:=lt_of_block hk;simp;omega) (jL HO.o hk ho),Below.heap_alloc _ _ _ (lt_of_block hk)]
  exact hk
def iP(w:World):Prop:=∀i (h:i<13),w.cell? ⟨3,i*4,none⟩=some (.int .i64 (lets[i]'h).first)/\w.cell? ⟨3,i*4+1,none⟩=some (.int .i64 (lets[i]'h).last)/\w.cell? ⟨3,i*4+2,none⟩=some (.int .i64 (lets[i]'h).step)/\w.cell? ⟨3,i*4+3,none⟩=some (.int .i64 (lets[i]'h).shift)
theorem iP.below{w w':World}{B:Nat}(h:iP w)(hb:Below B w w')(hB:3<B):iP w':=fun i hi=>by
 obtain⟨h0,h1,h2,h3⟩:=h i hi
 exact⟨by rw[hb.cell (by exact hB)];exact h0,by rw[hb.cell (by exact hB)];exact h1,by rw[hb.cell (by exact hB)];exact h2,by rw[hb.cell (by exact hB)];exact h3⟩
end Go.Proofs.YtklbbbldalmnbaaGreatDoor.Fo
namespace Go.Proofs
open Go.Shelf
def Tryz.vB:Go.Shelf.Ren:=⟨fun|189=>160|125=>176|257=>175|128=>193|129=>100|294=>184|295=>185|296=>186|297=>187|298=>188|299=>189|216=>190|300=>191|301=>192|328=>206|329=>207|330=>208|331=>209|332=>210|215=>211|343=>224|n=>n,fun|28=>36|3=>3|46=>138|0=>0|51=>136|53=>125|4=>4|183=>199|182=>198|131=>52|5=>5|9=>9|218=>210|222=>214|228=>219|229=>158|n=>n,fun|n=>n⟩
theorem Tryz.GF:Go.Proofs.Lays.n189 prog Tryz.vB:={
 mixed:=by kernel_rfl
 f125:=func176.trans (congrArg some (by kernel_rfl))
 f128:=func193.trans (congrArg some (by kernel_rfl))
 f129:=func100.trans (congrArg some (by kernel_rfl))
 f189:=func160.trans (congrArg some (by kernel_rfl))
 f215:=func211.trans (congrArg some (by kernel_rfl))
 f216:=func190.trans (congrArg some (by kernel_rfl))
 f257:=func175.trans (congrArg some (by kernel_rfl))
 f294:=func184.trans (congrArg some (by kernel_rfl))
 f295:=func185.trans (congrArg some (by kernel_rfl))
 f296:=func186.trans (congrArg some (by kernel_rfl))
 f297:=func187.trans (congrArg some (by kernel_rfl))
 f298:=func188.trans (congrArg some (by kernel_rfl))
 f299:=func189.trans (congrArg some (by kernel_rfl))
 f300:=func191.trans (congrArg some (by kernel_rfl))
 f301:=func192.trans (congrArg some (by kernel_rfl))
 f328:=func206.trans (congrArg some (by kernel_rfl))
 f329:=func207.trans (congrArg some (by kernel_rfl))
 f330:=func208.trans (congrArg some (by kernel_rfl))
 f331:=func209.trans (congrArg some (by kernel_rfl))
 f332:=func210.trans (congrArg some (by kernel_rfl))
 f343:=func224.trans (congrArg some (by kernel_rfl))
 t0:=underlying0
 a0:=isAgg0
 z0:=sizeOf0
 v0:=zeroValue0
 t3:=underlying3
 a3:=isAgg3
 z3:=sizeOf3
 v3:=zeroValue3
 t4:=underlying4
 a4:=isAgg4
 z4:=sizeOf4
 v4:=zeroValue4
 t5:=underlying5
 a5:=isAgg5
 z5:=sizeOf5
 v5:=zeroValue5
 t9:=underlying9
 a9:=isAgg9
 z9:=sizeOf9
 v9:=zeroValue9
 t28:=underlying36
 a28:=isAgg36
 z28:=sizeOf36
 v28:=zeroValue36
 t46:=underlying138
 a46:=isAgg138
 z46:=sizeOf138
 v46:=zeroValue138
 t51:=underlying136
 a51:=isAgg136
 z51:=sizeOf136
 v51:=zeroValue136
 t53:=underlying125
 a53:=isAgg125
 z53:=sizeOf125
 v53:=zeroValue125
 t131:=underlying52
 a131:=isAgg52
 z131:=sizeOf52
 v131:=zeroValue52
 t182:=underlying198
 a182:=isAgg198
 z182:=sizeOf198
 v182:=zeroValue198
 t183:=underlying199
 a183:=isAgg199
 z183:=sizeOf199
 v183:=zeroValue199
 t218:=underlying210
 a218:=isAgg210
 z218:=sizeOf210
 v218:=zeroValue210
 t222:=underlying214
 a222:=isAgg214
 z222:=sizeOf214
 v222:=zeroValue214
 t228:=underlying219
 a228:=isAgg219
 z228:=sizeOf219
 v228:=zeroValue219
 t229:=underlying158
 a229:=isAgg158
 z229:=sizeOf158
 v229:=zeroValue158 }
open Go.Sort Go.RowKit in
theorem Tryz.slices_Sort_int(lh off cap:Nat)(zs:List Int)(w:World)(hH:Holds (Value.int .i64) w lh off zs.toArray)(hblk:lh<w.heap.size)(hsz:zs.length<4611686018427387904):
  Calls prog 160 #[.slice (some ⟨lh,off,none⟩) zs.length cap] w fun e w'=>
   e=.returned (.tuple #[])/\∃n os,w'=grow (putRow (Value.int .i64) (Sort.ahead w n) lh off (zs.mergeSort fun x y=>decide (x<=y)).toArray) os:=Any.slices_Sort_int Tryz.GF lh off cap zs w hH hblk hsz
end Go.Proofs
namespace Go.Proofs.YtklbbbldalmnbaaGreatDoor.Fo
open Go.RowKit
theorem Gt:∀r∈lets,0<=r.first/\r.last<=10000/\(r.step=1\/r.step=2)/\ -8383<=r.shift/\r.shift<=775:=by
 intro r hr
 simp only[lets,List.mem_cons,List.not_mem_nil,or_false]at hr
 rcases hr with rfl|rfl|rfl|rfl|rfl|rfl|rfl|rfl|rfl|rfl|rfl|rfl|rfl<;>decide
theorem Bp(p:Int)(l:List Int)(r:Pr):dW p l r=(let a:=if hasB ⟨r.first,r.last,r.step,r.shift⟩ p then gl l (p+r.shift)else l;if hasB ⟨r.first,r.last,r.step,r.shift⟩ (p - r.shift)then gl a (p - r.shift)else a):=rfl
theorem xO(p:Int)(l:List Int)(r:Pr):l.length<=(dW p l r).length/\(dW p l r).length<=l.length+2:=by
 unfold dW
 have h1:=kZ l (p+r.shift)
 split
 ·split
  ·have h2:=kZ (gl l (p+r.shift)) (p - r.shift);simp only;omega
  ·simp only;omega
 ·split
  ·have h2:=kZ l (p - r.shift);simp only;omega
  ·simp only;omega
theorem Cd(p:Int)(l:List Int)(k:Nat)(hk:k<=13):l.length<=((lets.take k).foldl (dW p) l).length/\((lets.take k).foldl (dW p) l).length<=l.length+2*k:=by
 induction k with
 |zero=>simp
 |succ k ih=>
  have ih:=ih (by omega)
  rw[List.take_add_one,List.getElem?_eq_getElem (show k<lets.length from hk),List.foldl_append]
  simp only[Option.toList_some,List.foldl_cons,List.foldl_nil]
  have:=xO p ((lets.take k).foldl (dW p) l) (lets[k]'hk)
  omega
theorem fold_succ(p:Int)(l:List Int)(k:Nat)(hk:k<13):(lets.take (k+1)).foldl (dW p) l=dW p ((lets.take k).foldl (dW p) l) (lets[k]'hk):=by
 rw[List.take_add_one,List.getElem?_eq_getElem (show k<lets.length from hk),List.foldl_append]
 rfl
theorem C8(B b:Nat)(hB0:3<B)(hBb:B<=b)(p:Int)(hp0:0<=p)(hp1:p<=1114111)(v:Value)(l:List Int)(w:World)(hT:iP w)(hbox:w.heap[b]? =some (.cells #[v] 36 (0,0)))(hown:w.ownsRow B 3 1 v l.length (dm l))(hn:l.length<=1000)(h1:1<=l.length)(hB:B<=w.heap.size):
  Calls prog 158 #[.int .i64 p,.func (.func 159) #[] #[.pointer (some ⟨b,0,none⟩)]] w fun e w'=>e=.returned (.tuple #[])/\(∃v',w'.heap[b]? =some (.cells #[v'] 36 (0,0))/\w'.ownsRow B 3 1 v' (visit p l).length (dm (visit p l)))/\Below B w w'/\gm b w w':=by
 have HT:=I hT
 have HB:=I hbox
 have HO:=I hown
 clear hT hbox hown
 go_enter func158,ntmps158
 go_wp2
 go_loopw [6] (fun i wr=>∃(k:Nat) (v:Value),k<=13/\i=.int .i64 k/\wr.heap[b]? =some (.cells #[v] 36 (0,0))/\wr.ownsRow B 3 1 v ((lets.take k).foldl (dW p) l).length (dm ((lets.take k).foldl (dW p) l))/\Below B w wr/\gm b w wr) (fun i _=>13 - (intOf i).toNat)
 case atStart=>exact⟨0,v,by decide,rfl,HB.o,HO.o,J _ _,fun k o _ h _=>h⟩
 case round=>
  obtain⟨k,u,hk,rfl,hb,ho,hbl,hkp⟩:=hrel
  by_cases hlt:k<13
  ·obtain ⟨c0,c1,c2,c3⟩:=HT.o.below hbl hB0 k hlt
   obtain⟨r,hr⟩:∃r,r=lets[k]'hlt:=⟨_,rfl⟩
   rw[<- hr]at c0 c1 c2 c3
   have HR:=I hr
   have HB':=I hb
   have HO':=I ho
   clear hr hb ho
   have hok:=Gt r (by rw[HR.o];exact List.getElem_mem _)
   obtain⟨o1,o2,o3,o4,o5⟩:=hok
   obtain⟨l1,hl1⟩:∃l1,l1=(lets.take k).foldl (dW p) l:=⟨_,rfl⟩
   rw[<- hl1]at HO'
   have HL1:=I hl1
   have hlen:=Cd p l k (by omega)
   rw[<- hl1]at hlen
   obtain⟨hlen1,hlen2⟩:=hlen
   clear hl1
   have hwb:b<wr.heap.size:=lt_of_block HB'.o
   have hBw:B<=wr.heap.size:=Nat.le_trans hB hbl.size
   have C1:=I (zV r.first r.last r.step r.shift p o1 o2 o3 (by omega) (by omega))
   have C2:=I (zV r.first r.last r.step r.shift (p - r.shift) o1 o2 o3 (by omega) (by omega))
   have hv1:=I (Bp p l1 r)
   clear o1 o2 o3
   go_wp2_with fail
   refine(C1.o _).mono ?_
   rintro e w1 ⟨rfl,hb1⟩
   have hz1:wr.heap.size<w1.heap.size:=by have:=hb1.size;simp at this;omega
   have BXw1:w1.heap[wr.heap.size]? =some (.cells #[.int .i64 r.first,.int .i64 r.last,.int .i64 r.step,.int .i64 r.shift] 190 (0,0)):=by rw[hb1.block _ (by simp)];exact heap_alloc_new wr _
   have k0w1:w1.cell? ⟨wr.heap.size,0,none⟩=some (.int .i64 r.first):=by simp[World.cell?,BXw1]
   have k1w1:w1.cell? ⟨wr.heap.size,1,none⟩=some (.int .i64 r.last):=by simp[World.cell?,BXw1]
   have k2w1:w1.cell? ⟨wr.heap.size,2,none⟩=some (.int .i64 r.step):=by simp[World.cell?,BXw1]
   have k3w1:w1.cell? ⟨wr.heap.size,3,none⟩=some (.int .i64 r.shift):=by simp[World.cell?,BXw1]
   have HXw1:=I BXw1
   clear BXw1
   have HB1:Hid (w1.heap[b]? =some (.cells #[u] 36 (0,0))):=by show w1.heap[b]? =_;rw[hb1.block b (by simp;omega),Below.heap_alloc _ _ _ hwb];exact HB'.o
   have HO1:Hid (w1.ownsRow B 3 1 u l1.length (dm l1)):=cp (HO'.o.alloc _) hb1
   have hbl1:Below B w w1:=hbl.trans (((J B wr).alloc hBw _).trans (hb1.mono (by simp;omega)))
   have hkp1:gm b w w1:=hkp.trans (gm.trans (gm.below ((J _ wr).alloc (U _) _)) (gm.below hb1))
   clear hbl hkp hb1 HB' HO' C1
   by_cases q1:hasB ⟨r.first,r.last,r.step,r.shift⟩ p=true
   ·rw [q1]at hv1 |-
    have hst:=kZ l1 (p+r.shift)
    go_wp2_with fail
    refine(pD B b hBb u l1 (p+r.shift) w1 HB1.o HO1.o (by omega) (by omega) (by omega)).mono ?_
    rintro e w2 ⟨rfl,⟨u2,hu2,ho2⟩,hb2,hk2⟩
    obtain⟨l2,hl2⟩:∃l2,l2=gl l1 (p+r.shift):=⟨_,rfl⟩
    rw[<- hl2]at hst ho2
    have HL2:=I hl2
    have hv1':Hid (dW p l1 r=if hasB ⟨r.first,r.last,r.step,r.shift⟩ (p - r.shift)then gl l2 (p - r.shift)else l2):=by rw[hl2];exact hv1
    clear hl2 hv1
    have hv1:=hv1'
    clear hv1'
    have HB2:=I hu2
    have HO2:=I ho2
    have hz2:wr.heap.size<w2.heap.size:=by have:=hb2.size;omega
    have BXw2:w2.heap[wr.heap.size]? =some (.cells #[.int .i64 r.first,.int .i64 r.last,.int .i64 r.step,.int .i64 r.shift] 190 (0,0)):=hk2 _ _ (by omega) HXw1.o (by simp)
    have k0w2:w2.cell? ⟨wr.heap.size,0,none⟩=some (.int .i64 r.first):=by simp[World.cell?,BXw2]
    have k1w2:w2.cell? ⟨wr.heap.size,1,none⟩=some (.int .i64 r.last):=by simp[World.cell?,BXw2]
    have k2w2:w2.cell? ⟨wr.heap.size,2,none⟩=some (.int .i64 r.step):=by simp[World.cell?,BXw2]
    have k3w2:w2.cell? ⟨wr.heap.size,3,none⟩=some (.int .i64 r.shift):=by simp[World.cell?,BXw2]
    have HXw2:=I BXw2
    clear BXw2
    have hbl2:=hbl1.trans hb2
    have hkp2:=hkp1.trans hk2
    clear hu2 ho2 hb2 hk2 hbl1 hkp1 k0w1 k1w1 k2w1 k3w1
    go_wp2_with fail
    refine(C2.o _).mono ?_
    rintro e w3 ⟨rfl,hb3⟩
    have hz3:wr.heap.size<w3.heap.size:=by have:=hb3.size;omega
    have BXw3:w3.heap[wr.heap.size]? =some (.cells #[.int .i64 r.first,.int .i64 r.last,.int .i64 r.step,.int .i64 r.shift] 190 (0,0)):=by rw[hb3.block _ (by omega)];exact HXw2.o
    have k0w3:w3.cell? ⟨wr.heap.size,0,none⟩=some (.int .i64 r.first):=by simp[World.cell?,BXw3]
    have k1w3:w3.cell? ⟨wr.heap.size,1,none⟩=some (.int .i64 r.last):=by simp[World.cell?,BXw3]
    have k2w3:w3.cell? ⟨wr.heap.size,2,none⟩=some (.int .i64 r.step):=by simp[World.cell?,BXw3]
    have k3w3:w3.cell? ⟨wr.heap.size,3,none⟩=some (.int .i64 r.shift):=by simp[World.cell?,BXw3]
    have HXw3:=I BXw3
    clear BXw3
    have HB3:Hid (w3.heap[b]? =some (.cells #[u2] 36 (0,0))):=by show w3.heap[b]? =_;rw[hb3.block b (lt_of_block HB2.o)];exact HB2.o
    have HO3:Hid (w3.ownsRow B 3 1 u2 l2.length (dm l2)):=cp HO2.o hb3
    have hbl3:Below B w w3:=hbl2.trans (hb3.mono (by omega))
    have hkp3:gm b w w3:=hkp2.trans (gm.below hb3)
    clear hb3
    by_cases q2:hasB ⟨r.first,r.last,r.step,r.shift⟩ (p - r.shift)=true
    ·rw [q2]at hv1 |-
     simp only[if_true]at hv1
     go_wp2_with fail
     refine(pD B b hBb u2 l2 (p - r.shift) w3 HB3.o HO3.o (by omega) (by omega) (by omega)).mono ?_
     rintro e w4 ⟨rfl,⟨u4,hu4,ho4⟩,hb4,hk4⟩
     have HB4:=I hu4
     have HO4:=I ho4
     clear hu4 ho4
     go_wp2
     go_roundw
     case rel=>exact⟨k+1,u4,by omega,by go_num,HB4.o,by rw[fold_succ p l k hlt, <-HR.o, <-HL1.o,hv1.o];exact HO4.o,hbl3.trans hb4,hkp3.trans hk4⟩
     case measure=>simp[intOf];omega
    ·have q2':hasB ⟨r.first,r.last,r.step,r.shift⟩ (p - r.shift)=false:=by simpa using q2
     rw[q2']at hv1 |-
     clear q2
     simp only[if_false,Bool.false_eq_true]at hv1
     go_wp2
     go_roundw
     case rel=>exact⟨k+1,u2,by omega,by go_num,HB3.o,by rw[fold_succ p l k hlt, <-HR.o, <-HL1.o,hv1.o];exact HO3.o,hbl3,hkp3⟩
     case measure=>simp[intOf];omega
   ·have q1':hasB ⟨r.first,r.last,r.step,r.shift⟩ p=false:=by simpa using q1
    rw[q1']at hv1 |-
    clear q1
    have hv1':Hid (dW p l1 r=if hasB ⟨r.first,r.last,r.step,r.shift⟩ (p - r.shift)then gl l1 (p - r.shift)else l1):=hv1
    clear hv1
    have hv1:=hv1'
    clear hv1'
    go_wp2_with fail
    refine(C2.o _).mono ?_
    rintro e w3 ⟨rfl,hb3⟩
    have hz3:wr.heap.size<w3.heap.size:=by have:=hb3.size;omega
    have BXw3:w3.heap[wr.heap.size]? =some (.cells #[.int .i64 r.first,.int .i64 r.last,.int .i64 r.step,.int .i64 r.shift] 190 (0,0)):=by rw[hb3.block _ (by omega)];exact HXw1.o
    have k0w3:w3.cell? ⟨wr.heap.size,0,none⟩=some (.int .i64 r.first):=by simp[World.cell?,BXw3]
    have k1w3:w3.cell? ⟨wr.heap.size,1,none⟩=some (.int .i64 r.last):=by simp[World.cell?,BXw3]
    have k2w3:w3.cell? ⟨wr.heap.size,2,none⟩=some (.int .i64 r.step):=by simp[World.cell?,BXw3]
    have k3w3:w3.cell? ⟨wr.heap.size,3,none⟩=some (.int .i64 r.shift):=by simp[World.cell?,BXw3]
    have HXw3:=I BXw3
    clear BXw3
    have HB3:Hid (w3.heap[b]? =some (.cells #[u] 36 (0,0))):=by show w3.heap[b]? =_;rw[hb3.block b (lt_of_block HB1.o)];exact HB1.o
    have HO3:Hid (w3.ownsRow B 3 1 u l1.length (dm l1)):=cp HO1.o hb3
    have hbl3:Below B w w3:=hbl1.trans (hb3.mono (by omega))
    have hkp3:gm b w w3:=hkp1.trans (gm.below hb3)
    clear hb3
    by_cases q2:hasB ⟨r.first,r.last,r.step,r.shift⟩ (p - r.shift)=true
    ·rw [q2]at hv1 |-
     simp only[if_true]at hv1
     go_wp2_with fail
     refine(pD B b hBb u l1 (p - r.shift) w3 HB3.o HO3.o (by omega) (by omega) (by omega)).mono ?_
     rintro e w4 ⟨rfl,⟨u4,hu4,ho4⟩,hb4,hk4⟩
     have HB4:=I hu4
     have HO4:=I ho4
     clear hu4 ho4
     go_wp2
     go_roundw
     case rel=>exact⟨k+1,u4,by omega,by go_num,HB4.o,by rw[fold_succ p l k hlt, <-HR.o, <-HL1.o,hv1.o];exact HO4.o,hbl3.trans hb4,hkp3.trans hk4⟩
     case measure=>simp[intOf];omega
    ·have q2':hasB ⟨r.first,r.last,r.step,r.shift⟩ (p - r.shift)=false:=by simpa using q2
     rw[q2']at hv1 |-
     clear q2
     simp only[if_false,Bool.false_eq_true]at hv1
     go_wp2
     go_roundw
     case rel=>exact⟨k+1,u,by omega,by go_num,HB3.o,by rw[fold_succ p l k hlt, <-HR.o, <-HL1.o,hv1.o];exact HO3.o,hbl3,hkp3⟩
     case measure=>simp[intOf];omega
  ·have hkl:k=13:=by omega
   subst hkl
   go_wp2
   go_end0
   exact⟨rfl,⟨u,hb,ho⟩,hbl,hkp⟩
theorem pA(x:Int)(l:List Int):(ins x l).Perm (x::l):=by
 induction l with
 |nil=>exact List.Perm.refl _
 |cons y ys ih=>
  unfold ins
  split
  ·exact List.Perm.refl _
  ·exact(ih.cons y).trans (List.Perm.swap x y ys)
theorem zy(x:Int)(l:List Int)(h:l.Pairwise (· <= ·)):(ins x l).Pairwise (· <= ·):=by
 induction l with
 |nil=>simp[ins]
 |cons y ys ih=>
  unfold ins
  rw[List.pairwise_cons]at h
  split
  ·rename_i hxy
   rw[List.pairwise_cons]
   refine⟨fun z hz=>?_,List.pairwise_cons.2 h⟩
   rcases List.mem_cons.1 hz with rfl|hz
   ·omega
   ·have:=h.1 z hz;omega
  ·rename_i hxy
   rw[List.pairwise_cons]
   refine⟨fun z hz=>?_,ih h.2⟩
   rcases(GU x z ys).1 hz with rfl|hz
   ·omega
   ·exact h.1 z hz
theorem vQ:∀(l acc:List Int),acc.Pairwise (· <= ·)->(l.foldl (fun acc x=>ins x acc) acc).Pairwise (· <= ·)/\(l.foldl (fun acc x=>ins x acc) acc).Perm (l++acc):=by
 intro l
 induction l with
 |nil=>intro acc h;exact⟨h,List.Perm.refl _⟩
 |cons y ys ih=>
  intro acc h
  rw[List.foldl_cons]
  obtain⟨h1,h2⟩:=ih (ins y acc) (zy y acc h)
  refine⟨h1,h2.trans ?_⟩
  refine((pA y acc).append_left ys).trans ?_
  exact List.perm_middle
theorem Iz(l:List Int):l.mergeSort (fun x y=>decide (x<=y))=Hn l:=by
 obtain⟨h1,h2⟩:=vQ l [] List.Pairwise.nil
 have h3:=List.pairwise_mergeSort (le:=fun (x y:Int)=>decide (x<=y)) (by intro a b c;simp;omega) (by intro a b;simp;omega) l
 have h4:=List.mergeSort_perm l (fun (x y:Int)=>decide (x<=y))
 rw[List.append_nil]at h2
 exact List.Perm.eq_of_pairwise (le:=fun (x y:Int)=>x<=y) (by intro a b _ _;omega) (h3.imp (by intro a b h;simpa using h)) h1 (h4.trans h2.symm)
theorem Du(B g cap:Nat)(l:List Int)(w:World)(hl:l.length<=3000)(hown:w.ownsRow B 3 1 (.slice (some ⟨g,0,none⟩) l.length cap) l.length (dm l)):
  Calls prog 160 #[.slice (some ⟨g,0,none⟩) l.length cap] w fun e w'=>e=.returned (.tuple #[])/\w'.ownsRow B 3 1 (.slice (some ⟨g,0,none⟩) l.length cap) l.length (dm (Hn l))/\w.grownBy w' (some g):=by
 rcases hown.2 with⟨h0,_⟩|⟨g',cap',cur,hv,hg,hh,hn,hm,hs,ht⟩
 ·cases h0
 cases hv
 have hH:=holds_of_blockI (ss:=l) hh (by rw[Nat.mul_one]at ht;exact ht)
 have hc:=Tryz.slices_Sort_int g 0 cap l w hH (lt_of_block hh) (by omega)
 refine hc.mono ?_
 rintro e w' ⟨rfl,n,os,rfl⟩
 rw[Iz]
 refine⟨rfl,?_,grownBy_sortedI _⟩
 exact ownsRow_sortedI (uv l) hg hh hn hm hs
theorem Gz(w:World)(p:Int):(w.alloc (.cells #[.int .i64 p] 3)).ownsRow w.heap.size 3 1 (.slice (some ⟨w.heap.size,0,none⟩) 1 1) 1 (dm [p]):=
 World.ownsRow_lit (base:=w.heap.size) (e:=3) (size:=1) w #[.int .i64 p] 1 (U _) (by decide) rfl
theorem Cj(p:Int)(w:World)(h0:0<=p)(h1:p<=1114111)(hT:iP w)(hpos:3<w.heap.size):
  Calls prog 149 #[.int .i64 p] w fun e w'=>∃g cap,e=.returned (.tuple #[.slice (some ⟨g,0,none⟩) (ja p).length cap,.int .i64 0])/\w'.ownsRow w.heap.size 3 1 (.slice (some ⟨g,0,none⟩) (ja p).length cap) (ja p).length (dm (ja p))/\Below w.heap.size w w':=by
 have H:=uV p
 rw[show decide (0<=p/\p<=1114111)=true from by simp;omega]at H
 have HH:=I H
 have HT:=I hT
 have hok:=I (fun i hi=>tI p h0 h1 i hi)
 have hmf:∀(fn:Fn) (first cap:Array Value) (w:World),(Instr.makeFunc fn first cap).run prog w=.ok (.func fn first cap) w:=fun _ _ _ _=>rfl
 clear H hT
 go_enter func149,ntmps149
 go_wp2_with (go_at_call 29;refine(HH.o _).mono ?_;rintro e w' ⟨rfl,hw⟩;have hw2:=hw.symm;clear hw;subst hw2)
 go_loopw [5] (fun i wr=>∃(k:Nat) (v:Value),k<=3/\i=.int .i64 k/\wr.heap[w.heap.size+1]? =some (.cells #[v] 36 (0,0))/\wr.ownsRow w.heap.size 3 1 v (fc p k).length (dm (fc p k))/\Below w.heap.size w wr) (fun i _=>3 - (intOf i).toNat)
 case atStart=>exact⟨0,_,by decide,rfl,by rw[<- World.size_alloc w (.cells #[.int .i64 p] 3)];exact heap_alloc_new _ _,(Gz w p).alloc _,((J _ w).alloc (U _) _).alloc (by simp) _⟩
 case round=>
  obtain⟨k,v,hk,rfl,hb,ho,hbl⟩:=hrel
  obtain⟨n1,n2,hrg⟩:=hok.o k hk
  obtain⟨l,hl⟩:∃l,l=fc p k:=⟨_,rfl⟩
  rw[<- hl]at ho n1 n2 hrg
  have HL:=I hl
  have HRG:=I hrg
  clear hl hrg
  obtain⟨g,c,rfl⟩:=eT ho n1
  have hcb:=cell_of_one hb
  have HB:=I hb
  have HO:=I ho
  have hBw:=hbl.size
  clear hb ho
  by_cases hlt:k<l.length
  ·obtain ⟨q,hq⟩:∃q,q=l.getD k 0:=⟨_,rfl⟩
   have hcq:wr.cell? ⟨g,k,none⟩=some (.int .i64 q):=by
    have:=nI HO.o k hlt
    rw[Addr.add_lit,Nat.zero_add]at this
    rw[hq];exact this
   have hqr:=HRG.o q (by rw[hq];simp[List.getD,hlt])
   obtain⟨q0,q1⟩:=hqr
   have HQ:=I hq
   clear hq
   have HE:=I (C8 w.heap.size (w.heap.size+1) hpos (by omega) q q0 q1 _ l wr (HT.o.below hbl hpos) HB.o HO.o (by omega) n1 hBw)
   go_wp2_with fail
   refine HE.o.mono ?_
   rintro e w2 ⟨rfl,⟨v2,hv2,ho2⟩,hb2,_⟩
   have HB2:=I hv2
   have HO2:=I ho2
   clear hv2 ho2 HE
   go_wp2
   go_roundw
   case rel=>exact⟨k+1,v2,by omega,by go_num,HB2.o,by rw[Cb (by rw[<- HL.o];exact hlt), <-HL.o, <-HQ.o];exact HO2.o,hbl.trans hb2⟩
   case measure=>simp[intOf];omega
  ·have hfin:=D3 hk (by rw[<- HL.o];omega)
   have HF:Hid (ja p=Hn l):=by show Hn (fc p 3)=_;rw[hfin, <-HL.o]
   have hlen:Hid ((ja p).length=l.length):=by show _=_;rw[HF.o,uv]
   clear hfin
   have HS:=I (Du w.heap.size g c l wr (by omega) HO.o)
   go_wp2_with fail
   refine HS.o.mono ?_
   rintro e w2 ⟨rfl,ho2,hg2⟩
   have hb2:w2.heap[w.heap.size+1]? =some (.cells #[.slice (some ⟨g,0,none⟩) l.length c] 36 (0,0)):=by
    rw[hg2.block _ (lt_of_block HB.o) (jL HO.o HB.o (by simp))];exact HB.o
   have hcb2:=cell_of_one hb2
   have HO2:=I ho2
   have hbl2:Below w.heap.size w w2:=hbl.grown hg2 hBw (fun j hj=>(HO.o.lt j hj).1)
   clear ho2 hg2 hb2 HS hcb
   go_wp2
   go_ret2
   exact⟨g,c,by rw[hlen.o];rfl,by rw[hlen.o,HF.o];exact HO2.o,hbl2⟩
end Go.Proofs.YtklbbbldalmnbaaGreatDoor.Fo
